import PyProof.Rows.All
import Wide.All
import OpenK.AllK
import Wide.FinOn
import Lean
import PyProof.EqAt
import PyProof.EqKinds
import PyProof.TupleCall
import PyProof.NeKinds
import PyProof.ZipIter
import PyProof.ListRange
import PyProof.TupleOfSeq
import PyProof.ConsumeWalk
import PyProof.IsRules
import PyProof.SetKind
import PyProof.SetRoads
import PyProof.Rows.SetFrom
import PyProof.Draws
import PyProof.EnumMake
import PyProof.DictCompW
import PyProof.ListMulRoad
import PyProof.Rows.SeqMore2
import PyProof.WalkInts
import PyProof.DictRoadsH
import PyProof.DictItems
import KE.KDictList
import PySem.Challenge.RW_bringhome_k25_pairs_apart_shown
namespace PySem.W.Fast
def tw6070009267528502246:=0
def tw2457170389056876473:=0
def tw12444611958415136952:=0
def tw12359228045933951083:=0
def tw169389742775210694:=0
def tw17559664620110479380:=0
def tw11904800652627474907:=0
def tw18209511220334667815:=0
def tw3908955018500091440:=0
def tw5645554986550249906:=0
def tw6061117567024109235:=0
def tw14952338415888448619:=0
def tw18229855842842600455:=0
def tw9674618742532033209:=0
def tw5608208150593971213:=0
def tw6087465066456067534:=0
def tw13247945233234067846:=0
def tw7404063626581981682:=0
def tw11532157200228260403:=0
def tw13598577684171282774:=0
def tw14825902479997414568:=0
def tw7319630029313301813:=0
def tw343738497005972948:=0
def tw1490736512220224511:=0
def tw16957927748111217370:=0
def tw6225394908380685666:=0
def tw5704172070576123075:=0
def tw2608031744467987687:=0
def tw10567392549011767186:=0
def tw344270364738803118:=0
def tw123310181309363194:=0
def tw15575896280905324598:=0
def tw7780982310317979171:=0
def tw13394624615370511259:=0
def tw5554799595152513950:=0
def tw4822627252353356356:=0
def tw16904079455266757763:=0
def tw10314051786613227816:=0
def tw8829931474070543486:=0
def tw9476693890614733509:=0
end PySem.W.Fast
section
open PySem PySem.Spec PyProof.Rows
theorem zUy:type_of% @wpAny_bind:=@wpAny_bind
theorem zUz:type_of% @Heap.get?_push_of_some:=@Heap.get?_push_of_some
theorem zU0:type_of% @wpAny_pure:=@wpAny_pure
theorem zU1:type_of% @List.getElem?_eq_some_iff:=@List.getElem?_eq_some_iff
theorem zU2:type_of% @List.getElem?_eq_getElem:=@List.getElem?_eq_getElem
theorem zU3:type_of% @List.getD_eq_getElem?_getD:=@List.getD_eq_getElem?_getD
theorem zU4:type_of% @Nat.le_refl:=@Nat.le_refl
theorem zU5:type_of% @List.getElem?_append_left:=@List.getElem?_append_left
theorem zU6:type_of% @List.size_toArray:=@List.size_toArray
theorem zU7:type_of% @List.length_map:=@List.length_map
theorem zU8:type_of% @Heap.get?_push_size:=@Heap.get?_push_size
theorem zU9:type_of% @Heap.lt_size:=@Heap.lt_size
theorem zVA:type_of% @List.mem_cons:=@List.mem_cons
theorem zVB:type_of% @List.mem_cons_of_mem:=@List.mem_cons_of_mem
theorem zVC:type_of% @List.mem_cons_self:=@List.mem_cons_self
theorem zVD:type_of% @if_pos:=@if_pos
theorem zVE:type_of% @List.length_append:=@List.length_append
theorem zVF:type_of% @List.mem_map:=@List.mem_map
theorem zVG:type_of% @if_neg:=@if_neg
theorem zVH:type_of% @List.map_cons:=@List.map_cons
theorem zVI:type_of% @List.mem_append_right:=@List.mem_append_right
theorem zVJ:type_of% @Nat.ne_of_lt:=@Nat.ne_of_lt
theorem zVK:type_of% @Bool.false_ne_true:=@Bool.false_ne_true
theorem zVL:type_of% @List.getElem?_map:=@List.getElem?_map
theorem zVM:type_of% @List.map_map:=@List.map_map
theorem zVN:type_of% @Nat.lt_of_lt_of_le:=@Nat.lt_of_lt_of_le
theorem zVO:type_of% @List.mem_append:=@List.mem_append
theorem zVP:type_of% @Nat.le_trans:=@Nat.le_trans
theorem zVQ:type_of% @List.mem_singleton:=@List.mem_singleton
theorem zVR:type_of% @wpAny_newObj_type:=@wpAny_newObj_type
theorem zVS:type_of% @List.getElem?_set_ne:=@List.getElem?_set_ne
theorem zVT:type_of% @List.not_mem_nil:=@List.not_mem_nil
theorem zVU:type_of% @wpAny_mono:=@wpAny_mono
theorem zVV:type_of% @List.length_cons:=@List.length_cons
theorem zVW:type_of% @List.getElem_mem:=@List.getElem_mem
theorem zVX:type_of% @decide_eq_false:=@decide_eq_false
theorem zVY:type_of% @Bool.and_eq_true:=@Bool.and_eq_true
theorem zVZ:type_of% @List.all_eq_true:=@List.all_eq_true
theorem zVa:type_of% @wpAny_callSpecial?_slot:=@wpAny_callSpecial?_slot
theorem zVb:type_of% @wpAny_call_entry:=@wpAny_call_entry
theorem zVc:type_of% @List.mem_range:=@List.mem_range
theorem zVd:type_of% @wpAny_field:=@wpAny_field
theorem zVe:type_of% @Heap.size_push:=@Heap.size_push
theorem zVf:type_of% @Heap.get?_update_other:=@Heap.get?_update_other
theorem zVg:type_of% @Nat.lt_irrefl:=@Nat.lt_irrefl
theorem zVh:type_of% @Array.length_toList:=@Array.length_toList
theorem zVi:type_of% @List.append_nil:=@List.append_nil
theorem zVj:type_of% @Array.getElem?_eq_getElem:=@Array.getElem?_eq_getElem
theorem zVk:type_of% @Nat.zero_le:=@Nat.zero_le
theorem zVl:type_of% @Heap.get?_update_self:=@Heap.get?_update_self
theorem zVn:type_of% @Nat.lt_succ_of_lt:=@Nat.lt_succ_of_lt
theorem zVo:type_of% @wpAny_seqItems:=@wpAny_seqItems
theorem zVq:type_of% @List.map_append:=@List.map_append
theorem zVr:type_of% @wpAny_holding:=@wpAny_holding
theorem zVs:type_of% @List.getElem?_set_self:=@List.getElem?_set_self
theorem zVv:type_of% @Nat.lt_succ_self:=@Nat.lt_succ_self
theorem zVw:type_of% @wpAny_standAt:=@wpAny_standAt
theorem zVx:type_of% @PySem.W.mg_none_of:=@PySem.W.mg_none_of
theorem zVy:type_of% @Option.some.inj:=@Option.some.inj
theorem zVz:type_of% @Bool.false_eq_true:=@Bool.false_eq_true
theorem zV0:type_of% @PySem.mem_of_lookup:=@PySem.mem_of_lookup
theorem zV1:type_of% @Heap.SameBut.update:=@Heap.SameBut.update
theorem zV2:type_of% @List.cons.inj:=@List.cons.inj
theorem zV4:type_of% @List.append_assoc:=@List.append_assoc
theorem zV6:type_of% @decide_eq_true:=@decide_eq_true
theorem zV8:type_of% @List.getElem?_append_right:=@List.getElem?_append_right
theorem zWA:type_of% @wpAny_truthy_bool:=@wpAny_truthy_bool
theorem zWB:type_of% @decide_eq_true_eq:=@decide_eq_true_eq
theorem zWC:type_of% @List.nodup_append:=@List.nodup_append
theorem zWD:type_of% @List.mem_append_left:=@List.mem_append_left
theorem zWF:type_of% @Obj.data_mapFields:=@Obj.data_mapFields
theorem zWJ:type_of% @or_false:=@or_false
theorem zWL:type_of% @wpAny_rule:=@wpAny_rule
theorem zWM:type_of% @List.length_take:=@List.length_take
theorem zWR:type_of% @PassesOwn.never:=@PassesOwn.never
theorem zWW:type_of% @PyProof.Rows.slot_tuple_getitem:=@PyProof.Rows.slot_tuple_getitem
theorem zWX:type_of% @List.getElem?_set:=@List.getElem?_set
theorem zWb:type_of% @PySem.W.kia_one:=@PySem.W.kia_one
theorem zWd:type_of% @Array.getElem?_toList:=@Array.getElem?_toList
theorem zWj:type_of% @wpAny_setField:=@wpAny_setField
theorem zWk:type_of% @List.find?_cons:=@List.find?_cons
theorem zWs:type_of% @wpAny_comprehension_free:=@wpAny_comprehension_free
theorem zW0:type_of% @List.length_eq_zero_iff:=@List.length_eq_zero_iff
theorem zW3:type_of% @List.lookup_cons:=@List.lookup_cons
theorem zXH:type_of% @List.length_set:=@List.length_set
theorem zXR:type_of% @List.length_drop:=@List.length_drop
end
set_option Elab.async false
set_option linter.all false
set_option maxRecDepth 100000
set_option genSizeOf false
set_option genInjectivity false
noncomputable section
namespace L2
open PySem PySem.Spec PyProof.Rows
abbrev Key:=Sum Int Str
def zI1:Key -> Value -> Bool
 | .inl k,v=>Value.isInt k v
 | .inr x,v=>Value.isStrOf x v
def zUv (w:World):Key -> Int
 | .inl k=>hashInt k
 | .inr x=>hashStr w x
theorem zAq:∀ {k:Key} {v:Value},zI1 k v = true -> (∃ i t,k = Sum.inl i /\ v = Value.int i t) \/ (∃ x t,k = Sum.inr x /\ v = Value.str x t)
 | .inl i,v,h=>by
  obtain ⟨t,e⟩:=Value.isInt_shape (k:=i) (v:=v) h;exact .inl ⟨i,t,rfl,e⟩
 | .inr x,v,h=>by
  obtain ⟨t,e⟩:=Value.isStrOf_shape (x:=x) (v:=v) h;exact .inr ⟨x,t,rfl,e⟩
theorem zN4 (i:Int) (t:Tok):zI1 (.inl i) (.int i t) = true:=by simp [zI1,Value.isInt]
theorem zNh (x:Str) (t:Tok):zI1 (.inr x) (.str x t) = true:=by simp [zI1,Value.isStrOf]
theorem zS2 (a b:Int):decide ((Sum.inl a:Key) = Sum.inl b) = (a == b):=by
 by_cases e:a = b
 ·subst e; simp
 ·have h:¬ (Sum.inl a:Key) = Sum.inl b:=fun q=>e (Sum.inl.inj q);rw [zVX h];exact (beq_eq_false_iff_ne.mpr e).symm
theorem zSq (a b:Str):decide ((Sum.inr a:Key) = Sum.inr b) = decide (a = b):=by
 by_cases e:a = b
 ·subst e; simp
 ·have h:¬ (Sum.inr a:Key) = Sum.inr b:=fun q=>e (Sum.inr.inj q);rw [zVX h,zVX e]
theorem zTN (a:Int) (b:Str):decide ((Sum.inl a:Key) = Sum.inr b) = false:=zVX (fun q=>nomatch q)
theorem zS9 (a:Str) (b:Int):decide ((Sum.inr a:Key) = Sum.inl b) = false:=zVX (fun q=>nomatch q)
def zAn (prog:Program) (w:World):PySem.KeyKind prog w Key where
 is:=zI1
 hash:=zUv w
 inj:=fun v a b ha hb=>by
  rcases zAq ha with ⟨i,t,rfl,rfl⟩ | ⟨x,t,rfl,rfl⟩
  ·rcases zAq hb with ⟨j,u,rfl,e⟩ | ⟨y,u,rfl,e⟩
   ·injection e with e1 _; rw [e1]
   ·exact nomatch e
  ·rcases zAq hb with ⟨j,u,rfl,e⟩ | ⟨y,u,rfl,e⟩
   ·exact nomatch e
   ·injection e with e1 _; rw [e1]
 byValue:=fun k v h=>by
  rcases zAq h with ⟨i,t,rfl,rfl⟩ | ⟨x,t,rfl,rfl⟩ <;> rfl
 pyHash:=fun hv h=>by
  rcases zAq hv with ⟨i,t,rfl,rfl⟩ | ⟨x,t,rfl,rfl⟩
  ·exact wpAny_pyHash_int h
  ·exact wpAny_pyHash_str h
 eqBool:=fun hu hv h=>by
  rcases zAq hu with ⟨i,t,rfl,rfl⟩ | ⟨x,t,rfl,rfl⟩
  ·rcases zAq hv with ⟨j,u,rfl,rfl⟩ | ⟨y,u,rfl,rfl⟩
   ·rw [zS2] at h; exact wpAny_eqBool_int h
   ·rw [zTN] at h; exact SeqAt.EqAt.int_str i t y u _ _ _ _ h
  ·rcases zAq hv with ⟨j,u,rfl,rfl⟩ | ⟨y,u,rfl,rfl⟩
   ·rw [zS9] at h; exact SeqAt.EqAt.str_int x t j u _ _ _ _ h
   ·rw [zSq] at h; exact wpAny_eqBool_str h
 «strs»:=fun k x t v h=>by
  rcases zAq h with ⟨i,u,rfl,e⟩ | ⟨y,u,rfl,e⟩
  ·exact nomatch e
  ·injection e with e1 _
   subst e1
   cases v <;> rfl
theorem zLG (prog:Program) (w:World) (i:Int) (t:Tok):(zAn prog w).is (.inl i) (.int i t) = true:=zN4 i t
theorem zKT (prog:Program) (w:World) (x:Str) (t:Tok):(zAn prog w).is (.inr x) (.str x t) = true:=zNh x t
set_option genInjectivity true in
inductive V where
 | non | bl (b:Bool) | int (i:Int) | str (x:Str) | byt (b:Array UInt8) | flt (b:UInt64) | ref (a:Addr) | ty (n:String)
 deriving DecidableEq
def zAF:V -> Value -> Prop
 | .non,u=>u = Value.none
 | .bl b,u=>u = Value.bool b
 | .int i,u=>∃ t,u = Value.int i t
 | .str x,u=>∃ t,u = Value.str x t
 | .byt b,u=>∃ t,u = Value.bytes b t
 | .flt b,u=>∃ t,u = Value.float b t
 | .ref a,u=>u = Value.ref a
 | .ty n,u=>u = Value.type n
abbrev zv:List V -> List Value -> Prop:=Paired zAF
theorem zv.length {xs:List V} {us:List Value} (r:zv xs us):xs.length = us.length:=Paired.length r
theorem zv.get:∀ {xs:List V} {us:List Value} {i:Nat} {x:V},zv xs us -> xs[i]? = some x -> ∃ u,us[i]? = some u /\ zAF x u
 | _,_,_,_,.nil,e=>by simp at e
 | _,_,0,_,.cons r _,e=>by simp at e; subst e; exact ⟨_,rfl,r⟩
 | _,_,i + 1,x,.cons _ t,e=>by
  obtain ⟨u,h1,h2⟩:=zv.get (i:=i) (x:=x) t (by simpa using e);exact ⟨u,by simpa using h1,h2⟩
theorem zv.set {x:V} {u:Value} (r:zAF x u):∀ {xs:List V} {us:List Value} (i:Nat),zv xs us -> zv (xs.set i x) (us.set i u)
 | _,_,_,.nil=> .nil
 | _,_,0,.cons _ t=> .cons r t
 | _,_,i + 1,.cons q t=> .cons q (zv.set r i t)
theorem zv.append:∀ {xs ys:List V} {us ws:List Value},zv xs us -> zv ys ws -> zv (xs ++ ys) (us ++ ws)
 | _,_,_,_,.nil,s=>s
 | _,_,_,_,.cons r t,s=> .cons r (zv.append t s)
theorem zv.take:∀ {xs:List V} {us:List Value} (n:Nat),zv xs us -> zv (xs.take n) (us.take n)
 | _,_,0,_=> .nil
 | _,_,_ + 1,.nil=> .nil
 | _,_,n + 1,.cons r t=> .cons r (zv.take n t)
theorem zv.drop:∀ {xs:List V} {us:List Value} (n:Nat),zv xs us -> zv (xs.drop n) (us.drop n)
 | _,_,0,r=>r
 | _,_,_ + 1,.nil=> .nil
 | _,_,n + 1,.cons _ t=>zv.drop n t
def zGB:Option V -> Option Value -> Prop
 | some v,some u=>zAF v u
 | none,none=>True
 | _,_=>False
def KV {κ:Type}:List (κ × V) -> List (κ × Value) -> Prop:=Paired fun (p:κ × V) (q:κ × Value)=>p.1 = q.1 /\ zAF p.2 q.2
def kV:Key -> V
 | .inl i=> .int i
 | .inr x=> .str x
set_option genInjectivity true in
inductive HO where
 | lst (xs:List V)
 | tup (xs:List V)
 | dK (kvs:List (Key × V)) | dT (kvs:List (List Key × V))
 | set (S:Int -> Bool) (n:Nat)
 | ins (C dx:Addr) (fs:List (Str × V))
 | own (x:Addr)
 | xd (fs:List (Str × V))
 | met (f x:Addr)
 | rng (lo hi:Int)
 | frz (o:Obj) (u:HO)
 | tbl (ps:Array Value)
 | ext (φ:Heap -> Prop)
abbrev Hp:=Addr -> Option HO
def upd (H:Hp) (a:Addr) (o:HO):Hp:=fun b=>if b = a then some o else H b
theorem zAh {H:Hp} {a:Addr} {o:HO}:upd H a o a = some o:=by unfold upd; rw [zVD rfl]
theorem zm {H:Hp} {a b:Addr} {o:HO} (h:b ≠ a):upd H a o b = H b:=by unfold upd; rw [zVG h]
theorem zIf {H:Hp} {a b:Addr} {o u:HO} (h:H a = some o) (h':H b = some u) (d:o ≠ u):a ≠ b:=by
 intro e; subst e; rw [h] at h'; exact d (zVy h')
theorem zAf {H:Hp} {a b:Addr} {o:HO} (h:H a = some o) (h':H b = none):a ≠ b:=by
 intro e; subst e; rw [h] at h'; cases h'
def zCt (h:Heap) (a:Addr) (items:Array Value):Prop:=∃ o,h.get? a = some o /\ o.cls = .type "tuple" /\ (∃ n,o.data = .seq items n) /\ o.dict = none
theorem zCt.tup {h:Heap} {a:Addr} {items:Array Value} (x:zCt h a items):IsTup h a items:=let ⟨o,e,c,d,_⟩:=x; ⟨o,e,c,d⟩
theorem zCt.lt {h:Heap} {a:Addr} {items:Array Value} (x:zCt h a items):a < h.objs.size:=let ⟨_,e,_⟩:=x; zU9 e
theorem zCt.new (h:Heap) (items:Array Value):zCt (h.push { cls:=.type "tuple", data:=.seq items }) h.objs.size items:=⟨_,zU8 _ rfl,rfl,⟨_,rfl⟩,rfl⟩
section
variable (P:Program) (w:World)
def zAV (H:Hp) (h:Heap) (a:Addr):HO -> Prop
 | .lst xs=>xs.length <= sizeLine /\ ∃ (its:List Value) (n:Nat),zv xs its /\ h.get? a = some { cls:=.type "list", data:=.seq its.toArray n }
 | .tup xs=>xs.length <= sizeLine /\ ∃ its:List Value,zv xs its /\ zCt h a its.toArray
 | .dK kvs=>kvs.length <= sizeLine /\ (a == sysModules) = false /\ ∃ vs,KV kvs vs /\ h.DictOf (zAn P w) a vs
 | .dT kvs=>kvs.length <= sizeLine /\ (a == sysModules) = false /\ ∃ xs:List (List Key × Addr × Value),
   Paired (fun (p:List Key × V) (q:List Key × Addr × Value)=>p.1 = q.1 /\ H q.2.1 = some (.tup (p.1.map kV)) /\ zAF p.2 q.2.2) kvs xs /\
   ∃ o es ep,h.get? a = some o /\ o.ExactDict /\ o.data = .dict es ep /\ es.toList = xs.map (entryOfKey (tupleKind (zAn P w))) /\ (xs.map (·.1)).Nodup
 | .set S n=>h.SetOf (intKind P w) a S n
 | .ins C dx fs=>H dx = some (.own a) /\ fs.length <= 1000 /\ dx ≠ a /\ h.get? a = some (PySem.W.instObj C dx) /\
   ∃ mA,h.Ns1 dx mA /\ (∀ f,zGB (fs.lookup f) (mA f)) /\ PySem.Within mA (fs.map (·.1))
 | .own _=>∃ o,h.get? a = some o
 | .xd fs=>∃ mA,h.Ns1 a mA /\ ∀ f,zGB (fs.lookup f) (mA f)
 | .rng lo hi=>∃ t u v,h.get? a = some { cls:=.type "range", data:=.fields #[.int lo t,.int hi u,.int 1 v] }
 | .frz o u=>h.get? a = some o /\ zAV H h a u
 | .tbl ps=>h.get? a = some { cls:=.none,data:=.fields ps }
 | .met f x=>h.get? a = some (PySem.W.methodObj (.ref f) (.ref x))
 | .ext φ=>φ h /\ (∃ o,h.get? a = some o) /\ ∀ h1 h2:Heap,φ h1 -> (∀ o,h1.get? a = some o -> h2.get? a = some o) -> φ h2
def HOk (H:Hp) (h:Heap):Prop:=∀ a o,H a = some o -> zAV P w H h a o
end
section
variable {P:Program} {w:World} {H H':Hp} {h h':Heap} {a:Addr} {o:HO}
theorem zAV.lt (x:zAV P w H h a o):a < h.objs.size:=by
 cases o with
 | lst xs=>obtain ⟨_,_,_,_,e⟩:=x; exact zU9 e
 | tup xs=>obtain ⟨_,_,_,p⟩:=x; exact p.lt
 | dK kvs=>obtain ⟨_,_,_,_,o,_,_,e,_⟩:=x; exact zU9 e
 | dT kvs=>obtain ⟨_,_,_,_,o,_,_,e,_⟩:=x; exact zU9 e
 | set S n=>obtain ⟨o,_,_,_,e,_⟩:=x; exact zU9 e
 | ins C dx fs=>obtain ⟨_,_,_,e,_⟩:=x; exact zU9 e
 | own y=>obtain ⟨_,e⟩:=x; exact zU9 e
 | xd fs=>obtain ⟨_,⟨_,_,_,e,_⟩,_⟩:=x; exact zU9 e
 | rng lo hi=>obtain ⟨_,_,_,e⟩:=x; exact zU9 e
 | frz ob u=>obtain ⟨e,_⟩:=x; exact zU9 e
 | tbl ps=>exact zU9 (show h.get? a = some _ from x)
 | met f y=>exact zU9 (show h.get? a = some _ from x)
 | ext φ=>obtain ⟨_,⟨_,e⟩,_⟩:=x; exact zU9 e
theorem Paired.mapP {α β:Type} {F G:α -> β -> Prop}:∀ {l₁:List α} {l₂:List β},Paired F l₁ l₂ -> (∀ a b,F a b -> G a b) -> Paired G l₁ l₂
 | _,_,.nil,_=> .nil
 | _,_,.cons r t,f=> .cons (f _ _ r) (Paired.mapP t f)
theorem zAV.stay (x:zAV P w H h a o) (k:∀ b u,(b = a \/ H b = some (.own a)) -> h.get? b = some u -> h'.get? b = some u)
  (ho:∀ b,H b = some (.own a) -> H' b = some (.own a)) (ht:∀ b xs,H b = some (.tup xs) -> H' b = some (.tup xs)):zAV P w H' h' a o:=by
 induction o with
 | lst xs=>obtain ⟨z,its,n,r,e⟩:=x; exact ⟨z,its,n,r,k _ _ (.inl rfl) e⟩
 | tup xs=>obtain ⟨z,its,r,ob,e,c⟩:=x; exact ⟨z,its,r,ob,k _ _ (.inl rfl) e,c⟩
 | dK kvs=>obtain ⟨z,y,vs,r,ob,es,ep,e,c⟩:=x; exact ⟨z,y,vs,r,ob,es,ep,k _ _ (.inl rfl) e,c⟩
 | dT kvs=>
  obtain ⟨z,y,xs,r,ob,es,ep,e,c⟩:=x;exact ⟨z,y,xs,Paired.mapP r fun p q z=>⟨z.1,ht _ _ z.2.1,z.2.2⟩,ob,es,ep,k _ _ (.inl rfl) e,c⟩
 | set S n=>obtain ⟨ob,es,ep,t,e,c⟩:=x; exact ⟨ob,es,ep,t,k _ _ (.inl rfl) e,c⟩
 | ins C dx fs=>
  obtain ⟨d,z,ne,e,mA,⟨od,es,ep,e2,c⟩,r⟩:=x;exact ⟨ho _ d,z,ne,k _ _ (.inl rfl) e,mA,⟨od,es,ep,k _ _ (.inr d) e2,c⟩,r⟩
 | own y=>obtain ⟨ob,e⟩:=x; exact ⟨ob,k _ _ (.inl rfl) e⟩
 | xd fs=>obtain ⟨mA,⟨od,es,ep,e,c⟩,r⟩:=x; exact ⟨mA,⟨od,es,ep,k _ _ (.inl rfl) e,c⟩,r⟩
 | rng lo hi=>obtain ⟨t,u,v,e⟩:=x; exact ⟨t,u,v,k _ _ (.inl rfl) e⟩
 | frz ob u ih=>obtain ⟨e,q⟩:=x; exact ⟨k _ _ (.inl rfl) e,ih q⟩
 | tbl ps=>
  have e:h.get? a = some { cls:=.none,data:=.fields ps }:=x;show h'.get? a = some { cls:=.none,data:=.fields ps };exact k a _ (.inl rfl) e
 | met f y=>
  have e:h.get? a = some (PySem.W.methodObj (.ref f) (.ref y)):=x;show h'.get? a = some (PySem.W.methodObj (.ref f) (.ref y));exact k a _ (.inl rfl) e
 | ext φ=>obtain ⟨p,⟨o,e⟩,st⟩:=x; exact ⟨st _ _ p fun o q=>k _ _ (.inl rfl) q,⟨o,k _ _ (.inl rfl) e⟩,st⟩
theorem HOk.lt (x:HOk P w H h) (e:H a = some o):a < h.objs.size:=(x a o e).lt
theorem HOk.fresh (x:HOk P w H h) (e:h.objs.size <= a):H a = none:=by
 cases q:H a with
 | none=>rfl
 | some u=>exact absurd (zVN (x.lt q) e) (zVg _)
theorem HOk.kept (x:HOk P w H h) (k:∀ b u,h.get? b = some u -> h'.get? b = some u):HOk P w H h':=fun a o e=>
 (x a o e).stay (fun b u _ q=>k b u q) (fun _ q=>q) fun _ _ q=>q
theorem HOk.laid (x:HOk P w H h) (k:∀ b u,h.get? b = some u -> h'.get? b = some u) (hp:h.objs.size <= a) (new:zAV P w (upd H a o) h' a o):HOk P w (upd H a o) h':=fun b u e=>by
 have hn:=x.fresh hp;by_cases hb:b = a
 ·subst hb; rw [zAh] at e; cases e; exact new
 ·rw [zm hb] at e;exact (x b u e).stay (fun c v _ q=>k c v q) (fun c q=>by rw [zm (zAf q hn)]; exact q) fun c xs q=>by rw [zm (zAf q hn)]; exact q
end
def Rd (H:Hp) (a:Addr) (u:HO):Prop:=H a = some u \/ ∃ o,H a = some (.frz o u)
theorem Rd.ok {P:Program} {w:World} {H:Hp} {h:Heap} {a:Addr} {u:HO} (r:Rd H a u) (x:HOk P w H h):zAV P w H h a u:=by
 rcases r with r | ⟨o,r⟩
 ·exact x a u r
 ·obtain ⟨_,q⟩:=x a _ r;exact q
def Mut:Option HO -> Prop
 | some (.lst _)=>True
 | some (.dK _)=>True
 | some (.dT _)=>True
 | some (.set _ _)=>True
 | some (.ins _ _ _)=>True
 | some (.ext _)=>True
 | _=>False
section
variable {P:Program} {w:World} {H:Hp} {h h':Heap} {x e:Addr} {o':HO}
theorem HOk.write (ok:HOk P w H h) (mu:Mut (H x)) (he:e = x \/ H e = some (.own x)) (k:∀ b u,b ≠ e -> h.get? b = some u -> h'.get? b = some u) (heo:∃ u,h'.get? e = some u)
  (new:zAV P w (upd H x o') h' x o'):HOk P w (upd H x o') h':=fun b u q=>by
 have nown:∀ c y,H c = some (.own y) -> c ≠ x:=fun c y r z=>by subst z; rw [r] at mu; exact mu
 have ntup:∀ c xs,H c = some (.tup xs) -> c ≠ x:=fun c xs r z=>by subst z; rw [r] at mu; exact mu
 by_cases hb:b = x
 ·subst hb; rw [zAh] at q; cases q; exact new
 ·rw [zm hb] at q;by_cases hbe:b = e
  ·have q':H b = some (.own x):=by
    rcases he with z | z
    ·exact absurd (hbe.trans z) hb
    ·rw [hbe]; exact z
   rw [q] at q'; cases q';obtain ⟨v,hv⟩:=heo;exact ⟨v,by rw [hbe]; exact hv⟩
  ·refine (ok b u q).stay (fun c v hc r=>k c v ?_ r) (fun c r=>by rw [zm (nown c b r)]; exact r) fun c xs r=>by rw [zm (ntup c xs r)]; exact r
   rcases hc with rfl | hc
   ·exact hbe
   ·rintro rfl;rcases he with z | z
    ·exact nown c b hc z
    ·rw [hc] at z; cases z; exact hb rfl
end
structure Un (fs ex:List Addr) (H H':Hp) (h h':Heap):Prop where
 keep:∀ b o,h.get? b = some o -> H b = none -> b ∉ fs -> b ∉ ex -> h'.get? b = some o
 slot:∀ b o,h.get? b = some o -> H b = none -> b ∈ fs -> b ∉ ex -> ∃ sl,h'.get? b = some { o with slots:=sl }
 free:∀ b o,h.get? b = some o -> H b = none -> b ∉ ex -> H' b = none
 there:∀ b o,h.get? b = some o -> b ∉ ex -> ∃ o',h'.get? b = some o'
 tups:∀ b xs,H b = some (.tup xs) -> H' b = some (.tup xs)
 frzs:∀ b o u,H b = some (.frz o u) -> H' b = some (.frz o u)
 tbls:∀ b ps,H b = some (.tbl ps) -> ∃ more,H' b = some (.tbl (ps ++ more))
section
variable {fs fs' ex ex':List Addr} {H H1 H2:Hp} {h h1 h2 h':Heap} {a x e:Addr} {o:HO}
theorem Un.any (u:Un fs ex H H1 h h1) {b:Addr} {ob:Obj} (q:h.get? b = some ob) (n:H b = none) (hx:b ∉ ex):∃ sl,h1.get? b = some { ob with slots:=sl }:=by
 by_cases hb:b ∈ fs
 ·exact u.slot b ob q n hb hx
 ·exact ⟨ob.slots,u.keep b ob q n hb hx⟩
theorem Un.kept (k:∀ b u,h.get? b = some u -> h'.get? b = some u):Un fs ex H H h h' :=
 ⟨fun b ob q _ _ _=>k b ob q,fun b ob q _ _ _=>⟨ob.slots,k b ob q⟩,fun _ _ _ n _=>n,fun b ob q _=>⟨ob,k b ob q⟩,fun _ _ q=>q,fun _ _ _ q=>q,fun _ ps q=>⟨#[],by rw [q]; simp⟩⟩
theorem Un.refl:Un fs ex H H h h:=Un.kept fun _ _ q=>q
theorem Un.laid (k:∀ b u,h.get? b = some u -> h'.get? b = some u) (hp:h.objs.size <= a) (hn:H a = none):Un fs ex H (upd H a o) h h' where
 keep:=fun b u q _ _ _=>k b u q;slot:=fun b u q _ _ _=>⟨u.slots,k b u q⟩;free:=fun b u q n _=>by rw [zm (zVJ (zVN (zU9 q) hp))]; exact n
 there:=fun b u q _=>⟨u,k b u q⟩;tups:=fun b xs q=>by rw [zm (zAf q hn)]; exact q
 frzs:=fun b u xs q=>by rw [zm (zAf q hn)]; exact q
 tbls:=fun b ps q=>⟨#[],by rw [zm (zAf q hn),q]; simp⟩
theorem Un.write (mu:Mut (H x)) (he:e = x \/ H e = some (.own x)) (k:∀ b u,b ≠ e -> h.get? b = some u -> h'.get? b = some u) (heo:∃ u,h'.get? e = some u):Un fs ex H (upd H x o) h h':=by
 have hx:∀ b,H b = none -> b ≠ x:=fun b n z=>by subst z; rw [n] at mu; exact mu
 have hb:∀ b,H b = none -> b ≠ e:=fun b n z=>by
  subst z;rcases he with r | r
  ·exact hx b n r
  ·rw [n] at r; cases r
 have hm:∀ b u,H b = some u -> ¬ Mut (some u) -> b ≠ x:=fun b u q nm z=>by subst z; rw [q] at mu; exact nm mu
 refine ⟨fun b u q n _ _=>k b u (hb b n) q,fun b u q n _ _=>⟨u.slots,k b u (hb b n) q⟩,fun b u q n _=>by rw [zm (hx b n)]; exact n,fun b u q _=>?_,
  fun b xs q=>by rw [zm (hm b _ q fun z=>z)]; exact q,fun b u xs q=>by rw [zm (hm b _ q fun z=>z)]; exact q,fun b ps q=>⟨#[],by rw [zm (hm b _ q fun z=>z),q]; simp⟩⟩
 by_cases hbe:b = e
 ·subst hbe; exact heo
 ·exact ⟨u,k b u hbe q⟩
end
def trk (h:Heap) (H:Hp):List Addr:=(List.range h.objs.size).filter fun a=>(H a).isSome
def zJq (h:Heap) (H:Hp):Heap:=PySem.W.hideAll h (trk h H)
theorem zN7 (h:Heap) (H:Hp):(zJq h H).objs.size = h.objs.size:=PySem.W.hideAll_size _ _
theorem zPP {h:Heap} {H:Hp} {b:Addr} {o:Obj} (e:h.get? b = some o) (n:H b = none):(zJq h H).get? b = some o :=
 PySem.W.hideAll_get _ e fun hm=>by
  have q:(H b).isSome = true:=(List.mem_filter.mp hm).2;rw [n] at q; simp at q
theorem zQg {h:Heap} {H:Hp} {b:Addr} {o:Obj} (e:(zJq h H).get? b = some o):h.get? b = some o /\ H b = none:=by
 have e':h.get? b = some o:=PySem.W.of_hideAll (trk h H) e;refine ⟨e',?_⟩;cases q:H b with
 | none=>rfl
 | some x=>
  have hm:b ∈ trk h H:=List.mem_filter.mpr ⟨zVc.mpr (zU9 e'),by simp [q]⟩;have z:(zJq h H).get? b = none:=PySem.W.hideAll_none (trk h H) hm;rw [z] at e; cases e
structure Mod (K:PySem.W.Frag) (mg:Str -> Option Value) (base:Heap):Prop where
 kin:K.In base
 glob:base.Ns mainGlobals mg
 blt:∃ mb,base.Ns builtinsNs mb /\ ∀ x:Str,x ≠ "__name__" -> mb x = bootBuiltins x
 nolimit:base.NoLimit
structure Cx where
 prog:Program
 w:World
 K:PySem.W.Frag
 mg:Str -> Option Value
 base:Heap
 A:Around
 N:List Str
 s₀:Shared
 H₀:Hp
 env:Env
 outer:List Env
 stack:List Env
 ex:List Addr
 fn:Str -> Bool
 calm:Bool
 pn:List (Addr × Obj)
 xe:Value -> Shared -> Prop
def frs (l:List Env):List Addr:=l.filterMap (·.frame)
abbrev Cx.fs (X:Cx):List Addr:=frs X.outer
def Vis (sc:Scope) (x:Str):Prop:=sc.names.lookup x = some .local \/ sc.names.lookup x = some .cell \/ sc.names.lookup x = some .free
def Loc (sc:Scope) (x:Str):Prop:=sc.names.lookup x = some .local \/ sc.names.lookup x = some .cell
def zUX (env:Env) (h:Heap) (m:Str -> Option Value) (x:Str) (u:Value):Prop :=
 (env.kindOf x = some .local /\ m x = some u) \/ ((env.kindOf x = some .cell \/ env.kindOf x = some .free) /\ ∃ c,env.cells.lookup x = some c /\ h.IsCell c (some u))
structure Cx.Ok (X:Cx):Prop where
 mod:Mod X.K X.mg X.base
 kind:X.env.scope.kind = .function
 glob:X.env.globals = mainGlobals
 blt:X.env.builtins = builtinsNs
 above:X.s₀.heap.objs.size <= X.env.locals
 inj:∀ x y c,X.env.cells.lookup x = some c -> X.env.cells.lookup y = some c -> x = y
 has:∀ x,(X.env.kindOf x = some .cell \/ X.env.kindOf x = some .free) -> ∃ c,X.env.cells.lookup x = some c
 cab:∀ x c,X.fn x = true -> X.env.cells.lookup x = some c -> X.s₀.heap.objs.size <= c
 hd:X.calm = true -> X.A.handled = none
 frames:X.A.frames = some X.stack
 stk:X.stack = X.outer \/ (X.stack = X.env :: X.outer /\ X.env.frame = some X.env.locals)
 exf:∀ b ∈ X.ex,b ≠ X.env.locals /\ ∀ x c,X.env.cells.lookup x = some c -> c ≠ b
 bs:∀ b o,X.base.get? b = some o -> X.s₀.heap.get? b = some o /\ X.H₀ b = none
 bsz:X.base.objs.size <= X.s₀.heap.objs.size
 noex:∀ b o,X.base.get? b = some o -> b ∉ X.ex
 exfs:∀ b ∈ X.ex,b ∉ X.fs
 funs:X.s₀.heap.FunFrames X.base X.outer
 frf:∀ b ∈ X.fs,X.H₀ b = none
structure Inv (X:Cx) (zB:List (Addr × Obj)) (σ:List (Option V)) (H:Hp) (s:Shared):Prop where
 ok:X.Ok
 os:s.os = X.s₀.os
 bare:AllBare s.gens
 base:Un X.fs X.ex X.H₀ H X.s₀.heap s.heap
 loc:∃ m,s.heap.Ns X.env.locals m /\ ∀ (i:Nat) (x:Str) (v:V),X.N[i]? = some x -> σ[i]? = some (some v) -> Vis X.env.scope x -> ∃ u,zAF v u /\ zUX X.env s.heap m x u
 cell:∀ x c,X.env.cells.lookup x = some c -> ∃ v,s.heap.IsCell c v
 free:H X.env.locals = none
 freeC:∀ x c,X.env.cells.lookup x = some c -> H c = none
 pin:∀ p ∈ X.pn ++ zB,s.heap.get? p.1 = some p.2 /\ H p.1 = none /\ p.1 ≠ X.env.locals /\ p.1 ∉ X.fs /\ ∀ v,p.2.data ≠ .cell v
 hok:HOk X.prog X.w H s.heap
 len:σ.length = X.N.length
section
variable {X:Cx} {zB:List (Addr × Obj)} {σ:List (Option V)} {H H':Hp} {s:Shared} {h':Heap}
theorem Cx.Ok.nofr (ok:X.Ok) {b:Addr} {o:Obj} (e:X.base.get? b = some o):b ∉ X.fs:=fun hb=>by
 have:=(ok.funs.mem hb).1;rw [e] at this; cases this
theorem Inv.bs (I:Inv X zB σ H s):∀ b o,X.base.get? b = some o -> s.heap.get? b = some o /\ H b = none:=fun b o e=>
 ⟨I.base.keep b o (I.ok.bs b o e).1 (I.ok.bs b o e).2 (I.ok.nofr e) (I.ok.noex b o e),I.base.free b o (I.ok.bs b o e).1 (I.ok.bs b o e).2 (I.ok.noex b o e)⟩
theorem Inv.bk (I:Inv X zB σ H s):∀ b o,X.base.get? b = some o -> s.heap.get? b = some o:=fun b o e=>(I.bs b o e).1
theorem Inv.mod (I:Inv X zB σ H s):Mod X.K X.mg X.base:=I.ok.mod
theorem Inv.kIn (I:Inv X zB σ H s):X.K.In s.heap:=I.ok.mod.kin.keeps I.bk
theorem Inv.lt (I:Inv X zB σ H s):X.env.locals < s.heap.objs.size:=let ⟨_,hn,_⟩:=I.loc; hn.lt
theorem Inv.sz (I:Inv X zB σ H s):X.s₀.heap.objs.size <= s.heap.objs.size:=zVP I.ok.above (Nat.le_of_lt I.lt)
theorem Inv.nofs (I:Inv X zB σ H s) {a:Addr} (h:s.heap.objs.size <= a):a ∉ X.fs:=fun hb=>by
 obtain ⟨_,o,ho,_⟩:=I.ok.funs.mem hb;exact absurd (zVN (zU9 ho) (zVP I.sz h)) (zVg _)
theorem Inv.cne (I:Inv X zB σ H s):∀ x c,X.env.cells.lookup x = some c -> c ≠ X.env.locals:=fun x c e z=>by
 obtain ⟨v,o,ho,hd⟩:=I.cell x c e;obtain ⟨m,⟨o',es,ep,ho',hd',_⟩,_⟩:=I.loc;rw [z,ho'] at ho; cases ho; rw [hd'] at hd; cases hd
theorem Inv.funs (I:Inv X zB σ H s):s.heap.FunFrames X.base X.outer:=by
 have all:∀ (l:List Env),(∀ b ∈ frs l,b ∈ X.fs) -> X.s₀.heap.FunFrames X.base l -> s.heap.FunFrames X.base l:=by
  intro l;induction l with
  | nil=>intro _ _; trivial
  | cons env r ih=>
   intro hs hl;obtain ⟨hk,⟨L,o,hf,hn,ho,hd⟩,hr⟩:=hl;have hL:L ∈ X.fs:=hs L (by unfold frs; rw [List.filterMap_cons,hf]; exact zVC);obtain ⟨sl,e⟩:=I.base.slot L o ho (I.ok.frf L hL) hL fun z=>I.ok.exfs L z hL;exact ⟨hk,⟨L,_,hf,hn,e,hd⟩,ih (fun b hb=>hs b (by unfold frs; rw [List.filterMap_cons,hf]; exact zVB _ hb)) hr⟩
 exact all X.outer (fun _ hb=>hb) I.ok.funs
theorem Inv.stack (I:Inv X zB σ H s):s.heap.FunFrames X.base X.stack:=by
 rcases I.ok.stk with e | ⟨e,hf⟩
 ·rw [e]; exact I.funs
 ·rw [e];obtain ⟨m,hn,_⟩:=I.loc;refine .cons (by rw [I.ok.kind]; decide) hf hn ?_ I.funs;exact Heap.get?_none_of_le (zVP I.ok.bsz I.ok.above)
theorem Inv.stkSub (I:Inv X zB σ H s):∀ b ∈ frs X.stack,b ∈ X.env.locals :: X.fs:=fun b hb=>by
 rcases I.ok.stk with e | ⟨e,hf⟩
 ·rw [e] at hb; exact zVB _ hb
 ·rw [e] at hb;unfold frs at hb;rw [List.filterMap_cons,hf] at hb;exact hb
theorem Inv.stkFree (I:Inv X zB σ H s):∀ b ∈ frs X.stack,H b = none:=fun b hb=>by
 rcases zVA.mp (I.stkSub b hb) with e | hb
 ·rw [e]; exact I.free
 ·obtain ⟨_,o,ho,_⟩:=I.ok.funs.mem hb;exact I.base.free b o ho (I.ok.frf b hb) fun z=>I.ok.exfs b z hb
theorem Inv.step {g':Array GenState} {t':Nat} {d':Drawn} {ch:List Addr} (I:Inv X zB σ H s)
  (hch:∀ b ∈ ch,(b ∈ X.ex \/ X.s₀.heap.objs.size <= b) /\ b ≠ X.env.locals /\ (∀ x c,X.env.cells.lookup x = some c -> c ≠ b) /\ ∀ p ∈ X.pn ++ zB,p.1 ≠ b)
  (keep:∀ b o,b ≠ X.env.locals -> b ∉ X.fs -> b ∉ ch -> s.heap.get? b = some o -> H b = none -> h'.get? b = some o)
  (slot:∀ b o,b ≠ X.env.locals -> b ∈ X.fs -> b ∉ ch -> s.heap.get? b = some o -> H b = none -> ∃ sl,h'.get? b = some { o with slots:=sl }) (free:∀ b o,b ∉ ch -> s.heap.get? b = some o -> H b = none -> H' b = none)
  (there:∀ b o,b ∉ ch -> s.heap.get? b = some o -> ∃ o',h'.get? b = some o')
  (tups:∀ b xs,H b = some (.tup xs) -> H' b = some (.tup xs)) (frzs:∀ b o u,H b = some (.frz o u) -> H' b = some (.frz o u)) (tbls:∀ b ps,H b = some (.tbl ps) -> ∃ more,H' b = some (.tbl (ps ++ more)))
  (ns:∀ m,s.heap.Ns X.env.locals m -> h'.Ns X.env.locals m) (hok:HOk X.prog X.w H' h') (hg:AllBare g') :
  Inv X zB σ H' { s with heap:=h',gens:=g',drawn:=d',toks:=t' }:=by
 have neL:∀ b o,X.s₀.heap.get? b = some o -> b ≠ X.env.locals:=fun b o e=>zVJ (zVN (zU9 e) I.ok.above);have neC:∀ b o,X.s₀.heap.get? b = some o -> b ∉ X.ex -> b ∉ ch:=fun b o e hx hb=>by
  rcases (hch b hb).1 with z | z
  ·exact hx z
  ·exact absurd (zVN (zU9 e) z) (zVg _)
 have cellK:∀ x c,X.env.cells.lookup x = some c -> ∀ v,s.heap.IsCell c v -> h'.IsCell c v:=fun x c e v ⟨o,ho,hd⟩=>by
  have nch:c ∉ ch:=fun z=>(hch c z).2.2.1 x c e rfl;by_cases hc:c ∈ X.fs
  ·obtain ⟨sl,q⟩:=slot c o (I.cne x c e) hc nch ho (I.freeC x c e);exact ⟨_,q,hd⟩
  ·exact ⟨o,keep c o (I.cne x c e) hc nch ho (I.freeC x c e),hd⟩
 refine ⟨I.ok,I.os,hg,⟨fun b o e n hb hx=>?_,fun b o e n hb hx=>?_,fun b o e n hx=>?_,fun b o e hx=>?_,fun b xs e=>tups b xs (I.base.tups b xs e),fun b o xs e=>frzs b o xs (I.base.frzs b o xs e),fun b ps e=>?_⟩,?_,fun x c e=>?_,?_,fun x c e=>?_,fun p hp=>?_,hok,I.len⟩
 ·exact keep b o (neL b o e) hb (neC b o e hx) (I.base.keep b o e n hb hx) (I.base.free b o e n hx)
 ·obtain ⟨sl,e1⟩:=I.base.slot b o e n hb hx;obtain ⟨sl',e2⟩:=slot b _ (neL b o e) hb (neC b o e hx) e1 (I.base.free b o e n hx);exact ⟨sl',e2⟩
 ·obtain ⟨o',e1⟩:=I.base.there b o e hx;exact free b o' (neC b o e hx) e1 (I.base.free b o e n hx)
 ·obtain ⟨o',e1⟩:=I.base.there b o e hx;exact there b o' (neC b o e hx) e1
 ·obtain ⟨m1,e1⟩:=I.base.tbls b ps e;obtain ⟨m2,e2⟩:=tbls b _ e1;exact ⟨m1 ++ m2,by rw [e2,Array.append_assoc]⟩
 ·obtain ⟨m,hn,hl⟩:=I.loc;refine ⟨m,ns m hn,fun i x v e1 e2 e3=>?_⟩;obtain ⟨u,r,l⟩:=hl i x v e1 e2 e3;refine ⟨u,r,?_⟩;rcases l with l | ⟨k,c,e,z⟩
  ·exact .inl l
  ·exact .inr ⟨k,c,e,cellK x c e _ z⟩
 ·obtain ⟨v,z⟩:=I.cell x c e;exact ⟨v,cellK x c e v z⟩
 ·obtain ⟨m,⟨o,_,_,ho,_⟩,_⟩:=I.loc;exact free _ o (fun z=>(hch _ z).2.1 rfl) ho I.free
 ·obtain ⟨v,o,ho,hd⟩:=I.cell x c e;exact free c o (fun z=>(hch c z).2.2.1 x c e rfl) ho (I.freeC x c e)
 ·obtain ⟨e,n,ne,nf,d⟩:=I.pin p hp;have nch:p.1 ∉ ch:=fun z=>(hch p.1 z).2.2.2 p hp rfl;exact ⟨keep p.1 p.2 ne nf nch e n,free p.1 p.2 nch e n,ne,nf,d⟩
theorem Inv.un {t':Nat} (I:Inv X zB σ H s) (u:Un X.fs [] H H' s.heap h') (hok:HOk X.prog X.w H' h'):Inv X zB σ H' { s with heap:=h',toks:=t' }:=by
 obtain ⟨m,⟨o,es,ep,ho,r⟩,_⟩:=id I.loc;obtain ⟨sl,hL⟩:=u.any ho I.free (by simp);exact I.step (g':=s.gens) (d':=s.drawn) (ch:=[]) (fun _ z=>nomatch z) (fun b o _ hb _ e n=>u.keep b o e n hb (by simp)) (fun b o _ hb _ e n=>u.slot b o e n hb (by simp)) (fun b o _ e n=>u.free b o e n (by simp)) (fun b o _ e=>u.there b o e (by simp)) u.tups u.frzs u.tbls (fun m' hm=>by
  obtain ⟨o',es',ep',ho',r'⟩:=hm;rw [ho] at ho'; cases ho';exact ⟨_,es',ep',hL,r'⟩) hok I.bare
theorem Inv.call {g':Array GenState} {t':Nat} {d':Drawn} {ch:List Addr} (I:Inv X zB σ H s) (u:Un (frs X.stack) ch H H' s.heap h') (hok:HOk X.prog X.w H' h') (hg:AllBare g')
  (hch:∀ b ∈ ch,(b ∈ X.ex \/ X.s₀.heap.objs.size <= b) /\ b ≠ X.env.locals /\ (∀ x c,X.env.cells.lookup x = some c -> c ≠ b) /\ ∀ p ∈ X.pn ++ zB,p.1 ≠ b) :
  Inv X zB σ H' { s with heap:=h',gens:=g',drawn:=d',toks:=t' }:=by
 obtain ⟨m,⟨o,es,ep,ho,r⟩,_⟩:=id I.loc;obtain ⟨sl,hL⟩:=u.any ho I.free fun z=>(hch _ z).2.1 rfl;exact I.step (ch:=ch) hch (fun b o hL hb hc e n=>u.keep b o e n (fun z=>(zVA.mp (I.stkSub b z)).elim hL hb) hc) (fun b o _ _ hc e n=>u.any e n hc) (fun b o hc e n=>u.free b o e n hc) (fun b o hc e=>u.there b o e hc) u.tups u.frzs u.tbls (fun m' hm=>by
  obtain ⟨o',es',ep',ho',r'⟩:=hm;rw [ho] at ho'; cases ho';exact ⟨_,es',ep',hL,r'⟩) hok hg
theorem Inv.turned {t':Nat} {it:Addr} (I:Inv X zB σ H s) (k:∀ b o,b ≠ it -> s.heap.get? b = some o -> h'.get? b = some o) (hn:H it = none) (hL:it ≠ X.env.locals)
  (h1:it ∈ X.ex \/ X.s₀.heap.objs.size <= it) (h2:∀ x c,X.env.cells.lookup x = some c -> c ≠ it) (h3:∀ p ∈ X.pn ++ zB,p.1 ≠ it):Inv X zB σ H { s with heap:=h',toks:=t' }:=by
 have nit:∀ b u,H b = some u -> b ≠ it:=fun b u e z=>by rw [z,hn] at e; cases e
 refine I.step (g':=s.gens) (d':=s.drawn) (ch:=[it]) (fun b hb=>?_) (fun b o _ _ hc e _=>k b o (fun z=>hc (by simp [z])) e) (fun b o _ _ hc e _=>⟨o.slots,k b o (fun z=>hc (by simp [z])) e⟩) (fun _ _ _ _ n=>n)
  (fun b o hc e=>⟨o,k b o (fun z=>hc (by simp [z])) e⟩) (fun _ _ e=>e) (fun _ _ _ e=>e) (fun b ps e=>⟨#[],by rw [e]; simp⟩) (fun m hm=>?_) (fun b u e=>?_) I.bare
 ·have e:b = it:=by simpa using hb
  subst e;exact ⟨h1,hL,h2,h3⟩
 ·obtain ⟨o,es,ep,ho,r⟩:=hm;exact ⟨o,es,ep,k _ o (Ne.symm hL) ho,r⟩
 ·refine (I.hok b u e).stay (fun c v hc q=>k c v ?_ q) (fun _ q=>q) fun _ _ q=>q;rcases hc with z | z
  ·rw [z]; exact nit b u e
  ·exact nit c _ z
theorem Inv.tok (I:Inv X zB σ H s) (t:Nat):Inv X zB σ H { s with toks:=t }:=I.un (h':=s.heap) (t':=t) Un.refl I.hok
theorem Inv.kept {t':Nat} (I:Inv X zB σ H s) (k:∀ b u,s.heap.get? b = some u -> h'.get? b = some u):Inv X zB σ H { s with heap:=h',toks:=t' }:=I.un (Un.kept k) (I.hok.kept k)
theorem Inv.laid {a:Addr} {o:HO} {t':Nat} (I:Inv X zB σ H s) (k:∀ b u,s.heap.get? b = some u -> h'.get? b = some u) (hp:s.heap.objs.size <= a) (new:zAV X.prog X.w (upd H a o) h' a o) :
  Inv X zB σ (upd H a o) { s with heap:=h',toks:=t' }:=I.un (Un.laid k hp (I.hok.fresh hp)) (I.hok.laid k hp new)
theorem Inv.write {x e:Addr} {o:HO} {t':Nat} (I:Inv X zB σ H s) (mu:Mut (H x)) (he:e = x \/ H e = some (.own x)) (k:∀ b u,b ≠ e -> s.heap.get? b = some u -> h'.get? b = some u) (heo:∃ u,h'.get? e = some u)
  (new:zAV X.prog X.w (upd H x o) h' x o):Inv X zB σ (upd H x o) { s with heap:=h',toks:=t' }:=I.un (Un.write mu he k heo) (I.hok.write mu he k heo new)
theorem Inv.weak {σ':List (Option V)} (I:Inv X zB σ H s) (hl:σ'.length = σ.length) (w:∀ (i:Nat) v,σ'[i]? = some (some v) -> σ[i]? = some (some v)):Inv X zB σ' H s :=
 ⟨I.ok,I.os,I.bare,I.base,let ⟨m,hn,hl'⟩:=I.loc; ⟨m,hn,fun i x v e1 e2 e3=>hl' i x v e1 (w i v e2) e3⟩,I.cell,I.free,I.freeC,I.pin,I.hok,hl.trans I.len⟩
theorem Inv.pins_of {pins':List (Addr × Obj)} (I:Inv X zB σ H s) (h:∀ p ∈ pins',s.heap.get? p.1 = some p.2 /\ H p.1 = none /\ p.1 ≠ X.env.locals /\ p.1 ∉ X.fs /\ ∀ v,p.2.data ≠ .cell v):Inv X pins' σ H s :=
 ⟨I.ok,I.os,I.bare,I.base,I.loc,I.cell,I.free,I.freeC,fun p hp=>(zVO.mp hp).elim (fun z=>I.pin p (zWD _ z)) (h p),I.hok,I.len⟩
theorem zLH {N:List Str} (hN:N.Nodup) {i j:Nat} {x:Str} (a:N[i]? = some x) (b:N[j]? = some x):i = j:=by
 obtain ⟨h1,e1⟩:=zU1.mp a;obtain ⟨h2,e2⟩:=zU1.mp b;exact (List.getElem_inj hN).mp (e1.trans e2.symm)
theorem zNB {M:Model} {A:Around} {E:Value -> Shared -> Prop} {i:Nat} {x:Str} {v:V} {u:Value} {Q:Unit -> Shared -> Prop} (I:Inv X zB σ H s) (hN:X.N.Nodup) (hi:X.N[i]? = some x) (hx:Loc X.env.scope x) (r:zAF v u)
  (h:∀ s',Inv X zB (σ.set i (some v)) H s' -> (∃ a,Heap.SameBut a s.heap s'.heap /\ (a = X.env.locals \/ X.env.cells.lookup x = some a)) -> Q () s') (hf:X.fn x = true \/ X.env.scope.names.lookup x = some .local:=by first | exact .inl rfl | exact .inr rfl | assumption):wpAny M A (storeName X.env x u) Q E s:=by
 obtain ⟨m,hn,hl⟩:=id I.loc;have hcls:(X.env.scope.kind == .class || (X.env.scope.kind == .module && X.env.locals != X.env.globals)) = false:=by rw [I.ok.kind]; rfl
 have hiσ:i < σ.length:=by rw [I.len]; exact (zU1.mp hi).1
 have cne:=I.cne;have tracked:∀ {a:Addr} {h':Heap},(∃ o,s.heap.get? a = some o /\ H a = none) -> Heap.SameBut a s.heap h' -> HOk X.prog X.w H h':=fun {a h'} ha hs b ob e=>by
  obtain ⟨_,_,hfree⟩:=ha;refine (I.hok b ob e).stay (fun c w' hc q=>(hs.2 c ?_).trans q) (fun _ q=>q) fun _ _ q=>q;rintro rfl;rcases hc with rfl | hc
  ·rw [hfree] at e; cases e
  ·rw [hfree] at hc; cases hc
 rcases hx with hk | hk
 ·refine wpAny_storeName_local hk hn (fun h' hn' hs=>?_) hcls;obtain ⟨oL,_,_,hoL,_⟩:=id hn;refine h _ ⟨I.ok,I.os,I.bare,⟨fun b o e n hb hx=>?_,fun b o e n hb hx=>?_,I.base.free,fun b o e hx=>?_,I.base.tups,I.base.frzs,I.base.tbls⟩,⟨_,hn',fun j y v' e1 e2 e3=>?_⟩,fun y c e=>?_,I.free,I.freeC,fun p hp=>?_,tracked ⟨oL,hoL,I.free⟩ hs,by simpa using I.len⟩ ⟨_,hs,.inl rfl⟩
  ·exact (hs.2 b (zVJ (zVN (zU9 e) I.ok.above))).trans (I.base.keep b o e n hb hx)
  ·obtain ⟨sl,e1⟩:=I.base.slot b o e n hb hx;exact ⟨sl,(hs.2 b (zVJ (zVN (zU9 e) I.ok.above))).trans e1⟩
  ·obtain ⟨o',e1⟩:=I.base.there b o e hx;exact ⟨o',(hs.2 b (zVJ (zVN (zU9 e) I.ok.above))).trans e1⟩
  ·by_cases hj:j = i
   ·subst hj;rw [hi] at e1; cases e1;rw [zVs hiσ] at e2;cases e2;exact ⟨u,r,.inl ⟨hk,by simp⟩⟩
   ·rw [zVS (Ne.symm hj)] at e2;obtain ⟨u',r',q⟩:=hl j y v' e1 e2 e3;refine ⟨u',r',?_⟩;rcases q with ⟨k,e⟩ | ⟨k,c,e,z⟩
    ·refine .inl ⟨k,?_⟩;have:y ≠ x:=fun e=>hj (zLH hN e1 (e ▸ hi));simp [this,e]
    ·exact .inr ⟨k,c,e,z.sameBut hs (cne y c e)⟩
  ·obtain ⟨w',z⟩:=I.cell y c e;exact ⟨w',z.sameBut hs (cne y c e)⟩
  ·obtain ⟨e,n,ne,nf,d⟩:=I.pin p hp;exact ⟨(hs.2 p.1 ne).trans e,n,ne,nf,d⟩
 ·have hfn:X.fn x = true:=by
   rcases hf with z | z
   ·exact z
   ·rw [z] at hk; cases hk
  obtain ⟨c,hc⟩:=I.ok.has x (.inl hk);obtain ⟨w',z⟩:=I.cell x c hc;refine wpAny_storeName_cell I.ok.kind hk hc z (fun h' hc' hs=>?_);obtain ⟨oc,hoc,hocd⟩:=id z;refine h { s with heap:=h' } ⟨I.ok,I.os,I.bare,⟨fun b o e n hb hx=>?_,fun b o e n hb hx=>?_,I.base.free,fun b o e hx=>?_,I.base.tups,I.base.frzs,I.base.tbls⟩,⟨m,hn.sameBut hs (Ne.symm (cne x c hc)),fun j y v' e1 e2 e3=>?_⟩,fun y c' e=>?_,I.free,I.freeC,fun p hp=>?_,tracked ⟨oc,hoc,I.freeC x c hc⟩ hs,by simpa using I.len⟩ ⟨c,hs,.inr hc⟩
  ·exact (hs.2 b (zVJ (zVN (zU9 e) (I.ok.cab x c hfn hc)))).trans (I.base.keep b o e n hb hx)
  ·obtain ⟨sl,e1⟩:=I.base.slot b o e n hb hx;exact ⟨sl,(hs.2 b (zVJ (zVN (zU9 e) (I.ok.cab x c hfn hc)))).trans e1⟩
  ·obtain ⟨o',e1⟩:=I.base.there b o e hx;exact ⟨o',(hs.2 b (zVJ (zVN (zU9 e) (I.ok.cab x c hfn hc)))).trans e1⟩
  ·by_cases hj:j = i
   ·subst hj;rw [hi] at e1; cases e1;rw [zVs hiσ] at e2;cases e2;exact ⟨u,r,.inr ⟨.inl hk,c,hc,hc'⟩⟩
   ·rw [zVS (Ne.symm hj)] at e2;obtain ⟨u',r',q⟩:=hl j y v' e1 e2 e3;refine ⟨u',r',?_⟩;rcases q with q | ⟨k,c',e,z'⟩
    ·exact .inl q
    ·refine .inr ⟨k,c',e,z'.sameBut hs ?_⟩;rintro rfl;exact hj (zLH hN e1 (I.ok.inj _ _ _ e hc ▸ hi))
  ·by_cases hcc:c' = c
   ·subst hcc; exact ⟨_,hc'⟩
   ·obtain ⟨w2,z2⟩:=I.cell y c' e;exact ⟨w2,z2.sameBut hs hcc⟩
  ·obtain ⟨e,n,ne,nf,d⟩:=I.pin p hp;refine ⟨(hs.2 p.1 ?_).trans e,n,ne,nf,d⟩;intro q;rw [q,hoc] at e;have q':oc = p.2:=zVy e;exact d w' (by rw [<- q']; exact hocd)
theorem zLJ {M:Model} {A:Around} {E:Value -> Shared -> Prop} {i:Nat} {x:Str} {v:V} {u:Value} {Q:Unit -> Shared -> Prop} (I:Inv X zB σ H s) (hN:X.N.Nodup) (hi:X.N[i]? = some x) (hx:Loc X.env.scope x) (r:zAF v u)
  (h:∀ s',Inv X zB (σ.set i (some v)) H s' -> Q () s') (hf:X.fn x = true \/ X.env.scope.names.lookup x = some .local:=by first | exact .inl rfl | exact .inr rfl | assumption):wpAny M A (storeName X.env x u) Q E s :=
 zNB I hN hi hx r (fun s' I' _=>h s' I') hf
theorem Inv.call' {s':Shared} {ch:List Addr} (I:Inv X zB σ H s) (ho:s'.os = s.os) (u:Un (frs X.stack) ch H H' s.heap s'.heap) (hok:HOk X.prog X.w H' s'.heap) (hg:AllBare s'.gens)
  (hch:∀ b ∈ ch,(b ∈ X.ex \/ X.s₀.heap.objs.size <= b) /\ b ≠ X.env.locals /\ (∀ x c,X.env.cells.lookup x = some c -> c ≠ b) /\ ∀ p ∈ X.pn ++ zB,p.1 ≠ b):Inv X zB σ H' s':=by
 obtain ⟨h',g',d',t',o'⟩:=s';have e:o' = s.os:=ho;subst e;exact I.call (g':=g') (t':=t') (d':=d') u hok hg hch
end
abbrev XK:=Value -> Option Addr -> Hp -> Prop
abbrev St:=List (Option V)
abbrev VK:=V -> Hp -> Prop
abbrev TE:=St -> Hp -> VK -> Prop
abbrev TT:=St -> Hp -> (Bool -> Hp -> Prop) -> Prop
abbrev TA:=St -> Hp -> (List V -> Hp -> Prop) -> Prop
structure Ends where
 nx:St -> Hp -> Prop
 rt:VK
 bk:St -> Hp -> Prop:=fun _ _=>False
 ct:St -> Hp -> Prop:=fun _ _=>False
abbrev TS:=Ends -> St -> Hp -> Prop
def EP (X:Cx) (zB:List (Addr × Obj)) (σ:St) (Q:VK) (u:Value) (s':Shared):Prop:=∃ v H',Inv X zB σ H' s' /\ zAF v u /\ Q v H'
def TP (X:Cx) (zB:List (Addr × Obj)) (σ:St) (Q:Bool -> Hp -> Prop) (b:Bool) (s':Shared):Prop:=∃ H',Inv X zB σ H' s' /\ Q b H'
def AP (X:Cx) (zB:List (Addr × Obj)) (σ:St) (Q:List V -> Hp -> Prop) (us:List Value) (s':Shared):Prop:=∃ vs H',Inv X zB σ H' s' /\ zv vs us /\ Q vs H'
def SP (X:Cx) (zB:List (Addr × Obj)) (D:Ends) (f:Flow) (s':Shared):Prop :=
 match f with
 | .next=>∃ σ' H',Inv X zB σ' H' s' /\ D.nx σ' H'
 | .brk=>∃ σ' H',Inv X zB σ' H' s' /\ D.bk σ' H'
 | .cont=>∃ σ' H',Inv X zB σ' H' s' /\ D.ct σ' H'
 | .ret u=>∃ v σ' H',Inv X zB σ' H' s' /\ zAF v u /\ D.rt v H'
def PE (X:Cx) (e:Expr) (t:TE):Prop :=
 ∀ (zB:List (Addr × Obj)) (s:Shared) (σ:St) (H:Hp) (Q:VK),Inv X zB σ H s -> t σ H Q -> wpAny (model X.prog X.w) X.A (eval e X.env) (EP X zB σ Q) X.xe s
def PT (X:Cx) (e:Expr) (t:TT):Prop :=
 ∀ (zB:List (Addr × Obj)) (s:Shared) (σ:St) (H:Hp) (Q:Bool -> Hp -> Prop),Inv X zB σ H s -> t σ H Q -> wpAny (model X.prog X.w) X.A (isTrue e X.env (eval e X.env)) (TP X zB σ Q) X.xe s
def PW (X:Cx) (e:Expr) (t:TT):Prop :=
 ∀ (whole:Sem Value) (zB:List (Addr × Obj)) (s:Shared) (σ:St) (H:Hp) (Q:Bool -> Hp -> Prop),Inv X zB σ H s -> t σ H Q -> wpAny (model X.prog X.w) X.A (isTrue e X.env whole) (TP X zB σ Q) X.xe s
theorem PW.pt {X:Cx} {e:Expr} {t:TT} (h:PW X e t):PT X e t:=h _
def PA (X:Cx) (es:List Expr) (t:TA):Prop :=
 ∀ (pos:Pos) (zB:List (Addr × Obj)) (s:Shared) (σ:St) (H:Hp) (Q:List V -> Hp -> Prop),Inv X zB σ H s -> t σ H Q -> wpAny (model X.prog X.w) X.A (spliced (backTo pos (starEach es X.env))) (AP X zB σ Q) X.xe s
def PS (X:Cx) (st:Stmt) (t:TS):Prop :=
 ∀ (zB:List (Addr × Obj)) (s:Shared) (σ:St) (H:Hp) (D:Ends),Inv X zB σ H s -> t D σ H -> wpAny (model X.prog X.w) X.A (exec st X.env) (SP X zB D) X.xe s
def PSs (X:Cx) (st:List Stmt) (t:TS):Prop :=
 ∀ (zB:List (Addr × Obj)) (s:Shared) (σ:St) (H:Hp) (D:Ends),Inv X zB σ H s -> t D σ H -> wpAny (model X.prog X.w) X.A (execs st X.env) (SP X zB D) X.xe s
theorem thn {α:Type} {t:Sem α} {Q Q':α -> Shared -> Prop} {M:Model} {A:Around} {E:Value -> Shared -> Prop} {s:Shared} (h:wpAny M A t Q E s) (hQ:∀ a s,Q a s -> Q' a s):wpAny M A t Q' E s:=zVU h hQ fun _ _ x=>x
section
variable {X:Cx}
def zSZ (i:Nat):TE:=fun σ H Q=>∃ v,σ[i]? = some (some v) /\ Q v H
def tC (v:V):TE:=fun _ H Q=>Q v H
theorem zTB {i:Nat} {x:Str} {pos:Pos} (hN:X.N[i]? = some x) (hv:Vis X.env.scope x) (hd:(x == ("__debug__" : Str)) = false:=by decide) (hcd:(x == ("__classdict__" : Str)) = false:=by decide):PE X (.Name x pos) (zSZ i):=by
 intro zB s σ H Q I h;obtain ⟨v,e,h⟩:=h;obtain ⟨m,hn,hl⟩:=I.loc;obtain ⟨u,r,l⟩:=hl i x v hN e hv;have fin:EP X zB σ Q u s:=⟨v,H,I,r,h⟩;rcases l with ⟨hk,hm⟩ | ⟨hk,c,hc,hcell⟩
 ·exact wpAny_Name (wpAny_loadName_local I.ok.kind hk hn hm fin) hd
 ·rcases hk with hk | hk
  ·exact wpAny_Name (wpAny_loadName_cell I.ok.kind hk hc hcell fin) hd
  ·exact wpAny_Name (wpAny_loadName_free I.ok.kind hk hc hcell fin hcd) hd
theorem zSt {i j pos}:PE X (.Constant (.int i) j pos) (tC (.int i)):=fun _ _ _ H _ I h=>wpAny_Constant_int ⟨.int i,H,I.tok _,⟨_,rfl⟩,h⟩
theorem zTc {b j pos}:PE X (.Constant (.bool b) j pos) (tC (.bl b)):=fun _ _ _ H _ I h=>Constant_bool ⟨.bl b,H,I,rfl,h⟩
theorem zS0 {j pos}:PE X (.Constant .none j pos) (tC .non):=fun _ _ _ H _ I h=>Constant_none ⟨.non,H,I,rfl,h⟩
theorem zSN {x j pos}:PE X (.Constant (.str x) j pos) (tC (.str x)):=fun _ _ _ H _ I h=>Calls.Constant_str ⟨.str x,H,I.tok _,⟨_,rfl⟩,h⟩
def Gl (X:Cx) (x:Str):Prop:=X.env.kindOf x = some .globalImplicit
theorem zRm {E:Value -> Shared -> Prop} {zB:List (Addr × Obj)} {s:Shared} {σ:St} {H:Hp} {x:Str} {u:Value} {pos:Pos} {Q:Value -> Shared -> Prop} (I:Inv X zB σ H s) (hg:Gl X x) (hm:X.mg x = some u) (h:Q u s)
  (hd:(x == ("__debug__" : Str)) = false:=by decide):wpAny (model X.prog X.w) X.A (eval (.Name x pos) X.env) Q E s :=
 Calls.Name_function_global I.ok.kind hg (Calls.loadGlobal_global (by rw [I.ok.glob]; exact I.mod.glob.keeps I.bk) hm h) hd
theorem zGE {E:Value -> Shared -> Prop} {zB:List (Addr × Obj)} {s:Shared} {σ:St} {H:Hp} {x:Str} {u:Value} {pos:Pos} {Q:Value -> Shared -> Prop} (I:Inv X zB σ H s) (hg:Gl X x) (hm:X.mg x = none) (hv:bootBuiltins x = some u) (h:Q u s)
  (hn:x ≠ "__name__" := by decide) (hd:(x == ("__debug__" : Str)) = false:=by decide):wpAny (model X.prog X.w) X.A (eval (.Name x pos) X.env) Q E s:=by
 obtain ⟨mb,h1,h2⟩:=I.mod.blt;exact Calls.Name_function_global I.ok.kind hg (Calls.loadGlobal_builtin (by rw [I.ok.glob]; exact I.mod.glob.keeps I.bk) hm (by rw [I.ok.blt]; exact h1.keeps I.bk) ((h2 x hn).trans hv) h) hd
theorem zRg {x:Str} {v:V} {u:Value} {pos:Pos} (hg:Gl X x) (hm:X.mg x = none) (hv:bootBuiltins x = some u) (r:zAF v u) (hn:x ≠ "__name__" := by decide) (hd:(x == ("__debug__" : Str)) = false:=by decide):PE X (.Name x pos) (tC v) :=
 fun _ _ _ H _ I h=>zGE I hg hm hv ⟨v,H,I,r,h⟩ hn hd
variable {a b:Expr} {ta tb:TE} {pos:Pos}
def PC (X:Cx) (op:CmpOp) (a b:Expr) (t:TE):Prop :=
 ∀ (zB:List (Addr × Obj)) (s:Shared) (σ:St) (H:Hp) (Q:VK),Inv X zB σ H s -> t σ H Q ->
  wpAny (model X.prog X.w) X.A (eval a X.env) (fun v s₁=>wpAny (model X.prog X.w) X.A (eval b X.env) (fun u s₂=>wpAny (model X.prog X.w) X.A (compareOp op v u) (EP X zB σ Q) X.xe s₂) X.xe s₁) X.xe s
def tB (t:TE):TT:=fun σ H Q=>t σ H fun x H1=>∃ c,x = .bl c /\ Q c H1
theorem zTD {op:CmpOp} {t:TE} (h:PC X op a b t) (h1:behindInMarks op b = false:=by first | exact nobehind _ (by decide) (by decide) | rfl):PE X (.Compare a [op] [b] pos) t:=fun zB s σ H Q I hw=>wpAny_Compare1 (h zB s σ H Q I hw) h1
theorem zPi {op:CmpOp} {t:TE} (h:PC X op a b t) (h1:behindInMarks op b = false:=by first | exact nobehind _ (by decide) (by decide) | rfl):PT X (.Compare a [op] [b] pos) (tB t):=by
 intro zB s σ H Q I hw;refine wpAny_isTrue_Compare1 (thn (h zB s σ H _ I hw) fun v s1 h1=>thn h1 fun u s2 h2=>thn h2 fun c s3 ⟨x,H1,I1,r1,q1⟩=>?_) h1;obtain ⟨d,rfl,q⟩:=q1;cases r1;exact zWA ⟨H1,I1,q⟩
theorem zS3 {e:Expr} {t:TE} (h:PE X e t) (he:∀ whole,isTrue e X.env whole = (do let v <- whole; standAt e.pos; holding [v] (truthy v)):=by intro _; rfl):PT X e (tB t):=by
 intro zB s σ H Q I hw;refine isTrue_plain (thn (h zB s σ H _ I hw) fun v s1 ⟨x,H1,I1,r1,q1⟩=>?_) (he _);obtain ⟨d,rfl,q⟩:=q1;cases r1;exact zWA ⟨H1,I1,q⟩
variable {tA tB':TT} {rest:List Expr}
def zUs (t u:TT):TT:=fun σ H Q=>t σ H fun c H1=>if c = true then u σ H1 Q else Q false H1
def tOr (t u:TT):TT:=fun σ H Q=>t σ H fun c H1=>if c = true then Q true H1 else u σ H1 Q
def zUx (t:TT):TT:=fun σ H Q=>t σ H fun c H1=>Q (!c) H1
theorem zRD (ha:PT X a tA):PW X (.BoolOp .And [a] pos) tA:=by
 intro wh zB s σ H Q I h;refine isTrue_and (thn (ha zB s σ H Q I h) fun c s1 e=>?_);cases c with
 | true=>exact isTrue_and_nil e
 | false=>exact e
theorem zSj (ha:PT X a tA):PW X (.BoolOp .Or [a] pos) tA:=by
 intro wh zB s σ H Q I h;refine isTrue_or (thn (ha zB s σ H Q I h) fun c s1 e=>?_);cases c with
 | false=>exact isTrue_or_nil e
 | true=>exact e
theorem zSn (ha:PT X a tA) (hb:PW X (.BoolOp .And (b :: rest) pos) tB'):PW X (.BoolOp .And (a :: b :: rest) pos) (zUs tA tB'):=by
 intro wh zB s σ H Q I h;refine isTrue_and (thn (ha zB s σ H _ I h) fun c s1 ⟨H1,I1,q1⟩=>?_);cases c with
 | true=>exact hb wh zB s1 σ H1 Q I1 q1
 | false=>exact ⟨H1,I1,q1⟩
theorem zUA (ha:PT X a tA) (hb:PW X (.BoolOp .Or (b :: rest) pos) tB'):PW X (.BoolOp .Or (a :: b :: rest) pos) (tOr tA tB'):=by
 intro wh zB s σ H Q I h;refine isTrue_or (thn (ha zB s σ H _ I h) fun c s1 ⟨H1,I1,q1⟩=>?_);cases c with
 | true=>exact ⟨H1,I1,q1⟩
 | false=>exact hb wh zB s1 σ H1 Q I1 q1
theorem zSy (ha:PT X a tA):PT X (.UnaryOp .Not a pos) (zUx tA):=by
 intro zB s σ H Q I h;exact isTrue_not (ha zB s σ H (fun c H1=>Q (!c) H1) I h)
def zTr (ta tb:TE):TE:=fun σ H Q=>ta σ H fun x H1=>∃ c,x = .bl c /\ if c = true then tb σ H1 Q else Q (.bl false) H1
def zUG (ta:TE):TE:=fun σ H Q=>ta σ H fun x H1=>∃ c,x = .bl c /\ Q (.bl (!c)) H1
theorem zSX {op} {t:TE} (h:PE X a t):PE X (.BoolOp op [a] pos) t:=fun zB s σ H Q I hw=>BoolOp_one (h zB s σ H Q I hw)
theorem zSO (ha:PE X a ta) (hb:PE X (.BoolOp .And (b :: rest) pos) tb):PE X (.BoolOp .And (a :: b :: rest) pos) (zTr ta tb):=by
 intro zB s σ H Q I h;refine BoolOp_and (thn (ha zB s σ H _ I h) fun v s1 ⟨x,H1,I1,r1,q1⟩=>?_);obtain ⟨c,rfl,q1⟩:=q1;cases r1;refine zWA ?_;cases c with
 | true=>exact hb zB s1 σ H1 Q I1 q1
 | false=>exact ⟨.bl false,H1,I1,rfl,q1⟩
theorem zSv (ha:PE X a ta):PE X (.UnaryOp .Not a pos) (zUG ta):=by
 intro zB s σ H Q I h;refine UnaryOp_ (thn (ha zB s σ H _ I h) fun v s1 ⟨x,H1,I1,r1,q1⟩=>?_);obtain ⟨c,rfl,q1⟩:=q1;cases r1;exact not_of (zWA ⟨.bl (!c),H1,I1,rfl,q1⟩)
end
def SqL (K:PySem.W.Frag) (H:Hp) (a:Addr) (xs:List V):Prop :=
 Rd H a (.lst xs) \/
  ∃ (o:Obj) (its:Array Value) (n:Nat),K.lookup a = some o /\ o.cls = .type "list" /\ o.dict = none /\ o.data = .seq its n /\ its.size <= sizeLine /\ zv xs its.toList
def SqT (K:PySem.W.Frag) (H:Hp) (a:Addr) (xs:List V):Prop :=
 Rd H a (.tup xs) \/
  ∃ (o:Obj) (its:Array Value) (n:Nat),K.lookup a = some o /\ o.cls = .type "tuple" /\ o.data = .seq its n /\ its.size <= sizeLine /\ zv xs its.toList
def zUr:Value -> Option V
 | .none=>some .non
 | .bool b=>some (.bl b)
 | .int i _=>some (.int i)
 | .str x _=>some (.str x)
 | .bytes b _=>some (.byt b)
 | .float b _=>some (.flt b)
 | .ref a=>some (.ref a)
 | .type n=>some (.ty n)
 | _=>none
theorem zAF.abs {x:V} {u:Value} (r:zAF x u):zUr u = some x:=by
 cases x with
 | non=>cases r; rfl
 | bl _=>cases r; rfl
 | int _=>obtain ⟨t,rfl⟩:=r; rfl
 | str _=>obtain ⟨t,rfl⟩:=r; rfl
 | byt _=>obtain ⟨t,rfl⟩:=r; rfl
 | flt _=>obtain ⟨t,rfl⟩:=r; rfl
 | ref _=>cases r; rfl
 | ty _=>cases r; rfl
theorem zAF.inj {x y:V} {u:Value} (r:zAF x u) (q:zAF y u):x = y:=zVy (r.abs.symm.trans q.abs)
theorem zv.inj:∀ {xs ys:List V} {us:List Value},zv xs us -> zv ys us -> xs = ys
 | _,_,_,.nil,.nil=>rfl
 | _,_,_,.cons r t,.cons r' t'=>by rw [r.inj r',zv.inj t t']
section
variable {X:Cx} {zB:List (Addr × Obj)} {σ:St} {H:Hp} {s:Shared} {a:Addr} {xs ys:List V}
theorem SqL.of {K:PySem.W.Frag} (h:H a = some (.lst xs)):SqL K H a xs:=.inl (.inl h)
theorem SqT.of {K:PySem.W.Frag} (h:H a = some (.tup xs)):SqT K H a xs:=.inl (.inl h)
theorem Inv.list (I:Inv X zB σ H s) (h:SqL X.K H a xs):∃ its:List Value,zv xs its /\ PlainL s.heap a its.toArray /\ xs.length <= sizeLine:=by
 rcases h with h | ⟨o,its,n,hk,hc,hd,hs,hz,r⟩
 ·obtain ⟨z,its,n,r,e⟩:=h.ok I.hok;exact ⟨its,r,⟨_,n,e,rfl,rfl,rfl⟩,z⟩
 ·refine ⟨its.toList,r,⟨o,n,I.kIn a o hk,hc,hd,by simpa using hs⟩,?_⟩;have e:=r.length;simp only [zVh] at e;omega
theorem Inv.tuple (I:Inv X zB σ H s) (h:SqT X.K H a xs):∃ its:List Value,zv xs its /\ IsTup s.heap a its.toArray /\ xs.length <= sizeLine:=by
 rcases h with h | ⟨o,its,n,hk,hc,hs,hz,r⟩
 ·obtain ⟨z,its,r,p⟩:=h.ok I.hok;exact ⟨its,r,p.tup,z⟩
 ·refine ⟨its.toList,r,⟨o,I.kIn a o hk,hc,n,by simpa using hs⟩,?_⟩;have e:=r.length;simp only [zVh] at e;omega
theorem Inv.list_inj (I:Inv X zB σ H s) (h:SqL X.K H a xs) (h':SqL X.K H a ys):xs = ys:=by
 obtain ⟨its,r,⟨o,n,e,_,_,d⟩,_⟩:=I.list h;obtain ⟨its',r',⟨o',n',e',_,_,d'⟩,_⟩:=I.list h';rw [e] at e'; cases e';rw [d] at d';injection d' with d1 _
 have:its = its':=by simpa using congrArg Array.toList d1
 subst this;exact r.inj r'
theorem Inv.tuple_inj (I:Inv X zB σ H s) (h:SqT X.K H a xs) (h':SqT X.K H a ys):xs = ys:=by
 obtain ⟨its,r,⟨o,e,_,n,d⟩,_⟩:=I.tuple h;obtain ⟨its',r',⟨o',e',_,n',d'⟩,_⟩:=I.tuple h';rw [e] at e'; cases e';rw [d] at d';injection d' with d1 _
 have:its = its':=by simpa using congrArg Array.toList d1
 subst this;exact r.inj r'
end
abbrev Cx.wish (X:Cx) (E:Value -> Shared -> Prop):Cx:={ X with xe:=E }
abbrev Cx.nox (X:Cx):Cx:=X.wish fun _ _=>False
theorem Cx.Ok.wish {X:Cx} (ok:X.Ok) (E:Value -> Shared -> Prop):(X.wish E).Ok :=
 ⟨ok.mod,ok.kind,ok.glob,ok.blt,ok.above,ok.inj,ok.has,ok.cab,ok.hd,ok.frames,ok.stk,ok.exf,ok.bs,ok.bsz,ok.noex,ok.exfs,ok.funs,ok.frf⟩
theorem Cx.Ok.unwish {X:Cx} {E:Value -> Shared -> Prop} (ok:(X.wish E).Ok):X.Ok :=
 ⟨ok.mod,ok.kind,ok.glob,ok.blt,ok.above,ok.inj,ok.has,ok.cab,ok.hd,ok.frames,ok.stk,ok.exf,ok.bs,ok.bsz,ok.noex,ok.exfs,ok.funs,ok.frf⟩
section
variable {X:Cx} {zB:List (Addr × Obj)} {σ:St} {H:Hp} {s:Shared} {E:Value -> Shared -> Prop}
theorem Inv.wish (I:Inv X zB σ H s) (E:Value -> Shared -> Prop):Inv (X.wish E) zB σ H s:=⟨I.ok.wish E,I.os,I.bare,I.base,I.loc,I.cell,I.free,I.freeC,I.pin,I.hok,I.len⟩
theorem Inv.unwish (I:Inv (X.wish E) zB σ H s):Inv X zB σ H s:=⟨I.ok.unwish,I.os,I.bare,I.base,I.loc,I.cell,I.free,I.freeC,I.pin,I.hok,I.len⟩
theorem SP.unwish {D:Ends} {f:Flow} {s':Shared} (h:SP (X.wish E) zB D f s'):SP X zB D f s':=by
 cases f with
 | next=>obtain ⟨σ',H',I,q⟩:=h; exact ⟨σ',H',I.unwish,q⟩
 | brk=>obtain ⟨σ',H',I,q⟩:=h; exact ⟨σ',H',I.unwish,q⟩
 | cont=>obtain ⟨σ',H',I,q⟩:=h; exact ⟨σ',H',I.unwish,q⟩
 | ret u=>obtain ⟨v,σ',H',I,r,q⟩:=h; exact ⟨v,σ',H',I.unwish,r,q⟩
theorem PSs.nox {st:List Stmt} {t:TS} (h:PSs X.nox st t):PSs X st t:=fun zB s σ H D I hw=>
 zVU (h zB s σ H D (I.wish _) hw) (fun _ _ q=>q.unwish) fun _ _ z=>False.elim z
end
section
variable {X:Cx} {st:Stmt} {rest:List Stmt} {t u:TS} {e:Expr} {te:TE} {pos:Pos}
def zUL:TS:=fun D σ H=>D.nx σ H
def zUp (t u:TS):TS:=fun D σ H=>t { D with nx:=u D } σ H
theorem zRr:PSs X [] zUL:=fun _ _ σ H _ I h=>wpAny_execs_nil ⟨σ,H,I,h⟩
theorem zQd (h1:PS X st t) (h2:PSs X rest u):PSs X (st :: rest) (zUp t u):=by
 intro zB s σ H D I h;refine wpAny_execs_cons (thn (h1 zB s σ H { D with nx:=u D } I h) fun f s1 q=>?_);cases f with
 | next=>
  obtain ⟨σ',H',I',q⟩:=q;exact h2 zB s1 σ' H' D I' q
 | ret v=>exact q
 | brk=>exact q
 | cont=>exact q
theorem zQ1 (h1:PS X st t):PSs X [st] t:=by
 intro zB s σ H D I h;refine wpAny_execs_cons (thn (h1 zB s σ H D I h) fun f s1 q=>?_);cases f with
 | next=>exact wpAny_execs_nil q
 | ret v=>exact q
 | brk=>exact q
 | cont=>exact q
theorem Inv.quiet {zB:List (Addr × Obj)} {σ:St} {H:Hp} {s:Shared} (I:Inv X zB σ H s):interactive X.env = false:=by simp [interactive,I.ok.kind]
def zTu (te:TE):TS:=fun D σ H=>te σ H fun _ H1=>D.nx σ H1
theorem zRR (he:PE X e te) (hs:swapsWith e none pos.line X.env = pure false:=by rfl):PS X (.Expr e pos) (zTu te):=by
 intro zB s σ H D I h;exact wpAny_Expr_any (thn (he zB s σ H _ I h) fun v s1 ⟨x,H1,I1,r1,q1⟩=>⟨σ,H1,I1,q1⟩) I.quiet hs
def zUe (te:TE):TS:=fun D σ H=>te σ H D.rt
theorem zTQ (he:PE X e te):PS X (.Return (some e) pos) (zUe te):=by
 intro zB s σ H D I h;exact wpAny_Return_some (thn (he zB s σ H _ I h) fun v s1 ⟨x,H1,I1,r1,q1⟩=>⟨x,σ,H1,I1,r1,q1⟩)
def zUt (c:TT) (t u:TS):TS:=fun D σ H=>c σ H fun b H1=>if b = true then t D σ H1 else u D σ H1
theorem zTb {c:Expr} {a b:List Stmt} {tc:TT} (hc:PT X c tc) (ha:PSs X a t) (hb:PSs X b u):PS X (.If c a b pos) (zUt tc t u):=by
 intro zB s σ H D I h;refine wpAny_If (thn (hc zB s σ H _ I h) fun d s1 ⟨H1,I1,q1⟩=>?_);cases d with
 | true=>exact ha zB s1 σ H1 D I1 q1
 | false=>exact hb zB s1 σ H1 D I1 q1
end
abbrev TG:=V -> St -> Hp -> (St -> Hp -> Prop) -> Prop
abbrev TGs:=List V -> St -> Hp -> (St -> Hp -> Prop) -> Prop
def PG (X:Cx) (target:Expr) (t:TG):Prop :=
 ∀ (zB:List (Addr × Obj)) (s:Shared) (σ:St) (H:Hp) (v:V) (u:Value) (Q:St -> Hp -> Prop),Inv X zB σ H s -> zAF v u -> t v σ H Q ->
  wpAny (model X.prog X.w) X.A (assign target X.env u) (fun _ s'=>∃ σ' H',Inv X zB σ' H' s' /\ Q σ' H') X.xe s
def PGs (X:Cx) (ts:List Expr) (t:TGs):Prop :=
 ∀ (zB:List (Addr × Obj)) (s:Shared) (σ:St) (H:Hp) (vs:List V) (us:List Value) (Q:St -> Hp -> Prop),Inv X zB σ H s -> zv vs us -> t vs σ H Q ->
  wpAny (model X.prog X.w) X.A (assignInOrder ((assignEach ts X.env).map (·.2)) us) (fun _ s'=>∃ σ' H',Inv X zB σ' H' s' /\ Q σ' H') X.xe s
abbrev zSU:=V -> V -> V -> Hp -> (Hp -> Prop) -> Prop
def zTx (X:Cx) (t:zSU):Prop :=
 ∀ (zB:List (Addr × Obj)) (s:Shared) (σ:St) (H:Hp) (o i v:V) (ov iv u:Value) (Q:Hp -> Prop),Inv X zB σ H s -> zAF o ov -> zAF i iv -> zAF v u -> t o i v H Q ->
  wpAny (model X.prog X.w) X.A (setItem ov iv u) (fun _ s'=>∃ H',Inv X zB σ H' s' /\ Q H') X.xe s
section
variable {X:Cx} {pos:Pos}
def zD9 (i:Nat):TG:=fun v σ H Q=>Q (σ.set i (some v)) H
theorem zJo {i:Nat} {x:Str} (hN:X.N.Nodup) (hi:X.N[i]? = some x) (hx:Loc X.env.scope x) (hf:X.fn x = true \/ X.env.scope.names.lookup x = some .local:=by first | exact .inl rfl | exact .inr rfl | assumption):PG X (.Name x pos) (zD9 i):=by
 intro zB s σ H v u Q I r h;exact wpAny_assign_Name (zLJ I hN hi hx r (fun s' I'=>⟨_,H,I',h⟩) hf)
def zTk:TGs:=fun vs σ H Q=>vs = [] /\ Q σ H
def zPe (t:TG) (u:TGs):TGs:=fun vs σ H Q=>∃ v r,vs = v :: r /\ t v σ H fun σ' H'=>u r σ' H' Q
theorem zMq:PGs X [] zTk:=by
 intro zB s σ H vs us Q I r h;obtain ⟨e,h⟩:=h;subst e;cases r;exact assignInOrder_nil ⟨σ,H,I,h⟩
theorem zFx {e:Expr} {es:List Expr} {t:TG} {u:TGs} (h1:PG X e t) (h2:PGs X es u)
  (hs:(assignEach (e :: es) X.env).map (·.2) = assign e X.env :: (assignEach es X.env).map (·.2):=by rfl):PGs X (e :: es) (zPe t u):=by
 intro zB s σ H vs us Q I r h;obtain ⟨v,vr,e1,h⟩:=h;subst e1;cases r with
 | cons r rr=>
  rw [hs];refine assignInOrder_cons (thn (h1 zB s σ H _ _ _ I r h) fun _ s1 ⟨σ1,H1,I1,q1⟩=>?_);exact h2 zB s1 σ1 H1 _ _ Q I1 rr q1
def zUH (K:PySem.W.Frag) (n:Nat) (t:TGs):TG:=fun v σ H Q=>∃ a xs,v = .ref a /\ SqT K H a xs /\ xs.length = n /\ t xs σ H Q
theorem zPA {es:List Expr} {k:Nat} {t:TGs} {n:Nat} (hc:X.calm = true) (h:PGs X es t)
  (hn:(assignEach es X.env).length = n:=by rfl) (hst:(assignEach es X.env).findIdx? (·.1) = none:=by rfl):PG X (.Tuple es k pos) (zUH X.K n t):=by
 intro zB s σ H v u Q I r hw;obtain ⟨a,xs,e1,hq,hl,hw⟩:=hw;subst e1;cases r;obtain ⟨its,rv,ht,hz⟩:=I.tuple hq;refine assign_Tuple_tuple (I.ok.hd hc) ht (by simp [hn,<- hl,rv.length]) hst fun h' hx=>?_;have I1:Inv X zB σ H { s with heap:=h' }:=I.kept (t':=s.toks) fun b o e=>hx b o (zVJ (zU9 e)) e;exact h zB _ σ H xs _ Q I1 (by simpa using rv) hw
def zUj (to ti:TE) (t:zSU):TG:=fun v σ H Q=>to σ H fun o H1=>ti σ H1 fun i H2=>t o i v H2 fun H3=>Q σ H3
theorem zSR {o i:Expr} {to ti:TE} {t:zSU} (ho:PE X o to) (hi:PE X i ti) (hs:zTx X t)
  (ha:∀ v,assign (.Subscript o i pos) X.env v = (do
   let ov <- holding [v] (eval o X.env);let iv <- holding [v,ov] (eval i X.env);standAt pos;holding [v,ov,iv] (setItem ov iv v);release [v,ov,iv] []):=by intro _; rfl):PG X (.Subscript o i pos) (zUj to ti t):=by
 intro zB s σ H v u Q I r h;rw [ha];refine zUy (zVr (thn (ho zB s σ H _ I h) fun ov s1 ⟨x,H1,I1,r1,q1⟩=>?_));refine zUy (zVr (thn (hi zB s1 σ H1 _ I1 q1) fun iv s2 ⟨y,H2,I2,r2,q2⟩=>?_));refine zUy (zVw (zUy (zVr (thn (hs zB s2 σ H2 x y v ov iv u _ I2 r1 r2 r q2) fun _ s3 ⟨H3,I3,q3⟩=>?_))));exact wpAny_release ⟨σ,H3,I3,q3⟩
def zQL (te:TE) (g:TG):TS:=fun D σ H=>te σ H fun x H1=>g x σ H1 D.nx
theorem zPg {tg e:Expr} {te:TE} {g:TG} (he:PE X e te) (hg:PG X tg g) (hs:swapsWithSole [tg] e pos.line X.env = pure false:=by rfl) (hw:swappedStores [tg] e X.env = pure none:=by rfl)
  (h1:(assignEach [tg] X.env).map (·.2) = [assign tg X.env]:=by rfl):PS X (.Assign [tg] e pos) (zQL te g):=by
 intro zB s σ H D I h;refine wpAny_Assign_stores (thn (he zB s σ H _ I h) fun v s1 ⟨x,H1,I1,r1,q1⟩=>?_) hs hw;rw [h1];exact thn (hg zB s1 σ H1 x v _ I1 r1 q1) fun _ s2 q=>q
theorem zSY {i:Nat} {x:Str} {e:Expr} {te:TE} {pos':Pos} (hN:X.N.Nodup) (hi:X.N[i]? = some x) (hx:Loc X.env.scope x) (he:PE X e te) (hs:swapsWith e (some (.Name x pos')) pos.line X.env = pure false:=by rfl) (hf:X.fn x = true \/ X.env.scope.names.lookup x = some .local:=by first | exact .inl rfl | exact .inr rfl | assumption) :
  PS X (.Assign [.Name x pos'] e pos) (zQL te (zD9 i)):=by
 intro zB s σ H D I h;refine wpAny_Assign_Name (thn (he zB s σ H _ I h) fun v s1 ⟨y,H1,I1,r1,q1⟩=>?_) hs;exact zLJ I1 hN hi hx r1 (fun s2 I2=>⟨_,H1,I2,q1⟩) hf
def zPG (c:TT) (tb:TS):TS:=fun D σ H=>∃ W:Nat -> St -> Hp -> Prop,(∃ m,W m σ H) /\ ∀ m σ H,W m σ H ->
 c σ H fun b H1=>if b = true then ∃ N:St -> Hp -> Prop,(∀ σ' H',N σ' H' -> ∃ m',m' < m /\ W m' σ' H') /\ tb { D with nx:=N,ct:=N,bk:=D.nx } σ H1 else D.nx σ H1
theorem zPx {c:Expr} {body:List Stmt} {tc:TT} {tb:TS} (hp:PassesOwn (model X.prog X.w) X.A X.env X.xe) (hc:PT X c tc) (hb:PSs X body tb):PS X (.While c body [] pos) (zPG tc tb):=by
 intro zB s σ H D I h;obtain ⟨W,⟨m0,w0⟩,turn⟩:=h;refine wpAny_While (codeAny_whileLoop (fun n s'=>∃ σ' H',Inv X zB σ' H' s' /\ W n σ' H') ?_ m0 ⟨σ,H,I,w0⟩);rintro n s1 ⟨σ1,H1,I1,w1⟩;refine wpAny_passesOwn hp (thn (hc zB s1 σ1 H1 _ I1 (turn n σ1 H1 w1)) fun b s2 ⟨H2,I2,q2⟩=>?_);cases b with
 | true=>
  obtain ⟨N,hN,q2⟩:=q2;rw [zVD rfl];refine wpAny_passesOwn hp (thn (hb zB s2 σ1 H2 _ I2 q2) fun f s3 q3=>?_);cases f with
  | next=>
   obtain ⟨σ3,H3,I3,n3⟩:=q3;obtain ⟨m',hm,w3⟩:=hN σ3 H3 n3;exact ⟨m',hm,σ3,H3,I3,w3⟩
  | cont=>
   obtain ⟨σ3,H3,I3,n3⟩:=q3;obtain ⟨m',hm,w3⟩:=hN σ3 H3 n3;exact ⟨m',hm,σ3,H3,I3,w3⟩
  | brk=>exact q3
  | ret v=>exact q3
 | false=>
  rw [zVG zVK];exact wpAny_execs_nil ⟨σ1,H2,I2,q2⟩
end
structure It where
 go:Nat -> Hp -> Prop
 yld:Nat -> Hp -> V -> Hp -> Prop
 stop:Nat -> Hp -> Prop
def zC5 (X:Cx) (zB:List (Addr × Obj)) (H:Hp) (b:Addr):Prop :=
 H b = none /\ b ≠ X.env.locals /\ b ∉ X.fs /\ (b ∈ X.ex \/ X.s₀.heap.objs.size <= b) /\ (∀ x c,X.env.cells.lookup x = some c -> c ≠ b) /\ ∀ p ∈ X.pn ++ zB,p.1 ≠ b
theorem Inv.fpOk {X:Cx} {zB:List (Addr × Obj)} {σ:St} {H H':Hp} {s:Shared} {b:Addr} (I:Inv X zB σ H s) (hb:s.heap.objs.size <= b) (hn:H' b = none):zC5 X zB H' b:=by
 refine ⟨hn,Nat.ne_of_gt (zVN I.lt hb),I.nofs hb,.inr (zVP I.sz hb),fun x c e z=>?_,fun p hp z=>?_⟩
 ·obtain ⟨v,q⟩:=I.cell x c e;exact absurd (zVN q.lt (by rw [z]; exact hb)) (zVg _)
 ·exact absurd (zVN (zU9 (I.pin p hp).1) (by rw [z]; exact hb)) (zVg _)
structure Turn (P:Program) (w:World) (K:PySem.W.Frag) (tg:Expr) (J:It) (fp:List Addr) (it:Addr) (tn:Nat -> Heap -> Prop):Prop where
 mem:it ∈ fp
 obj:∀ i h,tn i h -> ∀ b ∈ fp,∃ o,h.get? b = some o /\ ∀ v,o.data ≠ .cell v
 keep:∀ i h h',tn i h -> (∀ b ∈ fp,∀ o,h.get? b = some o -> h'.get? b = some o) -> tn i h'
 item:∀ (X:Cx),X.prog = P -> X.w = w -> X.K = K -> X.calm = true -> ∀ (i:Nat) (zB:List (Addr × Obj)) (s:Shared) (σ:St) (H:Hp) (E:Value -> Shared -> Prop),Inv X zB σ H s -> (∀ b ∈ fp,zC5 X zB H b) -> tn i s.heap -> J.go i H ->
  wpAny (model P w) X.A (pyNext (.ref it)) (fun r s1=>∃ u,r = some u /\
   wpAny (model P w) X.A (letOwnedTupleGo tg (.ref it) u) (fun _ s2=>∃ x H',Inv X zB σ H' s2 /\ zAF x u /\ J.yld i H x H' /\ tn (i + 1) s2.heap /\ ∀ b ∈ fp,H' b = none) E s1) E s
 done:∀ (X:Cx),X.prog = P -> X.w = w -> X.K = K -> X.calm = true -> ∀ (i:Nat) (zB:List (Addr × Obj)) (s:Shared) (σ:St) (H:Hp) (E:Value -> Shared -> Prop),Inv X zB σ H s -> (∀ b ∈ fp,zC5 X zB H b) -> tn i s.heap -> J.stop i H ->
  wpAny (model P w) X.A (pyNext (.ref it)) (fun r s1=>r = none /\ Inv X zB σ H s1) E s
 self:∀ (A:Around) (i:Nat) (s:Shared) (Q:Value -> Shared -> Prop) (E:Value -> Shared -> Prop),tn i s.heap -> Q (.ref it) s -> wpAny (model P w) A (pyIter (.ref it)) Q E s
abbrev TI:=St -> Hp -> (It -> Hp -> Prop) -> Prop
def PIE (X:Cx) (zB:List (Addr × Obj)) (σ:St) (tg:Expr) (R:It -> Hp -> Prop) (itv:Value) (s2:Shared):Prop :=
 ∃ (it:Addr) (fp:List Addr) (tn:Nat -> Heap -> Prop) (J:It) (H':Hp),itv = .ref it /\ Inv X zB σ H' s2 /\ Turn X.prog X.w X.K tg J fp it tn /\ tn 0 s2.heap /\ (∀ b ∈ fp,zC5 X zB H' b) /\ R J H'
def PI (X:Cx) (tg iter:Expr) (wi:TI):Prop :=
  ∀ (zB:List (Addr × Obj)) (s:Shared) (σ:St) (H:Hp) (R:It -> Hp -> Prop),Inv X zB σ H s -> wi σ H R ->
    wpAny (model X.prog X.w) X.A (eval iter X.env) (fun v s1=>wpAny (model X.prog X.w) X.A (pyIter v) (PIE X zB σ tg R) X.xe s1) X.xe s
theorem zPo {M:Model} {A:Around} {E:Value -> Shared -> Prop} {s:Shared} {tg:Expr} {it:Addr} {u:Value} {o:Obj} {n:String} {vs:Array Value} {Q:Unit -> Shared -> Prop} (ho:s.heap.get? it = some o) (hc:o.cls = .type n) (hd:o.data = .fields vs)
    (hn:["enumerate", "zip", "dict_itemiterator", "dict_reverseitemiterator", "odict_iterator", "itertools.zip_longest", "itertools.pairwise"].contains n = false) (hQ:Q () s):wpAny M A (letOwnedTupleGo tg (.ref it) u) Q E s:=by
  unfold letOwnedTupleGo
  cases tg <;> first
    | exact zU0 hQ
    | (cases u <;> first
        | exact zU0 hQ
        | (refine zUy (wpAny_load ho ?_)
           rw [hc,hd];show wpAny M A (if (["enumerate", "zip", "dict_itemiterator", "dict_reverseitemiterator", "odict_iterator", "itertools.zip_longest", "itertools.pairwise"].contains n && vs[0]? == some (rawInt _)) = true then _ else _) Q E s;rw [zVG (by intro h; rw [hn,Bool.false_and] at h; cases h)];exact zU0 hQ))
def Itl (K:PySem.W.Frag) (a:Addr):It :=
 ⟨fun i H=>∃ xs x,SqL K H a xs /\ xs[i]? = some x,fun i H x H'=>H' = H /\ ∀ xs,SqL K H a xs -> xs[i]? = some x,fun i H=>∃ xs,SqL K H a xs /\ xs.length <= i⟩
def Itt (K:PySem.W.Frag) (a:Addr):It :=
 ⟨fun i H=>∃ xs x,SqT K H a xs /\ xs[i]? = some x,fun i H x H'=>H' = H /\ ∀ xs,SqT K H a xs -> xs[i]? = some x,fun i H=>∃ xs,SqT K H a xs /\ xs.length <= i⟩
def Itr (lo:Int) (n:Nat):It:=⟨fun i _=>i < n,fun i H x H'=>H' = H /\ x = .int (lo + i),fun i _=>n <= i⟩
theorem zNL {P:Program} {w:World} {K:PySem.W.Frag} {tg:Expr} (a it:Addr):Turn P w K tg (Itl K a) [it] it (fun i h=>h.IsListIter it a i) where
 mem:=by simp
 obj:=fun i h st b hb=>by
  have e:b = it:=by simpa using hb
  subst e;obtain ⟨o,e,c,d⟩:=st;exact ⟨o,e,fun v z=>by rw [d] at z; cases z⟩
 keep:=fun i h h' st k=>st.at fun o e=>k it (by simp) o e;item:=by
  intro X hP hw hK hc i zB s σ H E I hf st hg;subst hP hw hK;obtain ⟨xs,x,hq,hx⟩:=hg;obtain ⟨its,rv,p,hz⟩:=I.list hq;obtain ⟨u,hu,ru⟩:=rv.get hx;obtain ⟨f0,f1,f2,f3,f4,f5⟩:=hf it (by simp);refine wpAny_pyNext_list_item st p.isList (x:=u) (by simpa using hu) fun h' st' sb=>?_;have I1:Inv X zB σ H { s with heap:=h' }:=I.turned (t':=s.toks) (fun b o hb e=>(sb.2 b hb).trans e) f0 f1 f3 f4 f5;obtain ⟨o,e,c,d⟩:=id st';exact ⟨u,rfl,zPo (s:={ s with heap:=h' }) e c d (by decide) ⟨x,H,I1,ru,⟨rfl,fun ys hy=>by rw [I.list_inj hy hq]; exact hx⟩,st',fun b hb=>(hf b hb).1⟩⟩
 done:=by
  intro X hP hw hK hc i zB s σ H E I hf st hg;subst hP hw hK;obtain ⟨xs,hq,hx⟩:=hg;obtain ⟨its,rv,p,hz⟩:=I.list hq;obtain ⟨f0,f1,f2,f3,f4,f5⟩:=hf it (by simp);have hl:=rv.length;exact wpAny_pyNext_list_end (I.ok.hd hc) st p.isList (by simp; omega) fun h' eb=>⟨rfl,I.turned (t':=s.toks) (fun b o hb e=>eb b o hb e) f0 f1 f3 f4 f5⟩
 self:=fun _ _ _ _ _ st h=>wpAny_pyIter_listiter st h
theorem zLf {P:Program} {w:World} {K:PySem.W.Frag} {tg:Expr} (a it:Addr):Turn P w K tg (Itt K a) [it] it (fun i h=>h.IsTupleIter it a i) where
 mem:=by simp
 obj:=fun i h st b hb=>by
  have e:b = it:=by simpa using hb
  subst e;obtain ⟨o,e,c,d⟩:=st;exact ⟨o,e,fun v z=>by rw [d] at z; cases z⟩
 keep:=fun i h h' st k=>st.at fun o e=>k it (by simp) o e;item:=by
  intro X hP hw hK hc i zB s σ H E I hf st hg;subst hP hw hK;obtain ⟨xs,x,hq,hx⟩:=hg;obtain ⟨its,rv,p,hz⟩:=I.tuple hq;obtain ⟨u,hu,ru⟩:=rv.get hx;obtain ⟨f0,f1,f2,f3,f4,f5⟩:=hf it (by simp);refine wpAny_pyNext_tuple_item st (show s.heap.IsTuple a its.toArray from p) (x:=u) (by simpa using hu) fun h' st' sb=>?_;have I1:Inv X zB σ H { s with heap:=h' }:=I.turned (t':=s.toks) (fun b o hb e=>(sb.2 b hb).trans e) f0 f1 f3 f4 f5;obtain ⟨o,e,c,d⟩:=id st';exact ⟨u,rfl,zPo (s:={ s with heap:=h' }) e c d (by decide) ⟨x,H,I1,ru,⟨rfl,fun ys hy=>by rw [I.tuple_inj hy hq]; exact hx⟩,st',fun b hb=>(hf b hb).1⟩⟩
 done:=by
  intro X hP hw hK hc i zB s σ H E I hf st hg;subst hP hw hK;obtain ⟨xs,hq,hx⟩:=hg;obtain ⟨its,rv,p,hz⟩:=I.tuple hq;obtain ⟨f0,f1,f2,f3,f4,f5⟩:=hf it (by simp);have hl:=rv.length;exact wpAny_pyNext_tuple_end (I.ok.hd hc) st (show s.heap.IsTuple a its.toArray from p) (by simp; omega) fun h' eb=>⟨rfl,I.turned (t':=s.toks) (fun b o hb e=>eb b o hb e) f0 f1 f3 f4 f5⟩
 self:=fun _ _ _ _ _ st h=>wpAny_pyIter_tupleiter st h
theorem zL7 {P:Program} {w:World} {K:PySem.W.Frag} {tg:Expr} (it:Addr) (lo:Int) (n:Nat):Turn P w K tg (Itr lo n) [it] it (fun i h=>IsRangeIter h it (lo + (i:Nat) * 1) ((n:Int) - (i:Nat)) 1) where
 mem:=by simp
 obj:=fun i h st b hb=>by
  have e:b = it:=by simpa using hb
  subst e;exact ⟨_,st,fun v z=>by
   have z':Data.fields _ = Data.cell v:=z;cases z'⟩
 keep:=fun i h h' st k=>k it (by simp) _ st;item:=by
  intro X hP hw hK hc i zB s σ H E I hf st hg;subst hP hw hK;obtain ⟨f0,f1,f2,f3,f4,f5⟩:=hf it (by simp);have W:=Walks.range (prog:=X.prog) (w:=X.w) (I.ok.hd hc) it lo 1 n;refine W.item i s _ _ hg st fun v h' tk hv st' kk=>?_;obtain ⟨t,rfl⟩:=hv;have I1:Inv X zB σ H { s with heap:=h',toks:=tk }:=I.turned (fun b o hb e=>kk b o (by simpa using hb) e) f0 f1 f3 f4 f5;refine ⟨_,rfl,zPo (s:={ s with heap:=h',toks:=tk }) (n := "range_iterator") st' rfl rfl (by decide) ⟨.int (lo + i),H,I1,⟨t,?_⟩,⟨rfl,rfl⟩,st',fun b hb=>(hf b hb).1⟩⟩;rw [Int.mul_one]
 done:=by
  intro X hP hw hK hc i zB s σ H E I hf st hg;subst hP hw hK;obtain ⟨f0,f1,f2,f3,f4,f5⟩:=hf it (by simp);exact wpAny_pyNext_range_end (I.ok.hd hc) st (by have:n <= i:=hg; omega) fun h' eb=>⟨rfl,I.turned (t':=s.toks) (fun b o hb e=>eb b o hb e) f0 f1 f3 f4 f5⟩
 self:=fun _ _ _ _ _ st h=>wpAny_pyIter_rangeiter st h
section
variable {X:Cx} {tg:Expr}
theorem zOV {zB:List (Addr × Obj)} {σ:St} {H:Hp} {s:Shared} {R:It -> Hp -> Prop} {E:Value -> Shared -> Prop} {lo hi:Int} {t u v:Tok} {tk:Nat} (I:Inv X zB σ H s) (h1 : -(2 ^ 62) <= lo) (h2:lo < 2 ^ 62) (h3 : -(2 ^ 62) <= hi) (h4:hi < 2 ^ 62)
  (q:R (Itr lo (hi - lo).toNat) H):wpAny (model X.prog X.w) X.A (pyIter (.ref s.heap.objs.size)) (PIE X zB σ tg R) E { s with heap:=s.heap.push { cls:=.type "range", data:=.fields #[.int lo t,.int hi u,.int 1 v] },toks:=tk }:=by
 refine wpAny_pyIter_range (IsRange.new ..) (small_one h1 h2 h3 h4) ?_;have I1:Inv X zB σ H { s with heap:=s.heap.push { cls:=.type "range", data:=.fields #[.int lo t,.int hi u,.int 1 v] },toks:=tk }:=I.kept fun b o e=>zUz _ e
 refine ⟨(s.heap.push { cls:=.type "range", data:=.fields #[.int lo t,.int hi u,.int 1 v] }).objs.size,[(s.heap.push { cls:=.type "range", data:=.fields #[.int lo t,.int hi u,.int 1 v] }).objs.size],_,_,H,rfl,
  I1.kept (t':=tk) fun b o e=>zUz _ e,zL7 _ lo (hi - lo).toNat,?_,fun b hb=>?_,q⟩
 ·have e1:lo + ((0:Nat):Int) * 1 = lo:=by simp
  have e2:(((hi - lo).toNat:Nat):Int) - ((0:Nat):Int) = Builtin.Range.rangeSize lo hi 1:=by rw [rangeSize_one]; split <;> omega
  show IsRangeIter _ _ (lo + ((0:Nat):Int) * 1) ((((hi - lo).toNat:Nat):Int) - ((0:Nat):Int)) 1;rw [e1,e2];exact zU8 _ rfl
 ·have e:b = (s.heap.push { cls:=.type "range", data:=.fields #[.int lo t,.int hi u,.int 1 v] }).objs.size:=by simpa using hb
  subst e;exact I1.fpOk (zU4 _) (I1.hok.fresh (zU4 _))
def zTn (ta:TA):TI:=fun σ H R=>ta σ H fun vs H1=>∃ j:Int,vs = [.int j] /\ -(2 ^ 62) <= j /\ j < 2 ^ 62 /\ R (Itr 0 j.toNat) H1
theorem zNH {a:Expr} {ta:TA} {p pos:Pos} (hg:Gl X "range") (hm:X.mg "range" = none) (ha:PA X [a] ta) (hs:starEach [a] X.env = [(false,eval a X.env)]:=by rfl):PI X tg (.Call (.Name "range" p) [a] [] pos) (zTn ta):=by
 intro zB s σ H R I h;refine Call_ (zGE I hg hm boot_range (PyProof.Rows.callWith_type1 (thn (ha pos zB s σ H _ I h) fun us s1 ⟨vs,H1,I1,r1,q1⟩=>?_) hs rfl));obtain ⟨j,e,q1,q2,q⟩:=q1;subst e;cases r1 with
 | cons r rr=>
  cases rr;obtain ⟨t,rfl⟩:=r;exact call_range_1 (zOV I1 (by omega) (by omega) q1 q2 (by simpa using q))
def zTw (wi:TI) (g:TG) (tb:TS):TS:=fun D σ H=>wi σ H fun J H1=>∃ W:Nat -> Nat -> St -> Hp -> Prop,(∃ m,W 0 m σ H1) /\ ∀ i m σ H,W i m σ H ->
 (J.stop i H /\ D.nx σ H) \/ (J.go i H /\ ∃ N:St -> Hp -> Prop,(∀ σ' H',N σ' H' -> ∃ m',m' < m /\ W (i + 1) m' σ' H') /\ ∀ x H',J.yld i H x H' -> g x σ H' fun σ2 H2=>tb { D with nx:=N,ct:=N,bk:=D.nx } σ2 H2)
def zDV (fp:List Addr) (h:Heap):List (Addr × Obj):=fp.filterMap fun b=>(h.get? b).map fun o=>(b,o)
theorem zAg {fp:List Addr} {h:Heap} {b:Addr} {o:Obj} (hb:b ∈ fp) (e:h.get? b = some o):(b,o) ∈ zDV fp h:=List.mem_filterMap.mpr ⟨b,hb,by rw [e]; rfl⟩
theorem zIV {fp:List Addr} {h:Heap} {p:Addr × Obj} (hp:p ∈ zDV fp h):p.1 ∈ fp /\ h.get? p.1 = some p.2:=by
 obtain ⟨b,hb,e⟩:=List.mem_filterMap.mp hp;cases q:h.get? b with
 | none=>rw [q] at e; cases e
 | some o=>
  rw [q] at e;have e':(b,o) = p:=zVy e;subst e';exact ⟨hb,q⟩
theorem Inv.pinned {zB:List (Addr × Obj)} {σ:St} {H:Hp} {s:Shared} {fp:List Addr} (I:Inv X zB σ H s) (hf:∀ b ∈ fp,zC5 X zB H b) (ho:∀ b ∈ fp,∃ o,s.heap.get? b = some o /\ ∀ v,o.data ≠ .cell v):Inv X (zB ++ zDV fp s.heap) σ H s :=
 I.pins_of fun p hp=>(zVO.mp hp).elim (fun z=>I.pin p (zVI _ z)) fun z=>by
  obtain ⟨hb,e⟩:=zIV z;obtain ⟨f0,f1,f2,_⟩:=hf p.1 hb;obtain ⟨o,e',d⟩:=ho p.1 hb;rw [e] at e'; cases e';exact ⟨e,f0,f1,f2,d⟩
theorem Inv.unpinned {zB pl:List (Addr × Obj)} {σ:St} {H:Hp} {s:Shared} (I:Inv X (zB ++ pl) σ H s):Inv X zB σ H s:=I.pins_of fun p hp=>I.pin p (zVI _ (zWD _ hp))
theorem zSh {iter:Expr} {body:List Stmt} {wi:TI} {g:TG} {tb:TS} {pos:Pos} (hp:PassesOwn (model X.prog X.w) X.A X.env X.xe) (hc:X.calm = true) (hi:PI X tg iter wi) (hg:PG X tg g) (hb:PSs X body tb)
  (hs:∀ x,foldedSetIterable iter X.env x = pure x:=by intro _; rfl):PS X (.For tg iter body [] pos) (zTw wi g tb):=by
 intro zB s σ H D I h;refine wpAny_For (thn (hi zB s σ H _ I h) fun v s1 h1=>thn h1 fun itv s2 h2=>?_) hs;obtain ⟨it,fp,tn,J,H2,e,I2,T,st2,f2,W,⟨m0,w0⟩,turn⟩:=h2;subst e;have stat:∀ {H':Hp},(∀ b ∈ fp,H' b = none) -> ∀ b ∈ fp,zC5 X zB H' b:=fun hn b hb=>⟨hn b hb,(f2 b hb).2⟩;refine codeAny_forLoop_any (fun n s'=>∃ i σ' H',Inv X zB σ' H' s' /\ tn i s'.heap /\ (∀ b ∈ fp,H' b = none) /\ W i n σ' H') ?_ m0 ⟨0,σ,H2,I2,st2,fun b hb=>(f2 b hb).1,w0⟩;rintro n s3 ⟨i,σ3,H3,I3,st3,fr3,w3⟩;rcases turn i n σ3 H3 w3 with ⟨stop,qn⟩ | ⟨go,N,hN,step⟩
 ·refine wpAny_passesOwn hp (thn (T.done X rfl rfl rfl hc i zB s3 σ3 H3 X.xe I3 (stat fr3) st3 stop) fun r s4 ⟨hr,I4⟩=>?_);subst hr;exact wpAny_execs_nil ⟨σ3,H3,I4,qn⟩
 ·refine wpAny_passesOwn hp (thn (T.item X rfl rfl rfl hc i zB s3 σ3 H3 X.xe I3 (stat fr3) st3 go) fun r s4 ⟨u,hr,h4⟩=>?_);subst hr;refine wpAny_passesOwn hp (thn h4 fun _ s5 ⟨x,H5,I5,r5,y5,st5,fr5⟩=>?_);have I5':=I5.pinned (stat fr5) (T.obj _ _ st5);refine wpAny_passesOwn hp (thn (hg _ s5 σ3 H5 x u _ I5' r5 (step x H5 y5)) fun _ s6 ⟨σ6,H6,I6,q6⟩=>?_);refine wpAny_passesOwn hp (thn (hb _ s6 σ6 H6 _ I6 q6) fun f s7 q7=>?_);have again:∀ {σ7:St} {H7:Hp},Inv X (zB ++ zDV fp s5.heap) σ7 H7 s7 -> N σ7 H7 -> ∃ m,m < n /\ ∃ i σ' H',Inv X zB σ' H' s7 /\ tn i s7.heap /\ (∀ b ∈ fp,H' b = none) /\ W i m σ' H':=fun {σ7 H7} I7 n7=>by
   obtain ⟨m',hm,w7⟩:=hN σ7 H7 n7;refine ⟨m',hm,i + 1,σ7,H7,I7.unpinned,T.keep _ _ _ st5 fun b hb o e=>(I7.pin (b,o) (zVI _ (zVI _ (zAg hb e)))).1,fun b hb=>?_,w7⟩;obtain ⟨o,e,d⟩:=T.obj _ _ st5 b hb;exact (I7.pin (b,o) (zVI _ (zVI _ (zAg hb e)))).2.1
  cases f with
  | next=>obtain ⟨σ7,H7,I7,n7⟩:=q7; exact again I7 n7
  | cont=>obtain ⟨σ7,H7,I7,n7⟩:=q7; exact again I7 n7
  | brk=>obtain ⟨σ7,H7,I7,q7⟩:=q7; exact ⟨σ7,H7,I7.unpinned,q7⟩
  | ret v=>obtain ⟨x7,σ7,H7,I7,r7,q7⟩:=q7; exact ⟨x7,σ7,H7,I7.unpinned,r7,q7⟩
end
abbrev R2:=V -> V -> Hp -> VK -> Prop
def OpR (X:Cx) (f:Value -> Value -> Sem Value) (r:R2):Prop :=
 ∀ (zB:List (Addr × Obj)) (s:Shared) (σ:St) (H:Hp) (x y:V) (v u:Value) (Q:VK),Inv X zB σ H s -> zAF x v -> zAF y u -> r x y H Q ->
  wpAny (model X.prog X.w) X.A (f v u) (EP X zB σ Q) X.xe s
def UnR (X:Cx) (f:Value -> Sem Value) (r:V -> Hp -> VK -> Prop):Prop :=
 ∀ (zB:List (Addr × Obj)) (s:Shared) (σ:St) (H:Hp) (x:V) (v:Value) (Q:VK),Inv X zB σ H s -> zAF x v -> r x H Q ->
  wpAny (model X.prog X.w) X.A (f v) (EP X zB σ Q) X.xe s
def zBz (X:Cx) (f:Value) (r:List V -> Hp -> VK -> Prop):Prop :=
 ∀ (zB:List (Addr × Obj)) (s:Shared) (σ:St) (H:Hp) (xs:List V) (us:List Value) (Q:VK),Inv X zB σ H s -> zv xs us -> r xs H Q ->
  wpAny (model X.prog X.w) X.A (call f us) (EP X zB σ Q) X.xe s
def zUm (X:Cx) (r:V -> Hp -> (Bool -> Hp -> Prop) -> Prop):Prop :=
 ∀ (zB:List (Addr × Obj)) (s:Shared) (σ:St) (H:Hp) (x:V) (v:Value) (Q:Bool -> Hp -> Prop),Inv X zB σ H s -> zAF x v -> r x H Q ->
  wpAny (model X.prog X.w) X.A (truthy v) (TP X zB σ Q) X.xe s
def tOp (r:R2) (ta tb:TE):TE:=fun σ H Q=>ta σ H fun x H1=>tb σ H1 fun y H2=>r x y H2 Q
def tUn (r:V -> Hp -> VK -> Prop) (ta:TE):TE:=fun σ H Q=>ta σ H fun x H1=>r x H1 Q
def rI (C:Int -> Int -> Prop) (g:Int -> Int -> V):R2:=fun x y H Q=>∃ i j,x = .int i /\ y = .int j /\ C i j /\ Q (g i j) H
def rI0 (g:Int -> Int -> V):R2:=fun x y H Q=>∃ i j,x = .int i /\ y = .int j /\ Q (g i j) H
def rU (g:Int -> V):V -> Hp -> VK -> Prop:=fun x H Q=>∃ i,x = .int i /\ Q (g i) H
section
variable {X:Cx} {a b c:Expr} {ta tb tc:TE} {pos:Pos}
theorem zS5 (ha:PE X a ta) (hb:PE X b tb) {zB:List (Addr × Obj)} {s:Shared} {σ:St} {H:Hp} {R:V -> V -> Hp -> Prop} (I:Inv X zB σ H s)
  (h:ta σ H fun x H1=>tb σ H1 fun y H2=>R x y H2) {Q:Value -> Shared -> Prop} {f:Value -> Value -> Sem Value}
  (hf:∀ v u s2 x y H2,Inv X zB σ H2 s2 -> zAF x v -> zAF y u -> R x y H2 -> wpAny (model X.prog X.w) X.A (f v u) Q X.xe s2) :
  wpAny (model X.prog X.w) X.A (eval a X.env) (fun v s₁=>wpAny (model X.prog X.w) X.A (eval b X.env) (fun u s₂=>wpAny (model X.prog X.w) X.A (f v u) Q X.xe s₂) X.xe s₁) X.xe s:=by
 refine thn (ha zB s σ H _ I h) fun v s1 ⟨x,H1,I1,r1,q1⟩=>?_;refine thn (hb zB s1 σ H1 _ I1 q1) fun u s2 ⟨y,H2,I2,r2,q2⟩=>?_;exact hf v u s2 x y H2 I2 r1 r2 q2
theorem zUE {op:Operator} {r:R2} (ho:OpR X (binaryOp op) r) (ha:PE X a ta) (hb:PE X b tb):PE X (.BinOp a op b pos) (tOp r ta tb):=by
 intro zB s σ H Q I h;exact wpAny_BinOp (zS5 ha hb I h fun v u s2 x y H2 I2 rx ry q=>ho zB s2 σ H2 x y v u Q I2 rx ry q)
theorem zTY {op:UnaryOp} {r:V -> Hp -> VK -> Prop} (ho:UnR X (unaryOp op) r) (ha:PE X a ta):PE X (.UnaryOp op a pos) (tUn r ta):=by
 intro zB s σ H Q I h;exact UnaryOp_ (thn (ha zB s σ H _ I h) fun v s1 ⟨x,H1,I1,r1,q1⟩=>ho zB s1 σ H1 x v Q I1 r1 q1)
theorem opI {f:Value -> Value -> Sem Value} {C:Int -> Int -> Prop} {g:Int -> Int -> Int}
  (rule:∀ (i j:Int) (t u:Tok) (s:Shared) (Q:Value -> Shared -> Prop) (E:Value -> Shared -> Prop),C i j -> Q (.int (g i j) s.toks) { s with toks:=s.toks + 1 } -> wpAny (model X.prog X.w) X.A (f (.int i t) (.int j u)) Q E s) :
  OpR X f (rI C fun i j=> .int (g i j)):=by
 intro zB s σ H x y v u Q I rx ry h;obtain ⟨i,j,rfl,rfl,hc,q⟩:=h;obtain ⟨t,rfl⟩:=rx;obtain ⟨t',rfl⟩:=ry;exact rule i j t t' s _ _ hc ⟨.int (g i j),H,I.tok _,⟨_,rfl⟩,q⟩
theorem zTv {f:Value -> Value -> Sem Value} {g:Int -> Int -> Int}
  (rule:∀ (i j:Int) (t u:Tok) (s:Shared) (Q:Value -> Shared -> Prop) (E:Value -> Shared -> Prop),Q (.int (g i j) s.toks) { s with toks:=s.toks + 1 } -> wpAny (model X.prog X.w) X.A (f (.int i t) (.int j u)) Q E s) :
  OpR X f (rI0 fun i j=> .int (g i j)):=by
 intro zB s σ H x y v u Q I rx ry h;obtain ⟨i,j,rfl,rfl,q⟩:=h;obtain ⟨t,rfl⟩:=rx;obtain ⟨t',rfl⟩:=ry;exact rule i j t t' s _ _ ⟨.int (g i j),H,I.tok _,⟨_,rfl⟩,q⟩
theorem zRY {f:Value -> Value -> Sem Value} {g:Int -> Int -> Bool}
  (rule:∀ (i j:Int) (t u:Tok) (s:Shared) (Q:Value -> Shared -> Prop) (E:Value -> Shared -> Prop),Q (.bool (g i j)) s -> wpAny (model X.prog X.w) X.A (f (.int i t) (.int j u)) Q E s) :
  OpR X f (rI0 fun i j=> .bl (g i j)):=by
 intro zB s σ H x y v u Q I rx ry h;obtain ⟨i,j,rfl,rfl,q⟩:=h;obtain ⟨t,rfl⟩:=rx;obtain ⟨t',rfl⟩:=ry;exact rule i j t t' s _ _ ⟨.bl (g i j),H,I,rfl,q⟩
def zUZ (i j:Int):Prop:=0 < j /\ j < 1073741824
def zUh (i j:Int):Prop:=0 <= j /\ j <= 1000000 /\ i.natAbs < 2 ^ 64
def zSG (i j:Int):Prop:=(-(2 ^ 64) < i /\ i < 2 ^ 64) \/ (-(2 ^ 64) < j /\ j < 2 ^ 64)
theorem zSG.ok {i j:Int} (h:zSG i j):IntMulOk i j:=by
 rcases h with ⟨h1,h2⟩ | ⟨h1,h2⟩
 ·exact .of_left (intBits_le_64 h1 h2)
 ·exact .of_right (intBits_le_64 h1 h2)
theorem zSi:OpR X (binaryOp .Add) (rI0 fun i j=> .int (i + j)):=zTv fun _ _ _ _ _ _ _ q=>add_int q
theorem zST:OpR X (binaryOp .Sub) (rI0 fun i j=> .int (i - j)):=zTv fun _ _ _ _ _ _ _ q=>sub_int q
theorem zSe:OpR X (binaryOp .Mult) (rI zSG fun i j=> .int (i * j)):=opI fun _ _ _ _ _ _ _ hc q=>mul_int q hc.ok
theorem zQy:OpR X (binaryOp .FloorDiv) (rI zUZ fun i j=> .int (i / j)):=opI fun i j _ _ _ _ _ hc q=>by
 have h1:(0:Int) < j:=hc.1;have h2:j < 1073741824:=hc.2;exact floordiv_int (by omega) (by rw [Int.fdiv_eq_ediv_of_nonneg i (by omega)]; exact q) (.inl (PyProof.noPylong_small (by omega)))
theorem zSa:OpR X (binaryOp .Mod) (rI (fun _ j=>0 < j) fun i j=> .int (i % j)):=opI fun i j _ _ _ _ _ hc q=>by
 have h1:(0:Int) < j:=hc;exact mod_int' (by omega) (by rw [Int.fmod_eq_emod_of_nonneg i (by omega)]; exact q)
theorem zTE:OpR X (binaryOp .Pow) (rI zUh fun i j=> .int (i ^ j.toNat)):=opI fun _ _ _ _ _ _ _ hc q=>pow_int_small hc.1 hc.2.1 hc.2.2 q
theorem unI {f:Value -> Sem Value} {g:Int -> Int}
  (rule:∀ (i:Int) (t:Tok) (s:Shared) (Q:Value -> Shared -> Prop) (E:Value -> Shared -> Prop),Q (.int (g i) s.toks) { s with toks:=s.toks + 1 } -> wpAny (model X.prog X.w) X.A (f (.int i t)) Q E s) :
  UnR X f (rU fun i=> .int (g i)):=by
 intro zB s σ H x v Q I rx h;obtain ⟨i,rfl,q⟩:=h;obtain ⟨t,rfl⟩:=rx;exact rule i t s _ _ ⟨.int (g i),H,I.tok _,⟨_,rfl⟩,q⟩
theorem zTG:UnR X (unaryOp .USub) (rU fun i=> .int (-i)):=unI fun _ _ _ _ _ q=>neg_int q
end
def zQk:V -> V -> Bool
 | .non,.non=>true | .non,.int _=>true | .int _,.non=>true | .non,.bl _=>true | .bl _,.non=>true | .non,.str _=>true | .str _,.non=>true
 | .int _,.int _=>true | .bl _,.bl _=>true | .str _,.str _=>true | .byt _,.byt _=>true
 | .int _,.str _=>true | .str _,.int _=>true | .bl _,.str _=>true | .str _,.bl _=>true
 | _,_=>false
def rEq:R2:=fun x y H Q=>zQk x y = true /\ Q (.bl (decide (x = y))) H
def rNe:R2:=fun x y H Q=>zQk x y = true /\ Q (.bl (!decide (x = y))) H
theorem zMU {i j:Int}:decide (V.int i = V.int j) = (i == j):=by
 rw [Bool.eq_iff_iff];simp
theorem zQc {i j:Bool}:decide (V.bl i = V.bl j) = (i == j):=by
 rw [Bool.eq_iff_iff];simp
theorem zMp {i j:Str}:decide (V.str i = V.str j) = (i == j):=by
 rw [Bool.eq_iff_iff];simp
theorem zMk {i j:Array UInt8}:decide (V.byt i = V.byt j) = (i.toList == j.toList):=by
 rw [Bool.eq_iff_iff];cases i;cases j;simp
section
variable {X:Cx} {a b c:Expr} {ta tb tc:TE} {pos:Pos}
theorem zAD {zB:List (Addr × Obj)} {σ:St} {H:Hp} {s:Shared} {Q:VK} {k k':Bool} (I:Inv X zB σ H s) (q:Q (.bl k) H) (e:k = k'):EP X zB σ Q (.bool k') s:=by
 subst e;exact ⟨.bl k,H,I,rfl,q⟩
theorem zR8:OpR X (compareOp .Eq) rEq:=by
 intro zB s σ H x y v u Q I rx ry h;obtain ⟨hs,q⟩:=h;cases x with
 | non=>
  cases rx;cases y with
  | non=>cases ry; exact PySem.EqNone.eq_none_none (zAD I q (by simp))
  | bl j=>cases ry; exact PySem.EqNone.eq_none_bool (zAD I q (by simp))
  | int j=>obtain ⟨t',rfl⟩:=ry; exact PySem.EqNone.eq_none_int (zAD I q (by simp))
  | str j=>obtain ⟨t',rfl⟩:=ry; exact PySem.EqNone.eq_none_str (zAD I q (by simp))
  | _=>exact absurd (show false = true from hs) zVK
 | bl i=>
  cases rx;cases y with
  | non=>cases ry; exact PySem.EqNone.eq_bool_none (zAD I q (by simp))
  | bl j=>cases ry; exact eq_bool (zAD I q zQc)
  | str j=>obtain ⟨t',rfl⟩:=ry; exact PySem.EqMixed.eq_bool_str (zAD I q (by simp))
  | _=>exact absurd (show false = true from hs) zVK
 | int i=>
  obtain ⟨t,rfl⟩:=rx;cases y with
  | non=>cases ry; exact PySem.EqNone.eq_int_none (zAD I q (by simp))
  | int j=>obtain ⟨t',rfl⟩:=ry; exact eq_int (zAD I q zMU)
  | str j=>obtain ⟨t',rfl⟩:=ry; exact PySem.EqMixed.eq_int_str (zAD I q (by simp))
  | _=>exact absurd (show false = true from hs) zVK
 | str i=>
  obtain ⟨t,rfl⟩:=rx;cases y with
  | non=>cases ry; exact PySem.EqNone.eq_str_none (zAD I q (by simp))
  | bl j=>cases ry; exact PySem.EqMixed.eq_str_bool (zAD I q (by simp))
  | int j=>obtain ⟨t',rfl⟩:=ry; exact PySem.EqMixed.eq_str_int (zAD I q (by simp))
  | str j=>obtain ⟨t',rfl⟩:=ry; exact eq_str (zAD I q zMp)
  | _=>exact absurd (show false = true from hs) zVK
 | byt i=>
  obtain ⟨t,rfl⟩:=rx;cases y with
  | byt j=>obtain ⟨t',rfl⟩:=ry; exact PySem.W.eq_bytes (zAD I q zMk)
  | _=>exact absurd (show false = true from hs) zVK
 | _=>cases y <;> exact absurd (show false = true from hs) zVK
theorem zUC:OpR X (compareOp .NotEq) rNe:=by
 intro zB s σ H x y v u Q I rx ry h;obtain ⟨hs,q⟩:=h;cases x with
 | non=>
  cases rx;cases y with
  | non=>cases ry; exact PySem.EqNone.ne_none_none (zAD I q (by simp))
  | bl j=>cases ry; exact PySem.EqNone.ne_none_bool (zAD I q (by simp))
  | int j=>obtain ⟨t',rfl⟩:=ry; exact PySem.EqNone.ne_none_int (zAD I q (by simp))
  | str j=>obtain ⟨t',rfl⟩:=ry; exact PySem.EqNone.ne_none_str (zAD I q (by simp))
  | _=>exact absurd (show false = true from hs) zVK
 | bl i=>
  cases rx;cases y with
  | non=>cases ry; exact PySem.EqNone.ne_bool_none (zAD I q (by simp))
  | bl j=>cases ry; exact ne_bool (zAD I q (congrArg not zQc))
  | str j=>obtain ⟨t',rfl⟩:=ry; exact PySem.EqMixed.ne_bool_str (zAD I q (by simp))
  | _=>exact absurd (show false = true from hs) zVK
 | int i=>
  obtain ⟨t,rfl⟩:=rx;cases y with
  | non=>cases ry; exact PySem.EqNone.ne_int_none (zAD I q (by simp))
  | int j=>obtain ⟨t',rfl⟩:=ry; exact ne_int (zAD I q (congrArg not zMU))
  | str j=>obtain ⟨t',rfl⟩:=ry; exact PySem.EqMixed.ne_int_str (zAD I q (by simp))
  | _=>exact absurd (show false = true from hs) zVK
 | str i=>
  obtain ⟨t,rfl⟩:=rx;cases y with
  | non=>cases ry; exact PySem.EqNone.ne_str_none (zAD I q (by simp))
  | bl j=>cases ry; exact PySem.EqMixed.ne_str_bool (zAD I q (by simp))
  | int j=>obtain ⟨t',rfl⟩:=ry; exact PySem.EqMixed.ne_str_int (zAD I q (by simp))
  | str j=>obtain ⟨t',rfl⟩:=ry; exact ne_str (zAD I q (congrArg not zMp))
  | _=>exact absurd (show false = true from hs) zVK
 | byt i=>
  obtain ⟨t,rfl⟩:=rx;cases y with
  | byt j=>obtain ⟨t',rfl⟩:=ry; exact PySem.W.ne_bytes (zAD I q (congrArg not zMk))
  | _=>exact absurd (show false = true from hs) zVK
 | _=>cases y <;> exact absurd (show false = true from hs) zVK
theorem zLI:OpR X (compareOp .Lt) (rI0 fun i j=> .bl (decide (i < j))):=zRY fun _ _ _ _ _ _ _ q=>lt_int q
theorem zR5:OpR X (compareOp .LtE) (rI0 fun i j=> .bl (decide (i <= j))):=zRY fun _ _ _ _ _ _ _ q=>le_int q
theorem zUM:OpR X (compareOp .Gt) (rI0 fun i j=> .bl (decide (j < i))):=zRY fun _ _ _ _ _ _ _ q=>gt_int q
theorem zTs:OpR X (compareOp .GtE) (rI0 fun i j=> .bl (decide (j <= i))):=zRY fun _ _ _ _ _ _ _ q=>ge_int q
theorem OpR.or {f:Value -> Value -> Sem Value} {r r':R2} (h:OpR X f r) (h':OpR X f r'):OpR X f (fun x y H Q=>r x y H Q \/ r' x y H Q):=by
 intro zB s σ H x y v u Q I rx ry q;rcases q with q | q
 ·exact h zB s σ H x y v u Q I rx ry q
 ·exact h' zB s σ H x y v u Q I rx ry q
theorem zEc (b:Expr) {op:CmpOp} (h:op ≠ .In:=by decide) (h2:op ≠ .NotIn:=by decide):behindInMarks op b = false:=by
 have e1:(op == CmpOp.In) = false:=by cases op <;> first | rfl | exact absurd rfl h
 have e2:(op == CmpOp.NotIn) = false:=by cases op <;> first | rfl | exact absurd rfl h2
 cases b <;> simp [behindInMarks,e1,e2]
theorem zRi {op:CmpOp} {r:R2} (ho:OpR X (compareOp op) r) (ha:PE X a ta) (hb:PE X b tb) (hm:behindInMarks op b = false):PE X (.Compare a [op] [b] pos) (tOp r ta tb):=by
 intro zB s σ H Q I h;exact wpAny_Compare1 (zS5 ha hb I h fun v u s2 x y H2 I2 rx ry q=>ho zB s2 σ H2 x y v u Q I2 rx ry q) hm
def zMZ (t:TE):TT:=fun σ H Q=>t σ H fun x H'=>∃ k,x = .bl k /\ Q k H'
theorem zRa {op:CmpOp} {r:R2} (ho:OpR X (compareOp op) r) (ha:PE X a ta) (hb:PE X b tb) (hm:behindInMarks op b = false):PT X (.Compare a [op] [b] pos) (zMZ (tOp r ta tb)):=by
 intro zB s σ H Q I h;refine wpAny_isTrue_Compare1 (thn (ha zB s σ H _ I h) fun v s1 ⟨x,H1,I1,r1,q1⟩=>thn (hb zB s1 σ H1 _ I1 q1) fun u s2 ⟨y,H2,I2,r2,q2⟩=>
  thn (ho zB s2 σ H2 x y v u _ I2 r1 r2 q2) fun c s3 ⟨z,H3,I3,r3,k,e,q3⟩=>?_) hm
 subst e;cases r3;exact zWA ⟨H3,I3,q3⟩
def zOZ (r r':R2) (ta tb tc:TE):TE:=fun σ H Q=>ta σ H fun x H1=>tb σ H1 fun y H2=>r x y H2 fun z H3=>∃ k,z = .bl k /\
 (if k = true then tc σ H3 fun w' H4=>r' y w' H4 Q else Q (.bl false) H3)
theorem zO8 {op op':CmpOp} {r r':R2} (ho:OpR X (compareOp op) r) (ho':OpR X (compareOp op') r') (ha:PE X a ta) (hb:PE X b tb) (hc:PE X c tc)
  (hm:lastMarks [op,op'] [b,c] = false:=by with_unfolding_all rfl):PE X (.Compare a [op,op'] [b,c] pos) (zOZ r r' ta tb tc):=by
 intro zB s σ H Q I h;refine Compare_chain (thn (ha zB s σ H _ I h) fun v s1 ⟨x,H1,I1,r1,q1⟩=>chain_link (thn (hb zB s1 σ H1 _ I1 q1) fun u s2 ⟨y,H2,I2,r2,q2⟩=>
  thn (ho zB s2 σ H2 x y v u _ I2 r1 r2 q2) fun d s3 ⟨z,H3,I3,r3,k,e,q3⟩=>?_)) hm
 subst e;cases r3;refine zWA ?_;cases k with
 | false=>exact ite_ff ⟨.bl false,H3,I3,rfl,q3⟩
 | true=>exact ite_tt (chain_last (thn (hc zB s3 σ H3 _ I3 q3) fun w' s4 ⟨z',H4,I4,r4,q4⟩=>ho' zB s4 σ H4 y z' u w' Q I4 r2 r4 q4))
def zUD (K:PySem.W.Frag) (x:V) (H:Hp) (k:Bool):Prop :=
 match x with
 | .non=>k = false
 | .bl b=>k = b
 | .int i=>k = (i != 0)
 | .str y=>y.length <= sizeLine /\ k = ((y.length:Int) != 0)
 | .byt y=>y.size <= sizeLine /\ k = ((y.size:Int) != 0)
 | .ref p=>(∃ xs,SqL K H p xs /\ k = !xs.isEmpty) \/ (∃ xs,SqT K H p xs /\ k = !xs.isEmpty) \/ ∃ kvs,H p = some (.dK kvs) /\ k = !kvs.isEmpty
 | _=>False
theorem zLV {κ:Type} {kvs:List (κ × V)} {vs:List (κ × Value)} (r:KV kvs vs):(!vs.isEmpty) = !kvs.isEmpty:=by
 cases r <;> rfl
theorem zH2 {xs:List V} {its:List Value} (r:zv xs its):(!its.toArray.isEmpty) = !xs.isEmpty:=by
 cases r <;> simp
theorem zFP:(sizeLine:Nat) < 2 ^ 63:=by rw [sizeLine_eq]; decide
theorem zS6:zUm X (fun x H Q=>∃ k,zUD X.K x H k /\ Q k H):=by
 intro zB s σ H x v Q I rx h;obtain ⟨k,e,q⟩:=h;have hl:=zFP;have hs:sizeLine = 16777216:=sizeLine_eq;cases x with
 | non=>
  cases rx;have e':k = false:=e;subst e';exact truthy_none ⟨H,I,q⟩
 | bl b=>
  cases rx;have e':k = b:=e;subst e';exact zWA ⟨H,I,q⟩
 | int i=>
  obtain ⟨t,rfl⟩:=rx;have e':k = (i != 0):=e;subst e';exact PySem.P.truthy_int ⟨H,I,q⟩
 | str y=>
  obtain ⟨t,rfl⟩:=rx;obtain ⟨hy,e'⟩:y.length <= sizeLine /\ k = ((y.length:Int) != 0):=e;subst e';exact PySem.P.truthy_str (by omega) ⟨H,I.tok _,q⟩
 | byt y=>
  obtain ⟨t,rfl⟩:=rx;obtain ⟨hy,e'⟩:y.size <= sizeLine /\ k = ((y.size:Int) != 0):=e;subst e';exact PySem.W.truthy_bytes (by omega) ⟨H,I.tok _,q⟩
 | ref p=>
  cases rx;have e':(∃ xs,SqL X.K H p xs /\ k = !xs.isEmpty) \/ (∃ xs,SqT X.K H p xs /\ k = !xs.isEmpty) \/ ∃ kvs,H p = some (.dK kvs) /\ k = !kvs.isEmpty:=e;rcases e' with ⟨xs,hx,e'⟩ | ⟨xs,hx,e'⟩ | ⟨kvs,hx,e'⟩
  ·subst e';obtain ⟨its,r,pl,hz⟩:=I.list hx;have hlen:=r.length;exact wpAny_truthy_list pl.isList (by simp only [zU6]; omega) ⟨H,I.tok _,by rw [zH2 r]; exact q⟩
  ·subst e';obtain ⟨its,r,pl,hz⟩:=I.tuple hx;have hlen:=r.length;exact truthy_tuple pl (by simp only [zU6]; omega) ⟨H,I.tok _,by rw [zH2 r]; exact q⟩
  ·subst e';obtain ⟨hz,hS,vs,r,m⟩:kvs.length <= sizeLine /\ (p == sysModules) = false /\ ∃ vs,KV kvs vs /\ s.heap.DictOf (zAn X.prog X.w) p vs:=I.hok p _ hx;have hlen:kvs.length = vs.length:=Paired.length r;exact wpAny_truthy_dict hS m (by omega) ⟨H,I.tok _,by rw [zLV r]; exact q⟩
 | _=>exact (show False from e).elim
theorem zPH (ha:PE X a ta) (he:∀ whole,isTrue a X.env whole = (do let v <- whole; standAt a.pos; holding [v] (truthy v))) :
  PT X a (fun σ H Q=>ta σ H fun x H'=>∃ k,zUD X.K x H' k /\ Q k H'):=by
 intro zB s σ H Q I h;exact isTrue_plain (thn (ha zB s σ H _ I h) fun v s1 ⟨x,H1,I1,r1,q1⟩=>zS6 zB s1 σ H1 x v Q I1 r1 q1) (he _)
theorem zDn {x:V} {us:List Value} (r:zv [x] us):∃ u,us = [u] /\ zAF x u:=by
 cases r with
 | cons r1 r2=>cases r2; exact ⟨_,rfl,r1⟩
theorem zRu {x y:V} {us:List Value} (r:zv [x,y] us):∃ u w',us = [u,w'] /\ zAF x u /\ zAF y w':=by
 cases r with
 | cons r1 r2=>
  cases r2 with
  | cons r3 r4=>cases r4; exact ⟨_,_,rfl,r1,r3⟩
theorem zQI:zBz X (.builtin "abs") (fun xs H Q=>∃ i,xs = [.int i] /\ Q (.int (if i < 0 then -i else i)) H):=by
 intro zB s σ H xs us Q I r h;obtain ⟨i,rfl,q⟩:=h;obtain ⟨u,rfl,t,rfl⟩:=zDn r;exact call_abs_int fun u tk=>⟨.int (if i < 0 then -i else i),H,I.tok _,⟨_,rfl⟩,q⟩
theorem zOK (hc:X.calm = true):zBz X (.builtin "max") (fun xs H Q=>∃ i j,xs = [.int i,.int j] /\ Q (.int (if j > i then j else i)) H):=by
 intro zB s σ H xs us Q I r h;obtain ⟨i,j,rfl,q⟩:=h;obtain ⟨u,w',rfl,⟨t,rfl⟩,⟨t',rfl⟩⟩:=zRu r;refine max_two_ints (I.ok.hd hc) fun h' tk k=>⟨_,H,I.kept k,?_,q⟩;by_cases hj:j > i
 ·rw [zVD hj,zVD hj]; exact ⟨_,rfl⟩
 ·rw [zVG hj,zVG hj]; exact ⟨_,rfl⟩
theorem zOO (hc:X.calm = true):zBz X (.builtin "min") (fun xs H Q=>∃ i j,xs = [.int i,.int j] /\ Q (.int (if j < i then j else i)) H):=by
 intro zB s σ H xs us Q I r h;obtain ⟨i,j,rfl,q⟩:=h;obtain ⟨u,w',rfl,⟨t,rfl⟩,⟨t',rfl⟩⟩:=zRu r;refine min_two_ints (I.ok.hd hc) fun h' tk k=>⟨_,H,I.kept k,?_,q⟩;by_cases hj:j < i
 ·rw [zVD hj,zVD hj]; exact ⟨_,rfl⟩
 ·rw [zVG hj,zVG hj]; exact ⟨_,rfl⟩
theorem zNs:zBz X (.type "int") (fun xs H Q=>(∃ i,xs = [.int i] /\ Q (.int i) H) \/ ∃ k,xs = [.bl k] /\ Q (.int (if k then 1 else 0)) H):=by
 intro zB s σ H xs us Q I r h;rcases h with ⟨i,rfl,q⟩ | ⟨k,rfl,q⟩
 ·obtain ⟨u,rfl,t,rfl⟩:=zDn r;exact call_int_int ⟨.int i,H,I,⟨_,rfl⟩,q⟩
 ·obtain ⟨u,rfl,r1⟩:=zDn r;cases r1;exact call_int_bool ⟨.int (if k then 1 else 0),H,I.tok _,⟨_,rfl⟩,q⟩
end
structure ObjM (h:Heap) (x dx C:Addr) (mA:Str -> Option Value):Prop where
 obj:h.get? x = some (PySem.W.instObj C dx)
 ns:h.Ns1 dx mA
 ne:dx ≠ x
theorem zOJ {h:Heap} {dx:Addr} {mA:Str -> Option Value} (n:h.Ns1 dx mA):∃ od,h.get? dx = some od /\ ∀ name,PySem.W.lookIn name od = some (mA name):=by
 obtain ⟨o,es,ep,ho,hd,hk,_,hm⟩:=n;refine ⟨o,ho,fun name=>?_⟩;have e:=hm name;unfold nsFind findBy at e;rw [<- Array.find?_toList] at e;unfold PySem.W.lookIn;rw [hd];dsimp only;split
 ·rename_i y q;rw [q] at e;exact congrArg some e
 ·rename_i q;rw [q] at e;have a:es.toList.any (·.refKey) = false:=by
   rw [List.any_eq_false];intro y hy;obtain ⟨z,t,hkey⟩:=hk y (Array.mem_toList_iff.mp hy);simp [DictEntry.refKey,hkey]
  have a':¬ es.toList.any (·.refKey) = true:=by rw [a]; exact zVK
  rw [zVG a'];exact congrArg some e
theorem ObjM.look {h:Heap} {x dx C:Addr} {mA:Str -> Option Value} (I:ObjM h x dx C mA):∃ od,PySem.W.InstAt h x (PySem.W.instObj C dx) C (some od) /\ ∀ name,PySem.W.lookIn name od = some (mA name) :=
 let ⟨od,ho,hl⟩:=zOJ I.ns
 ⟨od,⟨I.obj,rfl,rfl,ho⟩,hl⟩
theorem zGB.some_of {v:V} {o:Option Value} (r:zGB (some v) o):∃ u,o = some u /\ zAF v u:=by
 cases o with
 | none=>exact (show False from r).elim
 | some u=>exact ⟨u,rfl,r⟩
section
variable {P:Program} {w:World} {H H':Hp} {h h':Heap} {a C dx:Addr} {fs fs':List (Str × V)}
theorem zRh (hok:HOk P w H h) (e:H a = some (.ins C dx fs)):∃ mA,ObjM h a dx C mA /\ (∀ f,zGB (fs.lookup f) (mA f)) /\ PySem.Within mA (fs.map (·.1)) /\ fs.length <= 1000 /\ H dx = some (.own a):=by
 obtain ⟨d,z,ne,ob,mA,n,r,q⟩:=(show zAV P w H h a (.ins C dx fs) from hok a _ e);exact ⟨mA,⟨ob,n,ne⟩,r,q,z,d⟩
end
structure Cls (K:PySem.W.Frag) (C:Addr):Prop where
 pg:PySem.W.plainGet K C Str.empty = true
 hd:PySem.W.hasDictIn K C = true
 po:PySem.W.plainOver K C = true
 sa:PySem.W.findIn K (.ref C) "__setattr__" = some (some (.builtin "object.__setattr__"))
theorem Cls.get {K:PySem.W.Frag} {C:Addr} (c:Cls K C) (f:Str):PySem.W.plainGet K C f = true:=c.pg
section
variable {X:Cx} {zB:List (Addr × Obj)} {σ:St} {H:Hp} {s:Shared} {A:Around} {E:Value -> Shared -> Prop} {Q:Value -> Shared -> Prop} {c:Value} {b:Bool}
set_option genInjectivity true in
inductive TyOf (K:PySem.W.Frag) (H:Hp):V -> Value -> Prop where
 | non:TyOf K H .non (.type "NoneType")
 | bl (x:Bool):TyOf K H (.bl x) (.type "bool")
 | int (i:Int):TyOf K H (.int i) (.type "int")
 | str (x:Str):TyOf K H (.str x) (.type "str")
 | flt (x:UInt64):TyOf K H (.flt x) (.type "float")
 | lst {a:Addr} {xs:List V} (e:H a = some (.lst xs)):TyOf K H (.ref a) (.type "list")
 | frz {a:Addr} {o:Obj} {xs:List V} (e:H a = some (.frz o (.lst xs))):TyOf K H (.ref a) (.type "list")
 | tup {a:Addr} {xs:List V} (e:H a = some (.tup xs)):TyOf K H (.ref a) (.type "tuple")
 | dK {a:Addr} {kvs:List (Key × V)} (e:H a = some (.dK kvs)):TyOf K H (.ref a) (.type "dict")
 | dT {a:Addr} {kvs:List (List Key × V)} (e:H a = some (.dT kvs)):TyOf K H (.ref a) (.type "dict")
 | ins {a C dx:Addr} {fs:List (Str × V)} (e:H a = some (.ins C dx fs)) (cl:Cls K C) (ha:PySem.W.findIn K (.ref C) "__class__" = some (some (.builtin "object.__class__")))
   (hn:PySem.W.specialIn K (.builtin "object.__class__") "__get__" = some (some (.builtin "getset_descriptor.__get__"))) (htk:PySem.W.takesIn K (.builtin "object.__class__") = some true)
   (hm:PySem.W.mroIn K C (.type "object") = some true):TyOf K H (.ref a) (.ref C)
theorem zN0 {x:V} {u t:Value} (I:Inv X zB σ H s) (rx:zAF x u) (ty:TyOf X.K H x t) (e:PySem.W.kitOne X.K t c = some b) (h:∀ tk,Q (.bool b) { s with toks:=tk }) :
  wpAny (model X.prog X.w) A (call (.builtin "isinstance") [u,c]) Q E s:=by
 cases ty with
 | non=>cases (show u = Value.none from rx); exact zWb PySem.W.kitx_none I.kIn True.intro e (fun z=>nomatch z) h
 | bl y=>cases (show u = Value.bool y from rx); exact zWb PySem.W.kitx_bool I.kIn True.intro e (fun z=>nomatch z) h
 | int i=>obtain ⟨t,q⟩:=(show ∃ t,u = Value.int i t from rx); cases q; exact zWb PySem.W.kitx_int I.kIn True.intro e (fun z=>nomatch z) h
 | str y=>obtain ⟨t,q⟩:=(show ∃ t,u = Value.str y t from rx); cases q; exact zWb PySem.W.kitx_str I.kIn True.intro e (fun z=>nomatch z) h
 | flt y=>obtain ⟨t,q⟩:=(show ∃ t,u = Value.float y t from rx); cases q; exact zWb PySem.W.kitx_float I.kIn True.intro e (fun z=>nomatch z) h
 | @lst a xs ea=>
  cases (show u = Value.ref a from rx);obtain ⟨_,_,n,_,h1⟩:=(show zAV X.prog X.w H s.heap a (.lst xs) from I.hok a _ ea);exact zWb PySem.W.kitx_list I.kIn ⟨_,h1,rfl⟩ e (fun z=>nomatch z) h
 | @frz a ob xs ea=>
  cases (show u = Value.ref a from rx);obtain ⟨_,_,_,n,_,h1⟩:=(show zAV X.prog X.w H s.heap a (.frz ob (.lst xs)) from I.hok a _ ea);exact zWb PySem.W.kitx_list I.kIn ⟨_,h1,rfl⟩ e (fun z=>nomatch z) h
 | @tup a xs ea=>
  cases (show u = Value.ref a from rx);obtain ⟨_,_,_,p⟩:=(show zAV X.prog X.w H s.heap a (.tup xs) from I.hok a _ ea);obtain ⟨o,h1,h2,_⟩:=p;exact zWb PySem.W.kitx_tuple I.kIn ⟨o,h1,h2⟩ e (fun z=>nomatch z) h
 | @dK a kvs ea=>
  cases (show u = Value.ref a from rx);obtain ⟨_,_,vs,_,p⟩:=(show zAV X.prog X.w H s.heap a (.dK kvs) from I.hok a _ ea);obtain ⟨o,es,ep,h1,h2,_⟩:=p;exact zWb PySem.W.kitx_dict I.kIn ⟨o,h1,h2.1⟩ e (fun z=>nomatch z) h
 | @dT a kvs ea=>
  cases (show u = Value.ref a from rx);obtain ⟨_,_,xs,_,o,es,ep,h1,h2,_⟩:=(show zAV X.prog X.w H s.heap a (.dT kvs) from I.hok a _ ea);exact zWb PySem.W.kitx_dict I.kIn ⟨o,h1,h2.1⟩ e (fun z=>nomatch z) h
 | @ins a C dx fs ea cl ha hn htk hm=>
  cases (show u = Value.ref a from rx);obtain ⟨mA,O,_⟩:=zRh I.hok ea;obtain ⟨od,J,_⟩:=O.look;exact zWb (PySem.W.kitx_own (cl.get _) cl.hd ha hn htk hm) I.kIn J e (fun z=>nomatch z) h
end
structure Room (k:Nat) (A:Around):Prop where
 hd:A.handled = none
 dp:A.depth + 3 * k + 5 < recursionLimit
 un:A.units + 16 * k + 200 < cLine
theorem Room.mono {j k:Nat} {A:Around} (r:Room k A) (h:j <= k):Room j A:=⟨r.hd,by have:=r.dp; omega,by have:=r.un; omega⟩
theorem Room.deeper {k:Nat} {A:Around} (r:Room (k + 1) A) (env:Env):Room k (A.deeper env) :=
 ⟨r.hd,by have:=r.dp; show A.depth + 1 + 3 * k + 5 < _; omega,by have:=r.un; show A.units + 3 + 16 * k + 200 < _; omega⟩
theorem Room.depth {k:Nat} {A:Around} (r:Room k A):A.depth < recursionLimit:=by have:=r.dp; omega
theorem Room.units {k:Nat} {A:Around} (r:Room k A):A.units + 64 < cLine:=by have:=r.un; omega
theorem Room.units0 {k:Nat} {A:Around} (r:Room k A):A.units < cLine:=by have:=r.un; omega
def zUu:TA:=fun _ H Q=>Q [] H
def zTg (ta:TE) (tr:TA):TA:=fun σ H Q=>ta σ H fun x H1=>tr σ H1 fun xs H2=>Q (x :: xs) H2
section
variable {X:Cx} {e:Expr} {es:List Expr} {te:TE} {t:TA} {pos:Pos}
theorem zFF:PA X [] zUu:=fun _ _ _ _ H Q I h=>Calls.spliced_nil ⟨[],H,I,.nil,h⟩
theorem zDP (ha:PE X e te) (hr:PA X es t) (hs:starEach (e :: es) X.env = (false,eval e X.env) :: starEach es X.env:=by rfl):PA X (e :: es) (zTg te t):=by
 intro pos zB s σ H Q I h;rw [hs];show wpAny _ _ (spliced ((false,eval e X.env) :: backTo pos (starEach es X.env))) _ _ s;refine Calls.spliced_cons (thn (ha zB s σ H _ I h) fun u s1 ⟨x,H1,I1,r1,q1⟩=>?_);exact thn (hr pos zB s1 σ H1 _ I1 q1) fun us s2 ⟨xs,H2,I2,r2,q2⟩=>⟨x :: xs,H2,I2,.cons r1 r2,q2⟩
def zUW (t:TA):TE:=fun σ H Q=>t σ H fun xs H1=>xs.length <= sizeLine /\ ∀ p,H1 p = none -> Q (.ref p) (upd H1 p (.tup xs))
def zUV (t:TA):TE:=fun σ H Q=>t σ H fun xs H1=>xs.length <= sizeLine /\ ∀ p,H1 p = none -> Q (.ref p) (upd H1 p (.lst xs))
theorem zSV {x1} (h:PA X es t):PE X (.Tuple es x1 pos) (zUW t):=by
 intro zB s σ H Q I hq;refine wpAny_Tuple_spliced (thn (h pos zB s σ H _ I hq) fun us s1 ⟨xs,H1,I1,r,z,q⟩=>⟨by rw [<- r.length]; exact z,?_⟩);have hf:H1 s1.heap.objs.size = none:=I1.hok.fresh (zU4 _);refine ⟨.ref s1.heap.objs.size,upd H1 s1.heap.objs.size (.tup xs),I1.laid (t':=s1.toks) (fun b u e=>zUz _ e) (zU4 _) ?_,rfl,q _ hf⟩;exact ⟨z,us,r,⟨_,zU8 _ rfl,rfl,⟨_,rfl⟩,rfl⟩⟩
theorem zSl (h:PA X es t):PE X (.List es pos) (zUV t):=by
 intro zB s σ H Q I hq;refine wpAny_List_spliced (thn (h pos zB s σ H _ I hq) fun us s1 ⟨xs,H1,I1,r,z,q⟩=>⟨by rw [<- r.length]; exact z,?_⟩);have hf:H1 s1.heap.objs.size = none:=I1.hok.fresh (zU4 _);refine ⟨.ref s1.heap.objs.size,upd H1 s1.heap.objs.size (.lst xs),I1.laid (t':=s1.toks) (fun b u e=>zUz _ e) (zU4 _) ?_,rfl,q _ hf⟩;exact ⟨z,us,0,r,zU8 _ rfl⟩
end
abbrev Sp:=List V -> Hp -> VK -> XK -> Prop
abbrev CXT:=List Env -> Hp -> Shared -> XK -> Value -> Shared -> Prop
structure Env0 (P:Program) (w:World) (K:PySem.W.Frag) (mg:Str -> Option Value) (base:Heap) (A:Around) (outer:List Env) (s:Shared) (H:Hp):Prop where
 frames:A.frames = some outer
 mod:Mod K mg base
 bs:∀ b o,base.get? b = some o -> s.heap.get? b = some o /\ H b = none
 bsz:base.objs.size <= s.heap.objs.size
 funs:s.heap.FunFrames base outer
 frf:∀ b ∈ frs outer,H b = none
 hok:HOk P w H s.heap
 bare:AllBare s.gens
def CE (outer:List Env) (P:Program) (w:World) (H:Hp) (s:Shared) (Q:VK) (u:Value) (s':Shared):Prop :=
 ∃ v H',s'.os = s.os /\ AllBare s'.gens /\ Un (frs outer) [] H H' s.heap s'.heap /\ HOk P w H' s'.heap /\ zAF v u /\ Q v H'
def CR (CX:CXT) (outer:List Env) (P:Program) (w:World) (H:Hp) (s:Shared) (Q:VK) (E:XK) (r:Result) (s':Shared):Prop :=
 match r with
 | .ok (.ret u)=>CE outer P w H s Q u s'
 | .ok _=>False
 | .error e=>CX outer H s E e s'
structure FnOk (P:Program) (w:World) (K:PySem.W.Frag) (mg:Str -> Option Value) (base:Heap) (CX:CXT) (k:Nat) (f:Addr) (fd:FuncData) (ps:List Str) (sp:Sp):Prop where
 len:∀ vs H Q E,sp vs H Q E -> vs.length = ps.length
 run:∀ (A:Around) (outer:List Env) (s:Shared) (H:Hp) (args:Args) (us:List Value) (vs:List V) (Q:VK) (E:XK),Room k A -> Env0 P w K mg base A outer s H -> BindsTo s fd args (ps.zip us) -> zv vs us -> sp vs H Q E ->
  codeAny (model P w) A (.call (.ref f) args) (CR CX outer P w H s Q E) s
theorem FnOk.imp {P:Program} {w:World} {K:PySem.W.Frag} {mg:Str -> Option Value} {base:Heap} {CX:CXT} {k:Nat} {f:Addr} {fd:FuncData} {ps:List Str} {sp sp':Sp} (F:FnOk P w K mg base CX k f fd ps sp)
  (h:∀ vs H Q E,sp' vs H Q E -> sp vs H Q E):FnOk P w K mg base CX k f fd ps sp' :=
 ⟨fun vs H Q E q=>F.len vs H Q E (h _ _ _ _ q),fun A outer s H args us vs Q E hr he hb hv hs=>F.run A outer s H args us vs Q E hr he hb hv (h _ _ _ _ hs)⟩
section
variable {X:Cx} {zB:List (Addr × Obj)} {σ:St} {H:Hp} {s s':Shared}
theorem Inv.env0 (I:Inv X zB σ H s):Env0 X.prog X.w X.K X.mg X.base X.A X.stack s H :=
 ⟨I.ok.frames,I.ok.mod,I.bs,zVP I.ok.bsz I.sz,I.stack,I.stkFree,I.hok,I.bare⟩
theorem Inv.after {Q:VK} {u:Value} (I:Inv X zB σ H s) (h:CE X.stack X.prog X.w H s Q u s'):EP X zB σ Q u s':=by
 obtain ⟨v,H',os,bare,un,hok,r,q⟩:=h;obtain ⟨hh,g,d,t,os'⟩:=s';obtain rfl:os' = s.os:=os;exact ⟨v,H',I.call (h':=hh) (g':=g) (d':=d) (t':=t) (ch:=[]) un hok bare (fun b z=>absurd z (by simp)),r,q⟩
end
def zTy (sp:Sp) (dvs:List V) (E:XK) (t:TA):TE:=fun σ H Q=>t σ H fun vs H1=>sp (vs ++ dvs) H1 Q E
def zHz (K:PySem.W.Frag) (fd:FuncData) (ps:List Str) (ds:List Value):Prop :=
 ∀ (s:Shared) (us:List Value),K.In s.heap -> (us ++ ds).length = ps.length -> BindsTo s fd ⟨us,[]⟩ (ps.zip (us ++ ds))
theorem zHz.all {K:PySem.W.Frag} {fd:FuncData} {ps:List Str} (h:∀ us:List Value,us.length = ps.length -> bindArgs fd ⟨us,[]⟩ = pure (ps.zip us)):zHz K fd ps []:=fun s us _ hl=>by
 rw [zVi] at hl ⊢;exact .of_eq (h us hl)
def zLs (CX:CXT) (X:Cx) (E:XK):Prop:=∀ (zB:List (Addr × Obj)) (σ:St) (H:Hp) (s:Shared) (e:Value) (s':Shared),Inv X zB σ H s -> CX X.stack H s E e s' -> X.xe e s'
section
variable {X:Cx} {CX:CXT} {k:Nat} {f C:Addr} {fd:FuncData} {ps:List Str} {sp:Sp} {dvs:List V} {ds:List Value} {E:XK} {x m:Str} {p pos apos:Pos} {e o:Expr} {es:List Expr} {ta:TE} {t:TA}
theorem zTS {zB:List (Addr × Obj)} {σ:St} {H:Hp} {s:Shared} {Q:VK} {us:List Value} {vs:List V} (F:FnOk X.prog X.w X.K X.mg X.base CX k f fd ps sp) (hr:Room k X.A) (hb:zHz X.K fd ps ds) (hd:zv dvs ds) (hx:zLs CX X E)
  (I:Inv X zB σ H s) (r:zv vs us) (h:sp (vs ++ dvs) H Q E):wpAny (model X.prog X.w) X.A (call (.ref f) us) (EP X zB σ Q) X.xe s:=by
 have r2:zv (vs ++ dvs) (us ++ ds):=r.append hd;have hl:(us ++ ds).length = ps.length:=by rw [<- r2.length]; exact F.len _ _ _ _ h
 refine wpAny_call (codeAny_mono (F.run X.A X.stack s H ⟨us,[]⟩ (us ++ ds) (vs ++ dvs) Q E hr I.env0 (hb s us I.kIn hl) r2 h) fun r s' hq=>?_);cases r with
 | error e=>exact hx zB σ H s e s' I hq
 | ok fl=>
  cases fl with
  | ret u=>exact I.after hq
  | next=>exact False.elim hq
  | brk=>exact False.elim hq
  | cont=>exact False.elim hq
theorem zRj (F:FnOk X.prog X.w X.K X.mg X.base CX k f fd ps sp) (hr:Room k X.A) (hg:Gl X x) (hm:X.mg x = some (.ref f)) (hk:PySem.W.keepIn X.K (.ref f) = true) (hb:zHz X.K fd ps ds) (hd:zv dvs ds) (hx:zLs CX X E)
  (ha:PA X (e :: es) t) (hdb:(x == ("__debug__" : Str)) = false:=by decide) (he:starEach (e :: es) X.env = (false,eval e X.env) :: starEach es X.env:=by rfl) (hpl:(backTo pos (starEach es X.env)).any (·.1) = false:=by rfl) :
  PE X (.Call (.Name x p) (e :: es) [] pos) (zTy sp dvs E t):=by
 intro zB s σ H Q I h;refine wpAny_Call_Name_kw (zRm I hg hm ?_ hdb);refine PySem.W.callWith_K (h₀:=X.base) I.ok.mod.kin hk (thn (ha pos zB s σ H _ I h) fun us s1 ⟨vs,H1,I1,r,q⟩=>⟨I1.kIn,?_⟩) he hpl;exact zTS F hr hb hd hx I1 r q
end
structure FnScope (N P:List Str) (sc:Scope):Prop where
 kind:sc.kind = .function
 co:sc.isCoroutine = false
 gen:sc.isGenerator = false
 nd:N.Nodup
 pre:N.take P.length = P
 par:∀ x ∈ P,sc.names.lookup x = some .local \/ sc.names.lookup x = some .cell
 nofree:∀ y ∈ sc.names,y.2 ≠ .free
theorem zJB {kindOf:Str -> Option NameKind} {x:Str}:∀ {binds:List (Str × Value)} {m:Str -> Option Value},(∀ v,(x,v) ∉ binds) -> bindL kindOf binds m x = m x
 | [],_,_=>rfl
 | (n,v) :: r,m,h=>by
  unfold bindL;rw [zJB fun w hw=>h w (zVB _ hw)];split
  ·have:x ≠ n:=by rintro rfl; exact h v zVC
   simp [this]
  ·rfl
theorem zIp {kindOf:Str -> Option NameKind} {x:Str}:∀ {binds:List (Str × Value)} {m:Str -> Option Value},(∀ v,(x,v) ∉ binds) -> bindC kindOf binds m x = m x
 | [],_,_=>rfl
 | (n,v) :: r,m,h=>by
  unfold bindC;rw [zIp fun w hw=>h w (zVB _ hw)];split
  ·rfl
  ·have:x ≠ n:=by rintro rfl; exact h v zVC
   simp [this]
theorem zIb {kindOf:Str -> Option NameKind} {x:Str} {v:Value}:∀ {P:List Str} {vs:List Value} {i:Nat} {m:Str -> Option Value},P.Nodup -> P[i]? = some x -> vs[i]? = some v -> kindOf x = some .local ->
  bindL kindOf (P.zip vs) m x = some v
 | [],_,_,_,_,h,_,_=>by simp at h
 | _ :: _,[],_,_,_,_,h,_=>by simp at h
 | p :: P,w :: vs,0,m,nd,h1,h2,hk=>by
  simp at h1 h2; subst h1; subst h2;show bindL kindOf ((p,w) :: P.zip vs) m p = _;unfold bindL;rw [zJB fun v hv=>(List.nodup_cons.mp nd).1 (List.of_mem_zip hv).1,zVD hk];simp
 | p :: P,w :: vs,i + 1,m,nd,h1,h2,hk=>by
  show bindL kindOf ((p,w) :: P.zip vs) m x = _;unfold bindL;exact zIb (i:=i) (List.nodup_cons.mp nd).2 (by simpa using h1) (by simpa using h2) hk
theorem zIr {kindOf:Str -> Option NameKind} {x:Str} {v:Value}:∀ {P:List Str} {vs:List Value} {i:Nat} {m:Str -> Option Value},P.Nodup -> P[i]? = some x -> vs[i]? = some v -> kindOf x ≠ some .local ->
  bindC kindOf (P.zip vs) m x = some v
 | [],_,_,_,_,h,_,_=>by simp at h
 | _ :: _,[],_,_,_,_,h,_=>by simp at h
 | p :: P,w :: vs,0,m,nd,h1,h2,hk=>by
  simp at h1 h2; subst h1; subst h2;show bindC kindOf ((p,w) :: P.zip vs) m p = _;unfold bindC;rw [zIp fun v hv=>(List.nodup_cons.mp nd).1 (List.of_mem_zip hv).1,zVG hk];simp
 | p :: P,w :: vs,i + 1,m,nd,h1,h2,hk=>by
  show bindC kindOf ((p,w) :: P.zip vs) m x = _;unfold bindC;exact zIr (i:=i) (List.nodup_cons.mp nd).2 (by simpa using h1) (by simpa using h2) hk
def zE1 (N:List Str) (vs:List V):St:=vs.map some ++ List.replicate (N.length - vs.length) none
def zLm (CX:CXT) (P:Program) (w:World) (K:PySem.W.Frag) (mg:Str -> Option Value) (base:Heap) (N:List Str) (qual:Str) (scope:Scope) (f:Addr) (cd:Value) (A:Around) (outer:List Env) (s:Shared) (H:Hp) (E:XK):Cx where
 prog:=P
 w:=w
 K:=K
 mg:=mg
 base:=base
 A:=A.deeper (envOfC qual scope s.heap.objs.size f cd)
 N:=N
 s₀:=s
 H₀:=H
 env:=envOfC qual scope s.heap.objs.size f cd
 outer:=outer
 stack:=envOfC qual scope s.heap.objs.size f cd :: outer
 ex:=[]
 calm:=true
 fn:=fun _=>true
 pn:=[]
 xe:=fun e s'=>wpAny (model P w) (A.deeper (envOfC qual scope s.heap.objs.size f cd)) (leaving (envOfC qual scope s.heap.objs.size f cd) e) (fun _ s''=>CX outer H s E e s'') (fun e' s''=>CX outer H s E e' s'') s'
theorem zHF {sc:Scope} {n:Nat} {x:Str} (h:sc.names.lookup x = some .cell):∃ c,(cellsFrom n sc.names []).lookup x = some c:=by
 have q:=PySem.W.cellsFrom_some sc.names n [] (.inl h);exact Option.isSome_iff_exists.mp q
theorem zNK {CX:CXT} {P:Program} {w:World} {K:PySem.W.Frag} {mg:Str -> Option Value} {base:Heap} {N ps:List Str} {qual:Str} {scope:Scope} {f:Addr} {cd:Value} {A:Around} {outer:List Env} {s s1:Shared} {H:Hp} {E:XK} {us:List Value} {vs:List V}
  (S:FnScope N ps scope) (hd:A.handled = none) (e0:Env0 P w K mg base A outer s H) (hl:vs.length = ps.length) (r:zv vs us)
  (x:InCallC s s.heap.objs.size (bindL (envOfC qual scope s.heap.objs.size f cd).kindOf (ps.zip us) fun _=>none) (cellsFrom (s.heap.objs.size + 1) scope.names []) (bindC (envOfC qual scope s.heap.objs.size f cd).kindOf (ps.zip us) fun _=>none) s1) :
  Inv (zLm CX P w K mg base N qual scope f cd A outer s H E) [] (zE1 N vs) H s1:=by
 have hpl:ps.length <= N.length:=by have:=congrArg List.length S.pre; rw [zWM] at this; omega
 obtain ⟨h1,tk,rfl,hk⟩:=x.done;have noA:∀ b:Addr,b ∉ (zLm CX P w K mg base N qual scope f cd A outer s H E).ex:=fun b z=>absurd (show b ∈ ([]:List Addr) from z) (by simp)
 refine ⟨⟨e0.mod,S.kind,rfl,rfl,zU4 _,fun y z c h1 h2=>?_,fun y hy=>?_,fun y c _ h=>?_,fun _=>hd,Around.frames_deeper e0.frames,.inr ⟨rfl,rfl⟩,fun b z=>absurd z (noA b),e0.bs,e0.bsz,fun b _ _=>noA b,fun b z=>absurd z (noA b),e0.funs,e0.frf⟩,
  rfl,e0.bare,Un.kept hk,⟨_,x.toInCall.ns,fun i y v h1 h2 h3=>?_⟩,fun y c h=>⟨_,x.cell y c h⟩,e0.hok.fresh (zU4 _),fun y c h=>?_,fun p hp=>absurd (show p ∈ ([]:List (Addr × Obj)) from hp) (by simp),e0.hok.kept hk,?_⟩
 ·exact name_of_addr x.apart (zV0 h1) (zV0 h2)
 ·have hy:scope.names.lookup y = some .cell \/ scope.names.lookup y = some .free:=hy;rcases hy with hy | hy
  ·exact zHF hy
  ·exact absurd rfl (S.nofree _ (zV0 hy))
 ·exact Nat.le_of_lt (x.above y c (zV0 h))
 ·have hi:i < vs.length:=by
   unfold zE1 at h2;by_cases hi:i < vs.length
   ·exact hi
   ·rw [zV8 (by simpa using hi)] at h2;rw [List.getElem?_replicate] at h2;split at h2 <;> cases h2
  have ha:vs[i]? = some v:=by
   unfold zE1 at h2;rw [zU5 (by simpa using hi),zVL] at h2;cases e:vs[i]? with
   | none=>rw [e] at h2; cases h2
   | some a=>rw [e] at h2; cases h2; rfl
  obtain ⟨u,hu,rv⟩:=r.get ha;have hp:ps[i]? = some y:=by
   rw [<- S.pre,List.getElem?_take_of_lt (by omega)]; exact h1
  have ndP:ps.Nodup:=by rw [<- S.pre]; exact S.nd.sublist (List.take_sublist _ _)
  refine ⟨u,rv,?_⟩;rcases S.par y (List.mem_of_getElem? hp) with k | k
  ·exact .inl ⟨k,zIb ndP hp hu k⟩
  ·obtain ⟨c,e⟩:=zHF (n:=s.heap.objs.size + 1) k;refine .inr ⟨.inl k,c,e,?_⟩;have q:=x.cell y c e;rw [zIr ndP hp hu (by show scope.names.lookup y ≠ _; rw [k]; decide)] at q;exact q
 ·exact e0.hok.fresh (Nat.le_of_lt (x.above y c (zV0 h)))
 ·unfold zE1;show _ = N.length;rw [zVE,zU7,List.length_replicate];omega
theorem zUR {CX:CXT} {P:Program} {w:World} {K:PySem.W.Frag} {mg:Str -> Option Value} {base:Heap} {k:Nat} {f:Addr} {name qual:Str} {params:Arguments} {body:List Stmt} {scope:Scope} {dV kV doc pm cdv ct oc:Value} {an od:Option Addr}
  {osl:Array (Option Value)} {N ps:List Str} {sp:Sp} (lk:K.lookup f = some ⟨oc,od,.func (PySem.W.fnOf name qual params body scope dV kV doc pm an cdv ct),osl⟩) (hcd:PySem.W.codeIn K cdv qual = true) (S:FnScope N ps scope)
  (len:∀ vs H Q E,sp vs H Q E -> vs.length = ps.length)
  (hbody:∀ (A:Around) (outer:List Env) (s:Shared) (H:Hp) (vs:List V) (Q:VK) (E:XK),Room k (A.deeper (envOfC qual scope s.heap.objs.size f cdv)) -> sp vs H Q E ->
   ∃ t,PSs (zLm CX P w K mg base N qual scope f cdv A outer s H E) body t /\ t { nx:=fun _ H'=>Q .non H',rt:=Q } (zE1 N vs) H) :
  FnOk P w K mg base CX (k + 1) f (PySem.W.fnOf name qual params body scope dV kV doc pm an cdv ct) ps sp:=by
 refine ⟨len,fun A outer s H args us vs Q E hr e0 hb r hsp=>?_⟩;have hl:=len _ _ _ _ hsp;have KX:K.In s.heap:=e0.mod.kin.keeps fun b o e=>(e0.bs b o e).1;have lim:s.heap.NoLimit:=e0.mod.nolimit.keeps fun b o e=>(e0.bs b o e).1;have hkind:∀ y ∈ ps.zip us,scope.names.lookup y.1 = some .local \/ (scope.names.lookup y.1 = some .cell /\ ((cellsFrom (s.heap.objs.size + 1) scope.names []).lookup y.1).isSome = true):=fun ⟨n,v⟩ hy=>by
  rcases S.par n (List.of_mem_zip hy).1 with q | q
  ·exact .inl q
  ·exact .inr ⟨q,PySem.W.cellsFrom_some _ _ _ (.inl q)⟩
 refine codeAny_call_function hr.depth (KX _ _ lk) rfl S.co S.gen rfl (PySem.W.codeRec_of KX hcd) (hb _ _ _ _ ?_);refine wpAny_newFunctionEnv_cells S.kind hkind fun env he s1 x=>?_;subst he;refine ⟨lim.keeps x.toInCall.keep,codeAny_func ?_⟩;obtain ⟨t,ht,hq⟩:=hbody A outer s H vs Q E (hr.deeper _) hsp;have I:Inv (zLm CX P w K mg base N qual scope f cdv A outer s H E) [] (zE1 N vs) H s1:=zNK S hr.hd e0 hl r x;refine zVU (ht [] s1 (zE1 N vs) H _ I hq) (fun fl s' hs=>?_) fun e s' hs=>hs;have fin:∀ {σ':St} {H':Hp} {v:V} {u:Value},Inv (zLm CX P w K mg base N qual scope f cdv A outer s H E) [] σ' H' s' -> zAF v u -> Q v H' -> CE outer P w H s Q u s' :=
  fun {σ' H' v u} J rv q=>⟨v,H',J.os,J.bare,J.base,J.hok,rv,q⟩
 cases fl with
 | ret u=>
  obtain ⟨v,σ',H',J,rv,q⟩:=hs;exact fin J rv q
 | next=>
  obtain ⟨σ',H',J,q⟩:=hs;exact fin (v:=V.non) (u:=Value.none) J rfl q
 | brk=>
  obtain ⟨_,_,_,q⟩:=hs;exact False.elim q
 | cont=>
  obtain ⟨_,_,_,q⟩:=hs;exact False.elim q
section
variable {X:Cx} {x:Str} {p pos:Pos} {e:Expr} {es:List Expr} {t:TA} {id T:String} {r:List V -> Hp -> VK -> Prop}
def tCB (r:List V -> Hp -> VK -> Prop) (t:TA):TE:=fun σ H Q=>t σ H fun vs H1=>r vs H1 Q
theorem zK4 (hc:zBz X (.builtin id) r) (hg:Gl X x) (hm:X.mg x = none) (hv:bootBuiltins x = some (.builtin id)) (ha:PA X (e :: es) t) (hn:x ≠ "__name__" := by decide) (hdb:(x == ("__debug__" : Str)) = false:=by decide)
  (he:starEach (e :: es) X.env = (false,eval e X.env) :: starEach es X.env:=by rfl) (hpl:(backTo pos (starEach es X.env)).any (·.1) = false:=by rfl):PE X (.Call (.Name x p) (e :: es) [] pos) (tCB r t):=by
 intro zB s σ H Q I h;refine wpAny_Call_Name_kw (zGE I hg hm hv ?_ hn hdb);exact PyProof.Rows.callWith_builtin1 (thn (ha pos zB s σ H _ I h) fun us s1 ⟨vs,H1,I1,r1,q1⟩=>hc zB s1 σ H1 vs us Q I1 r1 q1) he hpl
theorem zDd (hc:zBz X (.type T) r) (hg:Gl X x) (hm:X.mg x = none) (hv:bootBuiltins x = some (.type T)) (ha:PA X (e :: es) t) (hn:x ≠ "__name__" := by decide) (hdb:(x == ("__debug__" : Str)) = false:=by decide)
  (he:starEach (e :: es) X.env = (false,eval e X.env) :: starEach es X.env:=by rfl) (hpl:(backTo pos (starEach es X.env)).any (·.1) = false:=by rfl):PE X (.Call (.Name x p) (e :: es) [] pos) (tCB r t):=by
 intro zB s σ H Q I h;refine wpAny_Call_Name_kw (zGE I hg hm hv ?_ hn hdb);exact PyProof.Rows.callWith_type1 (thn (ha pos zB s σ H _ I h) fun us s1 ⟨vs,H1,I1,r1,q1⟩=>hc zB s1 σ H1 vs us Q I1 r1 q1) he hpl
end
end L2
namespace HT
open PySem PyProof.Rows
section
variable {prog:Program} {w:World} {A:Around} {E:Value -> Shared -> Prop} {s:Shared}
theorem zRN {t b:Addr} {vs ws:List Value} {Q:Value -> Shared -> Prop} (ht:IsTup s.heap t vs.toArray) (hb:IsTup s.heap b ws.toArray) (hv:vs ≠ [])
  (h1:ws = [] -> Q (.ref t) s) (h2:ws ≠ [] -> Q (.ref s.heap.objs.size) { s with heap:=s.heap.push { cls:=.type "tuple", data:=.seq (vs ++ ws).toArray } })
  (hsz:vs.length + ws.length <= sizeLine):wpAny (model prog w) A (binaryOp .Add (.ref t) (.ref b)) Q E s:=by
 obtain ⟨⟨cls,dd,data,sl⟩,ho,hc,n,hd⟩:=id ht;obtain ⟨⟨cls2,dd2,data2,sl2⟩,ho2,hc2,n2,hd2⟩:=id hb;simp only at hc hd hc2 hd2;subst hc hd hc2 hd2;have e:vs.toArray ++ ws.toArray = (vs ++ ws).toArray:=by simp
 by_cases hw:ws = []
 ·exact concat_meets ⟨_,ho,rfl⟩ ⟨_,ho2,rfl⟩ noFill_tuple_add seq_tuple_add PySem.F.slot_tuple_add PySem.F.entry_tuple_add (PySem.F.args_tuple_add_2 _ _)
   (tuple_addW1 t b vs.toArray ws.toArray n n2 dd dd2 sl sl2 (by simpa using hv) (by simp [hw])) ⟨ho,ho2,h1 hw⟩
 ·refine concat_meets ⟨_,ho,rfl⟩ ⟨_,ho2,rfl⟩ noFill_tuple_add seq_tuple_add PySem.F.slot_tuple_add PySem.F.entry_tuple_add (PySem.F.args_tuple_add_2 _ _)
   (tuple_addW2 t b vs.toArray ws.toArray n n2 dd dd2 sl sl2 (by simpa using hv) (by simpa using hw) (by rw [zU6,zU6]; exact hsz)) ⟨ho,ho2,?_⟩
  rw [e];exact h2 hw
def sIx (n d:Nat):Option Int -> Nat
 | none=>d
 | some v=>if v < 0 then (v + (n:Int)).toNat else min v.toNat n
theorem zMn (n d k:Nat):sIx n d (some (k:Int)) = min k n:=by
 show (if (k:Int) < 0 then ((k:Int) + (n:Int)).toNat else min (k:Int).toNat n) = min k n;rw [zVG (by omega),Int.toNat_natCast]
theorem zTR (n d:Nat) (hd:d <= n) (o:Option Int):sIx n d o <= n:=by
 cases o with
 | none=>exact hd
 | some v=>
  show (if v < 0 then (v + (n:Int)).toNat else min v.toNat n) <= n;by_cases hv:v < 0
  ·rw [zVD hv]; omega
  ·rw [zVG hv]; exact Nat.min_le_right _ _
theorem zMe (v:Int) (n d:Nat):(if v < 0 then max (v + (n:Int)) 0 else min v (n:Int)) = ((sIx n d (some v):Nat):Int):=by
 show (if v < 0 then max (v + (n:Int)) 0 else min v (n:Int)) = (((if v < 0 then (v + (n:Int)).toNat else min v.toNat n):Nat):Int);by_cases hv:v < 0
 ·simp only [zVD hv]; omega
 ·simp only [zVG hv]; omega
theorem zLa (lo hi:Option Int) (n:Nat):Builtin.Slice.sliceAdjust lo hi 1 (n:Int) = (((sIx n 0 lo:Nat):Int),((sIx n n hi:Nat):Int)):=by
 have h1:¬ ((1:Int) < 0):=by omega
 unfold Builtin.Slice.sliceAdjust;simp only [h1,if_false];refine Prod.ext ?_ ?_
 ·cases lo with
  | none=>rfl
  | some v=>exact zMe v n 0
 ·cases hi with
  | none=>rfl
  | some v=>exact zMe v n n
theorem zLw (i j:Nat):Builtin.Slice.slicePlaces (i:Int) (j:Int) 1 = j - i:=by
 unfold Builtin.Slice.slicePlaces;have h1:(1:Int) > 0:=by omega
 simp only [h1,if_true,Int.ediv_one];split <;> omega
theorem zH3 {v:Value} {o:Option Int} {Q:Option Int -> Shared -> Prop} (p:IsPart v o) (h:Q o s):wpAny (model prog w) A (Builtin.Slice.slicePartIndex v) Q E s:=by
 cases p with
 | none=>exact slicePart_none h
 | int i t=>exact slicePart_int h
theorem zDk {sl:Addr} {vl vu:Value} {lo hi:Option Int} {n:Nat} {Q:Int × Int × Nat -> Shared -> Prop} (hs:s.heap.IsSliceOf sl vl vu .none) (pl:IsPart vl lo) (pu:IsPart vu hi)
  (h:Q (((sIx n 0 lo:Nat):Int),1,sIx n n hi - sIx n 0 lo) s):wpAny (model prog w) A (Builtin.Slice.sliceApplied (.ref sl) (pure (n:Int))) Q E s:=by
 obtain ⟨os,hos,hcs,hds⟩:=id hs;unfold Builtin.Slice.sliceApplied Builtin.Slice.sliceFields;refine zUy (zUy (zVd hos hds (x:=vl) rfl (zUy (zVd hos hds (x:=vu) rfl (zUy (zVd hos hds (x:=.none) rfl (zU0 ?_)))))));refine zUy (slicePart_none ?_);show wpAny _ _ (if ((1:Int) == 0) = true then _ else _) _ _ s;rw [zVG (by decide)];refine zUy (zH3 pl (zUy (zH3 pu (zUy (zU0 ?_)))));show wpAny _ _ (match Builtin.Slice.sliceAdjust lo hi 1 (n:Int) with | (lo,hi)=>pure (lo,(1:Int),Builtin.Slice.slicePlaces lo hi 1)) _ _ s;rw [zLa lo hi n];show wpAny _ _ (pure (((sIx n 0 lo:Nat):Int),(1:Int),Builtin.Slice.slicePlaces ((sIx n 0 lo:Nat):Int) ((sIx n n hi:Nat):Int) 1)) _ _ s;rw [zLw];exact zU0 h
theorem zOw (xs:Array Value) (i k:Nat):((List.range k).filterMap fun (m:Nat)=>xs[((i:Int) + (m:Int) * 1).toNat]?).toArray = ((xs.toList.drop i).take k).toArray:=by
 have e:(fun (m:Nat)=>xs[((i:Int) + (m:Int) * 1).toNat]?) = fun m=>xs[i + m]?:=by
  funext m;have:((i:Int) + (m:Int) * 1).toNat = i + m:=by omega
  rw [this]
 rw [e];have:=pick_run xs i k;rw [List.filterMap_map] at this;have e2:((fun x=>xs[x]?) ∘ fun x=>i + x) = fun m=>xs[i + m]?:=rfl;rw [e2] at this;rw [this]
theorem zFy {t sl:Addr} {items:Array Value} {vl vu:Value} {lo hi:Option Int} {Q:Value -> Shared -> Prop} (ht:IsTup s.heap t items) (hs:s.heap.IsSliceOf sl vl vu .none) (pl:IsPart vl lo) (pu:IsPart vu hi)
  (hw:¬ (sIx items.size 0 lo = 0 /\ sIx items.size items.size hi = items.size))
  (h:Q (.ref s.heap.objs.size) { s with heap:=s.heap.push { cls:=.type "tuple", data:=.seq ((items.toList.drop (sIx items.size 0 lo)).take (sIx items.size items.size hi - sIx items.size 0 lo)).toArray } })
  (hsz:items.size <= sizeLine):wpAny (model prog w) A (getItem (.ref t) (.ref sl)) Q E s:=by
 have htake:sizeOk (.seq ((items.toList.drop (sIx items.size 0 lo)).take (sIx items.size items.size hi - sIx items.size 0 lo)).toArray):=by
  show ((items.toList.drop (sIx items.size 0 lo)).take (sIx items.size items.size hi - sIx items.size 0 lo)).toArray.size <= sizeLine;rw [zU6,zWM,zXR,zVh];omega
 have hj:sIx items.size items.size hi <= items.size:=zTR _ _ (zU4 _) hi;obtain ⟨os,hos,hcs,hds⟩:=id hs;have hTs:s.TypeIs (.ref sl) "slice" := ⟨os,hos,hcs⟩;unfold getItem;try with_reducible refine zVr ?_
 first | refine zUy (zU0 ?_) | skip
 refine zUy (wpAny_sequenceKey ht.typeIs (by decide) ?_)
 refine zUy (zVa (name:=Str.ofString "__getitem__") ht.typeIs zWW
  (zVb zWW ht.typeIs entry_tuple_getitem ?_ (args_tuple_getitem _ _)))
 show wpAny _ _ (Builtin.Tuple.tupleItemsOf (.ref t) >>= _) _ _ s;refine zUy (tupleItemsOf_ ht ?_);refine zUy (wpAny_typeOf hTs ?_);rw [zVD (by decide)];refine zUy (zDk hs pl pu ?_);have hno:¬ ((((sIx items.size 0 lo:Nat):Int) == 0 && (1:Int) == 1 && (sIx items.size items.size hi - sIx items.size 0 lo) == items.size) = true):=by
  intro q;rw [zVY,zVY] at q;have q1:((sIx items.size 0 lo:Nat):Int) = 0:=eq_of_beq q.1.1;have q2:sIx items.size items.size hi - sIx items.size 0 lo = items.size:=eq_of_beq q.2;exact hw ⟨by omega,by omega⟩
 show wpAny _ _ (if (((sIx items.size 0 lo:Nat):Int) == 0 && (1:Int) == 1 && (sIx items.size items.size hi - sIx items.size 0 lo) == items.size) = true then _ else _) _ _ s;rw [zVG hno,zOw]
 first
  | exact zUy (m:=Builtin.Tuple.tupleExact _) (zVR (zU0 ⟨_,rfl,zU0 h⟩) htake)
  | exact zUy (m:=Builtin.Tuple.tupleExact _) (zVR (zUy (zU0 (zU0 ⟨_,rfl,zU0 h⟩))) htake)
  | exact zUy (zUy (m:=Builtin.Tuple.tupleExact _) (zVR (zU0 (zU0 ⟨_,rfl,zU0 h⟩)) htake))
  | exact zUy (zUy (m:=Builtin.Tuple.tupleExact _) (zVR (zU0 ⟨_,rfl,zU0 h⟩) htake))
end
end HT
namespace L2
open PySem PySem.Spec PyProof.Rows
abbrev TO:=St -> Hp -> (Option Int -> Hp -> Prop) -> Prop
def PO (X:Cx) (e:Option Expr) (t:TO):Prop :=
 ∀ (zB:List (Addr × Obj)) (s:Shared) (σ:St) (H:Hp) (Q:Option Int -> Hp -> Prop),Inv X zB σ H s -> t σ H Q ->
  wpAny (model X.prog X.w) X.A (evalPart e X.env) (fun u s'=>∃ o H',Inv X zB σ H' s' /\ IsPart u o /\ Q o H') X.xe s
def zQn:TO:=fun _ H Q=>Q none H
def zTf (t:TE):TO:=fun σ H Q=>t σ H fun x H1=>∃ i,x = .int i /\ Q (some i) H1
section
variable {X:Cx} {e:Expr} {te:TE} {lo hi:Option Expr} {tl th:TO} {pos p2:Pos}
theorem zQ3:PO X none zQn:=by
 intro zB s σ H Q I h;rw [evalPart_none];exact zU0 ⟨none,H,I,.none,h⟩
theorem zQ7 (h:PE X e te):PO X (some e) (zTf te):=by
 intro zB s σ H Q I hw;rw [evalPart_some];refine thn (h zB s σ H _ I hw) fun u s1 ⟨x,H1,I1,r1,q1⟩=>?_;obtain ⟨i,rfl,q⟩:=q1;obtain ⟨t,rfl⟩:=r1;exact ⟨some i,H1,I1,.int i t,q⟩
def SlR (X:Cx) (r:V -> Option Int -> Option Int -> Hp -> VK -> Prop):Prop :=
 ∀ (zB:List (Addr × Obj)) (s:Shared) (σ:St) (H:Hp) (x:V) (v vl vu:Value) (lo hi:Option Int) (sl:Addr) (Q:VK),Inv X zB σ H s -> zAF x v -> s.heap.IsSliceOf sl vl vu .none -> IsPart vl lo -> IsPart vu hi -> r x lo hi H Q ->
  ∃ T id,typeLookup (.type T) "__getitem__" = pure (some (.builtin id)) /\ s.TypeIs v T /\ wpAny (model X.prog X.w) X.A (getItem v (.ref sl)) (EP X zB σ Q) X.xe s
theorem SlR.or {r r':V -> Option Int -> Option Int -> Hp -> VK -> Prop} (h:SlR X r) (h':SlR X r'):SlR X (fun x lo hi H Q=>r x lo hi H Q \/ r' x lo hi H Q):=by
 intro zB s σ H x v vl vu lo hi sl Q I rx hs pl pu q;rcases q with q | q
 ·exact h zB s σ H x v vl vu lo hi sl Q I rx hs pl pu q
 ·exact h' zB s σ H x v vl vu lo hi sl Q I rx hs pl pu q
def tSl (r:V -> Option Int -> Option Int -> Hp -> VK -> Prop) (te:TE) (tl th:TO):TE:=fun σ H Q=>te σ H fun x H1=>tl σ H1 fun l H2=>th σ H2 fun u H3=>r x l u H3 Q
theorem zP3 {r:V -> Option Int -> Option Int -> Hp -> VK -> Prop} (hr:SlR X r) (he:PE X e te) (hl:PO X lo tl) (hu:PO X hi th):PE X (.Subscript e (.Slice lo hi none p2) pos) (tSl r te tl th):=by
 intro zB s σ H Q I h;refine Subscript_ (thn (he zB s σ H _ I h) fun v s1 ⟨x,H1,I1,r1,q1⟩=>?_);refine wpAny_Slice (thn (hl zB s1 σ H1 _ I1 q1) fun vl s2 ⟨l,H2,I2,pl,q2⟩=>thn (hu zB s2 σ H2 _ I2 q2) fun vu s3 ⟨u,H3,I3,pu,q3⟩=>?_);rw [evalPart_none];refine zU0 ?_;have I4:Inv X zB σ H3 { s3 with heap:=s3.heap.push { cls:=.type "slice", data:=.fields #[vl,vu,.none] } }:=I3.kept (t':=s3.toks) fun b ob q=>zUz _ q;obtain ⟨T,id,hT,ht,hg⟩:=hr zB { s3 with heap:=s3.heap.push { cls:=.type "slice", data:=.fields #[vl,vu,.none] } } σ H3 x v vl vu l u s3.heap.objs.size Q I4 r1 (Heap.IsSliceOf.new ..) pl pu q3;show wpAny (model X.prog X.w) X.A (subscriptTail e (.Slice lo hi none p2) v (.ref s3.heap.objs.size)) (EP X zB σ Q) X.xe { s3 with heap:=s3.heap.push { cls:=.type "slice", data:=.fields #[vl,vu,.none] } };exact tail_any (ops:=[.ref s3.heap.objs.size,v]) ht hT hg (by with_unfolding_all rfl)
def zKG (xs:List V) (lo hi:Option Int):List V:=(xs.drop (HT.sIx xs.length 0 lo)).take (HT.sIx xs.length xs.length hi - HT.sIx xs.length 0 lo)
theorem zGd (xs:List V) (lo hi:Option Int):(zKG xs lo hi).length <= xs.length:=by
 unfold zKG;rw [zWM,zXR];omega
def zUn (K:PySem.W.Frag):V -> Option Int -> Option Int -> Hp -> VK -> Prop:=fun x lo hi H Q=>∃ a xs,x = .ref a /\ SqT K H a xs /\
 ¬ (HT.sIx xs.length 0 lo = 0 /\ HT.sIx xs.length xs.length hi = xs.length) /\ ∀ p,H p = none -> Q (.ref p) (upd H p (.tup (zKG xs lo hi)))
theorem zTK:SlR X (zUn X.K):=by
 intro zB s σ H x v vl vu lo hi sl Q I rx hs pl pu h;obtain ⟨a,xs,rfl,hx,hw,q⟩:=h;cases rx;obtain ⟨its,r,ht,hz⟩:=I.tuple hx;have hlen:its.toArray.size = xs.length:=by rw [zU6]; exact r.length.symm
 refine ⟨"tuple", _,zWW.lookup,ht.typeIs,?_⟩;refine HT.zFy ht hs pl pu (by rw [hlen]; exact hw) ?_ (by rw [hlen]; exact hz);rw [hlen];refine ⟨.ref s.heap.objs.size,_,I.laid (t':=s.toks) (o:=.tup (zKG xs lo hi)) (fun b ob q=>zUz _ q) (zU4 _) ?_,rfl,q _ (I.hok.fresh (zU4 _))⟩;exact ⟨zVP (zGd xs lo hi) hz,_,(r.drop (HT.sIx xs.length 0 lo)).take (HT.sIx xs.length xs.length hi - HT.sIx xs.length 0 lo),zCt.new _ _⟩
def zRv (K:PySem.W.Frag):R2:=fun x y H Q=>∃ a b xs ys,x = .ref a /\ y = .ref b /\ SqT K H a xs /\ SqT K H b ys /\ xs ≠ [] /\ xs.length + ys.length <= sizeLine /\
 (ys = [] -> Q (.ref a) H) /\ (ys ≠ [] -> ∀ p,H p = none -> Q (.ref p) (upd H p (.tup (xs ++ ys))))
theorem zv.nil_iff {xs:List V} {us:List Value} (r:zv xs us):us = [] ↔ xs = []:=by
 cases r with
 | nil=>simp
 | cons _ _=>simp
theorem zRd:OpR X (binaryOp .Add) (zRv X.K):=by
 intro zB s σ H x y v u Q I rx ry h;obtain ⟨a,b,xs,ys,rfl,rfl,ha,hb,hx,hz,q1,q2⟩:=h;cases rx;cases ry;obtain ⟨its,r1,p1,_⟩:=I.tuple ha;obtain ⟨its2,r2,p2,_⟩:=I.tuple hb;refine HT.zRN p1 p2 (fun z=>hx (r1.nil_iff.mp z)) (fun z=>⟨.ref a,H,I,rfl,q1 (r2.nil_iff.mp z)⟩) (fun z=>?_) (by rw [<- r1.length,<- r2.length]; exact hz);refine ⟨.ref s.heap.objs.size,_,I.laid (t':=s.toks) (o:=.tup (xs ++ ys)) (fun b ob q=>zUz _ q) (zU4 _) ?_,rfl,q2 (fun w=>z (r2.nil_iff.mpr w)) _ (I.hok.fresh (zU4 _))⟩;exact ⟨by rw [zVE]; exact hz,_,r1.append r2,zCt.new _ _⟩
end
def ixN (n:Nat) (i:Int):Option Nat:=if 0 <= i then (if i < n then some i.toNat else none) else if -(n:Int) <= i then some (i + n).toNat else none
def atI {α:Type} (xs:List α) (i:Int):Option α:=(ixN xs.length i).bind fun j=>xs[j]?
theorem zJy {n:Nat} {i:Int} {j:Nat} (h:ixN n i = some j):seqIndex? i n = some j /\ j < n /\ -(n:Int) <= i /\ i < n:=by
 unfold ixN at h;by_cases h0:0 <= i
 ·rw [zVD h0] at h;by_cases h1:i < n
  ·rw [zVD h1] at h;have e:i.toNat = j:=zVy h;exact ⟨by rw [seqIndex_of h0 h1,e],by omega,by omega,h1⟩
  ·rw [zVG h1] at h; cases h
 ·rw [zVG h0] at h;by_cases h1 : -(n:Int) <= i
  ·rw [zVD h1] at h;have e:(i + n).toNat = j:=zVy h;exact ⟨by rw [seqIndex_neg (by omega) h1,e],by omega,h1,by omega⟩
  ·rw [zVG h1] at h; cases h
theorem zJG {α:Type} {xs:List α} {i:Int} {v:α} (h:atI xs i = some v):∃ j,seqIndex? i xs.length = some j /\ xs[j]? = some v /\ j < xs.length /\ -(xs.length:Int) <= i /\ i < xs.length:=by
 unfold atI at h;cases e:ixN xs.length i with
 | none=>rw [e] at h; cases h
 | some j=>
  rw [e] at h;obtain ⟨h1,h2,h3,h4⟩:=zJy e;exact ⟨j,h1,h,h2,h3,h4⟩
theorem zMr {α:Type} {xs:List α} {j:Nat} {v:α} (h:xs[j]? = some v):atI xs (j:Int) = some v:=by
 have hj:j < xs.length:=(zU1.mp h).1;have e:ixN xs.length (j:Int) = some j:=by
  unfold ixN;rw [zVD (by omega),zVD (by omega)]; simp
 unfold atI; rw [e]; exact h
def zMo (b:Expr):Prop:=∀ o i,subscripted b false o i = operate [o,i] (getItem o i)
def IxR (X:Cx) (r:R2):Prop :=
 ∀ (value slice:Expr) (zB:List (Addr × Obj)) (s:Shared) (σ:St) (H:Hp) (x y:V) (v u:Value) (Q:VK),Inv X zB σ H s -> zAF x v -> zAF y u -> r x y H Q ->
  subscripted slice false v u = operate [v,u] (getItem v u) -> wpAny (model X.prog X.w) X.A (subscriptTail value slice v u) (EP X zB σ Q) X.xe s
def MtR (X:Cx) (id:String) (r:V -> List V -> Hp -> VK -> Prop):Prop :=
 ∀ (zB:List (Addr × Obj)) (s:Shared) (σ:St) (H:Hp) (x:V) (xs:List V) (v:Value) (us:List Value) (Q:VK),Inv X zB σ H s -> zAF x v -> zv xs us -> r x xs H Q ->
  wpAny (model X.prog X.w) X.A (call (.builtin id) (v :: us)) (EP X zB σ Q) X.xe s
section
variable {X:Cx} {a b:Expr} {ta tb:TE} {pos:Pos}
theorem IxR.or {r r':R2} (h:IxR X r) (h':IxR X r'):IxR X (fun x y H Q=>r x y H Q \/ r' x y H Q):=by
 intro value slice zB s σ H x y v u Q I rx ry q hs;rcases q with q | q
 ·exact h value slice zB s σ H x y v u Q I rx ry q hs
 ·exact h' value slice zB s σ H x y v u Q I rx ry q hs
theorem zT6 {r:R2} (hr:IxR X r) (ha:PE X a ta) (hb:PE X b tb) (hs:zMo b):PE X (.Subscript a b pos) (tOp r ta tb):=by
 intro zB s σ H Q I h;exact Subscript_ (zS5 ha hb I h fun v u s2 x y H2 I2 rx ry q=>hr a b zB s2 σ H2 x y v u Q I2 rx ry q (hs _ _))
def zTW (K:PySem.W.Frag):R2:=fun x y H Q=>∃ p xs i v,x = .ref p /\ y = .int i /\ SqL K H p xs /\ atI xs i = some v /\ Q v H
def zUI (K:PySem.W.Frag):R2:=fun x y H Q=>∃ p xs i v,x = .ref p /\ y = .int i /\ SqT K H p xs /\ atI xs i = some v /\ Q v H
def zT9:R2:=fun x y H Q=>∃ z i c,x = .str z /\ y = .int i /\ z.length <= sizeLine /\ atI z.cps.toList i = some c /\ Q (.str ⟨#[c]⟩) H
theorem zRc:IxR X (zTW X.K):=by
 intro value slice zB s σ H x y v u Q I rx ry h hs;obtain ⟨p,xs,i,z,rfl,rfl,hq,he,q⟩:=h;cases rx;obtain ⟨t,rfl⟩:=ry;obtain ⟨its,r,pl,hz⟩:=I.list hq;obtain ⟨j,h1,h2,h3,h4,h5⟩:=zJG he;obtain ⟨w,ew,rw'⟩:=r.get h2;have hl:=r.length;have hn:=zFP;have fin:EP X zB σ Q w s:=⟨z,H,I,rw',q⟩;by_cases h0:0 <= i
 ·have hj:i.toNat = j:=by
   rw [seqIndex_of h0 h5] at h1;exact zVy h1
  exact item_listR pl.isList h0 (by omega) (by rw [hj]; simpa using ew) fin hs
 ·have hj:(i + (its.toArray.size:Int)).toNat = j:=by
   rw [seqIndex_neg (by omega) h4] at h1;rw [zU6,<- hl];exact zVy h1
  exact subscriptTail_builtinR (x:=w) pl.isList.typeIs slot_list_getitem.lookup
   (wpAny_getItem_list_neg (Q:=fun r s'=>r = w /\ EP X zB σ Q r s') pl.isList (by omega) (by rw [zU6] <;> omega) (by omega) (by rw [hj]; simpa using ew) ⟨rfl,fin⟩) hs
theorem zTA:IxR X (zUI X.K):=by
 intro value slice zB s σ H x y v u Q I rx ry h hs;obtain ⟨p,xs,i,z,rfl,rfl,hq,he,q⟩:=h;cases rx;obtain ⟨t,rfl⟩:=ry;obtain ⟨its,r,pl,hz⟩:=I.tuple hq;obtain ⟨j,h1,h2,h3,h4,h5⟩:=zJG he;obtain ⟨w,ew,rw'⟩:=r.get h2;have hl:=r.length;have hn:=zFP;have fin:EP X zB σ Q w s:=⟨z,H,I,rw',q⟩
 exact subscriptTail_builtinR (x:=w) pl.typeIs slot_tuple_getitem.lookup
  (getItem_tuple (j:=j) (Q:=fun r s'=>r = w /\ EP X zB σ Q r s') pl (by omega) (by omega) (by rw [zU6,<- hl]; exact h1) (by simpa using ew) ⟨rfl,fin⟩) hs
theorem zTJ:IxR X zT9:=by
 intro value slice zB s σ H x y v u Q I rx ry h hs;obtain ⟨z,i,c,rfl,rfl,hz,he,q⟩:=h;obtain ⟨t,rfl⟩:=rx;obtain ⟨t',rfl⟩:=ry;obtain ⟨j,h1,h2,h3,h4,h5⟩:=zJG he;have hl:z.cps.toList.length = z.length:=by simp [Str.length]
 rw [hl] at h1 h4 h5;have hn:=zFP;exact tail_any (typeIs_str s z t) slot_str_getitem.lookup (getItem_str (c:=c) (by
  have e1:decide (i < -(2 ^ 63:Int)) = false:=zVX (by omega);have e2:decide (i ≥ 2 ^ 63) = false:=zVX (by omega);rw [e1,e2,Bool.or_false]) (by rw [h1]; simpa using h2) ⟨.str ⟨#[c]⟩,H,I.tok _,⟨_,rfl⟩,q⟩) hs
def rIx (K:PySem.W.Frag):R2:=fun x y H Q=>zTW K x y H Q \/ zUI K x y H Q \/ zT9 x y H Q
theorem zS1:IxR X (rIx X.K):=zRc.or (zTA.or zTJ)
theorem zLp (its:List Value) (n j:Nat) (u:Value):Obj.mapSeq (·.setIfInBounds j u) { cls:=.type "list", data:=.seq its.toArray n } = { cls:=.type "list", data:=.seq (its.set j u).toArray n }:=by
 simp [Obj.mapSeq]
theorem Inv.lst {zB:List (Addr × Obj)} {σ:St} {H:Hp} {s:Shared} {p:Addr} {xs:List V} (I:Inv X zB σ H s) (h:H p = some (.lst xs)) :
  ∃ (its:List Value) (n:Nat),zv xs its /\ s.heap.get? p = some { cls:=.type "list", data:=.seq its.toArray n } /\ xs.length <= sizeLine:=by
 obtain ⟨z,its,n,r,e⟩:=I.hok p _ h;exact ⟨its,n,r,e,z⟩
theorem Inv.lstUpd {zB:List (Addr × Obj)} {σ:St} {H:Hp} {s:Shared} {p:Addr} {xs ys:List V} {its its':List Value} {n n':Nat} {f:Obj -> Obj} (I:Inv X zB σ H s) (h:H p = some (.lst xs))
  (ho:s.heap.get? p = some { cls:=.type "list", data:=.seq its.toArray n }) (hf:f { cls:=.type "list", data:=.seq its.toArray n } = { cls:=.type "list", data:=.seq its'.toArray n' }) (r:zv ys its') (hz:ys.length <= sizeLine) (t:Nat) :
  Inv X zB σ (upd H p (.lst ys)) { s with heap:=s.heap.update p f,toks:=t }:=by
 have e:(s.heap.update p f).get? p = some { cls:=.type "list", data:=.seq its'.toArray n' }:=by
  rw [zVl f ho (by rw [hf] <;> rfl),hf]
 refine I.write (x:=p) (e:=p) (by rw [h]; trivial) (.inl rfl) (fun b u hb q=>(zVf _ _ (Ne.symm hb)).trans q) ⟨_,e⟩ ?_;exact ⟨hz,its',n',r,e⟩
def zUN:V -> V -> V -> Hp -> (Hp -> Prop) -> Prop:=fun o i v H Q=>∃ p xs k j,o = .ref p /\ i = .int k /\ H p = some (.lst xs) /\ ixN xs.length k = some j /\ Q (upd H p (.lst (xs.set j v)))
theorem zOt:zTx X zUN:=by
 intro zB s σ H o i v ov iv u Q I ro ri rv h;obtain ⟨p,xs,k,j,rfl,rfl,hp,hj,q⟩:=h;cases ro;obtain ⟨t,rfl⟩:=ri;obtain ⟨its,n,r,ho,hz⟩:=I.lst hp;obtain ⟨h1,h2,h3,h4⟩:=zJy hj;have hl:=r.length;have hn:=zFP;have I':Inv X zB σ (upd H p (.lst (xs.set j v))) { s with heap:=s.heap.update p (Obj.mapSeq (·.setIfInBounds j u)) } :=
  I.lstUpd hp ho (zLp its n j u) (r.set rv j) (by rw [zXH]; exact hz) s.toks
 by_cases h0:0 <= k
 ·have hk:k.toNat = j:=by
   rw [seqIndex_of h0 h4] at h1;exact zVy h1
  exact PySem.W.ki_setAt ho h0 (by omega) (by rw [zU6,<- hl]; exact h4) (by rw [hk]; exact ⟨_,I',q⟩)
 ·have hk:(k + (its.toArray.size:Int)).toNat = j:=by
   rw [seqIndex_neg (by omega) h3] at h1;rw [zU6,<- hl];exact zVy h1
  exact PySem.W.ki_setBack ho (by omega) (by rw [zU6,<- hl]; exact h3) (by omega) (by rw [hk]; exact ⟨_,I',q⟩)
theorem zJM (lo hi:Option Int) (n:Nat):(sliceBounds lo hi none n).1 = ((HT.sIx n 0 lo:Nat):Int) /\ (sliceBounds lo hi none n).2.1 = ((HT.sIx n n hi:Nat):Int) /\ (sliceBounds lo hi none n).2.2 = 1:=by
 refine ⟨?_,?_,rfl⟩
 ·cases lo with
  | none=>simp [sliceBounds,HT.sIx]
  | some i=>
   simp only [sliceBounds,HT.sIx,Option.getD_none,show (1:Int) > 0 by decide,if_true];by_cases h:i < 0
   ·simp only [h,if_true] <;> omega
   ·simp only [h,if_false] <;> omega
 ·cases hi with
  | none=>simp [sliceBounds,HT.sIx]
  | some i=>
   simp only [sliceBounds,HT.sIx,Option.getD_none,show (1:Int) > 0 by decide,if_true];by_cases h:i < 0
   ·simp only [h,if_true] <;> omega
   ·simp only [h,if_false] <;> omega
theorem zIN (its:List Value) (lo hi:Option Int):slicePick its.toArray lo hi none = ((its.drop (HT.sIx its.length 0 lo)).take (HT.sIx its.length its.length hi - HT.sIx its.length 0 lo)).toArray:=by
 obtain ⟨h1,h2,h3⟩:=zJM lo hi its.toArray.size;unfold slicePick;rw [h1,h2,h3];simp only [sliceRange_one,pick_run,zU6] <;> rfl
def zUU (K:PySem.W.Frag):V -> Option Int -> Option Int -> Hp -> VK -> Prop:=fun x lo hi H Q=>∃ a xs,x = .ref a /\ SqL K H a xs /\ ∀ p,H p = none -> Q (.ref p) (upd H p (.lst (zKG xs lo hi)))
theorem zRP:SlR X (zUU X.K):=by
 intro zB s σ H x v vl vu lo hi sl Q I rx hs pl pu h;obtain ⟨a,xs,rfl,hx,q⟩:=h;cases rx;obtain ⟨its,r,ht,hz⟩:=I.list hx;have hlen:=r.length;refine ⟨"list", _,slot_list_getitem.lookup,ht.isList.typeIs,?_⟩;refine wpAny_getItem_list_slice ht.isList hs pl pu .none (by simp) ?_ (by rw [zU6] <;> omega);rw [zIN,<- hlen];refine ⟨.ref s.heap.objs.size,_,I.laid (t':=s.toks) (o:=.lst (zKG xs lo hi)) (fun b ob q=>zUz _ q) (zU4 _) ?_,rfl,q _ (I.hok.fresh (zU4 _))⟩;exact ⟨zVP (zGd xs lo hi) hz,_,0,(r.drop (HT.sIx xs.length 0 lo)).take (HT.sIx xs.length xs.length hi - HT.sIx xs.length 0 lo),zU8 _ rfl⟩
theorem zJa:zBz X (.builtin "len") (fun xs H Q=>∃ p ys,xs = [.ref p] /\ (SqL X.K H p ys \/ SqT X.K H p ys) /\ Q (.int ys.length) H):=by
 intro zB s σ H xs us Q I r h;obtain ⟨p,ys,rfl,hq,q⟩:=h;obtain ⟨u,rfl,rx⟩:=zDn r;cases rx;have hn:=zFP;rcases hq with hq | hq
 ·obtain ⟨its,r',pl,hz⟩:=I.list hq;have hlen:=r'.length;exact Calls.call_len_list pl.isList (by simp only [zU6] <;> omega) ⟨.int ys.length,H,I.tok _,⟨s.toks + 1,by rw [zU6,hlen]⟩,q⟩
 ·obtain ⟨its,r',pl,hz⟩:=I.tuple hq;have hlen:=r'.length;exact len_tuple pl (by simp only [zU6] <;> omega) ⟨.int ys.length,H,I.tok _,⟨s.toks + 1,by rw [zU6,hlen]⟩,q⟩
theorem zJ4:zBz X (.type "list") (fun xs H Q=>∃ p ys,xs = [.ref p] /\ (SqL X.K H p ys \/ SqT X.K H p ys) /\ ∀ l,H l = none -> Q (.ref l) (upd H l (.lst ys))):=by
 intro zB s σ H xs us Q I r h;obtain ⟨p,ys,rfl,hq,q⟩:=h;obtain ⟨u,rfl,rx⟩:=zDn r;cases rx
 have fin:∀ (its:List Value),zv ys its -> ys.length <= sizeLine -> ∀ (h':Heap) (c':Nat),(∀ b o',s.heap.get? b = some o' -> h'.get? b = some o') ->
   h'.get? s.heap.objs.size = some { cls:=.type "list", dict:=none,data:=.seq its.toArray c',slots:=#[] } -> EP X zB σ Q (.ref s.heap.objs.size) { s with heap:=h' }:=fun its r' hz h' c' kp e=>
  ⟨.ref s.heap.objs.size,_,I.laid (t':=s.toks) kp (zU4 _) (show zAV X.prog X.w _ h' _ (.lst ys) from ⟨hz,its,c',r',e⟩),rfl,q _ (I.hok.fresh (zU4 _))⟩
 rcases hq with hq | hq
 ·obtain ⟨its,r',pl,hz⟩:=I.list hq;have hlen:=r'.length;obtain ⟨o,ho,hc,n,hd⟩:=pl.isList;exact call_list_seq p (.inl rfl) ho hc hd (fun h' c' kp e=>fin its r' hz h' c' kp e) (by simp only [zU6] <;> omega)
 ·obtain ⟨its,r',pl,hz⟩:=I.tuple hq;have hlen:=r'.length;obtain ⟨o,ho,hc,n,hd⟩:=pl;exact call_list_seq p (.inr rfl) ho hc hd (fun h' c' kp e=>fin its r' hz h' c' kp e) (by simp only [zU6] <;> omega)
theorem zID:zBz X (.type "tuple") (fun xs H Q=>∃ p ys,xs = [.ref p] /\ ((SqL X.K H p ys /\ ∀ l,H l = none -> Q (.ref l) (upd H l (.tup ys))) \/ (SqT X.K H p ys /\ Q (.ref p) H))):=by
 intro zB s σ H xs us Q I r h;obtain ⟨p,ys,rfl,h⟩:=h;obtain ⟨u,rfl,rx⟩:=zDn r;cases rx;rcases h with ⟨hq,q⟩ | ⟨hq,q⟩
 ·obtain ⟨its,r',pl,hz⟩:=I.list hq;have hlen:=r'.length;refine call_tuple_list pl.isList (fun h' kp=>?_) (by simp only [zU6] <;> omega);have I1:Inv X zB σ H { s with heap:=h' }:=I.kept (t':=s.toks) kp;have I2:Inv X zB σ (upd H h'.objs.size (.tup ys)) { s with heap:=h'.push { cls:=.type "tuple", data:=.seq its.toArray } } :=
   I1.laid (t':=s.toks) (fun b o e=>zUz _ e) (zU4 _) (show zAV X.prog X.w _ _ _ (.tup ys) from ⟨hz,its,r',zCt.new _ _⟩)
  exact ⟨.ref h'.objs.size,_,I2,rfl,q _ (I1.hok.fresh (zU4 _))⟩
 ·obtain ⟨its,r',pl,hz⟩:=I.tuple hq;exact call_tuple_same pl ⟨.ref p,H,I,rfl,q⟩
def tyV (K:PySem.W.Frag) (T:String) (x:V) (H:Hp):Prop:=match x with
 | .str _=>T = "str"
 | .int _=>T = "int"
 | .ref p=>(T = "list" /\ ∃ xs,SqL K H p xs) \/ (T = "tuple" /\ ((∃ o,K.lookup p = some o /\ o.cls = .type "tuple" /\ o.dict = none) \/ ∃ xs,H p = some (.tup xs))) \/
   (T = "dict" /\ ((∃ kvs,H p = some (.dK kvs)) \/ ∃ kvs,H p = some (.dT kvs))) \/ (T = "set" /\ ∃ S n,H p = some (.set S n))
 | _=>False
theorem zSg {zB:List (Addr × Obj)} {σ:St} {H:Hp} {s:Shared} {T:String} {x:V} {v:Value} (I:Inv X zB σ H s) (r:zAF x v) (ty:tyV X.K T x H) :
  s.TypeIs v T /\ ∀ a,v = .ref a -> ∃ ob,s.heap.get? a = some ob /\ ob.dict = none:=by
 cases x with
 | str z=>
  obtain ⟨t,rfl⟩:=r;cases (show T = "str" from ty);exact ⟨typeIs_str s z t,fun _ e=>nomatch e⟩
 | int i=>
  obtain ⟨t,rfl⟩:=r;cases (show T = "int" from ty);exact ⟨typeIs_int s i t,fun _ e=>nomatch e⟩
 | ref p=>
  cases r;rcases ty with ⟨rfl,xs,hq⟩ | ⟨rfl,⟨o,hk,hc,hd⟩ | ⟨xs,hq⟩⟩ | ⟨rfl,hk⟩ | ⟨rfl,S,n,hk⟩
  ·obtain ⟨its,_,pl,_⟩:=I.list hq;refine ⟨pl.isList.typeIs,fun a e=>?_⟩;cases e;obtain ⟨o,n,e,c,hd,_⟩:=pl;exact ⟨o,e,hd⟩
  ·refine ⟨⟨o,I.kIn p o hk,hc⟩,fun a e=>?_⟩;cases e;exact ⟨o,I.kIn _ o hk,hd⟩
  ·obtain ⟨_,its,_,o,e,c,_,hd⟩:=I.hok p _ hq;refine ⟨⟨o,e,c⟩,fun a e2=>?_⟩;cases e2;exact ⟨o,e,hd⟩
  ·have z:∃ o,s.heap.get? p = some o /\ o.ExactDict:=by
    rcases hk with ⟨kvs,hk⟩ | ⟨kvs,hk⟩
    ·obtain ⟨_,_,_,_,o,_,_,e,ex,_⟩:=I.hok p _ hk;exact ⟨o,e,ex⟩
    ·obtain ⟨_,_,_,_,o,_,_,e,ex,_⟩:=I.hok p _ hk;exact ⟨o,e,ex⟩
   obtain ⟨o,e,ex⟩:=z;refine ⟨⟨o,e,ex.1⟩,fun a e2=>?_⟩;cases e2;exact ⟨o,e,ex.2.1⟩
  ·obtain ⟨o,_,_,_,e,ex,_⟩:=I.hok p _ hk;refine ⟨⟨o,e,ex.1⟩,fun a e2=>?_⟩;cases e2;exact ⟨o,e,ex.2.1⟩
 | _=>exact False.elim ty
def tBM (K:PySem.W.Frag) (T:String) (r:V -> List V -> Hp -> VK -> Prop) (to:TE) (t:TA):TE:=fun σ H Q=>to σ H fun x H1=>tyV K T x H1 /\ t σ H1 fun xs H2=>r x xs H2 Q
variable {o e:Expr} {es:List Expr} {to:TE} {t:TA} {name:Str} {apos cpos:Pos} {T id:String} {r:V -> List V -> Hp -> VK -> Prop}
theorem zM5 (pa:PlainAttrs T) (slot:Slot T name id) (hty:typeOf (.builtin id) = pure (.type "method_descriptor")) (hm:MtR X id r) (ho:PE X o to) (ha:PA X (e :: es) t)
  (hbase:attributeBase o name X.env (eval o X.env) = eval o X.env:=by rfl)
  (hfew:((backTo cpos (starEach (e :: es) X.env)).all (fun x=> !x.1) && (backToKw cpos (keywordEach [] X.env)).all (fun x=>x.1.isSome)
   && decide ((e :: es).length + ([]:List Keyword).length + (if ([]:List Keyword).isEmpty then 0 else 1) < 30)) = true:=by rfl)
  (hline:(apos.endLine == cpos.line) = true:=by rfl) (hs:starEach (e :: es) X.env = (false,eval e X.env) :: starEach es X.env:=by rfl) (hplain:(backTo cpos (starEach es X.env)).any (·.1) = false:=by rfl) :
  PE X (.Call (.Attribute o name apos) (e :: es) [] cpos) (tBM X.K T r to t):=by
 intro zB s σ H Q I h;refine wpAny_Call_method_late hbase hfew hline rfl (thn (ho zB s σ H _ I h) fun v s1 ⟨x,H1,I1,r1,ty,q1⟩=>?_);obtain ⟨h1,h2⟩:=zSg I1 r1 ty;refine ⟨T,id,pa,slot,hty,h1,h2,?_⟩;have hA:=ha cpos zB s1 σ H1 _ I1 q1;rw [hs] at hA ⊢;refine Calls.callWith_builtin (by show (false || (backTo cpos (starEach es X.env)).any (·.1)) = false; rw [hplain] <;> rfl) (Calls.evalArgs_plain ?_);exact thn hA fun us s2 ⟨vs,H2,I2,r2,q2⟩=>hm zB s2 σ H2 x vs v us Q I2 r1 r2 q2
end
def MtM (X:Cx) (id:String) (r:V -> List V -> Hp -> VK -> Prop):Prop :=
 ∀ (zB:List (Addr × Obj)) (s:Shared) (σ:St) (H:Hp) (x:V) (xs:List V) (v:Value) (us:List Value) (Q:VK),Inv X zB σ H s -> zAF x v -> zv xs us -> r x xs H Q ->
  wpAny (model X.prog X.w) X.A (call (.builtin id) (v :: us)) (EP X zB σ Q) X.xe s
theorem zv.one:∀ {x:V} {us:List Value},zv [x] us -> ∃ u,us = [u] /\ zAF x u
 | _,_,.cons r .nil=>⟨_,rfl,r⟩
theorem zv.two:∀ {x y:V} {us:List Value},zv [x,y] us -> ∃ u v,us = [u,v] /\ zAF x u /\ zAF y v
 | _,_,_,.cons r (.cons q .nil)=>⟨_,_,rfl,r,q⟩
theorem zv.eraseIdx:∀ {xs:List V} {us:List Value} (i:Nat),zv xs us -> zv (xs.eraseIdx i) (us.eraseIdx i)
 | _,_,_,.nil=> .nil
 | _,_,0,.cons _ t=>t
 | _,_,i + 1,.cons r t=> .cons r (zv.eraseIdx i t)
theorem zIg {α:Type}:∀ (l:List α) (i:Nat),(l.eraseIdx i).length <= l.length
 | [],_=>zU4 _
 | _ :: _,0=>Nat.le_succ _
 | _ :: r,i + 1=>Nat.succ_le_succ (zIg r i)
section
variable {X:Cx} {zB:List (Addr × Obj)} {σ:St} {H:Hp} {s:Shared} {l b:Addr} {xs ys zs:List V}
theorem Inv.lset {its its':List Value} {n:Nat} {f:Array Value -> Array Value} {t':Nat} (I:Inv X zB σ H s) (hH:H l = some (.lst xs))
  (e:s.heap.get? l = some { cls:=.type "list", data:=.seq its.toArray n }) (hf:f its.toArray = its'.toArray) (hv:zv ys its') (hz:ys.length <= sizeLine) :
  Inv X zB σ (upd H l (.lst ys)) { s with heap:=s.heap.update l (Obj.mapSeq f),toks:=t' }:=by
 have q:=PySem.IsL.update e f;rw [hf] at q;refine I.write (x:=l) (e:=l) (by rw [hH]; exact trivial) (.inl rfl) (fun b' u hb hu=>(zVf s.heap (Obj.mapSeq f) (Ne.symm hb)).trans hu) ⟨_,q⟩ ?_;exact ⟨hz,its',_,hv,q⟩
theorem Inv.lnew {its:List Value} {t':Nat} (I:Inv X zB σ H s) (hv:zv ys its) (hz:ys.length <= sizeLine) :
  Inv X zB σ (upd H s.heap.objs.size (.lst ys)) { s with heap:=s.heap.push { cls:=.type "list", data:=.seq its.toArray },toks:=t' } :=
 I.laid (fun _ _ q=>zUz _ q) (zU4 _) ⟨hz,its,0,hv,zU8 _ rfl⟩
theorem Inv.fresh (I:Inv X zB σ H s):H s.heap.objs.size = none:=I.hok.fresh (zU4 _)
theorem Inv.lstM (I:Inv X zB σ H s) (hH:H l = some (.lst xs)):xs.length <= sizeLine /\ ∃ (its:List Value) (n:Nat),zv xs its /\ xs.length = its.length /\ s.heap.get? l = some { cls:=.type "list", data:=.seq its.toArray n }:=by
 obtain ⟨z,its,n,r,e⟩:=I.hok l _ hH;exact ⟨z,its,n,r,r.length,e⟩
theorem zOf {n:Nat} (h:n <= sizeLine):Builtin.List.listTooLong n = false:=by
 unfold Builtin.List.listTooLong;exact zVX (by omega)
end
section
variable {X:Cx}
def zMa:V -> List V -> Hp -> VK -> Prop:=fun x vs H Q=>∃ l xs y,x = .ref l /\ vs = [y] /\ H l = some (.lst xs) /\ xs.length < sizeLine /\ Q .non (upd H l (.lst (xs ++ [y])))
theorem zOU:MtM X "list.append" zMa:=by
 intro zB s σ H x vs v us Q I rx rv h;obtain ⟨l,xs,y,rfl,rfl,hH,hz,q⟩:=h;cases rx;obtain ⟨u,rfl,ru⟩:=rv.one;obtain ⟨z,its,n,r,hl,e⟩:=I.lstM hH;refine call_meets F.slot_list_append ⟨_,e,rfl⟩ F.entry_list_append (F.args_list_append_2 _ _) (PySem.list_append l its.toArray n u (by rw [zU6]; omega)) ⟨e,?_⟩;refine ⟨.non,_,I.lset (its':=its ++ [u]) hH e (by simp) (r.append (.cons ru .nil)) ?_,rfl,q⟩;rw [zVE,List.length_singleton];omega
def zMg:V -> List V -> Hp -> VK -> Prop:=fun x vs H Q=>∃ l b xs zs,x = .ref l /\ vs = [.ref b] /\ H l = some (.lst xs) /\ H b = some (.lst zs) /\ xs.length + zs.length <= sizeLine /\ Q .non (upd H l (.lst (xs ++ zs)))
theorem zNg:MtM X "list.extend" zMg:=by
 intro zB s σ H x vs v us Q I rx rv h;obtain ⟨l,b,xs,zs,rfl,rfl,hH,hB,hz,q⟩:=h;cases rx;obtain ⟨u,rfl,ru⟩:=rv.one;cases ru;obtain ⟨z,its,n,r,hl,e⟩:=I.lstM hH;obtain ⟨z2,its2,n2,r2,hl2,e2⟩:=I.lstM hB;have hsz:its.toArray.size + its2.toArray.size <= sizeLine:=by rw [zU6,zU6]; omega
 have hlong:¬ (!its.toArray.isEmpty && Builtin.List.listTooLong (its.toArray.size + its2.toArray.size)) = true:=by
  rw [zOf hsz,Bool.and_false];exact zVK
 refine call_meets F.slot_list_extend ⟨_,e,rfl⟩ F.entry_list_extend (F.args_list_extend_2 _ _)
  (AutoSeq1.list_extend_list_list_0 l its.toArray n b its2.toArray n2 hlong (by rw [zU6]; omega) (by omega)) ⟨e,e2,?_⟩
 refine ⟨.non,_,I.lset (its':=its ++ its2) hH e (by simp) (r.append r2) ?_,rfl,q⟩;rw [zVE];omega
def zQN:V -> List V -> Hp -> VK -> Prop:=fun x vs H Q=>∃ l xs i k y,x = .ref l /\ vs = [.int i] /\ H l = some (.lst xs) /\ -(2 ^ 63) <= i /\ i < 2 ^ 63 /\ seqIndex? i xs.length = some k /\ xs[k]? = some y /\ Q y (upd H l (.lst (xs.eraseIdx k)))
theorem zP0:MtM X "list.pop" zQN:=by
 intro zB s σ H x vs v us Q I rx rv h;obtain ⟨l,xs,i,k,y,rfl,rfl,hH,h1,h2,hk,hy,q⟩:=h;cases rx;obtain ⟨u,rfl,ru⟩:=rv.one;obtain ⟨t,rfl⟩:=ru;obtain ⟨z,its,n,r,hl,e⟩:=I.lstM hH;obtain ⟨w,hw,rw'⟩:=r.get hy
 refine call_meets F.slot_list_pop ⟨_,e,rfl⟩ F.entry_list_pop (F.args_list_pop_2 _ _)
  (MeetsSeq.list_pop_at l its.toArray n i t k w (fitsIndex_both h1 h2) (by rw [zU6,<- hl]; exact hk) (by rw [<- zWd]; exact hw) (by rw [zU6]; omega)) ⟨e,?_⟩
 refine ⟨y,_,I.lset (its':=its.eraseIdx k) hH e ?_ (r.eraseIdx k) ?_,rw',q⟩
 ·show its.toArray.eraseIdxIfInBounds k = (its.eraseIdx k).toArray;rw [List.eraseIdxIfInBounds_toArray]
 ·have:=zIg xs k;omega
def zTt:R2:=fun x y H Q=>∃ l b xs zs,x = .ref l /\ y = .ref b /\ H l = some (.lst xs) /\ H b = some (.lst zs) /\ xs.length + zs.length <= sizeLine /\ ∀ p,H p = none -> Q (.ref p) (upd H p (.lst (xs ++ zs)))
theorem zSk:OpR X (binaryOp .Add) zTt:=by
 intro zB s σ H x y v u Q I rx ry h;obtain ⟨l,b,xs,zs,rfl,rfl,hH,hB,hz,q⟩:=h;cases rx;cases ry;obtain ⟨z,its,n,r,hl,e⟩:=I.lstM hH;obtain ⟨z2,its2,n2,r2,hl2,e2⟩:=I.lstM hB;refine PySem.P.add_list e e2 ?_ (by rw [zU6,zU6]; omega);have ea:its.toArray ++ its2.toArray = (its ++ its2).toArray:=by simp
 rw [ea];exact ⟨.ref _,_,I.lnew (t':=s.toks) (r.append r2) (by rw [zVE]; omega),rfl,q _ I.fresh⟩
end
end L2
namespace Att
open PySem PySem.W PySem.Calls PyProof.Rows
theorem zGk {P:Params} {h:Heap}:∀ (ns:List Int) (vs:List Value),WellAll P h vs (ns.map WData.int) -> IntsAre vs ns:=by
 intro ns;induction ns with
 | nil=>
  intro vs w;rw [List.map_nil] at w;cases w;exact .nil
 | cons n ns ih=>
  intro vs w;rw [zVH] at w;cases w with
  | cons a b=>
   cases a;exact .cons _ _ (ih _ b)
theorem zNr {l:OpenLaw} {n:Nat} (hn:l.most = some n) {P:Params} {h:Heap} {args:List WData} {vals:List Value}
  (hpre:l.row.toRowW.claim.pre args = true) (hwl:WellAll P h vals args) :
  ∃ a vs ns,vals = [Value.ref a] /\ args = [WData.list (ns.map WData.int)] /\ h.get? a = some { cls:=.type "list", data:=.seq vs.toArray } /\ IntsAre vs ns /\ ns.length <= n:=by
 have hsh:WShape.hasAll [] args [.list .int] = true:=(pre_splitW hpre).1;have hc:l.pre.holds [] { args:=args } = true:=(pre_splitW hpre).2;obtain ⟨d,r,rfl,h1,h2⟩:=hasAllW_cons hsh;obtain rfl:=hasAllW_nil h2;obtain ⟨xs,rfl,h3⟩:=hasW_list h1;obtain ⟨ns,rfl⟩:=items_int h3;have hlen:ns.length <= n:=by
  unfold OpenLaw.pre at hc;have h4:(WTm.not (.lt (.lit (.int (n:Int))) (.len (.arg 0)))).holds [] { args:=[.list (ns.map .int)] } = true:=by
   have h4:=(holds_andW hc).1;rw [hn] at h4;exact h4
  have h5:=condW_of h4 (w_not (w_lt w_lit (w_len_list (w_arg rfl))));rw [zU7] at h5;refine Nat.le_of_not_lt fun q=>?_;have q':(n:Int) < ((ns.length:Nat):Int):=by omega
  first
   | (rw [zV6 q'] at h5; exact absurd h5 (by decide))
   | (simp at h5; omega)
 cases hwl with
 | cons w1 w2=>
  cases w2;cases w1 with
  | list ho hall=>exact ⟨_,_,ns,rfl,rfl,ho,zGk ns _ hall,hlen⟩
theorem zOB (l:OpenLaw) (args:List WData):l.row.toRowW.claim.post args (.bool true) args = true :=
 postW_of (r:=l.row.toRowW) (X:=(true == true))
  (show WShape.has [] (.bool true) .bool = true by first | rfl | decide | simp [WShape.has,WShape.arms,WShape.armsAll])
  (show (WTm.eq .res (.lit (.bool true))).value [] { args:=args,res:=some (.bool true),after:=args } = some (.bool (true == true)) from w_eq_bool (w_res rfl) w_lit) rfl
theorem zK8 {l:OpenLaw} {n:Nat} {q:Program} {loose:List Str} {XP:(Str -> Option Value) -> Heap -> Prop} {YP:World -> Heap -> Prop} {d:DefRec}
  (hn:l.most = some n) (hdf:d.params.defaults = [])
  (call:∀ (w:World) (s₀ s₁:Shared) (mg mb:Str -> Option Value) (fa:Addr) (o:Obj) (pm cd doc:Value) (a:Addr) (vs:List Value) (ns:List Int),
   Ground q loose [] XP w s₀ mg mb s₁.heap -> YP w s₁.heap ->
   s₁.heap.get? fa = some o -> o.data = .func (docDef d.name d.params d.body d.scope pm cd doc) -> s₁.heap.CodeRec cd d.name -> mg d.name = some (.ref fa) ->
   s₁.heap.get? a = some { cls:=.type "list", data:=.seq vs.toArray } -> IntsAre vs ns -> ns.length <= n -> s₁.gens = #[] ->
   codeAny (model l.prog w) callerA (.call (.ref fa) ⟨[.ref a],[]⟩) (fun r s'=>r = .ok (.ret (.bool true)) /\ OldK s₁.heap s'.heap /\ s'.os = s₁.os /\ AllBare s'.gens) s₁) :
  WalkO q loose XP YP l.row.toRowW d [] (fun f vs=>PySem.call f vs):=by
 intro w s₀ s₁ mg mb G Y fa o pm cd doc dV kV ho hd hcd hD hmg hg args vals as hpre hlay hrd hwl hlo;obtain rfl:dV = .none:=Dflts.none hD hdf;obtain rfl:kV = .none:=Dflts.noKw hD;obtain ⟨a,vs,ns,rfl,rfl,hobj,hints,hlen⟩:=zNr hn hpre hwl;refine enter_call (codeAny_mono (call w s₀ s₁ mg mb fa o pm cd doc a vs ns G Y ho (fd_plain hd) hcd hmg hobj hints hlen hg) fun r s' hq=>?_);obtain ⟨rfl,h2,h3,h4⟩:=hq;exact ⟨.inl ⟨.bool true,.bool true,[],rfl,fun _=>rfl,.bool true,zOB l _,fun _=>⟨List.Pairwise.nil,fun _ hm=>(nomatch hm)⟩⟩,h2,h3,h4⟩
end Att
namespace L2
open PySem PySem.Spec PyProof.Rows
theorem zI5:∀ {vs:List Value} {ns:List Int},IntsAre vs ns -> zv (ns.map V.int) vs
 | _,_,.nil=> .nil
 | _,_,.cons n t h=> .cons ⟨t,rfl⟩ (zI5 h)
def zRV (H:Hp):Prop:=∀ b,H b = none \/ ∃ o xs,H b = some (.frz o (.lst xs))
theorem zOx {P:Program} {w:World} {K:PySem.W.Frag} {mg mb:Str -> Option Value} {CX:CXT} {k:Nat} {fa a:Addr} {fd:FuncData} {x:Str} {sp:Sp} {s₁:Shared} {vs:List Value} {ns:List Int}
  (KX:K.In s₁.heap) (hns:s₁.heap.Ns mainGlobals mg) (hb:s₁.heap.Ns builtinsNs mb) (hbb:∀ x:Str,x ≠ "__name__" -> mb x = bootBuiltins x) (hlim:s₁.heap.NoLimit) (hg:s₁.gens = #[])
  (ha:s₁.heap.get? a = some { cls:=.type "list", data:=.seq vs.toArray }) (hi:IntsAre vs ns) (hl:ns.length <= sizeLine) (hr:Room k callerA)
  (F:∀ base:Heap,K.In base -> base.Ns mainGlobals mg -> FnOk P w K mg base CX k fa fd [x] sp) (hbind:∀ (s:Shared) (u:Value),BindsTo s fd ⟨[u],[]⟩ [(x,u)])
  (hsp:∀ H:Hp,zRV H -> SqL K H a (ns.map V.int) -> sp [.ref a] H (fun v _=>v = .bl true) fun _ _ _=>False)
  (hCX:∀ H e s',CX [] H s₁ (fun _ _ _=>False) e s' -> False) :
  codeAny (model P w) callerA (.call (.ref fa) ⟨[.ref a],[]⟩) (fun r s'=>r = .ok (.ret (.bool true)) /\ OldK s₁.heap s'.heap /\ s'.os = s₁.os /\ AllBare s'.gens) s₁:=by
 have rv:=zI5 hi;have lenV:=hi.length
 have core:∀ H:Hp,zRV H -> SqL K H a (ns.map V.int) -> HOk P w H s₁.heap -> (∀ b,H b ≠ none -> b = a) -> (H a ≠ none -> K.lookup a = none) ->
   codeAny (model P w) callerA (.call (.ref fa) ⟨[.ref a],[]⟩) (fun r s'=>r = .ok (.ret (.bool true)) /\ OldK s₁.heap s'.heap /\ s'.os = s₁.os /\ AllBare s'.gens) s₁:=by
  intro H hO hS hok hA hK;have base_of:∀ {b:Addr} {o:Obj},s₁.heap.get? b = some o -> H b = none -> (zJq s₁.heap H).get? b = some o:=fun e n=>zPP e n;have noA:∀ {b:Addr} {o:Obj} {es:Array DictEntry} {ep:Nat},s₁.heap.get? b = some o -> o.data = .dict es ep -> H b = none:=fun {b o es ep} e d=>by
   cases q:H b with
   | none=>rfl
   | some u=>
    have e':b = a:=hA b (by rw [q]; simp);subst e';rw [ha] at e; cases e;have d':Data.seq vs.toArray _ = Data.dict es ep:=d;cases d'
  have nsK:∀ {b:Addr} {m:Str -> Option Value},s₁.heap.Ns b m -> (zJq s₁.heap H).Ns b m:=fun {b m} ⟨o,es,ep,e,d,r⟩=>⟨o,es,ep,base_of e (noA e d),d,r⟩;have hKb:K.In (zJq s₁.heap H):=fun b o e=>base_of (KX b o e) (by
   cases q:H b with
   | none=>rfl
   | some u=>
    have e':b = a:=hA b (by rw [q]; simp);subst e';rw [hK (by rw [q]; simp)] at e; cases e)
  have hM:Mod K mg (zJq s₁.heap H):=⟨hKb,nsK hns,⟨mb,nsK hb,hbb⟩,let ⟨mc,h1,h2⟩:=hlim; ⟨mc,nsK h1,h2⟩⟩;have e0:Env0 P w K mg (zJq s₁.heap H) callerA [] s₁ H:=⟨rfl,hM,fun b o e=>zQg e,Nat.le_of_eq (zN7 _ _),trivial,fun b hb=>absurd (show b ∈ ([]:List Addr) from hb) (by simp),hok,.of_eq hg⟩;refine codeAny_mono ((F _ hKb (nsK hns)).run callerA [] s₁ H ⟨[.ref a],[]⟩ [.ref a] [.ref a] _ _ hr e0 (hbind s₁ (.ref a)) (.cons rfl .nil) (hsp H hO hS)) fun r s' h=>?_;cases r with
  | error e=>exact (hCX H e s' h).elim
  | ok fl=>
   cases fl with
   | next=>exact False.elim h
   | brk=>exact False.elim h
   | cont=>exact False.elim h
   | ret u=>
    obtain ⟨v,H',os,bare,un,hok',r',q⟩:=h;have q':v = .bl true:=q;subst q';obtain rfl:u = Value.bool true:=r';refine ⟨rfl,OldK.of_keep fun b o e=>?_,os,bare⟩;cases q:H b with
    | none=>exact un.keep b o e q (by intro z; exact absurd (show b ∈ ([]:List Addr) from z) (by simp)) (by simp)
    | some u=>
     rcases hO b with z | ⟨ob,xs,z⟩
     ·rw [q] at z; cases z
     ·have z2:=un.frzs b ob _ z;obtain ⟨e1,_⟩:=hok b _ z;obtain ⟨e2,_⟩:=hok' b _ z2;rw [e] at e1; cases e1;exact e2
 cases hk:K.lookup a with
 | some o=>
  have e:=KX a o hk;rw [ha] at e;cases e;refine core (fun _=>none) (fun _=> .inl rfl) (.inr ⟨_,vs.toArray,_,hk,rfl,rfl,rfl,by rw [zU6,lenV]; exact hl,by simpa using rv⟩) (fun b u z=>by have z':(none:Option HO) = some u:=z; cases z') (fun b z=>absurd rfl z) fun z=>absurd rfl z
 | none=>
  refine core (fun b=>if b = a then some (.frz { cls:=.type "list", data:=.seq vs.toArray } (.lst (ns.map V.int))) else none) (fun b=>?_) (.inl (.inr ⟨{ cls:=.type "list", data:=.seq vs.toArray },zVD rfl⟩)) (fun b u z=>?_) (fun b z=>?_) fun _=>hk
  ·by_cases hb:b = a
   ·exact .inr ⟨_,_,zVD hb⟩
   ·exact .inl (zVG hb)
  ·by_cases hb:b = a
   ·have z':=(zVD hb).symm.trans z;cases z';subst hb;exact ⟨ha,by rw [zU7]; exact hl,vs,_,rv,ha⟩
   ·have z':=(zVG hb).symm.trans z;cases z'
  ·by_cases hb:b = a
   ·exact hb
   ·exact absurd (zVG hb) z
theorem zRE {l:PySem.W.OpenLaw} {n k:Nat} {q:Program} {loose:List Str} {XP:(Str -> Option Value) -> Heap -> Prop} {YP:World -> Heap -> Prop} {d:DefRec} {K:Params -> PySem.W.Frag} {CX:World -> CXT} {sp:World -> Sp} {x:Str}
  (hn:l.most = some n) (hn2:n <= sizeLine) (hdf:d.params.defaults = []) (hr:Room k callerA)
  (hY:∀ (w:World) (h:Heap),YP w h -> (K w.params).In h)
  (F:∀ (w:World) (mg:Str -> Option Value) (fa:Addr) (h:Heap),(K w.params).In h -> h.Ns mainGlobals mg -> mg d.name = some (.ref fa) ->
   ∃ fd:FuncData,(∀ (s:Shared) (u:Value),BindsTo s fd ⟨[u],[]⟩ [(x,u)]) /\
    ∀ base:Heap,(K w.params).In base -> base.Ns mainGlobals mg -> FnOk l.prog w (K w.params) mg base (CX w) k fa fd [x] (sp w))
  (hsp:∀ (w:World) (H:Hp) (a:Addr) (ns:List Int),ns.length <= n -> zRV H -> SqL (K w.params) H a (ns.map V.int) -> sp w [.ref a] H (fun v _=>v = .bl true) fun _ _ _=>False)
  (hCX:∀ (w:World) (H:Hp) (s:Shared) (e:Value) (s':Shared),CX w [] H s (fun _ _ _=>False) e s' -> False) :
  PySem.W.WalkO q loose XP YP l.row.toRowW d [] (fun f vs=>PySem.call f vs):=by
 refine Att.zK8 hn hdf fun w s₀ s₁ mg mb fa o pm cd doc a vs ns G Y ho hd hcd hmg hobj hints hlen hg=>?_;have KX:=hY w _ Y;obtain ⟨fd,hb,hF⟩:=F w mg fa _ KX G.T.g hmg;exact zOx KX G.T.g G.T.b G.T.builtins G.T.nolimit hg hobj hints (zVP hlen hn2) hr hF hb (fun H hO hS=>hsp w H a ns hlen hO hS) fun H e s'=>hCX w H s₁ e s'
def zEm (s:Stmt):Arguments:=match s with
 | .FunctionDef _ a _ _ _ _ _ _ _ _=>a
 | _=>{ posonlyargs:=[],args:=[],vararg:=none,kwonlyargs:=[],kw_defaults:=[],kwarg:=none,defaults:=[] }
def zDH (s:Stmt):List Stmt:=match s with
 | .FunctionDef _ _ b _ _ _ _ _ _ _=>b
 | _=>[]
def zP (s:Stmt):Scope:=match s with
 | .FunctionDef _ _ _ _ _ _ sc _ _ _=>sc
 | _=>{ kind:=.function,names:=[],isGenerator:=false,isCoroutine:=false }
abbrev CX0:CXT:=fun _ _ _ _ _ _=>False
abbrev E0:XK:=fun _ _ _=>False
theorem zUQ {X:Cx}:zLs CX0 X E0:=fun _ _ _ _ _ _ _ h=>h.elim
structure Fun (K:PySem.W.Frag) (x qual:Str) (st:Stmt) (f:Addr) (fd:FuncData):Prop where
 ex:∃ (oc:Value) (od:Option Addr) (kV doc pm:Value) (an:Option Addr) (cdv ct:Value) (osl:Array (Option Value)),
  fd = PySem.W.fnOf x qual (zEm st) (zDH st) (zP st) .none kV doc pm an cdv ct /\ K.lookup f = some ⟨oc,od,.func fd,osl⟩ /\ PySem.W.codeIn K cdv qual = true
 kp:PySem.W.keepIn K (.ref f) = true
section
variable {P:Program} {w:World} {K:PySem.W.Frag} {mg:Str -> Option Value} {base:Heap}
theorem Fun.ok {x qual:Str} {st:Stmt} {f:Addr} {fd:FuncData} {N ps:List Str} {k:Nat} {sp:Sp} (F:Fun K x qual st f fd) (S:FnScope N ps (zP st)) (len:∀ vs H Q E,sp vs H Q E -> vs.length = ps.length)
  (hbody:∀ (cdv:Value) (A:Around) (outer:List Env) (s:Shared) (H:Hp) (vs:List V) (Q:VK) (E:XK),Room k (A.deeper (envOfC qual (zP st) s.heap.objs.size f cdv)) -> sp vs H Q E ->
   ∃ t,PSs (zLm CX0 P w K mg base N qual (zP st) f cdv A outer s H E).nox (zDH st) t /\ t { nx:=fun _ H'=>Q .non H',rt:=Q } (zE1 N vs) H):FnOk P w K mg base CX0 (k + 1) f fd ps sp:=by
 obtain ⟨oc,od,kV,doc,pm,an,cdv,ct,osl,rfl,lk,hcd⟩:=F.ex;refine zUR lk hcd S len fun A outer s H vs Q E hr hsp=>?_;obtain ⟨t,h,q⟩:=hbody cdv A outer s H vs Q E hr hsp;exact ⟨t,h.nox,q⟩
theorem Fun.binds {x qual:Str} {st:Stmt} {f:Addr} {fd:FuncData} {ps:List Str} (F:Fun K x qual st f fd)
  (h:∀ (kV doc pm:Value) (an:Option Addr) (cdv ct:Value) (us:List Value),us.length = ps.length -> bindArgs (PySem.W.fnOf x qual (zEm st) (zDH st) (zP st) .none kV doc pm an cdv ct) ⟨us,[]⟩ = pure (ps.zip us)):zHz K fd ps []:=by
 obtain ⟨oc,od,kV,doc,pm,an,cdv,ct,osl,rfl,lk,hcd⟩:=F.ex;exact .all (h kV doc pm an cdv ct)
theorem zOz {x qual:Str} {st:Stmt} {f:Addr} {oc:Value} {od an:Option Addr} {osl:Array (Option Value)} {kV doc pm cdv ct:Value} (l:K.lookup f = some ⟨oc,od,.func (PySem.W.fnOf x qual (zEm st) (zDH st) (zP st) .none kV doc pm an cdv ct),osl⟩)
  (c:PySem.W.codeIn K cdv qual = true) (k:PySem.W.keepIn K (.ref f) = true):Fun K x qual st f (PySem.W.fnOf x qual (zEm st) (zDH st) (zP st) .none kV doc pm an cdv ct):=⟨⟨oc,od,kV,doc,pm,an,cdv,ct,osl,rfl,l,c⟩,k⟩
end
theorem zCY {A:Around} {k:Nat} (hr:Room k A):A.units + 1 < cLine:=Nat.lt_of_le_of_lt (Nat.add_le_add_left (by decide:1 <= 64) _) hr.units
section
variable {X:Cx}
theorem pv (i:Nat) {x:Str} {pos:Pos} (hN:X.N[i]? = some x:=by rfl) (hv:Vis X.env.scope x:=by first | exact Or.inl rfl | exact Or.inr (Or.inl rfl) | exact Or.inr (Or.inr rfl)) (hd:(x == ("__debug__" : Str)) = false:=by decide)
  (hcd:(x == ("__classdict__" : Str)) = false:=by decide):PE X (.Name x pos) (zSZ i):=zTB hN hv hd hcd
end
theorem zGP {A B:Prop} (h:B):if false = true then A else B:=by
 rw [zVG zVK];exact h
theorem zGI {A B:Prop} (h:A):if true = true then A else B:=by
 rw [zVD rfl];exact h
section
variable {κ:Type} [DecidableEq κ]
def zEv (kvs:List (κ × V)) (k:κ):Option V:=(kvs.find? fun kv=>decide (kv.1 = k)).map (·.2)
def zEB (kvs:List (κ × V)) (k:κ) (v:V):List (κ × V) :=
 if (kvs.any fun kv=>decide (kv.1 = k)) = true then kvs.map (fun kv=>if kv.1 = k then (kv.1,v) else kv) else kvs ++ [(k,v)]
theorem zFh {p:κ × V} {r:List (κ × V)} {k:κ} (e:p.1 = k):zEv (p :: r) k = some p.2:=by simp [zEv,zWk,e]
theorem zFg {p:κ × V} {r:List (κ × V)} {k:κ} (e:¬ p.1 = k):zEv (p :: r) k = zEv r k:=by simp [zEv,zWk,e]
theorem zKo (k:κ):∀ kvs:List (κ × V),(kvs.any fun kv=>decide (kv.1 = k)) = (zEv kvs k).isSome
 | []=>rfl
 | p :: r=>by
  rw [List.any_cons];by_cases e:p.1 = k
  ·simp only [zFh e,zV6 e,Bool.true_or,Option.isSome_some]
  ·rw [zFg e,zVX e,Bool.false_or]; exact zKo k r
theorem zC9 (kvs:List (κ × V)) (k:κ) (v:V):(zEB kvs k v).length <= kvs.length + 1:=by
 unfold zEB;split
 ·rw [zU7]; omega
 ·rw [zVE,zVV,List.length_nil]; omega
theorem zGB.isSome_eq (r:zGB o u):o.isSome = u.isSome:=by
 cases o with
 | none=>cases u with
  | none=>rfl
  | some _=>exact (show False from r).elim
 | some _=>cases u with
  | none=>exact (show False from r).elim
  | some _=>rfl
theorem zGB.getD (r:zGB o u) (rd:zAF d d'):zAF (o.getD d) (u.getD d'):=by
 cases o with
 | none=>cases u with
  | none=>exact rd
  | some _=>exact (show False from r).elim
 | some _=>cases u with
  | none=>exact (show False from r).elim
  | some _=>exact r
theorem KV.val {kvs:List (κ × V)} {vs:List (κ × Value)} (r:KV kvs vs) (k:κ):zGB (zEv kvs k) (valueAt vs k):=by
 unfold KV at r;induction r with
 | nil=>exact True.intro
 | @cons p q ps qs h t ih=>
  obtain ⟨h1,h2⟩:=h;by_cases e:p.1 = k
  ·have e':q.1 = k:=h1.symm.trans e;have b:valueAt (q :: qs) k = some q.2:=by simp [valueAt,zWk,e']
   rw [zFh e,b]; exact h2
  ·have e':¬ q.1 = k:=fun z=>e (h1.trans z);have b:valueAt (q :: qs) k = valueAt qs k:=by simp [valueAt,zWk,e']
   rw [zFg e,b]; exact ih
theorem KV.any (r:KV kvs vs) (k:κ):(kvs.any fun kv=>decide (kv.1 = k)) = vs.any fun kv=>decide (kv.1 = k):=by
 unfold KV at r;induction r with
 | nil=>rfl
 | cons h t ih=>rw [List.any_cons,List.any_cons,ih,h.1]
theorem KV.repl (r:KV kvs vs) (k:κ) (ry:zAF y u) :
  KV (kvs.map fun kv=>if kv.1 = k then (kv.1,y) else kv) (vs.map fun kv=>if kv.1 = k then (kv.1,u) else kv):=by
 unfold KV at r ⊢;induction r with
 | nil=>exact .nil
 | @cons p q ps qs h t ih=>
  rw [zVH,zVH];refine .cons ?_ ih;obtain ⟨h1,h2⟩:=h;by_cases e:p.1 = k
  ·rw [zVD e,zVD (h1.symm.trans e)]; exact ⟨h1,ry⟩
  ·rw [zVG e,zVG (fun z=>e (h1.trans z))]; exact ⟨h1,h2⟩
theorem KV.put (r:KV kvs vs) (k:κ) (ry:zAF y u):KV (zEB kvs k y) (stored vs k u):=by
 unfold zEB stored;rw [r.any k];by_cases e:(vs.any fun kv=>decide (kv.1 = k)) = true
 ·rw [zVD e,zVD e]; exact r.repl k ry
 ·rw [zVG e,zVG e]; exact Paired.snoc r ⟨rfl,ry⟩
theorem KV.length (r:KV kvs vs):kvs.length = vs.length:=Paired.length r
end
theorem zHt (r:zAF (kV k) u):(zAn P w).is k u = true:=by
 cases k with
 | inl i=>obtain ⟨t,e⟩:=(show ∃ t,u = Value.int i t from r); subst e; exact zLG P w i t
 | inr x=>obtain ⟨t,e⟩:=(show ∃ t,u = Value.str x t from r); subst e; exact zKT P w x t
theorem zIc:∀ {ks:List Key} {us:List Value},zv (ks.map kV) us -> ItemsAre (zAn P w) ks us
 | [],_,r=>by rw [List.map_nil] at r; cases r; exact .nil
 | k :: ks,_,r=>by
  rw [zVH] at r;cases r with
  | cons h t=>exact .cons (zHt h) (zIc t)
abbrev KT (H:Hp):List (List Key × V) -> List (List Key × Addr × Value) -> Prop:=Paired fun p q=>p.1 = q.1 /\ H q.2.1 = some (.tup (p.1.map kV)) /\ zAF p.2 q.2.2
theorem KT.val {H:Hp} {kvs:List (List Key × V)} {xs:List (List Key × Addr × Value)} (r:KT H kvs xs) (k:List Key):zGB (zEv kvs k) ((atKey xs k).map (·.2)):=by
 induction r with
 | nil=>exact True.intro
 | @cons p q ps qs h t ih=>
  obtain ⟨h1,_,h2⟩:=h;by_cases e:p.1 = k
  ·have e':q.1 = k:=h1.symm.trans e;have b:atKey (q :: qs) k = some q.2:=by simp [atKey,zWk,e']
   rw [zFh e,b]; exact h2
  ·have e':¬ q.1 = k:=fun z=>e (h1.trans z);have b:atKey (q :: qs) k = atKey qs k:=by simp [atKey,zWk,e']
   rw [zFg e,b]; exact ih
theorem KT.repl (r:KT H kvs xs) (k:List Key) (ry:zAF y u) :
  KT H (kvs.map fun kv=>if kv.1 = k then (kv.1,y) else kv) (xs.map (putAt k u)):=by
 induction r with
 | nil=>exact .nil
 | @cons p q ps qs h t ih=>
  rw [zVH,zVH];refine .cons ?_ ih;obtain ⟨h1,h2,h3⟩:=h;unfold putAt;by_cases e:p.1 = k
  ·rw [zVD e,zVD (h1.symm.trans e)]; exact ⟨h1,h2,ry⟩
  ·rw [zVG e,zVG (fun z=>e (h1.trans z))]; exact ⟨h1,h2,h3⟩
theorem KT.put (r:KT H kvs xs) (k:List Key) (hb:H b = some (.tup (k.map kV))) (ry:zAF y u) :
  KT H (zEB kvs k y) (storedH xs k b u):=by
 have e:(kvs.any fun kv=>decide (kv.1 = k)) = (atKey xs k).isSome:=by
  rw [zKo,(r.val k).isSome_eq,Option.isSome_map]
 unfold zEB storedH;rw [e];by_cases q:(atKey xs k).isSome = true
 ·rw [zVD q,zVD q]; exact r.repl k ry
 ·rw [zVG q,zVG q]; exact Paired.snoc r ⟨rfl,hb,ry⟩
theorem KT.keeps (r:KT H kvs xs) (ht:∀ b ys,H b = some (.tup ys) -> H' b = some (.tup ys)):KT H' kvs xs :=
 Paired.mapP r fun _ _ z=>⟨z.1,ht _ _ z.2.1,z.2.2⟩
section
variable {P:Program} {w:World} {H:Hp} {h:Heap} {a:Addr}
theorem zRw (ok:HOk P w H h) (e:Rd H a u):zAV P w H h a u:=e.ok ok
theorem zGy (ok:HOk P w H h) (e:Rd H a (.dK kvs)):kvs.length <= sizeLine /\ (a == sysModules) = false /\ ∃ vs,KV kvs vs /\ h.DictOf (zAn P w) a vs :=
 show zAV P w H h a (.dK kvs) from zRw ok e
theorem zRy (ok:HOk P w H h) (e:H a = some (.dK kvs)):kvs.length <= sizeLine /\ (a == sysModules) = false /\ ∃ vs,KV kvs vs /\ h.DictOf (zAn P w) a vs:=zGy ok (.inl e)
theorem zE3 (ok:HOk P w H h) (e:H a = some (.tup (ks.map kV))):(tupleKind (zAn P w)).is h ks a:=by
 obtain ⟨_,its,r,o,h1,h2,⟨n,h3⟩,_⟩:=(show zAV P w H h a (.tup (ks.map kV)) from ok a _ e);exact ⟨o,its.toArray,n,h1,h2,h3,by simpa using zIc r⟩
theorem zG4 (ok:HOk P w H h) (e:Rd H a (.dT kvs)):kvs.length <= sizeLine /\ (a == sysModules) = false /\
  ∃ xs,KT H kvs xs /\ h.DictOfH (tupleKind (zAn P w)) a xs:=by
 obtain ⟨z,y,xs,r,o,es,ep,h1,h2,h3,h4,h5⟩:=(show zAV P w H h a (.dT kvs) from zRw ok e);refine ⟨z,y,xs,r,o,es,ep,h1,h2,h3,h4,fun x hx=>?_,h5⟩;have all:∀ {l:List (List Key × V)} {m:List (List Key × Addr × Value)},KT H l m -> ∀ x ∈ m,(tupleKind (zAn P w)).is h x.1 x.2.1:=by
  intro l m q;induction q with
  | nil=>intro x hx; exact nomatch hx
  | @cons p q ps qs hq t ih=>
   intro x hx;rcases zVA.mp hx with e | hx
   ·subst e;exact zE3 ok (by rw [<- hq.1]; exact hq.2.1)
   ·exact ih x hx
 exact all r x hx
theorem zR3 (ok:HOk P w H h) (e:H a = some (.dT kvs)):kvs.length <= sizeLine /\ (a == sysModules) = false /\
  ∃ xs,KT H kvs xs /\ h.DictOfH (tupleKind (zAn P w)) a xs:=zG4 ok (.inl e)
end
def zDw (H:Hp) (a:Addr) (y:V) (r:Option V):Prop :=
 (∃ kvs k,Rd H a (.dK kvs) /\ y = kV k /\ r = zEv kvs k) \/ ∃ kvs k b,Rd H a (.dT kvs) /\ y = .ref b /\ H b = some (.tup (k.map kV)) /\ r = zEv kvs k
def zGl (H:Hp) (a:Addr) (y v:V) (H':Hp):Prop :=
 (∃ kvs k,H a = some (.dK kvs) /\ y = kV k /\ kvs.length < sizeLine /\ H' = upd H a (.dK (zEB kvs k v))) \/
 ∃ kvs k b,H a = some (.dT kvs) /\ y = .ref b /\ H b = some (.tup (k.map kV)) /\ kvs.length < sizeLine /\ H' = upd H a (.dT (zEB kvs k v))
theorem zDw.k {H:Hp} {a:Addr} {kvs:List (Key × V)} {k:Key} (e:H a = some (.dK kvs)):zDw H a (kV k) (zEv kvs k):=.inl ⟨kvs,k,.inl e,rfl,rfl⟩
theorem zDw.t {k:List Key} (e:H a = some (.dT kvs)) (eb:H b = some (.tup (k.map kV))):zDw H a (.ref b) (zEv kvs k):=.inr ⟨kvs,k,b,.inl e,rfl,eb,rfl⟩
theorem zGl.k {H:Hp} {a:Addr} {kvs:List (Key × V)} {k:Key} {v:V} (e:H a = some (.dK kvs)) (hl:kvs.length < sizeLine):zGl H a (kV k) v (upd H a (.dK (zEB kvs k v))):=.inl ⟨kvs,k,e,rfl,hl,rfl⟩
theorem zGl.t {kvs:List (List Key × V)} {k:List Key} (e:H a = some (.dT kvs)) (eb:H b = some (.tup (k.map kV))) (hl:kvs.length < sizeLine) :
  zGl H a (.ref b) v (upd H a (.dT (zEB kvs k v))):=.inr ⟨kvs,k,b,e,rfl,eb,hl,rfl⟩
section
variable {X:Cx} {zB:List (Addr × Obj)} {σ:St} {H:Hp} {s:Shared} {a:Addr} {y v:V} {u r:Value} {o:Option V} {A:Around} {E:Value -> Shared -> Prop}
theorem Inv.big (I:Inv X zB σ H s):sysModules < s.heap.objs.size:=by
 have h:mainGlobals < s.heap.objs.size:=(I.mod.glob.keeps I.bk).lt;exact Nat.lt_trans (by decide) h
theorem zNW (hu:A.units + 1 < cLine) (I:Inv X zB σ H s) (g:zDw H a y (some v)) (ry:zAF y u) (h:∀ w' s',Inv X zB σ H s' -> zAF v w' -> Q w' s') :
  wpAny (model X.prog X.w) A (getItem (.ref a) u) Q E s:=by
 rcases g with ⟨kvs,k,e,ey,l⟩ | ⟨kvs,k,b,e,ey,eb,l⟩
 ·subst ey;obtain ⟨z,hd,vs,rel,dd⟩:=zGy I.hok e;obtain ⟨w',hw,rw'⟩:=zGB.some_of (v:=v) (o:=valueAt vs k) (by rw [l]; exact rel.val k);exact wpAny_getItem_of (zHt ry) dd.mapOf hw (h w' _ (I.tok _) rw')
 ·subst ey;cases (show u = Value.ref b from ry);obtain ⟨z,hd,xs,rel,dd⟩:=zG4 I.hok e;obtain ⟨w',hw,rw'⟩:=zGB.some_of (v:=v) (o:=(atKey xs k).map (·.2)) (by rw [l]; exact rel.val k);obtain ⟨p,hp,hp2⟩:=Option.map_eq_some_iff.mp hw;refine wpAny_getItem_heap (tupleKind_room_in1 hu) (zE3 I.hok eb) dd hp ?_;rw [hp2];exact h w' _ (I.tok _) rw'
theorem zUq (hu:A.units + 1 < cLine) (I:Inv X zB σ H s) (g:zDw H a y o) (ry:zAF y u) (h:∀ s',Inv X zB σ H s' -> Q (.bool o.isSome) s') :
  wpAny (model X.prog X.w) A (compareOp .In u (.ref a)) Q E s:=by
 rcases g with ⟨kvs,k,e,ey,l⟩ | ⟨kvs,k,b,e,ey,eb,l⟩
 ·subst ey;obtain ⟨z,hd,vs,rel,dd⟩:=zGy I.hok e;refine wpAny_in_of (zHt ry) hd dd.mapOf ?_;rw [<- (rel.val k).isSome_eq,<- l];exact h _ (I.tok _)
 ·subst ey;cases (show u = Value.ref b from ry);obtain ⟨z,hd,xs,rel,dd⟩:=zG4 I.hok e;refine wpAny_in_heap (tupleKind_room_in1 hu) (zE3 I.hok eb) hd dd ?_;have q:=(rel.val k).isSome_eq;rw [Option.isSome_map] at q;rw [<- q,<- l];exact h _ (I.tok _)
theorem zQp (hu:A.units + 1 < cLine) (I:Inv X zB σ H s) (g:zDw H a y o) (ry:zAF y u) (h:∀ s',Inv X zB σ H s' -> Q (.bool (!o.isSome)) s') :
  wpAny (model X.prog X.w) A (compareOp .NotIn u (.ref a)) Q E s:=by
 rcases g with ⟨kvs,k,e,ey,l⟩ | ⟨kvs,k,b,e,ey,eb,l⟩
 ·subst ey;obtain ⟨z,hd,vs,rel,dd⟩:=zGy I.hok e;refine wpAny_notIn_of (zHt ry) hd dd.mapOf ?_;rw [<- (rel.val k).isSome_eq,<- l];exact h _ (I.tok _)
 ·subst ey;cases (show u = Value.ref b from ry);obtain ⟨z,hd,xs,rel,dd⟩:=zG4 I.hok e;refine wpAny_notIn_heap (tupleKind_room_in1 hu) (zE3 I.hok eb) hd dd ?_;have q:=(rel.val k).isSome_eq;rw [Option.isSome_map] at q;rw [<- q,<- l];exact h _ (I.tok _)
theorem zGr (I:Inv X zB σ H s) (mu:Mut (H a)) (hs:Heap.SameBut a s.heap h') (he:∃ q,h'.get? a = some q) (new:zAV X.prog X.w (upd H a ob) h' a ob) :
  Inv X zB σ (upd H a ob) { s with heap:=h',toks:=t' } :=
 I.write (x:=a) (e:=a) mu (.inl rfl) (fun b q hb z=>(hs.2 b hb).trans z) he new
theorem zO3 (z:kvs.length <= sizeLine) (hd:(a == sysModules) = false) (rel:KV kvs vs) (dd:h'.DictOf (zAn P w) a vs) :
  zAV P w H' h' a (.dK kvs):=⟨z,hd,vs,rel,dd⟩
theorem zN1 (hu:A.units + 1 < cLine) (I:Inv X zB σ H s) (g:zGl H a y v H') (ry:zAF y u) (rv:zAF v r) (h:∀ s',Inv X zB σ H' s' -> Q () s') :
  wpAny (model X.prog X.w) A (setItem (.ref a) u r) Q E s:=by
 rcases g with ⟨kvs,k,e,ey,l,eH⟩ | ⟨kvs,k,b,e,ey,eb,l,eH⟩
 ·subst ey eH;obtain ⟨z,hd,vs,rel,dd⟩:=zRy I.hok e;have hz:vs.length <= sizeLine:=by rw [<- rel.length]; exact z
  have hl:(zEB kvs k v).length <= sizeLine:=by have:=zC9 kvs k v; omega
  refine wpAny_setItem_pairs (hsz:=hz) (zHt ry) dd fun h' dd' hs=>h _ ?_;have he:∃ q,h'.get? a = some q:=let ⟨q,_,_,hq,_⟩:=dd'; ⟨q,hq⟩;exact zGr I (by rw [e]; exact True.intro) hs he (zO3 hl hd (rel.put k rv) dd')
 ·subst ey eH;cases (show u = Value.ref b from ry);obtain ⟨z,hd,xs,rel,dd⟩:=zR3 I.hok e;have hz:xs.length <= sizeLine:=by rw [<- Paired.length rel]; exact z
  have hl:(zEB kvs k v).length <= sizeLine:=by have:=zC9 kvs k v; omega
  refine wpAny_setItem_heap (hsz:=hz) (tupleKind_room_in1 hu) (zE3 I.hok eb) dd fun h' dd' hs=>h _ ?_;obtain ⟨q,es,ep,hq,h2,h3,h4,_,h5⟩:=dd';refine zGr I (by rw [e]; exact True.intro) hs ⟨q,hq⟩ ⟨hl,hd,_,(rel.put k eb rv).keeps fun c ys ec=>?_,q,es,ep,hq,h2,h3,h4,h5⟩;rw [zm (zIf ec e (fun z=>nomatch z))];exact ec
end
def zTC (i:Expr):Prop:=∀ ov iv,subscripted i false ov iv = operate [ov,iv] (getItem ov iv)
theorem zRS {prog:Program} {w:World} {A:Around} {E:Value -> Shared -> Prop} {s:Shared} {env:Env} {value slice:Expr} {pos:Pos} {T id:String} {Q:Value -> Shared -> Prop}
  (hl:typeLookup (.type T) "__getitem__" = pure (some (.builtin id))) (hs:zTC slice)
  (h:wpAny (model prog w) A (eval value env) (fun o s₁=>wpAny (model prog w) A (eval slice env) (fun i s₂=>s₂.TypeIs o T /\ wpAny (model prog w) A (getItem o i) Q E s₂) E s₁) E s) :
  wpAny (model prog w) A (eval (.Subscript value slice pos) env) Q E s:=by
 refine Subscript_ (zVU h (fun o s₁ h₁=>zVU h₁ (fun i s₂ h₂=>?_) fun _ _ x=>x) fun _ _ x=>x);obtain ⟨hT,h₂⟩:=h₂;unfold subscriptTail;refine zUy ?_;rw [getitemInPython_of_ne hT.not_modules];refine zUy (wpAny_specialOf hT hl ?_);have fin:wpAny (model prog w) A (subscripted slice false o i) (fun r s₃=>wpAny (model prog w) A (letTemporaryGo value o r >>= fun _=>pure r) Q E s₃) E s₂:=by
  rw [hs o i];exact wpAny_operating (zVU h₂ (fun r s₃ h₃=>zUy (wpAny_letTemporaryGo (zU0 h₃))) fun _ _ x=>x)
 first
  | exact zU0 (zUy fin)
  | exact zUy (zU0 (zUy fin))
  | exact zUy fin
theorem zKb (I:Inv X zB σ H s) (g:zDw H a y o):s.TypeIs (.ref a) "dict" := by
 rcases g with ⟨kvs,k,e,_,_⟩ | ⟨kvs,k,b,e,_,_,_⟩
 ·obtain ⟨_,_,vs,_,dd⟩:=zGy I.hok e;exact dd.typeIs
 ·obtain ⟨_,_,xs,_,dd⟩:=zG4 I.hok e;exact dd.typeIs
def zTZ (td ty:TE):TE:=fun σ H Q=>td σ H fun x H1=>ty σ H1 fun y H2=>∃ a v,x = .ref a /\ zDw H2 a y (some v) /\ Q v H2
def zUY (ty td:TE):TE:=fun σ H Q=>ty σ H fun y H1=>td σ H1 fun x H2=>∃ a o,x = .ref a /\ zDw H2 a y o /\ Q (.bl o.isSome) H2
def zRp (ty td:TE):TE:=fun σ H Q=>ty σ H fun y H1=>td σ H1 fun x H2=>∃ a o,x = .ref a /\ zDw H2 a y o /\ Q (.bl (!o.isSome)) H2
def zTp (td ty tv:TE):TS:=fun D σ H=>tv σ H fun v H1=>td σ H1 fun x H2=>ty σ H2 fun y H3=>∃ a H4,x = .ref a /\ zGl H3 a y v H4 /\ D.nx σ H4
section
variable {X:Cx} {o i e value:Expr} {pos pos' tpos:Pos} {td ty tv:TE}
theorem zRG (hu:X.A.units + 1 < cLine) (ho:PE X o td) (hi:PE X i ty) (hs:zTC i):PE X (.Subscript o i pos) (zTZ td ty):=by
 intro zB s σ H Q I h;refine zRS PySem.F.slot_dict_getitem.lookup hs (thn (ho zB s σ H _ I h) fun u s1 ⟨x,H1,I1,rx,q1⟩=>thn (hi zB s1 σ H1 _ I1 q1) fun iv s2 ⟨y,H2,I2,ry,a,v,ex,g,q2⟩=>?_);subst ex;obtain rfl:u = Value.ref a:=rx;exact ⟨zKb I2 g,zNW hu I2 g ry fun w' s3 I3 rw'=>⟨v,H2,I3,rw',q2⟩⟩
theorem zQG (hu:X.A.units + 1 < cLine) (hi:PE X i ty) (ho:PE X o td):PC X .In i o (zUY ty td):=by
 intro zB s σ H Q I h;refine thn (hi zB s σ H _ I h) fun iv s1 ⟨y,H1,I1,ry,q1⟩=>thn (ho zB s1 σ H1 _ I1 q1) fun u s2 ⟨x,H2,I2,rx,a,ov,ex,g,q2⟩=>?_;subst ex;obtain rfl:u = Value.ref a:=rx;exact zUq hu I2 g ry fun s3 I3=>⟨.bl ov.isSome,H2,I3,rfl,q2⟩
theorem zNJ (hu:X.A.units + 1 < cLine) (hi:PE X i ty) (ho:PE X o td):PC X .NotIn i o (zRp ty td):=by
 intro zB s σ H Q I h;refine thn (hi zB s σ H _ I h) fun iv s1 ⟨y,H1,I1,ry,q1⟩=>thn (ho zB s1 σ H1 _ I1 q1) fun u s2 ⟨x,H2,I2,rx,a,ov,ex,g,q2⟩=>?_;subst ex;obtain rfl:u = Value.ref a:=rx;exact zQp hu I2 g ry fun s3 I3=>⟨.bl (!ov.isSome),H2,I3,rfl,q2⟩
theorem zQo (hu:X.A.units + 1 < cLine) (ho:PE X o td) (hi:PE X i ty) (hv:PE X value tv) (hs:swapsWith value (some (.Subscript o i pos')) pos.line X.env = pure false) :
  PS X (.Assign [.Subscript o i pos'] value pos) (zTp td ty tv):=by
 intro zB s σ H D I h;refine wpAny_Assign_Subscript (thn (hv zB s σ H _ I h) fun r s1 ⟨v,H1,I1,rv,q1⟩=>thn (ho zB s1 σ H1 _ I1 q1) fun u s2 ⟨x,H2,I2,rx,q2⟩=>thn (hi zB s2 σ H2 _ I2 q2) fun iv s3 ⟨y,H3,I3,ry,a,H4,ex,g,q3⟩=>?_) hs;subst ex;obtain rfl:u = Value.ref a:=rx;exact zN1 hu I3 g ry rv fun s4 I4=>⟨σ,H4,I4,q3⟩
end
theorem zPE (h:Heap) (hb:sysModules < h.objs.size):zAV P w H (h.push { cls:=.type "dict", data:=.dict #[] }) h.objs.size (.dK []) :=
 ⟨zVk _,beq_eq_false_iff_ne.mpr (Ne.symm (zVJ hb)),[],.nil,Heap.DictOf.new h⟩
theorem zOp (h:Heap) (hb:sysModules < h.objs.size):zAV P w H (h.push { cls:=.type "dict", data:=.dict #[] }) h.objs.size (.dT []) :=
 ⟨zVk _,beq_eq_false_iff_ne.mpr (Ne.symm (zVJ hb)),[],.nil,_,#[],0,zU8 _ rfl,⟨rfl,rfl,rfl⟩,rfl,rfl,List.nodup_nil⟩
def zSu:TE:=fun _ H Q=>∀ p,H p = none -> Q (.ref p) (upd H p (.dK []))
def zTL:TE:=fun _ H Q=>∀ p,H p = none -> Q (.ref p) (upd H p (.dT []))
section
variable {X:Cx} {pos:Pos}
theorem zOs:PE X (.Dict [] [] pos) zSu:=fun zB s σ H Q I h=>
 wpAny_Dict_empty ⟨.ref s.heap.objs.size,_,I.laid (a:=s.heap.objs.size) (o:=.dK []) (t':=s.toks) (fun _ _ q=>zUz _ q) (zU4 _) (zPE s.heap I.big),rfl,h _ (I.hok.fresh (zU4 _))⟩
theorem zPZ:PE X (.Dict [] [] pos) zTL:=fun zB s σ H Q I h=>
 wpAny_Dict_empty ⟨.ref s.heap.objs.size,_,I.laid (a:=s.heap.objs.size) (o:=.dT []) (t':=s.toks) (fun _ _ q=>zUz _ q) (zU4 _) (zOp s.heap I.big),rfl,h _ (I.hok.fresh (zU4 _))⟩
end
structure M2 (X:Cx) (o:Expr) (m:Str) (apos:Pos) (e f:Expr) (cpos:Pos):Prop where
 base:attributeBase o m X.env (eval o X.env) = eval o X.env
 few:((backTo cpos (starEach [e,f] X.env)).all (fun x=> !x.1) && (backToKw cpos (keywordEach [] X.env)).all (fun x=>x.1.isSome)
  && decide (([e,f]:List Expr).length + ([]:List Keyword).length + (if ([]:List Keyword).isEmpty then 0 else 1) < 30)) = true
 line:(apos.endLine == cpos.line) = true
 trees:backTo cpos (starEach [e,f] X.env) = [(false,eval e X.env),(false,eval f X.env)]
def IsD (H:Hp) (a:Addr):Prop:=(∃ kvs,Rd H a (.dK kvs)) \/ ∃ kvs,Rd H a (.dT kvs)
theorem zSs (I:Inv X zB σ H s) (d:IsD H a) :
  s.TypeIs (.ref a) "dict" /\ (∀ b,Value.ref a = .ref b -> ∃ ob,s.heap.get? b = some ob /\ ob.dict = none) /\ (a == sysModules) = false:=by
 rcases d with ⟨kvs,e⟩ | ⟨kvs,e⟩
 ·obtain ⟨_,hd,vs,_,dd⟩:=zGy I.hok e;refine ⟨dd.typeIs,fun b q=>?_,hd⟩;cases q;obtain ⟨ob,_,_,h1,h2,_⟩:=dd;exact ⟨ob,h1,h2.2.1⟩
 ·obtain ⟨_,hd,xs,_,dd⟩:=zG4 I.hok e;refine ⟨dd.typeIs,fun b q=>?_,hd⟩;cases q;obtain ⟨ob,_,_,h1,h2,_⟩:=dd;exact ⟨ob,h1,h2.2.1⟩
section
variable {X:Cx} {zB:List (Addr × Obj)} {σ:St} {H:Hp} {s:Shared} {a:Addr} {y d:V} {u r:Value} {o:Option V} {A:Around} {E:Value -> Shared -> Prop}
theorem zSK (hu:A.units + 1 < cLine) (I:Inv X zB σ H s) (g:zDw H a y o) (ry:zAF y u) (rd:zAF d r) (h:∀ w' s',Inv X zB σ H s' -> zAF (o.getD d) w' -> Q w' s') :
  wpAny (model X.prog X.w) A (call (.builtin "dict.get") [.ref a,u,r]) Q E s:=by
 rcases g with ⟨kvs,k,e,ey,l⟩ | ⟨kvs,k,b,e,ey,eb,l⟩
 ·subst ey;obtain ⟨z,hd,vs,rel,dd⟩:=zGy I.hok e;refine call_meetsIn PySem.F.slot_dict_get dd.typeIs PySem.F.entry_dict_get (PySem.F.args_dict_get_3 _ _ _) (meets_dict_get_default (zAn X.prog X.w) a (zHt ry) hd r) ⟨_,dd.mapOf,h _ _ (I.tok _) ?_⟩;rw [l];exact (rel.val k).getD rd
 ·subst ey;cases (show u = Value.ref b from ry);obtain ⟨z,hd,xs,rel,dd⟩:=zG4 I.hok e;refine call_meetsIn PySem.F.slot_dict_get dd.typeIs PySem.F.entry_dict_get (PySem.F.args_dict_get_3 _ _ _) (meetsH_dict_get_default (tupleKind (zAn X.prog X.w)) a b hd r) ⟨tupleKind_room_in1 hu,k,xs,zE3 I.hok eb,dd,h _ _ (I.tok _) ?_⟩;rw [l];exact (rel.val k).getD rd
end
def zP6 (td ty tx:TE):TE:=fun σ H Q=>td σ H fun x H1=>∃ a,x = .ref a /\ IsD H1 a /\ ty σ H1 fun y H2=>tx σ H2 fun z H3=>∃ o,zDw H3 a y o /\ Q (o.getD z) H3
section
variable {X:Cx} {o e f:Expr} {apos cpos:Pos} {td ty tx:TE}
theorem zQR (hu:X.A.units + 1 < cLine) (ho:PE X o td) (he:PE X e ty) (hf:PE X f tx) (m:M2 X o "get" apos e f cpos):PE X (.Call (.Attribute o "get" apos) [e,f] [] cpos) (zP6 td ty tx):=by
 intro zB s σ H Q I h;refine wpAny_Call_method m.base m.few m.line PySem.F.plainAttrs_dict PySem.F.slot_dict_get PySem.F.type_dict_get (thn (ho zB s σ H _ I h) fun u s1 ⟨x,H1,I1,rx,a,ex,d,q1⟩=>?_);subst ex;obtain rfl:u = Value.ref a:=rx;obtain ⟨t1,t2,_⟩:=zSs I1 d;refine ⟨t1,t2,?_⟩;rw [m.trees];refine Calls.callWith_builtin rfl (Calls.evalArgs_plain (Calls.spliced_cons (thn (he zB s1 σ H1 _ I1 q1) fun iv s2 ⟨y,H2,I2,ry,q2⟩=>
  Calls.spliced_cons (thn (hf zB s2 σ H2 _ I2 q2) fun fv s3 ⟨z,H3,I3,rz,ov,g,q3⟩=>Calls.spliced_nil ?_))))
 exact zSK hu I3 g ry rz fun w' s4 I4 rw'=>⟨_,H3,I4,rw',q3⟩
end
theorem zAw:∀ (names:List (Str × NameKind)) (n:Nat) (acc:List (Str × Addr)),cellsFrom n names acc = cellsFrom n names [] ++ acc
 | [],_,_=>rfl
 | (name,kind) :: r,n,acc=>by
  unfold cellsFrom;split
  ·rw [zAw r (n + 1) ((name,n) :: acc),zAw r (n + 1) [(name,n)],zV4];rfl
  ·exact zAw r n acc
theorem zC1 {α:Type} (x:Str):∀ (l r:List (Str × α)),(l ++ r).lookup x = (match l.lookup x with | some c=>some c | none=>r.lookup x)
 | [],r=>rfl
 | (k,v) :: l,r=>by
  rw [List.cons_append,zW3,zW3];cases hb:x == k with
  | true=>rfl
  | false=>exact zC1 x l r
theorem zFQ:∀ (names:List (Str × NameKind)) (acc:List (Str × Addr)),
  (∀ y ∈ names,y.2 = .free -> ∃ c,env.cells.lookup y.1 = some c) ->
  (∀ x c,acc.lookup x = some c -> env.cells.lookup x = some c) ->
  ∃ cl:List (Str × Addr),(forIn names acc (fun (p:Str × NameKind) (cs:List (Str × Addr))=>(do
    if p.2 == .free then
     let a <- cellOf env p.1;pure (ForInStep.yield ((p.1,a) :: cs))
    else pure (ForInStep.yield cs):Sem (ForInStep (List (Str × Addr)))))) = pure cl /\
   (∀ x c,cl.lookup x = some c -> env.cells.lookup x = some c) /\
   (∀ x,(acc.lookup x).isSome = true -> (cl.lookup x).isSome = true) /\ ∀ y ∈ names,y.2 = .free -> (cl.lookup y.1).isSome = true
 | [],acc,_,ha=>⟨acc,by rw [List.forIn_nil],ha,fun _ h=>h,fun _ h=>nomatch h⟩
 | (n,k) :: r,acc,hf,ha=>by
  rw [List.forIn_cons];by_cases hk:k = .free
  ·subst hk;obtain ⟨c,hc⟩:=hf (n,.free) zVC rfl;have hco:cellOf env n = pure c:=by unfold cellOf; rw [hc]
   obtain ⟨cl,e,h1,h2,h3⟩:=zFQ r ((n,c) :: acc) (fun y hy=>hf y (zVB _ hy)) (fun x d hx=>by
    rw [zW3] at hx;cases hb:x == n with
    | true=>rw [hb] at hx; cases hx; rw [beq_iff_eq.mp hb]; exact hc
    | false=>rw [hb] at hx; exact ha x d hx)
   refine ⟨cl,?_,h1,fun x hx=>h2 x ?_,fun y hy hk=>?_⟩
   ·rw [<- e];simp only [beq_self_eq_true,if_true,hco];rfl
   ·rw [zW3];cases hb:x == n with
    | true=>rfl
    | false=>exact hx
   ·rcases zVA.mp hy with z | z
    ·subst z;exact h2 n (by rw [zW3]; simp)
    ·exact h3 y z hk
  ·obtain ⟨cl,e,h1,h2,h3⟩:=zFQ r acc (fun y hy=>hf y (zVB _ hy)) ha;refine ⟨cl,?_,h1,h2,fun y hy hk'=>?_⟩
   ·rw [<- e];have:(k == NameKind.free) = false:=by simpa using hk
    simp only [this,zVz,if_false];rfl
   ·rcases zVA.mp hy with z | z
    ·subst z; exact absurd hk' hk
    ·exact h3 y z hk'
theorem zIF (hf:∀ y ∈ scope.names,y.2 = .free -> ∃ c,env.cells.lookup y.1 = some c) :
  ∃ cl,closureFor scope env = pure cl /\ (∀ x c,cl.lookup x = some c -> env.cells.lookup x = some c) /\ ∀ y ∈ scope.names,y.2 = .free -> (cl.lookup y.1).isSome = true:=by
 obtain ⟨cl,e,h1,_,h3⟩:=zFQ (env:=env) scope.names [] hf (fun x c h=>nomatch h);refine ⟨cl,?_,h1,h3⟩;unfold closureFor;rw [show (pure cl:Sem _) = pure cl >>= pure from rfl,<- e]
theorem zDL
  (hQ:Q (newEnv scope s.heap.objs.size globals (cellsFrom (s.heap.objs.size + 1) scope.names cl) qual none .none (some env) builtinsNs)
   { s with heap:=pushCells (s.heap.push { cls:=.type "dict", data:=.dict #[] }) scope.names }) :
  wpAny M A (newFunctionEnv scope globals cl [] qual none .none (some env)) Q E s:=by
 simp only [newFunctionEnv,Option.isSome_some,if_true];refine zUy (wpAny_alloc ?_);refine zUy (wpAny_layCells _ (fun name kind cells=>by cases hkc:kind == NameKind.cell <;> simp [hkc]) _ _ _ _ ?_);rw [show ({ s with heap:=s.heap.push { cls:=.type "dict", data:=.dict #[] } }:Shared).heap.objs.size = s.heap.objs.size + 1 from zVe ..];exact zUy (zU0 (zU0 hQ))
def zS (X:Cx) (zB:List (Addr × Obj)) (scope:Scope) (cl:List (Str × Addr)) (s:Shared) (H:Hp) (fp:List Addr):Cx where
 prog:=X.prog
 w:=X.w
 K:=X.K
 mg:=X.mg
 base:=X.base
 A:=X.A
 N:=X.N
 s₀:=s
 H₀:=H
 env:={ scope:=relabel scope X.env,locals:=s.heap.objs.size + 1,globals:=X.env.globals,cells:=cellsFrom (s.heap.objs.size + 1 + 1) scope.names cl,qual:=X.env.qual,func:=none,code:=X.env.code,frame:=X.env.frame,builtins:=X.env.builtins }
 outer:=X.stack
 stack:=X.stack
 ex:=fp
 fn:=fun x=>decide (scope.names.lookup x = some .cell)
 calm:=X.calm
 pn:=X.pn ++ zB
 xe:=fun _ _=>False
theorem zBb {scope:Scope} {env:Env} (x:Str):∀ {names:List (Str × NameKind)} {k:NameKind},
  (names.map fun (n,k)=>if (k == NameKind.free && env.scope.kind == .function && env.kindOf n == some .cell) then (n,NameKind.cell) else (n,k)).lookup x = some k ->
  names.lookup x = some k \/ (names.lookup x = some .free /\ k = .cell)
 | [],_,h=>by simp at h
 | (n,k') :: r,k,h=>by
  rw [zVH] at h;by_cases hc:(k' == NameKind.free && env.scope.kind == .function && env.kindOf n == some .cell) = true
  ·simp only [hc,if_true] at h;rw [zW3] at h ⊢;cases hb:x == n with
   | true=>
    rw [hb] at h;simp only [zVY,beq_iff_eq] at hc;exact .inr ⟨by rw [hc.1.1],(zVy h).symm⟩
   | false=>rw [hb] at h; exact zBb (scope:=scope) x h
  ·simp only [hc,zVz,if_false] at h;rw [zW3] at h ⊢;cases hb:x == n with
   | true=>rw [hb] at h; exact .inl h
   | false=>rw [hb] at h; exact zBb (scope:=scope) x h
theorem zH9:∀ (names:List (Str × NameKind)) (n:Nat) (acc:List (Str × Addr)) (x:Str) (c:Addr),(x,c) ∈ cellsFrom n names acc -> (x,c) ∉ acc -> (x,NameKind.cell) ∈ names
 | [],_,_,_,_,h,h'=>absurd h h'
 | (name,kind) :: r,n,acc,x,c,h,h'=>by
  unfold cellsFrom at h;split at h
  ·rename_i hk;by_cases e:(x,c) = (name,n)
   ·cases e;rw [beq_iff_eq] at hk;subst hk;exact zVC
   ·exact zVB _ (zH9 r _ _ x c h fun z=>(zVA.mp z).elim e h')
  ·exact zVB _ (zH9 r _ _ x c h h')
structure CompScope (X:Cx) (scope:Scope):Prop where
 kind:scope.kind = .function
 names:∀ y ∈ scope.names,y.2 = .local -> scope.names.lookup y.1 = some .local
 cells:∀ y ∈ scope.names,y.2 = .cell -> scope.names.lookup y.1 = some .cell
 free:∀ y ∈ scope.names,y.2 = .free -> X.env.kindOf y.1 = some .cell \/ X.env.kindOf y.1 = some .free
section
variable {X:Cx} {zB:List (Addr × Obj)} {σ σc:St} {H:Hp} {s s4:Shared} {scope:Scope} {cl:List (Str × Addr)} {fp:List Addr}
theorem zFq (S:CompScope X scope) (I:Inv X zB σ H s) (hf:∀ b ∈ fp,zC5 X zB H b) (ho:∀ b:Nat,b ∈ fp -> b < s.heap.objs.size)
  (c1:∀ x c,cl.lookup x = some c -> X.env.cells.lookup x = some c) (c2:∀ y ∈ scope.names,y.2 = .free -> (cl.lookup y.1).isSome = true)
  (hl:σc.length = σ.length) (hσ:∀ (i:Nat) x v,X.N[i]? = some x -> σc[i]? = some (some v) -> (relabel scope X.env).names.lookup x ≠ none -> scope.names.lookup x = some .free /\ σ[i]? = some (some v))
  (lo:Obj) (hlo:∀ v,lo.data ≠ .cell v) (hfr:lo.isFreed = false)
  (h4:s4 = { s with heap:=pushCells ((s.heap.push lo).push { cls:=.type "dict", data:=.dict #[] }) scope.names }) :
  Inv (zS X zB scope cl s H fp) [(s.heap.objs.size,lo)] σc H s4:=by
 subst h4;have sz1:(s.heap.push lo).objs.size = s.heap.objs.size + 1:=zVe ..;have sz2:((s.heap.push lo).push { cls:=.type "dict", data:=.dict #[] }).objs.size = s.heap.objs.size + 1 + 1:=by rw [zVe,sz1]
 have hk:∀ b o,s.heap.get? b = some o -> (pushCells ((s.heap.push lo).push { cls:=.type "dict", data:=.dict #[] }) scope.names).get? b = some o:=fun b o e=>
  pushCells_keeps _ _ b o (zUz _ (zUz _ e))
 have ok:=cellsFrom_ok scope.names ((s.heap.push lo).push { cls:=.type "dict", data:=.dict #[] }) (s.heap.objs.size + 1 + 1) [] ⟨fun _ _ hm=>(nomatch hm),List.Pairwise.nil⟩ (by rw [sz2]; exact zU4 _);rw [sz2] at ok;have look:∀ x c,(cellsFrom (s.heap.objs.size + 1 + 1) scope.names cl).lookup x = some c -> ((cellsFrom (s.heap.objs.size + 1 + 1) scope.names []).lookup x = some c) \/ ((cellsFrom (s.heap.objs.size + 1 + 1) scope.names []).lookup x = none /\ X.env.cells.lookup x = some c):=fun x c e=>by
  rw [zAw,zC1] at e;cases q:(cellsFrom (s.heap.objs.size + 1 + 1) scope.names []).lookup x with
  | some d=>rw [q] at e; exact .inl e
  | none=>rw [q] at e; exact .inr ⟨rfl,c1 x c e⟩
 have old:∀ x (c:Nat),X.env.cells.lookup x = some c -> c < s.heap.objs.size:=fun x c e=>let ⟨_,q⟩:=I.cell x c e; q.lt;have new:∀ x (c:Nat),(cellsFrom (s.heap.objs.size + 1 + 1) scope.names []).lookup x = some c -> s.heap.objs.size + 1 + 1 <= c:=fun x c e=>(ok.empty x c (zV0 e)).2;have own:∀ x,scope.names.lookup x = some .cell -> ∃ c,(cellsFrom (s.heap.objs.size + 1 + 1) scope.names []).lookup x = some c:=fun x e=>zHF e;have cne:∀ x (c:Nat),(cellsFrom (s.heap.objs.size + 1 + 1) scope.names cl).lookup x = some c -> c < s.heap.objs.size \/ s.heap.objs.size + 1 + 1 <= c:=fun x c e=>by
  rcases look x c e with q | ⟨_,q⟩
  ·exact .inr (new x c q)
  ·exact .inl (old x c q)
 refine ⟨⟨I.ok.mod,S.kind,I.ok.glob,I.ok.blt,Nat.le_succ _,fun x y c h1 h2=>?_,fun x hx=>?_,fun x c hx h=>?_,I.ok.hd,I.ok.frames,.inl rfl,fun b hb=>⟨?_,fun x c e z=>?_⟩,I.bs,zVP I.ok.bsz I.sz,fun b o e hb=>?_,fun b hb z=>?_,I.stack,I.stkFree⟩,
  rfl,I.bare,Un.kept hk,⟨fun _=>none,?_,fun i x v h1 h2 h3=>?_⟩,fun x c e=>?_,I.hok.fresh (Nat.le_succ _),fun x c e=>?_,fun p hp=>?_,I.hok.kept hk,hl.trans I.len⟩
 ·rcases look x c h1 with a | ⟨_,a⟩ <;> rcases look y c h2 with b | ⟨_,b⟩
  ·exact name_of_addr ok.apart (zV0 a) (zV0 b)
  ·exact absurd (Nat.lt_of_le_of_lt (new x c a) (old y c b)) (by omega)
  ·exact absurd (Nat.lt_of_le_of_lt (new y c b) (old x c a)) (by omega)
  ·exact I.ok.inj x y c a b
 ·have hx':(relabel scope X.env).names.lookup x = some .cell \/ (relabel scope X.env).names.lookup x = some .free:=hx;have go:scope.names.lookup x = some .cell \/ scope.names.lookup x = some .free:=by
   rcases hx' with q | q
   ·rcases zBb (scope:=scope) x q with z | z
    ·exact .inl z
    ·exact .inr z.1
   ·rcases zBb (scope:=scope) x q with z | z
    ·exact .inr z
    ·exact .inr z.1
  show ∃ c,(cellsFrom (s.heap.objs.size + 1 + 1) scope.names cl).lookup x = some c;rw [zAw,zC1];rcases go with q | q
  ·obtain ⟨c,e⟩:=own x q;exact ⟨c,by rw [e]⟩
  ·cases e:(cellsFrom (s.heap.objs.size + 1 + 1) scope.names []).lookup x with
   | some d=>exact ⟨d,rfl⟩
   | none=>exact Option.isSome_iff_exists.mp (c2 (x,.free) (zV0 q) rfl)
 ·obtain ⟨d,e⟩:=own x (of_decide_eq_true hx);have h':(cellsFrom (s.heap.objs.size + 1 + 1) scope.names cl).lookup x = some c:=h;rw [zAw,zC1,e] at h';cases h';exact zVP (zVP (Nat.le_succ _) (Nat.le_succ _)) (new x _ e)
 ·exact zVJ (zVn (ho b hb))
 ·rcases look x c e with q | ⟨_,q⟩
  ·have a:=new x c q;rw [z] at a;exact absurd (Nat.lt_of_le_of_lt a (ho b hb)) (by omega)
  ·exact (hf b hb).2.2.2.2.1 x c q z
 ·rcases (hf b hb).2.2.2.1 with z | z
  ·exact I.ok.noex b o e z
  ·exact absurd (zVN (zU9 e) (zVP I.ok.bsz z)) (zVg _)
 ·rcases zVA.mp (I.stkSub b z) with q | q
  ·exact (hf b hb).2.1 q
  ·exact (hf b hb).2.2.1 q
 ·have q:((s.heap.push lo).push { cls:=.type "dict", data:=.dict #[] }).Ns (s.heap.push lo).objs.size (fun _=>none):=Heap.Ns.new ..;rw [sz1] at q;exact q.keeps (pushCells_keeps _ _)
 ·have h3':(relabel scope X.env).names.lookup x ≠ none:=by
   rcases h3 with z | z | z <;> (intro q; have z':(relabel scope X.env).names.lookup x = _:=z; rw [q] at z'; cases z')
  obtain ⟨fr,hv⟩:=hσ i x v h1 h2 h3';obtain ⟨m,hn,hlk⟩:=I.loc;have kx:=S.free (x,.free) (zV0 fr) rfl;obtain ⟨u,rv,lk⟩:=hlk i x v h1 hv (by rcases kx with z | z; exact .inr (.inl z); exact .inr (.inr z));refine ⟨u,rv,?_⟩;rcases lk with ⟨z,_⟩ | ⟨_,c,e,ic⟩
  ·rcases kx with k | k <;> (rw [k] at z; cases z)
  ·have kind:(relabel scope X.env).names.lookup x = some .cell \/ (relabel scope X.env).names.lookup x = some .free:=by
    cases q:(relabel scope X.env).names.lookup x with
    | none=>exact absurd q h3'
    | some k=>
     rcases zBb (scope:=scope) x q with z | z
     ·rw [fr] at z; cases z; exact .inr rfl
     ·rw [z.2]; exact .inl rfl
   refine .inr ⟨kind,c,?_,ic.keeps hk⟩;show (cellsFrom (s.heap.objs.size + 1 + 1) scope.names cl).lookup x = some c;rw [zAw,zC1];obtain ⟨d,hd⟩:=Option.isSome_iff_exists.mp (c2 (x,.free) (zV0 fr) rfl);have:=c1 x d hd;rw [e] at this; cases this;have nn:(cellsFrom (s.heap.objs.size + 1 + 1) scope.names []).lookup x = none:=by
    cases q:(cellsFrom (s.heap.objs.size + 1 + 1) scope.names []).lookup x with
    | none=>rfl
    | some d'=>
     have z:=S.cells (x,.cell) (zH9 scope.names _ [] x d' (zV0 q) fun z=>nomatch z) rfl;rw [fr] at z; cases z
   rw [nn]; exact hd
 ·rcases look x c e with q | ⟨_,q⟩
  ·exact ⟨none,(ok.empty x c (zV0 q)).1⟩
  ·obtain ⟨v,z⟩:=I.cell x c q;exact ⟨v,z.keeps hk⟩
 ·rcases look x c e with q | ⟨_,q⟩
  ·exact I.hok.fresh (by have:=new x c q; omega)
  ·exact I.freeC x c q
 ·have hp':p ∈ X.pn ++ zB \/ p = (s.heap.objs.size,lo):=by
   rcases zVO.mp hp with z | z
   ·exact .inl z
   ·exact .inr (by simpa using z)
  rcases hp' with z | z
  ·obtain ⟨e,n,ne,nf,d⟩:=I.pin p z;have lt:(p.1:Nat) < s.heap.objs.size:=zU9 e;refine ⟨hk _ _ e,n,?_,fun q=>?_,d⟩
   ·exact zVJ (zVn lt)
   ·rcases zVA.mp (I.stkSub _ q) with r | r
    ·exact ne r
    ·exact nf r
  ·subst z;refine ⟨pushCells_keeps _ _ _ _ (zUz _ (zU8 _ hfr)),I.hok.fresh (zU4 _),?_,fun q=>?_,hlo⟩
   ·show s.heap.objs.size ≠ s.heap.objs.size + 1;omega
   ·rcases zVA.mp (I.stkSub _ q) with r | r
    ·exact absurd I.lt (by rw [<- r]; exact zVg _)
    ·exact I.nofs (zU4 _) r
end
def clr (own:List Nat) (σ:St):St:=own.foldl (fun σ i=>σ.set i none) σ
theorem zBk:∀ (own:List Nat) (σ:St),(clr own σ).length = σ.length
 | [],_=>rfl
 | i :: r,σ=>by
  show (clr r (σ.set i none)).length = _;rw [zBk r,zXH]
theorem zDA:∀ (own:List Nat) (σ:St) (j:Nat) (v:V),(clr own σ)[j]? = some (some v) -> σ[j]? = some (some v) /\ j ∉ own
 | [],_,_,_,h=>⟨h,fun z=>nomatch z⟩
 | i :: r,σ,j,v,h=>by
  have h':(clr r (σ.set i none))[j]? = some (some v):=h;obtain ⟨a,b⟩:=zDA r _ j v h';rw [zWX] at a;split at a
  ·split at a <;> cases a
  ·rename_i hne;exact ⟨a,fun z=>(zVA.mp z).elim (fun e=>hne e.symm) b⟩
def Ext (a b:St):Prop:=b.length = a.length /\ ∀ (i:Nat) v,a[i]? = some (some v) -> b[i]? = some (some v)
theorem Ext.refl (a:St):Ext a a:=⟨rfl,fun _ _ h=>h⟩
theorem Ext.set (e:Ext (clr own σ) a) (h:i ∈ own):Ext (clr own σ) (a.set i (some v)):=by
 refine ⟨by rw [zXH]; exact e.1,fun j u q=>?_⟩;rw [zWX];split
 ·rename_i z;exact absurd (z ▸ h) (zDA own σ j u q).2
 ·exact e.2 j u q
def zGm (X:Cx) (ifs:List Expr) (t:TT):Prop :=
 ∀ (zB:List (Addr × Obj)) (s:Shared) (σ:St) (H:Hp) (Q:Bool -> Hp -> Prop),Inv X zB σ H s -> t σ H Q ->
  wpAny (model X.prog X.w) X.A (forIn ifs true fun c r=>if r = true then do let ok <- isTrue c X.env (eval c X.env); pure (ForInStep.yield ok) else pure (ForInStep.yield r)) (TP X zB σ Q) X.xe s
def zUw:TT:=fun _ H Q=>Q true H
theorem zPQ:zGm X [] zUw:=fun _ _ _ H _ I h=>wpAny_tests_nil ⟨H,I,h⟩
theorem zOX (h:PT X c t):zGm X [c] t:=fun zB s σ H Q I hq=>wpAny_tests_one (h zB s σ H Q I hq)
section
variable {prog:Program} {w:World} {A:Around} {E:Value -> Shared -> Prop} {R:Result -> Shared -> Prop} {s:Shared}
theorem zKC (I:Nat -> Shared -> Prop)
  (turn:∀ n s,I n s -> wpAny (model prog w) A (pyNext it) (fun r s₁=>match r with
   | none=>R (.ok .next) s₁
   | some v=>wpAny (model prog w) A (letOwnedTupleGo target it v) (fun _ s₁'=>wpAny (model prog w) A (assign target env v) (fun _ s₂=>
     wpAny (model prog w) A (forIn ifs true fun c r=>if r = true then do let ok <- isTrue c env (eval c env); pure (ForInStep.yield ok) else pure (ForInStep.yield r)) (fun ok s₃=>
      if ok = true then wpAny (model prog w) A (eval elt env) (fun x s₄=>
       wpAny (model prog w) A (call (.builtin "list.append") [acc,x]) (fun _ s₅=>∃ m,m < n /\ I m s₅) (fun _ _=>False) s₄) (fun _ _=>False) s₃
      else ∃ m,m < n /\ I m s₃) (fun _ _=>False) s₂) (fun _ _=>False) s₁') (fun _ _=>False) s₁) (fun _ _=>False) s)
  (n:Nat) (h:I n s) :
  codeAny (model prog w) A (.compLoop (.ListComp elt [⟨target,iter,ifs,0⟩] scope pos) 0 it acc env) R s:=by
 refine codeAny_loop rfl I (fun n s hI=>?_) n h;show wpAny _ A ((compTurn (.ListComp elt [⟨target,iter,ifs,0⟩] scope pos) 0 it acc env).onRaise (fun x=>do noteFrame x env; theTreesLotGoes x)) _ _ s;refine wpAny_noted ?_;rw [compTurn_list];refine zUy (zVw (zUy (zVU (turn n s hI) (fun r s₁ h₁=>?_) fun _ _ h'=>h'.elim)));cases r with
 | none=>exact zU0 h₁
 | some v=>
  refine zUy (zVU h₁ (fun _ s₁' h₁'=>?_) fun _ _ h'=>h'.elim);refine zUy (zVU h₁' (fun _ s₂ h₂=>zUy (zVU h₂ (fun ok s₃ h₃=>?_) fun _ _ h'=>h'.elim)) fun _ _ h'=>h'.elim);cases ok with
  | false=>exact zU0 ⟨rfl,h₃⟩
  | true=>
   exact zUy (zUy (zVU h₃ (fun x s₄ h₄=>zUy (zVU h₄ (fun _ s₅ h₅=>zU0 (zU0 ⟨rfl,h₅⟩)) fun _ _ h'=>h'.elim)) fun _ _ h'=>h'.elim))
end
def zPd (own:List Nat) (wi:TI) (g:TG) (tc:TT) (te:TE):TE:=fun σ H Q=>wi σ H fun J H1=>∃ W:Nat -> Nat -> List V -> Hp -> Prop,(∃ m,W 0 m [] H1) /\ ∀ i m ys H,W i m ys H ->
 (J.stop i H /\ ys.length <= sizeLine /\ ∀ D,H D = none -> Q (.ref D) (upd H D (.lst ys))) \/
 (J.go i H /\ ∀ x H',J.yld i H x H' -> g x (clr own σ) H' fun σ2 H2=>Ext (clr own σ) σ2 /\ tc σ2 H2 fun b H3=>
  if b = true then te σ2 H3 fun v H4=>ys.length < sizeLine /\ ∃ m',m' < m /\ W (i + 1) m' (ys ++ [v]) H4 else ∃ m',m' < m /\ W (i + 1) m' ys H3)
abbrev zu (its:List Value) (n:Nat):Obj:={ cls:=.type "list", data:=.seq its.toArray n }
section
variable {X:Cx} {zB:List (Addr × Obj)} {σ:St} {H:Hp} {s:Shared}
theorem Inv.repin (I:Inv X (pl ++ [(D,o)]) σ H s) (hpl:∀ p ∈ X.pn ++ pl,p.1 ≠ D) (hs:Heap.SameBut D s.heap h') (hD:X.s₀.heap.objs.size <= D) (hc:∀ x c,X.env.cells.lookup x = some c -> c ≠ D)
  (e:h'.get? D = some o') (hn:∀ v,o'.data ≠ .cell v):Inv X (pl ++ [(D,o')]) σ H { s with heap:=h' }:=by
 obtain ⟨e0,n0,ne0,nf0,d0⟩:=I.pin (D,o) (by simp);have I1:Inv X pl σ H s:=I.pins_of fun p hp=>I.pin p (by simp [hp]);have I2:Inv X pl σ H { s with heap:=h' }:=I1.turned (t':=s.toks) (it:=D) (fun b u hb q=>hs.extBut b u hb q) n0 ne0 (.inr hD) hc hpl;exact I2.pins_of fun p hp=>by
  rcases zVO.mp hp with z | z
  ·exact I2.pin p (zVI _ z)
  ·have:p = (D,o'):=by simpa using z
   subst this;exact ⟨e,n0,ne0,nf0,hn⟩
end
section
variable {X:Cx} {zB:List (Addr × Obj)} {σ:St} {H:Hp} {s:Shared} {scope:Scope} {cl:List (Str × Addr)} {fp:List Addr} {it:Addr} {tn:Nat -> Heap -> Prop} {J:It} {tg elt iter:Expr} {ifs:List Expr} {pos:Pos}
 {own:List Nat} {g:TG} {tc:TT} {te:TE} {E:Value -> Shared -> Prop}
structure CompIn (X:Cx) (scope:Scope) (own:List Nat):Prop where
 sc:CompScope X scope
 nm:∀ (i:Nat) x,X.N[i]? = some x -> i ∈ own \/ scope.names.lookup x = none \/ scope.names.lookup x = some .free
theorem zCm (x:Str) (h:scope.names.lookup x = none):(relabel scope env).names.lookup x = none:=by
 cases q:(relabel scope env).names.lookup x with
 | none=>rfl
 | some k=>
  rcases zBb (scope:=scope) x q with z | z
  ·rw [h] at z; cases z
  ·rw [h] at z; cases z.1
theorem zHy (C:CompIn X scope own) (hcalm:X.calm = true) (I:Inv X zB σ H s) (T:Turn X.prog X.w X.K tg J fp it tn) (st:tn 0 s.heap) (hf:∀ b ∈ fp,zC5 X zB H b)
  (c1:∀ x c,cl.lookup x = some c -> X.env.cells.lookup x = some c) (c2:∀ y ∈ scope.names,y.2 = .free -> (cl.lookup y.1).isSome = true)
  (hg:PG (zS X zB scope cl s H fp) tg g) (hi:zGm (zS X zB scope cl s H fp) ifs tc) (he:PE (zS X zB scope cl s H fp) elt te)
  {RR:Value -> Addr -> Result -> Shared -> Prop} {QQ:List V -> Hp -> Prop} {W:Nat -> Nat -> List V -> Hp -> Prop} {m0:Nat} (w0:W 0 m0 [] H)
  (turn:∀ i m ys H,W i m ys H -> (J.stop i H /\ ys.length <= sizeLine /\ QQ ys H) \/
   (J.go i H /\ ∀ x H',J.yld i H x H' -> g x (clr own σ) H' fun σ2 H2=>Ext (clr own σ) σ2 /\ tc σ2 H2 fun b H3=>
    if b = true then te σ2 H3 fun v H4=>ys.length < sizeLine /\ ∃ m',m' < m /\ W (i + 1) m' (ys ++ [v]) H4 else ∃ m',m' < m /\ W (i + 1) m' ys H3))
  (fin:∀ σc H' s' its n ys,Inv (zS X zB scope cl s H fp) [(s.heap.objs.size,zu its n)] σc H' s' -> zv ys its -> ys.length <= sizeLine -> QQ ys H' -> RR (.ref s.heap.objs.size) (s.heap.objs.size + 1) (.ok .next) s') :
  wpAny (model X.prog X.w) X.A (newList []) (fun acc s₃=>wpAny (model X.prog X.w) X.A (newFunctionEnv scope X.env.globals cl [] X.env.qual none .none (some X.env)) (fun cenv s₄=>
   codeAny (model X.prog X.w) X.A (.compStart (.ListComp elt [⟨tg,iter,ifs,0⟩] scope pos) 0 (.ref it) acc { cenv with scope:=relabel scope X.env }) (RR acc cenv.locals) s₄) E s₃) E s:=by
 have ob:∀ b:Nat,b ∈ fp -> b < s.heap.objs.size:=fun b hb=>let ⟨_,e,_⟩:=T.obj 0 _ st b hb; zU9 e;refine zVR (zDL ?_);have sz1:(s.heap.push (zu [] 0)).objs.size = s.heap.objs.size + 1:=zVe ..;have I4:=zFq (X:=X) (zB:=zB) (σ:=σ) (σc:=clr own σ) (H:=H) (s:=s) (scope:=scope) (cl:=cl) (fp:=fp) C.sc I hf ob c1 c2 (zBk own σ) (fun i x v h1 h2 h3=>by
  obtain ⟨a,b⟩:=zDA own σ i v h2;rcases C.nm i x h1 with z | z | z
  ·exact absurd z b
  ·exact absurd (zCm x z) h3
  ·exact ⟨z,a⟩) (zu [] 0) (by intro v z; cases z) rfl rfl
 have st4:tn 0 (pushCells ((s.heap.push (zu [] 0)).push { cls:=.type "dict", data:=.dict #[] }) scope.names):=T.keep 0 _ _ st fun b _ o e=>pushCells_keeps _ _ b o (zUz _ (zUz _ e));dsimp only;unfold newEnv;dsimp only;rw [sz1];have hDfp:s.heap.objs.size ∉ fp:=fun z=>zVg _ (ob _ z);have hcD:∀ x c,(zS X zB scope cl s H fp).env.cells.lookup x = some c -> c ≠ s.heap.objs.size:=fun x c e z=>by
  obtain ⟨v,o,ho,hd⟩:=I4.cell x c e;obtain ⟨q,_⟩:=I4.pin (s.heap.objs.size,zu [] 0) (by simp);rw [z,q] at ho;cases ho; cases hd
 have fpk:∀ {H':Hp} {pl:List (Addr × Obj)},(∀ b ∈ fp,H' b = none) -> (∀ p ∈ pl,p.1 = s.heap.objs.size) -> ∀ b ∈ fp,zC5 (zS X zB scope cl s H fp) pl H' b:=fun {H' pl} hn hp b hb=>
  ⟨hn b hb,(I4.ok.exf b hb).1,I4.ok.exfs b hb,.inl hb,(I4.ok.exf b hb).2,fun p hq=>by
   rcases zVO.mp hq with z | z
   ·exact (hf b hb).2.2.2.2.2 p z
   ·intro e;have e2:=hp p z;rw [e] at e2;exact hDfp (e2 ▸ hb)⟩
 have loop:codeAny (model X.prog X.w) X.A (.compLoop (.ListComp elt [⟨tg,iter,ifs,0⟩] scope pos) 0 (.ref it) (.ref s.heap.objs.size) (zS X zB scope cl s H fp).env) (RR (.ref s.heap.objs.size) (s.heap.objs.size + 1))
   { s with heap:=pushCells ((s.heap.push (zu [] 0)).push { cls:=.type "dict", data:=.dict #[] }) scope.names }:=by
  refine zKC (fun n s'=>∃ i H' ys its k,Inv (zS X zB scope cl s H fp) [(s.heap.objs.size,zu its k)] (clr own σ) H' s' /\ zv ys its /\ tn i s'.heap /\ (∀ b ∈ fp,H' b = none) /\ W i n ys H') ?_ m0
   ⟨0,H,[],[],0,I4,.nil,st4,fun b hb=>(hf b hb).1,w0⟩
  rintro n s5 ⟨i,H5,ys,its,k,I5,r5,st5,f5,w5⟩;have pinD:∀ p ∈ [(s.heap.objs.size,zu its k)],p.1 = s.heap.objs.size:=fun p hp=>by
   have:p = (s.heap.objs.size,zu its k):=by simpa using hp
   rw [this]
  rcases turn i n ys H5 w5 with ⟨stop,hz,qq⟩ | ⟨go,step⟩
  ·refine thn (T.done (zS X zB scope cl s H fp) rfl rfl rfl hcalm i _ s5 _ H5 _ I5 (fpk f5 pinD) st5 stop) fun r s6 ⟨hr,I6⟩=>?_;subst hr;exact fin _ H5 s6 its k ys I6 r5 hz qq
  ·refine thn (T.item (zS X zB scope cl s H fp) rfl rfl rfl hcalm i _ s5 _ H5 _ I5 (fpk f5 pinD) st5 go) fun r s6 ⟨u,hr,h6⟩=>?_;subst hr;refine thn h6 fun _ s7 ⟨x,H7,I7,r7,y7,st7,f7⟩=>?_;have I7':=I7.pinned (fpk f7 pinD) (T.obj _ _ st7);refine thn (hg _ s7 _ H7 x u _ I7' r7 (step x H7 y7)) fun _ s8 ⟨σ8,H8,I8,x8,q8⟩=>?_;refine thn (hi _ s8 σ8 H8 _ I8 q8) fun ok s9 ⟨H9,I9,q9⟩=>?_;have back:∀ {s':Shared} {Hx:Hp},Inv (zS X zB scope cl s H fp) ([(s.heap.objs.size,zu its k)] ++ zDV fp s7.heap) σ8 Hx s' -> tn (i + 1) s'.heap /\ ∀ b ∈ fp,Hx b = none:=fun {s' Hx} Ix=>
    ⟨T.keep _ _ _ st7 fun b hb o e=>(Ix.pin (b,o) (zVI _ (zVI _ (zAg hb e)))).1,fun b hb=>by
     obtain ⟨o,e,d⟩:=T.obj _ _ st7 b hb;exact (Ix.pin (b,o) (zVI _ (zVI _ (zAg hb e)))).2.1⟩
   cases ok with
   | false=>
    obtain ⟨m',hm,w'⟩:=q9;obtain ⟨b1,b2⟩:=back I9;exact ⟨m',hm,i + 1,H9,ys,its,k,(I9.weak (by rw [x8.1]) x8.2).unpinned,r5,b1,b2,w'⟩
   | true=>
    refine thn (he _ s9 σ8 H9 _ I9 q9) fun v s10 ⟨y,H10,I10,r10,hlt,m',hm,w'⟩=>?_;obtain ⟨b1,b2⟩:=back I10;have J10:=(I10.weak (by rw [x8.1]) x8.2).unpinned;obtain ⟨e10,n10,ne10,nf10,d10⟩:=J10.pin (s.heap.objs.size,zu its k) (by simp);have hlen:its.toArray.size <= sizeLine:=by
     have:=r5.length;rw [zU6,<- this];exact Nat.le_of_lt hlt
    refine wpAny_list_append_plain (hsz:=hlen) (show s10.heap.PlainList s.heap.objs.size its.toArray from ⟨k,e10⟩) fun h' hl' hs'=>?_;obtain ⟨k',e'⟩:=hl';have e'':h'.get? s.heap.objs.size = some (zu (its ++ [v]) k'):=by rw [e']; simp [zu]
    refine ⟨m',hm,i + 1,H10,ys ++ [y],its ++ [v],k',?_,r5.append (.cons r10 .nil),T.keep _ _ _ b1 fun b hb o e=>hs'.extBut b o (fun z=>hDfp (z ▸ hb)) e,b2,w'⟩;refine Inv.repin (pl:=[]) J10 (fun p hp=>?_) hs' (zU4 _) hcD e'' (by intro v z; cases z);rw [zVi] at hp;have hp':p ∈ X.pn ++ zB:=hp;exact zVJ (zU9 (I.pin p hp').1)
 exact codeAny_compStart_list loop (T.self _ 0 _ _ _ st4 loop)
end
section
variable {X:Cx} {zB:List (Addr × Obj)} {σ:St} {H:Hp} {s:Shared} {scope:Scope} {cl:List (Str × Addr)} {fp:List Addr}
theorem zH1 (I:Inv X zB σ H s) (hf:∀ b ∈ fp,zC5 X zB H b)
  (Ic:Inv (zS X zB scope cl s H fp) [(s.heap.objs.size,zu its n)] σc H' s') (rv:zv ys its) (hz:ys.length <= sizeLine) (hs:Heap.SameBut (s.heap.objs.size + 1) s'.heap h') :
  Inv X zB σ (upd H' s.heap.objs.size (.lst ys)) { s' with heap:=h' } /\ H' s.heap.objs.size = none:=by
 obtain ⟨eD,nD,_⟩:=Ic.pin (s.heap.objs.size,zu its n) (by simp);have nC:H' (s.heap.objs.size + 1) = none:=Ic.free;have eD':h'.get? s.heap.objs.size = some (zu its n):=hs.extBut _ _ (zVJ (zVv _)) eD;have lt1:∀ {b:Addr} {o:Obj},s.heap.get? b = some o -> b ≠ s.heap.objs.size + 1 /\ b ≠ s.heap.objs.size:=fun e=>⟨zVJ (zVn (zU9 e)),zVJ (zU9 e)⟩;have tr:∀ b u,H' b = some u -> b ≠ s.heap.objs.size + 1 /\ b ≠ s.heap.objs.size:=fun b u e=>⟨fun z=>(by rw [z,nC] at e; cases e),fun z=>(by rw [z,nD] at e; cases e)⟩;refine ⟨?_,nD⟩;have B:=Ic.base;have un:Un (frs X.stack) fp H (upd H' s.heap.objs.size (.lst ys)) s.heap h':=by
  refine ⟨fun b o e q hb hx=>hs.extBut b o (lt1 e).1 (B.keep b o e q hb hx),fun b o e q hb hx=>?_,fun b o e q hx=>?_,fun b o e hx=>?_,fun b xs e=>?_,fun b o xs e=>?_,fun b ps e=>?_⟩
  ·obtain ⟨sl,e1⟩:=B.slot b o e q hb hx;exact ⟨sl,hs.extBut b _ (lt1 e).1 e1⟩
  ·rw [zm (lt1 e).2]; exact B.free b o e q hx
  ·obtain ⟨o',e1⟩:=B.there b o e hx;exact ⟨o',hs.extBut b _ (lt1 e).1 e1⟩
  ·have q:=B.tups b xs e;rw [zm (tr b _ q).2]; exact q
  ·have q:=B.frzs b o xs e;rw [zm (tr b _ q).2]; exact q
  ·obtain ⟨more,q⟩:=B.tbls b ps e;exact ⟨more,by rw [zm (tr b _ q).2]; exact q⟩
 have hok:HOk X.prog X.w (upd H' s.heap.objs.size (.lst ys)) h':=fun b u e=>by
  by_cases hb:b = s.heap.objs.size
  ·subst hb;rw [zAh] at e; cases e;exact ⟨hz,its,n,rv,eD'⟩
  ·rw [zm hb] at e;refine (Ic.hok b u e).stay (fun c v hc q=>hs.extBut c v ?_ q) (fun c q=>by rw [zm (tr c _ q).2]; exact q) fun c xs q=>by rw [zm (tr c _ q).2]; exact q
   rcases hc with z | z
   ·rw [z]; exact (tr b u e).1
   ·exact (tr c _ z).1
 exact I.call' (s':={ s' with heap:=h' }) (ch:=fp) Ic.os un hok Ic.bare fun b hb=>⟨(hf b hb).2.2.2.1,(hf b hb).2.1,(hf b hb).2.2.2.2.1,(hf b hb).2.2.2.2.2⟩
end
section
variable {X:Cx} {scope:Scope} {tg elt iter:Expr} {ifs:List Expr} {pos:Pos} {own:List Nat} {wi:TI} {g:TG} {tc:TT} {te:TE}
structure CompParts (X:Cx) (scope:Scope) (tg:Expr) (ifs:List Expr) (elt:Expr) (g:TG) (tc:TT) (te:TE):Prop where
 g:∀ zB cl s H fp,PG (zS X zB scope cl s H fp) tg g
 c:∀ zB cl s H fp,zGm (zS X zB scope cl s H fp) ifs tc
 e:∀ zB cl s H fp,PE (zS X zB scope cl s H fp) elt te
theorem CompScope.closure (S:CompScope X scope) (I:Inv X zB σ H s) :
  ∃ cl,closureFor scope X.env = pure cl /\ (∀ x c,cl.lookup x = some c -> X.env.cells.lookup x = some c) /\ ∀ y ∈ scope.names,y.2 = .free -> (cl.lookup y.1).isSome = true :=
 zIF fun y hy hk=>I.ok.has y.1 (S.free y hy hk)
theorem zRM (C:CompIn X scope own) (hcalm:X.calm = true) (hi:PI X tg iter wi) (p:CompParts X scope tg ifs elt g tc te) (hs:∀ x,foldedSetIterable iter X.env x = pure x:=by intro _; rfl) :
  PE X (.ListComp elt [⟨tg,iter,ifs,0⟩] scope pos) (zPd own wi g tc te):=by
 intro zB s σ H Q I h;obtain ⟨cl,hcl,c1,c2⟩:=C.sc.closure I;rw [eval_ListComp];refine zWs (use:=none) rfl hs hcl C.sc.kind C.sc.names (thn (hi zB s σ H _ I h) fun v s1 h1=>thn h1 fun itv s2 h2=>?_);obtain ⟨it,fp,tn,J,H2,e,I2,T,st2,f2,W,⟨m0,w0⟩,turn⟩:=h2;subst e;refine zHy C hcalm I2 T st2 f2 c1 c2 (p.g _ _ _ _ _) (p.c _ _ _ _ _) (p.e _ _ _ _ _) (RR:=fun acc C r s'=>compPost (model X.prog X.w) X.A X.xe none (EP X zB σ Q) acc C r s') (QQ:=fun ys H=>∀ D,H D = none -> Q (.ref D) (upd H D (.lst ys))) w0 turn ?_;intro σc H' s' its n ys Ic rv hz qq;obtain ⟨m,hn,_⟩:=Ic.loc;refine ⟨m,hn,fun h' hs'=>?_⟩;obtain ⟨J',nD⟩:=zH1 I2 f2 Ic rv hz hs';exact ⟨.ref s2.heap.objs.size,_,J',rfl,qq _ nD⟩
theorem zLX (hN:X.N.Nodup) (hi':X.N[i]? = some x) (hx:Loc X.env.scope x) (hfn:X.fn x = true \/ X.env.scope.names.lookup x = some .local)
  (C:CompIn X scope own) (hcalm:X.calm = true) (hi:PI X tg iter wi) (p:CompParts X scope tg ifs elt g tc te)
  (hsw:swapsWith (.ListComp elt [⟨tg,iter,ifs,0⟩] scope pos) (some (.Name x pos')) pos''.line X.env = pure true) (hs:∀ x,foldedSetIterable iter X.env x = pure x:=by intro _; rfl) :
  PS X (.Assign [.Name x pos'] (.ListComp elt [⟨tg,iter,ifs,0⟩] scope pos) pos'') (zQL (zPd own wi g tc te) (zD9 i)):=by
 intro zB s σ H D I h;obtain ⟨cl,hcl,c1,c2⟩:=C.sc.closure I;rw [exec_Assign_Name_used _ _ _ _ hsw];refine zUy (zVw (zUy ?_));show wpAny _ X.A (do let _ <- comprehension (.ListComp elt [⟨tg,iter,ifs,0⟩] scope pos) scope X.env _ (newList []) false (eval iter X.env) (some (assign (.Name x pos') X.env))) _ _ s
 refine zUy (zVU (zWs (use:=some (assign (.Name x pos') X.env)) (Q:=fun _ s'=>SP X zB D .next s') rfl hs hcl C.sc.kind C.sc.names
  (thn (hi zB s σ H _ I h) fun v s1 h1=>thn h1 fun itv s2 h2=>?_)) (fun _ s' hq=>zU0 (zU0 hq)) fun _ _ e=>e)
 obtain ⟨it,fp,tn,J,H2,e,I2,T,st2,f2,W,⟨m0,w0⟩,turn⟩:=h2;subst e
 refine zHy C hcalm I2 T st2 f2 c1 c2 (p.g _ _ _ _ _) (p.c _ _ _ _ _) (p.e _ _ _ _ _) (RR:=fun acc C r s'=>compPost (model X.prog X.w) X.A X.xe (some (assign (.Name x pos') X.env)) (fun _ s'=>SP X zB D .next s') acc C r s')
  (QQ:=fun ys H=>∀ E,H E = none -> zD9 i (.ref E) σ (upd H E (.lst ys)) D.nx) w0 turn ?_
 intro σc H' s' its n ys Ic rv hz qq;obtain ⟨m,hn,_⟩:=Ic.loc;obtain ⟨J',nD⟩:=zH1 (h':=s'.heap) I2 f2 Ic rv hz (.refl ..);obtain ⟨oC,es,ep,hoC,hdC,r1,r2⟩:=id hn;have nC:upd H' s2.heap.objs.size (.lst ys) (s2.heap.objs.size + 1) = none:=by rw [zm (Nat.ne_of_gt (zVv _))]; exact Ic.free
 have K':Inv X (zB ++ [(s2.heap.objs.size + 1,oC)]) σ (upd H' s2.heap.objs.size (.lst ys)) s':=J'.pins_of fun q hq=>by
  rcases zVO.mp hq with z | z
  ·exact J'.pin q (zVI _ z)
  ·have e:q = (s2.heap.objs.size + 1,oC):=by simpa using z
   subst e;refine ⟨hoC,nC,Nat.ne_of_gt (zVn I2.lt),I2.nofs (Nat.le_succ _),fun v z=>?_⟩;have z':oC.data = .cell v:=z;rw [hdC] at z'; cases z'
 show wpAny _ X.A (assign (.Name x pos') X.env (.ref s2.heap.objs.size)) _ _ _;refine thn (zJo hN hi' hx hfn _ s' σ _ (.ref s2.heap.objs.size) (.ref s2.heap.objs.size) _ K' rfl (qq _ nD)) fun _ s'' ⟨σ'',H'',I'',q''⟩=>?_;obtain ⟨eC,_⟩:=I''.pin (s2.heap.objs.size + 1,oC) (by simp);refine ⟨m,⟨oC,es,ep,eC,hdC,r1,r2⟩,fun h' hs'=>⟨σ'',H'',?_,q''⟩⟩;have I3:Inv X zB σ'' H'' s'':=I''.unpinned;obtain ⟨_,nC'',neC,_,_⟩:=I''.pin (s2.heap.objs.size + 1,oC) (by simp);refine I3.turned (t':=s''.toks) (it:=s2.heap.objs.size + 1) (fun b o hb e=>hs'.extBut b o hb e) nC'' neC (.inr (zVP I2.sz (Nat.le_succ _))) (fun x c e z=>?_) (fun q hq z=>?_)
 ·obtain ⟨v,o,ho,hd⟩:=I3.cell x c e;rw [z,eC] at ho; cases ho;rw [hdC] at hd; cases hd
 ·obtain ⟨e,_⟩:=I2.pin q hq;exact zVJ (zVn (zU9 e)) z
end
abbrev zBn (elt t1 i1:Expr) (f1:List Expr) (t2 i2:Expr) (f2:List Expr) (scope:Scope) (pos:Pos):Expr:=.ListComp elt [⟨t1,i1,f1,0⟩,⟨t2,i2,f2,0⟩] scope pos
theorem zIK (elt t1 i1:Expr) (f1:List Expr) (t2 i2:Expr) (f2:List Expr) (scope:Scope) (pos:Pos) (it acc:Value) (env:Env) :
  compTurn (zBn elt t1 i1 f1 t2 i2 f2 scope pos) 0 it acc env = (do
   standAt i1.pos;match <- pyNext it with
   | none=>pure (.done .next)
   | some v=>
    letOwnedTupleGo t1 it v;assign t1 env v;let mut ok:=true
    for c in f1 do
     if ok then ok <- isTrue c env (eval c env)
    if ok then
     let x <- eval i2 env;standAt i2.pos;let x <- foldedSetIterable i2 env x;let _ <- runOwn (.compStart (zBn elt t1 i1 f1 t2 i2 f2 scope pos) 1 (<- holding [x] (pyIter x)) acc env) env
    again (.compLoop (zBn elt t1 i1 f1 t2 i2 f2 scope pos) 0 it acc env)):=by rfl
theorem zJQ (elt t1 i1:Expr) (f1:List Expr) (t2 i2:Expr) (f2:List Expr) (scope:Scope) (pos:Pos) (it acc:Value) (env:Env) :
  compTurn (zBn elt t1 i1 f1 t2 i2 f2 scope pos) 1 it acc env = (do
   standAt i2.pos;match <- pyNext it with
   | none=>pure (.done .next)
   | some v=>
    letOwnedTupleGo t2 it v;assign t2 env v;let mut ok:=true
    for c in f2 do
     if ok then ok <- isTrue c env (eval c env)
    if ok then
     (do let _ <- call (.builtin "list.append") [acc,<- eval elt env])
    again (.compLoop (zBn elt t1 i1 f1 t2 i2 f2 scope pos) 1 it acc env)):=by rfl
section
variable {prog:Program} {w:World} {A:Around} {E:Value -> Shared -> Prop} {R:Result -> Shared -> Prop} {s:Shared}
variable {elt t1 i1 t2 i2:Expr} {f1 f2:List Expr} {scope:Scope} {pos:Pos} {it acc:Value} {env:Env}
theorem zJl (I:Nat -> Shared -> Prop)
  (turn:∀ n s,I n s -> wpAny (model prog w) A (pyNext it) (fun r s₁=>match r with
   | none=>R (.ok .next) s₁
   | some v=>wpAny (model prog w) A (letOwnedTupleGo t2 it v) (fun _ s₁'=>wpAny (model prog w) A (assign t2 env v) (fun _ s₂=>
     wpAny (model prog w) A (forIn f2 true fun c r=>if r = true then do let ok <- isTrue c env (eval c env); pure (ForInStep.yield ok) else pure (ForInStep.yield r)) (fun ok s₃=>
      if ok = true then wpAny (model prog w) A (eval elt env) (fun x s₄=>
       wpAny (model prog w) A (call (.builtin "list.append") [acc,x]) (fun _ s₅=>∃ m,m < n /\ I m s₅) (fun _ _=>False) s₄) (fun _ _=>False) s₃
      else ∃ m,m < n /\ I m s₃) (fun _ _=>False) s₂) (fun _ _=>False) s₁') (fun _ _=>False) s₁) (fun _ _=>False) s)
  (n:Nat) (h:I n s) :
  codeAny (model prog w) A (.compLoop (zBn elt t1 i1 f1 t2 i2 f2 scope pos) 1 it acc env) R s:=by
 refine codeAny_loop rfl I (fun n s hI=>?_) n h;show wpAny _ A ((compTurn (zBn elt t1 i1 f1 t2 i2 f2 scope pos) 1 it acc env).onRaise (fun x=>do noteFrame x env; theTreesLotGoes x)) _ _ s;refine wpAny_noted ?_;rw [zJQ];refine zUy (zVw (zUy (zVU (turn n s hI) (fun r s₁ h₁=>?_) fun _ _ h'=>h'.elim)));cases r with
 | none=>exact zU0 h₁
 | some v=>
  refine zUy (zVU h₁ (fun _ s₁' h₁'=>?_) fun _ _ h'=>h'.elim);refine zUy (zVU h₁' (fun _ s₂ h₂=>zUy (zVU h₂ (fun ok s₃ h₃=>?_) fun _ _ h'=>h'.elim)) fun _ _ h'=>h'.elim);cases ok with
  | false=>exact zU0 ⟨rfl,h₃⟩
  | true=>
   exact zUy (zUy (zVU h₃ (fun x s₄ h₄=>zUy (zVU h₄ (fun _ s₅ h₅=>zU0 (zU0 ⟨rfl,h₅⟩)) fun _ _ h'=>h'.elim)) fun _ _ h'=>h'.elim))
theorem zIJ
  (h0:codeAny (model prog w) A (.compLoop (zBn elt t1 i1 f1 t2 i2 f2 scope pos) 1 it acc env) R s)
  (h:wpAny (model prog w) A (pyIter it) (fun it' s'=>codeAny (model prog w) A (.compLoop (zBn elt t1 i1 f1 t2 i2 f2 scope pos) 1 it' acc env) R s')
   (notedBy (model prog w) A env fun x s'=>R (.error x) s') s) :
  codeAny (model prog w) A (.compStart (zBn elt t1 i1 f1 t2 i2 f2 scope pos) 1 it acc env) R s:=by
 refine codeAny_of_tree ?_;show wpAny _ _ ((compStart (zBn elt t1 i1 f1 t2 i2 f2 scope pos) 1 it acc env).onRaise (fun x=>do noteFrame x env; standAt theWindowsPlace)) _ _ s;refine wpAny_notedAt ?_;unfold compStart;show wpAny _ _ (ask >>= _) _ _ s;refine zUy (wpAny_askSetting (wpAny_ite ?_));split
 ·first
   | exact zUy (zU0 (zU0 (And.intro rfl h0)))
   | exact zU0 (And.intro rfl h0)
 ·first
   | exact zUy (zWL (zUy (zVw (zUy (zVU h (fun it' s' h'=>zU0 (And.intro rfl h')) fun _ _ x=>x)))))
   | (refine zUy (zWL ?_); show wpAny _ _ (standAt i2.pos >>= _) _ _ s; exact zUy (zVw (zUy (zVU h (fun it' s' h'=>zU0 (And.intro rfl h')) fun _ _ x=>x))))
theorem zIT (hs2:∀ x,foldedSetIterable i2 env x = pure x) (I:Nat -> Shared -> Prop)
  (turn:∀ n s,I n s -> wpAny (model prog w) A (pyNext it) (fun r s₁=>match r with
   | none=>R (.ok .next) s₁
   | some v=>wpAny (model prog w) A (letOwnedTupleGo t1 it v) (fun _ s₁'=>wpAny (model prog w) A (assign t1 env v) (fun _ s₂=>
     wpAny (model prog w) A (forIn f1 true fun c r=>if r = true then do let ok <- isTrue c env (eval c env); pure (ForInStep.yield ok) else pure (ForInStep.yield r)) (fun ok s₃=>
      if ok = true then wpAny (model prog w) A (eval i2 env) (fun x s₄=>wpAny (model prog w) A (pyIter x) (fun it2 s₅=>
       codeAny (model prog w) A (.compStart (zBn elt t1 i1 f1 t2 i2 f2 scope pos) 1 it2 acc env) (fun r s₆=>r = .ok .next /\ ∃ m,m < n /\ I m s₆) s₅) (fun _ _=>False) s₄) (fun _ _=>False) s₃
      else ∃ m,m < n /\ I m s₃) (fun _ _=>False) s₂) (fun _ _=>False) s₁') (fun _ _=>False) s₁) (fun _ _=>False) s)
  (n:Nat) (h:I n s) :
  codeAny (model prog w) A (.compLoop (zBn elt t1 i1 f1 t2 i2 f2 scope pos) 0 it acc env) R s:=by
 refine codeAny_loop rfl I (fun n s hI=>?_) n h;show wpAny _ A ((compTurn (zBn elt t1 i1 f1 t2 i2 f2 scope pos) 0 it acc env).onRaise (fun x=>do noteFrame x env; theTreesLotGoes x)) _ _ s;refine wpAny_noted ?_;rw [zIK];refine zUy (zVw (zUy (zVU (turn n s hI) (fun r s₁ h₁=>?_) fun _ _ h'=>h'.elim)));cases r with
 | none=>exact zU0 h₁
 | some v=>
  refine zUy (zVU h₁ (fun _ s₁' h₁'=>?_) fun _ _ h'=>h'.elim);refine zUy (zVU h₁' (fun _ s₂ h₂=>zUy (zVU h₂ (fun ok s₃ h₃=>?_) fun _ _ h'=>h'.elim)) fun _ _ h'=>h'.elim);cases ok with
  | false=>exact zU0 ⟨rfl,h₃⟩
  | true=>
   refine zUy (zVU h₃ (fun x s₄ h₄=>zUy (zVw (zUy (wpAny_of_eq (hs2 x) (zUy (zVr (zVU h₄ (fun it2 s₅ h₅=>?_) fun _ _ h'=>h'.elim))))))) fun _ _ h'=>h'.elim);refine zUy (wpAny_runOwn (codeAny_mono h₅ fun r s₆ hr=>?_));obtain ⟨rfl,hr⟩:=hr;exact zU0 ⟨rfl,hr⟩
end
def tIn (own2:List Nat) (wi2:TI) (g2:TG) (tc2:TT) (te:TE) (σ2:St) (H3:Hp) (ys:List V) (QQ:List V -> Hp -> Prop):Prop :=
 wi2 σ2 H3 fun J2 H4=>∃ W2:Nat -> Nat -> List V -> Hp -> Prop,(∃ m,W2 0 m ys H4) /\ ∀ j m zs H,W2 j m zs H ->
  (J2.stop j H /\ QQ zs H) \/
  (J2.go j H /\ ∀ x H',J2.yld j H x H' -> g2 x (clr own2 σ2) H' fun σ3 H5=>Ext (clr own2 σ2) σ3 /\ tc2 σ3 H5 fun b H6=>
   if b = true then te σ3 H6 fun v H7=>zs.length < sizeLine /\ ∃ m',m' < m /\ W2 (j + 1) m' (zs ++ [v]) H7 else ∃ m',m' < m /\ W2 (j + 1) m' zs H6)
section
variable {C:Cx} {elt t1 i1 t2 i2:Expr} {f1 f2:List Expr} {scope:Scope} {pos:Pos} {pl:List (Addr × Obj)} {σ:St} {H:Hp} {s:Shared} {D:Addr}
 {own2:List Nat} {wi2:TI} {g2:TG} {tc2:TT} {te:TE} {R:Result -> Shared -> Prop}
theorem zPN (hxe:C.xe = fun _ _=>False) (hcalm:C.calm = true) (hi:PI C t2 i2 wi2) (hg:PG C t2 g2) (hc:zGm C f2 tc2) (he:PE C elt te) (hD:C.s₀.heap.objs.size <= D)
  (hcD:∀ x c,C.env.cells.lookup x = some c -> c ≠ D) (hpl:∀ p ∈ C.pn ++ pl,p.1 ≠ D) (I:Inv C (pl ++ [(D,zu its k)]) σ H s) (rv:zv ys its) (h:tIn own2 wi2 g2 tc2 te σ H ys QQ)
  (fin:∀ s' H' its' k' zs,Inv C (pl ++ [(D,zu its' k')]) (clr own2 σ) H' s' -> zv zs its' -> QQ zs H' -> R (.ok .next) s') :
  wpAny (model C.prog C.w) C.A (eval i2 C.env) (fun x s₄=>wpAny (model C.prog C.w) C.A (pyIter x) (fun it2 s₅=>
   codeAny (model C.prog C.w) C.A (.compStart (zBn elt t1 i1 f1 t2 i2 f2 scope pos) 1 it2 (.ref D) C.env) R s₅) (fun _ _=>False) s₄) (fun _ _=>False) s:=by
 have hpi:=hi _ s σ H _ I h;rw [hxe] at hpi;refine thn hpi fun v s1 h1=>thn h1 fun itv s2 h2=>?_;obtain ⟨it,fp,tn,J,H2,e,I2,T,st2,f2',W,⟨m0,w0⟩,turn⟩:=h2;subst e;have hDfp:D ∉ fp:=fun z=>(f2' D z).2.2.2.2.2 (D,zu its k) (by simp) rfl;have loop:∀ s',(∃ H',Inv C (pl ++ [(D,zu its k)]) (clr own2 σ) H' s' /\ tn 0 s'.heap /\ (∀ b ∈ fp,H' b = none) /\ W 0 m0 ys H') -> codeAny (model C.prog C.w) C.A (.compLoop (zBn elt t1 i1 f1 t2 i2 f2 scope pos) 1 (.ref it) (.ref D) C.env) R s':=by
  rintro s' ⟨H',I',st',hn',w'⟩;have fpk:∀ {H':Hp} {its:List Value} {k:Nat},(∀ b ∈ fp,H' b = none) -> ∀ b ∈ fp,zC5 C (pl ++ [(D,zu its k)]) H' b:=fun {H' its k} hn b hb=>by
   obtain ⟨_,a2,a3,a4,a5,a6⟩:=f2' b hb;refine ⟨hn b hb,a2,a3,a4,a5,fun p hp=>?_⟩;rcases zVO.mp hp with z | z
   ·exact a6 p (zWD _ z)
   ·rcases zVO.mp z with z | z
    ·exact a6 p (zVI _ (zWD _ z))
    ·have:p = (D,zu its k):=by simpa using z
     rw [this];intro q;have q':D = b:=q;exact hDfp (q' ▸ hb)
  refine zJl (fun n s'=>∃ i H' ys its k,Inv C (pl ++ [(D,zu its k)]) (clr own2 σ) H' s' /\ zv ys its /\ tn i s'.heap /\ (∀ b ∈ fp,H' b = none) /\ W i n ys H') ?_ m0 ⟨0,H',ys,its,k,I',rv,st',hn',w'⟩;rintro n s5 ⟨i,H5,ys,its,k,I5,r5,st5,f5,w5⟩;rcases turn i n ys H5 w5 with ⟨stop,qq⟩ | ⟨go,step⟩
  ·refine thn (T.done C rfl rfl rfl hcalm i _ s5 _ H5 _ I5 (fpk f5) st5 stop) fun r s6 ⟨hr,I6⟩=>?_;subst hr;exact fin s6 H5 its k ys I6 r5 qq
  ·refine thn (T.item C rfl rfl rfl hcalm i _ s5 _ H5 _ I5 (fpk f5) st5 go) fun r s6 ⟨u,hr,h6⟩=>?_;subst hr;refine thn h6 fun _ s7 ⟨x,H7,I7,r7,y7,st7,f7⟩=>?_;have I7':=I7.pinned (fpk f7) (T.obj _ _ st7);have hgg:=hg _ s7 _ H7 x u _ I7' r7 (step x H7 y7);rw [hxe] at hgg;refine thn hgg fun _ s8 ⟨σ8,H8,I8,x8,q8⟩=>?_;have hcc:=hc _ s8 σ8 H8 _ I8 q8;rw [hxe] at hcc;refine thn hcc fun ok s9 ⟨H9,I9,q9⟩=>?_;have back:∀ {s':Shared} {Hx:Hp},Inv C ((pl ++ [(D,zu its k)]) ++ zDV fp s7.heap) σ8 Hx s' -> tn (i + 1) s'.heap /\ ∀ b ∈ fp,Hx b = none:=fun {s' Hx} Ix=>
    ⟨T.keep _ _ _ st7 fun b hb o e=>(Ix.pin (b,o) (zVI _ (zVI _ (zAg hb e)))).1,fun b hb=>by
     obtain ⟨o,e,d⟩:=T.obj _ _ st7 b hb;exact (Ix.pin (b,o) (zVI _ (zVI _ (zAg hb e)))).2.1⟩
   cases ok with
   | false=>
    obtain ⟨m',hm,w'⟩:=q9;obtain ⟨b1,b2⟩:=back I9;exact ⟨m',hm,i + 1,H9,ys,its,k,(I9.weak (by rw [x8.1]) x8.2).unpinned,r5,b1,b2,w'⟩
   | true=>
    have hee:=he _ s9 σ8 H9 _ I9 q9;rw [hxe] at hee;refine thn hee fun v s10 ⟨y,H10,I10,r10,hlt,m',hm,w'⟩=>?_;obtain ⟨b1,b2⟩:=back I10;have J10:=(I10.weak (by rw [x8.1]) x8.2).unpinned;obtain ⟨e10,n10,ne10,nf10,d10⟩:=J10.pin (D,zu its k) (by simp);have hlen:its.toArray.size <= sizeLine:=by
     have:=r5.length;rw [zU6,<- this];exact Nat.le_of_lt hlt
    refine wpAny_list_append_plain (hsz:=hlen) (show s10.heap.PlainList D its.toArray from ⟨k,e10⟩) fun h' hl' hs'=>?_;obtain ⟨k',e'⟩:=hl';have e'':h'.get? D = some (zu (its ++ [v]) k'):=by rw [e']; simp [zu]
    refine ⟨m',hm,i + 1,H10,ys ++ [y],its ++ [v],k',?_,r5.append (.cons r10 .nil),T.keep _ _ _ b1 fun b hb o e=>hs'.extBut b o (fun z=>hDfp (z ▸ hb)) e,b2,w'⟩;exact Inv.repin (pl:=pl) J10 hpl hs' hD hcD e'' (by intro v z; cases z)
 have l0:=loop s2 ⟨H2,I2.weak (zBk own2 σ) (fun i v h=>(zDA own2 σ i v h).1),st2,fun b hb=>(f2' b hb).1,w0⟩;exact zIJ l0 (T.self _ 0 _ _ _ st2 l0)
end
section
variable {X:Cx} {zB:List (Addr × Obj)} {σ:St} {H:Hp} {s:Shared} {scope:Scope} {cl:List (Str × Addr)} {fp:List Addr} {it:Addr} {tn:Nat -> Heap -> Prop} {J:It} {elt t1 i1 t2 i2:Expr} {f1 f2:List Expr} {pos:Pos}
 {own own2:List Nat} {g g2:TG} {tc tc2:TT} {te:TE} {wi wi2:TI} {E:Value -> Shared -> Prop}
theorem zLM:∀ (own:List Nat) (σ:St) (j:Nat),j ∉ own -> (clr own σ)[j]? = σ[j]?
 | [],_,_,_=>rfl
 | i :: r,σ,j,h=>by
  show (clr r (σ.set i none))[j]? = _;rw [zLM r _ j (fun z=>h (zVB _ z)),zVS (fun z=>h (by rw [z]; exact zVC))]
theorem zLS (hsub:∀ i ∈ own2,i ∈ own) (C:CompIn X scope own) (hcalm:X.calm = true) (I:Inv X zB σ H s) (T:Turn X.prog X.w X.K t1 J fp it tn) (st:tn 0 s.heap) (hf:∀ b ∈ fp,zC5 X zB H b)
  (c1:∀ x c,cl.lookup x = some c -> X.env.cells.lookup x = some c) (c2:∀ y ∈ scope.names,y.2 = .free -> (cl.lookup y.1).isSome = true)
  (hg:PG (zS X zB scope cl s H fp) t1 g) (hi:zGm (zS X zB scope cl s H fp) f1 tc)
  (hi2:PI (zS X zB scope cl s H fp) t2 i2 wi2) (hg2:PG (zS X zB scope cl s H fp) t2 g2) (hc2:zGm (zS X zB scope cl s H fp) f2 tc2) (he:PE (zS X zB scope cl s H fp) elt te)
  (hs2:∀ x,foldedSetIterable i2 (zS X zB scope cl s H fp).env x = pure x)
  {RR:Value -> Addr -> Result -> Shared -> Prop} {QQ:List V -> Hp -> Prop} {W:Nat -> Nat -> List V -> Hp -> Prop} {m0:Nat} (w0:W 0 m0 [] H)
  (turn:∀ i m ys H,W i m ys H -> (J.stop i H /\ ys.length <= sizeLine /\ QQ ys H) \/
   (J.go i H /\ ∀ x H',J.yld i H x H' -> g x (clr own σ) H' fun σ2 H2=>Ext (clr own σ) σ2 /\ tc σ2 H2 fun b H3=>
    if b = true then tIn own2 wi2 g2 tc2 te σ2 H3 ys fun zs H4=>∃ m',m' < m /\ W (i + 1) m' zs H4 else ∃ m',m' < m /\ W (i + 1) m' ys H3))
  (fin:∀ σc H' s' its n ys,Inv (zS X zB scope cl s H fp) [(s.heap.objs.size,zu its n)] σc H' s' -> zv ys its -> ys.length <= sizeLine -> QQ ys H' -> RR (.ref s.heap.objs.size) (s.heap.objs.size + 1) (.ok .next) s') :
  wpAny (model X.prog X.w) X.A (newList []) (fun acc s₃=>wpAny (model X.prog X.w) X.A (newFunctionEnv scope X.env.globals cl [] X.env.qual none .none (some X.env)) (fun cenv s₄=>
   codeAny (model X.prog X.w) X.A (.compStart (zBn elt t1 i1 f1 t2 i2 f2 scope pos) 0 (.ref it) acc { cenv with scope:=relabel scope X.env }) (RR acc cenv.locals) s₄) E s₃) E s:=by
 have ob:∀ b:Nat,b ∈ fp -> b < s.heap.objs.size:=fun b hb=>let ⟨_,e,_⟩:=T.obj 0 _ st b hb; zU9 e;refine zVR (zDL ?_);have sz1:(s.heap.push (zu [] 0)).objs.size = s.heap.objs.size + 1:=zVe ..;have I4:=zFq (X:=X) (zB:=zB) (σ:=σ) (σc:=clr own σ) (H:=H) (s:=s) (scope:=scope) (cl:=cl) (fp:=fp) C.sc I hf ob c1 c2 (zBk own σ) (fun i x v h1 h2 h3=>by
  obtain ⟨a,b⟩:=zDA own σ i v h2;rcases C.nm i x h1 with z | z | z
  ·exact absurd z b
  ·exact absurd (zCm x z) h3
  ·exact ⟨z,a⟩) (zu [] 0) (by intro v z; cases z) rfl rfl
 have st4:tn 0 (pushCells ((s.heap.push (zu [] 0)).push { cls:=.type "dict", data:=.dict #[] }) scope.names):=T.keep 0 _ _ st fun b _ o e=>pushCells_keeps _ _ b o (zUz _ (zUz _ e));dsimp only;unfold newEnv;dsimp only;rw [sz1];have hDfp:s.heap.objs.size ∉ fp:=fun z=>zVg _ (ob _ z);have hcD:∀ x c,(zS X zB scope cl s H fp).env.cells.lookup x = some c -> c ≠ s.heap.objs.size:=fun x c e z=>by
  obtain ⟨v,o,ho,hd⟩:=I4.cell x c e;obtain ⟨q,_⟩:=I4.pin (s.heap.objs.size,zu [] 0) (by simp);rw [z,q] at ho;cases ho; cases hd
 have fpk:∀ {H':Hp} {pl:List (Addr × Obj)},(∀ b ∈ fp,H' b = none) -> (∀ p ∈ pl,p.1 = s.heap.objs.size) -> ∀ b ∈ fp,zC5 (zS X zB scope cl s H fp) pl H' b:=fun {H' pl} hn hp b hb=>
  ⟨hn b hb,(I4.ok.exf b hb).1,I4.ok.exfs b hb,.inl hb,(I4.ok.exf b hb).2,fun p hq=>by
   rcases zVO.mp hq with z | z
   ·exact (hf b hb).2.2.2.2.2 p z
   ·intro e;have e2:=hp p z;rw [e] at e2;exact hDfp (e2 ▸ hb)⟩
 have loop:codeAny (model X.prog X.w) X.A (.compLoop (zBn elt t1 i1 f1 t2 i2 f2 scope pos) 0 (.ref it) (.ref s.heap.objs.size) (zS X zB scope cl s H fp).env) (RR (.ref s.heap.objs.size) (s.heap.objs.size + 1))
   { s with heap:=pushCells ((s.heap.push (zu [] 0)).push { cls:=.type "dict", data:=.dict #[] }) scope.names }:=by
  refine zIT hs2 (fun n s'=>∃ i H' ys its k,Inv (zS X zB scope cl s H fp) [(s.heap.objs.size,zu its k)] (clr own σ) H' s' /\ zv ys its /\ tn i s'.heap /\ (∀ b ∈ fp,H' b = none) /\ W i n ys H') ?_ m0
   ⟨0,H,[],[],0,I4,.nil,st4,fun b hb=>(hf b hb).1,w0⟩
  rintro n s5 ⟨i,H5,ys,its,k,I5,r5,st5,f5,w5⟩;have pinD:∀ p ∈ [(s.heap.objs.size,zu its k)],p.1 = s.heap.objs.size:=fun p hp=>by
   have:p = (s.heap.objs.size,zu its k):=by simpa using hp
   rw [this]
  rcases turn i n ys H5 w5 with ⟨stop,hz,qq⟩ | ⟨go,step⟩
  ·refine thn (T.done (zS X zB scope cl s H fp) rfl rfl rfl hcalm i _ s5 _ H5 _ I5 (fpk f5 pinD) st5 stop) fun r s6 ⟨hr,I6⟩=>?_;subst hr;exact fin _ H5 s6 its k ys I6 r5 hz qq
  ·refine thn (T.item (zS X zB scope cl s H fp) rfl rfl rfl hcalm i _ s5 _ H5 _ I5 (fpk f5 pinD) st5 go) fun r s6 ⟨u,hr,h6⟩=>?_;subst hr;refine thn h6 fun _ s7 ⟨x,H7,I7,r7,y7,st7,f7⟩=>?_;have I7':=I7.pinned (fpk f7 pinD) (T.obj _ _ st7);refine thn (hg _ s7 _ H7 x u _ I7' r7 (step x H7 y7)) fun _ s8 ⟨σ8,H8,I8,x8,q8⟩=>?_;refine thn (hi _ s8 σ8 H8 _ I8 q8) fun ok s9 ⟨H9,I9,q9⟩=>?_;have back:∀ {σx:St} {s':Shared} {Hx:Hp} {its:List Value} {k:Nat},(clr own σ).length = σx.length -> (∀ (i:Nat) v,(clr own σ)[i]? = some (some v) -> σx[i]? = some (some v)) -> Inv (zS X zB scope cl s H fp) (zDV fp s7.heap ++ [(s.heap.objs.size,zu its k)]) σx Hx s' -> Inv (zS X zB scope cl s H fp) [(s.heap.objs.size,zu its k)] (clr own σ) Hx s' /\ tn (i + 1) s'.heap /\ ∀ b ∈ fp,Hx b = none:=fun {σx s' Hx its k} hl hk Ix=>
    ⟨(Ix.weak hl hk).pins_of fun p hp=>Ix.pin p (zVI _ (zVI _ hp)),
     T.keep _ _ _ st7 fun b hb o e=>(Ix.pin (b,o) (zVI _ (zWD _ (zAg hb e)))).1,fun b hb=>by
     obtain ⟨o,e,d⟩:=T.obj _ _ st7 b hb;exact (Ix.pin (b,o) (zVI _ (zWD _ (zAg hb e)))).2.1⟩
   have I9':Inv (zS X zB scope cl s H fp) (zDV fp s7.heap ++ [(s.heap.objs.size,zu its k)]) σ8 H9 s9:=I9.pins_of fun p hp=>I9.pin p (zVI _ (by
    rcases zVO.mp hp with z | z
    ·exact zVI _ z
    ·exact zWD _ z))
   cases ok with
   | false=>
    obtain ⟨m',hm,w'⟩:=q9;obtain ⟨b0,b1,b2⟩:=back (by rw [x8.1]) x8.2 I9';exact ⟨m',hm,i + 1,H9,ys,its,k,b0,r5,b1,b2,w'⟩
   | true=>
    refine zPN (C:=zS X zB scope cl s H fp) rfl hcalm hi2 hg2 hc2 he (zU4 _) hcD (fun p hp=>?_) I9' r5 q9 fun s' H' its' k' zs I' rv' q'=>?_
    ·rcases zVO.mp hp with z | z
     ·exact zVJ (zU9 (I.pin p z).1)
     ·obtain ⟨hb,_⟩:=zIV z;exact zVJ (ob _ hb)
    ·obtain ⟨m',hm,w'⟩:=q';obtain ⟨b0,b1,b2⟩:=back (by rw [zBk own2,x8.1]) (fun i v hv=>by rw [zLM own2 _ i (fun z=>(zDA own σ i v hv).2 (hsub i z))]; exact x8.2 i v hv) I';exact ⟨rfl,m',hm,i + 1,H',zs,its',k',b0,rv',b1,b2,w'⟩
 exact codeAny_compStart_list loop (T.self _ 0 _ _ _ st4 loop)
def zPr (own own2:List Nat) (wi:TI) (g:TG) (tc:TT) (wi2:TI) (g2:TG) (tc2:TT) (te:TE):TE:=fun σ H Q=>wi σ H fun J H1=>∃ W:Nat -> Nat -> List V -> Hp -> Prop,(∃ m,W 0 m [] H1) /\ ∀ i m ys H,W i m ys H ->
 (J.stop i H /\ ys.length <= sizeLine /\ ∀ D,H D = none -> Q (.ref D) (upd H D (.lst ys))) \/
 (J.go i H /\ ∀ x H',J.yld i H x H' -> g x (clr own σ) H' fun σ2 H2=>Ext (clr own σ) σ2 /\ tc σ2 H2 fun b H3=>
  if b = true then tIn own2 wi2 g2 tc2 te σ2 H3 ys fun zs H4=>∃ m',m' < m /\ W (i + 1) m' zs H4 else ∃ m',m' < m /\ W (i + 1) m' ys H3)
structure CompParts2 (X:Cx) (scope:Scope) (t1:Expr) (f1:List Expr) (t2 i2:Expr) (f2:List Expr) (elt:Expr) (g:TG) (tc:TT) (wi2:TI) (g2:TG) (tc2:TT) (te:TE):Prop where
 g:∀ zB cl s H fp,PG (zS X zB scope cl s H fp) t1 g
 c:∀ zB cl s H fp,zGm (zS X zB scope cl s H fp) f1 tc
 w2:∀ zB cl s H fp,PI (zS X zB scope cl s H fp) t2 i2 wi2
 g2:∀ zB cl s H fp,PG (zS X zB scope cl s H fp) t2 g2
 c2:∀ zB cl s H fp,zGm (zS X zB scope cl s H fp) f2 tc2
 e:∀ zB cl s H fp,PE (zS X zB scope cl s H fp) elt te
 s2:∀ zB cl s H fp x,foldedSetIterable i2 (zS X zB scope cl s H fp).env x = pure x
theorem zPO (hsub:∀ i ∈ own2,i ∈ own) (C:CompIn X scope own) (hcalm:X.calm = true) (hi:PI X t1 i1 wi) (p:CompParts2 X scope t1 f1 t2 i2 f2 elt g tc wi2 g2 tc2 te) (hs:∀ x,foldedSetIterable i1 X.env x = pure x:=by intro _; rfl) :
  PE X (zBn elt t1 i1 f1 t2 i2 f2 scope pos) (zPr own own2 wi g tc wi2 g2 tc2 te):=by
 intro zB s σ H Q I h;obtain ⟨cl,hcl,c1,c2⟩:=C.sc.closure I;rw [eval_ListComp];refine zWs (use:=none) rfl hs hcl C.sc.kind C.sc.names (thn (hi zB s σ H _ I h) fun v s1 h1=>thn h1 fun itv s2 h2=>?_);obtain ⟨it,fp,tn,J,H2,e,I2,T,st2,f2,W,⟨m0,w0⟩,turn⟩:=h2;subst e;refine zLS hsub C hcalm I2 T st2 f2 c1 c2 (p.g _ _ _ _ _) (p.c _ _ _ _ _) (p.w2 _ _ _ _ _) (p.g2 _ _ _ _ _) (p.c2 _ _ _ _ _) (p.e _ _ _ _ _) (p.s2 _ _ _ _ _) (RR:=fun acc C r s'=>compPost (model X.prog X.w) X.A X.xe none (EP X zB σ Q) acc C r s') (QQ:=fun ys H=>∀ D,H D = none -> Q (.ref D) (upd H D (.lst ys))) w0 turn ?_;intro σc H' s' its n ys Ic rv hz qq;obtain ⟨m,hn,_⟩:=Ic.loc;refine ⟨m,hn,fun h' hs'=>?_⟩;obtain ⟨J',nD⟩:=zH1 I2 f2 Ic rv hz hs';exact ⟨.ref s2.heap.objs.size,_,J',rfl,qq _ nD⟩
end
end L2
namespace L3
open PySem PySem.Spec PyProof.Rows L2
abbrev Sv:=List (Option V)
set_option genInjectivity true in
inductive D where
 | non | bl (b:Bool) | int (i:Int) | str (x:Str) | tup (xs:List D) | ref (n:Nat)
set_option genInjectivity true in
inductive MO where
 | lst (xs:List D) | fro (xs:List D) | dict (kvs:List (D × D)) | dicT (kvs:List (D × D)) | set (xs:List D)
mutual
def Rep (L:List Addr) (H:Hp):D -> V -> Prop
 | .non,v=>v = .non
 | .bl b,v=>v = .bl b
 | .int i,v=>v = .int i
 | .str x,v=>v = .str x
 | .tup ds,v=>∃ a vs,v = .ref a /\ H a = some (.tup vs) /\ za L H ds vs
 | .ref n,v=>∃ a,v = .ref a /\ L[n]? = some a
def za (L:List Addr) (H:Hp):List D -> List V -> Prop
 | [],vs=>vs = []
 | d :: ds,vs=>∃ v r,vs = v :: r /\ Rep L H d v /\ za L H ds r
end
theorem za.length:∀ {ds:List D} {vs:List V},za L H ds vs -> vs.length = ds.length
 | [],_,h=>by unfold za at h; subst h; rfl
 | d :: ds,_,h=>by
  unfold za at h;obtain ⟨v,r,rfl,_,h2⟩:=h;simp [za.length h2]
theorem za.nil:za L H [] []:=by unfold za; rfl
theorem za.cons (h:Rep L H d v) (t:za L H ds vs):za L H (d :: ds) (v :: vs):=by
 unfold za; exact ⟨v,vs,rfl,h,t⟩
theorem za.get:∀ {ds:List D} {vs:List V} {i:Nat} {d:D},za L H ds vs -> ds[i]? = some d -> ∃ v,vs[i]? = some v /\ Rep L H d v
 | [],_,_,_,_,e=>by simp at e
 | d :: ds,_,0,d',h,e=>by
  unfold za at h;obtain ⟨v,r,rfl,h1,h2⟩:=h;simp at e; subst e;exact ⟨v,rfl,h1⟩
 | d :: ds,_,i + 1,d',h,e=>by
  unfold za at h;obtain ⟨v,r,rfl,h1,h2⟩:=h;obtain ⟨u,e1,e2⟩:=za.get (i:=i) h2 (by simpa using e);exact ⟨u,by simpa using e1,e2⟩
theorem za.app:∀ {ds es:List D} {vs ws:List V},za L H ds vs -> za L H es ws -> za L H (ds ++ es) (vs ++ ws)
 | [],_,_,_,h,t=>by unfold za at h; subst h; exact t
 | d :: ds,_,_,_,h,t=>by
  unfold za at h;obtain ⟨v,r,rfl,h1,h2⟩:=h;exact .cons h1 (za.app h2 t)
theorem za.set (h:Rep L H d v):∀ {ds:List D} {vs:List V} (i:Nat),za L H ds vs -> za L H (ds.set i d) (vs.set i v)
 | [],_,_,t=>by unfold za at t; subst t; exact .nil
 | _ :: _,_,0,t=>by
  unfold za at t;obtain ⟨v',r,rfl,h1,h2⟩:=t;exact .cons h h2
 | _ :: _,_,i + 1,t=>by
  unfold za at t;obtain ⟨v',r,rfl,h1,h2⟩:=t;exact .cons h1 (za.set h i h2)
theorem za.drop:∀ {ds:List D} {vs:List V} (n:Nat),za L H ds vs -> za L H (ds.drop n) (vs.drop n)
 | _,_,0,t=>t
 | [],_,n + 1,t=>by unfold za at t; subst t; exact .nil
 | _ :: _,_,n + 1,t=>by
  unfold za at t;obtain ⟨v',r,rfl,h1,h2⟩:=t;exact za.drop n h2
theorem za.take:∀ {ds:List D} {vs:List V} (n:Nat),za L H ds vs -> za L H (ds.take n) (vs.take n)
 | _,_,0,t=> .nil
 | [],_,n + 1,t=>by unfold za at t; subst t; exact .nil
 | _ :: _,_,n + 1,t=>by
  unfold za at t;obtain ⟨v',r,rfl,h1,h2⟩:=t;exact .cons h1 (za.take n h2)
theorem za.eraseIdx:∀ {ds:List D} {vs:List V} (n:Nat),za L H ds vs -> za L H (ds.eraseIdx n) (vs.eraseIdx n)
 | [],_,n,t=>by unfold za at t; subst t; exact .nil
 | _ :: _,_,0,t=>by
  unfold za at t;obtain ⟨v',r,rfl,h1,h2⟩:=t;exact h2
 | _ :: _,_,n + 1,t=>by
  unfold za at t;obtain ⟨v',r,rfl,h1,h2⟩:=t;exact .cons h1 (za.eraseIdx n h2)
structure Stp (L:List Addr) (H:Hp) (L':List Addr) (H':Hp):Prop where
 pre:∃ N,L' = L ++ N
 new:∀ a ∈ L',a ∈ L \/ H a = none
 old:∀ a o,H a = some o -> a ∉ L -> H' a = some o
 tup:∀ a xs,H a = some (.tup xs) -> H' a = some (.tup xs)
 frz:∀ a o u,H a = some (.frz o u) -> H' a = some (.frz o u)
theorem Stp.refl (L:List Addr) (H:Hp):Stp L H L H:=⟨⟨[],by simp⟩,fun _ h=> .inl h,fun _ _ h _=>h,fun _ _ h=>h,fun _ _ _ h=>h⟩
theorem Stp.trans (a:Stp L H L1 H1) (b:Stp L1 H1 L2 H2):Stp L H L2 H2:=by
 obtain ⟨N,rfl⟩:=a.pre;obtain ⟨N',rfl⟩:=b.pre;have back:∀ c,c ∉ L -> H1 c = none -> H c = none:=fun c hc h1=>by
  cases q:H c with
  | none=>rfl
  | some o=>rw [a.old c o q hc] at h1; cases h1
 refine ⟨⟨N ++ N',by simp⟩,fun c hc=>?_,fun c o e hc=>?_,fun c xs e=>b.tup c xs (a.tup c xs e),fun c o u e=>b.frz c o u (a.frz c o u e)⟩
 ·by_cases hL:c ∈ L
  ·exact .inl hL
  ·rcases b.new c hc with z | z
   ·exact a.new c z
   ·exact .inr (back c hL z)
 ·refine b.old c o (a.old c o e hc) fun z=>?_;rcases a.new c z with q | q
  ·exact hc q
  ·rw [q] at e; cases e
theorem Stp.grow (h:∀ a o,H a = some o -> H' a = some o):Stp L H L H':=⟨⟨[],by simp⟩,fun _ h=> .inl h,fun a o e _=>h a o e,fun a _ e=>h a _ e,fun a _ _ e=>h a _ e⟩
theorem Stp.upd (h:H p = none):Stp L H L (upd H p o):=.grow fun a u e=>by rw [zm (zAf e h)]; exact e
theorem zDD {L N:List Addr} {n:Nat} {a:Addr} (h:L[n]? = some a):(L ++ N)[n]? = some a:=by
 rw [zU5 (zU1.mp h).1]; exact h
mutual
theorem Rep.stp {L L':List Addr} {H H':Hp} (s:Stp L H L' H'):∀ {d:D} {v:V},Rep L H d v -> Rep L' H' d v
 | .non,_,h=>by unfold Rep at h ⊢; exact h
 | .bl _,_,h=>by unfold Rep at h ⊢; exact h
 | .int _,_,h=>by unfold Rep at h ⊢; exact h
 | .str _,_,h=>by unfold Rep at h ⊢; exact h
 | .tup ds,_,h=>by
  unfold Rep at h ⊢;obtain ⟨a,vs,rfl,e,r⟩:=h;exact ⟨a,vs,rfl,s.tup a vs e,za.stp s r⟩
 | .ref n,_,h=>by
  unfold Rep at h ⊢;obtain ⟨a,rfl,e⟩:=h;obtain ⟨N,rfl⟩:=s.pre;exact ⟨a,rfl,zDD e⟩
theorem za.stp (s:Stp L H L' H'):∀ {ds:List D} {vs:List V},za L H ds vs -> za L' H' ds vs
 | [],_,h=>by unfold za at h ⊢; exact h
 | d :: ds,_,h=>by
  unfold za at h ⊢;obtain ⟨v,r,rfl,h1,h2⟩:=h;exact ⟨v,r,rfl,Rep.stp s h1,za.stp s h2⟩
end
def zGD:D -> Option Key
 | .int i=>some (.inl i)
 | .str x=>some (.inr x)
 | _=>none
def zE2:List D -> Option (List Key)
 | []=>some []
 | d :: r=>match zGD d,zE2 r with
  | some k,some ks=>some (k :: ks)
  | _,_=>none
def tkD:D -> Option (List Key)
 | .tup ds=>zE2 ds
 | _=>none
def zBR {κ:Type} (kf:D -> Option κ) (L:List Addr) (H:Hp):List (D × D) -> List (κ × V) -> Prop
 | [],vs=>vs = []
 | p :: r,vs=>∃ k v r',vs = (k,v) :: r' /\ kf p.1 = some k /\ Rep L H p.2 v /\ zBR kf L H r r'
theorem zBR.stp {κ:Type} {kf:D -> Option κ} {L L':List Addr} {H H':Hp} (s:Stp L H L' H'):∀ {ps:List (D × D)} {vs:List (κ × V)},zBR kf L H ps vs -> zBR kf L' H' ps vs
 | [],_,h=>h
 | p :: r,_,h=>by
  obtain ⟨k,v,r',rfl,e,h1,h2⟩:=h;exact ⟨k,v,r',rfl,e,h1.stp s,zBR.stp s h2⟩
theorem zBR.length {κ:Type} {kf:D -> Option κ} {L:List Addr} {H:Hp}:∀ {ps:List (D × D)} {vs:List (κ × V)},zBR kf L H ps vs -> vs.length = ps.length
 | [],_,h=>by unfold zBR at h; subst h; rfl
 | p :: r,_,h=>by
  obtain ⟨k,v,r',rfl,e,h1,h2⟩:=h;simp [zBR.length h2]
def zHC (K:PySem.W.Frag) (L:List Addr) (H:Hp) (a:Addr):MO -> Prop
 | .lst xs=>∃ vs,H a = some (.lst vs) /\ za L H xs vs
 | .fro xs=>∃ o vs,H a = some (.frz o (.lst vs)) /\ za L H xs vs
 | .dict ps=>∃ vs,H a = some (.dK vs) /\ zBR zGD L H ps vs
 | .dicT ps=>∃ vs,H a = some (.dT vs) /\ zBR tkD L H ps vs
 | .set _=>∃ o u,H a = some (.frz o u)
theorem zHC.there {K:PySem.W.Frag} {L:List Addr} {H:Hp} {a:Addr} {m:MO} (h:zHC K L H a m):∃ o,H a = some o:=by
 cases m with
 | lst xs=>obtain ⟨vs,e,_⟩:=h; exact ⟨_,e⟩
 | fro xs=>obtain ⟨o,vs,e,_⟩:=h; exact ⟨_,e⟩
 | dict ps=>obtain ⟨vs,e,_⟩:=h; exact ⟨_,e⟩
 | dicT ps=>obtain ⟨vs,e,_⟩:=h; exact ⟨_,e⟩
 | set _=>obtain ⟨o,u,e⟩:=h; exact ⟨_,e⟩
theorem zHC.stp {K:PySem.W.Frag} {L L':List Addr} {H H':Hp} {a:Addr} {m:MO} (s:Stp L H L' H') (hk:∀ o,H a = some o -> H' a = some o) (h:zHC K L H a m):zHC K L' H' a m:=by
 cases m with
 | lst xs=>obtain ⟨vs,e,r⟩:=h; exact ⟨vs,hk _ e,r.stp s⟩
 | fro xs=>obtain ⟨o,vs,e,r⟩:=h; exact ⟨o,vs,hk _ e,r.stp s⟩
 | dict ps=>obtain ⟨vs,e,r⟩:=h; exact ⟨vs,hk _ e,r.stp s⟩
 | dicT ps=>obtain ⟨vs,e,r⟩:=h; exact ⟨vs,hk _ e,r.stp s⟩
 | set _=>obtain ⟨o,u,e⟩:=h; exact ⟨o,u,hk _ e⟩
structure Cor (K:PySem.W.Frag) (L:List Addr) (M:List MO) (H:Hp):Prop where
 len:L.length = M.length
 nd:L.Nodup
 obj:∀ (n:Nat) a m,L[n]? = some a -> M[n]? = some m -> zHC K L H a m
def zBt (L:List Addr) (H:Hp) (σ:List (Option D)) (τ:Sv):Prop:=τ.length = σ.length /\ ∀ (i:Nat) d,σ[i]? = some (some d) -> ∃ v,τ[i]? = some (some v) /\ Rep L H d v
theorem zBt.stp (s:Stp L H L' H') (h:zBt L H σ τ):zBt L' H' σ τ :=
 ⟨h.1,fun i d e=>let ⟨v,e1,r⟩:=h.2 i d e; ⟨v,e1,r.stp s⟩⟩
theorem Cor.tracked {K:PySem.W.Frag} {L:List Addr} {M:List MO} {H:Hp} (c:Cor K L M H) {a:Addr} (h:a ∈ L):∃ o,H a = some o:=by
 obtain ⟨n,hn⟩:=List.getElem?_of_mem h;have hl:n < M.length:=by rw [<- c.len]; exact (zU1.mp hn).1
 have m:=c.obj n a M[n] hn (zU2 hl);exact m.there
theorem Cor.grow {K:PySem.W.Frag} {L:List Addr} {M:List MO} {H H':Hp} (c:Cor K L M H) (h:∀ a o,H a = some o -> H' a = some o):Cor K L M H':=by
 exact ⟨c.len,c.nd,fun n a m e1 e2=>(c.obj n a m e1 e2).stp (.grow h) fun o e=>h a o e⟩
theorem Cor.upd {K:PySem.W.Frag} {L:List Addr} {M:List MO} {H:Hp} {p:Addr} {o:HO} (c:Cor K L M H) (h:H p = none):Cor K L M (upd H p o):=c.grow fun a u e=>by rw [zm (zAf e h)]; exact e
theorem Cor.write {K:PySem.W.Frag} {L:List Addr} {M:List MO} {H:Hp} {n:Nat} {p:Addr} {xs xs':List D} {vs':List V} (c:Cor K L M H) (h1:L[n]? = some p) (h2:M[n]? = some (.lst xs)) (r:za L H xs' vs') :
  Cor K L (M.set n (.lst xs')) (L2.upd H p (.lst vs')) /\ Stp L H L (L2.upd H p (.lst vs')):=by
 obtain ⟨vs,hp,_⟩:=c.obj n p _ h1 h2;have st:Stp L H L (L2.upd H p (.lst vs')):=by
  refine ⟨⟨[],by simp⟩,fun a ha=> .inl ha,fun a o e ha=>?_,fun a o e=>?_,fun a o u e=>?_⟩
  ·rw [zm (show a ≠ p from fun z=>ha (by rw [z]; exact List.mem_of_getElem? h1))]; exact e
  ·rw [zm (zIf e hp (by intro z; cases z))]; exact e
  ·rw [zm (zIf e hp (by intro z; cases z))]; exact e
 refine ⟨⟨by simp [c.len],c.nd,fun k a m e1 e2=>?_⟩,st⟩;rw [zWX] at e2;split at e2
 ·rename_i hk;subst hk;rw [h1] at e1; cases e1;split at e2
  ·cases e2; exact ⟨vs',zAh,r.stp st⟩
  ·cases e2
 ·rename_i hk;have hne:a ≠ p:=fun z=>hk (by
   subst z;exact (List.getElem?_inj (zU1.mp h1).1 c.nd).mp (h1.trans e1.symm))
  exact (c.obj k a m e1 e2).stp st fun o e=>by rw [zm hne]; exact e
set_option genInjectivity true in
inductive EV where
 | dat (d:D) | fl (xs:List D)
def zo (H0:Hp) (L:List Addr) (H:Hp):EV -> V -> Prop
 | .dat d,v=>Rep L H d v
 | .fl xs,v=>∃ p vs,v = .ref p /\ H0 p = none /\ H p = some (.lst vs) /\ p ∉ L /\ za L H xs vs
abbrev Sd:=List (Option D)
abbrev Mem:=List MO
abbrev FE:=Sd -> Mem -> Option (EV × Mem)
abbrev FD:=Sd -> Mem -> Option (D × Mem)
abbrev FT:=Sd -> Mem -> Option (Bool × Mem)
abbrev FA:=Sd -> Mem -> Option (List D × Mem)
theorem Stp.out (s:Stp L H L' H') (h:H p = some o) (hp:p ∉ L):p ∉ L':=fun z=>by
 rcases s.new p z with q | q
 ·exact hp q
 ·rw [h] at q; cases q
theorem zo.stp (s:Stp L H L' H') (h:zo H0 L H e v):zo H0 L' H' e v:=by
 cases e with
 | dat d=>exact Rep.stp s h
 | fl xs=>
  obtain ⟨p,vs,rfl,e0,e1,e2,r⟩:=h;exact ⟨p,vs,rfl,e0,s.old p _ e1 e2,s.out e1 e2,r.stp s⟩
theorem zo.back {H0 H1:Hp} {L0 L1 L:List Addr} {H:Hp} (s:Stp L0 H0 L1 H1) {M:List MO} {K:PySem.W.Frag} (c:Cor K L0 M H0) {e:EV} {v:V} (h:zo H1 L H e v) (hL:∀ a ∈ L1,a ∈ L):zo H0 L H e v:=by
 cases e with
 | dat d=>exact h
 | fl xs=>
  obtain ⟨p,vs,rfl,e0,e1,e2,r⟩:=h;refine ⟨p,vs,rfl,?_,e1,e2,r⟩;cases q:H0 p with
  | none=>rfl
  | some o=>
   by_cases hp:p ∈ L0
   ·obtain ⟨N,hN⟩:=s.pre;exact absurd (hL p (by rw [hN]; exact zWD _ hp)) e2
   ·rw [s.old p o q hp] at e0; cases e0
section
variable (K:PySem.W.Frag)
def trE (f:FE):TE:=fun τ H Q=>∃ L σ M d M',Cor K L M H /\ zBt L H σ τ /\ f σ M = some (d,M') /\ ∀ L' H' v,Stp L H L' H' -> Cor K L' M' H' -> zo H L' H' d v -> Q v H'
def trD (f:FD):TE:=fun τ H Q=>∃ L σ M d M',Cor K L M H /\ zBt L H σ τ /\ f σ M = some (d,M') /\ ∀ L' H' v,Stp L H L' H' -> Cor K L' M' H' -> Rep L' H' d v -> Q v H'
def trT (f:FT):TT:=fun τ H Q=>∃ L σ M d M',Cor K L M H /\ zBt L H σ τ /\ f σ M = some (d,M') /\ ∀ L' H',Stp L H L' H' -> Cor K L' M' H' -> Q d H'
def trA (f:FA):TA:=fun τ H Q=>∃ L σ M ds M',Cor K L M H /\ zBt L H σ τ /\ f σ M = some (ds,M') /\ ∀ L' H' vs,Stp L H L' H' -> Cor K L' M' H' -> za L' H' ds vs -> Q vs H'
end
section
variable {X:Cx} {e:Expr}
theorem PE.imp (h:PE X e t) (hi:∀ τ H Q,t' τ H Q -> t τ H Q):PE X e t':=fun zB s σ H Q I q=>h zB s σ H Q I (hi _ _ _ q)
theorem PT.imp (h:PT X e t) (hi:∀ τ H Q,t' τ H Q -> t τ H Q):PT X e t':=fun zB s σ H Q I q=>h zB s σ H Q I (hi _ _ _ q)
theorem PS.imp {st:Stmt} {t t':TS} (h:PS X st t) (hi:∀ D τ H,t' D τ H -> t D τ H):PS X st t':=fun zB s σ H D I q=>h zB s σ H D I (hi _ _ _ q)
theorem PSs.imp {st:List Stmt} {t t':TS} (h:PSs X st t) (hi:∀ D τ H,t' D τ H -> t D τ H):PSs X st t':=fun zB s σ H D I q=>h zB s σ H D I (hi _ _ _ q)
structure QE (X:Cx) (e:Expr) (f:FE):Prop where
 un:PE X e (trE X.K f)
structure QD (X:Cx) (e:Expr) (f:FD):Prop where
 un:PE X e (trD X.K f)
structure QT (X:Cx) (e:Expr) (f:FT):Prop where
 un:PT X e (trT X.K f)
structure QA (X:Cx) (es:List Expr) (f:FA):Prop where
 un:PA X es (trA X.K f)
def toD (f:FE):FD:=fun σ M=>match f σ M with
 | some (.dat d,M')=>some (d,M')
 | some (.fl xs,M')=>some (.ref M'.length,M' ++ [.lst xs])
 | none=>none
mutual
theorem Rep.more (N:List Addr):∀ {d:D} {v:V},Rep L H d v -> Rep (L ++ N) H d v
 | .non,_,h=>by unfold Rep at h ⊢; exact h
 | .bl _,_,h=>by unfold Rep at h ⊢; exact h
 | .int _,_,h=>by unfold Rep at h ⊢; exact h
 | .str _,_,h=>by unfold Rep at h ⊢; exact h
 | .tup ds,_,h=>by
  unfold Rep at h ⊢;obtain ⟨a,vs,rfl,e,r⟩:=h;exact ⟨a,vs,rfl,e,za.more N r⟩
 | .ref n,_,h=>by
  unfold Rep at h ⊢;obtain ⟨a,rfl,e⟩:=h;exact ⟨a,rfl,zDD e⟩
theorem za.more (N:List Addr):∀ {ds:List D} {vs:List V},za L H ds vs -> za (L ++ N) H ds vs
 | [],_,h=>by unfold za at h ⊢; exact h
 | d :: ds,_,h=>by
  unfold za at h ⊢;obtain ⟨v,r,rfl,h1,h2⟩:=h;exact ⟨v,r,rfl,Rep.more N h1,za.more N h2⟩
end
theorem zBR.more {κ:Type} {kf:D -> Option κ} {L:List Addr} {H:Hp} (N:List Addr):∀ {ps:List (D × D)} {vs:List (κ × V)},zBR kf L H ps vs -> zBR kf (L ++ N) H ps vs
 | [],_,h=>h
 | p :: r,_,h=>by
  obtain ⟨k,v,r',rfl,e,h1,h2⟩:=h;exact ⟨k,v,r',rfl,e,h1.more N,zBR.more N h2⟩
theorem zHC.more {K:PySem.W.Frag} {L:List Addr} {H:Hp} {a:Addr} {m:MO} (N:List Addr) (h:zHC K L H a m):zHC K (L ++ N) H a m:=by
 cases m with
 | lst xs=>obtain ⟨vs,e,r⟩:=h; exact ⟨vs,e,r.more N⟩
 | fro xs=>obtain ⟨o,vs,e,r⟩:=h; exact ⟨o,vs,e,r.more N⟩
 | dict ps=>obtain ⟨vs,e,r⟩:=h; exact ⟨vs,e,r.more N⟩
 | dicT ps=>obtain ⟨vs,e,r⟩:=h; exact ⟨vs,e,r.more N⟩
 | set _=>exact h
theorem zR6 {K:PySem.W.Frag} {L L':List Addr} {M':List MO} {H H':Hp} {p:Addr} {xs:List D} {vs:List V} (s:Stp L H L' H') (c:Cor K L' M' H') (h0:H p = none) (h1:H' p = some (.lst vs)) (h2:p ∉ L') (r:za L' H' xs vs) :
  Cor K (L' ++ [p]) (M' ++ [.lst xs]) H' /\ Stp L H (L' ++ [p]) H':=by
 refine ⟨⟨by simp [c.len],?_,fun n a m e1 e2=>?_⟩,?_⟩
 ·rw [zWC];exact ⟨c.nd,by simp,fun a ha b hb z=>by
   have:b = p:=by simpa using hb
   subst this; subst z; exact h2 ha⟩
 ·by_cases hn:n < L'.length
  ·rw [zU5 hn] at e1;rw [zU5 (by rw [<- c.len]; exact hn)] at e2;exact (c.obj n a m e1 e2).more [p]
  ·have hn':n = L'.length:=by
    have:=(zU1.mp e1).1;rw [zVE] at this;simp at this; omega
   subst hn';simp at e1;rw [c.len] at e2;simp at e2;subst e1; subst e2;exact ⟨vs,h1,r.more [p]⟩
 ·obtain ⟨N,hN⟩:=s.pre;refine ⟨⟨N ++ [p],by rw [hN]; simp⟩,fun a ha=>?_,s.old,s.tup,s.frz⟩;rcases zVO.mp ha with z | z
  ·exact s.new a z
  ·have:a = p:=by simpa using z
   subst this; exact .inr h0
theorem Rep.last {L:List Addr} {M:List MO} {H:Hp} {K:PySem.W.Frag} {p:Addr} (c:Cor K L M H):Rep (L ++ [p]) H (.ref M.length) (.ref p):=by
 unfold Rep;exact ⟨p,rfl,by rw [<- c.len]; simp⟩
theorem zI {f:FE} (h:QE X e f):QD X e (toD f):=.mk <| PE.imp h.un fun τ H Q zz=>by
 obtain ⟨L,σ,M,d,M',c,rs,hf,q⟩:=zz;unfold toD at hf;split at hf
 ·rename_i d' M1 e1;cases hf;exact ⟨L,σ,M,_,_,c,rs,e1,fun L' H' v s c' r=>q L' H' v s c' r⟩
 ·rename_i xs M1 e1;cases hf;refine ⟨L,σ,M,_,_,c,rs,e1,fun L' H' v s c' r=>?_⟩;obtain ⟨p,vs,rfl,e0,e2,e3,r⟩:=r;obtain ⟨c2,s2⟩:=zR6 s c' e0 e2 e3 r;exact q _ H' _ s2 c2 (Rep.last c')
 ·cases hf
def zD (i:Nat):FE:=fun σ M=>match σ[i]? with
 | some (some d)=>some (.dat d,M)
 | _=>none
theorem zG (h:PE X (.Name x pos) (zSZ i)):QE X (.Name x pos) (zD i):=.mk <| PE.imp h fun τ H Q zz=>by
 obtain ⟨L,σ,M,d,M',c,rs,hf,q⟩:=zz;unfold zD at hf;split at hf
 ·rename_i d' e1;cases hf;obtain ⟨v,e2,r⟩:=rs.2 i d' e1;exact ⟨v,e2,q L H v (.refl L H) c r⟩
 ·cases hf
def fC (d:D):FE:=fun _ M=>some (.dat d,M)
theorem zGt (hd:∀ L H,Rep L H d v) (h:PE X e (tC v)):QE X e (fC d):=.mk <| PE.imp h fun τ H Q zz=>by
 obtain ⟨L,σ,M,d',M',c,rs,hf,q⟩:=zz;unfold fC at hf;cases hf;exact q L H v (.refl L H) c (hd L H)
theorem zU {i j pos}:QE X (.Constant (.int i) j pos) (fC (.int i)):=zGt (fun _ _=>by unfold Rep; rfl) zSt
theorem zED {b j pos}:QE X (.Constant (.bool b) j pos) (fC (.bl b)):=zGt (fun _ _=>by unfold Rep; rfl) zTc
theorem zQE {j pos}:QE X (.Constant .none j pos) (fC .non):=zGt (fun _ _=>by unfold Rep; rfl) zS0
theorem zQF {x j pos}:QE X (.Constant (.str x) j pos) (fC (.str x)):=zGt (fun _ _=>by unfold Rep; rfl) zSN
def zM:FA:=fun _ M=>some ([],M)
def zF (f:FD) (g:FA):FA:=fun σ M=>match f σ M with
 | some (d,M1)=>match g σ M1 with
  | some (ds,M2)=>some (d :: ds,M2)
  | none=>none
 | none=>none
theorem PA.imp (h:PA X es t) (hi:∀ τ H Q,t' τ H Q -> t τ H Q):PA X es t':=fun pos zB s σ H Q I q=>h pos zB s σ H Q I (hi _ _ _ q)
theorem zJ:QA X [] zM:=.mk <| PA.imp zFF fun τ H Q zz=>by
 obtain ⟨L,σ,M,d,M',c,rs,hf,q⟩:=zz;unfold zM at hf;cases hf;exact q L H [] (.refl L H) c .nil
theorem zE (h1:QD X e f) (h2:QA X es g) (hs:starEach (e :: es) X.env = (false,eval e X.env) :: starEach es X.env:=by rfl):QA X (e :: es) (zF f g) :=
 .mk <| PA.imp (zDP h1.un h2.un hs) fun τ H Q zz=>by
  obtain ⟨L,σ,M,d,M',c,rs,hf,q⟩:=zz;unfold zF at hf;split at hf
  ·rename_i d1 M1 e1;split at hf
   ·rename_i ds M2 e2;cases hf;refine ⟨L,σ,M,_,_,c,rs,e1,fun L1 H1 v s1 c1 r1=>⟨L1,σ,M1,_,_,c1,rs.stp s1,e2,fun L2 H2 vs s2 c2 r2=>?_⟩⟩;exact q L2 H2 _ (s1.trans s2) c2 (.cons (r1.stp s2) r2)
   ·cases hf
  ·cases hf
def zAm (g:FA):FE:=fun σ M=>match g σ M with
 | some (ds,M1)=>if ds.length <= sizeLine then some (.dat (.tup ds),M1) else none
 | none=>none
def zAj (g:FA):FE:=fun σ M=>match g σ M with
 | some (ds,M1)=>if ds.length <= sizeLine then some (.fl ds,M1) else none
 | none=>none
theorem Rep.newTup (h:H p = none) (r:za L H ds vs):Rep L (upd H p (.tup vs)) (.tup ds) (.ref p):=by
 unfold Rep;exact ⟨p,vs,rfl,zAh,r.stp (.upd h)⟩
theorem zBD {x1 pos} (h:QA X es g):QE X (.Tuple es x1 pos) (zAm g):=.mk <| PE.imp (zSV h.un) fun τ H Q zz=>by
 obtain ⟨L,σ,M,d,M',c,rs,hf,q⟩:=zz;unfold zAm at hf;split at hf
 ·rename_i ds M1 e1;split at hf
  ·rename_i hz;cases hf;refine ⟨L,σ,M,_,_,c,rs,e1,fun L1 H1 vs s1 c1 r1=>⟨by rw [r1.length]; exact hz,fun p hp=>?_⟩⟩;exact q L1 _ _ (s1.trans (.upd hp)) (c1.upd hp) (Rep.newTup hp r1)
  ·cases hf
 ·cases hf
theorem zNb {L L1:List Addr} {H H1:Hp} {K:PySem.W.Frag} {M M1:List MO} (s:Stp L H L1 H1) (c:Cor K L M H) (c1:Cor K L1 M1 H1) {p:Addr} (hp:H1 p = none):H p = none /\ p ∉ L1:=by
 have hp1:p ∉ L1:=fun z=>by obtain ⟨o,e⟩:=c1.tracked z; rw [hp] at e; cases e
 refine ⟨?_,hp1⟩;cases q:H p with
 | none=>rfl
 | some o=>
  have:p ∉ L:=fun z=>hp1 (by obtain ⟨N,hN⟩:=s.pre; rw [hN]; exact zWD _ z);rw [s.old p o q this] at hp; cases hp
theorem zo.newLst {L L1:List Addr} {H H1:Hp} {K:PySem.W.Frag} {M M1:List MO} {p:Addr} {ds:List D} {vs:List V} (s:Stp L H L1 H1) (c:Cor K L M H) (c1:Cor K L1 M1 H1) (hp:H1 p = none) (r:za L1 H1 ds vs) :
  zo H L1 (upd H1 p (.lst vs)) (.fl ds) (.ref p):=by
 obtain ⟨a,b⟩:=zNb s c c1 hp;exact ⟨p,vs,rfl,a,zAh,b,r.stp (.upd hp)⟩
theorem zBr {pos} (h:QA X es g):QE X (.List es pos) (zAj g):=.mk <| PE.imp (zSl h.un) fun τ H Q zz=>by
 obtain ⟨L,σ,M,d,M',c,rs,hf,q⟩:=zz;unfold zAj at hf;split at hf
 ·rename_i ds M1 e1;split at hf
  ·rename_i hz;cases hf;refine ⟨L,σ,M,_,_,c,rs,e1,fun L1 H1 vs s1 c1 r1=>⟨by rw [r1.length]; exact hz,fun p hp=>?_⟩⟩;exact q L1 _ _ (s1.trans (.upd hp)) (c1.upd hp) (zo.newLst s1 c c1 hp r1)
  ·cases hf
 ·cases hf
end
abbrev FAE:=Sd -> Mem -> Option (List EV × Mem)
def zDB (H0:Hp) (L:List Addr) (H:Hp):List EV -> List V -> Prop
 | [],vs=>vs = []
 | e :: es,vs=>∃ v r,vs = v :: r /\ zo H0 L H e v /\ zDB H0 L H es r
theorem Stp.sub (s:Stp L H L' H'):∀ a ∈ L,a ∈ L':=fun a h=>by
 obtain ⟨N,hN⟩:=s.pre;rw [hN]; exact zWD _ h
theorem zDB.back {H0 H1:Hp} {L0 L1 L:List Addr} {H:Hp} (s:Stp L0 H0 L1 H1) {M:List MO} {K:PySem.W.Frag} (c:Cor K L0 M H0) (hL:∀ a ∈ L1,a ∈ L):∀ {es:List EV} {vs:List V},zDB H1 L H es vs -> zDB H0 L H es vs
 | [],_,h=>h
 | e :: es,_,h=>by
  obtain ⟨v,r,rfl,h1,h2⟩:=h;exact ⟨v,r,rfl,h1.back s c hL,zDB.back s c hL h2⟩
def zTz (K:PySem.W.Frag) (f:FAE):TA:=fun τ H Q=>∃ L σ M ds M',Cor K L M H /\ zBt L H σ τ /\ f σ M = some (ds,M') /\ ∀ L' H' vs,Stp L H L' H' -> Cor K L' M' H' -> zDB H L' H' ds vs -> Q vs H'
structure QAE (X:Cx) (es:List Expr) (f:FAE):Prop where
 un:PA X es (zTz X.K f)
section
variable {X:Cx} {a b e:Expr} {es:List Expr} {pos:Pos}
def zt:FAE:=fun _ M=>some ([],M)
def zY (f:FE) (g:FAE):FAE:=fun σ M=>match f σ M with
 | some (d,M1)=>match g σ M1 with
  | some (ds,M2)=>some (d :: ds,M2)
  | none=>none
 | none=>none
theorem zi:QAE X [] zt:=.mk <| PA.imp zFF fun τ H Q zz=>by
 obtain ⟨L,σ,M,d,M',c,rs,hf,q⟩:=zz;unfold zt at hf;cases hf;exact q L H [] (.refl L H) c rfl
theorem zc (h1:QE X e f) (h2:QAE X es g) (hs:starEach (e :: es) X.env = (false,eval e X.env) :: starEach es X.env:=by rfl):QAE X (e :: es) (zY f g) :=
 .mk <| PA.imp (zDP h1.un h2.un hs) fun τ H Q zz=>by
  obtain ⟨L,σ,M,d,M',c,rs,hf,q⟩:=zz;unfold zY at hf;split at hf
  ·rename_i d1 M1 e1;split at hf
   ·rename_i ds M2 e2;cases hf;refine ⟨L,σ,M,_,_,c,rs,e1,fun L1 H1 v s1 c1 r1=>⟨L1,σ,M1,_,_,c1,rs.stp s1,e2,fun L2 H2 vs s2 c2 r2=>?_⟩⟩;exact q L2 H2 _ (s1.trans s2) c2 ⟨v,vs,rfl,r1.stp s2,r2.back s1 c s2.sub⟩
   ·cases hf
  ·cases hf
abbrev K2:=EV -> EV -> Mem -> Option (EV × Mem)
def zB2 (K:PySem.W.Frag) (r:R2) (k:K2):Prop:=∀ {L:List Addr} {M M':Mem} {H H0:Hp} {x y d:EV} {v w:V} {Q:VK},Cor K L M H -> zo H0 L H x v -> zo H0 L H y w -> k x y M = some (d,M') ->
 (∀ L' H' u,Stp L H L' H' -> Cor K L' M' H' -> zo H L' H' d u -> Q u H') -> r v w H Q
def fOp (k:K2) (f g:FE):FE:=fun σ M=>match f σ M with
 | some (x,M1)=>match g σ M1 with
  | some (y,M2)=>k x y M2
  | none=>none
 | none=>none
theorem zDK {K:PySem.W.Frag} {r:R2} {k:K2} {f g:FE} (hk:zB2 K r k) {τ:Sv} {H:Hp} {Q:VK} (h:trE K (fOp k f g) τ H Q):tOp r (trE K f) (trE K g) τ H Q:=by
 obtain ⟨L,σ,M,d,M',c,rs,hf,q⟩:=h;unfold fOp at hf;split at hf
 ·rename_i x M1 e1;split at hf
  ·rename_i y M2 e2;refine ⟨L,σ,M,_,_,c,rs,e1,fun L1 H1 v s1 c1 r1=>⟨L1,σ,M1,_,_,c1,rs.stp s1,e2,fun L2 H2 w s2 c2 r2=>?_⟩⟩;refine hk (H0:=H) c2 (r1.stp s2) (r2.back s1 c s2.sub) hf fun L3 H3 u s3 c3 r3=>?_;exact q L3 H3 u ((s1.trans s2).trans s3) c3 (r3.back (s1.trans s2) c s3.sub)
  ·cases hf
 ·cases hf
theorem zMO (hk:zB2 X.K r k) (ho:OpR X (binaryOp op) r) (h1:QE X a f) (h2:QE X b g):QE X (.BinOp a op b pos) (fOp k f g):=.mk <| PE.imp (zUE ho h1.un h2.un) fun _ _ _ h=>zDK hk h
theorem zPv (hk:zB2 X.K r k) (ho:OpR X (compareOp op) r) (h1:QE X a f) (h2:QE X b g) (hm:behindInMarks op b = false):QE X (.Compare a [op] [b] pos) (fOp k f g) :=
 .mk <| PE.imp (zRi ho h1.un h2.un hm) fun _ _ _ h=>zDK hk h
def tst (f:FE):FT:=fun σ M=>match f σ M with
 | some (.dat (.bl c),M')=>some (c,M')
 | _=>none
theorem zEq {K:PySem.W.Frag} {f:FE} {τ:Sv} {H:Hp} {Q:Bool -> Hp -> Prop} (h:trT K (tst f) τ H Q):zMZ (trE K f) τ H Q:=by
 obtain ⟨L,σ,M,d,M',c,rs,hf,q⟩:=h;unfold tst at hf;split at hf
 ·rename_i k M1 e1;cases hf;refine ⟨L,σ,M,_,_,c,rs,e1,fun L1 H1 v s1 c1 r1=>?_⟩;have:v = .bl d:=by unfold zo Rep at r1; exact r1
  exact ⟨d,this,q L1 H1 s1 c1⟩
 ·cases hf
theorem zE7 (h:∀ τ H Q,t τ H Q -> t' τ H Q) (q:zMZ t τ H Q):zMZ t' τ H Q:=h _ _ _ q
theorem zG3 {op:CmpOp} {r:R2} {k:K2} {f g:FE} (hk:zB2 X.K r k) (ho:OpR X (compareOp op) r) (h1:QE X a f) (h2:QE X b g) (hm:behindInMarks op b = false):QT X (.Compare a [op] [b] pos) (tst (fOp k f g)) :=
 .mk <| PT.imp (zRa ho h1.un h2.un hm) fun _ _ _ h=>zE7 (fun _ _ _ z=>zDK hk z) (zEq h)
theorem zDp (h:QE X e f) (he:∀ whole,isTrue e X.env whole = (do let v <- whole; standAt e.pos; holding [v] (truthy v)):=by intro _; rfl):QT X e (tst f) :=
 .mk <| PT.imp (zS3 h.un he) fun _ _ _ h=>zEq h
def kI (C:Int -> Int -> Bool) (g:Int -> Int -> D):K2:=fun x y M=>match x,y with
 | .dat (.int i),.dat (.int j)=>if C i j then some (.dat (g i j),M) else none
 | _,_=>none
def kI0 (g:Int -> Int -> D):K2:=kI (fun _ _=>true) g
theorem zK9 {K:PySem.W.Frag} {C:Int -> Int -> Bool} {C':Int -> Int -> Prop} {g:Int -> Int -> D} {g':Int -> Int -> V} (hC:∀ i j,C i j = true -> C' i j) (hg:∀ L H i j,Rep L H (g i j) (g' i j)):zB2 K (rI C' g') (kI C g):=by
 intro L M M' H H0 x y d v w Q c rx ry hk q;unfold kI at hk;split at hk
 ·rename_i i j;split at hk
  ·rename_i hc;cases hk;refine ⟨i,j,by unfold zo Rep at rx; exact rx,by unfold zo Rep at ry; exact ry,hC i j hc,q L H _ (.refl L H) c (hg L H i j)⟩
  ·cases hk
 ·cases hk
theorem zC8 {K:PySem.W.Frag} {g:Int -> Int -> D} {g':Int -> Int -> V} (hg:∀ L H i j,Rep L H (g i j) (g' i j)):zB2 K (rI0 g') (kI0 g):=by
 intro L M M' H H0 x y d v w Q c rx ry hk q;obtain ⟨i,j,h1,h2,_,h4⟩:=zK9 (C:=fun _ _=>true) (C':=fun _ _=>True) (fun _ _ _=>trivial) hg c rx ry hk q;exact ⟨i,j,h1,h2,h4⟩
theorem zAo:Rep L H (.int i) (.int i):=by unfold Rep; rfl
theorem zBS:Rep L H (.bl i) (.bl i):=by unfold Rep; rfl
def zNX (i j:Int):Bool:=(decide (-(2 ^ 64) < i) && decide (i < 2 ^ 64)) || (decide (-(2 ^ 64) < j) && decide (j < 2 ^ 64))
abbrev zUc:K2:=kI0 fun i j=> .int (i + j)
abbrev zRB:K2:=kI0 fun i j=> .int (i - j)
abbrev zOF:K2:=kI zNX fun i j=> .int (i * j)
abbrev zGN:K2:=kI (fun _ j=>decide (0 < j)) fun i j=> .int (i % j)
abbrev zN6:K2:=kI (fun _ j=>decide (0 < j) && decide (j < 1073741824)) fun i j=> .int (i / j)
abbrev zKE:K2:=kI (fun i j=>decide (0 <= j) && decide (j <= 1000000) && decide (i.natAbs < 2 ^ 64)) fun i j=> .int (i ^ j.toNat)
abbrev kLt:K2:=kI0 fun i j=> .bl (decide (i < j))
abbrev kLe:K2:=kI0 fun i j=> .bl (decide (i <= j))
abbrev kGt:K2:=kI0 fun i j=> .bl (decide (j < i))
abbrev kGe:K2:=kI0 fun i j=> .bl (decide (j <= i))
section
variable {f g:FE}
theorem zPV (h1:QE X a f) (h2:QE X b g):QE X (.BinOp a .Sub b pos) (fOp zRB f g):=zMO (zC8 fun _ _ _ _=>zAo) zST h1 h2
theorem zP1 (h1:QE X a f) (h2:QE X b g):QE X (.BinOp a .Mult b pos) (fOp zOF f g):=zMO (zK9 (fun i j h=>by
 unfold zNX at h;simp only [Bool.or_eq_true,zVY,zWB] at h;exact h) fun _ _ _ _=>zAo) zSe h1 h2
theorem zFi (h1:QE X a f) (h2:QE X b g):QE X (.BinOp a .Mod b pos) (fOp zGN f g):=zMO (zK9 (fun i j h=>of_decide_eq_true h) fun _ _ _ _=>zAo) zSa h1 h2
theorem zPD (h1:QE X a f) (h2:QE X b g):QE X (.BinOp a .FloorDiv b pos) (fOp zN6 f g):=zMO (zK9 (fun i j h=>by
 simp only [zVY,zWB] at h;exact h) fun _ _ _ _=>zAo) zQy h1 h2
theorem zPu (h1:QE X a f) (h2:QE X b g):QE X (.BinOp a .Pow b pos) (fOp zKE f g):=zMO (zK9 (fun i j h=>by
 simp only [zVY,zWB] at h;exact ⟨h.1.1,h.1.2,h.2⟩) fun _ _ _ _=>zAo) zTE h1 h2
theorem zUo (h1:QE X a f) (h2:QE X b g):QE X (.Compare a [.Lt] [b] pos) (fOp kLt f g):=zPv (zC8 fun _ _ _ _=>zBS) zLI h1 h2 (zEc _)
theorem zMi (h1:QE X a f) (h2:QE X b g):QT X (.Compare a [.Lt] [b] pos) (tst (fOp kLt f g)):=zG3 (zC8 fun _ _ _ _=>zBS) zLI h1 h2 (zEc _)
theorem zTi (h1:QE X a f) (h2:QE X b g):QT X (.Compare a [.Gt] [b] pos) (tst (fOp kGt f g)):=zG3 (zC8 fun _ _ _ _=>zBS) zUM h1 h2 (zEc _)
theorem zTd (h1:QE X a f) (h2:QE X b g):QT X (.Compare a [.GtE] [b] pos) (tst (fOp kGe f g)):=zG3 (zC8 fun _ _ _ _=>zBS) zTs h1 h2 (zEc _)
end
end
def zCE (M:Mem):EV -> Option (List D)
 | .fl xs=>some xs
 | .dat (.ref n)=>match M[n]? with
  | some (.lst xs)=>some xs
  | some (.fro xs)=>some xs
  | _=>none
 | _=>none
def zD7:EV -> Option (List D)
 | .dat (.tup xs)=>some xs
 | _=>none
def zBX (M:Mem) (x:EV):Option (List D):=match zD7 x with
 | some xs=>some xs
 | none=>zCE M x
theorem zCi {K:PySem.W.Frag} {L:List Addr} {M:Mem} {H H0:Hp} {x:EV} {v:V} {xs:List D} (c:Cor K L M H) (r:zo H0 L H x v) (h:zCE M x = some xs):∃ a vs,v = .ref a /\ Rd H a (.lst vs) /\ za L H xs vs:=by
 cases x with
 | fl ys=>
  cases h;obtain ⟨p,vs,rfl,_,e,_,r⟩:=r;exact ⟨p,vs,rfl,.inl e,r⟩
 | dat d=>
  cases d with
  | ref n=>
   unfold zo Rep at r;obtain ⟨a,rfl,e⟩:=r;unfold zCE at h;dsimp only at h;cases q:M[n]? with
   | none=>rw [q] at h; cases h
   | some m=>
    rw [q] at h;have z:=c.obj n a m e q;cases m with
    | lst ys=>cases h; obtain ⟨vs,e1,r1⟩:=z; exact ⟨a,vs,rfl,.inl e1,r1⟩
    | fro ys=>cases h; obtain ⟨o,vs,e1,r1⟩:=z; exact ⟨a,vs,rfl,.inr ⟨o,e1⟩,r1⟩
    | dict _=>cases h
    | dicT _=>cases h
    | set _=>cases h
  | _=>cases h
theorem zD4 {L:List Addr} {H H0:Hp} {x:EV} {v:V} {xs:List D} (r:zo H0 L H x v) (h:zD7 x = some xs):∃ a vs,v = .ref a /\ H a = some (.tup vs) /\ za L H xs vs:=by
 cases x with
 | fl ys=>cases h
 | dat d=>
  cases d with
  | tup ys=>cases h; unfold zo Rep at r; exact r
  | _=>cases h
theorem zJf {K:PySem.W.Frag} {L:List Addr} {M:Mem} {H H0:Hp} {x:EV} {v:V} {xs:List D} (c:Cor K L M H) (r:zo H0 L H x v) (h:zBX M x = some xs):∃ a vs,v = .ref a /\ (SqL K H a vs \/ SqT K H a vs) /\ za L H xs vs:=by
 unfold zBX at h;cases q:zD7 x with
 | some ys=>
  rw [q] at h; cases h;obtain ⟨a,vs,e,h1,h2⟩:=zD4 r q;exact ⟨a,vs,e,.inr (.of h1),h2⟩
 | none=>
  rw [q] at h;obtain ⟨a,vs,e,h1,h2⟩:=zCi c r h;exact ⟨a,vs,e,.inl (.inl h1),h2⟩
theorem zTF {L:List Addr} {H:Hp} {xs:List D} {vs:List V} {i:Int} {d:D} (r:za L H xs vs) (h:atI xs i = some d):∃ v,atI vs i = some v /\ Rep L H d v:=by
 unfold atI at h ⊢;rw [r.length];cases q:ixN xs.length i with
 | none=>rw [q] at h; cases h
 | some j=>rw [q] at h; exact r.get h
theorem zQ5 {L:List Addr} {H:Hp} {i:Str}:Rep L H (.str i) (.str i):=by unfold Rep; rfl
def kIx:K2:=fun x y M=>match y with
 | .dat (.int i)=>match zBX M x with
  | some xs=>match atI xs i with
   | some d=>some (.dat d,M)
   | none=>none
  | none=>match x with
   | .dat (.str z)=>if z.length <= sizeLine then match atI z.cps.toList i with
     | some c=>some (.dat (.str ⟨#[c]⟩),M)
     | none=>none
    else none
   | _=>none
 | _=>none
theorem zSC {K:PySem.W.Frag}:zB2 K (rIx K) kIx:=by
 intro L M M' H H0 x y d v w Q c rx ry hk q;unfold kIx at hk;split at hk
 ·rename_i i;have ew:w = .int i:=by unfold zo Rep at ry; exact ry
  split at hk
  ·rename_i xs e1;split at hk
   ·rename_i d' e2;cases hk;obtain ⟨a,vs,rfl,hs,r⟩:=zJf c rx e1;obtain ⟨u,e3,r3⟩:=zTF r e2;rcases hs with hs | hs
    ·exact .inl ⟨a,vs,i,u,rfl,ew,hs,e3,q L H u (.refl L H) c r3⟩
    ·exact .inr (.inl ⟨a,vs,i,u,rfl,ew,hs,e3,q L H u (.refl L H) c r3⟩)
   ·cases hk
  ·split at hk
   ·rename_i z _;split at hk
    ·rename_i hz;split at hk
     ·rename_i ch e2;cases hk;have ev:v = .str z:=by unfold zo Rep at rx; exact rx
      exact .inr (.inr ⟨z,i,ch,ev,ew,hz,e2,q L H _ (.refl L H) c (zQ5 (L:=L) (H:=H))⟩)
     ·cases hk
    ·cases hk
   ·cases hk
 ·cases hk
section
variable {prog:Program} {w:World} {A:Around} {E:Value -> Shared -> Prop} {s:Shared}
theorem zLc {t sl:Addr} {items:Array Value} {vl vu:Value} {lo hi:Option Int} {Q:Value -> Shared -> Prop} (T:IsTup s.heap t items) (S:s.heap.IsSliceOf sl vl vu .none) (pl:IsPart vl lo) (pu:IsPart vu hi)
  (h1:HT.sIx items.size 0 lo = 0) (h2:HT.sIx items.size items.size hi = items.size) (h:Q (.ref t) s):wpAny (model prog w) A (getItem (.ref t) (.ref sl)) Q E s:=by
 obtain ⟨o,O,C,G⟩:=id S;have TS:s.TypeIs (.ref sl) "slice" := ⟨o,O,C⟩;unfold getItem;try with_reducible refine zVr ?_
 first | refine zUy (zU0 ?_) | skip
 refine zUy (wpAny_sequenceKey T.typeIs (by decide) ?_);refine zUy (zVa (name:=Str.ofString "__getitem__") T.typeIs zWW (zVb zWW T.typeIs entry_tuple_getitem ?_ (args_tuple_getitem _ _)));refine zUy (m:=Builtin.Tuple.tupleItemsOf (.ref t)) (tupleItemsOf_ T (zUy (wpAny_typeOf TS ?_)));rw [zVD (by decide)];refine zUy (HT.zDk S pl pu ?_);rw [h1,h2];show wpAny _ _ (if ((((0:Nat):Int) == 0 && (1:Int) == 1 && (items.size - 0) == items.size)) = true then _ else _) _ _ s;rw [zVD (by simp)];unfold Builtin.Tuple.tupleIsExact;refine zUy (zUy (wpAny_typeOf T.typeIs (zU0 ?_)));rw [zVD (by decide)];exact zUy (zWL (zU0 ⟨_,rfl,zU0 h⟩))
end
def zUg (K:PySem.W.Frag):V -> Option Int -> Option Int -> Hp -> VK -> Prop:=fun x lo hi H Q=>∃ a xs,x = .ref a /\ SqT K H a xs /\ (HT.sIx xs.length 0 lo = 0 /\ HT.sIx xs.length xs.length hi = xs.length) /\ Q (.ref a) H
theorem zQs {X:Cx}:SlR X (zUg X.K):=by
 intro zB s σ H x v vl vu lo hi sl Q I rx hs pl pu h;obtain ⟨a,xs,rfl,hx,hw,q⟩:=h;cases rx;obtain ⟨its,r,ht,hz⟩:=I.tuple hx;have hlen:its.toArray.size = xs.length:=by rw [zU6]; exact r.length.symm
 exact ⟨"tuple", _,zWW.lookup,ht.typeIs,zLc ht hs pl pu (by rw [hlen]; exact hw.1) (by rw [hlen]; exact hw.2) ⟨.ref a,H,I,rfl,q⟩⟩
section
variable {X:Cx} {a b e:Expr} {es:List Expr} {pos:Pos} {f g:FE}
theorem zA2 (h1:QE X a f) (h2:QE X b g) (hs:zMo b:=by intro _ _; rfl):QE X (.Subscript a b pos) (fOp kIx f g):=.mk <| PE.imp (zT6 zS1 h1.un h2.un hs) fun _ _ _ h=>zDK zSC h
abbrev FO:=Sd -> Mem -> Option (Option Int × Mem)
def trO (K:PySem.W.Frag) (f:FO):TO:=fun τ H Q=>∃ L σ M d M',Cor K L M H /\ zBt L H σ τ /\ f σ M = some (d,M') /\ ∀ L' H',Stp L H L' H' -> Cor K L' M' H' -> Q d H'
structure QO (X:Cx) (e:Option Expr) (f:FO):Prop where
 un:PO X e (trO X.K f)
def zBc:FO:=fun _ M=>some (none,M)
def zBN (f:FE):FO:=fun σ M=>match f σ M with
 | some (.dat (.int i),M')=>some (some i,M')
 | _=>none
theorem PO.imp {e:Option Expr} {t t':TO} (h:PO X e t) (hi:∀ τ H Q,t' τ H Q -> t τ H Q):PO X e t':=fun zB s σ H Q I q=>h zB s σ H Q I (hi _ _ _ q)
theorem zB1:QO X none zBc:=.mk <| PO.imp zQ3 fun τ H Q zz=>by
 obtain ⟨L,σ,M,d,M',c,rs,hf,q⟩:=zz;unfold zBc at hf;cases hf;exact q L H (.refl L H) c
theorem zB6 (h:QE X e f):QO X (some e) (zBN f):=.mk <| PO.imp (zQ7 h.un) fun τ H Q zz=>by
 obtain ⟨L,σ,M,d,M',c,rs,hf,q⟩:=zz;unfold zBN at hf;split at hf
 ·rename_i i M1 e1;cases hf;refine ⟨L,σ,M,_,_,c,rs,e1,fun L1 H1 v s1 c1 r1=>?_⟩;exact ⟨i,by unfold zo Rep at r1; exact r1,q L1 H1 s1 c1⟩
 ·cases hf
def zCW (xs:List D) (lo hi:Option Int):List D:=(xs.drop (HT.sIx xs.length 0 lo)).take (HT.sIx xs.length xs.length hi - HT.sIx xs.length 0 lo)
theorem zM4 {L:List Addr} {H:Hp} {xs:List D} {vs:List V} {lo hi:Option Int} (r:za L H xs vs):za L H (zCW xs lo hi) (zKG vs lo hi):=by
 unfold zCW zKG;rw [r.length];exact (r.drop _).take _
def kSl (x:EV) (lo hi:Option Int) (M:Mem):Option (EV × Mem):=match zD7 x with
 | some xs=>some (.dat (.tup (zCW xs lo hi)),M)
 | none=>match zCE M x with
  | some xs=>some (.fl (zCW xs lo hi),M)
  | none=>none
def fSl (f:FE) (fl fh:FO):FE:=fun σ M=>match f σ M with
 | some (x,M1)=>match fl σ M1 with
  | some (lo,M2)=>match fh σ M2 with
   | some (hi,M3)=>kSl x lo hi M3
   | none=>none
  | none=>none
 | none=>none
theorem zBw {lo hi:Option Expr} {p2:Pos} {fl fh:FO} (h:QE X e f) (hl:QO X lo fl) (hh:QO X hi fh):QE X (.Subscript e (.Slice lo hi none p2) pos) (fSl f fl fh) :=
 .mk <| PE.imp (zP3 (SlR.or zRP (SlR.or zTK zQs)) h.un hl.un hh.un) fun τ H Q zz=>by
  obtain ⟨L,σ,M,d,M',c,rs,hf,q⟩:=zz;unfold fSl at hf;split at hf
  ·rename_i x M1 e1;split at hf
   ·rename_i l M2 e2;split at hf
    ·rename_i u M3 e3;refine ⟨L,σ,M,_,_,c,rs,e1,fun L1 H1 v s1 c1 r1=>⟨L1,σ,M1,_,_,c1,rs.stp s1,e2,fun L2 H2 s2 c2=>⟨L2,σ,M2,_,_,c2,rs.stp (s1.trans s2),e3,fun L3 H3 s3 c3=>?_⟩⟩⟩;have s:=(s1.trans s2).trans s3;have r3:zo H L3 H3 x v:=(r1.stp s2).stp s3;unfold kSl at hf;cases t:zD7 x with
     | some xs=>
      rw [t] at hf;dsimp only at hf;cases hf;obtain ⟨a,vs,rfl,e4,r4⟩:=zD4 r3 t;by_cases hw:HT.sIx vs.length 0 l = 0 /\ HT.sIx vs.length vs.length u = vs.length
      ·refine .inr (.inr ⟨a,vs,rfl,.of e4,hw,?_⟩);have ec:zCW xs l u = xs:=by
        unfold zCW;rw [<- r4.length,hw.1,hw.2,r4.length];simp
       rw [ec] at q;refine q L3 H3 _ s c3 ?_;unfold zo Rep;exact ⟨a,vs,rfl,e4,r4⟩
      ·refine .inr (.inl ⟨a,vs,rfl,.of e4,hw,fun p hp=>?_⟩);exact q L3 _ _ (s.trans (.upd hp)) (c3.upd hp) (Rep.newTup hp (zM4 r4))
     | none=>
      rw [t] at hf;dsimp only at hf;split at hf
      ·rename_i xs e4;cases hf;obtain ⟨a,vs,rfl,e5,r5⟩:=zCi c3 r3 e4;refine .inl ⟨a,vs,rfl,.inl e5,fun p hp=>?_⟩;exact q L3 _ _ (s.trans (.upd hp)) (c3.upd hp) (zo.newLst s c c3 hp (zM4 r5))
      ·cases hf
    ·cases hf
   ·cases hf
  ·cases hf
abbrev KB:=List EV -> Mem -> Option (EV × Mem)
def zFt (K:PySem.W.Frag) (r:List V -> Hp -> VK -> Prop) (k:KB):Prop:=∀ {L:List Addr} {M M':Mem} {H H0:Hp} {xs:List EV} {d:EV} {vs:List V} {Q:VK},Cor K L M H -> zDB H0 L H xs vs -> k xs M = some (d,M') ->
 (∀ L' H' u,Stp L H L' H' -> Cor K L' M' H' -> zo H L' H' d u -> Q u H') -> r vs H Q
def fB (k:KB) (f:FAE):FE:=fun σ M=>match f σ M with
 | some (xs,M1)=>k xs M1
 | none=>none
theorem zQS {K:PySem.W.Frag} {r:List V -> Hp -> VK -> Prop} {k:KB} {f:FAE} (hk:zFt K r k) {τ:Sv} {H:Hp} {Q:VK} (h:trE K (fB k f) τ H Q):tCB r (zTz K f) τ H Q:=by
 obtain ⟨L,σ,M,d,M',c,rs,hf,q⟩:=h;unfold fB at hf;split at hf
 ·rename_i xs M1 e1;refine ⟨L,σ,M,_,_,c,rs,e1,fun L1 H1 vs s1 c1 r1=>?_⟩;refine hk c1 r1 hf fun L2 H2 u s2 c2 r2=>?_;exact q L2 H2 u (s1.trans s2) c2 (r2.back s1 c s2.sub)
 ·cases hf
theorem zDB.one {H0:Hp} {L:List Addr} {H:Hp} {x:EV} {vs:List V} (h:zDB H0 L H [x] vs):∃ v,vs = [v] /\ zo H0 L H x v:=by
 obtain ⟨v,r,rfl,h1,h2⟩:=h;unfold zDB at h2;subst h2;exact ⟨v,rfl,h1⟩
def zA3:KB:=fun xs M=>match xs with
 | [x]=>match zBX M x with
  | some ys=>some (.dat (.int ys.length),M)
  | none=>none
 | _=>none
theorem zRX:zFt X.K (fun xs H Q=>∃ p ys,xs = [.ref p] /\ (SqL X.K H p ys \/ SqT X.K H p ys) /\ Q (.int ys.length) H) zA3:=by
 intro L M M' H H0 xs d vs Q c r hk q;unfold zA3 at hk;split at hk
 ·rename_i x;split at hk
  ·rename_i ys e1;cases hk;obtain ⟨v,rfl,r1⟩:=r.one;obtain ⟨a,ws,rfl,hs,r2⟩:=zJf c r1 e1;refine ⟨a,ws,rfl,hs,q L H _ (.refl L H) c ?_⟩;rw [r2.length]; exact (zAo (L:=L) (H:=H))
  ·cases hk
 ·cases hk
theorem zEt {x:Str} {p:Pos} {id:String} {r:List V -> Hp -> VK -> Prop} {k:KB} {f:FAE} (hk:zFt X.K r k) (hc:zBz X (.builtin id) r) (hv:bootBuiltins x = some (.builtin id)) (hg:Gl X x) (hm:X.mg x = none) (ha:QAE X (e :: es) f) (hn:x ≠ "__name__" := by decide) (hdb:(x == ("__debug__" : Str)) = false:=by decide)
  (he:starEach (e :: es) X.env = (false,eval e X.env) :: starEach es X.env:=by rfl) (hpl:(backTo pos (starEach es X.env)).any (·.1) = false:=by rfl):QE X (.Call (.Name x p) (e :: es) [] pos) (fB k f) :=
 .mk <| PE.imp (zK4 hc hg hm hv ha.un hn hdb he hpl) fun _ _ _ h=>zQS hk h
theorem zEJ {x:Str} {p:Pos} {T:String} {r:List V -> Hp -> VK -> Prop} {k:KB} {f:FAE} (hk:zFt X.K r k) (hc:zBz X (.type T) r) (hv:bootBuiltins x = some (.type T)) (hg:Gl X x) (hm:X.mg x = none) (ha:QAE X (e :: es) f) (hn:x ≠ "__name__" := by decide) (hdb:(x == ("__debug__" : Str)) = false:=by decide)
  (he:starEach (e :: es) X.env = (false,eval e X.env) :: starEach es X.env:=by rfl) (hpl:(backTo pos (starEach es X.env)).any (·.1) = false:=by rfl):QE X (.Call (.Name x p) (e :: es) [] pos) (fB k f) :=
 .mk <| PE.imp (zDd hc hg hm hv ha.un hn hdb he hpl) fun _ _ _ h=>zQS hk h
def zBQ:KB:=fun xs M=>match xs with
 | [x]=>match zBX M x with
  | some ys=>some (.dat (.tup ys),M)
  | none=>none
 | _=>none
theorem zN8:zFt X.K (fun xs H Q=>∃ p ys,xs = [.ref p] /\ ((SqL X.K H p ys /\ ∀ l,H l = none -> Q (.ref l) (upd H l (.tup ys))) \/ (SqT X.K H p ys /\ Q (.ref p) H))) zBQ:=by
 intro L M M' H H0 xs d vs Q c r hk q;unfold zBQ at hk;split at hk
 ·rename_i x;split at hk
  ·rename_i ys e1;cases hk;obtain ⟨v,rfl,r1⟩:=r.one;unfold zBX at e1;cases t:zD7 x with
   | some zs=>
    rw [t] at e1; cases e1;obtain ⟨a,ws,rfl,e2,r2⟩:=zD4 r1 t;refine ⟨a,ws,rfl,.inr ⟨.of e2,q L H _ (.refl L H) c ?_⟩⟩;unfold zo Rep;exact ⟨a,ws,rfl,e2,r2⟩
   | none=>
    rw [t] at e1;obtain ⟨a,ws,rfl,e2,r2⟩:=zCi c r1 e1;refine ⟨a,ws,rfl,.inl ⟨.inl e2,fun p hp=>?_⟩⟩;exact q L _ _ (.upd hp) (c.upd hp) (Rep.newTup hp r2)
  ·cases hk
 ·cases hk
end
set_option genInjectivity true in
inductive Out where
 | nx | ret (d:D) | brk | cnt
abbrev FS:=Sd -> Mem -> Option (Out × Sd × Mem)
def zT8 (E:Ends) (L:List Addr) (H:Hp) (σ:Sd):Out -> Prop
 | .nx=>∀ τ,zBt L H σ τ -> E.nx τ H
 | .ret d=>∀ v,Rep L H d v -> E.rt v H
 | .brk=>∀ τ,zBt L H σ τ -> E.bk τ H
 | .cnt=>∀ τ,zBt L H σ τ -> E.ct τ H
def trS (K:PySem.W.Frag) (f:FS):TS:=fun E τ H=>∃ L σ M o σ' M',Cor K L M H /\ zBt L H σ τ /\ f σ M = some (o,σ',M') /\ ∀ L' H',Stp L H L' H' -> Cor K L' M' H' -> zT8 E L' H' σ' o
structure QS (X:Cx) (st:Stmt) (f:FS):Prop where
 un:PS X st (trS X.K f)
structure QSs (X:Cx) (st:List Stmt) (f:FS):Prop where
 un:PSs X st (trS X.K f)
theorem zBt.set (h:zBt L H σ τ) (r:Rep L H d v):zBt L H (σ.set i (some d)) (τ.set i (some v)):=by
 refine ⟨by simp [h.1],fun j e q=>?_⟩;rw [zWX] at q ⊢;split at q
 ·rename_i z;subst z;split at q
  ·rename_i hl;cases q;rw [zVD rfl,zVD (by rw [h.1]; exact hl)];exact ⟨v,rfl,r⟩
  ·cases q
 ·rename_i z;rw [zVG z];exact h.2 j e q
theorem zKu {K:PySem.W.Frag} {f:FE} {τ:Sv} {H:Hp} {Q:VK} (h:trD K (toD f) τ H Q):trE K f τ H Q:=by
 obtain ⟨L,σ,M,d,M',c,rs,hf,q⟩:=h;unfold toD at hf;split at hf
 ·rename_i d' M1 e1;cases hf;exact ⟨L,σ,M,_,_,c,rs,e1,fun L' H' v s c' r=>q L' H' v s c' r⟩
 ·rename_i xs M1 e1;cases hf;refine ⟨L,σ,M,_,_,c,rs,e1,fun L' H' v s c' r=>?_⟩;obtain ⟨p,vs,rfl,e0,e2,e3,r⟩:=r;obtain ⟨c2,s2⟩:=zR6 s c' e0 e2 e3 r;exact q _ H' _ s2 c2 (Rep.last c')
 ·cases hf
def zBP:FS:=fun σ M=>some (.nx,σ,M)
def zX (f g:FS):FS:=fun σ M=>match f σ M with
 | some (.nx,σ1,M1)=>g σ1 M1
 | r=>r
def sIf (c:FT) (f g:FS):FS:=fun σ M=>match c σ M with
 | some (true,M1)=>f σ M1
 | some (false,M1)=>g σ M1
 | none=>none
def zAN (f:FE):FS:=fun σ M=>match toD f σ M with
 | some (d,M1)=>some (.ret d,σ,M1)
 | none=>none
def zAR (i:Nat) (f:FE):FS:=fun σ M=>match toD f σ M with
 | some (d,M1)=>some (.nx,σ.set i (some d),M1)
 | none=>none
def zCD (f:FE):FS:=fun σ M=>match f σ M with
 | some (_,M1)=>some (.nx,σ,M1)
 | none=>none
section
variable {X:Cx} {st:Stmt} {rest:List Stmt} {e c:Expr} {pos:Pos}
theorem zAa:QSs X [] zBP:=.mk <| PSs.imp zRr fun E τ H zz=>by
 obtain ⟨L,σ,M,o,σ',M',c,rs,hf,q⟩:=zz;unfold zBP at hf;cases hf;exact q L H (.refl L H) c τ rs
theorem zN (h1:QS X st f) (h2:QSs X rest g):QSs X (st :: rest) (zX f g):=.mk <| PSs.imp (zQd h1.un h2.un) fun E τ H zz=>by
 obtain ⟨L,σ,M,o,σ',M',c,rs,hf,q⟩:=zz;unfold zX at hf;split at hf
 ·rename_i σ1 M1 e1;refine ⟨L,σ,M,_,_,_,c,rs,e1,fun L1 H1 s1 c1 τ1 r1=>⟨L1,σ1,M1,_,_,_,c1,r1,hf,fun L2 H2 s2 c2=>q L2 H2 (s1.trans s2) c2⟩⟩
 ·rename_i hne;refine ⟨L,σ,M,_,_,_,c,rs,hf,fun L1 H1 s1 c1=>?_⟩;have z:=q L1 H1 s1 c1;cases o with
  | nx=>exact absurd hf (hne σ' M')
  | ret d=>exact z
  | brk=>exact z
  | cnt=>exact z
theorem zW (h1:QS X st f):QSs X [st] f:=.mk <| PSs.imp (zQ1 h1.un) fun _ _ _ h=>h
theorem zCb (hc:QT X c fc) (ha:QSs X a f) (hb:QSs X b g):QS X (.If c a b pos) (sIf fc f g):=.mk <| PS.imp (zTb hc.un ha.un hb.un) fun E τ H zz=>by
 obtain ⟨L,σ,M,o,σ',M',c,rs,hf,q⟩:=zz;unfold sIf at hf;split at hf
 ·rename_i M1 e1;refine ⟨L,σ,M,_,_,c,rs,e1,fun L1 H1 s1 c1=>?_⟩;exact zGI ⟨L1,σ,M1,_,_,_,c1,rs.stp s1,hf,fun L2 H2 s2 c2=>q L2 H2 (s1.trans s2) c2⟩
 ·rename_i M1 e1;refine ⟨L,σ,M,_,_,c,rs,e1,fun L1 H1 s1 c1=>?_⟩;exact zGP ⟨L1,σ,M1,_,_,_,c1,rs.stp s1,hf,fun L2 H2 s2 c2=>q L2 H2 (s1.trans s2) c2⟩
 ·cases hf
theorem zx (h:QE X e f):QS X (.Return (some e) pos) (zAN f):=.mk <| PS.imp (zTQ (zI h).un) fun E τ H zz=>by
 obtain ⟨L,σ,M,o,σ',M',c,rs,hf,q⟩:=zz;unfold zAN at hf;split at hf
 ·rename_i d M1 e1;cases hf;exact ⟨L,σ,M,_,_,c,rs,e1,fun L1 H1 v s1 c1 r1=>q L1 H1 s1 c1 v r1⟩
 ·cases hf
theorem zG7 {K:PySem.W.Frag} {i:Nat} {f:FE} {t:TE} (ht:∀ τ H Q,trE K f τ H Q -> t τ H Q) {E:Ends} {τ:Sv} {H:Hp} (h:trS K (zAR i f) E τ H):zQL t (zD9 i) E τ H:=by
 obtain ⟨L,σ,M,o,σ',M',c,rs,hf,q⟩:=h;unfold zAR at hf;split at hf
 ·rename_i d M1 e1;cases hf;exact ht _ _ _ (zKu ⟨L,σ,M,_,_,c,rs,e1,fun L1 H1 v s1 c1 r1=>q L1 H1 s1 c1 _ ((rs.stp s1).set r1)⟩)
 ·cases hf
theorem zTX {i:Nat} {x:Str} {f:FE} {pos':Pos} (hN:X.N.Nodup) (hi:X.N[i]? = some x) (hx:Loc X.env.scope x) (h:QE X e f) (hs:swapsWith e (some (.Name x pos')) pos.line X.env = pure false:=by rfl)
  (hf:X.fn x = true \/ X.env.scope.names.lookup x = some .local:=by first | exact .inl rfl | exact .inr rfl | assumption):QS X (.Assign [.Name x pos'] e pos) (zAR i f) :=
 .mk <| PS.imp (zSY hN hi hx h.un hs hf) fun _ _ _ z=>zG7 (fun _ _ _ z=>z) z
theorem zGA (h:QE X e f) (hs:swapsWith e none pos.line X.env = pure false:=by rfl):QS X (.Expr e pos) (zCD f):=.mk <| PS.imp (zRR h.un hs) fun E τ H zz=>by
 obtain ⟨L,σ,M,o,σ',M',c,rs,hf,q⟩:=zz;unfold zCD at hf;split at hf
 ·rename_i d M1 e1;cases hf;exact ⟨L,σ,M,_,_,c,rs,e1,fun L1 H1 v s1 c1 r1=>q L1 H1 s1 c1 τ (rs.stp s1)⟩
 ·cases hf
abbrev FG:=D -> Sd -> Option Sd
def GOk (g:TG) (fg:FG):Prop:=∀ {L:List Addr} {H:Hp} {σ σ':Sd} {τ:Sv} {d:D} {v:V} {Q:Sv -> Hp -> Prop},zBt L H σ τ -> Rep L H d v -> fg d σ = some σ' -> (∀ τ',zBt L H σ' τ' -> Q τ' H) -> g v τ H Q
def gN (i:Nat):FG:=fun d σ=>some (σ.set i (some d))
theorem zAs:GOk (zD9 i) (gN i):=by
 intro L H σ σ' τ d v Q rs r hf q;unfold gN at hf;cases hf;exact q _ (rs.set r)
abbrev FI:=Sd -> Mem -> Option (List D × Option (Mem -> Prop) × Mem)
def zBK (g:Option (Mem -> Prop)) (xs:List D) (M:Mem):Prop:=match g with
 | none=>True
 | some p=>p M
def zUK (K:PySem.W.Frag) (J:It) (L:List Addr) (H:Hp) (xs:List D) (g:Option (Mem -> Prop)):Prop:=∀ L' H' M',Stp L H L' H' -> Cor K L' M' H' -> zBK g xs M' ->
 (∀ (i:Nat) d,xs[i]? = some d -> J.go i H' /\ ∀ v H'',J.yld i H' v H'' -> (∀ a o,H' a = some o -> H'' a = some o) /\ Rep L' H'' d v) /\ J.stop xs.length H'
def trI (K:PySem.W.Frag) (f:FI):TI:=fun τ H R=>∃ L σ M xs g M',Cor K L M H /\ zBt L H σ τ /\ f σ M = some (xs,g,M') /\ ∀ L' H' J,Stp L H L' H' -> Cor K L' M' H' -> zUK K J L' H' xs g -> R J H'
structure QI (X:Cx) (tg e:Expr) (f:FI):Prop where
 un:PI X tg e (trI X.K f)
theorem PI.imp (h:PI X tg e t) (hi:∀ τ H R,t' τ H R -> t τ H R):PI X tg e t':=fun zB s σ H R I q=>h zB s σ H R I (hi _ _ _ q)
noncomputable def zDJ (g:FG) (b:FS) (all:List D) (gd:Option (Mem -> Prop)):List D -> Sd -> Mem -> Option (Out × Sd × Mem)
 | [],σ,M=>open Classical in if zBK gd all M then some (.nx,σ,M) else none
 | x :: r,σ,M=>open Classical in if zBK gd all M then match g x σ with
   | some σ1=>match b σ1 M with
    | some (.nx,σ2,M2)=>zDJ g b all gd r σ2 M2
    | some (.cnt,σ2,M2)=>zDJ g b all gd r σ2 M2
    | some (.brk,σ2,M2)=>some (.nx,σ2,M2)
    | some (.ret d,σ2,M2)=>some (.ret d,σ2,M2)
    | none=>none
   | none=>none
  else none
noncomputable def zCe (fi:FI) (g:FG) (b:FS):FS:=fun σ M=>match fi σ M with
 | some (xs,gd,M1)=>zDJ g b xs gd xs σ M1
 | none=>none
theorem zCp {α:Type} {xs:List α} (h:i < xs.length):xs.drop i = xs[i] :: xs.drop (i + 1):=List.drop_eq_getElem_cons h
theorem Stp.yld (s:Stp L H L' H') (h:∀ a o,H' a = some o -> H'' a = some o):Stp L H L' H'':=s.trans (.grow h)
theorem zOl {K:PySem.W.Frag} {fi:FI} {g:TG} {fg:FG} {b:FS} (hg:GOk g fg) {E:Ends} {τ:Sv} {H:Hp} (h:trS K (zCe fi fg b) E τ H):zTw (trI K fi) g (trS K b) E τ H:=by
 obtain ⟨L,σ,M,o,σf,Mf,c,rs,hf,q⟩:=h;unfold zCe at hf;split at hf
 ·rename_i xs gd M1 e1;refine ⟨L,σ,M,_,_,_,c,rs,e1,fun L1 H1 J s1 c1 it=>?_⟩
  refine ⟨fun i m τ' H'=>m = xs.length - i /\ i <= xs.length /\ ∃ L' σ' M',Stp L1 H1 L' H' /\ Cor K L' M' H' /\ zBt L' H' σ' τ' /\ zDJ fg b xs gd (xs.drop i) σ' M' = some (o,σf,Mf),
   ⟨xs.length,by simp,zVk _,L1,σ,M1,.refl _ _,c1,rs.stp s1,by simpa using hf⟩,?_⟩
  rintro i m τ' H' ⟨rfl,hi,L',σ',M',s',c',rs',e'⟩;by_cases hlt:i < xs.length
  ·rw [zCp hlt] at e';unfold zDJ at e';split at e'
   ·rename_i hgd;obtain ⟨step,_⟩:=it L' H' M' s' c' hgd;obtain ⟨go,yl⟩:=step i xs[i] (zU2 hlt);cases eg:fg xs[i] σ' with
    | none=>rw [eg] at e'; cases e'
    | some σ1=>
     rw [eg] at e';dsimp only at e';refine .inr ⟨go,fun τ2 H2=>∃ L2 σ2 M2,Stp L1 H1 L2 H2 /\ Cor K L2 M2 H2 /\ zBt L2 H2 σ2 τ2 /\ zDJ fg b xs gd (xs.drop (i + 1)) σ2 M2 = some (o,σf,Mf),fun τ2 H2 ⟨L2,σ2,M2,a1,a2,a3,a4⟩=>⟨xs.length - (i + 1),by omega,rfl,hlt,L2,σ2,M2,a1,a2,a3,a4⟩,fun v H2 hy=>?_⟩;obtain ⟨gr,rv⟩:=yl v H2 hy;refine hg (zBt.stp (.grow gr) rs') rv eg fun τ2 r2=>?_;cases eb:b σ1 M' with
     | none=>rw [eb] at e'; cases e'
     | some r=>
      obtain ⟨o2,σ2,M2⟩:=r;rw [eb] at e';refine ⟨L',σ1,M',_,_,_,c'.grow gr,r2,eb,fun L3 H3 s3 c3=>?_⟩;have s13:Stp L1 H1 L3 H3:=(s'.yld gr).trans s3;cases o2 with
      | nx=>exact fun τ3 r3=>⟨L3,σ2,M2,s13,c3,r3,e'⟩
      | cnt=>exact fun τ3 r3=>⟨L3,σ2,M2,s13,c3,r3,e'⟩
      | brk=>cases e'; exact q L3 H3 (s1.trans s13) c3
      | ret d=>cases e'; exact q L3 H3 (s1.trans s13) c3
   ·cases e'
  ·have hi':i = xs.length:=by omega
   subst hi';rw [List.drop_length] at e';unfold zDJ at e';split at e'
   ·rename_i hgd;cases e';obtain ⟨_,stop⟩:=it L' H' _ s' c' hgd;exact .inl ⟨stop,q L' H' (s1.trans s') c' τ' rs'⟩
   ·cases e'
 ·cases hf
theorem zDE (hg:GOk g fg) (hp:PassesOwn (model X.prog X.w) X.A X.env X.xe) (hc:X.calm = true) (hi:QI X tg iter fi) (ht:PG X tg g) (hb:QSs X body b)
  (hs:∀ x,foldedSetIterable iter X.env x = pure x:=by intro _; rfl):QS X (.For tg iter body [] pos) (zCe fi fg b):=.mk <| PS.imp (zSh hp hc hi.un ht hb.un hs) fun _ _ _ h=>zOl hg h
end
section
variable {X:Cx} {e c iter tg elt:Expr} {pos:Pos} {scope:Scope} {ifs:List Expr}
def zBl (c:FT) (b:FS):Nat -> Sd -> Mem -> Option (Out × Sd × Mem)
 | 0,_,_=>none
 | n + 1,σ,M=>match c σ M with
  | some (true,M1)=>match b σ M1 with
   | some (.nx,σ2,M2)=>zBl c b n σ2 M2
   | some (.cnt,σ2,M2)=>zBl c b n σ2 M2
   | some (.brk,σ2,M2)=>some (.nx,σ2,M2)
   | some (.ret d,σ2,M2)=>some (.ret d,σ2,M2)
   | none=>none
  | some (false,M1)=>some (.nx,σ,M1)
  | none=>none
theorem zL1 {K:PySem.W.Frag} {fc:FT} {b:FS} {n:Nat} {E:Ends} {τ:Sv} {H:Hp} (h:trS K (zBl fc b n) E τ H):zPG (trT K fc) (trS K b) E τ H:=by
 obtain ⟨L,σ,M,o,σf,Mf,c,rs,hf,q⟩:=h;refine ⟨fun m τ' H'=>∃ L' σ' M',Stp L H L' H' /\ Cor K L' M' H' /\ zBt L' H' σ' τ' /\ zBl fc b m σ' M' = some (o,σf,Mf),⟨n,L,σ,M,.refl _ _,c,rs,hf⟩,?_⟩;rintro m τ' H' ⟨L',σ',M',s',c',rs',e'⟩;cases m with
 | zero=>unfold zBl at e'; cases e'
 | succ m=>
  unfold zBl at e';split at e'
  ·rename_i M1 e1;refine ⟨L',σ',M',_,_,c',rs',e1,fun L1 H1 s1 c1=>zGI ?_⟩;refine ⟨fun τ2 H2=>∃ L2 σ2 M2,Stp L H L2 H2 /\ Cor K L2 M2 H2 /\ zBt L2 H2 σ2 τ2 /\ zBl fc b m σ2 M2 = some (o,σf,Mf),fun τ2 H2 h2=>⟨m,zVv m,h2⟩,?_⟩;cases eb:b σ' M1 with
   | none=>rw [eb] at e'; cases e'
   | some r=>
    obtain ⟨o2,σ2,M2⟩:=r;rw [eb] at e';refine ⟨L1,σ',M1,_,_,_,c1,rs'.stp s1,eb,fun L3 H3 s3 c3=>?_⟩;have s13:Stp L H L3 H3:=(s'.trans s1).trans s3;cases o2 with
    | nx=>exact fun τ3 r3=>⟨L3,σ2,M2,s13,c3,r3,e'⟩
    | cnt=>exact fun τ3 r3=>⟨L3,σ2,M2,s13,c3,r3,e'⟩
    | brk=>cases e'; exact q L3 H3 s13 c3
    | ret d=>cases e'; exact q L3 H3 s13 c3
  ·rename_i M1 e1;cases e';exact ⟨L',_,M',_,_,c',rs',e1,fun L1 H1 s1 c1=>zGP (q L1 H1 (s'.trans s1) c1 τ' (rs'.stp s1))⟩
  ·cases e'
theorem zJC (n:Nat) (hp:PassesOwn (model X.prog X.w) X.A X.env X.xe) (hc:QT X c fc) (hb:QSs X body b):QS X (.While c body [] pos) (zBl fc b n) :=
 .mk <| PS.imp (zPx hp hc.un hb.un) fun _ _ _ h=>zL1 h
def zCI (own:List Nat) (σ:Sd):Sd:=own.foldl (fun σ i=>σ.set i none) σ
theorem zEu:∀ (own:List Nat) {σ:Sd} {τ:Sv},zBt L H σ τ -> zBt L H (zCI own σ) (clr own τ)
 | [],_,_,h=>h
 | i :: r,σ,τ,h=>by
  refine zEu r (σ:=σ.set i none) (τ:=τ.set i none) ⟨by simp [h.1],fun j d q=>?_⟩;rw [zWX] at q ⊢;split at q
  ·split at q <;> cases q
  ·rename_i z;rw [zVG z];exact h.2 j d q
noncomputable def zBB (g:FG) (tc:FT) (te:FE) (σ:Sd) (all:List D) (gd:Option (Mem -> Prop)):List D -> Mem -> Option (List D × Mem)
 | [],M=>open Classical in if zBK gd all M then some ([],M) else none
 | x :: r,M=>open Classical in if zBK gd all M then match g x σ with
   | some σ1=>match tc σ1 M with
    | some (true,M1)=>match toD te σ1 M1 with
     | some (d,M2)=>match zBB g tc te σ all gd r M2 with
      | some (ds,M3)=>some (d :: ds,M3)
      | none=>none
     | none=>none
    | some (false,M1)=>zBB g tc te σ all gd r M1
    | none=>none
   | none=>none
  else none
noncomputable def zAc (own:List Nat) (fi:FI) (g:FG) (tc:FT) (te:FE):FE:=fun σ M=>match fi σ M with
 | some (xs,gd,M1)=>if xs.length <= sizeLine then match zBB g tc te (zCI own σ) xs gd xs M1 with
   | some (ys,M2)=>some (.fl ys,M2)
   | none=>none
  else none
 | none=>none
def zF1 (own:List Nat) (g:TG) (fg:FG):Prop:=∀ {L:List Addr} {H:Hp} {σ σ':Sd} {τ τ0:Sv} {d:D} {v:V} {Q:Sv -> Hp -> Prop},zBt L H σ τ -> Ext (clr own τ0) τ -> Rep L H d v -> fg d σ = some σ' -> (∀ τ',zBt L H σ' τ' -> Ext (clr own τ0) τ' -> Q τ' H) -> g v τ H Q
theorem zn (hi:i ∈ own):zF1 own (zD9 i) (gN i):=by
 intro L H σ σ' τ τ0 d v Q rs ex r hf q;unfold gN at hf;cases hf;exact q _ (rs.set r) (ex.set hi)
theorem zI3 {K:PySem.W.Frag} {own:List Nat} {fi:FI} {g:TG} {fg:FG} {tc:FT} {te:FE} (hg:zF1 own g fg) {τ:Sv} {H:Hp} {Q:VK} (h:trE K (zAc own fi fg tc te) τ H Q):zPd own (trI K fi) g (trT K tc) (trD K (toD te)) τ H Q:=by
 obtain ⟨L,σ,M,d,Mf,c,rs,hf,q⟩:=h;unfold zAc at hf;split at hf
 ·rename_i xs gd M1 e1;split at hf
  ·rename_i hz;split at hf
   ·rename_i zs M2 e2;cases hf;refine ⟨L,σ,M,_,_,_,c,rs,e1,fun L1 H1 J s1 c1 it=>?_⟩
    refine ⟨fun i m ys H'=>m = xs.length - i /\ i <= xs.length /\ ∃ L' M' as bs,Stp L1 H1 L' H' /\ Cor K L' M' H' /\ za L' H' as ys /\ as.length <= i /\ zBB fg tc te (zCI own σ) xs gd (xs.drop i) M' = some (bs,Mf) /\ as ++ bs = zs,
     ⟨xs.length,by simp,zVk _,L1,M1,[],zs,.refl _ _,c1,.nil,zU4 _,by simpa using e2,rfl⟩,?_⟩
    rintro i m ys H' ⟨rfl,hi,L',M',as,bs,s',c',r',hl,e',hab⟩;have hys:ys.length <= i:=by rw [r'.length]; exact hl
    by_cases hlt:i < xs.length
    ·rw [zCp hlt] at e';unfold zBB at e';split at e'
     ·rename_i hgd;obtain ⟨step,_⟩:=it L' H' M' s' c' hgd;obtain ⟨go,yl⟩:=step i xs[i] (zU2 hlt);split at e'
      ·rename_i σ1 eg;refine .inr ⟨go,fun v H2 hy=>?_⟩;obtain ⟨gr,rv⟩:=yl v H2 hy;have s2:Stp L1 H1 L' H2:=s'.yld gr;refine hg (zEu own ((rs.stp s1).stp s2)) (.refl _) rv eg fun τ2 r2 x2=>⟨x2,?_⟩;split at e'
       ·rename_i M3 e3;split at e'
        ·rename_i d M4 e4;split at e'
         ·rename_i ds M5 e5;cases e';refine ⟨L',σ1,M',_,_,c'.grow gr,r2,e3,fun L3 H3 s3 c3=>zGI ?_⟩;refine ⟨L3,σ1,M3,_,_,c3,r2.stp s3,e4,fun L4 H4 w s4 c4 r4=>?_⟩;have st:Stp L' H' L4 H4:=((Stp.grow gr).trans s3).trans s4;refine ⟨Nat.lt_of_le_of_lt hys (zVN hlt hz),xs.length - (i + 1),by omega,rfl,hlt,L4,M4,as ++ [d],ds,s'.trans st,c4,(r'.stp st).app (.cons r4 .nil),by simp; omega,e5,by rw [<- hab]; simp⟩
         ·cases e'
        ·cases e'
       ·rename_i M3 e3;refine ⟨L',σ1,M',_,_,c'.grow gr,r2,e3,fun L3 H3 s3 c3=>zGP ?_⟩;have st:Stp L' H' L3 H3:=(Stp.grow gr).trans s3;exact ⟨xs.length - (i + 1),by omega,rfl,hlt,L3,M3,as,bs,s'.trans st,c3,r'.stp st,by omega,e',hab⟩
       ·cases e'
      ·cases e'
     ·cases e'
    ·have hi':i = xs.length:=by omega
     subst hi';rw [List.drop_length] at e';unfold zBB at e';split at e'
     ·rename_i hgd;cases e';obtain ⟨_,stop⟩:=it L' H' _ s' c' hgd;refine .inl ⟨stop,zVP hys hz,fun p hp=>?_⟩;rw [zVi] at hab;subst hab;exact q L' _ _ ((s1.trans s').trans (.upd hp)) (c'.upd hp) (zo.newLst (s1.trans s') c c' hp r')
     ·cases e'
   ·cases hf
  ·cases hf
 ·cases hf
structure QIfs (X:Cx) (ifs:List Expr) (f:FT):Prop where
 un:zGm X ifs (trT X.K f)
def zAE:FT:=fun _ M=>some (true,M)
theorem zAk:QIfs X [] zAE:=.mk fun zB s σ H Q I h=>by
 obtain ⟨L,σ',M,d,M',c,rs,hf,q⟩:=h;unfold zAE at hf;cases hf;exact zPQ zB s σ H Q I (q L H (.refl L H) c)
theorem zL6 (h:QT X c f):QIfs X [c] f:=.mk (zOX h.un)
structure QParts (X:Cx) (scope:Scope) (tg:Expr) (ifs:List Expr) (elt:Expr) (g:TG) (tc:FT) (te:FE):Prop where
 g:∀ zB cl s H fp,PG (zS X zB scope cl s H fp) tg g
 c:∀ zB cl s H fp,QIfs (zS X zB scope cl s H fp) ifs tc
 e:∀ zB cl s H fp,QE (zS X zB scope cl s H fp) elt te
theorem QParts.parts {g:TG} {tc:FT} {te:FE} (p:QParts X scope tg ifs elt g tc te):CompParts X scope tg ifs elt g (trT X.K tc) (trD X.K (toD te)) :=
 ⟨p.g,fun zB cl s H fp=>(p.c zB cl s H fp).un,fun zB cl s H fp=>(zI (p.e zB cl s H fp)).un⟩
theorem zBH (hg:zF1 own g fg) (C:CompIn X scope own) (hcalm:X.calm = true) (hi:QI X tg iter fi) (p:QParts X scope tg ifs elt g tc te) (hs:∀ x,foldedSetIterable iter X.env x = pure x:=by intro _; rfl) :
  QE X (.ListComp elt [⟨tg,iter,ifs,0⟩] scope pos) (zAc own fi fg tc te):=.mk <| PE.imp (zRM C hcalm hi.un p.parts hs) fun _ _ _ h=>zI3 hg h
theorem zNQ (hN:X.N.Nodup) (hi':X.N[i]? = some x) (hx:Loc X.env.scope x) (hfn:X.fn x = true \/ X.env.scope.names.lookup x = some .local)
  (hsw:swapsWith (.ListComp elt [⟨tg,iter,ifs,0⟩] scope pos) (some (.Name x pos')) pos''.line X.env = pure true)
  (hg:zF1 own g fg) (C:CompIn X scope own) (hcalm:X.calm = true) (hi:QI X tg iter fi) (p:QParts X scope tg ifs elt g tc te) (hs:∀ x,foldedSetIterable iter X.env x = pure x:=by intro _; rfl) :
  QS X (.Assign [.Name x pos'] (.ListComp elt [⟨tg,iter,ifs,0⟩] scope pos) pos'') (zAR i (zAc own fi fg tc te)) :=
 .mk <| PS.imp (zLX hN hi' hx hfn C hcalm hi.un p.parts hsw hs) fun _ _ _ z=>zG7 (fun _ _ _ z=>zI3 hg z) z
end
abbrev FF:=List D -> Mem -> Option (D × Mem)
def spF (K:PySem.W.Frag) (n:Nat) (g:FF):Sp:=fun vs H Q _=>∃ L ds M d M',Cor K L M H /\ za L H ds vs /\ ds.length = n /\ g ds M = some (d,M') /\ ∀ L' H' v,Stp L H L' H' -> Cor K L' M' H' -> Rep L' H' d v -> Q v H'
def zb (g:FF) (fa:FA):FE:=fun σ M=>match fa σ M with
 | some (ds,M1)=>match g ds M1 with
  | some (d,M2)=>some (.dat d,M2)
  | none=>none
 | none=>none
section
variable {X:Cx} {e:Expr} {es:List Expr} {pos p:Pos} {x:Str} {k:Nat} {f:Addr} {fd:FuncData} {ps:List Str}
theorem zSm (F:FnOk X.prog X.w X.K X.mg X.base CX0 k f fd ps (spF X.K (e :: es).length g)) (hr:Room k X.A) (hg:Gl X x) (hm:X.mg x = some (.ref f)) (hk:PySem.W.keepIn X.K (.ref f) = true) (hb:zHz X.K fd ps [])
  (ha:QA X (e :: es) fa) (hl:∀ σ M ds M1,fa σ M = some (ds,M1) -> ds.length = (e :: es).length) (hdb:(x == ("__debug__" : Str)) = false:=by decide) (he:starEach (e :: es) X.env = (false,eval e X.env) :: starEach es X.env:=by rfl) (hpl:(backTo pos (starEach es X.env)).any (·.1) = false:=by rfl) :
  QE X (.Call (.Name x p) (e :: es) [] pos) (zb g fa) :=
 .mk <| PE.imp (zRj F hr hg hm hk hb .nil zUQ ha.un hdb he hpl) fun τ H Q zz=>by
  obtain ⟨L,σ,M,d,M',c,rs,hf,q⟩:=zz;unfold zb at hf;split at hf
  ·rename_i ds M1 e1;split at hf
   ·rename_i d' M2 e2;cases hf;refine ⟨L,σ,M,_,_,c,rs,e1,fun L1 H1 vs s1 c1 r1=>?_⟩;dsimp only;rw [zVi];exact ⟨L1,ds,M1,d',_,c1,r1,hl _ _ _ _ e1,e2,fun L2 H2 v s2 c2 r2=>q L2 H2 v (s1.trans s2) c2 r2⟩
   ·cases hf
  ·cases hf
def zRW (fa:FA) (n:Nat):Prop:=∀ σ M ds M1,fa σ M = some (ds,M1) -> ds.length = n
theorem zL:zRW zM 0:=fun σ M ds M1 h=>by unfold zM at h; cases h; rfl
theorem zH {f:FD} {g:FA} {n:Nat} (h:zRW g n):zRW (zF f g) (n + 1):=fun σ M ds M1 q=>by
 unfold zF at q;split at q
 ·split at q
  ·rename_i e2;cases q;simp [h _ _ _ _ e2]
  ·cases q
 ·cases q
def zBe (n:Nat) (b:FS):FF:=fun ds M=>match b (ds.map some ++ List.replicate (n - ds.length) none) M with
 | some (.ret d,_,M')=>some (d,M')
 | some (.nx,_,M')=>some (.non,M')
 | _=>none
theorem zIx:∀ {ds:List D} {vs:List V},za L H ds vs -> zBt L H (ds.map some ++ List.replicate (N.length - ds.length) none) (L2.zE1 N vs):=fun {ds vs} r=>by
 unfold L2.zE1;have hl:=r.length;refine ⟨by simp [hl],fun i d q=>?_⟩;by_cases hi:i < ds.length
 ·rw [zU5 (by simpa using hi),zVL] at q;rw [zU5 (by simpa [hl] using hi),zVL];cases e1:ds[i]? with
  | none=>rw [e1] at q; cases q
  | some d'=>
   rw [e1] at q; cases q;obtain ⟨v,e2,r2⟩:=r.get e1;exact ⟨v,by rw [e2]; rfl,r2⟩
 ·rw [zV8 (by simpa using hi),List.getElem?_replicate] at q;split at q <;> cases q
theorem zAS {P:Program} {w:World} {K:PySem.W.Frag} {mg:Str -> Option Value} {base:Heap} {qual:Str} {st:Stmt} {N:List Str} {b:FS} {n:Nat} (F:Fun K x qual st f fd) (S:FnScope N ps (zP st)) (hn:ps.length = n)
  (hb:∀ (cdv:Value) (A:Around) (outer:List Env) (s:Shared) (H:Hp) (E:XK),Room k (A.deeper (envOfC qual (zP st) s.heap.objs.size f cdv)) -> QSs (zLm CX0 P w K mg base N qual (zP st) f cdv A outer s H E).nox (zDH st) b) :
  FnOk P w K mg base CX0 (k + 1) f fd ps (spF K n (zBe N.length b)):=by
 refine F.ok S (fun vs H Q E h=>?_) (fun cdv A outer s H vs Q E hr h=>⟨_,(hb cdv A outer s H E hr).un,?_⟩)
 ·obtain ⟨L,ds,M,d,M',c,r,hl,_⟩:=h;rw [r.length,hl,hn]
 ·obtain ⟨L,ds,M,d,M',c,r,hl,hf,q⟩:=h;unfold zBe at hf;split at hf
  ·rename_i d' σ' M1 e1;cases hf;exact ⟨L,_,M,_,_,_,c,zIx r,e1,fun L1 H1 s1 c1 v r1=>q L1 H1 v s1 c1 r1⟩
  ·rename_i σ' M1 e1;cases hf;exact ⟨L,_,M,_,_,_,c,zIx r,e1,fun L1 H1 s1 c1 τ' r1=>q L1 H1 .non s1 c1 (by unfold Rep; rfl)⟩
  ·cases hf
mutual
def D.und (n:Nat):D -> Bool
 | .tup ds=>D.unds n ds
 | .ref k=>decide (k < n)
 | _=>true
def D.unds (n:Nat):List D -> Bool
 | []=>true
 | d :: ds=>D.und n d && D.unds n ds
end
mutual
theorem Rep.less:∀ {d:D} {v:V},D.und L.length d = true -> Rep (L ++ N) H d v -> Rep L H d v
 | .non,_,_,h=>by unfold Rep at h ⊢; exact h
 | .bl _,_,_,h=>by unfold Rep at h ⊢; exact h
 | .int _,_,_,h=>by unfold Rep at h ⊢; exact h
 | .str _,_,_,h=>by unfold Rep at h ⊢; exact h
 | .tup ds,_,hb,h=>by
  unfold D.und at hb;unfold Rep at h ⊢;obtain ⟨a,vs,rfl,e,r⟩:=h;exact ⟨a,vs,rfl,e,za.less hb r⟩
 | .ref n,_,hb,h=>by
  unfold D.und at hb;unfold Rep at h ⊢;obtain ⟨a,rfl,e⟩:=h;exact ⟨a,rfl,by rwa [zU5 (of_decide_eq_true hb)] at e⟩
theorem za.less:∀ {ds:List D} {vs:List V},D.unds L.length ds = true -> za (L ++ N) H ds vs -> za L H ds vs
 | [],_,_,h=>by unfold za at h ⊢; exact h
 | d :: ds,_,hb,h=>by
  unfold D.unds at hb;rw [zVY] at hb;unfold za at h ⊢;obtain ⟨v,r,rfl,h1,h2⟩:=h;exact ⟨v,r,rfl,Rep.less hb.1 h1,za.less hb.2 h2⟩
end
theorem zBR.less {κ:Type} {kf:D -> Option κ} {L N:List Addr} {H:Hp}:∀ {ps:List (D × D)} {vs:List (κ × V)},(ps.all fun p=>D.und L.length p.1 && D.und L.length p.2) = true -> zBR kf (L ++ N) H ps vs -> zBR kf L H ps vs
 | [],_,_,h=>h
 | p :: r,_,hb,h=>by
  rw [List.all_cons,zVY,zVY] at hb;obtain ⟨k,v,r',rfl,e,h1,h2⟩:=h;exact ⟨k,v,r',rfl,e,Rep.less hb.1.2 h1,zBR.less hb.2 h2⟩
def MO.und (n:Nat):MO -> Bool
 | .lst xs=>D.unds n xs
 | .fro xs=>D.unds n xs
 | .dict kvs=>kvs.all fun p=>D.und n p.1 && D.und n p.2
 | .dicT kvs=>kvs.all fun p=>D.und n p.1 && D.und n p.2
 | .set xs=>D.unds n xs
def zGZ (g:FF):FF:=fun ds M=>match g ds M with
 | some (d,M')=>if D.und M.length d && (M'.take M.length).all (MO.und M.length) && decide (M.length <= M'.length) then some (d,M'.take M.length) else none
 | none=>none
theorem zJ0 {P:Program} {w:World} {K:PySem.W.Frag} {mg:Str -> Option Value} {base:Heap} {n:Nat} {g:FF} (h:FnOk P w K mg base CX0 k f fd ps (spF K n g)):FnOk P w K mg base CX0 k f fd ps (spF K n (zGZ g)) :=
 h.imp fun vs H Q E ⟨L,ds,M,d,M',c,r,hl,hf,q⟩=>by
  unfold zGZ at hf;split at hf
  ·rename_i d' M1 e1;split at hf
   ·rename_i hb;cases hf;simp only [zVY,zWB,zVZ] at hb;obtain ⟨⟨hb1,hb2⟩,hb3⟩:=hb;refine ⟨L,ds,M,_,_,c,r,hl,e1,fun L1 H1 v s1 c1 r1=>?_⟩;obtain ⟨N,rfl⟩:=s1.pre;rw [<- c.len] at hb1 hb2 hb3;refine q L H1 v ⟨⟨[],by simp⟩,fun a ha=> .inl ha,s1.old,s1.tup,s1.frz⟩ ⟨?_,?_,fun i a m e2 e3=>?_⟩ (Rep.less hb1 r1)
    ·rw [zWM,<- c.len]; omega
    ·exact (zWC.mp c1.nd).1
    ·rw [<- c.len] at e3;have hi:i < L.length:=(zU1.mp e2).1;have hm:m ∈ M1.take L.length:=List.mem_of_getElem? e3;rw [List.getElem?_take_of_lt hi] at e3;have z:=c1.obj i a m (zDD e2) e3;have bl:=hb2 m hm;cases m with
     | lst xs=>obtain ⟨ws,e4,r4⟩:=z; exact ⟨ws,e4,za.less bl r4⟩
     | fro xs=>obtain ⟨o,ws,e4,r4⟩:=z; exact ⟨o,ws,e4,za.less bl r4⟩
     | dict ps=>obtain ⟨vs,e,r⟩:=z; exact ⟨vs,e,zBR.less bl r⟩
     | dicT ps=>obtain ⟨vs,e,r⟩:=z; exact ⟨vs,e,zBR.less bl r⟩
     | set _=>exact z
   ·cases hf
  ·cases hf
def zHK (g:FF):FF:=fun ds M=>if D.unds 0 ds then match g ds [] with
  | some (d,_)=>if D.und 0 d then some (d,M) else none
  | none=>none
 else none
theorem zJZ {P:Program} {w:World} {K:PySem.W.Frag} {mg:Str -> Option Value} {base:Heap} {n:Nat} {g:FF} (h:FnOk P w K mg base CX0 k f fd ps (spF K n g)):FnOk P w K mg base CX0 k f fd ps (spF K n (zHK g)) :=
 h.imp fun vs H Q E ⟨L,ds,M,d,M',c,r,hl,hf,q⟩=>by
  unfold zHK at hf;split at hf
  ·rename_i hb0;split at hf
   ·rename_i d' M1 e1;split at hf
    ·rename_i hb;cases hf;refine ⟨[],ds,[],_,_,⟨rfl,.nil,fun i a m e=>by simp at e⟩,za.less (L:=[]) (N:=L) hb0 (by simpa using r),hl,e1,fun L1 H1 v s1 c1 r1=>?_⟩;have gr:∀ a o,H a = some o -> H1 a = some o:=fun a o e=>s1.old a o e (by simp);exact q L H1 v (.grow gr) (c.grow gr) ((Rep.less (L:=[]) (N:=L1) hb (by simpa using r1)).more L |> fun z=>by simpa using z)
    ·cases hf
   ·cases hf
  ·cases hf
theorem zSE (hl:PE X l tl):PI X tg l (fun σ H R=>tl σ H fun x H1=>∃ a,x = .ref a /\ ((∃ xs,SqL X.K H1 a xs) /\ R (Itl X.K a) H1 \/ (∃ xs,SqT X.K H1 a xs) /\ R (Itt X.K a) H1)):=by
 intro zB s σ H R I h;refine thn (hl zB s σ H _ I h) fun v s1 ⟨y,H1,I1,r1,a,hy,h1⟩=>?_;subst hy;cases r1;have fpk:∀ b ∈ [s1.heap.objs.size],zC5 X zB H1 b:=fun b hb=>by
  have e:b = s1.heap.objs.size:=by simpa using hb
  subst e;exact I1.fpOk (zU4 _) (I1.hok.fresh (zU4 _))
 rcases h1 with ⟨⟨xs,hq⟩,q⟩ | ⟨⟨xs,hq⟩,q⟩
 ·obtain ⟨its,rv,pl,hz⟩:=I1.list hq;exact wpAny_pyIter_list pl.isList ⟨s1.heap.objs.size,[s1.heap.objs.size],_,_,H1,rfl,I1.kept (t':=s1.toks) fun b o e=>zUz _ e,zNL a _,⟨_,zU8 _ rfl,rfl,rfl⟩,fpk,q⟩
 ·obtain ⟨its,rv,pl,hz⟩:=I1.tuple hq;exact wpAny_pyIter_tuple (show s1.heap.IsTuple a its.toArray from pl) ⟨s1.heap.objs.size,[s1.heap.objs.size],_,_,H1,rfl,I1.kept (t':=s1.toks) fun b o e=>zUz _ e,zLf a _,⟨_,zU8 _ rfl,rfl,rfl⟩,fpk,q⟩
def zIS (x:EV) (xs:List D):Option (Mem -> Prop):=match x with
 | .dat (.ref n)=>some fun M=>M[n]? = some (.lst xs) \/ M[n]? = some (.fro xs)
 | _=>none
def zAv (f:FE):FI:=fun σ M=>match f σ M with
 | some (x,M1)=>match zBX M1 x with
  | some xs=>some (xs,zIS x xs,M1)
  | none=>none
 | none=>none
def zAM (f:FA):FI:=fun σ M=>match f σ M with
 | some ([.int j],M1)=>if -(2 ^ 62) <= j /\ j < 2 ^ 62 then some ((List.range j.toNat).map fun (k:Nat)=>D.int k,none,M1) else none
 | some ([.int i,.int j],M1)=>if -(2 ^ 62) <= i /\ i < 2 ^ 62 /\ -(2 ^ 62) <= j /\ j < 2 ^ 62 then some ((List.range (j - i).toNat).map fun (k:Nat)=>D.int (i + k),none,M1) else none
 | _=>none
theorem zAx (h:QE X e g):QI X tg e (zAv g):=.mk <| PI.imp (zSE h.un) fun τ H R zz=>by
 obtain ⟨L,σ,M,xs,gd,M',c,rs,hf,q⟩:=zz;unfold zAv at hf;split at hf
 ·rename_i y M1 e1;split at hf
  ·rename_i zs e2;cases hf;refine ⟨L,σ,M,_,_,c,rs,e1,fun L1 H1 v s1 c1 r1=>?_⟩;unfold zBX at e2;cases t:zD7 y with
   | some ws=>
    rw [t] at e2; cases e2;obtain ⟨a,vs,rfl,e3,r3⟩:=zD4 r1 t;refine ⟨a,rfl,.inr ⟨⟨vs,.of e3⟩,q L1 H1 _ s1 c1 fun L2 H2 M2 s2 c2 _=>?_⟩⟩;have e4:=s2.tup a vs e3;have r4:=r3.stp s2;refine ⟨fun i d hd=>?_,⟨vs,.of e4,by rw [r4.length]; exact zU4 _⟩⟩;obtain ⟨u,hu,ru⟩:=r4.get hd;refine ⟨⟨vs,u,.of e4,hu⟩,fun v H3 ⟨hH,hv⟩=>?_⟩;subst hH;have:=hv vs (.of e4);rw [hu] at this; cases this;exact ⟨fun _ _ z=>z,ru⟩
   | none=>
    rw [t] at e2;dsimp only at e2;obtain ⟨a,vs,rfl,e3,r3⟩:=zCi c1 r1 e2;refine ⟨a,rfl,.inl ⟨⟨vs,.inl e3⟩,q L1 H1 _ s1 c1 fun L2 H2 M2 s2 c2 hgd=>?_⟩⟩;have key:∃ vs',SqL X.K H2 a vs' /\ za L2 H2 xs vs':=by
     cases y with
     | fl ys=>
      cases e2;obtain ⟨p',vs',hp',_,e5,e6,r6⟩:=r1;cases hp';exact ⟨vs',.of (s2.old _ _ e5 e6),r6.stp s2⟩
     | dat d=>
      cases d with
      | ref n=>
       unfold zo Rep at r1;obtain ⟨a',ha',e5⟩:=r1;cases ha';have e6:L2[n]? = some a:=by obtain ⟨N,hN⟩:=s2.pre; rw [hN]; exact zDD e5
       rcases hgd with z | z
       ·obtain ⟨vs',e7,r7⟩:=c2.obj n a _ e6 z; exact ⟨vs',.of e7,r7⟩
       ·obtain ⟨o,vs',e7,r7⟩:=c2.obj n a _ e6 z; exact ⟨vs',.inl (.inr ⟨o,e7⟩),r7⟩
      | _=>cases e2
    obtain ⟨vs',hq,r7⟩:=key;refine ⟨fun i d hd=>?_,⟨vs',hq,by rw [r7.length]; exact zU4 _⟩⟩;obtain ⟨u,hu,ru⟩:=r7.get hd;refine ⟨⟨vs',u,hq,hu⟩,fun v H3 ⟨hH,hv⟩=>?_⟩;subst hH;have:=hv vs' hq;rw [hu] at this; cases this;exact ⟨fun _ _ z=>z,ru⟩
  ·cases hf
 ·cases hf
theorem zI4 (h:za L H [.int j] vs):vs = [.int j]:=by
 unfold za at h;obtain ⟨v,r,rfl,h1,h2⟩:=h;unfold za at h2;unfold Rep at h1;subst h1 h2; rfl
theorem zPp {K:PySem.W.Frag} {L:List Addr} {H:Hp} {lo:Int} {n:Nat}:zUK K (Itr lo n) L H ((List.range n).map fun (k:Nat)=>D.int (lo + k)) none:=by
 intro L' H' M' s c _;refine ⟨fun i d hd=>?_,by simp [Itr]⟩;rw [zVL] at hd;cases q:(List.range n)[i]? with
 | none=>rw [q] at hd; cases hd
 | some k=>
  rw [q] at hd; cases hd;have hi:i < n:=by have:=(zU1.mp q).1; simpa using this
  rw [List.getElem?_range hi] at q; cases q;refine ⟨hi,fun v H'' ⟨hH,hv⟩=>?_⟩;subst hH hv;exact ⟨fun _ _ z=>z,zAo⟩
theorem zAC {tg a:Expr} {g:FA} (hg:Gl X "range") (hm:X.mg "range" = none) (ha:QA X [a] g) (hl:zRW g 1) (hs:starEach [a] X.env = [(false,eval a X.env)]:=by rfl):QI X tg (.Call (.Name "range" p) [a] [] pos) (zAM g) :=
 .mk <| PI.imp (zNH hg hm ha.un hs) fun τ H R zz=>by
  obtain ⟨L,σ,M,xs,gd,M',c,rs,hf,q⟩:=zz;unfold zAM at hf;split at hf
  ·rename_i j M1 e1;split at hf
   ·rename_i hb;cases hf;refine ⟨L,σ,M,_,_,c,rs,e1,fun L1 H1 vs s1 c1 r1=>⟨j,zI4 r1,hb.1,hb.2,q L1 H1 _ s1 c1 ?_⟩⟩;have z:=zPp (K:=X.K) (L:=L1) (H:=H1) (lo:=0) (n:=j.toNat);simpa using z
   ·cases hf
  ·rename_i e1;have:=hl _ _ _ _ e1;simp at this
  ·cases hf
end
section
variable {X:Cx} {a b c e:Expr} {es rest:List Expr} {pos p apos cpos:Pos}
def zBo (f g:FT):FT:=fun σ M=>match f σ M with
 | some (true,M1)=>g σ M1
 | r=>r
def zFY (f g:FT):FT:=fun σ M=>match f σ M with
 | some (false,M1)=>g σ M1
 | r=>r
def zDm (f:FT):FT:=fun σ M=>match f σ M with
 | some (k,M1)=>some (!k,M1)
 | none=>none
structure QW (X:Cx) (e:Expr) (f:FT):Prop where
 un:PW X e (trT X.K f)
theorem PW.imp (h:PW X e t) (hi:∀ τ H Q,t' τ H Q -> t τ H Q):PW X e t':=fun wh zB s σ H Q I q=>h wh zB s σ H Q I (hi _ _ _ q)
theorem zFz (h:QT X a f):QW X (.BoolOp .And [a] pos) f:=.mk (zRD h.un)
theorem zHO (h:QT X a f):QW X (.BoolOp .Or [a] pos) f:=.mk (zSj h.un)
theorem zHU (h1:QT X a f) (h2:QW X (.BoolOp .And (b :: rest) pos) g):QW X (.BoolOp .And (a :: b :: rest) pos) (zBo f g):=.mk <| PW.imp (zSn h1.un h2.un) fun τ H Q zz=>by
 obtain ⟨L,σ,M,d,M',c,rs,hf,q⟩:=zz;unfold zBo at hf;split at hf
 ·rename_i M1 e1;exact ⟨L,σ,M,_,_,c,rs,e1,fun L1 H1 s1 c1=>zGI ⟨L1,σ,M1,_,_,c1,rs.stp s1,hf,fun L2 H2 s2 c2=>q L2 H2 (s1.trans s2) c2⟩⟩
 ·rename_i hne;cases d with
  | true=>exact absurd hf (hne M')
  | false=>exact ⟨L,σ,M,_,_,c,rs,hf,fun L1 H1 s1 c1=>zGP (q L1 H1 s1 c1)⟩
theorem zIi (h1:QT X a f) (h2:QW X (.BoolOp .Or (b :: rest) pos) g):QW X (.BoolOp .Or (a :: b :: rest) pos) (zFY f g):=.mk <| PW.imp (zUA h1.un h2.un) fun τ H Q zz=>by
 obtain ⟨L,σ,M,d,M',c,rs,hf,q⟩:=zz;unfold zFY at hf;split at hf
 ·rename_i M1 e1;exact ⟨L,σ,M,_,_,c,rs,e1,fun L1 H1 s1 c1=>zGP ⟨L1,σ,M1,_,_,c1,rs.stp s1,hf,fun L2 H2 s2 c2=>q L2 H2 (s1.trans s2) c2⟩⟩
 ·rename_i hne;cases d with
  | false=>exact absurd hf (hne M')
  | true=>exact ⟨L,σ,M,_,_,c,rs,hf,fun L1 H1 s1 c1=>zGI (q L1 H1 s1 c1)⟩
theorem zIH (h:QW X e f):QT X e f:=.mk (PW.pt h.un)
theorem zD5 (h:QT X a f):QT X (.UnaryOp .Not a pos) (zDm f):=.mk <| PT.imp (zSy h.un) fun τ H Q zz=>by
 obtain ⟨L,σ,M,d,M',c,rs,hf,q⟩:=zz;unfold zDm at hf;split at hf
 ·rename_i k M1 e1;cases hf;exact ⟨L,σ,M,_,_,c,rs,e1,fun L1 H1 s1 c1=>q L1 H1 s1 c1⟩
 ·cases hf
def zII (f g:FE):FE:=fun σ M=>match f σ M with
 | some (.dat (.bl true),M1)=>g σ M1
 | some (.dat (.bl false),M1)=>some (.dat (.bl false),M1)
 | _=>none
def zM8 (f:FE):FE:=fun σ M=>match f σ M with
 | some (.dat (.bl k),M1)=>some (.dat (.bl (!k)),M1)
 | _=>none
theorem zAd (h:zo H0 L H (.dat (.bl k)) v):v = .bl k:=by unfold zo Rep at h; exact h
theorem zGG {op} (h:QE X a f):QE X (.BoolOp op [a] pos) f:=.mk (zSX h.un)
theorem zGQ (h1:QE X a f) (h2:QE X (.BoolOp .And (b :: rest) pos) g):QE X (.BoolOp .And (a :: b :: rest) pos) (zII f g):=.mk <| PE.imp (zSO h1.un h2.un) fun τ H Q zz=>by
 obtain ⟨L,σ,M,d,M',c,rs,hf,q⟩:=zz;unfold zII at hf;split at hf
 ·rename_i M1 e1;exact ⟨L,σ,M,_,_,c,rs,e1,fun L1 H1 v s1 c1 r1=>⟨true,zAd r1,zGI ⟨L1,σ,M1,_,_,c1,rs.stp s1,hf,fun L2 H2 w s2 c2 r2=>q L2 H2 w (s1.trans s2) c2 (r2.back s1 c s2.sub)⟩⟩⟩
 ·rename_i M1 e1;cases hf;exact ⟨L,σ,M,_,_,c,rs,e1,fun L1 H1 v s1 c1 r1=>⟨false,zAd r1,zGP (q L1 H1 _ s1 c1 (by have:=zAd r1; subst this; exact r1))⟩⟩
 ·cases hf
theorem zOi (h:QE X a f):QE X (.UnaryOp .Not a pos) (zM8 f):=.mk <| PE.imp (zSv h.un) fun τ H Q zz=>by
 obtain ⟨L,σ,M,d,M',c,rs,hf,q⟩:=zz;unfold zM8 at hf;split at hf
 ·rename_i k M1 e1;cases hf;exact ⟨L,σ,M,_,_,c,rs,e1,fun L1 H1 v s1 c1 r1=>⟨k,zAd r1,q L1 H1 _ s1 c1 (by unfold zo Rep; rfl)⟩⟩
 ·cases hf
abbrev KM:=EV -> List D -> Mem -> Option (D × Mem)
def fM (k:KM) (f:FE) (g:FA):FE:=fun σ M=>match f σ M with
 | some (x,M1)=>match zCE M1 x with
  | some _=>match g σ M1 with
   | some (ds,M2)=>match k x ds M2 with
    | some (d,M3)=>some (.dat d,M3)
    | none=>none
   | none=>none
  | none=>none
 | none=>none
def zPz (K:PySem.W.Frag) (r:V -> List V -> Hp -> VK -> Prop) (k:KM):Prop:=∀ {L:List Addr} {M M':Mem} {H H0:Hp} {x:EV} {ds:List D} {d:D} {v:V} {vs:List V} {Q:VK},Cor K L M H -> zo H0 L H x v -> za L H ds vs -> k x ds M = some (d,M') ->
 (∀ L' H' u,Stp L H L' H' -> Cor K L' M' H' -> Rep L' H' d u -> Q u H') -> r v vs H Q
theorem zJT {K:PySem.W.Frag} {r:V -> List V -> Hp -> VK -> Prop} {k:KM} {f:FE} {g:FA} (hk:zPz K r k) {τ:Sv} {H:Hp} {Q:VK} (h:trE K (fM k f g) τ H Q):tBM K "list" r (trE K f) (trA K g) τ H Q:=by
 obtain ⟨L,σ,M,d,M',c,rs,hf,q⟩:=h;unfold fM at hf;split at hf
 ·rename_i x M1 e1;split at hf
  ·rename_i xs e2;split at hf
   ·rename_i ds M2 e3;split at hf
    ·rename_i d' M3 e4;cases hf;refine ⟨L,σ,M,_,_,c,rs,e1,fun L1 H1 v s1 c1 r1=>?_⟩;obtain ⟨a,vs,rfl,e5,r5⟩:=zCi c1 r1 e2;refine ⟨.inl ⟨rfl,vs,.inl e5⟩,L1,σ,M1,_,_,c1,rs.stp s1,e3,fun L2 H2 ws s2 c2 r2=>?_⟩;exact hk c2 (r1.stp s2) r2 e4 fun L3 H3 u s3 c3 r3=>q L3 H3 u ((s1.trans s2).trans s3) c3 r3
    ·cases hf
   ·cases hf
  ·cases hf
 ·cases hf
def zBJ:KM:=fun x ds M=>match x,ds with
 | .dat (.ref n),[d]=>match M[n]? with
  | some (.lst xs)=>if xs.length < sizeLine then some (.non,M.set n (.lst (xs ++ [d]))) else none
  | _=>none
 | _,_=>none
theorem za.one (h:za L H [d] vs):∃ v,vs = [v] /\ Rep L H d v:=by
 unfold za at h;obtain ⟨v,r,rfl,h1,h2⟩:=h;unfold za at h2;subst h2;exact ⟨v,rfl,h1⟩
theorem zMI {K:PySem.W.Frag}:zPz K zMa zBJ:=by
 intro L M M' H H0 x ds d v vs Q c rx rd hk q;unfold zBJ at hk;split at hk
 ·rename_i n d';split at hk
  ·rename_i xs e1;split at hk
   ·rename_i hz;cases hk;unfold zo Rep at rx;obtain ⟨a,rfl,e2⟩:=rx;obtain ⟨ws,e3,r3⟩:=c.obj n a _ e2 e1;obtain ⟨w,rfl,r4⟩:=rd.one;obtain ⟨c5,s5⟩:=c.write e2 e1 (r3.app (.cons r4 .nil));exact ⟨a,ws,w,rfl,rfl,e3,by rw [r3.length]; exact hz,q L _ _ s5 c5 (by unfold Rep; rfl)⟩
   ·cases hk
  ·cases hk
 ·cases hk
theorem zHB (h:QE X a f) (hg:QA X [e] g) (hbase:attributeBase a "append" X.env (eval a X.env) = eval a X.env:=by rfl)
  (hfew:((backTo cpos (starEach [e] X.env)).all (fun x=> !x.1) && (backToKw cpos (keywordEach [] X.env)).all (fun x=>x.1.isSome) && decide ([e].length + ([]:List Keyword).length + (if ([]:List Keyword).isEmpty then 0 else 1) < 30)) = true:=by rfl)
  (hline:(apos.endLine == cpos.line) = true:=by rfl) (hs:starEach [e] X.env = (false,eval e X.env) :: starEach [] X.env:=by rfl) (hplain:(backTo cpos (starEach [] X.env)).any (·.1) = false:=by rfl) :
  QE X (.Call (.Attribute a "append" apos) [e] [] cpos) (fM zBJ f g) :=
 .mk <| PE.imp (zM5 PySem.F.plainAttrs_list PySem.F.slot_list_append PySem.F.type_list_append zOU h.un hg.un hbase hfew hline hs hplain) fun _ _ _ z=>zJT zMI z
def zKZ:KM:=fun x ds M=>match x,ds with
 | .dat (.ref n),[.int i]=>match M[n]? with
  | some (.lst xs)=>match ixN xs.length i with
   | some k=>match xs[k]? with
    | some d=>if -(2 ^ 63) <= i /\ i < 2 ^ 63 then some (d,M.set n (.lst (xs.eraseIdx k))) else none
    | none=>none
   | none=>none
  | _=>none
 | _,_=>none
theorem zQ8 {K:PySem.W.Frag}:zPz K zQN zKZ:=by
 intro L M M' H H0 x ds d v vs Q c rx rd hk q;unfold zKZ at hk;split at hk
 ·rename_i n i;split at hk
  ·rename_i xs e1;split at hk
   ·rename_i k e2;split at hk
    ·rename_i d' e3;split at hk
     ·rename_i hb;cases hk;unfold zo Rep at rx;obtain ⟨a,rfl,e4⟩:=rx;obtain ⟨ws,e5,r5⟩:=c.obj n a _ e4 e1;obtain ⟨u,e6,r6⟩:=r5.get e3;obtain ⟨c5,s5⟩:=c.write e4 e1 (r5.eraseIdx k);exact ⟨a,ws,i,k,u,rfl,zI4 rd,e5,hb.1,hb.2,by rw [r5.length]; exact (zJy e2).1,e6,q L _ _ s5 c5 (r6.stp s5)⟩
     ·cases hk
    ·cases hk
   ·cases hk
  ·cases hk
 ·cases hk
theorem zTT (h:QE X a f) (hg:QA X [e] g) (hbase:attributeBase a "pop" X.env (eval a X.env) = eval a X.env:=by rfl)
  (hfew:((backTo cpos (starEach [e] X.env)).all (fun x=> !x.1) && (backToKw cpos (keywordEach [] X.env)).all (fun x=>x.1.isSome) && decide ([e].length + ([]:List Keyword).length + (if ([]:List Keyword).isEmpty then 0 else 1) < 30)) = true:=by rfl)
  (hline:(apos.endLine == cpos.line) = true:=by rfl) (hs:starEach [e] X.env = (false,eval e X.env) :: starEach [] X.env:=by rfl) (hplain:(backTo cpos (starEach [] X.env)).any (·.1) = false:=by rfl) :
  QE X (.Call (.Attribute a "pop" apos) [e] [] cpos) (fM zKZ f g) :=
 .mk <| PE.imp (zM5 PySem.F.plainAttrs_list PySem.F.slot_list_pop PySem.F.type_list_pop zP0 h.un hg.un hbase hfew hline hs hplain) fun _ _ _ z=>zJT zQ8 z
def zLD (x:EV) (i:D) (d:D) (M:Mem):Option Mem:=match x,i with
 | .dat (.ref n),.int i=>match M[n]? with
  | some (.lst xs)=>match ixN xs.length i with
   | some j=>some (M.set n (.lst (xs.set j d)))
   | none=>none
  | _=>none
 | _,_=>none
def zL0 (fv fo fi:FE):FS:=fun σ M=>match toD fv σ M with
 | some (d,M1)=>match fo σ M1 with
  | some (x,M2)=>match toD fi σ M2 with
   | some (i,M3)=>match zLD x i d M3 with
    | some M4=>some (.nx,σ,M4)
    | none=>none
   | none=>none
  | none=>none
 | none=>none
theorem zHd (hv:QE X v fv) (ho:QE X o fo) (hi:QE X i fi)
  (ha:∀ v,assign (.Subscript o i p) X.env v = (do
   let ov <- holding [v] (eval o X.env);let iv <- holding [v,ov] (eval i X.env);standAt p;holding [v,ov,iv] (setItem ov iv v);release [v,ov,iv] []):=by intro _; rfl)
  (hs:swapsWithSole [.Subscript o i p] v pos.line X.env = pure false:=by rfl) (hw:swappedStores [.Subscript o i p] v X.env = pure none:=by rfl) (h1:(assignEach [.Subscript o i p] X.env).map (·.2) = [assign (.Subscript o i p) X.env]:=by rfl) :
  QS X (.Assign [.Subscript o i p] v pos) (zL0 fv fo fi):=.mk <| PS.imp (zPg (zI hv).un (zSR ho.un (zI hi).un zOt ha) hs hw h1) fun E τ H zz=>by
 obtain ⟨L,σ,M,out,σ',M',c,rs,hf,q⟩:=zz;unfold zL0 at hf;split at hf
 ·rename_i d M1 e1;split at hf
  ·rename_i x M2 e2;split at hf
   ·rename_i j M3 e3;split at hf
    ·rename_i M4 e4;cases hf;refine ⟨L,σ,M,_,_,c,rs,e1,fun L1 H1 u s1 c1 r1=>⟨L1,σ,M1,_,_,c1,rs.stp s1,e2,fun L2 H2 w s2 c2 r2=>⟨L2,σ,M2,_,_,c2,rs.stp (s1.trans s2),e3,fun L3 H3 z s3 c3 r3=>?_⟩⟩⟩;have st:=(s1.trans s2).trans s3;unfold zLD at e4;split at e4
     ·rename_i n k;split at e4
      ·rename_i xs e5;split at e4
       ·rename_i m e6;cases e4;have r2':=r2.stp s3;unfold zo Rep at r2';obtain ⟨a,rfl,e7⟩:=r2';obtain ⟨ws,e8,r8⟩:=c3.obj n a _ e7 e5;obtain ⟨c9,s9⟩:=c3.write e7 e5 (za.set ((r1.stp s2).stp s3) m r8);exact ⟨a,ws,k,m,rfl,by unfold Rep at r3; exact r3,e8,by rw [r8.length]; exact e6,q L3 _ (st.trans s9) c9 τ ((rs.stp st).stp s9)⟩
       ·cases e4
      ·cases e4
     ·cases e4
    ·cases hf
   ·cases hf
  ·cases hf
 ·cases hf
def zGc:D -> Option V
 | .non=>some .non
 | .bl k=>some (.bl k)
 | .int i=>some (.int i)
 | .str x=>some (.str x)
 | _=>none
theorem zFV (h:Rep L H d v) (e:zGc d = some u):v = u:=by
 cases d with
 | non=>cases e; unfold Rep at h; exact h
 | bl _=>cases e; unfold Rep at h; exact h
 | int _=>cases e; unfold Rep at h; exact h
 | str _=>cases e; unfold Rep at h; exact h
 | tup _=>cases e
 | ref _=>cases e
def zLh (neg:Bool):K2:=fun x y M=>match x,y with
 | .dat d,.dat d'=>match zGc d,zGc d' with
  | some u,some w=>if zQk u w then some (.dat (.bl (if neg then !decide (u = w) else decide (u = w))),M) else none
  | _,_=>none
 | _,_=>none
theorem zIU (h:zLh neg x y M = some (r,M')):∃ d d' u w,x = .dat d /\ y = .dat d' /\ zGc d = some u /\ zGc d' = some w /\ zQk u w = true /\ r = .dat (.bl (if neg then !decide (u = w) else decide (u = w))) /\ M' = M:=by
 unfold zLh at h;split at h
 ·rename_i d d';split at h
  ·rename_i u w e1 e2;split at h
   ·rename_i hs;cases h;exact ⟨d,d',u,w,rfl,rfl,e1,e2,hs,rfl,rfl⟩
   ·cases h
  ·cases h
 ·cases h
theorem zMQ {K:PySem.W.Frag}:zB2 K rEq (zLh false):=by
 intro L M M' H H0 x y d v w Q c rx ry hk q;obtain ⟨d1,d2,u,z,rfl,rfl,e1,e2,hs,rfl,rfl⟩:=zIU hk;have a1:=zFV rx e1;have a2:=zFV ry e2;subst a1 a2;exact ⟨hs,q L H _ (.refl L H) c (zBS (L:=L) (H:=H))⟩
theorem zRU {K:PySem.W.Frag}:zB2 K rNe (zLh true):=by
 intro L M M' H H0 x y d v w Q c rx ry hk q;obtain ⟨d1,d2,u,z,rfl,rfl,e1,e2,hs,rfl,rfl⟩:=zIU hk;have a1:=zFV rx e1;have a2:=zFV ry e2;subst a1 a2;exact ⟨hs,q L H _ (.refl L H) c (zBS (L:=L) (H:=H))⟩
def zSJ (neg:Bool) (K:PySem.W.Frag):R2:=fun x y H Q=>∃ p q xs,x = .ref p /\ y = .ref q /\ SqL K H p xs /\ SqL K H q [] /\ Q (.bl (if neg then !xs.isEmpty else xs.isEmpty)) H
theorem zJD (r:zv [] its):its = []:=by cases r; rfl
theorem zKO (hu:X.A.units < cLine):OpR X (compareOp .Eq) (zSJ false X.K):=by
 intro zB s σ H x y v u Q I rx ry h;obtain ⟨p,q,xs,rfl,rfl,h1,h2,hq⟩:=h;cases rx;cases ry;obtain ⟨its,rv,pl,_⟩:=I.list h1;obtain ⟨its2,rv2,pl2,_⟩:=I.list h2;cases zJD rv2;cases rv with
 | nil=>exact SeqAt.eq_listAt (e:=fun _=>true) pl.isList pl2.isList rfl hu (fun j h1=>by simp at h1) ⟨.bl true,H,I,rfl,hq⟩
 | cons _ _=>exact SeqAt.eq_list_lengthsAt pl.isList pl2.isList (by simp) hu ⟨.bl false,H,I,rfl,hq⟩
theorem zPW (hu:X.A.units < cLine):OpR X (compareOp .NotEq) (zSJ true X.K):=by
 intro zB s σ H x y v u Q I rx ry h;obtain ⟨p,q,xs,rfl,rfl,h1,h2,hq⟩:=h;cases rx;cases ry;obtain ⟨its,rv,pl,_⟩:=I.list h1;obtain ⟨its2,rv2,pl2,_⟩:=I.list h2;cases zJD rv2;cases rv with
 | nil=>exact SeqAt.RcNeAt.lists (e:=fun _=>true) pl.isList pl2.isList rfl hu (fun j h1=>by simp at h1) _ _ _ _ ⟨.bl false,H,I,rfl,hq⟩
 | cons _ _=>exact SeqAt.RcNeAt.lists_lengths pl.isList pl2.isList (by simp) hu _ _ _ _ ⟨.bl true,H,I,rfl,hq⟩
def zO9 (neg:Bool):K2:=fun x y M=>match zCE M x,zCE M y with
 | some xs,some []=>some (.dat (.bl (if neg then !xs.isEmpty else xs.isEmpty)),M)
 | _,_=>none
theorem zKA {K:PySem.W.Frag} {neg:Bool}:zB2 K (zSJ neg K) (zO9 neg):=by
 intro L M M' H H0 x y d v w Q c rx ry hk q;unfold zO9 at hk;split at hk
 ·rename_i xs e1 e2;cases hk;obtain ⟨p1,vs,rfl,h1,r1⟩:=zCi c rx e1;obtain ⟨p2,ws,rfl,h2,r2⟩:=zCi c ry e2;unfold za at r2;subst r2;refine ⟨p1,p2,vs,rfl,rfl,.inl h1,.inl h2,q L H _ (.refl L H) c ?_⟩;have:vs.isEmpty = xs.isEmpty:=by
   have:=r1.length;cases vs <;> cases xs <;> simp_all
  rw [this];exact (zBS (L:=L) (H:=H))
 ·cases hk
def kOr (k1 k2:K2):K2:=fun x y M=>match k1 x y M with
 | some r=>some r
 | none=>k2 x y M
theorem zJe {K:PySem.W.Frag} {r1 r2:R2} {k1 k2:K2} (h1:zB2 K r1 k1) (h2:zB2 K r2 k2):zB2 K (fun x y H Q=>r1 x y H Q \/ r2 x y H Q) (kOr k1 k2):=by
 intro L M M' H H0 x y d v w Q c rx ry hk q;unfold kOr at hk;split at hk
 ·rename_i r e1;cases hk;exact .inl (h1 c rx ry e1 q)
 ·exact .inr (h2 c rx ry hk q)
abbrev kEq:K2:=kOr (zLh false) (zO9 false)
abbrev kNe:K2:=kOr (zLh true) (zO9 true)
variable {f g:FE}
theorem zQ0 (hu:X.A.units < cLine) (h1:QE X a f) (h2:QE X b g):QE X (.Compare a [.Eq] [b] pos) (fOp kEq f g):=zPv (zJe zMQ zKA) (zR8.or (zKO hu)) h1 h2 (zEc _)
theorem zCU (hu:X.A.units < cLine) (h1:QE X a f) (h2:QE X b g):QT X (.Compare a [.Eq] [b] pos) (tst (fOp kEq f g)):=zG3 (zJe zMQ zKA) (zR8.or (zKO hu)) h1 h2 (zEc _)
theorem zMd (hu:X.A.units < cLine) (h1:QE X a f) (h2:QE X b g):QT X (.Compare a [.NotEq] [b] pos) (tst (fOp kNe f g)):=zG3 (zJe zRU zKA) (zUC.or (zPW hu)) h1 h2 (zEc _)
def zNI:KB:=fun xs M=>match xs with
 | [.dat (.int i)]=>some (.dat (.int (if i < 0 then -i else i)),M)
 | _=>none
theorem zQw {K:PySem.W.Frag}:zFt K (fun xs H Q=>∃ i,xs = [.int i] /\ Q (.int (if i < 0 then -i else i)) H) zNI:=by
 intro L M M' H H0 xs d vs Q c r hk q;unfold zNI at hk;split at hk
 ·rename_i i;cases hk;obtain ⟨v,rfl,r1⟩:=r.one;have:v = .int i:=by unfold zo Rep at r1; exact r1
  subst this;exact ⟨i,rfl,q L H _ (.refl L H) c (zAo (L:=L) (H:=H))⟩
 ·cases hk
def zLZ:KB:=fun xs M=>match xs with
 | [.dat (.int i)]=>some (.dat (.int i),M)
 | [.dat (.bl k)]=>some (.dat (.int (if k then 1 else 0)),M)
 | _=>none
theorem zQi {K:PySem.W.Frag}:zFt K (fun xs H Q=>(∃ i,xs = [.int i] /\ Q (.int i) H) \/ ∃ k,xs = [.bl k] /\ Q (.int (if k then 1 else 0)) H) zLZ:=by
 intro L M M' H H0 xs d vs Q c r hk q;unfold zLZ at hk;split at hk
 ·rename_i i;cases hk;obtain ⟨v,rfl,r1⟩:=r.one;have:v = .int i:=by unfold zo Rep at r1; exact r1
  subst this;exact .inl ⟨i,rfl,q L H _ (.refl L H) c (zAo (L:=L) (H:=H))⟩
 ·rename_i k;cases hk;obtain ⟨v,rfl,r1⟩:=r.one;have:=zAd r1;subst this;exact .inr ⟨k,rfl,q L H _ (.refl L H) c (zAo (L:=L) (H:=H))⟩
 ·cases hk
end
section
variable {X:Cx} {a b c e:Expr} {es rest:List Expr} {pos p apos cpos:Pos}
theorem zPq {prog:Program} {w:World} {A:Around} {E:Value -> Shared -> Prop} {s:Shared} {t b:Addr} {ws:List Value} {Q:Value -> Shared -> Prop} (ht:IsTup s.heap t #[]) (hb:IsTup s.heap b ws.toArray) (h1:Q (.ref b) s) :
  wpAny (model prog w) A (binaryOp .Add (.ref t) (.ref b)) Q E s:=by
 obtain ⟨⟨cls,dd,data,sl⟩,ho,hc,n,hd⟩:=id ht;obtain ⟨⟨cls2,dd2,data2,sl2⟩,ho2,hc2,n2,hd2⟩:=id hb;simp only at hc hd hc2 hd2;subst hc hd hc2 hd2
 exact concat_meets ⟨_,ho,rfl⟩ ⟨_,ho2,rfl⟩ noFill_tuple_add seq_tuple_add PySem.F.slot_tuple_add PySem.F.entry_tuple_add (PySem.F.args_tuple_add_2 _ _)
   (tuple_addW0 t b #[] ws.toArray n n2 dd dd2 sl sl2 (by simp)) ⟨ho,ho2,h1⟩
def zQV (K:PySem.W.Frag):R2:=fun x y H Q=>∃ a b ys,x = .ref a /\ y = .ref b /\ SqT K H a [] /\ SqT K H b ys /\ Q (.ref b) H
theorem zQZ:OpR X (binaryOp .Add) (zQV X.K):=by
 intro zB s σ H x y v u Q I rx ry h;obtain ⟨a,b,ys,rfl,rfl,ha,hb,q⟩:=h;cases rx;cases ry;obtain ⟨its,r1,p1,_⟩:=I.tuple ha;obtain ⟨its2,r2,p2,_⟩:=I.tuple hb;cases zJD r1;exact zPq p1 p2 ⟨.ref b,H,I,rfl,q⟩
def zP5:K2:=fun x y M=>match zD7 x,zD7 y with
 | some xs,some ys=>if xs.length + ys.length <= sizeLine then some (.dat (.tup (xs ++ ys)),M) else none
 | _,_=>none
theorem zOc {K:PySem.W.Frag}:zB2 K (fun x y H Q=>zRv K x y H Q \/ zQV K x y H Q) zP5:=by
 intro L M M' H H0 x y d v w Q c rx ry hk q;unfold zP5 at hk;split at hk
 ·rename_i xs ys e1 e2;split at hk
  ·rename_i hz;cases hk;obtain ⟨p1,vs,rfl,h1,r1⟩:=zD4 rx e1;obtain ⟨p2,ws,rfl,h2,r2⟩:=zD4 ry e2;cases xs with
   | nil=>
    refine .inr ⟨p1,p2,ws,rfl,rfl,.of (by unfold za at r1; subst r1; exact h1),.of h2,q L H _ (.refl L H) c ?_⟩;unfold zo Rep;exact ⟨p2,ws,rfl,h2,r2⟩
   | cons x0 xr=>
    have hv:vs ≠ []:=fun z=>by have:=r1.length; rw [z] at this; simp at this
    refine .inl ⟨p1,p2,vs,ws,rfl,rfl,.of h1,.of h2,hv,by rw [r1.length,r2.length]; exact hz,fun z=>?_,fun z pp hp=>?_⟩
    ·have:ys = []:=by
      have:=r2.length; rw [z] at this;cases ys with
      | nil=>rfl
      | cons _ _=>simp at this
     subst this;refine q L H _ (.refl L H) c ?_;unfold zo Rep;rw [zVi];exact ⟨p1,vs,rfl,h1,r1⟩
    ·exact q L _ _ (.upd hp) (c.upd hp) (Rep.newTup hp (r1.app r2))
  ·cases hk
 ·cases hk
abbrev zAe:K2:=kOr zUc zP5
variable {f g:FE}
theorem zA9 (h1:QE X a f) (h2:QE X b g):QE X (.BinOp a .Add b pos) (fOp zAe f g):=zMO (zJe (zC8 fun _ _ _ _=>zAo) zOc) (zSi.or (zRd.or zQZ)) h1 h2
structure Kinds (K:PySem.W.Frag):Prop where
 k:∀ t T,t ∈ ["NoneType", "bool", "int", "str", "list", "tuple", "dict"] -> T ∈ ["int", "bool", "str", "tuple"] -> PySem.W.kitOne K (.type t) (.type T) = some (decide (t = T) || (decide (t = "bool") && decide (T = "int")))
def zG8 (M:Mem):EV -> Option String
 | .dat .non=>some "NoneType"
 | .dat (.bl _)=>some "bool"
 | .dat (.int _)=>some "int"
 | .dat (.str _)=>some "str"
 | .dat (.tup _)=>some "tuple"
 | .fl _=>some "list"
 | .dat (.ref n)=>match M[n]? with
  | some (.lst _)=>some "list"
  | some (.fro _)=>some "list"
  | some (.dict _)=>some "dict"
  | some (.dicT _)=>some "dict"
  | _=>none
theorem zSF {K:PySem.W.Frag} {L:List Addr} {M:Mem} {H H0:Hp} {x:EV} {v:V} {t:String} (c:Cor K L M H) (r:zo H0 L H x v) (h:zG8 M x = some t):TyOf K H v (.type t) /\ t ∈ ["NoneType", "bool", "int", "str", "list", "tuple", "dict"]:=by
 unfold zG8 at h;split at h
 ·cases h; unfold zo Rep at r; subst r; exact ⟨.non,by simp⟩
 ·cases h; unfold zo Rep at r; subst r; exact ⟨.bl _,by simp⟩
 ·cases h; unfold zo Rep at r; subst r; exact ⟨.int _,by simp⟩
 ·cases h; unfold zo Rep at r; subst r; exact ⟨.str _,by simp⟩
 ·cases h; unfold zo Rep at r; obtain ⟨a,vs,rfl,e,_⟩:=r; exact ⟨.tup e,by simp⟩
 ·cases h;obtain ⟨p,vs,rfl,_,e,_⟩:=r;exact ⟨.lst e,by simp⟩
 ·unfold zo Rep at r;obtain ⟨a,rfl,e⟩:=r;split at h
  ·rename_i e1; cases h; obtain ⟨vs,q,_⟩:=c.obj _ a _ e e1; exact ⟨.lst q,by simp⟩
  ·rename_i e1; cases h; obtain ⟨o,vs,q,_⟩:=c.obj _ a _ e e1; exact ⟨.frz q,by simp⟩
  ·rename_i e1; cases h; obtain ⟨vs,q,_⟩:=c.obj _ a _ e e1; exact ⟨.dK q,by simp⟩
  ·rename_i e1; cases h; obtain ⟨vs,q,_⟩:=c.obj _ a _ e e1; exact ⟨.dT q,by simp⟩
  ·cases h
def isT (t T:String):Bool:=decide (t = T) || (decide (t = "bool") && decide (T = "int"))
def zFK (T:String) (f:FE):FE:=fun σ M=>match f σ M with
 | some (x,M1)=>match zG8 M1 x with
  | some t=>some (.dat (.bl (isT t T)),M1)
  | none=>none
 | none=>none
def zUS (K:PySem.W.Frag) (T:String):List V -> Hp -> VK -> Prop:=fun xs H Q=>∃ x t b,xs = [x,.ty T] /\ TyOf K H x t /\ PySem.W.kitOne K t (.type T) = some b /\ Q (.bl b) H
theorem zOr:zBz X (.builtin "isinstance") (zUS X.K T):=by
 intro zB s σ H xs us Q I r h;obtain ⟨x,t,b,rfl,ty,e,q⟩:=h;cases r with
 | cons r1 r2=>
  cases r2 with
  | cons r3 r4=>
   cases r4;cases r3;exact zN0 I r1 ty e fun tk=>⟨.bl b,H,I.tok _,rfl,q⟩
theorem zFf (hK:Kinds X.K) (hT:T ∈ ["int", "bool", "str", "tuple"]) (hg:Gl X "isinstance") (hm:X.mg "isinstance" = none) (hg2:Gl X y) (hm2:X.mg y = none) (hv2:bootBuiltins y = some (.type T)) (hn2:y ≠ "__name__") (hd2:(y == ("__debug__" : Str)) = false) (h:QE X e f)
  (he:starEach (e :: [.Name y p2]) X.env = (false,eval e X.env) :: starEach [.Name y p2] X.env:=by rfl) (he2:starEach [.Name y p2] X.env = (false,eval (.Name y p2) X.env) :: starEach [] X.env:=by rfl) (hpl:(backTo pos (starEach [.Name y p2] X.env)).any (·.1) = false:=by rfl) :
  QE X (.Call (.Name "isinstance" p1) [e,.Name y p2] [] pos) (zFK T f) :=
 .mk <| PE.imp (zK4 (r:=zUS X.K T) zOr hg hm (by rfl) (zDP h.un (zDP (zRg (v:=.ty T) hg2 hm2 hv2 rfl hn2 hd2) zFF he2) he) (by decide) (by decide) he hpl) fun τ H Q zz=>by
  obtain ⟨L,σ,M,d,M',c,rs,hf,q⟩:=zz;unfold zFK at hf;split at hf
  ·rename_i x M1 e1;split at hf
   ·rename_i t e2;cases hf;refine ⟨L,σ,M,_,_,c,rs,e1,fun L1 H1 v s1 c1 r1=>?_⟩;obtain ⟨ty,ht⟩:=zSF c1 r1 e2;exact ⟨v,_,_,rfl,ty,hK.k t T ht hT,q L1 H1 _ s1 c1 (zBS (L:=L1) (H:=H1))⟩
   ·cases hf
  ·cases hf
theorem za.two (h:za L H [d,d'] vs):∃ v v',vs = [v,v'] /\ Rep L H d v /\ Rep L H d' v':=by
 unfold za at h;obtain ⟨v,r,rfl,h1,h2⟩:=h;obtain ⟨v',rfl,h3⟩:=h2.one;exact ⟨v,v',rfl,h1,h3⟩
section
variable {fa:FAE}
theorem zBL (hg:Gl X "len") (hm:X.mg "len" = none) (ha:QAE X [e] fa) (he:starEach [e] X.env = (false,eval e X.env) :: starEach [] X.env:=by rfl) (hpl:(backTo pos (starEach [] X.env)).any (·.1) = false:=by rfl):QE X (.Call (.Name "len" p) [e] [] pos) (fB zA3 fa) :=
 zEt zRX zJa PySem.boot_len hg hm ha (by decide) (by decide) he hpl
theorem zCg (hg:Gl X "tuple") (hm:X.mg "tuple" = none) (ha:QAE X [e] fa) (he:starEach [e] X.env = (false,eval e X.env) :: starEach [] X.env:=by rfl) (hpl:(backTo pos (starEach [] X.env)).any (·.1) = false:=by rfl):QE X (.Call (.Name "tuple" p) [e] [] pos) (fB zBQ fa) :=
 zEJ zN8 zID (by rfl) hg hm ha (by decide) (by decide) he hpl
theorem zR4 (hg:Gl X "abs") (hm:X.mg "abs" = none) (ha:QAE X [e] fa) (he:starEach [e] X.env = (false,eval e X.env) :: starEach [] X.env:=by rfl) (hpl:(backTo pos (starEach [] X.env)).any (·.1) = false:=by rfl):QE X (.Call (.Name "abs" p) [e] [] pos) (fB zNI fa) :=
 zEt zQw zQI (by rfl) hg hm ha (by decide) (by decide) he hpl
theorem zOh (hg:Gl X "int") (hm:X.mg "int" = none) (ha:QAE X [e] fa) (he:starEach [e] X.env = (false,eval e X.env) :: starEach [] X.env:=by rfl) (hpl:(backTo pos (starEach [] X.env)).any (·.1) = false:=by rfl):QE X (.Call (.Name "int" p) [e] [] pos) (fB zLZ fa) :=
 zEJ zQi zNs (by rfl) hg hm ha (by decide) (by decide) he hpl
end
end
def zKF (sc scope:Scope):Bool:=scope.names.all fun y=>
 (y.2 != .local || scope.names.lookup y.1 == some .local) && (y.2 != .cell || scope.names.lookup y.1 == some .cell) && (y.2 != .free || (sc.names.lookup y.1 == some .cell || sc.names.lookup y.1 == some .free))
def zMh (N:List Str) (scope:Scope) (own:List Nat):Bool:=(List.range N.length).all fun i=>match N[i]? with
 | some x=>decide (i ∈ own) || (scope.names.lookup x == none) || (scope.names.lookup x == some .free)
 | none=>true
theorem zr (hk:scope.kind = .function) (hs:X.env.scope = sc) (hN:X.N = N) (h1:zKF sc scope = true) (h2:zMh N scope own = true):CompIn X scope own:=by
 unfold zKF at h1;rw [zVZ] at h1;refine ⟨⟨hk,fun y hy e=>?_,fun y hy e=>?_,fun y hy e=>?_⟩,fun i x e=>?_⟩
 ·have:=h1 y hy;simp [e] at this;exact this
 ·have:=h1 y hy;simp [e] at this;exact this
 ·have:=h1 y hy;simp [e] at this;show X.env.scope.names.lookup y.1 = _ \/ X.env.scope.names.lookup y.1 = _;rw [hs];exact this
 ·unfold zMh at h2;rw [zVZ] at h2;rw [hN] at e;have hi:i < N.length:=(zU1.mp e).1;have:=h2 i (by simpa using hi);rw [e] at this;simp only [Bool.or_eq_true,zWB,beq_iff_eq,or_assoc] at this;exact this
def zJp (K:PySem.W.Frag):Bool:=K.all fun p=>match p.2.cls with
 | .type n=>n != "list"
 | _=>true
theorem zKk:∀ {K:PySem.W.Frag},K.lookup a = some o -> (a,o) ∈ K
 | [],h=>by cases h
 | (b,u) :: r,h=>by
  have h':List.lookup a ((b,u) :: r) = some o:=h;rw [zW3] at h';cases q:a == b with
  | true=>rw [q] at h'; cases h'; rw [beq_iff_eq.mp q]; exact zVC
  | false=>rw [q] at h'; exact zVB _ (zKk h')
theorem zNa {K:PySem.W.Frag} (h:zJp K = true) {o:Obj} (e:K.lookup a = some o) (hc:o.cls = .type "list"):False:=by
 unfold zJp at h;rw [zVZ] at h;have:=h (a,o) (zKk e);simp [hc] at this
theorem zIh:∀ (ns:List Int),za L H (ns.map D.int) (ns.map V.int)
 | []=> .nil
 | n :: r=> .cons (by unfold Rep; rfl) (zIh r)
theorem zN3 {K:PySem.W.Frag} {m:FF} {H:Hp} {a:Addr} {ns:List Int} {E:XK} (hL:zJp K = true) (hO:zRV H) (hS:SqL K H a (ns.map V.int)) (h:∃ M',m [.ref 0] [.fro (ns.map D.int)] = some (.bl true,M')) :
  spF K 1 m [.ref a] H (fun v _=>v = .bl true) E:=by
 obtain ⟨M',e⟩:=h;have hf:∃ o,H a = some (.frz o (.lst (ns.map V.int))):=by
  rcases hS with (h1 | h1) | ⟨o,its,n,h1,h2,_⟩
  ·rcases hO a with z | ⟨o,xs,z⟩
   ·rw [h1] at z; cases z
   ·rw [h1] at z; cases z
  ·exact h1
  ·exact (zNa hL h1 h2).elim
 obtain ⟨o,hf⟩:=hf;refine ⟨[a],[.ref 0],[.fro (ns.map D.int)],_,_,⟨rfl,by simp,fun n b m e1 e2=>?_⟩,.cons ?_ .nil,rfl,e,fun L' H' v s c r=>?_⟩
 ·cases n with
  | zero=>simp at e1 e2; subst e1; subst e2; exact ⟨o,_,hf,zIh ns⟩
  | succ n=>simp at e1
 ·unfold Rep; exact ⟨a,rfl,rfl⟩
 ·unfold Rep at r; exact r
def Ok {α:Type} (x:Option (α × Mem)) (P:α -> Mem -> Prop):Prop:=∃ a M,x = some (a,M) /\ P a M
def OkS (x:Option (Out × Sd × Mem)) (P:Out -> Sd -> Mem -> Prop):Prop:=∃ o σ M,x = some (o,σ,M) /\ P o σ M
theorem Ok.mono {α:Type} {x:Option (α × Mem)} {P Q:α -> Mem -> Prop} (h:Ok x P) (hq:∀ a M,P a M -> Q a M):Ok x Q:=let ⟨a,M,e,p⟩:=h; ⟨a,M,e,hq a M p⟩
theorem OkS.mono {x:Option (Out × Sd × Mem)} {P Q:Out -> Sd -> Mem -> Prop} (h:OkS x P) (hq:∀ o σ M,P o σ M -> Q o σ M):OkS x Q:=let ⟨a,σ,M,e,p⟩:=h; ⟨a,σ,M,e,hq a σ M p⟩
theorem zAI {α:Type} {a:α} {M:Mem} {P:α -> Mem -> Prop}:Ok (some (a,M)) P ↔ P a M:=⟨fun ⟨_,_,e,p⟩=>by cases e; exact p,fun p=>⟨a,M,rfl,p⟩⟩
theorem zGv {α:Type} {P:α -> Mem -> Prop}:Ok (none:Option (α × Mem)) P ↔ False:=⟨(fun ⟨_,_,e,_⟩=>(nomatch e)),fun h=>h.elim⟩
theorem zO0 {o:Out} {σ:Sd} {M:Mem} {P:Out -> Sd -> Mem -> Prop}:OkS (some (o,σ,M)) P ↔ P o σ M:=⟨fun ⟨_,_,_,e,p⟩=>by cases e; exact p,fun p=>⟨o,σ,M,rfl,p⟩⟩
section
variable {σ:Sd} {M:Mem} {f g:FE} {P:EV -> Mem -> Prop}
theorem zAZ {i:Nat}:Ok (zD i σ M) P ↔ ∃ d,σ[i]? = some (some d) /\ P (.dat d) M:=by
 unfold zD;constructor
 ·rintro ⟨a,M1,e,p⟩;split at e
  ·rename_i d e1; cases e; exact ⟨d,e1,p⟩
  ·cases e
 ·rintro ⟨d,e1,p⟩;rw [e1]; exact ⟨_,_,rfl,p⟩
theorem zCx {d:D}:Ok (fC d σ M) P ↔ P (.dat d) M:=zAI
theorem zAi {k:K2}:Ok (fOp k f g σ M) P ↔ Ok (f σ M) fun x M1=>Ok (g σ M1) fun y M2=>Ok (k x y M2) P:=by
 unfold fOp;constructor
 ·rintro ⟨a,M1,e,p⟩;split at e
  ·rename_i x M2 e1;split at e
   ·rename_i y M3 e2;exact ⟨x,M2,e1,y,M3,e2,a,M1,e,p⟩
   ·cases e
  ·cases e
 ·rintro ⟨x,M2,e1,y,M3,e2,a,M1,e,p⟩;rw [e1]; dsimp only; rw [e2]; exact ⟨a,M1,e,p⟩
def zH7 (P:D -> Mem -> Prop):EV -> Mem -> Prop
 | .dat d,M=>P d M
 | .fl xs,M=>P (.ref M.length) (M ++ [.lst xs])
theorem zA5 {P:D -> Mem -> Prop}:Ok (toD f σ M) P ↔ Ok (f σ M) (zH7 P):=by
 unfold toD;constructor
 ·rintro ⟨a,M1,e,p⟩;split at e
  ·rename_i d M2 e1; cases e; exact ⟨_,_,e1,p⟩
  ·rename_i xs M2 e1; cases e; exact ⟨_,_,e1,p⟩
  ·cases e
 ·rintro ⟨x,M2,e1,p⟩;rw [e1];cases x with
  | dat d=>exact ⟨d,M2,rfl,p⟩
  | fl xs=>exact ⟨_,_,rfl,p⟩
theorem zV {P:D -> Mem -> Prop} {d:D} {M:Mem}:zH7 P (.dat d) M ↔ P d M:=Iff.rfl
theorem zGs {P:D -> Mem -> Prop} {xs:List D} {M:Mem}:zH7 P (.fl xs) M ↔ P (.ref M.length) (M ++ [.lst xs]):=Iff.rfl
section
variable {P:List D -> Mem -> Prop}
theorem zCl:Ok (zM σ M) P ↔ P [] M:=zAI
theorem zBC {f:FD} {g:FA}:Ok (zF f g σ M) P ↔ Ok (f σ M) fun d M1=>Ok (g σ M1) fun ds M2=>P (d :: ds) M2:=by
 unfold zF;constructor
 ·rintro ⟨a,M1,e,p⟩;split at e
  ·rename_i x M2 e1;split at e
   ·rename_i y M3 e2;cases e;exact ⟨x,M2,e1,y,_,e2,p⟩
   ·cases e
  ·cases e
 ·rintro ⟨x,M2,e1,y,M3,e2,p⟩;rw [e1]; dsimp only; rw [e2]; exact ⟨_,_,rfl,p⟩
end
section
variable {P:List EV -> Mem -> Prop}
theorem zEn:Ok (zt σ M) P ↔ P [] M:=zAI
theorem zDg {f:FE} {g:FAE}:Ok (zY f g σ M) P ↔ Ok (f σ M) fun d M1=>Ok (g σ M1) fun ds M2=>P (d :: ds) M2:=by
 unfold zY;constructor
 ·rintro ⟨a,M1,e,p⟩;split at e
  ·rename_i x M2 e1;split at e
   ·rename_i y M3 e2;cases e;exact ⟨x,M2,e1,y,_,e2,p⟩
   ·cases e
  ·cases e
 ·rintro ⟨x,M2,e1,y,M3,e2,p⟩;rw [e1]; dsimp only; rw [e2]; exact ⟨_,_,rfl,p⟩
end
theorem zJX {a:FA}:Ok (zAj a σ M) P ↔ Ok (a σ M) fun ds M1=>ds.length <= sizeLine /\ P (.fl ds) M1:=by
 unfold zAj;constructor
 ·rintro ⟨x,M1,e,p⟩;split at e
  ·rename_i ds M2 e1;split at e
   ·rename_i hz; cases e; exact ⟨ds,_,e1,hz,p⟩
   ·cases e
  ·cases e
 ·rintro ⟨ds,M1,e1,hz,p⟩;rw [e1]; dsimp only; rw [zVD hz]; exact ⟨_,_,rfl,p⟩
theorem zNV {k:KB} {a:FAE}:Ok (fB k a σ M) P ↔ Ok (a σ M) fun xs M1=>Ok (k xs M1) P:=by
 unfold fB;constructor
 ·rintro ⟨x,M1,e,p⟩;split at e
  ·rename_i ds M2 e1; exact ⟨ds,_,e1,x,M1,e,p⟩
  ·cases e
 ·rintro ⟨ds,M1,e1,p⟩;rw [e1]; exact p
theorem zCf {m:FF} {a:FA}:Ok (zb m a σ M) P ↔ Ok (a σ M) fun ds M1=>Ok (m ds M1) fun d M2=>P (.dat d) M2:=by
 unfold zb;constructor
 ·rintro ⟨x,M1,e,p⟩;split at e
  ·rename_i ds M2 e1;split at e
   ·rename_i d M3 e2; cases e; exact ⟨ds,_,e1,d,_,e2,p⟩
   ·cases e
  ·cases e
 ·rintro ⟨ds,M1,e1,d,M2,e2,p⟩;rw [e1]; dsimp only; rw [e2]; exact ⟨_,_,rfl,p⟩
theorem zNT {k:KM} {a:FA}:Ok (fM k f a σ M) P ↔ Ok (f σ M) fun x M1=>(∃ xs,zCE M1 x = some xs) /\ Ok (a σ M1) fun ds M2=>Ok (k x ds M2) fun d M3=>P (.dat d) M3:=by
 unfold fM;constructor
 ·rintro ⟨x,M1,e,p⟩;split at e
  ·rename_i y M2 e1;split at e
   ·rename_i xs e2;split at e
    ·rename_i ds M3 e3;split at e
     ·rename_i d M4 e4; cases e; exact ⟨y,_,e1,⟨xs,e2⟩,ds,_,e3,d,_,e4,p⟩
     ·cases e
    ·cases e
   ·cases e
  ·cases e
 ·rintro ⟨y,M1,e1,⟨xs,e2⟩,ds,M2,e3,d,M3,e4,p⟩;rw [e1]; dsimp only; rw [e2]; dsimp only; rw [e3]; dsimp only; rw [e4]; exact ⟨_,_,rfl,p⟩
section
variable {P:Option Int -> Mem -> Prop}
theorem zHY:Ok (zBc σ M) P ↔ P none M:=zAI
def zTl (P:Option Int -> Mem -> Prop):EV -> Mem -> Prop
 | .dat (.int i),M=>P (some i) M
 | _,_=>False
theorem zH5 {i:Int} {M:Mem}:zTl P (.dat (.int i)) M ↔ P (some i) M:=Iff.rfl
theorem zHk:Ok (zBN f σ M) P ↔ Ok (f σ M) (zTl P):=by
 unfold zBN;constructor
 ·rintro ⟨x,M1,e,p⟩;split at e
  ·rename_i i M2 e1; cases e; exact ⟨_,_,e1,p⟩
  ·cases e
 ·rintro ⟨x,M1,e1,p⟩;rw [e1];cases x with
  | fl xs=>exact p.elim
  | dat d=>
   cases d with
   | int i=>exact ⟨_,_,rfl,p⟩
   | _=>exact p.elim
end
theorem zOo {l h:FO}:Ok (fSl f l h σ M) P ↔ Ok (f σ M) fun x M1=>Ok (l σ M1) fun lo M2=>Ok (h σ M2) fun hi M3=>Ok (kSl x lo hi M3) P:=by
 unfold fSl;constructor
 ·rintro ⟨x,M1,e,p⟩;split at e
  ·rename_i y M2 e1;split at e
   ·rename_i lo M3 e2;split at e
    ·rename_i hi M4 e3; exact ⟨y,_,e1,lo,_,e2,hi,_,e3,x,M1,e,p⟩
    ·cases e
   ·cases e
  ·cases e
 ·rintro ⟨y,M1,e1,lo,M2,e2,hi,M3,e3,p⟩;rw [e1]; dsimp only; rw [e2]; dsimp only; rw [e3]; exact p
def blP (P:Bool -> Mem -> Prop):EV -> Mem -> Prop
 | .dat (.bl k),M=>P k M
 | _,_=>False
theorem zEV {P:Bool -> Mem -> Prop} {k:Bool} {M:Mem}:blP P (.dat (.bl k)) M ↔ P k M:=Iff.rfl
theorem zKD {P:Bool -> Mem -> Prop}:Ok (tst f σ M) P ↔ Ok (f σ M) (blP P):=by
 unfold tst;constructor
 ·rintro ⟨x,M1,e,p⟩;split at e
  ·rename_i i M2 e1; cases e; exact ⟨_,_,e1,p⟩
  ·cases e
 ·rintro ⟨x,M1,e1,p⟩;rw [e1];cases x with
  | fl xs=>exact p.elim
  | dat d=>
   cases d with
   | bl i=>exact ⟨_,_,rfl,p⟩
   | _=>exact p.elim
section
variable {P:Bool -> Mem -> Prop} {s t:FT}
theorem zLQ:Ok (zAE σ M) P ↔ P true M:=zAI
theorem zQh:Ok (zBo s t σ M) P ↔ Ok (s σ M) fun k M1=>if k then Ok (t σ M1) P else P false M1:=by
 unfold zBo;constructor
 ·rintro ⟨x,M1,e,p⟩;split at e
  ·rename_i M2 e1; exact ⟨true,M2,e1,by dsimp only; rw [zVD rfl]; exact ⟨x,M1,e,p⟩⟩
  ·rename_i hn;cases x with
   | true=>exact absurd e (hn M1)
   | false=>exact ⟨false,M1,e,by simpa using p⟩
 ·rintro ⟨x,M1,e1,p⟩;rw [e1];cases x with
  | true=>simpa using p
  | false=>exact ⟨false,M1,rfl,by simpa using p⟩
end
end
section
variable {σ:Sd} {M:Mem} {f g:FS} {P:Out -> Sd -> Mem -> Prop}
def nxP (k:Sd -> Mem -> Prop) (P:Out -> Sd -> Mem -> Prop):Out -> Sd -> Mem -> Prop
 | .nx,σ,M=>k σ M
 | o,σ,M=>P o σ M
theorem zd {k:Sd -> Mem -> Prop}:nxP k P .nx σ M ↔ k σ M:=Iff.rfl
theorem zD1 {k:Sd -> Mem -> Prop} {d:D}:nxP k P (.ret d) σ M ↔ P (.ret d) σ M:=Iff.rfl
theorem zBM:OkS (zBP σ M) P ↔ P .nx σ M:=zO0
theorem zT:OkS (zX f g σ M) P ↔ OkS (f σ M) (nxP (fun σ1 M1=>OkS (g σ1 M1) P) P):=by
 unfold zX;constructor
 ·rintro ⟨o,σ1,M1,e,p⟩;split at e
  ·rename_i σ2 M2 e1; exact ⟨_,_,_,e1,o,σ1,M1,e,p⟩
  ·rename_i hn;refine ⟨o,σ1,M1,e,?_⟩;cases o with
   | nx=>exact absurd e (hn σ1 M1)
   | _=>exact p
 ·rintro ⟨o,σ1,M1,e1,p⟩;rw [e1];cases o with
  | nx=>exact p
  | _=>exact ⟨_,_,_,rfl,p⟩
theorem zBV {c:FT}:OkS (sIf c f g σ M) P ↔ Ok (c σ M) fun k M1=>if k then OkS (f σ M1) P else OkS (g σ M1) P:=by
 unfold sIf;constructor
 ·rintro ⟨o,σ1,M1,e,p⟩;split at e
  ·rename_i M2 e1; exact ⟨_,_,e1,by dsimp only; rw [zVD rfl]; exact ⟨o,σ1,M1,e,p⟩⟩
  ·rename_i M2 e1; exact ⟨_,_,e1,by simpa using ⟨o,σ1,M1,e,p⟩⟩
  ·cases e
 ·rintro ⟨x,M1,e1,p⟩;rw [e1];cases x with
  | true=>simpa using p
  | false=>simpa using p
theorem zAu {h:FE}:OkS (zAN h σ M) P ↔ Ok (h σ M) (zH7 fun d M1=>P (.ret d) σ M1):=by
 rw [<- zA5];unfold zAN;constructor
 ·rintro ⟨o,σ1,M1,e,p⟩;split at e
  ·rename_i d M2 e1; cases e; exact ⟨_,_,e1,p⟩
  ·cases e
 ·rintro ⟨x,M1,e1,p⟩;rw [e1]; exact ⟨_,_,_,rfl,p⟩
theorem zk {i:Nat} {h:FE}:OkS (zAR i h σ M) P ↔ Ok (h σ M) (zH7 fun d M1=>P .nx (σ.set i (some d)) M1):=by
 rw [<- zA5];unfold zAR;constructor
 ·rintro ⟨o,σ1,M1,e,p⟩;split at e
  ·rename_i d M2 e1; cases e; exact ⟨_,_,e1,p⟩
  ·cases e
 ·rintro ⟨x,M1,e1,p⟩;rw [e1]; exact ⟨_,_,_,rfl,p⟩
theorem zDj {h:FE}:OkS (zCD h σ M) P ↔ Ok (h σ M) fun _ M1=>P .nx σ M1:=by
 unfold zCD;constructor
 ·rintro ⟨o,σ1,M1,e,p⟩;split at e
  ·rename_i d M2 e1; cases e; exact ⟨_,_,e1,p⟩
  ·cases e
 ·rintro ⟨x,M1,e1,p⟩;rw [e1]; exact ⟨_,_,_,rfl,p⟩
theorem zJO {v o i:FE}:OkS (zL0 v o i σ M) P ↔ Ok (v σ M) (zH7 fun d M1=>Ok (o σ M1) fun x M2=>Ok (i σ M2) (zH7 fun j M3=>∃ M4,zLD x j d M3 = some M4 /\ P .nx σ M4)):=by
 rw [<- zA5];unfold zL0;constructor
 ·rintro ⟨o,σ1,M1,e,p⟩;split at e
  ·rename_i d M2 e1;split at e
   ·rename_i x M3 e2;split at e
    ·rename_i j M4 e3;split at e
     ·rename_i M5 e4;cases e;refine ⟨_,_,e1,_,_,e2,?_⟩;dsimp only; rw [<- zA5];exact ⟨_,_,e3,_,e4,p⟩
     ·cases e
    ·cases e
   ·cases e
  ·cases e
 ·rintro ⟨d,M1,e1,x,M2,e2,p⟩;rw [<- zA5] at p;obtain ⟨j,M3,e3,M4,e4,p⟩:=p;rw [e1]; dsimp only; rw [e2]; dsimp only; rw [e3]; dsimp only; rw [e4]; exact ⟨_,_,_,rfl,p⟩
theorem zAT {n:Nat} {ds:List D} {Q:D -> Mem -> Prop}:Ok (zBe n f ds M) Q ↔ OkS (f (ds.map some ++ List.replicate (n - ds.length) none) M) fun o _ M1=>match o with | .ret d=>Q d M1 | .nx=>Q .non M1 | _=>False:=by
 unfold zBe;constructor
 ·rintro ⟨o,M1,e,p⟩;split at e
  ·rename_i d σ1 M2 e1; cases e; exact ⟨_,_,_,e1,p⟩
  ·rename_i σ1 M2 e1; cases e; exact ⟨_,_,_,e1,p⟩
  ·cases e
 ·rintro ⟨o,σ1,M1,e1,p⟩;rw [e1];cases o with
  | ret d=>exact ⟨_,_,rfl,p⟩
  | nx=>exact ⟨_,_,rfl,p⟩
  | brk=>exact p.elim
  | cnt=>exact p.elim
theorem zDf {c:FT} {b:FS} (I:Nat -> Sd -> Mem -> Prop) (hs:∀ m σ M,I m σ M -> Ok (c σ M) fun k M1=>if k then OkS (b σ M1) fun o σ2 M2=>match o with | .nx=>∃ m',m' < m /\ I m' σ2 M2 | .cnt=>∃ m',m' < m /\ I m' σ2 M2 | .brk=>P .nx σ2 M2 | .ret d=>P (.ret d) σ2 M2 else P .nx σ M1) :
  ∀ (n m:Nat) (σ:Sd) (M:Mem),m < n -> I m σ M -> OkS (zBl c b n σ M) P
 | 0,m,σ,M,h,_=>absurd h (Nat.not_lt_zero _)
 | n + 1,m,σ,M,h,hi=>by
  obtain ⟨k,M1,e,q⟩:=hs m σ M hi;unfold zBl;rw [e];cases k with
  | false=>exact ⟨_,_,_,rfl,by simpa using q⟩
  | true=>
   rw [zVD rfl] at q;obtain ⟨o,σ2,M2,e2,q⟩:=q;dsimp only;rw [e2];cases o with
   | nx=>obtain ⟨m',hm,q⟩:=q; exact zDf I hs n m' σ2 M2 (by omega) q
   | cnt=>obtain ⟨m',hm,q⟩:=q; exact zDf I hs n m' σ2 M2 (by omega) q
   | brk=>exact ⟨_,_,_,rfl,q⟩
   | ret d=>exact ⟨_,_,_,rfl,q⟩
theorem zBi {g:FG} {b:FS} {all:List D} {gd:Option (Mem -> Prop)} (I:List D -> Sd -> Mem -> Prop)
  (hs:∀ x r σ M,I (x :: r) σ M -> zBK gd all M /\ ∃ σ1,g x σ = some σ1 /\ OkS (b σ1 M) fun o σ2 M2=>match o with | .nx=>I r σ2 M2 | .cnt=>I r σ2 M2 | .brk=>P .nx σ2 M2 | .ret d=>P (.ret d) σ2 M2)
  (he:∀ σ M,I [] σ M -> zBK gd all M /\ P .nx σ M):∀ (xs:List D) (σ:Sd) (M:Mem),I xs σ M -> OkS (zDJ g b all gd xs σ M) P
 | [],σ,M,hi=>by
  unfold zDJ;obtain ⟨h1,h2⟩:=he σ M hi;rw [zVD h1];exact ⟨_,_,_,rfl,h2⟩
 | x :: r,σ,M,hi=>by
  unfold zDJ;obtain ⟨h1,σ1,e1,o,σ2,M2,e2,q⟩:=hs x r σ M hi;rw [zVD h1,e1];dsimp only;rw [e2];cases o with
  | nx=>exact zBi I hs he r σ2 M2 q
  | cnt=>exact zBi I hs he r σ2 M2 q
  | brk=>exact ⟨_,_,_,rfl,q⟩
  | ret d=>exact ⟨_,_,_,rfl,q⟩
theorem zA8 {i:FI} {g:FG} {b:FS}:OkS (zCe i g b σ M) P ↔ ∃ xs gd M1,i σ M = some (xs,gd,M1) /\ OkS (zDJ g b xs gd xs σ M1) P:=by
 unfold zCe;constructor
 ·rintro ⟨o,σ1,M1,e,p⟩;split at e
  ·rename_i xs gd M2 e1; exact ⟨_,_,_,e1,_,_,_,e,p⟩
  ·cases e
 ·rintro ⟨xs,gd,M1,e1,p⟩;rw [e1]; exact p
theorem zEh {g:FG} {tc:FT} {te:FE} {all:List D} {gd:Option (Mem -> Prop)} (I:List D -> List D -> Mem -> Prop)
  (hs:∀ x r acc M,I (x :: r) acc M -> zBK gd all M /\ ∃ σ1,g x σ = some σ1 /\ Ok (tc σ1 M) fun k M1=>if k then Ok (te σ1 M1) (zH7 fun d M2=>I r (acc ++ [d]) M2) else I r acc M1)
  {Q:List D -> Mem -> Prop} (he:∀ acc M,I [] acc M -> zBK gd all M /\ Q acc M):∀ (xs acc:List D) (M:Mem),I xs acc M -> Ok (zBB g tc te σ all gd xs M) fun ys M1=>Q (acc ++ ys) M1
 | [],acc,M,hi=>by
  unfold zBB;obtain ⟨h1,h2⟩:=he acc M hi;rw [zVD h1];exact ⟨_,_,rfl,by simpa using h2⟩
 | x :: r,acc,M,hi=>by
  unfold zBB;obtain ⟨h1,σ1,e1,k,M1,e2,q⟩:=hs x r acc M hi;rw [zVD h1,e1];dsimp only;rw [e2];cases k with
  | false=>exact zEh I hs he r acc M1 (by simpa using q)
  | true=>
   rw [zVD rfl,<- zA5] at q;obtain ⟨d,M2,e3,q⟩:=q;dsimp only;rw [e3];obtain ⟨ys,M3,e4,p⟩:=zEh I hs he r (acc ++ [d]) M2 q;dsimp only;rw [e4];exact ⟨_,_,rfl,by simpa using p⟩
theorem zFu {own:List Nat} {i:FI} {g:FG} {tc:FT} {te:FE} {Q:EV -> Mem -> Prop}:Ok (zAc own i g tc te σ M) Q ↔ ∃ xs gd M1,i σ M = some (xs,gd,M1) /\ xs.length <= sizeLine /\ Ok (zBB g tc te (zCI own σ) xs gd xs M1) fun ys M2=>Q (.fl ys) M2:=by
 unfold zAc;constructor
 ·rintro ⟨o,M1,e,p⟩;split at e
  ·rename_i xs gd M2 e1;split at e
   ·rename_i hz;split at e
    ·rename_i ys M3 e2; cases e; exact ⟨_,_,_,e1,hz,_,_,e2,p⟩
    ·cases e
   ·cases e
  ·cases e
 ·rintro ⟨xs,gd,M1,e1,hz,ys,M2,e2,p⟩;rw [e1]; dsimp only; rw [zVD hz,e2]; exact ⟨_,_,rfl,p⟩
theorem zGo {h:FE} {x:EV} {M1:Mem} {xs:List D} (e:h σ M = some (x,M1)) (e2:zBX M1 x = some xs):zAv h σ M = some (xs,zIS x xs,M1):=by
 unfold zAv; rw [e]; dsimp only; rw [e2]
theorem zHe {a:FA} {M1:Mem} {j:Int} (e:a σ M = some ([.int j],M1)) (h1:0 <= j) (h2:j < 2 ^ 62):zAM a σ M = some ((List.range j.toNat).map fun (k:Nat)=>D.int k,none,M1):=by
 unfold zAM; rw [e]; dsimp only; rw [zVD ⟨by omega,h2⟩]
end
section
variable {M:Mem} {P:EV -> Mem -> Prop} {i j:Int}
theorem zGU:Ok (zAe (.dat (.int i)) (.dat (.int j)) M) P ↔ P (.dat (.int (i + j))) M:=zAI
theorem zP7:Ok (zOF (.dat (.int i)) (.dat (.int j)) M) P ↔ zNX i j = true /\ P (.dat (.int (i * j))) M:=by
 unfold zOF kI; dsimp only; split
 ·rename_i h; rw [zAI]; simp [h]
 ·rename_i h; rw [zGv]; simp [h]
theorem zGe:Ok (zGN (.dat (.int i)) (.dat (.int j)) M) P ↔ 0 < j /\ P (.dat (.int (i % j))) M:=by
 unfold zGN kI; dsimp only; split
 ·rename_i h; rw [zAI]; simp at h; simp [h]
 ·rename_i h; rw [zGv]; simp at h; simp; intro h'; omega
theorem zQB:Ok (zN6 (.dat (.int i)) (.dat (.int j)) M) P ↔ (0 < j /\ j < 1073741824) /\ P (.dat (.int (i / j))) M:=by
 unfold zN6 kI; dsimp only; split
 ·rename_i h; rw [zAI]; simp at h; simp [h]
 ·rename_i h; rw [zGv]; simp at h; simp; intro h' h2; have:=h h'; omega
theorem zPC:Ok (zKE (.dat (.int i)) (.dat (.int j)) M) P ↔ (0 <= j /\ j <= 1000000 /\ i.natAbs < 2 ^ 64) /\ P (.dat (.int (i ^ j.toNat))) M:=by
 unfold zKE kI; dsimp only; split
 ·rename_i h; rw [zAI]; simp only [zVY,zWB] at h; simp [h]
 ·rename_i h; rw [zGv]; simp only [zVY,zWB,not_and] at h; simp only [false_iff,not_and]; intro ⟨a,b,c⟩; exact absurd c (h ⟨a,b⟩)
theorem zPM:Ok (kLt (.dat (.int i)) (.dat (.int j)) M) P ↔ P (.dat (.bl (decide (i < j)))) M:=zAI
theorem zUT:Ok (kLe (.dat (.int i)) (.dat (.int j)) M) P ↔ P (.dat (.bl (decide (i <= j)))) M:=zAI
theorem zUd:Ok (kGt (.dat (.int i)) (.dat (.int j)) M) P ↔ P (.dat (.bl (decide (j < i)))) M:=zAI
theorem zUl:Ok (kGe (.dat (.int i)) (.dat (.int j)) M) P ↔ P (.dat (.bl (decide (j <= i)))) M:=zAI
theorem zLi:Ok (kEq (.dat (.int i)) (.dat (.int j)) M) P ↔ P (.dat (.bl (decide (i = j)))) M:=by
 have:kEq (.dat (.int i)) (.dat (.int j)) M = some (.dat (.bl (decide (V.int i = V.int j))),M):=rfl;rw [this,zAI]; simp
theorem zUa:Ok (kNe (.dat (.int i)) (.dat (.int j)) M) P ↔ P (.dat (.bl (decide (i ≠ j)))) M:=by
 have:kNe (.dat (.int i)) (.dat (.int j)) M = some (.dat (.bl (!decide (V.int i = V.int j))),M):=rfl;rw [this,zAI]; simp
theorem zMt {x:EV} {xs:List D} (h:zCE M x = some xs) (hx:∀ d,x = .dat d -> zGc d = none):Ok (kNe x (.fl []) M) P ↔ P (.dat (.bl (!xs.isEmpty))) M:=by
 have e1:zLh true x (.fl []) M = none:=by cases x <;> rfl
 have e2:kNe x (.fl []) M = some (.dat (.bl (!xs.isEmpty)),M):=by
  unfold kNe kOr; rw [e1]; unfold zO9; rw [h]; rfl
 rw [e2,zAI]
theorem zOd {x:EV} {xs:List D} {d:D} (h:zBX M x = some xs) (hd:atI xs i = some d) (p:P (.dat d) M):Ok (kIx x (.dat (.int i)) M) P:=by
 have:kIx x (.dat (.int i)) M = some (.dat d,M):=by unfold kIx; dsimp only; rw [h]; dsimp only; rw [hd]
 rw [this,zAI]; exact p
theorem zJR {xs:List D} {k:Nat} {d:D} (h:xs[k]? = some d):atI xs (k:Int) = some d:=zMr h
theorem zFC {xs:List D} {i:Int} {d:D} (h0:0 <= i) (h:xs[i.toNat]? = some d):atI xs i = some d:=by
 have:i = ((i.toNat:Nat):Int):=by omega
 rw [this]; exact zMr h
theorem zR7 {x:EV} {xs:List D} (h:zBX M x = some xs):Ok (zA3 [x] M) P ↔ P (.dat (.int xs.length)) M:=by
 have:zA3 [x] M = some (.dat (.int xs.length),M):=by unfold zA3; dsimp only; rw [h]
 rw [this,zAI]
theorem zGp {x:EV} {xs:List D} (h:zBX M x = some xs):Ok (zBQ [x] M) P ↔ P (.dat (.tup xs)) M:=by
 have:zBQ [x] M = some (.dat (.tup xs),M):=by unfold zBQ; dsimp only; rw [h]
 rw [this,zAI]
theorem zRx:Ok (zNI [.dat (.int i)] M) P ↔ P (.dat (.int (if i < 0 then -i else i))) M:=zAI
theorem zJJ {x:EV} {xs:List D} {lo hi:Option Int} (h:zCE M x = some xs) (ht:zD7 x = none):Ok (kSl x lo hi M) P ↔ P (.fl (zCW xs lo hi)) M:=by
 have:kSl x lo hi M = some (.fl (zCW xs lo hi),M):=by unfold kSl; rw [ht]; dsimp only; rw [h]
 rw [this,zAI]
theorem zAr {xs:List D}:zBX M (.dat (.tup xs)) = some xs:=rfl
theorem zDz {xs:List D}:zBX M (.fl xs) = some xs:=rfl
theorem zSQ {xs:List D}:zCE M (.fl xs) = some xs:=rfl
theorem zBY {n:Nat} {xs:List D} (h:M[n]? = some (.lst xs)):zCE M (.dat (.ref n)) = some xs:=by unfold zCE; dsimp only; rw [h]
theorem zJ8 {n:Nat} {xs:List D} (h:M[n]? = some (.fro xs)):zCE M (.dat (.ref n)) = some xs:=by unfold zCE; dsimp only; rw [h]
theorem zAA {n:Nat} {xs:List D} (h:M[n]? = some (.lst xs)):zBX M (.dat (.ref n)) = some xs:=zBY h
theorem zQ9 {n:Nat} {xs:List D} (h:M[n]? = some (.fro xs)):zBX M (.dat (.ref n)) = some xs:=zJ8 h
theorem zIB {n:Nat} {xs:List D} {d:D} {Q:D -> Mem -> Prop} (h:M[n]? = some (.lst xs)) (hz:xs.length < sizeLine):Ok (zBJ (.dat (.ref n)) [d] M) Q ↔ Q .non (M.set n (.lst (xs ++ [d]))):=by
 have:zBJ (.dat (.ref n)) [d] M = some (.non,M.set n (.lst (xs ++ [d]))):=by unfold zBJ; dsimp only; rw [h]; dsimp only; rw [zVD hz]
 rw [this,zAI]
theorem zSI {n:Nat} {x:D} {xs:List D} {Q:D -> Mem -> Prop} (h:M[n]? = some (.lst (x :: xs))):Ok (zKZ (.dat (.ref n)) [.int 0] M) Q ↔ Q x (M.set n (.lst xs)):=by
 have:zKZ (.dat (.ref n)) [.int 0] M = some (x,M.set n (.lst xs)):=by
  unfold zKZ; dsimp only; rw [h]; dsimp only;have e:ixN (x :: xs).length 0 = some 0:=by unfold ixN; rw [zVD (by omega),zVD (by simp)]; rfl
  rw [e]; dsimp only [List.getElem?_cons_zero]; rw [zVD (by decide)]; rfl
 rw [this,zAI]
theorem zHr {n k:Nat} {xs:List D} {d:D} (h:M[n]? = some (.lst xs)) (hk:k < xs.length):zLD (.dat (.ref n)) (.int k) d M = some (M.set n (.lst (xs.set k d))):=by
 unfold zLD; dsimp only; rw [h]; dsimp only;have e:ixN xs.length (k:Int) = some k:=by unfold ixN; rw [zVD (by omega),zVD (by omega)]; simp
 rw [e]
end
theorem zM7 {m:FF} {ds:List D} {M:Mem} {Q:D -> Mem -> Prop} (h:Ok (m ds M) fun d M1=>(D.und M.length d = true /\ M.length <= M1.length /\ ∀ (j:Nat) u,j < M.length -> M1[j]? = some u -> MO.und M.length u = true) /\ Q d (M1.take M.length)):Ok (zGZ m ds M) Q:=by
 obtain ⟨d,M1,e,⟨h1,h2,h3⟩,q⟩:=h;unfold zGZ;rw [e];dsimp only;rw [zVD]
 ·exact ⟨_,_,rfl,q⟩
 ·simp only [zVY,zWB,zVZ];refine ⟨⟨h1,fun u hu=>?_⟩,h2⟩;obtain ⟨j,hj⟩:=List.getElem?_of_mem hu;have hlt:j < M.length:=by
   have:=(zU1.mp hj).1;rw [zWM] at this; omega
  rw [List.getElem?_take_of_lt hlt] at hj;exact h3 j u hlt hj
theorem zJm {m:FF} {ds:List D} {M:Mem} {Q:D -> Mem -> Prop} (h0:D.unds 0 ds = true) (h:Ok (m ds []) fun d _=>D.und 0 d = true /\ Q d M):Ok (zHK m ds M) Q:=by
 obtain ⟨d,M1,e,h1,q⟩:=h;unfold zHK;rw [zVD h0,e];dsimp only;rw [zVD h1];exact ⟨_,_,rfl,q⟩
section
variable {prog:Program} {w:World} {A:Around} {E:Value -> Shared -> Prop} {s:Shared}
theorem TIt.but (x:h.IsTupleIter a t i) (hs:Heap.ExtBut b h h') (n:a ≠ b):h'.IsTupleIter a t i:=x.extBut hs n
theorem Tup.but (x:h.IsTuple a its) (hs:Heap.ExtBut b h h') (n:a ≠ b):h'.IsTuple a its:=x.extBut hs n
theorem zFL (I:s.heap.IsTupleIter it t i) (T:s.heap.IsTuple t its) (hx:its[i]? = some x)
  (q:∀ h',h'.IsTupleIter it t (i + 1) -> Heap.SameBut it s.heap h' -> Q x { s with heap:=h' }):wpAny (model prog w) A (Builtin.SmallTypes.nextOf (.ref it)) Q E s:=by
 obtain ⟨o,O,C,FD⟩:=id I;obtain ⟨u,U,_,m,G⟩:=T;unfold Builtin.SmallTypes.nextOf;refine zUy (zVa (name:=Str.ofString "__next__") I.typeIs PySem.F.slot_tuple_iterator_next (zVb PySem.F.slot_tuple_iterator_next I.typeIs PySem.F.entry_tuple_iterator_next ?_ (PySem.F.args_tuple_iterator_next_1 _)));refine zUy (m:=field (.ref it) 0) (zVd O FD (x:=.ref t) rfl ?_);rw [zVG (show ¬ ((Value.ref t == Value.none) = true) by exact zVK)];refine zUy (m:=field (.ref it) 1) (zVd O FD (x:=.int i 0) rfl ?_);refine zUy (m:=seqItems? (.ref t)) (zVo U G ?_);simp only [hx,Int.toNat_natCast];refine zUy (zWj O FD (by simp) (zU0 ⟨x,rfl,zU0 (q _ ⟨_,zVl _ O (Obj.isFreed_of_fields (zWF FD _)),(Obj.cls_mapFields ..).trans C,?_⟩ (zV1 ..))⟩));rw [zWF FD];simp [rawInt]
theorem zIs (hh:A.handled = none) (I:s.heap.IsTupleIter it t i) (T:s.heap.IsTuple t its) (hx:its[i]? = none)
  (q:∀ h' e,Heap.ExtBut it s.heap h' -> (∃ o,h'.get? e = some o /\ o.cls = .type "StopIteration") -> E (.ref e) { s with heap:=h' }):wpAny (model prog w) A (Builtin.SmallTypes.nextOf (.ref it)) Q E s:=by
 obtain ⟨o,O,C,FD⟩:=id I;obtain ⟨u,U,_,m,G⟩:=T;unfold Builtin.SmallTypes.nextOf;refine zUy (zVa (name:=Str.ofString "__next__") I.typeIs PySem.F.slot_tuple_iterator_next (zVb PySem.F.slot_tuple_iterator_next I.typeIs PySem.F.entry_tuple_iterator_next ?_ (PySem.F.args_tuple_iterator_next_1 _)));refine zUy (m:=field (.ref it) 0) (zVd O FD (x:=.ref t) rfl ?_);rw [zVG (show ¬ ((Value.ref t == Value.none) = true) by exact zVK)];refine zUy (m:=field (.ref it) 1) (zVd O FD (x:=.int i 0) rfl ?_);refine zUy (m:=seqItems? (.ref t)) (zVo U G ?_);simp only [hx,Int.toNat_natCast];refine zUy (zWL (zUy (zWj O FD (by simp) ?_)));refine zUy (m:=newExc (.type "StopIteration") []) ?_;simp only [newTuple,newExc];refine zUy (zVR (zUy (m:=firstArgMember _ _) (wpAny_of_eq (a:=Value.none) (by first | rfl | (simp only [firstArgMember]; rfl)) (zVR ?_ (by size_fits)))) (by size_fits));simp only [raiseNew];refine zUy (wpAny_handled ?_);first | rw [hh] | rw [show A.in1.handled = none from hh]
 exact zUy (zU0 (wpAny_throw (q _ _ (((zV1 ..).extBut.push _).push _) ⟨_,zU8 _ rfl,rfl⟩)))
structure ZipT (h:Heap) (z TI TO i1 i2 t1 t2:Addr) (f:Value) (k1 k2:Nat):Prop where
 z:IsZip h z TI TO f
 ti:IsPair h TI (.ref i1) (.ref i2)
 to:∃ a b,IsPair h TO a b
 a:h.IsTupleIter i1 t1 k1
 b:h.IsTupleIter i2 t2 k2
theorem zNG {z TI TO i1 i2 t1 t2:Addr} {k:Nat} {xs ys:Array Value} {x y:Value} {Q:Option Value -> Shared -> Prop} (D:ZipApart z TI TO i1 i2 t1 t2) (Z:ZipT s.heap z TI TO i1 i2 t1 t2 .none k k)
  (T1:s.heap.IsTuple t1 xs) (T2:s.heap.IsTuple t2 ys) (hx:xs[k]? = some x) (hy:ys[k]? = some y)
  (q:∀ h',ZipT h' z TI TO i1 i2 t1 t2 (rawInt s.heap.objs.size) (k + 1) (k + 1) -> IsPair h' s.heap.objs.size x y ->
   (∀ c o,c ∉ [z,TO,i1,i2] -> s.heap.get? c = some o -> h'.get? c = some o) -> Q (some (.ref s.heap.objs.size)) { s with heap:=h' }):wpAny (model prog w) A (pyNext (.ref z)) Q E s:=by
 obtain ⟨Z0,P0,⟨a,b,O0⟩,I1,I2⟩:=Z;have ty:s.TypeIs (.ref z) "zip" := ⟨_,Z0,rfl⟩;unfold pyNext;refine zUy (wpAny_attempt (zVa (name:=Str.ofString "__next__") ty PySem.F.slot_zip_next (zVb PySem.F.slot_zip_next ty PySem.F.entry_zip_next ?_ (PySem.F.args_zip_next_1 _))));refine zUy (m:=field (.ref z) 2) (zVd Z0 rfl (x:=.bool false) rfl ?_);refine zUy (m:=field (.ref z) 3) (zVd Z0 rfl (x:=.ref TI) rfl ?_);refine zUy (zVo P0 rfl ?_);refine zUy (m:=Builtin.SmallTypes.ownedTupleIsFree (.ref z)) ?_;unfold Builtin.SmallTypes.ownedTupleIsFree;refine zUy (zVd Z0 rfl (x:=.none) rfl (zU0 ?_));simp only [if_true];refine zUy (zWL (zUy (zVd Z0 rfl (x:=.ref TO) rfl (zUy (wpAny_setField_rec Z0 (by simp) fun h1 Z1 e1=>?_)))));replace Z1:IsZip h1 z TI TO .ellipsis:=Z1;refine zUy ?_;simp only [List.forIn_cons,List.forIn_nil,List.zipIdx_cons,List.zipIdx_nil];refine zUy (zUy (wpAny_onRaise (zUy (m:=Builtin.SmallTypes.nextOf (.ref i1)) (zFL (TIt.but I1 e1.extBut D.i1z) (Tup.but T1 e1.extBut D.l1z) hx fun h2 J1 e2=>zU0 ?_))));have O2:IsPair h2 TO a b:=e2.extBut _ _ D.TOi1 (e1.extBut _ _ D.TOz O0);refine zUy (zVo O2 rfl (zUy (wpAny_updateSeq_pair O2 fun h3 O3 e3=>zUy (wpAny_letGo (zU0 ?_)))));replace O3:IsPair h3 TO x b:=O3
 refine zUy (zUy (wpAny_onRaise (zUy (m:=Builtin.SmallTypes.nextOf (.ref i2)) (zFL (TIt.but (TIt.but (TIt.but I2 e1.extBut D.i2z) e2.extBut D.i12.symm) e3.extBut D.TOi2.symm)
  (Tup.but (Tup.but (Tup.but T2 e1.extBut D.l2z) e2.extBut D.l2i1) e3.extBut D.l2TO) hy fun h4 J2 e4=>zU0 ?_))))
 have O4:IsPair h4 TO x b:=e4.extBut _ _ D.TOi2 O3;refine zUy (zVo O4 rfl (zUy (wpAny_updateSeq_pair O4 fun h5 O5 e5=>zUy (wpAny_letGo (zU0 (zU0 ?_))))));replace O5:IsPair h5 TO x y:=O5;refine zUy (zVo O5 rfl (zUy (wpAny_newTuple ?_)));have sz:h5.objs.size = s.heap.objs.size:=by rw [e5.1,e4.1,e3.1,e2.1,e1.1]
 have Z5:IsZip h5 z TI TO .ellipsis:=e5.extBut _ _ D.TOz.symm (e4.extBut _ _ D.i2z.symm (e3.extBut _ _ D.TOz.symm (e2.extBut _ _ D.i1z.symm Z1)));have kp:∀ c o,c ∉ [z,TO,i1,i2] -> s.heap.get? c = some o -> h5.get? c = some o:=fun c o n e=>by
  simp only [zVA,zVT,zWJ,not_or] at n;obtain ⟨n1,n2,n3,n4⟩:=n;exact e5.extBut _ _ n2 (e4.extBut _ _ n4 (e3.extBut _ _ n2 (e2.extBut _ _ n3 (e1.extBut _ _ n1 e))))
 have A5:h5.IsTupleIter i1 t1 (k + 1):=TIt.but (TIt.but (TIt.but J1 e3.extBut D.TOi1.symm) e4.extBut D.i12) e5.extBut D.TOi1.symm;have B5:h5.IsTupleIter i2 t2 (k + 1):=TIt.but J2 e5.extBut D.TOi2.symm;have zl:z < h5.objs.size:=zU9 Z5;refine zUy (m:=Builtin.SmallTypes.ownedTupleHandOut (.ref z) (.ref h5.objs.size)) ?_;unfold Builtin.SmallTypes.ownedTupleHandOut;have Z6:IsZip (h5.push { cls:=.type "tuple", data:=.seq #[x,y] }) z TI TO .ellipsis:=zUz _ Z5;refine zUy (wpAny_setField_rec Z6 (by simp) fun h7 Z7 e7=>?_);replace Z7:IsZip h7 z TI TO (rawInt h5.objs.size):=Z7;refine wpAny_setField_rec Z7 (by simp) fun h8 Z8 e8=>?_;replace Z8:IsZip h8 z TI TO (rawInt h5.objs.size):=Z8;have up:∀ c o,c ≠ z -> h5.get? c = some o -> h8.get? c = some o:=fun c o n e=>e8.extBut _ _ n (e7.extBut _ _ n (zUz _ e));have N8:IsPair h8 h5.objs.size x y:=e8.extBut _ _ (Nat.ne_of_gt zl) (e7.extBut _ _ (Nat.ne_of_gt zl) (zU8 _ rfl));rw [sz] at Z8 N8;refine zU0 ⟨_,rfl,?_⟩;rw [sz];refine zU0 (q h8 ⟨Z8,up _ _ D.TIz (kp _ _ (by simp [D.TIz,D.TITO,D.TIi1,D.TIi2]) P0),⟨_,_,up _ _ D.TOz O5⟩,?_,?_⟩ N8 fun c o n e=>up c o (fun m=>n (by simp [m])) (kp c o n e))
 ·obtain ⟨o,e,r⟩:=A5; exact ⟨o,up _ _ D.i1z e,r⟩
 ·obtain ⟨o,e,r⟩:=B5; exact ⟨o,up _ _ D.i2z e,r⟩
theorem zQA {z TI TO i1 i2 t1 t2:Addr} {k:Nat} {xs ys:Array Value} {Q:Option Value -> Shared -> Prop} (hh:A.handled = none) (D:ZipApart z TI TO i1 i2 t1 t2) (Z:ZipT s.heap z TI TO i1 i2 t1 t2 .none k k)
  (T1:s.heap.IsTuple t1 xs) (T2:s.heap.IsTuple t2 ys) (he:xs[k]? = none \/ ys[k]? = none)
  (q:∀ h',(∀ c o,c ∉ [z,TO,i1,i2] -> s.heap.get? c = some o -> h'.get? c = some o) -> Q none { s with heap:=h' }):wpAny (model prog w) A (pyNext (.ref z)) Q E s:=by
 obtain ⟨Z0,P0,⟨a,b,O0⟩,I1,I2⟩:=Z;have ty:s.TypeIs (.ref z) "zip" := ⟨_,Z0,rfl⟩
 have stop:∀ (e:Addr) (h':Heap),(∀ c o,c ∉ [z,TO,i1,i2] -> s.heap.get? c = some o -> h'.get? c = some o) -> (∃ o,h'.get? e = some o /\ o.cls = .type "StopIteration") ->
   wpAny (model prog w) A (do if (<- isInstance (.ref e) (.type "StopIteration")) then pure none else throw (.ref e):Sem (Option Value)) Q E { s with heap:=h' }:=fun e h' k1 ⟨o,e1,e2⟩=>
  zUy (wpAny_isInstance (T := "StopIteration") (b:=true) ⟨o,e1,e2⟩ isSubtype_stop (zU0 (q h' k1)))
 unfold pyNext;refine zUy (wpAny_attempt (zVa (name:=Str.ofString "__next__") ty PySem.F.slot_zip_next (zVb PySem.F.slot_zip_next ty PySem.F.entry_zip_next ?_ (PySem.F.args_zip_next_1 _))));refine zUy (m:=field (.ref z) 2) (zVd Z0 rfl (x:=.bool false) rfl ?_);refine zUy (m:=field (.ref z) 3) (zVd Z0 rfl (x:=.ref TI) rfl ?_);refine zUy (zVo P0 rfl ?_);refine zUy (m:=Builtin.SmallTypes.ownedTupleIsFree (.ref z)) ?_;unfold Builtin.SmallTypes.ownedTupleIsFree;refine zUy (zVd Z0 rfl (x:=.none) rfl (zU0 ?_));simp only [if_true];refine zUy (zWL (zUy (zVd Z0 rfl (x:=.ref TO) rfl (zUy (wpAny_setField_rec Z0 (by simp) fun h1 Z1 e1=>?_)))));replace Z1:IsZip h1 z TI TO .ellipsis:=Z1;refine zUy ?_;simp only [List.forIn_cons,List.forIn_nil,List.zipIdx_cons,List.zipIdx_nil];cases hx:xs[k]? with
 | none=>
  refine zUy (zUy (wpAny_onRaise (zUy (m:=Builtin.SmallTypes.nextOf (.ref i1)) (zIs hh (TIt.but I1 e1.extBut D.i1z) (Tup.but T1 e1.extBut D.l1z) hx fun h2 e e2 he=>?_))));obtain ⟨oe,o1,o2⟩:=he;have Z2:IsZip h2 z TI TO .ellipsis:=e2 _ _ D.i1z.symm Z1;have ne:e ≠ z:=fun m=>by subst m; rw [Z2] at o1; cases o1; simp at o2
  refine wpAny_setField_rec Z2 (by simp) fun h3 _ e3=>stop e h3 (fun c o n x=>?_) ⟨oe,e3.extBut _ _ ne o1,o2⟩;simp only [zVA,zVT,zWJ,not_or] at n;exact e3.extBut _ _ n.1 (e2 _ _ n.2.2.1 (e1.extBut _ _ n.1 x))
 | some x=>
  have hy:ys[k]? = none:=by
   rcases he with m | m
   ·rw [hx] at m; cases m
   ·exact m
  refine zUy (zUy (wpAny_onRaise (zUy (m:=Builtin.SmallTypes.nextOf (.ref i1)) (zFL (TIt.but I1 e1.extBut D.i1z) (Tup.but T1 e1.extBut D.l1z) hx fun h2 J1 e2=>zU0 ?_))));have O2:IsPair h2 TO a b:=e2.extBut _ _ D.TOi1 (e1.extBut _ _ D.TOz O0);refine zUy (zVo O2 rfl (zUy (wpAny_updateSeq_pair O2 fun h3 O3 e3=>zUy (wpAny_letGo (zU0 ?_)))))
  refine zUy (zUy (wpAny_onRaise (zUy (m:=Builtin.SmallTypes.nextOf (.ref i2)) (zIs hh (TIt.but (TIt.but (TIt.but I2 e1.extBut D.i2z) e2.extBut D.i12.symm) e3.extBut D.TOi2.symm)
   (Tup.but (Tup.but (Tup.but T2 e1.extBut D.l2z) e2.extBut D.l2i1) e3.extBut D.l2TO) hy fun h4 e e4 he=>?_))))
  obtain ⟨oe,o1,o2⟩:=he;have Z4:IsZip h4 z TI TO .ellipsis:=e4 _ _ D.i2z.symm (e3.extBut _ _ D.TOz.symm (e2.extBut _ _ D.i1z.symm Z1));have ne:e ≠ z:=fun m=>by subst m; rw [Z4] at o1; cases o1; simp at o2
  refine wpAny_setField_rec Z4 (by simp) fun h5 _ e5=>stop e h5 (fun c o n x=>?_) ⟨oe,e5.extBut _ _ ne o1,o2⟩;simp only [zVA,zVT,zWJ,not_or] at n;exact e5.extBut _ _ n.1 (e4 _ _ n.2.2.2 (e3.extBut _ _ n.2.1 (e2.extBut _ _ n.2.2.1 (e1.extBut _ _ n.1 x))))
abbrev zT1 (h:Heap) (a:Addr):Heap:=h.push { cls:=.type "tuple_iterator", data:=.fields #[.ref a,.int 0 0] }
abbrev zT2 (h:Heap) (a b:Addr):Heap:=zT1 (zT1 h a) b
abbrev zT3 (h:Heap) (a b:Addr):Heap:=(zT2 h a b).push { cls:=.type "tuple", data:=.seq #[.ref h.objs.size,.ref (zT1 h a).objs.size] }
abbrev zT4 (h:Heap) (a b:Addr):Heap:=(zT3 h a b).push { cls:=.type "tuple", data:=.seq #[.none,.none] }
abbrev zT5 (h:Heap) (a b:Addr):Heap:=(zT4 h a b).push { cls:=.type "zip", data:=.fields #[.none,.bool false,.bool false,.ref (zT2 h a b).objs.size,.ref (zT3 h a b).objs.size] }
theorem zMN (a b:Addr) (xs ys:Array Value):Meets (Builtin.«zip.__new__» ⟨[.type "zip", .ref a,.ref b],[]⟩) (fun _ R s=>s.heap.IsTuple a xs /\ s.heap.IsTuple b ys /\ R (.ok (.ret (.ref (zT4 s.heap a b).objs.size))) { s with heap:=zT5 s.heap a b }) :=
 .of_wp fun prog w A R s h=>by
  obtain ⟨hp,g,d,tk,os⟩:=s;obtain ⟨Ta,Tb,h⟩:=h;have sz:=sub_zip;have U1:Heap.IsTuple (Shared.heap ⟨hp,g,d,tk,os⟩) a xs:=Ta;have U2:Heap.IsTuple (Shared.heap ⟨hp.push { cls:=.type "tuple_iterator", data:=.fields #[.ref a,.int 0 0] },g,d,tk,os⟩) b ys:=Heap.IsTuple.push Tb _;wp_walk using wpAny_pyIter_tuple U1,wpAny_pyIter_tuple U2;exact ⟨_,rfl,h⟩
theorem zQP (Ta:s.heap.IsTuple a xs) (Tb:s.heap.IsTuple b ys)
  (h:∀ h',ZipT h' (s.heap.objs.size + 4) (s.heap.objs.size + 2) (s.heap.objs.size + 3) s.heap.objs.size (s.heap.objs.size + 1) a b .none 0 0 -> (∀ c o,s.heap.get? c = some o -> h'.get? c = some o) -> Q (.ref (s.heap.objs.size + 4)) { s with heap:=h' }) :
  wpAny (model prog w) A (call (.type "zip") [.ref a,.ref b]) Q E s:=by
 refine callType_new PySem.F.called_zip (by decide) (PySem.F.typeCall_zip_2 _ _) (PySem.F.newCall_zip_2 _ _) (fun obj=>PySem.F.args_object_init_3 obj _ _) PySem.F.entry_zip_new (zMN a b xs ys) ⟨Ta,Tb,?_⟩;have q1:(zT1 s.heap a).objs.size = s.heap.objs.size + 1:=zVe ..;have q2:(zT2 s.heap a b).objs.size = s.heap.objs.size + 2:=by rw [zVe,q1]
 have q3:(zT3 s.heap a b).objs.size = s.heap.objs.size + 3:=by rw [zVe,q2]
 have q4:(zT4 s.heap a b).objs.size = s.heap.objs.size + 4:=by rw [zVe,q3]
 have u:∀ {h:Heap} {c:Addr} {o p:Obj},h.get? c = some o -> (h.push p).get? c = some o:=fun e=>zUz _ e;have p5:(zT5 s.heap a b).get? (zT4 s.heap a b).objs.size = some _:=zU8 _ rfl;have p4:(zT5 s.heap a b).get? (zT3 s.heap a b).objs.size = some _:=u (zU8 _ rfl);have p3:(zT5 s.heap a b).get? (zT2 s.heap a b).objs.size = some _:=u (u (zU8 _ rfl));have p2:(zT5 s.heap a b).get? (zT1 s.heap a).objs.size = some _:=u (u (u (zU8 _ rfl)));have p1:(zT5 s.heap a b).get? s.heap.objs.size = some _:=u (u (u (u (zU8 _ rfl))));show _ /\ _;rw [q2,q3,q4] at p5;rw [q1,q2] at p3;rw [q3] at p4;rw [q1] at p2;rw [q4];exact ⟨⟨_,p5,rfl⟩,h _ ⟨p5,p3,⟨_,_,p4⟩,⟨_,p1,rfl,rfl⟩,⟨_,p2,rfl,rfl⟩⟩ fun c o x=>u (u (u (u (u x))))⟩
end
theorem zKt {X:Cx} {zB:List (Addr × Obj)} {σ:L2.St} {H:Hp} {s:Shared} {h':Heap} {t':Nat} {ch:List Addr} {T:Addr} {o:HO} (I:Inv X zB σ H s) (hf:∀ b ∈ ch,zC5 X zB H b)
  (k:∀ b u,b ∉ ch -> s.heap.get? b = some u -> h'.get? b = some u) (hT:s.heap.objs.size <= T) (new:zAV X.prog X.w (upd H T o) h' T o):Inv X zB σ (upd H T o) { s with heap:=h',toks:=t' }:=by
 have hn:H T = none:=I.hok.fresh hT;have nch:∀ b u,H b = some u -> b ∉ ch:=fun b u e z=>by rw [(hf b z).1] at e; cases e
 have un:∀ b u,H b = some u -> upd H T o b = some u:=fun b u e=>by rw [zm (zAf e hn)]; exact e
 refine I.step (g':=s.gens) (d':=s.drawn) (ch:=ch) (fun b hb=>⟨(hf b hb).2.2.2.1,(hf b hb).2.1,(hf b hb).2.2.2.2.1,(hf b hb).2.2.2.2.2⟩) (fun b u _ _ hc e _=>k b u hc e) (fun b u _ _ hc e _=>⟨u.slots,k b u hc e⟩)
  (fun b u _ e n=>by rw [zm (fun z=>by rw [z] at e; exact absurd (zU9 e) (Nat.not_lt.mpr hT))]; exact n) (fun b u hc e=>⟨u,k b u hc e⟩) (fun b xs e=>un b _ e) (fun b p u e=>un b _ e) (fun b ps e=>⟨#[],by rw [un b _ e]; simp⟩) (fun m hm=>?_) (fun b u e=>?_) I.bare
 ·obtain ⟨p,es,ep,ho,r⟩:=hm;exact ⟨p,es,ep,k _ p (fun z=>(hf _ z).2.1 rfl) ho,r⟩
 ·by_cases hb:b = T
  ·subst hb; rw [zAh] at e; cases e; exact new
  ·rw [zm hb] at e;refine (I.hok b u e).stay (fun c v hc q=>k c v ?_ q) (fun c q=>un c _ q) fun c xs q=>un c _ q;rcases hc with z | z
   ·rw [z]; exact nch b u e
   ·exact nch c _ z
theorem zOQ {X:Cx} {zB:List (Addr × Obj)} {σ:L2.St} {H:Hp} {s:Shared} {h':Heap} {t':Nat} {ch:List Addr} (I:Inv X zB σ H s) (hf:∀ b ∈ ch,zC5 X zB H b)
  (k:∀ b u,b ∉ ch -> s.heap.get? b = some u -> h'.get? b = some u):Inv X zB σ H { s with heap:=h',toks:=t' }:=by
 have nch:∀ b u,H b = some u -> b ∉ ch:=fun b u e z=>by rw [(hf b z).1] at e; cases e
 refine I.step (g':=s.gens) (d':=s.drawn) (ch:=ch) (fun b hb=>⟨(hf b hb).2.2.2.1,(hf b hb).2.1,(hf b hb).2.2.2.2.1,(hf b hb).2.2.2.2.2⟩) (fun b u _ _ hc e _=>k b u hc e) (fun b u _ _ hc e _=>⟨u.slots,k b u hc e⟩)
  (fun b u _ e n=>n) (fun b u hc e=>⟨u,k b u hc e⟩) (fun b xs e=>e) (fun b p u e=>e) (fun b ps e=>⟨#[],by rw [e]; simp⟩) (fun m hm=>?_) (fun b u e=>?_) I.bare
 ·obtain ⟨p,es,ep,ho,r⟩:=hm;exact ⟨p,es,ep,k _ p (fun z=>(hf _ z).2.1 rfl) ho,r⟩
 ·refine (I.hok b u e).stay (fun c v hc q=>k c v ?_ q) (fun c q=>q) fun c xs q=>q;rcases hc with z | z
  ·rw [z]; exact nch b u e
  ·exact nch c _ z
def Itz (K:PySem.W.Frag) (a b:Addr):It :=
 ⟨fun i H=>∃ xs ys x y,SqT K H a xs /\ SqT K H b ys /\ xs[i]? = some x /\ ys[i]? = some y,
  fun i H v H'=>∃ T x y,v = .ref T /\ H T = none /\ H' = upd H T (.tup [x,y]) /\ (∀ xs,SqT K H a xs -> xs[i]? = some x) /\ ∀ ys,SqT K H b ys -> ys[i]? = some y,
  fun i H=>∃ xs ys,SqT K H a xs /\ SqT K H b ys /\ (xs.length <= i \/ ys.length <= i)⟩
theorem zNf {P:Program} {w:World} {K:PySem.W.Frag} {es:List Expr} {ek:Nat} {ep:Pos} {z TI TO i1 i2 a b:Addr} (D:ZipApart z TI TO i1 i2 a b) :
  Turn P w K (.Tuple es ek ep) (Itz K a b) [z,TI,TO,i1,i2] z (fun i h=>ZipT h z TI TO i1 i2 a b .none i i) where
 mem:=by simp
 obj:=fun i h Z c hc=>by
  obtain ⟨Z0,P0,⟨x,y,O0⟩,⟨o1,e1,_,d1⟩,⟨o2,e2,_,d2⟩⟩:=Z;simp only [zVA,zVT,zWJ] at hc;rcases hc with rfl | rfl | rfl | rfl | rfl
  ·exact ⟨_,Z0,fun v m=>by cases m⟩
  ·exact ⟨_,P0,fun v m=>by cases m⟩
  ·exact ⟨_,O0,fun v m=>by cases m⟩
  ·exact ⟨_,e1,fun v m=>by rw [d1] at m; cases m⟩
  ·exact ⟨_,e2,fun v m=>by rw [d2] at m; cases m⟩
 keep:=fun i h h' Z k=>by
  obtain ⟨Z0,P0,⟨x,y,O0⟩,⟨o1,e1,r1⟩,⟨o2,e2,r2⟩⟩:=Z;exact ⟨k z (by simp) _ Z0,k TI (by simp) _ P0,⟨x,y,k TO (by simp) _ O0⟩,⟨o1,k i1 (by simp) _ e1,r1⟩,⟨o2,k i2 (by simp) _ e2,r2⟩⟩
 item:=by
  intro X hP hw hK hc i zB s σ H E I hf Z hg;subst hP hw hK;obtain ⟨xs,ys,x,y,sa,sb,hx,hy⟩:=hg;obtain ⟨its,rv,p1,z1⟩:=I.tuple sa;obtain ⟨its2,rv2,p2,z2⟩:=I.tuple sb;obtain ⟨u,hu,ru⟩:=rv.get hx;obtain ⟨u2,hu2,ru2⟩:=rv2.get hy;refine zNG D Z (show s.heap.IsTuple a its.toArray from p1) (show s.heap.IsTuple b its2.toArray from p2) (x:=u) (y:=u2) (by simpa using hu) (by simpa using hu2) fun h' Z' N' kp=>⟨_,rfl,?_⟩;refine wpAny_letOwnedTupleGo_zip Z'.z fun h2 Z2 e2=>?_;have hch:∀ c ∈ [z,TO,i1,i2],zC5 X zB H c:=fun c hm=>hf c (by
   simp only [zVA,zVT,zWJ] at hm ⊢;rcases hm with q | q | q | q <;> simp [q])
  have kk:∀ c o,c ∉ [z,TO,i1,i2] -> s.heap.get? c = some o -> h2.get? c = some o:=fun c o n e=>e2.extBut _ _ (fun m=>n (by simp [m])) (kp c o n e);have zlt:z < s.heap.objs.size:=zU9 Z.z;have NT:IsPair h2 s.heap.objs.size u u2:=e2.extBut _ _ (Nat.ne_of_gt zlt) N';have hfr:H s.heap.objs.size = none:=I.hok.fresh (zU4 _);refine ⟨.ref s.heap.objs.size,upd H s.heap.objs.size (.tup [x,y]),zKt (s:=s) (h':=h2) (t':=s.toks) I hch kk (zU4 _) ?_,rfl,⟨_,x,y,rfl,hfr,rfl,fun ws hw=>?_,fun ws hw=>?_⟩,?_,fun c hm=>?_⟩
  ·exact ⟨by show 2 <= sizeLine; decide,[u,u2],.cons ru (.cons ru2 .nil),⟨_,NT,rfl,⟨_,rfl⟩,rfl⟩⟩
  ·rw [I.tuple_inj hw sa]; exact hx
  ·rw [I.tuple_inj hw sb]; exact hy
  ·obtain ⟨_,P1,⟨q1,q2,O1⟩,⟨o1,f1,r1⟩,⟨o2,f2,r2⟩⟩:=Z';exact ⟨Z2,e2.extBut _ _ D.TIz P1,⟨q1,q2,e2.extBut _ _ D.TOz O1⟩,⟨o1,e2.extBut _ _ D.i1z f1,r1⟩,⟨o2,e2.extBut _ _ D.i2z f2,r2⟩⟩
  ·have lt:c < s.heap.objs.size:=by
    obtain ⟨Z0,P0,⟨q1,q2,O0⟩,⟨o1,f1,_⟩,⟨o2,f2,_⟩⟩:=Z;simp only [zVA,zVT,zWJ] at hm;rcases hm with rfl | rfl | rfl | rfl | rfl
    ·exact zU9 Z0
    ·exact zU9 P0
    ·exact zU9 O0
    ·exact zU9 f1
    ·exact zU9 f2
   rw [zm (zVJ lt)];exact (hf c hm).1
 done:=by
  intro X hP hw hK hc i zB s σ H E I hf Z hg;subst hP hw hK;obtain ⟨xs,ys,sa,sb,hz⟩:=hg;obtain ⟨its,rv,p1,z1⟩:=I.tuple sa;obtain ⟨its2,rv2,p2,z2⟩:=I.tuple sb;have l1:=rv.length;have l2:=rv2.length;refine zQA (I.ok.hd hc) D Z (show s.heap.IsTuple a its.toArray from p1) (show s.heap.IsTuple b its2.toArray from p2) ?_ fun h' kp=>⟨rfl,zOQ (s:=s) (h':=h') (t':=s.toks) I (fun c hm=>hf c (by
   simp only [zVA,zVT,zWJ] at hm ⊢;rcases hm with q | q | q | q <;> simp [q])) kp⟩
  rcases hz with q | q
  ·exact .inl (by simp; omega)
  ·exact .inr (by simp; omega)
 self:=fun _ _ _ _ _ Z h=>wpAny_pyIter_zip Z.z h
section
variable {X:Cx} {a b:Expr} {es:List Expr} {ek:Nat} {ep p pos:Pos}
theorem zSc {ta:TA} (hg:Gl X "zip") (hm:X.mg "zip" = none) (ha:PA X [a,b] ta) (hs:starEach [a,b] X.env = [(false,eval a X.env),(false,eval b X.env)]:=by rfl) (hs2:starEach [b] X.env = [(false,eval b X.env)]:=by rfl) :
  PI X (.Tuple es ek ep) (.Call (.Name "zip" p) [a,b] [] pos) (fun σ H R=>ta σ H fun vs H1=>∃ l1 l2 xs ys,vs = [.ref l1,.ref l2] /\ SqT X.K H1 l1 xs /\ SqT X.K H1 l2 ys /\ R (Itz X.K l1 l2) H1):=by
 intro zB s σ H R I h;refine Call_ (zGE I hg hm (by rfl) (PyProof.Rows.callWith_type1 (thn (ha pos zB s σ H _ I h) fun us s1 ⟨vs,H1,I1,r1,q1⟩=>?_) (by rw [hs,hs2]) (by rw [hs2]; rfl)));obtain ⟨l1,l2,xs,ys,rfl,s1',s2',q⟩:=q1;cases r1 with
 | cons r rr=>
  cases rr with
  | cons r' rr=>
   cases rr;cases r;cases r';obtain ⟨its,rv,p1,_⟩:=I1.tuple s1';obtain ⟨its2,rv2,p2,_⟩:=I1.tuple s2';have d1:l1 < s1.heap.objs.size:=by obtain ⟨_,e,_⟩:=p1; exact zU9 e
   have d2:l2 < s1.heap.objs.size:=by obtain ⟨_,e,_⟩:=p2; exact zU9 e
   refine zQP (show s1.heap.IsTuple l1 its.toArray from p1) (show s1.heap.IsTuple l2 its2.toArray from p2) fun h' Z kp=>wpAny_pyIter_zip Z.z ?_;refine ⟨s1.heap.objs.size + 4,[s1.heap.objs.size + 4,s1.heap.objs.size + 2,s1.heap.objs.size + 3,s1.heap.objs.size,s1.heap.objs.size + 1],_,_,H1,rfl,I1.kept (t':=s1.toks) kp,zNf (zipApart_new d1 d2),Z,fun c hc=>?_,q⟩;have ge:s1.heap.objs.size <= c:=by
    simp only [zVA,zVT,zWJ] at hc;rcases hc with rfl | rfl | rfl | rfl | rfl
    ·exact Nat.le_add_right _ 4
    ·exact Nat.le_add_right _ 2
    ·exact Nat.le_add_right _ 3
    ·exact zU4 _
    ·exact Nat.le_add_right _ 1
   exact I1.fpOk ge (I1.hok.fresh ge)
def zPs (g:FA):FI:=fun σ M=>match g σ M with
 | some ([.tup xs,.tup ys],M1)=>some ((xs.zip ys).map fun q=>D.tup [q.1,q.2],none,M1)
 | _=>none
theorem zTM (hg:Gl X "zip") (hm:X.mg "zip" = none) (ha:QA X [a,b] g) (hs:starEach [a,b] X.env = [(false,eval a X.env),(false,eval b X.env)]:=by rfl) (hs2:starEach [b] X.env = [(false,eval b X.env)]:=by rfl) :
  QI X (.Tuple es ek ep) (.Call (.Name "zip" p) [a,b] [] pos) (zPs g):=.mk <| PI.imp (zSc hg hm ha.un hs hs2) fun τ H R zz=>by
 obtain ⟨L,σ,M,xs,gd,M',c,rs,hf,q⟩:=zz;unfold zPs at hf;split at hf
 ·rename_i ds es' M1 e1;cases hf;refine ⟨L,σ,M,_,_,c,rs,e1,fun L1 H1 vs s1 c1 r1=>?_⟩;obtain ⟨v,v',rfl,r2,r3⟩:=r1.two;unfold Rep at r2 r3;obtain ⟨l1,ws1,rfl,h1,q1⟩:=r2;obtain ⟨l2,ws2,rfl,h2,q2⟩:=r3;refine ⟨l1,l2,ws1,ws2,rfl,.of h1,.of h2,q L1 H1 _ s1 c1 fun L2 H2 M2 s2 c2 _=>?_⟩;have k1:=s2.tup l1 ws1 h1;have k2:=s2.tup l2 ws2 h2;have p1:=q1.stp s2;have p2:=q2.stp s2;refine ⟨fun i d hd=>?_,⟨ws1,ws2,.of k1,.of k2,?_⟩⟩
  ·rw [zVL] at hd;cases e2:(ds.zip es')[i]? with
   | none=>rw [e2] at hd; cases hd
   | some pr=>
    rw [e2] at hd;cases hd;obtain ⟨f1,f2⟩:=List.getElem?_zip_eq_some.mp e2;obtain ⟨u,hu,ru⟩:=p1.get f1;obtain ⟨u2,hu2,ru2⟩:=p2.get f2;refine ⟨⟨ws1,ws2,u,u2,.of k1,.of k2,hu,hu2⟩,fun v H3 hy=>?_⟩;obtain ⟨T,x,y,rfl,hT,rfl,hxx,hyy⟩:=hy;have ex:=hxx ws1 (.of k1);have ey:=hyy ws2 (.of k2);rw [hu] at ex; cases ex;rw [hu2] at ey; cases ey;exact ⟨fun a o e=>by rw [zm (zAf e hT)]; exact e,Rep.newTup hT (.cons ru (.cons ru2 .nil))⟩
  ·rw [zU7,List.length_zip,p1.length,p2.length];omega
 ·cases hf
def zIX (i j:Nat):FG:=fun d σ=>match d with
 | .tup [x,y]=>some ((σ.set i (some x)).set j (some y))
 | _=>none
abbrev gP2 (K:PySem.W.Frag) (i j:Nat):TG:=zUH K 2 (zPe (zD9 i) (zPe (zD9 j) zTk))
theorem zOe {K:PySem.W.Frag} {i j:Nat}:GOk (gP2 K i j) (zIX i j):=by
 intro L H σ σ' τ d v Q rs r hf q;unfold zIX at hf;split at hf
 ·rename_i x y;cases hf;unfold Rep at r;obtain ⟨a,vs,rfl,e,r⟩:=r;obtain ⟨v1,v2,rfl,r1,r2⟩:=r.two;exact ⟨a,_,rfl,.of e,rfl,v1,[v2],rfl,v2,[],rfl,rfl,q _ ((rs.set r1).set r2)⟩
 ·cases hf
theorem zNO {K:PySem.W.Frag} {own:List Nat} {i j:Nat} (hi:i ∈ own) (hj:j ∈ own):zF1 own (gP2 K i j) (zIX i j):=by
 intro L H σ σ' τ τ0 d v Q rs ex r hf q;unfold zIX at hf;split at hf
 ·rename_i x y;cases hf;unfold Rep at r;obtain ⟨a,vs,rfl,e,r⟩:=r;obtain ⟨v1,v2,rfl,r1,r2⟩:=r.two;exact ⟨a,_,rfl,.of e,rfl,v1,[v2],rfl,v2,[],rfl,rfl,q _ ((rs.set r1).set r2) ((ex.set hi).set hj)⟩
 ·cases hf
end
section
variable {X:Cx} {a b c e:Expr} {es:List Expr} {pos p p2 pos2:Pos} {f g h:FE}
theorem zMX:∀ {bs:List Bool} {its:List Value},zv (bs.map V.bl) its -> ∀ (i:Nat) v,its[i]? = some v -> ∃ k,bs[i]? = some k /\ v = .bool k
 | [],_,.nil,_,_,h=>by simp at h
 | k :: bs,_,.cons r t,0,v,h=>by
  simp at h; subst h;exact ⟨k,rfl,r⟩
 | k :: bs,_,.cons r t,i + 1,v,h=>by
  obtain ⟨k',e1,e2⟩:=zMX t i v (by simpa using h);exact ⟨k',by simpa using e1,e2⟩
theorem zL3 (bs:List Bool):((List.range bs.length).all fun i=>(bs[i]?).getD true) = bs.all id:=by
 rw [Bool.eq_iff_iff,zVZ,zVZ];constructor
 ·intro q k hk;obtain ⟨i,hi,rfl⟩:=List.getElem_of_mem hk;have:=q i (zVc.mpr hi);rw [zU2 hi] at this;exact this
 ·intro q i hi;rw [zU2 (zVc.mp hi)];exact q _ (zVW _)
def zUO (K:PySem.W.Frag) (F:List Bool -> Bool):List V -> Hp -> VK -> Prop:=fun xs H Q=>∃ q bs,xs = [.ref q] /\ SqL K H q (bs.map V.bl) /\ Q (.bl (F bs)) H
theorem zNy (hc:X.calm = true):zBz X (.builtin "all") (zUO X.K fun bs=>bs.all id):=by
 intro zB s σ H xs us Q I r h;obtain ⟨l,bs,rfl,hq,q⟩:=h;obtain ⟨u,rfl,rx⟩:=zDn r;cases rx;obtain ⟨its,rv,pl,_⟩:=I.list hq;have hlt:l < s.heap.objs.size:=by obtain ⟨_,z,_⟩:=pl.isList; exact zU9 z
 refine call_all_walk (wpAny_pyIter_list pl.isList ⟨s.heap.objs.size,[s.heap.objs.size,l],[s.heap.objs.size],its.toArray.size,_,_,fun i=>(bs[i]?).getD true,rfl,Walks.list (A:=X.A.in1) (I.ok.hd hc) _ l (zVJ hlt) its.toArray,
  ⟨⟨_,zU8 _ rfl,rfl,rfl⟩,pl.isList.push _⟩,fun i v s' Q' E' hP hQ=>?_,fun h' tk hk=>?_⟩)
 ·obtain ⟨k,z,rfl⟩:=zMX rv i v (by simpa using hP);dsimp only at hQ; rw [z] at hQ;exact zWA hQ
 ·have hl:=rv.length;rw [zU7] at hl;rw [zU6,<- hl,zL3];exact ⟨.bl _,H,I.kept (t':=tk) fun b o z=>hk b o (fun m=>by rw [zVQ.mp m] at z; exact zVg _ (zU9 z)) (zUz _ z),rfl,q⟩
def zGV:List D -> Option (List Bool)
 | []=>some []
 | .bl k :: r=>match zGV r with
  | some bs=>some (k :: bs)
  | none=>none
 | _=>none
theorem zMm:∀ {ds:List D} {bs:List Bool} {vs:List V},zGV ds = some bs -> za L H ds vs -> vs = bs.map V.bl
 | [],bs,vs,e,r=>by cases e; unfold za at r; exact r
 | d :: ds,bs,vs,e,r=>by
  unfold za at r;obtain ⟨v,r',rfl,r1,r2⟩:=r;cases d with
  | bl k=>
   unfold zGV at e;cases q:zGV ds with
   | none=>rw [q] at e; cases e
   | some bs'=>
    rw [q] at e; cases e;unfold Rep at r1;rw [r1,zMm q r2]; rfl
  | _=>cases e
def zNP (F:List Bool -> Bool):KB:=fun xs M=>match xs with
 | [x]=>match zCE M x with
  | some ds=>match zGV ds with
   | some bs=>some (.dat (.bl (F bs)),M)
   | none=>none
  | none=>none
 | _=>none
theorem zRb {K:PySem.W.Frag} {F:List Bool -> Bool}:zFt K (zUO K F) (zNP F):=by
 intro L M M' H H0 xs d vs Q c r hk q;unfold zNP at hk;split at hk
 ·rename_i x;split at hk
  ·rename_i ds e1;split at hk
   ·rename_i bs e2;cases hk;obtain ⟨v,rfl,r1⟩:=r.one;obtain ⟨l,ws,rfl,h1,r2⟩:=zCi c r1 e1;have:=zMm e2 r2;subst this;exact ⟨l,bs,rfl,.inl h1,q L H _ (.refl L H) c (zBS (L:=L) (H:=H))⟩
   ·cases hk
  ·cases hk
 ·cases hk
abbrev zK2:KB:=zNP fun bs=>bs.all id
section
variable {fa:FAE}
theorem zLP (hc:X.calm = true) (hg:Gl X "all") (hm:X.mg "all" = none) (ha:QAE X [e] fa) (he:starEach [e] X.env = (false,eval e X.env) :: starEach [] X.env:=by rfl) (hpl:(backTo pos (starEach [] X.env)).any (·.1) = false:=by rfl):QE X (.Call (.Name "all" p) [e] [] pos) (fB zK2 fa) :=
 zEt zRb (zNy hc) (by rfl) hg hm ha (by decide) (by decide) he hpl
end
theorem zTa (h:zCE M x = some ds) (hb:zGV ds = some bs):Ok (zNP F [x] M) P ↔ P (.dat (.bl (F bs))) M:=by
 have:zNP F [x] M = some (.dat (.bl (F bs)),M):=by unfold zNP; dsimp only; rw [h]; dsimp only; rw [hb]
 rw [this,zAI]
theorem zIy:∀ bs:List Bool,zGV (bs.map D.bl) = some bs
 | []=>rfl
 | k :: bs=>by rw [zVH]; unfold zGV; rw [zIy bs]
def zLn:V -> Bool
 | .non=>true
 | .bl _=>true
 | _=>false
theorem zSS:OpR X (compareOp .Is) (fun x y H Q=>zLn y = true /\ Q (.bl (decide (x = y))) H):=by
 intro zB s σ H x y v u Q I rx ry h;obtain ⟨hp,q⟩:=h;cases y with
 | non=>
  cases ry;refine wpAny_is_plain (by cases x <;> first | (cases rx; rfl) | (obtain ⟨t,rfl⟩:=rx; rfl)) (zAD I q ?_);cases x <;> first | (cases rx; rfl) | (obtain ⟨t,rfl⟩:=rx; rfl)
 | bl k=>
  cases ry;refine wpAny_is_plain (by cases x <;> first | (cases rx; rfl) | (obtain ⟨t,rfl⟩:=rx; rfl)) (zAD I q ?_);cases x with
  | bl k'=>cases rx; cases k <;> cases k' <;> rfl
  | _=>first | (cases rx; rfl) | (obtain ⟨t,rfl⟩:=rx; rfl)
 | _=>cases hp
def isD:EV -> D -> Option Bool
 | x,.non=>match x with
  | .dat .non=>some true
  | _=>some false
 | x,.bl k=>match x with
  | .dat (.bl k')=>some (decide (k' = k))
  | _=>some false
 | _,_=>none
def kIs (neg:Bool):K2:=fun x y M=>match y with
 | .dat d=>match isD x d with
  | some k=>some (.dat (.bl (if neg then !k else k)),M)
  | none=>none
 | _=>none
theorem zRe (rx:zo H0 L H x v) (ry:Rep L H d w) (e:isD x d = some k):zLn w = true /\ decide (v = w) = k:=by
 cases d with
 | non=>
  unfold Rep at ry; subst ry;refine ⟨rfl,?_⟩;cases x with
  | fl xs=>obtain ⟨q,vs,rfl,_⟩:=rx; cases e; rfl
  | dat d'=>
   cases d' with
   | non=>unfold zo Rep at rx; subst rx; cases e; rfl
   | bl _=>unfold zo Rep at rx; subst rx; cases e; rfl
   | int _=>unfold zo Rep at rx; subst rx; cases e; rfl
   | str _=>unfold zo Rep at rx; subst rx; cases e; rfl
   | tup _=>unfold zo Rep at rx; obtain ⟨q,vs,rfl,_⟩:=rx; cases e; rfl
   | ref _=>unfold zo Rep at rx; obtain ⟨q,rfl,_⟩:=rx; cases e; rfl
 | bl k'=>
  unfold Rep at ry; subst ry;refine ⟨rfl,?_⟩;cases x with
  | fl xs=>obtain ⟨q,vs,rfl,_⟩:=rx; cases e; rfl
  | dat d'=>
   cases d' with
   | non=>unfold zo Rep at rx; subst rx; cases e; rfl
   | bl j=>unfold zo Rep at rx; subst rx; cases e; cases j <;> cases k' <;> rfl
   | int _=>unfold zo Rep at rx; subst rx; cases e; rfl
   | str _=>unfold zo Rep at rx; subst rx; cases e; rfl
   | tup _=>unfold zo Rep at rx; obtain ⟨q,vs,rfl,_⟩:=rx; cases e; rfl
   | ref _=>unfold zo Rep at rx; obtain ⟨q,rfl,_⟩:=rx; cases e; rfl
 | _=>cases e
theorem zO7 (h:kIs neg x y M = some (r,M')):∃ d k,y = .dat d /\ isD x d = some k /\ r = .dat (.bl (if neg then !k else k)) /\ M' = M:=by
 unfold kIs at h;split at h
 ·rename_i d;split at h
  ·rename_i k e1; cases h; exact ⟨d,k,rfl,e1,rfl,rfl⟩
  ·cases h
 ·cases h
theorem zSH {K:PySem.W.Frag}:zB2 K (fun x y H Q=>zLn y = true /\ Q (.bl (decide (x = y))) H) (kIs false):=by
 intro L M M' H H0 x y d v w Q cc rx ry hk q;obtain ⟨d',k,rfl,e,rfl,rfl⟩:=zO7 hk;obtain ⟨h1,h2⟩:=zRe rx ry e;refine ⟨h1,?_⟩;rw [h2];exact q L H _ (.refl L H) cc (zBS (L:=L) (H:=H))
theorem zUk (h1:QE X a f) (h2:QE X b g):QE X (.Compare a [.Is] [b] pos) (fOp (kIs false) f g):=zPv zSH zSS h1 h2 (zEc _)
def zF8 (k k':K2) (f g h:FE):FE:=fun σ M=>match f σ M with
 | some (x,M1)=>match g σ M1 with
  | some (y,M2)=>match k x y M2 with
   | some (.dat (.bl true),M3)=>match h σ M3 with
    | some (w,M4)=>k' y w M4
    | none=>none
   | some (.dat (.bl false),M3)=>some (.dat (.bl false),M3)
   | _=>none
  | none=>none
 | none=>none
theorem zL4 {K:PySem.W.Frag} {r r':R2} {k k':K2} (hk:zB2 K r k) (hk':zB2 K r' k') {τ:Sv} {H:Hp} {Q:VK} (z:trE K (zF8 k k' f g h) τ H Q):zOZ r r' (trE K f) (trE K g) (trE K h) τ H Q:=by
 obtain ⟨L,σ,M,d,M',cc,rs,hf,q⟩:=z;unfold zF8 at hf;split at hf
 ·rename_i x M1 e1;split at hf
  ·rename_i y M2 e2;refine ⟨L,σ,M,_,_,cc,rs,e1,fun L1 H1 v s1 c1 r1=>⟨L1,σ,M1,_,_,c1,rs.stp s1,e2,fun L2 H2 w s2 c2 r2=>?_⟩⟩;split at hf
   ·rename_i M3 e3;split at hf
    ·rename_i u M4 e4;refine hk (H0:=H) c2 (r1.stp s2) (r2.back s1 cc s2.sub) e3 fun L3 H3 t s3 c3 r3=>⟨true,zAd r3,zGI ?_⟩;refine ⟨L3,σ,M3,_,_,c3,rs.stp ((s1.trans s2).trans s3),e4,fun L4 H4 w4 s4 c4 r4=>?_⟩;have s13:=(s1.trans s2).trans s3;refine hk' (H0:=H) c4 (((r2.back s1 cc s2.sub).stp s3).stp s4) (r4.back s13 cc s4.sub) hf fun L5 H5 u5 s5 c5 r5=>?_;exact q L5 H5 u5 ((s13.trans s4).trans s5) c5 (r5.back (s13.trans s4) cc s5.sub)
    ·cases hf
   ·rename_i M3 e3;cases hf;refine hk (H0:=H) c2 (r1.stp s2) (r2.back s1 cc s2.sub) e3 fun L3 H3 t s3 c3 r3=>⟨false,zAd r3,zGP ?_⟩;exact q L3 H3 _ ((s1.trans s2).trans s3) c3 (by have:=zAd r3; subst this; exact r3)
   ·cases hf
  ·cases hf
 ·cases hf
theorem zRJ (hk:zB2 X.K r k) (hk':zB2 X.K r' k') (ho:OpR X (compareOp op) r) (ho':OpR X (compareOp op') r') (h1:QE X a f) (h2:QE X b g) (h3:QE X c h)
  (hm:lastMarks [op,op'] [b,c] = false:=by with_unfolding_all rfl):QE X (.Compare a [op,op'] [b,c] pos) (zF8 k k' f g h):=.mk <| PE.imp (zO8 ho ho' h1.un h2.un h3.un hm) fun _ _ _ z=>zL4 hk hk' z
section
variable {M:Mem} {σ:Sd} {P:EV -> Mem -> Prop}
theorem zO2:Ok (zF8 k k' f g h σ M) P ↔ Ok (f σ M) fun x M1=>Ok (g σ M1) fun y M2=>Ok (k x y M2) (blP fun t M3=>if t then Ok (h σ M3) fun w M4=>Ok (k' y w M4) P else P (.dat (.bl false)) M3):=by
 unfold zF8;constructor
 ·rintro ⟨x,M1,z,q⟩;split at z
  ·rename_i y M2 e1;split at z
   ·rename_i y' M3 e2;split at z
    ·rename_i M4 e3;split at z
     ·rename_i w M5 e4;exact ⟨_,_,e1,_,_,e2,_,_,e3,by rw [zEV,zVD rfl]; exact ⟨_,_,e4,_,_,z,q⟩⟩
     ·cases z
    ·rename_i M4 e3;cases z;exact ⟨_,_,e1,_,_,e2,_,_,e3,by rw [zEV]; simpa using q⟩
    ·cases z
   ·cases z
  ·cases z
 ·rintro ⟨x,M1,e1,y,M2,e2,t,M3,e3,q⟩;rw [e1]; dsimp only; rw [e2]; dsimp only; rw [e3];cases t with
  | fl _=>exact q.elim
  | dat d=>
   cases d with
   | bl t=>
    rw [zEV] at q;cases t with
    | true=>
     rw [zVD rfl] at q;obtain ⟨w,M4,e4,q⟩:=q;dsimp only; rw [e4]; exact q
    | false=>exact ⟨_,_,rfl,by simpa using q⟩
   | _=>exact q.elim
end
def zSP (f:FE):FE:=fun σ M=>match f σ M with
 | some (.dat (.int i),M1)=>some (.dat (.int (-i)),M1)
 | _=>none
theorem zTo (h1:QE X a f):QE X (.UnaryOp .USub a pos) (zSP f):=.mk <| PE.imp (zTY zTG h1.un) fun τ H Q zz=>by
 obtain ⟨L,σ,M,d,M',cc,rs,hf,q⟩:=zz;unfold zSP at hf;split at hf
 ·rename_i i M1 e1;cases hf;refine ⟨L,σ,M,_,_,cc,rs,e1,fun L1 H1 v s1 c1 r1=>?_⟩;exact ⟨i,by unfold zo Rep at r1; exact r1,q L1 H1 _ s1 c1 (zAo (L:=L1) (H:=H1))⟩
 ·cases hf
def zHV:KB:=fun xs M=>match xs with
 | [x]=>match zBX M x with
  | some ys=>some (.fl ys,M)
  | none=>none
 | _=>none
theorem zOy:zFt X.K (fun xs H Q=>∃ q ys,xs = [.ref q] /\ (SqL X.K H q ys \/ SqT X.K H q ys) /\ ∀ l,H l = none -> Q (.ref l) (upd H l (.lst ys))) zHV:=by
 intro L M M' H H0 xs d vs Q cc r hk q;unfold zHV at hk;split at hk
 ·rename_i x;split at hk
  ·rename_i ys e1;cases hk;obtain ⟨v,rfl,r1⟩:=r.one;obtain ⟨l,ws,rfl,hs,r2⟩:=zJf cc r1 e1;refine ⟨l,ws,rfl,hs,fun k hk=>?_⟩;exact q L _ _ (.upd hk) (cc.upd hk) (zo.newLst (.refl L H) cc cc hk r2)
  ·cases hk
 ·cases hk
theorem zP4 (hg:Gl X "list") (hm:X.mg "list" = none) (ha:QAE X [e] fa) (he:starEach [e] X.env = (false,eval e X.env) :: starEach [] X.env:=by rfl) (hpl:(backTo pos (starEach [] X.env)).any (·.1) = false:=by rfl):QE X (.Call (.Name "list" p) [e] [] pos) (fB zHV fa) :=
 zEJ zOy zJ4 (by rfl) hg hm ha (by decide) (by decide) he hpl
end
open AutoSeq1 (wpAny_loadPart')
section
variable {prog:Program} {w:World} {A:Around} {E:Value -> Shared -> Prop} {s:Shared}
theorem zPI {r:Addr} {lo hi:Int} {t u v:Tok} {n:Nat} {Q:List Value -> Shared -> Prop} (hh:A.handled = none) (R:IsRange s.heap r lo hi 1 t u v) (sm:Builtin.Range.small lo hi 1 = true) (hn:Builtin.Range.rangeSize lo hi 1 = n) (hz:n <= 2 ^ 24)
  (q:∀ h' tk (acc:Array Value),(∀ b o,s.heap.get? b = some o -> h'.get? b = some o) -> ItemsOf (fun i v=>∃ t,v = .int (lo + i * 1) t) acc n -> Q acc.toList { s with heap:=h',toks:=tk }):wpAny (model prog w) A (collect (.ref r)) Q E s:=by
 unfold collect;refine zUy (wpAny_runValue (codeAny_builtin PySem.F.entry_proto_collect ?_));rw [Around.under_plainId PySem.F.plain_proto_collect _];refine zUy (m:=newList []) (zVR (zU0 ⟨plainId_quiet PySem.F.plain_list_iadd _,codeAny_builtin PySem.F.entry_list_iadd ?_⟩));rw [Around.under_plainId PySem.F.plain_list_iadd _];have S0:(s.heap.push { cls:=.type "list", data:=.seq ([]:List Value).toArray }).get? s.heap.objs.size = some { cls:=.type "list", data:=.seq #[] 0 }:=zU8 _ rfl
 have fin:∀ (h':Heap) (tk:Nat) (acc:Array Value) (k:Nat),(∀ b o,b ≠ s.heap.objs.size -> (s.heap.push { cls:=.type "list", data:=.seq ([]:List Value).toArray }).get? b = some o -> h'.get? b = some o) ->
   h'.get? s.heap.objs.size = some { cls:=.type "list", dict:=none,data:=.seq acc k,slots:=#[] } -> ItemsOf (fun i v=>∃ t,v = .int (lo + i * 1) t) acc n ->
   wpAny (model prog w) A (match Value.ref s.heap.objs.size with
    | Value.ref a=>do
     match (<- load a).data with
      | Data.seq xs _=>pure xs.toList
      | _=>unsupported "internal:collect"
    | _=>unsupported "internal:collect") Q E { s with heap:=h',toks:=tk }:=fun h' tk acc k kp e it=>by
  refine zUy (m:=load s.heap.objs.size) (wpAny_load e (zU0 (q h' tk acc (fun b o m=>kp b o (zVJ (zU9 m)) (zUz _ m)) it)))
 refine zVU (wpAny_extend_range (A:=A) (s:={ s with heap:=s.heap.push { cls:=.type "list", data:=.seq ([]:List Value).toArray } })
  (R:=fun r s'=>r = .ok (.ret (.ref s.heap.objs.size)) /\ ∃ h' tk acc k,s' = { s with heap:=h',toks:=tk } /\ (∀ b o,b ≠ s.heap.objs.size -> (s.heap.push { cls:=.type "list", data:=.seq ([]:List Value).toArray }).get? b = some o -> h'.get? b = some o) /\
   h'.get? s.heap.objs.size = some { cls:=.type "list", dict:=none,data:=.seq acc k,slots:=#[] } /\ ItemsOf (fun i v=>∃ t,v = .int (lo + i * 1) t) acc n)
  hh (zUz _ R) sm hn hz s.heap.objs.size (.ref s.heap.objs.size) 0 S0 fun h' tk acc k kp e it=>⟨rfl,h',tk,acc,k,rfl,kp,e,it⟩) (fun f s' z=>?_) (fun e s' z=>?_)
 ·cases f with
  | done f=>
   obtain ⟨e,h',tk,acc,k,rfl,z1,z2,z3⟩:=z;cases e;exact fin h' tk acc k z1 z2 z3
  | again c'=>exact ⟨z.1,codeAny_mono z.2 fun r s'' z=>by obtain ⟨rfl,h',tk,acc,k,rfl,z1,z2,z3⟩:=z; exact fin h' tk acc k z1 z2 z3⟩
 ·exact absurd z.1 (by simp)
end
theorem zJW (r:Addr) (lo hi:Int) (t u v:Tok) (n:Nat) (sm:Builtin.Range.small lo hi 1 = true) (hn:Builtin.Range.rangeSize lo hi 1 = n) (hz:n <= 2 ^ 24) :
  Meets (Builtin.«tuple.__new__» ⟨[.type "tuple", .ref r],[]⟩) (fun A R s=>A.handled = none /\ IsRange s.heap r lo hi 1 t u v /\
   ∀ (h':Heap) (tk:Nat) (acc:Array Value),(∀ b o,s.heap.get? b = some o -> h'.get? b = some o) -> ItemsOf (fun i v=>∃ t,v = .int (lo + i * 1) t) acc n -> R (.ok (.ret (.ref h'.objs.size))) { s with heap:=h'.push { cls:=.type "tuple", data:=.seq acc },toks:=tk }) :=
 .of_wp fun prog w A R s h=>by
  obtain ⟨hp,g,d,tk,os⟩:=s;obtain ⟨hh,Ra,h⟩:=h;have h1:=sub_tuple_self;have h2:=init_tuple_lookup;have h3:=madeHere_tuple;have T:Shared.TypeIs ⟨hp,g,d,tk,os⟩ (.ref r) "range" := ⟨_,Ra,rfl⟩;wp_walk using wpAny_loadPart' Ra,wpAny_typeOf T,zPI (show A.in1.handled = none from hh) Ra sm hn hz;intro h' tk' acc kp it;refine zUy (m:=Builtin.Tuple.tupleExact acc.toList.toArray) ?_;unfold Builtin.Tuple.tupleExact;have sz:acc.toList.toArray.size <= sizeLine:=by rw [zU6,zVh,it.1,sizeLine_eq]; omega
  refine zVR (zU0 ⟨_,rfl,?_⟩) sz;have e:acc.toList.toArray = acc:=by simp
  rw [e];exact h h' tk' acc kp it
section
variable {X:Cx} {a e:Expr} {es:List Expr} {pos p p2 pos2:Pos} {f:FE}
theorem zK7:zBz X (.type "range") (fun xs H Q=>∃ j,xs = [.int j] /\ ∀ l,H l = none -> Q (.ref l) (upd H l (.rng 0 j))):=by
 intro zB s σ H xs us Q I r h;obtain ⟨j,rfl,q⟩:=h;obtain ⟨u,rfl,rx⟩:=zDn r;obtain ⟨t,rfl⟩:=rx;refine call_range_1 ⟨.ref s.heap.objs.size,_,I.laid (fun b o z=>zUz _ z) (zU4 _) ?_,rfl,q _ (I.hok.fresh (zU4 _))⟩;exact ⟨_,_,_,zU8 _ rfl⟩
def upV (n:Nat):List V:=(List.range n).map fun (k:Nat)=>V.int k
theorem zKr (h:ItemsOf (fun i v=>∃ t,v = .int ((0:Int) + i * 1) t) acc n):zv (upV n) acc.toList:=by
 obtain ⟨hz,hi⟩:=h;have:∀ (xs:List Value) (k:Nat),(∀ j v,xs[j]? = some v -> ∃ t,v = Value.int ((k + j:Nat):Int) t) -> zv ((List.range' k xs.length).map fun (k:Nat)=>V.int k) xs:=by
  intro xs;induction xs with
  | nil=>intro k _; exact .nil
  | cons x xs ih=>
   intro k hk;rw [zVV,List.range'_succ,zVH];refine .cons ?_ (ih (k + 1) fun j v e=>?_)
   ·obtain ⟨t,e⟩:=hk 0 x rfl;exact ⟨t,by simpa using e⟩
   ·obtain ⟨t,e'⟩:=hk (j + 1) v (by simpa using e);exact ⟨t,by rw [e']; congr 2; omega⟩
 have q:=this acc.toList 0 (fun j v e=>by
  obtain ⟨t,e'⟩:=hi j v (by simpa using e);exact ⟨t,by rw [e']; congr 1; omega⟩)
 unfold upV;rw [List.range_eq_range'];rw [zVh,hz] at q;exact q
theorem zIz (h0:0 <= j) (h1:j <= 16777216):Builtin.Range.small 0 j 1 = true /\ Builtin.Range.rangeSize 0 j 1 = (j.toNat:Int):=by
 refine ⟨small_one (by omega) (by omega) (by omega) (by omega),?_⟩;rw [rangeSize_one]; split <;> omega
def zTU (mk:List V -> HO):List V -> Hp -> VK -> Prop:=fun xs H Q=>∃ r j,xs = [.ref r] /\ H r = some (.rng 0 j) /\ 0 <= j /\ j <= 16777216 /\ ∀ l,H l = none -> Q (.ref l) (upd H l (mk (upV j.toNat)))
theorem zG0 (n:Nat):(upV n).length = n:=by unfold upV; simp
theorem zNU (hc:X.calm = true):zBz X (.type "tuple") (zTU HO.tup):=by
 intro zB s σ H xs us Q I r h;obtain ⟨l,j,rfl,hr,h0,h1,q⟩:=h;obtain ⟨u,rfl,rx⟩:=zDn r;cases rx;obtain ⟨t,u,v,er⟩:=(show zAV X.prog X.w H s.heap l (.rng 0 j) from I.hok l _ hr);obtain ⟨sm,sz⟩:=zIz h0 h1
 refine callType_new PySem.F.called_tuple (by decide) (PySem.F.typeCall_tuple_1 _) (PySem.F.newCall_tuple_1 _) (fun obj=>PySem.F.args_object_init_2 obj _) PySem.F.entry_tuple_new (zJW l 0 j t u v j.toNat sm sz (by omega))
  ⟨I.ok.hd hc,er,fun h' tk acc kp it=>⟨⟨_,zU8 _ rfl,rfl⟩,?_⟩⟩
 have I1:Inv X zB σ H { s with heap:=h',toks:=tk }:=I.kept kp;refine ⟨.ref h'.objs.size,_,I1.laid (t':=tk) (fun b o z=>zUz _ z) (zU4 _) ?_,rfl,q _ (I1.hok.fresh (zU4 _))⟩;exact ⟨by rw [zG0,sizeLine_eq]; omega,acc.toList,zKr it,by simpa using zCt.new h' acc⟩
theorem zOP (hc:X.calm = true):zBz X (.type "list") (zTU HO.lst):=by
 intro zB s σ H xs us Q I r h;obtain ⟨l,j,rfl,hr,h0,h1,q⟩:=h;obtain ⟨u,rfl,rx⟩:=zDn r;cases rx;obtain ⟨t,u,v,er⟩:=(show zAV X.prog X.w H s.heap l (.rng 0 j) from I.hok l _ hr);obtain ⟨sm,sz⟩:=zIz h0 h1;refine call_list_range (I.ok.hd hc) er sm sz (by omega) fun h' tk acc k kp z it=>?_;refine ⟨.ref s.heap.objs.size,_,I.laid (t':=tk) kp (zU4 _) (show zAV X.prog X.w _ h' _ (.lst (upV j.toNat)) from ⟨by rw [zG0,sizeLine_eq]; omega,acc.toList,k,zKr it,by simpa using z⟩),rfl,q _ (I.hok.fresh (zU4 _))⟩
def upD (n:Nat):List D:=(List.range n).map fun (k:Nat)=>D.int k
theorem zMz (n:Nat):za L H (upD n) (upV n):=by
 have:∀ xs:List Nat,za L H (xs.map fun (k:Nat)=>D.int k) (xs.map fun (k:Nat)=>V.int k):=by
  intro xs;induction xs with
  | nil=>exact .nil
  | cons x xs ih=>exact .cons zAo ih
 exact this _
def zMs (f:FE):FE:=fun σ M=>match f σ M with
 | some (.dat (.int j),M1)=>if 0 <= j /\ j <= 16777216 then some (.dat (.tup (upD j.toNat)),M1) else none
 | _=>none
def zHS (f:FE):FE:=fun σ M=>match f σ M with
 | some (.dat (.int j),M1)=>if 0 <= j /\ j <= 16777216 then some (.fl (upD j.toNat),M1) else none
 | _=>none
theorem zSb (hc:X.calm = true) (hg:Gl X "tuple") (hm:X.mg "tuple" = none) (hg2:Gl X "range") (hm2:X.mg "range" = none) (ha:QE X a f)
  (he:starEach [Expr.Call (.Name "range" p2) [a] [] pos2] X.env = (false,eval (Expr.Call (.Name "range" p2) [a] [] pos2) X.env) :: starEach [] X.env:=by rfl) (hpl:(backTo pos (starEach [] X.env)).any (·.1) = false:=by rfl)
  (he2:starEach [a] X.env = (false,eval a X.env) :: starEach [] X.env:=by rfl) (hpl2:(backTo pos2 (starEach [] X.env)).any (·.1) = false:=by rfl) :
  QE X (.Call (.Name "tuple" p) [.Call (.Name "range" p2) [a] [] pos2] [] pos) (zMs f) :=
 .mk <| PE.imp (zDd (zNU hc) hg hm (by rfl) (zDP (zDd zK7 hg2 hm2 boot_range (zDP ha.un zFF he2) (by decide) (by decide) he2 hpl2) zFF he) (by decide) (by decide) he hpl) fun τ H Q zz=>by
  obtain ⟨L,σ,M,d,M',c,rs,hf,q⟩:=zz;unfold zMs at hf;split at hf
  ·rename_i j M1 e1;split at hf
   ·rename_i hb;cases hf;refine ⟨L,σ,M,_,_,c,rs,e1,fun L1 H1 v s1 c1 r1=>⟨j,by unfold zo Rep at r1; rw [r1],fun l hl=>⟨l,j,rfl,zAh,hb.1,hb.2,fun k hk=>?_⟩⟩⟩;exact q L1 _ _ ((s1.trans (.upd hl)).trans (.upd hk)) ((c1.upd hl).upd hk) (Rep.newTup hk (zMz _))
   ·cases hf
  ·cases hf
theorem zQM (hc:X.calm = true) (hg:Gl X "list") (hm:X.mg "list" = none) (hg2:Gl X "range") (hm2:X.mg "range" = none) (ha:QE X a f)
  (he:starEach [Expr.Call (.Name "range" p2) [a] [] pos2] X.env = (false,eval (Expr.Call (.Name "range" p2) [a] [] pos2) X.env) :: starEach [] X.env:=by rfl) (hpl:(backTo pos (starEach [] X.env)).any (·.1) = false:=by rfl)
  (he2:starEach [a] X.env = (false,eval a X.env) :: starEach [] X.env:=by rfl) (hpl2:(backTo pos2 (starEach [] X.env)).any (·.1) = false:=by rfl) :
  QE X (.Call (.Name "list" p) [.Call (.Name "range" p2) [a] [] pos2] [] pos) (zHS f) :=
 .mk <| PE.imp (zDd (zOP hc) hg hm (by rfl) (zDP (zDd zK7 hg2 hm2 boot_range (zDP ha.un zFF he2) (by decide) (by decide) he2 hpl2) zFF he) (by decide) (by decide) he hpl) fun τ H Q zz=>by
  obtain ⟨L,σ,M,d,M',c,rs,hf,q⟩:=zz;unfold zHS at hf;split at hf
  ·rename_i j M1 e1;split at hf
   ·rename_i hb;cases hf;refine ⟨L,σ,M,_,_,c,rs,e1,fun L1 H1 v s1 c1 r1=>⟨j,by unfold zo Rep at r1; rw [r1],fun l hl=>⟨l,j,rfl,zAh,hb.1,hb.2,fun k hk=>?_⟩⟩⟩;have s2:Stp L H L1 (upd H1 l (.rng 0 j)):=s1.trans (.upd hl);exact q L1 _ _ (s2.trans (.upd hk)) ((c1.upd hl).upd hk) (zo.newLst s2 c (c1.upd hl) hk (zMz _))
   ·cases hf
  ·cases hf
section
variable {M:Mem} {σ:Sd} {P:EV -> Mem -> Prop}
theorem zRo (e:f σ M = some (.dat (.int j),M)) (h0:0 <= j) (h1:j <= 16777216) (q:P (.fl (upD j.toNat)) M):Ok (zHS f σ M) P:=by
 refine ⟨_,_,?_,q⟩;unfold zHS; rw [e]; dsimp only; rw [zVD ⟨h0,h1⟩]
end
end
def zFw:Expr -> Bool
 | .Starred .. =>false
 | _=>true
theorem zC (h:zFw e = true):starEach (e :: es) env = (false,eval e env) :: starEach es env:=by
 cases e <;> first | rfl | cases h
theorem zAK (h:zFw e = true):starEach [e] env = [(false,eval e env)]:=zC h
theorem zOn (h:zFw e = true) (h':zFw e' = true):starEach [e,e'] env = [(false,eval e env),(false,eval e' env)]:=by rw [zC h,zAK h']
theorem zO:∀ {es:List Expr},es.all zFw = true -> (backTo pos (starEach es env)).any (·.1) = false
 | [],_=>rfl
 | e :: es,h=>by
  rw [List.all_cons,zVY] at h;rw [zC h.1];have:=zO (pos:=pos) (env:=env) h.2;simpa [backTo] using this
theorem Cor.pushO {K:PySem.W.Frag} {L:List Addr} {M:List MO} {H:Hp} {p:Addr} {o:HO} {m:MO} (c:Cor K L M H) (h:H p = none) (new:zHC K (L ++ [p]) (L2.upd H p o) p m) :
  Cor K (L ++ [p]) (M ++ [m]) (L2.upd H p o) /\ Stp L H (L ++ [p]) (L2.upd H p o):=by
 have hp:p ∉ L:=fun z=>by obtain ⟨o,e⟩:=c.tracked z; rw [h] at e; cases e
 have st:Stp L H (L ++ [p]) (L2.upd H p o):=by
  refine ⟨⟨[p],rfl⟩,fun a ha=>?_,fun a o e _=>?_,fun a o e=>?_,fun a o u e=>?_⟩
  ·rcases zVO.mp ha with z | z
   ·exact .inl z
   ·have:a = p:=by simpa using z
    subst this; exact .inr h
  all_goals (rw [zm (zAf e h)]; exact e)
 refine ⟨⟨by simp [c.len],?_,fun n a m e1 e2=>?_⟩,st⟩
 ·rw [zWC];exact ⟨c.nd,by simp,fun a ha b hb z=>by
   have:b = p:=by simpa using hb
   subst this; subst z; exact hp ha⟩
 ·by_cases hn:n < L.length
  ·rw [zU5 hn] at e1;rw [zU5 (by rw [<- c.len]; exact hn)] at e2;exact (c.obj n a m e1 e2).stp st fun o e=>by rw [zm (zAf e h)]; exact e
  ·have hn':n = L.length:=by
    have:=(zU1.mp e1).1;rw [zVE] at this;simp at this; omega
   subst hn';simp at e1;rw [c.len] at e2;simp at e2;subst e1; subst e2;exact new
theorem Cor.put {K:PySem.W.Frag} {L:List Addr} {M:List MO} {H:Hp} {n:Nat} {p:Addr} {o o':HO} {m:MO} (c:Cor K L M H) (h1:L[n]? = some p) (ho:H p = some o) (ht:∀ xs,o ≠ .tup xs) (hf:∀ a u,o ≠ .frz a u)
  (new:Stp L H L (L2.upd H p o') -> zHC K L (L2.upd H p o') p m):Cor K L (M.set n m) (L2.upd H p o') /\ Stp L H L (L2.upd H p o'):=by
 have st:Stp L H L (L2.upd H p o'):=by
  refine ⟨⟨[],by simp⟩,fun a ha=> .inl ha,fun a o e ha=>?_,fun a xs e=>?_,fun a b u e=>?_⟩
  ·rw [zm (show a ≠ p from fun z=>ha (by rw [z]; exact List.mem_of_getElem? h1))]; exact e
  ·rw [zm (zIf e ho (fun z=>ht xs z.symm))]; exact e
  ·rw [zm (zIf e ho (fun z=>hf b u z.symm))]; exact e
 refine ⟨⟨by simp [c.len],c.nd,fun k a m' e1 e2=>?_⟩,st⟩;rw [zWX] at e2;split at e2
 ·rename_i hk;subst hk;rw [h1] at e1; cases e1;split at e2
  ·cases e2; exact new st
  ·cases e2
 ·rename_i hk;have hne:a ≠ p:=fun z=>hk (by
   subst z;exact (List.getElem?_inj (zU1.mp h1).1 c.nd).mp (h1.trans e1.symm))
  exact (c.obj k a m' e1 e2).stp st fun o e=>by rw [zm hne]; exact e
section
variable {X:Cx} {a b e:Expr} {pos:Pos} {f g:FE}
def zIA:FE:=fun _ M=>some (.dat (.ref M.length),M ++ [.dict []])
def zHb:FE:=fun _ M=>some (.dat (.ref M.length),M ++ [.dicT []])
theorem zQf:QE X (.Dict [] [] pos) zIA:=.mk <| PE.imp zOs fun τ H Q ⟨L,σ,M,d,M',c,rs,hf,q⟩ p hp=>by
 unfold zIA at hf;cases hf;obtain ⟨c2,s2⟩:=c.pushO (m:=.dict []) hp ⟨[],zAh,rfl⟩;refine q _ _ _ s2 c2 ?_;unfold zo Rep;exact ⟨p,rfl,by rw [<- c.len]; simp⟩
theorem zJs:QE X (.Dict [] [] pos) zHb:=.mk <| PE.imp zPZ fun τ H Q ⟨L,σ,M,d,M',c,rs,hf,q⟩ p hp=>by
 unfold zHb at hf;cases hf;obtain ⟨c2,s2⟩:=c.pushO (m:=.dicT []) hp ⟨[],zAh,rfl⟩;refine q _ _ _ s2 c2 ?_;unfold zo Rep;exact ⟨p,rfl,by rw [<- c.len]; simp⟩
theorem zJu (h:Rep L H d v) (e:zGD d = some k):v = kV k:=by
 cases d with
 | int i=>cases e; unfold Rep at h; exact h
 | str x=>cases e; unfold Rep at h; exact h
 | _=>cases e
def zHX (M:Mem):EV -> Option (List D)
 | .fl xs=>some xs
 | .dat (.ref n)=>match M[n]? with
  | some (.lst xs)=>some xs
  | _=>none
 | _=>none
theorem zPa {K:PySem.W.Frag} {L:List Addr} {M:Mem} {H H0:Hp} {x:EV} {v:V} {xs:List D} (c:Cor K L M H) (r:zo H0 L H x v) (h:zHX M x = some xs):∃ a vs,v = .ref a /\ H a = some (.lst vs) /\ za L H xs vs:=by
 cases x with
 | fl ys=>
  cases h;obtain ⟨p,vs,rfl,_,e,_,r⟩:=r;exact ⟨p,vs,rfl,e,r⟩
 | dat d=>
  cases d with
  | ref n=>
   unfold zo Rep at r;obtain ⟨a,rfl,e⟩:=r;unfold zHX at h;dsimp only at h;split at h
   ·rename_i ys q;cases h;obtain ⟨vs,e1,r1⟩:=c.obj n a _ e q;exact ⟨a,vs,rfl,e1,r1⟩
   ·cases h
  | _=>cases h
def zBu:K2:=fun x y M=>match zHX M x,zHX M y with
 | some xs,some ys=>if xs.length + ys.length <= sizeLine then some (.fl (xs ++ ys),M) else none
 | _,_=>none
theorem zO4 {K:PySem.W.Frag}:zB2 K zTt zBu:=by
 intro L M M' H H0 x y d v w Q c rx ry hk q;unfold zBu at hk;split at hk
 ·rename_i xs ys e1 e2;split at hk
  ·rename_i hz;cases hk;obtain ⟨l,vs,rfl,h1,r1⟩:=zPa c rx e1;obtain ⟨l2,ws,rfl,h2,r2⟩:=zPa c ry e2;refine ⟨l,l2,vs,ws,rfl,rfl,h1,h2,by rw [r1.length,r2.length]; exact hz,fun p hp=>?_⟩;exact q L _ _ (.upd hp) (c.upd hp) (zo.newLst (.refl L H) c c hp (r1.app r2))
  ·cases hk
 ·cases hk
theorem zEL (h1:QE X a f) (h2:QE X b g):QE X (.BinOp a .Add b pos) (fOp zBu f g):=zMO zO4 zSk h1 h2
theorem zSw (h1:zHX M x = some xs) (h2:zHX M y = some ys) (hz:xs.length + ys.length <= 100000) (q:P (.fl (xs ++ ys)) M):Ok (zBu x y M) P:=by
 refine ⟨_,_,?_,q⟩;unfold zBu; rw [h1,h2]; dsimp only; rw [zVD (zVP hz (by decide))]
end
end L3
namespace LR
open PySem PySem.Spec PyProof.Rows
open Sem (wp)
open Sem (wp)
open AutoSeq1 (wpAny_loadPart')
open Sem (wp)
open AutoSeq1 (wpAny_loadPart')
end LR
namespace L3
open PySem PySem.Spec PyProof.Rows L2
section
variable {X:Cx} {a b e o:Expr} {pos p apos cpos:Pos} {f g:FE}
def zB9:List D -> Option (List Int)
 | []=>some []
 | .int i :: r=>match zB9 r with
  | some bs=>some (i :: bs)
  | none=>none
 | _=>none
theorem zHf:∀ xs:List Int,zB9 (xs.map D.int) = some xs
 | []=>rfl
 | x :: r=>by rw [zVH]; unfold zB9; rw [zHf r]
end
end L3
namespace L2
open PySem PySem.Spec PyProof.Rows
section
variable {prog:Program} {w:World} {A:Around} {E:Value -> Shared -> Prop} {R:Result -> Shared -> Prop} {s:Shared}
theorem zIP (I:Nat -> Shared -> Prop)
  (turn:∀ n s,I n s -> wpAny (model prog w) A (pyNext it) (fun r s₁=>match r with
   | none=>R (.ok .next) s₁
   | some v=>wpAny (model prog w) A (letOwnedTupleGo target it v) (fun _ s₁'=>wpAny (model prog w) A (assign target env v) (fun _ s₂=>
     wpAny (model prog w) A (forIn ifs true fun c r=>if r = true then do let ok <- isTrue c env (eval c env); pure (ForInStep.yield ok) else pure (ForInStep.yield r)) (fun ok s₃=>
      if ok = true then wpAny (model prog w) A (eval kx env) (fun kv s₄=>wpAny (model prog w) A (eval vx env) (fun vv s₅=>
       wpAny (model prog w) A (dictSet D kv vv) (fun _ s₆=>∃ m,m < n /\ I m s₆) (fun _ _=>False) s₅) (fun _ _=>False) s₄) (fun _ _=>False) s₃
      else ∃ m,m < n /\ I m s₃) (fun _ _=>False) s₂) (fun _ _=>False) s₁') (fun _ _=>False) s₁) (fun _ _=>False) s)
  (n:Nat) (h:I n s) :
  codeAny (model prog w) A (.compLoop (.DictComp kx vx [⟨target,iter,ifs,0⟩] scope pos) 0 it (.ref D) env) R s:=by
 refine codeAny_loop rfl I (fun n s hI=>?_) n h;show wpAny _ A ((compTurn (.DictComp kx vx [⟨target,iter,ifs,0⟩] scope pos) 0 it (.ref D) env).onRaise (fun x=>do noteFrame x env; theTreesLotGoes x)) _ _ s;refine wpAny_noted ?_;rw [compTurn_dict];refine zUy (zVw (zUy (zVU (turn n s hI) (fun r s₁ h₁=>?_) fun _ _ h'=>h'.elim)));cases r with
 | none=>exact zU0 h₁
 | some v=>
  refine zUy (zVU h₁ (fun _ s₁' h₁'=>?_) fun _ _ h'=>h'.elim);refine zUy (zVU h₁' (fun _ s₂ h₂=>zUy (zVU h₂ (fun ok s₃ h₃=>?_) fun _ _ h'=>h'.elim)) fun _ _ h'=>h'.elim);cases ok with
  | false=>exact zU0 ⟨rfl,h₃⟩
  | true=>
   exact zUy (zUy (zVU h₃ (fun kv s₄ h₄=>zUy (zVr (zVU h₄ (fun vv s₅ h₅=>zUy (zVw (zVr (zVU h₅ (fun _ s₆ h₆=>zU0 ⟨rfl,h₆⟩) fun _ _ h'=>h'.elim)))) fun _ _ h'=>h'.elim))) fun _ _ h'=>h'.elim))
theorem zJI (elt target iter:Expr) (ifs:List Expr) (scope:Scope) (pos:Pos) (it acc:Value) (env:Env) :
  compTurn (.SetComp elt [⟨target,iter,ifs,0⟩] scope pos) 0 it acc env = (do
   standAt iter.pos;match <- pyNext it with
   | none=>pure (.done .next)
   | some v=>
    letOwnedTupleGo target it v;assign target env v;let mut ok:=true
    for c in ifs do
     if ok then ok <- isTrue c env (eval c env)
    if ok then (do let v <- eval elt env; standAt elt.pos; let _ <- call (.builtin "set.add") [acc,v])
    again (.compLoop (.SetComp elt [⟨target,iter,ifs,0⟩] scope pos) 0 it acc env)):=by rfl
theorem zJF (I:Nat -> Shared -> Prop)
  (turn:∀ n s,I n s -> wpAny (model prog w) A (pyNext it) (fun r s₁=>match r with
   | none=>R (.ok .next) s₁
   | some v=>wpAny (model prog w) A (letOwnedTupleGo target it v) (fun _ s₁'=>wpAny (model prog w) A (assign target env v) (fun _ s₂=>
     wpAny (model prog w) A (forIn ifs true fun c r=>if r = true then do let ok <- isTrue c env (eval c env); pure (ForInStep.yield ok) else pure (ForInStep.yield r)) (fun ok s₃=>
      if ok = true then wpAny (model prog w) A (eval elt env) (fun x s₄=>
       wpAny (model prog w) A (call (.builtin "set.add") [acc,x]) (fun _ s₅=>∃ m,m < n /\ I m s₅) (fun _ _=>False) s₄) (fun _ _=>False) s₃
      else ∃ m,m < n /\ I m s₃) (fun _ _=>False) s₂) (fun _ _=>False) s₁') (fun _ _=>False) s₁) (fun _ _=>False) s)
  (n:Nat) (h:I n s) :
  codeAny (model prog w) A (.compLoop (.SetComp elt [⟨target,iter,ifs,0⟩] scope pos) 0 it acc env) R s:=by
 refine codeAny_loop rfl I (fun n s hI=>?_) n h;show wpAny _ A ((compTurn (.SetComp elt [⟨target,iter,ifs,0⟩] scope pos) 0 it acc env).onRaise (fun x=>do noteFrame x env; theTreesLotGoes x)) _ _ s;refine wpAny_noted ?_;rw [zJI];refine zUy (zVw (zUy (zVU (turn n s hI) (fun r s₁ h₁=>?_) fun _ _ h'=>h'.elim)));cases r with
 | none=>exact zU0 h₁
 | some v=>
  refine zUy (zVU h₁ (fun _ s₁' h₁'=>?_) fun _ _ h'=>h'.elim);refine zUy (zVU h₁' (fun _ s₂ h₂=>zUy (zVU h₂ (fun ok s₃ h₃=>?_) fun _ _ h'=>h'.elim)) fun _ _ h'=>h'.elim);cases ok with
  | false=>exact zU0 ⟨rfl,h₃⟩
  | true=>
   exact zUy (zUy (zVU h₃ (fun x s₄ h₄=>zUy (zVw (zUy (zVU h₄ (fun _ s₅ h₅=>zU0 (zU0 ⟨rfl,h₅⟩)) fun _ _ h'=>h'.elim)))) fun _ _ h'=>h'.elim))
end
end L2
namespace LR
open PySem PySem.Spec PyProof.Rows
open Sem (wp)
end LR
namespace L3
open PySem PySem.Spec PyProof.Rows L2
end L3
namespace ST
open PySem
abbrev Up (xs:Array Nat):Prop:=xs.toList.Pairwise (· < ·)
theorem Up.get (h:Up xs) (hik:i < k) (hk:k < xs.size):xs[i]'(by omega) < xs[k]:=by
 have:=List.pairwise_iff_getElem.mp h i k (by simpa using (show i < xs.size by omega)) (by simpa using hk) hik;simpa using this
theorem zJh (h:Up xs) (j:Nat):∀ (fuel lo hi:Nat),lo <= hi -> hi <= xs.size -> hi - lo <= fuel -> (∀ i (hi':i < xs.size),i < lo -> xs[i] < j) -> (∀ i (hi':i < xs.size),hi <= i -> j <= xs[i]) ->
  (SetTable.below.go xs j fuel lo hi <= xs.size) /\ (∀ i (hi':i < xs.size),i < SetTable.below.go xs j fuel lo hi -> xs[i] < j) /\ (∀ i (hi':i < xs.size),SetTable.below.go xs j fuel lo hi <= i -> j <= xs[i])
 | 0,lo,hi,h1,h2,h3,a,b=>by
  have:lo = hi:=by omega
  subst this;unfold SetTable.below.go;exact ⟨h2,a,b⟩
 | fuel + 1,lo,hi,h1,h2,h3,a,b=>by
  unfold SetTable.below.go;by_cases hl:lo < hi
  ·rw [zVD hl];dsimp only;have hm:(lo + hi) / 2 < xs.size:=by omega
   have eg:xs.getD ((lo + hi) / 2) j = xs[(lo + hi) / 2]:=by simp [Array.getD,hm]
   rw [eg];by_cases hc:xs[(lo + hi) / 2] < j
   ·rw [zVD hc];refine zJh h j fuel _ _ (by omega) h2 (by omega) (fun i hi' hlt=>?_) b;rcases Nat.lt_or_ge i ((lo + hi) / 2) with z | z
    ·exact Nat.lt_trans (h.get z hm) hc
    ·have:i = (lo + hi) / 2:=by omega
     subst this; exact hc
   ·rw [zVG hc];refine zJh h j fuel _ _ (by omega) (by omega) (by omega) a (fun i hi' hge=>?_);rcases Nat.lt_or_ge ((lo + hi) / 2) i with z | z
    ·have:=h.get z hi'; omega
    ·have:i = (lo + hi) / 2:=by omega
     subst this; omega
  ·rw [zVG hl];have:lo = hi:=by omega
   subst this;exact ⟨h2,a,b⟩
theorem zDv (h:Up xs) (j:Nat):SetTable.below xs j <= xs.size /\ (∀ i (hi':i < xs.size),i < SetTable.below xs j -> xs[i] < j) /\ (∀ i (hi':i < xs.size),SetTable.below xs j <= i -> j <= xs[i]):=by
 unfold SetTable.below;exact zJh h j xs.size 0 xs.size (zVk _) (zU4 _) (by omega) (fun i _ z=>by omega) (fun i hi' z=>by omega)
theorem zLe (h:Up xs):SetTable.below xs 0 = 0:=by
 obtain ⟨a,b,c⟩:=zDv h 0;rcases Nat.eq_zero_or_pos (SetTable.below xs 0) with z | z
 ·exact z
 ·have:=b 0 (by omega) z; omega
theorem zLq (h:Up xs) (hk:k < xs.size):SetTable.below xs (xs[k] + 1) = k + 1:=by
 obtain ⟨a,b,c⟩:=zDv h (xs[k] + 1);rcases Nat.lt_trichotomy (SetTable.below xs (xs[k] + 1)) (k + 1) with z | z | z
 ·have:=c k hk (by omega); omega
 ·exact z
 ·have h1:k + 1 < xs.size:=by omega
  have:=b (k + 1) h1 z;have:=h.get (show k < k + 1 by omega) h1;omega
theorem zGi {α:Type} (xs:Array α) (p:Nat) (x:α):(SetTable.insertAt xs p x).toList = xs.toList.take p ++ x :: xs.toList.drop p:=by
  unfold SetTable.insertAt;simp;have:xs.toList.length <= xs.size:=by simp
  rw [List.take_of_length_le (by simp)]
theorem zNe (h : Up xs) (hj : j ∉ xs.toList) : Up (SetTable.insertAt xs (SetTable.below xs j) j) := by
  obtain ⟨a, b, c⟩ := zDv h j;unfold Up;rw [zGi];rw [List.pairwise_append];have hT : ∀ x ∈ xs.toList.take (SetTable.below xs j), x < j := fun x hx => by
    obtain ⟨i,hi,e⟩:=List.getElem_of_mem hx;rw [List.getElem_take] at e;rw [zWM] at hi
    have h1 : i < xs.size := by have : xs.toList.length = xs.size := by simp
                                omega
    have:=b i h1 (by omega);rw [<- e]; simpa using this
  have hD : ∀ x ∈ xs.toList.drop (SetTable.below xs j), j < x := fun x hx => by
    obtain ⟨i,hi,e⟩:=List.getElem_of_mem hx;rw [List.getElem_drop] at e;rw [zXR] at hi
    have h1 : SetTable.below xs j + i < xs.size := by have : xs.toList.length = xs.size := by simp
                                                      omega
    have h2:=c _ h1 (by omega);have h3:x ≠ j:=fun z=>hj (z ▸ List.mem_of_mem_drop hx);have e':xs[SetTable.below xs j + i] = x:=by simpa using e
    omega
  refine ⟨h.sublist (List.take_sublist _ _),List.pairwise_cons.mpr ⟨hD,h.sublist (List.drop_sublist _ _)⟩,fun x hx y hy=>?_⟩;rcases zVA.mp hy with z | z
  · rw [z]; exact hT x hx
  · exact Nat.lt_trans (hT x hx) (hD y z)
theorem zIe (j:Nat):SetTable.has #[] j = false:=by
 unfold SetTable.has; simp
theorem zLz {t:SetTable} (h:Up t.place) (he:t.slot j = .empty):j ∉ t.place.toList:=fun hm=>by
 obtain ⟨a,b,c⟩:=zDv h j;obtain ⟨k,hk,e⟩:=List.getElem_of_mem hm;have hk':k < t.place.size:=by simpa using hk
 have e':t.place[k] = j:=by simpa using e
 have eb:SetTable.below t.place j = k:=by
  rcases Nat.lt_trichotomy (SetTable.below t.place j) k with z | z | z
  ·have h1:SetTable.below t.place j < t.place.size:=by omega
   have:=c _ h1 (zU4 _);have:=h.get z hk';omega
  ·exact z
  ·have:=b k hk' z; omega
 unfold SetTable.slot at he;dsimp only at he;rw [eb,zVD (by simp [hk',e'])] at he;cases he
theorem zK3 (hd:t.dummies = #[]):∀ (fuel:Nat) (p:SetTable.Probe) {j:Nat} {d:Option Nat},p.dummy = none -> SetTable.probe.go t hashAt h fuel p = some (.empty j d) -> d = none /\ t.slot j = .empty
 | 0,_,_,_,_,e=>by unfold SetTable.probe.go at e; cases e
 | fuel + 1,p,j,d,hp,e=>by
  unfold SetTable.probe.go at e;split at e
  ·rename_i hs;cases e;exact ⟨hp,hs⟩
  ·rename_i hs;unfold SetTable.slot at hs;dsimp only at hs;rw [hd,zIe] at hs;split at hs <;> first | cases hs | simp at hs
  ·split at e
   ·cases e
   ·refine zK3 hd fuel _ ?_ e;unfold SetTable.advance;split <;> simp [hp]
theorem zOM {t:SetTable} (hu:Up t.place) (hd:t.dummies = #[]) (e:t.freeSlot h = some (j,b)):b = false /\ j ∉ t.place.toList:=by
 unfold SetTable.freeSlot at e;split at e
 ·rename_i j' d hp;unfold SetTable.probe at hp;obtain ⟨h1,h2⟩:=zK3 hd _ _ (by rfl) hp;subst h1;simp at e;obtain ⟨rfl,rfl⟩:=e;exact ⟨rfl,zLz hu h2⟩
 ·cases e
structure TabOk (w:World) (t:SetTable):Prop where
 led:t.led = !w.params.followText "set-order"
 up:Up t.place
 nod:t.dummies = #[]
theorem zQQ (n:Nat):Up (Array.range n):=by
 unfold Up;rw [Array.toList_range];exact List.pairwise_lt_range
theorem TabOk.standIn (h:TabOk w t) (n:Nat):TabOk w (t.standIn n):=⟨h.led,zQQ n,rfl⟩
theorem TabOk.orStandIn (h:TabOk w t) (n:Nat):TabOk w (t.orStandIn n):=by
 unfold SetTable.orStandIn;split
 ·exact h
 ·exact h.standIn n
theorem TabOk.put (h:TabOk w t) (hj:j ∉ t.place.toList):TabOk w (t.put j).1:=by
 unfold SetTable.put;refine ⟨h.led,zNe h.up hj,?_⟩;show (if SetTable.has t.dummies j = true then _ else t.dummies) = #[];rw [h.nod,zIe]; rfl
theorem TabOk.layNew (h:TabOk w t) (es:Array (Int × Value)) (hh:Int) (x:Value):TabOk w (layNew t es hh x).2.1:=by
 unfold PySem.layNew;split
 ·rename_i j b e;exact (h.put (zOM h.up h.nod e).2).orStandIn _
 ·exact h.standIn _
theorem TabOk.relaid (h:TabOk w t) (e:t.relaid hs wanted = some (t',order)):TabOk w t':=by
 unfold SetTable.relaid SetTable.laid at e;cases q:SetTable.layClean (SetTable.sizeAbove wanted - 1) hs with
 | none=>rw [q] at e; cases e
 | some owner=>
  rw [q] at e;simp only [Option.bind_eq_bind,Option.bind_some,Option.pure_def,Option.some.injEq,Prod.mk.injEq] at e;obtain ⟨rfl,_⟩:=e;refine ⟨h.led,?_,rfl⟩;unfold Up;dsimp only;rw [List.pairwise_map,List.pairwise_filterMap];refine List.pairwise_lt_range.imp fun {a b} hab x hx y hy=>?_;cases o1:owner.getD a none with
  | none=>rw [o1] at hx; cases hx
  | some u=>
   cases o2:owner.getD b none with
   | none=>rw [o2] at hy; cases hy
   | some v=>
    rw [o1] at hx; rw [o2] at hy;cases hx; cases hy;exact hab
theorem TabOk.relayAll (h:TabOk w t) (es:Array (Int × Value)) (wanted:Nat):TabOk w (relayAll t es wanted).2.1:=by
 unfold PySem.relayAll;split
 ·rename_i t' order e;dsimp only;split
  ·exact h.relaid e
  ·exact h.standIn _
 ·exact h.standIn _
theorem TabOk.plain (h:TabOk w t) (b:Bool):TabOk w { t with plain:=b }:=⟨h.led,h.up,h.nod⟩
theorem TabOk.fresh:TabOk w (SetTable.fresh 0 0 (!w.params.followText "set-order")):=⟨rfl,List.Pairwise.nil,rfl⟩
open Sem (wp)
set_option genInjectivity true in
inductive F2 {α β:Type} (R:α -> β -> Prop):List α -> List β -> Prop
 | nil:F2 R [] []
 | cons {x y xs ys}:R x y -> F2 R xs ys -> F2 R (x :: xs) (y :: ys)
section
variable {prog:Program} {w:World} {K:Type} [DecidableEq K]
def zSW (knd:KeyKind prog w K) (e:Int × Value) (k:K):Prop:=(knd.is k e.2 = true /\ e.1 = knd.hash k) /\ e.2.scannable = true
structure SetK (knd:KeyKind prog w K) (o:Obj) (es:Array (Int × Value)) (ep:Nat) (t:SetTable) (ks:List K):Prop where
 ex:o.ExactSet
 data:o.data = .set es ep t
 tab:TabOk w t
 fits:t.fits es.size = true
 bound:es.size < scanBound
 ent:∃ ks',ks'.Perm ks /\ F2 (zSW knd) es.toList ks'
def ins (ks:List K) (k:K):List K:=if k ∈ ks then ks else ks ++ [k]
variable {knd:KeyKind prog w K} {o:Obj} {es:Array (Int × Value)} {ep:Nat} {t:SetTable} {ks:List K}
theorem zEa {α β:Type} {R:α -> β -> Prop}:∀ {xs:List α} {ys:List β},F2 R xs ys -> xs.length = ys.length
 | _,_,.nil=>rfl
 | _,_,.cons _ h=>by simp [zEa h]
theorem zEZ {α β:Type} {R:α -> β -> Prop}:∀ {xs:List α} {ys:List β},F2 R xs ys -> ∀ x ∈ xs,∃ y ∈ ys,R x y
 | _,_,.nil,x,hx=>by cases hx
 | _,_,.cons h r,x,hx=>by
  rcases zVA.mp hx with z | z
  ·subst z; exact ⟨_,zVC,h⟩
  ·obtain ⟨y,hy,q⟩:=zEZ r x z; exact ⟨y,zVB _ hy,q⟩
theorem zFR {α β:Type} {R:α -> β -> Prop}:∀ {xs:List α} {ys:List β},F2 R xs ys -> ∀ y ∈ ys,∃ x ∈ xs,R x y
 | _,_,.nil,x,hx=>by cases hx
 | _,_,.cons h r,x,hx=>by
  rcases zVA.mp hx with z | z
  ·subst z; exact ⟨_,zVC,h⟩
  ·obtain ⟨y,hy,q⟩:=zFR r x z; exact ⟨y,zVB _ hy,q⟩
theorem zEI {α β:Type} {R:α -> β -> Prop}:∀ {xs:List α} {ys:List β} {us:List α} {vs:List β},F2 R xs ys -> F2 R us vs -> F2 R (xs ++ us) (ys ++ vs)
 | _,_,_,_,.nil,h=>h
 | _,_,_,_,.cons h r,q=> .cons h (zEI r q)
theorem zFn {α β:Type} {R:α -> β -> Prop} {xs xs':List α} (p:xs'.Perm xs):∀ {ys:List β},F2 R xs ys -> ∃ ys',ys'.Perm ys /\ F2 R xs' ys':=by
 have p':=p.symm;clear p;induction p' with
 | nil=>intro ys h; exact ⟨ys,.refl _,h⟩
 | cons x _ ih=>
  intro ys h;cases h with
  | cons h r=>
   obtain ⟨ys',q1,q2⟩:=ih r;exact ⟨_,q1.cons _,.cons h q2⟩
 | swap x y l=>
  intro ys h;cases h with
  | cons h r=>
   cases r with
   | cons h2 r=>
    exact ⟨_,List.Perm.swap _ _ _,.cons h2 (.cons h r)⟩
 | trans _ _ ih1 ih2=>
  intro ys h;obtain ⟨ys',q1,q2⟩:=ih1 h;obtain ⟨ys'',r1,r2⟩:=ih2 q2;exact ⟨ys'',r1.trans q1,r2⟩
theorem SetK.size (h:SetK knd o es ep t ks):es.size = ks.length:=by
 obtain ⟨ks',p,f⟩:=h.ent;rw [<- p.length_eq,<- zEa f,zVh]
theorem SetK.elems (h:SetK knd o es ep t ks):ElemsOf knd es.toList:=fun e he=>by
 obtain ⟨ks',p,f⟩:=h.ent;obtain ⟨k,_,q⟩:=zEZ f e he;exact ⟨⟨k,q.1⟩,q.2⟩
theorem SetK.mem (h:SetK knd o es ep t ks) (k:K):k ∈ ks ↔ ∃ e ∈ es.toList,knd.is k e.2 = true:=by
 obtain ⟨ks',p,f⟩:=h.ent;rw [<- p.mem_iff];constructor
 ·intro hk;obtain ⟨e,he,q⟩:=zFR f k hk;exact ⟨e,he,q.1.1⟩
 ·rintro ⟨e,he,q⟩;obtain ⟨k',hk',q'⟩:=zEZ f e he;rw [knd.inj e.2 k k' q q'.1.1]; exact hk'
variable {A:Around} {E:Value -> Shared -> Prop} {s:Shared} {a:Addr} {k:K} {x:Value}
theorem SetK.typeIs (h:SetK knd o es ep t ks) (ho:s.heap.get? a = some o):s.TypeIs (.ref a) "set" := ⟨o,ho,h.ex.1⟩
theorem zIm {h:Heap} (ho:h.get? a = some o) (hd:o.data = .set es ep t) :
  (h.update a (Obj.putSet es' t')).get? a = some { o with data:=.set es' (ep + 1) t' }:=by
 have:=zVl (Obj.putSet es' t') ho (by rw [putSet_of es' t' hd]; rfl);rw [putSet_of es' t' hd] at this; exact this
theorem zGn {Q:Bool -> Shared -> Prop} (hkey:knd.is k x = true) (hsc:x.scannable = true) (ho:s.heap.get? a = some o) (hS:SetK knd o es ep t ks) (hroom:ks.length + 1 < scanBound)
  (h:∀ h' o' es' ep' t' b,Heap.SameBut a s.heap h' -> h'.get? a = some o' -> SetK knd o' es' ep' t' (ins ks k) -> Q b { s with heap:=h' }) :
  wpAny (model prog w) A (setAddHashed a x (knd.hash k)) Q E s:=by
 have hd:=hS.data;have hf:=hS.fits;have hel:=hS.elems;have hb:=hS.bound;have hb1:es.size + 1 < scanBound:=by rw [hS.size]; exact hroom
 unfold setAddHashed setAddHashedIn;refine zVr (zUy (wpAny_setState_of ho hd hf ?_));dsimp only;rw [byScan_of hsc hb hel];simp only [↓reduceIte];unfold setAddByScan;refine zUy ?_;refine zUy (zWL ?_);refine zUy (wpAny_setScan_of hkey ho hd hf hel ?_);cases hr:List.findIdx? (fun e=>knd.is k e.2) es.toList with
 | some j=>
  dsimp only;obtain ⟨hj,hpj,_⟩:=List.findIdx?_eq_some_iff_getElem.mp hr;have hSk:k ∈ ks:=(hS.mem k).mpr ⟨es.toList[j],zVW hj,hpj⟩;refine zU0 (zU0 ?_);have e:s = { s with heap:=s.heap }:=by cases s; rfl
  rw [e];refine h s.heap o es ep t _ (Heap.SameBut.refl a s.heap) ho ?_;unfold ins;rw [zVD hSk]; exact hS
 | none=>
  dsimp only;have hSk:k ∉ ks:=fun hk=>by
   obtain ⟨e,he,hp⟩:=(hS.mem k).mp hk; have:=List.findIdx?_eq_none_iff.mp hr e he; rw [hp] at this; exact Bool.noConfusion this
  have hgw:∀ (b:Bool) {s₁:Shared} {Q':Unit -> Shared -> Prop},Q' () s₁ -> wpAny (model prog w) A (match b with | true=>rule "set.scan.the-table-gave-way" | false=>pure ()) Q' E s₁ :=
   fun b s₁ Q' hq=>by cases b <;> first | exact zU0 hq | exact zWL hq
  have hperm:=layNew_perm t es (knd.hash k) x;have hfits:=layNew_fits t es (knd.hash k) x;have htab:=hS.tab.layNew es (knd.hash k) x;generalize hL:layNew t es (knd.hash k) x = L at hperm hfits htab ⊢;obtain ⟨es1,t1,wasDummy,gave⟩:=L;dsimp only at hperm hfits htab ⊢;rw [Array.toList_push] at hperm;have hb1':es1.size < scanBound:=by rw [<- zVh,hperm.length_eq,zVE,zVh]; simpa using hb1
  obtain ⟨ks',p,f⟩:=hS.ent;have f1:F2 (zSW knd) (es.toList ++ [(knd.hash k,x)]) (ks' ++ [k]):=zEI f (.cons ⟨⟨hkey,rfl⟩,hsc⟩ .nil);obtain ⟨ks1,p1,f2⟩:=zFn hperm f1;have pI:ks1.Perm (ins ks k):=by
   unfold ins;rw [zVG hSk];exact p1.trans (p.append_right _)
  refine zUy (hgw _ ?_)
  have tail:∀ t2:SetTable,TabOk w t2 -> t2.fits es1.size = true -> wpAny (model prog w) A (do
    storeSet a es1 t2
    if (!wasDummy && t2.tooFull) = true then do
      (match (relayAll t2 es1 (SetTable.grown es1.size)).2.2 with | true=>rule "set.scan.the-table-gave-way" | false=>pure ())
      storeSet a (relayAll t2 es1 (SetTable.grown es1.size)).1 (relayAll t2 es1 (SetTable.grown es1.size)).2.1;pure (some true)
     else pure (some true)) (fun r s'=>wpAny (model prog w) A (match r with | some added=>pure added | none=>setAddHashedIn a x (knd.hash k) 99999) Q E s') E s:=by
   intro t2 T2 F2;refine zUy (wpAny_storeSet_of ho hd ?_ (fits_of_scanBound hb1'));have g1:=zIm (es':=es1) (t':=t2) ho hd;have sb1:=zV1 s.heap a (Obj.putSet es1 t2);have S1:SetK knd { o with data:=.set es1 (ep + 1) t2 } es1 (ep + 1) t2 (ins ks k):=⟨hS.ex,rfl,T2,F2,hb1',ks1,pI,f2⟩;split
   ·have hp:=relayAll_perm t2 es1 (SetTable.grown es1.size);have hfr:=relayAll_fits t2 es1 (SetTable.grown es1.size);have htr:=T2.relayAll es1 (SetTable.grown es1.size);generalize hRl:relayAll t2 es1 (SetTable.grown es1.size) = Rl at hp hfr htr ⊢;obtain ⟨es2,t3,gave2⟩:=Rl;dsimp only at hp hfr htr ⊢;have hsz:es2.size = es1.size:=by rw [<- zVh,hp.length_eq,zVh]
    have hb2:es2.size < scanBound:=by rw [hsz]; exact hb1'
    obtain ⟨ks2,p2,f3⟩:=zFn hp f2;refine zUy (hgw _ ?_);refine zUy (wpAny_storeSet_of g1 rfl ?_ (fits_of_scanBound hb2));have g2:=zIm (es':=es2) (t':=t3) g1 rfl;exact zU0 (zU0 (h _ _ _ _ _ _ (sb1.trans (zV1 _ a _)) g2 ⟨hS.ex,rfl,htr,hfr,hb2,ks2,p2.trans pI,f3⟩))
   ·exact zU0 (zU0 (h _ _ _ _ _ _ sb1 g1 S1))
  split
  ·refine zUy ?_;rw [hashByValue_scannable 8 hsc];refine zU0 ?_;refine tail _ ?_ ?_
   ·split
    ·exact htab
    ·exact htab.plain _
   ·split
    ·exact hfits
    ·exact SetTable.fits_plain_off hfits
  ·refine zUy (zU0 ?_);simp only [↓reduceIte];exact tail _ htab hfits
theorem zQY (hkey:knd.is k x = true) (hsc:x.scannable = true) (ho:s.heap.get? a = some o) (hS:SetK knd o es ep t ks) (hroom:ks.length + 1 < scanBound)
  (h:∀ h' o' es' ep' t',Heap.SameBut a s.heap h' -> h'.get? a = some o' -> SetK knd o' es' ep' t' (ins ks k) -> Q .none { s with heap:=h',toks:=s.toks + 1 }) :
  wpAny (model prog w) A (call (.builtin "set.add") [.ref a,x]) Q E s:=by
 refine zVb F.slot_set_add (hS.typeIs ho) F.entry_set_add ?_ (F.args_set_add_2 _ _);unfold Builtin.«set.add» Builtin.Frozenset.oneOther;simp only [List.isEmpty_nil,bind_assoc];unfold Builtin.Frozenset.addrOf setAdd;refine zUy (zU0 ?_);try dsimp only
 refine zUy (zU0 ?_);try dsimp only
 refine zUy ?_;refine zVr ?_;refine zUy (knd.pyHash hkey ?_);refine zGn (s:={ s with toks:=s.toks + 1 }) hkey hsc ho hS hroom fun h' o' es' ep' t' b hsb ho' hS'=>?_;show wpAny _ _ (ret Value.none) _ _ _;exact zU0 ⟨_,rfl,h h' o' es' ep' t' hsb ho' hS'⟩
def zCV (w:World):Obj:={ cls:=.type "set", dict:=none,data:=.set #[] 0 (.fresh 0 0 (!w.params.followText "set-order")) }
theorem SetK.fresh:SetK knd (zCV w) #[] 0 (.fresh 0 0 (!w.params.followText "set-order")) []:=⟨⟨rfl,rfl,rfl⟩,rfl,.fresh,by rfl,by decide,[],.refl _,.nil⟩
theorem zNo (h:Q (.ref s.heap.objs.size) { s with heap:=s.heap.push (zCV w) }) :
  wpAny (model prog w) A (newSet (.type "set")) Q E s:=by
 unfold newSet setsByText;refine zUy (zUy (wpAny_askSetting (zU0 ?_)));dsimp only;simp only [newObj];exact zUy (wpAny_alloc (zU0 h))
end
open PySem.Spec PyProof.Rows
open Sem (wp)
theorem zK5:Manifest.owners.lookup (String.ofList ['r','o','t','a','r','e','t','i','_','t','e','s'].reverse) = some Manifest.sig_set_iterator:=by kernel_rfl
theorem zAW:Slot "set_iterator" "__next__" "set_iterator.__next__" := .of (owner := "set_iterator") (n := "__next__") (by rw [typeLookup_type,builtinLookup_eq_fast]; kernel_rfl) (by decide +kernel) (by decide +kernel) (by decide +kernel) (by first | exact .inl (by decide +kernel) | exact .inr (by decide +kernel)) (by rw [isSubtype_type]; kernel_rfl)
theorem zFd:Slot "set_iterator" "__iter__" "set_iterator.__iter__" := .of (owner := "set_iterator") (n := "__iter__") (by rw [typeLookup_type,builtinLookup_eq_fast]; kernel_rfl) (by decide +kernel) (by decide +kernel) (by decide +kernel) (by first | exact .inl (by decide +kernel) | exact .inr (by decide +kernel)) (by rw [isSubtype_type]; kernel_rfl)
theorem zCh (a:Value):argsOk "set_iterator.__next__" ⟨[a],[]⟩:=by
 unfold argsOk; rw [signature?_of (id := "set_iterator.__next__") (n:=['_','_','t','x','e','n','_','_']) (o:=['r','o','t','a','r','e','t','i','_','t','e','s']) (by kernel_rfl) zK5]; kernel_rfl
theorem zJk (a:Value):argsOk "set_iterator.__iter__" ⟨[a],[]⟩:=by
 unfold argsOk; rw [signature?_of (id := "set_iterator.__iter__") (n:=['_','_','r','e','t','i','_','_']) (o:=['r','o','t','a','r','e','t','i','_','t','e','s']) (by kernel_rfl) zK5]; kernel_rfl
theorem zCP:entryFor table "set_iterator.__next__" = some Builtin.«set_iterator.__next__»:=entryFor_of_tree (by kernel_rfl)
theorem zIL:entryFor table "set_iterator.__iter__" = some Builtin.«dict_keyiterator.__iter__» :=
 entryFor_alias (id' := "dict_keyiterator.__iter__") (by kernel_rfl) (by first | rfl | decide +kernel | (unfold String.splitOn; simp +decide [String.splitOnAux])) (by decide +kernel) (by kernel_rfl)
theorem zHT:entryFor table "set.__iter__" = some Builtin.«frozenset.__iter__» :=
 entryFor_alias (id' := "frozenset.__iter__") (by kernel_rfl) rfl (by decide +kernel) (by kernel_rfl)
def zBg (f:Value) (i:Nat) (a:Addr) (n ep:Nat):Obj:={ cls:=.type "set_iterator", data:=.fields #[f,rawInt i,.ref a,rawInt n,rawInt ep] }
theorem zE5 {α:Type}:∀ {l:List α} {i:Nat} (h:i < l.length),(l[i] :: l.eraseIdx i).Perm l
 | [],i,h=>by simp at h
 | x :: l,0,h=>by simp
 | x :: l,i + 1,h=>by
  have:=zE5 (l:=l) (i:=i) (by simpa using h);rw [List.getElem_cons_succ,List.eraseIdx_cons_succ];exact (List.Perm.swap _ _ _).trans (this.cons x)
theorem zIu {α:Type} {l:List α} (h:i < l.length) (e:n + 1 = l.length):n = (l.eraseIdx i).length:=by
 rw [List.length_eraseIdx,zVD h]; omega
theorem zIo {α:Type} (next:Nat -> Nat):∀ (fuel k:Nat) (left:List α) (out:Array α),fuel = left.length -> (pickOrder.go next fuel k left out).toList.Perm (out.toList ++ left)
 | 0,k,left,out,h=>by
  have:left = []:=zW0.mp h.symm;subst this;unfold pickOrder.go;simp
 | fuel + 1,k,left,out,h=>by
  unfold pickOrder.go;have hl:0 < left.length:=by omega
  have hm:next k % left.length < left.length:=Nat.mod_lt _ hl
  rw [zU2 hm];dsimp only;refine (zIo next fuel (k + 1) _ _ (zIu hm h)).trans ?_;rw [Array.toList_push,zV4];exact (zE5 hm).append_left _
theorem zEK {α:Type} (next:Nat -> Nat) (xs:Array α):(pickOrder next xs).toList.Perm xs.toList:=by
 unfold pickOrder;simpa using zIo next xs.size 0 xs.toList #[] (by simp)
section
variable {prog:Program} {w:World} {A:Around} {E:Value -> Shared -> Prop} {s:Shared}
theorem zJ1 (h0:n ≠ 0) (h:∀ r d,r < n -> Q r { s with drawn:=d }):wpAny (model prog w) A (choose src n) Q E s :=
 fun Γ p hΓ=>⟨h0,h _ _ (Nat.mod_lt _ (by omega))⟩
theorem zD6 {α:Type}:∀ (n:Nat) (xs:List α) {s:Shared} {Q:List α -> Shared -> Prop},n = xs.length -> (∀ ys d,ys.Perm xs -> Q ys { s with drawn:=d }) -> wpAny (model prog w) A (drawOrder n xs) Q E s
 | 0,xs,s,Q,h,q=>by
  have:xs = []:=zW0.mp h.symm;subst this;have e:s = { s with drawn:=s.drawn }:=by cases s; rfl
  rw [e];exact zU0 (q [] s.drawn (.refl _))
 | n + 1,[],s,Q,h,q=>by cases h
 | n + 1,x :: xs,s,Q,h,q=>by
  unfold drawOrder;refine zUy (zJ1 (by simp) fun r d hr=>?_);rw [zU2 hr];dsimp only;refine zUy (zD6 n _ (zIu hr h) fun ys d' hp=>zU0 ?_);exact q _ d' ((hp.cons _).trans (zE5 hr))
variable {K:Type} [DecidableEq K] {knd:KeyKind prog w K} {o:Obj} {es:Array (Int × Value)} {ep:Nat} {t:SetTable} {ks:List K} {a I:Addr}
theorem zH4 (h:s.heap.get? I = some (zBg f i a n ep)):s.TypeIs (.ref I) "set_iterator" := ⟨_,h,rfl⟩
theorem zM2 (hI:s.heap.get? I = some (zBg f i a n ep)) (h:Q (.ref I) s):wpAny (model prog w) A (pyIter (.ref I)) Q E s:=by
 refine wpAny_pyIter_slot (zH4 hI) zFd (zVb zFd (zH4 hI) zIL ?_ (zJk _));show wpAny _ _ (ret (.ref I)) _ _ s;exact zU0 ⟨_,rfl, "set_iterator", _,zH4 hI,zAW.lookup,h⟩
structure Nexts (prog:Program) (w:World) (o:Obj) (a:Addr) (ep:Nat) (n:Nat) (at_:Nat -> Nat) (ord:List Value):Prop where
 len:ord.length = n
 nx:∀ (A:Around) (E:Value -> Shared -> Prop) (i:Nat) (s:Shared) (Q:Option (Value × Nat) -> Shared -> Prop),i <= n -> s.heap.get? a = some o -> Q ((ord[i]?).map fun x=>(x,at_ (i + 1))) s -> wpAny (model prog w) A (setNext a (at_ i) i ep) Q E s
theorem zNl (N:Nexts prog w o a ep ks.length at_ ord) (hS:SetK knd o es ep t ks) (hI:s.heap.get? I = some (zBg (rawInt (at_ i)) i a ks.length ep)) (ho:s.heap.get? a = some o)
  (hx:ord[i]? = some x) (hQ:∀ h',h'.get? I = some (zBg (rawInt (at_ (i + 1))) (i + 1) a ks.length ep) -> Heap.SameBut I s.heap h' -> Q (some x) { s with heap:=h' }):wpAny (model prog w) A (pyNext (.ref I)) Q E s:=by
 have hT:=zH4 hI;have hi:i < ks.length:=by have:=(zU1.mp hx).1; rw [N.len] at this; exact this
 unfold pyNext;refine zUy (wpAny_attempt (zVa (name:=Str.ofString "__next__") hT zAW (zVb zAW hT zCP ?_ (zCh _))));unfold Builtin.«set_iterator.__next__» slotArgs;simp only [List.isEmpty_nil,Bool.not_true,zVz,↓reduceIte,List.length_nil,bne_self_eq_false,pure_bind,bind_assoc];refine zUy (wpAny_fieldsOf hI rfl ?_);dsimp only [rawInt];refine zUy (wpAny_setEntries_of ho hS.data hS.fits ?_);rw [zVG (by rw [hS.size]; simp)];refine zUy (N.nx _ _ i s _ (by omega) ho ?_);rw [hx];dsimp only [Option.map];refine zUy (zWj hI rfl (by simp) ?_);have e1:=zVl (Obj.mapFields fun vs=>vs.set! 0 (rawInt (at_ (i + 1)))) hI (Obj.isFreed_of_fields (zWF rfl _));refine zUy (zWj e1 (zWF rfl _) (by simp) ?_);have e2:=zVl (Obj.mapFields fun vs=>vs.set! 1 (rawInt ((i:Int) + 1))) e1 (Obj.isFreed_of_fields (zWF (zWF rfl _) _));refine zU0 ⟨x,rfl,zU0 (hQ _ ?_ ((zV1 ..).trans (zV1 ..)))⟩;refine e2.trans ?_;simp [Obj.mapFields,zBg,rawInt]
end
open Sem (wp)
section
variable {prog:Program} {w:World} {A:Around} {E:Value -> Shared -> Prop} {s:Shared}
variable {K:Type} [DecidableEq K] {knd:KeyKind prog w K} {o:Obj} {es:Array (Int × Value)} {ep:Nat} {t:SetTable} {ks:List K} {a I:Addr}
theorem zO1 (hh:A.handled = none) (N:Nexts prog w o a ep ks.length at_ ord) (hS:SetK knd o es ep t ks) (hI:s.heap.get? I = some (zBg (rawInt (at_ ks.length)) ks.length a ks.length ep)) (ho:s.heap.get? a = some o)
  (hQ:∀ h',Heap.ExtBut I s.heap h' -> Q none { s with heap:=h' }):wpAny (model prog w) A (pyNext (.ref I)) Q E s:=by
 have hT:=zH4 hI;unfold pyNext;refine zUy (wpAny_attempt (zVa (name:=Str.ofString "__next__") hT zAW (zVb zAW hT zCP ?_ (zCh _))));unfold Builtin.«set_iterator.__next__» slotArgs;simp only [List.isEmpty_nil,Bool.not_true,zVz,↓reduceIte,List.length_nil,bne_self_eq_false,pure_bind,bind_assoc];refine zUy (wpAny_fieldsOf hI rfl ?_);dsimp only [rawInt];refine zUy (wpAny_setEntries_of ho hS.data hS.fits ?_);rw [zVG (by rw [hS.size]; simp)];refine zUy (N.nx _ _ ks.length s _ (zU4 _) ho ?_);rw [List.getElem?_eq_none (by rw [N.len]; exact zU4 _)];dsimp only [Option.map];refine zUy (zWj hI rfl (by simp) ?_);simp only [newExc,newTuple,bind_assoc,pure_bind];refine zUy (zVR (zUy (m:=firstArgMember _ _) (wpAny_of_eq (a:=Value.none) (by first | rfl | (simp only [firstArgMember]; rfl)) (zUy (zVR ?_ (by size_fits))))) (by size_fits));simp only [raiseNew];refine zUy (wpAny_handled ?_);rw [show A.in1.handled = none from hh];refine zUy (zU0 (wpAny_throw ?_));refine zUy (wpAny_isInstance (T := "StopIteration") (b:=true) ⟨_,zU8 _ rfl,rfl⟩ isSubtype_stop (zU0 ?_));exact hQ _ (((zV1 ..).extBut.push _).push _)
theorem zKK (hh:A.handled = none) (hne:a ≠ I) (N:Nexts prog w o a ep ks.length at_ ord) (hS:SetK knd o es ep t ks) :
  Walks prog w A I [I,a] [I] ks.length (fun i v=>ord[i]? = some v) (fun i h=>h.get? I = some (zBg (rawInt (at_ i)) i a ks.length ep) /\ h.get? a = some o) where
 sub:=fun b hb=>by simp at hb; simp [hb]
 frame:=fun _ _ _ st hk=>⟨hk I (by simp) _ st.1,hk a (by simp) _ st.2⟩;item:=fun i s Q E hi st hQ=>by
  have hx:ord[i]? = some (ord[i]'(by rw [N.len]; exact hi)):=zU2 _;refine zNl N hS st.1 st.2 hx fun h' hI' hs'=>?_;exact hQ _ h' s.toks hx ⟨hI',hs'.extBut a o hne st.2⟩ fun b u hb ee=>hs'.extBut b u (fun h=>hb (by simp [h])) ee
 done:=fun s Q E st hQ=>zO1 hh N hS st.1 st.2 fun h' he'=>hQ h' s.toks fun b u hb ee=>he' b u (fun h=>hb (by simp [h])) ee;self:=fun _ _ _ _ st hQ=>zM2 st.1 hQ
theorem zL9 {pl:List Nat} (hS:SetK knd o es ep t ks) (hl:pl.length = ks.length) (hI:s.heap.get? I = some (zBg (.ref T) i a ks.length ep)) (ho:s.heap.get? a = some o)
  (hT:IsTup s.heap T (pl.map fun (k:Nat)=>rawInt k).toArray)
  (hx:(pl[i]?).bind (fun k=>(es[k]?).map (·.2)) = some x) (hQ:∀ h',h'.get? I = some (zBg (.ref T) (i + 1) a ks.length ep) -> Heap.SameBut I s.heap h' -> Q (some x) { s with heap:=h' }):wpAny (model prog w) A (pyNext (.ref I)) Q E s:=by
 have hTy:=zH4 hI;obtain ⟨oT,hoT,hcT,nT,hdT⟩:=id hT;cases hp:pl[i]? with
 | none=>rw [hp] at hx; cases hx
 | some k=>
  rw [hp] at hx;cases he:es[k]? with
  | none=>simp only [Option.bind_some] at hx; rw [he] at hx; cases hx
  | some e=>
   simp only [Option.bind_some] at hx;rw [he] at hx;cases hx;unfold pyNext;refine zUy (wpAny_attempt (zVa (name:=Str.ofString "__next__") hTy zAW (zVb zAW hTy zCP ?_ (zCh _))));unfold Builtin.«set_iterator.__next__» slotArgs;simp only [List.isEmpty_nil,Bool.not_true,zVz,↓reduceIte,List.length_nil,bne_self_eq_false,pure_bind,bind_assoc];refine zUy (wpAny_fieldsOf hI rfl ?_);dsimp only [rawInt];refine zUy (wpAny_setEntries_of ho hS.data hS.fits ?_);rw [zVG (by rw [hS.size]; simp)];refine zUy (zVo hoT hdT ?_);dsimp only;have e5:(List.map (fun (k:Nat)=>rawInt k) pl).toArray[(i:Int).toNat]? = some (rawInt k):=by simp [hp]
   rw [e5];dsimp only [rawInt];unfold setNextDrawn;simp only [bind_assoc];refine zUy (wpAny_setState_of ho hS.data hS.fits ?_);dsimp only;rw [zVG (by simp)];have e6:es[(k:Int).toNat]? = some e:=by simpa using he
   rw [e6];obtain ⟨e1,e2⟩:=e;dsimp only;simp only [pure_bind];refine zUy (zWj hI rfl (by simp) ?_);refine zU0 ⟨e2,rfl,zU0 (hQ _ ?_ (zV1 ..))⟩;refine (zVl _ hI (Obj.isFreed_of_fields (zWF rfl _))).trans ?_;simp [Obj.mapFields,zBg,rawInt]
theorem zNz {pl:List Nat} (hh:A.handled = none) (hS:SetK knd o es ep t ks) (hl:pl.length = ks.length) (hI:s.heap.get? I = some (zBg (.ref T) ks.length a ks.length ep)) (ho:s.heap.get? a = some o)
  (hT:IsTup s.heap T (pl.map fun (k:Nat)=>rawInt k).toArray) (hQ:∀ h',Heap.ExtBut I s.heap h' -> Q none { s with heap:=h' }):wpAny (model prog w) A (pyNext (.ref I)) Q E s:=by
 have hTy:=zH4 hI;obtain ⟨oT,hoT,hcT,nT,hdT⟩:=id hT;unfold pyNext;refine zUy (wpAny_attempt (zVa (name:=Str.ofString "__next__") hTy zAW (zVb zAW hTy zCP ?_ (zCh _))));unfold Builtin.«set_iterator.__next__» slotArgs;simp only [List.isEmpty_nil,Bool.not_true,zVz,↓reduceIte,List.length_nil,bne_self_eq_false,pure_bind,bind_assoc];refine zUy (wpAny_fieldsOf hI rfl ?_);dsimp only [rawInt];refine zUy (wpAny_setEntries_of ho hS.data hS.fits ?_);rw [zVG (by rw [hS.size]; simp)];refine zUy (zVo hoT hdT ?_);dsimp only;have e5:(List.map (fun (k:Nat)=>rawInt k) pl).toArray[(ks.length:Int).toNat]? = none:=by simp [hl]
 rw [e5];dsimp only [rawInt];refine zUy (zWj hI rfl (by simp) ?_);have e1:=zVl (Obj.mapFields fun vs=>vs.set! 0 (rawInt 0)) hI (Obj.isFreed_of_fields (zWF rfl _));refine zUy (zWj e1 (zWF rfl _) (by simp) ?_);simp only [newExc,newTuple,bind_assoc,pure_bind];refine zUy (zVR (zUy (m:=firstArgMember _ _) (wpAny_of_eq (a:=Value.none) (by first | rfl | (simp only [firstArgMember]; rfl)) (zUy (zVR ?_ (by size_fits))))) (by size_fits));simp only [raiseNew];refine zUy (wpAny_handled ?_);rw [show A.in1.handled = none from hh];refine zUy (zU0 (wpAny_throw ?_));refine zUy (wpAny_isInstance (T := "StopIteration") (b:=true) ⟨_,zU8 _ rfl,rfl⟩ isSubtype_stop (zU0 ?_));exact hQ _ ((((zV1 ..).trans (zV1 ..)).extBut.push _).push _)
theorem zKc {pl:List Nat} (hh:A.handled = none) (hne:a ≠ I) (hneT:T ≠ I) (hS:SetK knd o es ep t ks) (hl:pl.length = ks.length) (hb:∀ k ∈ pl,k < es.size) :
  Walks prog w A I [I,a,T] [I] ks.length (fun i v=>(pl[i]?).bind (fun k=>(es[k]?).map (·.2)) = some v) (fun i h=>h.get? I = some (zBg (.ref T) i a ks.length ep) /\ h.get? a = some o /\ IsTup h T (pl.map fun (k:Nat)=>rawInt k).toArray) where
 sub:=fun b hb=>by simp at hb; simp [hb]
 frame:=fun _ _ _ st hk=>⟨hk I (by simp) _ st.1,hk a (by simp) _ st.2.1,let ⟨oT,ho,r⟩:=st.2.2; ⟨oT,hk T (by simp) oT ho,r⟩⟩;item:=fun i s Q E hi st hQ=>by
  have hi':i < pl.length:=by rw [hl]; exact hi
  have hk:pl[i] < es.size:=hb _ (zVW hi');have hx:(pl[i]?).bind (fun k=>(es[k]?).map (·.2)) = some (es[pl[i]].2):=by
   rw [zU2 hi']; simp [hk]
  refine zL9 hS hl st.1 st.2.1 st.2.2 hx fun h' hI' hs'=>?_;exact hQ _ h' s.toks hx ⟨hI',hs'.extBut a o hne st.2.1,st.2.2.extBut hs'.extBut hneT⟩ fun b u hb ee=>hs'.extBut b u (fun h=>hb (by simp [h])) ee
 done:=fun s Q E st hQ=>zNz hh hS hl st.1 st.2.1 st.2.2 fun h' he'=>hQ h' s.toks fun b u hb ee=>he' b u (fun h=>hb (by simp [h])) ee;self:=fun _ _ _ _ st hQ=>zM2 st.1 hQ
end
open Sem (wp)
theorem zOL {prog:Program} {w:World} {A:Around} {I:Addr} {fp wr:List Addr} {n:Nat} {P P':Nat -> Value -> Prop} {St:Nat -> Heap -> Prop} (W:Walks prog w A I fp wr n P St) (h:∀ i v,P i v -> P' i v):Walks prog w A I fp wr n P' St where
 sub:=W.sub;frame:=W.frame;item:=fun i s Q E hi st hQ=>W.item i s Q E hi st fun v h' tk hP=>hQ v h' tk (h i v hP);done:=W.done;self:=W.self
section
variable {prog:Program} {w:World} {A:Around} {E:Value -> Shared -> Prop} {s:Shared}
variable {K:Type} [DecidableEq K] {knd:KeyKind prog w K} {o:Obj} {es:Array (Int × Value)} {ep:Nat} {t:SetTable} {ks:List K} {a I:Addr}
theorem zDI (h:Q (w.params.followText "set-order") s):wpAny (model prog w) A setsByText Q E s:=by
 unfold setsByText;exact zUy (wpAny_askSetting (zU0 h))
theorem zMF (hS:SetK knd o es ep t ks) (hT:w.params.followText "set-order" = true):Nexts prog w o a ep ks.length (fun _=>0) ((pickOrder (w.params.setOrder a ep) es).toList.map (·.2)) where
 len:=by rw [zU7,(zEK _ es).length_eq,zVh,hS.size]
 nx:=fun A E i s Q hi ho hQ=>by
  unfold setNext;refine zUy (wpAny_setState_of ho hS.data hS.fits ?_);dsimp only;refine zUy (zDI ?_);rw [hT,zVD rfl,zVG (by simp)];refine zUy ?_;unfold setWalk;refine zUy (wpAny_setState_of ho hS.data hS.fits ?_);dsimp only;refine zUy (zDI ?_);rw [hT,zVD rfl];refine zUy (wpAny_askSetting (zU0 ?_));refine zU0 ?_;have e:(Option.map (fun (e:Int × Value)=>(e.2,0)) (pickOrder (w.params.setOrder a ep) es)[i]?) = Option.map (fun x=>(x,0)) ((pickOrder (w.params.setOrder a ep) es).toList.map (·.2))[i]?:=by
   rw [zVL,zWd];cases (pickOrder (w.params.setOrder a ep) es)[i]? <;> rfl
  show Q (Option.map (fun (e:Int × Value)=>(e.2,0)) (pickOrder (w.params.setOrder a ep) es)[i]?) s;rw [e]; exact hQ
def zLx (t:SetTable):Nat -> Nat
 | 0=>0
 | i + 1=>t.place.getD i 0 + 1
theorem zPw (h:Up t.place) (hi:i <= t.place.size):SetTable.below t.place (zLx t i) = i:=by
 cases i with
 | zero=>exact zLe h
 | succ i=>
  show SetTable.below t.place (t.place.getD i 0 + 1) = i + 1;have hl:i < t.place.size:=by omega
  have e:t.place.getD i 0 = t.place[i]:=by simp [Array.getD,hl]
  rw [e]; exact zLq h hl
theorem zNx (hS:SetK knd o es ep t ks):t.place.size = es.size:=by
 have:=hS.fits;simp only [SetTable.fits,zVY,beq_iff_eq] at this;exact this.1
theorem zLB (hS:SetK knd o es ep t ks) (hT:w.params.followText "set-order" = false) (hd:(!t.plain && decide (es.size > 1)) = false):Nexts prog w o a ep ks.length (zLx t) (es.toList.map (·.2)) where
 len:=by rw [zU7,zVh,hS.size]
 nx:=fun A E i s Q hi ho hQ=>by
  have hz:=zNx hS;unfold setNext;refine zUy (wpAny_setState_of ho hS.data hS.fits ?_);dsimp only;refine zUy (zDI ?_);rw [hT,zVG (by decide)];show wpAny _ _ (if (!t.plain && decide (es.size > 1)) = true then _ else _) _ _ _;rw [zVG (by rw [hd]; decide)];have hl:t.led = true:=by rw [hS.tab.led,hT]; rfl
  refine zUy ?_;show wpAny _ _ (if (!t.led && !es.isEmpty) = true then unsupported "set:maker-not-led" else pure ()) _ _ _;rw [zVG (by rw [hl]; simp)];refine zU0 ?_;rw [zPw hS.tab.up (by rw [hz,hS.size]; exact hi)];refine zU0 ?_;rw [zVL,zWd] at hQ;by_cases q:i < es.size
  ·have q2:i < t.place.size:=by rw [hz]; exact q
   rw [zVj q,zVj q2];rw [zVj q] at hQ;have e:zLx t (i + 1) = t.place[i] + 1:=by
    show t.place.getD i 0 + 1 = _;simp [Array.getD,q2]
   simp only [Option.map] at hQ;rw [e] at hQ;exact hQ
  ·have:i = es.size:=by rw [hS.size] at q ⊢; omega
   rw [Array.getElem?_eq_none (by omega)] at hQ ⊢;exact hQ
theorem zQU (ho:s.heap.get? a = some o) (hS:SetK knd o es ep t ks)
  (h:∀ (h':Heap) (d:Drawn) (I:Addr) (fp:List Addr) (ord:List Value) (St:Nat -> Heap -> Prop),(∀ b u,s.heap.get? b = some u -> h'.get? b = some u) -> s.heap.objs.size <= I -> (∀ b ∈ fp,b < h'.objs.size /\ (b = a \/ s.heap.objs.size <= b)) ->
   (∀ A:Around,A.handled = none -> Walks prog w A I fp [I] ks.length (fun i v=>ord[i]? = some v) St) -> St 0 h' -> ord.Perm (es.toList.map (·.2)) -> Q (.ref I) { s with heap:=h',drawn:=d }) :
  wpAny (model prog w) A (pyIter (.ref a)) Q E s:=by
 have hT:=hS.typeIs ho;have hal:a < s.heap.objs.size:=zU9 ho;refine wpAny_pyIter_slot hT F.slot_set_iter (zVb F.slot_set_iter hT zHT ?_ (F.args_set_iter_1 _));unfold Builtin.«frozenset.__iter__» Builtin.Frozenset.slot0 slotArgs Builtin.Frozenset.addrOf Builtin.Frozenset.sizeOf;simp only [List.isEmpty_nil,Bool.not_true,zVz,↓reduceIte,List.length_nil,bne_self_eq_false,pure_bind,bind_assoc];refine zUy (wpAny_setEntries_of ho hS.data hS.fits ?_);unfold setDrawn;simp only [bind_assoc];refine zUy (wpAny_setState_of ho hS.data hS.fits ?_);dsimp only;refine zUy (zDI ?_);simp only [pure_bind];have hsz:=hS.size;have plain:∀ (at_:Nat -> Nat) (ord:List Value),at_ 0 = 0 -> Nexts prog w o a ep ks.length at_ ord -> ord.Perm (es.toList.map (·.2)) -> Q (.ref s.heap.objs.size) { s with heap:=s.heap.push (zBg (rawInt 0) 0 a ks.length ep) }:=by
  intro at_ ord h0 N hp;have e:s.heap.push (zBg (rawInt 0) 0 a ks.length ep) = s.heap.push (zBg (rawInt 0) 0 a ks.length ep):=rfl
  have:=h (s.heap.push (zBg (rawInt 0) 0 a ks.length ep)) s.drawn s.heap.objs.size [s.heap.objs.size,a] ord (fun i h=>h.get? s.heap.objs.size = some (zBg (rawInt (at_ i)) i a ks.length ep) /\ h.get? a = some o)
   (fun b u e=>zUz _ e) (zU4 _) (fun b hb=>by
    rw [zVe];rcases zVA.mp hb with z | z
    ·rw [z]; exact ⟨zVv _,.inr (zU4 _)⟩
    ·rw [zVQ.mp z]; exact ⟨zVn hal,.inl rfl⟩)
   (fun A hh=>zKK hh (zVJ hal) N hS) ⟨by rw [h0]; exact zU8 _ rfl,zUz _ ho⟩ hp
  exact this
 have mk:∀ (s1:Shared) (f:Value) (hv:s1.heap.get? a = some o) {Q':Fin -> Shared -> Prop},Q' (.done (.ret (.ref s1.heap.objs.size))) { s1 with heap:=s1.heap.push (zBg f 0 a ks.length ep) } -> wpAny (model prog w) A.in1 (do
   let e <- setEpoch a;let r <- newFields "set_iterator" [f,rawInt 0,Value.ref a,rawInt es.size,rawInt e];ret r) Q' E s1:=by
  intro s1 f hv Q' hq;refine zUy (wpAny_setEpoch_of hv hS.data hS.fits ?_);unfold newFields;refine zUy (zVR (zU0 ?_));rw [hsz]; exact hq
 have ty:∀ (s1:Shared) (f:Value),(∃ T' r,Shared.TypeIs { s1 with heap:=s1.heap.push (zBg f 0 a ks.length ep) } (.ref s1.heap.objs.size) T' /\ typeLookup (Value.type T') (Str.ofString "__next__") = pure (some r) /\ True):=fun s1 f=>⟨"set_iterator", _,⟨_,zU8 _ rfl,rfl⟩,zAW.lookup,trivial⟩;show wpAny _ _ (if (!w.params.followText "set-order" && (!t.plain && decide (es.size > 1))) = true then _ else _) _ _ _;by_cases hc:(!w.params.followText "set-order" && (!t.plain && decide (es.size > 1))) = true
 ·rw [zVD hc];refine zUy (zD6 _ _ (by simp) fun pl d hp=>?_);refine zUy ?_;unfold newTuple;have hpl:pl.length = ks.length:=by rw [hp.length_eq,List.length_range,hsz]
  refine zVR ?_ (by
   show (List.map (fun (i:Nat)=>rawInt i) pl).toArray.size <= sizeLine;rw [zU6,zU7,hpl,<- hsz]; exact fits_of_scanBound hS.bound)
  generalize hH:s.heap.push { cls:=.type "tuple", data:=.seq (List.map (fun (i:Nat)=>rawInt i) pl).toArray } = H;have kH:∀ b u,s.heap.get? b = some u -> H.get? b = some u:=fun b u e=>by rw [<- hH]; exact zUz _ e
  have hT1:IsTup H s.heap.objs.size (pl.map fun (k:Nat)=>rawInt k).toArray:=⟨_,by rw [<- hH]; exact zU8 _ rfl,rfl,0,rfl⟩;have szH:H.objs.size = s.heap.objs.size + 1:=by rw [<- hH]; exact zVe ..
  have szlt:s.heap.objs.size < H.objs.size:=by rw [szH]; exact zVv _
  have alt:a < H.objs.size:=Nat.lt_trans hal szlt;refine mk { s with heap:=H,drawn:=d } (.ref s.heap.objs.size) (kH _ _ ho) ?_;obtain ⟨T',r,e1,e2,_⟩:=ty { s with heap:=H,drawn:=d } (.ref s.heap.objs.size);refine ⟨_,rfl,T',r,e1,e2,?_⟩;have kH2:∀ b u,s.heap.get? b = some u -> (H.push (zBg (.ref s.heap.objs.size) 0 a ks.length ep)).get? b = some u:=fun b u e=>zUz _ (kH b u e);refine h _ d H.objs.size [H.objs.size,a,s.heap.objs.size] (pl.map fun k=>((es[k]?).map (·.2)).getD .none) (fun i h=>h.get? H.objs.size = some (zBg (.ref s.heap.objs.size) i a ks.length ep) /\ h.get? a = some o /\ IsTup h s.heap.objs.size (pl.map fun (k:Nat)=>rawInt k).toArray) kH2 (by rw [szH]; exact Nat.le_succ _) (fun b hb=>?_) (fun A hh=>?_) ⟨zU8 _ rfl,kH2 a o ho,?_⟩ ?_
  ·rw [zVe];simp only [zVA,zVT,zWJ] at hb;rcases hb with z | z | z
   ·rw [z]; exact ⟨zVv _,.inr (Nat.le_of_lt szlt)⟩
   ·rw [z]; exact ⟨zVn alt,.inl rfl⟩
   ·rw [z]; exact ⟨zVn szlt,.inr (zU4 _)⟩
  ·have hb:∀ k ∈ pl,k < es.size:=fun k hk=>by have:=hp.mem_iff.mp hk; simpa using this
   refine zOL (zKc hh (a:=a) (I:=H.objs.size) (T:=s.heap.objs.size) (zVJ alt) (zVJ szlt) hS hpl hb) fun i v hv=>?_;rw [zVL];cases q:pl[i]? with
   | none=>rw [q] at hv; cases hv
   | some k=>
    rw [q] at hv;simp only [Option.bind_some] at hv;rw [Option.map_some,hv]; rfl
  ·exact hT1.push _
  ·have e:es.toList.map (·.2) = (List.range es.size).map fun k=>((es[k]?).map (·.2)).getD .none:=by
    apply List.ext_getElem?;intro i;rw [zVL,zVL,zWd];by_cases q:i < es.size
    ·rw [List.getElem?_range q,zVj q]; simp [q]
    ·rw [Array.getElem?_eq_none (by omega),List.getElem?_eq_none (by simp; omega)]; rfl
   rw [e];exact hp.map _
 ·rw [zVG hc];refine mk s (rawInt 0) ho ?_;obtain ⟨T',r,e1,e2,_⟩:=ty s (rawInt 0);refine ⟨_,rfl,T',r,e1,e2,?_⟩;cases hX:w.params.followText "set-order" with
  | true=>exact plain _ _ rfl (zMF hS hX) ((zEK _ es).map _)
  | false=>
   rw [hX] at hc;exact plain _ _ rfl (zLB hS hX (by simpa using hc)) (.refl _)
end
open Sem (wp)
section
variable {prog:Program} {w:World} {A:Around} {E:Value -> Shared -> Prop} {s:Shared}
variable {K:Type} [DecidableEq K] {knd:KeyKind prog w K} {o:Obj} {es:Array (Int × Value)} {ep:Nat} {t:SetTable} {ks:List K} {a I:Addr}
theorem zOg:isSubtype (.type "set") (.type "set") = pure true:=sub_set_self
theorem zNE (hT:s.TypeIs (.ref a) "set") (h:Q false s):wpAny (model prog w) A (Builtin.List.listLengthHint (.ref a)) Q E s:=by
 unfold Builtin.List.listLengthHint;refine zUy (wpAny_specialOf hT F.slot_set_len.lookup ?_);have hsp:splitId "set.__len__" = some ("set", "__len__"):=by decide +kernel
 dsimp only;rw [hsp];dsimp only;refine zUy (wpAny_isInstance hT zOg ?_);rw [zVG (by decide),zVD (by decide +kernel)];refine zUy (wpAny_typeOf hT ?_);exact zU0 h
theorem zKd (hh:A.handled = none) (ho:s.heap.get? a = some o) (hS:SetK knd o es ep t ks)
  (hQ:∀ (s':Shared) (acc:List Value),(∀ b u,s.heap.get? b = some u -> s'.heap.get? b = some u) -> s'.os = s.os -> s'.gens = s.gens -> acc.Perm (es.toList.map (·.2)) -> Q acc s'):wpAny (model prog w) A (collect (.ref a)) Q E s:=by
 have hal:a < s.heap.objs.size:=zU9 ho;have hn:ks.length <= sizeLine:=by rw [<- hS.size]; exact fits_of_scanBound hS.bound
 unfold collect;refine zUy (wpAny_runValue (codeAny_builtin F.entry_proto_collect ?_));rw [Around.under_plainId F.plain_proto_collect _];show wpAny _ A.in1 (newList [] >>= fun l=>again (.builtin "list.__iadd__" ⟨[l,.ref a],[]⟩)) _ _ s;refine zUy (zVR (zU0 ⟨plainId_quiet F.plain_list_iadd _,codeAny_builtin F.entry_list_iadd ?_⟩));rw [Around.under_plainId F.plain_list_iadd _];generalize hH:s.heap.push { cls:=.type "list", data:=.seq ([]:List Value).toArray } = H;have kH:∀ b u,s.heap.get? b = some u -> H.get? b = some u:=fun b u e=>by rw [<- hH]; exact zUz _ e
 have szH:H.objs.size = s.heap.objs.size + 1:=by rw [<- hH]; exact zVe ..
 have hL1:H.get? s.heap.objs.size = some { cls:=.type "list", data:=.seq ([]:List Value).toArray }:=by rw [<- hH]; exact zU8 _ rfl
 have ho1:=kH a o ho;show wpAny _ A.in1 (Builtin.List.listExtendWith (.ref s.heap.objs.size) (.ref a) (.ref s.heap.objs.size)) _ _ { s with heap:=H };unfold Builtin.List.listExtendWith;have hT1:Shared.TypeIs { s with heap:=H } (.ref a) "set" := ⟨o,ho1,hS.ex.1⟩;refine zUy (wpAny_typeOf hT1 ?_);have hneL:s.heap.objs.size ≠ a:=Nat.ne_of_gt hal;have h1:Builtin.List.listSameRef (.ref s.heap.objs.size) (.ref a) = false:=by simp [Builtin.List.listSameRef,hneL]
 have h2:(Value.type "set" == Value.type "list") = false:=by decide
 have h3:(Value.type "set" == Value.type "tuple") = false:=by decide
 simp only [h1,h2,h3,Bool.or_false,zVz,if_false];refine zUy (zQU (s:={ s with heap:=H }) ho1 hS fun h2 d I fp ord St k2 hI2 hfp W st0 hp=>?_);have ho2:=k2 a o ho1;refine zUy (zVr (zNE (s:={ s with heap:=h2,drawn:=d }) ⟨o,ho2,hS.ex.1⟩ ?_));rw [zVD (by decide +kernel)];refine zUy (zWL (zUy ?_));show wpAny _ A.in1 (updateSeq s.heap.objs.size (·.push .none) >>= fun _=>updateSeq s.heap.objs.size (·.pop)) _ _ _;have hL2:=k2 _ _ hL1;refine zUy (wpAny_updateSeq (s:={ s with heap:=h2,drawn:=d }) hL2 rfl ?_);have hS2:=zVl (Obj.mapSeq (·.push Value.none)) hL2 rfl;refine wpAny_updateSeq hS2 rfl ?_;have hS3:=zVl (Obj.mapSeq (·.pop)) hS2 rfl;generalize hH3:(h2.update s.heap.objs.size (Obj.mapSeq (·.push Value.none))).update s.heap.objs.size (Obj.mapSeq (·.pop)) = H3 at hS3;have oth:∀ b u,b ≠ s.heap.objs.size -> h2.get? b = some u -> H3.get? b = some u:=fun b u hb e=>by
  rw [<- hH3]; exact (zVf _ _ (Ne.symm hb)).trans ((zVf _ _ (Ne.symm hb)).trans e)
 have hSf:s.heap.objs.size ∉ fp:=fun hm=>by
  rcases (hfp _ hm).2 with z | z
  ·exact hneL z
  ·have z':H.objs.size <= s.heap.objs.size:=z;rw [szH] at z'; exact absurd z' (Nat.not_succ_le_self _)
 have WS:=(W A.in1.in1 hh).toS;have st3:St 0 H3:=(W A.in1.in1 hh).frame 0 _ _ st0 fun b hb u e=>oth b u (fun z=>hSf (z ▸ hb)) e;have hI3:I ≠ s.heap.objs.size:=fun z=>by
  have z':H.objs.size <= I:=hI2;rw [szH,z] at z'; exact absurd z' (Nat.not_succ_le_self _)
 refine zU0 ⟨plainId_quiet F.plain_extend_loop _,codeAny_extend_loopS (A:=A) (WalksS.of_in1 WS) hn _ hSf _ ks.length 0 { s with heap:=H3,drawn:=d } _ _ rfl (zVk _) st3 hS3 (ItemsOf.nil _) fun s' acc' c' hm hS' hacc=>?_⟩;show wpAny _ A (load s.heap.objs.size >>= _) _ _ s';refine zUy (wpAny_load hS' (zU0 (hQ s' _ (fun b u e=>hm.heap b u (fun q=>?_) (oth b u (fun z=>zVg _ (z ▸ zU9 e)) (k2 b u (kH b u e)))) hm.os hm.gens ?_)))
 ·rcases zVA.mp q with z | z
  ·exact zVg _ (z ▸ zU9 e)
  ·have z':H.objs.size <= I:=hI2;rw [<- zVQ.mp z,szH] at z';exact zVg _ (Nat.lt_trans (zVN (zVv _) z') (zU9 e))
 ·have e:acc'.toList = ord:=by
   have hl:ord.length = ks.length:=by rw [hp.length_eq,zU7,zVh,hS.size]
   apply List.ext_getElem?;intro i;rw [zWd];by_cases q:i < ks.length
   ·have q':i < acc'.size:=by rw [hacc.1]; exact q
    rw [zVj q'];exact (hacc.2 i _ (zVj q')).symm
   ·rw [Array.getElem?_eq_none (by rw [hacc.1]; omega),List.getElem?_eq_none (by omega)]
  rw [e]; exact hp
end
end ST
namespace L2
open PySem PySem.Spec PyProof.Rows ST
section
variable {prog:Program} {w:World} {A:Around} {R:Result -> Shared -> Prop} {s:Shared}
theorem zEC {elt target iter ifs rest scope pos it acc env}
  (h0:codeAny (model prog w) A (.compLoop (.SetComp elt (⟨target,iter,ifs,0⟩ :: rest) scope pos) 0 it acc env) R s)
  (h:wpAny (model prog w) A (pyIter it) (fun it' s'=>codeAny (model prog w) A (.compLoop (.SetComp elt (⟨target,iter,ifs,0⟩ :: rest) scope pos) 0 it' acc env) R s')
   (notedBy (model prog w) A env fun x s'=>R (.error x) s') s) :
  codeAny (model prog w) A (.compStart (.SetComp elt (⟨target,iter,ifs,0⟩ :: rest) scope pos) 0 it acc env) R s:=by
 refine codeAny_of_tree ?_;show wpAny _ _ ((compStart (.SetComp elt (⟨target,iter,ifs,0⟩ :: rest) scope pos) 0 it acc env).onRaise (fun x=>do noteFrame x env; standAt theWindowsPlace)) _ _ s;refine wpAny_notedAt ?_;unfold compStart;show wpAny _ _ (ask >>= _) _ _ s;refine zUy (wpAny_askSetting (wpAny_ite ?_));split
 ·first
   | exact zUy (zU0 (zU0 (And.intro rfl h0)))
   | exact zU0 (And.intro rfl h0)
 ·first
   | exact zUy (zWL (zUy (zVw (zUy (zVU h (fun it' s' h'=>zU0 (And.intro rfl h')) fun _ _ x=>x)))))
   | (refine zUy (zWL ?_); show wpAny _ _ (standAt iter.pos >>= _) _ _ s; exact zUy (zVw (zUy (zVU h (fun it' s' h'=>zU0 (And.intro rfl h')) fun _ _ x=>x))))
end
section
variable {X:Cx} {zB:List (Addr × Obj)} {σ:St} {H:Hp} {s:Shared} {scope:Scope} {cl:List (Str × Addr)} {fp:List Addr} {it:Addr} {tn:Nat -> Heap -> Prop} {J:It} {tg elt iter:Expr} {ifs:List Expr} {pos:Pos}
 {own:List Nat} {g:TG} {tc:TT} {te:TE} {E:Value -> Shared -> Prop}
theorem zLd (h:SetK (intKind prog w) o es ep t ks):∀ v,o.data ≠ .cell v:=fun v z=>by rw [h.data] at z; cases z
theorem zHo (C:CompIn X scope own) (hcalm:X.calm = true) (I:Inv X zB σ H s) (T:Turn X.prog X.w X.K tg J fp it tn) (st:tn 0 s.heap) (hf:∀ b ∈ fp,zC5 X zB H b)
  (c1:∀ x c,cl.lookup x = some c -> X.env.cells.lookup x = some c) (c2:∀ y ∈ scope.names,y.2 = .free -> (cl.lookup y.1).isSome = true)
  (hg:PG (zS X zB scope cl s H fp) tg g) (hi:zGm (zS X zB scope cl s H fp) ifs tc) (he:PE (zS X zB scope cl s H fp) elt te)
  {RR:Value -> Addr -> Result -> Shared -> Prop} {QQ:List Int -> Hp -> Prop} {W:Nat -> Nat -> List Int -> Hp -> Prop} {m0:Nat} (w0:W 0 m0 [] H)
  (turn:∀ i m ys H,W i m ys H -> (J.stop i H /\ QQ ys H) \/
   (J.go i H /\ ∀ x H',J.yld i H x H' -> g x (clr own σ) H' fun σ2 H2=>Ext (clr own σ) σ2 /\ tc σ2 H2 fun b H3=>
    if b = true then te σ2 H3 fun v H4=>∃ k,v = .int k /\ ys.length + 1 < scanBound /\ ∃ m',m' < m /\ W (i + 1) m' (ins ys k) H4 else ∃ m',m' < m /\ W (i + 1) m' ys H3))
  (fin:∀ σc H' s' o es ep t ys,Inv (zS X zB scope cl s H fp) [(s.heap.objs.size,o)] σc H' s' -> SetK (intKind X.prog X.w) o es ep t ys -> QQ ys H' -> RR (.ref s.heap.objs.size) (s.heap.objs.size + 1) (.ok .next) s') :
  wpAny (model X.prog X.w) X.A (newSet (.type "set")) (fun acc s₃=>wpAny (model X.prog X.w) X.A (newFunctionEnv scope X.env.globals cl [] X.env.qual none .none (some X.env)) (fun cenv s₄=>
   codeAny (model X.prog X.w) X.A (.compStart (.SetComp elt [⟨tg,iter,ifs,0⟩] scope pos) 0 (.ref it) acc { cenv with scope:=relabel scope X.env }) (RR acc cenv.locals) s₄) E s₃) E s:=by
 have ob:∀ b:Nat,b ∈ fp -> b < s.heap.objs.size:=fun b hb=>let ⟨_,e,_⟩:=T.obj 0 _ st b hb; zU9 e;refine zNo (zDL ?_);have sz1:(s.heap.push (zCV X.w)).objs.size = s.heap.objs.size + 1:=zVe ..;have I4:=zFq (X:=X) (zB:=zB) (σ:=σ) (σc:=clr own σ) (H:=H) (s:=s) (scope:=scope) (cl:=cl) (fp:=fp) C.sc I hf ob c1 c2 (zBk own σ) (fun i x v h1 h2 h3=>by
  obtain ⟨a,b⟩:=zDA own σ i v h2;rcases C.nm i x h1 with z | z | z
  ·exact absurd z b
  ·exact absurd (zCm x z) h3
  ·exact ⟨z,a⟩) (zCV X.w) (by intro v z; cases z) rfl rfl
 have st4:tn 0 (pushCells ((s.heap.push (zCV X.w)).push { cls:=.type "dict", data:=.dict #[] }) scope.names):=T.keep 0 _ _ st fun b _ o e=>pushCells_keeps _ _ b o (zUz _ (zUz _ e));dsimp only;unfold newEnv;dsimp only;rw [sz1];have hDfp:s.heap.objs.size ∉ fp:=fun z=>zVg _ (ob _ z);have hcD:∀ x c,(zS X zB scope cl s H fp).env.cells.lookup x = some c -> c ≠ s.heap.objs.size:=fun x c e z=>by
  obtain ⟨v,o,ho,hd⟩:=I4.cell x c e;obtain ⟨q,_⟩:=I4.pin (s.heap.objs.size,zCV X.w) (by simp);rw [z,q] at ho;cases ho; cases hd
 have fpk:∀ {H':Hp} {pl:List (Addr × Obj)},(∀ b ∈ fp,H' b = none) -> (∀ p ∈ pl,p.1 = s.heap.objs.size) -> ∀ b ∈ fp,zC5 (zS X zB scope cl s H fp) pl H' b:=fun {H' pl} hn hp b hb=>
  ⟨hn b hb,(I4.ok.exf b hb).1,I4.ok.exfs b hb,.inl hb,(I4.ok.exf b hb).2,fun p hq=>by
   rcases zVO.mp hq with z | z
   ·exact (hf b hb).2.2.2.2.2 p z
   ·intro e;have e2:=hp p z;rw [e] at e2;exact hDfp (e2 ▸ hb)⟩
 have loop:codeAny (model X.prog X.w) X.A (.compLoop (.SetComp elt [⟨tg,iter,ifs,0⟩] scope pos) 0 (.ref it) (.ref s.heap.objs.size) (zS X zB scope cl s H fp).env) (RR (.ref s.heap.objs.size) (s.heap.objs.size + 1))
   { s with heap:=pushCells ((s.heap.push (zCV X.w)).push { cls:=.type "dict", data:=.dict #[] }) scope.names }:=by
  refine zJF (fun n s'=>∃ i H' ys o es ep t,Inv (zS X zB scope cl s H fp) [(s.heap.objs.size,o)] (clr own σ) H' s' /\ SetK (intKind X.prog X.w) o es ep t ys /\ tn i s'.heap /\ (∀ b ∈ fp,H' b = none) /\ W i n ys H') ?_ m0
   ⟨0,H,[],zCV X.w,_,_,_,I4,.fresh,st4,fun b hb=>(hf b hb).1,w0⟩
  rintro n s5 ⟨i,H5,ys,o,es,ep,t,I5,r5,st5,f5,w5⟩;have pinD:∀ p ∈ [(s.heap.objs.size,o)],p.1 = s.heap.objs.size:=fun p hp=>by
   have:p = (s.heap.objs.size,o):=by simpa using hp
   rw [this]
  rcases turn i n ys H5 w5 with ⟨stop,qq⟩ | ⟨go,step⟩
  ·refine thn (T.done (zS X zB scope cl s H fp) rfl rfl rfl hcalm i _ s5 _ H5 _ I5 (fpk f5 pinD) st5 stop) fun r s6 ⟨hr,I6⟩=>?_;subst hr;exact fin _ H5 s6 o es ep t ys I6 r5 qq
  ·refine thn (T.item (zS X zB scope cl s H fp) rfl rfl rfl hcalm i _ s5 _ H5 _ I5 (fpk f5 pinD) st5 go) fun r s6 ⟨u,hr,h6⟩=>?_;subst hr;refine thn h6 fun _ s7 ⟨x,H7,I7,r7,y7,st7,f7⟩=>?_;have I7':=I7.pinned (fpk f7 pinD) (T.obj _ _ st7);refine thn (hg _ s7 _ H7 x u _ I7' r7 (step x H7 y7)) fun _ s8 ⟨σ8,H8,I8,x8,q8⟩=>?_;refine thn (hi _ s8 σ8 H8 _ I8 q8) fun ok s9 ⟨H9,I9,q9⟩=>?_;have back:∀ {s':Shared} {Hx:Hp},Inv (zS X zB scope cl s H fp) ([(s.heap.objs.size,o)] ++ zDV fp s7.heap) σ8 Hx s' -> tn (i + 1) s'.heap /\ ∀ b ∈ fp,Hx b = none:=fun {s' Hx} Ix=>
    ⟨T.keep _ _ _ st7 fun b hb o e=>(Ix.pin (b,o) (zVI _ (zVI _ (zAg hb e)))).1,fun b hb=>by
     obtain ⟨o,e,d⟩:=T.obj _ _ st7 b hb;exact (Ix.pin (b,o) (zVI _ (zVI _ (zAg hb e)))).2.1⟩
   cases ok with
   | false=>
    obtain ⟨m',hm,w'⟩:=q9;obtain ⟨b1,b2⟩:=back I9;exact ⟨m',hm,i + 1,H9,ys,o,es,ep,t,(I9.weak (by rw [x8.1]) x8.2).unpinned,r5,b1,b2,w'⟩
   | true=>
    refine thn (he _ s9 σ8 H9 _ I9 q9) fun v s10 ⟨y,H10,I10,r10,k,hk,hlt,m',hm,w'⟩=>?_;subst hk;obtain ⟨b1,b2⟩:=back I10;have J10:=(I10.weak (by rw [x8.1]) x8.2).unpinned;obtain ⟨e10,n10,ne10,nf10,d10⟩:=J10.pin (s.heap.objs.size,o) (by simp);obtain ⟨tk,hv⟩:∃ tk,v = .int k tk:=r10;subst hv;refine zQY (knd:=intKind X.prog X.w) (intKind_is _ _ _ _) rfl e10 r5 hlt fun h' o' es' ep' t' hs' e' S'=>?_;refine ⟨m',hm,i + 1,H10,ins ys k,o',es',ep',t',?_,S',T.keep _ _ _ b1 fun b hb o e=>hs'.extBut b o (fun z=>hDfp (z ▸ hb)) e,b2,w'⟩;refine (Inv.repin (pl:=[]) J10 (fun p hp=>?_) hs' (zU4 _) hcD e' (zLd S')).tok _;rw [zVi] at hp;have hp':p ∈ X.pn ++ zB:=hp;exact zVJ (zU9 (I.pin p hp').1)
 exact zEC loop (T.self _ 0 _ _ _ st4 loop)
theorem zJd (I:Inv X zB σ H s) (hf:∀ b ∈ fp,zC5 X zB H b)
  (Ic:Inv (zS X zB scope cl s H fp) [(s.heap.objs.size,oD)] σc H' s') (hs:Heap.SameBut (s.heap.objs.size + 1) s'.heap h') :
  Inv X zB σ H' { s' with heap:=h' } /\ h'.get? s.heap.objs.size = some oD:=by
 obtain ⟨eD,nD,_⟩:=Ic.pin (s.heap.objs.size,oD) (by simp);have nC:H' (s.heap.objs.size + 1) = none:=Ic.free;have eD':h'.get? s.heap.objs.size = some oD:=hs.extBut _ _ (zVJ (zVv _)) eD;have lt1:∀ {b:Addr} {o:Obj},s.heap.get? b = some o -> b ≠ s.heap.objs.size + 1:=fun e=>zVJ (zVn (zU9 e));have tr:∀ b u,H' b = some u -> b ≠ s.heap.objs.size + 1:=fun b u e z=>by rw [z,nC] at e; cases e
 refine ⟨?_,eD'⟩;have B:=Ic.base;have un:Un (frs X.stack) fp H H' s.heap h':=by
  refine ⟨fun b o e q hb hx=>hs.extBut b o (lt1 e) (B.keep b o e q hb hx),fun b o e q hb hx=>?_,fun b o e q hx=>B.free b o e q hx,fun b o e hx=>?_,fun b xs e=>B.tups b xs e,fun b o xs e=>B.frzs b o xs e,fun b ps e=>B.tbls b ps e⟩
  ·obtain ⟨sl,e1⟩:=B.slot b o e q hb hx;exact ⟨sl,hs.extBut b _ (lt1 e) e1⟩
  ·obtain ⟨o',e1⟩:=B.there b o e hx;exact ⟨o',hs.extBut b _ (lt1 e) e1⟩
 have hok:HOk X.prog X.w H' h':=fun b u e=>by
  refine (Ic.hok b u e).stay (fun c v hc q=>hs.extBut c v ?_ q) (fun c q=>q) fun c xs q=>q;rcases hc with z | z
  ·rw [z]; exact tr b u e
  ·exact tr c _ z
 exact I.call' (s':={ s' with heap:=h' }) (ch:=fp) Ic.os un hok Ic.bare fun b hb=>⟨(hf b hb).2.2.2.1,(hf b hb).2.1,(hf b hb).2.2.2.2.1,(hf b hb).2.2.2.2.2⟩
end
abbrev TZ:=St -> Hp -> (List Int -> Hp -> Prop) -> Prop
def PZ (X:Cx) (e:Expr) (t:TZ):Prop:=∀ (zB:List (Addr × Obj)) (s:Shared) (σ:St) (H:Hp) (Q:List Int -> Hp -> Prop),Inv X zB σ H s -> t σ H Q ->
 wpAny (model X.prog X.w) X.A (eval e X.env) (fun v s'=>∃ a o es ep tb ks H',v = .ref a /\ s'.heap.get? a = some o /\ SetK (intKind X.prog X.w) o es ep tb ks /\ Inv X zB σ H' s' /\ Q ks H') X.xe s
def zLF (own:List Nat) (wi:TI) (g:TG) (tc:TT) (te:TE):TZ:=fun σ H Q=>wi σ H fun J H1=>∃ W:Nat -> Nat -> List Int -> Hp -> Prop,(∃ m,W 0 m [] H1) /\ ∀ i m ys H,W i m ys H ->
 (J.stop i H /\ Q ys H) \/
 (J.go i H /\ ∀ x H',J.yld i H x H' -> g x (clr own σ) H' fun σ2 H2=>Ext (clr own σ) σ2 /\ tc σ2 H2 fun b H3=>
  if b = true then te σ2 H3 fun v H4=>∃ k,v = .int k /\ ys.length + 1 < scanBound /\ ∃ m',m' < m /\ W (i + 1) m' (ins ys k) H4 else ∃ m',m' < m /\ W (i + 1) m' ys H3)
section
variable {X:Cx} {scope:Scope} {tg elt iter:Expr} {ifs:List Expr} {pos:Pos} {own:List Nat} {wi:TI} {g:TG} {tc:TT} {te:TE}
theorem zQm (C:CompIn X scope own) (hcalm:X.calm = true) (hi:PI X tg iter wi) (p:CompParts X scope tg ifs elt g tc te) (hs:∀ x,foldedSetIterable iter X.env x = pure x:=by intro _; rfl) :
  PZ X (.SetComp elt [⟨tg,iter,ifs,0⟩] scope pos) (zLF own wi g tc te):=by
 intro zB s σ H Q I h;obtain ⟨cl,hcl,c1,c2⟩:=C.sc.closure I;rw [arm_eval_SetComp];refine zWs (use:=none) rfl hs hcl C.sc.kind C.sc.names (thn (hi zB s σ H _ I h) fun v s1 h1=>thn h1 fun itv s2 h2=>?_);obtain ⟨it,fp,tn,J,H2,e,I2,T,st2,f2,W,⟨m0,w0⟩,turn⟩:=h2;subst e;refine zHo C hcalm I2 T st2 f2 c1 c2 (p.g _ _ _ _ _) (p.c _ _ _ _ _) (p.e _ _ _ _ _) (RR:=fun acc C r s'=>compPost (model X.prog X.w) X.A X.xe none (fun v s'=>∃ a o es ep tb ks H',v = .ref a /\ s'.heap.get? a = some o /\ SetK (intKind X.prog X.w) o es ep tb ks /\ Inv X zB σ H' s' /\ Q ks H') acc C r s') (QQ:=Q) w0 turn ?_;intro σc H' s' o es ep t ys Ic rv qq;obtain ⟨m,hn,_⟩:=Ic.loc;refine ⟨m,hn,fun h' hs'=>?_⟩;obtain ⟨J',eD⟩:=zJd I2 f2 Ic hs';exact ⟨_,o,es,ep,t,ys,H',rfl,eD,rv,J',qq⟩
end
end L2
namespace ST
open PySem PySem.Spec PyProof.Rows
open Sem (wp)
section
variable {prog:Program} {w:World} {A:Around} {E:Value -> Shared -> Prop} {s:Shared}
variable {K:Type} [DecidableEq K] {knd:KeyKind prog w K}
def zBd (ks:List K):List K:=ks.foldl ins []
theorem zKP (ks:List K) (k:K):zBd (ks ++ [k]) = ins (zBd ks) k:=by unfold zBd; rw [List.foldl_append]; rfl
theorem zRK (ks:List K) (k:K):(ins ks k).length <= ks.length + 1:=by unfold ins; split <;> simp
theorem zFA (ks:List K):(zBd ks).length <= ks.length:=by
 have:∀ (l acc:List K),(l.foldl ins acc).length <= acc.length + l.length:=by
  intro l;induction l with
  | nil=>intro acc; simp
  | cons x r ih=>intro acc; have:=ih (ins acc x); have:=zRK acc x; simp only [List.foldl_cons,zVV]; omega
 simpa [zBd] using this ks []
theorem zQ6 (ks:List K) (k x:K):x ∈ ins ks k ↔ x ∈ ks \/ x = k:=by
 unfold ins;split
 ·rename_i h; constructor
  ·exact .inl
  ·rintro (z | z)
   ·exact z
   ·rw [z]; exact h
 ·simp
theorem zL5 (ks:List K) (x:K):x ∈ zBd ks ↔ x ∈ ks:=by
  have:∀ (l acc:List K),x ∈ l.foldl ins acc ↔ x ∈ acc \/ x ∈ l:=by
    intro l;induction l with
    | nil=>intro acc; simp
    | cons y r ih=>intro acc; rw [List.foldl_cons,ih,zQ6,zVA]; simp [or_assoc]
  simpa [zBd] using this ks []
theorem zNc (h : ks.Nodup) (k : K) : (ins ks k).Nodup := by
  unfold ins;split
  · exact h
  · rename_i q
    rw [zWC]
    exact ⟨h, by simp, fun a ha b hb z => by have : b = k := by simpa using hb
                                             subst this; subst z; exact q ha⟩
theorem zJN (ks:List K):(zBd ks).Nodup:=by
 have:∀ (l acc:List K),acc.Nodup -> (l.foldl ins acc).Nodup:=by
  intro l;induction l with
  | nil=>intro acc h; exact h
  | cons y r ih=>intro acc h; exact ih _ (zNc h y)
 exact this ks [] (by simp)
variable {R:Result -> Shared -> Prop} {I:Addr} {fp wr:List Addr} {G:Array GenState -> Array GenState -> Prop} {n:Nat} {P:Nat -> Value -> Prop} {St:Nat -> Shared -> Prop}
end
def zD8 (ks:List Int):List Int:=ks.mergeSort fun a b=>decide (a <= b)
theorem zCJ (ks:List Int):(zD8 ks).Perm ks:=List.mergeSort_perm _ _
theorem zHM (ks:List Int):(zD8 ks).Pairwise (· <= ·):=by
 have:=List.pairwise_mergeSort (le:=fun (a b:Int)=>decide (a <= b)) (fun a b c h1 h2=>by simp at h1 h2 ⊢; omega) (fun a b=>by simp; omega) ks;exact this.imp fun h=>by simpa using h
theorem zI0:∀ {xs ys:List Int},xs.Perm ys -> xs.Pairwise (· <= ·) -> ys.Pairwise (· <= ·) -> xs = ys
 | [],ys,p,_,_=>by have:=p.length_eq; simp at this; rw [zW0.mp this.symm]
 | x :: xs,[],p,_,_=>by have:=p.length_eq; simp at this
 | x :: xs,y :: ys,p,h1,h2=>by
  have hx:=List.pairwise_cons.mp h1;have hy:=List.pairwise_cons.mp h2;have e:x = y:=by
   have a:x ∈ y :: ys:=p.mem_iff.mp zVC;have b:y ∈ x :: xs:=p.mem_iff.mpr zVC;rcases zVA.mp a with z | z
   ·exact z
   ·rcases zVA.mp b with q | q
    ·exact q.symm
    ·exact Int.le_antisymm (hx.1 y q) (hy.1 x z)
  subst e;rw [zI0 (p.cons_inv) hx.2 hy.2]
theorem zKH (p:xs.Perm ys) (h:xs.Pairwise (· <= ·)):xs = zD8 ys:=zI0 (p.trans (zCJ ys).symm) h (zHM ys)
section
variable {prog:Program} {w:World} {A:Around} {E:Value -> Shared -> Prop} {s:Shared}
theorem zML
  (hc:wpAny (model prog w) A.in1 (collect v) (fun vs s1=>∃ ns,IntsAre vs ns /\ vs.length < 64 /\ ∀ (h':Heap) (out:List Value) (n:Nat),(∀ b u,s1.heap.get? b = some u -> h'.get? b = some u) -> h'.get? s1.heap.objs.size = some (seqObj "list" out.toArray n) -> IntsAre out (zD8 ns) -> Q (.ref s1.heap.objs.size) { s1 with heap:=h' }) E s) :
  wpAny (model prog w) A (call (.builtin "sorted") [v]) Q E s:=by
 refine Calls.call_function_entry kind_sorted plain_sorted entry_sorted (args_sorted1 _) ?_;unfold Builtin.«sorted»;refine zUy (m:=checkCount "sorted" 1 1 _) (zU0 ?_);refine zUy (zVU hc (fun vs s1 h1=>?_) fun _ _ h'=>h');obtain ⟨ns,hI,h64,h⟩:=h1;refine zUy (wpAny_newList ?_ (by rw [sizeLine_eq]; omega));have hoL:(s1.heap.push (seqObj "list" vs.toArray 0)).get? s1.heap.objs.size = some (seqObj "list" vs.toArray 0):=zU8 _ rfl;refine zUy (zVr (zVb slot_list_sort ⟨_,hoL,rfl⟩ entry_list_sort (list_sort_tree (s:={ s1 with heap:=s1.heap.push (seqObj "list" vs.toArray 0) }) hoL hI h64 fun out ns' a1 a2 a3=>⟨_,rfl,?_⟩) (args_list_sort _)));refine zU0 ⟨_,rfl,?_⟩;have g1:=get?_update_seq hoL (fun _=> #[]);have g2:(((s1.heap.push (seqObj "list" vs.toArray 0)).update s1.heap.objs.size (Obj.mapSeq fun _=> #[])).push (seqObj "tuple" vs.toArray 0)).get? s1.heap.objs.size = _:=zUz _ g1;have g3:=zUz (seqObj "list" #[] 0) g2;have g4:=get?_update_seq g3 (fun _=>out);have eS:=zKH a2 a3;subst eS;refine h _ out.toList _ (fun b u e=>?_) (by rw [Array.toArray_toList]; exact g4) a1;have hb:s1.heap.objs.size ≠ b:=fun z=>zVg _ (z ▸ zU9 e);exact (zVf _ _ hb).trans (zUz _ (zUz _ ((zVf _ _ hb).trans (zUz _ e))))
theorem zOI (h:F2 (zSW (intKind prog w)) es ks):IntsAre (es.map (·.2)) ks:=by
 induction h with
 | nil=>exact .nil
 | cons h _ ih=>
  obtain ⟨⟨h1,_⟩,_⟩:=h;obtain ⟨t,e⟩:=Value.isInt_shape h1;rw [zVH,e];exact .cons _ _ ih
theorem zNZ (p:us.Perm vs):∀ {ks:List Int},IntsAre vs ks -> ∃ ks',ks'.Perm ks /\ IntsAre us ks':=by
 have p':=p.symm;clear p;induction p' with
 | nil=>intro ks h; exact ⟨ks,.refl _,h⟩
 | cons x _ ih=>
  intro ks h;cases h with
  | cons n t r=>
   obtain ⟨ys',q1,q2⟩:=ih r;exact ⟨_,q1.cons _,.cons _ _ q2⟩
 | swap x y l=>
  intro ks h;cases h with
  | cons n t r=>
   cases r with
   | cons n2 t2 r=>exact ⟨_,List.Perm.swap _ _ _,.cons _ _ (.cons _ _ r)⟩
 | trans _ _ ih1 ih2=>
  intro ks h;obtain ⟨ys',q1,q2⟩:=ih1 h;obtain ⟨ys'',r1,r2⟩:=ih2 q2;exact ⟨ys'',r1.trans q1,r2⟩
theorem zLL (p:xs.Perm ys):zD8 xs = zD8 ys:=zKH ((zCJ xs).trans p) (zHM xs)
theorem zMB (hh:A.handled = none) (ho:s.heap.get? a = some o) (hS:SetK (intKind prog w) o es ep t ks) (h64:ks.length < 64)
  (h:∀ (s1:Shared) (h':Heap) (out:List Value) (n:Nat),(∀ b u,s.heap.get? b = some u -> s1.heap.get? b = some u) -> s1.os = s.os -> s1.gens = s.gens -> (∀ b u,s1.heap.get? b = some u -> h'.get? b = some u) -> h'.get? s1.heap.objs.size = some (seqObj "list" out.toArray n) -> IntsAre out (zD8 ks) -> Q (.ref s1.heap.objs.size) { s1 with heap:=h' }) :
  wpAny (model prog w) A (call (.builtin "sorted") [.ref a]) Q E s:=by
 refine zML (zKd (A:=A.in1) hh ho hS fun s' acc k1 k2 k3 hp=>?_);obtain ⟨ks',p,f⟩:=hS.ent;obtain ⟨ks2,p2,f2⟩:=zNZ hp (zOI f);refine ⟨ks2,f2,?_,fun h' out n e1 e2 e3=>?_⟩
 ·rw [hp.length_eq,zU7,zVh,hS.size]; exact h64
 ·rw [zLL (p2.trans p)] at e3;exact h s' h' out n k1 k2 k3 e1 e2 e3
end
end ST
namespace L2
open PySem PySem.Spec PyProof.Rows ST
section
variable {X:Cx} {e:Expr} {p pos:Pos} {zB:List (Addr × Obj)} {σ:St} {H:Hp} {s:Shared}
theorem Inv.kept' (I:Inv X zB σ H s) (k:∀ b u,s.heap.get? b = some u -> s1.heap.get? b = some u) (ho:s1.os = s.os) (hg:s1.gens = s.gens):Inv X zB σ H s1 :=
 I.call' (ch:=[]) ho (Un.kept k) (I.hok.kept k) (by rw [hg]; exact I.bare) fun b hb=>nomatch hb
theorem zHZ:∀ {ns:List Int} {us:List Value},IntsAre us ns -> zv (ns.map V.int) us
 | _,_,.nil=> .nil
 | _,_,.cons n t h=> .cons ⟨t,rfl⟩ (zHZ h)
theorem zPh (ks:List Int):(zD8 ks).length = ks.length:=(zCJ ks).length_eq
theorem zQJ (hc:X.calm = true) (hg:Gl X "sorted") (hm:X.mg "sorted" = none) (ha:PZ X e t) (hs:starEach [e] X.env = (false,eval e X.env) :: starEach [] X.env:=by rfl) (hpl:(backTo pos (starEach [] X.env)).any (·.1) = false:=by rfl) :
  PE X (.Call (.Name "sorted" p) [e] [] pos) (fun σ H Q=>t σ H fun ks H1=>ks.length < 64 /\ ∀ q,H1 q = none -> Q (.ref q) (upd H1 q (.lst ((zD8 ks).map V.int)))):=by
 intro zB s σ H Q I h;refine wpAny_Call_Name_kw (zGE I hg hm (by rfl) ?_ (by decide) (by decide));refine callWith_builtin1 ?_ hs hpl;rw [hs];show wpAny _ _ (spliced ((false,eval e X.env) :: backTo pos (starEach [] X.env))) _ _ s;refine Calls.spliced_cons (thn (ha zB s σ H _ I h) fun u s1 ⟨a,o,es,ep,tb,ks,H1,hv,ho,hS,I1,h64,q⟩=>Calls.spliced_nil ?_);subst hv;refine zMB (I1.ok.hd hc) ho hS h64 fun s2 h' out n k1 k2 k3 k4 e4 i4=>?_;have I2:Inv X zB σ H1 s2:=I1.kept' k1 k2 k3;have hf:H1 s2.heap.objs.size = none:=I2.hok.fresh (zU4 _);refine ⟨.ref s2.heap.objs.size,upd H1 s2.heap.objs.size (.lst ((zD8 ks).map V.int)),I2.laid (t':=s2.toks) k4 (zU4 _) ⟨by rw [zU7,zPh,sizeLine_eq]; omega,out,n,zHZ i4,e4⟩,rfl,q _ hf⟩
end
end L2
namespace L3
open PySem PySem.Spec PyProof.Rows L2 ST
abbrev FZ:=Sd -> Mem -> Option (List Int × Mem)
def trZ (K:PySem.W.Frag) (f:FZ):TZ:=fun τ H Q=>∃ L σ M ks M',Cor K L M H /\ zBt L H σ τ /\ f σ M = some (ks,M') /\ ∀ L' H',Stp L H L' H' -> Cor K L' M' H' -> Q ks H'
structure QZ (X:Cx) (e:Expr) (f:FZ):Prop where
 un:PZ X e (trZ X.K f)
theorem PZ.imp (h:PZ X e t) (hi:∀ τ H Q,t' τ H Q -> t τ H Q):PZ X e t':=fun zB s σ H Q I q=>h zB s σ H Q I (hi _ _ _ q)
noncomputable def zIY (own:List Nat) (fi:FI) (g:FG) (tc:FT) (te:FE):FZ:=fun σ M=>match zAc own fi g tc te σ M with
 | some (.fl ys,M2)=>match zB9 ys with
  | some ks=>if ks.length + 1 < scanBound then some (zBd ks,M2) else none
  | none=>none
 | _=>none
theorem zHq:∀ {as bs:List D} {zs:List Int},zB9 (as ++ bs) = some zs -> ∃ xs ys,zB9 as = some xs /\ zB9 bs = some ys /\ zs = xs ++ ys
 | [],bs,zs,h=>⟨[],zs,rfl,h,rfl⟩
 | a :: as,bs,zs,h=>by
  cases a with
  | int i=>
   rw [List.cons_append] at h;unfold zB9 at h;split at h
   ·rename_i us e;cases h;obtain ⟨xs,ys,e1,e2,e3⟩:=zHq e;refine ⟨i :: xs,ys,?_,e2,by rw [e3]; rfl⟩;unfold zB9; rw [e1]
   ·cases h
  | _=>cases h
theorem zKW (h:zB9 as = some xs):zB9 (as ++ [.int i]) = some (xs ++ [i]):=by
 induction as generalizing xs with
 | nil=>cases h; rfl
 | cons a as ih=>
  cases a with
  | int j=>
   unfold zB9 at h;split at h
   ·rename_i us e; cases h;rw [List.cons_append]; unfold zB9; rw [ih e]; rfl
   ·cases h
  | _=>cases h
theorem zOH {K:PySem.W.Frag} {own:List Nat} {fi:FI} {g:TG} {fg:FG} {tc:FT} {te:FE} (hg:zF1 own g fg) {τ:Sv} {H:Hp} {Q:List Int -> Hp -> Prop} (h:trZ K (zIY own fi fg tc te) τ H Q):zLF own (trI K fi) g (trT K tc) (trD K (toD te)) τ H Q:=by
 obtain ⟨L,σ,M,d,Mf,c,rs,hf,q⟩:=h;unfold zIY zAc at hf;cases e1:fi σ M with
 | none=>rw [e1] at hf; cases hf
 | some r=>
  obtain ⟨xs,gd,M1⟩:=r;rw [e1] at hf;dsimp only at hf;by_cases hz:xs.length <= sizeLine
  ·rw [zVD hz] at hf;cases e2:zBB fg tc te (zCI own σ) xs gd xs M1 with
   | none=>rw [e2] at hf; cases hf
   | some r=>
    obtain ⟨zs,M2⟩:=r;rw [e2] at hf;dsimp only at hf;split at hf
    ·rename_i kz ez;split at hf
     ·rename_i hb;cases hf;refine ⟨L,σ,M,_,_,_,c,rs,e1,fun L1 H1 J s1 c1 it=>?_⟩
      refine ⟨fun i m ys H'=>m = xs.length - i /\ i <= xs.length /\ ∃ L' M' as bs ka,Stp L1 H1 L' H' /\ Cor K L' M' H' /\ zB9 as = some ka /\ ys = zBd ka /\ zBB fg tc te (zCI own σ) xs gd (xs.drop i) M' = some (bs,Mf) /\ as ++ bs = zs,
       ⟨xs.length,by simp,zVk _,L1,M1,[],zs,[],.refl _ _,c1,rfl,rfl,by simpa using e2,rfl⟩,?_⟩
      rintro i m ys H' ⟨rfl,hi,L',M',as,bs,ka,s',c',r',hl,e',hab⟩;by_cases hlt:i < xs.length
      ·rw [zCp hlt] at e';unfold zBB at e';split at e'
       ·rename_i hgd;obtain ⟨step,_⟩:=it L' H' M' s' c' hgd;obtain ⟨go,yl⟩:=step i xs[i] (zU2 hlt);split at e'
        ·rename_i σ1 eg;refine .inr ⟨go,fun v H2 hy=>?_⟩;obtain ⟨gr,rv⟩:=yl v H2 hy;have s2:Stp L1 H1 L' H2:=s'.yld gr;refine hg (zEu own ((rs.stp s1).stp s2)) (.refl _) rv eg fun τ2 r2 x2=>⟨x2,?_⟩;split at e'
         ·rename_i M3 e3;split at e'
          ·rename_i d M4 e4;split at e'
           ·rename_i ds M5 e5;cases e';refine ⟨L',σ1,M',_,_,c'.grow gr,r2,e3,fun L3 H3 s3 c3=>zGI ?_⟩;refine ⟨L3,σ1,M3,_,_,c3,r2.stp s3,e4,fun L4 H4 w s4 c4 r4=>?_⟩;have st:Stp L' H' L4 H4:=((Stp.grow gr).trans s3).trans s4;have ez':=ez;rw [<- hab] at ez';obtain ⟨x1,y1,g1,g2,g3⟩:=zHq ez';obtain ⟨k,hk⟩:∃ k,d = .int k:=by
             cases d with
             | int k=>exact ⟨k,rfl⟩
             | _=>cases g2
            subst hk;have ew:w = .int k:=by unfold Rep at r4; exact r4
            have hka:ka.length <= kz.length:=by
             rw [r'] at g1; cases g1;rw [g3,zVE]; omega
            refine ⟨k,ew,?_,xs.length - (i + 1),by omega,rfl,hlt,L4,M4,as ++ [.int k],ds,ka ++ [k],s'.trans st,c4,zKW r',by rw [hl,zKP],e5,by rw [<- hab]; simp⟩;rw [hl];have:=zFA ka;omega
           ·cases e'
          ·cases e'
         ·rename_i M3 e3;refine ⟨L',σ1,M',_,_,c'.grow gr,r2,e3,fun L3 H3 s3 c3=>zGP ?_⟩;have st:Stp L' H' L3 H3:=(Stp.grow gr).trans s3;exact ⟨xs.length - (i + 1),by omega,rfl,hlt,L3,M3,as,bs,ka,s'.trans st,c3,r',hl,e',hab⟩
         ·cases e'
        ·cases e'
       ·cases e'
      ·have hi':i = xs.length:=by omega
       subst hi';rw [List.drop_length] at e';unfold zBB at e';split at e'
       ·rename_i hgd;cases e';obtain ⟨_,stop⟩:=it L' H' _ s' c' hgd;rw [zVi] at hab;subst hab;rw [r'] at ez; cases ez;refine .inl ⟨stop,?_⟩;rw [hl];exact q L' H' (s1.trans s') c'
       ·cases e'
     ·cases hf
    ·cases hf
  ·rw [zVG hz] at hf; cases hf
section
variable {X:Cx} {scope:Scope} {tg elt iter:Expr} {ifs:List Expr} {pos p:Pos} {own:List Nat} {e:Expr} {f:FE}
theorem zSD (hg:zF1 own g fg) (C:CompIn X scope own) (hcalm:X.calm = true) (hi:QI X tg iter fi) (p:QParts X scope tg ifs elt g tc te) (hs:∀ x,foldedSetIterable iter X.env x = pure x:=by intro _; rfl) :
  QZ X (.SetComp elt [⟨tg,iter,ifs,0⟩] scope pos) (zIY own fi fg tc te) :=
 .mk <| PZ.imp (zQm C hcalm hi.un p.parts hs) fun _ _ _ h=>zOH hg h
def zHQ (f:FZ):FE:=fun σ M=>match f σ M with
 | some (ks,M1)=>if ks.length < 64 then some (.fl ((zD8 ks).map D.int),M1) else none
 | none=>none
theorem zJA:∀ (ns:List Int),za L H (ns.map D.int) (ns.map V.int)
 | []=> .nil
 | n :: ns=> .cons zAo (zJA ns)
theorem zRl (hc:X.calm = true) (hg:Gl X "sorted") (hm:X.mg "sorted" = none) (h:QZ X e fz) (hs:starEach [e] X.env = (false,eval e X.env) :: starEach [] X.env:=by rfl) (hpl:(backTo pos (starEach [] X.env)).any (·.1) = false:=by rfl) :
  QE X (.Call (.Name "sorted" p) [e] [] pos) (zHQ fz):=.mk <| PE.imp (zQJ hc hg hm h.un hs hpl) fun τ H Q zz=>by
 obtain ⟨L,σ,M,d,M',c,rs,hf,q⟩:=zz;unfold zHQ at hf;split at hf
 ·rename_i ks M1 e1;split at hf
  ·rename_i hb;cases hf;refine ⟨L,σ,M,_,_,c,rs,e1,fun L1 H1 s1 c1=>⟨hb,fun p hp=>?_⟩⟩;exact q L1 _ _ (s1.trans (.upd hp)) (c1.upd hp) (zo.newLst s1 c c1 hp (zJA _))
  ·cases hf
 ·cases hf
end
open AutoSeq1 (wpAny_loadPart')
section
variable {κ:Type} [DecidableEq κ]
def zEx (kf:D -> Option κ) (kvs:List (D × D)) (k:κ):Option D:=(kvs.find? fun p=>decide (kf p.1 = some k)).map (·.2)
def zLC (kf:D -> Option κ) (kvs:List (D × D)) (k:κ) (kd v:D):List (D × D) :=
 if (kvs.any fun p=>decide (kf p.1 = some k)) = true then kvs.map fun p=>if kf p.1 = some k then (p.1,v) else p else kvs ++ [(kd,v)]
theorem zHh (k:κ):∀ {kvs:List (D × D)} {vs:List (κ × V)},zBR kf L H kvs vs -> (zEx kf kvs k = none /\ zEv vs k = none) \/ ∃ d v,zEx kf kvs k = some d /\ zEv vs k = some v /\ Rep L H d v
 | [],vs,h=>by unfold zBR at h; subst h; exact .inl ⟨rfl,rfl⟩
 | p :: r,vs,h=>by
  obtain ⟨k',v,r',rfl,e,h1,h2⟩:=h;by_cases q:k' = k
  ·subst q;exact .inr ⟨p.2,v,by unfold zEx; rw [zWk,e]; simp,by rw [zFh rfl],h1⟩
  ·have e1:zEx kf (p :: r) k = zEx kf r k:=by unfold zEx; rw [zWk,e]; simp [q]
   rw [e1,zFg q];exact zHh k h2
theorem zLA (k:κ):∀ {kvs:List (D × D)} {vs:List (κ × V)},zBR kf L H kvs vs -> (kvs.any fun p=>decide (kf p.1 = some k)) = (vs.any fun kv=>decide (kv.1 = k))
 | [],vs,h=>by unfold zBR at h; subst h; rfl
 | p :: r,vs,h=>by
  obtain ⟨k',v,r',rfl,e,h1,h2⟩:=h;rw [List.any_cons,List.any_cons,zLA k h2,e];simp
theorem zHD (k:κ) (hd:Rep L H d u):∀ {kvs:List (D × D)} {vs:List (κ × V)},zBR kf L H kvs vs -> zBR kf L H (kvs.map fun p=>if kf p.1 = some k then (p.1,d) else p) (vs.map fun kv=>if kv.1 = k then (kv.1,u) else kv)
 | [],vs,h=>by unfold zBR at h; subst h; rfl
 | p :: r,vs,h=>by
  obtain ⟨k',v,r',rfl,e,h1,h2⟩:=h;rw [zVH,zVH];by_cases q:k' = k
  ·subst q;rw [zVD e,zVD rfl];exact ⟨k',u,_,rfl,e,hd,zHD k' hd h2⟩
  ·rw [zVG (by rw [e]; simpa using q),zVG q];exact ⟨k',v,_,rfl,e,h1,zHD k hd h2⟩
theorem zI9 (hk:kf kd = some k) (hd:Rep L H d u):∀ {kvs:List (D × D)} {vs:List (κ × V)},zBR kf L H kvs vs -> zBR kf L H (kvs ++ [(kd,d)]) (vs ++ [(k,u)])
 | [],vs,h=>by unfold zBR at h; subst h; exact ⟨k,u,[],rfl,hk,hd,rfl⟩
 | p :: r,vs,h=>by
  obtain ⟨k',v,r',rfl,e,h1,h2⟩:=h;exact ⟨k',v,_,rfl,e,h1,zI9 hk hd h2⟩
theorem zMY {kf:D -> Option κ} {L:List Addr} {H:Hp} {k:κ} {kd d:D} {u:V} (hk:kf kd = some k) (hd:Rep L H d u) {kvs:List (D × D)} {vs:List (κ × V)} (h:zBR kf L H kvs vs):zBR kf L H (zLC kf kvs k kd d) (zEB vs k u):=by
 unfold zLC zEB;rw [zLA k h];split
 ·exact zHD k hd h
 ·exact zI9 hk hd h
end
theorem zK6:∀ {ds:List D} {vs:List V} {ks:List Key},za L H ds vs -> zE2 ds = some ks -> vs = ks.map kV
 | [],vs,ks,h,e=>by cases e; unfold za at h; exact h
 | d :: ds,vs,ks,h,e=>by
  unfold za at h;obtain ⟨v,r,rfl,h1,h2⟩:=h;unfold zE2 at e;cases e1:zGD d with
  | none=>rw [e1] at e; cases e
  | some k=>
   cases e2:zE2 ds with
   | none=>rw [e1,e2] at e; cases e
   | some ks'=>
    rw [e1,e2] at e; cases e;rw [zJu h1 e1,zK6 h2 e2]; rfl
theorem zP8 (h:Rep L H d v) (e:tkD d = some ks):∃ b,v = .ref b /\ H b = some (.tup (ks.map kV)):=by
 cases d with
 | tup ds=>
  unfold Rep at h;obtain ⟨a,vs,rfl,e1,r⟩:=h;exact ⟨a,rfl,by rw [e1,zK6 r e]⟩
 | _=>cases e
def zGb (M:Mem) (x:EV) (k:D):Option (Option D):=match x with
 | .dat (.ref n)=>match M[n]? with
  | some (.dict kvs)=>match zGD k with
   | some kk=>some (zEx zGD kvs kk)
   | none=>none
  | some (.dicT kvs)=>match tkD k with
   | some kk=>some (zEx tkD kvs kk)
   | none=>none
  | _=>none
 | _=>none
def zUB (L:List Addr) (H:Hp):Option D -> Option V -> Prop
 | none,o=>o = none
 | some d,o=>∃ v,o = some v /\ Rep L H d v
theorem zFl {K:PySem.W.Frag} {L:List Addr} {M:Mem} {H H0:Hp} {x:EV} {v w:V} {k:D} {o:Option D} (c:Cor K L M H) (rx:zo H0 L H x v) (rk:Rep L H k w) (e:zGb M x k = some o):∃ a ov,v = .ref a /\ zDw H a w ov /\ zUB L H o ov:=by
 cases x with
 | fl xs=>cases e
 | dat d=>
  cases d with
  | ref n=>
   unfold zo Rep at rx;obtain ⟨a,rfl,ea⟩:=rx;unfold zGb at e;dsimp only at e;cases q:M[n]? with
   | none=>rw [q] at e; cases e
   | some m=>
    rw [q] at e;have z:=c.obj n a m ea q;cases m with
    | dict kvs=>
     dsimp only at e;cases e2:zGD k with
     | none=>rw [e2] at e; cases e
     | some kk=>
      rw [e2] at e;cases e;obtain ⟨vs,e3,r⟩:=z;refine ⟨a,zEv vs kk,rfl,?_,?_⟩
      ·rw [zJu rk e2]; exact zDw.k e3
      ·rcases zHh kk r with ⟨h1,h2⟩ | ⟨d,v,h1,h2,h3⟩
       ·rw [h1,h2]; rfl
       ·rw [h1,h2]; exact ⟨v,rfl,h3⟩
    | dicT kvs=>
     dsimp only at e;cases e2:tkD k with
     | none=>rw [e2] at e; cases e
     | some kk=>
      rw [e2] at e;cases e;obtain ⟨vs,e3,r⟩:=z;obtain ⟨b,rfl,eb⟩:=zP8 rk e2;refine ⟨a,zEv vs kk,rfl,zDw.t e3 eb,?_⟩;rcases zHh kk r with ⟨h1,h2⟩ | ⟨d,v,h1,h2,h3⟩
      ·rw [h1,h2]; rfl
      ·rw [h1,h2]; exact ⟨v,rfl,h3⟩
    | _=>cases e
  | _=>cases e
def zFv (M:Mem) (n:Nat) (k v:D):Option Mem:=match M[n]? with
 | some (.dict kvs)=>match zGD k with
  | some kk=>if kvs.length < sizeLine then some (M.set n (.dict (zLC zGD kvs kk k v))) else none
  | none=>none
 | some (.dicT kvs)=>match tkD k with
  | some kk=>if kvs.length < sizeLine then some (M.set n (.dicT (zLC tkD kvs kk k v))) else none
  | none=>none
 | _=>none
theorem zKv {K:PySem.W.Frag} {L:List Addr} {M M':Mem} {H:Hp} {n:Nat} {a:Addr} {k v:D} {w u:V} (c:Cor K L M H) (ea:L[n]? = some a) (rk:Rep L H k w) (rv:Rep L H v u) (e:zFv M n k v = some M'):∃ H',zGl H a w u H' /\ Cor K L M' H' /\ Stp L H L H':=by
 unfold zFv at e;cases q:M[n]? with
 | none=>rw [q] at e; cases e
 | some m=>
  rw [q] at e;have z:=c.obj n a m ea q;cases m with
  | dict kvs=>
   dsimp only at e;cases e2:zGD k with
   | none=>rw [e2] at e; cases e
   | some kk=>
    rw [e2] at e;dsimp only at e;split at e
    ·rename_i hl;cases e;obtain ⟨vs,e3,r⟩:=z;obtain ⟨c3,s3⟩:=c.put (m:=.dict (zLC zGD kvs kk k v)) (o':=.dK (zEB vs kk u)) ea e3 (fun _ z=>by cases z) (fun _ _ z=>by cases z) fun s3=>⟨_,zAh,(zMY e2 rv r).stp s3⟩;refine ⟨_,?_,c3,s3⟩;rw [zJu rk e2]; exact zGl.k e3 (by rw [r.length]; exact hl)
    ·cases e
  | dicT kvs=>
   dsimp only at e;cases e2:tkD k with
   | none=>rw [e2] at e; cases e
   | some kk=>
    rw [e2] at e;dsimp only at e;split at e
    ·rename_i hl;cases e;obtain ⟨vs,e3,r⟩:=z;obtain ⟨b,rfl,eb⟩:=zP8 rk e2;obtain ⟨c3,s3⟩:=c.put (m:=.dicT (zLC tkD kvs kk k v)) (o':=.dT (zEB vs kk u)) ea e3 (fun _ z=>by cases z) (fun _ _ z=>by cases z) fun s3=>⟨_,zAh,(zMY e2 rv r).stp s3⟩;exact ⟨_,zGl.t e3 eb (by rw [r.length]; exact hl),c3,s3⟩
    ·cases e
  | _=>cases e
section
variable {X:Cx} {a b e o i value:Expr} {pos pos' apos cpos:Pos} {f g h:FE}
def zCs:K2:=fun x y M=>match y with
 | .dat k=>match zGb M x k with
  | some (some d)=>some (.dat d,M)
  | _=>none
 | _=>none
theorem zQW {K:PySem.W.Frag}:zB2 K (fun x y H Q=>∃ a v,x = .ref a /\ zDw H a y (some v) /\ Q v H) zCs:=by
 intro L M M' H H0 x y d v w Q c rx ry hk q;unfold zCs at hk;split at hk
 ·rename_i k;split at hk
  ·rename_i d' e1;cases hk;obtain ⟨a,ov,rfl,h1,h2⟩:=zFl c rx ry e1;obtain ⟨u,rfl,r⟩:=h2;exact ⟨a,u,rfl,h1,q L H u (.refl L H) c r⟩
  ·cases hk
 ·cases hk
theorem zPl (hu:X.A.units + 1 < cLine) (h1:QE X o f) (h2:QE X i g) (hs:zTC i:=by intro _ _; rfl):QE X (.Subscript o i pos) (fOp zCs f g):=.mk <| PE.imp (zRG hu h1.un h2.un hs) fun _ _ _ h=>zDK zQW h
def zCC (neg:Bool):K2:=fun x y M=>match x with
  | .dat k=>match zGb M y k with
    | some o=>some (.dat (.bl (if neg then !o.isSome else o.isSome)),M)
    | none=>none
  | _=>none
theorem zKm {o:Option D} {ov:Option V} (h:zUB L H o ov):ov.isSome = o.isSome:=by
  cases o with
  | none => have h' : ov = none := h
            rw [h']; rfl
  | some d=>obtain ⟨v,rfl,_⟩:=h; rfl
theorem zMv {K:PySem.W.Frag}:zB2 K (fun y x H Q=>∃ a o,x = .ref a /\ zDw H a y o /\ Q (.bl o.isSome) H) (zCC false):=by
 intro L M M' H H0 x y d v w Q c rx ry hk q;unfold zCC at hk;split at hk
 ·rename_i k;split at hk
  ·rename_i o e1;cases hk;obtain ⟨a,ov,rfl,h1,h2⟩:=zFl c ry rx e1;refine ⟨a,ov,rfl,h1,?_⟩;rw [zKm h2];exact q L H _ (.refl L H) c (zBS (L:=L) (H:=H))
  ·cases hk
 ·cases hk
theorem zLb {K:PySem.W.Frag}:zB2 K (fun y x H Q=>∃ a o,x = .ref a /\ zDw H a y o /\ Q (.bl (!o.isSome)) H) (zCC true):=by
 intro L M M' H H0 x y d v w Q c rx ry hk q;unfold zCC at hk;split at hk
 ·rename_i k;split at hk
  ·rename_i o e1;cases hk;obtain ⟨a,ov,rfl,h1,h2⟩:=zFl c ry rx e1;refine ⟨a,ov,rfl,h1,?_⟩;rw [zKm h2];exact q L H _ (.refl L H) c (zBS (L:=L) (H:=H))
  ·cases hk
 ·cases hk
theorem zTj (hu:X.A.units + 1 < cLine) (h1:QE X a f) (h2:QE X b g) (hm:behindInMarks .In b = false:=by rfl):QE X (.Compare a [.In] [b] pos) (fOp (zCC false) f g):=.mk <| PE.imp (zTD (zQG hu h1.un h2.un) hm) fun _ _ _ h=>zDK zMv h
theorem zTO (hu:X.A.units + 1 < cLine) (h1:QE X a f) (h2:QE X b g) (hm:behindInMarks .In b = false:=by rfl):QT X (.Compare a [.In] [b] pos) (tst (fOp (zCC false) f g)):=.mk <| PT.imp (zPi (zQG hu h1.un h2.un) hm) fun _ _ _ h=>zE7 (fun _ _ _ z=>zDK zMv z) (zEq h)
theorem zDZ (hu:X.A.units + 1 < cLine) (h1:QE X a f) (h2:QE X b g) (hm:behindInMarks .NotIn b = false:=by rfl):QT X (.Compare a [.NotIn] [b] pos) (tst (fOp (zCC true) f g)):=.mk <| PT.imp (zPi (zNJ hu h1.un h2.un) hm) fun _ _ _ h=>zE7 (fun _ _ _ z=>zDK zLb z) (zEq h)
def zB7 (fv fo fi:FE):FS:=fun σ M=>match toD fv σ M with
 | some (v,M1)=>match toD fo σ M1 with
  | some (.ref n,M2)=>match toD fi σ M2 with
   | some (k,M3)=>match zFv M3 n k v with
    | some M4=>some (.nx,σ,M4)
    | none=>none
   | none=>none
  | _=>none
 | none=>none
theorem zHH (hu:X.A.units + 1 < cLine) (hv:QE X value f) (ho:QE X o g) (hi:QE X i h) (hs:swapsWith value (some (.Subscript o i pos')) pos.line X.env = pure false:=by rfl):QS X (.Assign [.Subscript o i pos'] value pos) (zB7 f g h) :=
 .mk <| PS.imp (zQo hu (zI ho).un (zI hi).un (zI hv).un hs) fun E τ H zz=>by
  obtain ⟨L,σ,M,out,σ',M',c,rs,hf,q⟩:=zz;unfold zB7 at hf;split at hf
  ·rename_i v M1 e1;split at hf
   ·rename_i n M2 e2;split at hf
    ·rename_i k M3 e3;split at hf
     ·rename_i M4 e4;cases hf;refine ⟨L,σ,M,_,_,c,rs,e1,fun L1 H1 u s1 c1 r1=>⟨L1,σ,M1,_,_,c1,rs.stp s1,e2,fun L2 H2 y s2 c2 r2=>⟨L2,σ,M2,_,_,c2,(rs.stp s1).stp s2,e3,fun L3 H3 z s3 c3 r3=>?_⟩⟩⟩;unfold Rep at r2;obtain ⟨a,rfl,ea⟩:=r2;have ea3:L3[n]? = some a:=by obtain ⟨N,hN⟩:=s3.pre; rw [hN]; exact zDD ea
      obtain ⟨H4,h1,h2,h3⟩:=zKv c3 ea3 r3 ((r1.stp s2).stp s3) e4;exact ⟨a,H4,rfl,h1,q L3 H4 (((s1.trans s2).trans s3).trans h3) h2 τ ((((rs.stp s1).stp s2).stp s3).stp h3)⟩
     ·cases hf
    ·cases hf
   ·cases hf
  ·cases hf
def zEO (fo fi fx:FE):FE:=fun σ M=>match toD fo σ M with
 | some (.ref n,M1)=>match M1[n]? with
  | some (.dict _) | some (.dicT _)=>match toD fi σ M1 with
   | some (k,M2)=>match toD fx σ M2 with
    | some (x,M3)=>match zGb M3 (.dat (.ref n)) k with
     | some o=>some (.dat (o.getD x),M3)
     | none=>none
    | none=>none
   | none=>none
  | _=>none
 | _=>none
theorem zRA (hu:X.A.units + 1 < cLine) (ho:QE X o f) (hi:QE X i g) (hx:QE X e h) (m:M2 X o "get" apos i e cpos):QE X (.Call (.Attribute o "get" apos) [i,e] [] cpos) (zEO f g h) :=
 .mk <| PE.imp (zQR hu (zI ho).un (zI hi).un (zI hx).un m) fun τ H Q zz=>by
  obtain ⟨L,σ,M,d,M',c,rs,hf,q⟩:=zz
  have key:∀ n M1,toD f σ M = some (.ref n,M1) -> (∃ kvs,M1[n]? = some (.dict kvs) \/ M1[n]? = some (.dicT kvs)) -> (match toD g σ M1 with
   | some (k,M2)=>match toD h σ M2 with
    | some (x,M3)=>match zGb M3 (.dat (.ref n)) k with
     | some o=>some (EV.dat (o.getD x),M3)
     | none=>none
    | none=>none
   | none=>none) = some (d,M') -> zP6 (trD X.K (toD f)) (trD X.K (toD g)) (trD X.K (toD h)) τ H Q:=by
   intro n M1 e1 hd hf;split at hf
   ·rename_i k M2 e2;split at hf
    ·rename_i x M3 e3;split at hf
     ·rename_i ov e4;cases hf;refine ⟨L,σ,M,_,_,c,rs,e1,fun L1 H1 u s1 c1 r1=>?_⟩;unfold Rep at r1;obtain ⟨a,rfl,ea⟩:=r1;refine ⟨a,rfl,?_,L1,σ,M1,_,_,c1,rs.stp s1,e2,fun L2 H2 y s2 c2 r2=>⟨L2,σ,M2,_,_,c2,(rs.stp s1).stp s2,e3,fun L3 H3 z s3 c3 r3=>?_⟩⟩
      ·obtain ⟨kvs,hk | hk⟩:=hd
       ·obtain ⟨vs,e5,_⟩:=c1.obj n a _ ea hk; exact .inl ⟨vs,.inl e5⟩
       ·obtain ⟨vs,e5,_⟩:=c1.obj n a _ ea hk; exact .inr ⟨vs,.inl e5⟩
      ·have ra:zo H L3 H3 (.dat (.ref n)) (.ref a):=by
        unfold zo Rep;exact ⟨a,rfl,by obtain ⟨N,hN⟩:=(s2.trans s3).pre; rw [hN]; exact zDD ea⟩
       obtain ⟨a',o',e6,h1,h2⟩:=zFl c3 ra (r2.stp s3) e4;cases e6;refine ⟨o',h1,?_⟩;cases ov with
       | none=>
        have h':o' = none:=h2;subst h';exact q L3 H3 _ ((s1.trans s2).trans s3) c3 r3
       | some dd=>
        obtain ⟨v,rfl,rv⟩:=h2;exact q L3 H3 _ ((s1.trans s2).trans s3) c3 rv
     ·cases hf
    ·cases hf
   ·cases hf
  unfold zEO at hf;split at hf
  ·rename_i n M1 e1;split at hf
   ·rename_i kvs e5; exact key n M1 e1 ⟨kvs,.inl e5⟩ hf
   ·rename_i kvs e5; exact key n M1 e1 ⟨kvs,.inr e5⟩ hf
   ·cases hf
  ·cases hf
end
end L3
namespace L2
open PySem PySem.Spec PyProof.Rows
section
variable {prog:Program} {w:World} {A:Around} {R:Result -> Shared -> Prop} {s:Shared}
theorem zDh {kx vx target iter ifs rest scope pos it acc env}
  (h0:codeAny (model prog w) A (.compLoop (.DictComp kx vx (⟨target,iter,ifs,0⟩ :: rest) scope pos) 0 it acc env) R s)
  (h:wpAny (model prog w) A (pyIter it) (fun it' s'=>codeAny (model prog w) A (.compLoop (.DictComp kx vx (⟨target,iter,ifs,0⟩ :: rest) scope pos) 0 it' acc env) R s')
   (notedBy (model prog w) A env fun x s'=>R (.error x) s') s) :
  codeAny (model prog w) A (.compStart (.DictComp kx vx (⟨target,iter,ifs,0⟩ :: rest) scope pos) 0 it acc env) R s:=by
 refine codeAny_of_tree ?_;show wpAny _ _ ((compStart (.DictComp kx vx (⟨target,iter,ifs,0⟩ :: rest) scope pos) 0 it acc env).onRaise (fun x=>do noteFrame x env; standAt theWindowsPlace)) _ _ s;refine wpAny_notedAt ?_;unfold compStart;show wpAny _ _ (ask >>= _) _ _ s;refine zUy (wpAny_askSetting (wpAny_ite ?_));split
 ·first
   | exact zUy (zU0 (zU0 (And.intro rfl h0)))
   | exact zU0 (And.intro rfl h0)
 ·first
   | exact zUy (zWL (zUy (zVw (zUy (zVU h (fun it' s' h'=>zU0 (And.intro rfl h')) fun _ _ x=>x)))))
   | (refine zUy (zWL ?_); show wpAny _ _ (standAt iter.pos >>= _) _ _ s; exact zUy (zVw (zUy (zVU h (fun it' s' h'=>zU0 (And.intro rfl h')) fun _ _ x=>x))))
end
section
variable {X:Cx} {zB:List (Addr × Obj)} {σ:St} {H:Hp} {s:Shared}
theorem Inv.trackAt (I:Inv X zB σ H s) (ho:s.heap.get? D = some o) (hn:H D = none) (h0:X.s₀.heap.objs.size <= D) (hL:D ≠ X.env.locals) (hc:∀ x c,X.env.cells.lookup x = some c -> c ≠ D) (hp:∀ p ∈ X.pn ++ zB,p.1 ≠ D)
  (new:zAV X.prog X.w (upd H D u) s.heap D u):Inv X zB σ (upd H D u) s:=by
 have un:∀ b v,H b = some v -> upd H D u b = some v:=fun b v e=>by rw [zm (zAf e hn)]; exact e
 have e0:s = { s with heap:=s.heap,gens:=s.gens,drawn:=s.drawn,toks:=s.toks }:=by cases s; rfl
 rw [e0];refine I.step (g':=s.gens) (d':=s.drawn) (ch:=[D]) (fun b hb=>?_) (fun b v _ _ _ e _=>e) (fun b v _ _ _ e _=>⟨v.slots,e⟩) (fun b v hb e n=>?_) (fun b v _ e=>⟨v,e⟩) (fun b xs e=>un b _ e) (fun b p v e=>un b _ e) (fun b ps e=>⟨#[],by rw [un b _ e]; simp⟩) (fun m hm=>hm) (fun b v e=>?_) I.bare
 ·have:b = D:=by simpa using hb
  subst this;exact ⟨.inr h0,hL,hc,hp⟩
 ·rw [zm (fun z=>hb (by simp [z]))]; exact n
 ·by_cases hb:b = D
  ·subst hb; rw [zAh] at e; cases e; exact new
  ·rw [zm hb] at e;exact (I.hok b v e).stay (fun c v hc q=>q) (fun c q=>un c _ q) fun c xs q=>un c _ q
theorem zNA (hu:A.units + 1 < cLine) (I:Inv X zB σ H s) (g:zGl H a y v H') (ry:zAF y u) (rv:zAF v r) (h:∀ s',Inv X zB σ H' s' -> Heap.SameBut a s.heap s'.heap -> Q () s') :
  wpAny (model X.prog X.w) A (dictSet a u r) Q E s:=by
 rcases g with ⟨kvs,k,e,ey,l,eH⟩ | ⟨kvs,k,b,e,ey,eb,l,eH⟩
 ·subst ey eH;obtain ⟨z,hd,vs,rel,dd⟩:=zRy I.hok e;have hz:vs.length <= sizeLine:=by rw [<- rel.length]; exact z
  have hl:(zEB kvs k v).length <= sizeLine:=by have:=zC9 kvs k v; omega
  refine wpAny_dictSet_pairs (hsz:=hz) (zHt ry) dd fun h' dd' hs=>h _ ?_ hs;have he:∃ q,h'.get? a = some q:=let ⟨q,_,_,hq,_⟩:=dd'; ⟨q,hq⟩;exact zGr I (by rw [e]; exact True.intro) hs he (zO3 hl hd (rel.put k rv) dd')
 ·subst ey eH;cases (show u = Value.ref b from ry);obtain ⟨z,hd,xs,rel,dd⟩:=zR3 I.hok e;have hz:xs.length <= sizeLine:=by rw [<- Paired.length rel]; exact z
  have hl:(zEB kvs k v).length <= sizeLine:=by have:=zC9 kvs k v; omega
  refine wpAny_dictSet_heap (hsz:=hz) (show (tupleKind (zAn X.prog X.w)).room A from Nat.lt_of_succ_lt hu) (zE3 I.hok eb) dd fun h' dd' hs=>h _ ?_ hs;obtain ⟨q,es,ep,hq,h2,h3,h4,_,h5⟩:=dd';refine zGr I (by rw [e]; exact True.intro) hs ⟨q,hq⟩ ⟨hl,hd,_,(rel.put k eb rv).keeps fun c ys ec=>?_,q,es,ep,hq,h2,h3,h4,h5⟩;rw [zm (zIf ec e (fun z=>nomatch z))];exact ec
end
def zFG (isT:Bool):HO:=if isT then .dT [] else .dK []
abbrev zCk:Obj:={ cls:=.type "dict", data:=.dict #[] }
section
variable {X:Cx} {zB:List (Addr × Obj)} {σ:St} {H:Hp} {s:Shared} {scope:Scope} {cl:List (Str × Addr)} {fp:List Addr} {it:Addr} {tn:Nat -> Heap -> Prop} {J:It} {tg kx vx iter:Expr} {ifs:List Expr} {pos:Pos}
 {own:List Nat} {g:TG} {tc:TT} {tk tv:TE} {E:Value -> Shared -> Prop} {isT:Bool}
theorem zEA (hu:X.A.units + 1 < cLine) (C:CompIn X scope own) (hcalm:X.calm = true) (I:Inv X zB σ H s) (T:Turn X.prog X.w X.K tg J fp it tn) (st:tn 0 s.heap) (hf:∀ b ∈ fp,zC5 X zB H b)
  (c1:∀ x c,cl.lookup x = some c -> X.env.cells.lookup x = some c) (c2:∀ y ∈ scope.names,y.2 = .free -> (cl.lookup y.1).isSome = true)
  (hg:PG (zS X zB scope cl s H fp) tg g) (hi:zGm (zS X zB scope cl s H fp) ifs tc) (hk:PE (zS X zB scope cl s H fp) kx tk) (hv:PE (zS X zB scope cl s H fp) vx tv)
  {RR:Value -> Addr -> Result -> Shared -> Prop} {QQ:Hp -> Prop} {W:Nat -> Nat -> Hp -> Prop} {m0:Nat} (w0:W 0 m0 (upd H s.heap.objs.size (zFG isT)))
  (turn:∀ i m H,W i m H -> (J.stop i H /\ QQ H) \/
   (J.go i H /\ ∀ x H',J.yld i H x H' -> g x (clr own σ) H' fun σ2 H2=>Ext (clr own σ) σ2 /\ tc σ2 H2 fun b H3=>
    if b = true then tk σ2 H3 fun k H4=>tv σ2 H4 fun v H5=>∃ H6 m',zGl H5 s.heap.objs.size k v H6 /\ m' < m /\ W (i + 1) m' H6 else ∃ m',m' < m /\ W (i + 1) m' H3))
  (fin:∀ σc H' s',Inv (zS X zB scope cl s H fp) [] σc H' s' -> QQ H' -> RR (.ref s.heap.objs.size) (s.heap.objs.size + 1) (.ok .next) s') :
  wpAny (model X.prog X.w) X.A newDict (fun acc s₃=>wpAny (model X.prog X.w) X.A (newFunctionEnv scope X.env.globals cl [] X.env.qual none .none (some X.env)) (fun cenv s₄=>
   codeAny (model X.prog X.w) X.A (.compStart (.DictComp kx vx [⟨tg,iter,ifs,0⟩] scope pos) 0 (.ref it) acc { cenv with scope:=relabel scope X.env }) (RR acc cenv.locals) s₄) E s₃) E s:=by
 have ob:∀ b:Nat,b ∈ fp -> b < s.heap.objs.size:=fun b hb=>let ⟨_,e,_⟩:=T.obj 0 _ st b hb; zU9 e;show wpAny _ _ (newObj (.type "dict") (.dict #[])) _ _ _;refine zVR (zDL ?_);have sz1:(s.heap.push zCk).objs.size = s.heap.objs.size + 1:=zVe ..;have I4:=zFq (X:=X) (zB:=zB) (σ:=σ) (σc:=clr own σ) (H:=H) (s:=s) (scope:=scope) (cl:=cl) (fp:=fp) C.sc I hf ob c1 c2 (zBk own σ) (fun i x v h1 h2 h3=>by
  obtain ⟨a,b⟩:=zDA own σ i v h2;rcases C.nm i x h1 with z | z | z
  ·exact absurd z b
  ·exact absurd (zCm x z) h3
  ·exact ⟨z,a⟩) zCk (by intro v z; cases z) rfl rfl
 have st4:tn 0 (pushCells ((s.heap.push zCk).push { cls:=.type "dict", data:=.dict #[] }) scope.names):=T.keep 0 _ _ st fun b _ o e=>pushCells_keeps _ _ b o (zUz _ (zUz _ e));dsimp only;unfold newEnv;dsimp only;rw [sz1];have hDfp:s.heap.objs.size ∉ fp:=fun z=>zVg _ (ob _ z);obtain ⟨pD,nD,neD,nfD,dD⟩:=I4.pin (s.heap.objs.size,zCk) (by simp);have hcD:∀ x c,(zS X zB scope cl s H fp).env.cells.lookup x = some c -> c ≠ s.heap.objs.size:=fun x c e z=>by
  obtain ⟨v,o,ho,hd⟩:=I4.cell x c e;rw [z,pD] at ho;cases ho; cases hd
 have hpn:∀ p ∈ (zS X zB scope cl s H fp).pn ++ [],p.1 ≠ s.heap.objs.size:=fun p hp=>by
  rw [zVi] at hp;have hp':p ∈ X.pn ++ zB:=hp;exact zVJ (zU9 (I.pin p hp').1)
 have big:sysModules < s.heap.objs.size:=I.big;have hsm:(s.heap.objs.size == sysModules) = false:=by rw [beq_eq_false_iff_ne]; exact Nat.ne_of_gt big
 have I5:Inv (zS X zB scope cl s H fp) [] (clr own σ) (upd H s.heap.objs.size (zFG isT)) { s with heap:=pushCells ((s.heap.push zCk).push { cls:=.type "dict", data:=.dict #[] }) scope.names }:=by
  have I4':Inv (zS X zB scope cl s H fp) [] (clr own σ) H { s with heap:=pushCells ((s.heap.push zCk).push { cls:=.type "dict", data:=.dict #[] }) scope.names }:=I4.pins_of fun p hp=>nomatch hp;refine I4'.trackAt pD nD (zU4 _) neD hcD hpn ?_;cases isT with
  | false=>exact ⟨zVk _,hsm,[],.nil,zCk,#[],0,pD,⟨rfl,rfl,rfl⟩,rfl,fun _ he=>by simp at he,.nil,List.nodup_nil⟩
  | true=>exact ⟨zVk _,hsm,[],.nil,zCk,#[],0,pD,⟨rfl,rfl,rfl⟩,rfl,rfl,List.nodup_nil⟩
 have fpk:∀ {H':Hp},(∀ b ∈ fp,H' b = none) -> ∀ b ∈ fp,zC5 (zS X zB scope cl s H fp) [] H' b:=fun {H'} hn b hb=>
  ⟨hn b hb,(I4.ok.exf b hb).1,I4.ok.exfs b hb,.inl hb,(I4.ok.exf b hb).2,fun p hq=>by
   rw [zVi] at hq;exact (hf b hb).2.2.2.2.2 p hq⟩
 have loop:codeAny (model X.prog X.w) X.A (.compLoop (.DictComp kx vx [⟨tg,iter,ifs,0⟩] scope pos) 0 (.ref it) (.ref s.heap.objs.size) (zS X zB scope cl s H fp).env) (RR (.ref s.heap.objs.size) (s.heap.objs.size + 1))
   { s with heap:=pushCells ((s.heap.push zCk).push { cls:=.type "dict", data:=.dict #[] }) scope.names }:=by
  refine zIP (fun n s'=>∃ i H',Inv (zS X zB scope cl s H fp) [] (clr own σ) H' s' /\ tn i s'.heap /\ (∀ b ∈ fp,H' b = none) /\ W i n H') ?_ m0
   ⟨0,_,I5,st4,fun b hb=>by rw [zm (show b ≠ s.heap.objs.size from fun z=>hDfp (by rw [<- z]; exact hb))]; exact (hf b hb).1,w0⟩
  rintro n s5 ⟨i,H5,J5,st5,f5,w5⟩;rcases turn i n H5 w5 with ⟨stop,qq⟩ | ⟨go,step⟩
  ·refine thn (T.done (zS X zB scope cl s H fp) rfl rfl rfl hcalm i _ s5 _ H5 _ J5 (fpk f5) st5 stop) fun r s6 ⟨hr,I6⟩=>?_;subst hr;exact fin _ H5 s6 I6 qq
  ·refine thn (T.item (zS X zB scope cl s H fp) rfl rfl rfl hcalm i _ s5 _ H5 _ J5 (fpk f5) st5 go) fun r s6 ⟨u,hr,h6⟩=>?_;subst hr;refine thn h6 fun _ s7 ⟨x,H7,I7,r7,y7,st7,f7⟩=>?_;have I7':=I7.pinned (fpk f7) (T.obj _ _ st7);refine thn (hg _ s7 _ H7 x u _ I7' r7 (step x H7 y7)) fun _ s8 ⟨σ8,H8,I8,x8,q8⟩=>?_;refine thn (hi _ s8 σ8 H8 _ I8 q8) fun ok s9 ⟨H9,I9,q9⟩=>?_;have back:∀ {s':Shared} {Hx:Hp},Inv (zS X zB scope cl s H fp) ([] ++ zDV fp s7.heap) σ8 Hx s' -> tn (i + 1) s'.heap /\ ∀ b ∈ fp,Hx b = none:=fun {s' Hx} Ix=>
    ⟨T.keep _ _ _ st7 fun b hb o e=>(Ix.pin (b,o) (zVI _ (zVI _ (zAg hb e)))).1,fun b hb=>by
     obtain ⟨o,e,d⟩:=T.obj _ _ st7 b hb;exact (Ix.pin (b,o) (zVI _ (zVI _ (zAg hb e)))).2.1⟩
   cases ok with
   | false=>
    obtain ⟨m',hm,w'⟩:=q9;obtain ⟨b1,b2⟩:=back I9;exact ⟨m',hm,i + 1,H9,(I9.weak (by rw [x8.1]) x8.2).unpinned,b1,b2,w'⟩
   | true=>
    refine thn (hk _ s9 σ8 H9 _ I9 q9) fun kv s10 ⟨y,H10,I10,r10,q10⟩=>?_;refine thn (hv _ s10 σ8 H10 _ I10 q10) fun vv s11 ⟨z,H11,I11,r11,H12,m',hp,hm,w'⟩=>?_;refine zNA (X:=zS X zB scope cl s H fp) hu I11 hp r10 r11 fun s12 I12 hs=>?_;obtain ⟨b1,b2⟩:=back I12;exact ⟨m',hm,i + 1,H12,(I12.weak (by rw [x8.1]) x8.2).unpinned,b1,b2,w'⟩
 exact zDh loop (T.self _ 0 _ _ _ st4 loop)
theorem zEz (I:Inv X zB σ H s) (hf:∀ b ∈ fp,zC5 X zB H b)
  (Ic:Inv (zS X zB scope cl s H fp) [] σc H' s') (hs:Heap.SameBut (s.heap.objs.size + 1) s'.heap h'):Inv X zB σ H' { s' with heap:=h' }:=by
 have nC:H' (s.heap.objs.size + 1) = none:=Ic.free;have lt1:∀ {b:Addr} {o:Obj},s.heap.get? b = some o -> b ≠ s.heap.objs.size + 1:=fun e=>zVJ (zVn (zU9 e));have tr:∀ b u,H' b = some u -> b ≠ s.heap.objs.size + 1:=fun b u e z=>by rw [z,nC] at e; cases e
 have B:=Ic.base;have un:Un (frs X.stack) fp H H' s.heap h':=by
  refine ⟨fun b o e q hb hx=>hs.extBut b o (lt1 e) (B.keep b o e q hb hx),fun b o e q hb hx=>?_,fun b o e q hx=>B.free b o e q hx,fun b o e hx=>?_,fun b xs e=>B.tups b xs e,fun b o xs e=>B.frzs b o xs e,fun b ps e=>B.tbls b ps e⟩
  ·obtain ⟨sl,e1⟩:=B.slot b o e q hb hx;exact ⟨sl,hs.extBut b _ (lt1 e) e1⟩
  ·obtain ⟨o',e1⟩:=B.there b o e hx;exact ⟨o',hs.extBut b _ (lt1 e) e1⟩
 have hok:HOk X.prog X.w H' h':=fun b u e=>by
  refine (Ic.hok b u e).stay (fun c v hc q=>hs.extBut c v ?_ q) (fun c q=>q) fun c xs q=>q;rcases hc with z | z
  ·rw [z]; exact tr b u e
  ·exact tr c _ z
 exact I.call' (s':={ s' with heap:=h' }) (ch:=fp) Ic.os un hok Ic.bare fun b hb=>⟨(hf b hb).2.2.2.1,(hf b hb).2.1,(hf b hb).2.2.2.2.1,(hf b hb).2.2.2.2.2⟩
end
def zGM (isT:Bool) (own:List Nat) (wi:TI) (g:TG) (tc:TT) (tk tv:TE):TE:=fun σ H Q=>wi σ H fun J H1=>∀ D,H1 D = none -> ∃ W:Nat -> Nat -> Hp -> Prop,(∃ m,W 0 m (upd H1 D (zFG isT))) /\ ∀ i m H,W i m H ->
 (J.stop i H /\ Q (.ref D) H) \/
 (J.go i H /\ ∀ x H',J.yld i H x H' -> g x (clr own σ) H' fun σ2 H2=>Ext (clr own σ) σ2 /\ tc σ2 H2 fun b H3=>
  if b = true then tk σ2 H3 fun k H4=>tv σ2 H4 fun v H5=>∃ H6 m',zGl H5 D k v H6 /\ m' < m /\ W (i + 1) m' H6 else ∃ m',m' < m /\ W (i + 1) m' H3)
section
variable {X:Cx} {scope:Scope} {tg kx vx iter:Expr} {ifs:List Expr} {pos:Pos} {own:List Nat} {wi:TI} {g:TG} {tc:TT} {tk tv:TE} {isT:Bool}
theorem zKf (hu:X.A.units + 1 < cLine) (C:CompIn X scope own) (hcalm:X.calm = true) (hi:PI X tg iter wi) (p:CompParts X scope tg ifs kx g tc tk) (p2:∀ zB cl s H fp,PE (zS X zB scope cl s H fp) vx tv) (hs:∀ x,foldedSetIterable iter X.env x = pure x:=by intro _; rfl) :
  PE X (.DictComp kx vx [⟨tg,iter,ifs,0⟩] scope pos) (zGM isT own wi g tc tk tv):=by
 intro zB s σ H Q I h;obtain ⟨cl,hcl,c1,c2⟩:=C.sc.closure I;rw [arm_eval_DictComp];refine zWs (use:=none) rfl hs hcl C.sc.kind C.sc.names (thn (hi zB s σ H _ I h) fun v s1 h1=>thn h1 fun itv s2 h2=>?_);obtain ⟨it,fp,tn,J,H2,e,I2,T,st2,f2,hD⟩:=h2;subst e;obtain ⟨W,⟨m0,w0⟩,turn⟩:=hD s2.heap.objs.size (I2.hok.fresh (zU4 _));refine zEA hu C hcalm I2 T st2 f2 c1 c2 (p.g _ _ _ _ _) (p.c _ _ _ _ _) (p.e _ _ _ _ _) (p2 _ _ _ _ _) (RR:=fun acc C r s'=>compPost (model X.prog X.w) X.A X.xe none (EP X zB σ Q) acc C r s') (QQ:=fun H=>Q (.ref s2.heap.objs.size) H) w0 turn ?_;intro σc H' s' Ic qq;obtain ⟨m,hn,_⟩:=Ic.loc;refine ⟨m,hn,fun h' hs'=>?_⟩;exact ⟨.ref s2.heap.objs.size,_,zEz I2 f2 Ic hs',rfl,qq⟩
end
end L2
namespace L3
open PySem PySem.Spec PyProof.Rows L2
def zJH (isT:Bool):MO:=if isT then .dicT [] else .dict []
noncomputable def zDe (g:FG) (tc:FT) (tk tv:FE) (σ:Sd) (n:Nat) (all:List D) (gd:Option (Mem -> Prop)):List D -> Mem -> Option Mem
 | [],M=>open Classical in if zBK gd all M then some M else none
 | x :: r,M=>open Classical in if zBK gd all M then match g x σ with
   | some σ1=>match tc σ1 M with
    | some (true,M1)=>match toD tk σ1 M1 with
     | some (k,M2)=>match toD tv σ1 M2 with
      | some (v,M3)=>match zFv M3 n k v with
       | some M4=>zDe g tc tk tv σ n all gd r M4
       | none=>none
      | none=>none
     | none=>none
    | some (false,M1)=>zDe g tc tk tv σ n all gd r M1
    | none=>none
   | none=>none
  else none
noncomputable def zDX (isT:Bool) (own:List Nat) (fi:FI) (g:FG) (tc:FT) (tk tv:FE):FE:=fun σ M=>match fi σ M with
 | some (xs,gd,M1)=>match zDe g tc tk tv (zCI own σ) M1.length xs gd xs (M1 ++ [zJH isT]) with
  | some M2=>some (.dat (.ref M1.length),M2)
  | none=>none
 | none=>none
theorem zH6 {K:PySem.W.Frag} {isT:Bool} {own:List Nat} {fi:FI} {g:TG} {fg:FG} {tc:FT} {tk tv:FE} (hg:zF1 own g fg) {τ:Sv} {H:Hp} {Q:VK} (h:trE K (zDX isT own fi fg tc tk tv) τ H Q):zGM isT own (trI K fi) g (trT K tc) (trD K (toD tk)) (trD K (toD tv)) τ H Q:=by
 obtain ⟨L,σ,M,d,Mf,c,rs,hf,q⟩:=h;unfold zDX at hf;split at hf
 ·rename_i xs gd M1 e1;split at hf
  ·rename_i M2 e2;cases hf;refine ⟨L,σ,M,_,_,_,c,rs,e1,fun L1 H1 J s1 c1 it p hp=>?_⟩;obtain ⟨c0,s0⟩:Cor K (L1 ++ [p]) (M1 ++ [zJH isT]) (upd H1 p (zFG isT)) /\ Stp L1 H1 (L1 ++ [p]) (upd H1 p (zFG isT)):=by
    cases isT with
    | true=>exact c1.pushO (m:=.dicT []) hp ⟨[],zAh,rfl⟩
    | false=>exact c1.pushO (m:=.dict []) hp ⟨[],zAh,rfl⟩
   have lp0:(L1 ++ [p])[M1.length]? = some p:=by rw [<- c1.len]; simp
   refine ⟨fun i m H'=>m = xs.length - i /\ i <= xs.length /\ ∃ L' M',Stp (L1 ++ [p]) (upd H1 p (zFG isT)) L' H' /\ Cor K L' M' H' /\ zDe fg tc tk tv (zCI own σ) M1.length xs gd (xs.drop i) M' = some Mf,
    ⟨xs.length,by simp,zVk _,_,_,.refl _ _,c0,by simpa using e2⟩,?_⟩
   rintro i m H' ⟨rfl,hi,L',M',s',c',e'⟩;have lp:L'[M1.length]? = some p:=by obtain ⟨N,hN⟩:=s'.pre; rw [hN]; exact zDD lp0
   by_cases hlt:i < xs.length
   ·rw [zCp hlt] at e';unfold zDe at e';split at e'
    ·rename_i hgd;obtain ⟨step,_⟩:=it L' H' M' (s0.trans s') c' hgd;obtain ⟨go,yl⟩:=step i xs[i] (zU2 hlt);split at e'
     ·rename_i σ1 eg;refine .inr ⟨go,fun v H2 hy=>?_⟩;obtain ⟨gr,rv⟩:=yl v H2 hy;have s2:Stp (L1 ++ [p]) (upd H1 p (zFG isT)) L' H2:=s'.yld gr;refine hg (zEu own (((rs.stp s1).stp s0).stp s2)) (.refl _) rv eg fun τ2 r2 x2=>⟨x2,?_⟩;split at e'
      ·rename_i M3 e3;split at e'
       ·rename_i kd M4 e4;split at e'
        ·rename_i vd M5 e5;split at e'
         ·rename_i M6 e6;refine ⟨L',σ1,M',_,_,c'.grow gr,r2,e3,fun L3 H3 s3 c3=>zGI ?_⟩;refine ⟨L3,σ1,M3,_,_,c3,r2.stp s3,e4,fun L4 H4 w s4 c4 r4=>?_⟩;refine ⟨L4,σ1,M4,_,_,c4,(r2.stp s3).stp s4,e5,fun L5 H5 u s5 c5 r5=>?_⟩;have st:Stp L' H' L5 H5:=(((Stp.grow gr).trans s3).trans s4).trans s5;have lp5:L5[M1.length]? = some p:=by obtain ⟨N,hN⟩:=st.pre; rw [hN]; exact zDD lp
          obtain ⟨H6,h1,h2,h3⟩:=zKv c5 lp5 (r4.stp s5) r5 e6;exact ⟨H6,xs.length - (i + 1),h1,by omega,rfl,hlt,L5,M6,(s'.trans st).trans h3,h2,e'⟩
         ·cases e'
        ·cases e'
       ·cases e'
      ·rename_i M3 e3;refine ⟨L',σ1,M',_,_,c'.grow gr,r2,e3,fun L3 H3 s3 c3=>zGP ?_⟩;have st:Stp L' H' L3 H3:=(Stp.grow gr).trans s3;exact ⟨xs.length - (i + 1),by omega,rfl,hlt,L3,M3,s'.trans st,c3,e'⟩
      ·cases e'
     ·cases e'
    ·cases e'
   ·have hi':i = xs.length:=by omega
    subst hi';rw [List.drop_length] at e';unfold zDe at e';split at e'
    ·rename_i hgd;cases e';obtain ⟨_,stop⟩:=it L' H' _ (s0.trans s') c' hgd;refine .inl ⟨stop,?_⟩;refine q L' _ _ ((s1.trans s0).trans s') c' ?_;unfold zo Rep;exact ⟨p,rfl,lp⟩
    ·cases e'
  ·cases hf
 ·cases hf
section
variable {X:Cx} {scope:Scope} {tg kx vx iter:Expr} {ifs:List Expr} {pos:Pos} {own:List Nat} {isT:Bool}
theorem zQ4 {fi:FI} {g:TG} {fg:FG} {tc:FT} {tk tv:FE} (hu:X.A.units + 1 < cLine) (hg:zF1 own g fg) (C:CompIn X scope own) (hcalm:X.calm = true) (hi:QI X tg iter fi) (p:QParts X scope tg ifs kx g tc tk) (p2:∀ zB cl s H fp,QE (zS X zB scope cl s H fp) vx tv) (hs:∀ x,foldedSetIterable iter X.env x = pure x:=by intro _; rfl) :
  QE X (.DictComp kx vx [⟨tg,iter,ifs,0⟩] scope pos) (zDX isT own fi fg tc tk tv) :=
 .mk <| PE.imp (zKf (isT:=isT) hu C hcalm hi.un p.parts (fun _ _ _ _ _=>(zI (p2 _ _ _ _ _)).un) hs) fun _ _ _ h=>zH6 hg h
end
open Builtin
section
variable {X:Cx} {a b o e e2:Expr} {pos p apos cpos:Pos} {f g:FE}
def zKq:KB:=fun xs M=>match xs with
 | [.dat (.int i),.dat (.int j)]=>some (.dat (.int (if j > i then j else i)),M)
 | _=>none
def zKL:KB:=fun xs M=>match xs with
 | [.dat (.int i),.dat (.int j)]=>some (.dat (.int (if j < i then j else i)),M)
 | _=>none
theorem zGX (r:zDB H0 L H [.dat (.int i),.dat (.int j)] vs):vs = [.int i,.int j]:=by
 unfold zDB at r;obtain ⟨v,r1,rfl,a1,a2⟩:=r;unfold zDB at a2;obtain ⟨v2,r2,rfl,b1,b2⟩:=a2;unfold zDB at b2;subst b2;unfold zo Rep at a1 b1;subst a1 b1;rfl
theorem zQK {K:PySem.W.Frag}:zFt K (fun xs H Q=>∃ i j,xs = [.int i,.int j] /\ Q (.int (if j > i then j else i)) H) zKq:=by
 intro L M M' H H0 xs d vs Q c r hk q;unfold zKq at hk;split at hk
 ·rename_i i j;cases hk;exact ⟨i,j,zGX r,q L H _ (.refl L H) c (zAo (L:=L) (H:=H))⟩
 ·cases hk
theorem zO6 {K:PySem.W.Frag}:zFt K (fun xs H Q=>∃ i j,xs = [.int i,.int j] /\ Q (.int (if j < i then j else i)) H) zKL:=by
 intro L M M' H H0 xs d vs Q c r hk q;unfold zKL at hk;split at hk
 ·rename_i i j;cases hk;exact ⟨i,j,zGX r,q L H _ (.refl L H) c (zAo (L:=L) (H:=H))⟩
 ·cases hk
theorem zSx (hcalm:X.calm = true) (hg:Gl X "max") (hm:X.mg "max" = none) (ha:QAE X [e,e2] fa) (he:starEach [e,e2] X.env = (false,eval e X.env) :: starEach [e2] X.env:=by rfl) (hpl:(backTo pos (starEach [e2] X.env)).any (·.1) = false:=by rfl):QE X (.Call (.Name "max" p) [e,e2] [] pos) (fB zKq fa) :=
 zEt zQK (zOK hcalm) (by rfl) hg hm ha (by decide) (by decide) he hpl
theorem zSM (hcalm:X.calm = true) (hg:Gl X "min") (hm:X.mg "min" = none) (ha:QAE X [e,e2] fa) (he:starEach [e,e2] X.env = (false,eval e X.env) :: starEach [e2] X.env:=by rfl) (hpl:(backTo pos (starEach [e2] X.env)).any (·.1) = false:=by rfl):QE X (.Call (.Name "min" p) [e,e2] [] pos) (fB zKL fa) :=
 zEt zO6 (zOO hcalm) (by rfl) hg hm ha (by decide) (by decide) he hpl
def zEp:KM:=fun x ds M=>match x,ds with
 | .dat (.ref n),[.ref m]=>match M[n]?,M[m]? with
  | some (.lst xs),some (.lst ys)=>if xs.length + ys.length <= sizeLine then some (.non,M.set n (.lst (xs ++ ys))) else none
  | _,_=>none
 | _,_=>none
theorem zMJ {K:PySem.W.Frag}:zPz K zMg zEp:=by
 intro L M M' H H0 x ds d v vs Q c rx rd hk q;unfold zEp at hk;split at hk
 ·rename_i n m;split at hk
  ·rename_i xs ys e1 e1';split at hk
   ·rename_i hz;cases hk;unfold zo Rep at rx;obtain ⟨a,rfl,e2⟩:=rx;obtain ⟨ws,e3,r3⟩:=c.obj n a _ e2 e1;obtain ⟨w,rfl,r4⟩:=rd.one;unfold Rep at r4;obtain ⟨b,rfl,e4⟩:=r4;obtain ⟨zs,e5,r5⟩:=c.obj m b _ e4 e1';obtain ⟨c5,s5⟩:=c.write e2 e1 (r3.app r5);exact ⟨a,b,ws,zs,rfl,rfl,e3,e5,by rw [r3.length,r5.length]; exact hz,q L _ _ s5 c5 (by unfold Rep; rfl)⟩
   ·cases hk
  ·cases hk
 ·cases hk
theorem zPS (h:QE X a f) (hg:QA X [e] fg) (hbase:attributeBase a "extend" X.env (eval a X.env) = eval a X.env:=by rfl)
  (hfew:((backTo cpos (starEach [e] X.env)).all (fun x=> !x.1) && (backToKw cpos (keywordEach [] X.env)).all (fun x=>x.1.isSome) && decide ([e].length + ([]:List Keyword).length + (if ([]:List Keyword).isEmpty then 0 else 1) < 30)) = true:=by rfl)
  (hline:(apos.endLine == cpos.line) = true:=by rfl) (hs:starEach [e] X.env = (false,eval e X.env) :: starEach [] X.env:=by rfl) (hplain:(backTo cpos (starEach [] X.env)).any (·.1) = false:=by rfl) :
  QE X (.Call (.Attribute a "extend" apos) [e] [] cpos) (fM zEp f fg) :=
 .mk <| PE.imp (zM5 PySem.F.plainAttrs_list PySem.F.slot_list_extend PySem.F.type_list_extend zNg h.un hg.un hbase hfew hline hs hplain) fun _ _ _ z=>zJT zMJ z
end
end L3
namespace HT
open PySem PySem.Spec PyProof.Rows
end HT
namespace L3
open PySem PySem.Spec PyProof.Rows L2
section
variable {X:Cx} {e tg:Expr} {pos:Pos}
def zPJ (fg:FG) (f:FE):FS:=fun σ M=>match toD f σ M with
 | some (d,M1)=>match fg d σ with
  | some σ1=>some (.nx,σ1,M1)
  | none=>none
 | none=>none
theorem zUP (hk:GOk g fg) (h:QE X e f) (hg:PG X tg g) (hs:swapsWithSole [tg] e pos.line X.env = pure false:=by rfl) (hw:swappedStores [tg] e X.env = pure none:=by rfl)
  (h1:(assignEach [tg] X.env).map (·.2) = [assign tg X.env]:=by rfl):QS X (.Assign [tg] e pos) (zPJ fg f) :=
 .mk <| PS.imp (zPg h.un hg hs hw h1) fun E τ H zz=>by
  obtain ⟨L,σ,M,o,σ',M',c,rs,hf,q⟩:=zz;unfold zPJ at hf;split at hf
  ·rename_i d M1 e1;split at hf
   ·rename_i σ1 e2;cases hf;refine zKu ⟨L,σ,M,_,_,c,rs,e1,fun L1 H1 v s1 c1 r1=>?_⟩;exact hk (rs.stp s1) r1 e2 fun τ' rs'=>q L1 H1 s1 c1 τ' rs'
   ·cases hf
  ·cases hf
variable {σ:Sd} {M:Mem} {P:Out -> Sd -> Mem -> Prop} {fg:FG} {f:FE}
theorem zQq:OkS (zPJ fg f σ M) P ↔ Ok (f σ M) (zH7 fun d M1=>∃ σ1,fg d σ = some σ1 /\ P .nx σ1 M1):=by
 rw [<- zA5];unfold zPJ;constructor
 ·rintro ⟨o,σ',M',e,p⟩;split at e
  ·rename_i d M1 e1;split at e
   ·rename_i σ1 e2;cases e;exact ⟨d,_,e1,_,e2,p⟩
   ·cases e
  ·cases e
 ·rintro ⟨d,M1,e1,σ1,e2,p⟩;refine ⟨.nx,σ1,M1,?_,p⟩;rw [e1]; dsimp only; rw [e2]
end
section
variable {X:Cx} {a e e2 o:Expr} {pos p apos cpos:Pos} {f:FE}
def zOG (f:FE):FT:=fun σ M=>match f σ M with
 | some (x,M1)=>match zBX M1 x with
  | some xs=>some (!xs.isEmpty,M1)
  | none=>none
 | none=>none
theorem zRq (h:QE X a f) (he:∀ whole,isTrue a X.env whole = (do let v <- whole; standAt a.pos; holding [v] (truthy v)):=by intro _; rfl):QT X a (zOG f) :=
 .mk <| PT.imp (zPH h.un he) fun τ H Q zz=>by
  obtain ⟨L,σ,M,d,M',c,rs,hf,q⟩:=zz;unfold zOG at hf;split at hf
  ·rename_i x M1 e1;split at hf
   ·rename_i xs e2;cases hf;refine ⟨L,σ,M,_,_,c,rs,e1,fun L1 H1 v s1 c1 r1=>⟨!xs.isEmpty,?_,q L1 H1 s1 c1⟩⟩;unfold zBX at e2;have emp:∀ {vs:List V},za L1 H1 xs vs -> (!xs.isEmpty) = !vs.isEmpty:=fun {vs} r=>by
     have:=r.length;cases xs <;> cases vs <;> first | rfl | simp at this
    cases t:zD7 x with
    | some ws=>
     rw [t] at e2; cases e2;obtain ⟨l,vs,rfl,e3,r3⟩:=zD4 r1 t;exact .inr (.inl ⟨vs,.of e3,emp r3⟩)
    | none=>
     rw [t] at e2;dsimp only at e2;obtain ⟨l,vs,rfl,e3,r3⟩:=zCi c1 r1 e2;exact .inl ⟨vs,.inl e3,emp r3⟩
   ·cases hf
  ·cases hf
end
section
variable {prog:Program} {w:World} {A:Around} {E:Value -> Shared -> Prop} {s:Shared}
theorem zPK {its:List Value} {i:Int} (e:s.heap.get? l = some { cls:=.type "list", data:=.seq its.toArray n }) (hfit:¬ (!Builtin.List.listFitsIndex i) = true) (h0:¬ (i < 0)) (hz:its.toArray.size <= sizeLine)
  (h:∀ g:Array Value -> Array Value,g its.toArray = (its.take (min i.toNat its.length) ++ [u2] ++ its.drop (min i.toNat its.length)).toArray -> Q .none { s with heap:=s.heap.update l (Obj.mapSeq g),toks:=s.toks }) :
  wpAny (model prog w) A (call (.builtin "list.insert") [.ref l,.int i t,u2]) Q E s:=by
 have hm:=@AutoSeq1.list_insert_list_int_val_1 l its.toArray n i t u2 hfit hz;have h1:s.TypeIs (.ref l) "list" := ⟨_,e,rfl⟩;refine call_meets (B:=Builtin.«list.insert») (self:=.ref l) (rest:=[.int i t,u2]) F.slot_list_insert h1 F.entry_list_insert (F.args_list_insert_3 _ _ _) hm ⟨e,?_⟩;refine h _ ?_;simp only [h0,if_false,zU6];simp;exact List.take_of_length_le (by simp)
end
section
variable {X:Cx} {a o x1 x2:Expr} {pos p apos cpos:Pos} {f:FE}
def zM0:V -> List V -> Hp -> VK -> Prop:=fun x vs H Q=>∃ (l:Addr) (i:Int) (y:V) (xs:List V),x = .ref l /\ vs = [.int i,y] /\ H l = some (.lst xs) /\ 0 <= i /\ i.toNat <= xs.length /\ xs.length < sizeLine /\ Q .non (upd H l (.lst (xs.take i.toNat ++ [y] ++ xs.drop i.toNat)))
theorem zNt:MtM X "list.insert" zM0:=by
 intro zB s σ H x vs v us Q I rx rv h;obtain ⟨l,i,y,xs,rfl,rfl,hH,h0,hi,hz,q⟩:=h;cases rx;obtain ⟨u,u2,rfl,⟨t,rfl⟩,ru2⟩:=rv.two;obtain ⟨z,its,n,r,hl,e⟩:=I.lstM hH;have hs:(sizeLine:Nat) < 2 ^ 62:=by decide
 have hi1 : -(2 ^ 63) <= i:=by omega
 have hi2:i < 2 ^ 63:=by omega
 refine zPK (its:=its) e (by rw [fitsIndex_both hi1 hi2]; exact zVK) (by omega) (by rw [zU6,<- hl]; exact Nat.le_of_lt hz) fun g hg=>?_;rw [Nat.min_eq_left (by omega)] at hg;exact ⟨.non,_,I.lset (its':=its.take i.toNat ++ [u2] ++ its.drop i.toNat) (ys:=xs.take i.toNat ++ [y] ++ xs.drop i.toNat) hH e hg (((r.take i.toNat).append (.cons ru2 .nil)).append (r.drop i.toNat)) (by simp; omega),rfl,q⟩
def zEs:KM:=fun x ds M=>match x,ds with
 | .dat (.ref n),[.int i,d]=>match M[n]? with
  | some (.lst xs)=>if 0 <= i /\ i.toNat <= xs.length /\ xs.length < sizeLine then some (.non,M.set n (.lst (xs.take i.toNat ++ [d] ++ xs.drop i.toNat))) else none
  | _=>none
 | _,_=>none
theorem zIt:∀ (k:Nat) {ds:List D} {vs:List V},za L H ds vs -> za L H (ds.take k) (vs.take k)
 | 0,_,_,_=> .nil
 | k + 1,[],vs,h=>by unfold za at h; subst h; exact .nil
 | k + 1,d :: ds,vs,h=>by
  unfold za at h;obtain ⟨v,r,rfl,h1,h2⟩:=h;exact .cons h1 (zIt k h2)
theorem zIZ:∀ (k:Nat) {ds:List D} {vs:List V},za L H ds vs -> za L H (ds.drop k) (vs.drop k)
 | 0,_,_,h=>h
 | k + 1,[],vs,h=>by unfold za at h; subst h; exact .nil
 | k + 1,d :: ds,vs,h=>by
  unfold za at h;obtain ⟨v,r,rfl,h1,h2⟩:=h;exact zIZ k h2
theorem zLv {K:PySem.W.Frag}:zPz K zM0 zEs:=by
 intro L M M' H H0 x ds d v vs Q c rx rd hk q;unfold zEs at hk;split at hk
 ·rename_i n i d';split at hk
  ·rename_i xs e1;split at hk
   ·rename_i hz;cases hk;unfold zo Rep at rx;obtain ⟨a,rfl,e2⟩:=rx;obtain ⟨ws,e3,r3⟩:=c.obj n a _ e2 e1;obtain ⟨w1,w2,rfl,r4,r5⟩:=rd.two;have hw:w1 = .int i:=by unfold Rep at r4; exact r4
    subst hw;obtain ⟨c5,s5⟩:=c.write e2 e1 (((zIt i.toNat r3).app (.cons r5 .nil)).app (zIZ i.toNat r3));exact ⟨a,i,w2,ws,rfl,rfl,e3,hz.1,by rw [r3.length]; exact hz.2.1,by rw [r3.length]; exact hz.2.2,q L _ _ s5 c5 (by unfold Rep; rfl)⟩
   ·cases hk
  ·cases hk
 ·cases hk
theorem zPk (h:QE X a f) (hg:QA X [x1,x2] fg) (hbase:attributeBase a "insert" X.env (eval a X.env) = eval a X.env:=by rfl)
  (hfew:((backTo cpos (starEach [x1,x2] X.env)).all (fun x=> !x.1) && (backToKw cpos (keywordEach [] X.env)).all (fun x=>x.1.isSome) && decide ([x1,x2].length + ([]:List Keyword).length + (if ([]:List Keyword).isEmpty then 0 else 1) < 30)) = true:=by rfl)
  (hline:(apos.endLine == cpos.line) = true:=by rfl) (hs:starEach [x1,x2] X.env = (false,eval x1 X.env) :: starEach [x2] X.env:=by rfl) (hplain:(backTo cpos (starEach [x2] X.env)).any (·.1) = false:=by rfl) :
  QE X (.Call (.Attribute a "insert" apos) [x1,x2] [] cpos) (fM zEs f fg) :=
 .mk <| PE.imp (zM5 PySem.F.plainAttrs_list PySem.F.slot_list_insert PySem.F.type_list_insert zNt h.un hg.un hbase hfew hline hs hplain) fun _ _ _ z=>zJT zLv z
end
noncomputable def zJv (fg:FG) (tc:FT) (fi2:FI) (own2:List Nat) (fg2:FG) (tc2:FT) (te:FE) (σ:Sd) (all:List D) (gd:Option (Mem -> Prop)):List D -> List D -> Mem -> Option (List D × Mem)
 | [],acc,M=>open Classical in if zBK gd all M then some (acc,M) else none
 | x :: r,acc,M=>open Classical in if zBK gd all M then match fg x σ with
   | some σ1=>match tc σ1 M with
    | some (true,M1)=>match fi2 σ1 M1 with
     | some (ys,gd2,M2)=>if acc.length + ys.length <= sizeLine then match zBB fg2 tc2 te (zCI own2 σ1) ys gd2 ys M2 with
       | some (ds,M3)=>zJv fg tc fi2 own2 fg2 tc2 te σ all gd r (acc ++ ds) M3
       | none=>none
      else none
     | none=>none
    | some (false,M1)=>zJv fg tc fi2 own2 fg2 tc2 te σ all gd r acc M1
    | none=>none
   | none=>none
  else none
noncomputable def zE4 (own own2:List Nat) (fi:FI) (fg:FG) (tc:FT) (fi2:FI) (fg2:FG) (tc2:FT) (te:FE):FE:=fun σ M=>match fi σ M with
 | some (xs,gd,M1)=>match zJv fg tc fi2 own2 fg2 tc2 te (zCI own σ) xs gd xs [] M1 with
  | some (ys,M2)=>some (.fl ys,M2)
  | none=>none
 | none=>none
theorem zLt {K:PySem.W.Frag} {own own2:List Nat} {fi fi2:FI} {g g2:TG} {fg fg2:FG} {tc tc2:FT} {te:FE} (hg:zF1 own g fg) (hg2:zF1 own2 g2 fg2) {τ:Sv} {H:Hp} {Q:VK} (h:trE K (zE4 own own2 fi fg tc fi2 fg2 tc2 te) τ H Q) :
  zPr own own2 (trI K fi) g (trT K tc) (trI K fi2) g2 (trT K tc2) (trD K (toD te)) τ H Q:=by
 obtain ⟨L,σ,M,d,Mf,c,rs,hf,q⟩:=h;unfold zE4 at hf;split at hf
 ·rename_i xs gd M1 e1;split at hf
  ·rename_i zs M2 e2;cases hf;refine ⟨L,σ,M,_,_,_,c,rs,e1,fun L1 H1 J s1 c1 it=>?_⟩
   refine ⟨fun i m ys H'=>m = xs.length - i /\ i <= xs.length /\ ∃ L' M' as,Stp L1 H1 L' H' /\ Cor K L' M' H' /\ za L' H' as ys /\ as.length <= sizeLine /\ zJv fg tc fi2 own2 fg2 tc2 te (zCI own σ) xs gd (xs.drop i) as M' = some (zs,Mf),
    ⟨xs.length,by simp,zVk _,L1,M1,[],.refl _ _,c1,.nil,zVk _,by simpa using e2⟩,?_⟩
   rintro i m ys H' ⟨rfl,hi,L',M',as,s',c',r',hl,e'⟩;by_cases hlt:i < xs.length
   ·rw [zCp hlt] at e';unfold zJv at e';split at e'
    ·rename_i hgd;obtain ⟨step,_⟩:=it L' H' M' s' c' hgd;obtain ⟨go,yl⟩:=step i xs[i] (zU2 hlt);split at e'
     ·rename_i σ1 eg;refine .inr ⟨go,fun v H2 hy=>?_⟩;obtain ⟨gr,rv⟩:=yl v H2 hy;have s2:Stp L1 H1 L' H2:=s'.yld gr;refine hg (zEu own ((rs.stp s1).stp s2)) (.refl _) rv eg fun τ2 r2 x2=>⟨x2,?_⟩;split at e'
      ·rename_i M3 e3;split at e'
       ·rename_i ys2 gd2 M4 e4;split at e'
        ·rename_i hz2;split at e'
         ·rename_i ds M5 e5;refine ⟨L',σ1,M',_,_,c'.grow gr,r2,e3,fun L3 H3 s3 c3=>zGI ?_⟩;have st3:Stp L' H' L3 H3:=(Stp.grow gr).trans s3;refine ⟨L3,σ1,M3,_,_,_,c3,r2.stp s3,e4,fun L4 H4 J2 s4 c4 it2=>?_⟩
          refine ⟨fun j m2 ws H5=>m2 = ys2.length - j /\ j <= ys2.length /\ ∃ L5 M6 bs cs,Stp L4 H4 L5 H5 /\ Cor K L5 M6 H5 /\ za L5 H5 (as ++ bs) ws /\ bs.length <= j /\ zBB fg2 tc2 te (zCI own2 σ1) ys2 gd2 (ys2.drop j) M6 = some (cs,M5) /\ bs ++ cs = ds,
           ⟨ys2.length,by simp,zVk _,L4,M4,[],ds,.refl _ _,c4,by simpa using (r'.stp st3).stp s4,zU4 _,by simpa using e5,rfl⟩,?_⟩
          rintro j m2 ws H5 ⟨rfl,hj,L5,M6,bs,cs,s5,c5,r5,hbl,e6,hbc⟩;have hws:ws.length <= as.length + j:=by rw [r5.length,zVE]; omega
          by_cases hlt2:j < ys2.length
          ·rw [zCp hlt2] at e6;unfold zBB at e6;split at e6
           ·rename_i hgd2;obtain ⟨step2,_⟩:=it2 L5 H5 M6 s5 c5 hgd2;obtain ⟨go2,yl2⟩:=step2 j ys2[j] (zU2 hlt2);split at e6
            ·rename_i σ2 eg2;refine .inr ⟨go2,fun v2 H6 hy2=>?_⟩;obtain ⟨gr2,rv2⟩:=yl2 v2 H6 hy2;have s6:Stp L4 H4 L5 H6:=s5.yld gr2;refine hg2 (zEu own2 (((r2.stp s3).stp s4).stp s6)) (.refl _) rv2 eg2 fun τ3 r3 x3=>⟨x3,?_⟩;split at e6
             ·rename_i M7 e7;split at e6
              ·rename_i d M8 e8;split at e6
               ·rename_i ds' M9 e9;cases e6;refine ⟨L5,σ2,M6,_,_,c5.grow gr2,r3,e7,fun L7 H7 s7 c7=>zGI ?_⟩;refine ⟨L7,σ2,M7,_,_,c7,r3.stp s7,e8,fun L8 H8 w s8 c8 r8=>?_⟩;have st:Stp L5 H5 L8 H8:=((Stp.grow gr2).trans s7).trans s8;refine ⟨by omega,ys2.length - (j + 1),by omega,rfl,hlt2,L8,M8,bs ++ [d],ds',s5.trans st,c8,?_,by simp; omega,e9,by rw [<- hbc]; simp⟩;have:=(r5.stp st).app (.cons r8 .nil);simpa using this
               ·cases e6
              ·cases e6
             ·rename_i M7 e7;refine ⟨L5,σ2,M6,_,_,c5.grow gr2,r3,e7,fun L7 H7 s7 c7=>zGP ?_⟩;have st:Stp L5 H5 L7 H7:=(Stp.grow gr2).trans s7;exact ⟨ys2.length - (j + 1),by omega,rfl,hlt2,L7,M7,bs,cs,s5.trans st,c7,r5.stp st,by omega,e6,hbc⟩
             ·cases e6
            ·cases e6
           ·cases e6
          ·have hj':j = ys2.length:=by omega
           subst hj';rw [List.drop_length] at e6;unfold zBB at e6;split at e6
           ·rename_i hgd2;cases e6;obtain ⟨_,stop2⟩:=it2 L5 H5 _ s5 c5 hgd2;rw [zVi] at hbc;subst hbc;refine .inl ⟨stop2,xs.length - (i + 1),by omega,rfl,hlt,L5,M5,as ++ bs,s'.trans ((st3.trans s4).trans s5),c5,r5,by rw [zVE]; omega,e'⟩
           ·cases e6
         ·cases e'
        ·cases e'
       ·cases e'
      ·rename_i M3 e3;refine ⟨L',σ1,M',_,_,c'.grow gr,r2,e3,fun L3 H3 s3 c3=>zGP ?_⟩;have st:Stp L' H' L3 H3:=(Stp.grow gr).trans s3;exact ⟨xs.length - (i + 1),by omega,rfl,hlt,L3,M3,as,s'.trans st,c3,r'.stp st,hl,e'⟩
      ·cases e'
     ·cases e'
    ·cases e'
   ·have hi':i = xs.length:=by omega
    subst hi';rw [List.drop_length] at e';unfold zJv at e';split at e'
    ·rename_i hgd;cases e';obtain ⟨_,stop⟩:=it L' H' _ s' c' hgd;refine .inl ⟨stop,by rw [r'.length]; exact hl,fun p hp=>?_⟩;exact q L' _ _ ((s1.trans s').trans (.upd hp)) (c'.upd hp) (zo.newLst (s1.trans s') c c' hp r')
    ·cases e'
  ·cases hf
 ·cases hf
section
variable {X:Cx} {scope:Scope} {elt t1 i1 t2 i2:Expr} {f1 f2:List Expr} {pos:Pos}
structure QParts2 (X:Cx) (scope:Scope) (t1:Expr) (f1:List Expr) (t2 i2:Expr) (f2:List Expr) (elt:Expr) (g:TG) (tc:FT) (fi2:FI) (g2:TG) (tc2:FT) (te:FE):Prop where
 g:∀ zB cl s H fp,PG (zS X zB scope cl s H fp) t1 g
 c:∀ zB cl s H fp,QIfs (zS X zB scope cl s H fp) f1 tc
 w2:∀ zB cl s H fp,QI (zS X zB scope cl s H fp) t2 i2 fi2
 g2:∀ zB cl s H fp,PG (zS X zB scope cl s H fp) t2 g2
 c2:∀ zB cl s H fp,QIfs (zS X zB scope cl s H fp) f2 tc2
 e:∀ zB cl s H fp,QE (zS X zB scope cl s H fp) elt te
 s2:∀ zB cl s H fp x,foldedSetIterable i2 (zS X zB scope cl s H fp).env x = pure x
theorem zMf {own own2:List Nat} {fi fi2:FI} {g g2:TG} {fg fg2:FG} {tc tc2:FT} {te:FE} (hsub:∀ i ∈ own2,i ∈ own) (hg:zF1 own g fg) (hg2:zF1 own2 g2 fg2) (C:CompIn X scope own) (hcalm:X.calm = true) (hi:QI X t1 i1 fi) (p:QParts2 X scope t1 f1 t2 i2 f2 elt g tc fi2 g2 tc2 te) (hs:∀ x,foldedSetIterable i1 X.env x = pure x:=by intro _; rfl) :
  QE X (zBn elt t1 i1 f1 t2 i2 f2 scope pos) (zE4 own own2 fi fg tc fi2 fg2 tc2 te) :=
 .mk <| PE.imp (zPO hsub C hcalm hi.un ⟨p.g,fun zB cl s H fp=>(p.c zB cl s H fp).un,fun zB cl s H fp=>(p.w2 zB cl s H fp).un,p.g2,fun zB cl s H fp=>(p.c2 zB cl s H fp).un,fun zB cl s H fp=>(zI (p.e zB cl s H fp)).un,p.s2⟩ hs) fun _ _ _ h=>zLt hg hg2 h
end
end L3
namespace L2
open PySem PySem.Spec PyProof.Rows
section
variable {X:Cx} {scope:Scope} {tg kx vx iter:Expr} {ifs:List Expr} {pos:Pos} {own:List Nat} {isT:Bool} {wi:TI} {g:TG} {tc:TT} {tk tv:TE}
theorem zHR (hN:X.N.Nodup) (hi':X.N[i]? = some x) (hx:Loc X.env.scope x) (hfn:X.fn x = true \/ X.env.scope.names.lookup x = some .local)
  (hsw:swapsWith (.DictComp kx vx [⟨tg,iter,ifs,0⟩] scope pos) (some (.Name x pos')) pos''.line X.env = pure true)
  (hu:X.A.units + 1 < cLine) (C:CompIn X scope own) (hcalm:X.calm = true) (hi:PI X tg iter wi) (p:CompParts X scope tg ifs kx g tc tk) (p2:∀ zB cl s H fp,PE (zS X zB scope cl s H fp) vx tv) (hs:∀ x,foldedSetIterable iter X.env x = pure x:=by intro _; rfl) :
  PS X (.Assign [.Name x pos'] (.DictComp kx vx [⟨tg,iter,ifs,0⟩] scope pos) pos'') (zQL (zGM isT own wi g tc tk tv) (zD9 i)):=by
 intro zB s σ H D I h;obtain ⟨cl,hcl,c1,c2⟩:=C.sc.closure I;rw [exec_Assign_Name_used _ _ _ _ hsw];refine zUy (zVw (zUy ?_));show wpAny _ X.A (do let _ <- comprehension (.DictComp kx vx [⟨tg,iter,ifs,0⟩] scope pos) scope X.env _ newDict false (eval iter X.env) (some (assign (.Name x pos') X.env))) _ _ s
 refine zUy (zVU (zWs (use:=some (assign (.Name x pos') X.env)) (Q:=fun _ s'=>SP X zB D .next s') rfl hs hcl C.sc.kind C.sc.names
  (thn (hi zB s σ H _ I h) fun v s1 h1=>thn h1 fun itv s2 h2=>?_)) (fun _ s' hq=>zU0 (zU0 hq)) fun _ _ e=>e)
 obtain ⟨it,fp,tn,J,H2,e,I2,T,st2,f2,hD⟩:=h2;subst e;obtain ⟨W,⟨m0,w0⟩,turn⟩:=hD s2.heap.objs.size (I2.hok.fresh (zU4 _))
 refine zEA hu C hcalm I2 T st2 f2 c1 c2 (p.g _ _ _ _ _) (p.c _ _ _ _ _) (p.e _ _ _ _ _) (p2 _ _ _ _ _) (RR:=fun acc C r s'=>compPost (model X.prog X.w) X.A X.xe (some (assign (.Name x pos') X.env)) (fun _ s'=>SP X zB D .next s') acc C r s')
  (QQ:=fun H=>zD9 i (.ref s2.heap.objs.size) σ H D.nx) w0 turn ?_
 intro σc H' s' Ic qq;obtain ⟨m,hn,_⟩:=Ic.loc;have J':=zEz (h':=s'.heap) I2 f2 Ic (.refl ..);obtain ⟨oC,es,ep,hoC,hdC,r1,r2⟩:=id hn;have nC:H' (s2.heap.objs.size + 1) = none:=Ic.free;have K':Inv X (zB ++ [(s2.heap.objs.size + 1,oC)]) σ H' s':=J'.pins_of fun q hq=>by
  rcases zVO.mp hq with z | z
  ·exact J'.pin q (zVI _ z)
  ·have e:q = (s2.heap.objs.size + 1,oC):=by simpa using z
   subst e;refine ⟨hoC,nC,Nat.ne_of_gt (zVn I2.lt),I2.nofs (Nat.le_succ _),fun v z=>?_⟩;have z':oC.data = .cell v:=z;rw [hdC] at z'; cases z'
 show wpAny _ X.A (assign (.Name x pos') X.env (.ref s2.heap.objs.size)) _ _ _;refine thn (zJo hN hi' hx hfn _ s' σ _ (.ref s2.heap.objs.size) (.ref s2.heap.objs.size) _ K' rfl qq) fun _ s'' ⟨σ'',H'',I'',q''⟩=>?_;obtain ⟨eC,_⟩:=I''.pin (s2.heap.objs.size + 1,oC) (by simp);refine ⟨m,⟨oC,es,ep,eC,hdC,r1,r2⟩,fun h' hs'=>⟨σ'',H'',?_,q''⟩⟩;have I3:Inv X zB σ'' H'' s'':=I''.unpinned;obtain ⟨_,nC'',neC,_,_⟩:=I''.pin (s2.heap.objs.size + 1,oC) (by simp);refine I3.turned (t':=s''.toks) (it:=s2.heap.objs.size + 1) (fun b o hb e=>hs'.extBut b o hb e) nC'' neC (.inr (zVP I2.sz (Nat.le_succ _))) (fun x c e z=>?_) (fun q hq z=>?_)
 ·obtain ⟨v,o,ho,hd⟩:=I3.cell x c e;rw [z,eC] at ho; cases ho;rw [hdC] at hd; cases hd
 ·obtain ⟨e,_⟩:=I2.pin q hq;exact zVJ (zVn (zU9 e)) z
end
end L2
namespace L3
open PySem PySem.Spec PyProof.Rows L2
section
variable {X:Cx} {scope:Scope} {tg kx vx iter:Expr} {ifs:List Expr} {pos:Pos} {own:List Nat} {isT:Bool}
theorem zMD (hN:X.N.Nodup) (hi':X.N[i]? = some x) (hx:Loc X.env.scope x) (hfn:X.fn x = true \/ X.env.scope.names.lookup x = some .local)
  (hsw:swapsWith (.DictComp kx vx [⟨tg,iter,ifs,0⟩] scope pos) (some (.Name x pos')) pos''.line X.env = pure true)
  (hu:X.A.units + 1 < cLine) (hg:zF1 own g fg) (C:CompIn X scope own) (hcalm:X.calm = true) (hi:QI X tg iter fi) (p:QParts X scope tg ifs kx g tc tk) (p2:∀ zB cl s H fp,QE (zS X zB scope cl s H fp) vx tv) (hs:∀ x,foldedSetIterable iter X.env x = pure x:=by intro _; rfl) :
  QS X (.Assign [.Name x pos'] (.DictComp kx vx [⟨tg,iter,ifs,0⟩] scope pos) pos'') (zAR i (zDX isT own fi fg tc tk tv)) :=
 .mk <| PS.imp (zHR (isT:=isT) hN hi' hx hfn hsw hu C hcalm hi.un p.parts (fun _ _ _ _ _=>(zI (p2 _ _ _ _ _)).un) hs) fun _ _ _ z=>zG7 (fun _ _ _ z=>zH6 hg z) z
end
end L3
namespace L2
open PySem PySem.Spec PyProof.Rows
end L2
namespace L3
open PySem PySem.Spec PyProof.Rows L2
open SeqAt
structure Df (K:PySem.W.Frag) (mg:Str -> Option Value) (x:Str) (st:Stmt) (ps:List Str) where
 f:Addr
 fd:FuncData
 F:Fun K x x st f fd
 b:zHz K fd ps []
 m:mg x = some (.ref f)
structure Dg (K:PySem.W.Frag) (x:Str) (st:Stmt) where
 f:Addr
 {od an:Option Addr}
 {sl:Array (Option Value)}
 {oc kV dc pm cd ct:Value}
 a:PySem.W.nsIn K mainGlobals x = some (some (.ref f))
 l:K.lookup f = some ⟨oc,od,.func (PySem.W.fnOf x x (zEm st) (zDH st) (zP st) .none kV dc pm an cd ct),sl⟩
 c:PySem.W.codeIn K cd x = true
 k:PySem.W.keepIn K (.ref f) = true
abbrev Dg.df {K:PySem.W.Frag} {x:Str} {st:Stmt} {ps:List Str} {h:Heap} {mg:Str -> Option Value} (g:Dg K x st) (X:K.In h) (G:h.Ns mainGlobals mg)
  (hb:∀ (kV doc pm:Value) (an:Option Addr) (cdv ct:Value) (us:List Value),us.length = ps.length -> bindArgs (PySem.W.fnOf x x (zEm st) (zDH st) (zP st) .none kV doc pm an cdv ct) ⟨us,[]⟩ = pure (ps.zip us)):Df K mg x st ps :=
 ⟨g.f,_,zOz g.l g.c g.k,(zOz g.l g.c g.k).binds hb,PySem.W.mg_of X G g.a⟩
abbrev Od (P:Program) (w:World) (base:Heap) (k:Nat) {K:PySem.W.Frag} {mg:Str -> Option Value} {x:Str} {st:Stmt} {ps:List Str} (d:Df K mg x st ps) (m:FF):Prop:=FnOk P w K mg base CX0 k d.f d.fd ps (spF K ps.length m)
abbrev Zn (K:PySem.W.Frag) (x:Str):Prop:=PySem.W.nsIn K mainGlobals x = some none
abbrev Ki (K:PySem.W.Frag) (t T:String) (b:Bool):Prop:=PySem.W.kitOne K (.type t) (.type T) = some b
theorem zIM {P:List Value -> Prop} (h:∀ a,P [a]):∀ us:List Value,us.length = 1 -> P us
 | [a],_=>h a
theorem zGj {P:List Value -> Prop} (h:∀ a b,P [a,b]):∀ us:List Value,us.length = 2 -> P us
 | [a,b],_=>h a b
theorem zQC {P:List Value -> Prop} (h:∀ a b c,P [a,b,c]):∀ us:List Value,us.length = 3 -> P us
 | [a,b,c],_=>h a b c
theorem zUb {P:List Value -> Prop} (h:∀ a b c d,P [a,b,c,d]):∀ us:List Value,us.length = 4 -> P us
 | [a,b,c,d],_=>h a b c d
section
variable {X:Cx} {e:Expr} {es:List Expr} {pos p:Pos} {x:Str} {k:Nat} {st:Stmt} {ps:List Str}
theorem zAb {d:Df X.K X.mg x st ps} (F:FnOk X.prog X.w X.K X.mg X.base CX0 k d.f d.fd ps (spF X.K (e :: es).length g)) (hr:Room k X.A) (hg:Gl X x)
  (ha:QA X (e :: es) fa) (hl:∀ σ M ds M1,fa σ M = some (ds,M1) -> ds.length = (e :: es).length) (hdb:(x == ("__debug__" : Str)) = false) (he:starEach (e :: es) X.env = (false,eval e X.env) :: starEach es X.env) (hpl:(backTo pos (starEach es X.env)).any (·.1) = false) :
  QE X (.Call (.Name x p) (e :: es) [] pos) (zb g fa):=zSm F hr hg d.m d.F.kp d.b ha hl hdb he hpl
theorem zAy (hN:X.N.Nodup) (hi:X.N[i]? = some x) (h:QE X e f) (hx:Loc X.env.scope x:=by first | exact Or.inl rfl | exact Or.inr rfl) (hs:swapsWith e (some (.Name x pos')) pos.line X.env = pure false:=by rfl)
  (hf:X.fn x = true \/ X.env.scope.names.lookup x = some .local:=by first | exact .inl rfl | exact .inr rfl | assumption):QS X (.Assign [.Name x pos'] e pos) (zAR i f):=zTX hN hi hx h hs hf
theorem zAH (hN:X.N.Nodup) (hi:X.N[i]? = some x) (hx:Loc X.env.scope x:=by first | exact Or.inl rfl | exact Or.inr rfl) (hf:X.fn x = true \/ X.env.scope.names.lookup x = some .local:=by first | exact .inl rfl | exact .inr rfl | assumption):PG X (.Name x pos) (zD9 i):=zJo hN hi hx hf
end
theorem zTV {H:Hp}:∀ {kvs:List (List Key × V)} {xs:List (List Key × Addr × Value)} {i:Nat} {k:List Key} {x:V},KT H kvs xs -> kvs[i]? = some (k,x) -> ∃ b u,xs[i]? = some (k,b,u) /\ H b = some (.tup (k.map kV)) /\ zAF x u:=by
 intro kvs xs i k x r;induction r generalizing i with
 | nil=>intro e; cases e
 | @cons p q ps qs hq t ih=>
  intro e;cases i with
  | zero=>
   cases e;obtain ⟨q1,q2,q3⟩:=q;exact ⟨q2,q3,by rw [show k = q1 from hq.1]; rfl,hq.2.1,hq.2.2⟩
  | succ j=>exact ih e
theorem zRI {L:List Addr} {H:Hp} {d:D} {k:Key} (h:zGD d = some k):Rep L H d (kV k):=by
 cases d with
 | int i=>cases h; unfold Rep; rfl
 | str x=>cases h; unfold Rep; rfl
 | _=>cases h
theorem zKJ {L:List Addr} {H:Hp}:∀ {ds:List D} {ks:List Key},zE2 ds = some ks -> za L H ds (ks.map kV)
 | [],ks,h=>by cases h; exact .nil
 | d :: ds,ks,h=>by
  unfold zE2 at h;cases e1:zGD d with
  | none=>rw [e1] at h; cases h
  | some k=>
   cases e2:zE2 ds with
   | none=>rw [e1,e2] at h; cases h
   | some ks'=>rw [e1,e2] at h; cases h; exact .cons (zRI e1) (zKJ e2)
theorem zTP {L:List Addr} {H:Hp} {d:D} {k:List Key} {b:Addr} (h:tkD d = some k) (e:H b = some (.tup (k.map kV))):Rep L H d (.ref b):=by
 cases d with
 | tup ds=>unfold Rep; exact ⟨b,_,rfl,e,zKJ h⟩
 | _=>cases h
section
variable {prog:Program} {w:World} {A:Around} {E:Value -> Shared -> Prop} {s:Shared} {it d:Addr} {i ep:Nat} {o:Obj} {es:Array DictEntry}
theorem zPT {Q:Value -> Shared -> Prop} (hd:(d == sysModules) = false) (hT:s.TypeIs (.ref d) "dict") (ho:s.heap.get? d = some o) (hdat:o.data = .dict es ep)
  (hQ:Q (.ref s.heap.objs.size) { s with heap:=s.heap.push { cls:=.type "dict_keyiterator", data:=.fields #[.ref d,.int 0 0,.int es.size 0,.int ep 0] } }):wpAny (model prog w) A (pyIter (.ref d)) Q E s:=by
 refine wpAny_pyIter_slot hT F.slot_dict_iter (zVb F.slot_dict_iter hT F.entry_dict_iter ?_ (F.args_dict_iter_1 _));unfold Builtin.«dict.__iter__»;refine zUy ?_;unfold Builtin.Dict.dictSlotNone;refine zUy (wpAny_notOrdered_dict hT ?_);show wpAny _ _ (pure (Value.ref d)) _ _ s;refine zU0 ?_;show wpAny _ _ (Builtin.Dict.showsAll d >>= _) _ _ s;unfold Builtin.Dict.showsAll;rw [zVG (by rw [hd]; exact zVK)];refine zUy (zU0 (zUy (wpAny_dictEntries ho hdat (zUy (wpAny_dictEpoch ho hdat ?_)))));refine zUy (zVR (zU0 ⟨_,rfl, "dict_keyiterator", _,⟨_,zU8 _ rfl,rfl⟩,F.slot_dict_keyiterator_next.lookup,?_⟩));simpa [rawInt] using hQ
theorem zOk {e:DictEntry} {Q:Option Value -> Shared -> Prop} (hit:s.heap.IsKeyIter it d i es.size ep) (hod:s.heap.get? d = some o) (hdd:o.data = .dict es ep) (hx:es[i]? = some e)
  (hQ:∀ h',h'.IsKeyIter it d (i + 1) es.size ep -> Heap.SameBut it s.heap h' -> Q (some e.key) { s with heap:=h' }):wpAny (model prog w) A (pyNext (.ref it)) Q E s:=by
 obtain ⟨q,ho,hc,hd⟩:=id hit;obtain ⟨hlt,hxe⟩:=Array.getElem?_eq_some_iff.mp hx;unfold pyNext;refine zUy (wpAny_attempt (zVa (name:=Str.ofString "__next__") hit.typeIs F.slot_dict_keyiterator_next (zVb F.slot_dict_keyiterator_next hit.typeIs F.entry_dict_keyiterator_next ?_ (F.args_dict_keyiterator_next_1 _))));refine zUy (zU0 (zUy (zUy ?_)));first | refine zUy (wpAny_typeNameOfWhole_keyiter hit.typeIs (zU0 ?_)) | refine zUy (wpAny_typeNameOf_keyiter hit.typeIs (zU0 ?_))
 refine zUy (wpAny_fieldsOf ho hd ?_);simp only [show Builtin.Dict_items.ownsTuple "dict_keyiterator" = false by decide,zVz,if_false];show wpAny _ _ (if (Value.ref d == Value.none) = true then _ else _) _ _ s;rw [zVG (show ¬ ((Value.ref d == Value.none) = true) from zVK)];refine zUy (zU0 (zUy (wpAny_dictEntries hod hdd ?_)));rw [zVG (by simp)];refine zUy (zU0 (zUy (wpAny_dictEpoch hod hdd ?_)));rw [zVG (by simp)];refine zU0 ?_;simp only [show ¬ ((i:Int) < 0) from by omega,if_false,Int.toNat_natCast,zVj hlt,hxe];refine zUy ?_;first | refine zUy (wpAny_typeNameOfWhole_keyiter hit.typeIs (zU0 ?_)) | refine zUy (wpAny_typeNameOf_keyiter hit.typeIs (zU0 ?_))
 refine zUy (wpAny_isOneOf_keyiter hit.typeIs ?_);show wpAny _ _ (setField (.ref it) 1 (rawInt ((i:Int) + 1)) >>= _) _ _ s;refine zUy (zWj ho hd (by simp) ?_);have hit':(s.heap.update it (Obj.mapFields (·.setIfInBounds 1 (rawInt ((i:Int) + 1))))).IsKeyIter it d (i + 1) es.size ep :=
  ⟨_,zVl _ ho (Obj.isFreed_of_fields (zWF hd _)),(Obj.cls_mapFields ..).trans hc,by rw [zWF hd]; simp [rawInt]⟩
 refine zUy (zVr (zUy (wpAny_isOneOf_keyiter (s:={ s with heap:=s.heap.update it (Obj.mapFields (·.setIfInBounds 1 (rawInt ((i:Int) + 1)))) }) hit'.typeIs ?_)));show wpAny _ _ (pure e.key) _ _ _;exact zU0 (zU0 ⟨_,rfl,zU0 (hQ _ hit' (zV1 ..))⟩)
theorem zRF {Q:Option Value -> Shared -> Prop} (hh:A.handled = none) (hit:s.heap.IsKeyIter it d i es.size ep) (hod:s.heap.get? d = some o) (hdd:o.data = .dict es ep) (hge:es.size <= i)
  (hQ:∀ h',Heap.ExtBut it s.heap h' -> Q none { s with heap:=h' }):wpAny (model prog w) A (pyNext (.ref it)) Q E s:=by
 obtain ⟨q,ho,hc,hd⟩:=id hit;unfold pyNext;refine zUy (wpAny_attempt (zVa (name:=Str.ofString "__next__") hit.typeIs F.slot_dict_keyiterator_next (zVb F.slot_dict_keyiterator_next hit.typeIs F.entry_dict_keyiterator_next ?_ (F.args_dict_keyiterator_next_1 _))));refine zUy (zU0 (zUy (zUy ?_)));first | refine zUy (wpAny_typeNameOfWhole_keyiter hit.typeIs (zU0 ?_)) | refine zUy (wpAny_typeNameOf_keyiter hit.typeIs (zU0 ?_))
 refine zUy (wpAny_fieldsOf ho hd ?_);simp only [show Builtin.Dict_items.ownsTuple "dict_keyiterator" = false by decide,zVz,if_false];show wpAny _ _ (if (Value.ref d == Value.none) = true then _ else _) _ _ s;rw [zVG (show ¬ ((Value.ref d == Value.none) = true) from zVK)];refine zUy (zU0 (zUy (wpAny_dictEntries hod hdd ?_)));rw [zVG (by simp)];refine zUy (zU0 (zUy (wpAny_dictEpoch hod hdd ?_)));rw [zVG (by simp)];refine zU0 ?_;simp only [show ¬ ((i:Int) < 0) from by omega,if_false,Int.toNat_natCast,Array.getElem?_eq_none hge];refine zUy ?_;first | refine zUy (wpAny_typeNameOfWhole_keyiter hit.typeIs (zU0 ?_)) | refine zUy (wpAny_typeNameOf_keyiter hit.typeIs (zU0 ?_))
 show wpAny _ _ (setField (.ref it) 0 .none >>= _) _ _ s;refine zUy (zWj ho hd (by simp) ?_);show wpAny _ _ (newExc (.type "StopIteration") [] >>= _) _ _ _;refine zUy ?_;simp only [newExc,newTuple];refine zUy (zVR ?_ (by size_fits));refine zUy (m:=firstArgMember _ _) (wpAny_of_eq (a:=Value.none) (by first | rfl | (simp only [firstArgMember]; rfl)) ?_);refine zVR ?_ (by size_fits);simp only [raiseNew];refine zUy (wpAny_handled ?_);rw [show A.in1.handled = none from hh];refine zUy (zU0 (wpAny_throw ?_));refine zUy (wpAny_isInstance (T := "StopIteration") (b:=true) ⟨_,zU8 _ rfl,rfl⟩ isSubtype_stop ?_);exact zU0 (hQ _ (((zV1 ..).extBut.push _).push _))
theorem zQX (lo:(d == sysModules) = false) (hc:o.cls = .type "dict") (hdd:o.data = .dict es ep):PySem.W.KdlSrc prog w "dict" d d es.size (fun i v=>∃ e,es[i]? = some e /\ v = e.key) (fun h=>h.get? d = some o) where
 type:=fun _ h=>⟨o,h,hc⟩;there:=fun _ h=>⟨zU9 h,zU9 h⟩;keep:=fun _ _ h k=>k d (.inl rfl) o h;notList:=by decide
 notTuple:=by decide
 hint:=fun _ _ _ _ h hq=>PySem.W.kdl_hint_dict ⟨o,h,hc⟩ hq
 iter:=fun A s hh h=>⟨_,fun i h'=>h'.IsKeyIter s.heap.objs.size d i es.size ep /\ h'.get? d = some o,(fun _ _ hq=>zPT lo ⟨o,h,hc⟩ h hdd hq),⟨fun b hb=>by simp at hb; simp [hb],
  fun _ _ _ st hk=>⟨st.1.at fun o e=>hk _ (by simp) o e,hk d (by simp) o st.2⟩,
  fun i s2 Q E hi st hQ=>zOk (e:=es[i]) st.1 st.2 hdd (by simp [hi]) fun h' hit' hs'=>hQ _ h' s2.toks ⟨es[i],by simp [hi],rfl⟩ ⟨hit',hs'.extBut _ _ (zVJ (zU9 h)) st.2⟩ fun b q hb e=>hs'.extBut b q (fun z=>hb (by simp [z])) e,
  fun s2 Q E st hQ=>zRF hh st.1 st.2 hdd (zU4 _) fun h' he'=>hQ h' s2.toks fun b q hb e=>he' b q (fun z=>hb (by simp [z])) e,
  fun _ _ _ _ st hQ=>wpAny_pyIter_keyiter st.1 hQ⟩,⟨⟨_,zU8 _ rfl,rfl,rfl⟩,zUz _ h⟩⟩
end
def KS (H:Hp) (kvs:List (List Key × V)) (ys:List V):Prop:=ys.length = kvs.length /\ ∀ (i:Nat) k x,kvs[i]? = some (k,x) -> ∃ b,ys[i]? = some (.ref b) /\ H b = some (.tup (k.map kV))
theorem zMu:∀ {ys:List V} {us:List Value},ys.length = us.length -> (∀ (i:Nat) y u,ys[i]? = some y -> us[i]? = some u -> zAF y u) -> zv ys us
 | [],[],_,_=> .nil
 | [],_ :: _,h,_=>by cases h
 | _ :: _,[],h,_=>by cases h
 | y :: ys,u :: us,h,q=> .cons (q 0 y u rfl rfl) (zMu (Nat.succ.inj h) fun i y' u' e1 e2=>q (i + 1) y' u' (by simpa using e1) (by simpa using e2))
section
variable {X:Cx}
theorem zN9 (hc:X.calm = true):zBz X (.type "list") (fun xs H Q=>∃ d kvs,xs = [.ref d] /\ H d = some (.dT kvs) /\ ∀ ys l,KS H kvs ys -> H l = none -> Q (.ref l) (upd H l (.lst ys))):=by
 intro zB s σ H xs us Q I r h;obtain ⟨d,kvs,rfl,ed,q⟩:=h;obtain ⟨u,rfl,rx⟩:=zDn r;cases rx;obtain ⟨z1,z2,xs,r,o,es,en,h1,h2,h3,h4,h5⟩:=(show zAV X.prog X.w H s.heap d (.dT kvs) from I.hok d _ ed);have hsz:es.size = kvs.length:=by rw [Paired.length r,<- zVh,h4,zU7]
 refine PySem.W.kdl_call (zQX z2 h2.1 h3) (I.ok.hd hc) h1 (by omega) fun h' tk acc c' hk hD hacc=>?_;have key:∀ (i:Nat) k x,kvs[i]? = some (k,x) -> ∃ b,acc[i]? = some (.ref b) /\ H b = some (.tup (k.map kV)):=by
  intro i k x e;obtain ⟨b,u,h6,h7,_⟩:=zTV r e;have hi:i < acc.size:=by rw [hacc.1,hsz]; exact (zU1.mp e).1
  obtain ⟨e',he',hv⟩:=hacc.2 i acc[i] (by simp [hi]);have:es[i]? = some (entryOfKey (tupleKind (zAn X.prog X.w)) (k,b,u)):=by rw [<- zWd,h4,zVL,h6]; rfl
  rw [this] at he';cases he';exact ⟨b,by rw [zVj hi,hv]; rfl,h7⟩
 let ys:List V:=acc.toList.map fun u=>match u with | .ref b=> .ref b | _=> .non
 have hyl:ys.length = kvs.length:=by show (acc.toList.map _).length = _; rw [zU7,zVh,hacc.1,hsz]
 have hys:∀ (i:Nat) b,acc[i]? = some (.ref b) -> ys[i]? = some (.ref b):=fun i b e=>by show (acc.toList.map _)[i]? = _; rw [zVL,zWd,e]; rfl
 have ks:KS H kvs ys:=⟨hyl,fun i k x e=>let ⟨b,e1,e2⟩:=key i k x e; ⟨b,hys i b e1,e2⟩⟩;have hal:acc.toList.length = kvs.length:=by rw [zVh,hacc.1,hsz]
 have rv:zv ys acc.toList:=zMu (hyl.trans hal.symm) fun i y u e1 e2=>by
  have hi:i < kvs.length:=by rw [<- hyl]; exact (zU1.mp e1).1
  obtain ⟨b,e3,_⟩:=key i kvs[i].1 kvs[i].2 (by rw [zU2 hi]);rw [zWd,e3] at e2;rw [hys i b e3] at e1;cases e1; cases e2; rfl
 exact ⟨.ref s.heap.objs.size,_,I.laid (t':=tk) hk (zU4 _) (show zAV X.prog X.w _ h' _ (.lst ys) from ⟨by rw [hyl]; exact z1,acc.toList,c',rv,hD⟩),rfl,q ys _ ks (I.hok.fresh (zU4 _))⟩
theorem zId {L:List Addr} {H:Hp}:∀ {ps:List (D × D)} {vs:List (List Key × V)} {ys:List V},zBR tkD L H ps vs -> KS H vs ys -> za L H (ps.map (·.1)) ys
 | [],_,ys,h,k=>by
  unfold zBR at h; subst h;have:ys = []:=zW0.mp k.1;subst this; exact .nil
 | p :: ps,_,ys,h,k=>by
  obtain ⟨kk,v,r',rfl,e,h1,h2⟩:=h;obtain ⟨kl,kp⟩:=k;cases ys with
  | nil=>cases kl
  | cons y ys=>
   obtain ⟨b,e1,e2⟩:=kp 0 kk v rfl;cases e1;exact .cons (zTP e e2) (zId h2 ⟨Nat.succ.inj kl,fun i k x q=>by obtain ⟨b,q1,q2⟩:=kp (i + 1) k x (by simpa using q); exact ⟨b,by simpa using q1,q2⟩⟩)
def zHx:KB:=fun xs M=>match xs with
 | [.dat (.ref n)]=>match M[n]? with
  | some (.dicT ps)=>some (.fl (ps.map (·.1)),M)
  | _=>none
 | _=>none
theorem zP2:zFt X.K (fun xs H Q=>∃ d kvs,xs = [.ref d] /\ H d = some (.dT kvs) /\ ∀ ys l,KS H kvs ys -> H l = none -> Q (.ref l) (upd H l (.lst ys))) zHx:=by
 intro L M M' H H0 xs d vs Q cc r hk q;unfold zHx at hk;split at hk
 ·rename_i n;split at hk
  ·rename_i ps e1;cases hk;obtain ⟨v,rfl,r1⟩:=r.one;unfold zo Rep at r1;obtain ⟨a,rfl,ea⟩:=r1;obtain ⟨ws,e3,r3⟩:=cc.obj n a _ ea e1;exact ⟨a,ws,rfl,e3,fun ys l ks hl=>q L _ _ (.upd hl) (cc.upd hl) (zo.newLst (.refl L H) cc cc hl (zId r3 ks))⟩
  ·cases hk
 ·cases hk
theorem zSd {e:Expr} {p pos:Pos} {fa:FAE} (hc:X.calm = true) (hg:Gl X "list") (hm:X.mg "list" = none) (ha:QAE X [e] fa) (he:starEach [e] X.env = (false,eval e X.env) :: starEach [] X.env:=by rfl) (hpl:(backTo pos (starEach [] X.env)).any (·.1) = false:=by rfl):QE X (.Call (.Name "list" p) [e] [] pos) (fB zHx fa) :=
 zEJ zP2 (zN9 hc) (by rfl) hg hm ha (by decide) (by decide) he hpl
theorem zN2:zBz X (.type "str") (fun xs H Q=>∃ i,xs = [.int i] /\ i.natAbs < 2 ^ 64 /\ Q (.str (Str.ofString (toString i))) H):=by
 intro zB s σ H xs us Q I r h;obtain ⟨i,rfl,hi,q⟩:=h;obtain ⟨u,rfl,t,rfl⟩:=zDn r;refine P.str_of_int ?_ ⟨.str (Str.ofString (toString i)),H,I.tok _,⟨_,rfl⟩,q⟩;by_cases h0:i.natAbs = 0
 ·rw [h0]; decide
 ·exact (Nat.log2_lt h0).mpr (zVN hi (Nat.pow_le_pow_right (by decide) (by decide)))
def zNk:KB:=fun xs M=>match xs with
 | [.dat (.int i)]=>if i.natAbs < 2 ^ 64 then some (.dat (.str (Str.ofString (toString i))),M) else none
 | _=>none
theorem zRs {K:PySem.W.Frag}:zFt K (fun xs H Q=>∃ i,xs = [.int i] /\ i.natAbs < 2 ^ 64 /\ Q (.str (Str.ofString (toString i))) H) zNk:=by
 intro L M M' H H0 xs d vs Q c r hk q;unfold zNk at hk;split at hk
 ·rename_i i;split at hk
  ·rename_i hi;cases hk;obtain ⟨v,rfl,r1⟩:=r.one;have:v = .int i:=by unfold zo Rep at r1; exact r1
   subst this;exact ⟨i,rfl,hi,q L H _ (.refl L H) c (by unfold zo Rep; rfl)⟩
  ·cases hk
 ·cases hk
theorem zSf {e:Expr} {p pos:Pos} {fa:FAE} (hg:Gl X "str") (hm:X.mg "str" = none) (ha:QAE X [e] fa) (he:starEach [e] X.env = (false,eval e X.env) :: starEach [] X.env:=by rfl) (hpl:(backTo pos (starEach [] X.env)).any (·.1) = false:=by rfl):QE X (.Call (.Name "str" p) [e] [] pos) (fB zNk fa) :=
 zEJ zRs zN2 (by rfl) hg hm ha (by decide) (by decide) he hpl
end
def zMR (r r' r'':R2) (ta tb tc td:TE):TE:=fun σ H Q=>ta σ H fun x H1=>tb σ H1 fun y H2=>r x y H2 fun z H3=>∃ k,z = .bl k /\
 (if k = true then tc σ H3 fun w H4=>r' y w H4 fun z' H5=>∃ k',z' = .bl k' /\ (if k' = true then td σ H5 fun v H6=>r'' w v H6 Q else Q (.bl false) H5) else Q (.bl false) H3)
section
variable {X:Cx} {a b c d:Expr} {ta tb tc td:TE} {pos:Pos} {f g h i:FE}
theorem zNv {op op' op'':CmpOp} {r r' r'':R2} (ho:OpR X (compareOp op) r) (ho':OpR X (compareOp op') r') (ho'':OpR X (compareOp op'') r'') (ha:PE X a ta) (hb:PE X b tb) (hc:PE X c tc) (hd:PE X d td)
  (hm:lastMarks [op,op',op''] [b,c,d] = false:=by with_unfolding_all rfl):PE X (.Compare a [op,op',op''] [b,c,d] pos) (zMR r r' r'' ta tb tc td):=by
 intro zB s σ H Q I h;refine Compare_chain (thn (ha zB s σ H _ I h) fun v s1 ⟨x,H1,I1,r1,q1⟩=>chain_link (thn (hb zB s1 σ H1 _ I1 q1) fun u s2 ⟨y,H2,I2,r2,q2⟩=>
  thn (ho zB s2 σ H2 x y v u _ I2 r1 r2 q2) fun d s3 ⟨z,H3,I3,r3,k,e,q3⟩=>?_)) hm
 subst e;cases r3;refine zWA ?_;cases k with
 | false=>exact ite_ff ⟨.bl false,H3,I3,rfl,q3⟩
 | true=>
  refine ite_tt (chain_link (thn (hc zB s3 σ H3 _ I3 q3) fun w' s4 ⟨z',H4,I4,r4,q4⟩=>thn (ho' zB s4 σ H4 y z' u w' _ I4 r2 r4 q4) fun d s5 ⟨z5,H5,I5,r5,k5,e5,q5⟩=>?_));subst e5;cases r5;refine zWA ?_;cases k5 with
  | false=>exact ite_ff ⟨.bl false,H5,I5,rfl,q5⟩
  | true=>exact ite_tt (chain_last (thn (hd zB s5 σ H5 _ I5 q5) fun w6 s6 ⟨z6,H6,I6,r6,q6⟩=>ho'' zB s6 σ H6 z' z6 w' w6 Q I6 r4 r6 q6))
def zEk (k k' k'':K2) (f g h i:FE):FE:=fun σ M=>match f σ M with
 | some (x,M1)=>match g σ M1 with
  | some (y,M2)=>match k x y M2 with
   | some (.dat (.bl true),M3)=>match h σ M3 with
    | some (w,M4)=>match k' y w M4 with
     | some (.dat (.bl true),M5)=>match i σ M5 with
      | some (v,M6)=>k'' w v M6
      | none=>none
     | some (.dat (.bl false),M5)=>some (.dat (.bl false),M5)
     | _=>none
    | none=>none
   | some (.dat (.bl false),M3)=>some (.dat (.bl false),M3)
   | _=>none
  | none=>none
 | none=>none
theorem zKi {K:PySem.W.Frag} {r r' r'':R2} {k k' k'':K2} (hk:zB2 K r k) (hk':zB2 K r' k') (hk'':zB2 K r'' k'') {τ:Sv} {H:Hp} {Q:VK} (z:trE K (zEk k k' k'' f g h i) τ H Q):zMR r r' r'' (trE K f) (trE K g) (trE K h) (trE K i) τ H Q:=by
 obtain ⟨L,σ,M,d,M',cc,rs,hf,q⟩:=z;unfold zEk at hf;split at hf
 ·rename_i x M1 e1;split at hf
  ·rename_i y M2 e2;refine ⟨L,σ,M,_,_,cc,rs,e1,fun L1 H1 v s1 c1 r1=>⟨L1,σ,M1,_,_,c1,rs.stp s1,e2,fun L2 H2 w s2 c2 r2=>?_⟩⟩;split at hf
   ·rename_i M3 e3;split at hf
    ·rename_i u M4 e4;refine hk (H0:=H) c2 (r1.stp s2) (r2.back s1 cc s2.sub) e3 fun L3 H3 t s3 c3 r3=>⟨true,zAd r3,zGI ?_⟩;have s13:=(s1.trans s2).trans s3;refine ⟨L3,σ,M3,_,_,c3,rs.stp s13,e4,fun L4 H4 w4 s4 c4 r4=>?_⟩;split at hf
     ·rename_i M5 e5;split at hf
      ·rename_i u6 M6 e6;refine hk' (H0:=H) c4 (((r2.back s1 cc s2.sub).stp s3).stp s4) (r4.back s13 cc s4.sub) e5 fun L5 H5 u5 s5 c5 r5=>⟨true,zAd r5,zGI ?_⟩;have s15:=(s13.trans s4).trans s5;refine ⟨L5,σ,M5,_,_,c5,rs.stp s15,e6,fun L6 H6 w6 s6 c6 r6=>?_⟩;refine hk'' (H0:=H) c6 (((r4.back s13 cc s4.sub).stp s5).stp s6) (r6.back s15 cc s6.sub) hf fun L7 H7 u7 s7 c7 r7=>?_;exact q L7 H7 u7 ((s15.trans s6).trans s7) c7 (r7.back (s15.trans s6) cc s7.sub)
      ·cases hf
     ·rename_i M5 e5;cases hf;refine hk' (H0:=H) c4 (((r2.back s1 cc s2.sub).stp s3).stp s4) (r4.back s13 cc s4.sub) e5 fun L5 H5 u5 s5 c5 r5=>⟨false,zAd r5,zGP ?_⟩;exact q L5 H5 _ ((s13.trans s4).trans s5) c5 (by have:=zAd r5; subst this; exact r5)
     ·cases hf
    ·cases hf
   ·rename_i M3 e3;cases hf;refine hk (H0:=H) c2 (r1.stp s2) (r2.back s1 cc s2.sub) e3 fun L3 H3 t s3 c3 r3=>⟨false,zAd r3,zGP ?_⟩;exact q L3 H3 _ ((s1.trans s2).trans s3) c3 (by have:=zAd r3; subst this; exact r3)
   ·cases hf
  ·cases hf
 ·cases hf
theorem zQb {op op' op'':CmpOp} {r r' r'':R2} {k k' k'':K2} (hk:zB2 X.K r k) (hk':zB2 X.K r' k') (hk'':zB2 X.K r'' k'') (ho:OpR X (compareOp op) r) (ho':OpR X (compareOp op') r') (ho'':OpR X (compareOp op'') r'') (h1:QE X a f) (h2:QE X b g) (h3:QE X c h) (h4:QE X d i)
  (hm:lastMarks [op,op',op''] [b,c,d] = false:=by with_unfolding_all rfl):QE X (.Compare a [op,op',op''] [b,c,d] pos) (zEk k k' k'' f g h i):=.mk <| PE.imp (zNv ho ho' ho'' h1.un h2.un h3.un h4.un hm) fun _ _ _ z=>zKi hk hk' hk'' z
end
section
variable {prog:Program} {w:World} {A:Around} {E:Value -> Shared -> Prop} {s:Shared} {d:Addr} {ep:Nat} {o:Obj} {es:Array DictEntry}
theorem zLk (hd:(d == sysModules) = false):MeetsIn prog w (Builtin.«dict.__len__» ⟨[.ref d],[]⟩) (fun _ R s=>∃ o es ep,s.heap.get? d = some o /\ o.data = .dict es ep /\ R (.ok (.ret (.int es.size s.toks))) { s with toks:=s.toks + 1 }) :=
 .of_wp fun A R s ⟨o,es,ep,ho,hdat,h⟩=>by
  show wpAny _ _ (dictSize d >>= _) _ _ s;unfold dictSize;refine zUy (zUy (wpAny_dictEntries ho hdat (zU0 ?_)));show wpAny _ _ (Builtin.Dict.pendingCount d >>= _) _ _ s;refine zUy (wpAny_pendingCount_other hd (wpAny_ret_mkInt ?_));rw [Nat.add_zero]; exact h
theorem zOR {Q:Value -> Shared -> Prop} (hd:(d == sysModules) = false) (hT:s.TypeIs (.ref d) "dict") (ho:s.heap.get? d = some o) (hdat:o.data = .dict es ep) (hfit:(es.size:Int) < 2 ^ 63)
  (h:Q (.int es.size (s.toks + 1)) { s with toks:=s.toks + 1 + 1 }):wpAny (model prog w) A (call (.builtin "len") [.ref d]) Q E s:=by
 refine Calls.call_function_entry kind_len plain_len entry_len (args_len1 _) ?_;unfold Builtin.«len»;refine zUy (m:=oneArg "len" _) (zU0 ?_);refine zUy (m:=callSpecial? (.ref d) (Str.ofString "__len__")) (zVa (name:=Str.ofString "__len__") hT F.slot_dict_len (call_meetsIn F.slot_dict_len hT F.entry_dict_len (F.args_dict_len_1 _) (zLk hd) ⟨o,es,ep,ho,hdat,?_⟩));show wpAny _ _ _ _ _ { s with toks:=s.toks + 1 };refine zUy (zVr (zU0 (zUy (wpAny_letGo ?_))));show wpAny _ _ (if ((es.size:Nat):Int) < 0 then _ else _) _ _ _;rw [zVG (by omega)];show wpAny _ _ (if ((es.size:Nat):Int) ≥ 2 ^ 63 then _ else _) _ _ _;rw [zVG (by omega)];exact zUy (wpAny_mkInt (zU0 ⟨_,rfl,h⟩))
end
section
variable {X:Cx}
theorem zOC:zBz X (.builtin "len") (fun xs H Q=>∃ (p:Addr) (kvs:List (List Key × V)),xs = [.ref p] /\ H p = some (.dT kvs) /\ Q (.int kvs.length) H):=by
 intro zB s σ H xs us Q I r h;obtain ⟨p,kvs,rfl,hx,q⟩:=h;obtain ⟨u,rfl,rx⟩:=zDn r;cases rx;have hn:=zFP;obtain ⟨z1,z2,xs,r,o,es,en,h1,h2,h3,h4,h5⟩:=(show zAV X.prog X.w H s.heap p (.dT kvs) from I.hok p _ hx);have hsz:es.size = kvs.length:=by rw [Paired.length r,<- zVh,h4,zU7]
 exact zOR z2 ⟨o,h1,h2.1⟩ h1 h3 (by omega) ⟨.int kvs.length,H,I.tok _,⟨s.toks + 1,by rw [hsz]⟩,q⟩
def zHG:KB:=fun xs M=>match xs with
 | [.dat (.ref n)]=>match M[n]? with
  | some (.dicT kvs)=>some (.dat (.int kvs.length),M)
  | _=>none
 | _=>none
theorem zOb {K:PySem.W.Frag}:zFt K (fun xs H Q=>∃ (p:Addr) (kvs:List (List Key × V)),xs = [.ref p] /\ H p = some (.dT kvs) /\ Q (.int kvs.length) H) zHG:=by
 intro L M M' H H0 xs d vs Q c r hk q;unfold zHG at hk;split at hk
 ·rename_i n;split at hk
  ·rename_i kvs e1;cases hk;obtain ⟨v,rfl,r1⟩:=r.one;unfold zo Rep at r1;obtain ⟨a,rfl,e2⟩:=r1;obtain ⟨ws,e3,r3⟩:=c.obj n a _ e2 e1;have hl:=r3.length;refine ⟨a,ws,rfl,e3,?_⟩;have:=q L H (.int kvs.length) (.refl L H) c (zAo (L:=L) (H:=H));rw [<- hl] at this; exact this
  ·cases hk
 ·cases hk
theorem zSr {e:Expr} {p pos:Pos} {fa:FAE} (hg:Gl X "len") (hm:X.mg "len" = none) (ha:QAE X [e] fa) (he:starEach [e] X.env = (false,eval e X.env) :: starEach [] X.env:=by rfl) (hpl:(backTo pos (starEach [] X.env)).any (·.1) = false:=by rfl):QE X (.Call (.Name "len" p) [e] [] pos) (fB zHG fa) :=
 zEt zOb zOC PySem.boot_len hg hm ha (by decide) (by decide) he hpl
end
end L3
namespace Law
open PySem PySem.Spec PyProof.Rows L2 L3
noncomputable def zEH:FS:=(zX (zAR 1 (fOp zAe (fB zA3 (zY (zD 0) zt)) (fC (.int 3))))
  (zX (zCe (zAv (fSl (zD 0) zBc (zBN (fC (.int 63))))) (gN 2) (zAR 1 (fOp zGN (fOp zAe (fOp zAe (fOp zOF (zD 1) (fC (.int 6364136223846793))) (fOp zGN (zD 2) (fOp zKE (fC (.int 10)) (fC (.int 30))))) (fC (.int 1442695040888963))) (fC (.int 2305843009213693951)))))
  (zAN (zAj (zF (toD (zAc [2] (zAv (fSl (zD 0) zBc (zBN (fC (.int 63))))) (gN 2) (tst (fOp kGe (fB zNI (zY (zD 2) zt)) (fOp zKE (fC (.int 10)) (fC (.int 18))))) (fB zNI (zY (zD 2) zt)))) (zF (toD (zD 1)) zM))))))
noncomputable def zBp:FF:=zBe 3 zEH
noncomputable def zFB:FS:=(zX (zBl (zBo (tst (fOp kNe (fOp kIx (zD 0) (fC (.int 0))) (zAj zM))) (tst (fOp kEq (fOp kIx (fOp kIx (zD 0) (fC (.int 0))) (fC (.int 0))) (fC (.int 0))))) (zCD (fM zKZ (fOp kIx (zD 0) (fC (.int 0))) (zF (toD (fC (.int 0))) zM))) 100)
  (zX (sIf (tst (fOp kNe (fOp kIx (zD 0) (fC (.int 0))) (zAj zM))) (zX (zAR 2 (fOp zGN (fOp kIx (fOp kIx (zD 0) (fC (.int 0))) (fC (.int 0))) (zD 1)))
  (zX (zL0 (fOp zN6 (fOp kIx (fOp kIx (zD 0) (fC (.int 0))) (fC (.int 0))) (zD 1)) (fOp kIx (zD 0) (fC (.int 0))) (fC (.int 0)))
  (zAN (zD 2)))) zBP)
  (zX (zL0 (fOp zGN (fOp zAe (fOp zOF (fOp kIx (zD 0) (fC (.int 1))) (fC (.int 6364136223846793))) (fC (.int 1442695040888963))) (fC (.int 2305843009213693951))) (zD 0) (fC (.int 1)))
  (zAN (fOp zGN (fOp zN6 (fOp zGN (fOp zOF (fOp kIx (zD 0) (fC (.int 1))) (fOp kIx (zD 0) (fC (.int 1)))) (fC (.int 2305843009213693921))) (fC (.int 65537))) (zD 1))))))
noncomputable def zZ:FF:=zBe 3 zFB
structure Gen (M:Mem) (n k:Nat):Prop where
 ex:∃ (c:List Int) (s:Int),M[n]? = some (.lst [.ref k,.int s]) /\ M[k]? = some (.lst (c.map D.int)) /\ (∀ x ∈ c,0 <= x) /\ c.length <= 63 /\ 0 <= s /\ s < 2305843009213693951
 ne:n ≠ k
 wf:∀ (j:Nat) u,M[j]? = some u -> MO.und M.length u = true
structure Nx (M M':Mem) (n k:Nat):Prop where
 gen:Gen M' n k
 len:M'.length = M.length
 fr:∀ j,j ≠ n -> j ≠ k -> M'[j]? = M[j]?
theorem Nx.refl (h:Gen M n k):Nx M M n k:=⟨h,rfl,fun _ _ _=>rfl⟩
theorem Nx.trans {M M1 M2:Mem} {n k:Nat} (a:Nx M M1 n k) (b:Nx M1 M2 n k):Nx M M2 n k:=⟨b.gen,b.len.trans a.len,fun j h1 h2=>(b.fr j h1 h2).trans (a.fr j h1 h2)⟩
theorem zAQ (n:Nat):∀ c:List Int,D.unds n (c.map D.int) = true
 | []=>rfl
 | x :: r=>by
  show (D.und n (D.int x) && D.unds n (r.map D.int)) = true;rw [zAQ n r]; rfl
theorem Gen.lt (h:Gen M n k):n < M.length /\ k < M.length:=by
 obtain ⟨c,s,e1,e2,_⟩:=h.ex;exact ⟨(zU1.mp e1).1,(zU1.mp e2).1⟩
theorem Gen.put {M:Mem} (h:Gen M n k) {c:List Int} (hc:∀ x ∈ c,0 <= x) (hl:c.length <= 63) (h0:0 <= s) (h1:s < 2305843009213693951) :
  Nx M ((M.set k (.lst (c.map D.int))).set n (.lst [.ref k,.int s])) n k:=by
 obtain ⟨hn,hk⟩:=h.lt;refine ⟨⟨⟨c,s,?_,?_,hc,hl,h0,h1⟩,h.ne,fun j u e=>?_⟩,by simp,fun j h1 h2=>?_⟩
 ·rw [zVs (by simpa using hn)]
 ·rw [zVS h.ne,zVs hk]
 ·rw [zXH,zXH];rw [zWX] at e;split at e
  ·split at e
   ·cases e;show D.unds _ _ = true;unfold D.unds D.unds D.unds D.und;simp [hk]
   ·cases e
  ·rw [zWX] at e;split at e
   ·rename_i z;subst z;cases e; exact zAQ _ _
   ·exact h.wf j u e
 ·rw [zVS (Ne.symm h1),zVS (Ne.symm h2)]
theorem zHv {M:Mem} (h:M[k]? = some u):M.set k u = M:=by
 apply List.ext_getElem?;intro i;rw [zWX];split
 ·rename_i e; subst e;rw [zVD (zU1.mp h).1]; exact h.symm
 ·rfl
theorem zFZ:∀ {a b:List Int},a.map D.int = b.map D.int -> a = b
 | [],[],_=>rfl
 | [],_ :: _,h=>by cases h
 | _ :: _,[],h=>by cases h
 | x :: a,y :: b,h=>by
  rw [zVH,zVH] at h;have h1:=(zV2 h).1;have h2:=zFZ (zV2 h).2;cases h1; rw [h2]
theorem at0 {x:D} {xs:List D}:atI (x :: xs) 0 = some x:=zJR (k:=0) rfl
theorem at1 {x y:D} {xs:List D}:atI (x :: y :: xs) 1 = some y:=zJR (k:=1) rfl
theorem zF2 (h:Gen M n k) (h0:0 < m) (h1:m < 1073741824) :
  Ok (zZ [.ref n,.int m] M) fun d M'=>(∃ i,d = .int i /\ 0 <= i /\ i < m) /\ Nx M M' n k:=by
 unfold zZ;rw [zAT];unfold zFB;show OkS (zX _ _ [some (.ref n),some (.int m),none] M) _;rw [zT];have st:∀ {M:Mem} {c:List Int} {s:Int} {σ:Sd} {P:EV -> Mem -> Prop},σ[0]? = some (some (.ref n)) -> M[n]? = some (.lst [.ref k,.int s]) -> P (.dat (.ref k)) M -> Ok (fOp kIx (zD 0) (fC (.int 0)) σ M) P:=fun hσ hM p=>
  zAi.mpr (zAZ.mpr ⟨_,hσ,zCx.mpr (zOd (zAA hM) at0 p)⟩)
 have sd:∀ {M:Mem} {s:Int} {σ:Sd} {P:EV -> Mem -> Prop},σ[0]? = some (some (.ref n)) -> M[n]? = some (.lst [.ref k,.int s]) -> P (.dat (.int s)) M -> Ok (fOp kIx (zD 0) (fC (.int 1)) σ M) P:=fun hσ hM p=>
  zAi.mpr (zAZ.mpr ⟨_,hσ,zCx.mpr (zOd (zAA hM) at1 p)⟩)
 have hd:∀ {M:Mem} {c:List Int} {x s:Int} {σ:Sd} {P:EV -> Mem -> Prop},σ[0]? = some (some (.ref n)) -> M[n]? = some (.lst [.ref k,.int s]) -> M[k]? = some (.lst ((x :: c).map D.int)) -> P (.dat (.int x)) M -> Ok (fOp kIx (fOp kIx (zD 0) (fC (.int 0))) (fC (.int 0)) σ M) P:=fun {M c x s σ P} hσ hM hK p=>
  zAi.mpr (st (c:=c) hσ hM (zCx.mpr (zOd (zAA hK) at0 p)))
 have ne:∀ {M:Mem} {c:List Int} {s:Int} {σ:Sd} {P:Bool -> Mem -> Prop},σ[0]? = some (some (.ref n)) -> M[n]? = some (.lst [.ref k,.int s]) -> M[k]? = some (.lst (c.map D.int)) -> P (!c.isEmpty) M -> Ok (tst (fOp kNe (fOp kIx (zD 0) (fC (.int 0))) (zAj zM)) σ M) P:=fun {M c s σ P} hσ hM hK p=>by
  refine zKD.mpr (zAi.mpr (st (c:=c) hσ hM (zJX.mpr (zCl.mpr ⟨zVk _,?_⟩))));rw [zMt (zBY hK) (by intro d e; cases e; rfl)];rw [zEV];simpa using p
 have W:∀ (fuel m':Nat) (σ:Sd) (M':Mem),m' < fuel -> ((σ = [some (.ref n),some (.int m),none] /\ Nx M M' n k) /\ ∃ (c:List Int) (s:Int),M'[n]? = some (.lst [.ref k,.int s]) /\ M'[k]? = some (.lst (c.map D.int)) /\ c.length = m') ->
   OkS (zBl (zBo (tst (fOp kNe (fOp kIx (zD 0) (fC (.int 0))) (zAj zM))) (tst (fOp kEq (fOp kIx (fOp kIx (zD 0) (fC (.int 0))) (fC (.int 0))) (fC (.int 0))))) (zCD (fM zKZ (fOp kIx (zD 0) (fC (.int 0))) (zF (toD (fC (.int 0))) zM))) fuel σ M')
    (fun o σ1 M1=>o = .nx /\ σ1 = [some (.ref n),some (.int m),none] /\ Nx M M1 n k):=by
  intro fuel m' σ M' hlt hI;refine zDf (I:=fun m' σ M'=>(σ = [some (.ref n),some (.int m),none] /\ Nx M M' n k) /\ ∃ (c:List Int) (s:Int),M'[n]? = some (.lst [.ref k,.int s]) /\ M'[k]? = some (.lst (c.map D.int)) /\ c.length = m') ?_ fuel m' σ M' hlt hI;rintro m' σ M' ⟨⟨rfl,nx⟩,c,s,e1,e2,hl⟩;refine zQh.mpr (ne rfl e1 e2 ?_);cases c with
  | nil=>simp; exact nx
  | cons x c=>
   simp only [List.isEmpty_cons,Bool.not_false,if_true];refine zKD.mpr (zAi.mpr (hd rfl e1 e2 (zCx.mpr (zLi.mpr (zEV.mpr ?_)))));by_cases hx:x = 0
   ·rw [zVD (by simpa using hx)];refine zDj.mpr (zNT.mpr (st (c:=c) rfl e1 ⟨⟨_,zBY e2⟩,zBC.mpr (zA5.mpr (zCx.mpr (zV.mpr (zCl.mpr ?_))))⟩));rw [zVH] at e2;rw [zSI e2];refine ⟨c.length,by rw [<- hl]; simp,?_⟩;obtain ⟨c',s',z1,z2,z3,z4,z5,z6⟩:=nx.gen.ex;rw [e1] at z1; cases z1;rw [e2] at z2;have hcc:c' = x :: c:=by
     have:(x :: c).map D.int = c'.map D.int:=by have:=z2; simp only [Option.some.injEq,MO.lst.injEq] at this; simpa using this
     exact (zFZ this).symm
    subst hcc;have P:=nx.gen.put (c:=c) (s:=s) (fun y hy=>z3 y (zVB _ hy)) (by simp at z4; omega) z5 z6;have q:((M'.set k (.lst (c.map D.int))).set n (.lst [.ref k,.int s])) = M'.set k (.lst (c.map D.int)):=zHv (by rw [zVS (Ne.symm nx.gen.ne)]; exact e1);rw [q] at P;have hk:=nx.gen.lt.2;refine ⟨⟨rfl,nx.trans P⟩,c,s,?_,?_,rfl⟩
    ·rw [zVS (Ne.symm nx.gen.ne)]; exact e1
    ·rw [zVs hk]
   ·rw [zVG (by simpa using hx)];first | exact ⟨rfl,rfl,nx⟩ | exact ⟨trivial,trivial,nx⟩ | simpa using nx
 obtain ⟨c,s,e1,e2,e3,e4,_⟩:=h.ex;refine OkS.mono (W 100 c.length _ M (by omega) ⟨⟨rfl,.refl h⟩,c,s,e1,e2,rfl⟩) ?_;rintro o σ M1 ⟨rfl,rfl,nx⟩;rw [zd,zT,zBV];obtain ⟨c,s,e1,e2,e3,e4,e5,e6⟩:=nx.gen.ex;refine ne rfl e1 e2 ?_;cases c with
 | nil=>
  simp only [List.isEmpty_nil,Bool.not_true,zVz,if_false];rw [zBM,zd,zT,zJO];refine zAi.mpr (zAi.mpr (zAi.mpr (sd rfl e1 (zCx.mpr (zP7.mpr ⟨by simp [zNX] <;> omega,zCx.mpr (zGU.mpr (zCx.mpr (zGe.mpr ⟨by decide,?_⟩)))⟩)))));rw [zV];refine zAZ.mpr ⟨_,rfl,zCx.mpr ?_⟩;rw [zV];have hs0:0 <= (s * 6364136223846793 + 1442695040888963) % 2305843009213693951:=Int.emod_nonneg _ (by decide);have hs1:(s * 6364136223846793 + 1442695040888963) % 2305843009213693951 < 2305843009213693951:=Int.emod_lt_of_pos _ (by decide);generalize (s * 6364136223846793 + 1442695040888963) % 2305843009213693951 = s' at hs0 hs1;have P:=nx.gen.put (c:=[]) (s:=s') (fun _ h=>by cases h) (by simp) hs0 hs1;rw [zHv (show M1[k]? = some (.lst (([]:List Int).map D.int)) from e2)] at P;refine ⟨_,zHr (k:=1) e1 (by simp),?_⟩;rw [zd,zAu];have e1':(M1.set n (.lst [.ref k,.int s']))[n]? = some (.lst [.ref k,.int s']):=zVs nx.gen.lt.1;refine zAi.mpr (zAi.mpr (zAi.mpr (zAi.mpr (sd rfl e1' (sd rfl e1' (zP7.mpr ⟨by simp [zNX] <;> omega,zCx.mpr (zGe.mpr ⟨by decide,zCx.mpr (zQB.mpr ⟨by decide,zAZ.mpr ⟨_,rfl,zGe.mpr ⟨h0,?_⟩⟩⟩)⟩)⟩))))));rw [zV];exact ⟨⟨_,rfl,Int.emod_nonneg _ (by omega),Int.emod_lt_of_pos _ h0⟩,nx.trans P⟩
 | cons x c=>
  simp only [List.isEmpty_cons,Bool.not_false,if_true];rw [zT,zk];refine zAi.mpr (hd rfl e1 e2 (zAZ.mpr ⟨_,rfl,zGe.mpr ⟨h0,?_⟩⟩));rw [zV,zd,zT,zJO];refine zAi.mpr (hd rfl e1 e2 (zAZ.mpr ⟨_,rfl,zQB.mpr ⟨⟨h0,h1⟩,?_⟩⟩));rw [zV];refine st (c:=c) rfl e1 (zCx.mpr ?_);rw [zV];refine ⟨_,zHr (k:=0) e2 (by simp),?_⟩;rw [zd,zAu];refine zAZ.mpr ⟨_,rfl,?_⟩;rw [zV,zD1];have hx:=e3 x zVC;have P:=nx.gen.put (c:=(x / m) :: c) (s:=s) (fun y hy=>by
   rcases zVA.mp hy with z | z
   ·subst z; exact Int.ediv_nonneg hx (by omega)
   ·exact e3 y (zVB _ z)) (by simpa using e4) e5 e6
  rw [zHv (k:=n) (by rw [zVS (Ne.symm nx.gen.ne)]; exact e1)] at P;exact ⟨⟨_,rfl,Int.emod_nonneg _ (by omega),Int.emod_lt_of_pos _ h0⟩,nx.trans P⟩
theorem zKx (ns:List Int) (lo hi:Option Int):∃ c:List Int,L3.zCW (ns.map D.int) lo hi = c.map D.int /\ c.length <= ns.length:=by
 refine ⟨(ns.drop (HT.sIx ns.length 0 lo)).take (HT.sIx ns.length ns.length hi - HT.sIx ns.length 0 lo),?_,?_⟩
 ·unfold L3.zCW;rw [zU7,List.map_take,List.map_drop]
 ·rw [zWM,zXR]; omega
theorem zEw (h:x :: r = c.map D.int):∃ y c',c = y :: c' /\ x = .int y /\ r = c'.map D.int:=by
 cases c with
 | nil=>cases h
 | cons y c'=>rw [zVH] at h; exact ⟨y,c',rfl,(zV2 h).1,(zV2 h).2⟩
theorem zAl:zBK none xs M:=trivial
theorem zAP (h:n <= 100000):n <= sizeLine:=zVP h (by decide)
theorem zPU {ns:List Int} (h:ns.length <= 63):Ok (zBp [.ref 0] [.fro (ns.map D.int)]) fun d M'=>d = .ref 2 /\ Gen M' 2 1 /\ M'[0]? = some (.fro (ns.map D.int)) /\ M'.length = 3:=by
 unfold zBp;rw [zAT];unfold zEH;show OkS (zX _ _ [some (.ref 0),none,none] _) _;have e0:([.fro (ns.map D.int)]:Mem)[0]? = some (.fro (ns.map D.int)):=rfl;obtain ⟨cut,ec,lc⟩:=zKx ns none (some 63);have sl:∀ {σ:Sd} {P:EV -> Mem -> Prop},σ[0]? = some (some (.ref 0)) -> P (.fl (cut.map D.int)) [.fro (ns.map D.int)] -> Ok (fSl (zD 0) zBc (zBN (fC (.int 63))) σ [.fro (ns.map D.int)]) P:=fun hσ p=>by
  refine zOo.mpr (zAZ.mpr ⟨_,hσ,zHY.mpr (zHk.mpr (zCx.mpr (zH5.mpr ?_)))⟩);rw [zJJ (zJ8 e0) rfl,ec]; exact p
 rw [zT,zk];refine zAi.mpr (zNV.mpr (zDg.mpr (zAZ.mpr ⟨_,rfl,zEn.mpr ((zR7 (zQ9 e0)).mpr (zCx.mpr (zGU.mpr ?_)))⟩)));rw [zV,zd,zT,zA8];obtain ⟨x,M1,ex,px⟩:=sl (σ:=[some (.ref 0),some (.int (((ns.map D.int).length:Int) + 3)),none]) (P:=fun x M=>x = .fl (cut.map D.int) /\ M = [.fro (ns.map D.int)]) rfl ⟨rfl,rfl⟩;obtain ⟨rfl,rfl⟩:=px;refine ⟨_,_,_,zGo ex zDz,?_⟩;refine zBi (I:=fun r σ M=>M = [.fro (ns.map D.int)] /\ (∃ c:List Int,r = c.map D.int) /\ ∃ s y,σ = [some (.ref 0),some (.int s),y] /\ 0 <= s /\ s < 2305843009213693951) ?_ ?_ _ _ _ ⟨rfl,⟨cut,rfl⟩,_,none,rfl,by simp; omega,by simp; omega⟩
 ·rintro x r σ M ⟨rfl,⟨c,hc⟩,s,y,rfl,h0,h1⟩;obtain ⟨z,c',rfl,rfl,rfl⟩:=zEw hc;refine ⟨zAl,_,rfl,?_⟩;rw [zk];refine zAi.mpr (zAi.mpr (zAi.mpr (zAi.mpr (zAZ.mpr ⟨_,rfl,zCx.mpr (zP7.mpr ⟨by simp [zNX],?_⟩)⟩))));refine zAi.mpr (zAZ.mpr ⟨_,rfl,zAi.mpr (zCx.mpr (zCx.mpr (zPC.mpr ⟨by decide,zGe.mpr ⟨by decide,zGU.mpr (zCx.mpr (zGU.mpr (zCx.mpr (zGe.mpr ⟨by decide,?_⟩))))⟩⟩)))⟩);rw [zV];exact ⟨rfl,⟨c',rfl⟩,_,_,rfl,Int.emod_nonneg _ (by decide),Int.emod_lt_of_pos _ (by decide)⟩
 ·rintro σ M ⟨rfl,_,s,y,rfl,h0,h1⟩;refine ⟨zAl,?_⟩;rw [zd,zAu,zJX,zBC,zA5,zFu];obtain ⟨x,M1,ex,px⟩:=sl (σ:=[some (.ref 0),some (.int s),y]) (P:=fun x M=>x = .fl (cut.map D.int) /\ M = [.fro (ns.map D.int)]) rfl ⟨rfl,rfl⟩;obtain ⟨rfl,rfl⟩:=px;refine ⟨_,_,_,zGo ex zDz,by rw [zU7]; exact zAP (by omega),?_⟩;refine Ok.mono (zEh (I:=fun r acc M=>M = [.fro (ns.map D.int)] /\ (∃ c:List Int,r = c.map D.int) /\ r.length + acc.length <= 63 /\ ∃ b:List Int,acc = b.map D.int /\ ∀ x ∈ b,0 <= x) (Q:=fun acc M=>M = [.fro (ns.map D.int)] /\ acc.length <= 63 /\ ∃ b:List Int,acc = b.map D.int /\ ∀ x ∈ b,0 <= x) ?_ ?_ _ [] _ ⟨rfl,⟨cut,rfl⟩,by simp; omega,[],rfl,fun _ h=>by cases h⟩) ?_
  ·rintro x r acc M ⟨rfl,⟨c,hc⟩,hl,b,rfl,hb⟩;obtain ⟨z,c',rfl,rfl,rfl⟩:=zEw hc;refine ⟨zAl,_,rfl,?_⟩;refine zKD.mpr (zAi.mpr (zNV.mpr (zDg.mpr (zAZ.mpr ⟨_,rfl,zEn.mpr (zRx.mpr (zAi.mpr (zCx.mpr (zCx.mpr (zPC.mpr ⟨by decide,zUl.mpr (zEV.mpr ?_)⟩)))))⟩))));by_cases hz:(10:Int) ^ (18:Int).toNat <= (if z < 0 then -z else z)
   ·rw [zVD (by simpa using hz)];refine zNV.mpr (zDg.mpr (zAZ.mpr ⟨_,rfl,zEn.mpr (zRx.mpr (zV.mpr ⟨rfl,⟨c',rfl⟩,?_,b ++ [if z < 0 then -z else z],by simp,?_⟩))⟩))
    ·simp at hl ⊢; omega
    ·intro y hy;rcases zVO.mp hy with q | q
     ·exact hb y q
     ·have:y = if z < 0 then -z else z:=by simpa using q
      rw [this]; split <;> omega
   ·rw [zVG (by simpa using hz)];exact ⟨rfl,⟨c',rfl⟩,by simp at hl ⊢; omega,b,rfl,hb⟩
  ·rintro acc M ⟨rfl,_,hl,hb⟩;exact ⟨zAl,rfl,by simpa using hl,hb⟩
  ·rintro ys M ⟨rfl,hl,b,hb,hp⟩;rw [List.nil_append] at hb hl;subst hb;rw [zGs,zBC,zA5,zAZ];refine ⟨_,rfl,?_⟩;rw [zV,zCl];refine ⟨zAP (by simp),?_⟩;rw [zGs];refine ⟨rfl,⟨⟨b,s,rfl,rfl,hp,by simpa using hl,h0,h1⟩,by decide,?_⟩,rfl,rfl⟩;intro j u e;match j,e with
   | 0,e=>cases e; exact zAQ _ _
   | 1,e=>cases e; exact zAQ _ _
   | 2,e=>cases e; rfl
   | j + 3,e=>simp at e
mutual
theorem zDb (h:a <= b):∀ {d:D},D.und a d = true -> D.und b d = true
 | .non,_=>by unfold D.und; rfl
 | .bl _,_=>by unfold D.und; rfl
 | .int _,_=>by unfold D.und; rfl
 | .str _,_=>by unfold D.und; rfl
 | .tup ds,e=>by unfold D.und at e ⊢; exact zCo h e
 | .ref k,e=>by unfold D.und at e ⊢; simp at e ⊢; omega
theorem zCo (h:a <= b):∀ {ds:List D},D.unds a ds = true -> D.unds b ds = true
 | [],_=>by unfold D.unds; rfl
 | d :: ds,e=>by
  unfold D.unds at e ⊢;rw [zVY] at e ⊢;exact ⟨zDb h e.1,zCo h e.2⟩
end
theorem zGK (h:a <= b) (e:MO.und a u = true):MO.und b u = true:=by
 cases u with
 | lst xs=>exact zCo h e
 | fro xs=>exact zCo h e
 | set xs=>exact zCo h e
 | dict kvs=>
  unfold MO.und at e ⊢;rw [zVZ] at e ⊢;intro p hp;have:=e p hp;rw [zVY] at this ⊢;exact ⟨zDb h this.1,zDb h this.2⟩
 | dicT kvs=>
  unfold MO.und at e ⊢;rw [zVZ] at e ⊢;intro p hp;have:=e p hp;rw [zVY] at this ⊢;exact ⟨zDb h this.1,zDb h this.2⟩
theorem zHI:∀ {xs ys:List D},D.unds n (xs ++ ys) = (D.unds n xs && D.unds n ys)
 | [],ys=>by simp [D.unds]
 | x :: xs,ys=>by
  show (D.und n x && D.unds n (xs ++ ys)) = ((D.und n x && D.unds n xs) && D.unds n ys);rw [zHI,Bool.and_assoc]
theorem zHE:∀ {xs:List D},(∀ x ∈ xs,D.und n x = true) -> D.unds n xs = true
 | [],_=>rfl
 | x :: xs,h=>by
  show (D.und n x && D.unds n xs) = true;rw [h x zVC,zHE fun y hy=>h y (zVB _ hy)]; rfl
theorem zC0 (c:List Int):D.und n (.tup (c.map D.int)) = true:=by unfold D.und; exact zAQ n c
theorem Gen.app (h:Gen A n k) (hu:∀ u ∈ us,MO.und (A.length + us.length) u = true):Gen (A ++ us) n k:=by
 obtain ⟨c,s,e1,e2,r⟩:=h.ex;obtain ⟨hn,hk⟩:=h.lt;refine ⟨⟨c,s,by rw [zU5 hn]; exact e1,by rw [zU5 hk]; exact e2,r⟩,h.ne,fun j u e=>?_⟩;rw [zVE];by_cases hj:j < A.length
 ·rw [zU5 hj] at e;exact zGK (by omega) (h.wf j u e)
 ·rw [zV8 (by omega)] at e;exact hu u (List.mem_of_getElem? e)
theorem zAU (h:Gen M n k) (ha:fa σ M = some (.dat (.ref n),M)) (hb:fb σ M = some (.dat (.int m),M)) (h0:0 < m) (h1:m < 1073741824)
  (q:∀ i M',0 <= i -> i < m -> Nx M M' n k -> P (.dat (.int i)) M'):Ok (zb zZ (zF (toD fa) (zF (toD fb) zM)) σ M) P:=by
 rw [zCf,zBC,zA5];refine ⟨_,_,ha,?_⟩;rw [zV,zBC,zA5];refine ⟨_,_,hb,?_⟩;rw [zV,zCl];refine Ok.mono (zF2 h h0 h1) ?_;rintro d M' ⟨⟨i,rfl,i0,i1⟩,nx⟩;exact q i M' i0 i1 nx
def zC4 (i:Nat):Nat -> List D
 | 0=>[]
 | n + 1=> .int i :: zC4 (i + 1) n
theorem zJi (n:Nat):∀ i,((List.range' i n).map fun (k:Nat)=>D.int k) = zC4 i n:=by
 induction n with
 | zero=>intro i; rfl
 | succ n ih=>intro i; rw [List.range'_succ,zVH,ih]; rfl
theorem zEM (n:Nat):((List.range n).map fun (k:Nat)=>D.int k) = zC4 0 n:=by rw [List.range_eq_range',zJi]
theorem zDS:∀ (n i:Nat),(zC4 i n).length = n
 | 0,_=>rfl
 | n + 1,i=>by show (zC4 (i + 1) n).length + 1 = _; rw [zDS n]
theorem zEe (n:Nat) (I:Nat -> Sd -> Mem -> Prop)
  (hs:∀ i σ M,i < n -> I i σ M -> ∃ σ1,g (.int i) σ = some σ1 /\ OkS (b σ1 M) fun o σ2 M2=>match o with | .nx=>I (i + 1) σ2 M2 | .cnt=>I (i + 1) σ2 M2 | .brk=>P .nx σ2 M2 | .ret d=>P (.ret d) σ2 M2)
  (he:∀ σ M,I n σ M -> P .nx σ M) (σ:Sd) (M:Mem) (h0:I 0 σ M):OkS (zDJ g b all none (zC4 0 n) σ M) P:=by
 refine zBi (I:=fun r σ M=>∃ i,i <= n /\ r = zC4 i (n - i) /\ I i σ M) ?_ ?_ _ _ _ ⟨0,zVk _,by simp,h0⟩
 ·rintro x r σ M ⟨i,hi,e,hI⟩;have hlt:i < n:=by
   rcases Nat.lt_or_ge i n with z | z
   ·exact z
   ·rw [show n - i = 0 by omega] at e; cases e
  rw [show n - i = (n - (i + 1)) + 1 by omega] at e;obtain ⟨rfl,rfl⟩:=zV2 e;obtain ⟨σ1,e1,q⟩:=hs i σ M hlt hI;refine ⟨zAl,σ1,e1,OkS.mono q ?_⟩;intro o σ2 M2 z;cases o with
  | nx=>exact ⟨i + 1,hlt,rfl,z⟩
  | cnt=>exact ⟨i + 1,hlt,rfl,z⟩
  | brk=>exact z
  | ret d=>exact z
 ·rintro σ M ⟨i,hi,e,hI⟩;have:i = n:=by
   rcases Nat.lt_or_ge i n with z | z
   ·rw [show n - i = (n - (i + 1)) + 1 by omega] at e; cases e
   ·omega
  subst this;exact ⟨zAl,he σ M hI⟩
theorem zOW (n:Nat) (I:Nat -> List D -> Mem -> Prop)
  (hs:∀ i acc M,i < n -> I i acc M -> ∃ σ1,g (.int i) σ = some σ1 /\ Ok (te σ1 M) (zH7 fun d M2=>I (i + 1) (acc ++ [d]) M2)) (h0:I 0 [] M) :
  Ok (zBB g zAE te σ all none (zC4 0 n) M) fun ys M1=>I n ys M1:=by
 refine Ok.mono (zEh (I:=fun r acc M=>∃ i,i <= n /\ r = zC4 i (n - i) /\ I i acc M) (Q:=fun acc M=>I n acc M) ?_ ?_ _ [] _ ⟨0,zVk _,by simp,h0⟩) fun ys M1 q=>by simpa using q
 ·rintro x r acc M ⟨i,hi,e,hI⟩;have hlt:i < n:=by
   rcases Nat.lt_or_ge i n with z | z
   ·exact z
   ·rw [show n - i = 0 by omega] at e; cases e
  rw [show n - i = (n - (i + 1)) + 1 by omega] at e;obtain ⟨rfl,rfl⟩:=zV2 e;obtain ⟨σ1,e1,q⟩:=hs i acc M hlt hI;refine ⟨zAl,σ1,e1,zLQ.mpr ?_⟩;rw [zVD rfl];refine Ok.mono q ?_;intro x M2 z;cases x with
  | dat d=>exact ⟨i + 1,hlt,rfl,z⟩
  | fl xs=>exact ⟨i + 1,hlt,rfl,z⟩
 ·rintro acc M ⟨i,hi,e,hI⟩;have:i = n:=by
   rcases Nat.lt_or_ge i n with z | z
   ·rw [show n - i = (n - (i + 1)) + 1 by omega] at e; cases e
   ·omega
  subst this;exact ⟨zAl,hI⟩
theorem zBA (e:f σ M = some (.dat (.int j),M)) (h1:0 <= j) (h2:j < 2 ^ 62):zAM (zF (toD f) zM) σ M = some (zC4 0 j.toNat,none,M):=by
 have e':(zF (toD f) zM) σ M = some ([.int j],M):=by unfold zF toD zM; rw [e]
 rw [zHe e' h1 h2,zEM]
def mD (zA:List (List Int)):D:=.tup (zA.map fun r=> .tup (r.map D.int))
structure IsM (zA:List (List Int)) (l:Nat):Prop where
 r0:0 < zA.length
 l0:0 < l
 row:∀ r ∈ zA,r.length = l /\ ∀ g ∈ r,0 <= g /\ g < zA.length
theorem zJK (zA:List (List Int)):D.und n (mD zA) = true:=by
 unfold mD D.und;refine zHE fun x hx=>?_;obtain ⟨r,_,rfl⟩:=zVF.mp hx;exact zC0 r
theorem zg {α:Type} {x:Option (α × Mem)} {a:α} {M:Mem} (h:Ok x fun b M'=>b = a /\ M' = M):x = some (a,M):=by
 obtain ⟨b,M',e,rfl,rfl⟩:=h; exact e
theorem zK {α:Type} {x:Option (α × Mem)} {a:α} {M:Mem} {P:α -> Mem -> Prop} (h:x = some (a,M)) (p:P a M):Ok x P:=⟨a,M,h,p⟩
theorem zCN {c:FT} {a g:FS} {σ:Sd} {M:Mem} {P:Out -> Sd -> Mem -> Prop} (hc:c σ M = some (false,M)) (h:OkS (g σ M) P):OkS (zX (sIf c a zBP) g σ M) P:=by
 rw [zT,zBV];refine zK hc ?_;rw [zVG (by decide),zBM];exact h
theorem zDc {c:FT} {a:FS} {σ:Sd} {M:Mem} {P:Out -> Sd -> Mem -> Prop} (hc:c σ M = some (false,M)) (h:P .nx σ M):OkS (sIf c a zBP σ M) P:=by
 rw [zBV];refine zK hc ?_;rw [zVG (by decide),zBM];exact h
theorem zCA {f:FE} {σ:Sd} {M M':Mem} {k:Bool} (h:f σ M = some (.dat (.bl k),M')):zDm (tst f) σ M = some (!k,M'):=by
 unfold zDm tst; rw [h]
theorem zh {f:FE} {σ:Sd} {M:Mem} {d:D} (h:f σ M = some (.dat d,M)):zF (toD f) zM σ M = some ([d],M):=by
 unfold zF toD zM; rw [h]
theorem zj {f:FE} {g:FA} {σ:Sd} {M:Mem} {d:D} {ds:List D} (h:f σ M = some (.dat d,M)) (hg:g σ M = some (ds,M)):zF (toD f) g σ M = some (d :: ds,M):=by
 unfold zF toD; rw [h]; dsimp only; rw [hg]
theorem z0 {m:FF} {a:FA} {σ:Sd} {M M':Mem} {ds:List D} {d:D} (h:a σ M = some (ds,M)) (hm:m ds M = some (d,M')):zb m a σ M = some (.dat d,M'):=by
 unfold zb; rw [h]; dsimp only; rw [hm]
theorem zf {k:K2} {f g:FE} {σ:Sd} {M:Mem} {x y:EV} {r:Option (EV × Mem)} (hf:f σ M = some (x,M)) (hg:g σ M = some (y,M)) (hk:k x y M = r):fOp k f g σ M = r:=by
 unfold fOp; rw [hf]; dsimp only; rw [hg]; exact hk
theorem zCX {x:EV} {xs:List D} {i:Int} {d:D} {M:Mem} (h:zBX M x = some xs) (hd:atI xs i = some d):kIx x (.dat (.int i)) M = some (.dat d,M):=zg (zOd h hd ⟨rfl,rfl⟩)
theorem zB8 {f:FE} {x:EV} {xs:List D} {σ:Sd} {M:Mem} (hf:f σ M = some (x,M)) (h:zBX M x = some xs):fB zA3 (zY f zt) σ M = some (.dat (.int xs.length),M):=by
 unfold fB zY zt; rw [hf]; exact zg ((zR7 h).mpr ⟨rfl,rfl⟩)
def zAG (zA:List (List Int)) (h g:Int):Int:=(zA.getD h.toNat []).getD g.toNat 0
theorem zPL {zA:List (List Int)} {h:Int} (h0:0 <= h) (h1:h < zA.length):atI (zA.map fun r=>D.tup (r.map D.int)) h = some (.tup ((zA.getD h.toNat []).map D.int)):=by
 refine zFC h0 ?_;rw [zVL,zU3,zU2 (by omega)];rfl
theorem zMA {r:List Int} {g:Int} (h0:0 <= g) (h1:g < r.length):atI (r.map D.int) g = some (.int (r.getD g.toNat 0)):=by
 refine zFC h0 ?_;rw [zVL,zU3,zU2 (by omega)];rfl
theorem IsM.get {zA:List (List Int)} {l:Nat} (m:IsM zA l) {h:Int} (h0:0 <= h) (h1:h < zA.length):(zA.getD h.toNat []).length = l /\ ∀ g ∈ zA.getD h.toNat [],0 <= g /\ g < zA.length:=by
 refine m.row _ ?_;rw [zU3,zU2 (by omega)];exact zVW _
theorem IsM.step {zA:List (List Int)} {l:Nat} (m:IsM zA l) {h g:Int} (h0:0 <= h) (h1:h < zA.length) (g0:0 <= g) (g1:g < l):0 <= zAG zA h g /\ zAG zA h g < zA.length:=by
 obtain ⟨q1,q2⟩:=m.get h0 h1;refine q2 _ ?_;unfold zAG;rw [zU3 (l:=zA.getD h.toNat []),zU2 (by omega)];exact zVW _
theorem IsM.ix {zA:List (List Int)} {l:Nat} (m:IsM zA l) {h g:Int} (h0:0 <= h) (h1:h < zA.length) (g0:0 <= g) (g1:g < l) {f1 f2 f3:FE} {σ:Sd} {M:Mem} (e1:f1 σ M = some (.dat (mD zA),M)) (e2:f2 σ M = some (.dat (.int h),M)) (e3:f3 σ M = some (.dat (.int g),M)) :
  fOp kIx (fOp kIx f1 f2) f3 σ M = some (.dat (.int (zAG zA h g)),M):=by
 obtain ⟨q1,_⟩:=m.get h0 h1;exact zf (zf e1 e2 (zCX zAr (zPL h0 h1))) e3 (zCX zAr (zMA g0 (by omega)))
theorem zTI {σ:Sd} {M:Mem} {ns:List Int} {j:Nat} {i:Int} (hσ:σ[i.toNat]? = σ[i.toNat]?) (hi:zD j σ M = some (.dat (.ref 0),M)) (h0:M[0]? = some (.fro (ns.map D.int))):∃ c:List Int,fSl (zD j) zBc (zBN (fC (.int i))) σ M = some (.fl (c.map D.int),M) /\ c.length <= ns.length:=by
 obtain ⟨c,ec,lc⟩:=zKx ns none (some i);refine ⟨c,zg (zOo.mpr (zK hi (zHY.mpr (zHk.mpr (zCx.mpr (zH5.mpr ?_)))))),lc⟩;rw [zJJ (zJ8 h0) rfl,ec]; exact ⟨rfl,rfl⟩
theorem zCK (hf:f σ M = some (x,M)) (ht:zG8 M x = some t):zFK T f σ M = some (.dat (.bl (isT t T)),M):=by
 unfold zFK; rw [hf]; dsimp only; rw [ht]
theorem zBI (h:f σ M = some (.dat (.bl k),M')):tst f σ M = some (k,M'):=by unfold tst; rw [h]
theorem zA7 (hc:c σ M = some (true,M)) (h:OkS (a σ M) (nxP (fun σ1 M1=>OkS (g σ1 M1) P) P)):OkS (zX (sIf c a b) g σ M) P:=by
 rw [zT,zBV];refine zK hc ?_;rw [zVD rfl];exact h
theorem zAJ (hf:f σ M = some (.dat d,M)) (h:P (.ret d) σ M):OkS (zAN f σ M) P:=by
 rw [zAu]; exact zK hf h
theorem zPY (h:(zGc d).isSome = true):kEq (.dat d) (.dat d) M = some (.dat (.bl true),M):=by
 cases d with
 | tup _=>cases h
 | ref _=>cases h
 | non=>rfl
 | bl k=>cases k <;> rfl
 | int i=>show some (EV.dat (.bl (decide (V.int i = V.int i))),M) = _; simp
 | str x=>show some (EV.dat (.bl (decide (V.str x = V.str x))),M) = _; simp
theorem zCw {α:Type} (as:List α) (enc out:α -> D) (hi:fi σ M = some (as.map enc,gd,M)) (hgd:zBK gd (as.map enc) M) (hz:as.length <= 100000)
  (he:∀ a ∈ as,∃ σ1,g (enc a) (zCI own σ) = some σ1 /\ te σ1 M = some (.dat (out a),M)):zAc own fi g zAE te σ M = some (.fl (as.map out),M):=by
 refine zg (zFu.mpr ⟨_,_,_,hi,by rw [zU7]; exact zAP hz,?_⟩);refine Ok.mono (zEh (I:=fun r acc M'=>M' = M /\ ∃ ra rb:List α,as = rb ++ ra /\ r = ra.map enc /\ acc = rb.map out) (Q:=fun acc M'=>M' = M /\ acc = as.map out) ?_ ?_ _ [] _ ⟨rfl,as,[],rfl,rfl,rfl⟩) ?_
 ·rintro x r acc M' ⟨rfl,ra,rb,hab,hr,rfl⟩;cases ra with
  | nil=>cases hr
  | cons a ra=>
   rw [zVH] at hr;obtain ⟨rfl,rfl⟩:=zV2 hr;obtain ⟨σ1,e1,e2⟩:=he a (by rw [hab]; simp);refine ⟨hgd,σ1,e1,zLQ.mpr ?_⟩;rw [zVD rfl];refine zK e2 ?_;rw [zV];exact ⟨rfl,ra,rb ++ [a],by rw [hab]; simp,rfl,by simp⟩
 ·rintro acc M' ⟨rfl,ra,rb,hab,hr,rfl⟩;cases ra with
  | nil=>rw [zVi] at hab; subst hab; exact ⟨hgd,rfl,rfl⟩
  | cons a ra=>cases hr
 ·rintro ys M' ⟨rfl,h⟩;rw [List.nil_append] at h;subst h;exact ⟨rfl,rfl⟩
theorem zF0 (hf:f σ M = some (x,M)) (h:zBX M x = some xs):fB zBQ (zY f zt) σ M = some (.dat (.tup xs),M):=by
 unfold fB zY zt; rw [hf]; exact zg ((zGp h).mpr ⟨rfl,rfl⟩)
theorem zDN (hf:f σ M = some (.dat (.tup xs),M)):zAv f σ M = some (xs,none,M):=zGo hf zAr
theorem zLo (n:Nat):zC4 0 n = (List.range n).map fun (k:Nat)=>D.int k:=(zEM n).symm
theorem zNp (e:f σ M = some (.dat (.int j),M)) (h1:0 <= j) (h2:j < 2 ^ 62):zAM (zF (toD f) zM) σ M = some ((List.range j.toNat).map (fun (k:Nat)=>D.int k),none,M):=by
 rw [zBA e h1 h2,zLo]
theorem zDU (hf:f σ M = some (.dat d,M)) (h:OkS (g (σ.set i (some d)) M) P):OkS (zX (zAR i f) g σ M) P:=by
 rw [zT,zk]; exact zK hf h
theorem zHW {α β:Type} (f:α -> β) (d:α):∀ xs:List α,(List.range xs.length).map (fun i=>f (xs.getD i d)) = xs.map f
 | []=>rfl
 | x :: xs=>by
  rw [zVV,List.range_succ_eq_map,zVH,zVM,zVH,<- zHW f d xs];rfl
open ST
def ris (xs:List Int):List Int:=zD8 (zBd xs)
theorem zFj (xs:List Int) (x:Int):x ∈ ris xs ↔ x ∈ xs:=by
 unfold ris; rw [(zCJ _).mem_iff,zL5]
theorem zJ3 (xs:List Int):(ris xs).Pairwise (· < ·):=by
 have h1:=zHM (zBd xs);have h2:(ris xs).Nodup:=(zCJ _).nodup_iff.mpr (zJN xs);unfold ris at h2 ⊢;exact (h1.and h2).imp fun {a b} h=>by have:=h.1; have:=h.2; omega
theorem zGR:∀ {xs ys:List Int},xs.Pairwise (· < ·) -> ys.Pairwise (· < ·) -> (∀ x,x ∈ xs ↔ x ∈ ys) -> xs = ys
 | [],[],_,_,_=>rfl
 | [],y :: ys,_,_,h=>by have:=(h y).mpr zVC; cases this
 | x :: xs,[],_,_,h=>by have:=(h x).mp zVC; cases this
 | x :: xs,y :: ys,h1,h2,h=>by
  have hx:=List.pairwise_cons.mp h1;have hy:=List.pairwise_cons.mp h2;have e:x = y:=by
   have a:=(h x).mp zVC;have b:=(h y).mpr zVC;rcases zVA.mp a with z | z
   ·exact z
   ·rcases zVA.mp b with q | q
    ·exact q.symm
    ·have:=hx.1 y q; have:=hy.1 x z; omega
  subst e;rw [zGR hx.2 hy.2 fun z=>?_];constructor
  ·intro hz;rcases zVA.mp ((h z).mp (zVB _ hz)) with q | q
   ·subst q; have:=hx.1 _ hz; omega
   ·exact q
  ·intro hz;rcases zVA.mp ((h z).mpr (zVB _ hz)) with q | q
   ·subst q; have:=hy.1 _ hz; omega
   ·exact q
theorem zJ6 (h:∀ x,x ∈ xs ↔ x ∈ ys):ris xs = ris ys:=zGR (zJ3 xs) (zJ3 ys) fun x=>by rw [zFj,zFj]; exact h x
theorem zLg (h:xs.Pairwise (· < ·)):ris xs = xs:=zGR (zJ3 xs) h fun x=>zFj xs x
theorem zM6 (xs:List Int):(ris xs).length <= xs.length:=by
 unfold ris; rw [(zCJ _).length_eq]; exact zFA xs
theorem zS7 (h:0 < xs.length):0 < (ris xs).length:=by
 cases xs with
 | nil=>cases h
 | cons x r=>exact List.length_pos_of_mem ((zFj (x :: r) x).mpr zVC)
theorem zQz (h:zAc own fi g tc te σ M = some (.fl (ks.map D.int),M)) (hz:ks.length <= 4000):zIY own fi g tc te σ M = some (zBd ks,M):=by
 unfold zIY; rw [h]; dsimp only; rw [zHf]; dsimp only; rw [zVD (by unfold scanBound; omega)]
theorem zQH (h:fz σ M = some (zBd ks,M)) (hz:(zBd ks).length < 64):zHQ fz σ M = some (.fl ((ris ks).map D.int),M):=by
 unfold zHQ; rw [h]; dsimp only; rw [zVD hz]; rfl
noncomputable def zF5:FS:=(zAN (fB zBQ (zY (zHQ (zIY [3] (zAv (zD 1)) (gN 3) zAE (fOp kIx (fOp kIx (zD 0) (zD 3)) (zD 2)))) zt)))
noncomputable def zBZ:FF:=zHK (zBe 4 zF5)
def setR (zA:List (List Int)) (S:List Int) (g:Int):List Int:=ris (S.map fun h=>zAG zA h g)
def zTm (zA:List (List Int)) (S word:List Int):List Int:=word.foldl (setR zA) S
structure IsS (zA:List (List Int)) (S:List Int):Prop where
 pw:S.Pairwise (· < ·)
 n0:0 < S.length
 mem:∀ x ∈ S,0 <= x /\ x < (zA.length:Int)
theorem zO5:∀ {S:List Int} {a:Int} {n:Nat},S.Pairwise (· < ·) -> (∀ x ∈ S,a <= x /\ x < a + (n:Int)) -> S.length <= n
 | [],_,_,_,_=>zVk _
 | x :: S,a,n,h,hm=>by
  have hx:=List.pairwise_cons.mp h;obtain ⟨m0,m1⟩:=hm x zVC;have hn:0 < n:=by omega
  have:=zO5 (S:=S) (a:=x + 1) (n:=(a + n - (x + 1)).toNat) hx.2 fun y hy=>by
   have:=hx.1 y hy;have:=(hm y (zVB _ hy)).2;omega
  simp only [zVV]; omega
theorem IsS.len (h:IsS zA S):S.length <= zA.length:=zO5 h.pw (a:=0) fun x hx=>by have:=h.mem x hx; omega
theorem IsM.setR {zA:List (List Int)} {l:Nat} (m:IsM zA l) {S:List Int} (s:IsS zA S) {g:Int} (g0:0 <= g) (g1:g < l):IsS zA (setR zA S g):=by
 refine ⟨zJ3 _,zS7 (by rw [zU7]; exact s.n0),fun x hx=>?_⟩;obtain ⟨y,hy,rfl⟩:=zVF.mp ((zFj _ _).mp hx);obtain ⟨y0,y1⟩:=s.mem y hy;exact m.step y0 y1 g0 g1
def tI (xs:List Int):D:=.tup (xs.map D.int)
theorem zMb {zA:List (List Int)} {l:Nat} (m:IsM zA l) (hR:zA.length < 64) {S:List Int} (s:IsS zA S) {g:Int} (g0:0 <= g) (g1:g < l) {M:Mem}:zBZ [mD zA,tI S,.int g] M = some (tI (setR zA S g),M):=by
 refine zg ?_;unfold zBZ;refine zJm (by unfold D.unds D.unds D.unds D.unds; rw [zJK]; simp [tI,zC0,D.und,zAQ]) ?_;rw [zAT];unfold zF5;have hl:=s.len;have hz:(zBd (S.map fun h=>zAG zA h g)).length < 64:=by have:=zFA (S.map fun h=>zAG zA h g); rw [zU7] at this; omega
 refine zAJ (d:=tI (setR zA S g)) ?_ ⟨by unfold tI; exact zC0 _,rfl,rfl⟩;refine zF0 (zQH (ks:=S.map fun h=>zAG zA h g) (zQz ?_ (by rw [zU7]; omega)) hz) zDz;refine (zCw S D.int (fun h=> .int (zAG zA h g)) (zDN rfl) trivial (by omega) fun h hh=>⟨_,rfl,?_⟩).trans ?_
 ·obtain ⟨h0,h1⟩:=s.mem h hh;exact m.ix h0 h1 g0 g1 rfl rfl rfl
 ·rw [zVM]; rfl
end Law
namespace Law
open PySem PySem.Spec PyProof.Rows L2 L3 ST
theorem zHm (hgd:zBK gd all M) (hg:g x σ = some σ1) (hk:tk σ1 M = some (.dat k,M)) (hv:tv σ1 M = some (.dat v,M)) (hp:zFv M n k v = some M'):zDe g zAE tk tv σ n all gd (x :: r) M = zDe g zAE tk tv σ n all gd r M':=by
 rw [zDe];rw [zVD hgd,hg];have et:zAE σ1 M = some (true,M):=rfl;have e1:toD tk σ1 M = some (k,M):=by unfold toD; rw [hk]
 have e2:toD tv σ1 M = some (v,M):=by unfold toD; rw [hv]
 dsimp only;rw [et]; dsimp only;rw [e1]; dsimp only;rw [e2]; dsimp only;rw [hp]
theorem zIa (hgd:zBK gd all M):zDe g tc tk tv σ n all gd [] M = some M:=by
 rw [zDe,zVD hgd]
theorem zBv (e:f σ M = some (.dat (mD zA),M)):fB zA3 (zY f zt) σ M = some (.dat (.int zA.length),M):=by
 have:=zB8 e zAr;rw [zU7] at this; exact this
theorem zGw (m:IsM zA l) (e:f σ M = some (.dat (mD zA),M)):fB zA3 (zY (fOp kIx f (fC (.int 0))) zt) σ M = some (.dat (.int l),M):=by
 have r0:=m.r0;have:=zB8 (zf (g:=fC (.int 0)) e rfl (zCX zAr (zPL (h:=0) (by omega) (by omega)))) zAr;rw [zU7,(m.get (h:=0) (by omega) (by omega)).1] at this; exact this
theorem zLT (e:f σ M = some (.dat (tI xs),M)):fB zA3 (zY f zt) σ M = some (.dat (.int xs.length),M):=by
 have:=zB8 e zAr;rw [zU7] at this; exact this
noncomputable def zE8:FS:=(zAN (zII (zFK "int" (zD 0)) (zM8 (zFK "bool" (zD 0)))))
noncomputable def zC3:FF:=zBe 1 zE8
noncomputable def zFH:FS:=(zAN (zII (zb zC3 (zF (toD (zD 0)) zM)) (zF8 kLe kLt (fC (.int 0)) (zD 0) (zD 1))))
noncomputable def zC6:FF:=zBe 2 zFH
noncomputable def zCH:FS:=(zAN (zII (zFK "tuple" (zD 0)) (fB zK2 (zY (zAc [2] (zAv (zD 0)) (gN 2) zAE (zb zC6 (zF (toD (zD 2)) (zF (toD (zD 1)) zM)))) zt))))
noncomputable def zA0:FF:=zBe 3 zCH
mutual
def Vd (M:Mem):D -> Prop
 | .ref n=>∃ t,zG8 M (.dat (.ref n)) = some t /\ (t = "list" \/ t = "dict")
 | .tup ds=>ds.length <= 100000 /\ Vds M ds
 | _=>True
def Vds (M:Mem):List D -> Prop
 | []=>True
 | d :: ds=>Vd M d /\ Vds M ds
end
theorem Vds.mem:∀ {ds:List D},Vds M ds -> ∀ d ∈ ds,Vd M d
 | [],_,d,h=>by cases h
 | x :: ds,hv,d,h=>by
  unfold Vds at hv;rcases zVA.mp h with q | q
  ·subst q; exact hv.1
  ·exact Vds.mem hv.2 d q
theorem Vds.of:∀ {ds:List D},(∀ d ∈ ds,Vd M d) -> Vds M ds
 | [],_=>trivial
 | x :: ds,h=>⟨h x zVC,Vds.of fun d hd=>h d (zVB _ hd)⟩
def zET:D -> Bool
 | .int _=>true
 | _=>false
def zCc (n:Int):D -> Bool
 | .int i=>decide (0 <= i) && decide (i < n)
 | _=>false
def tbD (n:Int):D -> Bool
 | .tup ds=>ds.all (zCc n)
 | _=>false
def zKw:D -> Nat
 | .tup ds=>ds.length
 | _=>0
def zTH:D -> Bool
 | .tup _=>true
 | _=>false
theorem zGx (out:D -> D) (hf:f σ M = some (.dat (.tup ds),M)) (hz:ds.length <= 100000)
  (he:∀ a ∈ ds,∃ σ1,g a (zCI own σ) = some σ1 /\ te σ1 M = some (.dat (out a),M)):zAc own (zAv f) g zAE te σ M = some (.fl (ds.map out),M) :=
 zCw (gd:=none) ds id out (by rw [List.map_id]; exact zDN hf) trivial hz he
theorem Vd.ty (h:Vd M d):∃ t,zG8 M (.dat d) = some t /\ isT t "tuple" = zTH d /\ (isT t "int" && !isT t "bool") = zET d:=by
 cases d with
 | non=>exact ⟨_,rfl,(show isT "NoneType" "tuple" = false by decide),(show (isT "NoneType" "int" && !isT "NoneType" "bool") = false by decide)⟩
 | bl k=>exact ⟨_,rfl,(show isT "bool" "tuple" = false by decide),(show (isT "bool" "int" && !isT "bool" "bool") = false by decide)⟩
 | int i=>exact ⟨_,rfl,(show isT "int" "tuple" = false by decide),(show (isT "int" "int" && !isT "int" "bool") = true by decide)⟩
 | str x=>exact ⟨_,rfl,(show isT "str" "tuple" = false by decide),(show (isT "str" "int" && !isT "str" "bool") = false by decide)⟩
 | tup ds=>exact ⟨_,rfl,(show isT "tuple" "tuple" = true by decide),(show (isT "tuple" "int" && !isT "tuple" "bool") = false by decide)⟩
 | ref n=>
  unfold Vd at h;obtain ⟨t,e,h⟩:=h;rcases h with rfl | rfl
  ·exact ⟨_,e,(show isT "list" "tuple" = false by decide),(show (isT "list" "int" && !isT "list" "bool") = false by decide)⟩
  ·exact ⟨_,e,(show isT "dict" "tuple" = false by decide),(show (isT "dict" "int" && !isT "dict" "bool") = false by decide)⟩
theorem zDO (hf:f σ M = some (.dat (.bl a),M)) (hg:a = true -> g σ M = some (.dat (.bl b),M)):zII f g σ M = some (.dat (.bl (a && b)),M):=by
 unfold zII; rw [hf];cases a with
 | true=>exact hg rfl
 | false=>rfl
theorem zM1 (hf:f σ M = some (.dat (.bl a),M)):zM8 f σ M = some (.dat (.bl (!a)),M):=by unfold zM8; rw [hf]
theorem zFa (h:f (ds.map some ++ List.replicate (n - ds.length) none) M = some (.dat d,M)):zBe n (zAN f) ds M = some (d,M):=by
 refine zg ?_;rw [zAT];exact zAJ h ⟨rfl,rfl⟩
theorem zQT (h:Vd M d):zC3 [d] M = some (.bl (zET d),M):=by
 obtain ⟨t,e,_,q⟩:=h.ty;unfold zC3 zE8;refine zFa ?_;rw [<- q];exact zDO (zCK rfl e) fun _=>zM1 (zCK rfl e)
theorem zQa (h:Vd M d):zC6 [d,.int n] M = some (.bl (zCc n d),M):=by
 unfold zC6 zFH;refine zFa ?_;have hw:=z0 (σ:=[some d,some (.int n)]) (a:=zF (toD (zD 0)) zM) (zh rfl) (zQT h);have e:zCc n d = (zET d && zCc n d):=by cases d <;> rfl
 rw [e];refine zDO hw fun hi=>?_;cases d with
 | int i=>
  refine zg (zO2.mpr (zCx.mpr (zAZ.mpr ⟨_,rfl,zUT.mpr (zEV.mpr ?_)⟩)));by_cases h0:0 <= i
  ·rw [zVD (by simpa using h0)];refine zAZ.mpr ⟨_,rfl,zPM.mpr ⟨?_,rfl⟩⟩;simp [zCc,h0]
  ·rw [zVG (by simpa using h0)];exact ⟨by simp [zCc,h0],rfl⟩
 | _=>cases hi
theorem zH0 {bs:List Bool} (h:f σ M = some (.fl (bs.map D.bl),M)):fB zK2 (zY f zt) σ M = some (.dat (.bl (bs.all id)),M):=by
 unfold fB zY zt; rw [h]; exact zg ((zTa zSQ (zIy bs)).mpr ⟨rfl,rfl⟩)
theorem zE6 {α:Type} (xs:List α) (p:α -> Bool):(xs.map p).all id = xs.all p:=by rw [List.all_map]; rfl
theorem zTe (h:Vd M d):zA0 [d,.int n] M = some (.bl (tbD n d),M):=by
 unfold zA0 zCH;refine zFa ?_;obtain ⟨t,e,q,_⟩:=h.ty;cases d with
 | tup ds=>
  have hh:Vd M (.tup ds):=h;unfold Vd at hh;have:tbD n (.tup ds) = (true && (ds.map (zCc n)).all id):=by rw [Bool.true_and,zE6]; rfl
  rw [this];refine zDO (by rw [zCK rfl e,q]; rfl) fun _=>zH0 ?_;rw [zVM];exact zGx (fun x=> .bl (zCc n x)) rfl hh.1 fun x hx=>⟨_,rfl,z0 (zj rfl (zh rfl)) (zQa (hh.2.mem x hx))⟩
 | _=>
  have:∀ b,(false && b) = false:=fun b=>rfl;refine (zDO (a:=false) (b:=true) (by rw [zCK rfl e,q]; rfl) fun z=>by cases z).trans ?_;rfl
theorem zQ2 {xs:List D} {lo hi:Option Int} {M:Mem}:kSl (.dat (.tup xs)) lo hi M = some (.dat (.tup (L3.zCW xs lo hi)),M):=rfl
theorem slE {f:FE} {fl fh:FO} {σ:Sd} {M:Mem} {xs:List D} {lo hi:Option Int} (hf:f σ M = some (.dat (.tup xs),M)) (hl:fl σ M = some (lo,M)) (hh:fh σ M = some (hi,M)):fSl f fl fh σ M = some (.dat (.tup (L3.zCW xs lo hi)),M):=by
 unfold fSl; rw [hf]; dsimp only; rw [hl]; dsimp only; rw [hh]; exact zQ2
theorem oS (h:f σ M = some (.dat (.int i),M)):zBN f σ M = some (some i,M):=by unfold zBN; rw [h]
theorem zCS {c:List Int} (h:c.length <= 100000):Vd M (.tup (c.map D.int)):=by
 unfold Vd;exact ⟨by simpa using h,Vds.of fun d hd=>by obtain ⟨i,_,rfl⟩:=zVF.mp hd; unfold Vd; trivial⟩
abbrev gL (k:Nat) (s:Int):MO:=.lst [.ref k,.int s]
theorem zSB (hk:k < N):MO.und N (gL k s) = true:=by
 show D.unds _ _ = true;unfold D.unds D.unds D.unds D.und;simp [hk]
structure Nw (M M':Mem) (n k:Nat):Prop where
 gen:Gen M' n k
 len:M.length <= M'.length
 fr:∀ j,j < M.length -> j ≠ n -> j ≠ k -> M'[j]? = M[j]?
theorem Nw.trans {M M1 M2:Mem} {n k:Nat} (a:Nw M M1 n k) (b:Nw M1 M2 n k):Nw M M2 n k :=
 ⟨b.gen,zVP a.len b.len,fun j h h1 h2=>(b.fr j (zVN h a.len) h1 h2).trans (a.fr j h h1 h2)⟩
theorem Nx.nw (x:Nx M M' n k):Nw M M' n k:=⟨x.gen,by rw [x.len]; exact zU4 _,fun j _ h1 h2=>x.fr j h1 h2⟩
theorem Gen.lst (h:Gen A n k) (xs:List D) (hx:D.unds A.length xs = true):Nw A (A ++ [.lst xs]) n k:=⟨h.app fun u hu=>by
 have:u = .lst xs:=by simpa using hu
 subst this; exact zCo (by simp) hx,by simp,fun j hj _ _=>zU5 hj⟩
theorem Nw.setB (h:Nw M A n k) (g:Gen M n k) (hj:M.length <= j) (hu:MO.und A.length u = true):Nw M (A.set j u) n k:=by
 obtain ⟨hn,hk⟩:=g.lt;obtain ⟨c,s,e1,e2,r⟩:=h.gen.ex;refine ⟨⟨⟨c,s,by rw [zVS (by omega)]; exact e1,by rw [zVS (by omega)]; exact e2,r⟩,g.ne,fun i v e=>?_⟩,by rw [zXH]; exact h.len,fun i hi h1 h2=>by rw [zVS (by omega)]; exact h.fr i hi h1 h2⟩;rw [zXH];rw [zWX] at e;split at e
 ·split at e
  ·cases e; exact hu
  ·cases e
 ·exact h.gen.wf i v e
theorem Nw.wf0 (h:Nw M M' n k) (g:Gen M n k):∀ (j:Nat) u,j < M.length -> M'[j]? = some u -> MO.und M.length u = true:=fun j u hj e=>by
 obtain ⟨hn,hk⟩:=g.lt;obtain ⟨c,s,e1,e2,r⟩:=h.gen.ex;by_cases q1:j = n
 ·subst q1; rw [e1] at e; cases e; exact zSB hk
 ·by_cases q2:j = k
  ·subst q2; rw [e2] at e; cases e; exact zAQ _ _
  ·rw [h.fr j hj q1 q2] at e; exact g.wf j u e
theorem Nw.trim (h:Nw M M' n k) (g:Gen M n k):Nw M (M'.take M.length) n k:=by
 obtain ⟨hn,hk⟩:=g.lt;have tk:∀ j,j < M.length -> (M'.take M.length)[j]? = M'[j]?:=fun j hj=>List.getElem?_take_of_lt hj;have tl:(M'.take M.length).length = M.length:=by have:=h.len; rw [zWM]; omega
 obtain ⟨c,s,e1,e2,r⟩:=h.gen.ex;refine ⟨⟨⟨c,s,(tk n hn).trans e1,(tk k hk).trans e2,r⟩,g.ne,fun j u e=>?_⟩,by omega,fun j hj h1 h2=>(tk j hj).trans (h.fr j hj h1 h2)⟩;have hj:j < M.length:=by have:=(zU1.mp e).1; omega
 rw [tk j hj] at e;rw [tl];exact h.wf0 g j u hj e
theorem Nw.get (h:Nw M M' n k) (e:M[j]? = some u) (h1:j ≠ n) (h2:j ≠ k):M'[j]? = some u :=
 (h.fr j (zU1.mp e).1 h1 h2).trans e
end Law
namespace Lac
open PySem PySem.Spec PyProof.Rows L2 L3 ST Law
noncomputable def zDF:FS:=(zX (zAR 2 (zAj zM))
  (zX (zCe (zAM (zF (toD (zD 1)) zM)) (gN 3) (zCD (fM zEs (zD 2) (zF (toD (zb zZ (zF (toD (zD 0)) (zF (toD (fOp zAe (zD 3) (fC (.int 1)))) zM)))) (zF (toD (zD 3)) zM)))))
  (zAN (zD 2))))
noncomputable def zA4:FF:=zBe 4 zDF
noncomputable def zDy:FS:=(zX (sIf (tst (fOp kEq (zD 1) (fC (.int 0)))) (zAN (zAc [4] (zAM (zF (toD (zD 2)) zM)) (gN 4) zAE (zb zZ (zF (toD (zD 0)) (zF (toD (zD 2)) zM))))) zBP)
  (zX (sIf (tst (fOp kEq (zD 1) (fC (.int 1)))) (zAN (zAc [4] (zAM (zF (toD (zD 2)) zM)) (gN 4) zAE (fOp zGN (fOp zAe (zD 4) (zb zZ (zF (toD (zD 0)) (zF (toD (fC (.int 3))) zM)))) (zD 2)))) zBP)
  (zX (sIf (tst (fOp kEq (zD 1) (fC (.int 2)))) (zX (zAR 5 (fOp zN6 (fOp zAe (zD 2) (fC (.int 1))) (fC (.int 2))))
  (zX (zAR 6 (zAc [4] (zAM (zF (toD (zD 5)) zM)) (gN 4) zAE (zb zZ (zF (toD (zD 0)) (zF (toD (zD 5)) zM)))))
  (zAN (fOp zBu (zD 6) (zAc [4] (zAM (zF (toD (fOp zRB (zD 2) (zD 5))) zM)) (gN 4) zAE (fOp zAe (zD 5) (zb zZ (zF (toD (zD 0)) (zF (toD (fOp zRB (zD 2) (zD 5))) zM))))))))) zBP)
  (zX (sIf (zBo (tst (fOp kEq (zD 1) (fC (.int 3)))) (tst (fOp kEq (zD 3) (fC (.int 0))))) (zAN (zAc [4] (zAM (zF (toD (zD 2)) zM)) (gN 4) zAE (fOp zGN (fOp zAe (zD 4) (fC (.int 1))) (zD 2)))) zBP)
  (zX (sIf (tst (fOp kEq (zD 1) (fC (.int 3)))) (zAN (zAc [4] (zAM (zF (toD (zD 2)) zM)) (gN 4) zAE (fOp kIx (zAj (zF (toD (zD 4)) (zF (toD (fC (.int 0))) zM))) (fB zLZ (zY (fOp kEq (zD 4) (fOp zRB (zD 2) (fC (.int 1)))) zt))))) zBP)
  (zX (sIf (zFY (tst (fOp kEq (zD 1) (fC (.int 4)))) (tst (fOp kEq (zD 1) (fC (.int 7))))) (zX (zAR 7 (zb zZ (zF (toD (zD 0)) (zF (toD (zD 2)) zM))))
  (zAN (zAc [4] (zAM (zF (toD (zD 2)) zM)) (gN 4) zAE (fOp kIx (zAj (zF (toD (fOp zGN (fOp zAe (zD 4) (zD 7)) (zD 2))) (zF (toD (zD 7)) zM))) (fB zLZ (zY (fOp kEq (zD 1) (fC (.int 7))) zt)))))) zBP)
  (zX (zAR 8 (zb zA4 (zF (toD (zD 0)) (zF (toD (zD 2)) zM))))
  (zX (sIf (zBo (tst (fOp kEq (zD 1) (fC (.int 6)))) (tst (fOp kEq (zD 3) (fC (.int 0))))) (zX (zAR 9 (fOp kIx (zD 8) (zb zZ (zF (toD (zD 0)) (zF (toD (zD 2)) zM)))))
  (zL0 (zD 9) (zD 8) (zb zZ (zF (toD (zD 0)) (zF (toD (zD 2)) zM))))) zBP)
  (zAN (zD 8))))))))))
noncomputable def zB0:FF:=zBe 10 zDy
noncomputable def zDT:FS:=(zX (zAR 3 (zb zZ (zF (toD (zD 0)) (zF (toD (fC (.int 8))) zM))))
  (zX (zAR 4 (zAc [5] (zAM (zF (toD (zD 2)) zM)) (gN 5) zAE (zb zB0 (zF (toD (zD 0)) (zF (toD (zD 3)) (zF (toD (zD 1)) (zF (toD (zD 5)) zM)))))))
  (zAN (fB zBQ (zY (zAc [7] (zAM (zF (toD (zD 1)) zM)) (gN 7) zAE (fB zBQ (zY (zAc [6] (zAv (zD 4)) (gN 6) zAE (fOp kIx (zD 6) (zD 7))) zt))) zt)))))
noncomputable def zBG:FF:=zGZ (zBe 8 zDT)
def Col (many:Int) (c:List Int):Prop:=(c.length:Int) = many /\ ∀ x ∈ c,0 <= x /\ x < many
theorem zAO (h:P (.ref M.length) (M ++ [.lst xs])):zH7 P (.fl xs) M:=h
theorem zy (A:Mem) (u:MO):(A ++ [u])[A.length]? = some u:=by simp
theorem zTh (h:0 < b):zGN (.dat (.int a)) (.dat (.int b)) M = some (.dat (.int (a % b)),M):=zg (zGe.mpr ⟨h,rfl,rfl⟩)
theorem zHs {M:Mem} {n k:Nat} (h:Gen M n k) {own:List Nat} {i:Nat} {f te:FE} {σ:Sd} {cnt lo hi:Int} (c0:0 <= cnt) (c1:cnt <= 90000) (hf:f σ M = some (.dat (.int cnt),M))
  (ht:∀ (r:Nat) (M':Mem),(r:Int) < cnt -> Gen M' n k -> Ok (te ((zCI own σ).set i (some (.int r))) M') fun x M''=>∃ v:Int,x = .dat (.int v) /\ lo <= v /\ v < hi /\ Nx M' M'' n k) :
  Ok (zAc own (zAM (zF (toD f) zM)) (gN i) zAE te σ M) fun x M'=>(∃ c:List Int,x = .fl (c.map D.int) /\ (c.length:Int) = cnt /\ ∀ y ∈ c,lo <= y /\ y < hi) /\ Nx M M' n k:=by
 refine zFu.mpr ⟨_,_,_,zBA hf c0 (by omega),by rw [zDS]; exact zAP (by omega),?_⟩;refine Ok.mono (zOW (n:=cnt.toNat) (I:=fun j acc M2=>(∃ c:List Int,acc = c.map D.int /\ c.length = j /\ ∀ y ∈ c,lo <= y /\ y < hi) /\ Nx M M2 n k) ?_ ⟨⟨[],rfl,rfl,fun _ h=>by cases h⟩,Nx.refl h⟩) ?_
 ·rintro j acc M2 hj ⟨⟨c,rfl,hcl,hc⟩,nx⟩;refine ⟨_,rfl,?_⟩;refine Ok.mono (ht j M2 (by omega) nx.gen) ?_;rintro x M3 ⟨v,rfl,v0,v1,nx3⟩;rw [zV];refine ⟨⟨c ++ [v],by simp,by simp [hcl],fun z hz=>?_⟩,nx.trans nx3⟩;rcases zVO.mp hz with q | q
  ·exact hc z q
  ·have:z = v:=by simpa using q
   subst this; exact ⟨v0,v1⟩
 ·rintro ys M2 ⟨⟨c,rfl,hcl,hc⟩,nx⟩;exact ⟨⟨c,rfl,by omega,hc⟩,nx⟩
theorem zUJ (ha:a σ M = some (.dat x,M)) (hb:b σ M = some (.dat y,M)):zAj (zF (toD a) (zF (toD b) zM)) σ M = some (.fl [x,y],M):=by
 unfold zAj; rw [zj ha (zh hb)]; dsimp only; rw [zVD (zAP (by simp))]
theorem zR9 (hl:l σ M = some (.fl [x,y],M)) (ht:t σ M = some (.dat (.bl b),M)):fOp kIx l (fB zLZ (zY t zt)) σ M = some (.dat (if b then y else x),M):=by
 have e:fB zLZ (zY t zt) σ M = some (.dat (.int (if b then 1 else 0)),M):=by unfold fB zY zt; rw [ht]; rfl
 cases b with
 | true=>exact zf hl e rfl
 | false=>exact zf hl e rfl
theorem zNN (h:M[n]? = some (.lst xs)) (h0:0 <= i) (h1:i.toNat <= xs.length) (hz:xs.length < 90000):zEs (.dat (.ref n)) [.int i,d] M = some (.non,M.set n (.lst (xs.take i.toNat ++ [d] ++ xs.drop i.toNat))):=by
 unfold zEs; dsimp only; rw [h]; dsimp only; rw [zVD ⟨h0,h1,zVN hz (zAP (by omega))⟩]
theorem zKg (h:Gen M n k) (m0:0 < many) (m1:many <= 1000):Ok (zA4 [.ref n,.int many] M) fun d M'=>∃ j c,d = .ref j /\ M'[j]? = some (.lst (c.map D.int)) /\ Col many c /\ M.length <= j /\ Nw M M' n k /\ c.Perm ((List.range many.toNat).map fun (x:Nat)=>(x:Int)):=by
 obtain ⟨hn,hk⟩:=h.lt;unfold zA4;rw [zAT];unfold zDF;show OkS (zX _ _ [some (.ref n),some (.int many),none,none] M) _;rw [zT,zk];refine zJX.mpr (zCl.mpr ⟨zAP (by simp),zAO ?_⟩);rw [zd,zT,zA8];have nw1:=h.lst [] rfl;have e1:(M ++ [MO.lst ([]:List D)])[M.length]? = some (.lst []):=zy _ _;generalize M ++ [MO.lst ([]:List D)] = M1 at nw1 e1;show ∃ xs gd M2,zAM _ [some (.ref n),some (.int many),some (.ref M.length),none] M1 = some (xs,gd,M2) /\ _;refine ⟨_,_,_,zBA rfl (by omega) (by omega),?_⟩;refine zEe (n:=many.toNat) (I:=fun i σ M'=>(∃ y,σ = [some (.ref n),some (.int many),some (.ref M.length),y]) /\ ∃ c:List Int,M'[M.length]? = some (.lst (c.map D.int)) /\ c.length = i /\ (∀ x ∈ c,0 <= x /\ x < many) /\ Nw M M' n k /\ c.Perm ((List.range i).map fun (x:Nat)=>(x:Int))) ?_ ?_ _ _ ⟨⟨_,rfl⟩,[],e1,rfl,(fun _ h=>by cases h),nw1,.refl _⟩
 ·rintro i σ M' hi ⟨⟨y,rfl⟩,c,ec,hcl,hc,nw,pm⟩;refine ⟨_,rfl,?_⟩;show OkS (zCD _ [some (.ref n),some (.int many),some (.ref M.length),some (.int (i:Nat))] M') _;rw [zDj];refine zNT.mpr (zAZ.mpr ⟨_,rfl,⟨_,zBY ec⟩,zBC.mpr (zA5.mpr ?_)⟩);refine zAU nw.gen rfl (zf (x:=.dat (.int (i:Nat))) rfl rfl rfl) (by omega) (by omega) fun q M2 q0 q1 nx=>?_;have ec2:=nx.nw.get ec (by omega) (by omega);rw [zV];refine zK (zh (d:=.int (i:Nat)) rfl) ?_;refine zK (zNN ec2 q0 (by rw [zU7]; omega) (by rw [zU7]; omega)) ?_;have hl:M.length < M2.length:=(zU1.mp ec2).1;refine ⟨⟨_,rfl⟩,c.take q.toNat ++ [(i:Int)] ++ c.drop q.toNat,?_,by simp; omega,fun x hx=>?_,?_,?_⟩
  ·rw [zVs hl];simp
  ·simp only [zVO,zVQ] at hx;rcases hx with (w | w) | w
   ·exact hc x (List.mem_of_mem_take w)
   ·omega
   ·exact hc x (List.mem_of_mem_drop w)
  ·refine (nw.trans nx.nw).setB h (zU4 _) ?_;show D.unds _ _ = true;rw [<- List.map_take,<- List.map_drop,zHI,zHI,zAQ,zAQ]; rfl
  ·rw [List.range_succ,zVq];refine List.Perm.trans ?_ (List.Perm.append_right _ pm);rw [zV4];refine List.Perm.trans (List.Perm.append_left _ List.perm_append_comm) ?_;rw [<- zV4,List.take_append_drop];exact .refl _
 ·rintro σ M' ⟨⟨y,rfl⟩,c,ec,hcl,hc,nw,pm⟩;rw [zd];exact zAJ rfl ⟨M.length,c,rfl,ec,⟨by omega,hc⟩,zU4 _,nw,pm⟩
theorem zQr (h:Col many c) (hj:j < c.length):0 <= c.getD j 0 /\ c.getD j 0 < many:=by
 rw [zU3,zU2 hj]; exact h.2 _ (zVW hj)
theorem zOY (h:Col many c) (hj:j < c.length):Col many (c.set i (c.getD j 0)):=by
 refine ⟨by rw [zXH]; exact h.1,fun x hx=>?_⟩;rcases List.mem_or_eq_of_mem_set hx with q | q
 ·exact h.2 x q
 ·rw [q,zU3,zU2 hj]; exact h.2 _ (zVW hj)
theorem zM9 {M:Mem} {n k:Nat} (h:Gen M n k) {fam many let_:Int} (m0:0 < many) (m1:many <= 1000) :
  Ok (zB0 [.ref n,.int fam,.int many,.int let_] M) fun d M'=>∃ j c,d = .ref j /\ M'[j]? = some (.lst (c.map D.int)) /\ Col many c /\ M.length <= j /\ Nw M M' n k:=by
 obtain ⟨hn,hk⟩:=h.lt;unfold zB0;rw [zAT];unfold zDy;show OkS (zX _ _ [some (.ref n),some (.int fam),some (.int many),some (.int let_),none,none,none,none,none,none] M) _;have isf:∀ (j:Int) (σ:Sd) (M:Mem),σ[1]? = some (some (.int fam)) -> tst (fOp kEq (zD 1) (fC (.int j))) σ M = some (decide (fam = j),M):=fun j σ M e=>by
  have v4:zD 1 σ M = some (.dat (.int fam),M):=by unfold zD; rw [e]
  exact zBI (zf v4 rfl (zg (zLi.mpr ⟨rfl,rfl⟩)))
 have isl:∀ (σ:Sd) (M:Mem),σ[3]? = some (some (.int let_)) -> tst (fOp kEq (zD 3) (fC (.int 0))) σ M = some (decide (let_ = 0),M):=fun σ M e=>by
  have v4:zD 3 σ M = some (.dat (.int let_),M):=by unfold zD; rw [e]
  exact zBI (zf v4 rfl (zg (zLi.mpr ⟨rfl,rfl⟩)))
 have andE:∀ {a b:FT} {σ:Sd} {M:Mem} {x y:Bool},a σ M = some (x,M) -> b σ M = some (y,M) -> zBo a b σ M = some (x && y,M):=fun {a b σ M x y} ha hb=>by
  unfold zBo; rw [ha]; cases x <;> first | exact hb | rfl
 have orE:∀ {a b:FT} {σ:Sd} {M:Mem} {x y:Bool},a σ M = some (x,M) -> b σ M = some (y,M) -> zFY a b σ M = some (x || y,M):=fun {a b σ M x y} ha hb=>by
  unfold zFY; rw [ha]; cases x <;> first | exact hb | rfl
 have new:∀ (A:Mem) (c':List Int),Nw M A n k -> Col many c' -> ∃ j c,D.ref A.length = D.ref j /\ (A ++ [MO.lst (c'.map D.int)])[j]? = some (.lst (c.map D.int)) /\ Col many c /\ M.length <= j /\ Nw M (A ++ [MO.lst (c'.map D.int)]) n k:=fun A c' nw hc'=>
  ⟨A.length,c',rfl,zy _ _,hc',nw.len,nw.trans (nw.gen.lst _ (zAQ _ _))⟩
 rw [zT,zBV];refine zK (isf 0 _ _ rfl) ?_;by_cases w0:fam = 0
 ·rw [zVD (by simpa using w0),zAu];refine Ok.mono (zHs h (cnt:=many) (lo:=0) (hi:=many) (by omega) (by omega) rfl fun r M' hr g=>zAU g rfl rfl m0 (by omega) fun i M2 i0 i1 nx=>⟨i,rfl,i0,i1,nx⟩) ?_;rintro x M1 ⟨⟨c,rfl,hcl,hc⟩,nx⟩;refine zAO ?_;rw [zD1];exact new _ _ nx.nw ⟨hcl,hc⟩
 rw [zVG (by simpa using w0),zBM,zd,zT,zBV];refine zK (isf 1 _ _ rfl) ?_;by_cases w1:fam = 1
 ·rw [zVD (by simpa using w1),zAu];refine Ok.mono (zHs h (cnt:=many) (lo:=0) (hi:=many) (by omega) (by omega) rfl fun r M' hr g=>?_) ?_
  ·refine zAi.mpr (zAi.mpr (zAZ.mpr ⟨_,rfl,zAU g rfl rfl (by decide) (by decide) fun i M2 i0 i1 nx=>zGU.mpr (zAZ.mpr ⟨_,rfl,zGe.mpr ⟨m0,_,rfl,Int.emod_nonneg _ (by omega),Int.emod_lt_of_pos _ m0,nx⟩⟩)⟩))
  rintro x M1 ⟨⟨c,rfl,hcl,hc⟩,nx⟩;refine zAO ?_;rw [zD1];exact new _ _ nx.nw ⟨hcl,hc⟩
 rw [zVG (by simpa using w1),zBM,zd,zT,zBV];refine zK (isf 2 _ _ rfl) ?_;by_cases w2:fam = 2
 ·rw [zVD (by simpa using w2)];refine zDU (d:=.int ((many + 1) / 2)) (zf (x:=.dat (.int (many + 1))) (zf rfl rfl rfl) rfl (zg (zQB.mpr ⟨⟨by decide,by decide⟩,rfl,rfl⟩))) ?_;obtain ⟨h0,h1⟩:0 < (many + 1) / 2 /\ (many + 1) / 2 <= many:=by omega
  generalize (many + 1) / 2 = half at h0 h1;rw [zT,zk];refine Ok.mono (zHs h (cnt:=half) (lo:=0) (hi:=half) (by omega) (by omega) rfl fun r M' hr g=>zAU g rfl rfl h0 (by omega) fun i M2 i0 i1 nx=>⟨i,rfl,i0,i1,nx⟩) ?_;rintro x M1 ⟨⟨c,rfl,hcl,hc⟩,nx⟩;refine zAO ?_;rw [zd,zAu];have nw2:=nx.nw.trans (nx.gen.lst (c.map D.int) (zAQ _ _));have e6:(M1 ++ [MO.lst (c.map D.int)])[M1.length]? = some (.lst (c.map D.int)):=zy _ _;have hj:M.length <= M1.length:=nx.nw.len;generalize M1 ++ [MO.lst (c.map D.int)] = M2 at nw2 e6;generalize M1.length = j6 at e6 hj;show Ok (fOp _ _ _ [some (.ref n),some (.int fam),some (.int many),some (.int let_),none,some (.int half),some (.ref j6),none,none,none] M2) _;refine zAi.mpr (zAZ.mpr ⟨_,rfl,?_⟩);refine Ok.mono (zHs nw2.gen (cnt:=many - half) (lo:=half) (hi:=many) (by omega) (by omega) (zf rfl rfl rfl) fun r M' hr g=>?_) ?_
  ·refine zAi.mpr (zAZ.mpr ⟨_,rfl,zAU g rfl (zf (x:=.dat (.int many)) (y:=.dat (.int half)) rfl rfl rfl) (by omega) (by omega) fun i M3 i0 i1 nx3=>zGU.mpr ⟨_,rfl,by omega,by omega,nx3⟩⟩)
  rintro x M3 ⟨⟨c3,rfl,hcl3,hc3⟩,nx3⟩;have e6':=nx3.nw.get e6 (by omega) (by omega);refine zSw (xs:=c.map D.int) (ys:=c3.map D.int) ?_ rfl (by simp; omega) (zAO ?_)
  ·unfold zHX; dsimp only; rw [e6']
  rw [zD1,<- zVq];refine new _ _ (nw2.trans nx3.nw) ⟨by simp; omega,fun x hx=>?_⟩;rcases zVO.mp hx with q | q
  ·have:=hc x q; omega
  ·have:=hc3 x q; omega
 rw [zVG (by simpa using w2),zBM,zd,zT,zBV];refine zK (andE (isf 3 _ _ rfl) (isl _ _ rfl)) ?_;by_cases w3:(decide (fam = 3) && decide (let_ = 0)) = true
 ·rw [zVD w3,zAu];refine Ok.mono (zHs h (cnt:=many) (lo:=0) (hi:=many) (by omega) (by omega) rfl fun r M' hr g=>?_) ?_
  ·exact zK (zf (x:=.dat (.int ((r:Int) + 1))) (y:=.dat (.int many)) (zf rfl rfl rfl) rfl (zTh m0)) ⟨_,rfl,Int.emod_nonneg _ (by omega),Int.emod_lt_of_pos _ m0,Nx.refl g⟩
  rintro x M1 ⟨⟨c,rfl,hcl,hc⟩,nx⟩;refine zAO ?_;rw [zD1];exact new _ _ nx.nw ⟨hcl,hc⟩
 rw [zVG w3,zBM,zd,zT,zBV];refine zK (isf 3 _ _ rfl) ?_;by_cases w3':fam = 3
 ·rw [zVD (by simpa using w3'),zAu];refine Ok.mono (zHs h (cnt:=many) (lo:=0) (hi:=many) (by omega) (by omega) rfl fun r M' hr g=>?_) ?_
  ·refine zK (zR9 (b:=decide ((r:Int) = many - 1)) (zUJ (x:=.int r) (y:=.int 0) rfl rfl) (zf (x:=.dat (.int r)) (y:=.dat (.int (many - 1))) rfl (zf rfl rfl rfl) (zg (zLi.mpr ⟨rfl,rfl⟩)))) ?_;by_cases q:(r:Int) = many - 1
   ·rw [zV6 q,zVD rfl]; exact ⟨0,rfl,by omega,by omega,Nx.refl g⟩
   ·rw [zVX q,zVG (by decide)]; exact ⟨r,rfl,by omega,by omega,Nx.refl g⟩
  rintro x M1 ⟨⟨c,rfl,hcl,hc⟩,nx⟩;refine zAO ?_;rw [zD1];exact new _ _ nx.nw ⟨hcl,hc⟩
 rw [zVG (by simpa using w3'),zBM,zd,zT,zBV];refine zK (orE (isf 4 _ _ rfl) (isf 7 _ _ rfl)) ?_;by_cases w4:(decide (fam = 4) || decide (fam = 7)) = true
 ·rw [zVD w4,zT,zk];refine zAU h rfl rfl m0 (by omega) fun far M1 a0 a1 nx1=>?_;rw [zV,zd,zAu];show Ok (zAc _ _ _ _ _ [some (.ref n),some (.int fam),some (.int many),some (.int let_),none,none,none,some (.int far),none,none] M1) _;refine Ok.mono (zHs nx1.gen (cnt:=many) (lo:=0) (hi:=many) (by omega) (by omega) rfl fun r M' hr g=>?_) ?_
  ·refine zK (zR9 (b:=decide (fam = 7)) (zUJ (x:=.int (((r:Int) + far) % many)) (y:=.int far) (zf (x:=.dat (.int ((r:Int) + far))) (y:=.dat (.int many)) (zf rfl rfl rfl) rfl (zTh m0)) rfl) (zf (x:=.dat (.int fam)) (y:=.dat (.int 7)) rfl rfl (zg (zLi.mpr ⟨rfl,rfl⟩)))) ?_;by_cases q:fam = 7
   ·rw [zV6 q,zVD rfl]; exact ⟨far,rfl,a0,a1,Nx.refl g⟩
   ·rw [zVX q,zVG (by decide)]; exact ⟨_,rfl,Int.emod_nonneg _ (by omega),Int.emod_lt_of_pos _ m0,Nx.refl g⟩
  rintro x M2 ⟨⟨c,rfl,hcl,hc⟩,nx⟩;refine zAO ?_;rw [zD1];exact new _ _ (nx1.trans nx).nw ⟨hcl,hc⟩
 rw [zVG w4,zBM,zd,zT,zk];refine zCf.mpr (zK (zj rfl (zh rfl)) ?_);refine Ok.mono (zKg h m0 m1) ?_;rintro d M1 ⟨j,c,rfl,ej,cc,hj,nw1,_⟩;have cl:=cc.1;rw [zV,zd,zT,zBV];refine zK (andE (isf 6 _ _ rfl) (isl _ _ rfl)) ?_;by_cases w6:(decide (fam = 6) && decide (let_ = 0)) = true
 ·rw [zVD w6,zT,zk];refine zAi.mpr (zAZ.mpr ⟨_,rfl,zAU nw1.gen rfl rfl m0 (by omega) fun p M2 p0 p1 nx2=>?_⟩);have ej2:=nx2.nw.get ej (by omega) (by omega);refine zOd (zAA ej2) (zMA p0 (by omega)) ?_;rw [zV,zd,zJO];refine zAZ.mpr ⟨_,rfl,?_⟩;rw [zV];refine zAZ.mpr ⟨_,rfl,zAU nx2.gen rfl rfl m0 (by omega) fun q M3 q0 q1 nx3=>?_⟩;have ej3:=nx3.nw.get ej2 (by omega) (by omega);rw [zV];have eq':q = ((q.toNat:Nat):Int):=by omega
  refine ⟨M3.set j (.lst ((c.map D.int).set q.toNat (.int (c.getD p.toNat 0)))),?_,?_⟩
  ·have:=zHr (k:=q.toNat) (d:=.int (c.getD p.toNat 0)) ej3 (by rw [zU7]; omega);rw [<- eq'] at this; exact this
  rw [zd];refine zAJ rfl ⟨j,c.set q.toNat (c.getD p.toNat 0),rfl,?_,zOY cc (by omega),hj,?_⟩
  ·rw [zVs (zU1.mp ej3).1,List.map_set]
  ·refine ((nw1.trans nx2.nw).trans nx3.nw).setB h hj ?_;show D.unds _ _ = true;rw [<- List.map_set]; exact zAQ _ _
 ·rw [zVG w6,zBM,zd];exact zAJ rfl ⟨j,c,rfl,ej,cc,hj,nw1⟩
def zDx (many:Int) (cs:List (List Int)):List (List Int):=(List.range many.toNat).map fun r=>cs.map fun c=>c.getD r 0
theorem zON (h0:0 < many) (hc:∀ c ∈ cs,Col many c) (hl:0 < cs.length):IsM (zDx many cs) cs.length:=by
 have hlen:(zDx many cs).length = many.toNat:=by unfold zDx; simp
 refine ⟨by omega,hl,fun r hr=>?_⟩;rw [hlen];unfold zDx at hr;obtain ⟨k,hk,rfl⟩:=zVF.mp hr;refine ⟨by simp,fun g hg=>?_⟩;obtain ⟨c,hcm,rfl⟩:=zVF.mp hg;have:=hc c hcm;have h1:=this.1;have:=zQr this (j:=k) (by have:=zVc.mp hk; omega);omega
def zPf (M:Mem) (lo:Nat) (many:Int) (js:List Nat) (cs:List (List Int)):Prop:=js.length = cs.length /\ ∀ (i:Nat) j c,js[i]? = some j -> cs[i]? = some c -> lo <= j /\ M[j]? = some (.lst (c.map D.int)) /\ Col many c
theorem zMH (h:Gen M n k) (hm:0 < many) (hm1:many <= 900) (hl:0 < lm) (hl1:lm <= 900) :
  Ok (zBG [.ref n,.int many,.int lm] M) fun d M'=>(∃ zA l,d = mD zA /\ IsM zA l /\ (zA.length:Int) = many /\ (l:Int) = lm) /\ Nw M M' n k:=by
 obtain ⟨hn,hk⟩:=h.lt;unfold zBG;refine zM7 ?_;rw [zAT];unfold zDT;show OkS (zX _ _ [some (.ref n),some (.int many),some (.int lm),none,none,none,none,none] M) _;rw [zT,zk];refine zAU h rfl rfl (by decide) (by decide) fun fam M1 f0 f1 nx1=>?_;rw [zV,zd,zT,zk];show Ok (zAc _ _ _ _ _ [some (.ref n),some (.int many),some (.int lm),some (.int fam),none,none,none,none] M1) _;refine zFu.mpr ⟨_,_,_,zBA (j:=lm) rfl (by omega) (by omega),by rw [zDS]; exact zAP (by omega),?_⟩;refine Ok.mono (zOW (n:=lm.toNat) (I:=fun i acc M'=>∃ (js:List Nat) (cs:List (List Int)),acc = js.map D.ref /\ zPf M' M.length many js cs /\ cs.length = i /\ Nw M M' n k) ?_ ⟨[],[],rfl,⟨rfl,fun i j c h=>by simp at h⟩,rfl,nx1.nw⟩) ?_
 ·rintro i acc M' hi ⟨js,cs,rfl,hcs,hcl,nw⟩;refine ⟨_,rfl,?_⟩;refine zCf.mpr (zK (zj (d:=.ref n) rfl (zj (d:=.int fam) rfl (zj (d:=.int many) rfl (zh (d:=.int (i:Nat)) rfl)))) ?_);refine Ok.mono (zM9 nw.gen hm (by omega)) ?_;rintro d M2 ⟨j,c,rfl,ec,cc,hj,nw2⟩;have hle:=nw.len;rw [zV];refine ⟨js ++ [j],cs ++ [c],by simp,⟨by simp [hcs.1],fun a b c' h1 h2=>?_⟩,by simp [hcl],nw.trans nw2⟩;by_cases ha:a < js.length
  ·rw [zU5 ha] at h1;rw [zU5 (by rw [<- hcs.1]; exact ha)] at h2;obtain ⟨q1,q2,q3⟩:=hcs.2 a b c' h1 h2;exact ⟨q1,nw2.get q2 (by omega) (by omega),q3⟩
  ·have ha':a = js.length:=by
    have:=(zU1.mp h1).1;simp at this; omega
   subst ha';rw [zV8 (zU4 _)] at h1;rw [zV8 (by rw [hcs.1]; exact zU4 _)] at h2;simp at h1;rw [hcs.1] at h2;simp at h2;subst h1 h2;exact ⟨by omega,ec,cc⟩
 ·rintro ys M2 ⟨js,cs,rfl,hcs,hcl,nw⟩;refine zAO ?_;rw [zd];have hju:D.unds M2.length (js.map D.ref) = true:=zHE fun z hz=>by
   obtain ⟨b,hb,rfl⟩:=zVF.mp hz;obtain ⟨i,hi,rfl⟩:=List.mem_iff_getElem.mp hb;have hi':i < cs.length:=by rw [<- hcs.1]; exact hi
   obtain ⟨_,q2,_⟩:=hcs.2 i js[i] cs[i] (zU2 hi) (zU2 hi');simp [D.und,(zU1.mp q2).1]
  have nwA:=nw.trans (nw.gen.lst (js.map D.ref) hju);have eA:(M2 ++ [MO.lst (js.map D.ref)])[M2.length]? = some (.lst (js.map D.ref)):=zy _ _;have hA:zPf (M2 ++ [MO.lst (js.map D.ref)]) M.length many js cs:=⟨hcs.1,fun i j c h1 h2=>by
   obtain ⟨q1,q2,q3⟩:=hcs.2 i j c h1 h2;exact ⟨q1,by rw [zU5 (zU1.mp q2).1]; exact q2,q3⟩⟩
  generalize M2 ++ [MO.lst (js.map D.ref)] = A at nwA eA hA;generalize M2.length = j at eA;show OkS (zAN _ [some (.ref n),some (.int many),some (.int lm),some (.int fam),some (.ref j),none,none,none] A) _;have hcol:∀ c ∈ cs,Col many c:=fun c hc=>by
   obtain ⟨i,hi,rfl⟩:=List.mem_iff_getElem.mp hc;exact (hA.2 i (js[i]'(by rw [hA.1]; exact hi)) cs[i] (zU2 _) (zU2 _)).2.2
  have hlen:(zDx many cs).length = many.toNat:=by unfold zDx; simp
  refine zAJ (d:=mD (zDx many cs)) ?_ ⟨⟨zJK _,nwA.len,nwA.wf0 h⟩,⟨zDx many cs,cs.length,rfl,zON hm hcol (by omega),by omega,by omega⟩,nwA.trim h⟩;refine (zF0 (zCw (List.range many.toNat) (fun k=>D.int k) (fun k=> .tup ((cs.map fun c=>c.getD k 0).map D.int)) (zNp (f:=zD 1) rfl (by omega) (by omega)) trivial (by simp; omega) fun r hr=>⟨_,rfl,?_⟩) zDz).trans ?_
  ·have hr':=zVc.mp hr;refine (zF0 (zCw (gd:=zIS (.dat (.ref j)) (js.map D.ref)) (List.range js.length) (fun i=>D.ref (js.getD i 0)) (fun i=> .int ((cs.getD i []).getD r 0)) ?_ ?_ (by rw [List.length_range,hA.1,hcl]; omega) fun i hi=>⟨_,rfl,?_⟩) zDz).trans ?_
   ·rw [show ((List.range js.length).map fun i=>D.ref (js.getD i 0)) = js.map D.ref by
     apply List.ext_getElem
     ·simp
     ·intro i h1 h2;simp at h1;simp [h1]]
    exact zGo (x:=.dat (.ref j)) rfl (zAA eA)
   ·exact .inl eA
   ·have hi':=zVc.mp hi;have hc':i < cs.length:=by rw [<- hA.1]; exact hi'
    have ej':js[i]? = some (js.getD i 0):=by rw [zU3,zU2 hi']; rfl
    have ec':cs[i]? = some (cs.getD i []):=by rw [zU3,zU2 hc']; rfl
    obtain ⟨_,q2,q3⟩:=hA.2 i _ _ ej' ec';have hz:=q3.1;exact zf (x:=.dat (.ref (js.getD i 0))) (y:=.dat (.int (r:Nat))) rfl rfl (zCX (zAA q2) (zMA (by omega) (by omega)))
   ·congr 3;rw [zVM];refine congrArg D.tup ?_;apply List.ext_getElem
    ·simp [hA.1]
    ·intro i h1 h2;simp at h1 h2;have h2':i < cs.length:=h2;simp [h2']
  ·unfold mD zDx; rw [zVM]; rfl
noncomputable def zEG:FS:=(zAN (zMs (fB zA3 (zY (zD 0) zt))))
noncomputable def zBW:FF:=zBe 1 zEG
noncomputable def zFN:FS:=(zAN (zE4 [1,2] [2] (zAv (zD 0)) (gN 1) zAE (zAv (zD 0)) (gN 2) (tst (fOp kLt (zD 1) (zD 2))) (zAm (zF (toD (zD 1)) (zF (toD (zD 2)) zM)))))
noncomputable def zBU:FF:=zBe 3 zFN
theorem zKn {α:Type} (enc out:α -> D) (keep:α -> Bool):∀ (as:List α),(∀ a ∈ as,∃ σ1,g (enc a) σ = some σ1 /\ tc σ1 M = some (keep a,M) /\ (keep a = true -> te σ1 M = some (.dat (out a),M))) -> zBB g tc te σ all none (as.map enc) M = some ((as.filter keep).map out,M)
 | [],_=>by
  rw [List.map_nil];unfold zBB;rw [zVD (show zBK none all M from trivial)]; rfl
 | a :: r,h=>by
  obtain ⟨σ1,e1,e2,e3⟩:=h a zVC;have ih:=zKn (all:=all) (σ:=σ) enc out keep r fun b hb=>h b (zVB _ hb);rw [zVH];unfold zBB;rw [zVD (show zBK none all M from trivial),e1];dsimp only;rw [e2];cases hk:keep a with
  | false=>
   dsimp only;rw [ih,List.filter_cons_of_neg (by simp [hk])]
  | true=>
   dsimp only;rw [show toD te σ1 M = some (out a,M) by unfold toD; rw [e3 hk]];dsimp only;rw [ih,List.filter_cons_of_pos hk];rfl
theorem zKa {α β:Type} (as:List α) (enc:α -> D) (bs:α -> List β) (enc2:β -> D) (keep:α -> β -> Bool) (out:α -> β -> D) (B:Nat)
  (hi:fi σ M = some (as.map enc,none,M)) (hB:∀ a ∈ as,(bs a).length <= B) (hz:as.length * B <= 90000)
  (he:∀ a ∈ as,∃ σ1,fg (enc a) (zCI own σ) = some σ1 /\ fi2 σ1 M = some ((bs a).map enc2,none,M) /\ ∀ b ∈ bs a,∃ σ2,fg2 (enc2 b) (zCI own2 σ1) = some σ2 /\ tc2 σ2 M = some (keep a b,M) /\ (keep a b = true -> te σ2 M = some (.dat (out a b),M))) :
  zE4 own own2 fi fg zAE fi2 fg2 tc2 te σ M = some (.fl (as.flatMap fun a=>((bs a).filter (keep a)).map (out a)),M):=by
 have key:∀ (r:List α) (acc:List D),(∀ a ∈ r,a ∈ as) -> acc.length + r.length * B <= 90000 -> zJv fg zAE fi2 own2 fg2 tc2 te (zCI own σ) (as.map enc) none (r.map enc) acc M = some (acc ++ r.flatMap fun a=>((bs a).filter (keep a)).map (out a),M):=by
  intro r;induction r with
  | nil=>
   intro acc _ _;rw [List.map_nil];unfold zJv;rw [zVD (show zBK none (as.map enc) M from trivial)]; simp
  | cons a r ih=>
   intro acc hs hl;have ha:=hs a zVC;obtain ⟨σ1,e1,e2,e3⟩:=he a ha;have hb:=hB a ha;have hlen:(((bs a).filter (keep a)).map (out a)).length <= (bs a).length:=by rw [zU7]; exact List.length_filter_le _ _
   rw [zVV,Nat.add_mul] at hl;rw [zVH];unfold zJv;rw [zVD (show zBK none (as.map enc) M from trivial),e1];dsimp only;rw [show zAE σ1 M = some (true,M) from rfl];dsimp only;rw [e2];dsimp only;rw [zVD (zAP (by rw [zU7]; omega)),zKn enc2 (out a) (keep a) (bs a) e3];dsimp only;rw [ih _ (fun b hb=>hs b (zVB _ hb)) (by rw [zVE]; omega)];rw [List.flatMap_cons,zV4]
 unfold zE4;rw [hi];dsimp only;rw [key as [] (fun _ h=>h) (by simpa using hz)];simp
def ze (xs:List Int):List (List Int):=xs.flatMap fun a=>(xs.filter fun b=>decide (a < b)).map fun b=>[a,b]
theorem zLU (hz:xs.length <= 200):zBU [tI xs] M = some (.ref M.length,M ++ [.lst ((ze xs).map tI)]):=by
 suffices h:Ok (zBU [tI xs] M) fun d M'=>d = .ref M.length /\ M' = M ++ [.lst ((ze xs).map tI)] by
  obtain ⟨d,M',e,rfl,rfl⟩:=h; exact e
 unfold zBU;rw [zAT];unfold zFN;rw [zAu];have hq:xs.length * xs.length <= 90000:=zVP (Nat.mul_le_mul hz hz) (by decide);refine zK (zKa xs D.int (fun _=>xs) D.int (fun a b=>decide (a < b)) (fun a b=>tI [a,b]) xs.length (zDN rfl) (fun _ _=>zU4 _) hq fun a ha=>⟨_,rfl,zDN rfl,fun b hb=>⟨_,rfl,?_,fun _=>?_⟩⟩) (zAO ⟨rfl,?_⟩)
 ·exact zBI (zf (x:=.dat (.int a)) (y:=.dat (.int b)) rfl rfl (zg (zPM.mpr ⟨rfl,rfl⟩)))
 ·unfold zAm;rw [zj (d:=.int a) rfl (zh (d:=.int b) rfl)];dsimp only;rw [zVD (zAP (by simp))]; rfl
 ·congr 3;unfold ze;rw [List.map_flatMap];congr 1;funext a;rw [zVM]; rfl
theorem zAB:p ∈ ze xs ↔ ∃ a b,p = [a,b] /\ a ∈ xs /\ b ∈ xs /\ a < b:=by
 unfold ze;rw [List.mem_flatMap];constructor
 ·rintro ⟨a,ha,h⟩;obtain ⟨b,hb,rfl⟩:=zVF.mp h;obtain ⟨h1,h2⟩:=List.mem_filter.mp hb;exact ⟨a,b,rfl,ha,h1,of_decide_eq_true h2⟩
 ·rintro ⟨a,b,rfl,ha,hb,hlt⟩;exact ⟨a,ha,zVF.mpr ⟨b,List.mem_filter.mpr ⟨hb,zV6 hlt⟩,rfl⟩⟩
theorem zKI (hz:zA.length <= 1000):zBW [mD zA] M = some (tI ((List.range zA.length).map fun (k:Nat)=>(k:Int)),M):=by
 refine zg ?_;unfold zBW;rw [zAT];unfold zEG;refine zAJ (d:=tI ((List.range zA.length).map fun (k:Nat)=>(k:Int))) ?_ ⟨rfl,rfl⟩;unfold zMs;rw [show fB zA3 (zY (zD 0) zt) ([mD zA].map some ++ List.replicate (1 - [mD zA].length) none) M = some (.dat (.int zA.length),M) from zBv rfl];dsimp only;rw [zVD ⟨by omega,by omega⟩];unfold upD tI;rw [zVM,show (zA.length:Int).toNat = zA.length by omega]; rfl
def zJ2 (g:List Int):List Key:=g.map Sum.inl
theorem zKQ:∀ {a b:List Int},zJ2 a = zJ2 b -> a = b
 | [],[],_=>rfl
 | [],_ :: _,h=>by cases h
 | _ :: _,[],h=>by cases h
 | x :: a,y :: b,h=>by
  have h1:=(zV2 h).1;have h2:=zKQ (zV2 h).2;cases h1; rw [h2]
theorem zHP:∀ g:List Int,zE2 (g.map D.int) = some (zJ2 g)
 | []=>rfl
 | x :: r=>by
  rw [zVH];unfold zE2;rw [zHP r];rfl
theorem zGz (g:List Int):tkD (tI g) = some (zJ2 g):=zHP g
abbrev zFX (T:List (List Int × D)):List (D × D):=T.map fun q=>(tI q.1,q.2)
abbrev dT (T:List (List Int × D)):MO:=.dicT (zFX T)
def zQ:List (List Int × D) -> List Int -> Option D
 | [],_=>none
 | q :: r,g=>if q.1 = g then some q.2 else zQ r g
def zBj (T:List (List Int × D)) (g:List Int) (v:D):List (List Int × D):=match zQ T g with
 | some _=>T.map fun q=>if q.1 = g then (q.1,v) else q
 | none=>T ++ [(g,v)]
theorem zJ7 (a g:List Int):decide (tkD (tI a) = some (zJ2 g)) = decide (a = g):=by
 rw [zGz];by_cases h:a = g
 ·subst h; simp
 ·rw [zVX h,zVX];intro e;exact h (zKQ (zVy e))
theorem zPX (g:List Int):∀ T:List (List Int × D),zEx tkD (zFX T) (zJ2 g) = zQ T g
 | []=>rfl
 | q :: r=>by
  have ih:=zPX g r;unfold zEx at ih ⊢;unfold zFX at ih ⊢;rw [zVH,zWk];dsimp only;rw [zJ7];unfold zQ;by_cases h:q.1 = g
  ·rw [zV6 h,zVD h]; rfl
  ·rw [zVX h,zVG h]; exact ih
theorem zR1 (g:List Int):∀ T:List (List Int × D),((zFX T).any fun p=>decide (tkD p.1 = some (zJ2 g))) = (zQ T g).isSome
 | []=>rfl
 | q :: r=>by
  have ih:=zR1 g r;unfold zFX at ih ⊢;rw [zVH,List.any_cons,zJ7];unfold zQ;by_cases h:q.1 = g
  ·rw [zV6 h,zVD h]; rfl
  ·rw [zVX h,zVG h,Bool.false_or]; exact ih
theorem zT7 (T:List (List Int × D)) (g:List Int) (v:D):zLC tkD (zFX T) (zJ2 g) (tI g) v = zFX (zBj T g v):=by
 unfold zLC zBj;rw [zR1];cases h:zQ T g with
 | none=>
  rw [zVG (by simp)];unfold zFX; rw [zVq]; rfl
 | some d=>
  rw [zVD (by simp)];unfold zFX;dsimp only;rw [zVM,zVM];apply List.map_congr_left;intro q _;show (if tkD (tI q.1) = some (zJ2 g) then (tI q.1,v) else (tI q.1,q.2)) = (tI (if q.1 = g then (q.1,v) else q).1,(if q.1 = g then (q.1,v) else q).2);have hd:=zJ7 q.1 g;by_cases hq:q.1 = g
  ·rw [zV6 hq] at hd;rw [zVD (of_decide_eq_true hd),zVD hq]
  ·rw [zVX hq] at hd;rw [zVG (of_decide_eq_false hd),zVG hq]
theorem zEo (T:List (List Int × D)) (g h:List Int) (v:D):zQ (zBj T g v) h = if g = h then some v else zQ T h:=by
 have app:∀ (T:List (List Int × D)),zQ T g = none -> zQ (T ++ [(g,v)]) h = if g = h then some v else zQ T h:=by
  intro T;induction T with
  | nil=>intro _; rfl
  | cons q r ih=>
   intro e;unfold zQ at e;by_cases hq:q.1 = g
   ·rw [zVD hq] at e; cases e
   ·rw [zVG hq] at e;show (if q.1 = h then some q.2 else zQ (r ++ [(g,v)]) h) = if g = h then some v else if q.1 = h then some q.2 else zQ r h
    rw [ih e];by_cases h1:q.1 = h
    ·rw [zVD h1,zVD h1,zVG (fun z=>hq (h1.trans z.symm))]
    ·rw [zVG h1,zVG h1]
 have mp:∀ (T:List (List Int × D)),(zQ T g).isSome = true -> zQ (T.map fun q=>if q.1 = g then (q.1,v) else q) h = if g = h then some v else zQ T h:=by
  intro T;by_cases hgh:g = h
  ·subst hgh;induction T with
   | nil=>intro e; cases e
   | cons q r ih=>
    intro e;rw [zVH];unfold zQ;by_cases hq:q.1 = g
    ·rw [zVD hq]; simp [hq]
    ·rw [zVG hq,zVG hq];unfold zQ at e;rw [zVG hq] at e;rw [ih e,zVD rfl,zVD rfl]
  ·intro hx;clear hx;rw [zVG hgh];clear app;induction T with
   | nil=>rfl
   | cons q r ih=>
    rw [zVH];unfold zQ;by_cases hq:q.1 = g
    ·have:¬ q.1 = h:=fun z=>hgh (hq.symm.trans z);rw [zVD hq];show (if q.1 = h then some v else _) = _;rw [zVG this,zVG this]; exact ih
    ·rw [zVG hq];by_cases h1:q.1 = h
     ·rw [zVD h1,zVD h1]
     ·rw [zVG h1,zVG h1]; exact ih
 unfold zBj;cases e:zQ T g with
 | none=>exact app T e
 | some d=>exact mp T (by rw [e]; rfl)
theorem zKy (T:List (List Int × D)) (g:List Int) (v:D):(zBj T g v).length <= T.length + 1:=by
 unfold zBj;cases zQ T g with
 | none=>simp
 | some d=>simp
section
variable {M:Mem} {n:Nat} {T:List (List Int × D)} {g:List Int}
theorem dgT (h:M[n]? = some (dT T)):zGb M (.dat (.ref n)) (tI g) = some (zQ T g):=by
 unfold zGb; dsimp only; rw [h]; dsimp only; rw [zGz]; dsimp only; rw [zPX]
theorem zLj (h:M[n]? = some (dT T)):zCC neg (.dat (tI g)) (.dat (.ref n)) M = some (.dat (.bl (if neg then !(zQ T g).isSome else (zQ T g).isSome)),M):=by
 unfold zCC; dsimp only; rw [dgT h]
theorem zR2 (h:M[n]? = some (dT T)) (hd:zQ T g = some d):zCs (.dat (.ref n)) (.dat (tI g)) M = some (.dat d,M):=by
 unfold zCs; dsimp only; rw [dgT h,hd]
theorem zHw (h:M[n]? = some (dT T)) (hz:T.length < 90000):zFv M n (tI g) v = some (M.set n (dT (zBj T g v))):=by
 unfold zFv; rw [h]; dsimp only; rw [zGz]; dsimp only; rw [zVD (by rw [zU7]; exact zVN hz (zAP (by omega))),zT7]
end
noncomputable def zEd:FS:=(zX (zAR 1 zHb)
  (zX (zCe (zAv (zb zBU (zF (toD (zb zBW (zF (toD (zD 0)) zM))) zM))) (gN 2) (zCe (zAM (zF (toD (fB zA3 (zY (fOp kIx (zD 0) (fC (.int 0))) zt))) zM)) (gN 3) (zX (zAR 4 (zb zBZ (zF (toD (zD 0)) (zF (toD (zD 2)) (zF (toD (zD 3)) zM)))))
  (zX (sIf (tst (fOp (zCC true) (zD 4) (zD 1))) (zB7 (zAj zM) (zD 1) (zD 4)) zBP)
  (zCD (fM zBJ (fOp zCs (zD 1) (zD 4)) (zF (toD (zD 2)) zM)))))))
  (zAN (zD 1))))
noncomputable def zCa:FF:=zBe 5 zEd
def zDi (zA:List (List Int)) (ps:List (List Int × Int)) (g:List Int):List (List Int):=(ps.filter fun q=>decide (setR zA q.1 q.2 = g)).map (·.1)
theorem zG9 (zA:List (List Int)) (ps:List (List Int × Int)) (p:List Int) (x:Int) (g:List Int):zDi zA (ps ++ [(p,x)]) g = zDi zA ps g ++ (if setR zA p x = g then [p] else []):=by
 unfold zDi;rw [List.filter_append,zVq];congr 1;by_cases h:setR zA p x = g
 ·rw [zVD h,List.filter_cons_of_pos (by simpa using h)]; rfl
 ·rw [zVG h,List.filter_cons_of_neg (by simpa using h)]; rfl
structure Sr (zA:List (List Int)) (M:Mem) (jd lo:Nat) (ps:List (List Int × Int)):Prop where
 ex:∃ T:List (List Int × D),M[jd]? = some (dT T) /\ T.length <= ps.length /\ (∀ g d,zQ T g = some d -> ∃ j,d = .ref j /\ lo < j /\ M[j]? = some (.lst ((zDi zA ps g).map tI))) /\ (∀ g,zQ T g = none -> zDi zA ps g = []) /\ ∀ g g' j,zQ T g = some (.ref j) -> zQ T g' = some (.ref j) -> g = g'
theorem zNC {zA:List (List Int)} {l:Nat} (m:IsM zA l) (hR:zA.length < 64) {M:Mem} {jd lo:Nat} {ps:List (List Int × Int)} (hps:ps.length < 50000) (hlo:jd < lo) (hlo2:lo < M.length) (sr:Sr zA M jd lo ps) {p:List Int} (hp:IsS zA p) {x:Int} (x0:0 <= x) (x1:x < l) {y4:Option D} :
  OkS (zX (zAR 4 (zb zBZ (zF (toD (zD 0)) (zF (toD (zD 2)) (zF (toD (zD 3)) zM))))) (zX (sIf (tst (fOp (zCC true) (zD 4) (zD 1))) (zB7 (zAj zM) (zD 1) (zD 4)) zBP) (zCD (fM zBJ (fOp zCs (zD 1) (zD 4)) (zF (toD (zD 2)) zM)))) [some (mD zA),some (.ref jd),some (tI p),some (.int x),y4] M)
   fun o σ' M'=>o = .nx /\ (∃ y,σ' = [some (mD zA),some (.ref jd),some (tI p),some (.int x),y]) /\ Sr zA M' jd lo (ps ++ [(p,x)]) /\ M.length <= M'.length /\ ∀ j,j <= lo -> j ≠ jd -> M'[j]? = M[j]?:=by
 obtain ⟨T,ed,hT,h1,h2,h3⟩:=sr.ex;refine zDU (z0 (zj rfl (zj rfl (zh rfl))) (zMb m hR hp x0 x1)) ?_;generalize hg:setR zA p x = goal;show OkS (zX _ _ [some (mD zA),some (.ref jd),some (tI p),some (.int x),some (tI goal)] M) _;rw [zT,zBV];refine zK (M:=M) (a:=!(zQ T goal).isSome) (zBI (zf (x:=.dat (tI goal)) (y:=.dat (.ref jd)) rfl rfl (zLj ed))) ?_
 have last:∀ (A:Mem) (T':List (List Int × D)) (j:Nat),A[jd]? = some (dT T') -> zQ T' goal = some (.ref j) -> lo < j -> A[j]? = some (.lst ((zDi zA ps goal).map tI)) -> T'.length <= ps.length + 1 -> M.length <= A.length -> (∀ j,j <= lo -> j ≠ jd -> A[j]? = M[j]?) ->
   (∀ g d,zQ T' g = some d -> ∃ j,d = .ref j /\ lo < j /\ A[j]? = some (.lst ((zDi zA ps g).map tI))) -> (∀ g,zQ T' g = none -> zDi zA ps g = []) -> (∀ g g' j,zQ T' g = some (.ref j) -> zQ T' g' = some (.ref j) -> g = g') ->
   OkS (zCD (fM zBJ (fOp zCs (zD 1) (zD 4)) (zF (toD (zD 2)) zM)) [some (mD zA),some (.ref jd),some (tI p),some (.int x),some (tI goal)] A)
    fun o σ' M'=>o = .nx /\ (∃ y,σ' = [some (mD zA),some (.ref jd),some (tI p),some (.int x),y]) /\ Sr zA M' jd lo (ps ++ [(p,x)]) /\ M.length <= M'.length /\ ∀ j,j <= lo -> j ≠ jd -> M'[j]? = M[j]?:=by
  intro A T' j ea el hj ej hz hle hfr k1 k2 k3;rw [zDj];have hfl:(zDi zA ps goal).length <= ps.length:=by unfold zDi; rw [zU7]; exact List.length_filter_le _ _
  have jl:j < A.length:=(zU1.mp ej).1;refine zNT.mpr (zK (zf (x:=.dat (.ref jd)) (y:=.dat (tI goal)) rfl rfl (zR2 ea el)) ⟨⟨_,zBY ej⟩,zK (zh (d:=tI p) rfl) ?_⟩);rw [zIB ej (by rw [zU7]; exact zVN (m:=95000) (by omega) (zAP (by omega)))];refine ⟨rfl,⟨_,rfl⟩,⟨T',by rw [zVS (by omega)]; exact ea,by simpa using hz,fun g d hd=>?_,fun g hd=>?_,k3⟩,by simpa using hle,fun i hi hn=>by rw [zVS (by omega)]; exact hfr i hi hn⟩
  ·obtain ⟨j',rfl,hj',ej'⟩:=k1 g d hd;refine ⟨j',rfl,hj',?_⟩;rw [zG9,hg];by_cases hgg:goal = g
   ·subst hgg;rw [el] at hd;cases hd;rw [zVs jl,zVD rfl,zVq]; rfl
   ·rw [zVG hgg,zVi];have:j ≠ j':=fun z=>hgg (k3 goal g j el (by rw [z]; exact hd));rw [zVS this]; exact ej'
  ·rw [zG9,hg,zVG (fun z=>by rw [<- z,el] at hd; cases hd),zVi];exact k2 g hd
 cases hl:zQ T goal with
 | some d=>
  obtain ⟨j,rfl,hj,ej⟩:=h1 goal d hl;rw [zVG (by simp),zBM,zd];exact last M T j ed hl hj ej (by omega) (zU4 _) (fun _ _ _=>rfl) h1 h2 h3
 | none=>
  rw [zVD (by simp)];have e0:=h2 goal hl;have jdl:jd < M.length:=(zU1.mp ed).1;have ed':(M ++ [MO.lst ([]:List D)])[jd]? = some (dT T):=by rw [zU5 jdl]; exact ed
  refine ⟨.nx,[some (mD zA),some (.ref jd),some (tI p),some (.int x),some (tI goal)],(M ++ [MO.lst ([]:List D)]).set jd (dT (zBj T goal (.ref M.length))),?_,?_⟩
  ·unfold zB7;rw [show toD (zAj zM) [some (mD zA),some (.ref jd),some (tI p),some (.int x),some (tI goal)] M = some (.ref M.length,M ++ [.lst []]) by
    unfold toD zAj zM; dsimp only; rw [zVD (zAP (by simp))]]
   dsimp only;rw [show toD (zD 1) [some (mD zA),some (.ref jd),some (tI p),some (.int x),some (tI goal)] (M ++ [.lst []]) = some (.ref jd,M ++ [.lst []]) from rfl];dsimp only;rw [show toD (zD 4) [some (mD zA),some (.ref jd),some (tI p),some (.int x),some (tI goal)] (M ++ [.lst []]) = some (tI goal,M ++ [.lst []]) from rfl];dsimp only;rw [zHw ed' (by omega)]
  rw [zd];have hput:=fun g=>zEo T goal g (.ref M.length);refine last _ (zBj T goal (.ref M.length)) M.length (zVs (by simp; omega)) (by rw [hput,zVD rfl]) hlo2 ?_ (by have:=zKy T goal (.ref M.length); omega) (by simp) (fun i hi hn=>?_) (fun g d hd=>?_) (fun g hd=>?_) (fun g g' j hd hd'=>?_)
  ·rw [zVS (by omega),e0]; simp
  ·rw [zVS (Ne.symm hn),zU5 (by omega)]
  ·rw [hput] at hd;by_cases hgg:goal = g
   ·subst hgg;rw [zVD rfl] at hd;cases hd;exact ⟨M.length,rfl,hlo2,by rw [zVS (by omega),e0]; simp⟩
   ·rw [zVG hgg] at hd;obtain ⟨j,rfl,hj,ej⟩:=h1 g d hd;exact ⟨j,rfl,hj,by rw [zVS (by omega),zU5 (zU1.mp ej).1]; exact ej⟩
  ·rw [hput] at hd;by_cases hgg:goal = g
   ·rw [zVD hgg] at hd; cases hd
   ·rw [zVG hgg] at hd; exact h2 g hd
  ·rw [hput] at hd hd';by_cases a:goal = g
   ·by_cases b:goal = g'
    ·rw [<- a,<- b]
    ·rw [zVD a] at hd;rw [zVG b] at hd';cases hd;obtain ⟨j,e,_,ej⟩:=h1 g' _ hd';cases e;exact absurd (zU1.mp ej).1 (zVg _)
   ·rw [zVG a] at hd;by_cases b:goal = g'
    ·rw [zVD b] at hd';cases hd';obtain ⟨j,e,_,ej⟩:=h1 g _ hd;cases e;exact absurd (zU1.mp ej).1 (zVg _)
    ·rw [zVG b] at hd';exact h3 g g' j hd hd'
def zR (zA:List (List Int)):List Int:=(List.range zA.length).map fun (k:Nat)=>(k:Int)
def zCv (l:Nat) (ps:List (List Int)):List (List Int × Int):=ps.flatMap fun p=>(List.range l).map fun (x:Nat)=>(p,(x:Int))
theorem zHc (l:Nat) (ps:List (List Int)):(zCv l ps).length = ps.length * l:=by
 unfold zCv;induction ps with
 | nil=>simp
 | cons p r ih=>rw [List.flatMap_cons,zVE,ih,zU7,List.length_range,zVV,Nat.add_mul]; omega
theorem zD0 (xs:List Int):(ze xs).length <= xs.length * xs.length:=by
 unfold ze;have:∀ (r:List Int),(r.flatMap fun a=>(xs.filter fun b=>decide (a < b)).map fun b=>[a,b]).length <= r.length * xs.length:=by
  intro r;induction r with
  | nil=>simp
  | cons a r ih=>
   rw [List.flatMap_cons,zVE,zU7,zVV,Nat.add_mul];have:=List.length_filter_le (fun b=>decide (a < b)) xs;omega
 exact this xs
theorem zMw (h:p ∈ ze (zR zA)):IsS zA p:=by
 obtain ⟨a,b,rfl,ha,hb,hlt⟩:=zAB.mp h;obtain ⟨i,hi,rfl⟩:=zVF.mp ha;obtain ⟨j,hj,rfl⟩:=zVF.mp hb;have:=zVc.mp hi;have:=zVc.mp hj;refine ⟨by simp; omega,by simp,fun x hx=>?_⟩;simp only [zVA,zVT,zWJ] at hx;omega
theorem zJw {M M1:Mem} (ha:a σ M = some (ds,M)) (hg:g ds M = some (.ref j,M1)) (hj:M1[j]? = some (.lst xs)):zAv (zb g a) σ M = some (xs,zIS (.dat (.ref j)) xs,M1):=by
 have:zb g a σ M = some (.dat (.ref j),M1):=by unfold zb; rw [ha]; dsimp only; rw [hg]
 unfold zAv; rw [this]; dsimp only; rw [zAA hj]
theorem zRL {zA:List (List Int)} {l:Nat} (m:IsM zA l) (hR:zA.length < 64) (hl:l <= 12) {M:Mem}:Ok (zCa [mD zA] M) fun d M'=>d = .ref M.length /\ Sr zA M' M.length (M.length + 1) (zCv l (ze (zR zA))) /\ M.length + 1 < M'.length /\ ∀ j,j < M.length -> M'[j]? = M[j]?:=by
 unfold zCa;rw [zAT];unfold zEd;show OkS (zX _ _ [some (mD zA),none,none,none,none] M) _;rw [zT,zk];refine zK (M:=M ++ [.dicT []]) (a:=.dat (.ref M.length)) rfl ?_;rw [zV,zd,zT,zA8];show ∃ xs gd M1,zAv _ [some (mD zA),some (.ref M.length),none,none,none] (M ++ [.dicT []]) = some (xs,gd,M1) /\ _;have hrl:(zR zA).length = zA.length:=by unfold zR; simp
 have epr:=zLU (xs:=zR zA) (by omega) (M:=M ++ [.dicT []]);refine ⟨_,_,_,zJw (zh (d:=tI (zR zA)) (z0 (zh (d:=mD zA) rfl) (zKI (by omega)))) epr (zy _ _),?_⟩;rw [show (M ++ [MO.dicT []]).length = M.length + 1 by simp];generalize hP:ze (zR zA) = P;have hPl:P.length <= 3969:=by
  rw [<- hP];have h1:=zD0 (zR zA);rw [hrl] at h1;exact zVP h1 (Nat.mul_le_mul (show zA.length <= 63 by omega) (show zA.length <= 63 by omega))
 have e1:(M ++ [MO.dicT []] ++ [MO.lst (P.map tI)])[M.length + 1]? = some (.lst (P.map tI)):=by
  rw [zV4,zV8 (by omega)]; simp
 have e0:(M ++ [MO.dicT []] ++ [MO.lst (P.map tI)])[M.length]? = some (dT []):=by
  rw [zV4,zV8 (by omega)]; simp
 have ef:∀ j,j < M.length -> (M ++ [MO.dicT []] ++ [MO.lst (P.map tI)])[j]? = M[j]?:=fun j hj=>by rw [zV4,zU5 hj]
 have el:(M ++ [MO.dicT []] ++ [MO.lst (P.map tI)]).length = M.length + 2:=by simp
 generalize M ++ [MO.dicT []] ++ [MO.lst (P.map tI)] = M1 at e1 e0 ef el;refine zBi (I:=fun r σ M'=>(∃ y2 y3 y4,σ = [some (mD zA),some (.ref M.length),y2,y3,y4]) /\ ∃ us vs:List (List Int),P = us ++ vs /\ r = vs.map tI /\ Sr zA M' M.length (M.length + 1) (zCv l us) /\ M'[M.length + 1]? = some (.lst (P.map tI)) /\ M.length + 1 < M'.length /\ ∀ j,j < M.length -> M'[j]? = M[j]?) ?_ ?_ _ _ _ ⟨⟨_,_,_,rfl⟩,[],P,rfl,rfl,⟨[],e0,by simp,(fun g d h=>by cases h),(fun _ _=>rfl),(fun g g' j h=>by cases h)⟩,e1,by omega,ef⟩
 ·rintro x r σ M' ⟨⟨y2,y3,y4,rfl⟩,us,vs,hab,hr,sr,ep,hlen,hfr⟩;cases vs with
  | nil=>cases hr
  | cons p vs=>
   rw [zVH] at hr;obtain ⟨rfl,rfl⟩:=zV2 hr;have hpm:p ∈ ze (zR zA):=by rw [hP,hab]; simp
   have hul:us.length < 3969:=by have:=congrArg List.length hab; simp at this; omega
   refine ⟨.inl ep,_,rfl,?_⟩;show OkS (zCe _ _ _ [some (mD zA),some (.ref M.length),some (tI p),y3,y4] M') _;rw [zA8];refine ⟨_,_,_,zBA (zGw m rfl) (by omega) (by omega),?_⟩;rw [show (l:Int).toNat = l by omega];refine zEe (n:=l) (I:=fun i σ M''=>(∃ y3 y4,σ = [some (mD zA),some (.ref M.length),some (tI p),y3,y4]) /\ Sr zA M'' M.length (M.length + 1) (zCv l us ++ (List.range i).map fun (x:Nat)=>(p,(x:Int))) /\ M''[M.length + 1]? = some (.lst (P.map tI)) /\ M.length + 1 < M''.length /\ ∀ j,j < M.length -> M''[j]? = M[j]?) ?_ ?_ _ _ ⟨⟨_,_,rfl⟩,by simpa using sr,ep,hlen,hfr⟩
   ·rintro i σ M2 hi ⟨⟨y3,y4,rfl⟩,sr2,ep2,hlen2,hfr2⟩;refine ⟨_,rfl,?_⟩;have hcount:(zCv l us ++ (List.range i).map fun (x:Nat)=>(p,(x:Int))).length < 50000:=by
     rw [zVE,zHc,zU7,List.length_range];have:=Nat.mul_le_mul (show us.length <= 3968 by omega) hl;omega
    refine OkS.mono (zNC m hR hcount (zVv _) hlen2 sr2 (zMw hpm) (x:=(i:Int)) (by omega) (by omega)) ?_;rintro o σ' M3 ⟨rfl,⟨y,rfl⟩,sr3,hl3,hf3⟩;refine ⟨⟨_,_,rfl⟩,?_,by rw [hf3 _ (zU4 _) (by omega)]; exact ep2,by omega,fun j hj=>by rw [hf3 j (by omega) (by omega)]; exact hfr2 j hj⟩;rw [List.range_succ,zVq,<- zV4];exact sr3
   ·rintro σ M2 ⟨⟨y3,y4,rfl⟩,sr2,ep2,hlen2,hfr2⟩;refine ⟨⟨_,_,_,rfl⟩,us ++ [p],vs,by rw [hab]; simp,rfl,?_,ep2,hlen2,hfr2⟩;have:zCv l (us ++ [p]) = zCv l us ++ (List.range l).map fun (x:Nat)=>(p,(x:Int)):=by
     unfold zCv; rw [List.flatMap_append]; simp
    rw [this]; exact sr2
 ·rintro σ M' ⟨⟨y2,y3,y4,rfl⟩,us,vs,hab,hr,sr,ep,hlen,hfr⟩;have:vs = []:=by cases vs with | nil=>rfl | cons _ _=>cases hr
  subst this;rw [zVi] at hab;subst hab;refine ⟨.inl ep,?_⟩;rw [zd];exact zAJ rfl ⟨rfl,sr,hlen,hfr⟩
noncomputable def zDs:FS:=(zX (zAR 2 (zb zCa (zF (toD (zD 0)) zM)))
  (zX (zAR 3 (zD 1))
  (zX (zAR 4 (zDX true [5] (zAv (zD 1)) (gN 5) zAE (zD 5) (fC (.int 0))))
  (zX (zBl (zOG (zD 3)) (zX (zAR 6 (zAj zM))
  (zX (zCe (zAv (zD 3)) (gN 5) (zCe (zAv (zEO (zD 2) (zD 5) (zAj zM))) (gN 7) (sIf (tst (fOp (zCC true) (zD 7) (zD 4))) (zX (zB7 (fOp zAe (fOp zCs (zD 4) (zD 5)) (fC (.int 1))) (zD 4) (zD 7))
  (zCD (fM zBJ (zD 6) (zF (toD (zD 7)) zM)))) zBP)))
  (zAR 3 (zD 6)))) 1000)
  (zAN (zD 4))))))
noncomputable def zBx:FF:=zBe 8 zDs
abbrev Fd:=List (List Int × D) × List (List Int)
def zBO (k:Int) (st:Fd) (p:List Int):Fd:=if (zQ st.1 p).isSome then st else (zBj st.1 p (.int k),st.2 ++ [p])
structure Lv (M0 M:Mem) (jf jb:Nat) (st:Fd):Prop where
 f:M[jf]? = some (dT st.1)
 b:M[jb]? = some (.lst (st.2.map tI))
 len:M0.length <= M.length
 fr:∀ j,j < M0.length -> j ≠ jf -> j ≠ jb -> M[j]? = M0[j]?
theorem zPy (k:Int) (st:Fd) (p:List Int):(zBO k st p).1.length <= st.1.length + 1 /\ (zBO k st p).2.length <= st.2.length + 1:=by
 unfold zBO;split
 ·exact ⟨by omega,by omega⟩
 ·exact ⟨zKy _ _ _,by simp⟩
theorem zQl {M0:Mem} {jf jb js jd jl:Nat} {zA:List (List Int)} {x1 x3 y7:Option D} {goal:List Int} {k:Int} {ps:List (List Int)} (hne:jf ≠ jb) (h1:jf < M0.length) (h2:jb < M0.length) :
  ∀ (M:Mem) (st:Fd),Lv M0 M jf jb st -> M[js]? = some (.lst (ps.map tI)) -> js ≠ jf -> js ≠ jb -> zQ st.1 goal = some (.int k) -> st.1.length + ps.length <= 80000 -> st.2.length + ps.length <= 80000 ->
  OkS (zDJ (gN 7) (sIf (tst (fOp (zCC true) (zD 7) (zD 4))) (zX (zB7 (fOp zAe (fOp zCs (zD 4) (zD 5)) (fC (.int 1))) (zD 4) (zD 7)) (zCD (fM zBJ (zD 6) (zF (toD (zD 7)) zM)))) zBP) (ps.map tI) (zIS (.dat (.ref js)) (ps.map tI)) (ps.map tI) [some (mD zA),x1,some (.ref jd),x3,some (.ref jf),some (tI goal),some (.ref jb),y7] M)
   fun o σ' M'=>o = .nx /\ (∃ y,σ' = [some (mD zA),x1,some (.ref jd),x3,some (.ref jf),some (tI goal),some (.ref jb),y]) /\ Lv M0 M' jf jb (ps.foldl (zBO (k + 1)) st) /\ M'.length = M.length /\ ∀ j,j ≠ jf -> j ≠ jb -> M'[j]? = M[j]?:=by
 intro M st lv ejs n1 n2 hgl z1 z2;refine zBi (I:=fun r σ M'=>(∃ y,σ = [some (mD zA),x1,some (.ref jd),x3,some (.ref jf),some (tI goal),some (.ref jb),y]) /\ ∃ us vs:List (List Int),ps = us ++ vs /\ r = vs.map tI /\ Lv M0 M' jf jb (us.foldl (zBO (k + 1)) st) /\ zQ (us.foldl (zBO (k + 1)) st).1 goal = some (.int k) /\ (us.foldl (zBO (k + 1)) st).1.length <= st.1.length + us.length /\ (us.foldl (zBO (k + 1)) st).2.length <= st.2.length + us.length /\ M'.length = M.length /\ ∀ j,j ≠ jf -> j ≠ jb -> M'[j]? = M[j]?) ?_ ?_ _ _ _ ⟨⟨_,rfl⟩,[],ps,rfl,rfl,lv,hgl,by simp,by simp,rfl,fun _ _ _=>rfl⟩
 ·rintro x r σ M' ⟨⟨y,rfl⟩,us,vs,hab,hr,lv',hg',l1,l2,hl,hfr⟩;cases vs with
  | nil=>cases hr
  | cons p vs=>
   rw [zVH] at hr;obtain ⟨rfl,rfl⟩:=zV2 hr;have hul:us.length < ps.length:=by rw [hab]; simp
   refine ⟨.inl (by rw [hfr js n1 n2]; exact ejs),_,rfl,?_⟩;show OkS (sIf _ _ _ [some (mD zA),x1,some (.ref jd),x3,some (.ref jf),some (tI goal),some (.ref jb),some (tI p)] M') _;have hfold:(us ++ [p]).foldl (zBO (k + 1)) st = zBO (k + 1) (us.foldl (zBO (k + 1)) st) p:=by rw [List.foldl_append]; rfl
   generalize us.foldl (zBO (k + 1)) st = st' at lv' hg' l1 l2 hfold;have al:=zPy (k + 1) st' p;rw [zBV];refine zK (M:=M') (a:=!(zQ st'.1 p).isSome) (zBI (zf (x:=.dat (tI p)) (y:=.dat (.ref jf)) rfl rfl (zLj lv'.f))) ?_;cases hlk:zQ st'.1 p with
   | some d=>
    have ea:zBO (k + 1) st' p = st':=by unfold zBO; rw [hlk]; rfl
    rw [zVG (by simp),zBM];refine ⟨⟨_,rfl⟩,us ++ [p],vs,by rw [hab]; simp,rfl,?_⟩;rw [hfold,ea];exact ⟨lv',hg',by simp; omega,by simp; omega,hl,hfr⟩
   | none=>
    have ea:zBO (k + 1) st' p = (zBj st'.1 p (.int (k + 1)),st'.2 ++ [p]):=by unfold zBO; rw [hlk]; rfl
    have hgp:p ≠ goal:=fun z=>by rw [z,hg'] at hlk; cases hlk
    rw [zVD (by simp),zT];have ev:fOp zAe (fOp zCs (zD 4) (zD 5)) (fC (.int 1)) [some (mD zA),x1,some (.ref jd),x3,some (.ref jf),some (tI goal),some (.ref jb),some (tI p)] M' = some (.dat (.int (k + 1)),M'):=zf (x:=.dat (.int k)) (zf (x:=.dat (.ref jf)) (y:=.dat (tI goal)) rfl rfl (zR2 lv'.f hg')) rfl rfl;have hd:OkS (zB7 (fOp zAe (fOp zCs (zD 4) (zD 5)) (fC (.int 1))) (zD 4) (zD 7) [some (mD zA),x1,some (.ref jd),x3,some (.ref jf),some (tI goal),some (.ref jb),some (tI p)] M') fun o σ' M2=>o = .nx /\ σ' = [some (mD zA),x1,some (.ref jd),x3,some (.ref jf),some (tI goal),some (.ref jb),some (tI p)] /\ M2 = M'.set jf (dT (zBj st'.1 p (.int (k + 1)))):=by
     refine ⟨.nx,_,_,?_,rfl,rfl,rfl⟩;unfold zB7;rw [show toD (fOp zAe (fOp zCs (zD 4) (zD 5)) (fC (.int 1))) [some (mD zA),x1,some (.ref jd),x3,some (.ref jf),some (tI goal),some (.ref jb),some (tI p)] M' = some (.int (k + 1),M') by unfold toD; rw [ev]];dsimp only;rw [show toD (zD 4) [some (mD zA),x1,some (.ref jd),x3,some (.ref jf),some (tI goal),some (.ref jb),some (tI p)] M' = some (.ref jf,M') from rfl];dsimp only;rw [show toD (zD 7) [some (mD zA),x1,some (.ref jd),x3,some (.ref jf),some (tI goal),some (.ref jb),some (tI p)] M' = some (tI p,M') from rfl];dsimp only;rw [zHw lv'.f (by omega)]
    refine OkS.mono hd ?_;rintro o σ' M2 ⟨rfl,rfl,rfl⟩;rw [zd,zDj];have eb:(M'.set jf (dT (zBj st'.1 p (.int (k + 1)))))[jb]? = some (.lst (st'.2.map tI)):=by rw [zVS hne]; exact lv'.b
    refine zNT.mpr (zAZ.mpr ⟨_,rfl,⟨_,zBY eb⟩,zK (zh (d:=tI p) rfl) ?_⟩);rw [zIB eb (by rw [zU7]; exact zVN (m:=95000) (by omega) (zAP (by omega)))];have jfl:jf < M'.length:=zVN h1 lv'.len;have jbl:jb < M'.length:=zVN h2 lv'.len;refine ⟨⟨_,rfl⟩,us ++ [p],vs,by rw [hab]; simp,rfl,?_⟩;rw [hfold];refine ⟨?_,?_,by simp; omega,by simp; omega,by simp [hl],fun j q1 q2=>by rw [zVS (Ne.symm q2),zVS (Ne.symm q1)]; exact hfr j q1 q2⟩
    ·rw [ea];refine ⟨by rw [zVS (Ne.symm hne),zVs jfl],by rw [zVs (by simpa using jbl),zVq]; rfl,by simpa using lv'.len,fun j q0 q1 q2=>by rw [zVS (Ne.symm q2),zVS (Ne.symm q1)]; exact lv'.fr j q0 q1 q2⟩
    ·rw [ea];show zQ (zBj st'.1 p (.int (k + 1))) goal = _;rw [zEo,zVG hgp]; exact hg'
 ·rintro σ M' ⟨⟨y,rfl⟩,us,vs,hab,hr,lv',hg',l1,l2,hl,hfr⟩;have:vs = []:=by cases vs with | nil=>rfl | cons _ _=>cases hr
  subst this;rw [zVi] at hab;subst hab;exact ⟨.inl (by rw [hfr js n1 n2]; exact ejs),rfl,⟨_,rfl⟩,lv',hl,hfr⟩
theorem zTq {f g:FE} {σ:Sd} {M:Mem} {n:Nat} {T:List (List Int × D)} {k:List Int} (hf:f σ M = some (.dat (.ref n),M)) (hn:M[n]? = some (dT T)) (hg:g σ M = some (.dat (tI k),M)):zEO f g (zAj zM) σ M = some (.dat ((zQ T k).getD (.ref M.length)),M ++ [.lst []]):=by
 have nl:n < M.length:=(zU1.mp hn).1;unfold zEO;rw [show toD f σ M = some (.ref n,M) by unfold toD; rw [hf]];dsimp only;rw [hn];dsimp only;rw [show toD g σ M = some (tI k,M) by unfold toD; rw [hg]];dsimp only;rw [show toD (zAj zM) σ M = some (.ref M.length,M ++ [.lst []]) by
  unfold toD zAj zM; dsimp only; rw [zVD (zAP (by simp))]]
 dsimp only;rw [dgT (g:=k) (show (M ++ [MO.lst ([]:List D)])[n]? = some (dT T) by rw [zU5 nl]; exact hn)]
def zCB (src:List Int -> List (List Int)) (k:Int) (gs:List (List Int)) (st:Fd):Fd:=gs.foldl (fun st g=>(src g).foldl (zBO (k + 1)) st) st
theorem zOE {k:Int} {st:Fd} {p g:List Int} {d:D} (h:zQ st.1 g = some d):zQ (zBO k st p).1 g = some d:=by
 unfold zBO;split
 ·exact h
 ·rename_i q;show zQ (zBj st.1 p (.int k)) g = some d;rw [zEo,zVG (fun z=>q (by rw [z,h]; rfl))]; exact h
theorem zHA {k:Int} {g:List Int} {d:D}:∀ (ps:List (List Int)) {st:Fd},zQ st.1 g = some d -> zQ (ps.foldl (zBO k) st).1 g = some d
 | [],_,h=>h
 | p :: r,_,h=>zHA r (zOE h)
def zUF (M:Mem) (Ts:List (List Int × D)) (jf jb:Nat) (src:List Int -> List (List Int)):Prop:=∀ g,(∃ j,zQ Ts g = some (.ref j) /\ j ≠ jf /\ j ≠ jb /\ M[j]? = some (.lst ((src g).map tI))) \/ (zQ Ts g = none /\ src g = [])
theorem zRT {M0:Mem} {jf jb jd jl:Nat} {zA:List (List Int)} {x1 y5 y7:Option D} {k:Int} {gs:List (List Int)} {src:List Int -> List (List Int)} {Ts:List (List Int × D)} (hne:jf ≠ jb) (h1:jf < M0.length) (h2:jb < M0.length) (hd:M0[jd]? = some (dT Ts)) (d1:jd ≠ jf) (d2:jd ≠ jb) (hl:M0[jl]? = some (.lst (gs.map tI))) (l1:jl ≠ jf) (l2:jl ≠ jb) (hs:zUF M0 Ts jf jb src) (B:Nat) (hB:∀ g ∈ gs,(src g).length <= B)
  {st:Fd} (hg:∀ g ∈ gs,zQ st.1 g = some (.int k)) (Z:Nat) (hZB:Z + B <= 80000) (hZ:∀ us vs,gs = us ++ vs -> (zCB src k us st).1.length <= Z /\ (zCB src k us st).2.length <= Z) (lv:Lv M0 M0 jf jb st) :
  OkS (zDJ (gN 5) (zCe (zAv (zEO (zD 2) (zD 5) (zAj zM))) (gN 7) (sIf (tst (fOp (zCC true) (zD 7) (zD 4))) (zX (zB7 (fOp zAe (fOp zCs (zD 4) (zD 5)) (fC (.int 1))) (zD 4) (zD 7)) (zCD (fM zBJ (zD 6) (zF (toD (zD 7)) zM)))) zBP)) (gs.map tI) (zIS (.dat (.ref jl)) (gs.map tI)) (gs.map tI) [some (mD zA),x1,some (.ref jd),some (.ref jl),some (.ref jf),y5,some (.ref jb),y7] M0)
   fun o σ' M'=>o = .nx /\ (∃ y5 y7,σ' = [some (mD zA),x1,some (.ref jd),some (.ref jl),some (.ref jf),y5,some (.ref jb),y7]) /\ Lv M0 M' jf jb (zCB src k gs st):=by
 refine zBi (I:=fun r σ M'=>(∃ y5 y7,σ = [some (mD zA),x1,some (.ref jd),some (.ref jl),some (.ref jf),y5,some (.ref jb),y7]) /\ ∃ us vs:List (List Int),gs = us ++ vs /\ r = vs.map tI /\ Lv M0 M' jf jb (zCB src k us st) /\ (∀ g ∈ gs,zQ (zCB src k us st).1 g = some (.int k))) ?_ ?_ _ _ _ ⟨⟨_,_,rfl⟩,[],gs,rfl,rfl,lv,hg⟩
 ·rintro x r σ M' ⟨⟨y5,y7,rfl⟩,us,vs,hab,hr,lv',hg'⟩;cases vs with
  | nil=>cases hr
  | cons g vs=>
   rw [zVH] at hr;obtain ⟨rfl,rfl⟩:=zV2 hr;have hgm:g ∈ gs:=by rw [hab]; simp
   have hsb:=hB g hgm;obtain ⟨b1,b2⟩:=hZ us (g :: vs) hab;have keep:∀ {j:Nat} {u:MO},M0[j]? = some u -> j ≠ jf -> j ≠ jb -> M'[j]? = some u:=fun {j u} e q1 q2=>(lv'.fr j (zU1.mp e).1 q1 q2).trans e;refine ⟨.inl (keep hl l1 l2),_,rfl,?_⟩;show OkS (zCe _ _ _ [some (mD zA),x1,some (.ref jd),some (.ref jl),some (.ref jf),some (tI g),some (.ref jb),y7] M') _;have hfold:zCB src k (us ++ [g]) st = (src g).foldl (zBO (k + 1)) (zCB src k us st):=by unfold zCB; rw [List.foldl_append]; rfl
   generalize zCB src k us st = st' at lv' hg' b1 b2 hfold;have e2:=zTq (f:=zD 2) (g:=zD 5) (σ:=[some (mD zA),x1,some (.ref jd),some (.ref jl),some (.ref jf),some (tI g),some (.ref jb),y7]) (M:=M') (k:=g) rfl (keep hd d1 d2) rfl;have lvA:Lv M0 (M' ++ [.lst []]) jf jb st':=by
    have f1:=(zU1.mp lv'.f).1;have f2:=(zU1.mp lv'.b).1;have f3:=lv'.len;exact ⟨by rw [zU5 f1]; exact lv'.f,by rw [zU5 f2]; exact lv'.b,by simp; omega,fun j q0 q1 q2=>by rw [zU5 (by omega)]; exact lv'.fr j q0 q1 q2⟩
   obtain ⟨js,ejs,n1,n2,el⟩:∃ js,(zQ Ts g).getD (.ref M'.length) = .ref js /\ js ≠ jf /\ js ≠ jb /\ (M' ++ [MO.lst ([]:List D)])[js]? = some (.lst ((src g).map tI)):=by
    rcases hs g with ⟨j,e,q1,q2,q3⟩ | ⟨e,q⟩
    ·have:=keep q3 q1 q2;exact ⟨j,by rw [e]; rfl,q1,q2,by rw [zU5 (zU1.mp this).1]; exact this⟩
    ·have:=lv'.len;exact ⟨M'.length,by rw [e]; rfl,by omega,by omega,by rw [q]; simp⟩
   rw [ejs] at e2;rw [zA8];refine ⟨_,_,_,(show zAv (zEO (zD 2) (zD 5) (zAj zM)) [some (mD zA),x1,some (.ref jd),some (.ref jl),some (.ref jf),some (tI g),some (.ref jb),y7] M' = some ((src g).map tI,zIS (.dat (.ref js)) ((src g).map tI),M' ++ [.lst []]) by unfold zAv; rw [e2]; dsimp only; rw [zAA el]),?_⟩;refine OkS.mono (zQl (jl:=jl) (k:=k) hne h1 h2 _ st' lvA el n1 n2 (hg' g hgm) (by omega) (by omega)) ?_;rintro o σ' M2 ⟨rfl,⟨y,rfl⟩,lv2,_,_⟩;refine ⟨⟨_,_,rfl⟩,us ++ [g],vs,by rw [hab]; simp,rfl,?_⟩;rw [hfold];exact ⟨lv2,fun g' hg''=>zHA _ (hg' g' hg'')⟩
 ·rintro σ M' ⟨⟨y5,y7,rfl⟩,us,vs,hab,hr,lv',hg'⟩;have:vs = []:=by cases vs with | nil=>rfl | cons _ _=>cases hr
  subst this;rw [zVi] at hab;subst hab;have keep:∀ {j:Nat} {u:MO},M0[j]? = some u -> j ≠ jf -> j ≠ jb -> M'[j]? = some u:=fun {j u} e q1 q2=>(lv'.fr j (zU1.mp e).1 q1 q2).trans e;exact ⟨.inl (keep hl l1 l2),rfl,⟨_,_,rfl⟩,lv'⟩
theorem zOA (k:Int) (st:Fd) (p t:List Int):zQ (zBO k st p).1 t = (if (zQ st.1 t).isSome then zQ st.1 t else if t = p then some (.int k) else none) /\ (t ∈ (zBO k st p).2 ↔ t ∈ st.2 \/ (zQ st.1 t = none /\ t = p)):=by
 unfold zBO;by_cases h:(zQ st.1 p).isSome = true
 ·rw [zVD h];constructor
  ·by_cases ht:(zQ st.1 t).isSome = true
   ·rw [zVD ht]
   ·rw [zVG ht,zVG (fun z=>ht (by rw [z]; exact h))];cases e:zQ st.1 t with
    | none=>rfl
    | some d=>rw [e] at ht; simp at ht
  ·constructor
   ·exact .inl
   ·rintro (q | ⟨q,rfl⟩)
    ·exact q
    ·rw [q] at h; cases h
 ·rw [zVG h];have hn:zQ st.1 p = none:=by
   cases e:zQ st.1 p with
   | none=>rfl
   | some d=>rw [e] at h; simp at h
  constructor
  ·show zQ (zBj st.1 p (.int k)) t = _;rw [zEo];by_cases ht:p = t
   ·subst ht;rw [zVD rfl,zVG h,zVD rfl]
   ·rw [zVG ht];by_cases hs:(zQ st.1 t).isSome = true
    ·rw [zVD hs]
    ·rw [zVG hs,zVG (fun z=>ht z.symm)];cases e:zQ st.1 t with
     | none=>rfl
     | some d=>rw [e] at hs; simp at hs
  ·show t ∈ st.2 ++ [p] ↔ _;rw [zVO,zVQ];constructor
   ·rintro (q | rfl)
    ·exact .inl q
    ·exact .inr ⟨hn,rfl⟩
   ·rintro (q | ⟨_,q⟩)
    ·exact .inl q
    ·exact .inr q
theorem zHn (k:Int):∀ (ps:List (List Int)) (st:Fd) (t:List Int),zQ (ps.foldl (zBO k) st).1 t = (if (zQ st.1 t).isSome then zQ st.1 t else if t ∈ ps then some (.int k) else none) /\ (t ∈ (ps.foldl (zBO k) st).2 ↔ t ∈ st.2 \/ (zQ st.1 t = none /\ t ∈ ps))
 | [],st,t=>by
  constructor
  ·by_cases h:(zQ st.1 t).isSome = true
   ·rw [zVD h]; rfl
   ·rw [zVG h,zVG (by simp)];cases e:zQ st.1 t with
    | none=>exact e
    | some d=>rw [e] at h; simp at h
  ·simp
 | p :: r,st,t=>by
  obtain ⟨a1,a2⟩:=zOA k st p t;obtain ⟨b1,b2⟩:=zHn k r (zBO k st p) t;rw [List.foldl_cons,b1,b2,a2,a1];by_cases h:(zQ st.1 t).isSome = true
  ·rw [zVD h,zVD h,zVD h];refine ⟨rfl,?_⟩;have hn:¬ zQ st.1 t = none:=fun z=>by rw [z] at h; cases h
   simp [hn]
  ·have hn:zQ st.1 t = none:=by
    cases e:zQ st.1 t with
    | none=>rfl
    | some d=>rw [e] at h; simp at h
   rw [zVG h,zVG h];by_cases hp:t = p
   ·rw [zVD hp];refine ⟨?_,?_⟩
    ·rw [zVD (show (some (D.int k)).isSome = true from rfl),zVD (by rw [hp]; exact zVC)]
    ·simp [hn,hp]
   ·rw [zVG hp];refine ⟨?_,?_⟩
    ·rw [zVG (by simp)];by_cases hr:t ∈ r
     ·rw [zVD hr,zVD (zVB _ hr)]
     ·rw [zVG hr,zVG (by simp [hp,hr])]
    ·simp [hn,hp]
theorem zIW (src:List Int -> List (List Int)) (k:Int) (gs:List (List Int)) (st:Fd) (t:List Int):zQ (zCB src k gs st).1 t = (if (zQ st.1 t).isSome then zQ st.1 t else if t ∈ gs.flatMap src then some (.int (k + 1)) else none) /\ (t ∈ (zCB src k gs st).2 ↔ t ∈ st.2 \/ (zQ st.1 t = none /\ t ∈ gs.flatMap src)):=by
 have:∀ (gs:List (List Int)) (st:Fd),zCB src k gs st = (gs.flatMap src).foldl (zBO (k + 1)) st:=by
  intro gs;induction gs with
  | nil=>intro st; rfl
  | cons g r ih=>
   intro st;show zCB src k r ((src g).foldl (zBO (k + 1)) st) = _;rw [ih,List.flatMap_cons,List.foldl_append]
 rw [this gs st];exact zHn (k + 1) (gs.flatMap src) st t
def Rch (zA:List (List Int)) (l:Nat) (G:List Int -> Prop) (t:List Int) (n:Nat):Prop:=∃ w:List Int,w.length = n /\ (∀ x ∈ w,0 <= x /\ x < (l:Int)) /\ G (zTm zA t w)
def Dst (zA:List (List Int)) (l:Nat) (G:List Int -> Prop) (t:List Int) (n:Nat):Prop:=Rch zA l G t n /\ ∀ m,m < n -> ¬ Rch zA l G t m
theorem zFc:Rch zA l G t (n + 1) ↔ ∃ x:Int,(0 <= x /\ x < (l:Int)) /\ Rch zA l G (setR zA t x) n:=by
 constructor
 ·rintro ⟨w,hw,hb,hl⟩;cases w with
  | nil=>cases hw
  | cons x w=>exact ⟨x,hb x zVC,w,by simpa using hw,fun y hy=>hb y (zVB _ hy),hl⟩
 ·rintro ⟨x,hx,w,hw,hb,hl⟩;exact ⟨x :: w,by simp [hw],fun y hy=>by rcases zVA.mp hy with rfl | q; exact hx; exact hb y q,hl⟩
theorem zKN:Rch zA l G t 0 ↔ G t:=by
 constructor
 ·rintro ⟨w,hw,_,hl⟩;have:w = []:=zW0.mp hw;subst this; exact hl
 ·intro h; exact ⟨[],rfl,(fun _ h=>by cases h),h⟩
theorem zF4:Dst zA l G t 0 ↔ G t:=by
 unfold Dst;rw [zKN];exact ⟨fun h=>h.1,fun h=>⟨h,fun m hm=>by omega⟩⟩
theorem zG1:Dst zA l G t (n + 1) ↔ (∀ m,m <= n -> ¬ Rch zA l G t m) /\ ∃ x:Int,(0 <= x /\ x < (l:Int)) /\ Dst zA l G (setR zA t x) n:=by
 constructor
 ·rintro ⟨h1,h2⟩;obtain ⟨x,hx,hr⟩:=zFc.mp h1;exact ⟨fun m hm=>h2 m (by omega),x,hx,hr,fun m hm hq=>h2 (m + 1) (by omega) (zFc.mpr ⟨x,hx,hq⟩)⟩
 ·rintro ⟨h1,x,hx,hr,_⟩;exact ⟨zFc.mpr ⟨x,hx,hr⟩,fun m hm=>h1 m (by omega)⟩
theorem zHj:∀ n,Rch zA l G t n -> ∃ m,m <= n /\ Dst zA l G t m:=by
 intro n;induction n using Nat.strongRecOn with
 | ind n ih=>
  intro h;by_cases q:∃ m,m < n /\ Rch zA l G t m
  ·obtain ⟨m,hm,hr⟩:=q;obtain ⟨m',h1,h2⟩:=ih m hm hr;exact ⟨m',by omega,h2⟩
  ·exact ⟨n,zU4 _,h,fun m hm hr=>q ⟨m,hm,hr⟩⟩
theorem zFE (h1:Dst zA l G t a) (h2:Dst zA l G t b):a = b:=by
 rcases Nat.lt_trichotomy a b with q | q | q
 ·exact absurd h1.1 (h2.2 a q)
 ·exact q
 ·exact absurd h2.1 (h1.2 b q)
def zHi (zA:List (List Int)) (l:Nat) (G:List Int -> Prop) (U:List Int -> Prop) (k:Nat) (fd:List (List Int × D)) (lev:List (List Int)):Prop:=(∀ t d,zQ fd t = some d ↔ U t /\ ∃ n:Nat,n <= k /\ Dst zA l G t n /\ d = .int (n:Int)) /\ ∀ t,t ∈ lev ↔ U t /\ Dst zA l G t k
theorem zGF (h:zHi zA l G U k fd lev) (u:U t):zQ fd t = none ↔ ∀ m,m <= k -> ¬ Rch zA l G t m:=by
 constructor
 ·intro e m hm hr;obtain ⟨n,hn,hd⟩:=zHj m hr;rw [(h.1 t (.int (n:Int))).mpr ⟨u,n,by omega,hd,rfl⟩] at e;cases e
 ·intro q;cases e:zQ fd t with
  | none=>rfl
  | some d=>
   obtain ⟨_,n,hn,hd,_⟩:=(h.1 t d).mp e;exact absurd hd.1 (q n hn)
theorem zNF {zA:List (List Int)} {l:Nat} {U P:List Int -> Prop} {src:List Int -> List (List Int)} (hs:∀ g t,t ∈ src g ↔ P t /\ ∃ x:Int,(0 <= x /\ x < (l:Int)) /\ setR zA t x = g) (hP:∀ t,P t -> U t) (hU:∀ t n,U t -> ¬ G t -> Rch zA l G t n -> P t) (hc:∀ t (x:Int),U t -> 0 <= x /\ x < (l:Int) -> U (setR zA t x))
  {k:Nat} {fd:List (List Int × D)} {lev:List (List Int)} (h:zHi zA l G U k fd lev):zHi zA l G U (k + 1) (zCB src (k:Int) lev (fd,[])).1 (zCB src (k:Int) lev (fd,[])).2:=by
 have key:∀ t,(zQ fd t = none /\ t ∈ lev.flatMap src) ↔ U t /\ Dst zA l G t (k + 1):=by
  intro t;constructor
  ·rintro ⟨e,hm⟩;obtain ⟨g,hg,ht⟩:=List.mem_flatMap.mp hm;obtain ⟨p,x,hx,hq⟩:=(hs g t).mp ht;have u:=hP t p;refine ⟨u,zG1.mpr ⟨(zGF h u).mp e,x,hx,?_⟩⟩;rw [hq]; exact ((h.2 g).mp hg).2
  ·rintro ⟨u,hd⟩;obtain ⟨q,x,hx,hr⟩:=zG1.mp hd;refine ⟨(zGF h u).mpr q,List.mem_flatMap.mpr ⟨setR zA t x,(h.2 _).mpr ⟨hc t x u hx,hr⟩,(hs _ t).mpr ⟨hU t _ u ?_ hd.1,x,hx,rfl⟩⟩⟩;intro h1;exact q 0 (zVk _) (zKN.mpr h1)
 constructor
 ·intro t d;rw [(zIW src (k:Int) lev (fd,[]) t).1];show (if (zQ fd t).isSome then zQ fd t else if t ∈ lev.flatMap src then some (.int ((k:Int) + 1)) else none) = some d ↔ _;cases e:zQ fd t with
  | some d'=>
   rw [zVD (show (some d').isSome = true from rfl)];obtain ⟨u,n,hn,hd,rfl⟩:=(h.1 t d').mp e;constructor
   ·intro z; cases z;exact ⟨u,n,by omega,hd,rfl⟩
   ·rintro ⟨_,m,_,hm,rfl⟩;rw [zFE hm hd]
  | none=>
   rw [zVG (by simp)];by_cases hm:t ∈ lev.flatMap src
   ·rw [zVD hm];obtain ⟨u,hd⟩:=(key t).mp ⟨e,hm⟩;constructor
    ·intro z; cases z;exact ⟨u,k + 1,zU4 _,hd,by simp⟩
    ·rintro ⟨_,m,_,hm',rfl⟩;rw [zFE hm' hd]; simp
   ·rw [zVG hm];constructor
    ·intro z; cases z
    ·rintro ⟨u,m,hk,hd,rfl⟩;exfalso;by_cases hmk:m <= k
     ·exact (zGF h u).mp e m hmk hd.1
     ·have:m = k + 1:=by omega
      subst this;exact hm ((key t).mpr ⟨u,hd⟩).2
 ·intro t;rw [(zIW src (k:Int) lev (fd,[]) t).2];show t ∈ ([]:List (List Int)) \/ (zQ fd t = none /\ t ∈ lev.flatMap src) ↔ _;rw [key t];simp
theorem zOq {zA:List (List Int)} {l:Nat} {G:List Int -> Prop} {U:List Int -> Prop} (hc:∀ t (x:Int),U t -> 0 <= x /\ x < (l:Int) -> U (setR zA t x)) {k:Nat} {fd:List (List Int × D)} (h:zHi zA l G U k fd []) (t:List Int) (d:D):zQ fd t = some d ↔ U t /\ ∃ n:Nat,Dst zA l G t n /\ d = .int (n:Int):=by
 have far:∀ n t,U t -> ¬ Dst zA l G t (k + n):=by
  intro n;induction n with
  | zero=>intro t u hd; exact absurd ((h.2 t).mpr ⟨u,hd⟩) (by simp)
  | succ n ih=>
   intro t u hd;obtain ⟨_,x,hx,hr⟩:=zG1.mp (show Dst zA l G t ((k + n) + 1) from hd);exact ih _ (hc t x u hx) hr
 rw [h.1 t d];constructor
 ·rintro ⟨u,n,_,a,b⟩; exact ⟨u,n,a,b⟩
 ·rintro ⟨u,n,a,b⟩;refine ⟨u,n,?_,a,b⟩;by_cases q:n <= k
  ·exact q
  ·exfalso;have e:n = k + (n - k):=by omega
   rw [e] at a;exact far _ t u a
def Th (zA:List (List Int)) (t:List Int):Prop:=IsS zA t /\ t.length <= 2
def zEE (zA:List (List Int)) (l:Nat) (g:List Int):List (List Int):=zDi zA (zCv l (ze (zR zA))) g
theorem zRO (g t:List Int):t ∈ zEE zA l g ↔ t ∈ ze (zR zA) /\ ∃ x:Int,(0 <= x /\ x < (l:Int)) /\ setR zA t x = g:=by
 unfold zEE zDi zCv;simp only [zVF,List.mem_filter,List.mem_flatMap,zVc,zWB];constructor
 ·rintro ⟨q,⟨⟨p,hp,k,hk,rfl⟩,hq⟩,rfl⟩;exact ⟨hp,(k:Int),⟨by omega,by omega⟩,hq⟩
 ·rintro ⟨hp,x,⟨x0,x1⟩,hq⟩;refine ⟨(t,x),⟨⟨t,hp,x.toNat,by omega,?_⟩,hq⟩,rfl⟩;rw [show ((x.toNat:Nat):Int) = x by omega]
theorem zq:x ∈ zR zA ↔ 0 <= x /\ x < (zA.length:Int):=by
 unfold zR;simp only [zVF,zVc];constructor
 ·rintro ⟨k,hk,rfl⟩; omega
 ·rintro ⟨h0,h1⟩; exact ⟨x.toNat,by omega,by omega⟩
theorem zJ5 (t:List Int) (h:t ∈ ze (zR zA)):Th zA t:=by
 refine ⟨zMw h,?_⟩;obtain ⟨a,b,rfl,_⟩:=zAB.mp h;exact zU4 _
theorem zMy (t:List Int) (h:Th zA t) (h1:t.length ≠ 1):t ∈ ze (zR zA):=by
 obtain ⟨⟨pw,n0,hm⟩,h2⟩:=h;match t,pw,n0,hm,h1,h2 with
 | [a,b],pw,_,hm,_,_=>
  exact zAB.mpr ⟨a,b,rfl,zq.mpr (hm a (by simp)),zq.mpr (hm b (by simp)),by simpa using pw⟩
 | [a],_,_,_,h1,_=>exact absurd rfl h1
 | [],_,n0,_,_,_=>cases n0
 | _ :: _ :: _ :: _,_,_,_,_,h2=>simp at h2
theorem zMC (m:IsM zA l) (t:List Int) (x:Int) (h:Th zA t) (hx:0 <= x /\ x < (l:Int)):Th zA (setR zA t x):=by
 refine ⟨m.setR h.1 hx.1 hx.2,?_⟩;have:=zM6 (t.map fun h=>zAG zA h x);rw [zU7] at this;exact zVP this h.2
def zH8 (zA:List (List Int)) (G:List Int -> Prop):Prop:=(∀ t,Th zA t -> t.length = 1 -> G t) \/ ∀ t,t.length = 1 -> ¬ G t
theorem zIw (m:IsM zA l):∀ (w t:List Int),Th zA t -> t.length = 1 -> (∀ x ∈ w,0 <= x /\ x < (l:Int)) -> (zTm zA t w).length = 1
 | [],_,_,h,_=>h
 | x :: w,t,u,h,hw=>by
  have hx:=hw x zVC;have u':=zMC m t x u hx;refine zIw m w (setR zA t x) u' ?_ fun y hy=>hw y (zVB _ hy);have h1:=zM6 (t.map fun h=>zAG zA h x);rw [zU7,h] at h1;have h2:=u'.1.n0;have h3:(setR zA t x).length <= 1:=h1;omega
theorem zNj (m:IsM zA l) (o:zH8 zA G) (t:List Int) (n:Nat) (u:Th zA t) (g:¬ G t) (r:Rch zA l G t n):t ∈ ze (zR zA):=by
 refine zMy t u fun h1=>?_;rcases o with o | o
 ·exact g (o t u h1)
 ·obtain ⟨w,_,hw,hg⟩:=r;exact o _ (zIw m w t u h1 hw) hg
theorem zKS (m:IsM zA l) (o:zH8 zA G) (h:zHi zA l G (Th zA) k fd lev):zHi zA l G (Th zA) (k + 1) (zCB (zEE zA l) (k:Int) lev (fd,[])).1 (zCB (zEE zA l) (k:Int) lev (fd,[])).2 :=
 zNF (P:=fun t=>t ∈ ze (zR zA)) zRO zJ5 (zNj m o) (zMC m) h
theorem zNq (hts:∀ t,t ∈ ts ↔ Th zA t /\ G t) (h:∀ t d,zQ fd t = some d ↔ t ∈ ts /\ d = .int 0):zHi zA l G (Th zA) 0 fd ts:=by
 have key:∀ t,t ∈ ts ↔ Th zA t /\ Dst zA l G t 0:=fun t=>by rw [zF4,hts]
 refine ⟨fun t d=>?_,key⟩;rw [h t d,key t];constructor
 ·rintro ⟨⟨a,b⟩,rfl⟩; exact ⟨a,0,zU4 _,b,by simp⟩
 ·rintro ⟨a,n,hn,b,rfl⟩;have:n = 0:=by omega
  subst this;exact ⟨⟨a,b⟩,by simp⟩
abbrev One (t:List Int):Prop:=t.length = 1
theorem zPB (t:List Int):t ∈ (zR zA).map (fun r=>[r]) ↔ Th zA t /\ One t:=by
 rw [zVF];constructor
 ·rintro ⟨r,hr,rfl⟩;have:=zq.mp hr;refine ⟨⟨⟨by simp,by simp,fun x hx=>?_⟩,by simp⟩,rfl⟩;rw [zVQ] at hx;subst hx; exact this
 ·rintro ⟨⟨s,_⟩,h1⟩;obtain ⟨r,rfl⟩:=List.length_eq_one_iff.mp h1;exact ⟨r,zq.mpr (s.mem r (by simp)),rfl⟩
theorem zQx:zH8 zA One:=.inl fun _ _ h=>h
theorem whole (m:IsM zA l) (h:zHi zA l G (Th zA) k fd []) (t:List Int) (d:D):zQ fd t = some d ↔ Th zA t /\ ∃ n:Nat,Dst zA l G t n /\ d = .int (n:Int):=zOq (zMC m) h t d
theorem zF7 {α:Type} [DecidableEq α]:∀ (xs ys:List α),xs.Nodup -> (∀ x ∈ xs,x ∈ ys) -> xs.length <= ys.length
 | [],_,_,_=>zVk _
 | x :: r,ys,h,hm=>by
  obtain ⟨h1,h2⟩:=List.nodup_cons.mp h;have hx:x ∈ ys:=hm x zVC;have:=zF7 r (ys.erase x) h2 fun y hy=>(List.mem_erase_of_ne (fun z=>h1 (by rw [<- z]; exact hy))).mpr (hm y (zVB _ hy));rw [List.length_erase_of_mem hx] at this;have:=List.length_pos_of_mem hx;simp only [zVV]; omega
theorem zCZ:∀ {T:List (List Int × D)} {g:List Int},(zQ T g).isSome = true ↔ g ∈ T.map (·.1)
 | [],g=>by simp [zQ]
 | q :: r,g=>by
  unfold zQ;by_cases h:q.1 = g
  ·simp [h]
  ·rw [zVG h,zCZ (T:=r)];simp only [zVH,zVA];constructor
   ·exact .inr
   ·rintro (z | z)
    ·exact absurd z.symm h
    ·exact z
structure Sz (n:Nat) (st:Fd):Prop where
 ks:(st.1.map (·.1)).Nodup
 nd:st.2.Nodup
 sub:∀ t ∈ st.2,t ∈ st.1.map (·.1)
 len:st.1.length = n + st.2.length
theorem zRt {n:Nat} {st:Fd} (k:Int) (p:List Int) (h:Sz n st):Sz n (zBO k st p):=by
 unfold zBO;by_cases q:(zQ st.1 p).isSome = true
 ·rw [zVD q]; exact h
 ·rw [zVG q];have hn:zQ st.1 p = none:=by
   cases e:zQ st.1 p with
   | none=>rfl
   | some d=>rw [e] at q; simp at q
  have hk:p ∉ st.1.map (·.1):=fun z=>q (zCZ.mpr z);have e:zBj st.1 p (.int k) = st.1 ++ [(p,.int k)]:=by unfold zBj; rw [hn]
  rw [e];refine ⟨?_,?_,?_,?_⟩
  ·show ((st.1 ++ [(p,D.int k)]).map (·.1)).Nodup;rw [zVq,zWC];refine ⟨h.ks,by simp,fun a ha b hb=>?_⟩;simp at hb;subst hb;intro z; subst z; exact hk ha
  ·show (st.2 ++ [p]).Nodup;rw [zWC];refine ⟨h.nd,by simp,fun a ha b hb=>?_⟩;simp at hb;subst hb;intro z; subst z; exact hk (h.sub _ ha)
  ·intro t ht;show t ∈ (st.1 ++ [(p,D.int k)]).map (·.1);rw [zVq,zVO];rcases zVO.mp (show t ∈ st.2 ++ [p] from ht) with z | z
   ·exact .inl (h.sub t z)
   ·right; simpa using z
  ·show (st.1 ++ [(p,D.int k)]).length = n + (st.2 ++ [p]).length;rw [zVE,zVE,h.len];simp; omega
theorem zGq (src:List Int -> List (List Int)) (k:Int):∀ (gs:List (List Int)) {st:Fd},Sz n st -> Sz n (zCB src k gs st)
 | [],st,h=>h
 | g :: r,st,h=>by
  show Sz n (zCB src k r ((src g).foldl (zBO (k + 1)) st));refine zGq src k r ?_;have:∀ (ps:List (List Int)) {st:Fd},Sz n st -> Sz n (ps.foldl (zBO (k + 1)) st):=by
   intro ps;induction ps with
   | nil=>intro st h; exact h
   | cons p ps ih=>intro st h; exact ih (zRt (k + 1) p h)
  exact this _ h
theorem zNS (k:Int) (st:Fd) (p:List Int):st.1.length <= (zBO k st p).1.length:=by
 unfold zBO;split
 ·exact zU4 _
 ·show st.1.length <= (zBj st.1 p _).length;unfold zBj;cases zQ st.1 p <;> simp
theorem zI2 (src:List Int -> List (List Int)) (k:Int):∀ (gs:List (List Int)) (st:Fd),st.1.length <= (zCB src k gs st).1.length
 | [],st=>zU4 _
 | g :: r,st=>by
  have h1:∀ (ps:List (List Int)) (st:Fd),st.1.length <= (ps.foldl (zBO (k + 1)) st).1.length:=by
   intro ps;induction ps with
   | nil=>intro st; exact zU4 _
   | cons p ps ih=>intro st; exact zVP (zNS (k + 1) st p) (ih _)
  exact zVP (h1 (src g) st) (zI2 src k r _)
theorem zGH (h:zHi zA l G (Th zA) k fd lev) (hk:(fd.map (·.1)).Nodup):fd.length <= zA.length + zA.length * zA.length:=by
 have hr:(zR zA).length = zA.length:=by unfold zR; simp
 have h1:=zF7 (fd.map (·.1)) ((zR zA).map (fun r=>[r]) ++ ze (zR zA)) hk fun t ht=>by
  have hs:=zCZ.mpr ht;cases e:zQ fd t with
  | none=>rw [e] at hs; cases hs
  | some d=>
   obtain ⟨u,_⟩:=(h.1 t d).mp e;rw [zVO];by_cases h1:t.length = 1
   ·obtain ⟨r,rfl⟩:=List.length_eq_one_iff.mp h1;exact .inl (zVF.mpr ⟨r,zq.mpr (u.1.mem r (by simp)),rfl⟩)
   ·exact .inr (zMy t u h1)
 have h2:=zD0 (zR zA);rw [zU7,zVE,zU7,hr] at h1;rw [hr] at h2;omega
theorem zS8 (h:f σ M = some (.dat (.ref j),M)) (hj:M[j]? = some (.lst xs)):zOG f σ M = some (!xs.isEmpty,M):=by
 unfold zOG; rw [h]; dsimp only; rw [zAA hj]
theorem zQj (zA:List (List Int)) (l:Nat) (g:List Int):(zEE zA l g).length <= zA.length * zA.length * l:=by
 unfold zEE zDi;rw [zU7];refine zVP (List.length_filter_le _ _) ?_;rw [zHc];have:=zD0 (zR zA);have hr:(zR zA).length = zA.length:=by unfold zR; simp
 rw [hr] at this;exact Nat.mul_le_mul_right l this
theorem zPn (m:IsM zA l) (oa:zH8 zA G) (hR:zA.length <= 26) (hl:l <= 12) (h1:jf < M0.length) (hd:M0[jd]? = some (dT Ts)) (d1:jd ≠ jf) (hs:∀ g,(∃ j,zQ Ts g = some (.ref j) /\ j ≠ jf /\ M0[j]? = some (.lst ((zEE zA l g).map tI))) \/ (zQ Ts g = none /\ zEE zA l g = [])) (hf:M0[jf]? = some (dT fd)) (hv:M0[jl]? = some (.lst (lev.map tI))) (l1:jl ≠ jf) (inv:zHi zA l G (Th zA) 0 fd lev) (nk:(fd.map (·.1)).Nodup) (nl:lev.length <= fd.length) :
  OkS (zBl (zOG (zD 3)) (zX (zAR 6 (zAj zM)) (zX (zCe (zAv (zD 3)) (gN 5) (zCe (zAv (zEO (zD 2) (zD 5) (zAj zM))) (gN 7) (sIf (tst (fOp (zCC true) (zD 7) (zD 4))) (zX (zB7 (fOp zAe (fOp zCs (zD 4) (zD 5)) (fC (.int 1))) (zD 4) (zD 7)) (zCD (fM zBJ (zD 6) (zF (toD (zD 7)) zM)))) zBP))) (zAR 3 (zD 6)))) 1000 [some (mD zA),x1,some (.ref jd),some (.ref jl),some (.ref jf),y5,y6,y7] M0)
   fun o σ' M'=>o = .nx /\ (∃ y3 y5 y6 y7,σ' = [some (mD zA),x1,some (.ref jd),y3,some (.ref jf),y5,y6,y7]) /\ (∃ fd',M'[jf]? = some (dT fd') /\ fd'.length <= 702 /\ ∀ t d,zQ fd' t = some d ↔ Th zA t /\ ∃ n:Nat,Dst zA l G t n /\ d = .int (n:Int)) /\ M0.length <= M'.length /\ ∀ j,j < M0.length -> j ≠ jf -> M'[j]? = M0[j]?:=by
 have hN:zA.length + zA.length * zA.length <= 702:=by
  have:=Nat.mul_le_mul hR hR;omega
 have hB:zA.length * zA.length * l <= 8112:=Nat.mul_le_mul (Nat.mul_le_mul hR hR) hl;refine zDf (I:=fun z σ M=>∃ (jl:Nat) (y5 y6 y7:Option D) (k:Nat) (fd:List (List Int × D)) (lev:List (List Int)),σ = [some (mD zA),x1,some (.ref jd),some (.ref jl),some (.ref jf),y5,y6,y7] /\ M[jf]? = some (dT fd) /\ M[jl]? = some (.lst (lev.map tI)) /\ jl ≠ jf /\ zHi zA l G (Th zA) k fd lev /\ (fd.map (·.1)).Nodup /\ lev.length <= fd.length /\ M0.length <= M.length /\ (∀ j,j < M0.length -> j ≠ jf -> M[j]? = M0[j]?) /\ z = (702 - fd.length) + (if lev.isEmpty then 0 else 1)) ?_ 1000 ((702 - fd.length) + (if lev.isEmpty then 0 else 1)) _ _ (by split <;> omega) ⟨jl,y5,y6,y7,0,fd,lev,rfl,hf,hv,l1,inv,nk,nl,zU4 _,fun _ _ _=>rfl,rfl⟩;rintro z σ M ⟨jl,y5,y6,y7,k,fd,lev,rfl,hf,hv,l1,inv,nk,nl,hlen,fr,rfl⟩;have hfl:=zVP (zGH inv nk) hN;refine zK (M:=M) (a:=!(lev.map tI).isEmpty) (zS8 rfl hv) ?_;cases lev with
 | nil=>
  exact ⟨rfl,⟨_,_,_,_,rfl⟩,⟨fd,hf,hfl,whole m inv⟩,hlen,fr⟩
 | cons g0 lev0=>
  show OkS (zX _ _ [some (mD zA),x1,some (.ref jd),some (.ref jl),some (.ref jf),y5,y6,y7] M) _;generalize hlv:g0 :: lev0 = lev at *;have hne0:lev.isEmpty = false:=by rw [<- hlv]; rfl
  rw [zT,zk];refine zK (M:=M) (a:=.fl []) (by unfold zAj zM; dsimp only; rw [zVD (zAP (by simp))]) ?_;rw [zGs,zd,zT,zA8];have fl:=(zU1.mp hf).1;have vl:=(zU1.mp hv).1;have up:∀ {j:Nat},j < M.length -> (M ++ [MO.lst ([]:List D)])[j]? = M[j]?:=fun h=>zU5 h;have dl:=(zU1.mp hd).1;refine ⟨_,_,_,(show zAv (zD 3) [some (mD zA),x1,some (.ref jd),some (.ref jl),some (.ref jf),y5,some (.ref M.length),y7] (M ++ [.lst []]) = some (lev.map tI,zIS (.dat (.ref jl)) (lev.map tI),M ++ [.lst []]) by
   unfold zAv;rw [show zD 3 [some (mD zA),x1,some (.ref jd),some (.ref jl),some (.ref jf),y5,some (.ref M.length),y7] (M ++ [.lst []]) = some (.dat (.ref jl),M ++ [.lst []]) from rfl];dsimp only; rw [zAA ((up vl).trans hv)]),?_⟩
  have sz0:Sz fd.length (fd,([]:List (List Int))):=⟨nk,by simp,(fun t h=>by cases h),by simp⟩;have szw:Sz fd.length (zCB (zEE zA l) (k:Int) lev (fd,[])):=zGq _ _ lev sz0;have hflw:=zVP (zGH (zKS m oa inv) szw.ks) hN;refine OkS.mono (zRT (k:=(k:Int)) (src:=zEE zA l) (st:=(fd,[])) (Ts:=Ts) (by omega) (by simp; omega) (by simp) ((up (by omega)).trans ((fr _ dl d1).trans hd)) d1 (by omega) ((up vl).trans hv) l1 (by omega) ?_ 8112 (fun g _=>zVP (zQj zA l g) hB) ?_ 702 (by omega) (fun us vs e=>?_) ⟨(up fl).trans hf,by simp,zU4 _,fun _ _ _ _=>rfl⟩) ?_
  ·intro g;rcases hs g with ⟨j,e,q1,q2⟩ | q
   ·have jl':=(zU1.mp q2).1;exact .inl ⟨j,e,q1,by omega,(up (by omega)).trans ((fr _ jl' q1).trans q2)⟩
   ·exact .inr q
  ·intro g hg;obtain ⟨u,hd'⟩:=(inv.2 g).mp hg;exact (inv.1 g _).mpr ⟨u,k,zU4 _,hd',rfl⟩
  ·have h3:=zI2 (zEE zA l) (k:Int) vs (zCB (zEE zA l) (k:Int) us (fd,[]));have h4:zCB (zEE zA l) (k:Int) vs (zCB (zEE zA l) (k:Int) us (fd,[])) = zCB (zEE zA l) (k:Int) lev (fd,[]):=by rw [e]; unfold zCB; rw [List.foldl_append]
   rw [h4] at h3;have h5:=(zGq (zEE zA l) (k:Int) us sz0).len;omega
  ·rintro o σ' M' ⟨rfl,⟨y5,y7,rfl⟩,lv⟩;rw [zd,zk];refine zK (M:=M') (a:=.dat (.ref M.length)) rfl ?_;rw [zV];have sz:Sz fd.length (zCB (zEE zA l) (k:Int) lev (fd,[])):=zGq _ _ lev ⟨nk,by simp,(fun t h=>by cases h),by simp⟩;have inv':=zKS m oa inv;generalize zCB (zEE zA l) (k:Int) lev (fd,[]) = st at lv sz inv';have hfl':=zVP (zGH inv' sz.ks) hN;have hsl:=sz.len;refine ⟨(702 - st.1.length) + (if st.2.isEmpty then 0 else 1),?_,M.length,y5,_,y7,k + 1,st.1,st.2,rfl,lv.f,lv.b,by omega,inv',sz.ks,by omega,?_,?_,rfl⟩
   ·rw [hne0];cases e:st.2 with
    | nil=>simp; omega
    | cons a r=>rw [e] at hsl; simp at hsl ⊢; omega
   ·have:=lv.len; simp at this; omega
   ·intro j hj hjf;rw [lv.fr j (by simp; omega) hjf (by omega),up (by omega)];exact fr j hj hjf
theorem zNn {M:Mem} {ts:List (List Int)} (hf:f σ M = some (.dat (.ref jl),M)) (hj:M[jl]? = some (.lst (ts.map tI))) (nd:ts.Nodup) (hz:ts.length <= 80000) (hg:∀ a,gN i a (zCI own σ) = some ((zCI own σ).set i (some a))) (hs:∀ (a:D) M',zD i ((zCI own σ).set i (some a)) M' = some (.dat a,M')) :
  zDX true own (zAv f) (gN i) zAE (zD i) (fC (.int 0)) σ M = some (.dat (.ref M.length),M ++ [dT (ts.map fun t=>(t,.int 0))]):=by
 have hjl:=(zU1.mp hj).1;unfold zDX zAv;rw [hf]; dsimp only;rw [zAA hj]; dsimp only;have loop:∀ (r q:List (List Int)),q ++ r = ts -> zDe (gN i) zAE (zD i) (fC (.int 0)) (zCI own σ) M.length (ts.map tI) (zIS (.dat (.ref jl)) (ts.map tI)) (r.map tI) (M ++ [dT (q.map fun t=>(t,.int 0))]) = some (M ++ [dT (ts.map fun t=>(t,.int 0))]):=by
  intro r;induction r with
  | nil=>intro q e; rw [zVi] at e; subst e; exact zIa (.inl (by rw [zU5 hjl]; exact hj))
  | cons x r ih=>
   intro q e;have hx:x ∉ q:=fun z=>by
    rw [<- e,zWC] at nd;exact nd.2.2 x z x zVC rfl
   have hl:q.length < 90000:=by have:=congrArg List.length e; simp at this; omega
   have hk:zQ (q.map fun t=>(t,D.int 0)) x = none:=by
    cases e2:zQ (q.map fun t=>(t,D.int 0)) x with
    | none=>rfl
    | some d=>
     have:=zCZ.mp (show (zQ (q.map fun t=>(t,D.int 0)) x).isSome = true by rw [e2]; rfl);rw [zVM] at this;obtain ⟨y,hy,rfl⟩:=zVF.mp this;exact absurd hy hx
   have hgd:zBK (zIS (.dat (.ref jl)) (ts.map tI)) (ts.map tI) (M ++ [dT (q.map fun t=>(t,.int 0))]):=.inl (by rw [zU5 hjl]; exact hj);rw [zVH,zHm (σ1:=(zCI own σ).set i (some (tI x))) (k:=tI x) (v:=.int 0) (M':=M ++ [dT ((q ++ [x]).map fun t=>(t,.int 0))]) hgd (hg _) (hs _ _) rfl]
   ·exact ih (q ++ [x]) (by rw [<- e]; simp)
   ·rw [zHw (T:=q.map fun t=>(t,.int 0)) (by simp) (by rw [zU7]; exact hl)];unfold zBj;rw [hk];simp
 have:=loop ts [] rfl;rw [show zJH true = dT [] from rfl];rw [show (([]:List (List Int)).map fun t=>(t,D.int 0)) = [] from rfl] at this;rw [this]
theorem zIO {zA:List (List Int)} (m:IsM zA l) (oa:zH8 zA G) (hR:zA.length <= 26) (hl:l <= 12) {M:Mem} {ts:List (List Int)} (hj:M[jg]? = some (.lst (ts.map tI))) (nd:ts.Nodup) (hts:∀ t,t ∈ ts ↔ Th zA t /\ G t) (hz:ts.length <= 80000):Ok (zBx [mD zA,.ref jg] M) fun d M'=>∃ jf,d = .ref jf /\ M.length <= jf /\ (∃ fd,M'[jf]? = some (dT fd) /\ fd.length <= 702 /\ ∀ t d,zQ fd t = some d ↔ Th zA t /\ ∃ n:Nat,Dst zA l G t n /\ d = .int (n:Int)) /\ M.length <= M'.length /\ ∀ j,j < M.length -> M'[j]? = M[j]?:=by
 have hjl:=(zU1.mp hj).1;unfold zBx;rw [zAT];unfold zDs;show OkS (zX _ _ [some (mD zA),some (.ref jg),none,none,none,none,none,none] M) _;rw [zT,zk];refine zCf.mpr (zK (zh rfl) (Ok.mono (zRL m (by omega) hl) ?_));rintro d M1 ⟨rfl,sr,h1,fr⟩;rw [zV,zd];refine zDU (d:=.ref jg) rfl ?_;show OkS (zX _ _ [some (mD zA),some (.ref jg),some (.ref M.length),some (.ref jg),none,none,none,none] M1) _;have hj1:=(fr _ hjl).trans hj;rw [zT,zk];refine zK (zNn (jl:=jg) (ts:=ts) rfl hj1 nd hz (fun _=>rfl) (fun _ _=>rfl)) ?_;rw [zV,zd];show OkS (zX _ _ [some (mD zA),some (.ref jg),some (.ref M.length),some (.ref jg),some (.ref M1.length),none,none,none] _) _;obtain ⟨T,ed,hT,a1,a2,a3⟩:=sr.ex;have up:∀ {j:Nat} {u:MO},M1[j]? = some u -> (M1 ++ [dT (ts.map fun t=>(t,D.int 0))])[j]? = some u:=fun {j u} h=>by rw [zU5 (zU1.mp h).1]; exact h
 have ed':=(zU1.mp ed).1;rw [zT];refine OkS.mono (zPn (jf:=M1.length) (jd:=M.length) (jl:=jg) (Ts:=T) (lev:=ts) (fd:=ts.map fun t=>(t,D.int 0)) m oa hR hl (by simp) (up ed) (by omega) ?_ (by simp) (up hj1) (by omega) (zNq hts ?_) ?_ (by simp)) ?_
 ·intro g;cases e:zQ T g with
  | none=>exact .inr ⟨rfl,a2 g e⟩
  | some d=>
   obtain ⟨j,rfl,q1,q2⟩:=a1 g d e;have:=(zU1.mp q2).1;exact .inl ⟨j,rfl,by omega,up q2⟩
 ·intro t d;have gen:∀ (ts:List (List Int)),zQ (ts.map fun t=>(t,D.int 0)) t = some d ↔ t ∈ ts /\ d = .int 0:=by
   intro ts;induction ts with
   | nil=>simp [zQ]
   | cons x r ih=>
    rw [zVH,zQ];by_cases q:x = t
    ·subst q; simp [eq_comm]
    ·rw [zVG q,ih,zVA];constructor
     ·rintro ⟨z1,z2⟩; exact ⟨.inr z1,z2⟩
     ·rintro ⟨z1 | z1,z2⟩
      ·exact absurd z1.symm q
      ·exact ⟨z1,z2⟩
  exact gen _
 ·rw [zVM];rw [show ((fun (x:List Int × D)=>x.1) ∘ fun (t:List Int)=>(t,D.int 0)) = id from rfl,List.map_id];exact nd
 ·rintro o σ' M' ⟨rfl,⟨y3,y5,y6,y7,rfl⟩,⟨fd,e1,e2,e3⟩,hlen,fr'⟩;rw [zd];rw [zVE] at hlen fr';refine zAJ (d:=.ref M1.length) rfl ⟨M1.length,rfl,by omega,⟨fd,e1,e2,e3⟩,by omega,fun j hj=>?_⟩;rw [fr' j (by omega) (by omega),zU5 (by omega)];exact fr j hj
noncomputable def zGO:FS:=(zAN (zb zBx (zF (toD (zD 0)) (zF (toD (zAc [1] (zAM (zF (toD (fB zA3 (zY (zD 0) zt))) zM)) (gN 1) zAE (zAm (zF (toD (zD 1)) zM)))) zM))))
noncomputable def zDl:FF:=zBe 2 zGO
theorem zME (m:IsM zA l) (hR:zA.length <= 26) (hl:l <= 12):Ok (zDl [mD zA] M) fun d M'=>∃ jf,d = .ref jf /\ M.length <= jf /\ (∃ fd,M'[jf]? = some (dT fd) /\ fd.length <= 702 /\ ∀ t d,zQ fd t = some d ↔ Th zA t /\ ∃ n:Nat,Dst zA l One t n /\ d = .int (n:Int)) /\ M.length <= M'.length /\ ∀ j,j < M.length -> M'[j]? = M[j]?:=by
 unfold zDl;rw [zAT];unfold zGO;show OkS (zAN _ [some (mD zA),none] M) _;have er:zAM (zF (toD (fB zA3 (zY (zD 0) zt))) zM) [some (mD zA),none] M = some ((List.range zA.length).map (fun (k:Nat)=>D.int k),none,M):=by
  rw [zBA (j:=(zA.length:Int)) (zBv rfl) (by omega) (by omega),zEM];rw [show (zA.length:Int).toNat = zA.length by omega]
 have ec:zAc [1] (zAM (zF (toD (fB zA3 (zY (zD 0) zt))) zM)) (gN 1) zAE (zAm (zF (toD (zD 1)) zM)) [some (mD zA),none] M = some (.fl ((List.range zA.length).map fun (k:Nat)=>tI [(k:Int)]),M) :=
  zCw (List.range zA.length) (fun (k:Nat)=>D.int k) (fun (k:Nat)=>tI [(k:Int)]) er trivial (by rw [List.length_range]; omega) fun k _=>⟨_,rfl,rfl⟩
 have el:((List.range zA.length).map fun (k:Nat)=>tI [(k:Int)]) = ((zR zA).map fun r=>[r]).map tI:=by
  unfold zR; rw [zVM,zVM]; rfl
 rw [el] at ec;rw [zAu];refine zCf.mpr (zBC.mpr (zA5.mpr (zAZ.mpr ⟨_,rfl,?_⟩)));rw [zV];refine zBC.mpr (zA5.mpr (zK ec ?_));rw [zGs,zCl];refine Ok.mono (zIO m zQx hR hl (jg:=M.length) (ts:=(zR zA).map fun r=>[r]) (by simp) ?_ zPB ?_) ?_
 ·unfold zR;rw [zVM];exact List.pairwise_map.mpr (List.Pairwise.imp (fun {a b} h z=>h (by simp at z; omega)) List.nodup_range)
 ·unfold zR; simp; omega
 rintro d M' ⟨jf,rfl,h1,h2,h3,h4⟩;rw [zV];rw [zVE] at h1 h3 h4;refine ⟨jf,rfl,by omega,h2,by omega,fun j hj=>?_⟩;rw [h4 j (by omega),zU5 hj]
end Lac
namespace Lac
open PySem PySem.Spec PyProof.Rows L2 L3 ST Law
theorem zHa (ha:a σ M = some (true,M)):zFY a b σ M = some (true,M):=by unfold zFY; rw [ha]
theorem zCz (ha:a σ M = some (false,M)) (hb:b σ M = some (k,M)):zFY a b σ M = some (k,M):=by unfold zFY; rw [ha]; exact hb
theorem aC' {f:FE} {g:FA} {σ:Sd} {M M1 M2:Mem} {d:D} {ds:List D} (h:toD f σ M = some (d,M1)) (hg:g σ M1 = some (ds,M2)):zF (toD f) g σ M = some (d :: ds,M2):=by
 unfold zF; rw [h]; dsimp only; rw [hg]
theorem zCG (h:f σ M = some (.dat d,M)):toD f σ M = some (d,M):=by unfold toD; rw [h]
theorem zKM {M M1:Mem} (h:f σ M = some (.fl xs,M1)):toD f σ M = some (.ref M1.length,M1 ++ [.lst xs]):=by unfold toD; rw [h]
theorem zIR {g:FA} {σ:Sd} {M M1:Mem} {ds:List D} (h:g σ M = some (ds,M1)) (hz:ds.length <= 100000):zAj g σ M = some (.fl ds,M1):=by
 unfold zAj; rw [h]; dsimp only; rw [zVD (zAP hz)]
theorem zCy {g:FA} {σ:Sd} {M M1:Mem} {ds:List D} (h:g σ M = some (ds,M1)) (hz:ds.length <= 100000):zAm g σ M = some (.dat (.tup ds),M1):=by
 unfold zAm; rw [h]; dsimp only; rw [zVD (zAP hz)]
theorem zQv (hf:f σ M = some (.dat (.int i),M)) (hg:g σ M = some (.dat (.int j),M)):fB zKL (zY f (zY g zt)) σ M = some (.dat (.int (if j < i then j else i)),M):=by
 unfold fB zY zt; rw [hf]; dsimp only; rw [hg]; rfl
theorem zMl {f:FE} {σ:Sd} {M M1:Mem} {xs:List D} (h:f σ M = some (.fl xs,M1)):zAv f σ M = some (xs,none,M1):=by
 unfold zAv; rw [h]; rfl
theorem zOD (h1:M[n]? = some (.lst xs)) (h2:M[m]? = some (.lst ys)) (hz:xs.length + ys.length <= 90000):zEp (.dat (.ref n)) [.ref m] M = some (.non,M.set n (.lst (xs ++ ys))):=by
 unfold zEp; dsimp only; rw [h1,h2]; dsimp only; rw [zVD (zAP (by omega))]
theorem zRf (hf:f σ M = some (.dat (.int i),M)) (hg:g σ M = some (.dat (.int j),M)):fB zKq (zY f (zY g zt)) σ M = some (.dat (.int (if j > i then j else i)),M):=by
 unfold fB zY zt; rw [hf]; dsimp only; rw [hg]; rfl
theorem zMP {m:FF} {a:FA} {σ:Sd} {M M1 M':Mem} {ds:List D} {d:D} (h:a σ M = some (ds,M1)) (hm:m ds M1 = some (d,M')):zb m a σ M = some (.dat d,M'):=by
 unfold zb; rw [h]; dsimp only; rw [hm]
theorem zIq {α:Type} (hgd:zBK gd all M) (enc out:α -> D) (keep:α -> Bool):∀ (as:List α),(∀ a ∈ as,∃ σ1,g (enc a) σ = some σ1 /\ tc σ1 M = some (keep a,M) /\ (keep a = true -> te σ1 M = some (.dat (out a),M))) -> zBB g tc te σ all gd (as.map enc) M = some ((as.filter keep).map out,M)
 | [],_=>by
  rw [List.map_nil];unfold zBB;rw [zVD hgd]; rfl
 | a :: r,h=>by
  obtain ⟨σ1,e1,e2,e3⟩:=h a zVC;have ih:=zIq (σ:=σ) hgd enc out keep r fun b hb=>h b (zVB _ hb);rw [zVH];unfold zBB;rw [zVD hgd,e1];dsimp only;rw [e2];cases hk:keep a with
  | false=>
   dsimp only;rw [ih,List.filter_cons_of_neg (by simp [hk])]
  | true=>
   dsimp only;rw [show toD te σ1 M = some (out a,M) by unfold toD; rw [e3 hk]];dsimp only;rw [ih,List.filter_cons_of_pos hk];rfl
theorem zGh {α:Type} {own:List Nat} {fi:FI} {g:FG} {tc:FT} {te:FE} {σ:Sd} {M M1:Mem} {gd:Option (Mem -> Prop)} (as:List α) (enc out:α -> D) (keep:α -> Bool) (hi:fi σ M = some (as.map enc,gd,M1)) (hgd:zBK gd (as.map enc) M1) (hz:as.length <= 100000)
  (he:∀ a ∈ as,∃ σ1,g (enc a) (zCI own σ) = some σ1 /\ tc σ1 M1 = some (keep a,M1) /\ (keep a = true -> te σ1 M1 = some (.dat (out a),M1))):zAc own fi g tc te σ M = some (.fl ((as.filter keep).map out),M1) :=
 zg (zFu.mpr ⟨_,_,_,hi,by rw [zU7]; exact zAP hz,zK (zIq hgd enc out keep as he) ⟨rfl,rfl⟩⟩)
theorem eqE:kEq (.dat (.int a)) (.dat (.int b)) M = some (.dat (.bl (decide (a = b))),M):=zg (zLi.mpr ⟨rfl,rfl⟩)
theorem zQt (ha:a σ M = some (false,M)):zBo a b σ M = some (false,M):=by unfold zBo; rw [ha]
open Classical in
noncomputable def zJV (zA:List (List Int)) (l:Nat) (G:List Int -> Prop) (t:List Int):Nat:=if h:∃ n,Dst zA l G t n then Classical.choose h else 0
theorem zMx (h:Dst zA l G t n):zJV zA l G t = n:=by
 unfold zJV;have hx:∃ n,Dst zA l G t n:=⟨n,h⟩;rw [dif_pos hx];exact zFE (Classical.choose_spec hx) h
theorem zQD (h:0 < zJV zA l G t):Dst zA l G t (zJV zA l G t):=by
 by_cases hx:∃ n,Dst zA l G t n
 ·obtain ⟨n,hn⟩:=hx;rw [zMx hn]; exact hn
 ·unfold zJV at h;rw [dif_neg hx] at h;omega
noncomputable def zR0 (zA:List (List Int)) (l:Nat) (G:List Int -> Prop) (t:List Int):Bool:=decide (0 < zJV zA l G t)
noncomputable def zG5 (zA:List (List Int)) (l:Nat) (G:List Int -> Prop):List (List Int):=(ze (zR zA)).filter (zR0 zA l G)
theorem zMj (h:g ∉ T.map (·.1)):zBj T g v = T ++ [(g,v)]:=by
 unfold zBj;cases e:zQ T g with
 | none=>rfl
 | some d=>exact absurd (zCZ.mp (show (zQ T g).isSome = true by rw [e]; rfl)) h
theorem zJx (h:xs.Nodup):(ze xs).Nodup:=by
 have gen:∀ r:List Int,r.Nodup -> (r.flatMap fun a=>(xs.filter fun b=>decide (a < b)).map fun b=>[a,b]).Nodup:=by
  intro r;induction r with
  | nil=>intro _; simp
  | cons a r ih=>
   intro hr;obtain ⟨h1,h2⟩:=List.nodup_cons.mp hr;rw [List.flatMap_cons,zWC];refine ⟨?_,ih h2,fun u hu v hv=>?_⟩
   ·refine List.pairwise_map.mpr (List.Pairwise.imp (fun {x y} q z=>q (by simpa using z)) (List.Pairwise.filter _ h))
   ·obtain ⟨b,_,rfl⟩:=zVF.mp hu;obtain ⟨c,hc,hv⟩:=List.mem_flatMap.mp hv;obtain ⟨d,_,rfl⟩:=zVF.mp hv;intro z;have:a = c:=by simpa using (zV2 z).1
    exact h1 (by rw [this]; exact hc)
 exact gen xs h
theorem zKV (zA:List (List Int)):(zR zA).Nodup:=by
 unfold zR;exact List.pairwise_map.mpr (List.Pairwise.imp (fun {a b} h z=>h (by omega)) List.nodup_range)
theorem zGC:t ∈ zG5 zA l G ↔ t ∈ ze (zR zA) /\ ∃ n,Dst zA l G t (n + 1):=by
 unfold zG5 zR0;rw [List.mem_filter];constructor
 ·rintro ⟨a,b⟩;have:=zQD (of_decide_eq_true b);exact ⟨a,zJV zA l G t - 1,by rw [show zJV zA l G t - 1 + 1 = zJV zA l G t by have:=of_decide_eq_true b; omega]; exact this⟩
 ·rintro ⟨a,n,h⟩;exact ⟨a,zV6 (by rw [zMx h]; omega)⟩
theorem zDa (hR:zA.length <= 26):(ze (zR zA)).length <= 676:=by
 have h1:=zD0 (zR zA);have hrl:(zR zA).length = zA.length:=by unfold zR; simp
 rw [hrl] at h1;exact zVP h1 (Nat.mul_le_mul hR hR)
def zAL (a b:Int):List Int:=[if b < a then b else a,if b > a then b else a]
theorem zIj (a0:0 <= a) (a1:a < zA.length) (b0:0 <= b) (b1:b < zA.length) (ne:a ≠ b):zAL a b ∈ ze (zR zA):=by
 unfold zAL;refine zAB.mpr ⟨_,_,rfl,zq.mpr ?_,zq.mpr ?_,?_⟩
 ·split <;> omega
 ·split <;> omega
 ·split <;> split <;> omega
theorem zPm (h:a ≠ b):(zAL a b).Pairwise (· < ·):=by
 unfold zAL;simp only [List.pairwise_cons,zVQ,forall_eq,zVT,false_implies,implies_true,List.Pairwise.nil,and_true];split <;> split <;> omega
theorem zLE (h1:fv σ M = some (.dat v,M)) (h2:fo σ M = some (.dat (.ref n),M)) (h3:fi σ M = some (.dat k,M)) (h4:zFv M n k v = some M4) (q:P .nx σ M4):OkS (zB7 fv fo fi σ M) P:=by
 refine ⟨.nx,σ,M4,?_,q⟩;unfold zB7 toD;rw [h1]; dsimp only; rw [h2]; dsimp only; rw [h3]; dsimp only; rw [h4]
def zPj:D -> Bool
 | .non | .bl _ | .int _=>true
 | _=>false
theorem zKU (h:zPj d = true):(zGc d).isSome = true:=by cases d <;> first | rfl | cases h
theorem zPb (h:zPj d = true):kEq (.dat d) (.dat d) M = some (.dat (.bl true),M):=zPY (zKU h)
noncomputable def zEb:FS:=(zX (zAR 1 (zAj zM))
  (zX (zCe (zAM (zF (toD (fB zA3 (zY (zD 0) zt))) zM)) (gN 2) (zCD (fM zEp (zD 1) (zF (toD (zAc [3] (zAv (fSl (zD 0) (zBN (fOp zAe (zD 2) (fC (.int 1)))) zBc)) (gN 3) zAE (zAm (zF (toD (fOp kIx (zD 0) (zD 2))) (zF (toD (zD 3)) zM))))) zM))))
  (zAN (zD 1))))
noncomputable def zBm:FF:=zBe 4 zEb
noncomputable def zD3:FS:=(zX (zAR 3 (fOp kIx (fOp kIx (zD 0) (fOp kIx (zD 1) (fC (.int 0)))) (zD 2)))
  (zX (zAR 4 (fOp kIx (fOp kIx (zD 0) (fOp kIx (zD 1) (fC (.int 1)))) (zD 2)))
  (zAN (zAm (zF (toD (fB zKL (zY (zD 3) (zY (zD 4) zt)))) (zF (toD (fB zKq (zY (zD 3) (zY (zD 4) zt)))) zM))))))
noncomputable def zA6:FF:=zHK (zBe 5 zD3)
theorem zLR {xs:List Int} (h:xs.Pairwise (· < ·)) (hi:i < xs.length):xs.filter (fun b=>decide (xs[i] < b)) = xs.drop (i + 1):=by
 have hg:=List.pairwise_iff_getElem.mp h;have h1:(xs.take (i + 1)).filter (fun b=>decide (xs[i] < b)) = []:=by
  rw [List.filter_eq_nil_iff];intro b hb;obtain ⟨j,hj,rfl⟩:=List.getElem_of_mem hb;rw [zWM] at hj;rw [List.getElem_take,zWB];rcases Nat.lt_or_ge j i with q | q
  ·have:=hg j i (by omega) hi q; omega
  ·have:j = i:=by omega
   subst this; omega
 have h2:(xs.drop (i + 1)).filter (fun b=>decide (xs[i] < b)) = xs.drop (i + 1):=by
  rw [List.filter_eq_self];intro b hb;obtain ⟨j,hj,rfl⟩:=List.getElem_of_mem hb;rw [zXR] at hj;rw [List.getElem_drop,zWB];exact hg i (i + 1 + j) hi (by omega) (by omega)
 have key:∀ f:Int -> Bool,(xs.take (i + 1)).filter f = [] -> (xs.drop (i + 1)).filter f = xs.drop (i + 1) -> xs.filter f = xs.drop (i + 1):=fun f a b=>by
  have:=List.filter_append (p:=f) (xs.take (i + 1)) (xs.drop (i + 1));rw [List.take_append_drop,a,b] at this;simpa using this
 exact key _ h1 h2
def zFb (xs:List Int) (k:Nat):List (List Int):=(List.range k).flatMap fun i=>(xs.drop (i + 1)).map fun b=>[xs.getD i 0,b]
theorem zNd {xs:List Int} (h:xs.Pairwise (· < ·)):zFb xs xs.length = ze xs:=by
 have e:ze xs = (List.range xs.length).flatMap fun i=>(xs.filter fun b=>decide (xs.getD i 0 < b)).map fun b=>[xs.getD i 0,b]:=by
  unfold ze;have:xs = (List.range xs.length).map fun i=>xs.getD i 0:=by
   have:=zHW (fun x:Int=>x) 0 xs;simpa using this.symm
  conv=>lhs; arg 2; rw [this]
  rw [List.flatMap_map]
 rw [e];unfold zFb;have:∀ i ∈ List.range xs.length,(xs.drop (i + 1)).map (fun b=>[xs.getD i 0,b]) = (xs.filter fun b=>decide (xs.getD i 0 < b)).map fun b=>[xs.getD i 0,b]:=fun i hi=>by
  have hi':=zVc.mp hi;rw [<- zLR h hi'];congr 2;funext b;rw [zU3,zU2 hi'];rfl
 rw [List.flatMap_def,List.flatMap_def,List.map_congr_left this]
theorem zRC (xs:List Int):∀ k,(zFb xs k).length <= k * xs.length:=by
 intro k;induction k with
 | zero=>simp [zFb]
 | succ k ih=>
  unfold zFb at ih ⊢;rw [List.range_succ,List.flatMap_append,zVE];simp only [List.flatMap_cons,List.flatMap_nil,zVi,zU7,zXR];rw [Nat.add_mul]; omega
theorem zOj {xs:List D} (hk:k <= xs.length):L3.zCW xs (some (k:Int)) none = xs.drop k:=by
 have ha:HT.sIx xs.length 0 (some (k:Int)) = k:=by rw [HT.zMn]; omega
 unfold L3.zCW;rw [ha,show HT.sIx xs.length xs.length none = xs.length from rfl];exact List.take_of_length_le (by simp)
theorem zCR (n:Nat) (ps:List (List Int)):D.unds n (ps.map tI) = true:=by
 induction ps with
 | nil=>rfl
 | cons p r ih=>rw [zVH]; unfold D.unds; rw [ih,show D.und n (tI p) = true from zC0 p]; rfl
theorem zFm (hj:M[j]? = some (.lst (xs.map D.int))) (hx:xs.Pairwise (· < ·)) (hz:xs.length <= 100) :
  Ok (zBm [.ref j] M) fun d M'=>d = .ref M.length /\ ∃ us:Mem,M' = M ++ .lst ((ze xs).map tI) :: us /\ ∀ u ∈ us,MO.und 0 u = true:=by
 have hjl:=(zU1.mp hj).1;unfold zBm;rw [zAT];unfold zEb;show OkS (zX _ _ [some (.ref j),none,none,none] M) _;rw [zT,zk];refine zK (M:=M) (a:=.fl []) (zIR rfl (by simp)) (zAO ?_);rw [zd];show OkS (zX _ _ [some (.ref j),some (.ref M.length),none,none] (M ++ [.lst []])) _;have up:∀ us:Mem,(M ++ us)[j]? = some (.lst (xs.map D.int)):=fun us=>by rw [zU5 hjl]; exact hj
 rw [zT,zA8];have el:=zB8 (f:=zD 0) (σ:=[some (.ref j),some (.ref M.length),none,none]) (M:=M ++ [.lst []]) (x:=.dat (.ref j)) rfl (zAA (up _));rw [zU7] at el;refine ⟨_,_,_,zBA el (by omega) (by omega),?_⟩;rw [show ((xs.length:Int)).toNat = xs.length by omega];refine zEe (n:=xs.length) (I:=fun k σ M'=>(∃ y2 y3,σ = [some (.ref j),some (.ref M.length),y2,y3]) /\ ∃ us:Mem,M' = M ++ .lst ((zFb xs k).map tI) :: us /\ ∀ u ∈ us,MO.und 0 u = true) ?_ ?_ _ _ ⟨⟨_,_,rfl⟩,[],by simp [zFb],(fun _ h=>by cases h)⟩
 ·rintro k σ M' hk ⟨⟨y2,y3,rfl⟩,us,rfl,hu⟩;refine ⟨_,rfl,?_⟩;show OkS (zCD _ [some (.ref j),some (.ref M.length),some (.int (k:Int)),y3] (M ++ .lst ((zFb xs k).map tI) :: us)) _;generalize hA:M ++ MO.lst ((zFb xs k).map tI) :: us = A;have a0:A[j]? = some (.lst (xs.map D.int)):=by rw [<- hA]; exact up _
  have a1:A[M.length]? = some (.lst ((zFb xs k).map tI)):=by rw [<- hA]; simp
  have al:M.length < A.length:=(zU1.mp a1).1;rw [zDj];have esl:fSl (zD 0) (zBN (fOp zAe (zD 2) (fC (.int 1)))) zBc [some (.ref j),some (.ref M.length),some (.int (k:Int)),y3] A = some (.fl ((xs.drop (k + 1)).map D.int),A):=by
   refine zg (zOo.mpr (zK (a:=.dat (.ref j)) (M:=A) rfl (zHk.mpr (zK (a:=.dat (.int ((k + 1:Nat):Int))) (M:=A) rfl (zH5.mpr (zHY.mpr ?_))))));rw [zJJ (zBY a0) rfl,zOj (by rw [zU7]; omega),List.map_drop];exact ⟨rfl,rfl⟩
  have ec:=zCw (own:=[3]) (g:=gN 3) (te:=zAm (zF (toD (fOp kIx (zD 0) (zD 2))) (zF (toD (zD 3)) zM))) (σ:=[some (.ref j),some (.ref M.length),some (.int (k:Int)),y3]) (M:=A) (xs.drop (k + 1)) D.int (fun b=>tI [xs.getD k 0,b]) (zMl esl) trivial (by rw [zXR]; omega) fun b _=>⟨_,rfl,zCy (zj (zf (x:=.dat (.ref j)) (y:=.dat (.int (k:Int))) rfl rfl (zCX (zAA a0) (zJR (by rw [zVL,zU2 hk,zU3,zU2 hk]; rfl)))) (zh (d:=.int b) rfl)) (by simp)⟩;have htl:=zRC xs k;have hmul:k * xs.length <= 100 * 100:=Nat.mul_le_mul (by omega) hz;refine zNT.mpr (zK (a:=.dat (.ref M.length)) (M:=A) rfl ⟨⟨_,zBY a1⟩,zBC.mpr (zA5.mpr (zK ec (zAO ?_)))⟩);rw [zCl];refine zK (zOD (n:=M.length) (m:=A.length) (xs:=(zFb xs k).map tI) (ys:=(xs.drop (k + 1)).map fun b=>tI [xs.getD k 0,b]) (by rw [zU5 al]; exact a1) (zy _ _) (by rw [zU7,zU7,zXR]; omega)) ?_;refine ⟨⟨_,_,rfl⟩,us ++ [.lst ((xs.drop (k + 1)).map fun b=>tI [xs.getD k 0,b])],?_,fun u hu'=>?_⟩
  ·rw [<- hA,zV4,List.set_append_right _ _ (zU4 _)];have:(zFb xs (k + 1)).map tI = (zFb xs k).map tI ++ (xs.drop (k + 1)).map fun b=>tI [xs.getD k 0,b]:=by
    unfold zFb;rw [List.range_succ,List.flatMap_append,zVq];simp [zVM,Function.comp_def]
   rw [this];simp
  ·rcases zVO.mp hu' with q | q
   ·exact hu u q
   ·rw [zVQ] at q; subst q;show D.unds 0 _ = true;rw [show (xs.drop (k + 1)).map (fun b=>tI [xs.getD k 0,b]) = ((xs.drop (k + 1)).map fun b=>[xs.getD k 0,b]).map tI by rw [zVM]; rfl];exact zCR 0 _
 ·rintro σ M' ⟨⟨y2,y3,rfl⟩,us,rfl,hu⟩;rw [zd];exact zAJ (d:=.ref M.length) rfl ⟨rfl,us,by rw [zNd hx],hu⟩
theorem zIv {zA:List (List Int)} {l:Nat} (m:IsM zA l) {a b x:Int} (a0:0 <= a) (a1:a < zA.length) (b0:0 <= b) (b1:b < zA.length) (x0:0 <= x) (x1:x < l) {M:Mem}:zA6 [mD zA,tI [a,b],.int x] M = some (tI (zAL (zAG zA a x) (zAG zA b x)),M):=by
 refine zg ?_;unfold zA6;refine zJm ?_ ?_
 ·unfold D.unds D.unds D.unds D.unds;rw [zJK,show D.und 0 (tI [a,b]) = true from zC0 _]; rfl
 rw [zAT];unfold zD3;show OkS (zX _ _ [some (mD zA),some (tI [a,b]),some (.int x),none,none] []) _;refine zDU (m.ix a0 a1 x0 x1 (f1:=zD 0) (f2:=fOp kIx (zD 1) (fC (.int 0))) (f3:=zD 2) rfl (zf (x:=.dat (tI [a,b])) (y:=.dat (.int 0)) rfl rfl (zCX zAr rfl)) rfl) ?_;refine zDU (m.ix b0 b1 x0 x1 (f1:=zD 0) (f2:=fOp kIx (zD 1) (fC (.int 1))) (f3:=zD 2) rfl (zf (x:=.dat (tI [a,b])) (y:=.dat (.int 1)) rfl rfl (zCX zAr rfl)) rfl) ?_;exact zAJ (d:=tI (zAL (zAG zA a x) (zAG zA b x))) (zCy (zj (zQv (i:=zAG zA a x) (j:=zAG zA b x) rfl rfl) (zh (zRf (i:=zAG zA a x) (j:=zAG zA b x) rfl rfl))) (by simp [zAL])) ⟨zC0 _,rfl,rfl⟩
theorem zIl (h:p ≠ q):zAL p q = ris [p,q]:=by
 refine (zLg (zPm h)).symm.trans (zJ6 fun x=>?_);unfold zAL;by_cases z:q < p
 ·rw [zVD z,zVG (by omega)]; simp [or_comm]
 ·rw [zVG z,zVD (by omega)]
theorem zPt:(zAL p q).getD 0 0 < (zAL p q).getD 1 0 ↔ p ≠ q:=by
 unfold zAL;show (if q < p then q else p) < (if q > p then q else p) ↔ _;constructor
 ·intro h e; subst e; simp at h
 ·intro h; split <;> split <;> omega
end Lac
namespace Lac
open PySem PySem.Spec PyProof.Rows L2 L3 ST Law
theorem zM3 (hf:f σ M = some (x,M)) (h:zBX M x = some xs):fB zHV (zY f zt) σ M = some (.fl xs,M):=by
 unfold fB zY zt; rw [hf]; dsimp only; unfold zHV; dsimp only; rw [h]
theorem zKe (m:IsM zA l):IsS zA (zR zA):=by
 have r0:=m.r0;refine ⟨?_,by unfold zR; simp; omega,fun x hx=>zq.mp hx⟩;unfold zR;exact List.pairwise_map.mpr (List.Pairwise.imp (fun {a b} h=>by omega) List.pairwise_lt_range)
noncomputable def zES:FS:=(zX (sIf (zFY (zDm (tst (zb zA0 (zF (toD (zD 1)) (zF (toD (fB zA3 (zY (zD 0) zt))) zM))))) (tst (fOp kEq (fB zA3 (zY (zD 1) zt)) (fC (.int 0))))) (zAN (fC (.bl false))) zBP)
  (zAN (fB zK2 (zY (zAc [2,3] (zPs (zF (toD (zD 1)) (zF (toD (fSl (zD 1) (zBN (fC (.int 1))) zBc)) zM))) (zIX 2 3) zAE (fOp kLt (zD 2) (zD 3))) zt))))
noncomputable def zC2:FF:=zBe 4 zES
theorem zPR {xs:List D} {lo hi:Option Int} {a b:Nat} (ha:HT.sIx xs.length 0 lo = a) (hb:HT.sIx xs.length xs.length hi = b):L3.zCW xs lo hi = (xs.drop a).take (b - a):=by
 unfold L3.zCW; rw [ha,hb]
theorem zSL (n:Nat) (d:Nat):HT.sIx n d none = d:=rfl
theorem zRn (h:∀ x ∈ c,0 <= x /\ x < R):tbD R (tI c) = true:=by
 show List.all _ _ = true;rw [zVZ];intro d hd;obtain ⟨i,hi,rfl⟩:=zVF.mp hd;have:=h i hi;simp [zCc,this.1,this.2]
theorem zS4 {f:FE} {σ:Sd} {M M1:Mem} {bs:List Bool} (h:f σ M = some (.fl (bs.map D.bl),M1)):fB zK2 (zY f zt) σ M = some (.dat (.bl (bs.all id)),M1):=by
 have:=zH0 (f:=fun _ _=>some (.fl (bs.map D.bl),M1)) (σ:=σ) (M:=M1) rfl;unfold fB zY zt at this ⊢;rw [h];exact this
theorem zNY {c r:Int} (c0:1 <= c) (r0:0 < r) (cr:c + r <= 28) {rest:FS} {τ:Sd} {P:Out -> Sd -> Mem -> Prop} {ns:List Int} (h:ns.length <= 63)
  (q:∀ zA l M,IsM zA l -> c <= (zA.length:Int) -> (zA.length:Int) < c + r -> zA.length <= 27 -> l <= 6 -> Gen M 2 1 -> M[0]? = some (.fro (ns.map D.int)) -> OkS (rest (some (.ref 0) :: some (.ref 2) :: some (mD zA) :: τ) M) P) :
  OkS (zX (zAR 1 (zb zBp (zF (toD (zD 0)) zM))) (zX (zAR 2 (zb zBG (zF (toD (zD 1)) (zF (toD (fOp zAe (fC (.int c)) (zb zZ (zF (toD (zD 1)) (zF (toD (fC (.int r))) zM))))) (zF (toD (fOp zAe (fC (.int 1)) (zb zZ (zF (toD (zD 1)) (zF (toD (fC (.int 6))) zM))))) zM))))) rest) (some (.ref 0) :: none :: none :: τ) [.fro (ns.map D.int)]) P:=by
 rw [zT,zk];refine zCf.mpr (zK (zh rfl) ?_);refine Ok.mono (zPU h) ?_;rintro d M1 ⟨rfl,g1,e0,_⟩;rw [zV,zd,zT,zk];show Ok (zb _ _ (some (.ref 0) :: some (.ref 2) :: none :: τ) M1) _;refine zCf.mpr (zBC.mpr (zA5.mpr (zK (a:=.dat (.ref 2)) rfl ?_)));rw [zV];refine zBC.mpr (zA5.mpr (zAi.mpr (zK rfl (zAU g1 rfl rfl r0 (by omega) fun i M2 i0 i1 nx2=>zK (a:=.dat (.int (c + i))) rfl ?_))));rw [zV];refine zBC.mpr (zA5.mpr (zAi.mpr (zK rfl (zAU nx2.gen rfl rfl (by decide) (by decide) fun j M3 j0 j1 nx3=>zK (a:=.dat (.int (1 + j))) rfl ?_))));rw [zV,zCl];refine Ok.mono (zMH nx3.gen (by omega) (by omega) (by omega) (by omega)) ?_;rintro d M4 ⟨⟨zA,l,rfl,m,hR,hL⟩,nx4⟩;rw [zV,zd];have l3:0 < M3.length:=by rw [nx3.len,nx2.len]; exact (zU1.mp e0).1
 have e4:M4[0]? = some (.fro (ns.map D.int)):=(nx4.fr 0 l3 (by decide) (by decide)).trans ((nx3.fr 0 (by decide) (by decide)).trans ((nx2.fr 0 (by decide) (by decide)).trans e0));exact q zA l M4 m (by omega) (by omega) (by omega) (by omega) nx4.gen e4
noncomputable def zJn:FS:=(zX (zAR 1 (zb zDl (zF (toD (zD 0)) zM)))
  (zAN (fB zBQ (zY (zAc [2] (zAv (zb zBU (zF (toD (zb zBW (zF (toD (zD 0)) zM))) zM))) (gN 2) (tst (fOp (zCC true) (zD 2) (zD 1))) (zD 2)) zt))))
noncomputable def zFW:FF:=zHK (zBe 3 zJn)
theorem zHg {zA:List (List Int)} (hz:zA.length <= 1000) {f:FE} {σ:Sd} {M:Mem} (hf:f σ M = some (.dat (.int zA.length),M)):zHS f σ M = some (.fl ((zR zA).map D.int),M):=by
 refine zg (zRo (j:=(zA.length:Int)) hf (by omega) (by omega) ⟨?_,rfl⟩);unfold upD zR;rw [zVM,show (zA.length:Int).toNat = zA.length by omega]; rfl
open Classical in
noncomputable def zFO (zA:List (List Int)) (l:Nat):List (List Int):=(ze (zR zA)).filter fun p=>decide (p ∉ zG5 zA l One)
theorem zRk (n:Nat) (ps:List (List Int)):D.und n (.tup (ps.map tI)) = true:=by unfold D.und; exact zCR n ps
theorem zOu {zA:List (List Int)} {l:Nat} (m:IsM zA l) (hR:zA.length <= 26) (hl:l <= 12) {M:Mem}:zFW [mD zA] M = some (.tup ((zFO zA l).map tI),M):=by
 refine zg ?_;unfold zFW;refine zJm ?_ ?_
 ·unfold D.unds D.unds;rw [zJK]; rfl
 rw [zAT];unfold zJn;show OkS (zX _ _ [some (mD zA),none,none] []) _;obtain ⟨d,M1,e,jf,rfl,_,⟨fd,h2,_,sp⟩,_,_⟩:=zME m hR hl (M:=[]);rw [zT,zk];refine zK (z0 (zh (d:=mD zA) rfl) e) ?_;rw [zV,zd];show OkS (zAN _ [some (mD zA),some (.ref jf),none] M1) _;have hrl:(zR zA).length = zA.length:=by unfold zR; simp
 have epr:=zLU (xs:=zR zA) (by omega) (M:=M1);have ei:zAv (zb zBU (zF (toD (zb zBW (zF (toD (zD 0)) zM))) zM)) [some (mD zA),some (.ref jf),none] M1 = _:=zJw (zh (d:=tI (zR zA)) (z0 (zh (d:=mD zA) rfl) (zKI (by omega)))) epr (zy _ _);have hjl:=(zU1.mp h2).1;have hPl:=zDa hR;have ef:=zGh (own:=[2]) (g:=gN 2) (tc:=tst (fOp (zCC true) (zD 2) (zD 1))) (te:=zD 2) (ze (zR zA)) tI tI (fun p=>open Classical in decide (p ∉ zG5 zA l One)) ei (.inl (zy _ _)) (by omega) (fun p hp=>by
  refine ⟨[some (mD zA),some (.ref jf),some (tI p)],rfl,?_,fun _=>rfl⟩;have e1:fOp (zCC true) (zD 2) (zD 1) [some (mD zA),some (.ref jf),some (tI p)] (M1 ++ [MO.lst ((ze (zR zA)).map tI)]) = _:=zf (x:=.dat (tI p)) (y:=.dat (.ref jf)) rfl rfl (zLj (T:=fd) (by rw [zU5 hjl]; exact h2));rw [zVD rfl] at e1;have hb:(zQ fd p).isSome = true ↔ p ∈ zG5 zA l One:=by
   rw [zGC];constructor
   ·intro h;cases eL:zQ fd p with
    | none=>rw [eL] at h; cases h
    | some d=>
     obtain ⟨_,n,hn,_⟩:=(sp p d).mp eL;cases n with
     | zero=>
      obtain ⟨a,b,rfl,_⟩:=zAB.mp hp;exact absurd (zF4.mp hn) (by simp [One])
     | succ n=>exact ⟨hp,n,hn⟩
   ·rintro ⟨_,n,hn⟩;rw [(sp p _).mpr ⟨zJ5 p hp,n + 1,hn,rfl⟩]; rfl
  rw [zBI e1];by_cases hin:p ∈ zG5 zA l One
  ·rw [hb.mpr hin,zVX (by simpa using hin)]; rfl
  ·have:(zQ fd p).isSome = false:=by
    cases h:(zQ fd p).isSome with
    | false=>rfl
    | true=>exact absurd (hb.mp h) hin
   rw [this,zV6 hin]; rfl)
 rw [zAu];refine zNV.mpr (zDg.mpr (zK ef (zEn.mpr ((zGp zDz).mpr ?_))));rw [zV];exact ⟨zRk 0 _,rfl,rfl⟩
noncomputable def zGT:FS:=(zAN (zII (zb zC2 (zF (toD (zD 0)) (zF (toD (zD 1)) zM))) (fOp kEq (fB zA3 (zY (zD 1) zt)) (fC (.int 2)))))
noncomputable def zCr:FF:=zBe 2 zGT
noncomputable def zDW:FS:=(zX (sIf (zFY (zDm (tst (zFK "tuple" (zD 1)))) (zDm (tst (fB zK2 (zY (zAc [2] (zAv (zD 1)) (gN 2) zAE (zb zCr (zF (toD (zD 0)) (zF (toD (zD 2)) zM)))) zt))))) (zAN (fC (.bl false))) zBP)
  (zX (zAR 3 (zDX true [2] (zAv (zD 1)) (gN 2) zAE (zD 2) (fC (.bl true))))
  (zX (sIf (tst (fOp kLt (fB zHG (zY (zD 3) zt)) (fB zA3 (zY (zD 1) zt)))) (zAN (fC (.bl false))) zBP)
  (zAN (fB zK2 (zY (zE4 [2,4] [4] (zAv (zD 1)) (gN 2) zAE (zAM (zF (toD (fB zA3 (zY (fOp kIx (zD 0) (fC (.int 0))) zt))) zM)) (gN 4) zAE (fOp (zCC false) (zb zBZ (zF (toD (zD 0)) (zF (toD (zD 2)) (zF (toD (zD 4)) zM)))) (zD 3))) zt))))))
noncomputable def zBE:FF:=zGZ (zBe 5 zDW)
noncomputable def zEj:FS:=(zAN (zII (zFK "int" (zD 0)) (zM8 (zFK "bool" (zD 0)))))
noncomputable def zBq:FF:=zBe 1 zEj
noncomputable def zDQ:FS:=(zX (sIf (zFY (zDm (tst (zFK "tuple" (zD 1)))) (zFY (tst (fOp kNe (fB zA3 (zY (zD 1) zt)) (fC (.int 2)))) (zDm (tst (fB zK2 (zY (zAc [2] (zAv (zD 1)) (gN 2) zAE (zb zBq (zF (toD (zD 2)) zM))) zt)))))) (zAN (fC (.bl false))) zBP)
  (zAN (zEk kLe kLt kLt (fC (.int 0)) (fOp kIx (zD 1) (fC (.int 0))) (fOp kIx (zD 1) (fC (.int 1))) (fB zA3 (zY (zD 0) zt)))))
noncomputable def zBh:FF:=zBe 3 zDQ
noncomputable def zEW:FS:=(zX (sIf (zDm (tst (zFK "tuple" (zD 1)))) (zAN (fC (.bl false))) zBP)
  (zX (zAR 2 zHb)
  (zX (zCe (zAv (zD 1)) (gN 3) (zX (sIf (zFY (zDm (tst (zb zBh (zF (toD (zD 0)) (zF (toD (zD 3)) zM))))) (tst (fOp (zCC false) (zD 3) (zD 2)))) (zAN (fC (.bl false))) zBP)
  (zB7 (fC (.bl true)) (zD 2) (zD 3))))
  (zX (zCe (zAv (zD 1)) (gN 4) (zCe (zAM (zF (toD (fB zA3 (zY (fOp kIx (zD 0) (fC (.int 0))) zt))) zM)) (gN 5) (sIf (tst (fOp (zCC true) (zb zA6 (zF (toD (zD 0)) (zF (toD (zD 4)) (zF (toD (zD 5)) zM)))) (zD 2))) (zAN (fC (.bl false))) zBP)))
  (zAN (fC (.bl true)))))))
noncomputable def zCT:FF:=zGZ (zBe 6 zEW)
noncomputable def zEF:FS:=(zX (zAR 2 (zb zBE (zF (toD (zD 0)) (zF (toD (zD 1)) zM))))
  (zAN (zII (zFK "bool" (zD 2)) (fOp kEq (zD 2) (zb zCT (zF (toD (zD 0)) (zF (toD (zD 1)) zM)))))))
noncomputable def zBs:FF:=zBe 3 zEF
def zBT (n:Int):D -> Bool
 | .tup [.int a,.int b]=>decide (0 <= a) && decide (a < b) && decide (b < n)
 | _=>false
theorem zHl {n:Int}:∀ {ds:List D},ds.all (zCc n) = true -> ∃ xs:List Int,ds = xs.map D.int /\ ∀ x ∈ xs,0 <= x /\ x < n
 | [],_=>⟨[],rfl,fun _ h=>by cases h⟩
 | d :: ds,h=>by
  rw [List.all_cons,zVY] at h;obtain ⟨xs,rfl,hx⟩:=zHl h.2;have h1:=h.1;cases d with
  | int i=>
   simp only [zCc,zVY,zWB] at h1;exact ⟨i :: xs,rfl,fun x hm=>by
    rcases zVA.mp hm with z | z
    ·subst z; exact h1
    ·exact hx x z⟩
  | _=>cases h1
theorem zFT {n:Int} {d:D} (h:zBT n d = true):∃ a b,d = tI [a,b] /\ 0 <= a /\ a < b /\ b < n:=by
 unfold zBT at h;split at h
 ·rename_i a b;simp only [zVY,zWB] at h;exact ⟨a,b,rfl,h.1.1,h.1.2,h.2⟩
 ·cases h
theorem zJb {n a b:Int}:zBT n (tI [a,b]) = (decide (0 <= a) && decide (a < b) && decide (b < n)):=rfl
theorem zRQ {zA:List (List Int)} {d:D} {M:Mem} (hd:Vd M d):∃ b,zC2 [mD zA,d] M = some (.bl b,M) /\ (b = true -> ∃ ds,d = .tup ds /\ (decide ((ds.length:Int) = 2)) = zBT zA.length d) /\ (b = false -> zBT zA.length d = false):=by
 have e:=zTe (n:=zA.length) hd;cases h:tbD zA.length d with
 | false=>
  refine ⟨false,?_,(fun z=>by cases z),fun _=>?_⟩
  ·refine zg ?_;unfold zC2;rw [zAT];unfold zES;show OkS (zX _ _ [some (mD zA),some d,none,none] M) _;rw [h] at e;exact zA7 (zHa (zCA (z0 (zj (d:=d) rfl (zh (zBv rfl))) e))) (zAJ (d:=.bl false) rfl ⟨rfl,rfl⟩)
  ·cases hp:zBT zA.length d with
   | false=>rfl
   | true=>
    obtain ⟨a,b,rfl,a0,ab,bn⟩:=zFT hp;rw [zRn fun x hx=>by
     simp only [zVA,zVT,zWJ] at hx;rcases hx with rfl | rfl <;> omega] at h
    cases h
 | true=>
  rw [h] at e;cases d with
  | tup ds=>
   obtain ⟨S,rfl,hS⟩:=zHl (show ds.all (zCc zA.length) = true from h);have hl:S.length <= 100000:=by
    have hh:Vd M (.tup (S.map D.int)):=hd;unfold Vd at hh;simpa using hh.1
   by_cases s0:S.length = 0
   ·refine ⟨false,?_,(fun z=>by cases z),fun _=>?_⟩
    ·refine zg ?_;unfold zC2;rw [zAT];unfold zES;show OkS (zX _ _ [some (mD zA),some (tI S),none,none] M) _;refine zA7 (zCz (zCA (z0 (zj (d:=tI S) rfl (zh (zBv rfl))) e)) (zBI (zf (zLT (f:=zD 1) (xs:=S) rfl) (y:=.dat (.int 0)) rfl (eqE.trans ?_)))) (zAJ (d:=.bl false) rfl ⟨rfl,rfl⟩);rw [zV6 (by omega)]
    ·have:S = []:=zW0.mp s0;subst this; rfl
   ·refine ⟨((S.zip (S.drop 1)).map fun q=>decide (q.1 < q.2)).all id,?_,fun hb=>⟨_,rfl,?_⟩,fun hb=>?_⟩
    ·refine zg ?_;unfold zC2;rw [zAT];unfold zES;show OkS (zX _ _ [some (mD zA),some (tI S),none,none] M) _;refine zCN (zCz (zCA (z0 (zj (d:=tI S) rfl (zh (zBv rfl))) e)) (zBI (zf (zLT (f:=zD 1) (xs:=S) rfl) (y:=.dat (.int 0)) rfl (eqE.trans ?_)))) ?_
     ·rw [zVX (by omega)]
     have c1:L3.zCW (S.map D.int) (some 1) none = (S.drop 1).map D.int:=by
      rw [zPR (a:=1) (b:=S.length) (by show HT.sIx _ _ (some ((1:Nat):Int)) = 1; rw [HT.zMn,zU7]; omega) (by rw [zSL,zU7]),List.map_drop];exact List.take_of_length_le (by simp)
     have hi:zPs (zF (toD (zD 1)) (zF (toD (fSl (zD 1) (zBN (fC (.int 1))) zBc)) zM)) [some (mD zA),some (tI S),none,none] M = some ((S.zip (S.drop 1)).map (fun q=>D.tup [.int q.1,.int q.2]),none,M):=by
      have s1:=slE (f:=zD 1) (σ:=[some (mD zA),some (tI S),none,none]) (M:=M) (xs:=S.map D.int) rfl (oS (f:=fC (.int 1)) rfl) (rfl:zBc _ M = some (none,M));rw [c1] at s1;have:=zj (f:=zD 1) (σ:=[some (mD zA),some (tI S),none,none]) (M:=M) (d:=tI S) rfl (zh s1);unfold zPs;rw [this];show some ((((S.map D.int).zip ((S.drop 1).map D.int)).map fun q=>D.tup [q.1,q.2]),none,M) = _;congr 2;rw [List.zip_map,zVM]; rfl
     refine zAJ (zH0 (bs:=(S.zip (S.drop 1)).map fun q=>decide (q.1 < q.2)) ?_) ⟨rfl,rfl⟩;rw [zVM];exact zCw (gd:=none) (S.zip (S.drop 1)) (fun q=>D.tup [.int q.1,.int q.2]) (fun q=> .bl (decide (q.1 < q.2))) hi trivial (by rw [List.length_zip]; omega) fun q _=>⟨_,rfl,zf (f:=zD 2) (g:=zD 3) (x:=.dat (.int q.1)) (y:=.dat (.int q.2)) rfl rfl rfl⟩
    ·match S,hS,hb with
     | [],_,_=>rfl
     | [a],_,_=>rfl
     | [a,b],hS,hb=>
      have h1:=hS a (by simp);have h2:=hS b (by simp);simp at hb;show decide _ = zBT zA.length (tI [a,b]);rw [zJb,zV6 h1.1,zV6 hb,zV6 h2.2]; rfl
     | a :: b :: c :: r,_,_=>
      show decide _ = false;refine zVX ?_;simp; omega
    ·match S,hb with
     | [],hb=>rfl
     | [a],hb=>rfl
     | [a,b],hb=>
      simp at hb;show zBT zA.length (tI [a,b]) = false;rw [zJb,zVX (show ¬ a < b by omega)]; simp
     | a :: b :: c :: r,_=>rfl
  | _=>cases h
theorem zQe {zA:List (List Int)} {d:D} {M:Mem} (hd:Vd M d):zCr [mD zA,d] M = some (.bl (zBT zA.length d),M):=by
 obtain ⟨b,e,ht,hf⟩:=zRQ (zA:=zA) hd;unfold zCr zGT;refine zFa ?_;have ec:=z0 (σ:=[some (mD zA),some d]) (a:=zF (toD (zD 0)) (zF (toD (zD 1)) zM)) (zj (d:=mD zA) rfl (zh (d:=d) rfl)) e;cases b with
 | false=>
  rw [hf rfl];exact (zDO (b:=true) ec fun z=>by cases z).trans rfl
 | true=>
  obtain ⟨ds,rfl,hp⟩:=ht rfl;rw [<- hp];exact (zDO ec fun _=>zf (zB8 (f:=zD 1) rfl zAr) rfl eqE).trans (by rw [Bool.true_and])
theorem zNw {M:Mem} {d:D} (h:Vd M d):zBq [d] M = some (.bl (zET d),M):=by
 obtain ⟨t,e,_,q⟩:=h.ty;unfold zBq zEj;refine zFa ?_;rw [<- q];exact zDO (zCK rfl e) fun _=>zM1 (zCK rfl e)
theorem zND {f g h i:FE} {σ:Sd} {M:Mem} {a b c d:Int} (hf:f σ M = some (.dat (.int a),M)) (hg:g σ M = some (.dat (.int b),M)) (hh:h σ M = some (.dat (.int c),M)) (hi:i σ M = some (.dat (.int d),M)) :
  zEk kLe kLt kLt f g h i σ M = some (.dat (.bl (decide (a <= b) && decide (b < c) && decide (c < d))),M):=by
 unfold zEk;rw [hf]; dsimp only;rw [hg]; dsimp only;rw [show kLe (.dat (.int a)) (.dat (.int b)) M = some (.dat (.bl (decide (a <= b))),M) from rfl];cases decide (a <= b) with
 | false=>rfl
 | true=>
  dsimp only;rw [hh]; dsimp only;rw [show kLt (.dat (.int b)) (.dat (.int c)) M = some (.dat (.bl (decide (b < c))),M) from rfl];cases decide (b < c) with
  | false=>rfl
  | true=>dsimp only; rw [hi]; rfl
theorem zLr {n:Int} {d:D} {ds:List D} (hd:d = .tup ds) (h:ds.all zET = false):zBT n d = false:=by
 cases hp:zBT n d with
 | false=>rfl
 | true=>
  obtain ⟨a,b,rfl,_⟩:=zFT hp;cases hd;cases h
theorem zPF {zA:List (List Int)} {d:D} {M:Mem} (hd:Vd M d):zBh [mD zA,d] M = some (.bl (zBT zA.length d),M):=by
 refine zg ?_;unfold zBh;rw [zAT];unfold zDQ;show OkS (zX _ _ [some (mD zA),some d,none] M) _;obtain ⟨t,e,q,_⟩:=hd.ty;cases d with
 | tup ds=>
  have hh:Vd M (.tup ds):=hd;unfold Vd at hh;have hl:=zB8 (f:=zD 1) (σ:=[some (mD zA),some (.tup ds),none]) (M:=M) rfl (zAr (xs:=ds));have cm:=zGx (own:=[2]) (f:=zD 1) (g:=gN 2) (te:=zb zBq (zF (toD (zD 2)) zM)) (σ:=[some (mD zA),some (.tup ds),none]) (M:=M) (fun x=> .bl (zET x)) rfl hh.1 fun x hx=>⟨_,rfl,z0 (zh rfl) (zNw (hh.2.mem x hx))⟩;have ca:=zCA (zH0 (bs:=ds.map zET) (by rw [zVM]; exact cm));rw [zE6] at ca;have c1:=zCA (k:=true) (f:=zFK "tuple" (zD 1)) (σ:=[some (mD zA),some (.tup ds),none]) (M:=M) (by rw [zCK rfl e,q]; rfl);have c2:=zBI (zf (k:=kNe) hl (g:=fC (.int 2)) (y:=.dat (.int 2)) rfl (zg (zUa.mpr ⟨rfl,rfl⟩)));by_cases h2:(ds.length:Int) = 2
  ·rw [zVX (by omega)] at c2;cases hw:ds.all zET with
   | false=>
    rw [hw] at ca;exact zA7 (zCz c1 (zCz c2 ca)) (zAJ (d:=.bl false) rfl ⟨by rw [zLr rfl hw],rfl⟩)
   | true=>
    rw [hw] at ca;refine zCN (zCz c1 (zCz c2 ca)) ?_;match ds,h2,hw with
    | [.int a,.int b],_,_=>
     exact zAJ (d:=.bl (zBT zA.length (tI [a,b]))) (zND (a:=0) rfl (zf (x:=.dat (tI [a,b])) (y:=.dat (.int 0)) rfl rfl (zCX zAr rfl)) (zf (x:=.dat (tI [a,b])) (y:=.dat (.int 1)) rfl rfl (zCX zAr rfl)) (zBv rfl)) ⟨rfl,rfl⟩
  ·rw [zV6 h2] at c2;refine zA7 (zCz c1 (zHa c2)) (zAJ (d:=.bl false) rfl ⟨?_,rfl⟩);cases hp:zBT zA.length (.tup ds) with
   | false=>rfl
   | true=>
    obtain ⟨a,b,hab,_⟩:=zFT hp;cases hab;exact absurd rfl h2
 | _=>
  refine zA7 (zHa (zCA (k:=false) (by rw [zCK rfl e,q]; rfl))) (zAJ (d:=.bl false) rfl ⟨rfl,rfl⟩)
theorem zI6 {zA:List (List Int)}:∀ {ds:List D},ds.all (zBT zA.length) = true -> ∃ ps:List (List Int),ds = ps.map tI /\ ∀ p ∈ ps,p ∈ ze (zR zA)
 | [],_=>⟨[],rfl,fun _ h=>by cases h⟩
 | d :: ds,h=>by
  rw [List.all_cons,zVY] at h;obtain ⟨ps,rfl,hp⟩:=zI6 h.2;obtain ⟨a,b,rfl,a0,ab,bn⟩:=zFT h.1;refine ⟨[a,b] :: ps,rfl,fun p hm=>?_⟩;rcases zVA.mp hm with z | z
  ·subst z;exact zAB.mpr ⟨a,b,rfl,zq.mpr ⟨a0,by omega⟩,zq.mpr ⟨by omega,bn⟩,ab⟩
  ·exact hp p z
theorem zNi {zA:List (List Int)} {ps:List (List Int)} (h:∀ p ∈ ps,p ∈ ze (zR zA)):(ps.map tI).all (zBT zA.length) = true:=by
 rw [List.all_map,zVZ];intro p hp;obtain ⟨a,b,rfl,ha,hb,hlt⟩:=zAB.mp (h p hp);have ha:=zq.mp ha;have hb:=zq.mp hb;show zBT zA.length (tI [a,b]) = true;rw [zJb,zV6 ha.1,zV6 hlt,zV6 hb.2]; rfl
def Shn (zA:List (List Int)) (l:Nat) (d:D):Prop:=∃ ps:List (List Int),d = .tup (ps.map tI) /\ (∀ p ∈ ps,p ∈ ze (zR zA)) /\ ps.Nodup /\ ∀ p ∈ ps,∀ x:Int,0 <= x -> x < l -> setR zA p x ∈ ps
theorem zQu {ps qs:List (List Int)} (h:ps.map tI = qs.map tI):ps = qs:=(List.map_inj_right fun a b e=>zFZ (D.tup.inj e)).mp h
theorem zJr {zA:List (List Int)} {l:Nat} {ps:List (List Int)} (hp:∀ p ∈ ps,p ∈ ze (zR zA)):Shn zA l (.tup (ps.map tI)) ↔ ps.Nodup /\ ∀ p ∈ ps,∀ x:Int,0 <= x -> x < l -> setR zA p x ∈ ps:=by
 constructor
 ·rintro ⟨qs,e,_,h1,h2⟩;cases zQu (D.tup.inj e);exact ⟨h1,h2⟩
 ·rintro ⟨h1,h2⟩;exact ⟨ps,rfl,hp,h1,h2⟩
def trT (ps:List (List Int)):List (List Int × D):=ps.foldl (fun T p=>zBj T p (.bl true)) []
theorem zLK (ps:List (List Int)) (p:List Int):trT (ps ++ [p]) = zBj (trT ps) p (.bl true):=by unfold trT; rw [List.foldl_append]; rfl
theorem zHN (T:List (List Int × D)) (p:List Int) (v:D):(zBj T p v).map (·.1) = if p ∈ T.map (·.1) then T.map (·.1) else T.map (·.1) ++ [p]:=by
 by_cases h:p ∈ T.map (·.1)
 ·rw [zVD h];have hs:=zCZ.mpr h;unfold zBj;cases e:zQ T p with
  | none=>rw [e] at hs; cases hs
  | some d=>
   dsimp only;rw [zVM];refine List.map_congr_left fun q _=>?_;show (if q.1 = p then (q.1,v) else q).1 = q.1;split <;> rfl
 ·rw [zVG h,zMj h,zVq]; rfl
theorem zJP:∀ (ps:List (List Int)) (T:List (List Int × D)),∃ new:List (List Int),(ps.foldl (fun T p=>zBj T p (.bl true)) T).map (·.1) = T.map (·.1) ++ new /\ (∀ p ∈ new,p ∈ ps) /\ (∀ p ∈ ps,p ∈ T.map (·.1) ++ new) /\ new.length <= ps.length /\ (new.length = ps.length ↔ ps.Nodup /\ ∀ p ∈ ps,p ∉ T.map (·.1))
 | [],T=>⟨[],by simp,(fun _ h=>by cases h),(fun _ h=>by cases h),zU4 _,by simp⟩
 | p :: r,T=>by
  obtain ⟨new,h1,h2,h3,h4,h5⟩:=zJP r (zBj T p (.bl true));rw [zHN] at h1 h3 h5;by_cases hp:p ∈ T.map (·.1)
  ·rw [zVD hp] at h1 h3 h5;refine ⟨new,h1,fun q hq=>zVB _ (h2 q hq),fun q hq=>?_,by simp; omega,?_⟩
   ·rcases zVA.mp hq with z | z
    ·subst z; exact zWD _ hp
    ·exact h3 q z
   ·constructor
    ·intro z; simp at z; omega
    ·rintro ⟨_,z⟩; exact absurd hp (z p zVC)
  ·rw [zVG hp] at h1 h3 h5;refine ⟨p :: new,by rw [List.foldl_cons,h1]; simp,fun q hq=>?_,fun q hq=>?_,by simp; omega,?_⟩
   ·rcases zVA.mp hq with z | z
    ·subst z; exact zVC
    ·exact zVB _ (h2 q z)
   ·rcases zVA.mp hq with z | z
    ·subst z; simp
    ·have:=h3 q z;simpa using this
   ·rw [zVV,zVV,Nat.add_right_cancel_iff,h5,List.nodup_cons];constructor
    ·rintro ⟨n1,n2⟩;refine ⟨⟨fun z=>n2 p z (by simp),n1⟩,fun q hq=>?_⟩;rcases zVA.mp hq with z | z
     ·subst z; exact hp
     ·exact fun y=>n2 q z (zWD _ y)
    ·rintro ⟨⟨n1,n2⟩,n3⟩;refine ⟨n2,fun q hq y=>?_⟩;rcases zVO.mp y with z | z
     ·exact n3 q (zVB _ hq) z
     ·rw [zVQ] at z; subst z; exact n1 hq
theorem zGJ {ps:List (List Int)} {p:List Int}:(zQ (trT ps) p).isSome = true ↔ p ∈ ps:=by
 obtain ⟨new,h1,h2,h3,_⟩:=zJP ps [];rw [zCZ];show p ∈ (trT ps).map (·.1) ↔ _;unfold trT;rw [h1];exact ⟨fun h=>h2 p (by simpa using h),fun h=>by simpa using h3 p h⟩
theorem zMK (ps:List (List Int)):(trT ps).length <= ps.length /\ ((trT ps).length = ps.length ↔ ps.Nodup):=by
 obtain ⟨new,h1,_,_,h4,h5⟩:=zJP ps [];have hl:(trT ps).length = new.length:=by
  have:=congrArg List.length h1;rw [zU7] at this;simpa [trT] using this
 rw [hl];exact ⟨h4,h5.trans ⟨fun h=>h.1,fun h=>⟨h,fun p _ z=>by cases z⟩⟩⟩
theorem zMS {m:FF} {ds:List D} {M:Mem} {d:D} (wf:∀ (j:Nat) u,M[j]? = some u -> MO.und M.length u = true) (hd:D.und 0 d = true) (h:Ok (m ds M) fun d' M'=>d' = d /\ ∃ us,M' = M ++ us):zGZ m ds M = some (d,M):=by
 refine zg (zM7 (Ok.mono h ?_));rintro d' M' ⟨rfl,us,rfl⟩;refine ⟨⟨zDb (zVk _) hd,by simp,fun j u hj e=>?_⟩,rfl,by simp⟩;rw [zU5 hj] at e;exact wf j u e
theorem zRH {σ:Sd} {M:Mem} {f:FE} {ps:List (List Int)} (hf:f σ M = some (.dat (.tup (ps.map tI)),M)) (hz:ps.length <= 80000) (h2:∀ d M',zD 2 ((zCI [2] σ).set 2 (some d)) M' = some (.dat d,M')):zDX true [2] (zAv f) (gN 2) zAE (zD 2) (fC (.bl true)) σ M = some (.dat (.ref M.length),M ++ [dT (trT ps)]):=by
 unfold zDX;rw [zDN hf];dsimp only;have loop:∀ (r q:List (List Int)),q ++ r = ps -> zDe (gN 2) zAE (zD 2) (fC (.bl true)) (zCI [2] σ) M.length (ps.map tI) none (r.map tI) (M ++ [dT (trT q)]) = some (M ++ [dT (trT ps)]):=by
  intro r;induction r with
  | nil=>intro q e; rw [zVi] at e; subst e; exact zIa trivial
  | cons p r ih=>
   intro q e;have hl:(trT q).length < 90000:=by have:=(zMK q).1; have:=congrArg List.length e; simp at this; omega
   rw [zVH,zHm (σ1:=(zCI [2] σ).set 2 (some (tI p))) (k:=tI p) (v:=.bl true) zAl rfl (h2 _ _) rfl (zHw (T:=trT q) (zy _ _) hl),<- ih (q ++ [p]) (by rw [<- e]; simp),zLK,List.set_append_right _ _ (zU4 _)];simp
 rw [show M ++ [zJH true] = M ++ [dT (trT [])] from rfl,loop ps [] rfl]
theorem zMW {zA:List (List Int)} {l:Nat} {ds:List D} (h:ds.all (zBT zA.length) = false):¬ Shn zA l (.tup ds):=by
 rintro ⟨ps,e,hp,_⟩;cases e;rw [zNi hp] at h;cases h
open Classical in
theorem zEi {zA:List (List Int)} {l:Nat} (m:IsM zA l) (hR:zA.length <= 26) (hl:l <= 12) {d:D} {M:Mem} (wf:∀ (j:Nat) u,M[j]? = some u -> MO.und M.length u = true) (hd:Vd M d) (hz:zKw d <= 2000) :
  zBE [mD zA,d] M = some (.bl (decide (Shn zA l d)),M):=by
 unfold zBE;refine zMS wf rfl ?_;rw [zAT];unfold zDW;show OkS (zX _ _ [some (mD zA),some d,none,none,none] M) _;obtain ⟨t,e,q,_⟩:=hd.ty;cases d with
 | tup ds=>
  have hh:Vd M (.tup ds):=hd;unfold Vd at hh;have hz:ds.length <= 2000:=hz;have cm:=zGx (own:=[2]) (f:=zD 1) (g:=gN 2) (te:=zb zCr (zF (toD (zD 0)) (zF (toD (zD 2)) zM))) (σ:=[some (mD zA),some (.tup ds),none,none,none]) (M:=M) (fun x=> .bl (zBT zA.length x)) rfl hh.1 fun x hx=>⟨_,rfl,z0 (zj (d:=mD zA) rfl (zh (d:=x) rfl)) (zQe (hh.2.mem x hx))⟩;have ca:=zCA (zH0 (bs:=ds.map (zBT zA.length)) (by rw [zVM]; exact cm));rw [zE6] at ca;have c1:=zCA (k:=true) (f:=zFK "tuple" (zD 1)) (σ:=[some (mD zA),some (.tup ds),none,none,none]) (M:=M) (by rw [zCK rfl e,q]; rfl);cases hw:ds.all (zBT zA.length) with
  | false=>
   rw [hw] at ca;exact zA7 (zCz c1 ca) (zAJ (d:=.bl false) rfl ⟨by rw [zVX (zMW hw)],[],by simp⟩)
  | true=>
   rw [hw] at ca;refine zCN (zCz c1 ca) ?_;clear ca cm;obtain ⟨ps,rfl,hp⟩:=zI6 hw;rw [zU7] at hz;rw [zT,zk];refine zK (zRH (f:=zD 1) rfl (by omega) fun _ _=>rfl) ?_;rw [zV,zd];show OkS (zX _ _ [some (mD zA),some (.tup (ps.map tI)),none,some (.ref M.length),none] (M ++ [dT (trT ps)])) _;have e1:(M ++ [dT (trT ps)])[M.length]? = some (dT (trT ps)):=zy _ _;have us:∃ us,M ++ [dT (trT ps)] = M ++ us:=⟨_,rfl⟩;generalize M ++ [dT (trT ps)] = M1 at e1 us ⊢;have el:fB zHG (zY (zD 3) zt) [some (mD zA),some (.tup (ps.map tI)),none,some (.ref M.length),none] M1 = some (.dat (.int (trT ps).length),M1):=by
    unfold fB zY zt;rw [show zD 3 [some (mD zA),some (.tup (ps.map tI)),none,some (.ref M.length),none] M1 = some (.dat (.ref M.length),M1) from rfl];show zHG [.dat (.ref M.length)] M1 = _;unfold zHG;dsimp only;rw [e1];show some (EV.dat (.int ((zFX (trT ps)).length:Int)),M1) = _;unfold zFX;rw [zU7]
   have et:=zBI (zf (k:=kLt) el (zB8 (f:=zD 1) (σ:=[some (mD zA),some (.tup (ps.map tI)),none,some (.ref M.length),none]) (M:=M1) rfl zAr) (zg (zPM.mpr ⟨rfl,rfl⟩)));rw [zU7] at et;obtain ⟨tl,tn⟩:=zMK ps;by_cases nd:ps.Nodup
   ·have:=tn.mpr nd;rw [zVX (by omega)] at et;refine zCN et ?_;have c2:=zKa (own:=[2,4]) (own2:=[4]) (fi:=zAv (zD 1)) (fi2:=zAM (zF (toD (fB zA3 (zY (fOp kIx (zD 0) (fC (.int 0))) zt))) zM)) (fg:=gN 2) (fg2:=gN 4) (tc2:=zAE) (te:=fOp (zCC false) (zb zBZ (zF (toD (zD 0)) (zF (toD (zD 2)) (zF (toD (zD 4)) zM)))) (zD 3)) (σ:=[some (mD zA),some (.tup (ps.map tI)),none,some (.ref M.length),none]) (M:=M1) ps tI (fun _=>List.range l) (fun k=>D.int (k:Nat)) (fun _ _=>true) (fun p k=> .bl (zQ (trT ps) (setR zA p (k:Nat))).isSome) 12 (zDN rfl) (fun _ _=>by rw [List.length_range]; omega) (by omega) (fun p hpp=>by
     refine ⟨[some (mD zA),some (.tup (ps.map tI)),some (tI p),some (.ref M.length),none],rfl,?_,fun k hk=>⟨[some (mD zA),some (.tup (ps.map tI)),some (tI p),some (.ref M.length),some (.int (k:Nat))],rfl,rfl,fun _=>?_⟩⟩
     ·rw [zBA (zGw m rfl) (by omega) (by omega),<- zEM];simp
     ·have hk:=zVc.mp hk;have:=zf (k:=zCC false) (f:=zb zBZ (zF (toD (zD 0)) (zF (toD (zD 2)) (zF (toD (zD 4)) zM)))) (g:=zD 3) (σ:=[some (mD zA),some (.tup (ps.map tI)),some (tI p),some (.ref M.length),some (.int (k:Nat))]) (x:=.dat (tI (setR zA p (k:Nat)))) (y:=.dat (.ref M.length)) (z0 (zj (d:=mD zA) rfl (zj (d:=tI p) rfl (zh (d:=.int (k:Nat)) rfl))) (zMb m (by omega) (zJ5 p (hp p hpp)).1 (by omega) (by omega))) rfl (zLj e1);rw [zVG (by decide)] at this;exact this)
    have hb:(ps.flatMap fun p=>((List.range l).filter fun _=>true).map fun k=>D.bl (zQ (trT ps) (setR zA p (k:Nat))).isSome) = (ps.flatMap fun p=>(List.range l).map fun (k:Nat)=>(zQ (trT ps) (setR zA p (k:Nat))).isSome).map D.bl:=by
     rw [List.map_flatMap];congr 1;funext p;rw [List.filter_eq_self.mpr fun _ _=>rfl,zVM];rfl
    rw [hb] at c2;refine zAJ (zS4 c2) ⟨?_,us⟩;congr 1;rw [Bool.eq_iff_iff,zVZ,zWB,zJr hp];constructor
    ·intro h;refine ⟨nd,fun p hpp x x0 x1=>?_⟩;have:=h _ (List.mem_flatMap.mpr ⟨p,hpp,zVF.mpr ⟨x.toNat,zVc.mpr (by omega),rfl⟩⟩);rw [show ((x.toNat:Nat):Int) = x by omega] at this;exact zGJ.mp this
    ·rintro ⟨_,h⟩ b hbm;obtain ⟨p,hpp,hq⟩:=List.mem_flatMap.mp hbm;obtain ⟨k,hk,rfl⟩:=zVF.mp hq;have hk:=zVc.mp hk;exact zGJ.mpr (h p hpp k (by omega) (by omega))
   ·have:(trT ps).length ≠ ps.length:=fun z=>nd (tn.mp z);rw [zV6 (by omega)] at et;refine zA7 et (zAJ (d:=.bl false) rfl ⟨?_,us⟩);rw [zVX fun z=>nd ((zJr hp).mp z).1]
 | _=>
  refine zA7 (zHa (zCA (k:=false) (by rw [zCK rfl e,q]; rfl))) (zAJ (d:=.bl false) rfl ⟨?_,[],by simp⟩);rw [zVX];rintro ⟨ps,z,_⟩;cases z
theorem zMc {zA:List (List Int)} {ps:List (List Int)} (hp:∀ p ∈ ps,p ∈ ze (zR zA)) {a b x:Int}:zAL (zAG zA a x) (zAG zA b x) ∈ ps ↔ setR zA [a,b] x ∈ ps:=by
 have hs:setR zA [a,b] x = ris [zAG zA a x,zAG zA b x]:=rfl;rw [hs];by_cases h:zAG zA a x = zAG zA b x
 ·have e1:zAL (zAG zA a x) (zAG zA b x) = [zAG zA a x,zAG zA a x]:=by rw [h]; unfold zAL; simp
  have e2:ris [zAG zA a x,zAG zA b x] = [zAG zA a x]:=by rw [<- h]; exact (zJ6 fun x=>by simp).trans (zLg (by simp))
  rw [e1,e2];constructor
  ·intro z;obtain ⟨c,d,e,_,_,hlt⟩:=zAB.mp (hp _ z);cases e; omega
  ·intro z;obtain ⟨c,d,e,_⟩:=zAB.mp (hp _ z);cases e
 ·rw [zIl h]
def Tk (M M':Mem):Prop:=∀ n t,zG8 M (.dat (.ref n)) = some t -> zG8 M' (.dat (.ref n)) = some t
theorem Tk.of {M M':Mem} (h:∀ (n:Nat) u,M[n]? = some u -> M'[n]? = some u):Tk M M':=fun n t e=>by
 unfold zG8 at e ⊢;dsimp only at e ⊢;cases q:M[n]? with
 | none=>rw [q] at e; cases e
 | some u=>rw [q] at e; rw [h n u q]; exact e
theorem Tk.app (M us:Mem):Tk M (M ++ us):=Tk.of fun n u e=>by rw [zU5 (zU1.mp e).1]; exact e
mutual
theorem Vd.keep {M M':Mem} (k:Tk M M'):∀ {d:D},Vd M d -> Vd M' d
 | .ref n,h=>by
  unfold Vd at h ⊢;obtain ⟨t,e,q⟩:=h;exact ⟨t,k n t e,q⟩
 | .tup ds,h=>by
  unfold Vd at h ⊢;exact ⟨h.1,Vds.keep k h.2⟩
 | .non,_=>by unfold Vd; trivial
 | .bl _,_=>by unfold Vd; trivial
 | .int _,_=>by unfold Vd; trivial
 | .str _,_=>by unfold Vd; trivial
theorem Vds.keep {M M':Mem} (k:Tk M M'):∀ {ds:List D},Vds M ds -> Vds M' ds
 | [],_=>by unfold Vds; trivial
 | d :: ds,h=>by
  unfold Vds at h ⊢;exact ⟨Vd.keep k h.1,Vds.keep k h.2⟩
end
open Classical in
theorem zJE {zA:List (List Int)} {l:Nat} (m:IsM zA l) (hR:zA.length <= 26) (hl:l <= 12) {d:D} {M:Mem} (wf:∀ (j:Nat) u,M[j]? = some u -> MO.und M.length u = true) (hd:Vd M d) (hz:zKw d <= 2000) :
  zCT [mD zA,d] M = some (.bl (decide (Shn zA l d)),M):=by
 unfold zCT;refine zMS wf rfl ?_;rw [zAT];unfold zEW;show OkS (zX _ _ [some (mD zA),some d,none,none,none,none] M) _;obtain ⟨t,e,q,_⟩:=hd.ty;cases d with
 | tup ds=>
  have hh:Vd M (.tup ds):=hd;unfold Vd at hh;have hz:ds.length <= 2000:=hz;refine zCN (zCA (k:=true) (by rw [zCK rfl e,q]; rfl)) ?_;rw [zT,zk];refine zK (M:=M ++ [.dicT []]) (a:=.dat (.ref M.length)) rfl ?_;rw [zV,zd];show OkS (zX _ _ [some (mD zA),some (.tup ds),some (.ref M.length),none,none,none] (M ++ [dT (trT [])])) _;rw [zT,zA8];refine ⟨_,_,_,zDN (xs:=ds) rfl,?_⟩;refine zBi (I:=fun r σ M'=>∃ (q:List (List Int)) (y:Option D),ds = q.map tI ++ r /\ (∀ p ∈ q,p ∈ ze (zR zA)) /\ q.Nodup /\ σ = [some (mD zA),some (.tup ds),some (.ref M.length),y,none,none] /\ M' = M ++ [dT (trT q)]) ?_ ?_ _ _ _ ⟨[],none,rfl,(fun _ h=>by cases h),.nil,rfl,rfl⟩
  ·rintro x r σ M' ⟨q,y,hq,qp,nd,rfl,rfl⟩;refine ⟨zAl,_,rfl,?_⟩;show OkS (zX _ _ [some (mD zA),some (.tup ds),some (.ref M.length),some x,none,none] (M ++ [dT (trT q)])) _;have hxv:Vd (M ++ [dT (trT q)]) x:=Vd.keep (Tk.app _ _) (hh.2.mem x (by rw [hq]; simp));have e1:=zCA (z0 (σ:=[some (mD zA),some (.tup ds),some (.ref M.length),some x,none,none]) (a:=zF (toD (zD 0)) (zF (toD (zD 3)) zM)) (zj (d:=mD zA) rfl (zh (d:=x) rfl)) (zPF (zA:=zA) hxv));cases hx:zBT zA.length x with
   | false=>
    rw [hx] at e1;refine zA7 (zHa e1) (zAJ (d:=.bl false) rfl ⟨?_,_,rfl⟩);rw [zVX (zMW _)];cases hall:ds.all (zBT zA.length) with
    | false=>rfl
    | true=>
     rw [zVZ.mp hall x (by rw [hq]; simp)] at hx;cases hx
   | true=>
    rw [hx] at e1;obtain ⟨a,b,rfl,a0,ab,bn⟩:=zFT hx;have hpm:[a,b] ∈ ze (zR zA):=zAB.mpr ⟨a,b,rfl,zq.mpr ⟨a0,by omega⟩,zq.mpr ⟨by omega,bn⟩,ab⟩;have e2:=zBI (zf (k:=zCC false) (f:=zD 3) (g:=zD 2) (σ:=[some (mD zA),some (.tup ds),some (.ref M.length),some (tI [a,b]),none,none]) (M:=M ++ [dT (trT q)]) (x:=.dat (tI [a,b])) (y:=.dat (.ref M.length)) rfl rfl ((zLj (zy _ _)).trans (by rw [zVG (by decide)])));cases hk:(zQ (trT q) [a,b]).isSome with
    | true=>
     rw [hk] at e2;refine zA7 (zCz e1 e2) (zAJ (d:=.bl false) rfl ⟨?_,_,rfl⟩);rw [zVX];rintro ⟨ps,ep,_,nd2,_⟩;have hps:ps.map tI = (q ++ [[a,b]]).map tI ++ r:=by rw [<- D.tup.inj ep,hq]; simp
     have hm:=zGJ.mp hk;have:¬ ((ps.map tI).Nodup):=by
      rw [hps];intro z;have:=(zWC.mp z).1;rw [zVq,zWC] at this;exact this.2.2 _ (zVF.mpr ⟨_,hm,rfl⟩) _ (by simp) rfl
     exact this (nd2.map tI fun x y hne z=>hne (zFZ (D.tup.inj z)))
    | false=>
     rw [hk] at e2;refine zCN (zCz e1 e2) ?_;have hql:q.length <= 2000:=by have:=congrArg List.length hq; simp at this; omega
     have htl:=(zMK q).1;refine zLE (v:=.bl true) (k:=tI [a,b]) (n:=M.length) rfl rfl rfl (zHw (T:=trT q) (zy _ _) (by omega)) ?_;refine ⟨q ++ [[a,b]],_,by rw [hq]; simp,fun p hp=>?_,?_,rfl,?_⟩
     ·rcases zVO.mp hp with z | z
      ·exact qp p z
      ·rw [zVQ] at z; subst z; exact hpm
     ·rw [zWC];refine ⟨nd,by simp,fun x hx y hy=>?_⟩;rw [zVQ] at hy; subst hy;intro z; subst z;rw [zGJ.mpr hx] at hk; cases hk
     ·rw [zLK,List.set_append_right _ _ (zU4 _)];simp
  ·rintro σ M' ⟨ps,y,hq,hp,nd,rfl,rfl⟩;refine ⟨zAl,?_⟩;rw [zVi] at hq;subst hq;rw [zd];have us:∃ us,M ++ [dT (trT ps)] = M ++ us:=⟨_,rfl⟩;have e1:(M ++ [dT (trT ps)])[M.length]? = some (dT (trT ps)):=zy _ _;generalize M ++ [dT (trT ps)] = M1 at e1 us ⊢;rw [zT,zA8];refine ⟨_,_,_,zDN (xs:=ps.map tI) rfl,?_⟩;refine zBi (I:=fun r σ M'=>∃ (dn re:List (List Int)) (y4 y5:Option D),ps = dn ++ re /\ r = re.map tI /\ (∀ p ∈ dn,∀ x:Int,0 <= x -> x < l -> setR zA p x ∈ ps) /\ σ = [some (mD zA),some (.tup (ps.map tI)),some (.ref M.length),y,y4,y5] /\ M' = M1) ?_ ?_ _ _ _ ⟨[],ps,none,none,rfl,rfl,(fun _ h=>by cases h),rfl,rfl⟩
   ·rintro x r σ M' ⟨dn,re,y4,y5,hd,hr,hc,rfl,rfl⟩;cases re with
    | nil=>cases hr
    | cons p r2=>
     obtain ⟨rfl,rfl⟩:=zV2 hr;have hpp:p ∈ ps:=by rw [hd]; simp
     obtain ⟨a,b,hab,ha,hb,hlt⟩:=zAB.mp (hp p hpp);subst hab;have ha:=zq.mp ha;have hb:=zq.mp hb;refine ⟨zAl,_,rfl,?_⟩;show OkS (zCe _ _ _ [some (mD zA),some (.tup (ps.map tI)),some (.ref M.length),y,some (tI [a,b]),y5] M') _;rw [zA8];refine ⟨_,_,_,zBA (zGw m rfl) (by omega) (by omega),?_⟩;refine zEe (n:=((l:Int)).toNat) (I:=fun i σ M2=>∃ y5,(∀ x:Int,0 <= x -> x < i -> setR zA [a,b] x ∈ ps) /\ σ = [some (mD zA),some (.tup (ps.map tI)),some (.ref M.length),y,some (tI [a,b]),y5] /\ M2 = M') ?_ ?_ _ _ ⟨y5,(fun x x0 x1=>by omega),rfl,rfl⟩
     ·rintro i σ M2 hi ⟨y5,hx,rfl,rfl⟩;refine ⟨_,rfl,?_⟩;show OkS (sIf _ _ _ [some (mD zA),some (.tup (ps.map tI)),some (.ref M.length),y,some (tI [a,b]),some (.int (i:Int))] M2) _;have et:=zBI (zf (k:=zCC true) (f:=zb zA6 (zF (toD (zD 0)) (zF (toD (zD 4)) (zF (toD (zD 5)) zM)))) (g:=zD 2) (σ:=[some (mD zA),some (.tup (ps.map tI)),some (.ref M.length),y,some (tI [a,b]),some (.int (i:Int))]) (y:=.dat (.ref M.length)) (z0 (zj (d:=mD zA) rfl (zj (d:=tI [a,b]) rfl (zh (d:=.int (i:Int)) rfl))) (zIv m ha.1 ha.2 hb.1 hb.2 (by omega) (by omega))) rfl ((zLj e1).trans (by rw [zVD rfl])));by_cases hin:setR zA [a,b] (i:Int) ∈ ps
      ·rw [zGJ.mpr ((zMc hp).mpr hin)] at et;refine zDc et ⟨_,fun x x0 x1=>?_,rfl,rfl⟩;by_cases z:x = i
       ·subst z; exact hin
       ·exact hx x x0 (by omega)
      ·have hno:(zQ (trT ps) (zAL (zAG zA a i) (zAG zA b i))).isSome = false:=by
        cases z:(zQ (trT ps) (zAL (zAG zA a i) (zAG zA b i))).isSome with
        | false=>rfl
        | true=>exact absurd ((zMc hp).mp (zGJ.mp z)) hin
       rw [hno] at et;rw [zBV];refine zK et ?_;refine zAJ (d:=.bl false) rfl ⟨?_,us⟩;rw [zVX fun z=>hin (((zJr hp).mp z).2 _ hpp _ (by omega) (by omega))]
     ·rintro σ M2 ⟨y5,hx,rfl,rfl⟩;refine ⟨dn ++ [[a,b]],r2,_,_,by rw [hd]; simp,rfl,fun p hpd x x0 x1=>?_,rfl,rfl⟩;rcases zVO.mp hpd with z | z
      ·exact hc p z x x0 x1
      ·rw [zVQ] at z; subst z; exact hx x x0 (by omega)
   ·rintro σ M' ⟨dn,re,y4,y5,hd,hr,hc,rfl,rfl⟩;refine ⟨zAl,?_⟩
    have hre:re = []:=by cases re with
     | nil=>rfl
     | cons _ _=>cases hr
    subst hre;rw [zVi] at hd;subst hd;rw [zd];refine zAJ (d:=.bl true) rfl ⟨?_,us⟩;rw [zV6 ((zJr hp).mpr ⟨nd,hc⟩)]
 | _=>
  refine zA7 (zCA (k:=false) (by rw [zCK rfl e,q]; rfl)) (zAJ (d:=.bl false) rfl ⟨?_,[],by simp⟩);rw [zVX];rintro ⟨ps,z,_⟩;cases z
noncomputable def zFJ:FS:=(zX (zAR 2 (zb zBm (zF (toD (zHS (fB zA3 (zY (zD 1) zt)))) zM)))
  (zX (zAR 3 zHb)
  (zX (zCe (zAM (zF (toD (fOp zAe (fC (.int 1)) (zb zZ (zF (toD (zD 0)) (zF (toD (fC (.int 3))) zM))))) zM)) (gN 4) (zB7 (fC (.bl true)) (zD 3) (fOp kIx (zD 2) (zb zZ (zF (toD (zD 0)) (zF (toD (fB zA3 (zY (zD 2) zt))) zM))))))
  (zX (zAR 5 (fB zHx (zY (zD 3) zt)))
  (zX (zAR 6 (fC (.int 0)))
  (zX (zBl (tst (fOp kLt (zD 6) (fB zA3 (zY (zD 5) zt)))) (zX (zCe (zAM (zF (toD (fB zA3 (zY (fOp kIx (zD 1) (fC (.int 0))) zt))) zM)) (gN 7) (zX (zAR 8 (zb zA6 (zF (toD (zD 1)) (zF (toD (fOp kIx (zD 5) (zD 6))) (zF (toD (zD 7)) zM)))))
  (sIf (zBo (tst (fOp kLt (fOp kIx (zD 8) (fC (.int 0))) (fOp kIx (zD 8) (fC (.int 1))))) (tst (fOp (zCC true) (zD 8) (zD 3)))) (zX (zB7 (fC (.bl true)) (zD 3) (zD 8))
  (zCD (fM zBJ (zD 5) (zF (toD (zD 8)) zM)))) zBP)))
  (zAR 6 (fOp zAe (zD 6) (fC (.int 1))))) 1000)
  (zAN (zD 5))))))))
noncomputable def zC7:FF:=zBe 9 zFJ
noncomputable def zF9:FS:=(zX (zPJ (zIX 3 4) (zD 2))
  (zX (zAR 5 (zAj (zF (toD (zAm (zF (toD (zD 4)) (zF (toD (zD 3)) zM)))) (zF (toD (zAm (zF (toD (zD 3)) (zF (toD (zD 3)) zM)))) (zF (toD (zAj (zF (toD (zD 3)) (zF (toD (zD 4)) zM)))) (zF (toD (zAm (zF (toD (zD 3)) zM))) (zF (toD (zAm (zF (toD (zD 3)) (zF (toD (zD 4)) (zF (toD (zD 4)) zM))))) (zF (toD (zAm (zF (toD (zD 3)) (zF (toD (fB zA3 (zY (zD 1) zt))) zM)))) (zF (toD (zAm (zF (toD (zSP (fC (.int 1)))) (zF (toD (zD 4)) zM)))) zM)))))))))
  (zX (zAR 5 (fOp zBu (zD 5) (zAj (zF (toD (zAm (zF (toD (zD 3)) (zF (toD (fB zNk (zY (zD 4) zt))) zM)))) (zF (toD (fC .non)) (zF (toD (zD 3)) (zF (toD (zAm zM)) (zF (toD (zAm (zF (toD (fC (.bl false))) (zF (toD (zD 4)) zM)))) (zF (toD (zAm (zF (toD (zD 3)) (zF (toD (fC (.bl true))) zM)))) (zF (toD (zAm (zF (toD (zD 2)) (zF (toD (zD 2)) zM)))) (zF (toD (zAm (zF (toD (zD 3)) (zF (toD (fOp zKE (fC (.int 10)) (fC (.int 30)))) zM)))) zM)))))))))))
  (zAN (fOp kIx (zD 5) (zb zZ (zF (toD (zD 0)) (zF (toD (fB zA3 (zY (zD 5) zt))) zM))))))))
noncomputable def zCq:FF:=zBe 6 zF9
noncomputable def zDr:FS:=(zX (zAR 3 (zb zZ (zF (toD (zD 0)) (zF (toD (fB zA3 (zY (zD 2) zt))) zM))))
  (zX (zAR 4 (zb zZ (zF (toD (zD 0)) (zF (toD (fC (.int 6))) zM))))
  (zX (sIf (tst (fOp kEq (zD 4) (fC (.int 0)))) (zAN (fB zBQ (zY (fOp zBu (fSl (zD 2) zBc (zBN (zD 3))) (fSl (zD 2) (zBN (fOp zAe (zD 3) (fC (.int 1)))) zBc)) zt))) zBP)
  (zX (sIf (tst (fOp kEq (zD 4) (fC (.int 1)))) (zAN (fB zBQ (zY (fOp zBu (zD 2) (zAj (zF (toD (fOp kIx (zD 2) (zD 3))) zM))) zt))) zBP)
  (zX (sIf (tst (fOp kEq (zD 4) (fC (.int 2)))) (zAN (fB zHV (zY (zD 2) zt))) zBP)
  (zX (sIf (tst (fOp kEq (zD 4) (fC (.int 3)))) (zX (zAR 5 (zb zBm (zF (toD (zHS (fB zA3 (zY (zD 1) zt)))) zM)))
  (zAN (fB zBQ (zY (fOp zBu (fOp zBu (fSl (zD 2) zBc (zBN (zD 3))) (zAj (zF (toD (fOp kIx (zD 5) (zb zZ (zF (toD (zD 0)) (zF (toD (fB zA3 (zY (zD 5) zt))) zM))))) zM))) (fSl (zD 2) (zBN (zD 3)) zBc)) zt)))) zBP)
  (zAN (fB zBQ (zY (fOp zBu (fOp zBu (fSl (zD 2) zBc (zBN (zD 3))) (zAj (zF (toD (zb zCq (zF (toD (zD 0)) (zF (toD (zD 1)) (zF (toD (fOp kIx (zD 2) (zD 3))) zM))))) zM))) (fSl (zD 2) (zBN (fOp zAe (zD 3) (fC (.int 1)))) zBc)) zt)))))))))
noncomputable def zB3:FF:=zBe 6 zDr
noncomputable def zOa:FS:=(zX (zAR 1 (zb zBp (zF (toD (zD 0)) zM)))
  (zX (zAR 2 (zb zBG (zF (toD (zD 1)) (zF (toD (fOp zAe (fC (.int 2)) (zb zZ (zF (toD (zD 1)) (zF (toD (fC (.int 25))) zM))))) (zF (toD (fOp zAe (fC (.int 1)) (zb zZ (zF (toD (zD 1)) (zF (toD (fC (.int 6))) zM))))) zM)))))
  (zX (zCe (zAv (zAj (zF (toD (fC .non)) (zF (toD (fC (.int 0))) (zF (toD (fC (.int 1))) (zF (toD (fC (.bl true))) (zF (toD (fC (.str ""))) (zF (toD (fC (.str "told"))) (zF (toD (zAj zM)) (zF (toD (zAm zM)) (zF (toD zIA) (zF (toD (zAm (zF (toD (zAm zM)) zM))) (zF (toD (zAm (zF (toD (fC .non)) zM))) (zF (toD (zAm (zF (toD (fC (.int 0))) (zF (toD (fC (.int 1))) zM)))) (zF (toD (zAm (zF (toD (zAm (zF (toD (fC (.int 0))) (zF (toD (fC (.int 0))) zM)))) zM))) (zF (toD (zAj (zF (toD (zAm (zF (toD (fC (.int 0))) (zF (toD (fC (.int 1))) zM)))) zM))) (zF (toD (zAm (zF (toD (fC (.str "ab"))) zM))) zM))))))))))))))))) (gN 3) (sIf (zDm (tst (zb zBs (zF (toD (zD 2)) (zF (toD (zD 3)) zM))))) (zAN (fC (.bl false))) zBP))
  (zX (zAR 4 (zb zFW (zF (toD (zD 2)) zM)))
  (zX (zCe (zAM (zF (toD (fOp zAe (fC (.int 3)) (fB zA3 (zY (fSl (zD 0) zBc (zBN (fC (.int 10)))) zt)))) zM)) (gN 5) (zX (zAR 6 (fB zHV (zY (zD 4) zt)))
  (zX (sIf (tst (fOp kEq (zb zZ (zF (toD (zD 1)) (zF (toD (fC (.int 2))) zM))) (fC (.int 0)))) (zAR 6 (zb zC7 (zF (toD (zD 1)) (zF (toD (zD 2)) zM)))) zBP)
  (zX (zAR 6 (zAc [7] (zAv (zb zA4 (zF (toD (zD 1)) (zF (toD (fB zA3 (zY (zD 6) zt))) zM)))) (gN 7) zAE (fOp kIx (zD 6) (zD 7))))
  (zX (zAR 8 (fB zBQ (zY (zD 6) zt)))
  (zX (sIf (zBo (tst (fOp kNe (zD 6) (zAj zM))) (tst (fOp kGt (zb zZ (zF (toD (zD 1)) (zF (toD (fC (.int 3))) zM))) (fC (.int 0))))) (zAR 8 (zb zB3 (zF (toD (zD 1)) (zF (toD (zD 2)) (zF (toD (zD 6)) zM))))) zBP)
  (sIf (zDm (tst (zb zBs (zF (toD (zD 2)) (zF (toD (zD 8)) zM))))) (zAN (fC (.bl false))) zBP)))))))
  (zAN (fOp (kIs false) (zb zBE (zF (toD (zD 2)) (zF (toD (zD 4)) zM))) (fC (.bl true)))))))))
noncomputable def zGW:FF:=zBe 9 zOa
theorem zKR {zA:List (List Int)} {l:Nat} (m:IsM zA l) (hR:zA.length <= 26) (hl:l <= 12) {d:D} {M:Mem} (wf:∀ (j:Nat) u,M[j]? = some u -> MO.und M.length u = true) (hd:Vd M d) (hz:zKw d <= 2000):zBs [mD zA,d] M = some (.bl true,M):=by
 refine zg ?_;unfold zBs;rw [zAT];unfold zEF;show OkS (zX _ _ [some (mD zA),some d,none] M) _;have e1:=zEi m hR hl wf hd hz;have e2:=zJE m hR hl wf hd hz;generalize (@decide (Shn zA l d) (Classical.propDecidable _)) = b at e1 e2;refine zDU (z0 (zj (d:=mD zA) rfl (zh (d:=d) rfl)) e1) ?_;exact zAJ (d:=.bl true) ((zDO (a:=true) (b:=true) ((zCK (T := "bool") (f:=zD 2) rfl rfl).trans rfl) fun _=>zf (x:=.dat (.bl b)) (y:=.dat (.bl b)) rfl (z0 (zj (d:=mD zA) rfl (zh (d:=d) rfl)) e2) (zPb rfl)).trans rfl) ⟨rfl,rfl⟩
theorem zNm {fv fo fi:FE} {σ:Sd} {M M3 M4:Mem} {P:Out -> Sd -> Mem -> Prop} {v k:D} {n:Nat} (h1:fv σ M = some (.dat v,M)) (h2:fo σ M = some (.dat (.ref n),M)) (h3:fi σ M = some (.dat k,M3)) (h4:zFv M3 n k v = some M4) (q:P .nx σ M4):OkS (zB7 fv fo fi σ M) P:=by
 have e1:toD fv σ M = some (v,M):=by unfold toD; rw [h1]
 have e2:toD fo σ M = some (.ref n,M):=by unfold toD; rw [h2]
 have e3:toD fi σ M = some (k,M3):=by unfold toD; rw [h3]
 refine ⟨_,_,_,?_,q⟩;unfold zB7;rw [e1]; dsimp only;rw [e2]; dsimp only;rw [e3]; dsimp only;rw [h4]
theorem zLl {f:FE} {σ:Sd} {M M1:Mem} {d:D} (h:f σ M = some (.dat d,M1)):toD f σ M = some (d,M1):=by unfold toD; rw [h]
theorem zQO (n:Nat) {T:List (List Int × D)} (h:∀ q ∈ T,q.2 = .bl true):MO.und n (dT T) = true:=by
 show ((zFX T).all fun p=>D.und n p.1 && D.und n p.2) = true;rw [zVZ];intro p hp;obtain ⟨q,hq,rfl⟩:=zVF.mp hp;show (D.und n (tI q.1) && D.und n q.2) = true;rw [h q hq,show D.und n (tI q.1) = true from zC0 _]; rfl
theorem zOv {T:List (List Int × D)} {p:List Int} (h:∀ q ∈ T,q.2 = .bl true):∀ q ∈ zBj T p (.bl true),q.2 = .bl true:=by
 intro q hq;unfold zBj at hq;split at hq
 ·obtain ⟨r,hr,rfl⟩:=zVF.mp hq;split
  ·rfl
  ·exact h r hr
 ·rcases zVO.mp hq with z | z
  ·exact h q z
  ·rw [zVQ] at z; subst z; rfl
structure Kn (zA:List (List Int)) (T:List (List Int × D)):Prop where
 tr:∀ q ∈ T,q.2 = .bl true
 nd:(T.map (·.1)).Nodup
 pr:∀ p ∈ T.map (·.1),p ∈ ze (zR zA)
theorem Kn.put {zA:List (List Int)} {T:List (List Int × D)} {p:List Int} (h:Kn zA T) (hp:p ∈ ze (zR zA)):Kn zA (zBj T p (.bl true)):=by
 refine ⟨zOv h.tr,?_,?_⟩
 ·rw [zHN];split
  ·exact h.nd
  ·rename_i z;rw [zWC];exact ⟨h.nd,by simp,fun x hx y hy=>by rw [zVQ] at hy; subst hy; intro w; subst w; exact z hx⟩
 ·rw [zHN];split
  ·exact h.pr
  ·intro q hq;rcases zVO.mp hq with z | z
   ·exact h.pr q z
   ·rw [zVQ] at z; subst z; exact hp
theorem Kn.len {zA:List (List Int)} {T:List (List Int × D)} (h:Kn zA T) (hR:zA.length <= 26):T.length <= 676:=by
 have:=zF7 _ _ h.nd h.pr;rw [zU7] at this;exact zVP this (zDa hR)
theorem zIk {zA:List (List Int)} (h:2 <= zA.length):0 < (ze (zR zA)).length:=by
 refine List.length_pos_of_mem (a:=[0,1]) (zAB.mpr ⟨0,1,rfl,zq.mpr ⟨by omega,by omega⟩,zq.mpr ⟨by omega,by omega⟩,by omega⟩)
theorem zRZ {zA:List (List Int)} {l:Nat} (m:IsM zA l) (hR:zA.length <= 26) (h2:2 <= zA.length) (hl:l <= 12) {M:Mem} (g:Gen M 2 1) :
  Ok (zC7 [.ref 2,mD zA] M) fun d M'=>∃ (j:Nat) (ps:List (List Int)),d = .ref j /\ M.length <= j /\ M'[j]? = some (.lst (ps.map tI)) /\ ps.length <= 676 /\ (∀ p ∈ ps,p ∈ ze (zR zA)) /\ Nw M M' 2 1:=by
 obtain ⟨hn,hk⟩:=g.lt;unfold zC7;rw [zAT];unfold zFJ;show OkS (zX _ _ [some (.ref 2),some (mD zA),none,none,none,none,none,none,none] M) _;have sr:=zKe m;have hrl:(zR zA).length = zA.length:=by unfold zR; simp
 have eL:=zKM (zHg (σ:=[some (.ref 2),some (mD zA),none,none,none,none,none,none,none]) (M:=M) (by omega) (zBv (f:=zD 1) rfl));obtain ⟨d,B,ep,rfl,us,hB,hus⟩:=zFm (M:=M ++ [.lst ((zR zA).map D.int)]) (j:=M.length) (xs:=zR zA) (zy _ _) sr.pw (by omega);have b1l:(M ++ [MO.lst ((zR zA).map D.int)]).length = M.length + 1:=by simp
 have hP:B[M.length + 1]? = some (.lst ((ze (zR zA)).map tI)):=by rw [hB,<- b1l]; simp
 have nwB:Nw M B 2 1:=by
  rw [hB,zV4];refine ⟨g.app fun u hu=>?_,by simp,fun j hj _ _=>by rw [zU5 hj]⟩;rcases zVO.mp hu with z | z
  ·rw [zVQ] at z; subst z;show D.unds _ _ = true;exact zAQ _ _
  ·rcases zVA.mp z with y | y
   ·subst y; exact zCR _ _
   ·exact zGK (zVk _) (hus u y)
 rw [zT,zk];refine zK (zMP (aC' eL rfl) ep) ?_;rw [zV,zd,b1l];have hPl:=(zU1.mp hP).1;generalize hjP:M.length + 1 = jP at hP hPl ⊢;clear ep eL;show OkS (zX _ _ [some (.ref 2),some (mD zA),some (.ref jP),none,none,none,none,none,none] B) _;rw [zT,zk];refine zK (M:=B ++ [.dicT []]) (a:=.dat (.ref B.length)) rfl ?_;rw [zV,zd];have nwC:Nw M (B ++ [dT []]) 2 1:=⟨nwB.gen.app fun u hu=>by rw [zVQ] at hu; subst hu; exact zQO _ (fun q h=>by cases h),by have:=nwB.len; simp; omega,fun j hj a b=>by rw [zU5 (by have:=nwB.len; omega)]; exact nwB.fr j hj a b⟩;have cK:(B ++ [dT []])[B.length]? = some (dT []):=zy _ _;have cP:(B ++ [dT []])[jP]? = some (.lst ((ze (zR zA)).map tI)):=by rw [zU5 hPl]; exact hP
 have hjK:jP < B.length:=hPl;have hBl:=nwB.len;generalize hjk:B.length = jK at cK hjK hBl ⊢;show OkS (zX _ _ [some (.ref 2),some (mD zA),some (.ref jP),some (.ref jK),none,none,none,none,none] (B ++ [dT []])) _;generalize B ++ [dT []] = C at nwC cK cP ⊢;clear hB hP hPl nwB hus;obtain ⟨d3,C2,e3,⟨i3,rfl,i0,i1⟩,nx3⟩:=zF2 nwC.gen (m:=3) (by omega) (by omega);have ea:(zF (toD (fOp zAe (fC (.int 1)) (zb zZ (zF (toD (zD 0)) (zF (toD (fC (.int 3))) zM))))) zM) [some (.ref 2),some (mD zA),some (.ref jP),some (.ref jK),none,none,none,none,none] C = some ([.int (1 + i3)],C2):=by
  have ec:zb zZ (zF (toD (zD 0)) (zF (toD (fC (.int 3))) zM)) [some (.ref 2),some (mD zA),some (.ref jP),some (.ref jK),none,none,none,none,none] C = some (.dat (.int i3),C2):=z0 (zj (d:=.ref 2) rfl (zh (d:=.int 3) rfl)) e3;have eo:fOp zAe (fC (.int 1)) (zb zZ (zF (toD (zD 0)) (zF (toD (fC (.int 3))) zM))) [some (.ref 2),some (mD zA),some (.ref jP),some (.ref jK),none,none,none,none,none] C = some (.dat (.int (1 + i3)),C2):=by
   unfold fOp;rw [show fC (.int 1) [some (.ref 2),some (mD zA),some (.ref jP),some (.ref jK),none,none,none,none,none] C = some (.dat (.int 1),C) from rfl];dsimp only;rw [ec]; rfl
  exact aC' (zLl eo) rfl
 clear e3;rw [zT,zA8];refine ⟨_,_,_,(zHe ea (by omega) (by omega)).trans (by rw [zEM]),?_⟩;have nwC2:Nw M C2 2 1:=nwC.trans nx3.nw;have nej:jP ≠ 2 /\ jP ≠ 1 /\ jK ≠ 2 /\ jK ≠ 1:=by omega
 refine zEe (n:=((1 + i3:Int)).toNat) (I:=fun i σ M'=>∃ (T:List (List Int × D)) (y4:Option D),Kn zA T /\ M'[jK]? = some (dT T) /\ M'[jP]? = some (.lst ((ze (zR zA)).map tI)) /\ Nw M M' 2 1 /\ jK < M'.length /\ σ = [some (.ref 2),some (mD zA),some (.ref jP),some (.ref jK),y4,none,none,none,none]) ?_ ?_ _ _ ⟨[],none,⟨(fun q h=>by cases h),.nil,(fun q h=>by cases h)⟩,(nx3.fr jK nej.2.2.1 nej.2.2.2).trans cK,(nx3.fr jP nej.1 nej.2.1).trans cP,nwC2,by rw [nx3.len]; exact (zU1.mp cK).1,rfl⟩
 ·rintro i σ M' hi ⟨T,y4,kn,eK,eP,nw,hjl,rfl⟩;refine ⟨_,rfl,?_⟩;show OkS (zB7 _ _ _ [some (.ref 2),some (mD zA),some (.ref jP),some (.ref jK),some (.int (i:Int)),none,none,none,none] M') _;have hpp:=zIk h2;have hpf:=zDa hR;obtain ⟨d4,M4,e4,⟨i4,rfl,j0,j1⟩,nx4⟩:=zF2 nw.gen (m:=((ze (zR zA)).length:Int)) (by omega) (by omega);have hlt:i4.toNat < (ze (zR zA)).length:=by omega
  have e5:fOp kIx (zD 2) (zb zZ (zF (toD (zD 0)) (zF (toD (fB zA3 (zY (zD 2) zt))) zM))) [some (.ref 2),some (mD zA),some (.ref jP),some (.ref jK),some (.int (i:Int)),none,none,none,none] M' = some (.dat (tI (ze (zR zA))[i4.toNat]),M4):=by
   have el:=zB8 (f:=zD 2) (σ:=[some (.ref 2),some (mD zA),some (.ref jP),some (.ref jK),some (.int (i:Int)),none,none,none,none]) (M:=M') rfl (zAA eP);rw [zU7] at el;have ec:=z0 (m:=zZ) (zj (f:=zD 0) (d:=.ref 2) rfl (zh el)) e4;unfold fOp;rw [show zD 2 [some (.ref 2),some (mD zA),some (.ref jP),some (.ref jK),some (.int (i:Int)),none,none,none,none] M' = some (.dat (.ref jP),M') from rfl];dsimp only;rw [ec];dsimp only;exact zCX (zAA ((nx4.fr jP nej.1 nej.2.1).trans eP)) (zFC j0 (by rw [zVL,zU2 hlt]; rfl))
  have eK4:=(nx4.fr jK nej.2.2.1 nej.2.2.2).trans eK;have hTl:=kn.len hR;have kn':=kn.put (zVW hlt);have nw4:=nw.trans nx4.nw;refine zNm (v:=.bl true) (n:=jK) rfl rfl e5 (zHw eK4 (by omega)) ⟨_,_,kn',?_,?_,nw4.setB g (by omega) (zQO _ kn'.tr),by rw [zXH,nx4.len]; exact hjl,rfl⟩
  ·rw [zVs (by rw [nx4.len]; exact hjl)]
  ·rw [zVS (by omega)]; exact (nx4.fr jP nej.1 nej.2.1).trans eP
 ·rintro σ M' ⟨T,y4,kn,eK,eP,nw,hjl,rfl⟩;rw [zd,zT,zk];have ek:fB zHx (zY (zD 3) zt) [some (.ref 2),some (mD zA),some (.ref jP),some (.ref jK),y4,none,none,none,none] M' = some (.fl ((T.map (·.1)).map tI),M'):=by
   unfold fB zY zt;rw [show zD 3 [some (.ref 2),some (mD zA),some (.ref jP),some (.ref jK),y4,none,none,none,none] M' = some (.dat (.ref jK),M') from rfl];show zHx [.dat (.ref jK)] M' = _;unfold zHx;dsimp only;rw [eK];show some (EV.fl ((zFX T).map (·.1)),M') = _;unfold zFX;rw [zVM,zVM]; rfl
  refine zK ek (zAO ?_);rw [zd];show OkS (zX _ _ [some (.ref 2),some (mD zA),some (.ref jP),some (.ref jK),y4,some (.ref M'.length),none,none,none] (M' ++ [.lst ((T.map (·.1)).map tI)])) _;refine zDU (d:=.int 0) rfl ?_;show OkS (zX _ _ [some (.ref 2),some (mD zA),some (.ref jP),some (.ref jK),y4,some (.ref M'.length),some (.int 0),none,none] (M' ++ [.lst ((T.map (·.1)).map tI)])) _;have hMl:=nw.len;generalize hjF:M'.length = jF at hjl ⊢;rw [zT];refine zDf (I:=fun z σ A=>∃ (T:List (List Int × D)) (at':Nat) (y7 y8:Option D),Kn zA T /\ at' <= T.length /\ z = 676 - at' /\ A[jK]? = some (dT T) /\ A[jF]? = some (.lst ((T.map (·.1)).map tI)) /\ Nw M A 2 1 /\ jF < A.length /\ σ = [some (.ref 2),some (mD zA),some (.ref jP),some (.ref jK),y4,some (.ref jF),some (.int (at':Int)),y7,y8]) ?_ 1000 676 _ _ (by omega) ⟨T,0,none,none,kn,zVk _,rfl,by rw [zU5 (by omega)]; exact eK,by rw [<- hjF]; exact zy _ _,nw.trans (nw.gen.lst _ (zCR _ _)),by rw [zVE,hjF]; simp,rfl⟩;clear kn eK ek;rintro z σ A ⟨T,at',y7,y8,kn,hat,rfl,eK,eF,nwA,hFl,rfl⟩;have hTl:=kn.len hR;have el:=zB8 (f:=zD 5) (σ:=[some (.ref 2),some (mD zA),some (.ref jP),some (.ref jK),y4,some (.ref jF),some (.int (at':Int)),y7,y8]) (M:=A) rfl (zAA eF);rw [zU7,zU7] at el;refine zK (zBI (zf (x:=.dat (.int (at':Int))) rfl el (zg (zPM.mpr ⟨rfl,rfl⟩)))) ?_;by_cases hlt:at' < T.length
  ·rw [zV6 (by omega),zVD rfl];rw [zT,zA8];refine ⟨_,_,_,zBA (zGw m rfl) (by omega) (by omega),?_⟩;refine zEe (n:=((l:Int)).toNat) (I:=fun i σ A'=>∃ (T':List (List Int × D)) (y7 y8:Option D),Kn zA T' /\ at' < T'.length /\ A'[jK]? = some (dT T') /\ A'[jF]? = some (.lst ((T'.map (·.1)).map tI)) /\ Nw M A' 2 1 /\ jF < A'.length /\ σ = [some (.ref 2),some (mD zA),some (.ref jP),some (.ref jK),y4,some (.ref jF),some (.int (at':Int)),y7,y8]) ?_ ?_ _ _ ⟨T,y7,y8,kn,hlt,eK,eF,nwA,hFl,rfl⟩
   ·rintro i σ A' hi ⟨T',y7,y8,kn',hat',eK',eF',nw',hFl',rfl⟩;refine ⟨_,rfl,?_⟩;show OkS (zX _ _ [some (.ref 2),some (mD zA),some (.ref jP),some (.ref jK),y4,some (.ref jF),some (.int (at':Int)),some (.int (i:Int)),y8] A') _;have hTl':=kn'.len hR;have hm:(T'.map (·.1))[at']? = some T'[at'].1:=by rw [zVL,zU2 hat']; rfl
    obtain ⟨a,b,hab,ha,hb,hlt2⟩:=zAB.mp (kn'.pr _ (List.mem_of_getElem? hm));rw [hab] at hm;have ha:=zq.mp ha;have hb:=zq.mp hb;have ei:fOp kIx (zD 5) (zD 6) [some (.ref 2),some (mD zA),some (.ref jP),some (.ref jK),y4,some (.ref jF),some (.int (at':Int)),some (.int (i:Int)),y8] A' = some (.dat (tI [a,b]),A'):=zf (x:=.dat (.ref jF)) (y:=.dat (.int (at':Int))) rfl rfl (zCX (zAA eF') (zJR (by rw [zVL,hm]; rfl)));refine zDU (z0 (zj (d:=mD zA) rfl (zj ei (zh (d:=.int (i:Int)) rfl))) (zIv m ha.1 ha.2 hb.1 hb.2 (by omega) (by omega))) ?_;obtain ⟨p0,p1⟩:=m.step ha.1 ha.2 (show (0:Int) <= (i:Int) by omega) (show (i:Int) < l by omega);obtain ⟨q0,q1⟩:=m.step hb.1 hb.2 (show (0:Int) <= (i:Int) by omega) (show (i:Int) < l by omega);generalize zAG zA a i = p at *;generalize zAG zA b i = q at *;show OkS (sIf _ _ _ [some (.ref 2),some (mD zA),some (.ref jP),some (.ref jK),y4,some (.ref jF),some (.int (at':Int)),some (.int (i:Int)),some (tI (zAL p q))] A') _;have c1:tst (fOp kLt (fOp kIx (zD 8) (fC (.int 0))) (fOp kIx (zD 8) (fC (.int 1)))) [some (.ref 2),some (mD zA),some (.ref jP),some (.ref jK),y4,some (.ref jF),some (.int (at':Int)),some (.int (i:Int)),some (tI (zAL p q))] A' = some (decide (p ≠ q),A'):=by
     have:decide (p ≠ q) = decide ((zAL p q).getD 0 0 < (zAL p q).getD 1 0):=decide_eq_decide.mpr zPt.symm;rw [this];exact zBI (zf (x:=.dat (.int ((zAL p q).getD 0 0))) (y:=.dat (.int ((zAL p q).getD 1 0))) (zf (x:=.dat (tI (zAL p q))) (y:=.dat (.int 0)) rfl rfl (zCX zAr rfl)) (zf (x:=.dat (tI (zAL p q))) (y:=.dat (.int 1)) rfl rfl (zCX zAr rfl)) (zg (zPM.mpr ⟨rfl,rfl⟩)))
    have c2:=zBI (zf (k:=zCC true) (f:=zD 8) (g:=zD 3) (σ:=[some (.ref 2),some (mD zA),some (.ref jP),some (.ref jK),y4,some (.ref jF),some (.int (at':Int)),some (.int (i:Int)),some (tI (zAL p q))]) (M:=A') (x:=.dat (tI (zAL p q))) (y:=.dat (.ref jK)) rfl rfl ((zLj eK').trans (by rw [zVD rfl])));have keep:∃ (T':List (List Int × D)) (y7' y8':Option D),Kn zA T' /\ at' < T'.length /\ A'[jK]? = some (dT T') /\ A'[jF]? = some (.lst ((T'.map (·.1)).map tI)) /\ Nw M A' 2 1 /\ jF < A'.length /\ [some (D.ref 2),some (mD zA),some (.ref jP),some (.ref jK),y4,some (.ref jF),some (.int (at':Int)),some (.int (i:Int)),some (tI (zAL p q))] = [some (D.ref 2),some (mD zA),some (.ref jP),some (.ref jK),y4,some (.ref jF),some (.int (at':Int)),y7',y8']:=⟨T',_,_,kn',hat',eK',eF',nw',hFl',rfl⟩;by_cases hpq:p = q
    ·rw [zVX (by simp [hpq])] at c1;refine zDc ?_ keep;unfold zBo; rw [c1]
    ·rw [zV6 hpq] at c1;have hpm:=zIj p0 p1 q0 q1 hpq;cases hk:(zQ T' (zAL p q)).isSome with
     | true=>
      rw [hk] at c2;refine zDc ?_ keep;unfold zBo; rw [c1]; exact c2
     | false=>
      rw [hk] at c2;have c3:zBo (tst (fOp kLt (fOp kIx (zD 8) (fC (.int 0))) (fOp kIx (zD 8) (fC (.int 1))))) (tst (fOp (zCC true) (zD 8) (zD 3))) [some (.ref 2),some (mD zA),some (.ref jP),some (.ref jK),y4,some (.ref jF),some (.int (at':Int)),some (.int (i:Int)),some (tI (zAL p q))] A' = some (true,A'):=by unfold zBo; rw [c1]; exact c2
      rw [zBV];refine zK c3 ?_;have hnew:zAL p q ∉ T'.map (·.1):=fun z=>by rw [zCZ.mpr z] at hk; cases hk
      have kn2:=kn'.put hpm;have hput:=zMj (v:=.bl true) hnew;rw [hput] at kn2;show OkS (zX _ _ _ A') _;rw [zT];refine zLE (v:=.bl true) (k:=tI (zAL p q)) (n:=jK) rfl rfl rfl (zHw eK' (by omega)) ?_;rw [zd,hput,zDj];have nw2:=nw'.setB (j:=jK) (u:=dT (T' ++ [(zAL p q,.bl true)])) g (by omega) (zQO _ kn2.tr);have eF2:(A'.set jK (dT (T' ++ [(zAL p q,.bl true)])))[jF]? = some (.lst ((T'.map (·.1)).map tI)):=by rw [zVS (by omega)]; exact eF'
      have hl2:jF < (A'.set jK (dT (T' ++ [(zAL p q,.bl true)]))).length:=by rw [zXH]; exact hFl'
      have eK2:(A'.set jK (dT (T' ++ [(zAL p q,.bl true)])))[jK]? = some (dT (T' ++ [(zAL p q,.bl true)])):=by rw [zVs (by omega)]
      generalize A'.set jK (dT (T' ++ [(zAL p q,.bl true)])) = A2 at nw2 eF2 hl2 eK2 ⊢;refine zNT.mpr (zK (a:=.dat (.ref jF)) (M:=A2) rfl ⟨⟨_,zBY eF2⟩,zK (zh (d:=tI (zAL p q)) rfl) ((zIB eF2 (by rw [zU7,zU7]; exact zVN (show T'.length < 1000 by omega) (zAP (by omega)))).mpr ?_)⟩);refine ⟨T' ++ [(zAL p q,.bl true)],_,_,kn2,by simp; omega,by rw [zVS (by omega)]; exact eK2,?_,nw2.setB g (by omega) ?_,by rw [zXH]; exact hl2,rfl⟩
      ·rw [zVs hl2]; simp
      ·show D.unds _ _ = true;have:=zCR A2.length ((T'.map (·.1)) ++ [zAL p q]);simpa using this
   ·rintro σ A' ⟨T',y7,y8,kn',hat',eK',eF',nw',hFl',rfl⟩;rw [zd,zk];refine zK (a:=.dat (.int ((at':Int) + 1))) (M:=A') rfl ?_;exact ⟨676 - (at' + 1),by omega,T',at' + 1,_,_,kn',hat',rfl,eK',eF',nw',hFl',rfl⟩
  ·rw [zVX (by omega),zVG (by decide)];rw [zd];exact zAJ (d:=.ref jF) rfl ⟨jF,T.map (·.1),rfl,by omega,eF,by rw [zU7]; exact hTl,kn.pr,nwA⟩
theorem zUf {M:Mem} (i:Int):Vd M (.int i):=by unfold Vd; trivial
theorem zKB {M:Mem} {j:Nat} {xs:List D} (h:M[j]? = some (.lst xs)):Vd M (.ref j):=by
 unfold Vd;refine ⟨"list", ?_,.inl rfl⟩;unfold zG8;dsimp only;rw [h]
theorem zCF {M:Mem} {ds:List D} (hz:ds.length <= 100000) (h:∀ d ∈ ds,Vd M d):Vd M (.tup ds):=by
 unfold Vd;exact ⟨hz,Vds.of h⟩
theorem zJL {n:Nat}:∀ {xs:List D},(∀ d ∈ xs,D.und n d = true) -> D.unds n xs = true
 | [],_=>by unfold D.unds; rfl
 | d :: xs,h=>by
  unfold D.unds;rw [h d zVC,zJL fun x hx=>h x (zVB _ hx)]; rfl
theorem zP9 {M:Mem} {n:Nat} {xs:List D} (h:M[n]? = some (.lst xs)):zHX M (.dat (.ref n)) = some xs:=by
 unfold zHX;dsimp only;rw [h]
theorem zD2 {M:Mem} {x y:EV} {xs ys:List D} (hx:zHX M x = some xs) (hy:zHX M y = some ys) (hz:xs.length + ys.length <= 90000):zBu x y M = some (.fl (xs ++ ys),M):=by
 unfold zBu;rw [hx,hy];dsimp only;rw [zVD (zAP (by omega))]
theorem zSz {zA:List (List Int)} (hR:zA.length <= 26) {M:Mem} (g:Gen M 2 1) {a b:Int} (a0:0 <= a) (ab:a < b) (bn:b < zA.length) :
  Ok (zCq [.ref 2,mD zA,tI [a,b]] M) fun d M'=>Vd M' d /\ D.und M'.length d = true /\ Nw M M' 2 1:=by
 obtain ⟨hn,hk⟩:=g.lt;unfold zCq;rw [zAT];unfold zF9;show OkS (zX _ _ [some (.ref 2),some (mD zA),some (tI [a,b]),none,none,none] M) _;rw [zT,zQq];refine zK (a:=.dat (tI [a,b])) (M:=M) rfl ?_;rw [zV];refine ⟨_,rfl,?_⟩;rw [zd];show OkS (zX _ _ [some (.ref 2),some (mD zA),some (tI [a,b]),some (.int a),some (.int b),none] M) _;rw [zT,zk];refine zK (zIR (aC' (zCG (zCy (zj (d:=.int b) rfl (zh (d:=.int a) rfl)) (by simp))) (aC' (zCG (zCy (zj (d:=.int a) rfl (zh (d:=.int a) rfl)) (by simp))) (aC' (zKM (zIR (zj (d:=.int a) rfl (zh (d:=.int b) rfl)) (by simp))) (aC' (zCG (zCy (zh (d:=.int a) rfl) (by simp))) (aC' (zCG (zCy (zj (d:=.int a) rfl (zj (d:=.int b) rfl (zh (d:=.int b) rfl))) (by simp))) (aC' (zCG (zCy (zj (d:=.int a) rfl (zh (zBv rfl))) (by simp))) (aC' (zCG (zCy (zj (d:=.int (-1)) rfl (zh (d:=.int b) rfl)) (by simp))) rfl))))))) (by simp)) (zAO ?_);rw [zd];generalize hL1:[D.tup [.int b,.int a],D.tup [.int a,.int a],D.ref M.length,D.tup [.int a],D.tup [.int a,.int b,.int b],D.tup [.int a,.int zA.length],D.tup [.int (-1),.int b]] = L1;have l1:L1.length = 7:=by rw [<- hL1]; rfl
 generalize hM1:M ++ [MO.lst [D.int a,D.int b]] ++ [MO.lst L1] = M1;have e1:M1[M.length + 1]? = some (.lst L1):=by rw [<- hM1]; simp
 have e0:M1[M.length]? = some (.lst [.int a,.int b]):=by rw [<- hM1]; simp
 have hl1:M1.length = M.length + 2:=by rw [<- hM1]; simp
 have und1:∀ n,M.length < n -> ∀ d ∈ L1,D.und n d = true:=fun n hn d hd=>by
  rw [<- hL1] at hd;simp only [zVA,zVT,zWJ] at hd;rcases hd with rfl | rfl | rfl | rfl | rfl | rfl | rfl <;> simp [D.und,D.unds,hn]
 have nw1:Nw M M1 2 1:=by
  rw [<- hM1];refine (g.lst [D.int a,D.int b] (zAQ _ [a,b])).trans ((g.lst [D.int a,D.int b] (zAQ _ [a,b])).gen.lst L1 ?_);exact zJL fun d hd=>und1 _ (by simp) d hd
 show OkS (zX _ _ [some (.ref 2),some (mD zA),some (tI [a,b]),some (.int a),some (.int b),some (.ref (M ++ [MO.lst [D.int a,D.int b]]).length)] M1) _;rw [show (M ++ [MO.lst [D.int a,D.int b]]).length = M.length + 1 by simp];rw [zT,zk];have eS:fB zNk (zY (zD 4) zt) [some (.ref 2),some (mD zA),some (tI [a,b]),some (.int a),some (.int b),some (.ref (M.length + 1))] M1 = some (.dat (.str (Str.ofString (toString b))),M1):=by
  show (if b.natAbs < 2 ^ 64 then _ else none) = _;rw [zVD (by omega)]
 have eP:fOp zKE (fC (.int 10)) (fC (.int 30)) [some (.ref 2),some (mD zA),some (tI [a,b]),some (.int a),some (.int b),some (.ref (M.length + 1))] M1 = some (.dat (.int (10 ^ 30)),M1):=zf (x:=.dat (.int 10)) (y:=.dat (.int 30)) rfl rfl (zg (zPC.mpr ⟨⟨by decide,by decide,by decide⟩,rfl,rfl⟩));have e2:zAj (zF (toD (zAm (zF (toD (zD 3)) (zF (toD (fB zNk (zY (zD 4) zt))) zM)))) (zF (toD (fC .non)) (zF (toD (zD 3)) (zF (toD (zAm zM)) (zF (toD (zAm (zF (toD (fC (.bl false))) (zF (toD (zD 4)) zM)))) (zF (toD (zAm (zF (toD (zD 3)) (zF (toD (fC (.bl true))) zM)))) (zF (toD (zAm (zF (toD (zD 2)) (zF (toD (zD 2)) zM)))) (zF (toD (zAm (zF (toD (zD 3)) (zF (toD (fOp zKE (fC (.int 10)) (fC (.int 30)))) zM)))) zM)))))))) [some (.ref 2),some (mD zA),some (tI [a,b]),some (.int a),some (.int b),some (.ref (M.length + 1))] M1 = some (.fl [D.tup [.int a,.str (Str.ofString (toString b))],.non,.int a,.tup [],.tup [.bl false,.int b],.tup [.int a,.bl true],.tup [tI [a,b],tI [a,b]],.tup [.int a,.int (10 ^ 30)]],M1) :=
  zIR (zj (zCy (zj (d:=.int a) rfl (zh eS)) (by simp)) (zj (d:=.non) rfl (zj (d:=.int a) rfl (zj (d:=.tup []) (zCy rfl (by simp)) (zj (zCy (zj (d:=.bl false) rfl (zh (d:=.int b) rfl)) (by simp)) (zj (zCy (zj (d:=.int a) rfl (zh (d:=.bl true) rfl)) (by simp)) (zj (zCy (zj (d:=tI [a,b]) rfl (zh (d:=tI [a,b]) rfl)) (by simp)) (zh (zCy (zj (d:=.int a) rfl (zh eP)) (by simp)))))))))) (by simp)
 generalize hL2:[D.tup [.int a,.str (Str.ofString (toString b))],.non,.int a,.tup [],.tup [.bl false,.int b],.tup [.int a,.bl true],.tup [tI [a,b],tI [a,b]],.tup [.int a,.int (10 ^ 30)]] = L2 at e2;have l2:L2.length = 8:=by rw [<- hL2]; rfl
 refine zK (zf (x:=.dat (.ref (M.length + 1))) rfl e2 (zD2 (zP9 e1) rfl (by omega))) (zAO ?_);rw [zd];have und2:∀ n,∀ d ∈ L2,D.und n d = true:=fun n d hd=>by
  rw [<- hL2] at hd;simp only [zVA,zVT,zWJ] at hd;rcases hd with rfl | rfl | rfl | rfl | rfl | rfl | rfl | rfl <;> simp [D.und,D.unds,tI]
 have undA:∀ n,M.length < n -> ∀ d ∈ L1 ++ L2,D.und n d = true:=fun n hn d hd=>by
  rcases zVO.mp hd with z | z
  ·exact und1 n hn d z
  ·exact und2 n d z
 have nw2:=nw1.trans (nw1.gen.lst (L1 ++ L2) (zJL fun d hd=>undA _ (by omega) d hd));have e3:(M1 ++ [MO.lst (L1 ++ L2)])[M1.length]? = some (.lst (L1 ++ L2)):=zy _ _;have e4:(M1 ++ [MO.lst (L1 ++ L2)])[M.length]? = some (.lst [.int a,.int b]):=by rw [zU5 (by omega)]; exact e0
 have hl3:M.length + 2 < (M1 ++ [MO.lst (L1 ++ L2)]).length:=by simp; omega
 rw [hl1] at e3;show OkS (zAN _ [some (.ref 2),some (mD zA),some (tI [a,b]),some (.int a),some (.int b),some (.ref M1.length)] (M1 ++ [MO.lst (L1 ++ L2)])) _;rw [hl1];generalize M1 ++ [MO.lst (L1 ++ L2)] = M3 at nw2 e3 e4 hl3 ⊢;have el:=zB8 (f:=zD 5) (σ:=[some (.ref 2),some (mD zA),some (tI [a,b]),some (.int a),some (.int b),some (.ref (M.length + 2))]) (M:=M3) rfl (zAA e3);rw [zAu];refine zAi.mpr (zK (a:=.dat (.ref (M.length + 2))) (M:=M3) rfl (zAU nw2.gen rfl el (by rw [zVE]; omega) (by rw [zVE]; omega) fun t M4 t0 t1 nx4=>?_));have hlt:t.toNat < (L1 ++ L2).length:=by omega
 refine zK (zCX (zAA ((nx4.fr _ (by omega) (by omega)).trans e3)) (zFC t0 (zU2 hlt))) ?_;rw [zV];have hmem:=zVW hlt;generalize (L1 ++ L2)[t.toNat] = d at hmem;refine ⟨?_,undA _ (by rw [nx4.len]; omega) d hmem,nw2.trans nx4.nw⟩;have e5:M4[M.length]? = some (.lst [.int a,.int b]):=(nx4.fr _ (by omega) (by omega)).trans e4;rcases zVO.mp hmem with z | z
 ·rw [<- hL1] at z;simp only [zVA,zVT,zWJ] at z;rcases z with rfl | rfl | rfl | rfl | rfl | rfl | rfl
  ·exact zCS (c:=[b,a]) (by simp)
  ·exact zCS (c:=[a,a]) (by simp)
  ·exact zKB e5
  ·exact zCS (c:=[a]) (by simp)
  ·exact zCS (c:=[a,b,b]) (by simp)
  ·exact zCS (c:=[a,zA.length]) (by simp)
  ·exact zCS (c:=[-1,b]) (by simp)
 ·rw [<- hL2] at z;simp only [zVA,zVT,zWJ] at z;rcases z with rfl | rfl | rfl | rfl | rfl | rfl | rfl | rfl
  ·exact zCF (by simp) (by simp [Vd])
  ·unfold Vd; trivial
  ·unfold Vd; trivial
  ·exact zCF (by simp) (by simp)
  ·exact zCF (by simp) (by simp [Vd])
  ·exact zCF (by simp) (by simp [Vd])
  ·exact zCF (by simp) fun d hd=>by
    simp only [zVA,zVT,zWJ,or_self] at hd;subst hd; exact zCS (c:=[a,b]) (by simp)
  ·exact zCF (by simp) (by simp [Vd])
theorem zSo {f:FE} {fl fh:FO} {σ:Sd} {M:Mem} {x:EV} {xs:List D} {lo hi:Option Int} (hf:f σ M = some (x,M)) (ht:zD7 x = none) (hx:zCE M x = some xs) (hl:fl σ M = some (lo,M)) (hh:fh σ M = some (hi,M)):fSl f fl fh σ M = some (.fl (L3.zCW xs lo hi),M):=by
 unfold fSl;rw [hf]; dsimp only;rw [hl]; dsimp only;rw [hh]; dsimp only;exact zg ((zJJ hx ht).mpr ⟨rfl,rfl⟩)
theorem zI8 {k:K2} {f g:FE} {σ:Sd} {M M1 M2:Mem} {x y:EV} {r:Option (EV × Mem)} (hf:f σ M = some (x,M1)) (hg:g σ M1 = some (y,M2)) (hk:k x y M2 = r):fOp k f g σ M = r:=by
 unfold fOp;rw [hf]; dsimp only;rw [hg]; exact hk
theorem zT0 {f:FE} {σ:Sd} {M M1:Mem} {d:D} (h:f σ M = some (.dat d,M1)):zAj (zF (toD f) zM) σ M = some (.fl [d],M1):=zIR (aC' (zLl h) rfl) (by simp)
theorem zJY {xs:List D} {lo hi:Option Int}:(L3.zCW xs lo hi).length <= xs.length /\ ∀ d ∈ L3.zCW xs lo hi,d ∈ xs:=by
 rw [zPR rfl rfl];refine ⟨by rw [zWM,zXR]; omega,fun d hd=>List.mem_of_mem_drop (List.mem_of_mem_take hd)⟩
theorem zFs {zA:List (List Int)} {ps:List (List Int)} (hp:∀ p ∈ ps,p ∈ ze (zR zA)) {M:Mem}:∀ d ∈ ps.map tI,Vd M d:=fun d hd=>by
 obtain ⟨p,hpp,rfl⟩:=zVF.mp hd;obtain ⟨a,b,rfl,_⟩:=zAB.mp (hp p hpp);exact zCS (c:=[a,b]) (by simp)
theorem zNM {zA:List (List Int)} {l:Nat} (m:IsM zA l) (hR:zA.length <= 26) (h2:2 <= zA.length) {M:Mem} (g:Gen M 2 1) {jl:Nat} {ps:List (List Int)} (hj:M[jl]? = some (.lst (ps.map tI))) (j2:jl ≠ 2) (j1:jl ≠ 1) (hp:∀ p ∈ ps,p ∈ ze (zR zA)) (p0:0 < ps.length) (pz:ps.length <= 676) :
  Ok (zB3 [.ref 2,mD zA,.ref jl] M) fun d M'=>Vd M' d /\ zKw d <= 2000 /\ Nw M M' 2 1:=by
 unfold zB3;rw [zAT];unfold zDr;show OkS (zX _ _ [some (.ref 2),some (mD zA),some (.ref jl),none,none,none] M) _;have el:=zB8 (f:=zD 2) (σ:=[some (.ref 2),some (mD zA),some (.ref jl),none,none,none]) (M:=M) rfl (zAA hj);rw [zU7] at el;rw [zT,zk];refine zAU g rfl el (by omega) (by omega) fun t M1 t0 t1 nx1=>?_;rw [zV,zd];show OkS (zX _ _ [some (.ref 2),some (mD zA),some (.ref jl),some (.int t),none,none] M1) _;rw [zT,zk];refine zAU (m:=6) nx1.gen rfl rfl (by omega) (by omega) fun w M2 w0 w1 nx2=>?_;rw [zV,zd];show OkS (zX _ _ [some (.ref 2),some (mD zA),some (.ref jl),some (.int t),some (.int w),none] M2) _;have nw2:=nx1.nw.trans nx2.nw;have hj2:M2[jl]? = some (.lst (ps.map tI)):=(nx2.fr jl j2 j1).trans ((nx1.fr jl j2 j1).trans hj);clear el nx1 nx2;have ht:t.toNat < ps.length:=by omega
 have et:∀ {k:Int},tst (fOp kEq (zD 4) (fC (.int k))) [some (.ref 2),some (mD zA),some (.ref jl),some (.int t),some (.int w),none] M2 = some (decide (w = k),M2):=fun {k}=>zBI (zf (x:=.dat (.int w)) (y:=.dat (.int k)) rfl rfl eqE);have lo:∀ {y5:Option D} {A:Mem},A[jl]? = some (.lst (ps.map tI)) -> fSl (zD 2) zBc (zBN (zD 3)) [some (.ref 2),some (mD zA),some (.ref jl),some (.int t),some (.int w),y5] A = some (.fl (L3.zCW (ps.map tI) none (some t)),A):=fun {y5 A} h=>zSo (x:=.dat (.ref jl)) rfl rfl (zBY h) rfl (oS rfl);have hi1:∀ {y5:Option D} {A:Mem},A[jl]? = some (.lst (ps.map tI)) -> fSl (zD 2) (zBN (fOp zAe (zD 3) (fC (.int 1)))) zBc [some (.ref 2),some (mD zA),some (.ref jl),some (.int t),some (.int w),y5] A = some (.fl (L3.zCW (ps.map tI) (some (t + 1)) none),A):=fun {y5 A} h=>zSo (x:=.dat (.ref jl)) rfl rfl (zBY h) (oS rfl) rfl;have hi0:∀ {y5:Option D} {A:Mem},A[jl]? = some (.lst (ps.map tI)) -> fSl (zD 2) (zBN (zD 3)) zBc [some (.ref 2),some (mD zA),some (.ref jl),some (.int t),some (.int w),y5] A = some (.fl (L3.zCW (ps.map tI) (some t) none),A):=fun {y5 A} h=>zSo (x:=.dat (.ref jl)) rfl rfl (zBY h) (oS rfl) rfl;have pm:(ps.map tI).length = ps.length:=zU7 ..;have cl:=@zJY (ps.map tI) none (some t);have c1:=@zJY (ps.map tI) (some (t + 1)) none;have c0:=@zJY (ps.map tI) (some t) none;generalize L3.zCW (ps.map tI) none (some t) = CL at cl lo;generalize L3.zCW (ps.map tI) (some (t + 1)) none = C1 at c1 hi1;generalize L3.zCW (ps.map tI) (some t) none = C0 at c0 hi0;have out:∀ {A:Mem} {f:FE} {σ:Sd} {xs:List D} {P:Out -> Sd -> Mem -> Prop},f σ M2 = some (.fl xs,A) -> P (.ret (.tup xs)) σ A -> OkS (zAN (fB zBQ (zY f zt)) σ M2) P:=fun {A f σ xs P} e q=>by
  rw [zAu];refine zNV.mpr (zDg.mpr (zK e (zEn.mpr ((zGp zDz).mpr ?_))));rw [zV]; exact q
 have at1:∀ {y5:Option D} {A:Mem},A[jl]? = some (.lst (ps.map tI)) -> fOp kIx (zD 2) (zD 3) [some (.ref 2),some (mD zA),some (.ref jl),some (.int t),some (.int w),y5] A = some (.dat (tI ps[t.toNat]),A):=fun {y5 A} h=>zf (x:=.dat (.ref jl)) (y:=.dat (.int t)) rfl rfl (zCX (zAA h) (zFC t0 (by rw [zVL,zU2 ht]; rfl)));have vp:∀ {A:Mem},∀ d ∈ ps.map tI,Vd A d:=fun {A}=>zFs hp;by_cases h0:w = 0
 ·refine zA7 (et.trans (by rw [zV6 h0])) (out (zf (lo hj2) (hi1 hj2) (zD2 rfl rfl (by omega))) ⟨?_,?_,nw2⟩)
  ·exact zCF (by rw [zVE]; omega) fun d hd=>vp d (by
    rcases zVO.mp hd with z | z
    ·exact cl.2 d z
    ·exact c1.2 d z)
  ·show (CL ++ C1).length <= 2000;rw [zVE]; omega
 refine zCN (et.trans (by rw [zVX h0])) ?_;by_cases h1:w = 1
 ·refine zA7 (et.trans (by rw [zV6 h1])) (out (zf (x:=.dat (.ref jl)) rfl (zIR (zh (at1 hj2)) (by simp)) (zD2 (zP9 hj2) rfl (by simp; omega))) ⟨?_,?_,nw2⟩)
  ·exact zCF (by simp; omega) fun d hd=>by
    rcases zVO.mp hd with z | z
    ·exact vp d z
    ·rw [zVQ] at z; subst z; exact vp _ (zVF.mpr ⟨_,zVW ht,rfl⟩)
  ·show (ps.map tI ++ [_]).length <= 2000;simp; omega
 refine zCN (et.trans (by rw [zVX h1])) ?_;by_cases hw2:w = 2
 ·refine zA7 (et.trans (by rw [zV6 hw2])) ?_;rw [zAu];refine zK (zM3 (f:=zD 2) (x:=.dat (.ref jl)) rfl (zAA hj2)) (zAO ?_);exact ⟨zKB (zy _ _),by show 0 <= 2000; omega,nw2.trans (nw2.gen.lst _ (zCR _ _))⟩
 refine zCN (et.trans (by rw [zVX hw2])) ?_;by_cases h3:w = 3
 ·refine zA7 (et.trans (by rw [zV6 h3])) ?_;have sr:=zKe m;have hrl:(zR zA).length = zA.length:=by unfold zR; simp
  have eL:=zKM (zHg (σ:=[some (.ref 2),some (mD zA),some (.ref jl),some (.int t),some (.int w),none]) (M:=M2) (by omega) (zBv (f:=zD 1) rfl));obtain ⟨d,B,ep,rfl,us,hB,hus⟩:=zFm (M:=M2 ++ [.lst ((zR zA).map D.int)]) (j:=M2.length) (xs:=zR zA) (zy _ _) sr.pw (by omega);have b1l:(M2 ++ [MO.lst ((zR zA).map D.int)]).length = M2.length + 1:=by simp
  have hP:B[M2.length + 1]? = some (.lst ((ze (zR zA)).map tI)):=by rw [hB,<- b1l]; simp
  have nwB:Nw M2 B 2 1:=by
   rw [hB,zV4];refine ⟨nw2.gen.app fun u hu=>?_,by simp,fun j hj _ _=>by rw [zU5 hj]⟩;rcases zVO.mp hu with z | z
   ·rw [zVQ] at z; subst z;show D.unds _ _ = true;exact zAQ _ _
   ·rcases zVA.mp z with y | y
    ·subst y; exact zCR _ _
    ·exact zGK (zVk _) (hus u y)
  rw [zT,zk];refine zK (zMP (aC' eL rfl) ep) ?_;rw [zV,zd,b1l];clear ep eL;show OkS (zAN _ [some (.ref 2),some (mD zA),some (.ref jl),some (.int t),some (.int w),some (.ref (M2.length + 1))] B) _;have hjB:B[jl]? = some (.lst (ps.map tI)):=nwB.get hj2 j2 j1;have hpp:=zIk h2;have hpf:=zDa hR;obtain ⟨hn2,hk2⟩:=nw2.gen.lt;obtain ⟨d4,M4,e4,⟨i4,rfl,q0,q1⟩,nx4⟩:=zF2 nwB.gen (m:=((ze (zR zA)).length:Int)) (by omega) (by omega);have hlt:i4.toNat < (ze (zR zA)).length:=by omega
  have hP4:M4[M2.length + 1]? = some (.lst ((ze (zR zA)).map tI)):=(nx4.fr _ (by omega) (by omega)).trans hP;have hj4:M4[jl]? = some (.lst (ps.map tI)):=(nx4.fr jl j2 j1).trans hjB;have el:=zB8 (f:=zD 5) (σ:=[some (.ref 2),some (mD zA),some (.ref jl),some (.int t),some (.int w),some (.ref (M2.length + 1))]) (M:=B) rfl (zAA hP);rw [zU7] at el;have ex:fOp kIx (zD 5) (zb zZ (zF (toD (zD 0)) (zF (toD (fB zA3 (zY (zD 5) zt))) zM))) [some (.ref 2),some (mD zA),some (.ref jl),some (.int t),some (.int w),some (.ref (M2.length + 1))] B = some (.dat (tI (ze (zR zA))[i4.toNat]),M4) :=
   zI8 (x:=.dat (.ref (M2.length + 1))) rfl (z0 (zj (d:=.ref 2) rfl (zh el)) e4) (zCX (zAA hP4) (zFC q0 (by rw [zVL,zU2 hlt]; rfl)))
  clear e4;have e5:=zI8 (k:=zBu) (lo hjB) (zT0 ex) (zD2 (xs:=CL) (ys:=[tI (ze (zR zA))[i4.toNat]]) rfl rfl (by rw [List.length_singleton]; omega));have e6:=zI8 (k:=zBu) e5 (hi0 hj4) (zD2 (xs:=CL ++ [tI (ze (zR zA))[i4.toNat]]) (ys:=C0) rfl rfl (by rw [zVE,List.length_singleton]; omega));rw [zAu];refine zNV.mpr (zDg.mpr (zK e6 (zEn.mpr ((zGp zDz).mpr ?_))));rw [zV];refine ⟨zCF (by simp; omega) fun d hd=>?_,?_,nw2.trans (nwB.trans nx4.nw)⟩
  ·rcases zVO.mp hd with z | z
   ·rcases zVO.mp z with y | y
    ·exact vp d (cl.2 d y)
    ·rw [zVQ] at y; subst y;exact zFs (zA:=zA) (fun p h=>h) _ (zVF.mpr ⟨_,zVW hlt,rfl⟩)
   ·exact vp d (c0.2 d z)
  ·show (CL ++ [_] ++ C0).length <= 2000;simp; omega
 refine zCN (et.trans (by rw [zVX h3])) ?_;obtain ⟨a,b,hab,ha,hb,hlt⟩:=zAB.mp (hp _ (zVW ht));have ha:=zq.mp ha;have hb:=zq.mp hb;obtain ⟨d,M3,eo,vd,ud,nw3⟩:=zSz hR nw2.gen ha.1 hlt hb.2;have ex:zb zCq (zF (toD (zD 0)) (zF (toD (zD 1)) (zF (toD (fOp kIx (zD 2) (zD 3))) zM))) [some (.ref 2),some (mD zA),some (.ref jl),some (.int t),some (.int w),none] M2 = some (.dat d,M3) :=
  z0 (zj (d:=.ref 2) rfl (zj (d:=mD zA) rfl (zh ((at1 hj2).trans (by rw [hab]))))) eo
 clear eo;have hj3:M3[jl]? = some (.lst (ps.map tI)):=nw3.get hj2 j2 j1;have e5:=zI8 (k:=zBu) (lo hj2) (zT0 ex) (zD2 (xs:=CL) (ys:=[d]) rfl rfl (by rw [List.length_singleton]; omega));have e6:=zI8 (k:=zBu) e5 (hi1 hj3) (zD2 (xs:=CL ++ [d]) (ys:=C1) rfl rfl (by rw [zVE,List.length_singleton]; omega));refine out e6 ⟨zCF (by simp; omega) fun x hd=>?_,?_,nw2.trans nw3⟩
 ·rcases zVO.mp hd with z | z
  ·rcases zVO.mp z with y | y
   ·exact vp x (cl.2 x y)
   ·rw [zVQ] at y; subst y; exact vd
  ·exact vp x (c1.2 x z)
 ·show (CL ++ [d] ++ C1).length <= 2000;simp; omega
theorem zN5 {M:Mem} {n k:Nat} (h:Gen M n k) {many:Int} (m0:0 <= many) (m1:many <= 1000):Ok (zA4 [.ref n,.int many] M) fun d M'=>∃ (j:Nat) (c:List Int),d = .ref j /\ M'[j]? = some (.lst (c.map D.int)) /\ Col many c /\ M.length <= j /\ Nw M M' n k:=by
 by_cases h0:0 < many
 ·refine Ok.mono (zKg h h0 m1) ?_;rintro d M' ⟨j,c,h1,h2,h3,h4,h5,_⟩;exact ⟨j,c,h1,h2,h3,h4,h5⟩
 ·obtain rfl:many = 0:=by omega
  unfold zA4;rw [zAT];unfold zDF;show OkS (zX _ _ [some (.ref n),some (.int 0),none,none] M) _;rw [zT,zk];refine zJX.mpr (zCl.mpr ⟨zAP (by simp),zAO ?_⟩);rw [zd,zT,zA8];have nw1:=h.lst [] rfl;have e1:(M ++ [MO.lst ([]:List D)])[M.length]? = some (.lst []):=zy _ _;generalize M ++ [MO.lst ([]:List D)] = M1 at nw1 e1;show ∃ xs gd M2,zAM _ [some (.ref n),some (.int 0),some (.ref M.length),none] M1 = some (xs,gd,M2) /\ _;refine ⟨_,_,_,zBA rfl (by omega) (by omega),?_⟩;refine zEe (n:=0) (I:=fun i σ M'=>σ = [some (.ref n),some (.int 0),some (.ref M.length),none] /\ M' = M1) (fun i σ M' hi _=>by omega) ?_ _ _ ⟨rfl,rfl⟩;rintro σ M' ⟨rfl,rfl⟩;rw [zd];exact zAJ (d:=.ref M.length) rfl ⟨M.length,[],rfl,e1,⟨rfl,fun _ h=>by cases h⟩,zU4 _,nw1⟩
theorem zOT {zA:List (List Int)} {l:Nat} (m:IsM zA l):Shn zA l (.tup ((zFO zA l).map tI)):=by
 have am:∀ p,p ∈ zFO zA l ↔ p ∈ ze (zR zA) /\ p ∉ zG5 zA l One:=fun p=>by
  unfold zFO;rw [List.mem_filter,zWB]
 refine ⟨_,rfl,fun p hp=>((am p).mp hp).1,(zJx (zKV zA)).filter _,fun p hp x x0 x1=>?_⟩;obtain ⟨h1,h2⟩:=(am p).mp hp;obtain ⟨a,b,rfl,ha,hb,hlt⟩:=zAB.mp h1;have ha:=zq.mp ha;have hb:=zq.mp hb;have no:∀ k,¬ Rch zA l One (setR zA [a,b] x) k:=fun k hk=>by
  obtain ⟨n,_,hd⟩:=zHj _ (zFc.mpr ⟨x,⟨x0,x1⟩,hk⟩);cases n with
  | zero=>exact absurd (zF4.mp hd) (by simp [One])
  | succ n=>exact h2 (zGC.mpr ⟨h1,n,hd⟩)
 obtain ⟨p0,p1⟩:=m.step ha.1 ha.2 x0 x1;obtain ⟨q0,q1⟩:=m.step hb.1 hb.2 x0 x1;have hs:setR zA [a,b] x = ris [zAG zA a x,zAG zA b x]:=rfl;by_cases hpq:zAG zA a x = zAG zA b x
 ·have e2:setR zA [a,b] x = [zAG zA a x]:=by rw [hs,<- hpq]; exact (zJ6 fun x=>by simp).trans (zLg (by simp))
  exact absurd (zF4.mpr (show One (setR zA [a,b] x) by rw [e2]; rfl)).1 (no 0)
 ·rw [am];refine ⟨by rw [hs,<- zIl hpq]; exact zIj p0 p1 q0 q1 hpq,fun z=>?_⟩;obtain ⟨_,n,hd⟩:=zGC.mp z;exact no _ hd.1
theorem zOm (ns:List Int) (h:ns.length <= 63):∃ M',zGW [.ref 0] [.fro (ns.map D.int)] = some (.bl true,M'):=by
 suffices hh:Ok (zGW [.ref 0] [.fro (ns.map D.int)]) fun d _=>d = .bl true by
  obtain ⟨d,M',e,rfl⟩:=hh;exact ⟨M',e⟩
 unfold zGW;rw [zAT];unfold zOa;refine zNY (τ:=[none,none,none,none,none,none]) (by decide) (by decide) (by decide) h fun zA l M2 m hr1 hr2 hr3 hl g2 e02=>?_;have hR:zA.length <= 26:=by omega
 have hR2:2 <= zA.length:=by omega
 have l0:=m.l0;have eL:zAj (zF (toD (fC .non)) (zF (toD (fC (.int 0))) (zF (toD (fC (.int 1))) (zF (toD (fC (.bl true))) (zF (toD (fC (.str ""))) (zF (toD (fC (.str "told"))) (zF (toD (zAj zM)) (zF (toD (zAm zM)) (zF (toD zIA) (zF (toD (zAm (zF (toD (zAm zM)) zM))) (zF (toD (zAm (zF (toD (fC .non)) zM))) (zF (toD (zAm (zF (toD (fC (.int 0))) (zF (toD (fC (.int 1))) zM)))) (zF (toD (zAm (zF (toD (zAm (zF (toD (fC (.int 0))) (zF (toD (fC (.int 0))) zM)))) zM))) (zF (toD (zAj (zF (toD (zAm (zF (toD (fC (.int 0))) (zF (toD (fC (.int 1))) zM)))) zM))) (zF (toD (zAm (zF (toD (fC (.str "ab"))) zM))) zM))))))))))))))) [some (.ref 0),some (.ref 2),some (mD zA),none,none,none,none,none,none] M2 = some (.fl [.non,.int 0,.int 1,.bl true,.str "", .str "told", .ref M2.length,.tup [],.ref (M2 ++ [MO.lst []]).length,.tup [.tup []],.tup [.non],tI [0,1],.tup [tI [0,0]],.ref (M2 ++ [MO.lst []] ++ [MO.dict []]).length,.tup [.str "ab"]],M2 ++ [MO.lst []] ++ [MO.dict []] ++ [MO.lst [tI [0,1]]]) :=
  zIR (aC' (zCG (d:=.non) rfl) (aC' (zCG (d:=.int 0) rfl) (aC' (zCG (d:=.int 1) rfl) (aC' (zCG (d:=.bl true) rfl) (aC' (zCG (d:=.str "") rfl) (aC' (zCG (d:=.str "told") rfl) (aC' (zKM (zIR rfl (by simp))) (aC' (zCG (zCy rfl (by simp))) (aC' (zLl (f:=zIA) rfl) (aC' (zCG (zCy (zh (d:=.tup []) (zCy rfl (by simp))) (by simp))) (aC' (zCG (zCy (zh (d:=.non) rfl) (by simp))) (aC' (zCG (zCy (zj (d:=.int 0) rfl (zh (d:=.int 1) rfl)) (by simp))) (aC' (zCG (zCy (zh (d:=tI [0,0]) (zCy (zj (d:=.int 0) rfl (zh (d:=.int 0) rfl)) (by simp))) (by simp))) (aC' (zKM (zIR (zh (d:=tI [0,1]) (zCy (zj (d:=.int 0) rfl (zh (d:=.int 1) rfl)) (by simp))) (by simp))) (aC' (zCG (zCy (zh (d:=.str "ab") rfl) (by simp))) rfl))))))))))))))) (by simp)
 rw [zT,zA8];refine ⟨_,_,_,zMl eL,?_⟩;have nw3:Nw M2 (M2 ++ [MO.lst []] ++ [MO.dict []] ++ [MO.lst [tI [0,1]]]) 2 1:=by
  have n1:=g2.lst [] rfl;have n2:Nw M2 (M2 ++ [MO.lst []] ++ [MO.dict []]) 2 1:=⟨n1.gen.app fun u hu=>by rw [zVQ] at hu; subst hu; rfl,by simp,fun j hj a b=>by rw [zV4,zU5 hj]⟩;exact n2.trans (n2.gen.lst _ (zCR _ [[0,1]]))
 have k0:(M2 ++ [MO.lst []] ++ [MO.dict []] ++ [MO.lst [tI [0,1]]])[M2.length]? = some (.lst []):=by simp
 have k1:(M2 ++ [MO.lst []] ++ [MO.dict []] ++ [MO.lst [tI [0,1]]])[(M2 ++ [MO.lst []]).length]? = some (.dict []):=by simp
 have k2:(M2 ++ [MO.lst []] ++ [MO.dict []] ++ [MO.lst [tI [0,1]]])[(M2 ++ [MO.lst []] ++ [MO.dict []]).length]? = some (.lst [tI [0,1]]):=zy _ _;generalize M2 ++ [MO.lst []] ++ [MO.dict []] ++ [MO.lst [tI [0,1]]] = M3 at nw3 k0 k1 k2 eL ⊢;generalize (M2 ++ [MO.lst []]).length = j1 at k1 eL ⊢;generalize (M2 ++ [MO.lst []] ++ [MO.dict []]).length = j2 at k2 eL ⊢;generalize M2.length = j0 at k0 eL ⊢;have vs:∀ d ∈ [D.non,.int 0,.int 1,.bl true,.str "", .str "told", .ref j0,.tup [],.ref j1,.tup [.tup []],.tup [.non],tI [0,1],.tup [tI [0,0]],.ref j2,.tup [.str "ab"]],Vd M3 d /\ zKw d <= 2000:=by
  intro d hd;simp only [zVA,zVT,zWJ] at hd;rcases hd with rfl | rfl | rfl | rfl | rfl | rfl | rfl | rfl | rfl | rfl | rfl | rfl | rfl | rfl | rfl
  ·exact ⟨by unfold Vd; trivial,by decide⟩
  ·exact ⟨by unfold Vd; trivial,by decide⟩
  ·exact ⟨by unfold Vd; trivial,by decide⟩
  ·exact ⟨by unfold Vd; trivial,by decide⟩
  ·exact ⟨by unfold Vd; trivial,zVk _⟩
  ·exact ⟨by unfold Vd; trivial,zVk _⟩
  ·exact ⟨zKB k0,zVk _⟩
  ·exact ⟨zCF (by simp) (by simp),by decide⟩
  ·refine ⟨?_,zVk _⟩;unfold Vd;refine ⟨"dict", ?_,.inr rfl⟩;unfold zG8;dsimp only;rw [k1]
  ·exact ⟨zCF (by simp) fun d hd=>by rw [zVQ] at hd; subst hd; exact zCF (by simp) (by simp),by decide⟩
  ·exact ⟨zCF (by simp) (by simp [Vd]),by decide⟩
  ·exact ⟨zCS (by simp),by decide⟩
  ·exact ⟨zCF (by simp) fun d hd=>by rw [zVQ] at hd; subst hd; exact zCS (by simp),by decide⟩
  ·exact ⟨zKB k2,zVk _⟩
  ·exact ⟨zCF (by simp) (by simp [Vd]),by decide⟩
 clear eL;refine zBi (I:=fun r σ M'=>(∀ d ∈ r,Vd M3 d /\ zKw d <= 2000) /\ (∃ y3,σ = [some (.ref 0),some (.ref 2),some (mD zA),y3,none,none,none,none,none]) /\ M' = M3) ?_ ?_ _ _ _ ⟨vs,⟨_,rfl⟩,rfl⟩
 ·rintro x r σ M' ⟨hv,⟨y3,rfl⟩,rfl⟩;refine ⟨zAl,_,rfl,?_⟩;obtain ⟨v1,v2⟩:=hv x zVC;exact zDc ((zCA (k:=true) (z0 (zj (d:=mD zA) rfl (zh (d:=x) rfl)) (zKR m hR (by omega) nw3.gen.wf v1 v2))).trans rfl) ⟨fun d hd=>hv d (zVB _ hd),⟨_,rfl⟩,rfl⟩
 rintro σ M' ⟨_,⟨y3,rfl⟩,rfl⟩;refine ⟨zAl,?_⟩;rw [zd];have g3:=nw3.gen;have e03:M'[0]? = some (.fro (ns.map D.int)):=nw3.get e02 (by omega) (by omega);clear vs k0 k1 k2 nw3 e02 g2;refine zDU (z0 (zh (f:=zD 2) (d:=mD zA) rfl) (zOu m hR (by omega))) ?_;have shn:=zOT m;have hal:(zFO zA l).length <= 676:=zVP (List.length_filter_le _ _) (zDa hR);have amem:∀ p ∈ zFO zA l,p ∈ ze (zR zA):=fun p hp=>(List.mem_filter.mp hp).1;generalize zFO zA l = A at shn hal amem ⊢;show OkS (zX _ _ [some (.ref 0),some (.ref 2),some (mD zA),y3,some (.tup (A.map tI)),none,none,none,none] M') _;rw [zT,zA8];obtain ⟨c,ec,lc⟩:=zTI (σ:=[some (.ref 0),some (.ref 2),some (mD zA),y3,some (.tup (A.map tI)),none,none,none,none]) (i:=10) (j:=0) rfl rfl e03;have er:=zf (k:=zAe) (f:=fC (.int 3)) (r:=some (.dat (.int (3 + ((c.map D.int).length:Int))),M')) rfl (zB8 ec zDz) rfl;refine ⟨_,_,_,zBA er (by omega) (by rw [zU7]; omega),?_⟩;refine zEe (n:=(3 + ((c.map D.int).length:Int)).toNat) (I:=fun i σ M'=>(∃ y5 y6 y7 y8,σ = [some (.ref 0),some (.ref 2),some (mD zA),y3,some (.tup (A.map tI)),y5,y6,y7,y8]) /\ Gen M' 2 1) ?_ ?_ _ _ ⟨⟨_,_,_,_,rfl⟩,g3⟩
 ·rintro i σ B hi ⟨⟨y5,y6,y7,y8,rfl⟩,g⟩;refine ⟨_,rfl,?_⟩;show OkS (zX _ _ [some (.ref 0),some (.ref 2),some (mD zA),y3,some (.tup (A.map tI)),some (.int (i:Int)),y6,y7,y8] B) _;rw [zT,zk];refine zK (zM3 (f:=zD 4) rfl (zAr (xs:=A.map tI))) (zAO ?_);rw [zd];show OkS (zX _ _ [some (.ref 0),some (.ref 2),some (mD zA),y3,some (.tup (A.map tI)),some (.int (i:Int)),some (.ref B.length),y7,y8] (B ++ [MO.lst (A.map tI)])) _;have nw1:=g.lst (A.map tI) (zCR _ _);have e1:(B ++ [MO.lst (A.map tI)])[B.length]? = some (.lst (A.map tI)):=zy _ _;obtain ⟨hb2,hb1⟩:=g.lt;generalize B ++ [MO.lst (A.map tI)] = B1 at nw1 e1 ⊢;generalize hjb:B.length = jb at e1 hb2 hb1 ⊢;rw [zT];refine OkS.mono (P:=fun o σ' C=>o = .nx /\ ∃ (j:Nat) (ps:List (List Int)),σ' = [some (.ref 0),some (.ref 2),some (mD zA),y3,some (.tup (A.map tI)),some (.int (i:Int)),some (.ref j),y7,y8] /\ Gen C 2 1 /\ C[j]? = some (.lst (ps.map tI)) /\ j ≠ 2 /\ j ≠ 1 /\ ps.length <= 676 /\ ∀ p ∈ ps,p ∈ ze (zR zA)) ?_ ?_
  ·rw [zBV];refine zKD.mpr (zAi.mpr (zAU (m:=2) nw1.gen rfl rfl (by omega) (by omega) fun t D1 t0 t1 nx1=>zK (a:=.dat (.int 0)) (M:=D1) rfl (zLi.mpr (zEV.mpr ?_))));by_cases ht:t = 0
   ·rw [zV6 ht,zVD rfl,zk];refine zCf.mpr (zK (zj (d:=.ref 2) rfl (zh (d:=mD zA) rfl)) (Ok.mono (zRZ m hR hR2 (by omega) nx1.gen) ?_));rintro d D2 ⟨j,ps,rfl,hj,ej,hz,hp,nw2⟩;rw [zV];have:=nx1.len;have:=nw1.len;exact ⟨rfl,j,ps,rfl,nw2.gen,ej,by omega,by omega,hz,hp⟩
   ·rw [zVX ht,zVG (by decide),zBM];exact ⟨rfl,jb,A,rfl,nx1.gen,(nx1.fr jb (by omega) (by omega)).trans e1,by omega,by omega,hal,amem⟩
  rintro o σ' C ⟨rfl,j,ps,rfl,gC,ej,j2,j1,hz,hp⟩;rw [zd];clear e1 nw1 g;have el:=zB8 (f:=zD 6) (σ:=[some (.ref 0),some (.ref 2),some (mD zA),y3,some (.tup (A.map tI)),some (.int (i:Int)),some (.ref j),y7,y8]) (M:=C) rfl (zAA ej);rw [zU7] at el;obtain ⟨d,C2,eo,jo,c,rfl,ejo,col,hjo,nwo⟩:=zN5 gC (many:=(ps.length:Int)) (by omega) (by omega);have ei:=zJw (zj (f:=zD 1) (d:=.ref 2) rfl (zh el)) eo ejo;clear eo;have ej2:C2[j]? = some (.lst (ps.map tI)):=nwo.get ej j2 j1;have hcl:=col.1;have ef:=zGh (own:=[7]) (g:=gN 7) (tc:=zAE) (te:=fOp kIx (zD 6) (zD 7)) c D.int (fun x=>tI (ps.getD x.toNat [])) (fun _=>true) ei (.inl ejo) (by omega) (fun x hx=>by
   obtain ⟨x0,x1⟩:=col.2 x hx;have hxl:x.toNat < ps.length:=by omega
   refine ⟨[some (.ref 0),some (.ref 2),some (mD zA),y3,some (.tup (A.map tI)),some (.int (i:Int)),some (.ref j),some (.int x),y8],rfl,rfl,fun _=>zf (x:=.dat (.ref j)) (y:=.dat (.int x)) rfl rfl (zCX (zAA ej2) (zFC x0 ?_))⟩;rw [zVL,zU2 hxl,zU3,zU2 hxl]; rfl)
  have hft:(c.filter fun _=>true).map (fun x=>tI (ps.getD x.toNat [])) = (c.map fun x=>ps.getD x.toNat []).map tI:=by
   rw [List.filter_eq_self.mpr fun _ _=>rfl,zVM]; rfl
  rw [hft] at ef;have hp2:∀ p ∈ c.map fun x=>ps.getD x.toNat [],p ∈ ze (zR zA):=fun p hpm=>by
   obtain ⟨x,hx,rfl⟩:=zVF.mp hpm;obtain ⟨x0,x1⟩:=col.2 x hx;have hxl:x.toNat < ps.length:=by omega
   rw [zU3,zU2 hxl];exact hp _ (zVW hxl)
  have hz2:(c.map fun x=>ps.getD x.toNat []).length <= 676:=by rw [zU7]; omega
  generalize (c.map fun x=>ps.getD x.toNat []) = qs at ef hp2 hz2;rw [zT,zk];refine zK ef (zAO ?_);rw [zd];show OkS (zX _ _ [some (.ref 0),some (.ref 2),some (mD zA),y3,some (.tup (A.map tI)),some (.int (i:Int)),some (.ref C2.length),y7,y8] (C2 ++ [MO.lst (qs.map tI)])) _;have g3:=(nwo.gen.lst (qs.map tI) (zCR _ _)).gen;have e3:(C2 ++ [MO.lst (qs.map tI)])[C2.length]? = some (.lst (qs.map tI)):=zy _ _;obtain ⟨c2l,c1l⟩:=nwo.gen.lt;clear ef ei el ej2;generalize C2 ++ [MO.lst (qs.map tI)] = C3 at g3 e3 ⊢;generalize C2.length = jq at e3 c2l c1l ⊢;refine zDU (zF0 (f:=zD 6) rfl (zAA e3)) ?_;show OkS (zX _ _ [some (.ref 0),some (.ref 2),some (mD zA),y3,some (.tup (A.map tI)),some (.int (i:Int)),some (.ref jq),y7,some (.tup (qs.map tI))] C3) _;rw [zT];have vq:∀ M:Mem,Vd M (.tup (qs.map tI)):=fun M=>zCF (by rw [zU7]; omega) (zFs hp2);have lq:zKw (.tup (qs.map tI)) <= 2000:=by show (qs.map tI).length <= 2000; rw [zU7]; omega
  refine OkS.mono (P:=fun o σ' C=>o = .nx /\ ∃ d:D,σ' = [some (.ref 0),some (.ref 2),some (mD zA),y3,some (.tup (A.map tI)),some (.int (i:Int)),some (.ref jq),y7,some d] /\ Gen C 2 1 /\ Vd C d /\ zKw d <= 2000) ?_ ?_
  ·have en:tst (fOp kNe (zD 6) (zAj zM)) [some (.ref 0),some (.ref 2),some (mD zA),y3,some (.tup (A.map tI)),some (.int (i:Int)),some (.ref jq),y7,some (.tup (qs.map tI))] C3 = some (!(qs.map tI).isEmpty,C3) :=
    zBI (zf (x:=.dat (.ref jq)) (y:=.fl []) rfl (zIR rfl (by simp)) (zg ((zMt (zBY e3) (fun d hd=>by cases hd; rfl)).mpr ⟨rfl,rfl⟩)))
   cases hq:qs with
   | nil=>
    rw [hq] at en;rw [<- hq];exact zDc (zQt en) ⟨rfl,_,rfl,g3,vq _,lq⟩
   | cons q0 qr=>
    rw [<- hq];have hne:(!(qs.map tI).isEmpty) = true:=by rw [hq]; rfl
    have q0l:0 < qs.length:=by rw [hq]; simp
    rw [hne] at en;obtain ⟨d4,C4,e4,⟨t,rfl,t0,t1⟩,nx4⟩:=zF2 g3 (m:=3) (by omega) (by omega);have eg:tst (fOp kGt (zb zZ (zF (toD (zD 1)) (zF (toD (fC (.int 3))) zM))) (fC (.int 0))) [some (.ref 0),some (.ref 2),some (mD zA),y3,some (.tup (A.map tI)),some (.int (i:Int)),some (.ref jq),y7,some (.tup (qs.map tI))] C3 = some (decide (0 < t),C4) :=
     zBI (zI8 (x:=.dat (.int t)) (y:=.dat (.int 0)) (z0 (zj (d:=.ref 2) rfl (zh (d:=.int 3) rfl)) e4) rfl (zg (zUd.mpr ⟨rfl,rfl⟩)))
    clear e4;rw [zBV];refine zK (show zBo _ _ _ C3 = some (decide (0 < t),C4) by unfold zBo; rw [en]; exact eg) ?_;have e4:C4[jq]? = some (.lst (qs.map tI)):=(nx4.fr jq (by omega) (by omega)).trans e3;by_cases ht:0 < t
    ·rw [zV6 ht,zVD rfl,zk];refine zCf.mpr (zK (zj (d:=.ref 2) rfl (zj (d:=mD zA) rfl (zh (d:=.ref jq) rfl))) (Ok.mono (zNM m hR hR2 nx4.gen e4 (by omega) (by omega) hp2 q0l hz2) ?_));rintro d D2 ⟨vd,ld,nw2⟩;rw [zV];exact ⟨rfl,d,rfl,nw2.gen,vd,ld⟩
    ·rw [zVX ht,zVG (by decide),zBM];exact ⟨rfl,_,rfl,nx4.gen,vq _,lq⟩
  rintro o σ' C5 ⟨rfl,d,rfl,g5,vd,ld⟩;rw [zd];exact zDc ((zCA (k:=true) (z0 (zj (d:=mD zA) rfl (zh (d:=d) rfl)) (zKR m hR (by omega) g5.wf vd ld))).trans rfl) ⟨⟨_,_,_,_,rfl⟩,g5⟩
 ·rintro σ B ⟨⟨y5,y6,y7,y8,rfl⟩,g⟩;have es:=zEi m hR (show l <= 12 by omega) (d:=.tup (A.map tI)) g.wf (zCF (by rw [zU7]; omega) (zFs amem)) (by show (A.map tI).length <= 2000; rw [zU7]; omega);rw [@zV6 _ (Classical.propDecidable _) shn] at es;exact zAJ (d:=.bl true) (zf (x:=.dat (.bl true)) (y:=.dat (.bl true)) (z0 (zj (d:=mD zA) rfl (zh (d:=.tup (A.map tI)) rfl)) es) rfl rfl) rfl
end Lac
set_option maxHeartbeats 4000000
namespace Lac
open PySem PySem.Spec PyProof.Rows L2 L3 Law
-- the text by places
def top (i:Nat):Stmt:=PySem.Challenge.pw_bringhome_k25_pairs_apart_shown.main.body.getD i (.Pass ⟨0,0,0,0⟩)
abbrev zFM:Stmt:=top 1
abbrev zE9:Stmt:=top 2
abbrev zBa:Stmt:=top 3
abbrev zFr:Stmt:=top 4
abbrev zEf:Stmt:=top 5
abbrev zEl:Stmt:=top 7
abbrev zGL:Stmt:=top 9
abbrev zBF:Stmt:=top 10
abbrev zDo:Stmt:=top 12
abbrev zEQ:Stmt:=top 13
abbrev zCn:Stmt:=top 14
abbrev zEr:Stmt:=top 15
abbrev zGu:Stmt:=top 16
abbrev zDC:Stmt:=top 18
abbrev zFD:Stmt:=top 19
abbrev zEg:Stmt:=top 20
abbrev zAX:Stmt:=top 21
abbrev zBf:Stmt:=top 22
abbrev zDG:Stmt:=top 23
abbrev zDq:Stmt:=top 24
abbrev zEX:Stmt:=top 25
abbrev zCL:Stmt:=top 26
abbrev zEU:Stmt:=top 27
abbrev zFI:Stmt:=top 28
abbrev zF6:Stmt:=top 29
abbrev zDt:Stmt:=top 30
abbrev zEP:Stmt:=top 31
abbrev zMV:Stmt:=top 32
structure Txt (K:PySem.W.Frag) (mg:Str -> Option Value) where
  d_is_whole:Df K mg "is_whole" zFM ["thing"]
  d_is_below:Df K mg "is_below" zE9 ["thing", "many"]
  d_is_tuple_below:Df K mg "is_tuple_below" zBa ["thing", "many"]
  d_is_set:Df K mg "is_set" zFr ["machine", "thing"]
  d_all_rooms:Df K mg "all_rooms" zEf ["machine"]
  d_stepped:Df K mg "stepped" zEl ["machine", "rooms", "letter"]
  d_is_pair:Df K mg "is_pair" zGL ["machine", "thing"]
  d_shows_apart:Df K mg "shows_apart" zBF ["machine", "told"]
  d_pairs_of:Df K mg "pairs_of" zDo ["rooms"]
  d_ways_back:Df K mg "ways_back" zEQ ["machine"]
  d_lengths_to:Df K mg "lengths_to" zCn ["machine", "goals"]
  d_lengths:Df K mg "lengths" zEr ["machine"]
  d_apart:Df K mg "apart" zGu ["machine"]
  d_law_begin:Df K mg "_law_begin" zDC ["_law_script"]
  d_law_next:Df K mg "_law_next" zFD ["_law_state", "_law_many"]
  d_law_order:Df K mg "_law_order" zEg ["_law_state", "_law_many"]
  d_law_column:Df K mg "_law_column" zAX ["_law_state", "_law_family", "_law_rooms", "_law_letter"]
  d_law_machine:Df K mg "_law_machine" zBf ["_law_state", "_law_rooms", "_law_letters"]
  d_law_pairs:Df K mg "_law_pairs" zDG ["_law_rooms"]
  d_law_behind:Df K mg "_law_behind" zDq ["_law_machine_here", "_law_pair", "_law_letter"]
  d_law_whole:Df K mg "_law_whole" zEX ["_law_thing"]
  d_law_is_pair:Df K mg "_law_is_pair" zCL ["_law_machine_here", "_law_thing"]
  d_law_shown:Df K mg "_law_shown" zEU ["_law_machine_here", "_law_told"]
  d_law_made:Df K mg "_law_made" zFI ["_law_state", "_law_machine_here"]
  d_law_odd:Df K mg "_law_odd" zF6 ["_law_state", "_law_machine_here", "_law_pair"]
  d_law_spoilt:Df K mg "_law_spoilt" zDt ["_law_state", "_law_machine_here", "_law_pairs_here"]
  d_law_right:Df K mg "_law_right" zEP ["_law_machine_here", "_law_thing"]
  d_law:Df K mg "law" zMV ["_law_script"]
  z_isinstance:mg "isinstance" = none
  z_int:mg "int" = none
  z_bool:mg "bool" = none
  z_tuple:mg "tuple" = none
  z_all:mg "all" = none
  z_len:mg "len" = none
  z_zip:mg "zip" = none
  z_range:mg "range" = none
  z_sorted:mg "sorted" = none
  z_abs:mg "abs" = none
  z_min:mg "min" = none
  z_max:mg "max" = none
  z_list:mg "list" = none
  z_str:mg "str" = none
  kinds:Kinds K
section
variable {P:Program} {w:World} {K:PySem.W.Frag} {mg:Str -> Option Value} {base:Heap}
abbrev zL2:List Str:=["thing"]
theorem zLO:FnScope zL2 ["thing"] (zP zFM):=⟨rfl,rfl,rfl,by decide +kernel,rfl,by decide +kernel,by decide +kernel⟩
theorem zKY (T:Txt K mg):Od P w base 1 T.d_is_whole zC3:=by
  unfold zC3;exact zAS (n:=1) T.d_is_whole.F zLO rfl (fun cdv A outer s H E hr=>by
    unfold zE8;exact (zW (zx (zGQ (zFf T.kinds (by decide) rfl T.z_isinstance rfl T.z_int (by rfl) (by decide) (by decide) (zG (pv 0)) (zC rfl) (zC rfl) (zO rfl)) (zGG (zOi (zFf T.kinds (by decide) rfl T.z_isinstance rfl T.z_bool (by rfl) (by decide) (by decide) (zG (pv 0)) (zC rfl) (zC rfl) (zO rfl))))))))
abbrev zK1:List Str:=["machine"]
theorem zJU:FnScope zK1 ["machine"] (zP zEf):=⟨rfl,rfl,rfl,by decide +kernel,rfl,by decide +kernel,by decide +kernel⟩
theorem zFo (T:Txt K mg):Od P w base 1 T.d_all_rooms zBW:=by
  unfold zBW;exact zAS (n:=1) T.d_all_rooms.F zJU rfl (fun cdv A outer s H E hr=>by
    unfold zEG;exact (zW (zx (zSb rfl rfl T.z_tuple rfl T.z_range (zBL rfl T.z_len (zc (zG (pv 0)) zi (zC rfl)) (zC rfl) rfl) (zC rfl) rfl (zC rfl) rfl))))
abbrev zI7:List Str:=["machine", "rooms", "letter", "room"]
theorem zHp:FnScope zI7 ["machine", "rooms", "letter"] (zP zEl):=⟨rfl,rfl,rfl,by decide +kernel,rfl,by decide +kernel,by decide +kernel⟩
theorem zG2 (T:Txt K mg):Od P w base 1 T.d_stepped zBZ:=by
  unfold zBZ;exact zJZ (zAS (n:=3) T.d_stepped.F zHp rfl (fun cdv A outer s H E hr=>by
    unfold zF5;exact (zW (zx (zCg rfl T.z_tuple (zc (zRl rfl rfl T.z_sorted (zSD (zn (i:=3) (by decide)) (zr (sc:=zP zEl) (N:=zI7) rfl rfl rfl (by decide +kernel) (by decide +kernel)) rfl (zAx (zG (pv 1))) ⟨fun _ _ _ _ _=>(zAH (i:=3) zHp.nd rfl),fun _ _ _ _ _=>zAk,fun _ _ _ _ _=>(zA2 (zA2 (zG (pv 0)) (zG (pv 3))) (zG (pv 2)))⟩) (zC rfl) rfl) zi (zC rfl)) (zC rfl) rfl)))))
abbrev zIC:List Str:=["rooms", "one", "other"]
theorem zEN:FnScope zIC ["rooms"] (zP zDo):=⟨rfl,rfl,rfl,by decide +kernel,rfl,by decide +kernel,by decide +kernel⟩
theorem zGf (T:Txt K mg):Od P w base 1 T.d_pairs_of zBU:=by
  unfold zBU;exact zAS (n:=1) T.d_pairs_of.F zEN rfl (fun cdv A outer s H E hr=>by
    unfold zFN;exact (zW (zx (zMf (by decide) (zn (i:=1) (by decide)) (zn (i:=2) (by decide)) (zr (sc:=zP zDo) (N:=zIC) rfl rfl rfl (by decide +kernel) (by decide +kernel)) rfl (zAx (zG (pv 0))) ⟨fun _ _ _ _ _=>(zAH (i:=1) zEN.nd rfl),fun _ _ _ _ _=>zAk,fun _ _ _ _ _=>(zAx (zG (pv 0))),fun _ _ _ _ _=>(zAH (i:=2) zEN.nd rfl),fun _ _ _ _ _=>(zL6 (zMi (zG (pv 1)) (zG (pv 2)))),fun _ _ _ _ _=>(zBD (zE (zI (zG (pv 1))) (zE (zI (zG (pv 2))) zJ (zC rfl)) (zC rfl))),fun _ _ _ _ _ _=>rfl⟩))))
abbrev zGY:List Str:=["_law_script", "_law_seed", "_law_cell"]
theorem zB5:FnScope zGY ["_law_script"] (zP zDC):=⟨rfl,rfl,rfl,by decide +kernel,rfl,by decide +kernel,by decide +kernel⟩
theorem zJc (T:Txt K mg):Od P w base 1 T.d_law_begin zBp:=by
  unfold zBp;exact zAS (n:=1) T.d_law_begin.F zB5 rfl (fun cdv A outer s H E hr=>by
    unfold zEH;exact (zN (zAy (i:=1) zB5.nd rfl (zA9 (zBL rfl T.z_len (zc (zG (pv 0)) zi (zC rfl)) (zC rfl) rfl) zU))
    (zN (zDE zAs zWR rfl (zAx (zBw (zG (pv 0)) zB1 (zB6 zU))) (zAH (i:=2) zB5.nd rfl) (zW (zAy (i:=1) zB5.nd rfl (zFi (zA9 (zA9 (zP1 (zG (pv 1)) zU) (zFi (zG (pv 2)) (zPu zU zU))) zU) zU))))
    (zW (zx (zBr (zE (zI (zBH (zn (i:=2) (by decide)) (zr (sc:=zP zDC) (N:=zGY) rfl rfl rfl (by decide +kernel) (by decide +kernel)) rfl (zAx (zBw (zG (pv 0)) zB1 (zB6 zU))) ⟨fun _ _ _ _ _=>(zAH (i:=2) zB5.nd rfl),fun _ _ _ _ _=>(zL6 (zTd (zR4 rfl T.z_abs (zc (zG (pv 2)) zi (zC rfl)) (zC rfl) rfl) (zPu zU zU))),fun _ _ _ _ _=>(zR4 rfl T.z_abs (zc (zG (pv 2)) zi (zC rfl)) (zC rfl) rfl)⟩)) (zE (zI (zG (pv 1))) zJ (zC rfl)) (zC rfl))))))))
abbrev zLY:List Str:=["_law_state", "_law_many", "_law_digit"]
theorem zGa:FnScope zLY ["_law_state", "_law_many"] (zP zFD):=⟨rfl,rfl,rfl,by decide +kernel,rfl,by decide +kernel,by decide +kernel⟩
theorem zp (T:Txt K mg):Od P w base 1 T.d_law_next zZ:=by
  unfold zZ;exact zAS (n:=2) T.d_law_next.F zGa rfl (fun cdv A outer s H E hr=>by
    unfold zFB;exact (zN (zJC 100 zWR (zIH (zHU (zMd hr.units0 (zA2 (zG (pv 0)) zU) (zBr zJ)) (zFz (zCU hr.units0 (zA2 (zA2 (zG (pv 0)) zU) zU) zU)))) (zW (zGA (zTT (zA2 (zG (pv 0)) zU) (zE (zI zU) zJ (zC rfl))))))
    (zN (zCb (zMd hr.units0 (zA2 (zG (pv 0)) zU) (zBr zJ)) (zN (zAy (i:=2) zGa.nd rfl (zFi (zA2 (zA2 (zG (pv 0)) zU) zU) (zG (pv 1))))
    (zN (zHd (zPD (zA2 (zA2 (zG (pv 0)) zU) zU) (zG (pv 1))) (zA2 (zG (pv 0)) zU) zU)
    (zW (zx (zG (pv 2)))))) zAa)
    (zN (zHd (zFi (zA9 (zP1 (zA2 (zG (pv 0)) zU) zU) zU) zU) (zG (pv 0)) zU)
    (zW (zx (zFi (zPD (zFi (zP1 (zA2 (zG (pv 0)) zU) (zA2 (zG (pv 0)) zU)) zU) zU) (zG (pv 1)))))))))
abbrev zGg:List Str:=["_law_rooms", "_law_found", "_law_k", "_law_other"]
theorem zCj:FnScope zGg ["_law_rooms"] (zP zDG):=⟨rfl,rfl,rfl,by decide +kernel,rfl,by decide +kernel,by decide +kernel⟩
theorem zFp (T:Txt K mg):Od P w base 1 T.d_law_pairs zBm:=by
  unfold zBm;exact zAS (n:=1) T.d_law_pairs.F zCj rfl (fun cdv A outer s H E hr=>by
    unfold zEb;exact (zN (zAy (i:=1) zCj.nd rfl (zBr zJ))
    (zN (zDE zAs zWR rfl (zAC rfl T.z_range (zE (zI (zBL rfl T.z_len (zc (zG (pv 0)) zi (zC rfl)) (zC rfl) rfl)) zJ (zC rfl)) (zH zL) (zAK rfl)) (zAH (i:=2) zCj.nd rfl) (zW (zGA (zPS (zG (pv 1)) (zE (zI (zBH (zn (i:=3) (by decide)) (zr (sc:=zP zDG) (N:=zGg) rfl rfl rfl (by decide +kernel) (by decide +kernel)) rfl (zAx (zBw (zG (pv 0)) (zB6 (zA9 (zG (pv 2)) zU)) zB1)) ⟨fun _ _ _ _ _=>(zAH (i:=3) zCj.nd rfl),fun _ _ _ _ _=>zAk,fun _ _ _ _ _=>(zBD (zE (zI (zA2 (zG (pv 0)) (zG (pv 2)))) (zE (zI (zG (pv 3))) zJ (zC rfl)) (zC rfl)))⟩)) zJ (zC rfl))))))
    (zW (zx (zG (pv 1)))))))
abbrev zJS:List Str:=["_law_machine_here", "_law_pair", "_law_letter", "_law_one", "_law_other"]
theorem zDR:FnScope zJS ["_law_machine_here", "_law_pair", "_law_letter"] (zP zDq):=⟨rfl,rfl,rfl,by decide +kernel,rfl,by decide +kernel,by decide +kernel⟩
theorem zE0 (T:Txt K mg):Od P w base 1 T.d_law_behind zA6:=by
  unfold zA6;exact zJZ (zAS (n:=3) T.d_law_behind.F zDR rfl (fun cdv A outer s H E hr=>by
    unfold zD3;exact (zN (zAy (i:=3) zDR.nd rfl (zA2 (zA2 (zG (pv 0)) (zA2 (zG (pv 1)) zU)) (zG (pv 2))))
    (zN (zAy (i:=4) zDR.nd rfl (zA2 (zA2 (zG (pv 0)) (zA2 (zG (pv 1)) zU)) (zG (pv 2))))
    (zW (zx (zBD (zE (zI (zSM rfl rfl T.z_min (zc (zG (pv 3)) (zc (zG (pv 4)) zi (zC rfl)) (zC rfl)) (zC rfl) (zO rfl))) (zE (zI (zSx rfl rfl T.z_max (zc (zG (pv 3)) (zc (zG (pv 4)) zi (zC rfl)) (zC rfl)) (zC rfl) (zO rfl))) zJ (zC rfl)) (zC rfl)))))))))
abbrev zLN:List Str:=["_law_thing"]
theorem zJt:FnScope zLN ["_law_thing"] (zP zEX):=⟨rfl,rfl,rfl,by decide +kernel,rfl,by decide +kernel,by decide +kernel⟩
theorem zJ9 (T:Txt K mg):Od P w base 1 T.d_law_whole zBq:=by
  unfold zBq;exact zAS (n:=1) T.d_law_whole.F zJt rfl (fun cdv A outer s H E hr=>by
    unfold zEj;exact (zW (zx (zGQ (zFf T.kinds (by decide) rfl T.z_isinstance rfl T.z_int (by rfl) (by decide) (by decide) (zG (pv 0)) (zC rfl) (zC rfl) (zO rfl)) (zGG (zOi (zFf T.kinds (by decide) rfl T.z_isinstance rfl T.z_bool (by rfl) (by decide) (by decide) (zG (pv 0)) (zC rfl) (zC rfl) (zO rfl))))))))
abbrev zL8:List Str:=["thing", "many"]
theorem zK0:FnScope zL8 ["thing", "many"] (zP zE9):=⟨rfl,rfl,rfl,by decide +kernel,rfl,by decide +kernel,by decide +kernel⟩
theorem zKz (T:Txt K mg):Od P w base 2 T.d_is_below zC6:=by
  unfold zC6;exact zAS (n:=2) T.d_is_below.F zK0 rfl (fun cdv A outer s H E hr=>by
    unfold zFH;exact (zW (zx (zGQ (zAb (zKY T) (hr.mono (by omega)) rfl (zE (zI (zG (pv 0))) zJ (zC rfl)) (zH zL) (by decide) (zC rfl) (zO rfl)) (zGG (zRJ (zC8 fun _ _ _ _=>zBS) (zC8 fun _ _ _ _=>zBS) zR5 zLI zU (zG (pv 0)) (zG (pv 1))))))))
abbrev zKl:List Str:=["machine", "sources", "pair", "letter", "goal"]
theorem zBy:FnScope zKl ["machine"] (zP zEQ):=⟨rfl,rfl,rfl,by decide +kernel,rfl,by decide +kernel,by decide +kernel⟩
theorem zJz (T:Txt K mg):Od P w base 2 T.d_ways_back zCa:=by
  unfold zCa;exact zAS (n:=1) T.d_ways_back.F zBy rfl (fun cdv A outer s H E hr=>by
    unfold zEd;exact (zN (zAy (i:=1) zBy.nd rfl zJs)
    (zN (zDE zAs zWR rfl (zAx (zAb (zGf T) (hr.mono (by omega)) rfl (zE (zI (zAb (zFo T) (hr.mono (by omega)) rfl (zE (zI (zG (pv 0))) zJ (zC rfl)) (zH zL) (by decide) (zC rfl) (zO rfl))) zJ (zC rfl)) (zH zL) (by decide) (zC rfl) (zO rfl))) (zAH (i:=2) zBy.nd rfl) (zW (zDE zAs zWR rfl (zAC rfl T.z_range (zE (zI (zBL rfl T.z_len (zc (zA2 (zG (pv 0)) zU) zi (zC rfl)) (zC rfl) rfl)) zJ (zC rfl)) (zH zL) (zAK rfl)) (zAH (i:=3) zBy.nd rfl) (zN (zAy (i:=4) zBy.nd rfl (zAb (zG2 T) (hr.mono (by omega)) rfl (zE (zI (zG (pv 0))) (zE (zI (zG (pv 2))) (zE (zI (zG (pv 3))) zJ (zC rfl)) (zC rfl)) (zC rfl)) (zH (zH (zH zL))) (by decide) (zC rfl) (zO rfl)))
    (zN (zCb (zDZ (zCY hr) (zG (pv 4)) (zG (pv 1))) (zW (zHH (zCY hr) (zBr zJ) (zG (pv 1)) (zG (pv 4)))) zAa)
    (zW (zGA (zHB (zPl (zCY hr) (zG (pv 1)) (zG (pv 4))) (zE (zI (zG (pv 2))) zJ (zC rfl))))))))))
    (zW (zx (zG (pv 1)))))))
abbrev zKh:List Str:=["_law_state", "_law_many", "_law_order_here", "_law_k"]
theorem zDu:FnScope zKh ["_law_state", "_law_many"] (zP zEg):=⟨rfl,rfl,rfl,by decide +kernel,rfl,by decide +kernel,by decide +kernel⟩
theorem zFe (T:Txt K mg):Od P w base 2 T.d_law_order zA4:=by
  unfold zA4;exact zAS (n:=2) T.d_law_order.F zDu rfl (fun cdv A outer s H E hr=>by
    unfold zDF;exact (zN (zAy (i:=2) zDu.nd rfl (zBr zJ))
    (zN (zDE zAs zWR rfl (zAC rfl T.z_range (zE (zI (zG (pv 1))) zJ (zC rfl)) (zH zL) (zAK rfl)) (zAH (i:=3) zDu.nd rfl) (zW (zGA (zPk (zG (pv 2)) (zE (zI (zAb (zp T) (hr.mono (by omega)) rfl (zE (zI (zG (pv 0))) (zE (zI (zA9 (zG (pv 3)) zU)) zJ (zC rfl)) (zC rfl)) (zH (zH zL)) (by decide) (zC rfl) (zO rfl))) (zE (zI (zG (pv 3))) zJ (zC rfl)) (zC rfl))))))
    (zW (zx (zG (pv 2)))))))
abbrev zEy:List Str:=["_law_machine_here", "_law_thing", "_law_one"]
theorem zER:FnScope zEy ["_law_machine_here", "_law_thing"] (zP zCL):=⟨rfl,rfl,rfl,by decide +kernel,rfl,by decide +kernel,by decide +kernel⟩
theorem zG6 (T:Txt K mg):Od P w base 2 T.d_law_is_pair zBh:=by
  unfold zBh;exact zAS (n:=2) T.d_law_is_pair.F zER rfl (fun cdv A outer s H E hr=>by
    unfold zDQ;exact (zN (zCb (zIH (zIi (zD5 (zDp (zFf T.kinds (by decide) rfl T.z_isinstance rfl T.z_tuple (by rfl) (by decide) (by decide) (zG (pv 1)) (zC rfl) (zC rfl) (zO rfl)))) (zIi (zMd hr.units0 (zBL rfl T.z_len (zc (zG (pv 1)) zi (zC rfl)) (zC rfl) rfl) zU) (zHO (zD5 (zDp (zLP rfl rfl T.z_all (zc (zBH (zn (i:=2) (by decide)) (zr (sc:=zP zCL) (N:=zEy) rfl rfl rfl (by decide +kernel) (by decide +kernel)) rfl (zAx (zG (pv 1))) ⟨fun _ _ _ _ _=>(zAH (i:=2) zER.nd rfl),fun _ _ _ _ _=>zAk,fun _ _ _ _ _=>(zAb (zJ9 T) (hr.mono (by omega)) rfl (zE (zI (zG (pv 2))) zJ (zC rfl)) (zH zL) (by decide) (zC rfl) (zO rfl))⟩) zi (zC rfl)) (zC rfl) rfl))))))) (zW (zx zED)) zAa)
    (zW (zx (zQb (zC8 fun _ _ _ _=>zBS) (zC8 fun _ _ _ _=>zBS) (zC8 fun _ _ _ _=>zBS) zR5 zLI zLI zU (zA2 (zG (pv 1)) zU) (zA2 (zG (pv 1)) zU) (zBL rfl T.z_len (zc (zG (pv 0)) zi (zC rfl)) (zC rfl) rfl))))))
abbrev zLW:List Str:=["_law_state", "_law_machine_here", "_law_pairs_here", "_law_known", "_law_k", "_law_found", "_law_at", "_law_letter", "_law_goal"]
theorem zAp:FnScope zLW ["_law_state", "_law_machine_here"] (zP zFI):=⟨rfl,rfl,rfl,by decide +kernel,rfl,by decide +kernel,by decide +kernel⟩
theorem zKs (T:Txt K mg):Od P w base 2 T.d_law_made zC7:=by
  unfold zC7;exact zAS (n:=2) T.d_law_made.F zAp rfl (fun cdv A outer s H E hr=>by
    unfold zFJ;exact (zN (zAy (i:=2) zAp.nd rfl (zAb (zFp T) (hr.mono (by omega)) rfl (zE (zI (zQM rfl rfl T.z_list rfl T.z_range (zBL rfl T.z_len (zc (zG (pv 1)) zi (zC rfl)) (zC rfl) rfl) (zC rfl) rfl (zC rfl) rfl)) zJ (zC rfl)) (zH zL) (by decide) (zC rfl) (zO rfl)))
    (zN (zAy (i:=3) zAp.nd rfl zJs)
    (zN (zDE zAs zWR rfl (zAC rfl T.z_range (zE (zI (zA9 zU (zAb (zp T) (hr.mono (by omega)) rfl (zE (zI (zG (pv 0))) (zE (zI zU) zJ (zC rfl)) (zC rfl)) (zH (zH zL)) (by decide) (zC rfl) (zO rfl)))) zJ (zC rfl)) (zH zL) (zAK rfl)) (zAH (i:=4) zAp.nd rfl) (zW (zHH (zCY hr) zED (zG (pv 3)) (zA2 (zG (pv 2)) (zAb (zp T) (hr.mono (by omega)) rfl (zE (zI (zG (pv 0))) (zE (zI (zBL rfl T.z_len (zc (zG (pv 2)) zi (zC rfl)) (zC rfl) rfl)) zJ (zC rfl)) (zC rfl)) (zH (zH zL)) (by decide) (zC rfl) (zO rfl))))))
    (zN (zAy (i:=5) zAp.nd rfl (zSd rfl rfl T.z_list (zc (zG (pv 3)) zi (zC rfl)) (zC rfl) rfl))
    (zN (zAy (i:=6) zAp.nd rfl zU)
    (zN (zJC 1000 zWR (zMi (zG (pv 6)) (zBL rfl T.z_len (zc (zG (pv 5)) zi (zC rfl)) (zC rfl) rfl)) (zN (zDE zAs zWR rfl (zAC rfl T.z_range (zE (zI (zBL rfl T.z_len (zc (zA2 (zG (pv 1)) zU) zi (zC rfl)) (zC rfl) rfl)) zJ (zC rfl)) (zH zL) (zAK rfl)) (zAH (i:=7) zAp.nd rfl) (zN (zAy (i:=8) zAp.nd rfl (zAb (zE0 T) (hr.mono (by omega)) rfl (zE (zI (zG (pv 1))) (zE (zI (zA2 (zG (pv 5)) (zG (pv 6)))) (zE (zI (zG (pv 7))) zJ (zC rfl)) (zC rfl)) (zC rfl)) (zH (zH (zH zL))) (by decide) (zC rfl) (zO rfl)))
    (zW (zCb (zIH (zHU (zMi (zA2 (zG (pv 8)) zU) (zA2 (zG (pv 8)) zU)) (zFz (zDZ (zCY hr) (zG (pv 8)) (zG (pv 3)))))) (zN (zHH (zCY hr) zED (zG (pv 3)) (zG (pv 8)))
    (zW (zGA (zHB (zG (pv 5)) (zE (zI (zG (pv 8))) zJ (zC rfl)))))) zAa))))
    (zW (zAy (i:=6) zAp.nd rfl (zA9 (zG (pv 6)) zU)))))
    (zW (zx (zG (pv 5)))))))))))
abbrev zNu:List Str:=["_law_state", "_law_machine_here", "_law_pair", "_law_one", "_law_other", "_law_some"]
theorem zCu:FnScope zNu ["_law_state", "_law_machine_here", "_law_pair"] (zP zF6):=⟨rfl,rfl,rfl,by decide +kernel,rfl,by decide +kernel,by decide +kernel⟩
theorem zLu (T:Txt K mg):Od P w base 2 T.d_law_odd zCq:=by
  unfold zCq;exact zAS (n:=3) T.d_law_odd.F zCu rfl (fun cdv A outer s H E hr=>by
    unfold zF9;exact (zN (zUP zOe (zG (pv 2)) (zPA rfl (zFx (zAH (i:=3) zCu.nd rfl) (zFx (zAH (i:=4) zCu.nd rfl) zMq))))
    (zN (zAy (i:=5) zCu.nd rfl (zBr (zE (zI (zBD (zE (zI (zG (pv 4))) (zE (zI (zG (pv 3))) zJ (zC rfl)) (zC rfl)))) (zE (zI (zBD (zE (zI (zG (pv 3))) (zE (zI (zG (pv 3))) zJ (zC rfl)) (zC rfl)))) (zE (zI (zBr (zE (zI (zG (pv 3))) (zE (zI (zG (pv 4))) zJ (zC rfl)) (zC rfl)))) (zE (zI (zBD (zE (zI (zG (pv 3))) zJ (zC rfl)))) (zE (zI (zBD (zE (zI (zG (pv 3))) (zE (zI (zG (pv 4))) (zE (zI (zG (pv 4))) zJ (zC rfl)) (zC rfl)) (zC rfl)))) (zE (zI (zBD (zE (zI (zG (pv 3))) (zE (zI (zBL rfl T.z_len (zc (zG (pv 1)) zi (zC rfl)) (zC rfl) rfl)) zJ (zC rfl)) (zC rfl)))) (zE (zI (zBD (zE (zI (zTo zU)) (zE (zI (zG (pv 4))) zJ (zC rfl)) (zC rfl)))) zJ (zC rfl)) (zC rfl)) (zC rfl)) (zC rfl)) (zC rfl)) (zC rfl)) (zC rfl))))
    (zN (zAy (i:=5) zCu.nd rfl (zEL (zG (pv 5)) (zBr (zE (zI (zBD (zE (zI (zG (pv 3))) (zE (zI (zSf rfl T.z_str (zc (zG (pv 4)) zi (zC rfl)) (zC rfl) rfl)) zJ (zC rfl)) (zC rfl)))) (zE (zI zQE) (zE (zI (zG (pv 3))) (zE (zI (zBD zJ)) (zE (zI (zBD (zE (zI zED) (zE (zI (zG (pv 4))) zJ (zC rfl)) (zC rfl)))) (zE (zI (zBD (zE (zI (zG (pv 3))) (zE (zI zED) zJ (zC rfl)) (zC rfl)))) (zE (zI (zBD (zE (zI (zG (pv 2))) (zE (zI (zG (pv 2))) zJ (zC rfl)) (zC rfl)))) (zE (zI (zBD (zE (zI (zG (pv 3))) (zE (zI (zPu zU zU)) zJ (zC rfl)) (zC rfl)))) zJ (zC rfl)) (zC rfl)) (zC rfl)) (zC rfl)) (zC rfl)) (zC rfl)) (zC rfl)) (zC rfl)))))
    (zW (zx (zA2 (zG (pv 5)) (zAb (zp T) (hr.mono (by omega)) rfl (zE (zI (zG (pv 0))) (zE (zI (zBL rfl T.z_len (zc (zG (pv 5)) zi (zC rfl)) (zC rfl) rfl)) zJ (zC rfl)) (zC rfl)) (zH (zH zL)) (by decide) (zC rfl) (zO rfl)))))))))
abbrev zDY:List Str:=["thing", "many", "part"]
theorem zDM:FnScope zDY ["thing", "many"] (zP zBa):=⟨rfl,rfl,rfl,by decide +kernel,rfl,by decide +kernel,by decide +kernel⟩
theorem zFS (T:Txt K mg):Od P w base 3 T.d_is_tuple_below zA0:=by
  unfold zA0;exact zAS (n:=2) T.d_is_tuple_below.F zDM rfl (fun cdv A outer s H E hr=>by
    unfold zCH;exact (zW (zx (zGQ (zFf T.kinds (by decide) rfl T.z_isinstance rfl T.z_tuple (by rfl) (by decide) (by decide) (zG (pv 0)) (zC rfl) (zC rfl) (zO rfl)) (zGG (zLP rfl rfl T.z_all (zc (zBH (zn (i:=2) (by decide)) (zr (sc:=zP zBa) (N:=zDY) rfl rfl rfl (by decide +kernel) (by decide +kernel)) rfl (zAx (zG (pv 0))) ⟨fun _ _ _ _ _=>(zAH (i:=2) zDM.nd rfl),fun _ _ _ _ _=>zAk,fun _ _ _ _ _=>(zAb (zKz T) (hr.mono (by omega)) rfl (zE (zI (zG (pv 2))) (zE (zI (zG (pv 1))) zJ (zC rfl)) (zC rfl)) (zH (zH zL)) (by decide) (zC rfl) (zO rfl))⟩) zi (zC rfl)) (zC rfl) rfl))))))
abbrev zF3:List Str:=["machine", "goals", "sources", "level", "found", "goal", "behind", "pair"]
theorem zAY:FnScope zF3 ["machine", "goals"] (zP zCn):=⟨rfl,rfl,rfl,by decide +kernel,rfl,by decide +kernel,by decide +kernel⟩
theorem zIE (T:Txt K mg):Od P w base 3 T.d_lengths_to zBx:=by
  unfold zBx;exact zAS (n:=2) T.d_lengths_to.F zAY rfl (fun cdv A outer s H E hr=>by
    unfold zDs;exact (zN (zAy (i:=2) zAY.nd rfl (zAb (zJz T) (hr.mono (by omega)) rfl (zE (zI (zG (pv 0))) zJ (zC rfl)) (zH zL) (by decide) (zC rfl) (zO rfl)))
    (zN (zAy (i:=3) zAY.nd rfl (zG (pv 1)))
    (zN (zMD (i:=4) (isT:=true) zAY.nd rfl (by first | exact Or.inl rfl | exact Or.inr rfl) (by first | exact .inl rfl | exact .inr rfl) rfl (zCY hr) (zn (i:=5) (by decide)) (zr (sc:=zP zCn) (N:=zF3) rfl rfl rfl (by decide +kernel) (by decide +kernel)) rfl (zAx (zG (pv 1))) ⟨fun _ _ _ _ _=>(zAH (i:=5) zAY.nd rfl),fun _ _ _ _ _=>zAk,fun _ _ _ _ _=>(zG (pv 5))⟩ (fun _ _ _ _ _=>zU))
    (zN (zJC 1000 zWR (zRq (zG (pv 3))) (zN (zAy (i:=6) zAY.nd rfl (zBr zJ))
    (zN (zDE zAs zWR rfl (zAx (zG (pv 3))) (zAH (i:=5) zAY.nd rfl) (zW (zDE zAs zWR rfl (zAx (zRA (zCY hr) (zG (pv 2)) (zG (pv 5)) (zBr zJ) ⟨rfl,rfl,rfl,rfl⟩)) (zAH (i:=7) zAY.nd rfl) (zW (zCb (zDZ (zCY hr) (zG (pv 7)) (zG (pv 4))) (zN (zHH (zCY hr) (zA9 (zPl (zCY hr) (zG (pv 4)) (zG (pv 5))) zU) (zG (pv 4)) (zG (pv 7)))
    (zW (zGA (zHB (zG (pv 6)) (zE (zI (zG (pv 7))) zJ (zC rfl)))))) zAa)))))
    (zW (zAy (i:=3) zAY.nd rfl (zG (pv 6)))))))
    (zW (zx (zG (pv 4)))))))))
abbrev zAt:List Str:=["_law_state", "_law_family", "_law_rooms", "_law_letter", "_law_room", "_law_half", "_law_ahead", "_law_far", "_law_order_here", "_law_goal"]
theorem zw:FnScope zAt ["_law_state", "_law_family", "_law_rooms", "_law_letter"] (zP zAX):=⟨rfl,rfl,rfl,by decide +kernel,rfl,by decide +kernel,by decide +kernel⟩
theorem zIG (T:Txt K mg):Od P w base 3 T.d_law_column zB0:=by
  unfold zB0;exact zAS (n:=4) T.d_law_column.F zw rfl (fun cdv A outer s H E hr=>by
    unfold zDy;exact (zN (zCb (zCU hr.units0 (zG (pv 1)) zU) (zW (zx (zBH (zn (i:=4) (by decide)) (zr (sc:=zP zAX) (N:=zAt) rfl rfl rfl (by decide +kernel) (by decide +kernel)) rfl (zAC rfl T.z_range (zE (zI (zG (pv 2))) zJ (zC rfl)) (zH zL) (zAK rfl)) ⟨fun _ _ _ _ _=>(zAH (i:=4) zw.nd rfl),fun _ _ _ _ _=>zAk,fun _ _ _ _ _=>(zAb (zp T) (hr.mono (by omega)) rfl (zE (zI (zG (pv 0))) (zE (zI (zG (pv 2))) zJ (zC rfl)) (zC rfl)) (zH (zH zL)) (by decide) (zC rfl) (zO rfl))⟩))) zAa)
    (zN (zCb (zCU hr.units0 (zG (pv 1)) zU) (zW (zx (zBH (zn (i:=4) (by decide)) (zr (sc:=zP zAX) (N:=zAt) rfl rfl rfl (by decide +kernel) (by decide +kernel)) rfl (zAC rfl T.z_range (zE (zI (zG (pv 2))) zJ (zC rfl)) (zH zL) (zAK rfl)) ⟨fun _ _ _ _ _=>(zAH (i:=4) zw.nd rfl),fun _ _ _ _ _=>zAk,fun _ _ _ _ _=>(zFi (zA9 (zG (pv 4)) (zAb (zp T) (hr.mono (by omega)) rfl (zE (zI (zG (pv 0))) (zE (zI zU) zJ (zC rfl)) (zC rfl)) (zH (zH zL)) (by decide) (zC rfl) (zO rfl))) (zG (pv 2)))⟩))) zAa)
    (zN (zCb (zCU hr.units0 (zG (pv 1)) zU) (zN (zAy (i:=5) zw.nd rfl (zPD (zA9 (zG (pv 2)) zU) zU))
    (zN (zNQ (i:=6) zw.nd rfl (by first | exact Or.inl rfl | exact Or.inr rfl) (by first | exact .inl rfl | exact .inr rfl) rfl (zn (i:=4) (by decide)) (zr (sc:=zP zAX) (N:=zAt) rfl rfl rfl (by decide +kernel) (by decide +kernel)) rfl (zAC rfl T.z_range (zE (zI (zG (pv 5))) zJ (zC rfl)) (zH zL) (zAK rfl)) ⟨fun _ _ _ _ _=>(zAH (i:=4) zw.nd rfl),fun _ _ _ _ _=>zAk,fun _ _ _ _ _=>(zAb (zp T) (hr.mono (by omega)) rfl (zE (zI (zG (pv 0))) (zE (zI (zG (pv 5))) zJ (zC rfl)) (zC rfl)) (zH (zH zL)) (by decide) (zC rfl) (zO rfl))⟩)
    (zW (zx (zEL (zG (pv 6)) (zBH (zn (i:=4) (by decide)) (zr (sc:=zP zAX) (N:=zAt) rfl rfl rfl (by decide +kernel) (by decide +kernel)) rfl (zAC rfl T.z_range (zE (zI (zPV (zG (pv 2)) (zG (pv 5)))) zJ (zC rfl)) (zH zL) (zAK rfl)) ⟨fun _ _ _ _ _=>(zAH (i:=4) zw.nd rfl),fun _ _ _ _ _=>zAk,fun _ _ _ _ _=>(zA9 (zG (pv 5)) (zAb (zp T) (hr.mono (by omega)) rfl (zE (zI (zG (pv 0))) (zE (zI (zPV (zG (pv 2)) (zG (pv 5)))) zJ (zC rfl)) (zC rfl)) (zH (zH zL)) (by decide) (zC rfl) (zO rfl)))⟩)))))) zAa)
    (zN (zCb (zIH (zHU (zCU hr.units0 (zG (pv 1)) zU) (zFz (zCU hr.units0 (zG (pv 3)) zU)))) (zW (zx (zBH (zn (i:=4) (by decide)) (zr (sc:=zP zAX) (N:=zAt) rfl rfl rfl (by decide +kernel) (by decide +kernel)) rfl (zAC rfl T.z_range (zE (zI (zG (pv 2))) zJ (zC rfl)) (zH zL) (zAK rfl)) ⟨fun _ _ _ _ _=>(zAH (i:=4) zw.nd rfl),fun _ _ _ _ _=>zAk,fun _ _ _ _ _=>(zFi (zA9 (zG (pv 4)) zU) (zG (pv 2)))⟩))) zAa)
    (zN (zCb (zCU hr.units0 (zG (pv 1)) zU) (zW (zx (zBH (zn (i:=4) (by decide)) (zr (sc:=zP zAX) (N:=zAt) rfl rfl rfl (by decide +kernel) (by decide +kernel)) rfl (zAC rfl T.z_range (zE (zI (zG (pv 2))) zJ (zC rfl)) (zH zL) (zAK rfl)) ⟨fun _ _ _ _ _=>(zAH (i:=4) zw.nd rfl),fun _ _ _ _ _=>zAk,fun _ _ _ _ _=>(zA2 (zBr (zE (zI (zG (pv 4))) (zE (zI zU) zJ (zC rfl)) (zC rfl))) (zOh rfl T.z_int (zc (zQ0 hr.units0 (zG (pv 4)) (zPV (zG (pv 2)) zU)) zi (zC rfl)) (zC rfl) rfl))⟩))) zAa)
    (zN (zCb (zIH (zIi (zCU hr.units0 (zG (pv 1)) zU) (zHO (zCU hr.units0 (zG (pv 1)) zU)))) (zN (zAy (i:=7) zw.nd rfl (zAb (zp T) (hr.mono (by omega)) rfl (zE (zI (zG (pv 0))) (zE (zI (zG (pv 2))) zJ (zC rfl)) (zC rfl)) (zH (zH zL)) (by decide) (zC rfl) (zO rfl)))
    (zW (zx (zBH (zn (i:=4) (by decide)) (zr (sc:=zP zAX) (N:=zAt) rfl rfl rfl (by decide +kernel) (by decide +kernel)) rfl (zAC rfl T.z_range (zE (zI (zG (pv 2))) zJ (zC rfl)) (zH zL) (zAK rfl)) ⟨fun _ _ _ _ _=>(zAH (i:=4) zw.nd rfl),fun _ _ _ _ _=>zAk,fun _ _ _ _ _=>(zA2 (zBr (zE (zI (zFi (zA9 (zG (pv 4)) (zG (pv 7))) (zG (pv 2)))) (zE (zI (zG (pv 7))) zJ (zC rfl)) (zC rfl))) (zOh rfl T.z_int (zc (zQ0 hr.units0 (zG (pv 1)) zU) zi (zC rfl)) (zC rfl) rfl))⟩)))) zAa)
    (zN (zAy (i:=8) zw.nd rfl (zAb (zFe T) (hr.mono (by omega)) rfl (zE (zI (zG (pv 0))) (zE (zI (zG (pv 2))) zJ (zC rfl)) (zC rfl)) (zH (zH zL)) (by decide) (zC rfl) (zO rfl)))
    (zN (zCb (zIH (zHU (zCU hr.units0 (zG (pv 1)) zU) (zFz (zCU hr.units0 (zG (pv 3)) zU)))) (zN (zAy (i:=9) zw.nd rfl (zA2 (zG (pv 8)) (zAb (zp T) (hr.mono (by omega)) rfl (zE (zI (zG (pv 0))) (zE (zI (zG (pv 2))) zJ (zC rfl)) (zC rfl)) (zH (zH zL)) (by decide) (zC rfl) (zO rfl))))
    (zW (zHd (zG (pv 9)) (zG (pv 8)) (zAb (zp T) (hr.mono (by omega)) rfl (zE (zI (zG (pv 0))) (zE (zI (zG (pv 2))) zJ (zC rfl)) (zC rfl)) (zH (zH zL)) (by decide) (zC rfl) (zO rfl))))) zAa)
    (zW (zx (zG (pv 8)))))))))))))
abbrev zKj:List Str:=["_law_machine_here", "_law_told", "_law_known", "_law_one", "_law_pair", "_law_letter"]
theorem zB4:FnScope zKj ["_law_machine_here", "_law_told"] (zP zEU):=⟨rfl,rfl,rfl,by decide +kernel,rfl,by decide +kernel,by decide +kernel⟩
theorem zJg (T:Txt K mg):Od P w base 3 T.d_law_shown zCT:=by
  unfold zCT;exact zJ0 (zAS (n:=2) T.d_law_shown.F zB4 rfl (fun cdv A outer s H E hr=>by
    unfold zEW;exact (zN (zCb (zD5 (zDp (zFf T.kinds (by decide) rfl T.z_isinstance rfl T.z_tuple (by rfl) (by decide) (by decide) (zG (pv 1)) (zC rfl) (zC rfl) (zO rfl)))) (zW (zx zED)) zAa)
    (zN (zAy (i:=2) zB4.nd rfl zJs)
    (zN (zDE zAs zWR rfl (zAx (zG (pv 1))) (zAH (i:=3) zB4.nd rfl) (zN (zCb (zIH (zIi (zD5 (zDp (zAb (zG6 T) (hr.mono (by omega)) rfl (zE (zI (zG (pv 0))) (zE (zI (zG (pv 3))) zJ (zC rfl)) (zC rfl)) (zH (zH zL)) (by decide) (zC rfl) (zO rfl)))) (zHO (zTO (zCY hr) (zG (pv 3)) (zG (pv 2)))))) (zW (zx zED)) zAa)
    (zW (zHH (zCY hr) zED (zG (pv 2)) (zG (pv 3))))))
    (zN (zDE zAs zWR rfl (zAx (zG (pv 1))) (zAH (i:=4) zB4.nd rfl) (zW (zDE zAs zWR rfl (zAC rfl T.z_range (zE (zI (zBL rfl T.z_len (zc (zA2 (zG (pv 0)) zU) zi (zC rfl)) (zC rfl) rfl)) zJ (zC rfl)) (zH zL) (zAK rfl)) (zAH (i:=5) zB4.nd rfl) (zW (zCb (zDZ (zCY hr) (zAb (zE0 T) (hr.mono (by omega)) rfl (zE (zI (zG (pv 0))) (zE (zI (zG (pv 4))) (zE (zI (zG (pv 5))) zJ (zC rfl)) (zC rfl)) (zC rfl)) (zH (zH (zH zL))) (by decide) (zC rfl) (zO rfl)) (zG (pv 2))) (zW (zx zED)) zAa)))))
    (zW (zx zED))))))))
abbrev zJj:List Str:=["_law_state", "_law_machine_here", "_law_pairs_here", "_law_at", "_law_way", "_law_every"]
theorem zCO:FnScope zJj ["_law_state", "_law_machine_here", "_law_pairs_here"] (zP zDt):=⟨rfl,rfl,rfl,by decide +kernel,rfl,by decide +kernel,by decide +kernel⟩
theorem zIQ (T:Txt K mg):Od P w base 3 T.d_law_spoilt zB3:=by
  unfold zB3;exact zAS (n:=3) T.d_law_spoilt.F zCO rfl (fun cdv A outer s H E hr=>by
    unfold zDr;exact (zN (zAy (i:=3) zCO.nd rfl (zAb (zp T) (hr.mono (by omega)) rfl (zE (zI (zG (pv 0))) (zE (zI (zBL rfl T.z_len (zc (zG (pv 2)) zi (zC rfl)) (zC rfl) rfl)) zJ (zC rfl)) (zC rfl)) (zH (zH zL)) (by decide) (zC rfl) (zO rfl)))
    (zN (zAy (i:=4) zCO.nd rfl (zAb (zp T) (hr.mono (by omega)) rfl (zE (zI (zG (pv 0))) (zE (zI zU) zJ (zC rfl)) (zC rfl)) (zH (zH zL)) (by decide) (zC rfl) (zO rfl)))
    (zN (zCb (zCU hr.units0 (zG (pv 4)) zU) (zW (zx (zCg rfl T.z_tuple (zc (zEL (zBw (zG (pv 2)) zB1 (zB6 (zG (pv 3)))) (zBw (zG (pv 2)) (zB6 (zA9 (zG (pv 3)) zU)) zB1)) zi (zC rfl)) (zC rfl) rfl))) zAa)
    (zN (zCb (zCU hr.units0 (zG (pv 4)) zU) (zW (zx (zCg rfl T.z_tuple (zc (zEL (zG (pv 2)) (zBr (zE (zI (zA2 (zG (pv 2)) (zG (pv 3)))) zJ (zC rfl)))) zi (zC rfl)) (zC rfl) rfl))) zAa)
    (zN (zCb (zCU hr.units0 (zG (pv 4)) zU) (zW (zx (zP4 rfl T.z_list (zc (zG (pv 2)) zi (zC rfl)) (zC rfl) rfl))) zAa)
    (zN (zCb (zCU hr.units0 (zG (pv 4)) zU) (zN (zAy (i:=5) zCO.nd rfl (zAb (zFp T) (hr.mono (by omega)) rfl (zE (zI (zQM rfl rfl T.z_list rfl T.z_range (zBL rfl T.z_len (zc (zG (pv 1)) zi (zC rfl)) (zC rfl) rfl) (zC rfl) rfl (zC rfl) rfl)) zJ (zC rfl)) (zH zL) (by decide) (zC rfl) (zO rfl)))
    (zW (zx (zCg rfl T.z_tuple (zc (zEL (zEL (zBw (zG (pv 2)) zB1 (zB6 (zG (pv 3)))) (zBr (zE (zI (zA2 (zG (pv 5)) (zAb (zp T) (hr.mono (by omega)) rfl (zE (zI (zG (pv 0))) (zE (zI (zBL rfl T.z_len (zc (zG (pv 5)) zi (zC rfl)) (zC rfl) rfl)) zJ (zC rfl)) (zC rfl)) (zH (zH zL)) (by decide) (zC rfl) (zO rfl)))) zJ (zC rfl)))) (zBw (zG (pv 2)) (zB6 (zG (pv 3))) zB1)) zi (zC rfl)) (zC rfl) rfl)))) zAa)
    (zW (zx (zCg rfl T.z_tuple (zc (zEL (zEL (zBw (zG (pv 2)) zB1 (zB6 (zG (pv 3)))) (zBr (zE (zI (zAb (zLu T) (hr.mono (by omega)) rfl (zE (zI (zG (pv 0))) (zE (zI (zG (pv 1))) (zE (zI (zA2 (zG (pv 2)) (zG (pv 3)))) zJ (zC rfl)) (zC rfl)) (zC rfl)) (zH (zH (zH zL))) (by decide) (zC rfl) (zO rfl))) zJ (zC rfl)))) (zBw (zG (pv 2)) (zB6 (zA9 (zG (pv 3)) zU)) zB1)) zi (zC rfl)) (zC rfl) rfl))))))))))
abbrev zKX:List Str:=["machine", "thing", "one", "other"]
theorem zGS:FnScope zKX ["machine", "thing"] (zP zFr):=⟨rfl,rfl,rfl,by decide +kernel,rfl,by decide +kernel,by decide +kernel⟩
theorem zNR (T:Txt K mg):Od P w base 4 T.d_is_set zC2:=by
  unfold zC2;exact zAS (n:=2) T.d_is_set.F zGS rfl (fun cdv A outer s H E hr=>by
    unfold zES;exact (zN (zCb (zIH (zIi (zD5 (zDp (zAb (zFS T) (hr.mono (by omega)) rfl (zE (zI (zG (pv 1))) (zE (zI (zBL rfl T.z_len (zc (zG (pv 0)) zi (zC rfl)) (zC rfl) rfl)) zJ (zC rfl)) (zC rfl)) (zH (zH zL)) (by decide) (zC rfl) (zO rfl)))) (zHO (zCU hr.units0 (zBL rfl T.z_len (zc (zG (pv 1)) zi (zC rfl)) (zC rfl) rfl) zU)))) (zW (zx zED)) zAa)
    (zW (zx (zLP rfl rfl T.z_all (zc (zBH (zNO (i:=2) (j:=3) (by decide) (by decide)) (zr (sc:=zP zFr) (N:=zKX) rfl rfl rfl (by decide +kernel) (by decide +kernel)) rfl (zTM rfl T.z_zip (zE (zI (zG (pv 1))) (zE (zI (zBw (zG (pv 1)) (zB6 zU) zB1)) zJ (zC rfl)) (zC rfl)) (zOn rfl rfl) (zAK rfl)) ⟨fun _ _ _ _ _=>(zPA rfl (zFx (zAH (i:=2) zGS.nd rfl) (zFx (zAH (i:=3) zGS.nd rfl) zMq))),fun _ _ _ _ _=>zAk,fun _ _ _ _ _=>(zUo (zG (pv 2)) (zG (pv 3)))⟩) zi (zC rfl)) (zC rfl) rfl)))))
abbrev zIn:List Str:=["machine", "room"]
theorem zHJ:FnScope zIn ["machine"] (zP zEr):=⟨rfl,rfl,rfl,by decide +kernel,rfl,by decide +kernel,by decide +kernel⟩
theorem zMG (T:Txt K mg):Od P w base 4 T.d_lengths zDl:=by
  unfold zDl;exact zAS (n:=1) T.d_lengths.F zHJ rfl (fun cdv A outer s H E hr=>by
    unfold zGO;exact (zW (zx (zAb (zIE T) (hr.mono (by omega)) rfl (zE (zI (zG (pv 0))) (zE (zI (zBH (zn (i:=1) (by decide)) (zr (sc:=zP zEr) (N:=zIn) rfl rfl rfl (by decide +kernel) (by decide +kernel)) rfl (zAC rfl T.z_range (zE (zI (zBL rfl T.z_len (zc (zG (pv 0)) zi (zC rfl)) (zC rfl) rfl)) zJ (zC rfl)) (zH zL) (zAK rfl)) ⟨fun _ _ _ _ _=>(zAH (i:=1) zHJ.nd rfl),fun _ _ _ _ _=>zAk,fun _ _ _ _ _=>(zBD (zE (zI (zG (pv 1))) zJ (zC rfl)))⟩)) zJ (zC rfl)) (zC rfl)) (zH (zH zL)) (by decide) (zC rfl) (zO rfl)))))
abbrev zCQ:List Str:=["_law_state", "_law_rooms", "_law_letters", "_law_family", "_law_columns", "_law_letter", "_law_column_here", "_law_room"]
theorem zAz:FnScope zCQ ["_law_state", "_law_rooms", "_law_letters"] (zP zBf):=⟨rfl,rfl,rfl,by decide +kernel,rfl,by decide +kernel,by decide +kernel⟩
theorem zHu (T:Txt K mg):Od P w base 4 T.d_law_machine zBG:=by
  unfold zBG;exact zJ0 (zAS (n:=3) T.d_law_machine.F zAz rfl (fun cdv A outer s H E hr=>by
    unfold zDT;exact (zN (zAy (i:=3) zAz.nd rfl (zAb (zp T) (hr.mono (by omega)) rfl (zE (zI (zG (pv 0))) (zE (zI zU) zJ (zC rfl)) (zC rfl)) (zH (zH zL)) (by decide) (zC rfl) (zO rfl)))
    (zN (zAy (i:=4) zAz.nd rfl (zBH (zn (i:=5) (by decide)) (zr (sc:=zP zBf) (N:=zCQ) rfl rfl rfl (by decide +kernel) (by decide +kernel)) rfl (zAC rfl T.z_range (zE (zI (zG (pv 2))) zJ (zC rfl)) (zH zL) (zAK rfl)) ⟨fun _ _ _ _ _=>(zAH (i:=5) zAz.nd rfl),fun _ _ _ _ _=>zAk,fun _ _ _ _ _=>(zAb (zIG T) (hr.mono (by omega)) rfl (zE (zI (zG (pv 0))) (zE (zI (zG (pv 3))) (zE (zI (zG (pv 1))) (zE (zI (zG (pv 5))) zJ (zC rfl)) (zC rfl)) (zC rfl)) (zC rfl)) (zH (zH (zH (zH zL)))) (by decide) (zC rfl) (zO rfl))⟩))
    (zW (zx (zCg rfl T.z_tuple (zc (zBH (zn (i:=7) (by decide)) (zr (sc:=zP zBf) (N:=zCQ) rfl rfl rfl (by decide +kernel) (by decide +kernel)) rfl (zAC rfl T.z_range (zE (zI (zG (pv 1))) zJ (zC rfl)) (zH zL) (zAK rfl)) ⟨fun _ _ _ _ _=>(zAH (i:=7) zAz.nd rfl),fun _ _ _ _ _=>zAk,fun _ _ _ _ _=>(zCg rfl T.z_tuple (zc (zBH (zn (i:=6) (by decide)) (zr (N:=zCQ) rfl rfl rfl (by rfl) (by decide +kernel)) rfl (zAx (zG (pv 4))) ⟨fun _ _ _ _ _=>(zAH (i:=6) zAz.nd rfl),fun _ _ _ _ _=>zAk,fun _ _ _ _ _=>(zA2 (zG (pv 6)) (zG (pv 7)))⟩) zi (zC rfl)) (zC rfl) rfl)⟩) zi (zC rfl)) (zC rfl) rfl)))))))
abbrev zOS:List Str:=["machine", "thing"]
theorem zLy:FnScope zOS ["machine", "thing"] (zP zGL):=⟨rfl,rfl,rfl,by decide +kernel,rfl,by decide +kernel,by decide +kernel⟩
theorem zMM (T:Txt K mg):Od P w base 5 T.d_is_pair zCr:=by
  unfold zCr;exact zAS (n:=2) T.d_is_pair.F zLy rfl (fun cdv A outer s H E hr=>by
    unfold zGT;exact (zW (zx (zGQ (zAb (zNR T) (hr.mono (by omega)) rfl (zE (zI (zG (pv 0))) (zE (zI (zG (pv 1))) zJ (zC rfl)) (zC rfl)) (zH (zH zL)) (by decide) (zC rfl) (zO rfl)) (zGG (zQ0 hr.units0 (zBL rfl T.z_len (zc (zG (pv 1)) zi (zC rfl)) (zC rfl) rfl) zU))))))
abbrev zMT:List Str:=["machine", "found", "pair"]
theorem zHL:FnScope zMT ["machine"] (zP zGu):=⟨rfl,rfl,rfl,by decide +kernel,rfl,by decide +kernel,by decide +kernel⟩
theorem zPc (T:Txt K mg):Od P w base 5 T.d_apart zFW:=by
  unfold zFW;exact zJZ (zAS (n:=1) T.d_apart.F zHL rfl (fun cdv A outer s H E hr=>by
    unfold zJn;exact (zN (zAy (i:=1) zHL.nd rfl (zAb (zMG T) (hr.mono (by omega)) rfl (zE (zI (zG (pv 0))) zJ (zC rfl)) (zH zL) (by decide) (zC rfl) (zO rfl)))
    (zW (zx (zCg rfl T.z_tuple (zc (zBH (zn (i:=2) (by decide)) (zr (sc:=zP zGu) (N:=zMT) rfl rfl rfl (by decide +kernel) (by decide +kernel)) rfl (zAx (zAb (zGf T) (hr.mono (by omega)) rfl (zE (zI (zAb (zFo T) (hr.mono (by omega)) rfl (zE (zI (zG (pv 0))) zJ (zC rfl)) (zH zL) (by decide) (zC rfl) (zO rfl))) zJ (zC rfl)) (zH zL) (by decide) (zC rfl) (zO rfl))) ⟨fun _ _ _ _ _=>(zAH (i:=2) zHL.nd rfl),fun _ _ _ _ _=>(zL6 (zDZ (zCY hr) (zG (pv 2)) (zG (pv 1)))),fun _ _ _ _ _=>(zG (pv 2))⟩) zi (zC rfl)) (zC rfl) rfl))))))
abbrev zCM:List Str:=["machine", "told", "pair", "there", "letter"]
theorem zA1:FnScope zCM ["machine", "told"] (zP zBF):=⟨rfl,rfl,rfl,by decide +kernel,rfl,by decide +kernel,by decide +kernel⟩
theorem zEY (T:Txt K mg):Od P w base 6 T.d_shows_apart zBE:=by
  unfold zBE;exact zJ0 (zAS (n:=2) T.d_shows_apart.F zA1 rfl (fun cdv A outer s H E hr=>by
    unfold zDW;exact (zN (zCb (zIH (zIi (zD5 (zDp (zFf T.kinds (by decide) rfl T.z_isinstance rfl T.z_tuple (by rfl) (by decide) (by decide) (zG (pv 1)) (zC rfl) (zC rfl) (zO rfl)))) (zHO (zD5 (zDp (zLP rfl rfl T.z_all (zc (zBH (zn (i:=2) (by decide)) (zr (sc:=zP zBF) (N:=zCM) rfl rfl rfl (by decide +kernel) (by decide +kernel)) rfl (zAx (zG (pv 1))) ⟨fun _ _ _ _ _=>(zAH (i:=2) zA1.nd rfl),fun _ _ _ _ _=>zAk,fun _ _ _ _ _=>(zAb (zMM T) (hr.mono (by omega)) rfl (zE (zI (zG (pv 0))) (zE (zI (zG (pv 2))) zJ (zC rfl)) (zC rfl)) (zH (zH zL)) (by decide) (zC rfl) (zO rfl))⟩) zi (zC rfl)) (zC rfl) rfl)))))) (zW (zx zED)) zAa)
    (zN (zAy (i:=3) zA1.nd rfl (zQ4 (isT:=true) (zCY hr) (zn (i:=2) (by decide)) (zr (sc:=zP zBF) (N:=zCM) rfl rfl rfl (by decide +kernel) (by decide +kernel)) rfl (zAx (zG (pv 1))) ⟨fun _ _ _ _ _=>(zAH (i:=2) zA1.nd rfl),fun _ _ _ _ _=>zAk,fun _ _ _ _ _=>(zG (pv 2))⟩ (fun _ _ _ _ _=>zED)))
    (zN (zCb (zMi (zSr rfl T.z_len (zc (zG (pv 3)) zi (zC rfl)) (zC rfl) rfl) (zBL rfl T.z_len (zc (zG (pv 1)) zi (zC rfl)) (zC rfl) rfl)) (zW (zx zED)) zAa)
    (zW (zx (zLP rfl rfl T.z_all (zc (zMf (by decide) (zn (i:=2) (by decide)) (zn (i:=4) (by decide)) (zr (sc:=zP zBF) (N:=zCM) rfl rfl rfl (by decide +kernel) (by decide +kernel)) rfl (zAx (zG (pv 1))) ⟨fun _ _ _ _ _=>(zAH (i:=2) zA1.nd rfl),fun _ _ _ _ _=>zAk,fun _ _ _ _ _=>(zAC rfl T.z_range (zE (zI (zBL rfl T.z_len (zc (zA2 (zG (pv 0)) zU) zi (zC rfl)) (zC rfl) rfl)) zJ (zC rfl)) (zH zL) (zAK rfl)),fun _ _ _ _ _=>(zAH (i:=4) zA1.nd rfl),fun _ _ _ _ _=>zAk,fun _ _ _ _ _=>(zTj (zCY hr) (zAb (zG2 T) (hr.mono (by omega)) rfl (zE (zI (zG (pv 0))) (zE (zI (zG (pv 2))) (zE (zI (zG (pv 4))) zJ (zC rfl)) (zC rfl)) (zC rfl)) (zH (zH (zH zL))) (by decide) (zC rfl) (zO rfl)) (zG (pv 3))),fun _ _ _ _ _ _=>rfl⟩) zi (zC rfl)) (zC rfl) rfl))))))))
abbrev zKp:List Str:=["_law_machine_here", "_law_thing", "_law_found"]
theorem zFk:FnScope zKp ["_law_machine_here", "_law_thing"] (zP zEP):=⟨rfl,rfl,rfl,by decide +kernel,rfl,by decide +kernel,by decide +kernel⟩
theorem zFU (T:Txt K mg):Od P w base 7 T.d_law_right zBs:=by
  unfold zBs;exact zAS (n:=2) T.d_law_right.F zFk rfl (fun cdv A outer s H E hr=>by
    unfold zEF;exact (zN (zAy (i:=2) zFk.nd rfl (zAb (zEY T) (hr.mono (by omega)) rfl (zE (zI (zG (pv 0))) (zE (zI (zG (pv 1))) zJ (zC rfl)) (zC rfl)) (zH (zH zL)) (by decide) (zC rfl) (zO rfl)))
    (zW (zx (zGQ (zFf T.kinds (by decide) rfl T.z_isinstance rfl T.z_bool (by rfl) (by decide) (by decide) (zG (pv 2)) (zC rfl) (zC rfl) (zO rfl)) (zGG (zQ0 hr.units0 (zG (pv 2)) (zAb (zJg T) (hr.mono (by omega)) rfl (zE (zI (zG (pv 0))) (zE (zI (zG (pv 1))) zJ (zC rfl)) (zC rfl)) (zH (zH zL)) (by decide) (zC rfl) (zO rfl)))))))))
abbrev zRz:List Str:=["_law_script", "_law_state", "_law_machine_here", "_law_thing", "_law_told", "_law_turn", "_law_pairs_here", "_law_k", "_law_handed"]
theorem zCd:FnScope zRz ["_law_script"] (zP zMV):=⟨rfl,rfl,rfl,by decide +kernel,rfl,by decide +kernel,by decide +kernel⟩
theorem zSA (T:Txt K mg):Od P w base 8 T.d_law zGW:=by
  unfold zGW;exact zAS (n:=1) T.d_law.F zCd rfl (fun cdv A outer s H E hr=>by
    unfold zOa;exact (zN (zAy (i:=1) zCd.nd rfl (zAb (zJc T) (hr.mono (by omega)) rfl (zE (zI (zG (pv 0))) zJ (zC rfl)) (zH zL) (by decide) (zC rfl) (zO rfl)))
    (zN (zAy (i:=2) zCd.nd rfl (zAb (zHu T) (hr.mono (by omega)) rfl (zE (zI (zG (pv 1))) (zE (zI (zA9 zU (zAb (zp T) (hr.mono (by omega)) rfl (zE (zI (zG (pv 1))) (zE (zI zU) zJ (zC rfl)) (zC rfl)) (zH (zH zL)) (by decide) (zC rfl) (zO rfl)))) (zE (zI (zA9 zU (zAb (zp T) (hr.mono (by omega)) rfl (zE (zI (zG (pv 1))) (zE (zI zU) zJ (zC rfl)) (zC rfl)) (zH (zH zL)) (by decide) (zC rfl) (zO rfl)))) zJ (zC rfl)) (zC rfl)) (zC rfl)) (zH (zH (zH zL))) (by decide) (zC rfl) (zO rfl)))
    (zN (zDE zAs zWR rfl (zAx (zBr (zE (zI zQE) (zE (zI zU) (zE (zI zU) (zE (zI zED) (zE (zI zQF) (zE (zI zQF) (zE (zI (zBr zJ)) (zE (zI (zBD zJ)) (zE (zI zQf) (zE (zI (zBD (zE (zI (zBD zJ)) zJ (zC rfl)))) (zE (zI (zBD (zE (zI zQE) zJ (zC rfl)))) (zE (zI (zBD (zE (zI zU) (zE (zI zU) zJ (zC rfl)) (zC rfl)))) (zE (zI (zBD (zE (zI (zBD (zE (zI zU) (zE (zI zU) zJ (zC rfl)) (zC rfl)))) zJ (zC rfl)))) (zE (zI (zBr (zE (zI (zBD (zE (zI zU) (zE (zI zU) zJ (zC rfl)) (zC rfl)))) zJ (zC rfl)))) (zE (zI (zBD (zE (zI zQF) zJ (zC rfl)))) zJ (zC rfl)) (zC rfl)) (zC rfl)) (zC rfl)) (zC rfl)) (zC rfl)) (zC rfl)) (zC rfl)) (zC rfl)) (zC rfl)) (zC rfl)) (zC rfl)) (zC rfl)) (zC rfl)) (zC rfl)))) (zAH (i:=3) zCd.nd rfl) (zW (zCb (zD5 (zDp (zAb (zFU T) (hr.mono (by omega)) rfl (zE (zI (zG (pv 2))) (zE (zI (zG (pv 3))) zJ (zC rfl)) (zC rfl)) (zH (zH zL)) (by decide) (zC rfl) (zO rfl)))) (zW (zx zED)) zAa)))
    (zN (zAy (i:=4) zCd.nd rfl (zAb (zPc T) (hr.mono (by omega)) rfl (zE (zI (zG (pv 2))) zJ (zC rfl)) (zH zL) (by decide) (zC rfl) (zO rfl)))
    (zN (zDE zAs zWR rfl (zAC rfl T.z_range (zE (zI (zA9 zU (zBL rfl T.z_len (zc (zBw (zG (pv 0)) zB1 (zB6 zU)) zi (zC rfl)) (zC rfl) rfl))) zJ (zC rfl)) (zH zL) (zAK rfl)) (zAH (i:=5) zCd.nd rfl) (zN (zAy (i:=6) zCd.nd rfl (zP4 rfl T.z_list (zc (zG (pv 4)) zi (zC rfl)) (zC rfl) rfl))
    (zN (zCb (zCU hr.units0 (zAb (zp T) (hr.mono (by omega)) rfl (zE (zI (zG (pv 1))) (zE (zI zU) zJ (zC rfl)) (zC rfl)) (zH (zH zL)) (by decide) (zC rfl) (zO rfl)) zU) (zW (zAy (i:=6) zCd.nd rfl (zAb (zKs T) (hr.mono (by omega)) rfl (zE (zI (zG (pv 1))) (zE (zI (zG (pv 2))) zJ (zC rfl)) (zC rfl)) (zH (zH zL)) (by decide) (zC rfl) (zO rfl)))) zAa)
    (zN (zAy (i:=6) zCd.nd rfl (zBH (zn (i:=7) (by decide)) (zr (sc:=zP zMV) (N:=zRz) rfl rfl rfl (by decide +kernel) (by decide +kernel)) rfl (zAx (zAb (zFe T) (hr.mono (by omega)) rfl (zE (zI (zG (pv 1))) (zE (zI (zBL rfl T.z_len (zc (zG (pv 6)) zi (zC rfl)) (zC rfl) rfl)) zJ (zC rfl)) (zC rfl)) (zH (zH zL)) (by decide) (zC rfl) (zO rfl))) ⟨fun _ _ _ _ _=>(zAH (i:=7) zCd.nd rfl),fun _ _ _ _ _=>zAk,fun _ _ _ _ _=>(zA2 (zG (pv 6)) (zG (pv 7)))⟩))
    (zN (zAy (i:=8) zCd.nd rfl (zCg rfl T.z_tuple (zc (zG (pv 6)) zi (zC rfl)) (zC rfl) rfl))
    (zN (zCb (zIH (zHU (zMd hr.units0 (zG (pv 6)) (zBr zJ)) (zFz (zTi (zAb (zp T) (hr.mono (by omega)) rfl (zE (zI (zG (pv 1))) (zE (zI zU) zJ (zC rfl)) (zC rfl)) (zH (zH zL)) (by decide) (zC rfl) (zO rfl)) zU)))) (zW (zAy (i:=8) zCd.nd rfl (zAb (zIQ T) (hr.mono (by omega)) rfl (zE (zI (zG (pv 1))) (zE (zI (zG (pv 2))) (zE (zI (zG (pv 6))) zJ (zC rfl)) (zC rfl)) (zC rfl)) (zH (zH (zH zL))) (by decide) (zC rfl) (zO rfl)))) zAa)
    (zW (zCb (zD5 (zDp (zAb (zFU T) (hr.mono (by omega)) rfl (zE (zI (zG (pv 2))) (zE (zI (zG (pv 8))) zJ (zC rfl)) (zC rfl)) (zH (zH zL)) (by decide) (zC rfl) (zO rfl)))) (zW (zx zED)) zAa))))))))
    (zW (zx (zUk (zAb (zEY T) (hr.mono (by omega)) rfl (zE (zI (zG (pv 2))) (zE (zI (zG (pv 4))) zJ (zC rfl)) (zC rfl)) (zH (zH zL)) (by decide) (zC rfl) (zO rfl)) zED)))))))))
end
theorem zSp {l:PySem.W.OpenLaw} {w:World} {K:PySem.W.Frag} {h:Heap} {mg:Str -> Option Value} {fa:Addr} (X:K.In h) (G:h.Ns mainGlobals mg) (hfa:mg "law" = some (.ref fa))
    (g1:Dg K "is_whole" zFM) (g2:Dg K "is_below" zE9) (g3:Dg K "is_tuple_below" zBa) (g4:Dg K "is_set" zFr) (g5:Dg K "all_rooms" zEf) (g6:Dg K "stepped" zEl) (g7:Dg K "is_pair" zGL) (g8:Dg K "shows_apart" zBF) (g9:Dg K "pairs_of" zDo) (g10:Dg K "ways_back" zEQ) (g11:Dg K "lengths_to" zCn) (g12:Dg K "lengths" zEr) (g13:Dg K "apart" zGu) (g14:Dg K "_law_begin" zDC) (g15:Dg K "_law_next" zFD) (g16:Dg K "_law_order" zEg) (g17:Dg K "_law_column" zAX) (g18:Dg K "_law_machine" zBf) (g19:Dg K "_law_pairs" zDG) (g20:Dg K "_law_behind" zDq) (g21:Dg K "_law_whole" zEX) (g22:Dg K "_law_is_pair" zCL) (g23:Dg K "_law_shown" zEU) (g24:Dg K "_law_made" zFI) (g25:Dg K "_law_odd" zF6) (g26:Dg K "_law_spoilt" zDt) (g27:Dg K "_law_right" zEP) (g28:Dg K "law" zMV) (z1:Zn K "isinstance") (z2:Zn K "int") (z3:Zn K "bool") (z4:Zn K "tuple") (z5:Zn K "all") (z6:Zn K "len") (z7:Zn K "zip") (z8:Zn K "range") (z9:Zn K "sorted") (z10:Zn K "abs") (z11:Zn K "min") (z12:Zn K "max") (z13:Zn K "list") (z14:Zn K "str") (y1:Ki K "NoneType" "int" false) (y2:Ki K "NoneType" "bool" false) (y3:Ki K "NoneType" "str" false) (y4:Ki K "NoneType" "tuple" false) (y5:Ki K "bool" "int" true) (y6:Ki K "bool" "bool" true) (y7:Ki K "bool" "str" false) (y8:Ki K "bool" "tuple" false) (y9:Ki K "int" "int" true) (y10:Ki K "int" "bool" false) (y11:Ki K "int" "str" false) (y12:Ki K "int" "tuple" false) (y13:Ki K "str" "int" false) (y14:Ki K "str" "bool" false) (y15:Ki K "str" "str" true) (y16:Ki K "str" "tuple" false) (y17:Ki K "list" "int" false) (y18:Ki K "list" "bool" false) (y19:Ki K "list" "str" false) (y20:Ki K "list" "tuple" false) (y21:Ki K "tuple" "int" false) (y22:Ki K "tuple" "bool" false) (y23:Ki K "tuple" "str" false) (y24:Ki K "tuple" "tuple" true) (y25:Ki K "dict" "int" false) (y26:Ki K "dict" "bool" false) (y27:Ki K "dict" "str" false) (y28:Ki K "dict" "tuple" false) :
    ∃ fd:FuncData,(∀ (s:Shared) (v:Value),BindsTo s fd ⟨[v],[]⟩ [("_law_script", v)]) /\ ∀ base:Heap,K.In base -> base.Ns mainGlobals mg -> FnOk l.prog w K mg base CX0 8 fa fd ["_law_script"] (spF K 1 zGW):=by
  have e:=hfa.symm.trans (PySem.W.mg_of X G g28.a);cases e;have kinds:Kinds K:=⟨by
    intro t T ht hT;simp only [zVA,zVT,zWJ] at ht hT;rcases ht with rfl | rfl | rfl | rfl | rfl | rfl | rfl <;> rcases hT with rfl | rfl | rfl | rfl <;> assumption⟩
  let T:Txt K mg:=⟨g1.df X G fun _ _ _ _ _ _=>zIM fun _=>rfl,g2.df X G fun _ _ _ _ _ _=>zGj fun _ _=>rfl,g3.df X G fun _ _ _ _ _ _=>zGj fun _ _=>rfl,g4.df X G fun _ _ _ _ _ _=>zGj fun _ _=>rfl,g5.df X G fun _ _ _ _ _ _=>zIM fun _=>rfl,g6.df X G fun _ _ _ _ _ _=>zQC fun _ _ _=>rfl,g7.df X G fun _ _ _ _ _ _=>zGj fun _ _=>rfl,g8.df X G fun _ _ _ _ _ _=>zGj fun _ _=>rfl,g9.df X G fun _ _ _ _ _ _=>zIM fun _=>rfl,g10.df X G fun _ _ _ _ _ _=>zIM fun _=>rfl,g11.df X G fun _ _ _ _ _ _=>zGj fun _ _=>rfl,g12.df X G fun _ _ _ _ _ _=>zIM fun _=>rfl,g13.df X G fun _ _ _ _ _ _=>zIM fun _=>rfl,g14.df X G fun _ _ _ _ _ _=>zIM fun _=>rfl,g15.df X G fun _ _ _ _ _ _=>zGj fun _ _=>rfl,g16.df X G fun _ _ _ _ _ _=>zGj fun _ _=>rfl,g17.df X G fun _ _ _ _ _ _=>zUb fun _ _ _ _=>rfl,g18.df X G fun _ _ _ _ _ _=>zQC fun _ _ _=>rfl,g19.df X G fun _ _ _ _ _ _=>zIM fun _=>rfl,g20.df X G fun _ _ _ _ _ _=>zQC fun _ _ _=>rfl,g21.df X G fun _ _ _ _ _ _=>zIM fun _=>rfl,g22.df X G fun _ _ _ _ _ _=>zGj fun _ _=>rfl,g23.df X G fun _ _ _ _ _ _=>zGj fun _ _=>rfl,g24.df X G fun _ _ _ _ _ _=>zGj fun _ _=>rfl,g25.df X G fun _ _ _ _ _ _=>zQC fun _ _ _=>rfl,g26.df X G fun _ _ _ _ _ _=>zQC fun _ _ _=>rfl,g27.df X G fun _ _ _ _ _ _=>zGj fun _ _=>rfl,g28.df X G fun _ _ _ _ _ _=>zIM fun _=>rfl,zVx X G z1,zVx X G z2,zVx X G z3,zVx X G z4,zVx X G z5,zVx X G z6,zVx X G z7,zVx X G z8,zVx X G z9,zVx X G z10,zVx X G z11,zVx X G z12,zVx X G z13,zVx X G z14,kinds⟩;refine ⟨T.d_law.fd,fun s v=> .of_eq rfl,fun base _ _=>?_⟩;exact zSA (P:=l.prog) (w:=w) (base:=base) T
theorem zUi {l:PySem.W.OpenLaw} {q:Program} {loose:List Str} {XP:(Str -> Option Value) -> Heap -> Prop} {YP:World -> Heap -> Prop} {d:DefRec} {K:Params -> PySem.W.Frag} (hn:l.most = some 63) (hdf:d.params.defaults = [])
    (hY:∀ (w:World) (h:Heap),YP w h -> (K w.params).In h) (hL:∀ w:World,zJp (K w.params) = true)
    (F:∀ (w:World) (mg:Str -> Option Value) (fa:Addr) (h:Heap),(K w.params).In h -> h.Ns mainGlobals mg -> mg d.name = some (.ref fa) ->
      ∃ fd:FuncData,(∀ (s:Shared) (u:Value),BindsTo s fd ⟨[u],[]⟩ [("_law_script", u)]) /\ ∀ base:Heap,(K w.params).In base -> base.Ns mainGlobals mg -> FnOk l.prog w (K w.params) mg base CX0 8 fa fd ["_law_script"] (spF (K w.params) 1 zGW)) :
    PySem.W.WalkO q loose XP YP l.row.toRowW d [] (fun f vs=>PySem.call f vs) :=
  L2.zRE (n:=63) (k:=8) (x := "_law_script") (CX:=fun _=>CX0) (sp:=fun w=>spF (K w.params) 1 zGW) hn (by decide) hdf ⟨rfl,by decide,by decide⟩ hY F
    (fun w H a ns hl hO hS=>zN3 (hL w) hO hS (zOm ns hl)) fun _ _ _ _ _ z=>z
end Lac
open PySem PySem.W PyProof.Rows
set_option maxRecDepth 100000 in
set_option maxHeartbeats 0 in
theorem PySem.Challenge.cw_bringhome_k25_pairs_apart_shown_holds : PySem.Challenge.rw_bringhome_k25_pairs_apart_shown.Holds := by
  w_on; o_law; k_head; (case hw=>w_witness2);k_fill;refine Lac.zUi (l:=PySem.Challenge.rw_bringhome_k25_pairs_apart_shown) rfl rfl (fun w h Y=>PySem.W.kIn_of Y) (fun w=>by rfl) ?F
  case F=>
    intro w mg fa h KX G hmg;refine' Lac.zSp KX G hmg ?_ ?_ ?_ ?_ ?_ ?_ ?_ ?_ ?_ ?_ ?_ ?_ ?_ ?_ ?_ ?_ ?_ ?_ ?_ ?_ ?_ ?_ ?_ ?_ ?_ ?_ ?_ ?_ ?_ ?_ ?_ ?_ ?_ ?_ ?_ ?_ ?_ ?_ ?_ ?_ ?_ ?_ ?_ ?_ ?_ ?_ ?_ ?_ ?_ ?_ ?_ ?_ ?_ ?_ ?_ ?_ ?_ ?_ ?_ ?_ ?_ ?_ ?_ ?_ ?_ ?_ ?_ ?_ ?_ ?_;all_goals first | exact ⟨_,by k_is,by k_is,by k_is,by k_is⟩ | (unfold L3.Zn; k_is) | (unfold L3.Ki; kit_is) | k_is
