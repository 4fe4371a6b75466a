import PyProof.Rows.All
import Wide.All
import OpenK.AllK
import Wide.FinOn
import Lean
import PyProof.EqAt
import PyProof.EqKinds
import PyProof.TupleCall
import PyProof.NeKinds
import PyProof.ZipIter
import PyProof.ListRange
import PyProof.TupleOfSeq
import PyProof.ConsumeWalk
import PyProof.IsRules
import PyProof.SetKind
import PyProof.SetRoads
import PyProof.Rows.SetFrom
import PyProof.Draws
import PyProof.EnumMake
import PyProof.DictCompW
import PyProof.ListMulRoad
import PyProof.Rows.SeqMore2
import PyProof.WalkInts
import PyProof.DictRoadsH
import PyProof.DictItems
import KE.KDictList
import PySem.Challenge.RW_bringhome_k22_the_ladder
namespace PySem.W.Fast
def tw2490891433816824796:=0
def tw2447004079967867873:=0
def tw13535181701165026019:=0
def tw16293603652659629345:=0
def tw18365168651155260381:=0
def tw4642067057026698897:=0
def tw9260396690540858909:=0
def tw7733697753772203578:=0
def tw10714683819456103151:=0
def tw7881338032843669703:=0
def tw16204884116433793580:=0
def tw10012814916491058193:=0
def tw16630262223362292311:=0
def tw6297861102876360792:=0
def tw3888516836629976946:=0
def tw481828970572012940:=0
def tw1002347482767992919:=0
def tw3445876870030496279:=0
def tw15752825816904326432:=0
def tw3274635817065418402:=0
def tw15585171401483630329:=0
def tw8812850900058284985:=0
def tw10190265361069350201:=0
def tw18067686627867254725:=0
def tw3466336370704778387:=0
def tw1707272152719684169:=0
def tw3298087032386754913:=0
def tw1248002376017807886:=0
def tw2811016755009024082:=0
def tw9815185061792801844:=0
def tw2042151314825852588:=0
def tw13283704988562474563:=0
def tw2179727287845940585:=0
def tw7416475631531051646:=0
end PySem.W.Fast
section
open PySem PySem.Spec PyProof.Rows
theorem zU5:type_of% @wpAny_bind:=@wpAny_bind
theorem zU6:type_of% @Heap.get?_push_of_some:=@Heap.get?_push_of_some
theorem zU7:type_of% @wpAny_pure:=@wpAny_pure
theorem zU8:type_of% @List.getElem?_eq_some_iff:=@List.getElem?_eq_some_iff
theorem zU9:type_of% @List.getElem?_eq_getElem:=@List.getElem?_eq_getElem
theorem zVA:type_of% @List.getD_eq_getElem?_getD:=@List.getD_eq_getElem?_getD
theorem zVB:type_of% @Nat.le_refl:=@Nat.le_refl
theorem zVC:type_of% @List.getElem?_append_left:=@List.getElem?_append_left
theorem zVD:type_of% @List.size_toArray:=@List.size_toArray
theorem zVE:type_of% @List.length_map:=@List.length_map
theorem zVF:type_of% @Heap.get?_push_size:=@Heap.get?_push_size
theorem zVG:type_of% @Heap.lt_size:=@Heap.lt_size
theorem zVH:type_of% @List.mem_cons:=@List.mem_cons
theorem zVI:type_of% @List.mem_cons_of_mem:=@List.mem_cons_of_mem
theorem zVJ:type_of% @List.mem_cons_self:=@List.mem_cons_self
theorem zVK:type_of% @if_pos:=@if_pos
theorem zVL:type_of% @List.length_append:=@List.length_append
theorem zVM:type_of% @List.mem_map:=@List.mem_map
theorem zVN:type_of% @if_neg:=@if_neg
theorem zVO:type_of% @List.map_cons:=@List.map_cons
theorem zVP:type_of% @List.mem_append_right:=@List.mem_append_right
theorem zVQ:type_of% @Nat.ne_of_lt:=@Nat.ne_of_lt
theorem zVR:type_of% @Bool.false_ne_true:=@Bool.false_ne_true
theorem zVS:type_of% @List.getElem?_map:=@List.getElem?_map
theorem zVT:type_of% @List.map_map:=@List.map_map
theorem zVU:type_of% @Nat.lt_of_lt_of_le:=@Nat.lt_of_lt_of_le
theorem zVV:type_of% @List.mem_append:=@List.mem_append
theorem zVW:type_of% @Nat.le_trans:=@Nat.le_trans
theorem zVX:type_of% @List.mem_singleton:=@List.mem_singleton
theorem zVY:type_of% @wpAny_newObj_type:=@wpAny_newObj_type
theorem zVZ:type_of% @List.getElem?_set_ne:=@List.getElem?_set_ne
theorem zVa:type_of% @List.not_mem_nil:=@List.not_mem_nil
theorem zVb:type_of% @wpAny_mono:=@wpAny_mono
theorem zVc:type_of% @List.length_cons:=@List.length_cons
theorem zVd:type_of% @List.getElem_mem:=@List.getElem_mem
theorem zVe:type_of% @decide_eq_false:=@decide_eq_false
theorem zVf:type_of% @Bool.and_eq_true:=@Bool.and_eq_true
theorem zVg:type_of% @List.all_eq_true:=@List.all_eq_true
theorem zVh:type_of% @wpAny_callSpecial?_slot:=@wpAny_callSpecial?_slot
theorem zVi:type_of% @wpAny_call_entry:=@wpAny_call_entry
theorem zVj:type_of% @List.mem_range:=@List.mem_range
theorem zVk:type_of% @wpAny_field:=@wpAny_field
theorem zVl:type_of% @Heap.size_push:=@Heap.size_push
theorem zVm:type_of% @Heap.get?_update_other:=@Heap.get?_update_other
theorem zVn:type_of% @Nat.lt_irrefl:=@Nat.lt_irrefl
theorem zVo:type_of% @Array.length_toList:=@Array.length_toList
theorem zVp:type_of% @List.append_nil:=@List.append_nil
theorem zVq:type_of% @Array.getElem?_eq_getElem:=@Array.getElem?_eq_getElem
theorem zVr:type_of% @Nat.zero_le:=@Nat.zero_le
theorem zVs:type_of% @Heap.get?_update_self:=@Heap.get?_update_self
theorem zVu:type_of% @Nat.lt_succ_of_lt:=@Nat.lt_succ_of_lt
theorem zVw:type_of% @List.mem_of_getElem?:=@List.mem_of_getElem?
theorem zVx:type_of% @List.map_append:=@List.map_append
theorem zVy:type_of% @wpAny_holding:=@wpAny_holding
theorem zVz:type_of% @List.getElem?_set_self:=@List.getElem?_set_self
theorem zV1:type_of% @of_decide_eq_true:=@of_decide_eq_true
theorem zV2:type_of% @Nat.lt_succ_self:=@Nat.lt_succ_self
theorem zV3:type_of% @wpAny_standAt:=@wpAny_standAt
theorem zV4:type_of% @PySem.W.mg_none_of:=@PySem.W.mg_none_of
theorem zV5:type_of% @Option.some.inj:=@Option.some.inj
theorem zV6:type_of% @Bool.false_eq_true:=@Bool.false_eq_true
theorem zV7:type_of% @PySem.mem_of_lookup:=@PySem.mem_of_lookup
theorem zV8:type_of% @Heap.SameBut.update:=@Heap.SameBut.update
theorem zV9:type_of% @List.cons.inj:=@List.cons.inj
theorem zWB:type_of% @List.append_assoc:=@List.append_assoc
theorem zWD:type_of% @decide_eq_true:=@decide_eq_true
theorem zWF:type_of% @List.getElem?_append_right:=@List.getElem?_append_right
theorem zWG:type_of% @List.mem_filter:=@List.mem_filter
theorem zWH:type_of% @wpAny_truthy_bool:=@wpAny_truthy_bool
theorem zWI:type_of% @decide_eq_true_eq:=@decide_eq_true_eq
theorem zWJ:type_of% @List.nodup_append:=@List.nodup_append
theorem zWK:type_of% @List.mem_append_left:=@List.mem_append_left
theorem zWM:type_of% @Obj.data_mapFields:=@Obj.data_mapFields
theorem zWT:type_of% @List.length_take:=@List.length_take
theorem zWa:type_of% @Nat.ne_of_gt:=@Nat.ne_of_gt
theorem zWd:type_of% @PyProof.Rows.slot_tuple_getitem:=@PyProof.Rows.slot_tuple_getitem
theorem zWe:type_of% @List.getElem?_set:=@List.getElem?_set
theorem zWg:type_of% @wpAny_attempt:=@wpAny_attempt
theorem zWh:type_of% @Nat.mul_le_mul:=@Nat.mul_le_mul
theorem zWi:type_of% @PySem.W.kia_one:=@PySem.W.kia_one
theorem zWk:type_of% @Array.getElem?_toList:=@Array.getElem?_toList
theorem zWn:type_of% @Nat.le_succ:=@Nat.le_succ
theorem zWq:type_of% @wpAny_setField:=@wpAny_setField
theorem zWr:type_of% @List.find?_cons:=@List.find?_cons
theorem zWs:type_of% @congrArg:=@congrArg
theorem zWz:type_of% @wpAny_comprehension_free:=@wpAny_comprehension_free
theorem zW2:type_of% @List.length_range:=@List.length_range
theorem zW8:type_of% @List.getElem_of_mem:=@List.getElem_of_mem
theorem zXA:type_of% @List.lookup_cons:=@List.lookup_cons
theorem zXF:type_of% @List.pairwise_cons:=@List.pairwise_cons
theorem zXW:type_of% @if_false:=@if_false
theorem zXY:type_of% @List.length_drop:=@List.length_drop
end
set_option Elab.async false
set_option linter.all false
set_option maxRecDepth 100000
set_option genSizeOf false
set_option genInjectivity false
noncomputable section
namespace L2
open PySem PySem.Spec PyProof.Rows
abbrev Key:=Sum Int Str
def zHF:Key -> Value -> Bool
 | .inl k,v=>Value.isInt k v
 | .inr x,v=>Value.isStrOf x v
def zUw (w:World):Key -> Int
 | .inl k=>hashInt k
 | .inr x=>hashStr w x
theorem zAE:∀ {k:Key} {v:Value},zHF k v = true -> (∃ i t,k = Sum.inl i /\ v = Value.int i t) \/ (∃ x t,k = Sum.inr x /\ v = Value.str x t)
 | .inl i,v,h=>by
  obtain ⟨t,e⟩:=Value.isInt_shape (k:=i) (v:=v) h;exact .inl ⟨i,t,rfl,e⟩
 | .inr x,v,h=>by
  obtain ⟨t,e⟩:=Value.isStrOf_shape (x:=x) (v:=v) h;exact .inr ⟨x,t,rfl,e⟩
theorem zL8 (i:Int) (t:Tok):zHF (.inl i) (.int i t) = true:=by simp [zHF,Value.isInt]
theorem zNE (x:Str) (t:Tok):zHF (.inr x) (.str x t) = true:=by simp [zHF,Value.isStrOf]
theorem zS7 (a b:Int):decide ((Sum.inl a:Key) = Sum.inl b) = (a == b):=by
 by_cases e:a = b
 ·subst e; simp
 ·have h:¬ (Sum.inl a:Key) = Sum.inl b:=fun q=>e (Sum.inl.inj q);rw [zVe h];exact (beq_eq_false_iff_ne.mpr e).symm
theorem zRx (a b:Str):decide ((Sum.inr a:Key) = Sum.inr b) = decide (a = b):=by
 by_cases e:a = b
 ·subst e; simp
 ·have h:¬ (Sum.inr a:Key) = Sum.inr b:=fun q=>e (Sum.inr.inj q);rw [zVe h,zVe e]
theorem zSs (a:Int) (b:Str):decide ((Sum.inl a:Key) = Sum.inr b) = false:=zVe (fun q=>nomatch q)
theorem zSh (a:Str) (b:Int):decide ((Sum.inr a:Key) = Sum.inl b) = false:=zVe (fun q=>nomatch q)
def zi (prog:Program) (w:World):PySem.KeyKind prog w Key where
 is:=zHF
 hash:=zUw w
 inj:=fun v a b ha hb=>by
  rcases zAE ha with ⟨i,t,rfl,rfl⟩ | ⟨x,t,rfl,rfl⟩
  ·rcases zAE hb with ⟨j,u,rfl,e⟩ | ⟨y,u,rfl,e⟩
   ·injection e with e1 _; rw [e1]
   ·exact nomatch e
  ·rcases zAE hb with ⟨j,u,rfl,e⟩ | ⟨y,u,rfl,e⟩
   ·exact nomatch e
   ·injection e with e1 _; rw [e1]
 byValue:=fun k v h=>by
  rcases zAE h with ⟨i,t,rfl,rfl⟩ | ⟨x,t,rfl,rfl⟩ <;> rfl
 pyHash:=fun hv h=>by
  rcases zAE hv with ⟨i,t,rfl,rfl⟩ | ⟨x,t,rfl,rfl⟩
  ·exact wpAny_pyHash_int h
  ·exact wpAny_pyHash_str h
 eqBool:=fun hu hv h=>by
  rcases zAE hu with ⟨i,t,rfl,rfl⟩ | ⟨x,t,rfl,rfl⟩
  ·rcases zAE hv with ⟨j,u,rfl,rfl⟩ | ⟨y,u,rfl,rfl⟩
   ·rw [zS7] at h; exact wpAny_eqBool_int h
   ·rw [zSs] at h; exact SeqAt.EqAt.int_str i t y u _ _ _ _ h
  ·rcases zAE hv with ⟨j,u,rfl,rfl⟩ | ⟨y,u,rfl,rfl⟩
   ·rw [zSh] at h; exact SeqAt.EqAt.str_int x t j u _ _ _ _ h
   ·rw [zRx] at h; exact wpAny_eqBool_str h
 «strs»:=fun k x t v h=>by
  rcases zAE h with ⟨i,u,rfl,e⟩ | ⟨y,u,rfl,e⟩
  ·exact nomatch e
  ·injection e with e1 _
   subst e1
   cases v <;> rfl
theorem zJW (prog:Program) (w:World) (i:Int) (t:Tok):(zi prog w).is (.inl i) (.int i t) = true:=zL8 i t
theorem zIR (prog:Program) (w:World) (x:Str) (t:Tok):(zi prog w).is (.inr x) (.str x t) = true:=zNE x t
set_option genInjectivity true in
inductive V where
 | non | bl (b:Bool) | int (i:Int) | str (x:Str) | byt (b:Array UInt8) | flt (b:UInt64) | ref (a:Addr) | ty (n:String)
 deriving DecidableEq
def za:V -> Value -> Prop
 | .non,u=>u = Value.none
 | .bl b,u=>u = Value.bool b
 | .int i,u=>∃ t,u = Value.int i t
 | .str x,u=>∃ t,u = Value.str x t
 | .byt b,u=>∃ t,u = Value.bytes b t
 | .flt b,u=>∃ t,u = Value.float b t
 | .ref a,u=>u = Value.ref a
 | .ty n,u=>u = Value.type n
abbrev zW:List V -> List Value -> Prop:=Paired za
theorem zW.length {xs:List V} {us:List Value} (r:zW xs us):xs.length = us.length:=Paired.length r
theorem zW.get:∀ {xs:List V} {us:List Value} {i:Nat} {x:V},zW xs us -> xs[i]? = some x -> ∃ u,us[i]? = some u /\ za x u
 | _,_,_,_,.nil,e=>by simp at e
 | _,_,0,_,.cons r _,e=>by simp at e; subst e; exact ⟨_,rfl,r⟩
 | _,_,i + 1,x,.cons _ t,e=>by
  obtain ⟨u,h1,h2⟩:=zW.get (i:=i) (x:=x) t (by simpa using e);exact ⟨u,by simpa using h1,h2⟩
theorem zW.set {x:V} {u:Value} (r:za x u):∀ {xs:List V} {us:List Value} (i:Nat),zW xs us -> zW (xs.set i x) (us.set i u)
 | _,_,_,.nil=> .nil
 | _,_,0,.cons _ t=> .cons r t
 | _,_,i + 1,.cons q t=> .cons q (zW.set r i t)
theorem zW.append:∀ {xs ys:List V} {us ws:List Value},zW xs us -> zW ys ws -> zW (xs ++ ys) (us ++ ws)
 | _,_,_,_,.nil,s=>s
 | _,_,_,_,.cons r t,s=> .cons r (zW.append t s)
theorem zW.take:∀ {xs:List V} {us:List Value} (n:Nat),zW xs us -> zW (xs.take n) (us.take n)
 | _,_,0,_=> .nil
 | _,_,_ + 1,.nil=> .nil
 | _,_,n + 1,.cons r t=> .cons r (zW.take n t)
theorem zW.drop:∀ {xs:List V} {us:List Value} (n:Nat),zW xs us -> zW (xs.drop n) (us.drop n)
 | _,_,0,r=>r
 | _,_,_ + 1,.nil=> .nil
 | _,_,n + 1,.cons _ t=>zW.drop n t
def zEd:Option V -> Option Value -> Prop
 | some v,some u=>za v u
 | none,none=>True
 | _,_=>False
def KV {κ:Type}:List (κ × V) -> List (κ × Value) -> Prop:=Paired fun (p:κ × V) (q:κ × Value)=>p.1 = q.1 /\ za p.2 q.2
def kV:Key -> V
 | .inl i=> .int i
 | .inr x=> .str x
set_option genInjectivity true in
inductive HO where
 | lst (xs:List V)
 | tup (xs:List V)
 | dK (kvs:List (Key × V)) | dT (kvs:List (List Key × V))
 | set (S:Int -> Bool) (n:Nat)
 | ins (C dx:Addr) (fs:List (Str × V))
 | own (x:Addr)
 | xd (fs:List (Str × V))
 | met (f x:Addr)
 | rng (lo hi:Int)
 | frz (o:Obj) (u:HO)
 | tbl (ps:Array Value)
 | ext (φ:Heap -> Prop)
abbrev Hp:=Addr -> Option HO
def upd (H:Hp) (a:Addr) (o:HO):Hp:=fun b=>if b = a then some o else H b
theorem zo {H:Hp} {a:Addr} {o:HO}:upd H a o a = some o:=by unfold upd; rw [zVK rfl]
theorem zS {H:Hp} {a b:Addr} {o:HO} (h:b ≠ a):upd H a o b = H b:=by unfold upd; rw [zVN h]
theorem zFh {H:Hp} {a b:Addr} {o u:HO} (h:H a = some o) (h':H b = some u) (d:o ≠ u):a ≠ b:=by
 intro e; subst e; rw [h] at h'; exact d (zV5 h')
theorem zk {H:Hp} {a b:Addr} {o:HO} (h:H a = some o) (h':H b = none):a ≠ b:=by
 intro e; subst e; rw [h] at h'; cases h'
def zBu (h:Heap) (a:Addr) (items:Array Value):Prop:=∃ o,h.get? a = some o /\ o.cls = .type "tuple" /\ (∃ n,o.data = .seq items n) /\ o.dict = none
theorem zBu.tup {h:Heap} {a:Addr} {items:Array Value} (x:zBu h a items):IsTup h a items:=let ⟨o,e,c,d,_⟩:=x; ⟨o,e,c,d⟩
theorem zBu.lt {h:Heap} {a:Addr} {items:Array Value} (x:zBu h a items):a < h.objs.size:=let ⟨_,e,_⟩:=x; zVG e
theorem zBu.new (h:Heap) (items:Array Value):zBu (h.push { cls:=.type "tuple", data:=.seq items }) h.objs.size items:=⟨_,zVF _ rfl,rfl,⟨_,rfl⟩,rfl⟩
section
variable (P:Program) (w:World)
def zl (H:Hp) (h:Heap) (a:Addr):HO -> Prop
 | .lst xs=>xs.length <= sizeLine /\ ∃ (its:List Value) (n:Nat),zW xs its /\ h.get? a = some { cls:=.type "list", data:=.seq its.toArray n }
 | .tup xs=>xs.length <= sizeLine /\ ∃ its:List Value,zW xs its /\ zBu h a its.toArray
 | .dK kvs=>kvs.length <= sizeLine /\ (a == sysModules) = false /\ ∃ vs,KV kvs vs /\ h.DictOf (zi P w) a vs
 | .dT kvs=>kvs.length <= sizeLine /\ (a == sysModules) = false /\ ∃ xs:List (List Key × Addr × Value),
   Paired (fun (p:List Key × V) (q:List Key × Addr × Value)=>p.1 = q.1 /\ H q.2.1 = some (.tup (p.1.map kV)) /\ za p.2 q.2.2) kvs xs /\
   ∃ o es ep,h.get? a = some o /\ o.ExactDict /\ o.data = .dict es ep /\ es.toList = xs.map (entryOfKey (tupleKind (zi P w))) /\ (xs.map (·.1)).Nodup
 | .set S n=>h.SetOf (intKind P w) a S n
 | .ins C dx fs=>H dx = some (.own a) /\ fs.length <= 1000 /\ dx ≠ a /\ h.get? a = some (PySem.W.instObj C dx) /\
   ∃ mA,h.Ns1 dx mA /\ (∀ f,zEd (fs.lookup f) (mA f)) /\ PySem.Within mA (fs.map (·.1))
 | .own _=>∃ o,h.get? a = some o
 | .xd fs=>∃ mA,h.Ns1 a mA /\ ∀ f,zEd (fs.lookup f) (mA f)
 | .rng lo hi=>∃ t u v,h.get? a = some { cls:=.type "range", data:=.fields #[.int lo t,.int hi u,.int 1 v] }
 | .frz o u=>h.get? a = some o /\ zl H h a u
 | .tbl ps=>h.get? a = some { cls:=.none,data:=.fields ps }
 | .met f x=>h.get? a = some (PySem.W.methodObj (.ref f) (.ref x))
 | .ext φ=>φ h /\ (∃ o,h.get? a = some o) /\ ∀ h1 h2:Heap,φ h1 -> (∀ o,h1.get? a = some o -> h2.get? a = some o) -> φ h2
def HOk (H:Hp) (h:Heap):Prop:=∀ a o,H a = some o -> zl P w H h a o
end
section
variable {P:Program} {w:World} {H H':Hp} {h h':Heap} {a:Addr} {o:HO}
theorem zl.lt (x:zl P w H h a o):a < h.objs.size:=by
 cases o with
 | lst xs=>obtain ⟨_,_,_,_,e⟩:=x; exact zVG e
 | tup xs=>obtain ⟨_,_,_,p⟩:=x; exact p.lt
 | dK kvs=>obtain ⟨_,_,_,_,o,_,_,e,_⟩:=x; exact zVG e
 | dT kvs=>obtain ⟨_,_,_,_,o,_,_,e,_⟩:=x; exact zVG e
 | set S n=>obtain ⟨o,_,_,_,e,_⟩:=x; exact zVG e
 | ins C dx fs=>obtain ⟨_,_,_,e,_⟩:=x; exact zVG e
 | own y=>obtain ⟨_,e⟩:=x; exact zVG e
 | xd fs=>obtain ⟨_,⟨_,_,_,e,_⟩,_⟩:=x; exact zVG e
 | rng lo hi=>obtain ⟨_,_,_,e⟩:=x; exact zVG e
 | frz ob u=>obtain ⟨e,_⟩:=x; exact zVG e
 | tbl ps=>exact zVG (show h.get? a = some _ from x)
 | met f y=>exact zVG (show h.get? a = some _ from x)
 | ext φ=>obtain ⟨_,⟨_,e⟩,_⟩:=x; exact zVG e
theorem Paired.mapP {α β:Type} {F G:α -> β -> Prop}:∀ {l₁:List α} {l₂:List β},Paired F l₁ l₂ -> (∀ a b,F a b -> G a b) -> Paired G l₁ l₂
 | _,_,.nil,_=> .nil
 | _,_,.cons r t,f=> .cons (f _ _ r) (Paired.mapP t f)
theorem zl.stay (x:zl P w H h a o) (k:∀ b u,(b = a \/ H b = some (.own a)) -> h.get? b = some u -> h'.get? b = some u)
  (ho:∀ b,H b = some (.own a) -> H' b = some (.own a)) (ht:∀ b xs,H b = some (.tup xs) -> H' b = some (.tup xs)):zl P w H' h' a o:=by
 induction o with
 | lst xs=>obtain ⟨z,its,n,r,e⟩:=x; exact ⟨z,its,n,r,k _ _ (.inl rfl) e⟩
 | tup xs=>obtain ⟨z,its,r,ob,e,c⟩:=x; exact ⟨z,its,r,ob,k _ _ (.inl rfl) e,c⟩
 | dK kvs=>obtain ⟨z,y,vs,r,ob,es,ep,e,c⟩:=x; exact ⟨z,y,vs,r,ob,es,ep,k _ _ (.inl rfl) e,c⟩
 | dT kvs=>
  obtain ⟨z,y,xs,r,ob,es,ep,e,c⟩:=x;exact ⟨z,y,xs,Paired.mapP r fun p q z=>⟨z.1,ht _ _ z.2.1,z.2.2⟩,ob,es,ep,k _ _ (.inl rfl) e,c⟩
 | set S n=>obtain ⟨ob,es,ep,t,e,c⟩:=x; exact ⟨ob,es,ep,t,k _ _ (.inl rfl) e,c⟩
 | ins C dx fs=>
  obtain ⟨d,z,ne,e,mA,⟨od,es,ep,e2,c⟩,r⟩:=x;exact ⟨ho _ d,z,ne,k _ _ (.inl rfl) e,mA,⟨od,es,ep,k _ _ (.inr d) e2,c⟩,r⟩
 | own y=>obtain ⟨ob,e⟩:=x; exact ⟨ob,k _ _ (.inl rfl) e⟩
 | xd fs=>obtain ⟨mA,⟨od,es,ep,e,c⟩,r⟩:=x; exact ⟨mA,⟨od,es,ep,k _ _ (.inl rfl) e,c⟩,r⟩
 | rng lo hi=>obtain ⟨t,u,v,e⟩:=x; exact ⟨t,u,v,k _ _ (.inl rfl) e⟩
 | frz ob u ih=>obtain ⟨e,q⟩:=x; exact ⟨k _ _ (.inl rfl) e,ih q⟩
 | tbl ps=>
  have e:h.get? a = some { cls:=.none,data:=.fields ps }:=x;show h'.get? a = some { cls:=.none,data:=.fields ps };exact k a _ (.inl rfl) e
 | met f y=>
  have e:h.get? a = some (PySem.W.methodObj (.ref f) (.ref y)):=x;show h'.get? a = some (PySem.W.methodObj (.ref f) (.ref y));exact k a _ (.inl rfl) e
 | ext φ=>obtain ⟨p,⟨o,e⟩,st⟩:=x; exact ⟨st _ _ p fun o q=>k _ _ (.inl rfl) q,⟨o,k _ _ (.inl rfl) e⟩,st⟩
theorem HOk.lt (x:HOk P w H h) (e:H a = some o):a < h.objs.size:=(x a o e).lt
theorem HOk.fresh (x:HOk P w H h) (e:h.objs.size <= a):H a = none:=by
 cases q:H a with
 | none=>rfl
 | some u=>exact absurd (zVU (x.lt q) e) (zVn _)
theorem HOk.kept (x:HOk P w H h) (k:∀ b u,h.get? b = some u -> h'.get? b = some u):HOk P w H h':=fun a o e=>
 (x a o e).stay (fun b u _ q=>k b u q) (fun _ q=>q) fun _ _ q=>q
theorem HOk.laid (x:HOk P w H h) (k:∀ b u,h.get? b = some u -> h'.get? b = some u) (hp:h.objs.size <= a) (new:zl P w (upd H a o) h' a o):HOk P w (upd H a o) h':=fun b u e=>by
 have hn:=x.fresh hp;by_cases hb:b = a
 ·subst hb; rw [zo] at e; cases e; exact new
 ·rw [zS hb] at e;exact (x b u e).stay (fun c v _ q=>k c v q) (fun c q=>by rw [zS (zk q hn)]; exact q) fun c xs q=>by rw [zS (zk q hn)]; exact q
end
def Rd (H:Hp) (a:Addr) (u:HO):Prop:=H a = some u \/ ∃ o,H a = some (.frz o u)
theorem Rd.ok {P:Program} {w:World} {H:Hp} {h:Heap} {a:Addr} {u:HO} (r:Rd H a u) (x:HOk P w H h):zl P w H h a u:=by
 rcases r with r | ⟨o,r⟩
 ·exact x a u r
 ·obtain ⟨_,q⟩:=x a _ r;exact q
def Mut:Option HO -> Prop
 | some (.lst _)=>True
 | some (.dK _)=>True
 | some (.dT _)=>True
 | some (.set _ _)=>True
 | some (.ins _ _ _)=>True
 | some (.ext _)=>True
 | _=>False
section
variable {P:Program} {w:World} {H:Hp} {h h':Heap} {x e:Addr} {o':HO}
theorem HOk.write (ok:HOk P w H h) (mu:Mut (H x)) (he:e = x \/ H e = some (.own x)) (k:∀ b u,b ≠ e -> h.get? b = some u -> h'.get? b = some u) (heo:∃ u,h'.get? e = some u)
  (new:zl P w (upd H x o') h' x o'):HOk P w (upd H x o') h':=fun b u q=>by
 have nown:∀ c y,H c = some (.own y) -> c ≠ x:=fun c y r z=>by subst z; rw [r] at mu; exact mu
 have ntup:∀ c xs,H c = some (.tup xs) -> c ≠ x:=fun c xs r z=>by subst z; rw [r] at mu; exact mu
 by_cases hb:b = x
 ·subst hb; rw [zo] at q; cases q; exact new
 ·rw [zS hb] at q;by_cases hbe:b = e
  ·have q':H b = some (.own x):=by
    rcases he with z | z
    ·exact absurd (hbe.trans z) hb
    ·rw [hbe]; exact z
   rw [q] at q'; cases q';obtain ⟨v,hv⟩:=heo;exact ⟨v,by rw [hbe]; exact hv⟩
  ·refine (ok b u q).stay (fun c v hc r=>k c v ?_ r) (fun c r=>by rw [zS (nown c b r)]; exact r) fun c xs r=>by rw [zS (ntup c xs r)]; exact r
   rcases hc with rfl | hc
   ·exact hbe
   ·rintro rfl;rcases he with z | z
    ·exact nown c b hc z
    ·rw [hc] at z; cases z; exact hb rfl
end
structure Un (fs ex:List Addr) (H H':Hp) (h h':Heap):Prop where
 keep:∀ b o,h.get? b = some o -> H b = none -> b ∉ fs -> b ∉ ex -> h'.get? b = some o
 slot:∀ b o,h.get? b = some o -> H b = none -> b ∈ fs -> b ∉ ex -> ∃ sl,h'.get? b = some { o with slots:=sl }
 free:∀ b o,h.get? b = some o -> H b = none -> b ∉ ex -> H' b = none
 there:∀ b o,h.get? b = some o -> b ∉ ex -> ∃ o',h'.get? b = some o'
 tups:∀ b xs,H b = some (.tup xs) -> H' b = some (.tup xs)
 frzs:∀ b o u,H b = some (.frz o u) -> H' b = some (.frz o u)
 tbls:∀ b ps,H b = some (.tbl ps) -> ∃ more,H' b = some (.tbl (ps ++ more))
section
variable {fs fs' ex ex':List Addr} {H H1 H2:Hp} {h h1 h2 h':Heap} {a x e:Addr} {o:HO}
theorem Un.any (u:Un fs ex H H1 h h1) {b:Addr} {ob:Obj} (q:h.get? b = some ob) (n:H b = none) (hx:b ∉ ex):∃ sl,h1.get? b = some { ob with slots:=sl }:=by
 by_cases hb:b ∈ fs
 ·exact u.slot b ob q n hb hx
 ·exact ⟨ob.slots,u.keep b ob q n hb hx⟩
theorem Un.kept (k:∀ b u,h.get? b = some u -> h'.get? b = some u):Un fs ex H H h h' :=
 ⟨fun b ob q _ _ _=>k b ob q,fun b ob q _ _ _=>⟨ob.slots,k b ob q⟩,fun _ _ _ n _=>n,fun b ob q _=>⟨ob,k b ob q⟩,fun _ _ q=>q,fun _ _ _ q=>q,fun _ ps q=>⟨#[],by rw [q]; simp⟩⟩
theorem Un.refl:Un fs ex H H h h:=Un.kept fun _ _ q=>q
theorem Un.laid (k:∀ b u,h.get? b = some u -> h'.get? b = some u) (hp:h.objs.size <= a) (hn:H a = none):Un fs ex H (upd H a o) h h' where
 keep:=fun b u q _ _ _=>k b u q;slot:=fun b u q _ _ _=>⟨u.slots,k b u q⟩;free:=fun b u q n _=>by rw [zS (zVQ (zVU (zVG q) hp))]; exact n
 there:=fun b u q _=>⟨u,k b u q⟩;tups:=fun b xs q=>by rw [zS (zk q hn)]; exact q
 frzs:=fun b u xs q=>by rw [zS (zk q hn)]; exact q
 tbls:=fun b ps q=>⟨#[],by rw [zS (zk q hn),q]; simp⟩
theorem Un.write (mu:Mut (H x)) (he:e = x \/ H e = some (.own x)) (k:∀ b u,b ≠ e -> h.get? b = some u -> h'.get? b = some u) (heo:∃ u,h'.get? e = some u):Un fs ex H (upd H x o) h h':=by
 have hx:∀ b,H b = none -> b ≠ x:=fun b n z=>by subst z; rw [n] at mu; exact mu
 have hb:∀ b,H b = none -> b ≠ e:=fun b n z=>by
  subst z;rcases he with r | r
  ·exact hx b n r
  ·rw [n] at r; cases r
 have hm:∀ b u,H b = some u -> ¬ Mut (some u) -> b ≠ x:=fun b u q nm z=>by subst z; rw [q] at mu; exact nm mu
 refine ⟨fun b u q n _ _=>k b u (hb b n) q,fun b u q n _ _=>⟨u.slots,k b u (hb b n) q⟩,fun b u q n _=>by rw [zS (hx b n)]; exact n,fun b u q _=>?_,
  fun b xs q=>by rw [zS (hm b _ q fun z=>z)]; exact q,fun b u xs q=>by rw [zS (hm b _ q fun z=>z)]; exact q,fun b ps q=>⟨#[],by rw [zS (hm b _ q fun z=>z),q]; simp⟩⟩
 by_cases hbe:b = e
 ·subst hbe; exact heo
 ·exact ⟨u,k b u hbe q⟩
end
def trk (h:Heap) (H:Hp):List Addr:=(List.range h.objs.size).filter fun a=>(H a).isSome
def zHe (h:Heap) (H:Hp):Heap:=PySem.W.hideAll h (trk h H)
theorem zMX (h:Heap) (H:Hp):(zHe h H).objs.size = h.objs.size:=PySem.W.hideAll_size _ _
theorem zOa {h:Heap} {H:Hp} {b:Addr} {o:Obj} (e:h.get? b = some o) (n:H b = none):(zHe h H).get? b = some o :=
 PySem.W.hideAll_get _ e fun hm=>by
  have q:(H b).isSome = true:=(zWG.mp hm).2;rw [n] at q; simp at q
theorem zRE {h:Heap} {H:Hp} {b:Addr} {o:Obj} (e:(zHe h H).get? b = some o):h.get? b = some o /\ H b = none:=by
 have e':h.get? b = some o:=PySem.W.of_hideAll (trk h H) e;refine ⟨e',?_⟩;cases q:H b with
 | none=>rfl
 | some x=>
  have hm:b ∈ trk h H:=zWG.mpr ⟨zVj.mpr (zVG e'),by simp [q]⟩;have z:(zHe h H).get? b = none:=PySem.W.hideAll_none (trk h H) hm;rw [z] at e; cases e
structure Mod (K:PySem.W.Frag) (mg:Str -> Option Value) (base:Heap):Prop where
 kin:K.In base
 glob:base.Ns mainGlobals mg
 blt:∃ mb,base.Ns builtinsNs mb /\ ∀ x:Str,x ≠ "__name__" -> mb x = bootBuiltins x
 nolimit:base.NoLimit
structure Cx where
 prog:Program
 w:World
 K:PySem.W.Frag
 mg:Str -> Option Value
 base:Heap
 A:Around
 N:List Str
 s₀:Shared
 H₀:Hp
 env:Env
 outer:List Env
 stack:List Env
 ex:List Addr
 fn:Str -> Bool
 calm:Bool
 pn:List (Addr × Obj)
 xe:Value -> Shared -> Prop
def frs (l:List Env):List Addr:=l.filterMap (·.frame)
abbrev Cx.fs (X:Cx):List Addr:=frs X.outer
def Vis (sc:Scope) (x:Str):Prop:=sc.names.lookup x = some .local \/ sc.names.lookup x = some .cell \/ sc.names.lookup x = some .free
def Loc (sc:Scope) (x:Str):Prop:=sc.names.lookup x = some .local \/ sc.names.lookup x = some .cell
def zUf (env:Env) (h:Heap) (m:Str -> Option Value) (x:Str) (u:Value):Prop :=
 (env.kindOf x = some .local /\ m x = some u) \/ ((env.kindOf x = some .cell \/ env.kindOf x = some .free) /\ ∃ c,env.cells.lookup x = some c /\ h.IsCell c (some u))
structure Cx.Ok (X:Cx):Prop where
 mod:Mod X.K X.mg X.base
 kind:X.env.scope.kind = .function
 glob:X.env.globals = mainGlobals
 blt:X.env.builtins = builtinsNs
 above:X.s₀.heap.objs.size <= X.env.locals
 inj:∀ x y c,X.env.cells.lookup x = some c -> X.env.cells.lookup y = some c -> x = y
 has:∀ x,(X.env.kindOf x = some .cell \/ X.env.kindOf x = some .free) -> ∃ c,X.env.cells.lookup x = some c
 cab:∀ x c,X.fn x = true -> X.env.cells.lookup x = some c -> X.s₀.heap.objs.size <= c
 hd:X.calm = true -> X.A.handled = none
 frames:X.A.frames = some X.stack
 stk:X.stack = X.outer \/ (X.stack = X.env :: X.outer /\ X.env.frame = some X.env.locals)
 exf:∀ b ∈ X.ex,b ≠ X.env.locals /\ ∀ x c,X.env.cells.lookup x = some c -> c ≠ b
 bs:∀ b o,X.base.get? b = some o -> X.s₀.heap.get? b = some o /\ X.H₀ b = none
 bsz:X.base.objs.size <= X.s₀.heap.objs.size
 noex:∀ b o,X.base.get? b = some o -> b ∉ X.ex
 exfs:∀ b ∈ X.ex,b ∉ X.fs
 funs:X.s₀.heap.FunFrames X.base X.outer
 frf:∀ b ∈ X.fs,X.H₀ b = none
structure Inv (X:Cx) (zB:List (Addr × Obj)) (σ:List (Option V)) (H:Hp) (s:Shared):Prop where
 ok:X.Ok
 os:s.os = X.s₀.os
 bare:AllBare s.gens
 base:Un X.fs X.ex X.H₀ H X.s₀.heap s.heap
 loc:∃ m,s.heap.Ns X.env.locals m /\ ∀ (i:Nat) (x:Str) (v:V),X.N[i]? = some x -> σ[i]? = some (some v) -> Vis X.env.scope x -> ∃ u,za v u /\ zUf X.env s.heap m x u
 cell:∀ x c,X.env.cells.lookup x = some c -> ∃ v,s.heap.IsCell c v
 free:H X.env.locals = none
 freeC:∀ x c,X.env.cells.lookup x = some c -> H c = none
 pin:∀ p ∈ X.pn ++ zB,s.heap.get? p.1 = some p.2 /\ H p.1 = none /\ p.1 ≠ X.env.locals /\ p.1 ∉ X.fs /\ ∀ v,p.2.data ≠ .cell v
 hok:HOk X.prog X.w H s.heap
 len:σ.length = X.N.length
section
variable {X:Cx} {zB:List (Addr × Obj)} {σ:List (Option V)} {H H':Hp} {s:Shared} {h':Heap}
theorem Cx.Ok.nofr (ok:X.Ok) {b:Addr} {o:Obj} (e:X.base.get? b = some o):b ∉ X.fs:=fun hb=>by
 have:=(ok.funs.mem hb).1;rw [e] at this; cases this
theorem Inv.bs (I:Inv X zB σ H s):∀ b o,X.base.get? b = some o -> s.heap.get? b = some o /\ H b = none:=fun b o e=>
 ⟨I.base.keep b o (I.ok.bs b o e).1 (I.ok.bs b o e).2 (I.ok.nofr e) (I.ok.noex b o e),I.base.free b o (I.ok.bs b o e).1 (I.ok.bs b o e).2 (I.ok.noex b o e)⟩
theorem Inv.bk (I:Inv X zB σ H s):∀ b o,X.base.get? b = some o -> s.heap.get? b = some o:=fun b o e=>(I.bs b o e).1
theorem Inv.mod (I:Inv X zB σ H s):Mod X.K X.mg X.base:=I.ok.mod
theorem Inv.kIn (I:Inv X zB σ H s):X.K.In s.heap:=I.ok.mod.kin.keeps I.bk
theorem Inv.lt (I:Inv X zB σ H s):X.env.locals < s.heap.objs.size:=let ⟨_,hn,_⟩:=I.loc; hn.lt
theorem Inv.sz (I:Inv X zB σ H s):X.s₀.heap.objs.size <= s.heap.objs.size:=zVW I.ok.above (Nat.le_of_lt I.lt)
theorem Inv.nofs (I:Inv X zB σ H s) {a:Addr} (h:s.heap.objs.size <= a):a ∉ X.fs:=fun hb=>by
 obtain ⟨_,o,ho,_⟩:=I.ok.funs.mem hb;exact absurd (zVU (zVG ho) (zVW I.sz h)) (zVn _)
theorem Inv.cne (I:Inv X zB σ H s):∀ x c,X.env.cells.lookup x = some c -> c ≠ X.env.locals:=fun x c e z=>by
 obtain ⟨v,o,ho,hd⟩:=I.cell x c e;obtain ⟨m,⟨o',es,ep,ho',hd',_⟩,_⟩:=I.loc;rw [z,ho'] at ho; cases ho; rw [hd'] at hd; cases hd
theorem Inv.funs (I:Inv X zB σ H s):s.heap.FunFrames X.base X.outer:=by
 have all:∀ (l:List Env),(∀ b ∈ frs l,b ∈ X.fs) -> X.s₀.heap.FunFrames X.base l -> s.heap.FunFrames X.base l:=by
  intro l;induction l with
  | nil=>intro _ _; trivial
  | cons env r ih=>
   intro hs hl;obtain ⟨hk,⟨L,o,hf,hn,ho,hd⟩,hr⟩:=hl;have hL:L ∈ X.fs:=hs L (by unfold frs; rw [List.filterMap_cons,hf]; exact zVJ);obtain ⟨sl,e⟩:=I.base.slot L o ho (I.ok.frf L hL) hL fun z=>I.ok.exfs L z hL;exact ⟨hk,⟨L,_,hf,hn,e,hd⟩,ih (fun b hb=>hs b (by unfold frs; rw [List.filterMap_cons,hf]; exact zVI _ hb)) hr⟩
 exact all X.outer (fun _ hb=>hb) I.ok.funs
theorem Inv.stack (I:Inv X zB σ H s):s.heap.FunFrames X.base X.stack:=by
 rcases I.ok.stk with e | ⟨e,hf⟩
 ·rw [e]; exact I.funs
 ·rw [e];obtain ⟨m,hn,_⟩:=I.loc;refine .cons (by rw [I.ok.kind]; decide) hf hn ?_ I.funs;exact Heap.get?_none_of_le (zVW I.ok.bsz I.ok.above)
theorem Inv.stkSub (I:Inv X zB σ H s):∀ b ∈ frs X.stack,b ∈ X.env.locals :: X.fs:=fun b hb=>by
 rcases I.ok.stk with e | ⟨e,hf⟩
 ·rw [e] at hb; exact zVI _ hb
 ·rw [e] at hb;unfold frs at hb;rw [List.filterMap_cons,hf] at hb;exact hb
theorem Inv.stkFree (I:Inv X zB σ H s):∀ b ∈ frs X.stack,H b = none:=fun b hb=>by
 rcases zVH.mp (I.stkSub b hb) with e | hb
 ·rw [e]; exact I.free
 ·obtain ⟨_,o,ho,_⟩:=I.ok.funs.mem hb;exact I.base.free b o ho (I.ok.frf b hb) fun z=>I.ok.exfs b z hb
theorem Inv.step {g':Array GenState} {t':Nat} {d':Drawn} {ch:List Addr} (I:Inv X zB σ H s)
  (hch:∀ b ∈ ch,(b ∈ X.ex \/ X.s₀.heap.objs.size <= b) /\ b ≠ X.env.locals /\ (∀ x c,X.env.cells.lookup x = some c -> c ≠ b) /\ ∀ p ∈ X.pn ++ zB,p.1 ≠ b)
  (keep:∀ b o,b ≠ X.env.locals -> b ∉ X.fs -> b ∉ ch -> s.heap.get? b = some o -> H b = none -> h'.get? b = some o)
  (slot:∀ b o,b ≠ X.env.locals -> b ∈ X.fs -> b ∉ ch -> s.heap.get? b = some o -> H b = none -> ∃ sl,h'.get? b = some { o with slots:=sl }) (free:∀ b o,b ∉ ch -> s.heap.get? b = some o -> H b = none -> H' b = none)
  (there:∀ b o,b ∉ ch -> s.heap.get? b = some o -> ∃ o',h'.get? b = some o')
  (tups:∀ b xs,H b = some (.tup xs) -> H' b = some (.tup xs)) (frzs:∀ b o u,H b = some (.frz o u) -> H' b = some (.frz o u)) (tbls:∀ b ps,H b = some (.tbl ps) -> ∃ more,H' b = some (.tbl (ps ++ more)))
  (ns:∀ m,s.heap.Ns X.env.locals m -> h'.Ns X.env.locals m) (hok:HOk X.prog X.w H' h') (hg:AllBare g') :
  Inv X zB σ H' { s with heap:=h',gens:=g',drawn:=d',toks:=t' }:=by
 have neL:∀ b o,X.s₀.heap.get? b = some o -> b ≠ X.env.locals:=fun b o e=>zVQ (zVU (zVG e) I.ok.above);have neC:∀ b o,X.s₀.heap.get? b = some o -> b ∉ X.ex -> b ∉ ch:=fun b o e hx hb=>by
  rcases (hch b hb).1 with z | z
  ·exact hx z
  ·exact absurd (zVU (zVG e) z) (zVn _)
 have cellK:∀ x c,X.env.cells.lookup x = some c -> ∀ v,s.heap.IsCell c v -> h'.IsCell c v:=fun x c e v ⟨o,ho,hd⟩=>by
  have nch:c ∉ ch:=fun z=>(hch c z).2.2.1 x c e rfl;by_cases hc:c ∈ X.fs
  ·obtain ⟨sl,q⟩:=slot c o (I.cne x c e) hc nch ho (I.freeC x c e);exact ⟨_,q,hd⟩
  ·exact ⟨o,keep c o (I.cne x c e) hc nch ho (I.freeC x c e),hd⟩
 refine ⟨I.ok,I.os,hg,⟨fun b o e n hb hx=>?_,fun b o e n hb hx=>?_,fun b o e n hx=>?_,fun b o e hx=>?_,fun b xs e=>tups b xs (I.base.tups b xs e),fun b o xs e=>frzs b o xs (I.base.frzs b o xs e),fun b ps e=>?_⟩,?_,fun x c e=>?_,?_,fun x c e=>?_,fun p hp=>?_,hok,I.len⟩
 ·exact keep b o (neL b o e) hb (neC b o e hx) (I.base.keep b o e n hb hx) (I.base.free b o e n hx)
 ·obtain ⟨sl,e1⟩:=I.base.slot b o e n hb hx;obtain ⟨sl',e2⟩:=slot b _ (neL b o e) hb (neC b o e hx) e1 (I.base.free b o e n hx);exact ⟨sl',e2⟩
 ·obtain ⟨o',e1⟩:=I.base.there b o e hx;exact free b o' (neC b o e hx) e1 (I.base.free b o e n hx)
 ·obtain ⟨o',e1⟩:=I.base.there b o e hx;exact there b o' (neC b o e hx) e1
 ·obtain ⟨m1,e1⟩:=I.base.tbls b ps e;obtain ⟨m2,e2⟩:=tbls b _ e1;exact ⟨m1 ++ m2,by rw [e2,Array.append_assoc]⟩
 ·obtain ⟨m,hn,hl⟩:=I.loc;refine ⟨m,ns m hn,fun i x v e1 e2 e3=>?_⟩;obtain ⟨u,r,l⟩:=hl i x v e1 e2 e3;refine ⟨u,r,?_⟩;rcases l with l | ⟨k,c,e,z⟩
  ·exact .inl l
  ·exact .inr ⟨k,c,e,cellK x c e _ z⟩
 ·obtain ⟨v,z⟩:=I.cell x c e;exact ⟨v,cellK x c e v z⟩
 ·obtain ⟨m,⟨o,_,_,ho,_⟩,_⟩:=I.loc;exact free _ o (fun z=>(hch _ z).2.1 rfl) ho I.free
 ·obtain ⟨v,o,ho,hd⟩:=I.cell x c e;exact free c o (fun z=>(hch c z).2.2.1 x c e rfl) ho (I.freeC x c e)
 ·obtain ⟨e,n,ne,nf,d⟩:=I.pin p hp;have nch:p.1 ∉ ch:=fun z=>(hch p.1 z).2.2.2 p hp rfl;exact ⟨keep p.1 p.2 ne nf nch e n,free p.1 p.2 nch e n,ne,nf,d⟩
theorem Inv.un {t':Nat} (I:Inv X zB σ H s) (u:Un X.fs [] H H' s.heap h') (hok:HOk X.prog X.w H' h'):Inv X zB σ H' { s with heap:=h',toks:=t' }:=by
 obtain ⟨m,⟨o,es,ep,ho,r⟩,_⟩:=id I.loc;obtain ⟨sl,hL⟩:=u.any ho I.free (by simp);exact I.step (g':=s.gens) (d':=s.drawn) (ch:=[]) (fun _ z=>nomatch z) (fun b o _ hb _ e n=>u.keep b o e n hb (by simp)) (fun b o _ hb _ e n=>u.slot b o e n hb (by simp)) (fun b o _ e n=>u.free b o e n (by simp)) (fun b o _ e=>u.there b o e (by simp)) u.tups u.frzs u.tbls (fun m' hm=>by
  obtain ⟨o',es',ep',ho',r'⟩:=hm;rw [ho] at ho'; cases ho';exact ⟨_,es',ep',hL,r'⟩) hok I.bare
theorem Inv.call {g':Array GenState} {t':Nat} {d':Drawn} {ch:List Addr} (I:Inv X zB σ H s) (u:Un (frs X.stack) ch H H' s.heap h') (hok:HOk X.prog X.w H' h') (hg:AllBare g')
  (hch:∀ b ∈ ch,(b ∈ X.ex \/ X.s₀.heap.objs.size <= b) /\ b ≠ X.env.locals /\ (∀ x c,X.env.cells.lookup x = some c -> c ≠ b) /\ ∀ p ∈ X.pn ++ zB,p.1 ≠ b) :
  Inv X zB σ H' { s with heap:=h',gens:=g',drawn:=d',toks:=t' }:=by
 obtain ⟨m,⟨o,es,ep,ho,r⟩,_⟩:=id I.loc;obtain ⟨sl,hL⟩:=u.any ho I.free fun z=>(hch _ z).2.1 rfl;exact I.step (ch:=ch) hch (fun b o hL hb hc e n=>u.keep b o e n (fun z=>(zVH.mp (I.stkSub b z)).elim hL hb) hc) (fun b o _ _ hc e n=>u.any e n hc) (fun b o hc e n=>u.free b o e n hc) (fun b o hc e=>u.there b o e hc) u.tups u.frzs u.tbls (fun m' hm=>by
  obtain ⟨o',es',ep',ho',r'⟩:=hm;rw [ho] at ho'; cases ho';exact ⟨_,es',ep',hL,r'⟩) hok hg
theorem Inv.turned {t':Nat} {it:Addr} (I:Inv X zB σ H s) (k:∀ b o,b ≠ it -> s.heap.get? b = some o -> h'.get? b = some o) (hn:H it = none) (hL:it ≠ X.env.locals)
  (h1:it ∈ X.ex \/ X.s₀.heap.objs.size <= it) (h2:∀ x c,X.env.cells.lookup x = some c -> c ≠ it) (h3:∀ p ∈ X.pn ++ zB,p.1 ≠ it):Inv X zB σ H { s with heap:=h',toks:=t' }:=by
 have nit:∀ b u,H b = some u -> b ≠ it:=fun b u e z=>by rw [z,hn] at e; cases e
 refine I.step (g':=s.gens) (d':=s.drawn) (ch:=[it]) (fun b hb=>?_) (fun b o _ _ hc e _=>k b o (fun z=>hc (by simp [z])) e) (fun b o _ _ hc e _=>⟨o.slots,k b o (fun z=>hc (by simp [z])) e⟩) (fun _ _ _ _ n=>n)
  (fun b o hc e=>⟨o,k b o (fun z=>hc (by simp [z])) e⟩) (fun _ _ e=>e) (fun _ _ _ e=>e) (fun b ps e=>⟨#[],by rw [e]; simp⟩) (fun m hm=>?_) (fun b u e=>?_) I.bare
 ·have e:b = it:=by simpa using hb
  subst e;exact ⟨h1,hL,h2,h3⟩
 ·obtain ⟨o,es,ep,ho,r⟩:=hm;exact ⟨o,es,ep,k _ o (Ne.symm hL) ho,r⟩
 ·refine (I.hok b u e).stay (fun c v hc q=>k c v ?_ q) (fun _ q=>q) fun _ _ q=>q;rcases hc with z | z
  ·rw [z]; exact nit b u e
  ·exact nit c _ z
theorem Inv.tok (I:Inv X zB σ H s) (t:Nat):Inv X zB σ H { s with toks:=t }:=I.un (h':=s.heap) (t':=t) Un.refl I.hok
theorem Inv.kept {t':Nat} (I:Inv X zB σ H s) (k:∀ b u,s.heap.get? b = some u -> h'.get? b = some u):Inv X zB σ H { s with heap:=h',toks:=t' }:=I.un (Un.kept k) (I.hok.kept k)
theorem Inv.laid {a:Addr} {o:HO} {t':Nat} (I:Inv X zB σ H s) (k:∀ b u,s.heap.get? b = some u -> h'.get? b = some u) (hp:s.heap.objs.size <= a) (new:zl X.prog X.w (upd H a o) h' a o) :
  Inv X zB σ (upd H a o) { s with heap:=h',toks:=t' }:=I.un (Un.laid k hp (I.hok.fresh hp)) (I.hok.laid k hp new)
theorem Inv.write {x e:Addr} {o:HO} {t':Nat} (I:Inv X zB σ H s) (mu:Mut (H x)) (he:e = x \/ H e = some (.own x)) (k:∀ b u,b ≠ e -> s.heap.get? b = some u -> h'.get? b = some u) (heo:∃ u,h'.get? e = some u)
  (new:zl X.prog X.w (upd H x o) h' x o):Inv X zB σ (upd H x o) { s with heap:=h',toks:=t' }:=I.un (Un.write mu he k heo) (I.hok.write mu he k heo new)
theorem Inv.weak {σ':List (Option V)} (I:Inv X zB σ H s) (hl:σ'.length = σ.length) (w:∀ (i:Nat) v,σ'[i]? = some (some v) -> σ[i]? = some (some v)):Inv X zB σ' H s :=
 ⟨I.ok,I.os,I.bare,I.base,let ⟨m,hn,hl'⟩:=I.loc; ⟨m,hn,fun i x v e1 e2 e3=>hl' i x v e1 (w i v e2) e3⟩,I.cell,I.free,I.freeC,I.pin,I.hok,hl.trans I.len⟩
theorem Inv.pins_of {pins':List (Addr × Obj)} (I:Inv X zB σ H s) (h:∀ p ∈ pins',s.heap.get? p.1 = some p.2 /\ H p.1 = none /\ p.1 ≠ X.env.locals /\ p.1 ∉ X.fs /\ ∀ v,p.2.data ≠ .cell v):Inv X pins' σ H s :=
 ⟨I.ok,I.os,I.bare,I.base,I.loc,I.cell,I.free,I.freeC,fun p hp=>(zVV.mp hp).elim (fun z=>I.pin p (zWK _ z)) (h p),I.hok,I.len⟩
theorem zJK {N:List Str} (hN:N.Nodup) {i j:Nat} {x:Str} (a:N[i]? = some x) (b:N[j]? = some x):i = j:=by
 obtain ⟨h1,e1⟩:=zU8.mp a;obtain ⟨h2,e2⟩:=zU8.mp b;exact (List.getElem_inj hN).mp (e1.trans e2.symm)
theorem zLr {M:Model} {A:Around} {E:Value -> Shared -> Prop} {i:Nat} {x:Str} {v:V} {u:Value} {Q:Unit -> Shared -> Prop} (I:Inv X zB σ H s) (hN:X.N.Nodup) (hi:X.N[i]? = some x) (hx:Loc X.env.scope x) (r:za v u)
  (h:∀ s',Inv X zB (σ.set i (some v)) H s' -> (∃ a,Heap.SameBut a s.heap s'.heap /\ (a = X.env.locals \/ X.env.cells.lookup x = some a)) -> Q () s') (hf:X.fn x = true \/ X.env.scope.names.lookup x = some .local:=by first | exact .inl rfl | exact .inr rfl | assumption):wpAny M A (storeName X.env x u) Q E s:=by
 obtain ⟨m,hn,hl⟩:=id I.loc;have hcls:(X.env.scope.kind == .class || (X.env.scope.kind == .module && X.env.locals != X.env.globals)) = false:=by rw [I.ok.kind]; rfl
 have hiσ:i < σ.length:=by rw [I.len]; exact (zU8.mp hi).1
 have cne:=I.cne;have tracked:∀ {a:Addr} {h':Heap},(∃ o,s.heap.get? a = some o /\ H a = none) -> Heap.SameBut a s.heap h' -> HOk X.prog X.w H h':=fun {a h'} ha hs b ob e=>by
  obtain ⟨_,_,hfree⟩:=ha;refine (I.hok b ob e).stay (fun c w' hc q=>(hs.2 c ?_).trans q) (fun _ q=>q) fun _ _ q=>q;rintro rfl;rcases hc with rfl | hc
  ·rw [hfree] at e; cases e
  ·rw [hfree] at hc; cases hc
 rcases hx with hk | hk
 ·refine wpAny_storeName_local hk hn (fun h' hn' hs=>?_) hcls;obtain ⟨oL,_,_,hoL,_⟩:=id hn;refine h _ ⟨I.ok,I.os,I.bare,⟨fun b o e n hb hx=>?_,fun b o e n hb hx=>?_,I.base.free,fun b o e hx=>?_,I.base.tups,I.base.frzs,I.base.tbls⟩,⟨_,hn',fun j y v' e1 e2 e3=>?_⟩,fun y c e=>?_,I.free,I.freeC,fun p hp=>?_,tracked ⟨oL,hoL,I.free⟩ hs,by simpa using I.len⟩ ⟨_,hs,.inl rfl⟩
  ·exact (hs.2 b (zVQ (zVU (zVG e) I.ok.above))).trans (I.base.keep b o e n hb hx)
  ·obtain ⟨sl,e1⟩:=I.base.slot b o e n hb hx;exact ⟨sl,(hs.2 b (zVQ (zVU (zVG e) I.ok.above))).trans e1⟩
  ·obtain ⟨o',e1⟩:=I.base.there b o e hx;exact ⟨o',(hs.2 b (zVQ (zVU (zVG e) I.ok.above))).trans e1⟩
  ·by_cases hj:j = i
   ·subst hj;rw [hi] at e1; cases e1;rw [zVz hiσ] at e2;cases e2;exact ⟨u,r,.inl ⟨hk,by simp⟩⟩
   ·rw [zVZ (Ne.symm hj)] at e2;obtain ⟨u',r',q⟩:=hl j y v' e1 e2 e3;refine ⟨u',r',?_⟩;rcases q with ⟨k,e⟩ | ⟨k,c,e,z⟩
    ·refine .inl ⟨k,?_⟩;have:y ≠ x:=fun e=>hj (zJK hN e1 (e ▸ hi));simp [this,e]
    ·exact .inr ⟨k,c,e,z.sameBut hs (cne y c e)⟩
  ·obtain ⟨w',z⟩:=I.cell y c e;exact ⟨w',z.sameBut hs (cne y c e)⟩
  ·obtain ⟨e,n,ne,nf,d⟩:=I.pin p hp;exact ⟨(hs.2 p.1 ne).trans e,n,ne,nf,d⟩
 ·have hfn:X.fn x = true:=by
   rcases hf with z | z
   ·exact z
   ·rw [z] at hk; cases hk
  obtain ⟨c,hc⟩:=I.ok.has x (.inl hk);obtain ⟨w',z⟩:=I.cell x c hc;refine wpAny_storeName_cell I.ok.kind hk hc z (fun h' hc' hs=>?_);obtain ⟨oc,hoc,hocd⟩:=id z;refine h { s with heap:=h' } ⟨I.ok,I.os,I.bare,⟨fun b o e n hb hx=>?_,fun b o e n hb hx=>?_,I.base.free,fun b o e hx=>?_,I.base.tups,I.base.frzs,I.base.tbls⟩,⟨m,hn.sameBut hs (Ne.symm (cne x c hc)),fun j y v' e1 e2 e3=>?_⟩,fun y c' e=>?_,I.free,I.freeC,fun p hp=>?_,tracked ⟨oc,hoc,I.freeC x c hc⟩ hs,by simpa using I.len⟩ ⟨c,hs,.inr hc⟩
  ·exact (hs.2 b (zVQ (zVU (zVG e) (I.ok.cab x c hfn hc)))).trans (I.base.keep b o e n hb hx)
  ·obtain ⟨sl,e1⟩:=I.base.slot b o e n hb hx;exact ⟨sl,(hs.2 b (zVQ (zVU (zVG e) (I.ok.cab x c hfn hc)))).trans e1⟩
  ·obtain ⟨o',e1⟩:=I.base.there b o e hx;exact ⟨o',(hs.2 b (zVQ (zVU (zVG e) (I.ok.cab x c hfn hc)))).trans e1⟩
  ·by_cases hj:j = i
   ·subst hj;rw [hi] at e1; cases e1;rw [zVz hiσ] at e2;cases e2;exact ⟨u,r,.inr ⟨.inl hk,c,hc,hc'⟩⟩
   ·rw [zVZ (Ne.symm hj)] at e2;obtain ⟨u',r',q⟩:=hl j y v' e1 e2 e3;refine ⟨u',r',?_⟩;rcases q with q | ⟨k,c',e,z'⟩
    ·exact .inl q
    ·refine .inr ⟨k,c',e,z'.sameBut hs ?_⟩;rintro rfl;exact hj (zJK hN e1 (I.ok.inj _ _ _ e hc ▸ hi))
  ·by_cases hcc:c' = c
   ·subst hcc; exact ⟨_,hc'⟩
   ·obtain ⟨w2,z2⟩:=I.cell y c' e;exact ⟨w2,z2.sameBut hs hcc⟩
  ·obtain ⟨e,n,ne,nf,d⟩:=I.pin p hp;refine ⟨(hs.2 p.1 ?_).trans e,n,ne,nf,d⟩;intro q;rw [q,hoc] at e;have q':oc = p.2:=zV5 e;exact d w' (by rw [<- q']; exact hocd)
theorem zJA {M:Model} {A:Around} {E:Value -> Shared -> Prop} {i:Nat} {x:Str} {v:V} {u:Value} {Q:Unit -> Shared -> Prop} (I:Inv X zB σ H s) (hN:X.N.Nodup) (hi:X.N[i]? = some x) (hx:Loc X.env.scope x) (r:za v u)
  (h:∀ s',Inv X zB (σ.set i (some v)) H s' -> Q () s') (hf:X.fn x = true \/ X.env.scope.names.lookup x = some .local:=by first | exact .inl rfl | exact .inr rfl | assumption):wpAny M A (storeName X.env x u) Q E s :=
 zLr I hN hi hx r (fun s' I' _=>h s' I') hf
theorem Inv.call' {s':Shared} {ch:List Addr} (I:Inv X zB σ H s) (ho:s'.os = s.os) (u:Un (frs X.stack) ch H H' s.heap s'.heap) (hok:HOk X.prog X.w H' s'.heap) (hg:AllBare s'.gens)
  (hch:∀ b ∈ ch,(b ∈ X.ex \/ X.s₀.heap.objs.size <= b) /\ b ≠ X.env.locals /\ (∀ x c,X.env.cells.lookup x = some c -> c ≠ b) /\ ∀ p ∈ X.pn ++ zB,p.1 ≠ b):Inv X zB σ H' s':=by
 obtain ⟨h',g',d',t',o'⟩:=s';have e:o' = s.os:=ho;subst e;exact I.call (g':=g') (t':=t') (d':=d') u hok hg hch
end
abbrev XK:=Value -> Option Addr -> Hp -> Prop
abbrev St:=List (Option V)
abbrev VK:=V -> Hp -> Prop
abbrev TE:=St -> Hp -> VK -> Prop
abbrev TT:=St -> Hp -> (Bool -> Hp -> Prop) -> Prop
abbrev TA:=St -> Hp -> (List V -> Hp -> Prop) -> Prop
structure Ends where
 nx:St -> Hp -> Prop
 rt:VK
 bk:St -> Hp -> Prop:=fun _ _=>False
 ct:St -> Hp -> Prop:=fun _ _=>False
abbrev TS:=Ends -> St -> Hp -> Prop
def EP (X:Cx) (zB:List (Addr × Obj)) (σ:St) (Q:VK) (u:Value) (s':Shared):Prop:=∃ v H',Inv X zB σ H' s' /\ za v u /\ Q v H'
def TP (X:Cx) (zB:List (Addr × Obj)) (σ:St) (Q:Bool -> Hp -> Prop) (b:Bool) (s':Shared):Prop:=∃ H',Inv X zB σ H' s' /\ Q b H'
def AP (X:Cx) (zB:List (Addr × Obj)) (σ:St) (Q:List V -> Hp -> Prop) (us:List Value) (s':Shared):Prop:=∃ vs H',Inv X zB σ H' s' /\ zW vs us /\ Q vs H'
def SP (X:Cx) (zB:List (Addr × Obj)) (D:Ends) (f:Flow) (s':Shared):Prop :=
 match f with
 | .next=>∃ σ' H',Inv X zB σ' H' s' /\ D.nx σ' H'
 | .brk=>∃ σ' H',Inv X zB σ' H' s' /\ D.bk σ' H'
 | .cont=>∃ σ' H',Inv X zB σ' H' s' /\ D.ct σ' H'
 | .ret u=>∃ v σ' H',Inv X zB σ' H' s' /\ za v u /\ D.rt v H'
def PE (X:Cx) (e:Expr) (t:TE):Prop :=
 ∀ (zB:List (Addr × Obj)) (s:Shared) (σ:St) (H:Hp) (Q:VK),Inv X zB σ H s -> t σ H Q -> wpAny (model X.prog X.w) X.A (eval e X.env) (EP X zB σ Q) X.xe s
def PT (X:Cx) (e:Expr) (t:TT):Prop :=
 ∀ (zB:List (Addr × Obj)) (s:Shared) (σ:St) (H:Hp) (Q:Bool -> Hp -> Prop),Inv X zB σ H s -> t σ H Q -> wpAny (model X.prog X.w) X.A (isTrue e X.env (eval e X.env)) (TP X zB σ Q) X.xe s
def PW (X:Cx) (e:Expr) (t:TT):Prop :=
 ∀ (whole:Sem Value) (zB:List (Addr × Obj)) (s:Shared) (σ:St) (H:Hp) (Q:Bool -> Hp -> Prop),Inv X zB σ H s -> t σ H Q -> wpAny (model X.prog X.w) X.A (isTrue e X.env whole) (TP X zB σ Q) X.xe s
theorem PW.pt {X:Cx} {e:Expr} {t:TT} (h:PW X e t):PT X e t:=h _
def PA (X:Cx) (es:List Expr) (t:TA):Prop :=
 ∀ (pos:Pos) (zB:List (Addr × Obj)) (s:Shared) (σ:St) (H:Hp) (Q:List V -> Hp -> Prop),Inv X zB σ H s -> t σ H Q -> wpAny (model X.prog X.w) X.A (spliced (backTo pos (starEach es X.env))) (AP X zB σ Q) X.xe s
def PS (X:Cx) (st:Stmt) (t:TS):Prop :=
 ∀ (zB:List (Addr × Obj)) (s:Shared) (σ:St) (H:Hp) (D:Ends),Inv X zB σ H s -> t D σ H -> wpAny (model X.prog X.w) X.A (exec st X.env) (SP X zB D) X.xe s
def PSs (X:Cx) (st:List Stmt) (t:TS):Prop :=
 ∀ (zB:List (Addr × Obj)) (s:Shared) (σ:St) (H:Hp) (D:Ends),Inv X zB σ H s -> t D σ H -> wpAny (model X.prog X.w) X.A (execs st X.env) (SP X zB D) X.xe s
theorem thn {α:Type} {t:Sem α} {Q Q':α -> Shared -> Prop} {M:Model} {A:Around} {E:Value -> Shared -> Prop} {s:Shared} (h:wpAny M A t Q E s) (hQ:∀ a s,Q a s -> Q' a s):wpAny M A t Q' E s:=zVb h hQ fun _ _ x=>x
section
variable {X:Cx}
def zS3 (i:Nat):TE:=fun σ H Q=>∃ v,σ[i]? = some (some v) /\ Q v H
def tC (v:V):TE:=fun _ H Q=>Q v H
theorem zTD {i:Nat} {x:Str} {pos:Pos} (hN:X.N[i]? = some x) (hv:Vis X.env.scope x) (hd:(x == ("__debug__" : Str)) = false:=by decide) (hcd:(x == ("__classdict__" : Str)) = false:=by decide):PE X (.Name x pos) (zS3 i):=by
 intro zB s σ H Q I h;obtain ⟨v,e,h⟩:=h;obtain ⟨m,hn,hl⟩:=I.loc;obtain ⟨u,r,l⟩:=hl i x v hN e hv;have fin:EP X zB σ Q u s:=⟨v,H,I,r,h⟩;rcases l with ⟨hk,hm⟩ | ⟨hk,c,hc,hcell⟩
 ·exact wpAny_Name (wpAny_loadName_local I.ok.kind hk hn hm fin) hd
 ·rcases hk with hk | hk
  ·exact wpAny_Name (wpAny_loadName_cell I.ok.kind hk hc hcell fin) hd
  ·exact wpAny_Name (wpAny_loadName_free I.ok.kind hk hc hcell fin hcd) hd
theorem zS5 {i j pos}:PE X (.Constant (.int i) j pos) (tC (.int i)):=fun _ _ _ H _ I h=>wpAny_Constant_int ⟨.int i,H,I.tok _,⟨_,rfl⟩,h⟩
theorem zTp {b j pos}:PE X (.Constant (.bool b) j pos) (tC (.bl b)):=fun _ _ _ H _ I h=>Constant_bool ⟨.bl b,H,I,rfl,h⟩
theorem zR1 {j pos}:PE X (.Constant .none j pos) (tC .non):=fun _ _ _ H _ I h=>Constant_none ⟨.non,H,I,rfl,h⟩
def Gl (X:Cx) (x:Str):Prop:=X.env.kindOf x = some .globalImplicit
theorem zQa {E:Value -> Shared -> Prop} {zB:List (Addr × Obj)} {s:Shared} {σ:St} {H:Hp} {x:Str} {u:Value} {pos:Pos} {Q:Value -> Shared -> Prop} (I:Inv X zB σ H s) (hg:Gl X x) (hm:X.mg x = some u) (h:Q u s)
  (hd:(x == ("__debug__" : Str)) = false:=by decide):wpAny (model X.prog X.w) X.A (eval (.Name x pos) X.env) Q E s :=
 Calls.Name_function_global I.ok.kind hg (Calls.loadGlobal_global (by rw [I.ok.glob]; exact I.mod.glob.keeps I.bk) hm h) hd
theorem zEm {E:Value -> Shared -> Prop} {zB:List (Addr × Obj)} {s:Shared} {σ:St} {H:Hp} {x:Str} {u:Value} {pos:Pos} {Q:Value -> Shared -> Prop} (I:Inv X zB σ H s) (hg:Gl X x) (hm:X.mg x = none) (hv:bootBuiltins x = some u) (h:Q u s)
  (hn:x ≠ "__name__" := by decide) (hd:(x == ("__debug__" : Str)) = false:=by decide):wpAny (model X.prog X.w) X.A (eval (.Name x pos) X.env) Q E s:=by
 obtain ⟨mb,h1,h2⟩:=I.mod.blt;exact Calls.Name_function_global I.ok.kind hg (Calls.loadGlobal_builtin (by rw [I.ok.glob]; exact I.mod.glob.keeps I.bk) hm (by rw [I.ok.blt]; exact h1.keeps I.bk) ((h2 x hn).trans hv) h) hd
theorem zPy {x:Str} {v:V} {u:Value} {pos:Pos} (hg:Gl X x) (hm:X.mg x = none) (hv:bootBuiltins x = some u) (r:za v u) (hn:x ≠ "__name__" := by decide) (hd:(x == ("__debug__" : Str)) = false:=by decide):PE X (.Name x pos) (tC v) :=
 fun _ _ _ H _ I h=>zEm I hg hm hv ⟨v,H,I,r,h⟩ hn hd
variable {a b:Expr} {ta tb:TE} {pos:Pos}
def PC (X:Cx) (op:CmpOp) (a b:Expr) (t:TE):Prop :=
 ∀ (zB:List (Addr × Obj)) (s:Shared) (σ:St) (H:Hp) (Q:VK),Inv X zB σ H s -> t σ H Q ->
  wpAny (model X.prog X.w) X.A (eval a X.env) (fun v s₁=>wpAny (model X.prog X.w) X.A (eval b X.env) (fun u s₂=>wpAny (model X.prog X.w) X.A (compareOp op v u) (EP X zB σ Q) X.xe s₂) X.xe s₁) X.xe s
def tB (t:TE):TT:=fun σ H Q=>t σ H fun x H1=>∃ c,x = .bl c /\ Q c H1
theorem zPG {op:CmpOp} {t:TE} (h:PC X op a b t) (h1:behindInMarks op b = false:=by first | exact nobehind _ (by decide) (by decide) | rfl):PT X (.Compare a [op] [b] pos) (tB t):=by
 intro zB s σ H Q I hw;refine wpAny_isTrue_Compare1 (thn (h zB s σ H _ I hw) fun v s1 h1=>thn h1 fun u s2 h2=>thn h2 fun c s3 ⟨x,H1,I1,r1,q1⟩=>?_) h1;obtain ⟨d,rfl,q⟩:=q1;cases r1;exact zWH ⟨H1,I1,q⟩
theorem zRp {e:Expr} {t:TE} (h:PE X e t) (he:∀ whole,isTrue e X.env whole = (do let v <- whole; standAt e.pos; holding [v] (truthy v)):=by intro _; rfl):PT X e (tB t):=by
 intro zB s σ H Q I hw;refine isTrue_plain (thn (h zB s σ H _ I hw) fun v s1 ⟨x,H1,I1,r1,q1⟩=>?_) (he _);obtain ⟨d,rfl,q⟩:=q1;cases r1;exact zWH ⟨H1,I1,q⟩
variable {tA tB':TT} {rest:List Expr}
def zUm (t u:TT):TT:=fun σ H Q=>t σ H fun c H1=>if c = true then u σ H1 Q else Q false H1
def tOr (t u:TT):TT:=fun σ H Q=>t σ H fun c H1=>if c = true then Q true H1 else u σ H1 Q
def zUz (t:TT):TT:=fun σ H Q=>t σ H fun c H1=>Q (!c) H1
theorem zQw (ha:PT X a tA):PW X (.BoolOp .And [a] pos) tA:=by
 intro wh zB s σ H Q I h;refine isTrue_and (thn (ha zB s σ H Q I h) fun c s1 e=>?_);cases c with
 | true=>exact isTrue_and_nil e
 | false=>exact e
theorem zTI (ha:PT X a tA):PW X (.BoolOp .Or [a] pos) tA:=by
 intro wh zB s σ H Q I h;refine isTrue_or (thn (ha zB s σ H Q I h) fun c s1 e=>?_);cases c with
 | false=>exact isTrue_or_nil e
 | true=>exact e
theorem zR2 (ha:PT X a tA) (hb:PW X (.BoolOp .And (b :: rest) pos) tB'):PW X (.BoolOp .And (a :: b :: rest) pos) (zUm tA tB'):=by
 intro wh zB s σ H Q I h;refine isTrue_and (thn (ha zB s σ H _ I h) fun c s1 ⟨H1,I1,q1⟩=>?_);cases c with
 | true=>exact hb wh zB s1 σ H1 Q I1 q1
 | false=>exact ⟨H1,I1,q1⟩
theorem zUV (ha:PT X a tA) (hb:PW X (.BoolOp .Or (b :: rest) pos) tB'):PW X (.BoolOp .Or (a :: b :: rest) pos) (tOr tA tB'):=by
 intro wh zB s σ H Q I h;refine isTrue_or (thn (ha zB s σ H _ I h) fun c s1 ⟨H1,I1,q1⟩=>?_);cases c with
 | true=>exact ⟨H1,I1,q1⟩
 | false=>exact hb wh zB s1 σ H1 Q I1 q1
theorem zR7 (ha:PT X a tA):PT X (.UnaryOp .Not a pos) (zUz tA):=by
 intro zB s σ H Q I h;exact isTrue_not (ha zB s σ H (fun c H1=>Q (!c) H1) I h)
def zTM (ta tb:TE):TE:=fun σ H Q=>ta σ H fun x H1=>∃ c,x = .bl c /\ if c = true then tb σ H1 Q else Q (.bl false) H1
def zTU (ta:TE):TE:=fun σ H Q=>ta σ H fun x H1=>∃ c,x = .bl c /\ Q (.bl (!c)) H1
theorem zSx {op} {t:TE} (h:PE X a t):PE X (.BoolOp op [a] pos) t:=fun zB s σ H Q I hw=>BoolOp_one (h zB s σ H Q I hw)
theorem zSB (ha:PE X a ta) (hb:PE X (.BoolOp .And (b :: rest) pos) tb):PE X (.BoolOp .And (a :: b :: rest) pos) (zTM ta tb):=by
 intro zB s σ H Q I h;refine BoolOp_and (thn (ha zB s σ H _ I h) fun v s1 ⟨x,H1,I1,r1,q1⟩=>?_);obtain ⟨c,rfl,q1⟩:=q1;cases r1;refine zWH ?_;cases c with
 | true=>exact hb zB s1 σ H1 Q I1 q1
 | false=>exact ⟨.bl false,H1,I1,rfl,q1⟩
theorem zSO (ha:PE X a ta):PE X (.UnaryOp .Not a pos) (zTU ta):=by
 intro zB s σ H Q I h;refine UnaryOp_ (thn (ha zB s σ H _ I h) fun v s1 ⟨x,H1,I1,r1,q1⟩=>?_);obtain ⟨c,rfl,q1⟩:=q1;cases r1;exact not_of (zWH ⟨.bl (!c),H1,I1,rfl,q1⟩)
end
def SqL (K:PySem.W.Frag) (H:Hp) (a:Addr) (xs:List V):Prop :=
 Rd H a (.lst xs) \/
  ∃ (o:Obj) (its:Array Value) (n:Nat),K.lookup a = some o /\ o.cls = .type "list" /\ o.dict = none /\ o.data = .seq its n /\ its.size <= sizeLine /\ zW xs its.toList
def SqT (K:PySem.W.Frag) (H:Hp) (a:Addr) (xs:List V):Prop :=
 Rd H a (.tup xs) \/
  ∃ (o:Obj) (its:Array Value) (n:Nat),K.lookup a = some o /\ o.cls = .type "tuple" /\ o.data = .seq its n /\ its.size <= sizeLine /\ zW xs its.toList
def zUu:Value -> Option V
 | .none=>some .non
 | .bool b=>some (.bl b)
 | .int i _=>some (.int i)
 | .str x _=>some (.str x)
 | .bytes b _=>some (.byt b)
 | .float b _=>some (.flt b)
 | .ref a=>some (.ref a)
 | .type n=>some (.ty n)
 | _=>none
theorem za.abs {x:V} {u:Value} (r:za x u):zUu u = some x:=by
 cases x with
 | non=>cases r; rfl
 | bl _=>cases r; rfl
 | int _=>obtain ⟨t,rfl⟩:=r; rfl
 | str _=>obtain ⟨t,rfl⟩:=r; rfl
 | byt _=>obtain ⟨t,rfl⟩:=r; rfl
 | flt _=>obtain ⟨t,rfl⟩:=r; rfl
 | ref _=>cases r; rfl
 | ty _=>cases r; rfl
theorem za.inj {x y:V} {u:Value} (r:za x u) (q:za y u):x = y:=zV5 (r.abs.symm.trans q.abs)
theorem zW.inj:∀ {xs ys:List V} {us:List Value},zW xs us -> zW ys us -> xs = ys
 | _,_,_,.nil,.nil=>rfl
 | _,_,_,.cons r t,.cons r' t'=>by rw [r.inj r',zW.inj t t']
section
variable {X:Cx} {zB:List (Addr × Obj)} {σ:St} {H:Hp} {s:Shared} {a:Addr} {xs ys:List V}
theorem SqL.of {K:PySem.W.Frag} (h:H a = some (.lst xs)):SqL K H a xs:=.inl (.inl h)
theorem SqT.of {K:PySem.W.Frag} (h:H a = some (.tup xs)):SqT K H a xs:=.inl (.inl h)
theorem Inv.list (I:Inv X zB σ H s) (h:SqL X.K H a xs):∃ its:List Value,zW xs its /\ PlainL s.heap a its.toArray /\ xs.length <= sizeLine:=by
 rcases h with h | ⟨o,its,n,hk,hc,hd,hs,hz,r⟩
 ·obtain ⟨z,its,n,r,e⟩:=h.ok I.hok;exact ⟨its,r,⟨_,n,e,rfl,rfl,rfl⟩,z⟩
 ·refine ⟨its.toList,r,⟨o,n,I.kIn a o hk,hc,hd,by simpa using hs⟩,?_⟩;have e:=r.length;simp only [zVo] at e;omega
theorem Inv.tuple (I:Inv X zB σ H s) (h:SqT X.K H a xs):∃ its:List Value,zW xs its /\ IsTup s.heap a its.toArray /\ xs.length <= sizeLine:=by
 rcases h with h | ⟨o,its,n,hk,hc,hs,hz,r⟩
 ·obtain ⟨z,its,r,p⟩:=h.ok I.hok;exact ⟨its,r,p.tup,z⟩
 ·refine ⟨its.toList,r,⟨o,I.kIn a o hk,hc,n,by simpa using hs⟩,?_⟩;have e:=r.length;simp only [zVo] at e;omega
theorem Inv.list_inj (I:Inv X zB σ H s) (h:SqL X.K H a xs) (h':SqL X.K H a ys):xs = ys:=by
 obtain ⟨its,r,⟨o,n,e,_,_,d⟩,_⟩:=I.list h;obtain ⟨its',r',⟨o',n',e',_,_,d'⟩,_⟩:=I.list h';rw [e] at e'; cases e';rw [d] at d';injection d' with d1 _
 have:its = its':=by simpa using zWs Array.toList d1
 subst this;exact r.inj r'
theorem Inv.tuple_inj (I:Inv X zB σ H s) (h:SqT X.K H a xs) (h':SqT X.K H a ys):xs = ys:=by
 obtain ⟨its,r,⟨o,e,_,n,d⟩,_⟩:=I.tuple h;obtain ⟨its',r',⟨o',e',_,n',d'⟩,_⟩:=I.tuple h';rw [e] at e'; cases e';rw [d] at d';injection d' with d1 _
 have:its = its':=by simpa using zWs Array.toList d1
 subst this;exact r.inj r'
end
abbrev Cx.wish (X:Cx) (E:Value -> Shared -> Prop):Cx:={ X with xe:=E }
abbrev Cx.nox (X:Cx):Cx:=X.wish fun _ _=>False
theorem Cx.Ok.wish {X:Cx} (ok:X.Ok) (E:Value -> Shared -> Prop):(X.wish E).Ok :=
 ⟨ok.mod,ok.kind,ok.glob,ok.blt,ok.above,ok.inj,ok.has,ok.cab,ok.hd,ok.frames,ok.stk,ok.exf,ok.bs,ok.bsz,ok.noex,ok.exfs,ok.funs,ok.frf⟩
theorem Cx.Ok.unwish {X:Cx} {E:Value -> Shared -> Prop} (ok:(X.wish E).Ok):X.Ok :=
 ⟨ok.mod,ok.kind,ok.glob,ok.blt,ok.above,ok.inj,ok.has,ok.cab,ok.hd,ok.frames,ok.stk,ok.exf,ok.bs,ok.bsz,ok.noex,ok.exfs,ok.funs,ok.frf⟩
section
variable {X:Cx} {zB:List (Addr × Obj)} {σ:St} {H:Hp} {s:Shared} {E:Value -> Shared -> Prop}
theorem Inv.wish (I:Inv X zB σ H s) (E:Value -> Shared -> Prop):Inv (X.wish E) zB σ H s:=⟨I.ok.wish E,I.os,I.bare,I.base,I.loc,I.cell,I.free,I.freeC,I.pin,I.hok,I.len⟩
theorem Inv.unwish (I:Inv (X.wish E) zB σ H s):Inv X zB σ H s:=⟨I.ok.unwish,I.os,I.bare,I.base,I.loc,I.cell,I.free,I.freeC,I.pin,I.hok,I.len⟩
theorem SP.unwish {D:Ends} {f:Flow} {s':Shared} (h:SP (X.wish E) zB D f s'):SP X zB D f s':=by
 cases f with
 | next=>obtain ⟨σ',H',I,q⟩:=h; exact ⟨σ',H',I.unwish,q⟩
 | brk=>obtain ⟨σ',H',I,q⟩:=h; exact ⟨σ',H',I.unwish,q⟩
 | cont=>obtain ⟨σ',H',I,q⟩:=h; exact ⟨σ',H',I.unwish,q⟩
 | ret u=>obtain ⟨v,σ',H',I,r,q⟩:=h; exact ⟨v,σ',H',I.unwish,r,q⟩
theorem PSs.nox {st:List Stmt} {t:TS} (h:PSs X.nox st t):PSs X st t:=fun zB s σ H D I hw=>
 zVb (h zB s σ H D (I.wish _) hw) (fun _ _ q=>q.unwish) fun _ _ z=>False.elim z
end
section
variable {X:Cx} {st:Stmt} {rest:List Stmt} {t u:TS} {e:Expr} {te:TE} {pos:Pos}
def zTZ:TS:=fun D σ H=>D.nx σ H
def zUx (t u:TS):TS:=fun D σ H=>t { D with nx:=u D } σ H
theorem zPs:PSs X [] zTZ:=fun _ _ σ H _ I h=>wpAny_execs_nil ⟨σ,H,I,h⟩
theorem zPV (h1:PS X st t) (h2:PSs X rest u):PSs X (st :: rest) (zUx t u):=by
 intro zB s σ H D I h;refine wpAny_execs_cons (thn (h1 zB s σ H { D with nx:=u D } I h) fun f s1 q=>?_);cases f with
 | next=>
  obtain ⟨σ',H',I',q⟩:=q;exact h2 zB s1 σ' H' D I' q
 | ret v=>exact q
 | brk=>exact q
 | cont=>exact q
theorem zPr (h1:PS X st t):PSs X [st] t:=by
 intro zB s σ H D I h;refine wpAny_execs_cons (thn (h1 zB s σ H D I h) fun f s1 q=>?_);cases f with
 | next=>exact wpAny_execs_nil q
 | ret v=>exact q
 | brk=>exact q
 | cont=>exact q
theorem Inv.quiet {zB:List (Addr × Obj)} {σ:St} {H:Hp} {s:Shared} (I:Inv X zB σ H s):interactive X.env = false:=by simp [interactive,I.ok.kind]
def zT8 (te:TE):TS:=fun D σ H=>te σ H fun _ H1=>D.nx σ H1
theorem zQz (he:PE X e te) (hs:swapsWith e none pos.line X.env = pure false:=by rfl):PS X (.Expr e pos) (zT8 te):=by
 intro zB s σ H D I h;exact wpAny_Expr_any (thn (he zB s σ H _ I h) fun v s1 ⟨x,H1,I1,r1,q1⟩=>⟨σ,H1,I1,q1⟩) I.quiet hs
def zUi (te:TE):TS:=fun D σ H=>te σ H D.rt
theorem zSi (he:PE X e te):PS X (.Return (some e) pos) (zUi te):=by
 intro zB s σ H D I h;exact wpAny_Return_some (thn (he zB s σ H _ I h) fun v s1 ⟨x,H1,I1,r1,q1⟩=>⟨x,σ,H1,I1,r1,q1⟩)
def zUh (c:TT) (t u:TS):TS:=fun D σ H=>c σ H fun b H1=>if b = true then t D σ H1 else u D σ H1
theorem zTi {c:Expr} {a b:List Stmt} {tc:TT} (hc:PT X c tc) (ha:PSs X a t) (hb:PSs X b u):PS X (.If c a b pos) (zUh tc t u):=by
 intro zB s σ H D I h;refine wpAny_If (thn (hc zB s σ H _ I h) fun d s1 ⟨H1,I1,q1⟩=>?_);cases d with
 | true=>exact ha zB s1 σ H1 D I1 q1
 | false=>exact hb zB s1 σ H1 D I1 q1
end
abbrev TG:=V -> St -> Hp -> (St -> Hp -> Prop) -> Prop
abbrev TGs:=List V -> St -> Hp -> (St -> Hp -> Prop) -> Prop
def PG (X:Cx) (target:Expr) (t:TG):Prop :=
 ∀ (zB:List (Addr × Obj)) (s:Shared) (σ:St) (H:Hp) (v:V) (u:Value) (Q:St -> Hp -> Prop),Inv X zB σ H s -> za v u -> t v σ H Q ->
  wpAny (model X.prog X.w) X.A (assign target X.env u) (fun _ s'=>∃ σ' H',Inv X zB σ' H' s' /\ Q σ' H') X.xe s
def PGs (X:Cx) (ts:List Expr) (t:TGs):Prop :=
 ∀ (zB:List (Addr × Obj)) (s:Shared) (σ:St) (H:Hp) (vs:List V) (us:List Value) (Q:St -> Hp -> Prop),Inv X zB σ H s -> zW vs us -> t vs σ H Q ->
  wpAny (model X.prog X.w) X.A (assignInOrder ((assignEach ts X.env).map (·.2)) us) (fun _ s'=>∃ σ' H',Inv X zB σ' H' s' /\ Q σ' H') X.xe s
abbrev zS8:=V -> V -> V -> Hp -> (Hp -> Prop) -> Prop
def zUH (X:Cx) (t:zS8):Prop :=
 ∀ (zB:List (Addr × Obj)) (s:Shared) (σ:St) (H:Hp) (o i v:V) (ov iv u:Value) (Q:Hp -> Prop),Inv X zB σ H s -> za o ov -> za i iv -> za v u -> t o i v H Q ->
  wpAny (model X.prog X.w) X.A (setItem ov iv u) (fun _ s'=>∃ H',Inv X zB σ H' s' /\ Q H') X.xe s
section
variable {X:Cx} {pos:Pos}
def zBE (i:Nat):TG:=fun v σ H Q=>Q (σ.set i (some v)) H
theorem zHT {i:Nat} {x:Str} (hN:X.N.Nodup) (hi:X.N[i]? = some x) (hx:Loc X.env.scope x) (hf:X.fn x = true \/ X.env.scope.names.lookup x = some .local:=by first | exact .inl rfl | exact .inr rfl | assumption):PG X (.Name x pos) (zBE i):=by
 intro zB s σ H v u Q I r h;exact wpAny_assign_Name (zJA I hN hi hx r (fun s' I'=>⟨_,H,I',h⟩) hf)
def zPC:TGs:=fun vs σ H Q=>vs = [] /\ Q σ H
def zDb (t:TG) (u:TGs):TGs:=fun vs σ H Q=>∃ v r,vs = v :: r /\ t v σ H fun σ' H'=>u r σ' H' Q
theorem zPt:PGs X [] zPC:=by
 intro zB s σ H vs us Q I r h;obtain ⟨e,h⟩:=h;subst e;cases r;exact assignInOrder_nil ⟨σ,H,I,h⟩
theorem zPW {e:Expr} {es:List Expr} {t:TG} {u:TGs} (h1:PG X e t) (h2:PGs X es u)
  (hs:(assignEach (e :: es) X.env).map (·.2) = assign e X.env :: (assignEach es X.env).map (·.2):=by rfl):PGs X (e :: es) (zDb t u):=by
 intro zB s σ H vs us Q I r h;obtain ⟨v,vr,e1,h⟩:=h;subst e1;cases r with
 | cons r rr=>
  rw [hs];refine assignInOrder_cons (thn (h1 zB s σ H _ _ _ I r h) fun _ s1 ⟨σ1,H1,I1,q1⟩=>?_);exact h2 zB s1 σ1 H1 _ _ Q I1 rr q1
def zNX (K:PySem.W.Frag) (n:Nat) (t:TGs):TG:=fun v σ H Q=>∃ a xs,v = .ref a /\ SqT K H a xs /\ xs.length = n /\ t xs σ H Q
theorem zRz {es:List Expr} {k:Nat} {t:TGs} {n:Nat} (hc:X.calm = true) (h:PGs X es t)
  (hn:(assignEach es X.env).length = n:=by rfl) (hst:(assignEach es X.env).findIdx? (·.1) = none:=by rfl):PG X (.Tuple es k pos) (zNX X.K n t):=by
 intro zB s σ H v u Q I r hw;obtain ⟨a,xs,e1,hq,hl,hw⟩:=hw;subst e1;cases r;obtain ⟨its,rv,ht,hz⟩:=I.tuple hq;refine assign_Tuple_tuple (I.ok.hd hc) ht (by simp [hn,<- hl,rv.length]) hst fun h' hx=>?_;have I1:Inv X zB σ H { s with heap:=h' }:=I.kept (t':=s.toks) fun b o e=>hx b o (zVQ (zVG e)) e;exact h zB _ σ H xs _ Q I1 (by simpa using rv) hw
def zUc (to ti:TE) (t:zS8):TG:=fun v σ H Q=>to σ H fun o H1=>ti σ H1 fun i H2=>t o i v H2 fun H3=>Q σ H3
theorem zRy {o i:Expr} {to ti:TE} {t:zS8} (ho:PE X o to) (hi:PE X i ti) (hs:zUH X t)
  (ha:∀ v,assign (.Subscript o i pos) X.env v = (do
   let ov <- holding [v] (eval o X.env);let iv <- holding [v,ov] (eval i X.env);standAt pos;holding [v,ov,iv] (setItem ov iv v);release [v,ov,iv] []):=by intro _; rfl):PG X (.Subscript o i pos) (zUc to ti t):=by
 intro zB s σ H v u Q I r h;rw [ha];refine zU5 (zVy (thn (ho zB s σ H _ I h) fun ov s1 ⟨x,H1,I1,r1,q1⟩=>?_));refine zU5 (zVy (thn (hi zB s1 σ H1 _ I1 q1) fun iv s2 ⟨y,H2,I2,r2,q2⟩=>?_));refine zU5 (zV3 (zU5 (zVy (thn (hs zB s2 σ H2 x y v ov iv u _ I2 r1 r2 r q2) fun _ s3 ⟨H3,I3,q3⟩=>?_))));exact wpAny_release ⟨σ,H3,I3,q3⟩
def zO9 (te:TE) (g:TG):TS:=fun D σ H=>te σ H fun x H1=>g x σ H1 D.nx
theorem zPS {tg e:Expr} {te:TE} {g:TG} (he:PE X e te) (hg:PG X tg g) (hs:swapsWithSole [tg] e pos.line X.env = pure false:=by rfl) (hw:swappedStores [tg] e X.env = pure none:=by rfl)
  (h1:(assignEach [tg] X.env).map (·.2) = [assign tg X.env]:=by rfl):PS X (.Assign [tg] e pos) (zO9 te g):=by
 intro zB s σ H D I h;refine wpAny_Assign_stores (thn (he zB s σ H _ I h) fun v s1 ⟨x,H1,I1,r1,q1⟩=>?_) hs hw;rw [h1];exact thn (hg zB s1 σ H1 x v _ I1 r1 q1) fun _ s2 q=>q
theorem zS0 {i:Nat} {x:Str} {e:Expr} {te:TE} {pos':Pos} (hN:X.N.Nodup) (hi:X.N[i]? = some x) (hx:Loc X.env.scope x) (he:PE X e te) (hs:swapsWith e (some (.Name x pos')) pos.line X.env = pure false:=by rfl) (hf:X.fn x = true \/ X.env.scope.names.lookup x = some .local:=by first | exact .inl rfl | exact .inr rfl | assumption) :
  PS X (.Assign [.Name x pos'] e pos) (zO9 te (zBE i)):=by
 intro zB s σ H D I h;refine wpAny_Assign_Name (thn (he zB s σ H _ I h) fun v s1 ⟨y,H1,I1,r1,q1⟩=>?_) hs;exact zJA I1 hN hi hx r1 (fun s2 I2=>⟨_,H1,I2,q1⟩) hf
def zOo (c:TT) (tb:TS):TS:=fun D σ H=>∃ W:Nat -> St -> Hp -> Prop,(∃ m,W m σ H) /\ ∀ m σ H,W m σ H ->
 c σ H fun b H1=>if b = true then ∃ N:St -> Hp -> Prop,(∀ σ' H',N σ' H' -> ∃ m',m' < m /\ W m' σ' H') /\ tb { D with nx:=N,ct:=N,bk:=D.nx } σ H1 else D.nx σ H1
theorem zOB {c:Expr} {body:List Stmt} {tc:TT} {tb:TS} (hp:PassesOwn (model X.prog X.w) X.A X.env X.xe) (hc:PT X c tc) (hb:PSs X body tb):PS X (.While c body [] pos) (zOo tc tb):=by
 intro zB s σ H D I h;obtain ⟨W,⟨m0,w0⟩,turn⟩:=h;refine wpAny_While (codeAny_whileLoop (fun n s'=>∃ σ' H',Inv X zB σ' H' s' /\ W n σ' H') ?_ m0 ⟨σ,H,I,w0⟩);rintro n s1 ⟨σ1,H1,I1,w1⟩;refine wpAny_passesOwn hp (thn (hc zB s1 σ1 H1 _ I1 (turn n σ1 H1 w1)) fun b s2 ⟨H2,I2,q2⟩=>?_);cases b with
 | true=>
  obtain ⟨N,hN,q2⟩:=q2;rw [zVK rfl];refine wpAny_passesOwn hp (thn (hb zB s2 σ1 H2 _ I2 q2) fun f s3 q3=>?_);cases f with
  | next=>
   obtain ⟨σ3,H3,I3,n3⟩:=q3;obtain ⟨m',hm,w3⟩:=hN σ3 H3 n3;exact ⟨m',hm,σ3,H3,I3,w3⟩
  | cont=>
   obtain ⟨σ3,H3,I3,n3⟩:=q3;obtain ⟨m',hm,w3⟩:=hN σ3 H3 n3;exact ⟨m',hm,σ3,H3,I3,w3⟩
  | brk=>exact q3
  | ret v=>exact q3
 | false=>
  rw [zVN zVR];exact wpAny_execs_nil ⟨σ1,H2,I2,q2⟩
end
structure It where
 go:Nat -> Hp -> Prop
 yld:Nat -> Hp -> V -> Hp -> Prop
 stop:Nat -> Hp -> Prop
def zBt (X:Cx) (zB:List (Addr × Obj)) (H:Hp) (b:Addr):Prop :=
 H b = none /\ b ≠ X.env.locals /\ b ∉ X.fs /\ (b ∈ X.ex \/ X.s₀.heap.objs.size <= b) /\ (∀ x c,X.env.cells.lookup x = some c -> c ≠ b) /\ ∀ p ∈ X.pn ++ zB,p.1 ≠ b
theorem Inv.fpOk {X:Cx} {zB:List (Addr × Obj)} {σ:St} {H H':Hp} {s:Shared} {b:Addr} (I:Inv X zB σ H s) (hb:s.heap.objs.size <= b) (hn:H' b = none):zBt X zB H' b:=by
 refine ⟨hn,zWa (zVU I.lt hb),I.nofs hb,.inr (zVW I.sz hb),fun x c e z=>?_,fun p hp z=>?_⟩
 ·obtain ⟨v,q⟩:=I.cell x c e;exact absurd (zVU q.lt (by rw [z]; exact hb)) (zVn _)
 ·exact absurd (zVU (zVG (I.pin p hp).1) (by rw [z]; exact hb)) (zVn _)
structure Turn (P:Program) (w:World) (K:PySem.W.Frag) (tg:Expr) (J:It) (fp:List Addr) (it:Addr) (tn:Nat -> Heap -> Prop):Prop where
 mem:it ∈ fp
 obj:∀ i h,tn i h -> ∀ b ∈ fp,∃ o,h.get? b = some o /\ ∀ v,o.data ≠ .cell v
 keep:∀ i h h',tn i h -> (∀ b ∈ fp,∀ o,h.get? b = some o -> h'.get? b = some o) -> tn i h'
 item:∀ (X:Cx),X.prog = P -> X.w = w -> X.K = K -> X.calm = true -> ∀ (i:Nat) (zB:List (Addr × Obj)) (s:Shared) (σ:St) (H:Hp) (E:Value -> Shared -> Prop),Inv X zB σ H s -> (∀ b ∈ fp,zBt X zB H b) -> tn i s.heap -> J.go i H ->
  wpAny (model P w) X.A (pyNext (.ref it)) (fun r s1=>∃ u,r = some u /\
   wpAny (model P w) X.A (letOwnedTupleGo tg (.ref it) u) (fun _ s2=>∃ x H',Inv X zB σ H' s2 /\ za x u /\ J.yld i H x H' /\ tn (i + 1) s2.heap /\ ∀ b ∈ fp,H' b = none) E s1) E s
 done:∀ (X:Cx),X.prog = P -> X.w = w -> X.K = K -> X.calm = true -> ∀ (i:Nat) (zB:List (Addr × Obj)) (s:Shared) (σ:St) (H:Hp) (E:Value -> Shared -> Prop),Inv X zB σ H s -> (∀ b ∈ fp,zBt X zB H b) -> tn i s.heap -> J.stop i H ->
  wpAny (model P w) X.A (pyNext (.ref it)) (fun r s1=>r = none /\ Inv X zB σ H s1) E s
 self:∀ (A:Around) (i:Nat) (s:Shared) (Q:Value -> Shared -> Prop) (E:Value -> Shared -> Prop),tn i s.heap -> Q (.ref it) s -> wpAny (model P w) A (pyIter (.ref it)) Q E s
abbrev TI:=St -> Hp -> (It -> Hp -> Prop) -> Prop
def PIE (X:Cx) (zB:List (Addr × Obj)) (σ:St) (tg:Expr) (R:It -> Hp -> Prop) (itv:Value) (s2:Shared):Prop :=
 ∃ (it:Addr) (fp:List Addr) (tn:Nat -> Heap -> Prop) (J:It) (H':Hp),itv = .ref it /\ Inv X zB σ H' s2 /\ Turn X.prog X.w X.K tg J fp it tn /\ tn 0 s2.heap /\ (∀ b ∈ fp,zBt X zB H' b) /\ R J H'
def PI (X:Cx) (tg iter:Expr) (wi:TI):Prop :=
  ∀ (zB:List (Addr × Obj)) (s:Shared) (σ:St) (H:Hp) (R:It -> Hp -> Prop),Inv X zB σ H s -> wi σ H R ->
    wpAny (model X.prog X.w) X.A (eval iter X.env) (fun v s1=>wpAny (model X.prog X.w) X.A (pyIter v) (PIE X zB σ tg R) X.xe s1) X.xe s
theorem zOw {M:Model} {A:Around} {E:Value -> Shared -> Prop} {s:Shared} {tg:Expr} {it:Addr} {u:Value} {o:Obj} {n:String} {vs:Array Value} {Q:Unit -> Shared -> Prop} (ho:s.heap.get? it = some o) (hc:o.cls = .type n) (hd:o.data = .fields vs)
    (hn:["enumerate", "zip", "dict_itemiterator", "dict_reverseitemiterator", "odict_iterator", "itertools.zip_longest", "itertools.pairwise"].contains n = false) (hQ:Q () s):wpAny M A (letOwnedTupleGo tg (.ref it) u) Q E s:=by
  unfold letOwnedTupleGo
  cases tg <;> first
    | exact zU7 hQ
    | (cases u <;> first
        | exact zU7 hQ
        | (refine zU5 (wpAny_load ho ?_)
           rw [hc,hd];show wpAny M A (if (["enumerate", "zip", "dict_itemiterator", "dict_reverseitemiterator", "odict_iterator", "itertools.zip_longest", "itertools.pairwise"].contains n && vs[0]? == some (rawInt _)) = true then _ else _) Q E s;rw [zVN (by intro h; rw [hn,Bool.false_and] at h; cases h)];exact zU7 hQ))
def Itl (K:PySem.W.Frag) (a:Addr):It :=
 ⟨fun i H=>∃ xs x,SqL K H a xs /\ xs[i]? = some x,fun i H x H'=>H' = H /\ ∀ xs,SqL K H a xs -> xs[i]? = some x,fun i H=>∃ xs,SqL K H a xs /\ xs.length <= i⟩
def Itt (K:PySem.W.Frag) (a:Addr):It :=
 ⟨fun i H=>∃ xs x,SqT K H a xs /\ xs[i]? = some x,fun i H x H'=>H' = H /\ ∀ xs,SqT K H a xs -> xs[i]? = some x,fun i H=>∃ xs,SqT K H a xs /\ xs.length <= i⟩
def Itr (lo:Int) (n:Nat):It:=⟨fun i _=>i < n,fun i H x H'=>H' = H /\ x = .int (lo + i),fun i _=>n <= i⟩
theorem zLz {P:Program} {w:World} {K:PySem.W.Frag} {tg:Expr} (a it:Addr):Turn P w K tg (Itl K a) [it] it (fun i h=>h.IsListIter it a i) where
 mem:=by simp
 obj:=fun i h st b hb=>by
  have e:b = it:=by simpa using hb
  subst e;obtain ⟨o,e,c,d⟩:=st;exact ⟨o,e,fun v z=>by rw [d] at z; cases z⟩
 keep:=fun i h h' st k=>st.at fun o e=>k it (by simp) o e;item:=by
  intro X hP hw hK hc i zB s σ H E I hf st hg;subst hP hw hK;obtain ⟨xs,x,hq,hx⟩:=hg;obtain ⟨its,rv,p,hz⟩:=I.list hq;obtain ⟨u,hu,ru⟩:=rv.get hx;obtain ⟨f0,f1,f2,f3,f4,f5⟩:=hf it (by simp);refine wpAny_pyNext_list_item st p.isList (x:=u) (by simpa using hu) fun h' st' sb=>?_;have I1:Inv X zB σ H { s with heap:=h' }:=I.turned (t':=s.toks) (fun b o hb e=>(sb.2 b hb).trans e) f0 f1 f3 f4 f5;obtain ⟨o,e,c,d⟩:=id st';exact ⟨u,rfl,zOw (s:={ s with heap:=h' }) e c d (by decide) ⟨x,H,I1,ru,⟨rfl,fun ys hy=>by rw [I.list_inj hy hq]; exact hx⟩,st',fun b hb=>(hf b hb).1⟩⟩
 done:=by
  intro X hP hw hK hc i zB s σ H E I hf st hg;subst hP hw hK;obtain ⟨xs,hq,hx⟩:=hg;obtain ⟨its,rv,p,hz⟩:=I.list hq;obtain ⟨f0,f1,f2,f3,f4,f5⟩:=hf it (by simp);have hl:=rv.length;exact wpAny_pyNext_list_end (I.ok.hd hc) st p.isList (by simp; omega) fun h' eb=>⟨rfl,I.turned (t':=s.toks) (fun b o hb e=>eb b o hb e) f0 f1 f3 f4 f5⟩
 self:=fun _ _ _ _ _ st h=>wpAny_pyIter_listiter st h
theorem zJ7 {P:Program} {w:World} {K:PySem.W.Frag} {tg:Expr} (a it:Addr):Turn P w K tg (Itt K a) [it] it (fun i h=>h.IsTupleIter it a i) where
 mem:=by simp
 obj:=fun i h st b hb=>by
  have e:b = it:=by simpa using hb
  subst e;obtain ⟨o,e,c,d⟩:=st;exact ⟨o,e,fun v z=>by rw [d] at z; cases z⟩
 keep:=fun i h h' st k=>st.at fun o e=>k it (by simp) o e;item:=by
  intro X hP hw hK hc i zB s σ H E I hf st hg;subst hP hw hK;obtain ⟨xs,x,hq,hx⟩:=hg;obtain ⟨its,rv,p,hz⟩:=I.tuple hq;obtain ⟨u,hu,ru⟩:=rv.get hx;obtain ⟨f0,f1,f2,f3,f4,f5⟩:=hf it (by simp);refine wpAny_pyNext_tuple_item st (show s.heap.IsTuple a its.toArray from p) (x:=u) (by simpa using hu) fun h' st' sb=>?_;have I1:Inv X zB σ H { s with heap:=h' }:=I.turned (t':=s.toks) (fun b o hb e=>(sb.2 b hb).trans e) f0 f1 f3 f4 f5;obtain ⟨o,e,c,d⟩:=id st';exact ⟨u,rfl,zOw (s:={ s with heap:=h' }) e c d (by decide) ⟨x,H,I1,ru,⟨rfl,fun ys hy=>by rw [I.tuple_inj hy hq]; exact hx⟩,st',fun b hb=>(hf b hb).1⟩⟩
 done:=by
  intro X hP hw hK hc i zB s σ H E I hf st hg;subst hP hw hK;obtain ⟨xs,hq,hx⟩:=hg;obtain ⟨its,rv,p,hz⟩:=I.tuple hq;obtain ⟨f0,f1,f2,f3,f4,f5⟩:=hf it (by simp);have hl:=rv.length;exact wpAny_pyNext_tuple_end (I.ok.hd hc) st (show s.heap.IsTuple a its.toArray from p) (by simp; omega) fun h' eb=>⟨rfl,I.turned (t':=s.toks) (fun b o hb e=>eb b o hb e) f0 f1 f3 f4 f5⟩
 self:=fun _ _ _ _ _ st h=>wpAny_pyIter_tupleiter st h
theorem zKj {P:Program} {w:World} {K:PySem.W.Frag} {tg:Expr} (it:Addr) (lo:Int) (n:Nat):Turn P w K tg (Itr lo n) [it] it (fun i h=>IsRangeIter h it (lo + (i:Nat) * 1) ((n:Int) - (i:Nat)) 1) where
 mem:=by simp
 obj:=fun i h st b hb=>by
  have e:b = it:=by simpa using hb
  subst e;exact ⟨_,st,fun v z=>by
   have z':Data.fields _ = Data.cell v:=z;cases z'⟩
 keep:=fun i h h' st k=>k it (by simp) _ st;item:=by
  intro X hP hw hK hc i zB s σ H E I hf st hg;subst hP hw hK;obtain ⟨f0,f1,f2,f3,f4,f5⟩:=hf it (by simp);have W:=Walks.range (prog:=X.prog) (w:=X.w) (I.ok.hd hc) it lo 1 n;refine W.item i s _ _ hg st fun v h' tk hv st' kk=>?_;obtain ⟨t,rfl⟩:=hv;have I1:Inv X zB σ H { s with heap:=h',toks:=tk }:=I.turned (fun b o hb e=>kk b o (by simpa using hb) e) f0 f1 f3 f4 f5;refine ⟨_,rfl,zOw (s:={ s with heap:=h',toks:=tk }) (n := "range_iterator") st' rfl rfl (by decide) ⟨.int (lo + i),H,I1,⟨t,?_⟩,⟨rfl,rfl⟩,st',fun b hb=>(hf b hb).1⟩⟩;rw [Int.mul_one]
 done:=by
  intro X hP hw hK hc i zB s σ H E I hf st hg;subst hP hw hK;obtain ⟨f0,f1,f2,f3,f4,f5⟩:=hf it (by simp);exact wpAny_pyNext_range_end (I.ok.hd hc) st (by have:n <= i:=hg; omega) fun h' eb=>⟨rfl,I.turned (t':=s.toks) (fun b o hb e=>eb b o hb e) f0 f1 f3 f4 f5⟩
 self:=fun _ _ _ _ _ st h=>wpAny_pyIter_rangeiter st h
section
variable {X:Cx} {tg:Expr}
theorem zNe {zB:List (Addr × Obj)} {σ:St} {H:Hp} {s:Shared} {R:It -> Hp -> Prop} {E:Value -> Shared -> Prop} {lo hi:Int} {t u v:Tok} {tk:Nat} (I:Inv X zB σ H s) (h1 : -(2 ^ 62) <= lo) (h2:lo < 2 ^ 62) (h3 : -(2 ^ 62) <= hi) (h4:hi < 2 ^ 62)
  (q:R (Itr lo (hi - lo).toNat) H):wpAny (model X.prog X.w) X.A (pyIter (.ref s.heap.objs.size)) (PIE X zB σ tg R) E { s with heap:=s.heap.push { cls:=.type "range", data:=.fields #[.int lo t,.int hi u,.int 1 v] },toks:=tk }:=by
 refine wpAny_pyIter_range (IsRange.new ..) (small_one h1 h2 h3 h4) ?_;have I1:Inv X zB σ H { s with heap:=s.heap.push { cls:=.type "range", data:=.fields #[.int lo t,.int hi u,.int 1 v] },toks:=tk }:=I.kept fun b o e=>zU6 _ e
 refine ⟨(s.heap.push { cls:=.type "range", data:=.fields #[.int lo t,.int hi u,.int 1 v] }).objs.size,[(s.heap.push { cls:=.type "range", data:=.fields #[.int lo t,.int hi u,.int 1 v] }).objs.size],_,_,H,rfl,
  I1.kept (t':=tk) fun b o e=>zU6 _ e,zKj _ lo (hi - lo).toNat,?_,fun b hb=>?_,q⟩
 ·have e1:lo + ((0:Nat):Int) * 1 = lo:=by simp
  have e2:(((hi - lo).toNat:Nat):Int) - ((0:Nat):Int) = Builtin.Range.rangeSize lo hi 1:=by rw [rangeSize_one]; split <;> omega
  show IsRangeIter _ _ (lo + ((0:Nat):Int) * 1) ((((hi - lo).toNat:Nat):Int) - ((0:Nat):Int)) 1;rw [e1,e2];exact zVF _ rfl
 ·have e:b = (s.heap.push { cls:=.type "range", data:=.fields #[.int lo t,.int hi u,.int 1 v] }).objs.size:=by simpa using hb
  subst e;exact I1.fpOk (zVB _) (I1.hok.fresh (zVB _))
def zTr (ta:TA):TI:=fun σ H R=>ta σ H fun vs H1=>∃ j:Int,vs = [.int j] /\ -(2 ^ 62) <= j /\ j < 2 ^ 62 /\ R (Itr 0 j.toNat) H1
theorem zND {a:Expr} {ta:TA} {p pos:Pos} (hg:Gl X "range") (hm:X.mg "range" = none) (ha:PA X [a] ta) (hs:starEach [a] X.env = [(false,eval a X.env)]:=by rfl):PI X tg (.Call (.Name "range" p) [a] [] pos) (zTr ta):=by
 intro zB s σ H R I h;refine Call_ (zEm I hg hm boot_range (PyProof.Rows.callWith_type1 (thn (ha pos zB s σ H _ I h) fun us s1 ⟨vs,H1,I1,r1,q1⟩=>?_) hs rfl));obtain ⟨j,e,q1,q2,q⟩:=q1;subst e;cases r1 with
 | cons r rr=>
  cases rr;obtain ⟨t,rfl⟩:=r;exact call_range_1 (zNe I1 (by omega) (by omega) q1 q2 (by simpa using q))
def zUB (wi:TI) (g:TG) (tb:TS):TS:=fun D σ H=>wi σ H fun J H1=>∃ W:Nat -> Nat -> St -> Hp -> Prop,(∃ m,W 0 m σ H1) /\ ∀ i m σ H,W i m σ H ->
 (J.stop i H /\ D.nx σ H) \/ (J.go i H /\ ∃ N:St -> Hp -> Prop,(∀ σ' H',N σ' H' -> ∃ m',m' < m /\ W (i + 1) m' σ' H') /\ ∀ x H',J.yld i H x H' -> g x σ H' fun σ2 H2=>tb { D with nx:=N,ct:=N,bk:=D.nx } σ2 H2)
def zCH (fp:List Addr) (h:Heap):List (Addr × Obj):=fp.filterMap fun b=>(h.get? b).map fun o=>(b,o)
theorem zt {fp:List Addr} {h:Heap} {b:Addr} {o:Obj} (hb:b ∈ fp) (e:h.get? b = some o):(b,o) ∈ zCH fp h:=List.mem_filterMap.mpr ⟨b,hb,by rw [e]; rfl⟩
theorem zG6 {fp:List Addr} {h:Heap} {p:Addr × Obj} (hp:p ∈ zCH fp h):p.1 ∈ fp /\ h.get? p.1 = some p.2:=by
 obtain ⟨b,hb,e⟩:=List.mem_filterMap.mp hp;cases q:h.get? b with
 | none=>rw [q] at e; cases e
 | some o=>
  rw [q] at e;have e':(b,o) = p:=zV5 e;subst e';exact ⟨hb,q⟩
theorem Inv.pinned {zB:List (Addr × Obj)} {σ:St} {H:Hp} {s:Shared} {fp:List Addr} (I:Inv X zB σ H s) (hf:∀ b ∈ fp,zBt X zB H b) (ho:∀ b ∈ fp,∃ o,s.heap.get? b = some o /\ ∀ v,o.data ≠ .cell v):Inv X (zB ++ zCH fp s.heap) σ H s :=
 I.pins_of fun p hp=>(zVV.mp hp).elim (fun z=>I.pin p (zVP _ z)) fun z=>by
  obtain ⟨hb,e⟩:=zG6 z;obtain ⟨f0,f1,f2,_⟩:=hf p.1 hb;obtain ⟨o,e',d⟩:=ho p.1 hb;rw [e] at e'; cases e';exact ⟨e,f0,f1,f2,d⟩
theorem Inv.unpinned {zB pl:List (Addr × Obj)} {σ:St} {H:Hp} {s:Shared} (I:Inv X (zB ++ pl) σ H s):Inv X zB σ H s:=I.pins_of fun p hp=>I.pin p (zVP _ (zWK _ hp))
theorem zTC {iter:Expr} {body:List Stmt} {wi:TI} {g:TG} {tb:TS} {pos:Pos} (hp:PassesOwn (model X.prog X.w) X.A X.env X.xe) (hc:X.calm = true) (hi:PI X tg iter wi) (hg:PG X tg g) (hb:PSs X body tb)
  (hs:∀ x,foldedSetIterable iter X.env x = pure x:=by intro _; rfl):PS X (.For tg iter body [] pos) (zUB wi g tb):=by
 intro zB s σ H D I h;refine wpAny_For (thn (hi zB s σ H _ I h) fun v s1 h1=>thn h1 fun itv s2 h2=>?_) hs;obtain ⟨it,fp,tn,J,H2,e,I2,T,st2,f2,W,⟨m0,w0⟩,turn⟩:=h2;subst e;have stat:∀ {H':Hp},(∀ b ∈ fp,H' b = none) -> ∀ b ∈ fp,zBt X zB H' b:=fun hn b hb=>⟨hn b hb,(f2 b hb).2⟩;refine codeAny_forLoop_any (fun n s'=>∃ i σ' H',Inv X zB σ' H' s' /\ tn i s'.heap /\ (∀ b ∈ fp,H' b = none) /\ W i n σ' H') ?_ m0 ⟨0,σ,H2,I2,st2,fun b hb=>(f2 b hb).1,w0⟩;rintro n s3 ⟨i,σ3,H3,I3,st3,fr3,w3⟩;rcases turn i n σ3 H3 w3 with ⟨stop,qn⟩ | ⟨go,N,hN,step⟩
 ·refine wpAny_passesOwn hp (thn (T.done X rfl rfl rfl hc i zB s3 σ3 H3 X.xe I3 (stat fr3) st3 stop) fun r s4 ⟨hr,I4⟩=>?_);subst hr;exact wpAny_execs_nil ⟨σ3,H3,I4,qn⟩
 ·refine wpAny_passesOwn hp (thn (T.item X rfl rfl rfl hc i zB s3 σ3 H3 X.xe I3 (stat fr3) st3 go) fun r s4 ⟨u,hr,h4⟩=>?_);subst hr;refine wpAny_passesOwn hp (thn h4 fun _ s5 ⟨x,H5,I5,r5,y5,st5,fr5⟩=>?_);have I5':=I5.pinned (stat fr5) (T.obj _ _ st5);refine wpAny_passesOwn hp (thn (hg _ s5 σ3 H5 x u _ I5' r5 (step x H5 y5)) fun _ s6 ⟨σ6,H6,I6,q6⟩=>?_);refine wpAny_passesOwn hp (thn (hb _ s6 σ6 H6 _ I6 q6) fun f s7 q7=>?_);have again:∀ {σ7:St} {H7:Hp},Inv X (zB ++ zCH fp s5.heap) σ7 H7 s7 -> N σ7 H7 -> ∃ m,m < n /\ ∃ i σ' H',Inv X zB σ' H' s7 /\ tn i s7.heap /\ (∀ b ∈ fp,H' b = none) /\ W i m σ' H':=fun {σ7 H7} I7 n7=>by
   obtain ⟨m',hm,w7⟩:=hN σ7 H7 n7;refine ⟨m',hm,i + 1,σ7,H7,I7.unpinned,T.keep _ _ _ st5 fun b hb o e=>(I7.pin (b,o) (zVP _ (zVP _ (zt hb e)))).1,fun b hb=>?_,w7⟩;obtain ⟨o,e,d⟩:=T.obj _ _ st5 b hb;exact (I7.pin (b,o) (zVP _ (zVP _ (zt hb e)))).2.1
  cases f with
  | next=>obtain ⟨σ7,H7,I7,n7⟩:=q7; exact again I7 n7
  | cont=>obtain ⟨σ7,H7,I7,n7⟩:=q7; exact again I7 n7
  | brk=>obtain ⟨σ7,H7,I7,q7⟩:=q7; exact ⟨σ7,H7,I7.unpinned,q7⟩
  | ret v=>obtain ⟨x7,σ7,H7,I7,r7,q7⟩:=q7; exact ⟨x7,σ7,H7,I7.unpinned,r7,q7⟩
end
abbrev R2:=V -> V -> Hp -> VK -> Prop
def OpR (X:Cx) (f:Value -> Value -> Sem Value) (r:R2):Prop :=
 ∀ (zB:List (Addr × Obj)) (s:Shared) (σ:St) (H:Hp) (x y:V) (v u:Value) (Q:VK),Inv X zB σ H s -> za x v -> za y u -> r x y H Q ->
  wpAny (model X.prog X.w) X.A (f v u) (EP X zB σ Q) X.xe s
def zBX (X:Cx) (f:Value) (r:List V -> Hp -> VK -> Prop):Prop :=
 ∀ (zB:List (Addr × Obj)) (s:Shared) (σ:St) (H:Hp) (xs:List V) (us:List Value) (Q:VK),Inv X zB σ H s -> zW xs us -> r xs H Q ->
  wpAny (model X.prog X.w) X.A (call f us) (EP X zB σ Q) X.xe s
def zUq (X:Cx) (r:V -> Hp -> (Bool -> Hp -> Prop) -> Prop):Prop :=
 ∀ (zB:List (Addr × Obj)) (s:Shared) (σ:St) (H:Hp) (x:V) (v:Value) (Q:Bool -> Hp -> Prop),Inv X zB σ H s -> za x v -> r x H Q ->
  wpAny (model X.prog X.w) X.A (truthy v) (TP X zB σ Q) X.xe s
def tOp (r:R2) (ta tb:TE):TE:=fun σ H Q=>ta σ H fun x H1=>tb σ H1 fun y H2=>r x y H2 Q
def rI (C:Int -> Int -> Prop) (g:Int -> Int -> V):R2:=fun x y H Q=>∃ i j,x = .int i /\ y = .int j /\ C i j /\ Q (g i j) H
def rI0 (g:Int -> Int -> V):R2:=fun x y H Q=>∃ i j,x = .int i /\ y = .int j /\ Q (g i j) H
section
variable {X:Cx} {a b c:Expr} {ta tb tc:TE} {pos:Pos}
theorem zR5 (ha:PE X a ta) (hb:PE X b tb) {zB:List (Addr × Obj)} {s:Shared} {σ:St} {H:Hp} {R:V -> V -> Hp -> Prop} (I:Inv X zB σ H s)
  (h:ta σ H fun x H1=>tb σ H1 fun y H2=>R x y H2) {Q:Value -> Shared -> Prop} {f:Value -> Value -> Sem Value}
  (hf:∀ v u s2 x y H2,Inv X zB σ H2 s2 -> za x v -> za y u -> R x y H2 -> wpAny (model X.prog X.w) X.A (f v u) Q X.xe s2) :
  wpAny (model X.prog X.w) X.A (eval a X.env) (fun v s₁=>wpAny (model X.prog X.w) X.A (eval b X.env) (fun u s₂=>wpAny (model X.prog X.w) X.A (f v u) Q X.xe s₂) X.xe s₁) X.xe s:=by
 refine thn (ha zB s σ H _ I h) fun v s1 ⟨x,H1,I1,r1,q1⟩=>?_;refine thn (hb zB s1 σ H1 _ I1 q1) fun u s2 ⟨y,H2,I2,r2,q2⟩=>?_;exact hf v u s2 x y H2 I2 r1 r2 q2
theorem zTQ {op:Operator} {r:R2} (ho:OpR X (binaryOp op) r) (ha:PE X a ta) (hb:PE X b tb):PE X (.BinOp a op b pos) (tOp r ta tb):=by
 intro zB s σ H Q I h;exact wpAny_BinOp (zR5 ha hb I h fun v u s2 x y H2 I2 rx ry q=>ho zB s2 σ H2 x y v u Q I2 rx ry q)
theorem opI {f:Value -> Value -> Sem Value} {C:Int -> Int -> Prop} {g:Int -> Int -> Int}
  (rule:∀ (i j:Int) (t u:Tok) (s:Shared) (Q:Value -> Shared -> Prop) (E:Value -> Shared -> Prop),C i j -> Q (.int (g i j) s.toks) { s with toks:=s.toks + 1 } -> wpAny (model X.prog X.w) X.A (f (.int i t) (.int j u)) Q E s) :
  OpR X f (rI C fun i j=> .int (g i j)):=by
 intro zB s σ H x y v u Q I rx ry h;obtain ⟨i,j,rfl,rfl,hc,q⟩:=h;obtain ⟨t,rfl⟩:=rx;obtain ⟨t',rfl⟩:=ry;exact rule i j t t' s _ _ hc ⟨.int (g i j),H,I.tok _,⟨_,rfl⟩,q⟩
theorem zUK {f:Value -> Value -> Sem Value} {g:Int -> Int -> Int}
  (rule:∀ (i j:Int) (t u:Tok) (s:Shared) (Q:Value -> Shared -> Prop) (E:Value -> Shared -> Prop),Q (.int (g i j) s.toks) { s with toks:=s.toks + 1 } -> wpAny (model X.prog X.w) X.A (f (.int i t) (.int j u)) Q E s) :
  OpR X f (rI0 fun i j=> .int (g i j)):=by
 intro zB s σ H x y v u Q I rx ry h;obtain ⟨i,j,rfl,rfl,q⟩:=h;obtain ⟨t,rfl⟩:=rx;obtain ⟨t',rfl⟩:=ry;exact rule i j t t' s _ _ ⟨.int (g i j),H,I.tok _,⟨_,rfl⟩,q⟩
theorem zPx {f:Value -> Value -> Sem Value} {g:Int -> Int -> Bool}
  (rule:∀ (i j:Int) (t u:Tok) (s:Shared) (Q:Value -> Shared -> Prop) (E:Value -> Shared -> Prop),Q (.bool (g i j)) s -> wpAny (model X.prog X.w) X.A (f (.int i t) (.int j u)) Q E s) :
  OpR X f (rI0 fun i j=> .bl (g i j)):=by
 intro zB s σ H x y v u Q I rx ry h;obtain ⟨i,j,rfl,rfl,q⟩:=h;obtain ⟨t,rfl⟩:=rx;obtain ⟨t',rfl⟩:=ry;exact rule i j t t' s _ _ ⟨.bl (g i j),H,I,rfl,q⟩
def zUd (i j:Int):Prop:=0 < j /\ j < 1073741824
def zU2 (i j:Int):Prop:=0 <= j /\ j <= 1000000 /\ i.natAbs < 2 ^ 64
def zSM (i j:Int):Prop:=(-(2 ^ 64) < i /\ i < 2 ^ 64) \/ (-(2 ^ 64) < j /\ j < 2 ^ 64)
theorem zSM.ok {i j:Int} (h:zSM i j):IntMulOk i j:=by
 rcases h with ⟨h1,h2⟩ | ⟨h1,h2⟩
 ·exact .of_left (intBits_le_64 h1 h2)
 ·exact .of_right (intBits_le_64 h1 h2)
theorem zSp:OpR X (binaryOp .Add) (rI0 fun i j=> .int (i + j)):=zUK fun _ _ _ _ _ _ _ q=>add_int q
theorem zSw:OpR X (binaryOp .Sub) (rI0 fun i j=> .int (i - j)):=zUK fun _ _ _ _ _ _ _ q=>sub_int q
theorem zRm:OpR X (binaryOp .Mult) (rI zSM fun i j=> .int (i * j)):=opI fun _ _ _ _ _ _ _ hc q=>mul_int q hc.ok
theorem zP5:OpR X (binaryOp .FloorDiv) (rI zUd fun i j=> .int (i / j)):=opI fun i j _ _ _ _ _ hc q=>by
 have h1:(0:Int) < j:=hc.1;have h2:j < 1073741824:=hc.2;exact floordiv_int (by omega) (by rw [Int.fdiv_eq_ediv_of_nonneg i (by omega)]; exact q) (.inl (PyProof.noPylong_small (by omega)))
theorem zSl:OpR X (binaryOp .Mod) (rI (fun _ j=>0 < j) fun i j=> .int (i % j)):=opI fun i j _ _ _ _ _ hc q=>by
 have h1:(0:Int) < j:=hc;exact mod_int' (by omega) (by rw [Int.fmod_eq_emod_of_nonneg i (by omega)]; exact q)
theorem zSN:OpR X (binaryOp .Pow) (rI zU2 fun i j=> .int (i ^ j.toNat)):=opI fun _ _ _ _ _ _ _ hc q=>pow_int_small hc.1 hc.2.1 hc.2.2 q
end
def zQg:V -> V -> Bool
 | .non,.non=>true | .non,.int _=>true | .int _,.non=>true | .non,.bl _=>true | .bl _,.non=>true | .non,.str _=>true | .str _,.non=>true
 | .int _,.int _=>true | .bl _,.bl _=>true | .str _,.str _=>true | .byt _,.byt _=>true
 | .int _,.str _=>true | .str _,.int _=>true | .bl _,.str _=>true | .str _,.bl _=>true
 | _,_=>false
def rEq:R2:=fun x y H Q=>zQg x y = true /\ Q (.bl (decide (x = y))) H
def rNe:R2:=fun x y H Q=>zQg x y = true /\ Q (.bl (!decide (x = y))) H
theorem zLC {i j:Int}:decide (V.int i = V.int j) = (i == j):=by
 rw [Bool.eq_iff_iff];simp
theorem zO4 {i j:Bool}:decide (V.bl i = V.bl j) = (i == j):=by
 rw [Bool.eq_iff_iff];simp
theorem zLB {i j:Str}:decide (V.str i = V.str j) = (i == j):=by
 rw [Bool.eq_iff_iff];simp
theorem zLb {i j:Array UInt8}:decide (V.byt i = V.byt j) = (i.toList == j.toList):=by
 rw [Bool.eq_iff_iff];cases i;cases j;simp
section
variable {X:Cx} {a b c:Expr} {ta tb tc:TE} {pos:Pos}
theorem zc {zB:List (Addr × Obj)} {σ:St} {H:Hp} {s:Shared} {Q:VK} {k k':Bool} (I:Inv X zB σ H s) (q:Q (.bl k) H) (e:k = k'):EP X zB σ Q (.bool k') s:=by
 subst e;exact ⟨.bl k,H,I,rfl,q⟩
theorem zRQ:OpR X (compareOp .Eq) rEq:=by
 intro zB s σ H x y v u Q I rx ry h;obtain ⟨hs,q⟩:=h;cases x with
 | non=>
  cases rx;cases y with
  | non=>cases ry; exact PySem.EqNone.eq_none_none (zc I q (by simp))
  | bl j=>cases ry; exact PySem.EqNone.eq_none_bool (zc I q (by simp))
  | int j=>obtain ⟨t',rfl⟩:=ry; exact PySem.EqNone.eq_none_int (zc I q (by simp))
  | str j=>obtain ⟨t',rfl⟩:=ry; exact PySem.EqNone.eq_none_str (zc I q (by simp))
  | _=>exact absurd (show false = true from hs) zVR
 | bl i=>
  cases rx;cases y with
  | non=>cases ry; exact PySem.EqNone.eq_bool_none (zc I q (by simp))
  | bl j=>cases ry; exact eq_bool (zc I q zO4)
  | str j=>obtain ⟨t',rfl⟩:=ry; exact PySem.EqMixed.eq_bool_str (zc I q (by simp))
  | _=>exact absurd (show false = true from hs) zVR
 | int i=>
  obtain ⟨t,rfl⟩:=rx;cases y with
  | non=>cases ry; exact PySem.EqNone.eq_int_none (zc I q (by simp))
  | int j=>obtain ⟨t',rfl⟩:=ry; exact eq_int (zc I q zLC)
  | str j=>obtain ⟨t',rfl⟩:=ry; exact PySem.EqMixed.eq_int_str (zc I q (by simp))
  | _=>exact absurd (show false = true from hs) zVR
 | str i=>
  obtain ⟨t,rfl⟩:=rx;cases y with
  | non=>cases ry; exact PySem.EqNone.eq_str_none (zc I q (by simp))
  | bl j=>cases ry; exact PySem.EqMixed.eq_str_bool (zc I q (by simp))
  | int j=>obtain ⟨t',rfl⟩:=ry; exact PySem.EqMixed.eq_str_int (zc I q (by simp))
  | str j=>obtain ⟨t',rfl⟩:=ry; exact eq_str (zc I q zLB)
  | _=>exact absurd (show false = true from hs) zVR
 | byt i=>
  obtain ⟨t,rfl⟩:=rx;cases y with
  | byt j=>obtain ⟨t',rfl⟩:=ry; exact PySem.W.eq_bytes (zc I q zLb)
  | _=>exact absurd (show false = true from hs) zVR
 | _=>cases y <;> exact absurd (show false = true from hs) zVR
theorem zUG:OpR X (compareOp .NotEq) rNe:=by
 intro zB s σ H x y v u Q I rx ry h;obtain ⟨hs,q⟩:=h;cases x with
 | non=>
  cases rx;cases y with
  | non=>cases ry; exact PySem.EqNone.ne_none_none (zc I q (by simp))
  | bl j=>cases ry; exact PySem.EqNone.ne_none_bool (zc I q (by simp))
  | int j=>obtain ⟨t',rfl⟩:=ry; exact PySem.EqNone.ne_none_int (zc I q (by simp))
  | str j=>obtain ⟨t',rfl⟩:=ry; exact PySem.EqNone.ne_none_str (zc I q (by simp))
  | _=>exact absurd (show false = true from hs) zVR
 | bl i=>
  cases rx;cases y with
  | non=>cases ry; exact PySem.EqNone.ne_bool_none (zc I q (by simp))
  | bl j=>cases ry; exact ne_bool (zc I q (zWs not zO4))
  | str j=>obtain ⟨t',rfl⟩:=ry; exact PySem.EqMixed.ne_bool_str (zc I q (by simp))
  | _=>exact absurd (show false = true from hs) zVR
 | int i=>
  obtain ⟨t,rfl⟩:=rx;cases y with
  | non=>cases ry; exact PySem.EqNone.ne_int_none (zc I q (by simp))
  | int j=>obtain ⟨t',rfl⟩:=ry; exact ne_int (zc I q (zWs not zLC))
  | str j=>obtain ⟨t',rfl⟩:=ry; exact PySem.EqMixed.ne_int_str (zc I q (by simp))
  | _=>exact absurd (show false = true from hs) zVR
 | str i=>
  obtain ⟨t,rfl⟩:=rx;cases y with
  | non=>cases ry; exact PySem.EqNone.ne_str_none (zc I q (by simp))
  | bl j=>cases ry; exact PySem.EqMixed.ne_str_bool (zc I q (by simp))
  | int j=>obtain ⟨t',rfl⟩:=ry; exact PySem.EqMixed.ne_str_int (zc I q (by simp))
  | str j=>obtain ⟨t',rfl⟩:=ry; exact ne_str (zc I q (zWs not zLB))
  | _=>exact absurd (show false = true from hs) zVR
 | byt i=>
  obtain ⟨t,rfl⟩:=rx;cases y with
  | byt j=>obtain ⟨t',rfl⟩:=ry; exact PySem.W.ne_bytes (zc I q (zWs not zLb))
  | _=>exact absurd (show false = true from hs) zVR
 | _=>cases y <;> exact absurd (show false = true from hs) zVR
theorem zLA:OpR X (compareOp .Lt) (rI0 fun i j=> .bl (decide (i < j))):=zPx fun _ _ _ _ _ _ _ q=>lt_int q
theorem zRR:OpR X (compareOp .LtE) (rI0 fun i j=> .bl (decide (i <= j))):=zPx fun _ _ _ _ _ _ _ q=>le_int q
theorem zUN:OpR X (compareOp .Gt) (rI0 fun i j=> .bl (decide (j < i))):=zPx fun _ _ _ _ _ _ _ q=>gt_int q
theorem zUI:OpR X (compareOp .GtE) (rI0 fun i j=> .bl (decide (j <= i))):=zPx fun _ _ _ _ _ _ _ q=>ge_int q
theorem OpR.or {f:Value -> Value -> Sem Value} {r r':R2} (h:OpR X f r) (h':OpR X f r'):OpR X f (fun x y H Q=>r x y H Q \/ r' x y H Q):=by
 intro zB s σ H x y v u Q I rx ry q;rcases q with q | q
 ·exact h zB s σ H x y v u Q I rx ry q
 ·exact h' zB s σ H x y v u Q I rx ry q
theorem zC0 (b:Expr) {op:CmpOp} (h:op ≠ .In:=by decide) (h2:op ≠ .NotIn:=by decide):behindInMarks op b = false:=by
 have e1:(op == CmpOp.In) = false:=by cases op <;> first | rfl | exact absurd rfl h
 have e2:(op == CmpOp.NotIn) = false:=by cases op <;> first | rfl | exact absurd rfl h2
 cases b <;> simp [behindInMarks,e1,e2]
theorem zRK {op:CmpOp} {r:R2} (ho:OpR X (compareOp op) r) (ha:PE X a ta) (hb:PE X b tb) (hm:behindInMarks op b = false):PE X (.Compare a [op] [b] pos) (tOp r ta tb):=by
 intro zB s σ H Q I h;exact wpAny_Compare1 (zR5 ha hb I h fun v u s2 x y H2 I2 rx ry q=>ho zB s2 σ H2 x y v u Q I2 rx ry q) hm
def zLP (t:TE):TT:=fun σ H Q=>t σ H fun x H'=>∃ k,x = .bl k /\ Q k H'
theorem zPk {op:CmpOp} {r:R2} (ho:OpR X (compareOp op) r) (ha:PE X a ta) (hb:PE X b tb) (hm:behindInMarks op b = false):PT X (.Compare a [op] [b] pos) (zLP (tOp r ta tb)):=by
 intro zB s σ H Q I h;refine wpAny_isTrue_Compare1 (thn (ha zB s σ H _ I h) fun v s1 ⟨x,H1,I1,r1,q1⟩=>thn (hb zB s1 σ H1 _ I1 q1) fun u s2 ⟨y,H2,I2,r2,q2⟩=>
  thn (ho zB s2 σ H2 x y v u _ I2 r1 r2 q2) fun c s3 ⟨z,H3,I3,r3,k,e,q3⟩=>?_) hm
 subst e;cases r3;exact zWH ⟨H3,I3,q3⟩
def zOu (r r':R2) (ta tb tc:TE):TE:=fun σ H Q=>ta σ H fun x H1=>tb σ H1 fun y H2=>r x y H2 fun z H3=>∃ k,z = .bl k /\
 (if k = true then tc σ H3 fun w' H4=>r' y w' H4 Q else Q (.bl false) H3)
theorem zNO {op op':CmpOp} {r r':R2} (ho:OpR X (compareOp op) r) (ho':OpR X (compareOp op') r') (ha:PE X a ta) (hb:PE X b tb) (hc:PE X c tc)
  (hm:lastMarks [op,op'] [b,c] = false:=by with_unfolding_all rfl):PE X (.Compare a [op,op'] [b,c] pos) (zOu r r' ta tb tc):=by
 intro zB s σ H Q I h;refine Compare_chain (thn (ha zB s σ H _ I h) fun v s1 ⟨x,H1,I1,r1,q1⟩=>chain_link (thn (hb zB s1 σ H1 _ I1 q1) fun u s2 ⟨y,H2,I2,r2,q2⟩=>
  thn (ho zB s2 σ H2 x y v u _ I2 r1 r2 q2) fun d s3 ⟨z,H3,I3,r3,k,e,q3⟩=>?_)) hm
 subst e;cases r3;refine zWH ?_;cases k with
 | false=>exact ite_ff ⟨.bl false,H3,I3,rfl,q3⟩
 | true=>exact ite_tt (chain_last (thn (hc zB s3 σ H3 _ I3 q3) fun w' s4 ⟨z',H4,I4,r4,q4⟩=>ho' zB s4 σ H4 y z' u w' Q I4 r2 r4 q4))
def zTY (K:PySem.W.Frag) (x:V) (H:Hp) (k:Bool):Prop :=
 match x with
 | .non=>k = false
 | .bl b=>k = b
 | .int i=>k = (i != 0)
 | .str y=>y.length <= sizeLine /\ k = ((y.length:Int) != 0)
 | .byt y=>y.size <= sizeLine /\ k = ((y.size:Int) != 0)
 | .ref p=>(∃ xs,SqL K H p xs /\ k = !xs.isEmpty) \/ (∃ xs,SqT K H p xs /\ k = !xs.isEmpty) \/ ∃ kvs,H p = some (.dK kvs) /\ k = !kvs.isEmpty
 | _=>False
theorem zKd {κ:Type} {kvs:List (κ × V)} {vs:List (κ × Value)} (r:KV kvs vs):(!vs.isEmpty) = !kvs.isEmpty:=by
 cases r <;> rfl
theorem zGQ {xs:List V} {its:List Value} (r:zW xs its):(!its.toArray.isEmpty) = !xs.isEmpty:=by
 cases r <;> simp
theorem zEY:(sizeLine:Nat) < 2 ^ 63:=by rw [sizeLine_eq]; decide
theorem zR4:zUq X (fun x H Q=>∃ k,zTY X.K x H k /\ Q k H):=by
 intro zB s σ H x v Q I rx h;obtain ⟨k,e,q⟩:=h;have hl:=zEY;have hs:sizeLine = 16777216:=sizeLine_eq;cases x with
 | non=>
  cases rx;have e':k = false:=e;subst e';exact truthy_none ⟨H,I,q⟩
 | bl b=>
  cases rx;have e':k = b:=e;subst e';exact zWH ⟨H,I,q⟩
 | int i=>
  obtain ⟨t,rfl⟩:=rx;have e':k = (i != 0):=e;subst e';exact PySem.P.truthy_int ⟨H,I,q⟩
 | str y=>
  obtain ⟨t,rfl⟩:=rx;obtain ⟨hy,e'⟩:y.length <= sizeLine /\ k = ((y.length:Int) != 0):=e;subst e';exact PySem.P.truthy_str (by omega) ⟨H,I.tok _,q⟩
 | byt y=>
  obtain ⟨t,rfl⟩:=rx;obtain ⟨hy,e'⟩:y.size <= sizeLine /\ k = ((y.size:Int) != 0):=e;subst e';exact PySem.W.truthy_bytes (by omega) ⟨H,I.tok _,q⟩
 | ref p=>
  cases rx;have e':(∃ xs,SqL X.K H p xs /\ k = !xs.isEmpty) \/ (∃ xs,SqT X.K H p xs /\ k = !xs.isEmpty) \/ ∃ kvs,H p = some (.dK kvs) /\ k = !kvs.isEmpty:=e;rcases e' with ⟨xs,hx,e'⟩ | ⟨xs,hx,e'⟩ | ⟨kvs,hx,e'⟩
  ·subst e';obtain ⟨its,r,pl,hz⟩:=I.list hx;have hlen:=r.length;exact wpAny_truthy_list pl.isList (by simp only [zVD]; omega) ⟨H,I.tok _,by rw [zGQ r]; exact q⟩
  ·subst e';obtain ⟨its,r,pl,hz⟩:=I.tuple hx;have hlen:=r.length;exact truthy_tuple pl (by simp only [zVD]; omega) ⟨H,I.tok _,by rw [zGQ r]; exact q⟩
  ·subst e';obtain ⟨hz,hS,vs,r,m⟩:kvs.length <= sizeLine /\ (p == sysModules) = false /\ ∃ vs,KV kvs vs /\ s.heap.DictOf (zi X.prog X.w) p vs:=I.hok p _ hx;have hlen:kvs.length = vs.length:=Paired.length r;exact wpAny_truthy_dict hS m (by omega) ⟨H,I.tok _,by rw [zKd r]; exact q⟩
 | _=>exact (show False from e).elim
theorem zPK (ha:PE X a ta) (he:∀ whole,isTrue a X.env whole = (do let v <- whole; standAt a.pos; holding [v] (truthy v))) :
  PT X a (fun σ H Q=>ta σ H fun x H'=>∃ k,zTY X.K x H' k /\ Q k H'):=by
 intro zB s σ H Q I h;exact isTrue_plain (thn (ha zB s σ H _ I h) fun v s1 ⟨x,H1,I1,r1,q1⟩=>zR4 zB s1 σ H1 x v Q I1 r1 q1) (he _)
theorem zDJ {x:V} {us:List Value} (r:zW [x] us):∃ u,us = [u] /\ za x u:=by
 cases r with
 | cons r1 r2=>cases r2; exact ⟨_,rfl,r1⟩
theorem zRS {x y:V} {us:List Value} (r:zW [x,y] us):∃ u w',us = [u,w'] /\ za x u /\ za y w':=by
 cases r with
 | cons r1 r2=>
  cases r2 with
  | cons r3 r4=>cases r4; exact ⟨_,_,rfl,r1,r3⟩
theorem zOy:zBX X (.builtin "abs") (fun xs H Q=>∃ i,xs = [.int i] /\ Q (.int (if i < 0 then -i else i)) H):=by
 intro zB s σ H xs us Q I r h;obtain ⟨i,rfl,q⟩:=h;obtain ⟨u,rfl,t,rfl⟩:=zDJ r;exact call_abs_int fun u tk=>⟨.int (if i < 0 then -i else i),H,I.tok _,⟨_,rfl⟩,q⟩
theorem zMD (hc:X.calm = true):zBX X (.builtin "max") (fun xs H Q=>∃ i j,xs = [.int i,.int j] /\ Q (.int (if j > i then j else i)) H):=by
 intro zB s σ H xs us Q I r h;obtain ⟨i,j,rfl,q⟩:=h;obtain ⟨u,w',rfl,⟨t,rfl⟩,⟨t',rfl⟩⟩:=zRS r;refine max_two_ints (I.ok.hd hc) fun h' tk k=>⟨_,H,I.kept k,?_,q⟩;by_cases hj:j > i
 ·rw [zVK hj,zVK hj]; exact ⟨_,rfl⟩
 ·rw [zVN hj,zVN hj]; exact ⟨_,rfl⟩
theorem zMF (hc:X.calm = true):zBX X (.builtin "min") (fun xs H Q=>∃ i j,xs = [.int i,.int j] /\ Q (.int (if j < i then j else i)) H):=by
 intro zB s σ H xs us Q I r h;obtain ⟨i,j,rfl,q⟩:=h;obtain ⟨u,w',rfl,⟨t,rfl⟩,⟨t',rfl⟩⟩:=zRS r;refine min_two_ints (I.ok.hd hc) fun h' tk k=>⟨_,H,I.kept k,?_,q⟩;by_cases hj:j < i
 ·rw [zVK hj,zVK hj]; exact ⟨_,rfl⟩
 ·rw [zVN hj,zVN hj]; exact ⟨_,rfl⟩
theorem zMe:zBX X (.type "int") (fun xs H Q=>(∃ i,xs = [.int i] /\ Q (.int i) H) \/ ∃ k,xs = [.bl k] /\ Q (.int (if k then 1 else 0)) H):=by
 intro zB s σ H xs us Q I r h;rcases h with ⟨i,rfl,q⟩ | ⟨k,rfl,q⟩
 ·obtain ⟨u,rfl,t,rfl⟩:=zDJ r;exact call_int_int ⟨.int i,H,I,⟨_,rfl⟩,q⟩
 ·obtain ⟨u,rfl,r1⟩:=zDJ r;cases r1;exact call_int_bool ⟨.int (if k then 1 else 0),H,I.tok _,⟨_,rfl⟩,q⟩
end
structure ObjM (h:Heap) (x dx C:Addr) (mA:Str -> Option Value):Prop where
 obj:h.get? x = some (PySem.W.instObj C dx)
 ns:h.Ns1 dx mA
 ne:dx ≠ x
theorem zMG {h:Heap} {dx:Addr} {mA:Str -> Option Value} (n:h.Ns1 dx mA):∃ od,h.get? dx = some od /\ ∀ name,PySem.W.lookIn name od = some (mA name):=by
 obtain ⟨o,es,ep,ho,hd,hk,_,hm⟩:=n;refine ⟨o,ho,fun name=>?_⟩;have e:=hm name;unfold nsFind findBy at e;rw [<- Array.find?_toList] at e;unfold PySem.W.lookIn;rw [hd];dsimp only;split
 ·rename_i y q;rw [q] at e;exact zWs some e
 ·rename_i q;rw [q] at e;have a:es.toList.any (·.refKey) = false:=by
   rw [List.any_eq_false];intro y hy;obtain ⟨z,t,hkey⟩:=hk y (Array.mem_toList_iff.mp hy);simp [DictEntry.refKey,hkey]
  have a':¬ es.toList.any (·.refKey) = true:=by rw [a]; exact zVR
  rw [zVN a'];exact zWs some e
theorem ObjM.look {h:Heap} {x dx C:Addr} {mA:Str -> Option Value} (I:ObjM h x dx C mA):∃ od,PySem.W.InstAt h x (PySem.W.instObj C dx) C (some od) /\ ∀ name,PySem.W.lookIn name od = some (mA name) :=
 let ⟨od,ho,hl⟩:=zMG I.ns
 ⟨od,⟨I.obj,rfl,rfl,ho⟩,hl⟩
theorem zEd.some_of {v:V} {o:Option Value} (r:zEd (some v) o):∃ u,o = some u /\ za v u:=by
 cases o with
 | none=>exact (show False from r).elim
 | some u=>exact ⟨u,rfl,r⟩
section
variable {P:Program} {w:World} {H H':Hp} {h h':Heap} {a C dx:Addr} {fs fs':List (Str × V)}
theorem zRB (hok:HOk P w H h) (e:H a = some (.ins C dx fs)):∃ mA,ObjM h a dx C mA /\ (∀ f,zEd (fs.lookup f) (mA f)) /\ PySem.Within mA (fs.map (·.1)) /\ fs.length <= 1000 /\ H dx = some (.own a):=by
 obtain ⟨d,z,ne,ob,mA,n,r,q⟩:=(show zl P w H h a (.ins C dx fs) from hok a _ e);exact ⟨mA,⟨ob,n,ne⟩,r,q,z,d⟩
end
structure Cls (K:PySem.W.Frag) (C:Addr):Prop where
 pg:PySem.W.plainGet K C Str.empty = true
 hd:PySem.W.hasDictIn K C = true
 po:PySem.W.plainOver K C = true
 sa:PySem.W.findIn K (.ref C) "__setattr__" = some (some (.builtin "object.__setattr__"))
theorem Cls.get {K:PySem.W.Frag} {C:Addr} (c:Cls K C) (f:Str):PySem.W.plainGet K C f = true:=c.pg
section
variable {X:Cx} {zB:List (Addr × Obj)} {σ:St} {H:Hp} {s:Shared} {A:Around} {E:Value -> Shared -> Prop} {Q:Value -> Shared -> Prop} {c:Value} {b:Bool}
set_option genInjectivity true in
inductive TyOf (K:PySem.W.Frag) (H:Hp):V -> Value -> Prop where
 | non:TyOf K H .non (.type "NoneType")
 | bl (x:Bool):TyOf K H (.bl x) (.type "bool")
 | int (i:Int):TyOf K H (.int i) (.type "int")
 | str (x:Str):TyOf K H (.str x) (.type "str")
 | flt (x:UInt64):TyOf K H (.flt x) (.type "float")
 | lst {a:Addr} {xs:List V} (e:H a = some (.lst xs)):TyOf K H (.ref a) (.type "list")
 | frz {a:Addr} {o:Obj} {xs:List V} (e:H a = some (.frz o (.lst xs))):TyOf K H (.ref a) (.type "list")
 | tup {a:Addr} {xs:List V} (e:H a = some (.tup xs)):TyOf K H (.ref a) (.type "tuple")
 | dK {a:Addr} {kvs:List (Key × V)} (e:H a = some (.dK kvs)):TyOf K H (.ref a) (.type "dict")
 | dT {a:Addr} {kvs:List (List Key × V)} (e:H a = some (.dT kvs)):TyOf K H (.ref a) (.type "dict")
 | ins {a C dx:Addr} {fs:List (Str × V)} (e:H a = some (.ins C dx fs)) (cl:Cls K C) (ha:PySem.W.findIn K (.ref C) "__class__" = some (some (.builtin "object.__class__")))
   (hn:PySem.W.specialIn K (.builtin "object.__class__") "__get__" = some (some (.builtin "getset_descriptor.__get__"))) (htk:PySem.W.takesIn K (.builtin "object.__class__") = some true)
   (hm:PySem.W.mroIn K C (.type "object") = some true):TyOf K H (.ref a) (.ref C)
theorem zL6 {x:V} {u t:Value} (I:Inv X zB σ H s) (rx:za x u) (ty:TyOf X.K H x t) (e:PySem.W.kitOne X.K t c = some b) (h:∀ tk,Q (.bool b) { s with toks:=tk }) :
  wpAny (model X.prog X.w) A (call (.builtin "isinstance") [u,c]) Q E s:=by
 cases ty with
 | non=>cases (show u = Value.none from rx); exact zWi PySem.W.kitx_none I.kIn True.intro e (fun z=>nomatch z) h
 | bl y=>cases (show u = Value.bool y from rx); exact zWi PySem.W.kitx_bool I.kIn True.intro e (fun z=>nomatch z) h
 | int i=>obtain ⟨t,q⟩:=(show ∃ t,u = Value.int i t from rx); cases q; exact zWi PySem.W.kitx_int I.kIn True.intro e (fun z=>nomatch z) h
 | str y=>obtain ⟨t,q⟩:=(show ∃ t,u = Value.str y t from rx); cases q; exact zWi PySem.W.kitx_str I.kIn True.intro e (fun z=>nomatch z) h
 | flt y=>obtain ⟨t,q⟩:=(show ∃ t,u = Value.float y t from rx); cases q; exact zWi PySem.W.kitx_float I.kIn True.intro e (fun z=>nomatch z) h
 | @lst a xs ea=>
  cases (show u = Value.ref a from rx);obtain ⟨_,_,n,_,h1⟩:=(show zl X.prog X.w H s.heap a (.lst xs) from I.hok a _ ea);exact zWi PySem.W.kitx_list I.kIn ⟨_,h1,rfl⟩ e (fun z=>nomatch z) h
 | @frz a ob xs ea=>
  cases (show u = Value.ref a from rx);obtain ⟨_,_,_,n,_,h1⟩:=(show zl X.prog X.w H s.heap a (.frz ob (.lst xs)) from I.hok a _ ea);exact zWi PySem.W.kitx_list I.kIn ⟨_,h1,rfl⟩ e (fun z=>nomatch z) h
 | @tup a xs ea=>
  cases (show u = Value.ref a from rx);obtain ⟨_,_,_,p⟩:=(show zl X.prog X.w H s.heap a (.tup xs) from I.hok a _ ea);obtain ⟨o,h1,h2,_⟩:=p;exact zWi PySem.W.kitx_tuple I.kIn ⟨o,h1,h2⟩ e (fun z=>nomatch z) h
 | @dK a kvs ea=>
  cases (show u = Value.ref a from rx);obtain ⟨_,_,vs,_,p⟩:=(show zl X.prog X.w H s.heap a (.dK kvs) from I.hok a _ ea);obtain ⟨o,es,ep,h1,h2,_⟩:=p;exact zWi PySem.W.kitx_dict I.kIn ⟨o,h1,h2.1⟩ e (fun z=>nomatch z) h
 | @dT a kvs ea=>
  cases (show u = Value.ref a from rx);obtain ⟨_,_,xs,_,o,es,ep,h1,h2,_⟩:=(show zl X.prog X.w H s.heap a (.dT kvs) from I.hok a _ ea);exact zWi PySem.W.kitx_dict I.kIn ⟨o,h1,h2.1⟩ e (fun z=>nomatch z) h
 | @ins a C dx fs ea cl ha hn htk hm=>
  cases (show u = Value.ref a from rx);obtain ⟨mA,O,_⟩:=zRB I.hok ea;obtain ⟨od,J,_⟩:=O.look;exact zWi (PySem.W.kitx_own (cl.get _) cl.hd ha hn htk hm) I.kIn J e (fun z=>nomatch z) h
end
structure Room (k:Nat) (A:Around):Prop where
 hd:A.handled = none
 dp:A.depth + 3 * k + 5 < recursionLimit
 un:A.units + 16 * k + 200 < cLine
theorem Room.mono {j k:Nat} {A:Around} (r:Room k A) (h:j <= k):Room j A:=⟨r.hd,by have:=r.dp; omega,by have:=r.un; omega⟩
theorem Room.deeper {k:Nat} {A:Around} (r:Room (k + 1) A) (env:Env):Room k (A.deeper env) :=
 ⟨r.hd,by have:=r.dp; show A.depth + 1 + 3 * k + 5 < _; omega,by have:=r.un; show A.units + 3 + 16 * k + 200 < _; omega⟩
theorem Room.depth {k:Nat} {A:Around} (r:Room k A):A.depth < recursionLimit:=by have:=r.dp; omega
theorem Room.units {k:Nat} {A:Around} (r:Room k A):A.units + 64 < cLine:=by have:=r.un; omega
theorem Room.units0 {k:Nat} {A:Around} (r:Room k A):A.units < cLine:=by have:=r.un; omega
def zUt:TA:=fun _ H Q=>Q [] H
def zUS (ta:TE) (tr:TA):TA:=fun σ H Q=>ta σ H fun x H1=>tr σ H1 fun xs H2=>Q (x :: xs) H2
section
variable {X:Cx} {e:Expr} {es:List Expr} {te:TE} {t:TA} {pos:Pos}
theorem zDw:PA X [] zUt:=fun _ _ _ _ H Q I h=>Calls.spliced_nil ⟨[],H,I,.nil,h⟩
theorem zB3 (ha:PE X e te) (hr:PA X es t) (hs:starEach (e :: es) X.env = (false,eval e X.env) :: starEach es X.env:=by rfl):PA X (e :: es) (zUS te t):=by
 intro pos zB s σ H Q I h;rw [hs];show wpAny _ _ (spliced ((false,eval e X.env) :: backTo pos (starEach es X.env))) _ _ s;refine Calls.spliced_cons (thn (ha zB s σ H _ I h) fun u s1 ⟨x,H1,I1,r1,q1⟩=>?_);exact thn (hr pos zB s1 σ H1 _ I1 q1) fun us s2 ⟨xs,H2,I2,r2,q2⟩=>⟨x :: xs,H2,I2,.cons r1 r2,q2⟩
def zUg (t:TA):TE:=fun σ H Q=>t σ H fun xs H1=>xs.length <= sizeLine /\ ∀ p,H1 p = none -> Q (.ref p) (upd H1 p (.tup xs))
def zU3 (t:TA):TE:=fun σ H Q=>t σ H fun xs H1=>xs.length <= sizeLine /\ ∀ p,H1 p = none -> Q (.ref p) (upd H1 p (.lst xs))
theorem zR6 {x1} (h:PA X es t):PE X (.Tuple es x1 pos) (zUg t):=by
 intro zB s σ H Q I hq;refine wpAny_Tuple_spliced (thn (h pos zB s σ H _ I hq) fun us s1 ⟨xs,H1,I1,r,z,q⟩=>⟨by rw [<- r.length]; exact z,?_⟩);have hf:H1 s1.heap.objs.size = none:=I1.hok.fresh (zVB _);refine ⟨.ref s1.heap.objs.size,upd H1 s1.heap.objs.size (.tup xs),I1.laid (t':=s1.toks) (fun b u e=>zU6 _ e) (zVB _) ?_,rfl,q _ hf⟩;exact ⟨z,us,r,⟨_,zVF _ rfl,rfl,⟨_,rfl⟩,rfl⟩⟩
theorem zS9 (h:PA X es t):PE X (.List es pos) (zU3 t):=by
 intro zB s σ H Q I hq;refine wpAny_List_spliced (thn (h pos zB s σ H _ I hq) fun us s1 ⟨xs,H1,I1,r,z,q⟩=>⟨by rw [<- r.length]; exact z,?_⟩);have hf:H1 s1.heap.objs.size = none:=I1.hok.fresh (zVB _);refine ⟨.ref s1.heap.objs.size,upd H1 s1.heap.objs.size (.lst xs),I1.laid (t':=s1.toks) (fun b u e=>zU6 _ e) (zVB _) ?_,rfl,q _ hf⟩;exact ⟨z,us,0,r,zVF _ rfl⟩
end
abbrev Sp:=List V -> Hp -> VK -> XK -> Prop
abbrev CXT:=List Env -> Hp -> Shared -> XK -> Value -> Shared -> Prop
structure Env0 (P:Program) (w:World) (K:PySem.W.Frag) (mg:Str -> Option Value) (base:Heap) (A:Around) (outer:List Env) (s:Shared) (H:Hp):Prop where
 frames:A.frames = some outer
 mod:Mod K mg base
 bs:∀ b o,base.get? b = some o -> s.heap.get? b = some o /\ H b = none
 bsz:base.objs.size <= s.heap.objs.size
 funs:s.heap.FunFrames base outer
 frf:∀ b ∈ frs outer,H b = none
 hok:HOk P w H s.heap
 bare:AllBare s.gens
def CE (outer:List Env) (P:Program) (w:World) (H:Hp) (s:Shared) (Q:VK) (u:Value) (s':Shared):Prop :=
 ∃ v H',s'.os = s.os /\ AllBare s'.gens /\ Un (frs outer) [] H H' s.heap s'.heap /\ HOk P w H' s'.heap /\ za v u /\ Q v H'
def CR (CX:CXT) (outer:List Env) (P:Program) (w:World) (H:Hp) (s:Shared) (Q:VK) (E:XK) (r:Result) (s':Shared):Prop :=
 match r with
 | .ok (.ret u)=>CE outer P w H s Q u s'
 | .ok _=>False
 | .error e=>CX outer H s E e s'
structure FnOk (P:Program) (w:World) (K:PySem.W.Frag) (mg:Str -> Option Value) (base:Heap) (CX:CXT) (k:Nat) (f:Addr) (fd:FuncData) (ps:List Str) (sp:Sp):Prop where
 len:∀ vs H Q E,sp vs H Q E -> vs.length = ps.length
 run:∀ (A:Around) (outer:List Env) (s:Shared) (H:Hp) (args:Args) (us:List Value) (vs:List V) (Q:VK) (E:XK),Room k A -> Env0 P w K mg base A outer s H -> BindsTo s fd args (ps.zip us) -> zW vs us -> sp vs H Q E ->
  codeAny (model P w) A (.call (.ref f) args) (CR CX outer P w H s Q E) s
theorem FnOk.imp {P:Program} {w:World} {K:PySem.W.Frag} {mg:Str -> Option Value} {base:Heap} {CX:CXT} {k:Nat} {f:Addr} {fd:FuncData} {ps:List Str} {sp sp':Sp} (F:FnOk P w K mg base CX k f fd ps sp)
  (h:∀ vs H Q E,sp' vs H Q E -> sp vs H Q E):FnOk P w K mg base CX k f fd ps sp' :=
 ⟨fun vs H Q E q=>F.len vs H Q E (h _ _ _ _ q),fun A outer s H args us vs Q E hr he hb hv hs=>F.run A outer s H args us vs Q E hr he hb hv (h _ _ _ _ hs)⟩
section
variable {X:Cx} {zB:List (Addr × Obj)} {σ:St} {H:Hp} {s s':Shared}
theorem Inv.env0 (I:Inv X zB σ H s):Env0 X.prog X.w X.K X.mg X.base X.A X.stack s H :=
 ⟨I.ok.frames,I.ok.mod,I.bs,zVW I.ok.bsz I.sz,I.stack,I.stkFree,I.hok,I.bare⟩
theorem Inv.after {Q:VK} {u:Value} (I:Inv X zB σ H s) (h:CE X.stack X.prog X.w H s Q u s'):EP X zB σ Q u s':=by
 obtain ⟨v,H',os,bare,un,hok,r,q⟩:=h;obtain ⟨hh,g,d,t,os'⟩:=s';obtain rfl:os' = s.os:=os;exact ⟨v,H',I.call (h':=hh) (g':=g) (d':=d) (t':=t) (ch:=[]) un hok bare (fun b z=>absurd z (by simp)),r,q⟩
end
def zTh (sp:Sp) (dvs:List V) (E:XK) (t:TA):TE:=fun σ H Q=>t σ H fun vs H1=>sp (vs ++ dvs) H1 Q E
def zFb (K:PySem.W.Frag) (fd:FuncData) (ps:List Str) (ds:List Value):Prop :=
 ∀ (s:Shared) (us:List Value),K.In s.heap -> (us ++ ds).length = ps.length -> BindsTo s fd ⟨us,[]⟩ (ps.zip (us ++ ds))
theorem zFb.all {K:PySem.W.Frag} {fd:FuncData} {ps:List Str} (h:∀ us:List Value,us.length = ps.length -> bindArgs fd ⟨us,[]⟩ = pure (ps.zip us)):zFb K fd ps []:=fun s us _ hl=>by
 rw [zVp] at hl ⊢;exact .of_eq (h us hl)
def zKF (CX:CXT) (X:Cx) (E:XK):Prop:=∀ (zB:List (Addr × Obj)) (σ:St) (H:Hp) (s:Shared) (e:Value) (s':Shared),Inv X zB σ H s -> CX X.stack H s E e s' -> X.xe e s'
section
variable {X:Cx} {CX:CXT} {k:Nat} {f C:Addr} {fd:FuncData} {ps:List Str} {sp:Sp} {dvs:List V} {ds:List Value} {E:XK} {x m:Str} {p pos apos:Pos} {e o:Expr} {es:List Expr} {ta:TE} {t:TA}
theorem zSa {zB:List (Addr × Obj)} {σ:St} {H:Hp} {s:Shared} {Q:VK} {us:List Value} {vs:List V} (F:FnOk X.prog X.w X.K X.mg X.base CX k f fd ps sp) (hr:Room k X.A) (hb:zFb X.K fd ps ds) (hd:zW dvs ds) (hx:zKF CX X E)
  (I:Inv X zB σ H s) (r:zW vs us) (h:sp (vs ++ dvs) H Q E):wpAny (model X.prog X.w) X.A (call (.ref f) us) (EP X zB σ Q) X.xe s:=by
 have r2:zW (vs ++ dvs) (us ++ ds):=r.append hd;have hl:(us ++ ds).length = ps.length:=by rw [<- r2.length]; exact F.len _ _ _ _ h
 refine wpAny_call (codeAny_mono (F.run X.A X.stack s H ⟨us,[]⟩ (us ++ ds) (vs ++ dvs) Q E hr I.env0 (hb s us I.kIn hl) r2 h) fun r s' hq=>?_);cases r with
 | error e=>exact hx zB σ H s e s' I hq
 | ok fl=>
  cases fl with
  | ret u=>exact I.after hq
  | next=>exact False.elim hq
  | brk=>exact False.elim hq
  | cont=>exact False.elim hq
theorem zQh (F:FnOk X.prog X.w X.K X.mg X.base CX k f fd ps sp) (hr:Room k X.A) (hg:Gl X x) (hm:X.mg x = some (.ref f)) (hk:PySem.W.keepIn X.K (.ref f) = true) (hb:zFb X.K fd ps ds) (hd:zW dvs ds) (hx:zKF CX X E)
  (ha:PA X (e :: es) t) (hdb:(x == ("__debug__" : Str)) = false:=by decide) (he:starEach (e :: es) X.env = (false,eval e X.env) :: starEach es X.env:=by rfl) (hpl:(backTo pos (starEach es X.env)).any (·.1) = false:=by rfl) :
  PE X (.Call (.Name x p) (e :: es) [] pos) (zTh sp dvs E t):=by
 intro zB s σ H Q I h;refine wpAny_Call_Name_kw (zQa I hg hm ?_ hdb);refine PySem.W.callWith_K (h₀:=X.base) I.ok.mod.kin hk (thn (ha pos zB s σ H _ I h) fun us s1 ⟨vs,H1,I1,r,q⟩=>⟨I1.kIn,?_⟩) he hpl;exact zSa F hr hb hd hx I1 r q
end
structure FnScope (N P:List Str) (sc:Scope):Prop where
 kind:sc.kind = .function
 co:sc.isCoroutine = false
 gen:sc.isGenerator = false
 nd:N.Nodup
 pre:N.take P.length = P
 par:∀ x ∈ P,sc.names.lookup x = some .local \/ sc.names.lookup x = some .cell
 nofree:∀ y ∈ sc.names,y.2 ≠ .free
theorem zHM {kindOf:Str -> Option NameKind} {x:Str}:∀ {binds:List (Str × Value)} {m:Str -> Option Value},(∀ v,(x,v) ∉ binds) -> bindL kindOf binds m x = m x
 | [],_,_=>rfl
 | (n,v) :: r,m,h=>by
  unfold bindL;rw [zHM fun w hw=>h w (zVI _ hw)];split
  ·have:x ≠ n:=by rintro rfl; exact h v zVJ
   simp [this]
  ·rfl
theorem zGo {kindOf:Str -> Option NameKind} {x:Str}:∀ {binds:List (Str × Value)} {m:Str -> Option Value},(∀ v,(x,v) ∉ binds) -> bindC kindOf binds m x = m x
 | [],_,_=>rfl
 | (n,v) :: r,m,h=>by
  unfold bindC;rw [zGo fun w hw=>h w (zVI _ hw)];split
  ·rfl
  ·have:x ≠ n:=by rintro rfl; exact h v zVJ
   simp [this]
theorem zHK {kindOf:Str -> Option NameKind} {x:Str} {v:Value}:∀ {P:List Str} {vs:List Value} {i:Nat} {m:Str -> Option Value},P.Nodup -> P[i]? = some x -> vs[i]? = some v -> kindOf x = some .local ->
  bindL kindOf (P.zip vs) m x = some v
 | [],_,_,_,_,h,_,_=>by simp at h
 | _ :: _,[],_,_,_,_,h,_=>by simp at h
 | p :: P,w :: vs,0,m,nd,h1,h2,hk=>by
  simp at h1 h2; subst h1; subst h2;show bindL kindOf ((p,w) :: P.zip vs) m p = _;unfold bindL;rw [zHM fun v hv=>(List.nodup_cons.mp nd).1 (List.of_mem_zip hv).1,zVK hk];simp
 | p :: P,w :: vs,i + 1,m,nd,h1,h2,hk=>by
  show bindL kindOf ((p,w) :: P.zip vs) m x = _;unfold bindL;exact zHK (i:=i) (List.nodup_cons.mp nd).2 (by simpa using h1) (by simpa using h2) hk
theorem zG2 {kindOf:Str -> Option NameKind} {x:Str} {v:Value}:∀ {P:List Str} {vs:List Value} {i:Nat} {m:Str -> Option Value},P.Nodup -> P[i]? = some x -> vs[i]? = some v -> kindOf x ≠ some .local ->
  bindC kindOf (P.zip vs) m x = some v
 | [],_,_,_,_,h,_,_=>by simp at h
 | _ :: _,[],_,_,_,_,h,_=>by simp at h
 | p :: P,w :: vs,0,m,nd,h1,h2,hk=>by
  simp at h1 h2; subst h1; subst h2;show bindC kindOf ((p,w) :: P.zip vs) m p = _;unfold bindC;rw [zGo fun v hv=>(List.nodup_cons.mp nd).1 (List.of_mem_zip hv).1,zVN hk];simp
 | p :: P,w :: vs,i + 1,m,nd,h1,h2,hk=>by
  show bindC kindOf ((p,w) :: P.zip vs) m x = _;unfold bindC;exact zG2 (i:=i) (List.nodup_cons.mp nd).2 (by simpa using h1) (by simpa using h2) hk
def zDZ (N:List Str) (vs:List V):St:=vs.map some ++ List.replicate (N.length - vs.length) none
def zKK (CX:CXT) (P:Program) (w:World) (K:PySem.W.Frag) (mg:Str -> Option Value) (base:Heap) (N:List Str) (qual:Str) (scope:Scope) (f:Addr) (cd:Value) (A:Around) (outer:List Env) (s:Shared) (H:Hp) (E:XK):Cx where
 prog:=P
 w:=w
 K:=K
 mg:=mg
 base:=base
 A:=A.deeper (envOfC qual scope s.heap.objs.size f cd)
 N:=N
 s₀:=s
 H₀:=H
 env:=envOfC qual scope s.heap.objs.size f cd
 outer:=outer
 stack:=envOfC qual scope s.heap.objs.size f cd :: outer
 ex:=[]
 calm:=true
 fn:=fun _=>true
 pn:=[]
 xe:=fun e s'=>wpAny (model P w) (A.deeper (envOfC qual scope s.heap.objs.size f cd)) (leaving (envOfC qual scope s.heap.objs.size f cd) e) (fun _ s''=>CX outer H s E e s'') (fun e' s''=>CX outer H s E e' s'') s'
theorem zFk {sc:Scope} {n:Nat} {x:Str} (h:sc.names.lookup x = some .cell):∃ c,(cellsFrom n sc.names []).lookup x = some c:=by
 have q:=PySem.W.cellsFrom_some sc.names n [] (.inl h);exact Option.isSome_iff_exists.mp q
theorem zMi {CX:CXT} {P:Program} {w:World} {K:PySem.W.Frag} {mg:Str -> Option Value} {base:Heap} {N ps:List Str} {qual:Str} {scope:Scope} {f:Addr} {cd:Value} {A:Around} {outer:List Env} {s s1:Shared} {H:Hp} {E:XK} {us:List Value} {vs:List V}
  (S:FnScope N ps scope) (hd:A.handled = none) (e0:Env0 P w K mg base A outer s H) (hl:vs.length = ps.length) (r:zW vs us)
  (x:InCallC s s.heap.objs.size (bindL (envOfC qual scope s.heap.objs.size f cd).kindOf (ps.zip us) fun _=>none) (cellsFrom (s.heap.objs.size + 1) scope.names []) (bindC (envOfC qual scope s.heap.objs.size f cd).kindOf (ps.zip us) fun _=>none) s1) :
  Inv (zKK CX P w K mg base N qual scope f cd A outer s H E) [] (zDZ N vs) H s1:=by
 have hpl:ps.length <= N.length:=by have:=zWs List.length S.pre; rw [zWT] at this; omega
 obtain ⟨h1,tk,rfl,hk⟩:=x.done;have noA:∀ b:Addr,b ∉ (zKK CX P w K mg base N qual scope f cd A outer s H E).ex:=fun b z=>absurd (show b ∈ ([]:List Addr) from z) (by simp)
 refine ⟨⟨e0.mod,S.kind,rfl,rfl,zVB _,fun y z c h1 h2=>?_,fun y hy=>?_,fun y c _ h=>?_,fun _=>hd,Around.frames_deeper e0.frames,.inr ⟨rfl,rfl⟩,fun b z=>absurd z (noA b),e0.bs,e0.bsz,fun b _ _=>noA b,fun b z=>absurd z (noA b),e0.funs,e0.frf⟩,
  rfl,e0.bare,Un.kept hk,⟨_,x.toInCall.ns,fun i y v h1 h2 h3=>?_⟩,fun y c h=>⟨_,x.cell y c h⟩,e0.hok.fresh (zVB _),fun y c h=>?_,fun p hp=>absurd (show p ∈ ([]:List (Addr × Obj)) from hp) (by simp),e0.hok.kept hk,?_⟩
 ·exact name_of_addr x.apart (zV7 h1) (zV7 h2)
 ·have hy:scope.names.lookup y = some .cell \/ scope.names.lookup y = some .free:=hy;rcases hy with hy | hy
  ·exact zFk hy
  ·exact absurd rfl (S.nofree _ (zV7 hy))
 ·exact Nat.le_of_lt (x.above y c (zV7 h))
 ·have hi:i < vs.length:=by
   unfold zDZ at h2;by_cases hi:i < vs.length
   ·exact hi
   ·rw [zWF (by simpa using hi)] at h2;rw [List.getElem?_replicate] at h2;split at h2 <;> cases h2
  have ha:vs[i]? = some v:=by
   unfold zDZ at h2;rw [zVC (by simpa using hi),zVS] at h2;cases e:vs[i]? with
   | none=>rw [e] at h2; cases h2
   | some a=>rw [e] at h2; cases h2; rfl
  obtain ⟨u,hu,rv⟩:=r.get ha;have hp:ps[i]? = some y:=by
   rw [<- S.pre,List.getElem?_take_of_lt (by omega)]; exact h1
  have ndP:ps.Nodup:=by rw [<- S.pre]; exact S.nd.sublist (List.take_sublist _ _)
  refine ⟨u,rv,?_⟩;rcases S.par y (zVw hp) with k | k
  ·exact .inl ⟨k,zHK ndP hp hu k⟩
  ·obtain ⟨c,e⟩:=zFk (n:=s.heap.objs.size + 1) k;refine .inr ⟨.inl k,c,e,?_⟩;have q:=x.cell y c e;rw [zG2 ndP hp hu (by show scope.names.lookup y ≠ _; rw [k]; decide)] at q;exact q
 ·exact e0.hok.fresh (Nat.le_of_lt (x.above y c (zV7 h)))
 ·unfold zDZ;show _ = N.length;rw [zVL,zVE,List.length_replicate];omega
theorem zTj {CX:CXT} {P:Program} {w:World} {K:PySem.W.Frag} {mg:Str -> Option Value} {base:Heap} {k:Nat} {f:Addr} {name qual:Str} {params:Arguments} {body:List Stmt} {scope:Scope} {dV kV doc pm cdv ct oc:Value} {an od:Option Addr}
  {osl:Array (Option Value)} {N ps:List Str} {sp:Sp} (lk:K.lookup f = some ⟨oc,od,.func (PySem.W.fnOf name qual params body scope dV kV doc pm an cdv ct),osl⟩) (hcd:PySem.W.codeIn K cdv qual = true) (S:FnScope N ps scope)
  (len:∀ vs H Q E,sp vs H Q E -> vs.length = ps.length)
  (hbody:∀ (A:Around) (outer:List Env) (s:Shared) (H:Hp) (vs:List V) (Q:VK) (E:XK),Room k (A.deeper (envOfC qual scope s.heap.objs.size f cdv)) -> sp vs H Q E ->
   ∃ t,PSs (zKK CX P w K mg base N qual scope f cdv A outer s H E) body t /\ t { nx:=fun _ H'=>Q .non H',rt:=Q } (zDZ N vs) H) :
  FnOk P w K mg base CX (k + 1) f (PySem.W.fnOf name qual params body scope dV kV doc pm an cdv ct) ps sp:=by
 refine ⟨len,fun A outer s H args us vs Q E hr e0 hb r hsp=>?_⟩;have hl:=len _ _ _ _ hsp;have KX:K.In s.heap:=e0.mod.kin.keeps fun b o e=>(e0.bs b o e).1;have lim:s.heap.NoLimit:=e0.mod.nolimit.keeps fun b o e=>(e0.bs b o e).1;have hkind:∀ y ∈ ps.zip us,scope.names.lookup y.1 = some .local \/ (scope.names.lookup y.1 = some .cell /\ ((cellsFrom (s.heap.objs.size + 1) scope.names []).lookup y.1).isSome = true):=fun ⟨n,v⟩ hy=>by
  rcases S.par n (List.of_mem_zip hy).1 with q | q
  ·exact .inl q
  ·exact .inr ⟨q,PySem.W.cellsFrom_some _ _ _ (.inl q)⟩
 refine codeAny_call_function hr.depth (KX _ _ lk) rfl S.co S.gen rfl (PySem.W.codeRec_of KX hcd) (hb _ _ _ _ ?_);refine wpAny_newFunctionEnv_cells S.kind hkind fun env he s1 x=>?_;subst he;refine ⟨lim.keeps x.toInCall.keep,codeAny_func ?_⟩;obtain ⟨t,ht,hq⟩:=hbody A outer s H vs Q E (hr.deeper _) hsp;have I:Inv (zKK CX P w K mg base N qual scope f cdv A outer s H E) [] (zDZ N vs) H s1:=zMi S hr.hd e0 hl r x;refine zVb (ht [] s1 (zDZ N vs) H _ I hq) (fun fl s' hs=>?_) fun e s' hs=>hs;have fin:∀ {σ':St} {H':Hp} {v:V} {u:Value},Inv (zKK CX P w K mg base N qual scope f cdv A outer s H E) [] σ' H' s' -> za v u -> Q v H' -> CE outer P w H s Q u s' :=
  fun {σ' H' v u} J rv q=>⟨v,H',J.os,J.bare,J.base,J.hok,rv,q⟩
 cases fl with
 | ret u=>
  obtain ⟨v,σ',H',J,rv,q⟩:=hs;exact fin J rv q
 | next=>
  obtain ⟨σ',H',J,q⟩:=hs;exact fin (v:=V.non) (u:=Value.none) J rfl q
 | brk=>
  obtain ⟨_,_,_,q⟩:=hs;exact False.elim q
 | cont=>
  obtain ⟨_,_,_,q⟩:=hs;exact False.elim q
section
variable {X:Cx} {x:Str} {p pos:Pos} {e:Expr} {es:List Expr} {t:TA} {id T:String} {r:List V -> Hp -> VK -> Prop}
def tCB (r:List V -> Hp -> VK -> Prop) (t:TA):TE:=fun σ H Q=>t σ H fun vs H1=>r vs H1 Q
theorem zIZ (hc:zBX X (.builtin id) r) (hg:Gl X x) (hm:X.mg x = none) (hv:bootBuiltins x = some (.builtin id)) (ha:PA X (e :: es) t) (hn:x ≠ "__name__" := by decide) (hdb:(x == ("__debug__" : Str)) = false:=by decide)
  (he:starEach (e :: es) X.env = (false,eval e X.env) :: starEach es X.env:=by rfl) (hpl:(backTo pos (starEach es X.env)).any (·.1) = false:=by rfl):PE X (.Call (.Name x p) (e :: es) [] pos) (tCB r t):=by
 intro zB s σ H Q I h;refine wpAny_Call_Name_kw (zEm I hg hm hv ?_ hn hdb);exact PyProof.Rows.callWith_builtin1 (thn (ha pos zB s σ H _ I h) fun us s1 ⟨vs,H1,I1,r1,q1⟩=>hc zB s1 σ H1 vs us Q I1 r1 q1) he hpl
theorem zCO (hc:zBX X (.type T) r) (hg:Gl X x) (hm:X.mg x = none) (hv:bootBuiltins x = some (.type T)) (ha:PA X (e :: es) t) (hn:x ≠ "__name__" := by decide) (hdb:(x == ("__debug__" : Str)) = false:=by decide)
  (he:starEach (e :: es) X.env = (false,eval e X.env) :: starEach es X.env:=by rfl) (hpl:(backTo pos (starEach es X.env)).any (·.1) = false:=by rfl):PE X (.Call (.Name x p) (e :: es) [] pos) (tCB r t):=by
 intro zB s σ H Q I h;refine wpAny_Call_Name_kw (zEm I hg hm hv ?_ hn hdb);exact PyProof.Rows.callWith_type1 (thn (ha pos zB s σ H _ I h) fun us s1 ⟨vs,H1,I1,r1,q1⟩=>hc zB s1 σ H1 vs us Q I1 r1 q1) he hpl
end
end L2
namespace HT
open PySem PyProof.Rows
section
variable {prog:Program} {w:World} {A:Around} {E:Value -> Shared -> Prop} {s:Shared}
theorem zQW {t b:Addr} {vs ws:List Value} {Q:Value -> Shared -> Prop} (ht:IsTup s.heap t vs.toArray) (hb:IsTup s.heap b ws.toArray) (hv:vs ≠ [])
  (h1:ws = [] -> Q (.ref t) s) (h2:ws ≠ [] -> Q (.ref s.heap.objs.size) { s with heap:=s.heap.push { cls:=.type "tuple", data:=.seq (vs ++ ws).toArray } })
  (hsz:vs.length + ws.length <= sizeLine):wpAny (model prog w) A (binaryOp .Add (.ref t) (.ref b)) Q E s:=by
 obtain ⟨⟨cls,dd,data,sl⟩,ho,hc,n,hd⟩:=id ht;obtain ⟨⟨cls2,dd2,data2,sl2⟩,ho2,hc2,n2,hd2⟩:=id hb;simp only at hc hd hc2 hd2;subst hc hd hc2 hd2;have e:vs.toArray ++ ws.toArray = (vs ++ ws).toArray:=by simp
 by_cases hw:ws = []
 ·exact concat_meets ⟨_,ho,rfl⟩ ⟨_,ho2,rfl⟩ noFill_tuple_add seq_tuple_add PySem.F.slot_tuple_add PySem.F.entry_tuple_add (PySem.F.args_tuple_add_2 _ _)
   (tuple_addW1 t b vs.toArray ws.toArray n n2 dd dd2 sl sl2 (by simpa using hv) (by simp [hw])) ⟨ho,ho2,h1 hw⟩
 ·refine concat_meets ⟨_,ho,rfl⟩ ⟨_,ho2,rfl⟩ noFill_tuple_add seq_tuple_add PySem.F.slot_tuple_add PySem.F.entry_tuple_add (PySem.F.args_tuple_add_2 _ _)
   (tuple_addW2 t b vs.toArray ws.toArray n n2 dd dd2 sl sl2 (by simpa using hv) (by simpa using hw) (by rw [zVD,zVD]; exact hsz)) ⟨ho,ho2,?_⟩
  rw [e];exact h2 hw
def sIx (n d:Nat):Option Int -> Nat
 | none=>d
 | some v=>if v < 0 then (v + (n:Int)).toNat else min v.toNat n
theorem zQm (n d k:Nat):sIx n d (some (k:Int)) = min k n:=by
 show (if (k:Int) < 0 then ((k:Int) + (n:Int)).toNat else min (k:Int).toNat n) = min k n;rw [zVN (by omega),Int.toNat_natCast]
theorem zS4 (n d:Nat) (hd:d <= n) (o:Option Int):sIx n d o <= n:=by
 cases o with
 | none=>exact hd
 | some v=>
  show (if v < 0 then (v + (n:Int)).toNat else min v.toNat n) <= n;by_cases hv:v < 0
  ·rw [zVK hv]; omega
  ·rw [zVN hv]; exact Nat.min_le_right _ _
theorem zLQ (v:Int) (n d:Nat):(if v < 0 then max (v + (n:Int)) 0 else min v (n:Int)) = ((sIx n d (some v):Nat):Int):=by
 show (if v < 0 then max (v + (n:Int)) 0 else min v (n:Int)) = (((if v < 0 then (v + (n:Int)).toNat else min v.toNat n):Nat):Int);by_cases hv:v < 0
 ·simp only [zVK hv]; omega
 ·simp only [zVN hv]; omega
theorem zKm (lo hi:Option Int) (n:Nat):Builtin.Slice.sliceAdjust lo hi 1 (n:Int) = (((sIx n 0 lo:Nat):Int),((sIx n n hi:Nat):Int)):=by
 have h1:¬ ((1:Int) < 0):=by omega
 unfold Builtin.Slice.sliceAdjust;simp only [h1,zXW];refine Prod.ext ?_ ?_
 ·cases lo with
  | none=>rfl
  | some v=>exact zLQ v n 0
 ·cases hi with
  | none=>rfl
  | some v=>exact zLQ v n n
theorem zJv (i j:Nat):Builtin.Slice.slicePlaces (i:Int) (j:Int) 1 = j - i:=by
 unfold Builtin.Slice.slicePlaces;have h1:(1:Int) > 0:=by omega
 simp only [h1,if_true,Int.ediv_one];split <;> omega
theorem zFs {v:Value} {o:Option Int} {Q:Option Int -> Shared -> Prop} (p:IsPart v o) (h:Q o s):wpAny (model prog w) A (Builtin.Slice.slicePartIndex v) Q E s:=by
 cases p with
 | none=>exact slicePart_none h
 | int i t=>exact slicePart_int h
theorem zCX {sl:Addr} {vl vu:Value} {lo hi:Option Int} {n:Nat} {Q:Int × Int × Nat -> Shared -> Prop} (hs:s.heap.IsSliceOf sl vl vu .none) (pl:IsPart vl lo) (pu:IsPart vu hi)
  (h:Q (((sIx n 0 lo:Nat):Int),1,sIx n n hi - sIx n 0 lo) s):wpAny (model prog w) A (Builtin.Slice.sliceApplied (.ref sl) (pure (n:Int))) Q E s:=by
 obtain ⟨os,hos,hcs,hds⟩:=id hs;unfold Builtin.Slice.sliceApplied Builtin.Slice.sliceFields;refine zU5 (zU5 (zVk hos hds (x:=vl) rfl (zU5 (zVk hos hds (x:=vu) rfl (zU5 (zVk hos hds (x:=.none) rfl (zU7 ?_)))))));refine zU5 (slicePart_none ?_);show wpAny _ _ (if ((1:Int) == 0) = true then _ else _) _ _ s;rw [zVN (by decide)];refine zU5 (zFs pl (zU5 (zFs pu (zU5 (zU7 ?_)))));show wpAny _ _ (match Builtin.Slice.sliceAdjust lo hi 1 (n:Int) with | (lo,hi)=>pure (lo,(1:Int),Builtin.Slice.slicePlaces lo hi 1)) _ _ s;rw [zKm lo hi n];show wpAny _ _ (pure (((sIx n 0 lo:Nat):Int),(1:Int),Builtin.Slice.slicePlaces ((sIx n 0 lo:Nat):Int) ((sIx n n hi:Nat):Int) 1)) _ _ s;rw [zJv];exact zU7 h
theorem zNJ (xs:Array Value) (i k:Nat):((List.range k).filterMap fun (m:Nat)=>xs[((i:Int) + (m:Int) * 1).toNat]?).toArray = ((xs.toList.drop i).take k).toArray:=by
 have e:(fun (m:Nat)=>xs[((i:Int) + (m:Int) * 1).toNat]?) = fun m=>xs[i + m]?:=by
  funext m;have:((i:Int) + (m:Int) * 1).toNat = i + m:=by omega
  rw [this]
 rw [e];have:=pick_run xs i k;rw [List.filterMap_map] at this;have e2:((fun x=>xs[x]?) ∘ fun x=>i + x) = fun m=>xs[i + m]?:=rfl;rw [e2] at this;rw [this]
theorem zEC {t sl:Addr} {items:Array Value} {vl vu:Value} {lo hi:Option Int} {Q:Value -> Shared -> Prop} (ht:IsTup s.heap t items) (hs:s.heap.IsSliceOf sl vl vu .none) (pl:IsPart vl lo) (pu:IsPart vu hi)
  (hw:¬ (sIx items.size 0 lo = 0 /\ sIx items.size items.size hi = items.size))
  (h:Q (.ref s.heap.objs.size) { s with heap:=s.heap.push { cls:=.type "tuple", data:=.seq ((items.toList.drop (sIx items.size 0 lo)).take (sIx items.size items.size hi - sIx items.size 0 lo)).toArray } })
  (hsz:items.size <= sizeLine):wpAny (model prog w) A (getItem (.ref t) (.ref sl)) Q E s:=by
 have htake:sizeOk (.seq ((items.toList.drop (sIx items.size 0 lo)).take (sIx items.size items.size hi - sIx items.size 0 lo)).toArray):=by
  show ((items.toList.drop (sIx items.size 0 lo)).take (sIx items.size items.size hi - sIx items.size 0 lo)).toArray.size <= sizeLine;rw [zVD,zWT,zXY,zVo];omega
 have hj:sIx items.size items.size hi <= items.size:=zS4 _ _ (zVB _) hi;obtain ⟨os,hos,hcs,hds⟩:=id hs;have hTs:s.TypeIs (.ref sl) "slice" := ⟨os,hos,hcs⟩;unfold getItem;try with_reducible refine zVy ?_
 first | refine zU5 (zU7 ?_) | skip
 refine zU5 (wpAny_sequenceKey ht.typeIs (by decide) ?_)
 refine zU5 (zVh (name:=Str.ofString "__getitem__") ht.typeIs zWd
  (zVi zWd ht.typeIs entry_tuple_getitem ?_ (args_tuple_getitem _ _)))
 show wpAny _ _ (Builtin.Tuple.tupleItemsOf (.ref t) >>= _) _ _ s;refine zU5 (tupleItemsOf_ ht ?_);refine zU5 (wpAny_typeOf hTs ?_);rw [zVK (by decide)];refine zU5 (zCX hs pl pu ?_);have hno:¬ ((((sIx items.size 0 lo:Nat):Int) == 0 && (1:Int) == 1 && (sIx items.size items.size hi - sIx items.size 0 lo) == items.size) = true):=by
  intro q;rw [zVf,zVf] at q;have q1:((sIx items.size 0 lo:Nat):Int) = 0:=eq_of_beq q.1.1;have q2:sIx items.size items.size hi - sIx items.size 0 lo = items.size:=eq_of_beq q.2;exact hw ⟨by omega,by omega⟩
 show wpAny _ _ (if (((sIx items.size 0 lo:Nat):Int) == 0 && (1:Int) == 1 && (sIx items.size items.size hi - sIx items.size 0 lo) == items.size) = true then _ else _) _ _ s;rw [zVN hno,zNJ]
 first
  | exact zU5 (m:=Builtin.Tuple.tupleExact _) (zVY (zU7 ⟨_,rfl,zU7 h⟩) htake)
  | exact zU5 (m:=Builtin.Tuple.tupleExact _) (zVY (zU5 (zU7 (zU7 ⟨_,rfl,zU7 h⟩))) htake)
  | exact zU5 (zU5 (m:=Builtin.Tuple.tupleExact _) (zVY (zU7 (zU7 ⟨_,rfl,zU7 h⟩)) htake))
  | exact zU5 (zU5 (m:=Builtin.Tuple.tupleExact _) (zVY (zU7 ⟨_,rfl,zU7 h⟩) htake))
end
end HT
namespace L2
open PySem PySem.Spec PyProof.Rows
abbrev TO:=St -> Hp -> (Option Int -> Hp -> Prop) -> Prop
def PO (X:Cx) (e:Option Expr) (t:TO):Prop :=
 ∀ (zB:List (Addr × Obj)) (s:Shared) (σ:St) (H:Hp) (Q:Option Int -> Hp -> Prop),Inv X zB σ H s -> t σ H Q ->
  wpAny (model X.prog X.w) X.A (evalPart e X.env) (fun u s'=>∃ o H',Inv X zB σ H' s' /\ IsPart u o /\ Q o H') X.xe s
def zQE:TO:=fun _ H Q=>Q none H
def zTt (t:TE):TO:=fun σ H Q=>t σ H fun x H1=>∃ i,x = .int i /\ Q (some i) H1
section
variable {X:Cx} {e:Expr} {te:TE} {lo hi:Option Expr} {tl th:TO} {pos p2:Pos}
theorem zPz:PO X none zQE:=by
 intro zB s σ H Q I h;rw [evalPart_none];exact zU7 ⟨none,H,I,.none,h⟩
theorem zQB (h:PE X e te):PO X (some e) (zTt te):=by
 intro zB s σ H Q I hw;rw [evalPart_some];refine thn (h zB s σ H _ I hw) fun u s1 ⟨x,H1,I1,r1,q1⟩=>?_;obtain ⟨i,rfl,q⟩:=q1;obtain ⟨t,rfl⟩:=r1;exact ⟨some i,H1,I1,.int i t,q⟩
def SlR (X:Cx) (r:V -> Option Int -> Option Int -> Hp -> VK -> Prop):Prop :=
 ∀ (zB:List (Addr × Obj)) (s:Shared) (σ:St) (H:Hp) (x:V) (v vl vu:Value) (lo hi:Option Int) (sl:Addr) (Q:VK),Inv X zB σ H s -> za x v -> s.heap.IsSliceOf sl vl vu .none -> IsPart vl lo -> IsPart vu hi -> r x lo hi H Q ->
  ∃ T id,typeLookup (.type T) "__getitem__" = pure (some (.builtin id)) /\ s.TypeIs v T /\ wpAny (model X.prog X.w) X.A (getItem v (.ref sl)) (EP X zB σ Q) X.xe s
theorem SlR.or {r r':V -> Option Int -> Option Int -> Hp -> VK -> Prop} (h:SlR X r) (h':SlR X r'):SlR X (fun x lo hi H Q=>r x lo hi H Q \/ r' x lo hi H Q):=by
 intro zB s σ H x v vl vu lo hi sl Q I rx hs pl pu q;rcases q with q | q
 ·exact h zB s σ H x v vl vu lo hi sl Q I rx hs pl pu q
 ·exact h' zB s σ H x v vl vu lo hi sl Q I rx hs pl pu q
def tSl (r:V -> Option Int -> Option Int -> Hp -> VK -> Prop) (te:TE) (tl th:TO):TE:=fun σ H Q=>te σ H fun x H1=>tl σ H1 fun l H2=>th σ H2 fun u H3=>r x l u H3 Q
theorem zNb {r:V -> Option Int -> Option Int -> Hp -> VK -> Prop} (hr:SlR X r) (he:PE X e te) (hl:PO X lo tl) (hu:PO X hi th):PE X (.Subscript e (.Slice lo hi none p2) pos) (tSl r te tl th):=by
 intro zB s σ H Q I h;refine Subscript_ (thn (he zB s σ H _ I h) fun v s1 ⟨x,H1,I1,r1,q1⟩=>?_);refine wpAny_Slice (thn (hl zB s1 σ H1 _ I1 q1) fun vl s2 ⟨l,H2,I2,pl,q2⟩=>thn (hu zB s2 σ H2 _ I2 q2) fun vu s3 ⟨u,H3,I3,pu,q3⟩=>?_);rw [evalPart_none];refine zU7 ?_;have I4:Inv X zB σ H3 { s3 with heap:=s3.heap.push { cls:=.type "slice", data:=.fields #[vl,vu,.none] } }:=I3.kept (t':=s3.toks) fun b ob q=>zU6 _ q;obtain ⟨T,id,hT,ht,hg⟩:=hr zB { s3 with heap:=s3.heap.push { cls:=.type "slice", data:=.fields #[vl,vu,.none] } } σ H3 x v vl vu l u s3.heap.objs.size Q I4 r1 (Heap.IsSliceOf.new ..) pl pu q3;show wpAny (model X.prog X.w) X.A (subscriptTail e (.Slice lo hi none p2) v (.ref s3.heap.objs.size)) (EP X zB σ Q) X.xe { s3 with heap:=s3.heap.push { cls:=.type "slice", data:=.fields #[vl,vu,.none] } };exact tail_any (ops:=[.ref s3.heap.objs.size,v]) ht hT hg (by with_unfolding_all rfl)
def zIn (xs:List V) (lo hi:Option Int):List V:=(xs.drop (HT.sIx xs.length 0 lo)).take (HT.sIx xs.length xs.length hi - HT.sIx xs.length 0 lo)
theorem zEw (xs:List V) (lo hi:Option Int):(zIn xs lo hi).length <= xs.length:=by
 unfold zIn;rw [zWT,zXY];omega
def zUb (K:PySem.W.Frag):V -> Option Int -> Option Int -> Hp -> VK -> Prop:=fun x lo hi H Q=>∃ a xs,x = .ref a /\ SqT K H a xs /\
 ¬ (HT.sIx xs.length 0 lo = 0 /\ HT.sIx xs.length xs.length hi = xs.length) /\ ∀ p,H p = none -> Q (.ref p) (upd H p (.tup (zIn xs lo hi)))
theorem zSH:SlR X (zUb X.K):=by
 intro zB s σ H x v vl vu lo hi sl Q I rx hs pl pu h;obtain ⟨a,xs,rfl,hx,hw,q⟩:=h;cases rx;obtain ⟨its,r,ht,hz⟩:=I.tuple hx;have hlen:its.toArray.size = xs.length:=by rw [zVD]; exact r.length.symm
 refine ⟨"tuple", _,zWd.lookup,ht.typeIs,?_⟩;refine HT.zEC ht hs pl pu (by rw [hlen]; exact hw) ?_ (by rw [hlen]; exact hz);rw [hlen];refine ⟨.ref s.heap.objs.size,_,I.laid (t':=s.toks) (o:=.tup (zIn xs lo hi)) (fun b ob q=>zU6 _ q) (zVB _) ?_,rfl,q _ (I.hok.fresh (zVB _))⟩;exact ⟨zVW (zEw xs lo hi) hz,_,(r.drop (HT.sIx xs.length 0 lo)).take (HT.sIx xs.length xs.length hi - HT.sIx xs.length 0 lo),zBu.new _ _⟩
def zRP (K:PySem.W.Frag):R2:=fun x y H Q=>∃ a b xs ys,x = .ref a /\ y = .ref b /\ SqT K H a xs /\ SqT K H b ys /\ xs ≠ [] /\ xs.length + ys.length <= sizeLine /\
 (ys = [] -> Q (.ref a) H) /\ (ys ≠ [] -> ∀ p,H p = none -> Q (.ref p) (upd H p (.tup (xs ++ ys))))
theorem zW.nil_iff {xs:List V} {us:List Value} (r:zW xs us):us = [] ↔ xs = []:=by
 cases r with
 | nil=>simp
 | cons _ _=>simp
theorem zPl:OpR X (binaryOp .Add) (zRP X.K):=by
 intro zB s σ H x y v u Q I rx ry h;obtain ⟨a,b,xs,ys,rfl,rfl,ha,hb,hx,hz,q1,q2⟩:=h;cases rx;cases ry;obtain ⟨its,r1,p1,_⟩:=I.tuple ha;obtain ⟨its2,r2,p2,_⟩:=I.tuple hb;refine HT.zQW p1 p2 (fun z=>hx (r1.nil_iff.mp z)) (fun z=>⟨.ref a,H,I,rfl,q1 (r2.nil_iff.mp z)⟩) (fun z=>?_) (by rw [<- r1.length,<- r2.length]; exact hz);refine ⟨.ref s.heap.objs.size,_,I.laid (t':=s.toks) (o:=.tup (xs ++ ys)) (fun b ob q=>zU6 _ q) (zVB _) ?_,rfl,q2 (fun w=>z (r2.nil_iff.mpr w)) _ (I.hok.fresh (zVB _))⟩;exact ⟨by rw [zVL]; exact hz,_,r1.append r2,zBu.new _ _⟩
end
def ixN (n:Nat) (i:Int):Option Nat:=if 0 <= i then (if i < n then some i.toNat else none) else if -(n:Int) <= i then some (i + n).toNat else none
def atI {α:Type} (xs:List α) (i:Int):Option α:=(ixN xs.length i).bind fun j=>xs[j]?
theorem zHo {n:Nat} {i:Int} {j:Nat} (h:ixN n i = some j):seqIndex? i n = some j /\ j < n /\ -(n:Int) <= i /\ i < n:=by
 unfold ixN at h;by_cases h0:0 <= i
 ·rw [zVK h0] at h;by_cases h1:i < n
  ·rw [zVK h1] at h;have e:i.toNat = j:=zV5 h;exact ⟨by rw [seqIndex_of h0 h1,e],by omega,by omega,h1⟩
  ·rw [zVN h1] at h; cases h
 ·rw [zVN h0] at h;by_cases h1 : -(n:Int) <= i
  ·rw [zVK h1] at h;have e:(i + n).toNat = j:=zV5 h;exact ⟨by rw [seqIndex_neg (by omega) h1,e],by omega,h1,by omega⟩
  ·rw [zVN h1] at h; cases h
theorem zHV {α:Type} {xs:List α} {i:Int} {v:α} (h:atI xs i = some v):∃ j,seqIndex? i xs.length = some j /\ xs[j]? = some v /\ j < xs.length /\ -(xs.length:Int) <= i /\ i < xs.length:=by
 unfold atI at h;cases e:ixN xs.length i with
 | none=>rw [e] at h; cases h
 | some j=>
  rw [e] at h;obtain ⟨h1,h2,h3,h4⟩:=zHo e;exact ⟨j,h1,h,h2,h3,h4⟩
theorem zLF {α:Type} {xs:List α} {j:Nat} {v:α} (h:xs[j]? = some v):atI xs (j:Int) = some v:=by
 have hj:j < xs.length:=(zU8.mp h).1;have e:ixN xs.length (j:Int) = some j:=by
  unfold ixN;rw [zVK (by omega),zVK (by omega)]; simp
 unfold atI; rw [e]; exact h
def zLc (b:Expr):Prop:=∀ o i,subscripted b false o i = operate [o,i] (getItem o i)
def IxR (X:Cx) (r:R2):Prop :=
 ∀ (value slice:Expr) (zB:List (Addr × Obj)) (s:Shared) (σ:St) (H:Hp) (x y:V) (v u:Value) (Q:VK),Inv X zB σ H s -> za x v -> za y u -> r x y H Q ->
  subscripted slice false v u = operate [v,u] (getItem v u) -> wpAny (model X.prog X.w) X.A (subscriptTail value slice v u) (EP X zB σ Q) X.xe s
def MtR (X:Cx) (id:String) (r:V -> List V -> Hp -> VK -> Prop):Prop :=
 ∀ (zB:List (Addr × Obj)) (s:Shared) (σ:St) (H:Hp) (x:V) (xs:List V) (v:Value) (us:List Value) (Q:VK),Inv X zB σ H s -> za x v -> zW xs us -> r x xs H Q ->
  wpAny (model X.prog X.w) X.A (call (.builtin id) (v :: us)) (EP X zB σ Q) X.xe s
section
variable {X:Cx} {a b:Expr} {ta tb:TE} {pos:Pos}
theorem IxR.or {r r':R2} (h:IxR X r) (h':IxR X r'):IxR X (fun x y H Q=>r x y H Q \/ r' x y H Q):=by
 intro value slice zB s σ H x y v u Q I rx ry q hs;rcases q with q | q
 ·exact h value slice zB s σ H x y v u Q I rx ry q hs
 ·exact h' value slice zB s σ H x y v u Q I rx ry q hs
theorem zTw {r:R2} (hr:IxR X r) (ha:PE X a ta) (hb:PE X b tb) (hs:zLc b):PE X (.Subscript a b pos) (tOp r ta tb):=by
 intro zB s σ H Q I h;exact Subscript_ (zR5 ha hb I h fun v u s2 x y H2 I2 rx ry q=>hr a b zB s2 σ H2 x y v u Q I2 rx ry q (hs _ _))
def zUT (K:PySem.W.Frag):R2:=fun x y H Q=>∃ p xs i v,x = .ref p /\ y = .int i /\ SqL K H p xs /\ atI xs i = some v /\ Q v H
def zT9 (K:PySem.W.Frag):R2:=fun x y H Q=>∃ p xs i v,x = .ref p /\ y = .int i /\ SqT K H p xs /\ atI xs i = some v /\ Q v H
def zTR:R2:=fun x y H Q=>∃ z i c,x = .str z /\ y = .int i /\ z.length <= sizeLine /\ atI z.cps.toList i = some c /\ Q (.str ⟨#[c]⟩) H
theorem zPd:IxR X (zUT X.K):=by
 intro value slice zB s σ H x y v u Q I rx ry h hs;obtain ⟨p,xs,i,z,rfl,rfl,hq,he,q⟩:=h;cases rx;obtain ⟨t,rfl⟩:=ry;obtain ⟨its,r,pl,hz⟩:=I.list hq;obtain ⟨j,h1,h2,h3,h4,h5⟩:=zHV he;obtain ⟨w,ew,rw'⟩:=r.get h2;have hl:=r.length;have hn:=zEY;have fin:EP X zB σ Q w s:=⟨z,H,I,rw',q⟩;by_cases h0:0 <= i
 ·have hj:i.toNat = j:=by
   rw [seqIndex_of h0 h5] at h1;exact zV5 h1
  exact item_listR pl.isList h0 (by omega) (by rw [hj]; simpa using ew) fin hs
 ·have hj:(i + (its.toArray.size:Int)).toNat = j:=by
   rw [seqIndex_neg (by omega) h4] at h1;rw [zVD,<- hl];exact zV5 h1
  exact subscriptTail_builtinR (x:=w) pl.isList.typeIs slot_list_getitem.lookup
   (wpAny_getItem_list_neg (Q:=fun r s'=>r = w /\ EP X zB σ Q r s') pl.isList (by omega) (by rw [zVD] <;> omega) (by omega) (by rw [hj]; simpa using ew) ⟨rfl,fin⟩) hs
theorem zSj:IxR X (zT9 X.K):=by
 intro value slice zB s σ H x y v u Q I rx ry h hs;obtain ⟨p,xs,i,z,rfl,rfl,hq,he,q⟩:=h;cases rx;obtain ⟨t,rfl⟩:=ry;obtain ⟨its,r,pl,hz⟩:=I.tuple hq;obtain ⟨j,h1,h2,h3,h4,h5⟩:=zHV he;obtain ⟨w,ew,rw'⟩:=r.get h2;have hl:=r.length;have hn:=zEY;have fin:EP X zB σ Q w s:=⟨z,H,I,rw',q⟩
 exact subscriptTail_builtinR (x:=w) pl.typeIs slot_tuple_getitem.lookup
  (getItem_tuple (j:=j) (Q:=fun r s'=>r = w /\ EP X zB σ Q r s') pl (by omega) (by omega) (by rw [zVD,<- hl]; exact h1) (by simpa using ew) ⟨rfl,fin⟩) hs
theorem zSo:IxR X zTR:=by
 intro value slice zB s σ H x y v u Q I rx ry h hs;obtain ⟨z,i,c,rfl,rfl,hz,he,q⟩:=h;obtain ⟨t,rfl⟩:=rx;obtain ⟨t',rfl⟩:=ry;obtain ⟨j,h1,h2,h3,h4,h5⟩:=zHV he;have hl:z.cps.toList.length = z.length:=by simp [Str.length]
 rw [hl] at h1 h4 h5;have hn:=zEY;exact tail_any (typeIs_str s z t) slot_str_getitem.lookup (getItem_str (c:=c) (by
  have e1:decide (i < -(2 ^ 63:Int)) = false:=zVe (by omega);have e2:decide (i ≥ 2 ^ 63) = false:=zVe (by omega);rw [e1,e2,Bool.or_false]) (by rw [h1]; simpa using h2) ⟨.str ⟨#[c]⟩,H,I.tok _,⟨_,rfl⟩,q⟩) hs
def rIx (K:PySem.W.Frag):R2:=fun x y H Q=>zUT K x y H Q \/ zT9 K x y H Q \/ zTR x y H Q
theorem zTH:IxR X (rIx X.K):=zPd.or (zSj.or zSo)
theorem zKr (its:List Value) (n j:Nat) (u:Value):Obj.mapSeq (·.setIfInBounds j u) { cls:=.type "list", data:=.seq its.toArray n } = { cls:=.type "list", data:=.seq (its.set j u).toArray n }:=by
 simp [Obj.mapSeq]
theorem Inv.lst {zB:List (Addr × Obj)} {σ:St} {H:Hp} {s:Shared} {p:Addr} {xs:List V} (I:Inv X zB σ H s) (h:H p = some (.lst xs)) :
  ∃ (its:List Value) (n:Nat),zW xs its /\ s.heap.get? p = some { cls:=.type "list", data:=.seq its.toArray n } /\ xs.length <= sizeLine:=by
 obtain ⟨z,its,n,r,e⟩:=I.hok p _ h;exact ⟨its,n,r,e,z⟩
theorem Inv.lstUpd {zB:List (Addr × Obj)} {σ:St} {H:Hp} {s:Shared} {p:Addr} {xs ys:List V} {its its':List Value} {n n':Nat} {f:Obj -> Obj} (I:Inv X zB σ H s) (h:H p = some (.lst xs))
  (ho:s.heap.get? p = some { cls:=.type "list", data:=.seq its.toArray n }) (hf:f { cls:=.type "list", data:=.seq its.toArray n } = { cls:=.type "list", data:=.seq its'.toArray n' }) (r:zW ys its') (hz:ys.length <= sizeLine) (t:Nat) :
  Inv X zB σ (upd H p (.lst ys)) { s with heap:=s.heap.update p f,toks:=t }:=by
 have e:(s.heap.update p f).get? p = some { cls:=.type "list", data:=.seq its'.toArray n' }:=by
  rw [zVs f ho (by rw [hf] <;> rfl),hf]
 refine I.write (x:=p) (e:=p) (by rw [h]; trivial) (.inl rfl) (fun b u hb q=>(zVm _ _ (Ne.symm hb)).trans q) ⟨_,e⟩ ?_;exact ⟨hz,its',n',r,e⟩
def zTW:V -> V -> V -> Hp -> (Hp -> Prop) -> Prop:=fun o i v H Q=>∃ p xs k j,o = .ref p /\ i = .int k /\ H p = some (.lst xs) /\ ixN xs.length k = some j /\ Q (upd H p (.lst (xs.set j v)))
theorem zNg:zUH X zTW:=by
 intro zB s σ H o i v ov iv u Q I ro ri rv h;obtain ⟨p,xs,k,j,rfl,rfl,hp,hj,q⟩:=h;cases ro;obtain ⟨t,rfl⟩:=ri;obtain ⟨its,n,r,ho,hz⟩:=I.lst hp;obtain ⟨h1,h2,h3,h4⟩:=zHo hj;have hl:=r.length;have hn:=zEY;have I':Inv X zB σ (upd H p (.lst (xs.set j v))) { s with heap:=s.heap.update p (Obj.mapSeq (·.setIfInBounds j u)) } :=
  I.lstUpd hp ho (zKr its n j u) (r.set rv j) (by rw [List.length_set]; exact hz) s.toks
 by_cases h0:0 <= k
 ·have hk:k.toNat = j:=by
   rw [seqIndex_of h0 h4] at h1;exact zV5 h1
  exact PySem.W.ki_setAt ho h0 (by omega) (by rw [zVD,<- hl]; exact h4) (by rw [hk]; exact ⟨_,I',q⟩)
 ·have hk:(k + (its.toArray.size:Int)).toNat = j:=by
   rw [seqIndex_neg (by omega) h3] at h1;rw [zVD,<- hl];exact zV5 h1
  exact PySem.W.ki_setBack ho (by omega) (by rw [zVD,<- hl]; exact h3) (by omega) (by rw [hk]; exact ⟨_,I',q⟩)
theorem zIC (lo hi:Option Int) (n:Nat):(sliceBounds lo hi none n).1 = ((HT.sIx n 0 lo:Nat):Int) /\ (sliceBounds lo hi none n).2.1 = ((HT.sIx n n hi:Nat):Int) /\ (sliceBounds lo hi none n).2.2 = 1:=by
 refine ⟨?_,?_,rfl⟩
 ·cases lo with
  | none=>simp [sliceBounds,HT.sIx]
  | some i=>
   simp only [sliceBounds,HT.sIx,Option.getD_none,show (1:Int) > 0 by decide,if_true];by_cases h:i < 0
   ·simp only [h,if_true] <;> omega
   ·simp only [h,zXW] <;> omega
 ·cases hi with
  | none=>simp [sliceBounds,HT.sIx]
  | some i=>
   simp only [sliceBounds,HT.sIx,Option.getD_none,show (1:Int) > 0 by decide,if_true];by_cases h:i < 0
   ·simp only [h,if_true] <;> omega
   ·simp only [h,zXW] <;> omega
theorem zGj (its:List Value) (lo hi:Option Int):slicePick its.toArray lo hi none = ((its.drop (HT.sIx its.length 0 lo)).take (HT.sIx its.length its.length hi - HT.sIx its.length 0 lo)).toArray:=by
 obtain ⟨h1,h2,h3⟩:=zIC lo hi its.toArray.size;unfold slicePick;rw [h1,h2,h3];simp only [sliceRange_one,pick_run,zVD] <;> rfl
def zUZ (K:PySem.W.Frag):V -> Option Int -> Option Int -> Hp -> VK -> Prop:=fun x lo hi H Q=>∃ a xs,x = .ref a /\ SqL K H a xs /\ ∀ p,H p = none -> Q (.ref p) (upd H p (.lst (zIn xs lo hi)))
theorem zQ0:SlR X (zUZ X.K):=by
 intro zB s σ H x v vl vu lo hi sl Q I rx hs pl pu h;obtain ⟨a,xs,rfl,hx,q⟩:=h;cases rx;obtain ⟨its,r,ht,hz⟩:=I.list hx;have hlen:=r.length;refine ⟨"list", _,slot_list_getitem.lookup,ht.isList.typeIs,?_⟩;refine wpAny_getItem_list_slice ht.isList hs pl pu .none (by simp) ?_ (by rw [zVD] <;> omega);rw [zGj,<- hlen];refine ⟨.ref s.heap.objs.size,_,I.laid (t':=s.toks) (o:=.lst (zIn xs lo hi)) (fun b ob q=>zU6 _ q) (zVB _) ?_,rfl,q _ (I.hok.fresh (zVB _))⟩;exact ⟨zVW (zEw xs lo hi) hz,_,0,(r.drop (HT.sIx xs.length 0 lo)).take (HT.sIx xs.length xs.length hi - HT.sIx xs.length 0 lo),zVF _ rfl⟩
theorem zHl:zBX X (.builtin "len") (fun xs H Q=>∃ p ys,xs = [.ref p] /\ (SqL X.K H p ys \/ SqT X.K H p ys) /\ Q (.int ys.length) H):=by
 intro zB s σ H xs us Q I r h;obtain ⟨p,ys,rfl,hq,q⟩:=h;obtain ⟨u,rfl,rx⟩:=zDJ r;cases rx;have hn:=zEY;rcases hq with hq | hq
 ·obtain ⟨its,r',pl,hz⟩:=I.list hq;have hlen:=r'.length;exact Calls.call_len_list pl.isList (by simp only [zVD] <;> omega) ⟨.int ys.length,H,I.tok _,⟨s.toks + 1,by rw [zVD,hlen]⟩,q⟩
 ·obtain ⟨its,r',pl,hz⟩:=I.tuple hq;have hlen:=r'.length;exact len_tuple pl (by simp only [zVD] <;> omega) ⟨.int ys.length,H,I.tok _,⟨s.toks + 1,by rw [zVD,hlen]⟩,q⟩
theorem zGU:zBX X (.type "tuple") (fun xs H Q=>∃ p ys,xs = [.ref p] /\ ((SqL X.K H p ys /\ ∀ l,H l = none -> Q (.ref l) (upd H l (.tup ys))) \/ (SqT X.K H p ys /\ Q (.ref p) H))):=by
 intro zB s σ H xs us Q I r h;obtain ⟨p,ys,rfl,h⟩:=h;obtain ⟨u,rfl,rx⟩:=zDJ r;cases rx;rcases h with ⟨hq,q⟩ | ⟨hq,q⟩
 ·obtain ⟨its,r',pl,hz⟩:=I.list hq;have hlen:=r'.length;refine call_tuple_list pl.isList (fun h' kp=>?_) (by simp only [zVD] <;> omega);have I1:Inv X zB σ H { s with heap:=h' }:=I.kept (t':=s.toks) kp;have I2:Inv X zB σ (upd H h'.objs.size (.tup ys)) { s with heap:=h'.push { cls:=.type "tuple", data:=.seq its.toArray } } :=
   I1.laid (t':=s.toks) (fun b o e=>zU6 _ e) (zVB _) (show zl X.prog X.w _ _ _ (.tup ys) from ⟨hz,its,r',zBu.new _ _⟩)
  exact ⟨.ref h'.objs.size,_,I2,rfl,q _ (I1.hok.fresh (zVB _))⟩
 ·obtain ⟨its,r',pl,hz⟩:=I.tuple hq;exact call_tuple_same pl ⟨.ref p,H,I,rfl,q⟩
def tyV (K:PySem.W.Frag) (T:String) (x:V) (H:Hp):Prop:=match x with
 | .str _=>T = "str"
 | .int _=>T = "int"
 | .ref p=>(T = "list" /\ ∃ xs,SqL K H p xs) \/ (T = "tuple" /\ ((∃ o,K.lookup p = some o /\ o.cls = .type "tuple" /\ o.dict = none) \/ ∃ xs,H p = some (.tup xs))) \/
   (T = "dict" /\ ((∃ kvs,H p = some (.dK kvs)) \/ ∃ kvs,H p = some (.dT kvs))) \/ (T = "set" /\ ∃ S n,H p = some (.set S n))
 | _=>False
theorem zSY {zB:List (Addr × Obj)} {σ:St} {H:Hp} {s:Shared} {T:String} {x:V} {v:Value} (I:Inv X zB σ H s) (r:za x v) (ty:tyV X.K T x H) :
  s.TypeIs v T /\ ∀ a,v = .ref a -> ∃ ob,s.heap.get? a = some ob /\ ob.dict = none:=by
 cases x with
 | str z=>
  obtain ⟨t,rfl⟩:=r;cases (show T = "str" from ty);exact ⟨typeIs_str s z t,fun _ e=>nomatch e⟩
 | int i=>
  obtain ⟨t,rfl⟩:=r;cases (show T = "int" from ty);exact ⟨typeIs_int s i t,fun _ e=>nomatch e⟩
 | ref p=>
  cases r;rcases ty with ⟨rfl,xs,hq⟩ | ⟨rfl,⟨o,hk,hc,hd⟩ | ⟨xs,hq⟩⟩ | ⟨rfl,hk⟩ | ⟨rfl,S,n,hk⟩
  ·obtain ⟨its,_,pl,_⟩:=I.list hq;refine ⟨pl.isList.typeIs,fun a e=>?_⟩;cases e;obtain ⟨o,n,e,c,hd,_⟩:=pl;exact ⟨o,e,hd⟩
  ·refine ⟨⟨o,I.kIn p o hk,hc⟩,fun a e=>?_⟩;cases e;exact ⟨o,I.kIn _ o hk,hd⟩
  ·obtain ⟨_,its,_,o,e,c,_,hd⟩:=I.hok p _ hq;refine ⟨⟨o,e,c⟩,fun a e2=>?_⟩;cases e2;exact ⟨o,e,hd⟩
  ·have z:∃ o,s.heap.get? p = some o /\ o.ExactDict:=by
    rcases hk with ⟨kvs,hk⟩ | ⟨kvs,hk⟩
    ·obtain ⟨_,_,_,_,o,_,_,e,ex,_⟩:=I.hok p _ hk;exact ⟨o,e,ex⟩
    ·obtain ⟨_,_,_,_,o,_,_,e,ex,_⟩:=I.hok p _ hk;exact ⟨o,e,ex⟩
   obtain ⟨o,e,ex⟩:=z;refine ⟨⟨o,e,ex.1⟩,fun a e2=>?_⟩;cases e2;exact ⟨o,e,ex.2.1⟩
  ·obtain ⟨o,_,_,_,e,ex,_⟩:=I.hok p _ hk;refine ⟨⟨o,e,ex.1⟩,fun a e2=>?_⟩;cases e2;exact ⟨o,e,ex.2.1⟩
 | _=>exact False.elim ty
def tBM (K:PySem.W.Frag) (T:String) (r:V -> List V -> Hp -> VK -> Prop) (to:TE) (t:TA):TE:=fun σ H Q=>to σ H fun x H1=>tyV K T x H1 /\ t σ H1 fun xs H2=>r x xs H2 Q
variable {o e:Expr} {es:List Expr} {to:TE} {t:TA} {name:Str} {apos cpos:Pos} {T id:String} {r:V -> List V -> Hp -> VK -> Prop}
theorem zJj (pa:PlainAttrs T) (slot:Slot T name id) (hty:typeOf (.builtin id) = pure (.type "method_descriptor")) (hm:MtR X id r) (ho:PE X o to) (ha:PA X (e :: es) t)
  (hbase:attributeBase o name X.env (eval o X.env) = eval o X.env:=by rfl)
  (hfew:((backTo cpos (starEach (e :: es) X.env)).all (fun x=> !x.1) && (backToKw cpos (keywordEach [] X.env)).all (fun x=>x.1.isSome)
   && decide ((e :: es).length + ([]:List Keyword).length + (if ([]:List Keyword).isEmpty then 0 else 1) < 30)) = true:=by rfl)
  (hline:(apos.endLine == cpos.line) = true:=by rfl) (hs:starEach (e :: es) X.env = (false,eval e X.env) :: starEach es X.env:=by rfl) (hplain:(backTo cpos (starEach es X.env)).any (·.1) = false:=by rfl) :
  PE X (.Call (.Attribute o name apos) (e :: es) [] cpos) (tBM X.K T r to t):=by
 intro zB s σ H Q I h;refine wpAny_Call_method_late hbase hfew hline rfl (thn (ho zB s σ H _ I h) fun v s1 ⟨x,H1,I1,r1,ty,q1⟩=>?_);obtain ⟨h1,h2⟩:=zSY I1 r1 ty;refine ⟨T,id,pa,slot,hty,h1,h2,?_⟩;have hA:=ha cpos zB s1 σ H1 _ I1 q1;rw [hs] at hA ⊢;refine Calls.callWith_builtin (by show (false || (backTo cpos (starEach es X.env)).any (·.1)) = false; rw [hplain] <;> rfl) (Calls.evalArgs_plain ?_);exact thn hA fun us s2 ⟨vs,H2,I2,r2,q2⟩=>hm zB s2 σ H2 x vs v us Q I2 r1 r2 q2
end
def MtM (X:Cx) (id:String) (r:V -> List V -> Hp -> VK -> Prop):Prop :=
 ∀ (zB:List (Addr × Obj)) (s:Shared) (σ:St) (H:Hp) (x:V) (xs:List V) (v:Value) (us:List Value) (Q:VK),Inv X zB σ H s -> za x v -> zW xs us -> r x xs H Q ->
  wpAny (model X.prog X.w) X.A (call (.builtin id) (v :: us)) (EP X zB σ Q) X.xe s
theorem zW.one:∀ {x:V} {us:List Value},zW [x] us -> ∃ u,us = [u] /\ za x u
 | _,_,.cons r .nil=>⟨_,rfl,r⟩
theorem zW.two:∀ {x y:V} {us:List Value},zW [x,y] us -> ∃ u v,us = [u,v] /\ za x u /\ za y v
 | _,_,_,.cons r (.cons q .nil)=>⟨_,_,rfl,r,q⟩
theorem zW.eraseIdx:∀ {xs:List V} {us:List Value} (i:Nat),zW xs us -> zW (xs.eraseIdx i) (us.eraseIdx i)
 | _,_,_,.nil=> .nil
 | _,_,0,.cons _ t=>t
 | _,_,i + 1,.cons r t=> .cons r (zW.eraseIdx i t)
theorem zHL {α:Type}:∀ (l:List α) (i:Nat),(l.eraseIdx i).length <= l.length
 | [],_=>zVB _
 | _ :: _,0=>zWn _
 | _ :: r,i + 1=>Nat.succ_le_succ (zHL r i)
section
variable {X:Cx} {zB:List (Addr × Obj)} {σ:St} {H:Hp} {s:Shared} {l b:Addr} {xs ys zs:List V}
theorem Inv.lset {its its':List Value} {n:Nat} {f:Array Value -> Array Value} {t':Nat} (I:Inv X zB σ H s) (hH:H l = some (.lst xs))
  (e:s.heap.get? l = some { cls:=.type "list", data:=.seq its.toArray n }) (hf:f its.toArray = its'.toArray) (hv:zW ys its') (hz:ys.length <= sizeLine) :
  Inv X zB σ (upd H l (.lst ys)) { s with heap:=s.heap.update l (Obj.mapSeq f),toks:=t' }:=by
 have q:=PySem.IsL.update e f;rw [hf] at q;refine I.write (x:=l) (e:=l) (by rw [hH]; exact trivial) (.inl rfl) (fun b' u hb hu=>(zVm s.heap (Obj.mapSeq f) (Ne.symm hb)).trans hu) ⟨_,q⟩ ?_;exact ⟨hz,its',_,hv,q⟩
theorem Inv.lnew {its:List Value} {t':Nat} (I:Inv X zB σ H s) (hv:zW ys its) (hz:ys.length <= sizeLine) :
  Inv X zB σ (upd H s.heap.objs.size (.lst ys)) { s with heap:=s.heap.push { cls:=.type "list", data:=.seq its.toArray },toks:=t' } :=
 I.laid (fun _ _ q=>zU6 _ q) (zVB _) ⟨hz,its,0,hv,zVF _ rfl⟩
theorem Inv.fresh (I:Inv X zB σ H s):H s.heap.objs.size = none:=I.hok.fresh (zVB _)
theorem Inv.lstM (I:Inv X zB σ H s) (hH:H l = some (.lst xs)):xs.length <= sizeLine /\ ∃ (its:List Value) (n:Nat),zW xs its /\ xs.length = its.length /\ s.heap.get? l = some { cls:=.type "list", data:=.seq its.toArray n }:=by
 obtain ⟨z,its,n,r,e⟩:=I.hok l _ hH;exact ⟨z,its,n,r,r.length,e⟩
theorem zOc {n:Nat} (h:n <= sizeLine):Builtin.List.listTooLong n = false:=by
 unfold Builtin.List.listTooLong;exact zVe (by omega)
end
section
variable {X:Cx}
def zLN:V -> List V -> Hp -> VK -> Prop:=fun x vs H Q=>∃ l xs y,x = .ref l /\ vs = [y] /\ H l = some (.lst xs) /\ xs.length < sizeLine /\ Q .non (upd H l (.lst (xs ++ [y])))
theorem zMN:MtM X "list.append" zLN:=by
 intro zB s σ H x vs v us Q I rx rv h;obtain ⟨l,xs,y,rfl,rfl,hH,hz,q⟩:=h;cases rx;obtain ⟨u,rfl,ru⟩:=rv.one;obtain ⟨z,its,n,r,hl,e⟩:=I.lstM hH;refine call_meets F.slot_list_append ⟨_,e,rfl⟩ F.entry_list_append (F.args_list_append_2 _ _) (PySem.list_append l its.toArray n u (by rw [zVD]; omega)) ⟨e,?_⟩;refine ⟨.non,_,I.lset (its':=its ++ [u]) hH e (by simp) (r.append (.cons ru .nil)) ?_,rfl,q⟩;rw [zVL,List.length_singleton];omega
def zLS:V -> List V -> Hp -> VK -> Prop:=fun x vs H Q=>∃ l b xs zs,x = .ref l /\ vs = [.ref b] /\ H l = some (.lst xs) /\ H b = some (.lst zs) /\ xs.length + zs.length <= sizeLine /\ Q .non (upd H l (.lst (xs ++ zs)))
theorem zLw:MtM X "list.extend" zLS:=by
 intro zB s σ H x vs v us Q I rx rv h;obtain ⟨l,b,xs,zs,rfl,rfl,hH,hB,hz,q⟩:=h;cases rx;obtain ⟨u,rfl,ru⟩:=rv.one;cases ru;obtain ⟨z,its,n,r,hl,e⟩:=I.lstM hH;obtain ⟨z2,its2,n2,r2,hl2,e2⟩:=I.lstM hB;have hsz:its.toArray.size + its2.toArray.size <= sizeLine:=by rw [zVD,zVD]; omega
 have hlong:¬ (!its.toArray.isEmpty && Builtin.List.listTooLong (its.toArray.size + its2.toArray.size)) = true:=by
  rw [zOc hsz,Bool.and_false];exact zVR
 refine call_meets F.slot_list_extend ⟨_,e,rfl⟩ F.entry_list_extend (F.args_list_extend_2 _ _)
  (AutoSeq1.list_extend_list_list_0 l its.toArray n b its2.toArray n2 hlong (by rw [zVD]; omega) (by omega)) ⟨e,e2,?_⟩
 refine ⟨.non,_,I.lset (its':=its ++ its2) hH e (by simp) (r.append r2) ?_,rfl,q⟩;rw [zVL];omega
def zOz:V -> List V -> Hp -> VK -> Prop:=fun x vs H Q=>∃ l xs i k y,x = .ref l /\ vs = [.int i] /\ H l = some (.lst xs) /\ -(2 ^ 63) <= i /\ i < 2 ^ 63 /\ seqIndex? i xs.length = some k /\ xs[k]? = some y /\ Q y (upd H l (.lst (xs.eraseIdx k)))
theorem zNs:MtM X "list.pop" zOz:=by
 intro zB s σ H x vs v us Q I rx rv h;obtain ⟨l,xs,i,k,y,rfl,rfl,hH,h1,h2,hk,hy,q⟩:=h;cases rx;obtain ⟨u,rfl,ru⟩:=rv.one;obtain ⟨t,rfl⟩:=ru;obtain ⟨z,its,n,r,hl,e⟩:=I.lstM hH;obtain ⟨w,hw,rw'⟩:=r.get hy
 refine call_meets F.slot_list_pop ⟨_,e,rfl⟩ F.entry_list_pop (F.args_list_pop_2 _ _)
  (MeetsSeq.list_pop_at l its.toArray n i t k w (fitsIndex_both h1 h2) (by rw [zVD,<- hl]; exact hk) (by rw [<- zWk]; exact hw) (by rw [zVD]; omega)) ⟨e,?_⟩
 refine ⟨y,_,I.lset (its':=its.eraseIdx k) hH e ?_ (r.eraseIdx k) ?_,rw',q⟩
 ·show its.toArray.eraseIdxIfInBounds k = (its.eraseIdx k).toArray;rw [List.eraseIdxIfInBounds_toArray]
 ·have:=zHL xs k;omega
def zT5:R2:=fun x y H Q=>∃ l b xs zs,x = .ref l /\ y = .ref b /\ H l = some (.lst xs) /\ H b = some (.lst zs) /\ xs.length + zs.length <= sizeLine /\ ∀ p,H p = none -> Q (.ref p) (upd H p (.lst (xs ++ zs)))
theorem zSq:OpR X (binaryOp .Add) zT5:=by
 intro zB s σ H x y v u Q I rx ry h;obtain ⟨l,b,xs,zs,rfl,rfl,hH,hB,hz,q⟩:=h;cases rx;cases ry;obtain ⟨z,its,n,r,hl,e⟩:=I.lstM hH;obtain ⟨z2,its2,n2,r2,hl2,e2⟩:=I.lstM hB;refine PySem.P.add_list e e2 ?_ (by rw [zVD,zVD]; omega);have ea:its.toArray ++ its2.toArray = (its ++ its2).toArray:=by simp
 rw [ea];exact ⟨.ref _,_,I.lnew (t':=s.toks) (r.append r2) (by rw [zVL]; omega),rfl,q _ I.fresh⟩
end
end L2
namespace Att
open PySem PySem.W PySem.Calls PyProof.Rows
theorem zE8 {P:Params} {h:Heap}:∀ (ns:List Int) (vs:List Value),WellAll P h vs (ns.map WData.int) -> IntsAre vs ns:=by
 intro ns;induction ns with
 | nil=>
  intro vs w;rw [List.map_nil] at w;cases w;exact .nil
 | cons n ns ih=>
  intro vs w;rw [zVO] at w;cases w with
  | cons a b=>
   cases a;exact .cons _ _ (ih _ b)
theorem zNH {l:OpenLaw} {n:Nat} (hn:l.most = some n) {P:Params} {h:Heap} {args:List WData} {vals:List Value}
  (hpre:l.row.toRowW.claim.pre args = true) (hwl:WellAll P h vals args) :
  ∃ a vs ns,vals = [Value.ref a] /\ args = [WData.list (ns.map WData.int)] /\ h.get? a = some { cls:=.type "list", data:=.seq vs.toArray } /\ IntsAre vs ns /\ ns.length <= n:=by
 have hsh:WShape.hasAll [] args [.list .int] = true:=(pre_splitW hpre).1;have hc:l.pre.holds [] { args:=args } = true:=(pre_splitW hpre).2;obtain ⟨d,r,rfl,h1,h2⟩:=hasAllW_cons hsh;obtain rfl:=hasAllW_nil h2;obtain ⟨xs,rfl,h3⟩:=hasW_list h1;obtain ⟨ns,rfl⟩:=items_int h3;have hlen:ns.length <= n:=by
  unfold OpenLaw.pre at hc;have h4:(WTm.not (.lt (.lit (.int (n:Int))) (.len (.arg 0)))).holds [] { args:=[.list (ns.map .int)] } = true:=by
   have h4:=(holds_andW hc).1;rw [hn] at h4;exact h4
  have h5:=condW_of h4 (w_not (w_lt w_lit (w_len_list (w_arg rfl))));rw [zVE] at h5;refine Nat.le_of_not_lt fun q=>?_;have q':(n:Int) < ((ns.length:Nat):Int):=by omega
  first
   | (rw [zWD q'] at h5; exact absurd h5 (by decide))
   | (simp at h5; omega)
 cases hwl with
 | cons w1 w2=>
  cases w2;cases w1 with
  | list ho hall=>exact ⟨_,_,ns,rfl,rfl,ho,zE8 ns _ hall,hlen⟩
theorem zML (l:OpenLaw) (args:List WData):l.row.toRowW.claim.post args (.bool true) args = true :=
 postW_of (r:=l.row.toRowW) (X:=(true == true))
  (show WShape.has [] (.bool true) .bool = true by first | rfl | decide | simp [WShape.has,WShape.arms,WShape.armsAll])
  (show (WTm.eq .res (.lit (.bool true))).value [] { args:=args,res:=some (.bool true),after:=args } = some (.bool (true == true)) from w_eq_bool (w_res rfl) w_lit) rfl
theorem zIQ {l:OpenLaw} {n:Nat} {q:Program} {loose:List Str} {XP:(Str -> Option Value) -> Heap -> Prop} {YP:World -> Heap -> Prop} {d:DefRec}
  (hn:l.most = some n) (hdf:d.params.defaults = [])
  (call:∀ (w:World) (s₀ s₁:Shared) (mg mb:Str -> Option Value) (fa:Addr) (o:Obj) (pm cd doc:Value) (a:Addr) (vs:List Value) (ns:List Int),
   Ground q loose [] XP w s₀ mg mb s₁.heap -> YP w s₁.heap ->
   s₁.heap.get? fa = some o -> o.data = .func (docDef d.name d.params d.body d.scope pm cd doc) -> s₁.heap.CodeRec cd d.name -> mg d.name = some (.ref fa) ->
   s₁.heap.get? a = some { cls:=.type "list", data:=.seq vs.toArray } -> IntsAre vs ns -> ns.length <= n -> s₁.gens = #[] ->
   codeAny (model l.prog w) callerA (.call (.ref fa) ⟨[.ref a],[]⟩) (fun r s'=>r = .ok (.ret (.bool true)) /\ OldK s₁.heap s'.heap /\ s'.os = s₁.os /\ AllBare s'.gens) s₁) :
  WalkO q loose XP YP l.row.toRowW d [] (fun f vs=>PySem.call f vs):=by
 intro w s₀ s₁ mg mb G Y fa o pm cd doc dV kV ho hd hcd hD hmg hg args vals as hpre hlay hrd hwl hlo;obtain rfl:dV = .none:=Dflts.none hD hdf;obtain rfl:kV = .none:=Dflts.noKw hD;obtain ⟨a,vs,ns,rfl,rfl,hobj,hints,hlen⟩:=zNH hn hpre hwl;refine enter_call (codeAny_mono (call w s₀ s₁ mg mb fa o pm cd doc a vs ns G Y ho (fd_plain hd) hcd hmg hobj hints hlen hg) fun r s' hq=>?_);obtain ⟨rfl,h2,h3,h4⟩:=hq;exact ⟨.inl ⟨.bool true,.bool true,[],rfl,fun _=>rfl,.bool true,zML l _,fun _=>⟨List.Pairwise.nil,fun _ hm=>(nomatch hm)⟩⟩,h2,h3,h4⟩
end Att
namespace L2
open PySem PySem.Spec PyProof.Rows
theorem zGy:∀ {vs:List Value} {ns:List Int},IntsAre vs ns -> zW (ns.map V.int) vs
 | _,_,.nil=> .nil
 | _,_,.cons n t h=> .cons ⟨t,rfl⟩ (zGy h)
def zRH (H:Hp):Prop:=∀ b,H b = none \/ ∃ o xs,H b = some (.frz o (.lst xs))
theorem zNq {P:Program} {w:World} {K:PySem.W.Frag} {mg mb:Str -> Option Value} {CX:CXT} {k:Nat} {fa a:Addr} {fd:FuncData} {x:Str} {sp:Sp} {s₁:Shared} {vs:List Value} {ns:List Int}
  (KX:K.In s₁.heap) (hns:s₁.heap.Ns mainGlobals mg) (hb:s₁.heap.Ns builtinsNs mb) (hbb:∀ x:Str,x ≠ "__name__" -> mb x = bootBuiltins x) (hlim:s₁.heap.NoLimit) (hg:s₁.gens = #[])
  (ha:s₁.heap.get? a = some { cls:=.type "list", data:=.seq vs.toArray }) (hi:IntsAre vs ns) (hl:ns.length <= sizeLine) (hr:Room k callerA)
  (F:∀ base:Heap,K.In base -> base.Ns mainGlobals mg -> FnOk P w K mg base CX k fa fd [x] sp) (hbind:∀ (s:Shared) (u:Value),BindsTo s fd ⟨[u],[]⟩ [(x,u)])
  (hsp:∀ H:Hp,zRH H -> SqL K H a (ns.map V.int) -> sp [.ref a] H (fun v _=>v = .bl true) fun _ _ _=>False)
  (hCX:∀ H e s',CX [] H s₁ (fun _ _ _=>False) e s' -> False) :
  codeAny (model P w) callerA (.call (.ref fa) ⟨[.ref a],[]⟩) (fun r s'=>r = .ok (.ret (.bool true)) /\ OldK s₁.heap s'.heap /\ s'.os = s₁.os /\ AllBare s'.gens) s₁:=by
 have rv:=zGy hi;have lenV:=hi.length
 have core:∀ H:Hp,zRH H -> SqL K H a (ns.map V.int) -> HOk P w H s₁.heap -> (∀ b,H b ≠ none -> b = a) -> (H a ≠ none -> K.lookup a = none) ->
   codeAny (model P w) callerA (.call (.ref fa) ⟨[.ref a],[]⟩) (fun r s'=>r = .ok (.ret (.bool true)) /\ OldK s₁.heap s'.heap /\ s'.os = s₁.os /\ AllBare s'.gens) s₁:=by
  intro H hO hS hok hA hK;have base_of:∀ {b:Addr} {o:Obj},s₁.heap.get? b = some o -> H b = none -> (zHe s₁.heap H).get? b = some o:=fun e n=>zOa e n;have noA:∀ {b:Addr} {o:Obj} {es:Array DictEntry} {ep:Nat},s₁.heap.get? b = some o -> o.data = .dict es ep -> H b = none:=fun {b o es ep} e d=>by
   cases q:H b with
   | none=>rfl
   | some u=>
    have e':b = a:=hA b (by rw [q]; simp);subst e';rw [ha] at e; cases e;have d':Data.seq vs.toArray _ = Data.dict es ep:=d;cases d'
  have nsK:∀ {b:Addr} {m:Str -> Option Value},s₁.heap.Ns b m -> (zHe s₁.heap H).Ns b m:=fun {b m} ⟨o,es,ep,e,d,r⟩=>⟨o,es,ep,base_of e (noA e d),d,r⟩;have hKb:K.In (zHe s₁.heap H):=fun b o e=>base_of (KX b o e) (by
   cases q:H b with
   | none=>rfl
   | some u=>
    have e':b = a:=hA b (by rw [q]; simp);subst e';rw [hK (by rw [q]; simp)] at e; cases e)
  have hM:Mod K mg (zHe s₁.heap H):=⟨hKb,nsK hns,⟨mb,nsK hb,hbb⟩,let ⟨mc,h1,h2⟩:=hlim; ⟨mc,nsK h1,h2⟩⟩;have e0:Env0 P w K mg (zHe s₁.heap H) callerA [] s₁ H:=⟨rfl,hM,fun b o e=>zRE e,Nat.le_of_eq (zMX _ _),trivial,fun b hb=>absurd (show b ∈ ([]:List Addr) from hb) (by simp),hok,.of_eq hg⟩;refine codeAny_mono ((F _ hKb (nsK hns)).run callerA [] s₁ H ⟨[.ref a],[]⟩ [.ref a] [.ref a] _ _ hr e0 (hbind s₁ (.ref a)) (.cons rfl .nil) (hsp H hO hS)) fun r s' h=>?_;cases r with
  | error e=>exact (hCX H e s' h).elim
  | ok fl=>
   cases fl with
   | next=>exact False.elim h
   | brk=>exact False.elim h
   | cont=>exact False.elim h
   | ret u=>
    obtain ⟨v,H',os,bare,un,hok',r',q⟩:=h;have q':v = .bl true:=q;subst q';obtain rfl:u = Value.bool true:=r';refine ⟨rfl,OldK.of_keep fun b o e=>?_,os,bare⟩;cases q:H b with
    | none=>exact un.keep b o e q (by intro z; exact absurd (show b ∈ ([]:List Addr) from z) (by simp)) (by simp)
    | some u=>
     rcases hO b with z | ⟨ob,xs,z⟩
     ·rw [q] at z; cases z
     ·have z2:=un.frzs b ob _ z;obtain ⟨e1,_⟩:=hok b _ z;obtain ⟨e2,_⟩:=hok' b _ z2;rw [e] at e1; cases e1;exact e2
 cases hk:K.lookup a with
 | some o=>
  have e:=KX a o hk;rw [ha] at e;cases e;refine core (fun _=>none) (fun _=> .inl rfl) (.inr ⟨_,vs.toArray,_,hk,rfl,rfl,rfl,by rw [zVD,lenV]; exact hl,by simpa using rv⟩) (fun b u z=>by have z':(none:Option HO) = some u:=z; cases z') (fun b z=>absurd rfl z) fun z=>absurd rfl z
 | none=>
  refine core (fun b=>if b = a then some (.frz { cls:=.type "list", data:=.seq vs.toArray } (.lst (ns.map V.int))) else none) (fun b=>?_) (.inl (.inr ⟨{ cls:=.type "list", data:=.seq vs.toArray },zVK rfl⟩)) (fun b u z=>?_) (fun b z=>?_) fun _=>hk
  ·by_cases hb:b = a
   ·exact .inr ⟨_,_,zVK hb⟩
   ·exact .inl (zVN hb)
  ·by_cases hb:b = a
   ·have z':=(zVK hb).symm.trans z;cases z';subst hb;exact ⟨ha,by rw [zVE]; exact hl,vs,_,rv,ha⟩
   ·have z':=(zVN hb).symm.trans z;cases z'
  ·by_cases hb:b = a
   ·exact hb
   ·exact absurd (zVN hb) z
theorem zQJ {l:PySem.W.OpenLaw} {n k:Nat} {q:Program} {loose:List Str} {XP:(Str -> Option Value) -> Heap -> Prop} {YP:World -> Heap -> Prop} {d:DefRec} {K:Params -> PySem.W.Frag} {CX:World -> CXT} {sp:World -> Sp} {x:Str}
  (hn:l.most = some n) (hn2:n <= sizeLine) (hdf:d.params.defaults = []) (hr:Room k callerA)
  (hY:∀ (w:World) (h:Heap),YP w h -> (K w.params).In h)
  (F:∀ (w:World) (mg:Str -> Option Value) (fa:Addr) (h:Heap),(K w.params).In h -> h.Ns mainGlobals mg -> mg d.name = some (.ref fa) ->
   ∃ fd:FuncData,(∀ (s:Shared) (u:Value),BindsTo s fd ⟨[u],[]⟩ [(x,u)]) /\
    ∀ base:Heap,(K w.params).In base -> base.Ns mainGlobals mg -> FnOk l.prog w (K w.params) mg base (CX w) k fa fd [x] (sp w))
  (hsp:∀ (w:World) (H:Hp) (a:Addr) (ns:List Int),ns.length <= n -> zRH H -> SqL (K w.params) H a (ns.map V.int) -> sp w [.ref a] H (fun v _=>v = .bl true) fun _ _ _=>False)
  (hCX:∀ (w:World) (H:Hp) (s:Shared) (e:Value) (s':Shared),CX w [] H s (fun _ _ _=>False) e s' -> False) :
  PySem.W.WalkO q loose XP YP l.row.toRowW d [] (fun f vs=>PySem.call f vs):=by
 refine Att.zIQ hn hdf fun w s₀ s₁ mg mb fa o pm cd doc a vs ns G Y ho hd hcd hmg hobj hints hlen hg=>?_;have KX:=hY w _ Y;obtain ⟨fd,hb,hF⟩:=F w mg fa _ KX G.T.g hmg;exact zNq KX G.T.g G.T.b G.T.builtins G.T.nolimit hg hobj hints (zVW hlen hn2) hr hF hb (fun H hO hS=>hsp w H a ns hlen hO hS) fun H e s'=>hCX w H s₁ e s'
def zDR (s:Stmt):Arguments:=match s with
 | .FunctionDef _ a _ _ _ _ _ _ _ _=>a
 | _=>{ posonlyargs:=[],args:=[],vararg:=none,kwonlyargs:=[],kw_defaults:=[],kwarg:=none,defaults:=[] }
def zB6 (s:Stmt):List Stmt:=match s with
 | .FunctionDef _ _ b _ _ _ _ _ _ _=>b
 | _=>[]
def zN (s:Stmt):Scope:=match s with
 | .FunctionDef _ _ _ _ _ _ sc _ _ _=>sc
 | _=>{ kind:=.function,names:=[],isGenerator:=false,isCoroutine:=false }
abbrev CX0:CXT:=fun _ _ _ _ _ _=>False
abbrev E0:XK:=fun _ _ _=>False
theorem zUO {X:Cx}:zKF CX0 X E0:=fun _ _ _ _ _ _ _ h=>h.elim
structure Fun (K:PySem.W.Frag) (x qual:Str) (st:Stmt) (f:Addr) (fd:FuncData):Prop where
 ex:∃ (oc:Value) (od:Option Addr) (kV doc pm:Value) (an:Option Addr) (cdv ct:Value) (osl:Array (Option Value)),
  fd = PySem.W.fnOf x qual (zDR st) (zB6 st) (zN st) .none kV doc pm an cdv ct /\ K.lookup f = some ⟨oc,od,.func fd,osl⟩ /\ PySem.W.codeIn K cdv qual = true
 kp:PySem.W.keepIn K (.ref f) = true
section
variable {P:Program} {w:World} {K:PySem.W.Frag} {mg:Str -> Option Value} {base:Heap}
theorem Fun.ok {x qual:Str} {st:Stmt} {f:Addr} {fd:FuncData} {N ps:List Str} {k:Nat} {sp:Sp} (F:Fun K x qual st f fd) (S:FnScope N ps (zN st)) (len:∀ vs H Q E,sp vs H Q E -> vs.length = ps.length)
  (hbody:∀ (cdv:Value) (A:Around) (outer:List Env) (s:Shared) (H:Hp) (vs:List V) (Q:VK) (E:XK),Room k (A.deeper (envOfC qual (zN st) s.heap.objs.size f cdv)) -> sp vs H Q E ->
   ∃ t,PSs (zKK CX0 P w K mg base N qual (zN st) f cdv A outer s H E).nox (zB6 st) t /\ t { nx:=fun _ H'=>Q .non H',rt:=Q } (zDZ N vs) H):FnOk P w K mg base CX0 (k + 1) f fd ps sp:=by
 obtain ⟨oc,od,kV,doc,pm,an,cdv,ct,osl,rfl,lk,hcd⟩:=F.ex;refine zTj lk hcd S len fun A outer s H vs Q E hr hsp=>?_;obtain ⟨t,h,q⟩:=hbody cdv A outer s H vs Q E hr hsp;exact ⟨t,h.nox,q⟩
theorem Fun.binds {x qual:Str} {st:Stmt} {f:Addr} {fd:FuncData} {ps:List Str} (F:Fun K x qual st f fd)
  (h:∀ (kV doc pm:Value) (an:Option Addr) (cdv ct:Value) (us:List Value),us.length = ps.length -> bindArgs (PySem.W.fnOf x qual (zDR st) (zB6 st) (zN st) .none kV doc pm an cdv ct) ⟨us,[]⟩ = pure (ps.zip us)):zFb K fd ps []:=by
 obtain ⟨oc,od,kV,doc,pm,an,cdv,ct,osl,rfl,lk,hcd⟩:=F.ex;exact .all (h kV doc pm an cdv ct)
theorem zNV {x qual:Str} {st:Stmt} {f:Addr} {oc:Value} {od an:Option Addr} {osl:Array (Option Value)} {kV doc pm cdv ct:Value} (l:K.lookup f = some ⟨oc,od,.func (PySem.W.fnOf x qual (zDR st) (zB6 st) (zN st) .none kV doc pm an cdv ct),osl⟩)
  (c:PySem.W.codeIn K cdv qual = true) (k:PySem.W.keepIn K (.ref f) = true):Fun K x qual st f (PySem.W.fnOf x qual (zDR st) (zB6 st) (zN st) .none kV doc pm an cdv ct):=⟨⟨oc,od,kV,doc,pm,an,cdv,ct,osl,rfl,l,c⟩,k⟩
end
theorem zEv {A:Around} {k:Nat} (hr:Room k A):A.units + 1 < cLine:=Nat.lt_of_le_of_lt (Nat.add_le_add_left (by decide:1 <= 64) _) hr.units
section
variable {X:Cx}
theorem pv (i:Nat) {x:Str} {pos:Pos} (hN:X.N[i]? = some x:=by rfl) (hv:Vis X.env.scope x:=by first | exact Or.inl rfl | exact Or.inr (Or.inl rfl) | exact Or.inr (Or.inr rfl)) (hd:(x == ("__debug__" : Str)) = false:=by decide)
  (hcd:(x == ("__classdict__" : Str)) = false:=by decide):PE X (.Name x pos) (zS3 i):=zTD hN hv hd hcd
end
theorem zEi {A B:Prop} (h:B):if false = true then A else B:=by
 rw [zVN zVR];exact h
theorem zEf {A B:Prop} (h:A):if true = true then A else B:=by
 rw [zVK rfl];exact h
section
variable {κ:Type} [DecidableEq κ]
def zDX (kvs:List (κ × V)) (k:κ):Option V:=(kvs.find? fun kv=>decide (kv.1 = k)).map (·.2)
def zCs (kvs:List (κ × V)) (k:κ) (v:V):List (κ × V) :=
 if (kvs.any fun kv=>decide (kv.1 = k)) = true then kvs.map (fun kv=>if kv.1 = k then (kv.1,v) else kv) else kvs ++ [(k,v)]
theorem zEI {p:κ × V} {r:List (κ × V)} {k:κ} (e:p.1 = k):zDX (p :: r) k = some p.2:=by simp [zDX,zWr,e]
theorem zEE {p:κ × V} {r:List (κ × V)} {k:κ} (e:¬ p.1 = k):zDX (p :: r) k = zDX r k:=by simp [zDX,zWr,e]
theorem zJG (k:κ):∀ kvs:List (κ × V),(kvs.any fun kv=>decide (kv.1 = k)) = (zDX kvs k).isSome
 | []=>rfl
 | p :: r=>by
  rw [List.any_cons];by_cases e:p.1 = k
  ·simp only [zEI e,zWD e,Bool.true_or,Option.isSome_some]
  ·rw [zEE e,zVe e,Bool.false_or]; exact zJG k r
theorem zB7 (kvs:List (κ × V)) (k:κ) (v:V):(zCs kvs k v).length <= kvs.length + 1:=by
 unfold zCs;split
 ·rw [zVE]; omega
 ·rw [zVL,zVc,List.length_nil]; omega
theorem zEd.isSome_eq (r:zEd o u):o.isSome = u.isSome:=by
 cases o with
 | none=>cases u with
  | none=>rfl
  | some _=>exact (show False from r).elim
 | some _=>cases u with
  | none=>exact (show False from r).elim
  | some _=>rfl
theorem zEd.getD (r:zEd o u) (rd:za d d'):za (o.getD d) (u.getD d'):=by
 cases o with
 | none=>cases u with
  | none=>exact rd
  | some _=>exact (show False from r).elim
 | some _=>cases u with
  | none=>exact (show False from r).elim
  | some _=>exact r
theorem KV.val {kvs:List (κ × V)} {vs:List (κ × Value)} (r:KV kvs vs) (k:κ):zEd (zDX kvs k) (valueAt vs k):=by
 unfold KV at r;induction r with
 | nil=>exact True.intro
 | @cons p q ps qs h t ih=>
  obtain ⟨h1,h2⟩:=h;by_cases e:p.1 = k
  ·have e':q.1 = k:=h1.symm.trans e;have b:valueAt (q :: qs) k = some q.2:=by simp [valueAt,zWr,e']
   rw [zEI e,b]; exact h2
  ·have e':¬ q.1 = k:=fun z=>e (h1.trans z);have b:valueAt (q :: qs) k = valueAt qs k:=by simp [valueAt,zWr,e']
   rw [zEE e,b]; exact ih
theorem KV.any (r:KV kvs vs) (k:κ):(kvs.any fun kv=>decide (kv.1 = k)) = vs.any fun kv=>decide (kv.1 = k):=by
 unfold KV at r;induction r with
 | nil=>rfl
 | cons h t ih=>rw [List.any_cons,List.any_cons,ih,h.1]
theorem KV.repl (r:KV kvs vs) (k:κ) (ry:za y u) :
  KV (kvs.map fun kv=>if kv.1 = k then (kv.1,y) else kv) (vs.map fun kv=>if kv.1 = k then (kv.1,u) else kv):=by
 unfold KV at r ⊢;induction r with
 | nil=>exact .nil
 | @cons p q ps qs h t ih=>
  rw [zVO,zVO];refine .cons ?_ ih;obtain ⟨h1,h2⟩:=h;by_cases e:p.1 = k
  ·rw [zVK e,zVK (h1.symm.trans e)]; exact ⟨h1,ry⟩
  ·rw [zVN e,zVN (fun z=>e (h1.trans z))]; exact ⟨h1,h2⟩
theorem KV.put (r:KV kvs vs) (k:κ) (ry:za y u):KV (zCs kvs k y) (stored vs k u):=by
 unfold zCs stored;rw [r.any k];by_cases e:(vs.any fun kv=>decide (kv.1 = k)) = true
 ·rw [zVK e,zVK e]; exact r.repl k ry
 ·rw [zVN e,zVN e]; exact Paired.snoc r ⟨rfl,ry⟩
theorem KV.length (r:KV kvs vs):kvs.length = vs.length:=Paired.length r
end
theorem zE2 (r:za (kV k) u):(zi P w).is k u = true:=by
 cases k with
 | inl i=>obtain ⟨t,e⟩:=(show ∃ t,u = Value.int i t from r); subst e; exact zJW P w i t
 | inr x=>obtain ⟨t,e⟩:=(show ∃ t,u = Value.str x t from r); subst e; exact zIR P w x t
theorem zGs:∀ {ks:List Key} {us:List Value},zW (ks.map kV) us -> ItemsAre (zi P w) ks us
 | [],_,r=>by rw [List.map_nil] at r; cases r; exact .nil
 | k :: ks,_,r=>by
  rw [zVO] at r;cases r with
  | cons h t=>exact .cons (zE2 h) (zGs t)
abbrev KT (H:Hp):List (List Key × V) -> List (List Key × Addr × Value) -> Prop:=Paired fun p q=>p.1 = q.1 /\ H q.2.1 = some (.tup (p.1.map kV)) /\ za p.2 q.2.2
theorem KT.val {H:Hp} {kvs:List (List Key × V)} {xs:List (List Key × Addr × Value)} (r:KT H kvs xs) (k:List Key):zEd (zDX kvs k) ((atKey xs k).map (·.2)):=by
 induction r with
 | nil=>exact True.intro
 | @cons p q ps qs h t ih=>
  obtain ⟨h1,_,h2⟩:=h;by_cases e:p.1 = k
  ·have e':q.1 = k:=h1.symm.trans e;have b:atKey (q :: qs) k = some q.2:=by simp [atKey,zWr,e']
   rw [zEI e,b]; exact h2
  ·have e':¬ q.1 = k:=fun z=>e (h1.trans z);have b:atKey (q :: qs) k = atKey qs k:=by simp [atKey,zWr,e']
   rw [zEE e,b]; exact ih
theorem KT.repl (r:KT H kvs xs) (k:List Key) (ry:za y u) :
  KT H (kvs.map fun kv=>if kv.1 = k then (kv.1,y) else kv) (xs.map (putAt k u)):=by
 induction r with
 | nil=>exact .nil
 | @cons p q ps qs h t ih=>
  rw [zVO,zVO];refine .cons ?_ ih;obtain ⟨h1,h2,h3⟩:=h;unfold putAt;by_cases e:p.1 = k
  ·rw [zVK e,zVK (h1.symm.trans e)]; exact ⟨h1,h2,ry⟩
  ·rw [zVN e,zVN (fun z=>e (h1.trans z))]; exact ⟨h1,h2,h3⟩
theorem KT.put (r:KT H kvs xs) (k:List Key) (hb:H b = some (.tup (k.map kV))) (ry:za y u) :
  KT H (zCs kvs k y) (storedH xs k b u):=by
 have e:(kvs.any fun kv=>decide (kv.1 = k)) = (atKey xs k).isSome:=by
  rw [zJG,(r.val k).isSome_eq,Option.isSome_map]
 unfold zCs storedH;rw [e];by_cases q:(atKey xs k).isSome = true
 ·rw [zVK q,zVK q]; exact r.repl k ry
 ·rw [zVN q,zVN q]; exact Paired.snoc r ⟨rfl,hb,ry⟩
theorem KT.keeps (r:KT H kvs xs) (ht:∀ b ys,H b = some (.tup ys) -> H' b = some (.tup ys)):KT H' kvs xs :=
 Paired.mapP r fun _ _ z=>⟨z.1,ht _ _ z.2.1,z.2.2⟩
section
variable {P:Program} {w:World} {H:Hp} {h:Heap} {a:Addr}
theorem zRO (ok:HOk P w H h) (e:Rd H a u):zl P w H h a u:=e.ok ok
theorem zE3 (ok:HOk P w H h) (e:Rd H a (.dK kvs)):kvs.length <= sizeLine /\ (a == sysModules) = false /\ ∃ vs,KV kvs vs /\ h.DictOf (zi P w) a vs :=
 show zl P w H h a (.dK kvs) from zRO ok e
theorem zRL (ok:HOk P w H h) (e:H a = some (.dK kvs)):kvs.length <= sizeLine /\ (a == sysModules) = false /\ ∃ vs,KV kvs vs /\ h.DictOf (zi P w) a vs:=zE3 ok (.inl e)
theorem zC4 (ok:HOk P w H h) (e:H a = some (.tup (ks.map kV))):(tupleKind (zi P w)).is h ks a:=by
 obtain ⟨_,its,r,o,h1,h2,⟨n,h3⟩,_⟩:=(show zl P w H h a (.tup (ks.map kV)) from ok a _ e);exact ⟨o,its.toArray,n,h1,h2,h3,by simpa using zGs r⟩
theorem zEs (ok:HOk P w H h) (e:Rd H a (.dT kvs)):kvs.length <= sizeLine /\ (a == sysModules) = false /\
  ∃ xs,KT H kvs xs /\ h.DictOfH (tupleKind (zi P w)) a xs:=by
 obtain ⟨z,y,xs,r,o,es,ep,h1,h2,h3,h4,h5⟩:=(show zl P w H h a (.dT kvs) from zRO ok e);refine ⟨z,y,xs,r,o,es,ep,h1,h2,h3,h4,fun x hx=>?_,h5⟩;have all:∀ {l:List (List Key × V)} {m:List (List Key × Addr × Value)},KT H l m -> ∀ x ∈ m,(tupleKind (zi P w)).is h x.1 x.2.1:=by
  intro l m q;induction q with
  | nil=>intro x hx; exact nomatch hx
  | @cons p q ps qs hq t ih=>
   intro x hx;rcases zVH.mp hx with e | hx
   ·subst e;exact zC4 ok (by rw [<- hq.1]; exact hq.2.1)
   ·exact ih x hx
 exact all r x hx
theorem zRd (ok:HOk P w H h) (e:H a = some (.dT kvs)):kvs.length <= sizeLine /\ (a == sysModules) = false /\
  ∃ xs,KT H kvs xs /\ h.DictOfH (tupleKind (zi P w)) a xs:=zEs ok (.inl e)
end
def zCI (H:Hp) (a:Addr) (y:V) (r:Option V):Prop :=
 (∃ kvs k,Rd H a (.dK kvs) /\ y = kV k /\ r = zDX kvs k) \/ ∃ kvs k b,Rd H a (.dT kvs) /\ y = .ref b /\ H b = some (.tup (k.map kV)) /\ r = zDX kvs k
def zFC (H:Hp) (a:Addr) (y v:V) (H':Hp):Prop :=
 (∃ kvs k,H a = some (.dK kvs) /\ y = kV k /\ kvs.length < sizeLine /\ H' = upd H a (.dK (zCs kvs k v))) \/
 ∃ kvs k b,H a = some (.dT kvs) /\ y = .ref b /\ H b = some (.tup (k.map kV)) /\ kvs.length < sizeLine /\ H' = upd H a (.dT (zCs kvs k v))
theorem zCI.k {H:Hp} {a:Addr} {kvs:List (Key × V)} {k:Key} (e:H a = some (.dK kvs)):zCI H a (kV k) (zDX kvs k):=.inl ⟨kvs,k,.inl e,rfl,rfl⟩
theorem zCI.t {k:List Key} (e:H a = some (.dT kvs)) (eb:H b = some (.tup (k.map kV))):zCI H a (.ref b) (zDX kvs k):=.inr ⟨kvs,k,b,.inl e,rfl,eb,rfl⟩
theorem zFC.k {H:Hp} {a:Addr} {kvs:List (Key × V)} {k:Key} {v:V} (e:H a = some (.dK kvs)) (hl:kvs.length < sizeLine):zFC H a (kV k) v (upd H a (.dK (zCs kvs k v))):=.inl ⟨kvs,k,e,rfl,hl,rfl⟩
theorem zFC.t {kvs:List (List Key × V)} {k:List Key} (e:H a = some (.dT kvs)) (eb:H b = some (.tup (k.map kV))) (hl:kvs.length < sizeLine) :
  zFC H a (.ref b) v (upd H a (.dT (zCs kvs k v))):=.inr ⟨kvs,k,b,e,rfl,eb,hl,rfl⟩
section
variable {X:Cx} {zB:List (Addr × Obj)} {σ:St} {H:Hp} {s:Shared} {a:Addr} {y v:V} {u r:Value} {o:Option V} {A:Around} {E:Value -> Shared -> Prop}
theorem Inv.big (I:Inv X zB σ H s):sysModules < s.heap.objs.size:=by
 have h:mainGlobals < s.heap.objs.size:=(I.mod.glob.keeps I.bk).lt;exact Nat.lt_trans (by decide) h
theorem zMr (hu:A.units + 1 < cLine) (I:Inv X zB σ H s) (g:zCI H a y (some v)) (ry:za y u) (h:∀ w' s',Inv X zB σ H s' -> za v w' -> Q w' s') :
  wpAny (model X.prog X.w) A (getItem (.ref a) u) Q E s:=by
 rcases g with ⟨kvs,k,e,ey,l⟩ | ⟨kvs,k,b,e,ey,eb,l⟩
 ·subst ey;obtain ⟨z,hd,vs,rel,dd⟩:=zE3 I.hok e;obtain ⟨w',hw,rw'⟩:=zEd.some_of (v:=v) (o:=valueAt vs k) (by rw [l]; exact rel.val k);exact wpAny_getItem_of (zE2 ry) dd.mapOf hw (h w' _ (I.tok _) rw')
 ·subst ey;cases (show u = Value.ref b from ry);obtain ⟨z,hd,xs,rel,dd⟩:=zEs I.hok e;obtain ⟨w',hw,rw'⟩:=zEd.some_of (v:=v) (o:=(atKey xs k).map (·.2)) (by rw [l]; exact rel.val k);obtain ⟨p,hp,hp2⟩:=Option.map_eq_some_iff.mp hw;refine wpAny_getItem_heap (tupleKind_room_in1 hu) (zC4 I.hok eb) dd hp ?_;rw [hp2];exact h w' _ (I.tok _) rw'
theorem zUX (hu:A.units + 1 < cLine) (I:Inv X zB σ H s) (g:zCI H a y o) (ry:za y u) (h:∀ s',Inv X zB σ H s' -> Q (.bool o.isSome) s') :
  wpAny (model X.prog X.w) A (compareOp .In u (.ref a)) Q E s:=by
 rcases g with ⟨kvs,k,e,ey,l⟩ | ⟨kvs,k,b,e,ey,eb,l⟩
 ·subst ey;obtain ⟨z,hd,vs,rel,dd⟩:=zE3 I.hok e;refine wpAny_in_of (zE2 ry) hd dd.mapOf ?_;rw [<- (rel.val k).isSome_eq,<- l];exact h _ (I.tok _)
 ·subst ey;cases (show u = Value.ref b from ry);obtain ⟨z,hd,xs,rel,dd⟩:=zEs I.hok e;refine wpAny_in_heap (tupleKind_room_in1 hu) (zC4 I.hok eb) hd dd ?_;have q:=(rel.val k).isSome_eq;rw [Option.isSome_map] at q;rw [<- q,<- l];exact h _ (I.tok _)
theorem zP4 (hu:A.units + 1 < cLine) (I:Inv X zB σ H s) (g:zCI H a y o) (ry:za y u) (h:∀ s',Inv X zB σ H s' -> Q (.bool (!o.isSome)) s') :
  wpAny (model X.prog X.w) A (compareOp .NotIn u (.ref a)) Q E s:=by
 rcases g with ⟨kvs,k,e,ey,l⟩ | ⟨kvs,k,b,e,ey,eb,l⟩
 ·subst ey;obtain ⟨z,hd,vs,rel,dd⟩:=zE3 I.hok e;refine wpAny_notIn_of (zE2 ry) hd dd.mapOf ?_;rw [<- (rel.val k).isSome_eq,<- l];exact h _ (I.tok _)
 ·subst ey;cases (show u = Value.ref b from ry);obtain ⟨z,hd,xs,rel,dd⟩:=zEs I.hok e;refine wpAny_notIn_heap (tupleKind_room_in1 hu) (zC4 I.hok eb) hd dd ?_;have q:=(rel.val k).isSome_eq;rw [Option.isSome_map] at q;rw [<- q,<- l];exact h _ (I.tok _)
theorem zEG (I:Inv X zB σ H s) (mu:Mut (H a)) (hs:Heap.SameBut a s.heap h') (he:∃ q,h'.get? a = some q) (new:zl X.prog X.w (upd H a ob) h' a ob) :
  Inv X zB σ (upd H a ob) { s with heap:=h',toks:=t' } :=
 I.write (x:=a) (e:=a) mu (.inl rfl) (fun b q hb z=>(hs.2 b hb).trans z) he new
theorem zN1 (z:kvs.length <= sizeLine) (hd:(a == sysModules) = false) (rel:KV kvs vs) (dd:h'.DictOf (zi P w) a vs) :
  zl P w H' h' a (.dK kvs):=⟨z,hd,vs,rel,dd⟩
theorem zM7 (hu:A.units + 1 < cLine) (I:Inv X zB σ H s) (g:zFC H a y v H') (ry:za y u) (rv:za v r) (h:∀ s',Inv X zB σ H' s' -> Q () s') :
  wpAny (model X.prog X.w) A (setItem (.ref a) u r) Q E s:=by
 rcases g with ⟨kvs,k,e,ey,l,eH⟩ | ⟨kvs,k,b,e,ey,eb,l,eH⟩
 ·subst ey eH;obtain ⟨z,hd,vs,rel,dd⟩:=zRL I.hok e;have hz:vs.length <= sizeLine:=by rw [<- rel.length]; exact z
  have hl:(zCs kvs k v).length <= sizeLine:=by have:=zB7 kvs k v; omega
  refine wpAny_setItem_pairs (hsz:=hz) (zE2 ry) dd fun h' dd' hs=>h _ ?_;have he:∃ q,h'.get? a = some q:=let ⟨q,_,_,hq,_⟩:=dd'; ⟨q,hq⟩;exact zEG I (by rw [e]; exact True.intro) hs he (zN1 hl hd (rel.put k rv) dd')
 ·subst ey eH;cases (show u = Value.ref b from ry);obtain ⟨z,hd,xs,rel,dd⟩:=zRd I.hok e;have hz:xs.length <= sizeLine:=by rw [<- Paired.length rel]; exact z
  have hl:(zCs kvs k v).length <= sizeLine:=by have:=zB7 kvs k v; omega
  refine wpAny_setItem_heap (hsz:=hz) (tupleKind_room_in1 hu) (zC4 I.hok eb) dd fun h' dd' hs=>h _ ?_;obtain ⟨q,es,ep,hq,h2,h3,h4,_,h5⟩:=dd';refine zEG I (by rw [e]; exact True.intro) hs ⟨q,hq⟩ ⟨hl,hd,_,(rel.put k eb rv).keeps fun c ys ec=>?_,q,es,ep,hq,h2,h3,h4,h5⟩;rw [zS (zFh ec e (fun z=>nomatch z))];exact ec
end
def zSf (i:Expr):Prop:=∀ ov iv,subscripted i false ov iv = operate [ov,iv] (getItem ov iv)
theorem zQZ {prog:Program} {w:World} {A:Around} {E:Value -> Shared -> Prop} {s:Shared} {env:Env} {value slice:Expr} {pos:Pos} {T id:String} {Q:Value -> Shared -> Prop}
  (hl:typeLookup (.type T) "__getitem__" = pure (some (.builtin id))) (hs:zSf slice)
  (h:wpAny (model prog w) A (eval value env) (fun o s₁=>wpAny (model prog w) A (eval slice env) (fun i s₂=>s₂.TypeIs o T /\ wpAny (model prog w) A (getItem o i) Q E s₂) E s₁) E s) :
  wpAny (model prog w) A (eval (.Subscript value slice pos) env) Q E s:=by
 refine Subscript_ (zVb h (fun o s₁ h₁=>zVb h₁ (fun i s₂ h₂=>?_) fun _ _ x=>x) fun _ _ x=>x);obtain ⟨hT,h₂⟩:=h₂;unfold subscriptTail;refine zU5 ?_;rw [getitemInPython_of_ne hT.not_modules];refine zU5 (wpAny_specialOf hT hl ?_);have fin:wpAny (model prog w) A (subscripted slice false o i) (fun r s₃=>wpAny (model prog w) A (letTemporaryGo value o r >>= fun _=>pure r) Q E s₃) E s₂:=by
  rw [hs o i];exact wpAny_operating (zVb h₂ (fun r s₃ h₃=>zU5 (wpAny_letTemporaryGo (zU7 h₃))) fun _ _ x=>x)
 first
  | exact zU7 (zU5 fin)
  | exact zU5 (zU7 (zU5 fin))
  | exact zU5 fin
theorem zIo (I:Inv X zB σ H s) (g:zCI H a y o):s.TypeIs (.ref a) "dict" := by
 rcases g with ⟨kvs,k,e,_,_⟩ | ⟨kvs,k,b,e,_,_,_⟩
 ·obtain ⟨_,_,vs,_,dd⟩:=zE3 I.hok e;exact dd.typeIs
 ·obtain ⟨_,_,xs,_,dd⟩:=zEs I.hok e;exact dd.typeIs
def zUP (td ty:TE):TE:=fun σ H Q=>td σ H fun x H1=>ty σ H1 fun y H2=>∃ a v,x = .ref a /\ zCI H2 a y (some v) /\ Q v H2
def zUl (ty td:TE):TE:=fun σ H Q=>ty σ H fun y H1=>td σ H1 fun x H2=>∃ a o,x = .ref a /\ zCI H2 a y o /\ Q (.bl o.isSome) H2
def zPm (ty td:TE):TE:=fun σ H Q=>ty σ H fun y H1=>td σ H1 fun x H2=>∃ a o,x = .ref a /\ zCI H2 a y o /\ Q (.bl (!o.isSome)) H2
def zT1 (td ty tv:TE):TS:=fun D σ H=>tv σ H fun v H1=>td σ H1 fun x H2=>ty σ H2 fun y H3=>∃ a H4,x = .ref a /\ zFC H3 a y v H4 /\ D.nx σ H4
section
variable {X:Cx} {o i e value:Expr} {pos pos' tpos:Pos} {td ty tv:TE}
theorem zQ9 (hu:X.A.units + 1 < cLine) (ho:PE X o td) (hi:PE X i ty) (hs:zSf i):PE X (.Subscript o i pos) (zUP td ty):=by
 intro zB s σ H Q I h;refine zQZ PySem.F.slot_dict_getitem.lookup hs (thn (ho zB s σ H _ I h) fun u s1 ⟨x,H1,I1,rx,q1⟩=>thn (hi zB s1 σ H1 _ I1 q1) fun iv s2 ⟨y,H2,I2,ry,a,v,ex,g,q2⟩=>?_);subst ex;obtain rfl:u = Value.ref a:=rx;exact ⟨zIo I2 g,zMr hu I2 g ry fun w' s3 I3 rw'=>⟨v,H2,I3,rw',q2⟩⟩
theorem zRl (hu:X.A.units + 1 < cLine) (hi:PE X i ty) (ho:PE X o td):PC X .In i o (zUl ty td):=by
 intro zB s σ H Q I h;refine thn (hi zB s σ H _ I h) fun iv s1 ⟨y,H1,I1,ry,q1⟩=>thn (ho zB s1 σ H1 _ I1 q1) fun u s2 ⟨x,H2,I2,rx,a,ov,ex,g,q2⟩=>?_;subst ex;obtain rfl:u = Value.ref a:=rx;exact zUX hu I2 g ry fun s3 I3=>⟨.bl ov.isSome,H2,I3,rfl,q2⟩
theorem zLq (hu:X.A.units + 1 < cLine) (hi:PE X i ty) (ho:PE X o td):PC X .NotIn i o (zPm ty td):=by
 intro zB s σ H Q I h;refine thn (hi zB s σ H _ I h) fun iv s1 ⟨y,H1,I1,ry,q1⟩=>thn (ho zB s1 σ H1 _ I1 q1) fun u s2 ⟨x,H2,I2,rx,a,ov,ex,g,q2⟩=>?_;subst ex;obtain rfl:u = Value.ref a:=rx;exact zP4 hu I2 g ry fun s3 I3=>⟨.bl (!ov.isSome),H2,I3,rfl,q2⟩
theorem zQi (hu:X.A.units + 1 < cLine) (ho:PE X o td) (hi:PE X i ty) (hv:PE X value tv) (hs:swapsWith value (some (.Subscript o i pos')) pos.line X.env = pure false) :
  PS X (.Assign [.Subscript o i pos'] value pos) (zT1 td ty tv):=by
 intro zB s σ H D I h;refine wpAny_Assign_Subscript (thn (hv zB s σ H _ I h) fun r s1 ⟨v,H1,I1,rv,q1⟩=>thn (ho zB s1 σ H1 _ I1 q1) fun u s2 ⟨x,H2,I2,rx,q2⟩=>thn (hi zB s2 σ H2 _ I2 q2) fun iv s3 ⟨y,H3,I3,ry,a,H4,ex,g,q3⟩=>?_) hs;subst ex;obtain rfl:u = Value.ref a:=rx;exact zM7 hu I3 g ry rv fun s4 I4=>⟨σ,H4,I4,q3⟩
end
theorem zNM (h:Heap) (hb:sysModules < h.objs.size):zl P w H (h.push { cls:=.type "dict", data:=.dict #[] }) h.objs.size (.dT []) :=
 ⟨zVr _,beq_eq_false_iff_ne.mpr (Ne.symm (zVQ hb)),[],.nil,_,#[],0,zVF _ rfl,⟨rfl,rfl,rfl⟩,rfl,rfl,List.nodup_nil⟩
def zSA:TE:=fun _ H Q=>∀ p,H p = none -> Q (.ref p) (upd H p (.dT []))
section
variable {X:Cx} {pos:Pos}
theorem zO5:PE X (.Dict [] [] pos) zSA:=fun zB s σ H Q I h=>
 wpAny_Dict_empty ⟨.ref s.heap.objs.size,_,I.laid (a:=s.heap.objs.size) (o:=.dT []) (t':=s.toks) (fun _ _ q=>zU6 _ q) (zVB _) (zNM s.heap I.big),rfl,h _ (I.hok.fresh (zVB _))⟩
end
structure M1 (X:Cx) (o:Expr) (m:Str) (apos:Pos) (e:Expr) (cpos:Pos):Prop where
 base:attributeBase o m X.env (eval o X.env) = eval o X.env
 few:((backTo cpos (starEach [e] X.env)).all (fun x=> !x.1) && (backToKw cpos (keywordEach [] X.env)).all (fun x=>x.1.isSome)
  && decide (([e]:List Expr).length + ([]:List Keyword).length + (if ([]:List Keyword).isEmpty then 0 else 1) < 30)) = true
 line:(apos.endLine == cpos.line) = true
 trees:backTo cpos (starEach [e] X.env) = [(false,eval e X.env)]
structure M2 (X:Cx) (o:Expr) (m:Str) (apos:Pos) (e f:Expr) (cpos:Pos):Prop where
 base:attributeBase o m X.env (eval o X.env) = eval o X.env
 few:((backTo cpos (starEach [e,f] X.env)).all (fun x=> !x.1) && (backToKw cpos (keywordEach [] X.env)).all (fun x=>x.1.isSome)
  && decide (([e,f]:List Expr).length + ([]:List Keyword).length + (if ([]:List Keyword).isEmpty then 0 else 1) < 30)) = true
 line:(apos.endLine == cpos.line) = true
 trees:backTo cpos (starEach [e,f] X.env) = [(false,eval e X.env),(false,eval f X.env)]
def IsD (H:Hp) (a:Addr):Prop:=(∃ kvs,Rd H a (.dK kvs)) \/ ∃ kvs,Rd H a (.dT kvs)
theorem zKV (I:Inv X zB σ H s) (d:IsD H a) :
  s.TypeIs (.ref a) "dict" /\ (∀ b,Value.ref a = .ref b -> ∃ ob,s.heap.get? b = some ob /\ ob.dict = none) /\ (a == sysModules) = false:=by
 rcases d with ⟨kvs,e⟩ | ⟨kvs,e⟩
 ·obtain ⟨_,hd,vs,_,dd⟩:=zE3 I.hok e;refine ⟨dd.typeIs,fun b q=>?_,hd⟩;cases q;obtain ⟨ob,_,_,h1,h2,_⟩:=dd;exact ⟨ob,h1,h2.2.1⟩
 ·obtain ⟨_,hd,xs,_,dd⟩:=zEs I.hok e;refine ⟨dd.typeIs,fun b q=>?_,hd⟩;cases q;obtain ⟨ob,_,_,h1,h2,_⟩:=dd;exact ⟨ob,h1,h2.2.1⟩
section
variable {X:Cx} {zB:List (Addr × Obj)} {σ:St} {H:Hp} {s:Shared} {a:Addr} {y d:V} {u r:Value} {o:Option V} {A:Around} {E:Value -> Shared -> Prop}
theorem zSS (hu:A.units + 1 < cLine) (I:Inv X zB σ H s) (g:zCI H a y o) (ry:za y u) (h:∀ w' s',Inv X zB σ H s' -> za (o.getD .non) w' -> Q w' s') :
  wpAny (model X.prog X.w) A (call (.builtin "dict.get") [.ref a,u]) Q E s:=by
 rcases g with ⟨kvs,k,e,ey,l⟩ | ⟨kvs,k,b,e,ey,eb,l⟩
 ·subst ey;obtain ⟨z,hd,vs,rel,dd⟩:=zE3 I.hok e;refine call_meetsIn PySem.F.slot_dict_get dd.typeIs PySem.F.entry_dict_get (PySem.F.args_dict_get_2 _ _) (meets_dict_get (zi X.prog X.w) a (zE2 ry) hd) ⟨_,dd.mapOf,h _ _ (I.tok _) ?_⟩;rw [l];exact (rel.val k).getD rfl
 ·subst ey;cases (show u = Value.ref b from ry);obtain ⟨z,hd,xs,rel,dd⟩:=zEs I.hok e;refine call_meetsIn PySem.F.slot_dict_get dd.typeIs PySem.F.entry_dict_get (PySem.F.args_dict_get_2 _ _) (meetsH_dict_get (tupleKind (zi X.prog X.w)) a b hd) ⟨tupleKind_room_in1 hu,k,xs,zC4 I.hok eb,dd,h _ _ (I.tok _) ?_⟩;rw [l];exact (rel.val k).getD rfl
theorem zSG (hu:A.units + 1 < cLine) (I:Inv X zB σ H s) (g:zCI H a y o) (ry:za y u) (rd:za d r) (h:∀ w' s',Inv X zB σ H s' -> za (o.getD d) w' -> Q w' s') :
  wpAny (model X.prog X.w) A (call (.builtin "dict.get") [.ref a,u,r]) Q E s:=by
 rcases g with ⟨kvs,k,e,ey,l⟩ | ⟨kvs,k,b,e,ey,eb,l⟩
 ·subst ey;obtain ⟨z,hd,vs,rel,dd⟩:=zE3 I.hok e;refine call_meetsIn PySem.F.slot_dict_get dd.typeIs PySem.F.entry_dict_get (PySem.F.args_dict_get_3 _ _ _) (meets_dict_get_default (zi X.prog X.w) a (zE2 ry) hd r) ⟨_,dd.mapOf,h _ _ (I.tok _) ?_⟩;rw [l];exact (rel.val k).getD rd
 ·subst ey;cases (show u = Value.ref b from ry);obtain ⟨z,hd,xs,rel,dd⟩:=zEs I.hok e;refine call_meetsIn PySem.F.slot_dict_get dd.typeIs PySem.F.entry_dict_get (PySem.F.args_dict_get_3 _ _ _) (meetsH_dict_get_default (tupleKind (zi X.prog X.w)) a b hd r) ⟨tupleKind_room_in1 hu,k,xs,zC4 I.hok eb,dd,h _ _ (I.tok _) ?_⟩;rw [l];exact (rel.val k).getD rd
end
def zRt (td ty:TE):TE:=fun σ H Q=>td σ H fun x H1=>∃ a,x = .ref a /\ IsD H1 a /\ ty σ H1 fun y H2=>∃ o,zCI H2 a y o /\ Q (o.getD .non) H2
def zPB (td ty tx:TE):TE:=fun σ H Q=>td σ H fun x H1=>∃ a,x = .ref a /\ IsD H1 a /\ ty σ H1 fun y H2=>tx σ H2 fun z H3=>∃ o,zCI H3 a y o /\ Q (o.getD z) H3
section
variable {X:Cx} {o e f:Expr} {apos cpos:Pos} {td ty tx:TE}
theorem zOT (hu:X.A.units + 1 < cLine) (ho:PE X o td) (he:PE X e ty) (m:M1 X o "get" apos e cpos):PE X (.Call (.Attribute o "get" apos) [e] [] cpos) (zRt td ty):=by
 intro zB s σ H Q I h;refine wpAny_Call_method m.base m.few m.line PySem.F.plainAttrs_dict PySem.F.slot_dict_get PySem.F.type_dict_get (thn (ho zB s σ H _ I h) fun u s1 ⟨x,H1,I1,rx,a,ex,d,q1⟩=>?_);subst ex;obtain rfl:u = Value.ref a:=rx;obtain ⟨t1,t2,_⟩:=zKV I1 d;refine ⟨t1,t2,?_⟩;rw [m.trees];refine Calls.callWith_builtin rfl (Calls.evalArgs_plain (Calls.spliced_cons (thn (he zB s1 σ H1 _ I1 q1) fun iv s2 ⟨y,H2,I2,ry,ov,g,q2⟩=>Calls.spliced_nil ?_)));exact zSS hu I2 g ry fun w' s3 I3 rw'=>⟨_,H2,I3,rw',q2⟩
theorem zOm (hu:X.A.units + 1 < cLine) (ho:PE X o td) (he:PE X e ty) (hf:PE X f tx) (m:M2 X o "get" apos e f cpos):PE X (.Call (.Attribute o "get" apos) [e,f] [] cpos) (zPB td ty tx):=by
 intro zB s σ H Q I h;refine wpAny_Call_method m.base m.few m.line PySem.F.plainAttrs_dict PySem.F.slot_dict_get PySem.F.type_dict_get (thn (ho zB s σ H _ I h) fun u s1 ⟨x,H1,I1,rx,a,ex,d,q1⟩=>?_);subst ex;obtain rfl:u = Value.ref a:=rx;obtain ⟨t1,t2,_⟩:=zKV I1 d;refine ⟨t1,t2,?_⟩;rw [m.trees];refine Calls.callWith_builtin rfl (Calls.evalArgs_plain (Calls.spliced_cons (thn (he zB s1 σ H1 _ I1 q1) fun iv s2 ⟨y,H2,I2,ry,q2⟩=>
  Calls.spliced_cons (thn (hf zB s2 σ H2 _ I2 q2) fun fv s3 ⟨z,H3,I3,rz,ov,g,q3⟩=>Calls.spliced_nil ?_))))
 exact zSG hu I3 g ry rz fun w' s4 I4 rw'=>⟨_,H3,I4,rw',q3⟩
end
theorem zAK:∀ (names:List (Str × NameKind)) (n:Nat) (acc:List (Str × Addr)),cellsFrom n names acc = cellsFrom n names [] ++ acc
 | [],_,_=>rfl
 | (name,kind) :: r,n,acc=>by
  unfold cellsFrom;split
  ·rw [zAK r (n + 1) ((name,n) :: acc),zAK r (n + 1) [(name,n)],zWB];rfl
  ·exact zAK r n acc
theorem zBw {α:Type} (x:Str):∀ (l r:List (Str × α)),(l ++ r).lookup x = (match l.lookup x with | some c=>some c | none=>r.lookup x)
 | [],r=>rfl
 | (k,v) :: l,r=>by
  rw [List.cons_append,zXA,zXA];cases hb:x == k with
  | true=>rfl
  | false=>exact zBw x l r
theorem zD2:∀ (names:List (Str × NameKind)) (acc:List (Str × Addr)),
  (∀ y ∈ names,y.2 = .free -> ∃ c,env.cells.lookup y.1 = some c) ->
  (∀ x c,acc.lookup x = some c -> env.cells.lookup x = some c) ->
  ∃ cl:List (Str × Addr),(forIn names acc (fun (p:Str × NameKind) (cs:List (Str × Addr))=>(do
    if p.2 == .free then
     let a <- cellOf env p.1;pure (ForInStep.yield ((p.1,a) :: cs))
    else pure (ForInStep.yield cs):Sem (ForInStep (List (Str × Addr)))))) = pure cl /\
   (∀ x c,cl.lookup x = some c -> env.cells.lookup x = some c) /\
   (∀ x,(acc.lookup x).isSome = true -> (cl.lookup x).isSome = true) /\ ∀ y ∈ names,y.2 = .free -> (cl.lookup y.1).isSome = true
 | [],acc,_,ha=>⟨acc,by rw [List.forIn_nil],ha,fun _ h=>h,fun _ h=>nomatch h⟩
 | (n,k) :: r,acc,hf,ha=>by
  rw [List.forIn_cons];by_cases hk:k = .free
  ·subst hk;obtain ⟨c,hc⟩:=hf (n,.free) zVJ rfl;have hco:cellOf env n = pure c:=by unfold cellOf; rw [hc]
   obtain ⟨cl,e,h1,h2,h3⟩:=zD2 r ((n,c) :: acc) (fun y hy=>hf y (zVI _ hy)) (fun x d hx=>by
    rw [zXA] at hx;cases hb:x == n with
    | true=>rw [hb] at hx; cases hx; rw [beq_iff_eq.mp hb]; exact hc
    | false=>rw [hb] at hx; exact ha x d hx)
   refine ⟨cl,?_,h1,fun x hx=>h2 x ?_,fun y hy hk=>?_⟩
   ·rw [<- e];simp only [beq_self_eq_true,if_true,hco];rfl
   ·rw [zXA];cases hb:x == n with
    | true=>rfl
    | false=>exact hx
   ·rcases zVH.mp hy with z | z
    ·subst z;exact h2 n (by rw [zXA]; simp)
    ·exact h3 y z hk
  ·obtain ⟨cl,e,h1,h2,h3⟩:=zD2 r acc (fun y hy=>hf y (zVI _ hy)) ha;refine ⟨cl,?_,h1,h2,fun y hy hk'=>?_⟩
   ·rw [<- e];have:(k == NameKind.free) = false:=by simpa using hk
    simp only [this,zV6,zXW];rfl
   ·rcases zVH.mp hy with z | z
    ·subst z; exact absurd hk' hk
    ·exact h3 y z hk'
theorem zGf (hf:∀ y ∈ scope.names,y.2 = .free -> ∃ c,env.cells.lookup y.1 = some c) :
  ∃ cl,closureFor scope env = pure cl /\ (∀ x c,cl.lookup x = some c -> env.cells.lookup x = some c) /\ ∀ y ∈ scope.names,y.2 = .free -> (cl.lookup y.1).isSome = true:=by
 obtain ⟨cl,e,h1,_,h3⟩:=zD2 (env:=env) scope.names [] hf (fun x c h=>nomatch h);refine ⟨cl,?_,h1,h3⟩;unfold closureFor;rw [show (pure cl:Sem _) = pure cl >>= pure from rfl,<- e]
theorem zB4
  (hQ:Q (newEnv scope s.heap.objs.size globals (cellsFrom (s.heap.objs.size + 1) scope.names cl) qual none .none (some env) builtinsNs)
   { s with heap:=pushCells (s.heap.push { cls:=.type "dict", data:=.dict #[] }) scope.names }) :
  wpAny M A (newFunctionEnv scope globals cl [] qual none .none (some env)) Q E s:=by
 simp only [newFunctionEnv,Option.isSome_some,if_true];refine zU5 (wpAny_alloc ?_);refine zU5 (wpAny_layCells _ (fun name kind cells=>by cases hkc:kind == NameKind.cell <;> simp [hkc]) _ _ _ _ ?_);rw [show ({ s with heap:=s.heap.push { cls:=.type "dict", data:=.dict #[] } }:Shared).heap.objs.size = s.heap.objs.size + 1 from zVl ..];exact zU5 (zU7 (zU7 hQ))
def zG (X:Cx) (zB:List (Addr × Obj)) (scope:Scope) (cl:List (Str × Addr)) (s:Shared) (H:Hp) (fp:List Addr):Cx where
 prog:=X.prog
 w:=X.w
 K:=X.K
 mg:=X.mg
 base:=X.base
 A:=X.A
 N:=X.N
 s₀:=s
 H₀:=H
 env:={ scope:=relabel scope X.env,locals:=s.heap.objs.size + 1,globals:=X.env.globals,cells:=cellsFrom (s.heap.objs.size + 1 + 1) scope.names cl,qual:=X.env.qual,func:=none,code:=X.env.code,frame:=X.env.frame,builtins:=X.env.builtins }
 outer:=X.stack
 stack:=X.stack
 ex:=fp
 fn:=fun x=>decide (scope.names.lookup x = some .cell)
 calm:=X.calm
 pn:=X.pn ++ zB
 xe:=fun _ _=>False
theorem zAi {scope:Scope} {env:Env} (x:Str):∀ {names:List (Str × NameKind)} {k:NameKind},
  (names.map fun (n,k)=>if (k == NameKind.free && env.scope.kind == .function && env.kindOf n == some .cell) then (n,NameKind.cell) else (n,k)).lookup x = some k ->
  names.lookup x = some k \/ (names.lookup x = some .free /\ k = .cell)
 | [],_,h=>by simp at h
 | (n,k') :: r,k,h=>by
  rw [zVO] at h;by_cases hc:(k' == NameKind.free && env.scope.kind == .function && env.kindOf n == some .cell) = true
  ·simp only [hc,if_true] at h;rw [zXA] at h ⊢;cases hb:x == n with
   | true=>
    rw [hb] at h;simp only [zVf,beq_iff_eq] at hc;exact .inr ⟨by rw [hc.1.1],(zV5 h).symm⟩
   | false=>rw [hb] at h; exact zAi (scope:=scope) x h
  ·simp only [hc,zV6,zXW] at h;rw [zXA] at h ⊢;cases hb:x == n with
   | true=>rw [hb] at h; exact .inl h
   | false=>rw [hb] at h; exact zAi (scope:=scope) x h
theorem zFm:∀ (names:List (Str × NameKind)) (n:Nat) (acc:List (Str × Addr)) (x:Str) (c:Addr),(x,c) ∈ cellsFrom n names acc -> (x,c) ∉ acc -> (x,NameKind.cell) ∈ names
 | [],_,_,_,_,h,h'=>absurd h h'
 | (name,kind) :: r,n,acc,x,c,h,h'=>by
  unfold cellsFrom at h;split at h
  ·rename_i hk;by_cases e:(x,c) = (name,n)
   ·cases e;rw [beq_iff_eq] at hk;subst hk;exact zVJ
   ·exact zVI _ (zFm r _ _ x c h fun z=>(zVH.mp z).elim e h')
  ·exact zVI _ (zFm r _ _ x c h h')
structure CompScope (X:Cx) (scope:Scope):Prop where
 kind:scope.kind = .function
 names:∀ y ∈ scope.names,y.2 = .local -> scope.names.lookup y.1 = some .local
 cells:∀ y ∈ scope.names,y.2 = .cell -> scope.names.lookup y.1 = some .cell
 free:∀ y ∈ scope.names,y.2 = .free -> X.env.kindOf y.1 = some .cell \/ X.env.kindOf y.1 = some .free
section
variable {X:Cx} {zB:List (Addr × Obj)} {σ σc:St} {H:Hp} {s s4:Shared} {scope:Scope} {cl:List (Str × Addr)} {fp:List Addr}
theorem zEL (S:CompScope X scope) (I:Inv X zB σ H s) (hf:∀ b ∈ fp,zBt X zB H b) (ho:∀ b:Nat,b ∈ fp -> b < s.heap.objs.size)
  (c1:∀ x c,cl.lookup x = some c -> X.env.cells.lookup x = some c) (c2:∀ y ∈ scope.names,y.2 = .free -> (cl.lookup y.1).isSome = true)
  (hl:σc.length = σ.length) (hσ:∀ (i:Nat) x v,X.N[i]? = some x -> σc[i]? = some (some v) -> (relabel scope X.env).names.lookup x ≠ none -> scope.names.lookup x = some .free /\ σ[i]? = some (some v))
  (lo:Obj) (hlo:∀ v,lo.data ≠ .cell v) (hfr:lo.isFreed = false)
  (h4:s4 = { s with heap:=pushCells ((s.heap.push lo).push { cls:=.type "dict", data:=.dict #[] }) scope.names }) :
  Inv (zG X zB scope cl s H fp) [(s.heap.objs.size,lo)] σc H s4:=by
 subst h4;have sz1:(s.heap.push lo).objs.size = s.heap.objs.size + 1:=zVl ..;have sz2:((s.heap.push lo).push { cls:=.type "dict", data:=.dict #[] }).objs.size = s.heap.objs.size + 1 + 1:=by rw [zVl,sz1]
 have hk:∀ b o,s.heap.get? b = some o -> (pushCells ((s.heap.push lo).push { cls:=.type "dict", data:=.dict #[] }) scope.names).get? b = some o:=fun b o e=>
  pushCells_keeps _ _ b o (zU6 _ (zU6 _ e))
 have ok:=cellsFrom_ok scope.names ((s.heap.push lo).push { cls:=.type "dict", data:=.dict #[] }) (s.heap.objs.size + 1 + 1) [] ⟨fun _ _ hm=>(nomatch hm),List.Pairwise.nil⟩ (by rw [sz2]; exact zVB _);rw [sz2] at ok;have look:∀ x c,(cellsFrom (s.heap.objs.size + 1 + 1) scope.names cl).lookup x = some c -> ((cellsFrom (s.heap.objs.size + 1 + 1) scope.names []).lookup x = some c) \/ ((cellsFrom (s.heap.objs.size + 1 + 1) scope.names []).lookup x = none /\ X.env.cells.lookup x = some c):=fun x c e=>by
  rw [zAK,zBw] at e;cases q:(cellsFrom (s.heap.objs.size + 1 + 1) scope.names []).lookup x with
  | some d=>rw [q] at e; exact .inl e
  | none=>rw [q] at e; exact .inr ⟨rfl,c1 x c e⟩
 have old:∀ x (c:Nat),X.env.cells.lookup x = some c -> c < s.heap.objs.size:=fun x c e=>let ⟨_,q⟩:=I.cell x c e; q.lt;have new:∀ x (c:Nat),(cellsFrom (s.heap.objs.size + 1 + 1) scope.names []).lookup x = some c -> s.heap.objs.size + 1 + 1 <= c:=fun x c e=>(ok.empty x c (zV7 e)).2;have own:∀ x,scope.names.lookup x = some .cell -> ∃ c,(cellsFrom (s.heap.objs.size + 1 + 1) scope.names []).lookup x = some c:=fun x e=>zFk e;have cne:∀ x (c:Nat),(cellsFrom (s.heap.objs.size + 1 + 1) scope.names cl).lookup x = some c -> c < s.heap.objs.size \/ s.heap.objs.size + 1 + 1 <= c:=fun x c e=>by
  rcases look x c e with q | ⟨_,q⟩
  ·exact .inr (new x c q)
  ·exact .inl (old x c q)
 refine ⟨⟨I.ok.mod,S.kind,I.ok.glob,I.ok.blt,zWn _,fun x y c h1 h2=>?_,fun x hx=>?_,fun x c hx h=>?_,I.ok.hd,I.ok.frames,.inl rfl,fun b hb=>⟨?_,fun x c e z=>?_⟩,I.bs,zVW I.ok.bsz I.sz,fun b o e hb=>?_,fun b hb z=>?_,I.stack,I.stkFree⟩,
  rfl,I.bare,Un.kept hk,⟨fun _=>none,?_,fun i x v h1 h2 h3=>?_⟩,fun x c e=>?_,I.hok.fresh (zWn _),fun x c e=>?_,fun p hp=>?_,I.hok.kept hk,hl.trans I.len⟩
 ·rcases look x c h1 with a | ⟨_,a⟩ <;> rcases look y c h2 with b | ⟨_,b⟩
  ·exact name_of_addr ok.apart (zV7 a) (zV7 b)
  ·exact absurd (Nat.lt_of_le_of_lt (new x c a) (old y c b)) (by omega)
  ·exact absurd (Nat.lt_of_le_of_lt (new y c b) (old x c a)) (by omega)
  ·exact I.ok.inj x y c a b
 ·have hx':(relabel scope X.env).names.lookup x = some .cell \/ (relabel scope X.env).names.lookup x = some .free:=hx;have go:scope.names.lookup x = some .cell \/ scope.names.lookup x = some .free:=by
   rcases hx' with q | q
   ·rcases zAi (scope:=scope) x q with z | z
    ·exact .inl z
    ·exact .inr z.1
   ·rcases zAi (scope:=scope) x q with z | z
    ·exact .inr z
    ·exact .inr z.1
  show ∃ c,(cellsFrom (s.heap.objs.size + 1 + 1) scope.names cl).lookup x = some c;rw [zAK,zBw];rcases go with q | q
  ·obtain ⟨c,e⟩:=own x q;exact ⟨c,by rw [e]⟩
  ·cases e:(cellsFrom (s.heap.objs.size + 1 + 1) scope.names []).lookup x with
   | some d=>exact ⟨d,rfl⟩
   | none=>exact Option.isSome_iff_exists.mp (c2 (x,.free) (zV7 q) rfl)
 ·obtain ⟨d,e⟩:=own x (zV1 hx);have h':(cellsFrom (s.heap.objs.size + 1 + 1) scope.names cl).lookup x = some c:=h;rw [zAK,zBw,e] at h';cases h';exact zVW (zVW (zWn _) (zWn _)) (new x _ e)
 ·exact zVQ (zVu (ho b hb))
 ·rcases look x c e with q | ⟨_,q⟩
  ·have a:=new x c q;rw [z] at a;exact absurd (Nat.lt_of_le_of_lt a (ho b hb)) (by omega)
  ·exact (hf b hb).2.2.2.2.1 x c q z
 ·rcases (hf b hb).2.2.2.1 with z | z
  ·exact I.ok.noex b o e z
  ·exact absurd (zVU (zVG e) (zVW I.ok.bsz z)) (zVn _)
 ·rcases zVH.mp (I.stkSub b z) with q | q
  ·exact (hf b hb).2.1 q
  ·exact (hf b hb).2.2.1 q
 ·have q:((s.heap.push lo).push { cls:=.type "dict", data:=.dict #[] }).Ns (s.heap.push lo).objs.size (fun _=>none):=Heap.Ns.new ..;rw [sz1] at q;exact q.keeps (pushCells_keeps _ _)
 ·have h3':(relabel scope X.env).names.lookup x ≠ none:=by
   rcases h3 with z | z | z <;> (intro q; have z':(relabel scope X.env).names.lookup x = _:=z; rw [q] at z'; cases z')
  obtain ⟨fr,hv⟩:=hσ i x v h1 h2 h3';obtain ⟨m,hn,hlk⟩:=I.loc;have kx:=S.free (x,.free) (zV7 fr) rfl;obtain ⟨u,rv,lk⟩:=hlk i x v h1 hv (by rcases kx with z | z; exact .inr (.inl z); exact .inr (.inr z));refine ⟨u,rv,?_⟩;rcases lk with ⟨z,_⟩ | ⟨_,c,e,ic⟩
  ·rcases kx with k | k <;> (rw [k] at z; cases z)
  ·have kind:(relabel scope X.env).names.lookup x = some .cell \/ (relabel scope X.env).names.lookup x = some .free:=by
    cases q:(relabel scope X.env).names.lookup x with
    | none=>exact absurd q h3'
    | some k=>
     rcases zAi (scope:=scope) x q with z | z
     ·rw [fr] at z; cases z; exact .inr rfl
     ·rw [z.2]; exact .inl rfl
   refine .inr ⟨kind,c,?_,ic.keeps hk⟩;show (cellsFrom (s.heap.objs.size + 1 + 1) scope.names cl).lookup x = some c;rw [zAK,zBw];obtain ⟨d,hd⟩:=Option.isSome_iff_exists.mp (c2 (x,.free) (zV7 fr) rfl);have:=c1 x d hd;rw [e] at this; cases this;have nn:(cellsFrom (s.heap.objs.size + 1 + 1) scope.names []).lookup x = none:=by
    cases q:(cellsFrom (s.heap.objs.size + 1 + 1) scope.names []).lookup x with
    | none=>rfl
    | some d'=>
     have z:=S.cells (x,.cell) (zFm scope.names _ [] x d' (zV7 q) fun z=>nomatch z) rfl;rw [fr] at z; cases z
   rw [nn]; exact hd
 ·rcases look x c e with q | ⟨_,q⟩
  ·exact ⟨none,(ok.empty x c (zV7 q)).1⟩
  ·obtain ⟨v,z⟩:=I.cell x c q;exact ⟨v,z.keeps hk⟩
 ·rcases look x c e with q | ⟨_,q⟩
  ·exact I.hok.fresh (by have:=new x c q; omega)
  ·exact I.freeC x c q
 ·have hp':p ∈ X.pn ++ zB \/ p = (s.heap.objs.size,lo):=by
   rcases zVV.mp hp with z | z
   ·exact .inl z
   ·exact .inr (by simpa using z)
  rcases hp' with z | z
  ·obtain ⟨e,n,ne,nf,d⟩:=I.pin p z;have lt:(p.1:Nat) < s.heap.objs.size:=zVG e;refine ⟨hk _ _ e,n,?_,fun q=>?_,d⟩
   ·exact zVQ (zVu lt)
   ·rcases zVH.mp (I.stkSub _ q) with r | r
    ·exact ne r
    ·exact nf r
  ·subst z;refine ⟨pushCells_keeps _ _ _ _ (zU6 _ (zVF _ hfr)),I.hok.fresh (zVB _),?_,fun q=>?_,hlo⟩
   ·show s.heap.objs.size ≠ s.heap.objs.size + 1;omega
   ·rcases zVH.mp (I.stkSub _ q) with r | r
    ·exact absurd I.lt (by rw [<- r]; exact zVn _)
    ·exact I.nofs (zVB _) r
end
def clr (own:List Nat) (σ:St):St:=own.foldl (fun σ i=>σ.set i none) σ
theorem zAv:∀ (own:List Nat) (σ:St),(clr own σ).length = σ.length
 | [],_=>rfl
 | i :: r,σ=>by
  show (clr r (σ.set i none)).length = _;rw [zAv r,List.length_set]
theorem zCD:∀ (own:List Nat) (σ:St) (j:Nat) (v:V),(clr own σ)[j]? = some (some v) -> σ[j]? = some (some v) /\ j ∉ own
 | [],_,_,_,h=>⟨h,fun z=>nomatch z⟩
 | i :: r,σ,j,v,h=>by
  have h':(clr r (σ.set i none))[j]? = some (some v):=h;obtain ⟨a,b⟩:=zCD r _ j v h';rw [zWe] at a;split at a
  ·split at a <;> cases a
  ·rename_i hne;exact ⟨a,fun z=>(zVH.mp z).elim (fun e=>hne e.symm) b⟩
def Ext (a b:St):Prop:=b.length = a.length /\ ∀ (i:Nat) v,a[i]? = some (some v) -> b[i]? = some (some v)
theorem Ext.refl (a:St):Ext a a:=⟨rfl,fun _ _ h=>h⟩
theorem Ext.set (e:Ext (clr own σ) a) (h:i ∈ own):Ext (clr own σ) (a.set i (some v)):=by
 refine ⟨by rw [List.length_set]; exact e.1,fun j u q=>?_⟩;rw [zWe];split
 ·rename_i z;exact absurd (z ▸ h) (zCD own σ j u q).2
 ·exact e.2 j u q
def zE7 (X:Cx) (ifs:List Expr) (t:TT):Prop :=
 ∀ (zB:List (Addr × Obj)) (s:Shared) (σ:St) (H:Hp) (Q:Bool -> Hp -> Prop),Inv X zB σ H s -> t σ H Q ->
  wpAny (model X.prog X.w) X.A (forIn ifs true fun c r=>if r = true then do let ok <- isTrue c X.env (eval c X.env); pure (ForInStep.yield ok) else pure (ForInStep.yield r)) (TP X zB σ Q) X.xe s
def zUv:TT:=fun _ H Q=>Q true H
theorem zOk:zE7 X [] zUv:=fun _ _ _ H _ I h=>wpAny_tests_nil ⟨H,I,h⟩
theorem zOV (h:PT X c t):zE7 X [c] t:=fun zB s σ H Q I hq=>wpAny_tests_one (h zB s σ H Q I hq)
section
variable {prog:Program} {w:World} {A:Around} {E:Value -> Shared -> Prop} {R:Result -> Shared -> Prop} {s:Shared}
theorem zIJ (I:Nat -> Shared -> Prop)
  (turn:∀ n s,I n s -> wpAny (model prog w) A (pyNext it) (fun r s₁=>match r with
   | none=>R (.ok .next) s₁
   | some v=>wpAny (model prog w) A (letOwnedTupleGo target it v) (fun _ s₁'=>wpAny (model prog w) A (assign target env v) (fun _ s₂=>
     wpAny (model prog w) A (forIn ifs true fun c r=>if r = true then do let ok <- isTrue c env (eval c env); pure (ForInStep.yield ok) else pure (ForInStep.yield r)) (fun ok s₃=>
      if ok = true then wpAny (model prog w) A (eval elt env) (fun x s₄=>
       wpAny (model prog w) A (call (.builtin "list.append") [acc,x]) (fun _ s₅=>∃ m,m < n /\ I m s₅) (fun _ _=>False) s₄) (fun _ _=>False) s₃
      else ∃ m,m < n /\ I m s₃) (fun _ _=>False) s₂) (fun _ _=>False) s₁') (fun _ _=>False) s₁) (fun _ _=>False) s)
  (n:Nat) (h:I n s) :
  codeAny (model prog w) A (.compLoop (.ListComp elt [⟨target,iter,ifs,0⟩] scope pos) 0 it acc env) R s:=by
 refine codeAny_loop rfl I (fun n s hI=>?_) n h;show wpAny _ A ((compTurn (.ListComp elt [⟨target,iter,ifs,0⟩] scope pos) 0 it acc env).onRaise (fun x=>do noteFrame x env; theTreesLotGoes x)) _ _ s;refine wpAny_noted ?_;rw [compTurn_list];refine zU5 (zV3 (zU5 (zVb (turn n s hI) (fun r s₁ h₁=>?_) fun _ _ h'=>h'.elim)));cases r with
 | none=>exact zU7 h₁
 | some v=>
  refine zU5 (zVb h₁ (fun _ s₁' h₁'=>?_) fun _ _ h'=>h'.elim);refine zU5 (zVb h₁' (fun _ s₂ h₂=>zU5 (zVb h₂ (fun ok s₃ h₃=>?_) fun _ _ h'=>h'.elim)) fun _ _ h'=>h'.elim);cases ok with
  | false=>exact zU7 ⟨rfl,h₃⟩
  | true=>
   exact zU5 (zU5 (zVb h₃ (fun x s₄ h₄=>zU5 (zVb h₄ (fun _ s₅ h₅=>zU7 (zU7 ⟨rfl,h₅⟩)) fun _ _ h'=>h'.elim)) fun _ _ h'=>h'.elim))
end
def zNz (own:List Nat) (wi:TI) (g:TG) (tc:TT) (te:TE):TE:=fun σ H Q=>wi σ H fun J H1=>∃ W:Nat -> Nat -> List V -> Hp -> Prop,(∃ m,W 0 m [] H1) /\ ∀ i m ys H,W i m ys H ->
 (J.stop i H /\ ys.length <= sizeLine /\ ∀ D,H D = none -> Q (.ref D) (upd H D (.lst ys))) \/
 (J.go i H /\ ∀ x H',J.yld i H x H' -> g x (clr own σ) H' fun σ2 H2=>Ext (clr own σ) σ2 /\ tc σ2 H2 fun b H3=>
  if b = true then te σ2 H3 fun v H4=>ys.length < sizeLine /\ ∃ m',m' < m /\ W (i + 1) m' (ys ++ [v]) H4 else ∃ m',m' < m /\ W (i + 1) m' ys H3)
abbrev zY (its:List Value) (n:Nat):Obj:={ cls:=.type "list", data:=.seq its.toArray n }
section
variable {X:Cx} {zB:List (Addr × Obj)} {σ:St} {H:Hp} {s:Shared}
theorem Inv.repin (I:Inv X (pl ++ [(D,o)]) σ H s) (hpl:∀ p ∈ X.pn ++ pl,p.1 ≠ D) (hs:Heap.SameBut D s.heap h') (hD:X.s₀.heap.objs.size <= D) (hc:∀ x c,X.env.cells.lookup x = some c -> c ≠ D)
  (e:h'.get? D = some o') (hn:∀ v,o'.data ≠ .cell v):Inv X (pl ++ [(D,o')]) σ H { s with heap:=h' }:=by
 obtain ⟨e0,n0,ne0,nf0,d0⟩:=I.pin (D,o) (by simp);have I1:Inv X pl σ H s:=I.pins_of fun p hp=>I.pin p (by simp [hp]);have I2:Inv X pl σ H { s with heap:=h' }:=I1.turned (t':=s.toks) (it:=D) (fun b u hb q=>hs.extBut b u hb q) n0 ne0 (.inr hD) hc hpl;exact I2.pins_of fun p hp=>by
  rcases zVV.mp hp with z | z
  ·exact I2.pin p (zVP _ z)
  ·have:p = (D,o'):=by simpa using z
   subst this;exact ⟨e,n0,ne0,nf0,hn⟩
end
section
variable {X:Cx} {zB:List (Addr × Obj)} {σ:St} {H:Hp} {s:Shared} {scope:Scope} {cl:List (Str × Addr)} {fp:List Addr} {it:Addr} {tn:Nat -> Heap -> Prop} {J:It} {tg elt iter:Expr} {ifs:List Expr} {pos:Pos}
 {own:List Nat} {g:TG} {tc:TT} {te:TE} {E:Value -> Shared -> Prop}
structure CompIn (X:Cx) (scope:Scope) (own:List Nat):Prop where
 sc:CompScope X scope
 nm:∀ (i:Nat) x,X.N[i]? = some x -> i ∈ own \/ scope.names.lookup x = none \/ scope.names.lookup x = some .free
theorem zBf (x:Str) (h:scope.names.lookup x = none):(relabel scope env).names.lookup x = none:=by
 cases q:(relabel scope env).names.lookup x with
 | none=>rfl
 | some k=>
  rcases zAi (scope:=scope) x q with z | z
  ·rw [h] at z; cases z
  ·rw [h] at z; cases z.1
theorem zFU (C:CompIn X scope own) (hcalm:X.calm = true) (I:Inv X zB σ H s) (T:Turn X.prog X.w X.K tg J fp it tn) (st:tn 0 s.heap) (hf:∀ b ∈ fp,zBt X zB H b)
  (c1:∀ x c,cl.lookup x = some c -> X.env.cells.lookup x = some c) (c2:∀ y ∈ scope.names,y.2 = .free -> (cl.lookup y.1).isSome = true)
  (hg:PG (zG X zB scope cl s H fp) tg g) (hi:zE7 (zG X zB scope cl s H fp) ifs tc) (he:PE (zG X zB scope cl s H fp) elt te)
  {RR:Value -> Addr -> Result -> Shared -> Prop} {QQ:List V -> Hp -> Prop} {W:Nat -> Nat -> List V -> Hp -> Prop} {m0:Nat} (w0:W 0 m0 [] H)
  (turn:∀ i m ys H,W i m ys H -> (J.stop i H /\ ys.length <= sizeLine /\ QQ ys H) \/
   (J.go i H /\ ∀ x H',J.yld i H x H' -> g x (clr own σ) H' fun σ2 H2=>Ext (clr own σ) σ2 /\ tc σ2 H2 fun b H3=>
    if b = true then te σ2 H3 fun v H4=>ys.length < sizeLine /\ ∃ m',m' < m /\ W (i + 1) m' (ys ++ [v]) H4 else ∃ m',m' < m /\ W (i + 1) m' ys H3))
  (fin:∀ σc H' s' its n ys,Inv (zG X zB scope cl s H fp) [(s.heap.objs.size,zY its n)] σc H' s' -> zW ys its -> ys.length <= sizeLine -> QQ ys H' -> RR (.ref s.heap.objs.size) (s.heap.objs.size + 1) (.ok .next) s') :
  wpAny (model X.prog X.w) X.A (newList []) (fun acc s₃=>wpAny (model X.prog X.w) X.A (newFunctionEnv scope X.env.globals cl [] X.env.qual none .none (some X.env)) (fun cenv s₄=>
   codeAny (model X.prog X.w) X.A (.compStart (.ListComp elt [⟨tg,iter,ifs,0⟩] scope pos) 0 (.ref it) acc { cenv with scope:=relabel scope X.env }) (RR acc cenv.locals) s₄) E s₃) E s:=by
 have ob:∀ b:Nat,b ∈ fp -> b < s.heap.objs.size:=fun b hb=>let ⟨_,e,_⟩:=T.obj 0 _ st b hb; zVG e;refine zVY (zB4 ?_);have sz1:(s.heap.push (zY [] 0)).objs.size = s.heap.objs.size + 1:=zVl ..;have I4:=zEL (X:=X) (zB:=zB) (σ:=σ) (σc:=clr own σ) (H:=H) (s:=s) (scope:=scope) (cl:=cl) (fp:=fp) C.sc I hf ob c1 c2 (zAv own σ) (fun i x v h1 h2 h3=>by
  obtain ⟨a,b⟩:=zCD own σ i v h2;rcases C.nm i x h1 with z | z | z
  ·exact absurd z b
  ·exact absurd (zBf x z) h3
  ·exact ⟨z,a⟩) (zY [] 0) (by intro v z; cases z) rfl rfl
 have st4:tn 0 (pushCells ((s.heap.push (zY [] 0)).push { cls:=.type "dict", data:=.dict #[] }) scope.names):=T.keep 0 _ _ st fun b _ o e=>pushCells_keeps _ _ b o (zU6 _ (zU6 _ e));dsimp only;unfold newEnv;dsimp only;rw [sz1];have hDfp:s.heap.objs.size ∉ fp:=fun z=>zVn _ (ob _ z);have hcD:∀ x c,(zG X zB scope cl s H fp).env.cells.lookup x = some c -> c ≠ s.heap.objs.size:=fun x c e z=>by
  obtain ⟨v,o,ho,hd⟩:=I4.cell x c e;obtain ⟨q,_⟩:=I4.pin (s.heap.objs.size,zY [] 0) (by simp);rw [z,q] at ho;cases ho; cases hd
 have fpk:∀ {H':Hp} {pl:List (Addr × Obj)},(∀ b ∈ fp,H' b = none) -> (∀ p ∈ pl,p.1 = s.heap.objs.size) -> ∀ b ∈ fp,zBt (zG X zB scope cl s H fp) pl H' b:=fun {H' pl} hn hp b hb=>
  ⟨hn b hb,(I4.ok.exf b hb).1,I4.ok.exfs b hb,.inl hb,(I4.ok.exf b hb).2,fun p hq=>by
   rcases zVV.mp hq with z | z
   ·exact (hf b hb).2.2.2.2.2 p z
   ·intro e;have e2:=hp p z;rw [e] at e2;exact hDfp (e2 ▸ hb)⟩
 have loop:codeAny (model X.prog X.w) X.A (.compLoop (.ListComp elt [⟨tg,iter,ifs,0⟩] scope pos) 0 (.ref it) (.ref s.heap.objs.size) (zG X zB scope cl s H fp).env) (RR (.ref s.heap.objs.size) (s.heap.objs.size + 1))
   { s with heap:=pushCells ((s.heap.push (zY [] 0)).push { cls:=.type "dict", data:=.dict #[] }) scope.names }:=by
  refine zIJ (fun n s'=>∃ i H' ys its k,Inv (zG X zB scope cl s H fp) [(s.heap.objs.size,zY its k)] (clr own σ) H' s' /\ zW ys its /\ tn i s'.heap /\ (∀ b ∈ fp,H' b = none) /\ W i n ys H') ?_ m0
   ⟨0,H,[],[],0,I4,.nil,st4,fun b hb=>(hf b hb).1,w0⟩
  rintro n s5 ⟨i,H5,ys,its,k,I5,r5,st5,f5,w5⟩;have pinD:∀ p ∈ [(s.heap.objs.size,zY its k)],p.1 = s.heap.objs.size:=fun p hp=>by
   have:p = (s.heap.objs.size,zY its k):=by simpa using hp
   rw [this]
  rcases turn i n ys H5 w5 with ⟨stop,hz,qq⟩ | ⟨go,step⟩
  ·refine thn (T.done (zG X zB scope cl s H fp) rfl rfl rfl hcalm i _ s5 _ H5 _ I5 (fpk f5 pinD) st5 stop) fun r s6 ⟨hr,I6⟩=>?_;subst hr;exact fin _ H5 s6 its k ys I6 r5 hz qq
  ·refine thn (T.item (zG X zB scope cl s H fp) rfl rfl rfl hcalm i _ s5 _ H5 _ I5 (fpk f5 pinD) st5 go) fun r s6 ⟨u,hr,h6⟩=>?_;subst hr;refine thn h6 fun _ s7 ⟨x,H7,I7,r7,y7,st7,f7⟩=>?_;have I7':=I7.pinned (fpk f7 pinD) (T.obj _ _ st7);refine thn (hg _ s7 _ H7 x u _ I7' r7 (step x H7 y7)) fun _ s8 ⟨σ8,H8,I8,x8,q8⟩=>?_;refine thn (hi _ s8 σ8 H8 _ I8 q8) fun ok s9 ⟨H9,I9,q9⟩=>?_;have back:∀ {s':Shared} {Hx:Hp},Inv (zG X zB scope cl s H fp) ([(s.heap.objs.size,zY its k)] ++ zCH fp s7.heap) σ8 Hx s' -> tn (i + 1) s'.heap /\ ∀ b ∈ fp,Hx b = none:=fun {s' Hx} Ix=>
    ⟨T.keep _ _ _ st7 fun b hb o e=>(Ix.pin (b,o) (zVP _ (zVP _ (zt hb e)))).1,fun b hb=>by
     obtain ⟨o,e,d⟩:=T.obj _ _ st7 b hb;exact (Ix.pin (b,o) (zVP _ (zVP _ (zt hb e)))).2.1⟩
   cases ok with
   | false=>
    obtain ⟨m',hm,w'⟩:=q9;obtain ⟨b1,b2⟩:=back I9;exact ⟨m',hm,i + 1,H9,ys,its,k,(I9.weak (by rw [x8.1]) x8.2).unpinned,r5,b1,b2,w'⟩
   | true=>
    refine thn (he _ s9 σ8 H9 _ I9 q9) fun v s10 ⟨y,H10,I10,r10,hlt,m',hm,w'⟩=>?_;obtain ⟨b1,b2⟩:=back I10;have J10:=(I10.weak (by rw [x8.1]) x8.2).unpinned;obtain ⟨e10,n10,ne10,nf10,d10⟩:=J10.pin (s.heap.objs.size,zY its k) (by simp);have hlen:its.toArray.size <= sizeLine:=by
     have:=r5.length;rw [zVD,<- this];exact Nat.le_of_lt hlt
    refine wpAny_list_append_plain (hsz:=hlen) (show s10.heap.PlainList s.heap.objs.size its.toArray from ⟨k,e10⟩) fun h' hl' hs'=>?_;obtain ⟨k',e'⟩:=hl';have e'':h'.get? s.heap.objs.size = some (zY (its ++ [v]) k'):=by rw [e']; simp [zY]
    refine ⟨m',hm,i + 1,H10,ys ++ [y],its ++ [v],k',?_,r5.append (.cons r10 .nil),T.keep _ _ _ b1 fun b hb o e=>hs'.extBut b o (fun z=>hDfp (z ▸ hb)) e,b2,w'⟩;refine Inv.repin (pl:=[]) J10 (fun p hp=>?_) hs' (zVB _) hcD e'' (by intro v z; cases z);rw [zVp] at hp;have hp':p ∈ X.pn ++ zB:=hp;exact zVQ (zVG (I.pin p hp').1)
 exact codeAny_compStart_list loop (T.self _ 0 _ _ _ st4 loop)
end
section
variable {X:Cx} {zB:List (Addr × Obj)} {σ:St} {H:Hp} {s:Shared} {scope:Scope} {cl:List (Str × Addr)} {fp:List Addr}
theorem zFW (I:Inv X zB σ H s) (hf:∀ b ∈ fp,zBt X zB H b)
  (Ic:Inv (zG X zB scope cl s H fp) [(s.heap.objs.size,zY its n)] σc H' s') (rv:zW ys its) (hz:ys.length <= sizeLine) (hs:Heap.SameBut (s.heap.objs.size + 1) s'.heap h') :
  Inv X zB σ (upd H' s.heap.objs.size (.lst ys)) { s' with heap:=h' } /\ H' s.heap.objs.size = none:=by
 obtain ⟨eD,nD,_⟩:=Ic.pin (s.heap.objs.size,zY its n) (by simp);have nC:H' (s.heap.objs.size + 1) = none:=Ic.free;have eD':h'.get? s.heap.objs.size = some (zY its n):=hs.extBut _ _ (zVQ (zV2 _)) eD;have lt1:∀ {b:Addr} {o:Obj},s.heap.get? b = some o -> b ≠ s.heap.objs.size + 1 /\ b ≠ s.heap.objs.size:=fun e=>⟨zVQ (zVu (zVG e)),zVQ (zVG e)⟩;have tr:∀ b u,H' b = some u -> b ≠ s.heap.objs.size + 1 /\ b ≠ s.heap.objs.size:=fun b u e=>⟨fun z=>(by rw [z,nC] at e; cases e),fun z=>(by rw [z,nD] at e; cases e)⟩;refine ⟨?_,nD⟩;have B:=Ic.base;have un:Un (frs X.stack) fp H (upd H' s.heap.objs.size (.lst ys)) s.heap h':=by
  refine ⟨fun b o e q hb hx=>hs.extBut b o (lt1 e).1 (B.keep b o e q hb hx),fun b o e q hb hx=>?_,fun b o e q hx=>?_,fun b o e hx=>?_,fun b xs e=>?_,fun b o xs e=>?_,fun b ps e=>?_⟩
  ·obtain ⟨sl,e1⟩:=B.slot b o e q hb hx;exact ⟨sl,hs.extBut b _ (lt1 e).1 e1⟩
  ·rw [zS (lt1 e).2]; exact B.free b o e q hx
  ·obtain ⟨o',e1⟩:=B.there b o e hx;exact ⟨o',hs.extBut b _ (lt1 e).1 e1⟩
  ·have q:=B.tups b xs e;rw [zS (tr b _ q).2]; exact q
  ·have q:=B.frzs b o xs e;rw [zS (tr b _ q).2]; exact q
  ·obtain ⟨more,q⟩:=B.tbls b ps e;exact ⟨more,by rw [zS (tr b _ q).2]; exact q⟩
 have hok:HOk X.prog X.w (upd H' s.heap.objs.size (.lst ys)) h':=fun b u e=>by
  by_cases hb:b = s.heap.objs.size
  ·subst hb;rw [zo] at e; cases e;exact ⟨hz,its,n,rv,eD'⟩
  ·rw [zS hb] at e;refine (Ic.hok b u e).stay (fun c v hc q=>hs.extBut c v ?_ q) (fun c q=>by rw [zS (tr c _ q).2]; exact q) fun c xs q=>by rw [zS (tr c _ q).2]; exact q
   rcases hc with z | z
   ·rw [z]; exact (tr b u e).1
   ·exact (tr c _ z).1
 exact I.call' (s':={ s' with heap:=h' }) (ch:=fp) Ic.os un hok Ic.bare fun b hb=>⟨(hf b hb).2.2.2.1,(hf b hb).2.1,(hf b hb).2.2.2.2.1,(hf b hb).2.2.2.2.2⟩
end
section
variable {X:Cx} {scope:Scope} {tg elt iter:Expr} {ifs:List Expr} {pos:Pos} {own:List Nat} {wi:TI} {g:TG} {tc:TT} {te:TE}
structure CompParts (X:Cx) (scope:Scope) (tg:Expr) (ifs:List Expr) (elt:Expr) (g:TG) (tc:TT) (te:TE):Prop where
 g:∀ zB cl s H fp,PG (zG X zB scope cl s H fp) tg g
 c:∀ zB cl s H fp,zE7 (zG X zB scope cl s H fp) ifs tc
 e:∀ zB cl s H fp,PE (zG X zB scope cl s H fp) elt te
theorem CompScope.closure (S:CompScope X scope) (I:Inv X zB σ H s) :
  ∃ cl,closureFor scope X.env = pure cl /\ (∀ x c,cl.lookup x = some c -> X.env.cells.lookup x = some c) /\ ∀ y ∈ scope.names,y.2 = .free -> (cl.lookup y.1).isSome = true :=
 zGf fun y hy hk=>I.ok.has y.1 (S.free y hy hk)
theorem zPj (C:CompIn X scope own) (hcalm:X.calm = true) (hi:PI X tg iter wi) (p:CompParts X scope tg ifs elt g tc te) (hs:∀ x,foldedSetIterable iter X.env x = pure x:=by intro _; rfl) :
  PE X (.ListComp elt [⟨tg,iter,ifs,0⟩] scope pos) (zNz own wi g tc te):=by
 intro zB s σ H Q I h;obtain ⟨cl,hcl,c1,c2⟩:=C.sc.closure I;rw [eval_ListComp];refine zWz (use:=none) rfl hs hcl C.sc.kind C.sc.names (thn (hi zB s σ H _ I h) fun v s1 h1=>thn h1 fun itv s2 h2=>?_);obtain ⟨it,fp,tn,J,H2,e,I2,T,st2,f2,W,⟨m0,w0⟩,turn⟩:=h2;subst e;refine zFU C hcalm I2 T st2 f2 c1 c2 (p.g _ _ _ _ _) (p.c _ _ _ _ _) (p.e _ _ _ _ _) (RR:=fun acc C r s'=>compPost (model X.prog X.w) X.A X.xe none (EP X zB σ Q) acc C r s') (QQ:=fun ys H=>∀ D,H D = none -> Q (.ref D) (upd H D (.lst ys))) w0 turn ?_;intro σc H' s' its n ys Ic rv hz qq;obtain ⟨m,hn,_⟩:=Ic.loc;refine ⟨m,hn,fun h' hs'=>?_⟩;obtain ⟨J',nD⟩:=zFW I2 f2 Ic rv hz hs';exact ⟨.ref s2.heap.objs.size,_,J',rfl,qq _ nD⟩
theorem zKi (hN:X.N.Nodup) (hi':X.N[i]? = some x) (hx:Loc X.env.scope x) (hfn:X.fn x = true \/ X.env.scope.names.lookup x = some .local)
  (C:CompIn X scope own) (hcalm:X.calm = true) (hi:PI X tg iter wi) (p:CompParts X scope tg ifs elt g tc te)
  (hsw:swapsWith (.ListComp elt [⟨tg,iter,ifs,0⟩] scope pos) (some (.Name x pos')) pos''.line X.env = pure true) (hs:∀ x,foldedSetIterable iter X.env x = pure x:=by intro _; rfl) :
  PS X (.Assign [.Name x pos'] (.ListComp elt [⟨tg,iter,ifs,0⟩] scope pos) pos'') (zO9 (zNz own wi g tc te) (zBE i)):=by
 intro zB s σ H D I h;obtain ⟨cl,hcl,c1,c2⟩:=C.sc.closure I;rw [exec_Assign_Name_used _ _ _ _ hsw];refine zU5 (zV3 (zU5 ?_));show wpAny _ X.A (do let _ <- comprehension (.ListComp elt [⟨tg,iter,ifs,0⟩] scope pos) scope X.env _ (newList []) false (eval iter X.env) (some (assign (.Name x pos') X.env))) _ _ s
 refine zU5 (zVb (zWz (use:=some (assign (.Name x pos') X.env)) (Q:=fun _ s'=>SP X zB D .next s') rfl hs hcl C.sc.kind C.sc.names
  (thn (hi zB s σ H _ I h) fun v s1 h1=>thn h1 fun itv s2 h2=>?_)) (fun _ s' hq=>zU7 (zU7 hq)) fun _ _ e=>e)
 obtain ⟨it,fp,tn,J,H2,e,I2,T,st2,f2,W,⟨m0,w0⟩,turn⟩:=h2;subst e
 refine zFU C hcalm I2 T st2 f2 c1 c2 (p.g _ _ _ _ _) (p.c _ _ _ _ _) (p.e _ _ _ _ _) (RR:=fun acc C r s'=>compPost (model X.prog X.w) X.A X.xe (some (assign (.Name x pos') X.env)) (fun _ s'=>SP X zB D .next s') acc C r s')
  (QQ:=fun ys H=>∀ E,H E = none -> zBE i (.ref E) σ (upd H E (.lst ys)) D.nx) w0 turn ?_
 intro σc H' s' its n ys Ic rv hz qq;obtain ⟨m,hn,_⟩:=Ic.loc;obtain ⟨J',nD⟩:=zFW (h':=s'.heap) I2 f2 Ic rv hz (.refl ..);obtain ⟨oC,es,ep,hoC,hdC,r1,r2⟩:=id hn;have nC:upd H' s2.heap.objs.size (.lst ys) (s2.heap.objs.size + 1) = none:=by rw [zS (zWa (zV2 _))]; exact Ic.free
 have K':Inv X (zB ++ [(s2.heap.objs.size + 1,oC)]) σ (upd H' s2.heap.objs.size (.lst ys)) s':=J'.pins_of fun q hq=>by
  rcases zVV.mp hq with z | z
  ·exact J'.pin q (zVP _ z)
  ·have e:q = (s2.heap.objs.size + 1,oC):=by simpa using z
   subst e;refine ⟨hoC,nC,zWa (zVu I2.lt),I2.nofs (zWn _),fun v z=>?_⟩;have z':oC.data = .cell v:=z;rw [hdC] at z'; cases z'
 show wpAny _ X.A (assign (.Name x pos') X.env (.ref s2.heap.objs.size)) _ _ _;refine thn (zHT hN hi' hx hfn _ s' σ _ (.ref s2.heap.objs.size) (.ref s2.heap.objs.size) _ K' rfl (qq _ nD)) fun _ s'' ⟨σ'',H'',I'',q''⟩=>?_;obtain ⟨eC,_⟩:=I''.pin (s2.heap.objs.size + 1,oC) (by simp);refine ⟨m,⟨oC,es,ep,eC,hdC,r1,r2⟩,fun h' hs'=>⟨σ'',H'',?_,q''⟩⟩;have I3:Inv X zB σ'' H'' s'':=I''.unpinned;obtain ⟨_,nC'',neC,_,_⟩:=I''.pin (s2.heap.objs.size + 1,oC) (by simp);refine I3.turned (t':=s''.toks) (it:=s2.heap.objs.size + 1) (fun b o hb e=>hs'.extBut b o hb e) nC'' neC (.inr (zVW I2.sz (zWn _))) (fun x c e z=>?_) (fun q hq z=>?_)
 ·obtain ⟨v,o,ho,hd⟩:=I3.cell x c e;rw [z,eC] at ho; cases ho;rw [hdC] at hd; cases hd
 ·obtain ⟨e,_⟩:=I2.pin q hq;exact zVQ (zVu (zVG e)) z
end
abbrev zA0 (elt t1 i1:Expr) (f1:List Expr) (t2 i2:Expr) (f2:List Expr) (scope:Scope) (pos:Pos):Expr:=.ListComp elt [⟨t1,i1,f1,0⟩,⟨t2,i2,f2,0⟩] scope pos
theorem zGl (elt t1 i1:Expr) (f1:List Expr) (t2 i2:Expr) (f2:List Expr) (scope:Scope) (pos:Pos) (it acc:Value) (env:Env) :
  compTurn (zA0 elt t1 i1 f1 t2 i2 f2 scope pos) 0 it acc env = (do
   standAt i1.pos;match <- pyNext it with
   | none=>pure (.done .next)
   | some v=>
    letOwnedTupleGo t1 it v;assign t1 env v;let mut ok:=true
    for c in f1 do
     if ok then ok <- isTrue c env (eval c env)
    if ok then
     let x <- eval i2 env;standAt i2.pos;let x <- foldedSetIterable i2 env x;let _ <- runOwn (.compStart (zA0 elt t1 i1 f1 t2 i2 f2 scope pos) 1 (<- holding [x] (pyIter x)) acc env) env
    again (.compLoop (zA0 elt t1 i1 f1 t2 i2 f2 scope pos) 0 it acc env)):=by rfl
theorem zHU (elt t1 i1:Expr) (f1:List Expr) (t2 i2:Expr) (f2:List Expr) (scope:Scope) (pos:Pos) (it acc:Value) (env:Env) :
  compTurn (zA0 elt t1 i1 f1 t2 i2 f2 scope pos) 1 it acc env = (do
   standAt i2.pos;match <- pyNext it with
   | none=>pure (.done .next)
   | some v=>
    letOwnedTupleGo t2 it v;assign t2 env v;let mut ok:=true
    for c in f2 do
     if ok then ok <- isTrue c env (eval c env)
    if ok then
     (do let _ <- call (.builtin "list.append") [acc,<- eval elt env])
    again (.compLoop (zA0 elt t1 i1 f1 t2 i2 f2 scope pos) 1 it acc env)):=by rfl
section
variable {prog:Program} {w:World} {A:Around} {E:Value -> Shared -> Prop} {R:Result -> Shared -> Prop} {s:Shared}
variable {elt t1 i1 t2 i2:Expr} {f1 f2:List Expr} {scope:Scope} {pos:Pos} {it acc:Value} {env:Env}
theorem zHc (I:Nat -> Shared -> Prop)
  (turn:∀ n s,I n s -> wpAny (model prog w) A (pyNext it) (fun r s₁=>match r with
   | none=>R (.ok .next) s₁
   | some v=>wpAny (model prog w) A (letOwnedTupleGo t2 it v) (fun _ s₁'=>wpAny (model prog w) A (assign t2 env v) (fun _ s₂=>
     wpAny (model prog w) A (forIn f2 true fun c r=>if r = true then do let ok <- isTrue c env (eval c env); pure (ForInStep.yield ok) else pure (ForInStep.yield r)) (fun ok s₃=>
      if ok = true then wpAny (model prog w) A (eval elt env) (fun x s₄=>
       wpAny (model prog w) A (call (.builtin "list.append") [acc,x]) (fun _ s₅=>∃ m,m < n /\ I m s₅) (fun _ _=>False) s₄) (fun _ _=>False) s₃
      else ∃ m,m < n /\ I m s₃) (fun _ _=>False) s₂) (fun _ _=>False) s₁') (fun _ _=>False) s₁) (fun _ _=>False) s)
  (n:Nat) (h:I n s) :
  codeAny (model prog w) A (.compLoop (zA0 elt t1 i1 f1 t2 i2 f2 scope pos) 1 it acc env) R s:=by
 refine codeAny_loop rfl I (fun n s hI=>?_) n h;show wpAny _ A ((compTurn (zA0 elt t1 i1 f1 t2 i2 f2 scope pos) 1 it acc env).onRaise (fun x=>do noteFrame x env; theTreesLotGoes x)) _ _ s;refine wpAny_noted ?_;rw [zHU];refine zU5 (zV3 (zU5 (zVb (turn n s hI) (fun r s₁ h₁=>?_) fun _ _ h'=>h'.elim)));cases r with
 | none=>exact zU7 h₁
 | some v=>
  refine zU5 (zVb h₁ (fun _ s₁' h₁'=>?_) fun _ _ h'=>h'.elim);refine zU5 (zVb h₁' (fun _ s₂ h₂=>zU5 (zVb h₂ (fun ok s₃ h₃=>?_) fun _ _ h'=>h'.elim)) fun _ _ h'=>h'.elim);cases ok with
  | false=>exact zU7 ⟨rfl,h₃⟩
  | true=>
   exact zU5 (zU5 (zVb h₃ (fun x s₄ h₄=>zU5 (zVb h₄ (fun _ s₅ h₅=>zU7 (zU7 ⟨rfl,h₅⟩)) fun _ _ h'=>h'.elim)) fun _ _ h'=>h'.elim))
theorem zGY
  (h0:codeAny (model prog w) A (.compLoop (zA0 elt t1 i1 f1 t2 i2 f2 scope pos) 1 it acc env) R s)
  (h:wpAny (model prog w) A (pyIter it) (fun it' s'=>codeAny (model prog w) A (.compLoop (zA0 elt t1 i1 f1 t2 i2 f2 scope pos) 1 it' acc env) R s')
   (notedBy (model prog w) A env fun x s'=>R (.error x) s') s) :
  codeAny (model prog w) A (.compStart (zA0 elt t1 i1 f1 t2 i2 f2 scope pos) 1 it acc env) R s:=by
 refine codeAny_of_tree ?_;show wpAny _ _ ((compStart (zA0 elt t1 i1 f1 t2 i2 f2 scope pos) 1 it acc env).onRaise (fun x=>do noteFrame x env; standAt theWindowsPlace)) _ _ s;refine wpAny_notedAt ?_;unfold compStart;show wpAny _ _ (ask >>= _) _ _ s;refine zU5 (wpAny_askSetting (wpAny_ite ?_));split
 ·first
   | exact zU5 (zU7 (zU7 (And.intro rfl h0)))
   | exact zU7 (And.intro rfl h0)
 ·first
   | exact zU5 (wpAny_rule (zU5 (zV3 (zU5 (zVb h (fun it' s' h'=>zU7 (And.intro rfl h')) fun _ _ x=>x)))))
   | (refine zU5 (wpAny_rule ?_); show wpAny _ _ (standAt i2.pos >>= _) _ _ s; exact zU5 (zV3 (zU5 (zVb h (fun it' s' h'=>zU7 (And.intro rfl h')) fun _ _ x=>x))))
theorem zGZ (hs2:∀ x,foldedSetIterable i2 env x = pure x) (I:Nat -> Shared -> Prop)
  (turn:∀ n s,I n s -> wpAny (model prog w) A (pyNext it) (fun r s₁=>match r with
   | none=>R (.ok .next) s₁
   | some v=>wpAny (model prog w) A (letOwnedTupleGo t1 it v) (fun _ s₁'=>wpAny (model prog w) A (assign t1 env v) (fun _ s₂=>
     wpAny (model prog w) A (forIn f1 true fun c r=>if r = true then do let ok <- isTrue c env (eval c env); pure (ForInStep.yield ok) else pure (ForInStep.yield r)) (fun ok s₃=>
      if ok = true then wpAny (model prog w) A (eval i2 env) (fun x s₄=>wpAny (model prog w) A (pyIter x) (fun it2 s₅=>
       codeAny (model prog w) A (.compStart (zA0 elt t1 i1 f1 t2 i2 f2 scope pos) 1 it2 acc env) (fun r s₆=>r = .ok .next /\ ∃ m,m < n /\ I m s₆) s₅) (fun _ _=>False) s₄) (fun _ _=>False) s₃
      else ∃ m,m < n /\ I m s₃) (fun _ _=>False) s₂) (fun _ _=>False) s₁') (fun _ _=>False) s₁) (fun _ _=>False) s)
  (n:Nat) (h:I n s) :
  codeAny (model prog w) A (.compLoop (zA0 elt t1 i1 f1 t2 i2 f2 scope pos) 0 it acc env) R s:=by
 refine codeAny_loop rfl I (fun n s hI=>?_) n h;show wpAny _ A ((compTurn (zA0 elt t1 i1 f1 t2 i2 f2 scope pos) 0 it acc env).onRaise (fun x=>do noteFrame x env; theTreesLotGoes x)) _ _ s;refine wpAny_noted ?_;rw [zGl];refine zU5 (zV3 (zU5 (zVb (turn n s hI) (fun r s₁ h₁=>?_) fun _ _ h'=>h'.elim)));cases r with
 | none=>exact zU7 h₁
 | some v=>
  refine zU5 (zVb h₁ (fun _ s₁' h₁'=>?_) fun _ _ h'=>h'.elim);refine zU5 (zVb h₁' (fun _ s₂ h₂=>zU5 (zVb h₂ (fun ok s₃ h₃=>?_) fun _ _ h'=>h'.elim)) fun _ _ h'=>h'.elim);cases ok with
  | false=>exact zU7 ⟨rfl,h₃⟩
  | true=>
   refine zU5 (zVb h₃ (fun x s₄ h₄=>zU5 (zV3 (zU5 (wpAny_of_eq (hs2 x) (zU5 (zVy (zVb h₄ (fun it2 s₅ h₅=>?_) fun _ _ h'=>h'.elim))))))) fun _ _ h'=>h'.elim);refine zU5 (wpAny_runOwn (codeAny_mono h₅ fun r s₆ hr=>?_));obtain ⟨rfl,hr⟩:=hr;exact zU7 ⟨rfl,hr⟩
end
def tIn (own2:List Nat) (wi2:TI) (g2:TG) (tc2:TT) (te:TE) (σ2:St) (H3:Hp) (ys:List V) (QQ:List V -> Hp -> Prop):Prop :=
 wi2 σ2 H3 fun J2 H4=>∃ W2:Nat -> Nat -> List V -> Hp -> Prop,(∃ m,W2 0 m ys H4) /\ ∀ j m zs H,W2 j m zs H ->
  (J2.stop j H /\ QQ zs H) \/
  (J2.go j H /\ ∀ x H',J2.yld j H x H' -> g2 x (clr own2 σ2) H' fun σ3 H5=>Ext (clr own2 σ2) σ3 /\ tc2 σ3 H5 fun b H6=>
   if b = true then te σ3 H6 fun v H7=>zs.length < sizeLine /\ ∃ m',m' < m /\ W2 (j + 1) m' (zs ++ [v]) H7 else ∃ m',m' < m /\ W2 (j + 1) m' zs H6)
section
variable {C:Cx} {elt t1 i1 t2 i2:Expr} {f1 f2:List Expr} {scope:Scope} {pos:Pos} {pl:List (Addr × Obj)} {σ:St} {H:Hp} {s:Shared} {D:Addr}
 {own2:List Nat} {wi2:TI} {g2:TG} {tc2:TT} {te:TE} {R:Result -> Shared -> Prop}
theorem zNf (hxe:C.xe = fun _ _=>False) (hcalm:C.calm = true) (hi:PI C t2 i2 wi2) (hg:PG C t2 g2) (hc:zE7 C f2 tc2) (he:PE C elt te) (hD:C.s₀.heap.objs.size <= D)
  (hcD:∀ x c,C.env.cells.lookup x = some c -> c ≠ D) (hpl:∀ p ∈ C.pn ++ pl,p.1 ≠ D) (I:Inv C (pl ++ [(D,zY its k)]) σ H s) (rv:zW ys its) (h:tIn own2 wi2 g2 tc2 te σ H ys QQ)
  (fin:∀ s' H' its' k' zs,Inv C (pl ++ [(D,zY its' k')]) (clr own2 σ) H' s' -> zW zs its' -> QQ zs H' -> R (.ok .next) s') :
  wpAny (model C.prog C.w) C.A (eval i2 C.env) (fun x s₄=>wpAny (model C.prog C.w) C.A (pyIter x) (fun it2 s₅=>
   codeAny (model C.prog C.w) C.A (.compStart (zA0 elt t1 i1 f1 t2 i2 f2 scope pos) 1 it2 (.ref D) C.env) R s₅) (fun _ _=>False) s₄) (fun _ _=>False) s:=by
 have hpi:=hi _ s σ H _ I h;rw [hxe] at hpi;refine thn hpi fun v s1 h1=>thn h1 fun itv s2 h2=>?_;obtain ⟨it,fp,tn,J,H2,e,I2,T,st2,f2',W,⟨m0,w0⟩,turn⟩:=h2;subst e;have hDfp:D ∉ fp:=fun z=>(f2' D z).2.2.2.2.2 (D,zY its k) (by simp) rfl;have loop:∀ s',(∃ H',Inv C (pl ++ [(D,zY its k)]) (clr own2 σ) H' s' /\ tn 0 s'.heap /\ (∀ b ∈ fp,H' b = none) /\ W 0 m0 ys H') -> codeAny (model C.prog C.w) C.A (.compLoop (zA0 elt t1 i1 f1 t2 i2 f2 scope pos) 1 (.ref it) (.ref D) C.env) R s':=by
  rintro s' ⟨H',I',st',hn',w'⟩;have fpk:∀ {H':Hp} {its:List Value} {k:Nat},(∀ b ∈ fp,H' b = none) -> ∀ b ∈ fp,zBt C (pl ++ [(D,zY its k)]) H' b:=fun {H' its k} hn b hb=>by
   obtain ⟨_,a2,a3,a4,a5,a6⟩:=f2' b hb;refine ⟨hn b hb,a2,a3,a4,a5,fun p hp=>?_⟩;rcases zVV.mp hp with z | z
   ·exact a6 p (zWK _ z)
   ·rcases zVV.mp z with z | z
    ·exact a6 p (zVP _ (zWK _ z))
    ·have:p = (D,zY its k):=by simpa using z
     rw [this];intro q;have q':D = b:=q;exact hDfp (q' ▸ hb)
  refine zHc (fun n s'=>∃ i H' ys its k,Inv C (pl ++ [(D,zY its k)]) (clr own2 σ) H' s' /\ zW ys its /\ tn i s'.heap /\ (∀ b ∈ fp,H' b = none) /\ W i n ys H') ?_ m0 ⟨0,H',ys,its,k,I',rv,st',hn',w'⟩;rintro n s5 ⟨i,H5,ys,its,k,I5,r5,st5,f5,w5⟩;rcases turn i n ys H5 w5 with ⟨stop,qq⟩ | ⟨go,step⟩
  ·refine thn (T.done C rfl rfl rfl hcalm i _ s5 _ H5 _ I5 (fpk f5) st5 stop) fun r s6 ⟨hr,I6⟩=>?_;subst hr;exact fin s6 H5 its k ys I6 r5 qq
  ·refine thn (T.item C rfl rfl rfl hcalm i _ s5 _ H5 _ I5 (fpk f5) st5 go) fun r s6 ⟨u,hr,h6⟩=>?_;subst hr;refine thn h6 fun _ s7 ⟨x,H7,I7,r7,y7,st7,f7⟩=>?_;have I7':=I7.pinned (fpk f7) (T.obj _ _ st7);have hgg:=hg _ s7 _ H7 x u _ I7' r7 (step x H7 y7);rw [hxe] at hgg;refine thn hgg fun _ s8 ⟨σ8,H8,I8,x8,q8⟩=>?_;have hcc:=hc _ s8 σ8 H8 _ I8 q8;rw [hxe] at hcc;refine thn hcc fun ok s9 ⟨H9,I9,q9⟩=>?_;have back:∀ {s':Shared} {Hx:Hp},Inv C ((pl ++ [(D,zY its k)]) ++ zCH fp s7.heap) σ8 Hx s' -> tn (i + 1) s'.heap /\ ∀ b ∈ fp,Hx b = none:=fun {s' Hx} Ix=>
    ⟨T.keep _ _ _ st7 fun b hb o e=>(Ix.pin (b,o) (zVP _ (zVP _ (zt hb e)))).1,fun b hb=>by
     obtain ⟨o,e,d⟩:=T.obj _ _ st7 b hb;exact (Ix.pin (b,o) (zVP _ (zVP _ (zt hb e)))).2.1⟩
   cases ok with
   | false=>
    obtain ⟨m',hm,w'⟩:=q9;obtain ⟨b1,b2⟩:=back I9;exact ⟨m',hm,i + 1,H9,ys,its,k,(I9.weak (by rw [x8.1]) x8.2).unpinned,r5,b1,b2,w'⟩
   | true=>
    have hee:=he _ s9 σ8 H9 _ I9 q9;rw [hxe] at hee;refine thn hee fun v s10 ⟨y,H10,I10,r10,hlt,m',hm,w'⟩=>?_;obtain ⟨b1,b2⟩:=back I10;have J10:=(I10.weak (by rw [x8.1]) x8.2).unpinned;obtain ⟨e10,n10,ne10,nf10,d10⟩:=J10.pin (D,zY its k) (by simp);have hlen:its.toArray.size <= sizeLine:=by
     have:=r5.length;rw [zVD,<- this];exact Nat.le_of_lt hlt
    refine wpAny_list_append_plain (hsz:=hlen) (show s10.heap.PlainList D its.toArray from ⟨k,e10⟩) fun h' hl' hs'=>?_;obtain ⟨k',e'⟩:=hl';have e'':h'.get? D = some (zY (its ++ [v]) k'):=by rw [e']; simp [zY]
    refine ⟨m',hm,i + 1,H10,ys ++ [y],its ++ [v],k',?_,r5.append (.cons r10 .nil),T.keep _ _ _ b1 fun b hb o e=>hs'.extBut b o (fun z=>hDfp (z ▸ hb)) e,b2,w'⟩;exact Inv.repin (pl:=pl) J10 hpl hs' hD hcD e'' (by intro v z; cases z)
 have l0:=loop s2 ⟨H2,I2.weak (zAv own2 σ) (fun i v h=>(zCD own2 σ i v h).1),st2,fun b hb=>(f2' b hb).1,w0⟩;exact zGY l0 (T.self _ 0 _ _ _ st2 l0)
end
section
variable {X:Cx} {zB:List (Addr × Obj)} {σ:St} {H:Hp} {s:Shared} {scope:Scope} {cl:List (Str × Addr)} {fp:List Addr} {it:Addr} {tn:Nat -> Heap -> Prop} {J:It} {elt t1 i1 t2 i2:Expr} {f1 f2:List Expr} {pos:Pos}
 {own own2:List Nat} {g g2:TG} {tc tc2:TT} {te:TE} {wi wi2:TI} {E:Value -> Shared -> Prop}
theorem zJJ:∀ (own:List Nat) (σ:St) (j:Nat),j ∉ own -> (clr own σ)[j]? = σ[j]?
 | [],_,_,_=>rfl
 | i :: r,σ,j,h=>by
  show (clr r (σ.set i none))[j]? = _;rw [zJJ r _ j (fun z=>h (zVI _ z)),zVZ (fun z=>h (by rw [z]; exact zVJ))]
theorem zIq (hsub:∀ i ∈ own2,i ∈ own) (C:CompIn X scope own) (hcalm:X.calm = true) (I:Inv X zB σ H s) (T:Turn X.prog X.w X.K t1 J fp it tn) (st:tn 0 s.heap) (hf:∀ b ∈ fp,zBt X zB H b)
  (c1:∀ x c,cl.lookup x = some c -> X.env.cells.lookup x = some c) (c2:∀ y ∈ scope.names,y.2 = .free -> (cl.lookup y.1).isSome = true)
  (hg:PG (zG X zB scope cl s H fp) t1 g) (hi:zE7 (zG X zB scope cl s H fp) f1 tc)
  (hi2:PI (zG X zB scope cl s H fp) t2 i2 wi2) (hg2:PG (zG X zB scope cl s H fp) t2 g2) (hc2:zE7 (zG X zB scope cl s H fp) f2 tc2) (he:PE (zG X zB scope cl s H fp) elt te)
  (hs2:∀ x,foldedSetIterable i2 (zG X zB scope cl s H fp).env x = pure x)
  {RR:Value -> Addr -> Result -> Shared -> Prop} {QQ:List V -> Hp -> Prop} {W:Nat -> Nat -> List V -> Hp -> Prop} {m0:Nat} (w0:W 0 m0 [] H)
  (turn:∀ i m ys H,W i m ys H -> (J.stop i H /\ ys.length <= sizeLine /\ QQ ys H) \/
   (J.go i H /\ ∀ x H',J.yld i H x H' -> g x (clr own σ) H' fun σ2 H2=>Ext (clr own σ) σ2 /\ tc σ2 H2 fun b H3=>
    if b = true then tIn own2 wi2 g2 tc2 te σ2 H3 ys fun zs H4=>∃ m',m' < m /\ W (i + 1) m' zs H4 else ∃ m',m' < m /\ W (i + 1) m' ys H3))
  (fin:∀ σc H' s' its n ys,Inv (zG X zB scope cl s H fp) [(s.heap.objs.size,zY its n)] σc H' s' -> zW ys its -> ys.length <= sizeLine -> QQ ys H' -> RR (.ref s.heap.objs.size) (s.heap.objs.size + 1) (.ok .next) s') :
  wpAny (model X.prog X.w) X.A (newList []) (fun acc s₃=>wpAny (model X.prog X.w) X.A (newFunctionEnv scope X.env.globals cl [] X.env.qual none .none (some X.env)) (fun cenv s₄=>
   codeAny (model X.prog X.w) X.A (.compStart (zA0 elt t1 i1 f1 t2 i2 f2 scope pos) 0 (.ref it) acc { cenv with scope:=relabel scope X.env }) (RR acc cenv.locals) s₄) E s₃) E s:=by
 have ob:∀ b:Nat,b ∈ fp -> b < s.heap.objs.size:=fun b hb=>let ⟨_,e,_⟩:=T.obj 0 _ st b hb; zVG e;refine zVY (zB4 ?_);have sz1:(s.heap.push (zY [] 0)).objs.size = s.heap.objs.size + 1:=zVl ..;have I4:=zEL (X:=X) (zB:=zB) (σ:=σ) (σc:=clr own σ) (H:=H) (s:=s) (scope:=scope) (cl:=cl) (fp:=fp) C.sc I hf ob c1 c2 (zAv own σ) (fun i x v h1 h2 h3=>by
  obtain ⟨a,b⟩:=zCD own σ i v h2;rcases C.nm i x h1 with z | z | z
  ·exact absurd z b
  ·exact absurd (zBf x z) h3
  ·exact ⟨z,a⟩) (zY [] 0) (by intro v z; cases z) rfl rfl
 have st4:tn 0 (pushCells ((s.heap.push (zY [] 0)).push { cls:=.type "dict", data:=.dict #[] }) scope.names):=T.keep 0 _ _ st fun b _ o e=>pushCells_keeps _ _ b o (zU6 _ (zU6 _ e));dsimp only;unfold newEnv;dsimp only;rw [sz1];have hDfp:s.heap.objs.size ∉ fp:=fun z=>zVn _ (ob _ z);have hcD:∀ x c,(zG X zB scope cl s H fp).env.cells.lookup x = some c -> c ≠ s.heap.objs.size:=fun x c e z=>by
  obtain ⟨v,o,ho,hd⟩:=I4.cell x c e;obtain ⟨q,_⟩:=I4.pin (s.heap.objs.size,zY [] 0) (by simp);rw [z,q] at ho;cases ho; cases hd
 have fpk:∀ {H':Hp} {pl:List (Addr × Obj)},(∀ b ∈ fp,H' b = none) -> (∀ p ∈ pl,p.1 = s.heap.objs.size) -> ∀ b ∈ fp,zBt (zG X zB scope cl s H fp) pl H' b:=fun {H' pl} hn hp b hb=>
  ⟨hn b hb,(I4.ok.exf b hb).1,I4.ok.exfs b hb,.inl hb,(I4.ok.exf b hb).2,fun p hq=>by
   rcases zVV.mp hq with z | z
   ·exact (hf b hb).2.2.2.2.2 p z
   ·intro e;have e2:=hp p z;rw [e] at e2;exact hDfp (e2 ▸ hb)⟩
 have loop:codeAny (model X.prog X.w) X.A (.compLoop (zA0 elt t1 i1 f1 t2 i2 f2 scope pos) 0 (.ref it) (.ref s.heap.objs.size) (zG X zB scope cl s H fp).env) (RR (.ref s.heap.objs.size) (s.heap.objs.size + 1))
   { s with heap:=pushCells ((s.heap.push (zY [] 0)).push { cls:=.type "dict", data:=.dict #[] }) scope.names }:=by
  refine zGZ hs2 (fun n s'=>∃ i H' ys its k,Inv (zG X zB scope cl s H fp) [(s.heap.objs.size,zY its k)] (clr own σ) H' s' /\ zW ys its /\ tn i s'.heap /\ (∀ b ∈ fp,H' b = none) /\ W i n ys H') ?_ m0
   ⟨0,H,[],[],0,I4,.nil,st4,fun b hb=>(hf b hb).1,w0⟩
  rintro n s5 ⟨i,H5,ys,its,k,I5,r5,st5,f5,w5⟩;have pinD:∀ p ∈ [(s.heap.objs.size,zY its k)],p.1 = s.heap.objs.size:=fun p hp=>by
   have:p = (s.heap.objs.size,zY its k):=by simpa using hp
   rw [this]
  rcases turn i n ys H5 w5 with ⟨stop,hz,qq⟩ | ⟨go,step⟩
  ·refine thn (T.done (zG X zB scope cl s H fp) rfl rfl rfl hcalm i _ s5 _ H5 _ I5 (fpk f5 pinD) st5 stop) fun r s6 ⟨hr,I6⟩=>?_;subst hr;exact fin _ H5 s6 its k ys I6 r5 hz qq
  ·refine thn (T.item (zG X zB scope cl s H fp) rfl rfl rfl hcalm i _ s5 _ H5 _ I5 (fpk f5 pinD) st5 go) fun r s6 ⟨u,hr,h6⟩=>?_;subst hr;refine thn h6 fun _ s7 ⟨x,H7,I7,r7,y7,st7,f7⟩=>?_;have I7':=I7.pinned (fpk f7 pinD) (T.obj _ _ st7);refine thn (hg _ s7 _ H7 x u _ I7' r7 (step x H7 y7)) fun _ s8 ⟨σ8,H8,I8,x8,q8⟩=>?_;refine thn (hi _ s8 σ8 H8 _ I8 q8) fun ok s9 ⟨H9,I9,q9⟩=>?_;have back:∀ {σx:St} {s':Shared} {Hx:Hp} {its:List Value} {k:Nat},(clr own σ).length = σx.length -> (∀ (i:Nat) v,(clr own σ)[i]? = some (some v) -> σx[i]? = some (some v)) -> Inv (zG X zB scope cl s H fp) (zCH fp s7.heap ++ [(s.heap.objs.size,zY its k)]) σx Hx s' -> Inv (zG X zB scope cl s H fp) [(s.heap.objs.size,zY its k)] (clr own σ) Hx s' /\ tn (i + 1) s'.heap /\ ∀ b ∈ fp,Hx b = none:=fun {σx s' Hx its k} hl hk Ix=>
    ⟨(Ix.weak hl hk).pins_of fun p hp=>Ix.pin p (zVP _ (zVP _ hp)),
     T.keep _ _ _ st7 fun b hb o e=>(Ix.pin (b,o) (zVP _ (zWK _ (zt hb e)))).1,fun b hb=>by
     obtain ⟨o,e,d⟩:=T.obj _ _ st7 b hb;exact (Ix.pin (b,o) (zVP _ (zWK _ (zt hb e)))).2.1⟩
   have I9':Inv (zG X zB scope cl s H fp) (zCH fp s7.heap ++ [(s.heap.objs.size,zY its k)]) σ8 H9 s9:=I9.pins_of fun p hp=>I9.pin p (zVP _ (by
    rcases zVV.mp hp with z | z
    ·exact zVP _ z
    ·exact zWK _ z))
   cases ok with
   | false=>
    obtain ⟨m',hm,w'⟩:=q9;obtain ⟨b0,b1,b2⟩:=back (by rw [x8.1]) x8.2 I9';exact ⟨m',hm,i + 1,H9,ys,its,k,b0,r5,b1,b2,w'⟩
   | true=>
    refine zNf (C:=zG X zB scope cl s H fp) rfl hcalm hi2 hg2 hc2 he (zVB _) hcD (fun p hp=>?_) I9' r5 q9 fun s' H' its' k' zs I' rv' q'=>?_
    ·rcases zVV.mp hp with z | z
     ·exact zVQ (zVG (I.pin p z).1)
     ·obtain ⟨hb,_⟩:=zG6 z;exact zVQ (ob _ hb)
    ·obtain ⟨m',hm,w'⟩:=q';obtain ⟨b0,b1,b2⟩:=back (by rw [zAv own2,x8.1]) (fun i v hv=>by rw [zJJ own2 _ i (fun z=>(zCD own σ i v hv).2 (hsub i z))]; exact x8.2 i v hv) I';exact ⟨rfl,m',hm,i + 1,H',zs,its',k',b0,rv',b1,b2,w'⟩
 exact codeAny_compStart_list loop (T.self _ 0 _ _ _ st4 loop)
def zOD (own own2:List Nat) (wi:TI) (g:TG) (tc:TT) (wi2:TI) (g2:TG) (tc2:TT) (te:TE):TE:=fun σ H Q=>wi σ H fun J H1=>∃ W:Nat -> Nat -> List V -> Hp -> Prop,(∃ m,W 0 m [] H1) /\ ∀ i m ys H,W i m ys H ->
 (J.stop i H /\ ys.length <= sizeLine /\ ∀ D,H D = none -> Q (.ref D) (upd H D (.lst ys))) \/
 (J.go i H /\ ∀ x H',J.yld i H x H' -> g x (clr own σ) H' fun σ2 H2=>Ext (clr own σ) σ2 /\ tc σ2 H2 fun b H3=>
  if b = true then tIn own2 wi2 g2 tc2 te σ2 H3 ys fun zs H4=>∃ m',m' < m /\ W (i + 1) m' zs H4 else ∃ m',m' < m /\ W (i + 1) m' ys H3)
structure CompParts2 (X:Cx) (scope:Scope) (t1:Expr) (f1:List Expr) (t2 i2:Expr) (f2:List Expr) (elt:Expr) (g:TG) (tc:TT) (wi2:TI) (g2:TG) (tc2:TT) (te:TE):Prop where
 g:∀ zB cl s H fp,PG (zG X zB scope cl s H fp) t1 g
 c:∀ zB cl s H fp,zE7 (zG X zB scope cl s H fp) f1 tc
 w2:∀ zB cl s H fp,PI (zG X zB scope cl s H fp) t2 i2 wi2
 g2:∀ zB cl s H fp,PG (zG X zB scope cl s H fp) t2 g2
 c2:∀ zB cl s H fp,zE7 (zG X zB scope cl s H fp) f2 tc2
 e:∀ zB cl s H fp,PE (zG X zB scope cl s H fp) elt te
 s2:∀ zB cl s H fp x,foldedSetIterable i2 (zG X zB scope cl s H fp).env x = pure x
theorem zOE (hsub:∀ i ∈ own2,i ∈ own) (C:CompIn X scope own) (hcalm:X.calm = true) (hi:PI X t1 i1 wi) (p:CompParts2 X scope t1 f1 t2 i2 f2 elt g tc wi2 g2 tc2 te) (hs:∀ x,foldedSetIterable i1 X.env x = pure x:=by intro _; rfl) :
  PE X (zA0 elt t1 i1 f1 t2 i2 f2 scope pos) (zOD own own2 wi g tc wi2 g2 tc2 te):=by
 intro zB s σ H Q I h;obtain ⟨cl,hcl,c1,c2⟩:=C.sc.closure I;rw [eval_ListComp];refine zWz (use:=none) rfl hs hcl C.sc.kind C.sc.names (thn (hi zB s σ H _ I h) fun v s1 h1=>thn h1 fun itv s2 h2=>?_);obtain ⟨it,fp,tn,J,H2,e,I2,T,st2,f2,W,⟨m0,w0⟩,turn⟩:=h2;subst e;refine zIq hsub C hcalm I2 T st2 f2 c1 c2 (p.g _ _ _ _ _) (p.c _ _ _ _ _) (p.w2 _ _ _ _ _) (p.g2 _ _ _ _ _) (p.c2 _ _ _ _ _) (p.e _ _ _ _ _) (p.s2 _ _ _ _ _) (RR:=fun acc C r s'=>compPost (model X.prog X.w) X.A X.xe none (EP X zB σ Q) acc C r s') (QQ:=fun ys H=>∀ D,H D = none -> Q (.ref D) (upd H D (.lst ys))) w0 turn ?_;intro σc H' s' its n ys Ic rv hz qq;obtain ⟨m,hn,_⟩:=Ic.loc;refine ⟨m,hn,fun h' hs'=>?_⟩;obtain ⟨J',nD⟩:=zFW I2 f2 Ic rv hz hs';exact ⟨.ref s2.heap.objs.size,_,J',rfl,qq _ nD⟩
end
end L2
namespace L3
open PySem PySem.Spec PyProof.Rows L2
abbrev Sv:=List (Option V)
set_option genInjectivity true in
inductive D where
 | non | bl (b:Bool) | int (i:Int) | str (x:Str) | tup (xs:List D) | ref (n:Nat)
set_option genInjectivity true in
inductive MO where
 | lst (xs:List D) | fro (xs:List D) | dict (kvs:List (D × D)) | dicT (kvs:List (D × D)) | set (xs:List D)
mutual
def Rep (L:List Addr) (H:Hp):D -> V -> Prop
 | .non,v=>v = .non
 | .bl b,v=>v = .bl b
 | .int i,v=>v = .int i
 | .str x,v=>v = .str x
 | .tup ds,v=>∃ a vs,v = .ref a /\ H a = some (.tup vs) /\ zH L H ds vs
 | .ref n,v=>∃ a,v = .ref a /\ L[n]? = some a
def zH (L:List Addr) (H:Hp):List D -> List V -> Prop
 | [],vs=>vs = []
 | d :: ds,vs=>∃ v r,vs = v :: r /\ Rep L H d v /\ zH L H ds r
end
theorem zH.length:∀ {ds:List D} {vs:List V},zH L H ds vs -> vs.length = ds.length
 | [],_,h=>by unfold zH at h; subst h; rfl
 | d :: ds,_,h=>by
  unfold zH at h;obtain ⟨v,r,rfl,_,h2⟩:=h;simp [zH.length h2]
theorem zH.nil:zH L H [] []:=by unfold zH; rfl
theorem zH.cons (h:Rep L H d v) (t:zH L H ds vs):zH L H (d :: ds) (v :: vs):=by
 unfold zH; exact ⟨v,vs,rfl,h,t⟩
theorem zH.get:∀ {ds:List D} {vs:List V} {i:Nat} {d:D},zH L H ds vs -> ds[i]? = some d -> ∃ v,vs[i]? = some v /\ Rep L H d v
 | [],_,_,_,_,e=>by simp at e
 | d :: ds,_,0,d',h,e=>by
  unfold zH at h;obtain ⟨v,r,rfl,h1,h2⟩:=h;simp at e; subst e;exact ⟨v,rfl,h1⟩
 | d :: ds,_,i + 1,d',h,e=>by
  unfold zH at h;obtain ⟨v,r,rfl,h1,h2⟩:=h;obtain ⟨u,e1,e2⟩:=zH.get (i:=i) h2 (by simpa using e);exact ⟨u,by simpa using e1,e2⟩
theorem zH.app:∀ {ds es:List D} {vs ws:List V},zH L H ds vs -> zH L H es ws -> zH L H (ds ++ es) (vs ++ ws)
 | [],_,_,_,h,t=>by unfold zH at h; subst h; exact t
 | d :: ds,_,_,_,h,t=>by
  unfold zH at h;obtain ⟨v,r,rfl,h1,h2⟩:=h;exact .cons h1 (zH.app h2 t)
theorem zH.set (h:Rep L H d v):∀ {ds:List D} {vs:List V} (i:Nat),zH L H ds vs -> zH L H (ds.set i d) (vs.set i v)
 | [],_,_,t=>by unfold zH at t; subst t; exact .nil
 | _ :: _,_,0,t=>by
  unfold zH at t;obtain ⟨v',r,rfl,h1,h2⟩:=t;exact .cons h h2
 | _ :: _,_,i + 1,t=>by
  unfold zH at t;obtain ⟨v',r,rfl,h1,h2⟩:=t;exact .cons h1 (zH.set h i h2)
theorem zH.drop:∀ {ds:List D} {vs:List V} (n:Nat),zH L H ds vs -> zH L H (ds.drop n) (vs.drop n)
 | _,_,0,t=>t
 | [],_,n + 1,t=>by unfold zH at t; subst t; exact .nil
 | _ :: _,_,n + 1,t=>by
  unfold zH at t;obtain ⟨v',r,rfl,h1,h2⟩:=t;exact zH.drop n h2
theorem zH.take:∀ {ds:List D} {vs:List V} (n:Nat),zH L H ds vs -> zH L H (ds.take n) (vs.take n)
 | _,_,0,t=> .nil
 | [],_,n + 1,t=>by unfold zH at t; subst t; exact .nil
 | _ :: _,_,n + 1,t=>by
  unfold zH at t;obtain ⟨v',r,rfl,h1,h2⟩:=t;exact .cons h1 (zH.take n h2)
theorem zH.eraseIdx:∀ {ds:List D} {vs:List V} (n:Nat),zH L H ds vs -> zH L H (ds.eraseIdx n) (vs.eraseIdx n)
 | [],_,n,t=>by unfold zH at t; subst t; exact .nil
 | _ :: _,_,0,t=>by
  unfold zH at t;obtain ⟨v',r,rfl,h1,h2⟩:=t;exact h2
 | _ :: _,_,n + 1,t=>by
  unfold zH at t;obtain ⟨v',r,rfl,h1,h2⟩:=t;exact .cons h1 (zH.eraseIdx n h2)
structure Stp (L:List Addr) (H:Hp) (L':List Addr) (H':Hp):Prop where
 pre:∃ N,L' = L ++ N
 new:∀ a ∈ L',a ∈ L \/ H a = none
 old:∀ a o,H a = some o -> a ∉ L -> H' a = some o
 tup:∀ a xs,H a = some (.tup xs) -> H' a = some (.tup xs)
 frz:∀ a o u,H a = some (.frz o u) -> H' a = some (.frz o u)
theorem Stp.refl (L:List Addr) (H:Hp):Stp L H L H:=⟨⟨[],by simp⟩,fun _ h=> .inl h,fun _ _ h _=>h,fun _ _ h=>h,fun _ _ _ h=>h⟩
theorem Stp.trans (a:Stp L H L1 H1) (b:Stp L1 H1 L2 H2):Stp L H L2 H2:=by
 obtain ⟨N,rfl⟩:=a.pre;obtain ⟨N',rfl⟩:=b.pre;have back:∀ c,c ∉ L -> H1 c = none -> H c = none:=fun c hc h1=>by
  cases q:H c with
  | none=>rfl
  | some o=>rw [a.old c o q hc] at h1; cases h1
 refine ⟨⟨N ++ N',by simp⟩,fun c hc=>?_,fun c o e hc=>?_,fun c xs e=>b.tup c xs (a.tup c xs e),fun c o u e=>b.frz c o u (a.frz c o u e)⟩
 ·by_cases hL:c ∈ L
  ·exact .inl hL
  ·rcases b.new c hc with z | z
   ·exact a.new c z
   ·exact .inr (back c hL z)
 ·refine b.old c o (a.old c o e hc) fun z=>?_;rcases a.new c z with q | q
  ·exact hc q
  ·rw [q] at e; cases e
theorem Stp.grow (h:∀ a o,H a = some o -> H' a = some o):Stp L H L H':=⟨⟨[],by simp⟩,fun _ h=> .inl h,fun a o e _=>h a o e,fun a _ e=>h a _ e,fun a _ _ e=>h a _ e⟩
theorem Stp.upd (h:H p = none):Stp L H L (upd H p o):=.grow fun a u e=>by rw [zS (zk e h)]; exact e
theorem zA7 {L N:List Addr} {n:Nat} {a:Addr} (h:L[n]? = some a):(L ++ N)[n]? = some a:=by
 rw [zVC (zU8.mp h).1]; exact h
mutual
theorem Rep.stp {L L':List Addr} {H H':Hp} (s:Stp L H L' H'):∀ {d:D} {v:V},Rep L H d v -> Rep L' H' d v
 | .non,_,h=>by unfold Rep at h ⊢; exact h
 | .bl _,_,h=>by unfold Rep at h ⊢; exact h
 | .int _,_,h=>by unfold Rep at h ⊢; exact h
 | .str _,_,h=>by unfold Rep at h ⊢; exact h
 | .tup ds,_,h=>by
  unfold Rep at h ⊢;obtain ⟨a,vs,rfl,e,r⟩:=h;exact ⟨a,vs,rfl,s.tup a vs e,zH.stp s r⟩
 | .ref n,_,h=>by
  unfold Rep at h ⊢;obtain ⟨a,rfl,e⟩:=h;obtain ⟨N,rfl⟩:=s.pre;exact ⟨a,rfl,zA7 e⟩
theorem zH.stp (s:Stp L H L' H'):∀ {ds:List D} {vs:List V},zH L H ds vs -> zH L' H' ds vs
 | [],_,h=>by unfold zH at h ⊢; exact h
 | d :: ds,_,h=>by
  unfold zH at h ⊢;obtain ⟨v,r,rfl,h1,h2⟩:=h;exact ⟨v,r,rfl,Rep.stp s h1,zH.stp s h2⟩
end
def zEk:D -> Option Key
 | .int i=>some (.inl i)
 | .str x=>some (.inr x)
 | _=>none
def zCT:List D -> Option (List Key)
 | []=>some []
 | d :: r=>match zEk d,zCT r with
  | some k,some ks=>some (k :: ks)
  | _,_=>none
def tkD:D -> Option (List Key)
 | .tup ds=>zCT ds
 | _=>none
def zAZ {κ:Type} (kf:D -> Option κ) (L:List Addr) (H:Hp):List (D × D) -> List (κ × V) -> Prop
 | [],vs=>vs = []
 | p :: r,vs=>∃ k v r',vs = (k,v) :: r' /\ kf p.1 = some k /\ Rep L H p.2 v /\ zAZ kf L H r r'
theorem zAZ.stp {κ:Type} {kf:D -> Option κ} {L L':List Addr} {H H':Hp} (s:Stp L H L' H'):∀ {ps:List (D × D)} {vs:List (κ × V)},zAZ kf L H ps vs -> zAZ kf L' H' ps vs
 | [],_,h=>h
 | p :: r,_,h=>by
  obtain ⟨k,v,r',rfl,e,h1,h2⟩:=h;exact ⟨k,v,r',rfl,e,h1.stp s,zAZ.stp s h2⟩
theorem zAZ.length {κ:Type} {kf:D -> Option κ} {L:List Addr} {H:Hp}:∀ {ps:List (D × D)} {vs:List (κ × V)},zAZ kf L H ps vs -> vs.length = ps.length
 | [],_,h=>by unfold zAZ at h; subst h; rfl
 | p :: r,_,h=>by
  obtain ⟨k,v,r',rfl,e,h1,h2⟩:=h;simp [zAZ.length h2]
def zGF (K:PySem.W.Frag) (L:List Addr) (H:Hp) (a:Addr):MO -> Prop
 | .lst xs=>∃ vs,H a = some (.lst vs) /\ zH L H xs vs
 | .fro xs=>∃ o vs,H a = some (.frz o (.lst vs)) /\ zH L H xs vs
 | .dict ps=>∃ vs,H a = some (.dK vs) /\ zAZ zEk L H ps vs
 | .dicT ps=>∃ vs,H a = some (.dT vs) /\ zAZ tkD L H ps vs
 | .set _=>∃ o u,H a = some (.frz o u)
theorem zGF.there {K:PySem.W.Frag} {L:List Addr} {H:Hp} {a:Addr} {m:MO} (h:zGF K L H a m):∃ o,H a = some o:=by
 cases m with
 | lst xs=>obtain ⟨vs,e,_⟩:=h; exact ⟨_,e⟩
 | fro xs=>obtain ⟨o,vs,e,_⟩:=h; exact ⟨_,e⟩
 | dict ps=>obtain ⟨vs,e,_⟩:=h; exact ⟨_,e⟩
 | dicT ps=>obtain ⟨vs,e,_⟩:=h; exact ⟨_,e⟩
 | set _=>obtain ⟨o,u,e⟩:=h; exact ⟨_,e⟩
theorem zGF.stp {K:PySem.W.Frag} {L L':List Addr} {H H':Hp} {a:Addr} {m:MO} (s:Stp L H L' H') (hk:∀ o,H a = some o -> H' a = some o) (h:zGF K L H a m):zGF K L' H' a m:=by
 cases m with
 | lst xs=>obtain ⟨vs,e,r⟩:=h; exact ⟨vs,hk _ e,r.stp s⟩
 | fro xs=>obtain ⟨o,vs,e,r⟩:=h; exact ⟨o,vs,hk _ e,r.stp s⟩
 | dict ps=>obtain ⟨vs,e,r⟩:=h; exact ⟨vs,hk _ e,r.stp s⟩
 | dicT ps=>obtain ⟨vs,e,r⟩:=h; exact ⟨vs,hk _ e,r.stp s⟩
 | set _=>obtain ⟨o,u,e⟩:=h; exact ⟨o,u,hk _ e⟩
structure Cor (K:PySem.W.Frag) (L:List Addr) (M:List MO) (H:Hp):Prop where
 len:L.length = M.length
 nd:L.Nodup
 obj:∀ (n:Nat) a m,L[n]? = some a -> M[n]? = some m -> zGF K L H a m
def zA2 (L:List Addr) (H:Hp) (σ:List (Option D)) (τ:Sv):Prop:=τ.length = σ.length /\ ∀ (i:Nat) d,σ[i]? = some (some d) -> ∃ v,τ[i]? = some (some v) /\ Rep L H d v
theorem zA2.stp (s:Stp L H L' H') (h:zA2 L H σ τ):zA2 L' H' σ τ :=
 ⟨h.1,fun i d e=>let ⟨v,e1,r⟩:=h.2 i d e; ⟨v,e1,r.stp s⟩⟩
theorem Cor.tracked {K:PySem.W.Frag} {L:List Addr} {M:List MO} {H:Hp} (c:Cor K L M H) {a:Addr} (h:a ∈ L):∃ o,H a = some o:=by
 obtain ⟨n,hn⟩:=List.getElem?_of_mem h;have hl:n < M.length:=by rw [<- c.len]; exact (zU8.mp hn).1
 have m:=c.obj n a M[n] hn (zU9 hl);exact m.there
theorem Cor.grow {K:PySem.W.Frag} {L:List Addr} {M:List MO} {H H':Hp} (c:Cor K L M H) (h:∀ a o,H a = some o -> H' a = some o):Cor K L M H':=by
 exact ⟨c.len,c.nd,fun n a m e1 e2=>(c.obj n a m e1 e2).stp (.grow h) fun o e=>h a o e⟩
theorem Cor.upd {K:PySem.W.Frag} {L:List Addr} {M:List MO} {H:Hp} {p:Addr} {o:HO} (c:Cor K L M H) (h:H p = none):Cor K L M (upd H p o):=c.grow fun a u e=>by rw [zS (zk e h)]; exact e
theorem Cor.write {K:PySem.W.Frag} {L:List Addr} {M:List MO} {H:Hp} {n:Nat} {p:Addr} {xs xs':List D} {vs':List V} (c:Cor K L M H) (h1:L[n]? = some p) (h2:M[n]? = some (.lst xs)) (r:zH L H xs' vs') :
  Cor K L (M.set n (.lst xs')) (L2.upd H p (.lst vs')) /\ Stp L H L (L2.upd H p (.lst vs')):=by
 obtain ⟨vs,hp,_⟩:=c.obj n p _ h1 h2;have st:Stp L H L (L2.upd H p (.lst vs')):=by
  refine ⟨⟨[],by simp⟩,fun a ha=> .inl ha,fun a o e ha=>?_,fun a o e=>?_,fun a o u e=>?_⟩
  ·rw [zS (show a ≠ p from fun z=>ha (by rw [z]; exact zVw h1))]; exact e
  ·rw [zS (zFh e hp (by intro z; cases z))]; exact e
  ·rw [zS (zFh e hp (by intro z; cases z))]; exact e
 refine ⟨⟨by simp [c.len],c.nd,fun k a m e1 e2=>?_⟩,st⟩;rw [zWe] at e2;split at e2
 ·rename_i hk;subst hk;rw [h1] at e1; cases e1;split at e2
  ·cases e2; exact ⟨vs',zo,r.stp st⟩
  ·cases e2
 ·rename_i hk;have hne:a ≠ p:=fun z=>hk (by
   subst z;exact (List.getElem?_inj (zU8.mp h1).1 c.nd).mp (h1.trans e1.symm))
  exact (c.obj k a m e1 e2).stp st fun o e=>by rw [zS hne]; exact e
set_option genInjectivity true in
inductive EV where
 | dat (d:D) | fl (xs:List D)
def zV (H0:Hp) (L:List Addr) (H:Hp):EV -> V -> Prop
 | .dat d,v=>Rep L H d v
 | .fl xs,v=>∃ p vs,v = .ref p /\ H0 p = none /\ H p = some (.lst vs) /\ p ∉ L /\ zH L H xs vs
abbrev Sd:=List (Option D)
abbrev Mem:=List MO
abbrev FE:=Sd -> Mem -> Option (EV × Mem)
abbrev FD:=Sd -> Mem -> Option (D × Mem)
abbrev FT:=Sd -> Mem -> Option (Bool × Mem)
abbrev FA:=Sd -> Mem -> Option (List D × Mem)
theorem Stp.out (s:Stp L H L' H') (h:H p = some o) (hp:p ∉ L):p ∉ L':=fun z=>by
 rcases s.new p z with q | q
 ·exact hp q
 ·rw [h] at q; cases q
theorem zV.stp (s:Stp L H L' H') (h:zV H0 L H e v):zV H0 L' H' e v:=by
 cases e with
 | dat d=>exact Rep.stp s h
 | fl xs=>
  obtain ⟨p,vs,rfl,e0,e1,e2,r⟩:=h;exact ⟨p,vs,rfl,e0,s.old p _ e1 e2,s.out e1 e2,r.stp s⟩
theorem zV.back {H0 H1:Hp} {L0 L1 L:List Addr} {H:Hp} (s:Stp L0 H0 L1 H1) {M:List MO} {K:PySem.W.Frag} (c:Cor K L0 M H0) {e:EV} {v:V} (h:zV H1 L H e v) (hL:∀ a ∈ L1,a ∈ L):zV H0 L H e v:=by
 cases e with
 | dat d=>exact h
 | fl xs=>
  obtain ⟨p,vs,rfl,e0,e1,e2,r⟩:=h;refine ⟨p,vs,rfl,?_,e1,e2,r⟩;cases q:H0 p with
  | none=>rfl
  | some o=>
   by_cases hp:p ∈ L0
   ·obtain ⟨N,hN⟩:=s.pre;exact absurd (hL p (by rw [hN]; exact zWK _ hp)) e2
   ·rw [s.old p o q hp] at e0; cases e0
section
variable (K:PySem.W.Frag)
def trE (f:FE):TE:=fun τ H Q=>∃ L σ M d M',Cor K L M H /\ zA2 L H σ τ /\ f σ M = some (d,M') /\ ∀ L' H' v,Stp L H L' H' -> Cor K L' M' H' -> zV H L' H' d v -> Q v H'
def trD (f:FD):TE:=fun τ H Q=>∃ L σ M d M',Cor K L M H /\ zA2 L H σ τ /\ f σ M = some (d,M') /\ ∀ L' H' v,Stp L H L' H' -> Cor K L' M' H' -> Rep L' H' d v -> Q v H'
def trT (f:FT):TT:=fun τ H Q=>∃ L σ M d M',Cor K L M H /\ zA2 L H σ τ /\ f σ M = some (d,M') /\ ∀ L' H',Stp L H L' H' -> Cor K L' M' H' -> Q d H'
def trA (f:FA):TA:=fun τ H Q=>∃ L σ M ds M',Cor K L M H /\ zA2 L H σ τ /\ f σ M = some (ds,M') /\ ∀ L' H' vs,Stp L H L' H' -> Cor K L' M' H' -> zH L' H' ds vs -> Q vs H'
end
section
variable {X:Cx} {e:Expr}
theorem PE.imp (h:PE X e t) (hi:∀ τ H Q,t' τ H Q -> t τ H Q):PE X e t':=fun zB s σ H Q I q=>h zB s σ H Q I (hi _ _ _ q)
theorem PT.imp (h:PT X e t) (hi:∀ τ H Q,t' τ H Q -> t τ H Q):PT X e t':=fun zB s σ H Q I q=>h zB s σ H Q I (hi _ _ _ q)
theorem PS.imp {st:Stmt} {t t':TS} (h:PS X st t) (hi:∀ D τ H,t' D τ H -> t D τ H):PS X st t':=fun zB s σ H D I q=>h zB s σ H D I (hi _ _ _ q)
theorem PSs.imp {st:List Stmt} {t t':TS} (h:PSs X st t) (hi:∀ D τ H,t' D τ H -> t D τ H):PSs X st t':=fun zB s σ H D I q=>h zB s σ H D I (hi _ _ _ q)
structure QE (X:Cx) (e:Expr) (f:FE):Prop where
 un:PE X e (trE X.K f)
structure QD (X:Cx) (e:Expr) (f:FD):Prop where
 un:PE X e (trD X.K f)
structure QT (X:Cx) (e:Expr) (f:FT):Prop where
 un:PT X e (trT X.K f)
structure QA (X:Cx) (es:List Expr) (f:FA):Prop where
 un:PA X es (trA X.K f)
def toD (f:FE):FD:=fun σ M=>match f σ M with
 | some (.dat d,M')=>some (d,M')
 | some (.fl xs,M')=>some (.ref M'.length,M' ++ [.lst xs])
 | none=>none
mutual
theorem Rep.more (N:List Addr):∀ {d:D} {v:V},Rep L H d v -> Rep (L ++ N) H d v
 | .non,_,h=>by unfold Rep at h ⊢; exact h
 | .bl _,_,h=>by unfold Rep at h ⊢; exact h
 | .int _,_,h=>by unfold Rep at h ⊢; exact h
 | .str _,_,h=>by unfold Rep at h ⊢; exact h
 | .tup ds,_,h=>by
  unfold Rep at h ⊢;obtain ⟨a,vs,rfl,e,r⟩:=h;exact ⟨a,vs,rfl,e,zH.more N r⟩
 | .ref n,_,h=>by
  unfold Rep at h ⊢;obtain ⟨a,rfl,e⟩:=h;exact ⟨a,rfl,zA7 e⟩
theorem zH.more (N:List Addr):∀ {ds:List D} {vs:List V},zH L H ds vs -> zH (L ++ N) H ds vs
 | [],_,h=>by unfold zH at h ⊢; exact h
 | d :: ds,_,h=>by
  unfold zH at h ⊢;obtain ⟨v,r,rfl,h1,h2⟩:=h;exact ⟨v,r,rfl,Rep.more N h1,zH.more N h2⟩
end
theorem zAZ.more {κ:Type} {kf:D -> Option κ} {L:List Addr} {H:Hp} (N:List Addr):∀ {ps:List (D × D)} {vs:List (κ × V)},zAZ kf L H ps vs -> zAZ kf (L ++ N) H ps vs
 | [],_,h=>h
 | p :: r,_,h=>by
  obtain ⟨k,v,r',rfl,e,h1,h2⟩:=h;exact ⟨k,v,r',rfl,e,h1.more N,zAZ.more N h2⟩
theorem zGF.more {K:PySem.W.Frag} {L:List Addr} {H:Hp} {a:Addr} {m:MO} (N:List Addr) (h:zGF K L H a m):zGF K (L ++ N) H a m:=by
 cases m with
 | lst xs=>obtain ⟨vs,e,r⟩:=h; exact ⟨vs,e,r.more N⟩
 | fro xs=>obtain ⟨o,vs,e,r⟩:=h; exact ⟨o,vs,e,r.more N⟩
 | dict ps=>obtain ⟨vs,e,r⟩:=h; exact ⟨vs,e,r.more N⟩
 | dicT ps=>obtain ⟨vs,e,r⟩:=h; exact ⟨vs,e,r.more N⟩
 | set _=>exact h
theorem zRT {K:PySem.W.Frag} {L L':List Addr} {M':List MO} {H H':Hp} {p:Addr} {xs:List D} {vs:List V} (s:Stp L H L' H') (c:Cor K L' M' H') (h0:H p = none) (h1:H' p = some (.lst vs)) (h2:p ∉ L') (r:zH L' H' xs vs) :
  Cor K (L' ++ [p]) (M' ++ [.lst xs]) H' /\ Stp L H (L' ++ [p]) H':=by
 refine ⟨⟨by simp [c.len],?_,fun n a m e1 e2=>?_⟩,?_⟩
 ·rw [zWJ];exact ⟨c.nd,by simp,fun a ha b hb z=>by
   have:b = p:=by simpa using hb
   subst this; subst z; exact h2 ha⟩
 ·by_cases hn:n < L'.length
  ·rw [zVC hn] at e1;rw [zVC (by rw [<- c.len]; exact hn)] at e2;exact (c.obj n a m e1 e2).more [p]
  ·have hn':n = L'.length:=by
    have:=(zU8.mp e1).1;rw [zVL] at this;simp at this; omega
   subst hn';simp at e1;rw [c.len] at e2;simp at e2;subst e1; subst e2;exact ⟨vs,h1,r.more [p]⟩
 ·obtain ⟨N,hN⟩:=s.pre;refine ⟨⟨N ++ [p],by rw [hN]; simp⟩,fun a ha=>?_,s.old,s.tup,s.frz⟩;rcases zVV.mp ha with z | z
  ·exact s.new a z
  ·have:a = p:=by simpa using z
   subst this; exact .inr h0
theorem Rep.last {L:List Addr} {M:List MO} {H:Hp} {K:PySem.W.Frag} {p:Addr} (c:Cor K L M H):Rep (L ++ [p]) H (.ref M.length) (.ref p):=by
 unfold Rep;exact ⟨p,rfl,by rw [<- c.len]; simp⟩
theorem zBb {f:FE} (h:QE X e f):QD X e (toD f):=.mk <| PE.imp h.un fun τ H Q zz=>by
 obtain ⟨L,σ,M,d,M',c,rs,hf,q⟩:=zz;unfold toD at hf;split at hf
 ·rename_i d' M1 e1;cases hf;exact ⟨L,σ,M,_,_,c,rs,e1,fun L' H' v s c' r=>q L' H' v s c' r⟩
 ·rename_i xs M1 e1;cases hf;refine ⟨L,σ,M,_,_,c,rs,e1,fun L' H' v s c' r=>?_⟩;obtain ⟨p,vs,rfl,e0,e2,e3,r⟩:=r;obtain ⟨c2,s2⟩:=zRT s c' e0 e2 e3 r;exact q _ H' _ s2 c2 (Rep.last c')
 ·cases hf
def zC (i:Nat):FE:=fun σ M=>match σ[i]? with
 | some (some d)=>some (.dat d,M)
 | _=>none
theorem zTV (h:PE X (.Name x pos) (zS3 i)):QE X (.Name x pos) (zC i):=.mk <| PE.imp h fun τ H Q zz=>by
 obtain ⟨L,σ,M,d,M',c,rs,hf,q⟩:=zz;unfold zC at hf;split at hf
 ·rename_i d' e1;cases hf;obtain ⟨v,e2,r⟩:=rs.2 i d' e1;exact ⟨v,e2,q L H v (.refl L H) c r⟩
 ·cases hf
def fC (d:D):FE:=fun _ M=>some (.dat d,M)
theorem zHb (hd:∀ L H,Rep L H d v) (h:PE X e (tC v)):QE X e (fC d):=.mk <| PE.imp h fun τ H Q zz=>by
 obtain ⟨L,σ,M,d',M',c,rs,hf,q⟩:=zz;unfold fC at hf;cases hf;exact q L H v (.refl L H) c (hd L H)
theorem zUU {i j pos}:QE X (.Constant (.int i) j pos) (fC (.int i)):=zHb (fun _ _=>by unfold Rep; rfl) zS5
theorem zUk {b j pos}:QE X (.Constant (.bool b) j pos) (fC (.bl b)):=zHb (fun _ _=>by unfold Rep; rfl) zTp
theorem zUC {j pos}:QE X (.Constant .none j pos) (fC .non):=zHb (fun _ _=>by unfold Rep; rfl) zR1
def zI:FA:=fun _ M=>some ([],M)
def zD (f:FD) (g:FA):FA:=fun σ M=>match f σ M with
 | some (d,M1)=>match g σ M1 with
  | some (ds,M2)=>some (d :: ds,M2)
  | none=>none
 | none=>none
theorem PA.imp (h:PA X es t) (hi:∀ τ H Q,t' τ H Q -> t τ H Q):PA X es t':=fun pos zB s σ H Q I q=>h pos zB s σ H Q I (hi _ _ _ q)
theorem zR3:QA X [] zI:=.mk <| PA.imp zDw fun τ H Q zz=>by
 obtain ⟨L,σ,M,d,M',c,rs,hf,q⟩:=zz;unfold zI at hf;cases hf;exact q L H [] (.refl L H) c .nil
theorem zQ1 (h1:QD X e f) (h2:QA X es g) (hs:starEach (e :: es) X.env = (false,eval e X.env) :: starEach es X.env:=by rfl):QA X (e :: es) (zD f g) :=
 .mk <| PA.imp (zB3 h1.un h2.un hs) fun τ H Q zz=>by
  obtain ⟨L,σ,M,d,M',c,rs,hf,q⟩:=zz;unfold zD at hf;split at hf
  ·rename_i d1 M1 e1;split at hf
   ·rename_i ds M2 e2;cases hf;refine ⟨L,σ,M,_,_,c,rs,e1,fun L1 H1 v s1 c1 r1=>⟨L1,σ,M1,_,_,c1,rs.stp s1,e2,fun L2 H2 vs s2 c2 r2=>?_⟩⟩;exact q L2 H2 _ (s1.trans s2) c2 (.cons (r1.stp s2) r2)
   ·cases hf
  ·cases hf
def zCr (g:FA):FE:=fun σ M=>match g σ M with
 | some (ds,M1)=>if ds.length <= sizeLine then some (.dat (.tup ds),M1) else none
 | none=>none
def zAW (g:FA):FE:=fun σ M=>match g σ M with
 | some (ds,M1)=>if ds.length <= sizeLine then some (.fl ds,M1) else none
 | none=>none
theorem Rep.newTup (h:H p = none) (r:zH L H ds vs):Rep L (upd H p (.tup vs)) (.tup ds) (.ref p):=by
 unfold Rep;exact ⟨p,vs,rfl,zo,r.stp (.upd h)⟩
theorem zTo {x1 pos} (h:QA X es g):QE X (.Tuple es x1 pos) (zCr g):=.mk <| PE.imp (zR6 h.un) fun τ H Q zz=>by
 obtain ⟨L,σ,M,d,M',c,rs,hf,q⟩:=zz;unfold zCr at hf;split at hf
 ·rename_i ds M1 e1;split at hf
  ·rename_i hz;cases hf;refine ⟨L,σ,M,_,_,c,rs,e1,fun L1 H1 vs s1 c1 r1=>⟨by rw [r1.length]; exact hz,fun p hp=>?_⟩⟩;exact q L1 _ _ (s1.trans (.upd hp)) (c1.upd hp) (Rep.newTup hp r1)
  ·cases hf
 ·cases hf
theorem zLo {L L1:List Addr} {H H1:Hp} {K:PySem.W.Frag} {M M1:List MO} (s:Stp L H L1 H1) (c:Cor K L M H) (c1:Cor K L1 M1 H1) {p:Addr} (hp:H1 p = none):H p = none /\ p ∉ L1:=by
 have hp1:p ∉ L1:=fun z=>by obtain ⟨o,e⟩:=c1.tracked z; rw [hp] at e; cases e
 refine ⟨?_,hp1⟩;cases q:H p with
 | none=>rfl
 | some o=>
  have:p ∉ L:=fun z=>hp1 (by obtain ⟨N,hN⟩:=s.pre; rw [hN]; exact zWK _ z);rw [s.old p o q this] at hp; cases hp
theorem zV.newLst {L L1:List Addr} {H H1:Hp} {K:PySem.W.Frag} {M M1:List MO} {p:Addr} {ds:List D} {vs:List V} (s:Stp L H L1 H1) (c:Cor K L M H) (c1:Cor K L1 M1 H1) (hp:H1 p = none) (r:zH L1 H1 ds vs) :
  zV H L1 (upd H1 p (.lst vs)) (.fl ds) (.ref p):=by
 obtain ⟨a,b⟩:=zLo s c c1 hp;exact ⟨p,vs,rfl,a,zo,b,r.stp (.upd hp)⟩
theorem zTT {pos} (h:QA X es g):QE X (.List es pos) (zAW g):=.mk <| PE.imp (zS9 h.un) fun τ H Q zz=>by
 obtain ⟨L,σ,M,d,M',c,rs,hf,q⟩:=zz;unfold zAW at hf;split at hf
 ·rename_i ds M1 e1;split at hf
  ·rename_i hz;cases hf;refine ⟨L,σ,M,_,_,c,rs,e1,fun L1 H1 vs s1 c1 r1=>⟨by rw [r1.length]; exact hz,fun p hp=>?_⟩⟩;exact q L1 _ _ (s1.trans (.upd hp)) (c1.upd hp) (zV.newLst s1 c c1 hp r1)
  ·cases hf
 ·cases hf
end
abbrev FAE:=Sd -> Mem -> Option (List EV × Mem)
def zB1 (H0:Hp) (L:List Addr) (H:Hp):List EV -> List V -> Prop
 | [],vs=>vs = []
 | e :: es,vs=>∃ v r,vs = v :: r /\ zV H0 L H e v /\ zB1 H0 L H es r
theorem Stp.sub (s:Stp L H L' H'):∀ a ∈ L,a ∈ L':=fun a h=>by
 obtain ⟨N,hN⟩:=s.pre;rw [hN]; exact zWK _ h
theorem zB1.back {H0 H1:Hp} {L0 L1 L:List Addr} {H:Hp} (s:Stp L0 H0 L1 H1) {M:List MO} {K:PySem.W.Frag} (c:Cor K L0 M H0) (hL:∀ a ∈ L1,a ∈ L):∀ {es:List EV} {vs:List V},zB1 H1 L H es vs -> zB1 H0 L H es vs
 | [],_,h=>h
 | e :: es,_,h=>by
  obtain ⟨v,r,rfl,h1,h2⟩:=h;exact ⟨v,r,rfl,h1.back s c hL,zB1.back s c hL h2⟩
def zTn (K:PySem.W.Frag) (f:FAE):TA:=fun τ H Q=>∃ L σ M ds M',Cor K L M H /\ zA2 L H σ τ /\ f σ M = some (ds,M') /\ ∀ L' H' vs,Stp L H L' H' -> Cor K L' M' H' -> zB1 H L' H' ds vs -> Q vs H'
structure QAE (X:Cx) (es:List Expr) (f:FAE):Prop where
 un:PA X es (zTn X.K f)
section
variable {X:Cx} {a b e:Expr} {es:List Expr} {pos:Pos}
def zh:FAE:=fun _ M=>some ([],M)
def zQ (f:FE) (g:FAE):FAE:=fun σ M=>match f σ M with
 | some (d,M1)=>match g σ M1 with
  | some (ds,M2)=>some (d :: ds,M2)
  | none=>none
 | none=>none
theorem zSU:QAE X [] zh:=.mk <| PA.imp zDw fun τ H Q zz=>by
 obtain ⟨L,σ,M,d,M',c,rs,hf,q⟩:=zz;unfold zh at hf;cases hf;exact q L H [] (.refl L H) c rfl
theorem zQY (h1:QE X e f) (h2:QAE X es g) (hs:starEach (e :: es) X.env = (false,eval e X.env) :: starEach es X.env:=by rfl):QAE X (e :: es) (zQ f g) :=
 .mk <| PA.imp (zB3 h1.un h2.un hs) fun τ H Q zz=>by
  obtain ⟨L,σ,M,d,M',c,rs,hf,q⟩:=zz;unfold zQ at hf;split at hf
  ·rename_i d1 M1 e1;split at hf
   ·rename_i ds M2 e2;cases hf;refine ⟨L,σ,M,_,_,c,rs,e1,fun L1 H1 v s1 c1 r1=>⟨L1,σ,M1,_,_,c1,rs.stp s1,e2,fun L2 H2 vs s2 c2 r2=>?_⟩⟩;exact q L2 H2 _ (s1.trans s2) c2 ⟨v,vs,rfl,r1.stp s2,r2.back s1 c s2.sub⟩
   ·cases hf
  ·cases hf
abbrev K2:=EV -> EV -> Mem -> Option (EV × Mem)
def zA3 (K:PySem.W.Frag) (r:R2) (k:K2):Prop:=∀ {L:List Addr} {M M':Mem} {H H0:Hp} {x y d:EV} {v w:V} {Q:VK},Cor K L M H -> zV H0 L H x v -> zV H0 L H y w -> k x y M = some (d,M') ->
 (∀ L' H' u,Stp L H L' H' -> Cor K L' M' H' -> zV H L' H' d u -> Q u H') -> r v w H Q
def fOp (k:K2) (f g:FE):FE:=fun σ M=>match f σ M with
 | some (x,M1)=>match g σ M1 with
  | some (y,M2)=>k x y M2
  | none=>none
 | none=>none
theorem zCZ {K:PySem.W.Frag} {r:R2} {k:K2} {f g:FE} (hk:zA3 K r k) {τ:Sv} {H:Hp} {Q:VK} (h:trE K (fOp k f g) τ H Q):tOp r (trE K f) (trE K g) τ H Q:=by
 obtain ⟨L,σ,M,d,M',c,rs,hf,q⟩:=h;unfold fOp at hf;split at hf
 ·rename_i x M1 e1;split at hf
  ·rename_i y M2 e2;refine ⟨L,σ,M,_,_,c,rs,e1,fun L1 H1 v s1 c1 r1=>⟨L1,σ,M1,_,_,c1,rs.stp s1,e2,fun L2 H2 w s2 c2 r2=>?_⟩⟩;refine hk (H0:=H) c2 (r1.stp s2) (r2.back s1 c s2.sub) hf fun L3 H3 u s3 c3 r3=>?_;exact q L3 H3 u ((s1.trans s2).trans s3) c3 (r3.back (s1.trans s2) c s3.sub)
  ·cases hf
 ·cases hf
theorem zKs (hk:zA3 X.K r k) (ho:OpR X (binaryOp op) r) (h1:QE X a f) (h2:QE X b g):QE X (.BinOp a op b pos) (fOp k f g):=.mk <| PE.imp (zTQ ho h1.un h2.un) fun _ _ _ h=>zCZ hk h
theorem zT4 (hk:zA3 X.K r k) (ho:OpR X (compareOp op) r) (h1:QE X a f) (h2:QE X b g) (hm:behindInMarks op b = false):QE X (.Compare a [op] [b] pos) (fOp k f g) :=
 .mk <| PE.imp (zRK ho h1.un h2.un hm) fun _ _ _ h=>zCZ hk h
def tst (f:FE):FT:=fun σ M=>match f σ M with
 | some (.dat (.bl c),M')=>some (c,M')
 | _=>none
theorem zDQ {K:PySem.W.Frag} {f:FE} {τ:Sv} {H:Hp} {Q:Bool -> Hp -> Prop} (h:trT K (tst f) τ H Q):zLP (trE K f) τ H Q:=by
 obtain ⟨L,σ,M,d,M',c,rs,hf,q⟩:=h;unfold tst at hf;split at hf
 ·rename_i k M1 e1;cases hf;refine ⟨L,σ,M,_,_,c,rs,e1,fun L1 H1 v s1 c1 r1=>?_⟩;have:v = .bl d:=by unfold zV Rep at r1; exact r1
  exact ⟨d,this,q L1 H1 s1 c1⟩
 ·cases hf
theorem zDn (h:∀ τ H Q,t τ H Q -> t' τ H Q) (q:zLP t τ H Q):zLP t' τ H Q:=h _ _ _ q
theorem zDl {op:CmpOp} {r:R2} {k:K2} {f g:FE} (hk:zA3 X.K r k) (ho:OpR X (compareOp op) r) (h1:QE X a f) (h2:QE X b g) (hm:behindInMarks op b = false):QT X (.Compare a [op] [b] pos) (tst (fOp k f g)) :=
 .mk <| PT.imp (zPk ho h1.un h2.un hm) fun _ _ _ h=>zDn (fun _ _ _ z=>zCZ hk z) (zDQ h)
theorem zTA (h:QE X e f) (he:∀ whole,isTrue e X.env whole = (do let v <- whole; standAt e.pos; holding [v] (truthy v)):=by intro _; rfl):QT X e (tst f) :=
 .mk <| PT.imp (zRp h.un he) fun _ _ _ h=>zDQ h
def kI (C:Int -> Int -> Bool) (g:Int -> Int -> D):K2:=fun x y M=>match x,y with
 | .dat (.int i),.dat (.int j)=>if C i j then some (.dat (g i j),M) else none
 | _,_=>none
def kI0 (g:Int -> Int -> D):K2:=kI (fun _ _=>true) g
theorem zJU {K:PySem.W.Frag} {C:Int -> Int -> Bool} {C':Int -> Int -> Prop} {g:Int -> Int -> D} {g':Int -> Int -> V} (hC:∀ i j,C i j = true -> C' i j) (hg:∀ L H i j,Rep L H (g i j) (g' i j)):zA3 K (rI C' g') (kI C g):=by
 intro L M M' H H0 x y d v w Q c rx ry hk q;unfold kI at hk;split at hk
 ·rename_i i j;split at hk
  ·rename_i hc;cases hk;refine ⟨i,j,by unfold zV Rep at rx; exact rx,by unfold zV Rep at ry; exact ry,hC i j hc,q L H _ (.refl L H) c (hg L H i j)⟩
  ·cases hk
 ·cases hk
theorem zCG {K:PySem.W.Frag} {g:Int -> Int -> D} {g':Int -> Int -> V} (hg:∀ L H i j,Rep L H (g i j) (g' i j)):zA3 K (rI0 g') (kI0 g):=by
 intro L M M' H H0 x y d v w Q c rx ry hk q;obtain ⟨i,j,h1,h2,_,h4⟩:=zJU (C:=fun _ _=>true) (C':=fun _ _=>True) (fun _ _ _=>trivial) hg c rx ry hk q;exact ⟨i,j,h1,h2,h4⟩
theorem z0:Rep L H (.int i) (.int i):=by unfold Rep; rfl
theorem zAc:Rep L H (.bl i) (.bl i):=by unfold Rep; rfl
def zL9 (i j:Int):Bool:=(decide (-(2 ^ 64) < i) && decide (i < 2 ^ 64)) || (decide (-(2 ^ 64) < j) && decide (j < 2 ^ 64))
abbrev zUe:K2:=kI0 fun i j=> .int (i + j)
abbrev zKC:K2:=kI0 fun i j=> .int (i - j)
abbrev zMc:K2:=kI zL9 fun i j=> .int (i * j)
abbrev zEV:K2:=kI (fun _ j=>decide (0 < j)) fun i j=> .int (i % j)
abbrev zLi:K2:=kI (fun _ j=>decide (0 < j) && decide (j < 1073741824)) fun i j=> .int (i / j)
abbrev zOn:K2:=kI (fun i j=>decide (0 <= j) && decide (j <= 1000000) && decide (i.natAbs < 2 ^ 64)) fun i j=> .int (i ^ j.toNat)
abbrev kLt:K2:=kI0 fun i j=> .bl (decide (i < j))
abbrev kLe:K2:=kI0 fun i j=> .bl (decide (i <= j))
abbrev kGt:K2:=kI0 fun i j=> .bl (decide (j < i))
abbrev kGe:K2:=kI0 fun i j=> .bl (decide (j <= i))
section
variable {f g:FE}
theorem zUR (h1:QE X a f) (h2:QE X b g):QE X (.BinOp a .Sub b pos) (fOp zKC f g):=zKs (zCG fun _ _ _ _=>z0) zSw h1 h2
theorem zUL (h1:QE X a f) (h2:QE X b g):QE X (.BinOp a .Mult b pos) (fOp zMc f g):=zKs (zJU (fun i j h=>by
 unfold zL9 at h;simp only [Bool.or_eq_true,zVf,zWI] at h;exact h) fun _ _ _ _=>z0) zRm h1 h2
theorem zT6 (h1:QE X a f) (h2:QE X b g):QE X (.BinOp a .Mod b pos) (fOp zEV f g):=zKs (zJU (fun i j h=>zV1 h) fun _ _ _ _=>z0) zSl h1 h2
theorem zTe (h1:QE X a f) (h2:QE X b g):QE X (.BinOp a .FloorDiv b pos) (fOp zLi f g):=zKs (zJU (fun i j h=>by
 simp only [zVf,zWI] at h;exact h) fun _ _ _ _=>z0) zP5 h1 h2
theorem zTg (h1:QE X a f) (h2:QE X b g):QE X (.BinOp a .Pow b pos) (fOp zOn f g):=zKs (zJU (fun i j h=>by
 simp only [zVf,zWI] at h;exact ⟨h.1.1,h.1.2,h.2⟩) fun _ _ _ _=>z0) zSN h1 h2
theorem zTa (h1:QE X a f) (h2:QE X b g):QT X (.Compare a [.Lt] [b] pos) (tst (fOp kLt f g)):=zDl (zCG fun _ _ _ _=>zAc) zLA h1 h2 (zC0 _)
theorem zTP (h1:QE X a f) (h2:QE X b g):QT X (.Compare a [.Gt] [b] pos) (tst (fOp kGt f g)):=zDl (zCG fun _ _ _ _=>zAc) zUN h1 h2 (zC0 _)
theorem zTd (h1:QE X a f) (h2:QE X b g):QT X (.Compare a [.GtE] [b] pos) (tst (fOp kGe f g)):=zDl (zCG fun _ _ _ _=>zAc) zUI h1 h2 (zC0 _)
end
end
def zAk (M:Mem):EV -> Option (List D)
 | .fl xs=>some xs
 | .dat (.ref n)=>match M[n]? with
  | some (.lst xs)=>some xs
  | some (.fro xs)=>some xs
  | _=>none
 | _=>none
def zCB:EV -> Option (List D)
 | .dat (.tup xs)=>some xs
 | _=>none
def zAR (M:Mem) (x:EV):Option (List D):=match zCB x with
 | some xs=>some xs
 | none=>zAk M x
theorem zAS {K:PySem.W.Frag} {L:List Addr} {M:Mem} {H H0:Hp} {x:EV} {v:V} {xs:List D} (c:Cor K L M H) (r:zV H0 L H x v) (h:zAk M x = some xs):∃ a vs,v = .ref a /\ Rd H a (.lst vs) /\ zH L H xs vs:=by
 cases x with
 | fl ys=>
  cases h;obtain ⟨p,vs,rfl,_,e,_,r⟩:=r;exact ⟨p,vs,rfl,.inl e,r⟩
 | dat d=>
  cases d with
  | ref n=>
   unfold zV Rep at r;obtain ⟨a,rfl,e⟩:=r;unfold zAk at h;dsimp only at h;cases q:M[n]? with
   | none=>rw [q] at h; cases h
   | some m=>
    rw [q] at h;have z:=c.obj n a m e q;cases m with
    | lst ys=>cases h; obtain ⟨vs,e1,r1⟩:=z; exact ⟨a,vs,rfl,.inl e1,r1⟩
    | fro ys=>cases h; obtain ⟨o,vs,e1,r1⟩:=z; exact ⟨a,vs,rfl,.inr ⟨o,e1⟩,r1⟩
    | dict _=>cases h
    | dicT _=>cases h
    | set _=>cases h
  | _=>cases h
theorem zA5 {L:List Addr} {H H0:Hp} {x:EV} {v:V} {xs:List D} (r:zV H0 L H x v) (h:zCB x = some xs):∃ a vs,v = .ref a /\ H a = some (.tup vs) /\ zH L H xs vs:=by
 cases x with
 | fl ys=>cases h
 | dat d=>
  cases d with
  | tup ys=>cases h; unfold zV Rep at r; exact r
  | _=>cases h
theorem zK8 {K:PySem.W.Frag} {L:List Addr} {M:Mem} {H H0:Hp} {x:EV} {v:V} {xs:List D} (c:Cor K L M H) (r:zV H0 L H x v) (h:zAR M x = some xs):∃ a vs,v = .ref a /\ (SqL K H a vs \/ SqT K H a vs) /\ zH L H xs vs:=by
 unfold zAR at h;cases q:zCB x with
 | some ys=>
  rw [q] at h; cases h;obtain ⟨a,vs,e,h1,h2⟩:=zA5 r q;exact ⟨a,vs,e,.inr (.of h1),h2⟩
 | none=>
  rw [q] at h;obtain ⟨a,vs,e,h1,h2⟩:=zAS c r h;exact ⟨a,vs,e,.inl (.inl h1),h2⟩
theorem zSE {L:List Addr} {H:Hp} {xs:List D} {vs:List V} {i:Int} {d:D} (r:zH L H xs vs) (h:atI xs i = some d):∃ v,atI vs i = some v /\ Rep L H d v:=by
 unfold atI at h ⊢;rw [r.length];cases q:ixN xs.length i with
 | none=>rw [q] at h; cases h
 | some j=>rw [q] at h; exact r.get h
theorem zQ8 {L:List Addr} {H:Hp} {i:Str}:Rep L H (.str i) (.str i):=by unfold Rep; rfl
def kIx:K2:=fun x y M=>match y with
 | .dat (.int i)=>match zAR M x with
  | some xs=>match atI xs i with
   | some d=>some (.dat d,M)
   | none=>none
  | none=>match x with
   | .dat (.str z)=>if z.length <= sizeLine then match atI z.cps.toList i with
     | some c=>some (.dat (.str ⟨#[c]⟩),M)
     | none=>none
    else none
   | _=>none
 | _=>none
theorem zRv {K:PySem.W.Frag}:zA3 K (rIx K) kIx:=by
 intro L M M' H H0 x y d v w Q c rx ry hk q;unfold kIx at hk;split at hk
 ·rename_i i;have ew:w = .int i:=by unfold zV Rep at ry; exact ry
  split at hk
  ·rename_i xs e1;split at hk
   ·rename_i d' e2;cases hk;obtain ⟨a,vs,rfl,hs,r⟩:=zK8 c rx e1;obtain ⟨u,e3,r3⟩:=zSE r e2;rcases hs with hs | hs
    ·exact .inl ⟨a,vs,i,u,rfl,ew,hs,e3,q L H u (.refl L H) c r3⟩
    ·exact .inr (.inl ⟨a,vs,i,u,rfl,ew,hs,e3,q L H u (.refl L H) c r3⟩)
   ·cases hk
  ·split at hk
   ·rename_i z _;split at hk
    ·rename_i hz;split at hk
     ·rename_i ch e2;cases hk;have ev:v = .str z:=by unfold zV Rep at rx; exact rx
      exact .inr (.inr ⟨z,i,ch,ev,ew,hz,e2,q L H _ (.refl L H) c (zQ8 (L:=L) (H:=H))⟩)
     ·cases hk
    ·cases hk
   ·cases hk
 ·cases hk
section
variable {prog:Program} {w:World} {A:Around} {E:Value -> Shared -> Prop} {s:Shared}
theorem zJ9 {t sl:Addr} {items:Array Value} {vl vu:Value} {lo hi:Option Int} {Q:Value -> Shared -> Prop} (T:IsTup s.heap t items) (S:s.heap.IsSliceOf sl vl vu .none) (pl:IsPart vl lo) (pu:IsPart vu hi)
  (h1:HT.sIx items.size 0 lo = 0) (h2:HT.sIx items.size items.size hi = items.size) (h:Q (.ref t) s):wpAny (model prog w) A (getItem (.ref t) (.ref sl)) Q E s:=by
 obtain ⟨o,O,C,G⟩:=id S;have TS:s.TypeIs (.ref sl) "slice" := ⟨o,O,C⟩;unfold getItem;try with_reducible refine zVy ?_
 first | refine zU5 (zU7 ?_) | skip
 refine zU5 (wpAny_sequenceKey T.typeIs (by decide) ?_);refine zU5 (zVh (name:=Str.ofString "__getitem__") T.typeIs zWd (zVi zWd T.typeIs entry_tuple_getitem ?_ (args_tuple_getitem _ _)));refine zU5 (m:=Builtin.Tuple.tupleItemsOf (.ref t)) (tupleItemsOf_ T (zU5 (wpAny_typeOf TS ?_)));rw [zVK (by decide)];refine zU5 (HT.zCX S pl pu ?_);rw [h1,h2];show wpAny _ _ (if ((((0:Nat):Int) == 0 && (1:Int) == 1 && (items.size - 0) == items.size)) = true then _ else _) _ _ s;rw [zVK (by simp)];unfold Builtin.Tuple.tupleIsExact;refine zU5 (zU5 (wpAny_typeOf T.typeIs (zU7 ?_)));rw [zVK (by decide)];exact zU5 (wpAny_rule (zU7 ⟨_,rfl,zU7 h⟩))
end
def zUr (K:PySem.W.Frag):V -> Option Int -> Option Int -> Hp -> VK -> Prop:=fun x lo hi H Q=>∃ a xs,x = .ref a /\ SqT K H a xs /\ (HT.sIx xs.length 0 lo = 0 /\ HT.sIx xs.length xs.length hi = xs.length) /\ Q (.ref a) H
theorem zQk {X:Cx}:SlR X (zUr X.K):=by
 intro zB s σ H x v vl vu lo hi sl Q I rx hs pl pu h;obtain ⟨a,xs,rfl,hx,hw,q⟩:=h;cases rx;obtain ⟨its,r,ht,hz⟩:=I.tuple hx;have hlen:its.toArray.size = xs.length:=by rw [zVD]; exact r.length.symm
 exact ⟨"tuple", _,zWd.lookup,ht.typeIs,zJ9 ht hs pl pu (by rw [hlen]; exact hw.1) (by rw [hlen]; exact hw.2) ⟨.ref a,H,I,rfl,q⟩⟩
section
variable {X:Cx} {a b e:Expr} {es:List Expr} {pos:Pos} {f g:FE}
theorem zUp (h1:QE X a f) (h2:QE X b g) (hs:zLc b:=by intro _ _; rfl):QE X (.Subscript a b pos) (fOp kIx f g):=.mk <| PE.imp (zTw zTH h1.un h2.un hs) fun _ _ _ h=>zCZ zRv h
abbrev FO:=Sd -> Mem -> Option (Option Int × Mem)
def trO (K:PySem.W.Frag) (f:FO):TO:=fun τ H Q=>∃ L σ M d M',Cor K L M H /\ zA2 L H σ τ /\ f σ M = some (d,M') /\ ∀ L' H',Stp L H L' H' -> Cor K L' M' H' -> Q d H'
structure QO (X:Cx) (e:Option Expr) (f:FO):Prop where
 un:PO X e (trO X.K f)
def zEq:FO:=fun _ M=>some (none,M)
def zEH (f:FE):FO:=fun σ M=>match f σ M with
 | some (.dat (.int i),M')=>some (some i,M')
 | _=>none
theorem PO.imp {e:Option Expr} {t t':TO} (h:PO X e t) (hi:∀ τ H Q,t' τ H Q -> t τ H Q):PO X e t':=fun zB s σ H Q I q=>h zB s σ H Q I (hi _ _ _ q)
theorem zQI:QO X none zEq:=.mk <| PO.imp zPz fun τ H Q zz=>by
 obtain ⟨L,σ,M,d,M',c,rs,hf,q⟩:=zz;unfold zEq at hf;cases hf;exact q L H (.refl L H) c
theorem zQK (h:QE X e f):QO X (some e) (zEH f):=.mk <| PO.imp (zQB h.un) fun τ H Q zz=>by
 obtain ⟨L,σ,M,d,M',c,rs,hf,q⟩:=zz;unfold zEH at hf;split at hf
 ·rename_i i M1 e1;cases hf;refine ⟨L,σ,M,_,_,c,rs,e1,fun L1 H1 v s1 c1 r1=>?_⟩;exact ⟨i,by unfold zV Rep at r1; exact r1,q L1 H1 s1 c1⟩
 ·cases hf
def zE4 (xs:List D) (lo hi:Option Int):List D:=(xs.drop (HT.sIx xs.length 0 lo)).take (HT.sIx xs.length xs.length hi - HT.sIx xs.length 0 lo)
theorem zLD {L:List Addr} {H:Hp} {xs:List D} {vs:List V} {lo hi:Option Int} (r:zH L H xs vs):zH L H (zE4 xs lo hi) (zIn vs lo hi):=by
 unfold zE4 zIn;rw [r.length];exact (r.drop _).take _
def kSl (x:EV) (lo hi:Option Int) (M:Mem):Option (EV × Mem):=match zCB x with
 | some xs=>some (.dat (.tup (zE4 xs lo hi)),M)
 | none=>match zAk M x with
  | some xs=>some (.fl (zE4 xs lo hi),M)
  | none=>none
def fSl (f:FE) (fl fh:FO):FE:=fun σ M=>match f σ M with
 | some (x,M1)=>match fl σ M1 with
  | some (lo,M2)=>match fh σ M2 with
   | some (hi,M3)=>kSl x lo hi M3
   | none=>none
  | none=>none
 | none=>none
theorem zQG {lo hi:Option Expr} {p2:Pos} {fl fh:FO} (h:QE X e f) (hl:QO X lo fl) (hh:QO X hi fh):QE X (.Subscript e (.Slice lo hi none p2) pos) (fSl f fl fh) :=
 .mk <| PE.imp (zNb (SlR.or zQ0 (SlR.or zSH zQk)) h.un hl.un hh.un) fun τ H Q zz=>by
  obtain ⟨L,σ,M,d,M',c,rs,hf,q⟩:=zz;unfold fSl at hf;split at hf
  ·rename_i x M1 e1;split at hf
   ·rename_i l M2 e2;split at hf
    ·rename_i u M3 e3;refine ⟨L,σ,M,_,_,c,rs,e1,fun L1 H1 v s1 c1 r1=>⟨L1,σ,M1,_,_,c1,rs.stp s1,e2,fun L2 H2 s2 c2=>⟨L2,σ,M2,_,_,c2,rs.stp (s1.trans s2),e3,fun L3 H3 s3 c3=>?_⟩⟩⟩;have s:=(s1.trans s2).trans s3;have r3:zV H L3 H3 x v:=(r1.stp s2).stp s3;unfold kSl at hf;cases t:zCB x with
     | some xs=>
      rw [t] at hf;dsimp only at hf;cases hf;obtain ⟨a,vs,rfl,e4,r4⟩:=zA5 r3 t;by_cases hw:HT.sIx vs.length 0 l = 0 /\ HT.sIx vs.length vs.length u = vs.length
      ·refine .inr (.inr ⟨a,vs,rfl,.of e4,hw,?_⟩);have ec:zE4 xs l u = xs:=by
        unfold zE4;rw [<- r4.length,hw.1,hw.2,r4.length];simp
       rw [ec] at q;refine q L3 H3 _ s c3 ?_;unfold zV Rep;exact ⟨a,vs,rfl,e4,r4⟩
      ·refine .inr (.inl ⟨a,vs,rfl,.of e4,hw,fun p hp=>?_⟩);exact q L3 _ _ (s.trans (.upd hp)) (c3.upd hp) (Rep.newTup hp (zLD r4))
     | none=>
      rw [t] at hf;dsimp only at hf;split at hf
      ·rename_i xs e4;cases hf;obtain ⟨a,vs,rfl,e5,r5⟩:=zAS c3 r3 e4;refine .inl ⟨a,vs,rfl,.inl e5,fun p hp=>?_⟩;exact q L3 _ _ (s.trans (.upd hp)) (c3.upd hp) (zV.newLst s c c3 hp (zLD r5))
      ·cases hf
    ·cases hf
   ·cases hf
  ·cases hf
abbrev KB:=List EV -> Mem -> Option (EV × Mem)
def zE6 (K:PySem.W.Frag) (r:List V -> Hp -> VK -> Prop) (k:KB):Prop:=∀ {L:List Addr} {M M':Mem} {H H0:Hp} {xs:List EV} {d:EV} {vs:List V} {Q:VK},Cor K L M H -> zB1 H0 L H xs vs -> k xs M = some (d,M') ->
 (∀ L' H' u,Stp L H L' H' -> Cor K L' M' H' -> zV H L' H' d u -> Q u H') -> r vs H Q
def fB (k:KB) (f:FAE):FE:=fun σ M=>match f σ M with
 | some (xs,M1)=>k xs M1
 | none=>none
theorem zOY {K:PySem.W.Frag} {r:List V -> Hp -> VK -> Prop} {k:KB} {f:FAE} (hk:zE6 K r k) {τ:Sv} {H:Hp} {Q:VK} (h:trE K (fB k f) τ H Q):tCB r (zTn K f) τ H Q:=by
 obtain ⟨L,σ,M,d,M',c,rs,hf,q⟩:=h;unfold fB at hf;split at hf
 ·rename_i xs M1 e1;refine ⟨L,σ,M,_,_,c,rs,e1,fun L1 H1 vs s1 c1 r1=>?_⟩;refine hk c1 r1 hf fun L2 H2 u s2 c2 r2=>?_;exact q L2 H2 u (s1.trans s2) c2 (r2.back s1 c s2.sub)
 ·cases hf
theorem zB1.one {H0:Hp} {L:List Addr} {H:Hp} {x:EV} {vs:List V} (h:zB1 H0 L H [x] vs):∃ v,vs = [v] /\ zV H0 L H x v:=by
 obtain ⟨v,r,rfl,h1,h2⟩:=h;unfold zB1 at h2;subst h2;exact ⟨v,rfl,h1⟩
def zBQ:KB:=fun xs M=>match xs with
 | [x]=>match zAR M x with
  | some ys=>some (.dat (.int ys.length),M)
  | none=>none
 | _=>none
theorem zPo:zE6 X.K (fun xs H Q=>∃ p ys,xs = [.ref p] /\ (SqL X.K H p ys \/ SqT X.K H p ys) /\ Q (.int ys.length) H) zBQ:=by
 intro L M M' H H0 xs d vs Q c r hk q;unfold zBQ at hk;split at hk
 ·rename_i x;split at hk
  ·rename_i ys e1;cases hk;obtain ⟨v,rfl,r1⟩:=r.one;obtain ⟨a,ws,rfl,hs,r2⟩:=zK8 c r1 e1;refine ⟨a,ws,rfl,hs,q L H _ (.refl L H) c ?_⟩;rw [r2.length]; exact (z0 (L:=L) (H:=H))
  ·cases hk
 ·cases hk
theorem zCh {x:Str} {p:Pos} {id:String} {r:List V -> Hp -> VK -> Prop} {k:KB} {f:FAE} (hk:zE6 X.K r k) (hc:zBX X (.builtin id) r) (hv:bootBuiltins x = some (.builtin id)) (hg:Gl X x) (hm:X.mg x = none) (ha:QAE X (e :: es) f) (hn:x ≠ "__name__" := by decide) (hdb:(x == ("__debug__" : Str)) = false:=by decide)
  (he:starEach (e :: es) X.env = (false,eval e X.env) :: starEach es X.env:=by rfl) (hpl:(backTo pos (starEach es X.env)).any (·.1) = false:=by rfl):QE X (.Call (.Name x p) (e :: es) [] pos) (fB k f) :=
 .mk <| PE.imp (zIZ hc hg hm hv ha.un hn hdb he hpl) fun _ _ _ h=>zOY hk h
theorem zIc {x:Str} {p:Pos} {T:String} {r:List V -> Hp -> VK -> Prop} {k:KB} {f:FAE} (hk:zE6 X.K r k) (hc:zBX X (.type T) r) (hv:bootBuiltins x = some (.type T)) (hg:Gl X x) (hm:X.mg x = none) (ha:QAE X (e :: es) f) (hn:x ≠ "__name__" := by decide) (hdb:(x == ("__debug__" : Str)) = false:=by decide)
  (he:starEach (e :: es) X.env = (false,eval e X.env) :: starEach es X.env:=by rfl) (hpl:(backTo pos (starEach es X.env)).any (·.1) = false:=by rfl):QE X (.Call (.Name x p) (e :: es) [] pos) (fB k f) :=
 .mk <| PE.imp (zCO hc hg hm hv ha.un hn hdb he hpl) fun _ _ _ h=>zOY hk h
def zBm:KB:=fun xs M=>match xs with
 | [x]=>match zAR M x with
  | some ys=>some (.dat (.tup ys),M)
  | none=>none
 | _=>none
theorem zMg:zE6 X.K (fun xs H Q=>∃ p ys,xs = [.ref p] /\ ((SqL X.K H p ys /\ ∀ l,H l = none -> Q (.ref l) (upd H l (.tup ys))) \/ (SqT X.K H p ys /\ Q (.ref p) H))) zBm:=by
 intro L M M' H H0 xs d vs Q c r hk q;unfold zBm at hk;split at hk
 ·rename_i x;split at hk
  ·rename_i ys e1;cases hk;obtain ⟨v,rfl,r1⟩:=r.one;unfold zAR at e1;cases t:zCB x with
   | some zs=>
    rw [t] at e1; cases e1;obtain ⟨a,ws,rfl,e2,r2⟩:=zA5 r1 t;refine ⟨a,ws,rfl,.inr ⟨.of e2,q L H _ (.refl L H) c ?_⟩⟩;unfold zV Rep;exact ⟨a,ws,rfl,e2,r2⟩
   | none=>
    rw [t] at e1;obtain ⟨a,ws,rfl,e2,r2⟩:=zAS c r1 e1;refine ⟨a,ws,rfl,.inl ⟨.inl e2,fun p hp=>?_⟩⟩;exact q L _ _ (.upd hp) (c.upd hp) (Rep.newTup hp r2)
  ·cases hk
 ·cases hk
end
set_option genInjectivity true in
inductive Out where
 | nx | ret (d:D) | brk | cnt
abbrev FS:=Sd -> Mem -> Option (Out × Sd × Mem)
def zTK (E:Ends) (L:List Addr) (H:Hp) (σ:Sd):Out -> Prop
 | .nx=>∀ τ,zA2 L H σ τ -> E.nx τ H
 | .ret d=>∀ v,Rep L H d v -> E.rt v H
 | .brk=>∀ τ,zA2 L H σ τ -> E.bk τ H
 | .cnt=>∀ τ,zA2 L H σ τ -> E.ct τ H
def trS (K:PySem.W.Frag) (f:FS):TS:=fun E τ H=>∃ L σ M o σ' M',Cor K L M H /\ zA2 L H σ τ /\ f σ M = some (o,σ',M') /\ ∀ L' H',Stp L H L' H' -> Cor K L' M' H' -> zTK E L' H' σ' o
structure QS (X:Cx) (st:Stmt) (f:FS):Prop where
 un:PS X st (trS X.K f)
structure QSs (X:Cx) (st:List Stmt) (f:FS):Prop where
 un:PSs X st (trS X.K f)
theorem zA2.set (h:zA2 L H σ τ) (r:Rep L H d v):zA2 L H (σ.set i (some d)) (τ.set i (some v)):=by
 refine ⟨by simp [h.1],fun j e q=>?_⟩;rw [zWe] at q ⊢;split at q
 ·rename_i z;subst z;split at q
  ·rename_i hl;cases q;rw [zVK rfl,zVK (by rw [h.1]; exact hl)];exact ⟨v,rfl,r⟩
  ·cases q
 ·rename_i z;rw [zVN z];exact h.2 j e q
theorem zJQ {K:PySem.W.Frag} {f:FE} {τ:Sv} {H:Hp} {Q:VK} (h:trD K (toD f) τ H Q):trE K f τ H Q:=by
 obtain ⟨L,σ,M,d,M',c,rs,hf,q⟩:=h;unfold toD at hf;split at hf
 ·rename_i d' M1 e1;cases hf;exact ⟨L,σ,M,_,_,c,rs,e1,fun L' H' v s c' r=>q L' H' v s c' r⟩
 ·rename_i xs M1 e1;cases hf;refine ⟨L,σ,M,_,_,c,rs,e1,fun L' H' v s c' r=>?_⟩;obtain ⟨p,vs,rfl,e0,e2,e3,r⟩:=r;obtain ⟨c2,s2⟩:=zRT s c' e0 e2 e3 r;exact q _ H' _ s2 c2 (Rep.last c')
 ·cases hf
def zBM:FS:=fun σ M=>some (.nx,σ,M)
def zO (f g:FS):FS:=fun σ M=>match f σ M with
 | some (.nx,σ1,M1)=>g σ1 M1
 | r=>r
def sIf (c:FT) (f g:FS):FS:=fun σ M=>match c σ M with
 | some (true,M1)=>f σ M1
 | some (false,M1)=>g σ M1
 | none=>none
def zw (f:FE):FS:=fun σ M=>match toD f σ M with
 | some (d,M1)=>some (.ret d,σ,M1)
 | none=>none
def zx (i:Nat) (f:FE):FS:=fun σ M=>match toD f σ M with
 | some (d,M1)=>some (.nx,σ.set i (some d),M1)
 | none=>none
def zAj (f:FE):FS:=fun σ M=>match f σ M with
 | some (_,M1)=>some (.nx,σ,M1)
 | none=>none
section
variable {X:Cx} {st:Stmt} {rest:List Stmt} {e c:Expr} {pos:Pos}
theorem zSC:QSs X [] zBM:=.mk <| PSs.imp zPs fun E τ H zz=>by
 obtain ⟨L,σ,M,o,σ',M',c,rs,hf,q⟩:=zz;unfold zBM at hf;cases hf;exact q L H (.refl L H) c τ rs
theorem zQF (h1:QS X st f) (h2:QSs X rest g):QSs X (st :: rest) (zO f g):=.mk <| PSs.imp (zPV h1.un h2.un) fun E τ H zz=>by
 obtain ⟨L,σ,M,o,σ',M',c,rs,hf,q⟩:=zz;unfold zO at hf;split at hf
 ·rename_i σ1 M1 e1;refine ⟨L,σ,M,_,_,_,c,rs,e1,fun L1 H1 s1 c1 τ1 r1=>⟨L1,σ1,M1,_,_,_,c1,r1,hf,fun L2 H2 s2 c2=>q L2 H2 (s1.trans s2) c2⟩⟩
 ·rename_i hne;refine ⟨L,σ,M,_,_,_,c,rs,hf,fun L1 H1 s1 c1=>?_⟩;have z:=q L1 H1 s1 c1;cases o with
  | nx=>exact absurd hf (hne σ' M')
  | ret d=>exact z
  | brk=>exact z
  | cnt=>exact z
theorem zSL (h1:QS X st f):QSs X [st] f:=.mk <| PSs.imp (zPr h1.un) fun _ _ _ h=>h
theorem zUy (hc:QT X c fc) (ha:QSs X a f) (hb:QSs X b g):QS X (.If c a b pos) (sIf fc f g):=.mk <| PS.imp (zTi hc.un ha.un hb.un) fun E τ H zz=>by
 obtain ⟨L,σ,M,o,σ',M',c,rs,hf,q⟩:=zz;unfold sIf at hf;split at hf
 ·rename_i M1 e1;refine ⟨L,σ,M,_,_,c,rs,e1,fun L1 H1 s1 c1=>?_⟩;exact zEf ⟨L1,σ,M1,_,_,_,c1,rs.stp s1,hf,fun L2 H2 s2 c2=>q L2 H2 (s1.trans s2) c2⟩
 ·rename_i M1 e1;refine ⟨L,σ,M,_,_,c,rs,e1,fun L1 H1 s1 c1=>?_⟩;exact zEi ⟨L1,σ,M1,_,_,_,c1,rs.stp s1,hf,fun L2 H2 s2 c2=>q L2 H2 (s1.trans s2) c2⟩
 ·cases hf
theorem zTv (h:QE X e f):QS X (.Return (some e) pos) (zw f):=.mk <| PS.imp (zSi (zBb h).un) fun E τ H zz=>by
 obtain ⟨L,σ,M,o,σ',M',c,rs,hf,q⟩:=zz;unfold zw at hf;split at hf
 ·rename_i d M1 e1;cases hf;exact ⟨L,σ,M,_,_,c,rs,e1,fun L1 H1 v s1 c1 r1=>q L1 H1 s1 c1 v r1⟩
 ·cases hf
theorem zFz {K:PySem.W.Frag} {i:Nat} {f:FE} {t:TE} (ht:∀ τ H Q,trE K f τ H Q -> t τ H Q) {E:Ends} {τ:Sv} {H:Hp} (h:trS K (zx i f) E τ H):zO9 t (zBE i) E τ H:=by
 obtain ⟨L,σ,M,o,σ',M',c,rs,hf,q⟩:=h;unfold zx at hf;split at hf
 ·rename_i d M1 e1;cases hf;exact ht _ _ _ (zJQ ⟨L,σ,M,_,_,c,rs,e1,fun L1 H1 v s1 c1 r1=>q L1 H1 s1 c1 _ ((rs.stp s1).set r1)⟩)
 ·cases hf
theorem zTk {i:Nat} {x:Str} {f:FE} {pos':Pos} (hN:X.N.Nodup) (hi:X.N[i]? = some x) (hx:Loc X.env.scope x) (h:QE X e f) (hs:swapsWith e (some (.Name x pos')) pos.line X.env = pure false:=by rfl)
  (hf:X.fn x = true \/ X.env.scope.names.lookup x = some .local:=by first | exact .inl rfl | exact .inr rfl | assumption):QS X (.Assign [.Name x pos'] e pos) (zx i f) :=
 .mk <| PS.imp (zS0 hN hi hx h.un hs hf) fun _ _ _ z=>zFz (fun _ _ _ z=>z) z
theorem zRh (h:QE X e f) (hs:swapsWith e none pos.line X.env = pure false:=by rfl):QS X (.Expr e pos) (zAj f):=.mk <| PS.imp (zQz h.un hs) fun E τ H zz=>by
 obtain ⟨L,σ,M,o,σ',M',c,rs,hf,q⟩:=zz;unfold zAj at hf;split at hf
 ·rename_i d M1 e1;cases hf;exact ⟨L,σ,M,_,_,c,rs,e1,fun L1 H1 v s1 c1 r1=>q L1 H1 s1 c1 τ (rs.stp s1)⟩
 ·cases hf
abbrev FG:=D -> Sd -> Option Sd
def GOk (g:TG) (fg:FG):Prop:=∀ {L:List Addr} {H:Hp} {σ σ':Sd} {τ:Sv} {d:D} {v:V} {Q:Sv -> Hp -> Prop},zA2 L H σ τ -> Rep L H d v -> fg d σ = some σ' -> (∀ τ',zA2 L H σ' τ' -> Q τ' H) -> g v τ H Q
def gN (i:Nat):FG:=fun d σ=>some (σ.set i (some d))
theorem zOp:GOk (zBE i) (gN i):=by
 intro L H σ σ' τ d v Q rs r hf q;unfold gN at hf;cases hf;exact q _ (rs.set r)
abbrev FI:=Sd -> Mem -> Option (List D × Option (Mem -> Prop) × Mem)
def zAX (g:Option (Mem -> Prop)) (xs:List D) (M:Mem):Prop:=match g with
 | none=>True
 | some p=>p M
def zUW (K:PySem.W.Frag) (J:It) (L:List Addr) (H:Hp) (xs:List D) (g:Option (Mem -> Prop)):Prop:=∀ L' H' M',Stp L H L' H' -> Cor K L' M' H' -> zAX g xs M' ->
 (∀ (i:Nat) d,xs[i]? = some d -> J.go i H' /\ ∀ v H'',J.yld i H' v H'' -> (∀ a o,H' a = some o -> H'' a = some o) /\ Rep L' H'' d v) /\ J.stop xs.length H'
def trI (K:PySem.W.Frag) (f:FI):TI:=fun τ H R=>∃ L σ M xs g M',Cor K L M H /\ zA2 L H σ τ /\ f σ M = some (xs,g,M') /\ ∀ L' H' J,Stp L H L' H' -> Cor K L' M' H' -> zUW K J L' H' xs g -> R J H'
structure QI (X:Cx) (tg e:Expr) (f:FI):Prop where
 un:PI X tg e (trI X.K f)
theorem PI.imp (h:PI X tg e t) (hi:∀ τ H R,t' τ H R -> t τ H R):PI X tg e t':=fun zB s σ H R I q=>h zB s σ H R I (hi _ _ _ q)
noncomputable def zB9 (g:FG) (b:FS) (all:List D) (gd:Option (Mem -> Prop)):List D -> Sd -> Mem -> Option (Out × Sd × Mem)
 | [],σ,M=>open Classical in if zAX gd all M then some (.nx,σ,M) else none
 | x :: r,σ,M=>open Classical in if zAX gd all M then match g x σ with
   | some σ1=>match b σ1 M with
    | some (.nx,σ2,M2)=>zB9 g b all gd r σ2 M2
    | some (.cnt,σ2,M2)=>zB9 g b all gd r σ2 M2
    | some (.brk,σ2,M2)=>some (.nx,σ2,M2)
    | some (.ret d,σ2,M2)=>some (.ret d,σ2,M2)
    | none=>none
   | none=>none
  else none
noncomputable def zCQ (fi:FI) (g:FG) (b:FS):FS:=fun σ M=>match fi σ M with
 | some (xs,gd,M1)=>zB9 g b xs gd xs σ M1
 | none=>none
theorem zBi {α:Type} {xs:List α} (h:i < xs.length):xs.drop i = xs[i] :: xs.drop (i + 1):=List.drop_eq_getElem_cons h
theorem Stp.yld (s:Stp L H L' H') (h:∀ a o,H' a = some o -> H'' a = some o):Stp L H L' H'':=s.trans (.grow h)
theorem zO0 {K:PySem.W.Frag} {fi:FI} {g:TG} {fg:FG} {b:FS} (hg:GOk g fg) {E:Ends} {τ:Sv} {H:Hp} (h:trS K (zCQ fi fg b) E τ H):zUB (trI K fi) g (trS K b) E τ H:=by
 obtain ⟨L,σ,M,o,σf,Mf,c,rs,hf,q⟩:=h;unfold zCQ at hf;split at hf
 ·rename_i xs gd M1 e1;refine ⟨L,σ,M,_,_,_,c,rs,e1,fun L1 H1 J s1 c1 it=>?_⟩
  refine ⟨fun i m τ' H'=>m = xs.length - i /\ i <= xs.length /\ ∃ L' σ' M',Stp L1 H1 L' H' /\ Cor K L' M' H' /\ zA2 L' H' σ' τ' /\ zB9 fg b xs gd (xs.drop i) σ' M' = some (o,σf,Mf),
   ⟨xs.length,by simp,zVr _,L1,σ,M1,.refl _ _,c1,rs.stp s1,by simpa using hf⟩,?_⟩
  rintro i m τ' H' ⟨rfl,hi,L',σ',M',s',c',rs',e'⟩;by_cases hlt:i < xs.length
  ·rw [zBi hlt] at e';unfold zB9 at e';split at e'
   ·rename_i hgd;obtain ⟨step,_⟩:=it L' H' M' s' c' hgd;obtain ⟨go,yl⟩:=step i xs[i] (zU9 hlt);cases eg:fg xs[i] σ' with
    | none=>rw [eg] at e'; cases e'
    | some σ1=>
     rw [eg] at e';dsimp only at e';refine .inr ⟨go,fun τ2 H2=>∃ L2 σ2 M2,Stp L1 H1 L2 H2 /\ Cor K L2 M2 H2 /\ zA2 L2 H2 σ2 τ2 /\ zB9 fg b xs gd (xs.drop (i + 1)) σ2 M2 = some (o,σf,Mf),fun τ2 H2 ⟨L2,σ2,M2,a1,a2,a3,a4⟩=>⟨xs.length - (i + 1),by omega,rfl,hlt,L2,σ2,M2,a1,a2,a3,a4⟩,fun v H2 hy=>?_⟩;obtain ⟨gr,rv⟩:=yl v H2 hy;refine hg (zA2.stp (.grow gr) rs') rv eg fun τ2 r2=>?_;cases eb:b σ1 M' with
     | none=>rw [eb] at e'; cases e'
     | some r=>
      obtain ⟨o2,σ2,M2⟩:=r;rw [eb] at e';refine ⟨L',σ1,M',_,_,_,c'.grow gr,r2,eb,fun L3 H3 s3 c3=>?_⟩;have s13:Stp L1 H1 L3 H3:=(s'.yld gr).trans s3;cases o2 with
      | nx=>exact fun τ3 r3=>⟨L3,σ2,M2,s13,c3,r3,e'⟩
      | cnt=>exact fun τ3 r3=>⟨L3,σ2,M2,s13,c3,r3,e'⟩
      | brk=>cases e'; exact q L3 H3 (s1.trans s13) c3
      | ret d=>cases e'; exact q L3 H3 (s1.trans s13) c3
   ·cases e'
  ·have hi':i = xs.length:=by omega
   subst hi';rw [List.drop_length] at e';unfold zB9 at e';split at e'
   ·rename_i hgd;cases e';obtain ⟨_,stop⟩:=it L' H' _ s' c' hgd;exact .inl ⟨stop,q L' H' (s1.trans s') c' τ' rs'⟩
   ·cases e'
 ·cases hf
theorem zRa (hg:GOk g fg) (hp:PassesOwn (model X.prog X.w) X.A X.env X.xe) (hc:X.calm = true) (hi:QI X tg iter fi) (ht:PG X tg g) (hb:QSs X body b)
  (hs:∀ x,foldedSetIterable iter X.env x = pure x:=by intro _; rfl):QS X (.For tg iter body [] pos) (zCQ fi fg b):=.mk <| PS.imp (zTC hp hc hi.un ht hb.un hs) fun _ _ _ h=>zO0 hg h
end
section
variable {X:Cx} {e c iter tg elt:Expr} {pos:Pos} {scope:Scope} {ifs:List Expr}
def zA9 (c:FT) (b:FS):Nat -> Sd -> Mem -> Option (Out × Sd × Mem)
 | 0,_,_=>none
 | n + 1,σ,M=>match c σ M with
  | some (true,M1)=>match b σ M1 with
   | some (.nx,σ2,M2)=>zA9 c b n σ2 M2
   | some (.cnt,σ2,M2)=>zA9 c b n σ2 M2
   | some (.brk,σ2,M2)=>some (.nx,σ2,M2)
   | some (.ret d,σ2,M2)=>some (.ret d,σ2,M2)
   | none=>none
  | some (false,M1)=>some (.nx,σ,M1)
  | none=>none
theorem zJ4 {K:PySem.W.Frag} {fc:FT} {b:FS} {n:Nat} {E:Ends} {τ:Sv} {H:Hp} (h:trS K (zA9 fc b n) E τ H):zOo (trT K fc) (trS K b) E τ H:=by
 obtain ⟨L,σ,M,o,σf,Mf,c,rs,hf,q⟩:=h;refine ⟨fun m τ' H'=>∃ L' σ' M',Stp L H L' H' /\ Cor K L' M' H' /\ zA2 L' H' σ' τ' /\ zA9 fc b m σ' M' = some (o,σf,Mf),⟨n,L,σ,M,.refl _ _,c,rs,hf⟩,?_⟩;rintro m τ' H' ⟨L',σ',M',s',c',rs',e'⟩;cases m with
 | zero=>unfold zA9 at e'; cases e'
 | succ m=>
  unfold zA9 at e';split at e'
  ·rename_i M1 e1;refine ⟨L',σ',M',_,_,c',rs',e1,fun L1 H1 s1 c1=>zEf ?_⟩;refine ⟨fun τ2 H2=>∃ L2 σ2 M2,Stp L H L2 H2 /\ Cor K L2 M2 H2 /\ zA2 L2 H2 σ2 τ2 /\ zA9 fc b m σ2 M2 = some (o,σf,Mf),fun τ2 H2 h2=>⟨m,zV2 m,h2⟩,?_⟩;cases eb:b σ' M1 with
   | none=>rw [eb] at e'; cases e'
   | some r=>
    obtain ⟨o2,σ2,M2⟩:=r;rw [eb] at e';refine ⟨L1,σ',M1,_,_,_,c1,rs'.stp s1,eb,fun L3 H3 s3 c3=>?_⟩;have s13:Stp L H L3 H3:=(s'.trans s1).trans s3;cases o2 with
    | nx=>exact fun τ3 r3=>⟨L3,σ2,M2,s13,c3,r3,e'⟩
    | cnt=>exact fun τ3 r3=>⟨L3,σ2,M2,s13,c3,r3,e'⟩
    | brk=>cases e'; exact q L3 H3 s13 c3
    | ret d=>cases e'; exact q L3 H3 s13 c3
  ·rename_i M1 e1;cases e';exact ⟨L',_,M',_,_,c',rs',e1,fun L1 H1 s1 c1=>zEi (q L1 H1 (s'.trans s1) c1 τ' (rs'.stp s1))⟩
  ·cases e'
theorem zPf (n:Nat) (hp:PassesOwn (model X.prog X.w) X.A X.env X.xe) (hc:QT X c fc) (hb:QSs X body b):QS X (.While c body [] pos) (zA9 fc b n) :=
 .mk <| PS.imp (zOB hp hc.un hb.un) fun _ _ _ h=>zJ4 h
def zAp (own:List Nat) (σ:Sd):Sd:=own.foldl (fun σ i=>σ.set i none) σ
theorem zDO:∀ (own:List Nat) {σ:Sd} {τ:Sv},zA2 L H σ τ -> zA2 L H (zAp own σ) (clr own τ)
 | [],_,_,h=>h
 | i :: r,σ,τ,h=>by
  refine zDO r (σ:=σ.set i none) (τ:=τ.set i none) ⟨by simp [h.1],fun j d q=>?_⟩;rw [zWe] at q ⊢;split at q
  ·split at q <;> cases q
  ·rename_i z;rw [zVN z];exact h.2 j d q
noncomputable def zAV (g:FG) (tc:FT) (te:FE) (σ:Sd) (all:List D) (gd:Option (Mem -> Prop)):List D -> Mem -> Option (List D × Mem)
 | [],M=>open Classical in if zAX gd all M then some ([],M) else none
 | x :: r,M=>open Classical in if zAX gd all M then match g x σ with
   | some σ1=>match tc σ1 M with
    | some (true,M1)=>match toD te σ1 M1 with
     | some (d,M2)=>match zAV g tc te σ all gd r M2 with
      | some (ds,M3)=>some (d :: ds,M3)
      | none=>none
     | none=>none
    | some (false,M1)=>zAV g tc te σ all gd r M1
    | none=>none
   | none=>none
  else none
noncomputable def zj (own:List Nat) (fi:FI) (g:FG) (tc:FT) (te:FE):FE:=fun σ M=>match fi σ M with
 | some (xs,gd,M1)=>if xs.length <= sizeLine then match zAV g tc te (zAp own σ) xs gd xs M1 with
   | some (ys,M2)=>some (.fl ys,M2)
   | none=>none
  else none
 | none=>none
def zDs (own:List Nat) (g:TG) (fg:FG):Prop:=∀ {L:List Addr} {H:Hp} {σ σ':Sd} {τ τ0:Sv} {d:D} {v:V} {Q:Sv -> Hp -> Prop},zA2 L H σ τ -> Ext (clr own τ0) τ -> Rep L H d v -> fg d σ = some σ' -> (∀ τ',zA2 L H σ' τ' -> Ext (clr own τ0) τ' -> Q τ' H) -> g v τ H Q
theorem zAy (hi:i ∈ own):zDs own (zBE i) (gN i):=by
 intro L H σ σ' τ τ0 d v Q rs ex r hf q;unfold gN at hf;cases hf;exact q _ (rs.set r) (ex.set hi)
theorem zHN {K:PySem.W.Frag} {own:List Nat} {fi:FI} {g:TG} {fg:FG} {tc:FT} {te:FE} (hg:zDs own g fg) {τ:Sv} {H:Hp} {Q:VK} (h:trE K (zj own fi fg tc te) τ H Q):zNz own (trI K fi) g (trT K tc) (trD K (toD te)) τ H Q:=by
 obtain ⟨L,σ,M,d,Mf,c,rs,hf,q⟩:=h;unfold zj at hf;split at hf
 ·rename_i xs gd M1 e1;split at hf
  ·rename_i hz;split at hf
   ·rename_i zs M2 e2;cases hf;refine ⟨L,σ,M,_,_,_,c,rs,e1,fun L1 H1 J s1 c1 it=>?_⟩
    refine ⟨fun i m ys H'=>m = xs.length - i /\ i <= xs.length /\ ∃ L' M' as bs,Stp L1 H1 L' H' /\ Cor K L' M' H' /\ zH L' H' as ys /\ as.length <= i /\ zAV fg tc te (zAp own σ) xs gd (xs.drop i) M' = some (bs,Mf) /\ as ++ bs = zs,
     ⟨xs.length,by simp,zVr _,L1,M1,[],zs,.refl _ _,c1,.nil,zVB _,by simpa using e2,rfl⟩,?_⟩
    rintro i m ys H' ⟨rfl,hi,L',M',as,bs,s',c',r',hl,e',hab⟩;have hys:ys.length <= i:=by rw [r'.length]; exact hl
    by_cases hlt:i < xs.length
    ·rw [zBi hlt] at e';unfold zAV at e';split at e'
     ·rename_i hgd;obtain ⟨step,_⟩:=it L' H' M' s' c' hgd;obtain ⟨go,yl⟩:=step i xs[i] (zU9 hlt);split at e'
      ·rename_i σ1 eg;refine .inr ⟨go,fun v H2 hy=>?_⟩;obtain ⟨gr,rv⟩:=yl v H2 hy;have s2:Stp L1 H1 L' H2:=s'.yld gr;refine hg (zDO own ((rs.stp s1).stp s2)) (.refl _) rv eg fun τ2 r2 x2=>⟨x2,?_⟩;split at e'
       ·rename_i M3 e3;split at e'
        ·rename_i d M4 e4;split at e'
         ·rename_i ds M5 e5;cases e';refine ⟨L',σ1,M',_,_,c'.grow gr,r2,e3,fun L3 H3 s3 c3=>zEf ?_⟩;refine ⟨L3,σ1,M3,_,_,c3,r2.stp s3,e4,fun L4 H4 w s4 c4 r4=>?_⟩;have st:Stp L' H' L4 H4:=((Stp.grow gr).trans s3).trans s4;refine ⟨Nat.lt_of_le_of_lt hys (zVU hlt hz),xs.length - (i + 1),by omega,rfl,hlt,L4,M4,as ++ [d],ds,s'.trans st,c4,(r'.stp st).app (.cons r4 .nil),by simp; omega,e5,by rw [<- hab]; simp⟩
         ·cases e'
        ·cases e'
       ·rename_i M3 e3;refine ⟨L',σ1,M',_,_,c'.grow gr,r2,e3,fun L3 H3 s3 c3=>zEi ?_⟩;have st:Stp L' H' L3 H3:=(Stp.grow gr).trans s3;exact ⟨xs.length - (i + 1),by omega,rfl,hlt,L3,M3,as,bs,s'.trans st,c3,r'.stp st,by omega,e',hab⟩
       ·cases e'
      ·cases e'
     ·cases e'
    ·have hi':i = xs.length:=by omega
     subst hi';rw [List.drop_length] at e';unfold zAV at e';split at e'
     ·rename_i hgd;cases e';obtain ⟨_,stop⟩:=it L' H' _ s' c' hgd;refine .inl ⟨stop,zVW hys hz,fun p hp=>?_⟩;rw [zVp] at hab;subst hab;exact q L' _ _ ((s1.trans s').trans (.upd hp)) (c'.upd hp) (zV.newLst (s1.trans s') c c' hp r')
     ·cases e'
   ·cases hf
  ·cases hf
 ·cases hf
structure QIfs (X:Cx) (ifs:List Expr) (f:FT):Prop where
 un:zE7 X ifs (trT X.K f)
def zd:FT:=fun _ M=>some (true,M)
theorem zSb:QIfs X [] zd:=.mk fun zB s σ H Q I h=>by
 obtain ⟨L,σ',M,d,M',c,rs,hf,q⟩:=h;unfold zd at hf;cases hf;exact zOk zB s σ H Q I (q L H (.refl L H) c)
theorem zSy (h:QT X c f):QIfs X [c] f:=.mk (zOV h.un)
structure QParts (X:Cx) (scope:Scope) (tg:Expr) (ifs:List Expr) (elt:Expr) (g:TG) (tc:FT) (te:FE):Prop where
 g:∀ zB cl s H fp,PG (zG X zB scope cl s H fp) tg g
 c:∀ zB cl s H fp,QIfs (zG X zB scope cl s H fp) ifs tc
 e:∀ zB cl s H fp,QE (zG X zB scope cl s H fp) elt te
theorem QParts.parts {g:TG} {tc:FT} {te:FE} (p:QParts X scope tg ifs elt g tc te):CompParts X scope tg ifs elt g (trT X.K tc) (trD X.K (toD te)) :=
 ⟨p.g,fun zB cl s H fp=>(p.c zB cl s H fp).un,fun zB cl s H fp=>(zBb (p.e zB cl s H fp)).un⟩
theorem zIE (hg:zDs own g fg) (C:CompIn X scope own) (hcalm:X.calm = true) (hi:QI X tg iter fi) (p:QParts X scope tg ifs elt g tc te) (hs:∀ x,foldedSetIterable iter X.env x = pure x:=by intro _; rfl) :
  QE X (.ListComp elt [⟨tg,iter,ifs,0⟩] scope pos) (zj own fi fg tc te):=.mk <| PE.imp (zPj C hcalm hi.un p.parts hs) fun _ _ _ h=>zHN hg h
theorem zLy (hN:X.N.Nodup) (hi':X.N[i]? = some x) (hx:Loc X.env.scope x) (hfn:X.fn x = true \/ X.env.scope.names.lookup x = some .local)
  (hsw:swapsWith (.ListComp elt [⟨tg,iter,ifs,0⟩] scope pos) (some (.Name x pos')) pos''.line X.env = pure true)
  (hg:zDs own g fg) (C:CompIn X scope own) (hcalm:X.calm = true) (hi:QI X tg iter fi) (p:QParts X scope tg ifs elt g tc te) (hs:∀ x,foldedSetIterable iter X.env x = pure x:=by intro _; rfl) :
  QS X (.Assign [.Name x pos'] (.ListComp elt [⟨tg,iter,ifs,0⟩] scope pos) pos'') (zx i (zj own fi fg tc te)) :=
 .mk <| PS.imp (zKi hN hi' hx hfn C hcalm hi.un p.parts hsw hs) fun _ _ _ z=>zFz (fun _ _ _ z=>zHN hg z) z
end
abbrev FF:=List D -> Mem -> Option (D × Mem)
def spF (K:PySem.W.Frag) (n:Nat) (g:FF):Sp:=fun vs H Q _=>∃ L ds M d M',Cor K L M H /\ zH L H ds vs /\ ds.length = n /\ g ds M = some (d,M') /\ ∀ L' H' v,Stp L H L' H' -> Cor K L' M' H' -> Rep L' H' d v -> Q v H'
def zR (g:FF) (fa:FA):FE:=fun σ M=>match fa σ M with
 | some (ds,M1)=>match g ds M1 with
  | some (d,M2)=>some (.dat d,M2)
  | none=>none
 | none=>none
section
variable {X:Cx} {e:Expr} {es:List Expr} {pos p:Pos} {x:Str} {k:Nat} {f:Addr} {fd:FuncData} {ps:List Str}
theorem zSI (F:FnOk X.prog X.w X.K X.mg X.base CX0 k f fd ps (spF X.K (e :: es).length g)) (hr:Room k X.A) (hg:Gl X x) (hm:X.mg x = some (.ref f)) (hk:PySem.W.keepIn X.K (.ref f) = true) (hb:zFb X.K fd ps [])
  (ha:QA X (e :: es) fa) (hl:∀ σ M ds M1,fa σ M = some (ds,M1) -> ds.length = (e :: es).length) (hdb:(x == ("__debug__" : Str)) = false:=by decide) (he:starEach (e :: es) X.env = (false,eval e X.env) :: starEach es X.env:=by rfl) (hpl:(backTo pos (starEach es X.env)).any (·.1) = false:=by rfl) :
  QE X (.Call (.Name x p) (e :: es) [] pos) (zR g fa) :=
 .mk <| PE.imp (zQh F hr hg hm hk hb .nil zUO ha.un hdb he hpl) fun τ H Q zz=>by
  obtain ⟨L,σ,M,d,M',c,rs,hf,q⟩:=zz;unfold zR at hf;split at hf
  ·rename_i ds M1 e1;split at hf
   ·rename_i d' M2 e2;cases hf;refine ⟨L,σ,M,_,_,c,rs,e1,fun L1 H1 vs s1 c1 r1=>?_⟩;dsimp only;rw [zVp];exact ⟨L1,ds,M1,d',_,c1,r1,hl _ _ _ _ e1,e2,fun L2 H2 v s2 c2 r2=>q L2 H2 v (s1.trans s2) c2 r2⟩
   ·cases hf
  ·cases hf
def zQV (fa:FA) (n:Nat):Prop:=∀ σ M ds M1,fa σ M = some (ds,M1) -> ds.length = n
theorem zNw:zQV zI 0:=fun σ M ds M1 h=>by unfold zI at h; cases h; rfl
theorem zL2 {f:FD} {g:FA} {n:Nat} (h:zQV g n):zQV (zD f g) (n + 1):=fun σ M ds M1 q=>by
 unfold zD at q;split at q
 ·split at q
  ·rename_i e2;cases q;simp [h _ _ _ _ e2]
  ·cases q
 ·cases q
def zBP (n:Nat) (b:FS):FF:=fun ds M=>match b (ds.map some ++ List.replicate (n - ds.length) none) M with
 | some (.ret d,_,M')=>some (d,M')
 | some (.nx,_,M')=>some (.non,M')
 | _=>none
theorem zG8:∀ {ds:List D} {vs:List V},zH L H ds vs -> zA2 L H (ds.map some ++ List.replicate (N.length - ds.length) none) (L2.zDZ N vs):=fun {ds vs} r=>by
 unfold L2.zDZ;have hl:=r.length;refine ⟨by simp [hl],fun i d q=>?_⟩;by_cases hi:i < ds.length
 ·rw [zVC (by simpa using hi),zVS] at q;rw [zVC (by simpa [hl] using hi),zVS];cases e1:ds[i]? with
  | none=>rw [e1] at q; cases q
  | some d'=>
   rw [e1] at q; cases q;obtain ⟨v,e2,r2⟩:=r.get e1;exact ⟨v,by rw [e2]; rfl,r2⟩
 ·rw [zWF (by simpa using hi),List.getElem?_replicate] at q;split at q <;> cases q
theorem zAJ {P:Program} {w:World} {K:PySem.W.Frag} {mg:Str -> Option Value} {base:Heap} {qual:Str} {st:Stmt} {N:List Str} {b:FS} {n:Nat} (F:Fun K x qual st f fd) (S:FnScope N ps (zN st)) (hn:ps.length = n)
  (hb:∀ (cdv:Value) (A:Around) (outer:List Env) (s:Shared) (H:Hp) (E:XK),Room k (A.deeper (envOfC qual (zN st) s.heap.objs.size f cdv)) -> QSs (zKK CX0 P w K mg base N qual (zN st) f cdv A outer s H E).nox (zB6 st) b) :
  FnOk P w K mg base CX0 (k + 1) f fd ps (spF K n (zBP N.length b)):=by
 refine F.ok S (fun vs H Q E h=>?_) (fun cdv A outer s H vs Q E hr h=>⟨_,(hb cdv A outer s H E hr).un,?_⟩)
 ·obtain ⟨L,ds,M,d,M',c,r,hl,_⟩:=h;rw [r.length,hl,hn]
 ·obtain ⟨L,ds,M,d,M',c,r,hl,hf,q⟩:=h;unfold zBP at hf;split at hf
  ·rename_i d' σ' M1 e1;cases hf;exact ⟨L,_,M,_,_,_,c,zG8 r,e1,fun L1 H1 s1 c1 v r1=>q L1 H1 v s1 c1 r1⟩
  ·rename_i σ' M1 e1;cases hf;exact ⟨L,_,M,_,_,_,c,zG8 r,e1,fun L1 H1 s1 c1 τ' r1=>q L1 H1 .non s1 c1 (by unfold Rep; rfl)⟩
  ·cases hf
mutual
def D.und (n:Nat):D -> Bool
 | .tup ds=>D.unds n ds
 | .ref k=>decide (k < n)
 | _=>true
def D.unds (n:Nat):List D -> Bool
 | []=>true
 | d :: ds=>D.und n d && D.unds n ds
end
mutual
theorem Rep.less:∀ {d:D} {v:V},D.und L.length d = true -> Rep (L ++ N) H d v -> Rep L H d v
 | .non,_,_,h=>by unfold Rep at h ⊢; exact h
 | .bl _,_,_,h=>by unfold Rep at h ⊢; exact h
 | .int _,_,_,h=>by unfold Rep at h ⊢; exact h
 | .str _,_,_,h=>by unfold Rep at h ⊢; exact h
 | .tup ds,_,hb,h=>by
  unfold D.und at hb;unfold Rep at h ⊢;obtain ⟨a,vs,rfl,e,r⟩:=h;exact ⟨a,vs,rfl,e,zH.less hb r⟩
 | .ref n,_,hb,h=>by
  unfold D.und at hb;unfold Rep at h ⊢;obtain ⟨a,rfl,e⟩:=h;exact ⟨a,rfl,by rwa [zVC (zV1 hb)] at e⟩
theorem zH.less:∀ {ds:List D} {vs:List V},D.unds L.length ds = true -> zH (L ++ N) H ds vs -> zH L H ds vs
 | [],_,_,h=>by unfold zH at h ⊢; exact h
 | d :: ds,_,hb,h=>by
  unfold D.unds at hb;rw [zVf] at hb;unfold zH at h ⊢;obtain ⟨v,r,rfl,h1,h2⟩:=h;exact ⟨v,r,rfl,Rep.less hb.1 h1,zH.less hb.2 h2⟩
end
theorem zAZ.less {κ:Type} {kf:D -> Option κ} {L N:List Addr} {H:Hp}:∀ {ps:List (D × D)} {vs:List (κ × V)},(ps.all fun p=>D.und L.length p.1 && D.und L.length p.2) = true -> zAZ kf (L ++ N) H ps vs -> zAZ kf L H ps vs
 | [],_,_,h=>h
 | p :: r,_,hb,h=>by
  rw [List.all_cons,zVf,zVf] at hb;obtain ⟨k,v,r',rfl,e,h1,h2⟩:=h;exact ⟨k,v,r',rfl,e,Rep.less hb.1.2 h1,zAZ.less hb.2 h2⟩
def MO.und (n:Nat):MO -> Bool
 | .lst xs=>D.unds n xs
 | .fro xs=>D.unds n xs
 | .dict kvs=>kvs.all fun p=>D.und n p.1 && D.und n p.2
 | .dicT kvs=>kvs.all fun p=>D.und n p.1 && D.und n p.2
 | .set xs=>D.unds n xs
def zJD (g:FF):FF:=fun ds M=>match g ds M with
 | some (d,M')=>if D.und M.length d && (M'.take M.length).all (MO.und M.length) && decide (M.length <= M'.length) then some (d,M'.take M.length) else none
 | none=>none
theorem zPq {P:Program} {w:World} {K:PySem.W.Frag} {mg:Str -> Option Value} {base:Heap} {n:Nat} {g:FF} (h:FnOk P w K mg base CX0 k f fd ps (spF K n g)):FnOk P w K mg base CX0 k f fd ps (spF K n (zJD g)) :=
 h.imp fun vs H Q E ⟨L,ds,M,d,M',c,r,hl,hf,q⟩=>by
  unfold zJD at hf;split at hf
  ·rename_i d' M1 e1;split at hf
   ·rename_i hb;cases hf;simp only [zVf,zWI,zVg] at hb;obtain ⟨⟨hb1,hb2⟩,hb3⟩:=hb;refine ⟨L,ds,M,_,_,c,r,hl,e1,fun L1 H1 v s1 c1 r1=>?_⟩;obtain ⟨N,rfl⟩:=s1.pre;rw [<- c.len] at hb1 hb2 hb3;refine q L H1 v ⟨⟨[],by simp⟩,fun a ha=> .inl ha,s1.old,s1.tup,s1.frz⟩ ⟨?_,?_,fun i a m e2 e3=>?_⟩ (Rep.less hb1 r1)
    ·rw [zWT,<- c.len]; omega
    ·exact (zWJ.mp c1.nd).1
    ·rw [<- c.len] at e3;have hi:i < L.length:=(zU8.mp e2).1;have hm:m ∈ M1.take L.length:=zVw e3;rw [List.getElem?_take_of_lt hi] at e3;have z:=c1.obj i a m (zA7 e2) e3;have bl:=hb2 m hm;cases m with
     | lst xs=>obtain ⟨ws,e4,r4⟩:=z; exact ⟨ws,e4,zH.less bl r4⟩
     | fro xs=>obtain ⟨o,ws,e4,r4⟩:=z; exact ⟨o,ws,e4,zH.less bl r4⟩
     | dict ps=>obtain ⟨vs,e,r⟩:=z; exact ⟨vs,e,zAZ.less bl r⟩
     | dicT ps=>obtain ⟨vs,e,r⟩:=z; exact ⟨vs,e,zAZ.less bl r⟩
     | set _=>exact z
   ·cases hf
  ·cases hf
def zEt (g:FF):FF:=fun ds M=>if D.unds 0 ds then match g ds [] with
  | some (d,_)=>if D.und 0 d then some (d,M) else none
  | none=>none
 else none
theorem zFK {P:Program} {w:World} {K:PySem.W.Frag} {mg:Str -> Option Value} {base:Heap} {n:Nat} {g:FF} (h:FnOk P w K mg base CX0 k f fd ps (spF K n g)):FnOk P w K mg base CX0 k f fd ps (spF K n (zEt g)) :=
 h.imp fun vs H Q E ⟨L,ds,M,d,M',c,r,hl,hf,q⟩=>by
  unfold zEt at hf;split at hf
  ·rename_i hb0;split at hf
   ·rename_i d' M1 e1;split at hf
    ·rename_i hb;cases hf;refine ⟨[],ds,[],_,_,⟨rfl,.nil,fun i a m e=>by simp at e⟩,zH.less (L:=[]) (N:=L) hb0 (by simpa using r),hl,e1,fun L1 H1 v s1 c1 r1=>?_⟩;have gr:∀ a o,H a = some o -> H1 a = some o:=fun a o e=>s1.old a o e (by simp);exact q L H1 v (.grow gr) (c.grow gr) ((Rep.less (L:=[]) (N:=L1) hb (by simpa using r1)).more L |> fun z=>by simpa using z)
    ·cases hf
   ·cases hf
  ·cases hf
theorem zSz (hl:PE X l tl):PI X tg l (fun σ H R=>tl σ H fun x H1=>∃ a,x = .ref a /\ ((∃ xs,SqL X.K H1 a xs) /\ R (Itl X.K a) H1 \/ (∃ xs,SqT X.K H1 a xs) /\ R (Itt X.K a) H1)):=by
 intro zB s σ H R I h;refine thn (hl zB s σ H _ I h) fun v s1 ⟨y,H1,I1,r1,a,hy,h1⟩=>?_;subst hy;cases r1;have fpk:∀ b ∈ [s1.heap.objs.size],zBt X zB H1 b:=fun b hb=>by
  have e:b = s1.heap.objs.size:=by simpa using hb
  subst e;exact I1.fpOk (zVB _) (I1.hok.fresh (zVB _))
 rcases h1 with ⟨⟨xs,hq⟩,q⟩ | ⟨⟨xs,hq⟩,q⟩
 ·obtain ⟨its,rv,pl,hz⟩:=I1.list hq;exact wpAny_pyIter_list pl.isList ⟨s1.heap.objs.size,[s1.heap.objs.size],_,_,H1,rfl,I1.kept (t':=s1.toks) fun b o e=>zU6 _ e,zLz a _,⟨_,zVF _ rfl,rfl,rfl⟩,fpk,q⟩
 ·obtain ⟨its,rv,pl,hz⟩:=I1.tuple hq;exact wpAny_pyIter_tuple (show s1.heap.IsTuple a its.toArray from pl) ⟨s1.heap.objs.size,[s1.heap.objs.size],_,_,H1,rfl,I1.kept (t':=s1.toks) fun b o e=>zU6 _ e,zJ7 a _,⟨_,zVF _ rfl,rfl,rfl⟩,fpk,q⟩
def zDg (x:EV) (xs:List D):Option (Mem -> Prop):=match x with
 | .dat (.ref n)=>some fun M=>M[n]? = some (.lst xs) \/ M[n]? = some (.fro xs)
 | _=>none
def zAH (f:FE):FI:=fun σ M=>match f σ M with
 | some (x,M1)=>match zAR M1 x with
  | some xs=>some (xs,zDg x xs,M1)
  | none=>none
 | none=>none
def zr (f:FA):FI:=fun σ M=>match f σ M with
 | some ([.int j],M1)=>if -(2 ^ 62) <= j /\ j < 2 ^ 62 then some ((List.range j.toNat).map fun (k:Nat)=>D.int k,none,M1) else none
 | some ([.int i,.int j],M1)=>if -(2 ^ 62) <= i /\ i < 2 ^ 62 /\ -(2 ^ 62) <= j /\ j < 2 ^ 62 then some ((List.range (j - i).toNat).map fun (k:Nat)=>D.int (i + k),none,M1) else none
 | _=>none
theorem zSn (h:QE X e g):QI X tg e (zAH g):=.mk <| PI.imp (zSz h.un) fun τ H R zz=>by
 obtain ⟨L,σ,M,xs,gd,M',c,rs,hf,q⟩:=zz;unfold zAH at hf;split at hf
 ·rename_i y M1 e1;split at hf
  ·rename_i zs e2;cases hf;refine ⟨L,σ,M,_,_,c,rs,e1,fun L1 H1 v s1 c1 r1=>?_⟩;unfold zAR at e2;cases t:zCB y with
   | some ws=>
    rw [t] at e2; cases e2;obtain ⟨a,vs,rfl,e3,r3⟩:=zA5 r1 t;refine ⟨a,rfl,.inr ⟨⟨vs,.of e3⟩,q L1 H1 _ s1 c1 fun L2 H2 M2 s2 c2 _=>?_⟩⟩;have e4:=s2.tup a vs e3;have r4:=r3.stp s2;refine ⟨fun i d hd=>?_,⟨vs,.of e4,by rw [r4.length]; exact zVB _⟩⟩;obtain ⟨u,hu,ru⟩:=r4.get hd;refine ⟨⟨vs,u,.of e4,hu⟩,fun v H3 ⟨hH,hv⟩=>?_⟩;subst hH;have:=hv vs (.of e4);rw [hu] at this; cases this;exact ⟨fun _ _ z=>z,ru⟩
   | none=>
    rw [t] at e2;dsimp only at e2;obtain ⟨a,vs,rfl,e3,r3⟩:=zAS c1 r1 e2;refine ⟨a,rfl,.inl ⟨⟨vs,.inl e3⟩,q L1 H1 _ s1 c1 fun L2 H2 M2 s2 c2 hgd=>?_⟩⟩;have key:∃ vs',SqL X.K H2 a vs' /\ zH L2 H2 xs vs':=by
     cases y with
     | fl ys=>
      cases e2;obtain ⟨p',vs',hp',_,e5,e6,r6⟩:=r1;cases hp';exact ⟨vs',.of (s2.old _ _ e5 e6),r6.stp s2⟩
     | dat d=>
      cases d with
      | ref n=>
       unfold zV Rep at r1;obtain ⟨a',ha',e5⟩:=r1;cases ha';have e6:L2[n]? = some a:=by obtain ⟨N,hN⟩:=s2.pre; rw [hN]; exact zA7 e5
       rcases hgd with z | z
       ·obtain ⟨vs',e7,r7⟩:=c2.obj n a _ e6 z; exact ⟨vs',.of e7,r7⟩
       ·obtain ⟨o,vs',e7,r7⟩:=c2.obj n a _ e6 z; exact ⟨vs',.inl (.inr ⟨o,e7⟩),r7⟩
      | _=>cases e2
    obtain ⟨vs',hq,r7⟩:=key;refine ⟨fun i d hd=>?_,⟨vs',hq,by rw [r7.length]; exact zVB _⟩⟩;obtain ⟨u,hu,ru⟩:=r7.get hd;refine ⟨⟨vs',u,hq,hu⟩,fun v H3 ⟨hH,hv⟩=>?_⟩;subst hH;have:=hv vs' hq;rw [hu] at this; cases this;exact ⟨fun _ _ z=>z,ru⟩
  ·cases hf
 ·cases hf
theorem zEa (h:zH L H [.int j] vs):vs = [.int j]:=by
 unfold zH at h;obtain ⟨v,r,rfl,h1,h2⟩:=h;unfold zH at h2;unfold Rep at h1;subst h1 h2; rfl
theorem zPX {K:PySem.W.Frag} {L:List Addr} {H:Hp} {lo:Int} {n:Nat}:zUW K (Itr lo n) L H ((List.range n).map fun (k:Nat)=>D.int (lo + k)) none:=by
 intro L' H' M' s c _;refine ⟨fun i d hd=>?_,by simp [Itr]⟩;rw [zVS] at hd;cases q:(List.range n)[i]? with
 | none=>rw [q] at hd; cases hd
 | some k=>
  rw [q] at hd; cases hd;have hi:i < n:=by have:=(zU8.mp q).1; simpa using this
  rw [List.getElem?_range hi] at q; cases q;refine ⟨hi,fun v H'' ⟨hH,hv⟩=>?_⟩;subst hH hv;exact ⟨fun _ _ z=>z,z0⟩
theorem zLg {tg a:Expr} {g:FA} (hg:Gl X "range") (hm:X.mg "range" = none) (ha:QA X [a] g) (hl:zQV g 1) (hs:starEach [a] X.env = [(false,eval a X.env)]:=by rfl):QI X tg (.Call (.Name "range" p) [a] [] pos) (zr g) :=
 .mk <| PI.imp (zND hg hm ha.un hs) fun τ H R zz=>by
  obtain ⟨L,σ,M,xs,gd,M',c,rs,hf,q⟩:=zz;unfold zr at hf;split at hf
  ·rename_i j M1 e1;split at hf
   ·rename_i hb;cases hf;refine ⟨L,σ,M,_,_,c,rs,e1,fun L1 H1 vs s1 c1 r1=>⟨j,zEa r1,hb.1,hb.2,q L1 H1 _ s1 c1 ?_⟩⟩;have z:=zPX (K:=X.K) (L:=L1) (H:=H1) (lo:=0) (n:=j.toNat);simpa using z
   ·cases hf
  ·rename_i e1;have:=hl _ _ _ _ e1;simp at this
  ·cases hf
end
section
variable {X:Cx} {a b c e:Expr} {es rest:List Expr} {pos p apos cpos:Pos}
def zBc (f g:FT):FT:=fun σ M=>match f σ M with
 | some (true,M1)=>g σ M1
 | r=>r
def zDy (f g:FT):FT:=fun σ M=>match f σ M with
 | some (false,M1)=>g σ M1
 | r=>r
def zD8 (f:FT):FT:=fun σ M=>match f σ M with
 | some (k,M1)=>some (!k,M1)
 | none=>none
structure QW (X:Cx) (e:Expr) (f:FT):Prop where
 un:PW X e (trT X.K f)
theorem PW.imp (h:PW X e t) (hi:∀ τ H Q,t' τ H Q -> t τ H Q):PW X e t':=fun wh zB s σ H Q I q=>h wh zB s σ H Q I (hi _ _ _ q)
theorem zQH (h:QT X a f):QW X (.BoolOp .And [a] pos) f:=.mk (zQw h.un)
theorem zSZ (h:QT X a f):QW X (.BoolOp .Or [a] pos) f:=.mk (zTI h.un)
theorem zSQ (h1:QT X a f) (h2:QW X (.BoolOp .And (b :: rest) pos) g):QW X (.BoolOp .And (a :: b :: rest) pos) (zBc f g):=.mk <| PW.imp (zR2 h1.un h2.un) fun τ H Q zz=>by
 obtain ⟨L,σ,M,d,M',c,rs,hf,q⟩:=zz;unfold zBc at hf;split at hf
 ·rename_i M1 e1;exact ⟨L,σ,M,_,_,c,rs,e1,fun L1 H1 s1 c1=>zEf ⟨L1,σ,M1,_,_,c1,rs.stp s1,hf,fun L2 H2 s2 c2=>q L2 H2 (s1.trans s2) c2⟩⟩
 ·rename_i hne;cases d with
  | true=>exact absurd hf (hne M')
  | false=>exact ⟨L,σ,M,_,_,c,rs,hf,fun L1 H1 s1 c1=>zEi (q L1 H1 s1 c1)⟩
theorem zRW (h1:QT X a f) (h2:QW X (.BoolOp .Or (b :: rest) pos) g):QW X (.BoolOp .Or (a :: b :: rest) pos) (zDy f g):=.mk <| PW.imp (zUV h1.un h2.un) fun τ H Q zz=>by
 obtain ⟨L,σ,M,d,M',c,rs,hf,q⟩:=zz;unfold zDy at hf;split at hf
 ·rename_i M1 e1;exact ⟨L,σ,M,_,_,c,rs,e1,fun L1 H1 s1 c1=>zEi ⟨L1,σ,M1,_,_,c1,rs.stp s1,hf,fun L2 H2 s2 c2=>q L2 H2 (s1.trans s2) c2⟩⟩
 ·rename_i hne;cases d with
  | false=>exact absurd hf (hne M')
  | true=>exact ⟨L,σ,M,_,_,c,rs,hf,fun L1 H1 s1 c1=>zEf (q L1 H1 s1 c1)⟩
theorem zTc (h:QW X e f):QT X e f:=.mk (PW.pt h.un)
theorem zS2 (h:QT X a f):QT X (.UnaryOp .Not a pos) (zD8 f):=.mk <| PT.imp (zR7 h.un) fun τ H Q zz=>by
 obtain ⟨L,σ,M,d,M',c,rs,hf,q⟩:=zz;unfold zD8 at hf;split at hf
 ·rename_i k M1 e1;cases hf;exact ⟨L,σ,M,_,_,c,rs,e1,fun L1 H1 s1 c1=>q L1 H1 s1 c1⟩
 ·cases hf
def zL3 (f g:FE):FE:=fun σ M=>match f σ M with
 | some (.dat (.bl true),M1)=>g σ M1
 | some (.dat (.bl false),M1)=>some (.dat (.bl false),M1)
 | _=>none
def zNv (f:FE):FE:=fun σ M=>match f σ M with
 | some (.dat (.bl k),M1)=>some (.dat (.bl (!k)),M1)
 | _=>none
theorem zq (h:zV H0 L H (.dat (.bl k)) v):v = .bl k:=by unfold zV Rep at h; exact h
theorem zRu {op} (h:QE X a f):QE X (.BoolOp op [a] pos) f:=.mk (zSx h.un)
theorem zSe (h1:QE X a f) (h2:QE X (.BoolOp .And (b :: rest) pos) g):QE X (.BoolOp .And (a :: b :: rest) pos) (zL3 f g):=.mk <| PE.imp (zSB h1.un h2.un) fun τ H Q zz=>by
 obtain ⟨L,σ,M,d,M',c,rs,hf,q⟩:=zz;unfold zL3 at hf;split at hf
 ·rename_i M1 e1;exact ⟨L,σ,M,_,_,c,rs,e1,fun L1 H1 v s1 c1 r1=>⟨true,zq r1,zEf ⟨L1,σ,M1,_,_,c1,rs.stp s1,hf,fun L2 H2 w s2 c2 r2=>q L2 H2 w (s1.trans s2) c2 (r2.back s1 c s2.sub)⟩⟩⟩
 ·rename_i M1 e1;cases hf;exact ⟨L,σ,M,_,_,c,rs,e1,fun L1 H1 v s1 c1 r1=>⟨false,zq r1,zEi (q L1 H1 _ s1 c1 (by have:=zq r1; subst this; exact r1))⟩⟩
 ·cases hf
theorem zS6 (h:QE X a f):QE X (.UnaryOp .Not a pos) (zNv f):=.mk <| PE.imp (zSO h.un) fun τ H Q zz=>by
 obtain ⟨L,σ,M,d,M',c,rs,hf,q⟩:=zz;unfold zNv at hf;split at hf
 ·rename_i k M1 e1;cases hf;exact ⟨L,σ,M,_,_,c,rs,e1,fun L1 H1 v s1 c1 r1=>⟨k,zq r1,q L1 H1 _ s1 c1 (by unfold zV Rep; rfl)⟩⟩
 ·cases hf
abbrev KM:=EV -> List D -> Mem -> Option (D × Mem)
def fM (k:KM) (f:FE) (g:FA):FE:=fun σ M=>match f σ M with
 | some (x,M1)=>match zAk M1 x with
  | some _=>match g σ M1 with
   | some (ds,M2)=>match k x ds M2 with
    | some (d,M3)=>some (.dat d,M3)
    | none=>none
   | none=>none
  | none=>none
 | none=>none
def zNB (K:PySem.W.Frag) (r:V -> List V -> Hp -> VK -> Prop) (k:KM):Prop:=∀ {L:List Addr} {M M':Mem} {H H0:Hp} {x:EV} {ds:List D} {d:D} {v:V} {vs:List V} {Q:VK},Cor K L M H -> zV H0 L H x v -> zH L H ds vs -> k x ds M = some (d,M') ->
 (∀ L' H' u,Stp L H L' H' -> Cor K L' M' H' -> Rep L' H' d u -> Q u H') -> r v vs H Q
theorem zFf {K:PySem.W.Frag} {r:V -> List V -> Hp -> VK -> Prop} {k:KM} {f:FE} {g:FA} (hk:zNB K r k) {τ:Sv} {H:Hp} {Q:VK} (h:trE K (fM k f g) τ H Q):tBM K "list" r (trE K f) (trA K g) τ H Q:=by
 obtain ⟨L,σ,M,d,M',c,rs,hf,q⟩:=h;unfold fM at hf;split at hf
 ·rename_i x M1 e1;split at hf
  ·rename_i xs e2;split at hf
   ·rename_i ds M2 e3;split at hf
    ·rename_i d' M3 e4;cases hf;refine ⟨L,σ,M,_,_,c,rs,e1,fun L1 H1 v s1 c1 r1=>?_⟩;obtain ⟨a,vs,rfl,e5,r5⟩:=zAS c1 r1 e2;refine ⟨.inl ⟨rfl,vs,.inl e5⟩,L1,σ,M1,_,_,c1,rs.stp s1,e3,fun L2 H2 ws s2 c2 r2=>?_⟩;exact hk c2 (r1.stp s2) r2 e4 fun L3 H3 u s3 c3 r3=>q L3 H3 u ((s1.trans s2).trans s3) c3 r3
    ·cases hf
   ·cases hf
  ·cases hf
 ·cases hf
def zAL:KM:=fun x ds M=>match x,ds with
 | .dat (.ref n),[d]=>match M[n]? with
  | some (.lst xs)=>if xs.length < sizeLine then some (.non,M.set n (.lst (xs ++ [d]))) else none
  | _=>none
 | _,_=>none
theorem zH.one (h:zH L H [d] vs):∃ v,vs = [v] /\ Rep L H d v:=by
 unfold zH at h;obtain ⟨v,r,rfl,h1,h2⟩:=h;unfold zH at h2;subst h2;exact ⟨v,rfl,h1⟩
theorem zKo {K:PySem.W.Frag}:zNB K zLN zAL:=by
 intro L M M' H H0 x ds d v vs Q c rx rd hk q;unfold zAL at hk;split at hk
 ·rename_i n d';split at hk
  ·rename_i xs e1;split at hk
   ·rename_i hz;cases hk;unfold zV Rep at rx;obtain ⟨a,rfl,e2⟩:=rx;obtain ⟨ws,e3,r3⟩:=c.obj n a _ e2 e1;obtain ⟨w,rfl,r4⟩:=rd.one;obtain ⟨c5,s5⟩:=c.write e2 e1 (r3.app (.cons r4 .nil));exact ⟨a,ws,w,rfl,rfl,e3,by rw [r3.length]; exact hz,q L _ _ s5 c5 (by unfold Rep; rfl)⟩
   ·cases hk
  ·cases hk
 ·cases hk
theorem zOh (h:QE X a f) (hg:QA X [e] g) (hbase:attributeBase a "append" X.env (eval a X.env) = eval a X.env:=by rfl)
  (hfew:((backTo cpos (starEach [e] X.env)).all (fun x=> !x.1) && (backToKw cpos (keywordEach [] X.env)).all (fun x=>x.1.isSome) && decide ([e].length + ([]:List Keyword).length + (if ([]:List Keyword).isEmpty then 0 else 1) < 30)) = true:=by rfl)
  (hline:(apos.endLine == cpos.line) = true:=by rfl) (hs:starEach [e] X.env = (false,eval e X.env) :: starEach [] X.env:=by rfl) (hplain:(backTo cpos (starEach [] X.env)).any (·.1) = false:=by rfl) :
  QE X (.Call (.Attribute a "append" apos) [e] [] cpos) (fM zAL f g) :=
 .mk <| PE.imp (zJj PySem.F.plainAttrs_list PySem.F.slot_list_append PySem.F.type_list_append zMN h.un hg.un hbase hfew hline hs hplain) fun _ _ _ z=>zFf zKo z
def zJq:KM:=fun x ds M=>match x,ds with
 | .dat (.ref n),[.int i]=>match M[n]? with
  | some (.lst xs)=>match ixN xs.length i with
   | some k=>match xs[k]? with
    | some d=>if -(2 ^ 63) <= i /\ i < 2 ^ 63 then some (d,M.set n (.lst (xs.eraseIdx k))) else none
    | none=>none
   | none=>none
  | _=>none
 | _,_=>none
theorem zQA {K:PySem.W.Frag}:zNB K zOz zJq:=by
 intro L M M' H H0 x ds d v vs Q c rx rd hk q;unfold zJq at hk;split at hk
 ·rename_i n i;split at hk
  ·rename_i xs e1;split at hk
   ·rename_i k e2;split at hk
    ·rename_i d' e3;split at hk
     ·rename_i hb;cases hk;unfold zV Rep at rx;obtain ⟨a,rfl,e4⟩:=rx;obtain ⟨ws,e5,r5⟩:=c.obj n a _ e4 e1;obtain ⟨u,e6,r6⟩:=r5.get e3;obtain ⟨c5,s5⟩:=c.write e4 e1 (r5.eraseIdx k);exact ⟨a,ws,i,k,u,rfl,zEa rd,e5,hb.1,hb.2,by rw [r5.length]; exact (zHo e2).1,e6,q L _ _ s5 c5 (r6.stp s5)⟩
     ·cases hk
    ·cases hk
   ·cases hk
  ·cases hk
 ·cases hk
theorem zUM (h:QE X a f) (hg:QA X [e] g) (hbase:attributeBase a "pop" X.env (eval a X.env) = eval a X.env:=by rfl)
  (hfew:((backTo cpos (starEach [e] X.env)).all (fun x=> !x.1) && (backToKw cpos (keywordEach [] X.env)).all (fun x=>x.1.isSome) && decide ([e].length + ([]:List Keyword).length + (if ([]:List Keyword).isEmpty then 0 else 1) < 30)) = true:=by rfl)
  (hline:(apos.endLine == cpos.line) = true:=by rfl) (hs:starEach [e] X.env = (false,eval e X.env) :: starEach [] X.env:=by rfl) (hplain:(backTo cpos (starEach [] X.env)).any (·.1) = false:=by rfl) :
  QE X (.Call (.Attribute a "pop" apos) [e] [] cpos) (fM zJq f g) :=
 .mk <| PE.imp (zJj PySem.F.plainAttrs_list PySem.F.slot_list_pop PySem.F.type_list_pop zNs h.un hg.un hbase hfew hline hs hplain) fun _ _ _ z=>zFf zQA z
def zI2 (x:EV) (i:D) (d:D) (M:Mem):Option Mem:=match x,i with
 | .dat (.ref n),.int i=>match M[n]? with
  | some (.lst xs)=>match ixN xs.length i with
   | some j=>some (M.set n (.lst (xs.set j d)))
   | none=>none
  | _=>none
 | _,_=>none
def zKI (fv fo fi:FE):FS:=fun σ M=>match toD fv σ M with
 | some (d,M1)=>match fo σ M1 with
  | some (x,M2)=>match toD fi σ M2 with
   | some (i,M3)=>match zI2 x i d M3 with
    | some M4=>some (.nx,σ,M4)
    | none=>none
   | none=>none
  | none=>none
 | none=>none
theorem zPM (hv:QE X v fv) (ho:QE X o fo) (hi:QE X i fi)
  (ha:∀ v,assign (.Subscript o i p) X.env v = (do
   let ov <- holding [v] (eval o X.env);let iv <- holding [v,ov] (eval i X.env);standAt p;holding [v,ov,iv] (setItem ov iv v);release [v,ov,iv] []):=by intro _; rfl)
  (hs:swapsWithSole [.Subscript o i p] v pos.line X.env = pure false:=by rfl) (hw:swappedStores [.Subscript o i p] v X.env = pure none:=by rfl) (h1:(assignEach [.Subscript o i p] X.env).map (·.2) = [assign (.Subscript o i p) X.env]:=by rfl) :
  QS X (.Assign [.Subscript o i p] v pos) (zKI fv fo fi):=.mk <| PS.imp (zPS (zBb hv).un (zRy ho.un (zBb hi).un zNg ha) hs hw h1) fun E τ H zz=>by
 obtain ⟨L,σ,M,out,σ',M',c,rs,hf,q⟩:=zz;unfold zKI at hf;split at hf
 ·rename_i d M1 e1;split at hf
  ·rename_i x M2 e2;split at hf
   ·rename_i j M3 e3;split at hf
    ·rename_i M4 e4;cases hf;refine ⟨L,σ,M,_,_,c,rs,e1,fun L1 H1 u s1 c1 r1=>⟨L1,σ,M1,_,_,c1,rs.stp s1,e2,fun L2 H2 w s2 c2 r2=>⟨L2,σ,M2,_,_,c2,rs.stp (s1.trans s2),e3,fun L3 H3 z s3 c3 r3=>?_⟩⟩⟩;have st:=(s1.trans s2).trans s3;unfold zI2 at e4;split at e4
     ·rename_i n k;split at e4
      ·rename_i xs e5;split at e4
       ·rename_i m e6;cases e4;have r2':=r2.stp s3;unfold zV Rep at r2';obtain ⟨a,rfl,e7⟩:=r2';obtain ⟨ws,e8,r8⟩:=c3.obj n a _ e7 e5;obtain ⟨c9,s9⟩:=c3.write e7 e5 (zH.set ((r1.stp s2).stp s3) m r8);exact ⟨a,ws,k,m,rfl,by unfold Rep at r3; exact r3,e8,by rw [r8.length]; exact e6,q L3 _ (st.trans s9) c9 τ ((rs.stp st).stp s9)⟩
       ·cases e4
      ·cases e4
     ·cases e4
    ·cases hf
   ·cases hf
  ·cases hf
 ·cases hf
def zGw:D -> Option V
 | .non=>some .non
 | .bl k=>some (.bl k)
 | .int i=>some (.int i)
 | .str x=>some (.str x)
 | _=>none
theorem zEP (h:Rep L H d v) (e:zGw d = some u):v = u:=by
 cases d with
 | non=>cases e; unfold Rep at h; exact h
 | bl _=>cases e; unfold Rep at h; exact h
 | int _=>cases e; unfold Rep at h; exact h
 | str _=>cases e; unfold Rep at h; exact h
 | tup _=>cases e
 | ref _=>cases e
def zJZ (neg:Bool):K2:=fun x y M=>match x,y with
 | .dat d,.dat d'=>match zGw d,zGw d' with
  | some u,some w=>if zQg u w then some (.dat (.bl (if neg then !decide (u = w) else decide (u = w))),M) else none
  | _,_=>none
 | _,_=>none
theorem zHA (h:zJZ neg x y M = some (r,M')):∃ d d' u w,x = .dat d /\ y = .dat d' /\ zGw d = some u /\ zGw d' = some w /\ zQg u w = true /\ r = .dat (.bl (if neg then !decide (u = w) else decide (u = w))) /\ M' = M:=by
 unfold zJZ at h;split at h
 ·rename_i d d';split at h
  ·rename_i u w e1 e2;split at h
   ·rename_i hs;cases h;exact ⟨d,d',u,w,rfl,rfl,e1,e2,hs,rfl,rfl⟩
   ·cases h
  ·cases h
 ·cases h
theorem zLY {K:PySem.W.Frag}:zA3 K rEq (zJZ false):=by
 intro L M M' H H0 x y d v w Q c rx ry hk q;obtain ⟨d1,d2,u,z,rfl,rfl,e1,e2,hs,rfl,rfl⟩:=zHA hk;have a1:=zEP rx e1;have a2:=zEP ry e2;subst a1 a2;exact ⟨hs,q L H _ (.refl L H) c (zAc (L:=L) (H:=H))⟩
theorem zPb {K:PySem.W.Frag}:zA3 K rNe (zJZ true):=by
 intro L M M' H H0 x y d v w Q c rx ry hk q;obtain ⟨d1,d2,u,z,rfl,rfl,e1,e2,hs,rfl,rfl⟩:=zHA hk;have a1:=zEP rx e1;have a2:=zEP ry e2;subst a1 a2;exact ⟨hs,q L H _ (.refl L H) c (zAc (L:=L) (H:=H))⟩
def zSd (neg:Bool) (K:PySem.W.Frag):R2:=fun x y H Q=>∃ p q xs,x = .ref p /\ y = .ref q /\ SqL K H p xs /\ SqL K H q [] /\ Q (.bl (if neg then !xs.isEmpty else xs.isEmpty)) H
theorem zHa (r:zW [] its):its = []:=by cases r; rfl
theorem zI5 (hu:X.A.units < cLine):OpR X (compareOp .Eq) (zSd false X.K):=by
 intro zB s σ H x y v u Q I rx ry h;obtain ⟨p,q,xs,rfl,rfl,h1,h2,hq⟩:=h;cases rx;cases ry;obtain ⟨its,rv,pl,_⟩:=I.list h1;obtain ⟨its2,rv2,pl2,_⟩:=I.list h2;cases zHa rv2;cases rv with
 | nil=>exact SeqAt.eq_listAt (e:=fun _=>true) pl.isList pl2.isList rfl hu (fun j h1=>by simp at h1) ⟨.bl true,H,I,rfl,hq⟩
 | cons _ _=>exact SeqAt.eq_list_lengthsAt pl.isList pl2.isList (by simp) hu ⟨.bl false,H,I,rfl,hq⟩
theorem zNS (hu:X.A.units < cLine):OpR X (compareOp .NotEq) (zSd true X.K):=by
 intro zB s σ H x y v u Q I rx ry h;obtain ⟨p,q,xs,rfl,rfl,h1,h2,hq⟩:=h;cases rx;cases ry;obtain ⟨its,rv,pl,_⟩:=I.list h1;obtain ⟨its2,rv2,pl2,_⟩:=I.list h2;cases zHa rv2;cases rv with
 | nil=>exact SeqAt.RcNeAt.lists (e:=fun _=>true) pl.isList pl2.isList rfl hu (fun j h1=>by simp at h1) _ _ _ _ ⟨.bl false,H,I,rfl,hq⟩
 | cons _ _=>exact SeqAt.RcNeAt.lists_lengths pl.isList pl2.isList (by simp) hu _ _ _ _ ⟨.bl true,H,I,rfl,hq⟩
def zM2 (neg:Bool):K2:=fun x y M=>match zAk M x,zAk M y with
 | some xs,some []=>some (.dat (.bl (if neg then !xs.isEmpty else xs.isEmpty)),M)
 | _,_=>none
theorem zH6 {K:PySem.W.Frag} {neg:Bool}:zA3 K (zSd neg K) (zM2 neg):=by
 intro L M M' H H0 x y d v w Q c rx ry hk q;unfold zM2 at hk;split at hk
 ·rename_i xs e1 e2;cases hk;obtain ⟨p1,vs,rfl,h1,r1⟩:=zAS c rx e1;obtain ⟨p2,ws,rfl,h2,r2⟩:=zAS c ry e2;unfold zH at r2;subst r2;refine ⟨p1,p2,vs,rfl,rfl,.inl h1,.inl h2,q L H _ (.refl L H) c ?_⟩;have:vs.isEmpty = xs.isEmpty:=by
   have:=r1.length;cases vs <;> cases xs <;> simp_all
  rw [this];exact (zAc (L:=L) (H:=H))
 ·cases hk
def kOr (k1 k2:K2):K2:=fun x y M=>match k1 x y M with
 | some r=>some r
 | none=>k2 x y M
theorem zH4 {K:PySem.W.Frag} {r1 r2:R2} {k1 k2:K2} (h1:zA3 K r1 k1) (h2:zA3 K r2 k2):zA3 K (fun x y H Q=>r1 x y H Q \/ r2 x y H Q) (kOr k1 k2):=by
 intro L M M' H H0 x y d v w Q c rx ry hk q;unfold kOr at hk;split at hk
 ·rename_i r e1;cases hk;exact .inl (h1 c rx ry e1 q)
 ·exact .inr (h2 c rx ry hk q)
abbrev kEq:K2:=kOr (zJZ false) (zM2 false)
abbrev kNe:K2:=kOr (zJZ true) (zM2 true)
variable {f g:FE}
theorem zU4 (hu:X.A.units < cLine) (h1:QE X a f) (h2:QE X b g):QE X (.Compare a [.Eq] [b] pos) (fOp kEq f g):=zT4 (zH4 zLY zH6) (zRQ.or (zI5 hu)) h1 h2 (zC0 _)
theorem zTq (hu:X.A.units < cLine) (h1:QE X a f) (h2:QE X b g):QT X (.Compare a [.Eq] [b] pos) (tst (fOp kEq f g)):=zDl (zH4 zLY zH6) (zRQ.or (zI5 hu)) h1 h2 (zC0 _)
theorem zUD (hu:X.A.units < cLine) (h1:QE X a f) (h2:QE X b g):QT X (.Compare a [.NotEq] [b] pos) (tst (fOp kNe f g)):=zDl (zH4 zPb zH6) (zUG.or (zNS hu)) h1 h2 (zC0 _)
def zMb:KB:=fun xs M=>match xs with
 | [.dat (.int i)]=>some (.dat (.int (if i < 0 then -i else i)),M)
 | _=>none
theorem zQv {K:PySem.W.Frag}:zE6 K (fun xs H Q=>∃ i,xs = [.int i] /\ Q (.int (if i < 0 then -i else i)) H) zMb:=by
 intro L M M' H H0 xs d vs Q c r hk q;unfold zMb at hk;split at hk
 ·rename_i i;cases hk;obtain ⟨v,rfl,r1⟩:=r.one;have:v = .int i:=by unfold zV Rep at r1; exact r1
  subst this;exact ⟨i,rfl,q L H _ (.refl L H) c (z0 (L:=L) (H:=H))⟩
 ·cases hk
def zKa:KB:=fun xs M=>match xs with
 | [.dat (.int i)]=>some (.dat (.int i),M)
 | [.dat (.bl k)]=>some (.dat (.int (if k then 1 else 0)),M)
 | _=>none
theorem zQQ {K:PySem.W.Frag}:zE6 K (fun xs H Q=>(∃ i,xs = [.int i] /\ Q (.int i) H) \/ ∃ k,xs = [.bl k] /\ Q (.int (if k then 1 else 0)) H) zKa:=by
 intro L M M' H H0 xs d vs Q c r hk q;unfold zKa at hk;split at hk
 ·rename_i i;cases hk;obtain ⟨v,rfl,r1⟩:=r.one;have:v = .int i:=by unfold zV Rep at r1; exact r1
  subst this;exact .inl ⟨i,rfl,q L H _ (.refl L H) c (z0 (L:=L) (H:=H))⟩
 ·rename_i k;cases hk;obtain ⟨v,rfl,r1⟩:=r.one;have:=zq r1;subst this;exact .inr ⟨k,rfl,q L H _ (.refl L H) c (z0 (L:=L) (H:=H))⟩
 ·cases hk
end
section
variable {X:Cx} {a b c e:Expr} {es rest:List Expr} {pos p apos cpos:Pos}
theorem zNo {prog:Program} {w:World} {A:Around} {E:Value -> Shared -> Prop} {s:Shared} {t b:Addr} {ws:List Value} {Q:Value -> Shared -> Prop} (ht:IsTup s.heap t #[]) (hb:IsTup s.heap b ws.toArray) (h1:Q (.ref b) s) :
  wpAny (model prog w) A (binaryOp .Add (.ref t) (.ref b)) Q E s:=by
 obtain ⟨⟨cls,dd,data,sl⟩,ho,hc,n,hd⟩:=id ht;obtain ⟨⟨cls2,dd2,data2,sl2⟩,ho2,hc2,n2,hd2⟩:=id hb;simp only at hc hd hc2 hd2;subst hc hd hc2 hd2
 exact concat_meets ⟨_,ho,rfl⟩ ⟨_,ho2,rfl⟩ noFill_tuple_add seq_tuple_add PySem.F.slot_tuple_add PySem.F.entry_tuple_add (PySem.F.args_tuple_add_2 _ _)
   (tuple_addW0 t b #[] ws.toArray n n2 dd dd2 sl sl2 (by simp)) ⟨ho,ho2,h1⟩
def zNi (K:PySem.W.Frag):R2:=fun x y H Q=>∃ a b ys,x = .ref a /\ y = .ref b /\ SqT K H a [] /\ SqT K H b ys /\ Q (.ref b) H
theorem zNt:OpR X (binaryOp .Add) (zNi X.K):=by
 intro zB s σ H x y v u Q I rx ry h;obtain ⟨a,b,ys,rfl,rfl,ha,hb,q⟩:=h;cases rx;cases ry;obtain ⟨its,r1,p1,_⟩:=I.tuple ha;obtain ⟨its2,r2,p2,_⟩:=I.tuple hb;cases zHa r1;exact zNo p1 p2 ⟨.ref b,H,I,rfl,q⟩
def zOM:K2:=fun x y M=>match zCB x,zCB y with
 | some xs,some ys=>if xs.length + ys.length <= sizeLine then some (.dat (.tup (xs ++ ys)),M) else none
 | _,_=>none
theorem zOf {K:PySem.W.Frag}:zA3 K (fun x y H Q=>zRP K x y H Q \/ zNi K x y H Q) zOM:=by
 intro L M M' H H0 x y d v w Q c rx ry hk q;unfold zOM at hk;split at hk
 ·rename_i xs ys e1 e2;split at hk
  ·rename_i hz;cases hk;obtain ⟨p1,vs,rfl,h1,r1⟩:=zA5 rx e1;obtain ⟨p2,ws,rfl,h2,r2⟩:=zA5 ry e2;cases xs with
   | nil=>
    refine .inr ⟨p1,p2,ws,rfl,rfl,.of (by unfold zH at r1; subst r1; exact h1),.of h2,q L H _ (.refl L H) c ?_⟩;unfold zV Rep;exact ⟨p2,ws,rfl,h2,r2⟩
   | cons x0 xr=>
    have hv:vs ≠ []:=fun z=>by have:=r1.length; rw [z] at this; simp at this
    refine .inl ⟨p1,p2,vs,ws,rfl,rfl,.of h1,.of h2,hv,by rw [r1.length,r2.length]; exact hz,fun z=>?_,fun z pp hp=>?_⟩
    ·have:ys = []:=by
      have:=r2.length; rw [z] at this;cases ys with
      | nil=>rfl
      | cons _ _=>simp at this
     subst this;refine q L H _ (.refl L H) c ?_;unfold zV Rep;rw [zVp];exact ⟨p1,vs,rfl,h1,r1⟩
    ·exact q L _ _ (.upd hp) (c.upd hp) (Rep.newTup hp (r1.app r2))
  ·cases hk
 ·cases hk
abbrev zAQ:K2:=kOr zUe zOM
variable {f g:FE}
theorem zSv (h1:QE X a f) (h2:QE X b g):QE X (.BinOp a .Add b pos) (fOp zAQ f g):=zKs (zH4 (zCG fun _ _ _ _=>z0) zOf) (zSp.or (zPl.or zNt)) h1 h2
structure Kinds (K:PySem.W.Frag):Prop where
 k:∀ t T,t ∈ ["NoneType", "bool", "int", "str", "list", "tuple", "dict"] -> T ∈ ["int", "bool", "str", "tuple"] -> PySem.W.kitOne K (.type t) (.type T) = some (decide (t = T) || (decide (t = "bool") && decide (T = "int")))
def zM8 (M:Mem):EV -> Option String
 | .dat .non=>some "NoneType"
 | .dat (.bl _)=>some "bool"
 | .dat (.int _)=>some "int"
 | .dat (.str _)=>some "str"
 | .dat (.tup _)=>some "tuple"
 | .fl _=>some "list"
 | .dat (.ref n)=>match M[n]? with
  | some (.lst _)=>some "list"
  | some (.fro _)=>some "list"
  | some (.dict _)=>some "dict"
  | some (.dicT _)=>some "dict"
  | _=>none
theorem zSV {K:PySem.W.Frag} {L:List Addr} {M:Mem} {H H0:Hp} {x:EV} {v:V} {t:String} (c:Cor K L M H) (r:zV H0 L H x v) (h:zM8 M x = some t):TyOf K H v (.type t) /\ t ∈ ["NoneType", "bool", "int", "str", "list", "tuple", "dict"]:=by
 unfold zM8 at h;split at h
 ·cases h; unfold zV Rep at r; subst r; exact ⟨.non,by simp⟩
 ·cases h; unfold zV Rep at r; subst r; exact ⟨.bl _,by simp⟩
 ·cases h; unfold zV Rep at r; subst r; exact ⟨.int _,by simp⟩
 ·cases h; unfold zV Rep at r; subst r; exact ⟨.str _,by simp⟩
 ·cases h; unfold zV Rep at r; obtain ⟨a,vs,rfl,e,_⟩:=r; exact ⟨.tup e,by simp⟩
 ·cases h;obtain ⟨p,vs,rfl,_,e,_⟩:=r;exact ⟨.lst e,by simp⟩
 ·unfold zV Rep at r;obtain ⟨a,rfl,e⟩:=r;split at h
  ·rename_i e1; cases h; obtain ⟨vs,q,_⟩:=c.obj _ a _ e e1; exact ⟨.lst q,by simp⟩
  ·rename_i e1; cases h; obtain ⟨o,vs,q,_⟩:=c.obj _ a _ e e1; exact ⟨.frz q,by simp⟩
  ·rename_i e1; cases h; obtain ⟨vs,q,_⟩:=c.obj _ a _ e e1; exact ⟨.dK q,by simp⟩
  ·rename_i e1; cases h; obtain ⟨vs,q,_⟩:=c.obj _ a _ e e1; exact ⟨.dT q,by simp⟩
  ·cases h
def isT (t T:String):Bool:=decide (t = T) || (decide (t = "bool") && decide (T = "int"))
def zII (T:String) (f:FE):FE:=fun σ M=>match f σ M with
 | some (x,M1)=>match zM8 M1 x with
  | some t=>some (.dat (.bl (isT t T)),M1)
  | none=>none
 | none=>none
def zUA (K:PySem.W.Frag) (T:String):List V -> Hp -> VK -> Prop:=fun xs H Q=>∃ x t b,xs = [x,.ty T] /\ TyOf K H x t /\ PySem.W.kitOne K t (.type T) = some b /\ Q (.bl b) H
theorem zPH:zBX X (.builtin "isinstance") (zUA X.K T):=by
 intro zB s σ H xs us Q I r h;obtain ⟨x,t,b,rfl,ty,e,q⟩:=h;cases r with
 | cons r1 r2=>
  cases r2 with
  | cons r3 r4=>
   cases r4;cases r3;exact zL6 I r1 ty e fun tk=>⟨.bl b,H,I.tok _,rfl,q⟩
theorem zO6 (hK:Kinds X.K) (hT:T ∈ ["int", "bool", "str", "tuple"]) (hg:Gl X "isinstance") (hm:X.mg "isinstance" = none) (hg2:Gl X y) (hm2:X.mg y = none) (hv2:bootBuiltins y = some (.type T)) (hn2:y ≠ "__name__") (hd2:(y == ("__debug__" : Str)) = false) (h:QE X e f)
  (he:starEach (e :: [.Name y p2]) X.env = (false,eval e X.env) :: starEach [.Name y p2] X.env:=by rfl) (he2:starEach [.Name y p2] X.env = (false,eval (.Name y p2) X.env) :: starEach [] X.env:=by rfl) (hpl:(backTo pos (starEach [.Name y p2] X.env)).any (·.1) = false:=by rfl) :
  QE X (.Call (.Name "isinstance" p1) [e,.Name y p2] [] pos) (zII T f) :=
 .mk <| PE.imp (zIZ (r:=zUA X.K T) zPH hg hm (by rfl) (zB3 h.un (zB3 (zPy (v:=.ty T) hg2 hm2 hv2 rfl hn2 hd2) zDw he2) he) (by decide) (by decide) he hpl) fun τ H Q zz=>by
  obtain ⟨L,σ,M,d,M',c,rs,hf,q⟩:=zz;unfold zII at hf;split at hf
  ·rename_i x M1 e1;split at hf
   ·rename_i t e2;cases hf;refine ⟨L,σ,M,_,_,c,rs,e1,fun L1 H1 v s1 c1 r1=>?_⟩;obtain ⟨ty,ht⟩:=zSV c1 r1 e2;exact ⟨v,_,_,rfl,ty,hK.k t T ht hT,q L1 H1 _ s1 c1 (zAc (L:=L1) (H:=H1))⟩
   ·cases hf
  ·cases hf
theorem zH.two (h:zH L H [d,d'] vs):∃ v v',vs = [v,v'] /\ Rep L H d v /\ Rep L H d' v':=by
 unfold zH at h;obtain ⟨v,r,rfl,h1,h2⟩:=h;obtain ⟨v',rfl,h3⟩:=h2.one;exact ⟨v,v',rfl,h1,h3⟩
section
variable {fa:FAE}
theorem zTJ (hg:Gl X "len") (hm:X.mg "len" = none) (ha:QAE X [e] fa) (he:starEach [e] X.env = (false,eval e X.env) :: starEach [] X.env:=by rfl) (hpl:(backTo pos (starEach [] X.env)).any (·.1) = false:=by rfl):QE X (.Call (.Name "len" p) [e] [] pos) (fB zBQ fa) :=
 zCh zPo zHl PySem.boot_len hg hm ha (by decide) (by decide) he hpl
theorem zPa (hg:Gl X "tuple") (hm:X.mg "tuple" = none) (ha:QAE X [e] fa) (he:starEach [e] X.env = (false,eval e X.env) :: starEach [] X.env:=by rfl) (hpl:(backTo pos (starEach [] X.env)).any (·.1) = false:=by rfl):QE X (.Call (.Name "tuple" p) [e] [] pos) (fB zBm fa) :=
 zIc zMg zGU (by rfl) hg hm ha (by decide) (by decide) he hpl
theorem zUE (hg:Gl X "abs") (hm:X.mg "abs" = none) (ha:QAE X [e] fa) (he:starEach [e] X.env = (false,eval e X.env) :: starEach [] X.env:=by rfl) (hpl:(backTo pos (starEach [] X.env)).any (·.1) = false:=by rfl):QE X (.Call (.Name "abs" p) [e] [] pos) (fB zMb fa) :=
 zCh zQv zOy (by rfl) hg hm ha (by decide) (by decide) he hpl
theorem zSP (hg:Gl X "int") (hm:X.mg "int" = none) (ha:QAE X [e] fa) (he:starEach [e] X.env = (false,eval e X.env) :: starEach [] X.env:=by rfl) (hpl:(backTo pos (starEach [] X.env)).any (·.1) = false:=by rfl):QE X (.Call (.Name "int" p) [e] [] pos) (fB zKa fa) :=
 zIc zQQ zMe (by rfl) hg hm ha (by decide) (by decide) he hpl
end
end
def zEM (sc scope:Scope):Bool:=scope.names.all fun y=>
 (y.2 != .local || scope.names.lookup y.1 == some .local) && (y.2 != .cell || scope.names.lookup y.1 == some .cell) && (y.2 != .free || (sc.names.lookup y.1 == some .cell || sc.names.lookup y.1 == some .free))
def zFH (N:List Str) (scope:Scope) (own:List Nat):Bool:=(List.range N.length).all fun i=>match N[i]? with
 | some x=>decide (i ∈ own) || (scope.names.lookup x == none) || (scope.names.lookup x == some .free)
 | none=>true
theorem zHR (hk:scope.kind = .function) (hs:X.env.scope = sc) (hN:X.N = N) (h1:zEM sc scope = true) (h2:zFH N scope own = true):CompIn X scope own:=by
 unfold zEM at h1;rw [zVg] at h1;refine ⟨⟨hk,fun y hy e=>?_,fun y hy e=>?_,fun y hy e=>?_⟩,fun i x e=>?_⟩
 ·have:=h1 y hy;simp [e] at this;exact this
 ·have:=h1 y hy;simp [e] at this;exact this
 ·have:=h1 y hy;simp [e] at this;show X.env.scope.names.lookup y.1 = _ \/ X.env.scope.names.lookup y.1 = _;rw [hs];exact this
 ·unfold zFH at h2;rw [zVg] at h2;rw [hN] at e;have hi:i < N.length:=(zU8.mp e).1;have:=h2 i (by simpa using hi);rw [e] at this;simp only [Bool.or_eq_true,zWI,beq_iff_eq,or_assoc] at this;exact this
def zH3 (K:PySem.W.Frag):Bool:=K.all fun p=>match p.2.cls with
 | .type n=>n != "list"
 | _=>true
theorem zI3:∀ {K:PySem.W.Frag},K.lookup a = some o -> (a,o) ∈ K
 | [],h=>by cases h
 | (b,u) :: r,h=>by
  have h':List.lookup a ((b,u) :: r) = some o:=h;rw [zXA] at h';cases q:a == b with
  | true=>rw [q] at h'; cases h'; rw [beq_iff_eq.mp q]; exact zVJ
  | false=>rw [q] at h'; exact zVI _ (zI3 h')
theorem zMR {K:PySem.W.Frag} (h:zH3 K = true) {o:Obj} (e:K.lookup a = some o) (hc:o.cls = .type "list"):False:=by
 unfold zH3 at h;rw [zVg] at h;have:=h (a,o) (zI3 e);simp [hc] at this
theorem zG0:∀ (ns:List Int),zH L H (ns.map D.int) (ns.map V.int)
 | []=> .nil
 | n :: r=> .cons (by unfold Rep; rfl) (zG0 r)
theorem zM9 {K:PySem.W.Frag} {m:FF} {H:Hp} {a:Addr} {ns:List Int} {E:XK} (hL:zH3 K = true) (hO:zRH H) (hS:SqL K H a (ns.map V.int)) (h:∃ M',m [.ref 0] [.fro (ns.map D.int)] = some (.bl true,M')) :
  spF K 1 m [.ref a] H (fun v _=>v = .bl true) E:=by
 obtain ⟨M',e⟩:=h;have hf:∃ o,H a = some (.frz o (.lst (ns.map V.int))):=by
  rcases hS with (h1 | h1) | ⟨o,its,n,h1,h2,_⟩
  ·rcases hO a with z | ⟨o,xs,z⟩
   ·rw [h1] at z; cases z
   ·rw [h1] at z; cases z
  ·exact h1
  ·exact (zMR hL h1 h2).elim
 obtain ⟨o,hf⟩:=hf;refine ⟨[a],[.ref 0],[.fro (ns.map D.int)],_,_,⟨rfl,by simp,fun n b m e1 e2=>?_⟩,.cons ?_ .nil,rfl,e,fun L' H' v s c r=>?_⟩
 ·cases n with
  | zero=>simp at e1 e2; subst e1; subst e2; exact ⟨o,_,hf,zG0 ns⟩
  | succ n=>simp at e1
 ·unfold Rep; exact ⟨a,rfl,rfl⟩
 ·unfold Rep at r; exact r
def Ok {α:Type} (x:Option (α × Mem)) (P:α -> Mem -> Prop):Prop:=∃ a M,x = some (a,M) /\ P a M
def OkS (x:Option (Out × Sd × Mem)) (P:Out -> Sd -> Mem -> Prop):Prop:=∃ o σ M,x = some (o,σ,M) /\ P o σ M
theorem Ok.mono {α:Type} {x:Option (α × Mem)} {P Q:α -> Mem -> Prop} (h:Ok x P) (hq:∀ a M,P a M -> Q a M):Ok x Q:=let ⟨a,M,e,p⟩:=h; ⟨a,M,e,hq a M p⟩
theorem OkS.mono {x:Option (Out × Sd × Mem)} {P Q:Out -> Sd -> Mem -> Prop} (h:OkS x P) (hq:∀ o σ M,P o σ M -> Q o σ M):OkS x Q:=let ⟨a,σ,M,e,p⟩:=h; ⟨a,σ,M,e,hq a σ M p⟩
theorem zg {α:Type} {a:α} {M:Mem} {P:α -> Mem -> Prop}:Ok (some (a,M)) P ↔ P a M:=⟨fun ⟨_,_,e,p⟩=>by cases e; exact p,fun p=>⟨a,M,rfl,p⟩⟩
theorem zFE {α:Type} {P:α -> Mem -> Prop}:Ok (none:Option (α × Mem)) P ↔ False:=⟨(fun ⟨_,_,e,_⟩=>(nomatch e)),fun h=>h.elim⟩
theorem zPJ {o:Out} {σ:Sd} {M:Mem} {P:Out -> Sd -> Mem -> Prop}:OkS (some (o,σ,M)) P ↔ P o σ M:=⟨fun ⟨_,_,_,e,p⟩=>by cases e; exact p,fun p=>⟨o,σ,M,rfl,p⟩⟩
section
variable {σ:Sd} {M:Mem} {f g:FE} {P:EV -> Mem -> Prop}
theorem zv {i:Nat}:Ok (zC i σ M) P ↔ ∃ d,σ[i]? = some (some d) /\ P (.dat d) M:=by
 unfold zC;constructor
 ·rintro ⟨a,M1,e,p⟩;split at e
  ·rename_i d e1; cases e; exact ⟨d,e1,p⟩
  ·cases e
 ·rintro ⟨d,e1,p⟩;rw [e1]; exact ⟨_,_,rfl,p⟩
theorem zBz {d:D}:Ok (fC d σ M) P ↔ P (.dat d) M:=zg
theorem zAA {k:K2}:Ok (fOp k f g σ M) P ↔ Ok (f σ M) fun x M1=>Ok (g σ M1) fun y M2=>Ok (k x y M2) P:=by
 unfold fOp;constructor
 ·rintro ⟨a,M1,e,p⟩;split at e
  ·rename_i x M2 e1;split at e
   ·rename_i y M3 e2;exact ⟨x,M2,e1,y,M3,e2,a,M1,e,p⟩
   ·cases e
  ·cases e
 ·rintro ⟨x,M2,e1,y,M3,e2,a,M1,e,p⟩;rw [e1]; dsimp only; rw [e2]; exact ⟨a,M1,e,p⟩
def zFY (P:D -> Mem -> Prop):EV -> Mem -> Prop
 | .dat d,M=>P d M
 | .fl xs,M=>P (.ref M.length) (M ++ [.lst xs])
theorem zAT {P:D -> Mem -> Prop}:Ok (toD f σ M) P ↔ Ok (f σ M) (zFY P):=by
 unfold toD;constructor
 ·rintro ⟨a,M1,e,p⟩;split at e
  ·rename_i d M2 e1; cases e; exact ⟨_,_,e1,p⟩
  ·rename_i xs M2 e1; cases e; exact ⟨_,_,e1,p⟩
  ·cases e
 ·rintro ⟨x,M2,e1,p⟩;rw [e1];cases x with
  | dat d=>exact ⟨d,M2,rfl,p⟩
  | fl xs=>exact ⟨_,_,rfl,p⟩
theorem zL {P:D -> Mem -> Prop} {d:D} {M:Mem}:zFY P (.dat d) M ↔ P d M:=Iff.rfl
theorem zFD {P:D -> Mem -> Prop} {xs:List D} {M:Mem}:zFY P (.fl xs) M ↔ P (.ref M.length) (M ++ [.lst xs]):=Iff.rfl
section
variable {P:List D -> Mem -> Prop}
theorem zB2:Ok (zI σ M) P ↔ P [] M:=zg
theorem zAY {f:FD} {g:FA}:Ok (zD f g σ M) P ↔ Ok (f σ M) fun d M1=>Ok (g σ M1) fun ds M2=>P (d :: ds) M2:=by
 unfold zD;constructor
 ·rintro ⟨a,M1,e,p⟩;split at e
  ·rename_i x M2 e1;split at e
   ·rename_i y M3 e2;cases e;exact ⟨x,M2,e1,y,_,e2,p⟩
   ·cases e
  ·cases e
 ·rintro ⟨x,M2,e1,y,M3,e2,p⟩;rw [e1]; dsimp only; rw [e2]; exact ⟨_,_,rfl,p⟩
end
section
variable {P:List EV -> Mem -> Prop}
theorem zFM:Ok (zh σ M) P ↔ P [] M:=zg
theorem zD9 {f:FE} {g:FAE}:Ok (zQ f g σ M) P ↔ Ok (f σ M) fun d M1=>Ok (g σ M1) fun ds M2=>P (d :: ds) M2:=by
 unfold zQ;constructor
 ·rintro ⟨a,M1,e,p⟩;split at e
  ·rename_i x M2 e1;split at e
   ·rename_i y M3 e2;cases e;exact ⟨x,M2,e1,y,_,e2,p⟩
   ·cases e
  ·cases e
 ·rintro ⟨x,M2,e1,y,M3,e2,p⟩;rw [e1]; dsimp only; rw [e2]; exact ⟨_,_,rfl,p⟩
end
theorem zJu {a:FA}:Ok (zAW a σ M) P ↔ Ok (a σ M) fun ds M1=>ds.length <= sizeLine /\ P (.fl ds) M1:=by
 unfold zAW;constructor
 ·rintro ⟨x,M1,e,p⟩;split at e
  ·rename_i ds M2 e1;split at e
   ·rename_i hz; cases e; exact ⟨ds,_,e1,hz,p⟩
   ·cases e
  ·cases e
 ·rintro ⟨ds,M1,e1,hz,p⟩;rw [e1]; dsimp only; rw [zVK hz]; exact ⟨_,_,rfl,p⟩
theorem zQt {k:KB} {a:FAE}:Ok (fB k a σ M) P ↔ Ok (a σ M) fun xs M1=>Ok (k xs M1) P:=by
 unfold fB;constructor
 ·rintro ⟨x,M1,e,p⟩;split at e
  ·rename_i ds M2 e1; exact ⟨ds,_,e1,x,M1,e,p⟩
  ·cases e
 ·rintro ⟨ds,M1,e1,p⟩;rw [e1]; exact p
theorem zCd {m:FF} {a:FA}:Ok (zR m a σ M) P ↔ Ok (a σ M) fun ds M1=>Ok (m ds M1) fun d M2=>P (.dat d) M2:=by
 unfold zR;constructor
 ·rintro ⟨x,M1,e,p⟩;split at e
  ·rename_i ds M2 e1;split at e
   ·rename_i d M3 e2; cases e; exact ⟨ds,_,e1,d,_,e2,p⟩
   ·cases e
  ·cases e
 ·rintro ⟨ds,M1,e1,d,M2,e2,p⟩;rw [e1]; dsimp only; rw [e2]; exact ⟨_,_,rfl,p⟩
theorem zKl {k:KM} {a:FA}:Ok (fM k f a σ M) P ↔ Ok (f σ M) fun x M1=>(∃ xs,zAk M1 x = some xs) /\ Ok (a σ M1) fun ds M2=>Ok (k x ds M2) fun d M3=>P (.dat d) M3:=by
 unfold fM;constructor
 ·rintro ⟨x,M1,e,p⟩;split at e
  ·rename_i y M2 e1;split at e
   ·rename_i xs e2;split at e
    ·rename_i ds M3 e3;split at e
     ·rename_i d M4 e4; cases e; exact ⟨y,_,e1,⟨xs,e2⟩,ds,_,e3,d,_,e4,p⟩
     ·cases e
    ·cases e
   ·cases e
  ·cases e
 ·rintro ⟨y,M1,e1,⟨xs,e2⟩,ds,M2,e3,d,M3,e4,p⟩;rw [e1]; dsimp only; rw [e2]; dsimp only; rw [e3]; dsimp only; rw [e4]; exact ⟨_,_,rfl,p⟩
section
variable {P:Option Int -> Mem -> Prop}
theorem zIT:Ok (zEq σ M) P ↔ P none M:=zg
def zTX (P:Option Int -> Mem -> Prop):EV -> Mem -> Prop
 | .dat (.int i),M=>P (some i) M
 | _,_=>False
theorem zIm {i:Int} {M:Mem}:zTX P (.dat (.int i)) M ↔ P (some i) M:=Iff.rfl
theorem zJf:Ok (zEH f σ M) P ↔ Ok (f σ M) (zTX P):=by
 unfold zEH;constructor
 ·rintro ⟨x,M1,e,p⟩;split at e
  ·rename_i i M2 e1; cases e; exact ⟨_,_,e1,p⟩
  ·cases e
 ·rintro ⟨x,M1,e1,p⟩;rw [e1];cases x with
  | fl xs=>exact p.elim
  | dat d=>
   cases d with
   | int i=>exact ⟨_,_,rfl,p⟩
   | _=>exact p.elim
end
theorem zRM {l h:FO}:Ok (fSl f l h σ M) P ↔ Ok (f σ M) fun x M1=>Ok (l σ M1) fun lo M2=>Ok (h σ M2) fun hi M3=>Ok (kSl x lo hi M3) P:=by
 unfold fSl;constructor
 ·rintro ⟨x,M1,e,p⟩;split at e
  ·rename_i y M2 e1;split at e
   ·rename_i lo M3 e2;split at e
    ·rename_i hi M4 e3; exact ⟨y,_,e1,lo,_,e2,hi,_,e3,x,M1,e,p⟩
    ·cases e
   ·cases e
  ·cases e
 ·rintro ⟨y,M1,e1,lo,M2,e2,hi,M3,e3,p⟩;rw [e1]; dsimp only; rw [e2]; dsimp only; rw [e3]; exact p
def blP (P:Bool -> Mem -> Prop):EV -> Mem -> Prop
 | .dat (.bl k),M=>P k M
 | _,_=>False
theorem zD0 {P:Bool -> Mem -> Prop} {k:Bool} {M:Mem}:blP P (.dat (.bl k)) M ↔ P k M:=Iff.rfl
theorem zKc {P:Bool -> Mem -> Prop}:Ok (tst f σ M) P ↔ Ok (f σ M) (blP P):=by
 unfold tst;constructor
 ·rintro ⟨x,M1,e,p⟩;split at e
  ·rename_i i M2 e1; cases e; exact ⟨_,_,e1,p⟩
  ·cases e
 ·rintro ⟨x,M1,e1,p⟩;rw [e1];cases x with
  | fl xs=>exact p.elim
  | dat d=>
   cases d with
   | bl i=>exact ⟨_,_,rfl,p⟩
   | _=>exact p.elim
section
variable {P:Bool -> Mem -> Prop} {s t:FT}
theorem zJi:Ok (zd σ M) P ↔ P true M:=zg
theorem zPc:Ok (zBc s t σ M) P ↔ Ok (s σ M) fun k M1=>if k then Ok (t σ M1) P else P false M1:=by
 unfold zBc;constructor
 ·rintro ⟨x,M1,e,p⟩;split at e
  ·rename_i M2 e1; exact ⟨true,M2,e1,by dsimp only; rw [zVK rfl]; exact ⟨x,M1,e,p⟩⟩
  ·rename_i hn;cases x with
   | true=>exact absurd e (hn M1)
   | false=>exact ⟨false,M1,e,by simpa using p⟩
 ·rintro ⟨x,M1,e1,p⟩;rw [e1];cases x with
  | true=>simpa using p
  | false=>exact ⟨false,M1,rfl,by simpa using p⟩
end
end
section
variable {σ:Sd} {M:Mem} {f g:FS} {P:Out -> Sd -> Mem -> Prop}
def nxP (k:Sd -> Mem -> Prop) (P:Out -> Sd -> Mem -> Prop):Out -> Sd -> Mem -> Prop
 | .nx,σ,M=>k σ M
 | o,σ,M=>P o σ M
theorem zP {k:Sd -> Mem -> Prop}:nxP k P .nx σ M ↔ k σ M:=Iff.rfl
theorem zCY {k:Sd -> Mem -> Prop} {d:D}:nxP k P (.ret d) σ M ↔ P (.ret d) σ M:=Iff.rfl
theorem zAs:OkS (zBM σ M) P ↔ P .nx σ M:=zPJ
theorem zK:OkS (zO f g σ M) P ↔ OkS (f σ M) (nxP (fun σ1 M1=>OkS (g σ1 M1) P) P):=by
 unfold zO;constructor
 ·rintro ⟨o,σ1,M1,e,p⟩;split at e
  ·rename_i σ2 M2 e1; exact ⟨_,_,_,e1,o,σ1,M1,e,p⟩
  ·rename_i hn;refine ⟨o,σ1,M1,e,?_⟩;cases o with
   | nx=>exact absurd e (hn σ1 M1)
   | _=>exact p
 ·rintro ⟨o,σ1,M1,e1,p⟩;rw [e1];cases o with
  | nx=>exact p
  | _=>exact ⟨_,_,_,rfl,p⟩
theorem zBA {c:FT}:OkS (sIf c f g σ M) P ↔ Ok (c σ M) fun k M1=>if k then OkS (f σ M1) P else OkS (g σ M1) P:=by
 unfold sIf;constructor
 ·rintro ⟨o,σ1,M1,e,p⟩;split at e
  ·rename_i M2 e1; exact ⟨_,_,e1,by dsimp only; rw [zVK rfl]; exact ⟨o,σ1,M1,e,p⟩⟩
  ·rename_i M2 e1; exact ⟨_,_,e1,by simpa using ⟨o,σ1,M1,e,p⟩⟩
  ·cases e
 ·rintro ⟨x,M1,e1,p⟩;rw [e1];cases x with
  | true=>simpa using p
  | false=>simpa using p
theorem zAU {h:FE}:OkS (zw h σ M) P ↔ Ok (h σ M) (zFY fun d M1=>P (.ret d) σ M1):=by
 rw [<- zAT];unfold zw;constructor
 ·rintro ⟨o,σ1,M1,e,p⟩;split at e
  ·rename_i d M2 e1; cases e; exact ⟨_,_,e1,p⟩
  ·cases e
 ·rintro ⟨x,M1,e1,p⟩;rw [e1]; exact ⟨_,_,_,rfl,p⟩
theorem zb {i:Nat} {h:FE}:OkS (zx i h σ M) P ↔ Ok (h σ M) (zFY fun d M1=>P .nx (σ.set i (some d)) M1):=by
 rw [<- zAT];unfold zx;constructor
 ·rintro ⟨o,σ1,M1,e,p⟩;split at e
  ·rename_i d M2 e1; cases e; exact ⟨_,_,e1,p⟩
  ·cases e
 ·rintro ⟨x,M1,e1,p⟩;rw [e1]; exact ⟨_,_,_,rfl,p⟩
theorem zCS {h:FE}:OkS (zAj h σ M) P ↔ Ok (h σ M) fun _ M1=>P .nx σ M1:=by
 unfold zAj;constructor
 ·rintro ⟨o,σ1,M1,e,p⟩;split at e
  ·rename_i d M2 e1; cases e; exact ⟨_,_,e1,p⟩
  ·cases e
 ·rintro ⟨x,M1,e1,p⟩;rw [e1]; exact ⟨_,_,_,rfl,p⟩
theorem zH1 {v o i:FE}:OkS (zKI v o i σ M) P ↔ Ok (v σ M) (zFY fun d M1=>Ok (o σ M1) fun x M2=>Ok (i σ M2) (zFY fun j M3=>∃ M4,zI2 x j d M3 = some M4 /\ P .nx σ M4)):=by
 rw [<- zAT];unfold zKI;constructor
 ·rintro ⟨o,σ1,M1,e,p⟩;split at e
  ·rename_i d M2 e1;split at e
   ·rename_i x M3 e2;split at e
    ·rename_i j M4 e3;split at e
     ·rename_i M5 e4;cases e;refine ⟨_,_,e1,_,_,e2,?_⟩;dsimp only; rw [<- zAT];exact ⟨_,_,e3,_,e4,p⟩
     ·cases e
    ·cases e
   ·cases e
  ·cases e
 ·rintro ⟨d,M1,e1,x,M2,e2,p⟩;rw [<- zAT] at p;obtain ⟨j,M3,e3,M4,e4,p⟩:=p;rw [e1]; dsimp only; rw [e2]; dsimp only; rw [e3]; dsimp only; rw [e4]; exact ⟨_,_,_,rfl,p⟩
theorem zAI {n:Nat} {ds:List D} {Q:D -> Mem -> Prop}:Ok (zBP n f ds M) Q ↔ OkS (f (ds.map some ++ List.replicate (n - ds.length) none) M) fun o _ M1=>match o with | .ret d=>Q d M1 | .nx=>Q .non M1 | _=>False:=by
 unfold zBP;constructor
 ·rintro ⟨o,M1,e,p⟩;split at e
  ·rename_i d σ1 M2 e1; cases e; exact ⟨_,_,_,e1,p⟩
  ·rename_i σ1 M2 e1; cases e; exact ⟨_,_,_,e1,p⟩
  ·cases e
 ·rintro ⟨o,σ1,M1,e1,p⟩;rw [e1];cases o with
  | ret d=>exact ⟨_,_,rfl,p⟩
  | nx=>exact ⟨_,_,rfl,p⟩
  | brk=>exact p.elim
  | cnt=>exact p.elim
theorem zDS {c:FT} {b:FS} (I:Nat -> Sd -> Mem -> Prop) (hs:∀ m σ M,I m σ M -> Ok (c σ M) fun k M1=>if k then OkS (b σ M1) fun o σ2 M2=>match o with | .nx=>∃ m',m' < m /\ I m' σ2 M2 | .cnt=>∃ m',m' < m /\ I m' σ2 M2 | .brk=>P .nx σ2 M2 | .ret d=>P (.ret d) σ2 M2 else P .nx σ M1) :
  ∀ (n m:Nat) (σ:Sd) (M:Mem),m < n -> I m σ M -> OkS (zA9 c b n σ M) P
 | 0,m,σ,M,h,_=>absurd h (Nat.not_lt_zero _)
 | n + 1,m,σ,M,h,hi=>by
  obtain ⟨k,M1,e,q⟩:=hs m σ M hi;unfold zA9;rw [e];cases k with
  | false=>exact ⟨_,_,_,rfl,by simpa using q⟩
  | true=>
   rw [zVK rfl] at q;obtain ⟨o,σ2,M2,e2,q⟩:=q;dsimp only;rw [e2];cases o with
   | nx=>obtain ⟨m',hm,q⟩:=q; exact zDS I hs n m' σ2 M2 (by omega) q
   | cnt=>obtain ⟨m',hm,q⟩:=q; exact zDS I hs n m' σ2 M2 (by omega) q
   | brk=>exact ⟨_,_,_,rfl,q⟩
   | ret d=>exact ⟨_,_,_,rfl,q⟩
theorem zA8 {g:FG} {b:FS} {all:List D} {gd:Option (Mem -> Prop)} (I:List D -> Sd -> Mem -> Prop)
  (hs:∀ x r σ M,I (x :: r) σ M -> zAX gd all M /\ ∃ σ1,g x σ = some σ1 /\ OkS (b σ1 M) fun o σ2 M2=>match o with | .nx=>I r σ2 M2 | .cnt=>I r σ2 M2 | .brk=>P .nx σ2 M2 | .ret d=>P (.ret d) σ2 M2)
  (he:∀ σ M,I [] σ M -> zAX gd all M /\ P .nx σ M):∀ (xs:List D) (σ:Sd) (M:Mem),I xs σ M -> OkS (zB9 g b all gd xs σ M) P
 | [],σ,M,hi=>by
  unfold zB9;obtain ⟨h1,h2⟩:=he σ M hi;rw [zVK h1];exact ⟨_,_,_,rfl,h2⟩
 | x :: r,σ,M,hi=>by
  unfold zB9;obtain ⟨h1,σ1,e1,o,σ2,M2,e2,q⟩:=hs x r σ M hi;rw [zVK h1,e1];dsimp only;rw [e2];cases o with
  | nx=>exact zA8 I hs he r σ2 M2 q
  | cnt=>exact zA8 I hs he r σ2 M2 q
  | brk=>exact ⟨_,_,_,rfl,q⟩
  | ret d=>exact ⟨_,_,_,rfl,q⟩
theorem zBN {i:FI} {g:FG} {b:FS}:OkS (zCQ i g b σ M) P ↔ ∃ xs gd M1,i σ M = some (xs,gd,M1) /\ OkS (zB9 g b xs gd xs σ M1) P:=by
 unfold zCQ;constructor
 ·rintro ⟨o,σ1,M1,e,p⟩;split at e
  ·rename_i xs gd M2 e1; exact ⟨_,_,_,e1,_,_,_,e,p⟩
  ·cases e
 ·rintro ⟨xs,gd,M1,e1,p⟩;rw [e1]; exact p
theorem zDL {g:FG} {tc:FT} {te:FE} {all:List D} {gd:Option (Mem -> Prop)} (I:List D -> List D -> Mem -> Prop)
  (hs:∀ x r acc M,I (x :: r) acc M -> zAX gd all M /\ ∃ σ1,g x σ = some σ1 /\ Ok (tc σ1 M) fun k M1=>if k then Ok (te σ1 M1) (zFY fun d M2=>I r (acc ++ [d]) M2) else I r acc M1)
  {Q:List D -> Mem -> Prop} (he:∀ acc M,I [] acc M -> zAX gd all M /\ Q acc M):∀ (xs acc:List D) (M:Mem),I xs acc M -> Ok (zAV g tc te σ all gd xs M) fun ys M1=>Q (acc ++ ys) M1
 | [],acc,M,hi=>by
  unfold zAV;obtain ⟨h1,h2⟩:=he acc M hi;rw [zVK h1];exact ⟨_,_,rfl,by simpa using h2⟩
 | x :: r,acc,M,hi=>by
  unfold zAV;obtain ⟨h1,σ1,e1,k,M1,e2,q⟩:=hs x r acc M hi;rw [zVK h1,e1];dsimp only;rw [e2];cases k with
  | false=>exact zDL I hs he r acc M1 (by simpa using q)
  | true=>
   rw [zVK rfl,<- zAT] at q;obtain ⟨d,M2,e3,q⟩:=q;dsimp only;rw [e3];obtain ⟨ys,M3,e4,p⟩:=zDL I hs he r (acc ++ [d]) M2 q;dsimp only;rw [e4];exact ⟨_,_,rfl,by simpa using p⟩
theorem zEQ {own:List Nat} {i:FI} {g:FG} {tc:FT} {te:FE} {Q:EV -> Mem -> Prop}:Ok (zj own i g tc te σ M) Q ↔ ∃ xs gd M1,i σ M = some (xs,gd,M1) /\ xs.length <= sizeLine /\ Ok (zAV g tc te (zAp own σ) xs gd xs M1) fun ys M2=>Q (.fl ys) M2:=by
 unfold zj;constructor
 ·rintro ⟨o,M1,e,p⟩;split at e
  ·rename_i xs gd M2 e1;split at e
   ·rename_i hz;split at e
    ·rename_i ys M3 e2; cases e; exact ⟨_,_,_,e1,hz,_,_,e2,p⟩
    ·cases e
   ·cases e
  ·cases e
 ·rintro ⟨xs,gd,M1,e1,hz,ys,M2,e2,p⟩;rw [e1]; dsimp only; rw [zVK hz,e2]; exact ⟨_,_,rfl,p⟩
theorem zDT {h:FE} {x:EV} {M1:Mem} {xs:List D} (e:h σ M = some (x,M1)) (e2:zAR M1 x = some xs):zAH h σ M = some (xs,zDg x xs,M1):=by
 unfold zAH; rw [e]; dsimp only; rw [e2]
theorem zKg {a:FA} {M1:Mem} {j:Int} (e:a σ M = some ([.int j],M1)) (h1:0 <= j) (h2:j < 2 ^ 62):zr a σ M = some ((List.range j.toNat).map fun (k:Nat)=>D.int k,none,M1):=by
 unfold zr; rw [e]; dsimp only; rw [zVK ⟨by omega,h2⟩]
end
section
variable {M:Mem} {P:EV -> Mem -> Prop} {i j:Int}
theorem zEW:Ok (zAQ (.dat (.int i)) (.dat (.int j)) M) P ↔ P (.dat (.int (i + j))) M:=zg
theorem zOF:Ok (zMc (.dat (.int i)) (.dat (.int j)) M) P ↔ zL9 i j = true /\ P (.dat (.int (i * j))) M:=by
 unfold zMc kI; dsimp only; split
 ·rename_i h; rw [zg]; simp [h]
 ·rename_i h; rw [zFE]; simp [h]
theorem zEr:Ok (zEV (.dat (.int i)) (.dat (.int j)) M) P ↔ 0 < j /\ P (.dat (.int (i % j))) M:=by
 unfold zEV kI; dsimp only; split
 ·rename_i h; rw [zg]; simp at h; simp [h]
 ·rename_i h; rw [zFE]; simp at h; simp; intro h'; omega
theorem zOr:Ok (zLi (.dat (.int i)) (.dat (.int j)) M) P ↔ (0 < j /\ j < 1073741824) /\ P (.dat (.int (i / j))) M:=by
 unfold zLi kI; dsimp only; split
 ·rename_i h; rw [zg]; simp at h; simp [h]
 ·rename_i h; rw [zFE]; simp at h; simp; intro h' h2; have:=h h'; omega
theorem zRX:Ok (zOn (.dat (.int i)) (.dat (.int j)) M) P ↔ (0 <= j /\ j <= 1000000 /\ i.natAbs < 2 ^ 64) /\ P (.dat (.int (i ^ j.toNat))) M:=by
 unfold zOn kI; dsimp only; split
 ·rename_i h; rw [zg]; simp only [zVf,zWI] at h; simp [h]
 ·rename_i h; rw [zFE]; simp only [zVf,zWI,not_and] at h; simp only [false_iff,not_and]; intro ⟨a,b,c⟩; exact absurd c (h ⟨a,b⟩)
theorem zT2:Ok (kLt (.dat (.int i)) (.dat (.int j)) M) P ↔ P (.dat (.bl (decide (i < j)))) M:=zg
theorem zUn:Ok (kLe (.dat (.int i)) (.dat (.int j)) M) P ↔ P (.dat (.bl (decide (i <= j)))) M:=zg
theorem zUs:Ok (kGe (.dat (.int i)) (.dat (.int j)) M) P ↔ P (.dat (.bl (decide (j <= i)))) M:=zg
theorem zMQ:Ok (kEq (.dat (.int i)) (.dat (.int j)) M) P ↔ P (.dat (.bl (decide (i = j)))) M:=by
 have:kEq (.dat (.int i)) (.dat (.int j)) M = some (.dat (.bl (decide (V.int i = V.int j))),M):=rfl;rw [this,zg]; simp
theorem zRD:Ok (kNe (.dat (.int i)) (.dat (.int j)) M) P ↔ P (.dat (.bl (decide (i ≠ j)))) M:=by
 have:kNe (.dat (.int i)) (.dat (.int j)) M = some (.dat (.bl (!decide (V.int i = V.int j))),M):=rfl;rw [this,zg]; simp
theorem zK2 {x:EV} {xs:List D} (h:zAk M x = some xs) (hx:∀ d,x = .dat d -> zGw d = none):Ok (kNe x (.fl []) M) P ↔ P (.dat (.bl (!xs.isEmpty))) M:=by
 have e1:zJZ true x (.fl []) M = none:=by cases x <;> rfl
 have e2:kNe x (.fl []) M = some (.dat (.bl (!xs.isEmpty)),M):=by
  unfold kNe kOr; rw [e1]; unfold zM2; rw [h]; rfl
 rw [e2,zg]
theorem zN7 {x:EV} {xs:List D} {d:D} (h:zAR M x = some xs) (hd:atI xs i = some d) (p:P (.dat d) M):Ok (kIx x (.dat (.int i)) M) P:=by
 have:kIx x (.dat (.int i)) M = some (.dat d,M):=by unfold kIx; dsimp only; rw [h]; dsimp only; rw [hd]
 rw [this,zg]; exact p
theorem zKx {xs:List D} {k:Nat} {d:D} (h:xs[k]? = some d):atI xs (k:Int) = some d:=zLF h
theorem zOA {xs:List D} {i:Int} {d:D} (h0:0 <= i) (h:xs[i.toNat]? = some d):atI xs i = some d:=by
 have:i = ((i.toNat:Nat):Int):=by omega
 rw [this]; exact zLF h
theorem zRb {x:EV} {xs:List D} (h:zAR M x = some xs):Ok (zBQ [x] M) P ↔ P (.dat (.int xs.length)) M:=by
 have:zBQ [x] M = some (.dat (.int xs.length),M):=by unfold zBQ; dsimp only; rw [h]
 rw [this,zg]
theorem zLX {x:EV} {xs:List D} (h:zAR M x = some xs):Ok (zBm [x] M) P ↔ P (.dat (.tup xs)) M:=by
 have:zBm [x] M = some (.dat (.tup xs),M):=by unfold zBm; dsimp only; rw [h]
 rw [this,zg]
theorem zRN:Ok (zMb [.dat (.int i)] M) P ↔ P (.dat (.int (if i < 0 then -i else i))) M:=zg
theorem zOZ {x:EV} {xs:List D} {lo hi:Option Int} (h:zAk M x = some xs) (ht:zCB x = none):Ok (kSl x lo hi M) P ↔ P (.fl (zE4 xs lo hi)) M:=by
 have:kSl x lo hi M = some (.fl (zE4 xs lo hi),M):=by unfold kSl; rw [ht]; dsimp only; rw [h]
 rw [this,zg]
theorem zAM {xs:List D}:zAR M (.dat (.tup xs)) = some xs:=rfl
theorem zEl {xs:List D}:zAR M (.fl xs) = some xs:=rfl
theorem zSR {xs:List D}:zAk M (.fl xs) = some xs:=rfl
theorem zAr {n:Nat} {xs:List D} (h:M[n]? = some (.lst xs)):zAk M (.dat (.ref n)) = some xs:=by unfold zAk; dsimp only; rw [h]
theorem zK0 {n:Nat} {xs:List D} (h:M[n]? = some (.fro xs)):zAk M (.dat (.ref n)) = some xs:=by unfold zAk; dsimp only; rw [h]
theorem zy {n:Nat} {xs:List D} (h:M[n]? = some (.lst xs)):zAR M (.dat (.ref n)) = some xs:=zAr h
theorem zPp {n:Nat} {xs:List D} (h:M[n]? = some (.fro xs)):zAR M (.dat (.ref n)) = some xs:=zK0 h
theorem zGS {n:Nat} {xs:List D} {d:D} {Q:D -> Mem -> Prop} (h:M[n]? = some (.lst xs)) (hz:xs.length < sizeLine):Ok (zAL (.dat (.ref n)) [d] M) Q ↔ Q .non (M.set n (.lst (xs ++ [d]))):=by
 have:zAL (.dat (.ref n)) [d] M = some (.non,M.set n (.lst (xs ++ [d]))):=by unfold zAL; dsimp only; rw [h]; dsimp only; rw [zVK hz]
 rw [this,zg]
theorem zSJ {n:Nat} {x:D} {xs:List D} {Q:D -> Mem -> Prop} (h:M[n]? = some (.lst (x :: xs))):Ok (zJq (.dat (.ref n)) [.int 0] M) Q ↔ Q x (M.set n (.lst xs)):=by
 have:zJq (.dat (.ref n)) [.int 0] M = some (x,M.set n (.lst xs)):=by
  unfold zJq; dsimp only; rw [h]; dsimp only;have e:ixN (x :: xs).length 0 = some 0:=by unfold ixN; rw [zVK (by omega),zVK (by simp)]; rfl
  rw [e]; dsimp only [List.getElem?_cons_zero]; rw [zVK (by decide)]; rfl
 rw [this,zg]
theorem zFd {n k:Nat} {xs:List D} {d:D} (h:M[n]? = some (.lst xs)) (hk:k < xs.length):zI2 (.dat (.ref n)) (.int k) d M = some (M.set n (.lst (xs.set k d))):=by
 unfold zI2; dsimp only; rw [h]; dsimp only;have e:ixN xs.length (k:Int) = some k:=by unfold ixN; rw [zVK (by omega),zVK (by omega)]; simp
 rw [e]
end
theorem zQP {m:FF} {ds:List D} {M:Mem} {Q:D -> Mem -> Prop} (h:Ok (m ds M) fun d M1=>(D.und M.length d = true /\ M.length <= M1.length /\ ∀ (j:Nat) u,j < M.length -> M1[j]? = some u -> MO.und M.length u = true) /\ Q d (M1.take M.length)):Ok (zJD m ds M) Q:=by
 obtain ⟨d,M1,e,⟨h1,h2,h3⟩,q⟩:=h;unfold zJD;rw [e];dsimp only;rw [zVK]
 ·exact ⟨_,_,rfl,q⟩
 ·simp only [zVf,zWI,zVg];refine ⟨⟨h1,fun u hu=>?_⟩,h2⟩;obtain ⟨j,hj⟩:=List.getElem?_of_mem hu;have hlt:j < M.length:=by
   have:=(zU8.mp hj).1;rw [zWT] at this; omega
  rw [List.getElem?_take_of_lt hlt] at hj;exact h3 j u hlt hj
theorem zFL {m:FF} {ds:List D} {M:Mem} {Q:D -> Mem -> Prop} (h0:D.unds 0 ds = true) (h:Ok (m ds []) fun d _=>D.und 0 d = true /\ Q d M):Ok (zEt m ds M) Q:=by
 obtain ⟨d,M1,e,h1,q⟩:=h;unfold zEt;rw [zVK h0,e];dsimp only;rw [zVK h1];exact ⟨_,_,rfl,q⟩
section
variable {prog:Program} {w:World} {A:Around} {E:Value -> Shared -> Prop} {s:Shared}
theorem Tup.but (x:h.IsTuple a its) (hs:Heap.ExtBut b h h') (n:a ≠ b):h'.IsTuple a its:=x.extBut hs n
theorem zKP (I:s.heap.IsTupleIter it t i) (T:s.heap.IsTuple t its) (hx:its[i]? = some x)
  (q:∀ h',h'.IsTupleIter it t (i + 1) -> Heap.SameBut it s.heap h' -> Q x { s with heap:=h' }):wpAny (model prog w) A (Builtin.SmallTypes.nextOf (.ref it)) Q E s:=by
 obtain ⟨o,O,C,FD⟩:=id I;obtain ⟨u,U,_,m,G⟩:=T;unfold Builtin.SmallTypes.nextOf;refine zU5 (zVh (name:=Str.ofString "__next__") I.typeIs PySem.F.slot_tuple_iterator_next (zVi PySem.F.slot_tuple_iterator_next I.typeIs PySem.F.entry_tuple_iterator_next ?_ (PySem.F.args_tuple_iterator_next_1 _)));refine zU5 (m:=field (.ref it) 0) (zVk O FD (x:=.ref t) rfl ?_);rw [zVN (show ¬ ((Value.ref t == Value.none) = true) by exact zVR)];refine zU5 (m:=field (.ref it) 1) (zVk O FD (x:=.int i 0) rfl ?_);refine zU5 (m:=seqItems? (.ref t)) (wpAny_seqItems U G ?_);simp only [hx,Int.toNat_natCast];refine zU5 (zWq O FD (by simp) (zU7 ⟨x,rfl,zU7 (q _ ⟨_,zVs _ O (Obj.isFreed_of_fields (zWM FD _)),(Obj.cls_mapFields ..).trans C,?_⟩ (zV8 ..))⟩));rw [zWM FD];simp [rawInt]
theorem zHH (hh:A.handled = none) (I:s.heap.IsTupleIter it t i) (T:s.heap.IsTuple t its) (hx:its[i]? = none)
  (q:∀ h' e,Heap.ExtBut it s.heap h' -> (∃ o,h'.get? e = some o /\ o.cls = .type "StopIteration") -> E (.ref e) { s with heap:=h' }):wpAny (model prog w) A (Builtin.SmallTypes.nextOf (.ref it)) Q E s:=by
 obtain ⟨o,O,C,FD⟩:=id I;obtain ⟨u,U,_,m,G⟩:=T;unfold Builtin.SmallTypes.nextOf;refine zU5 (zVh (name:=Str.ofString "__next__") I.typeIs PySem.F.slot_tuple_iterator_next (zVi PySem.F.slot_tuple_iterator_next I.typeIs PySem.F.entry_tuple_iterator_next ?_ (PySem.F.args_tuple_iterator_next_1 _)));refine zU5 (m:=field (.ref it) 0) (zVk O FD (x:=.ref t) rfl ?_);rw [zVN (show ¬ ((Value.ref t == Value.none) = true) by exact zVR)];refine zU5 (m:=field (.ref it) 1) (zVk O FD (x:=.int i 0) rfl ?_);refine zU5 (m:=seqItems? (.ref t)) (wpAny_seqItems U G ?_);simp only [hx,Int.toNat_natCast];refine zU5 (wpAny_rule (zU5 (zWq O FD (by simp) ?_)));refine zU5 (m:=newExc (.type "StopIteration") []) ?_;simp only [newTuple,newExc];refine zU5 (zVY (zU5 (m:=firstArgMember _ _) (wpAny_of_eq (a:=Value.none) (by first | rfl | (simp only [firstArgMember]; rfl)) (zVY ?_ (by size_fits)))) (by size_fits));simp only [raiseNew];refine zU5 (wpAny_handled ?_);first | rw [hh] | rw [show A.in1.handled = none from hh]
 exact zU5 (zU7 (wpAny_throw (q _ _ (((zV8 ..).extBut.push _).push _) ⟨_,zVF _ rfl,rfl⟩)))
end
theorem zEx {X:Cx} {zB:List (Addr × Obj)} {σ:L2.St} {H:Hp} {s:Shared} {h':Heap} {t':Nat} {ch:List Addr} {T:Addr} {o:HO} (I:Inv X zB σ H s) (hf:∀ b ∈ ch,zBt X zB H b)
  (k:∀ b u,b ∉ ch -> s.heap.get? b = some u -> h'.get? b = some u) (hT:s.heap.objs.size <= T) (new:zl X.prog X.w (upd H T o) h' T o):Inv X zB σ (upd H T o) { s with heap:=h',toks:=t' }:=by
 have hn:H T = none:=I.hok.fresh hT;have nch:∀ b u,H b = some u -> b ∉ ch:=fun b u e z=>by rw [(hf b z).1] at e; cases e
 have un:∀ b u,H b = some u -> upd H T o b = some u:=fun b u e=>by rw [zS (zk e hn)]; exact e
 refine I.step (g':=s.gens) (d':=s.drawn) (ch:=ch) (fun b hb=>⟨(hf b hb).2.2.2.1,(hf b hb).2.1,(hf b hb).2.2.2.2.1,(hf b hb).2.2.2.2.2⟩) (fun b u _ _ hc e _=>k b u hc e) (fun b u _ _ hc e _=>⟨u.slots,k b u hc e⟩)
  (fun b u _ e n=>by rw [zS (fun z=>by rw [z] at e; exact absurd (zVG e) (Nat.not_lt.mpr hT))]; exact n) (fun b u hc e=>⟨u,k b u hc e⟩) (fun b xs e=>un b _ e) (fun b p u e=>un b _ e) (fun b ps e=>⟨#[],by rw [un b _ e]; simp⟩) (fun m hm=>?_) (fun b u e=>?_) I.bare
 ·obtain ⟨p,es,ep,ho,r⟩:=hm;exact ⟨p,es,ep,k _ p (fun z=>(hf _ z).2.1 rfl) ho,r⟩
 ·by_cases hb:b = T
  ·subst hb; rw [zo] at e; cases e; exact new
  ·rw [zS hb] at e;refine (I.hok b u e).stay (fun c v hc q=>k c v ?_ q) (fun c q=>un c _ q) fun c xs q=>un c _ q;rcases hc with z | z
   ·rw [z]; exact nch b u e
   ·exact nch c _ z
theorem zGm {X:Cx} {zB:List (Addr × Obj)} {σ:L2.St} {H:Hp} {s:Shared} {h':Heap} {t':Nat} {ch:List Addr} (I:Inv X zB σ H s) (hf:∀ b ∈ ch,zBt X zB H b)
  (k:∀ b u,b ∉ ch -> s.heap.get? b = some u -> h'.get? b = some u):Inv X zB σ H { s with heap:=h',toks:=t' }:=by
 have nch:∀ b u,H b = some u -> b ∉ ch:=fun b u e z=>by rw [(hf b z).1] at e; cases e
 refine I.step (g':=s.gens) (d':=s.drawn) (ch:=ch) (fun b hb=>⟨(hf b hb).2.2.2.1,(hf b hb).2.1,(hf b hb).2.2.2.2.1,(hf b hb).2.2.2.2.2⟩) (fun b u _ _ hc e _=>k b u hc e) (fun b u _ _ hc e _=>⟨u.slots,k b u hc e⟩)
  (fun b u _ e n=>n) (fun b u hc e=>⟨u,k b u hc e⟩) (fun b xs e=>e) (fun b p u e=>e) (fun b ps e=>⟨#[],by rw [e]; simp⟩) (fun m hm=>?_) (fun b u e=>?_) I.bare
 ·obtain ⟨p,es,ep,ho,r⟩:=hm;exact ⟨p,es,ep,k _ p (fun z=>(hf _ z).2.1 rfl) ho,r⟩
 ·refine (I.hok b u e).stay (fun c v hc q=>k c v ?_ q) (fun c q=>q) fun c xs q=>q;rcases hc with z | z
  ·rw [z]; exact nch b u e
  ·exact nch c _ z
section
variable {X:Cx} {a b:Expr} {es:List Expr} {ek:Nat} {ep p pos:Pos}
def zFZ (i j:Nat):FG:=fun d σ=>match d with
 | .tup [x,y]=>some ((σ.set i (some x)).set j (some y))
 | _=>none
abbrev gP2 (K:PySem.W.Frag) (i j:Nat):TG:=zNX K 2 (zDb (zBE i) (zDb (zBE j) zPC))
theorem zPL {K:PySem.W.Frag} {i j:Nat}:GOk (gP2 K i j) (zFZ i j):=by
 intro L H σ σ' τ d v Q rs r hf q;unfold zFZ at hf;split at hf
 ·rename_i x y;cases hf;unfold Rep at r;obtain ⟨a,vs,rfl,e,r⟩:=r;obtain ⟨v1,v2,rfl,r1,r2⟩:=r.two;exact ⟨a,_,rfl,.of e,rfl,v1,[v2],rfl,v2,[],rfl,rfl,q _ ((rs.set r1).set r2)⟩
 ·cases hf
theorem zMo {K:PySem.W.Frag} {own:List Nat} {i j:Nat} (hi:i ∈ own) (hj:j ∈ own):zDs own (gP2 K i j) (zFZ i j):=by
 intro L H σ σ' τ τ0 d v Q rs ex r hf q;unfold zFZ at hf;split at hf
 ·rename_i x y;cases hf;unfold Rep at r;obtain ⟨a,vs,rfl,e,r⟩:=r;obtain ⟨v1,v2,rfl,r1,r2⟩:=r.two;exact ⟨a,_,rfl,.of e,rfl,v1,[v2],rfl,v2,[],rfl,rfl,q _ ((rs.set r1).set r2) ((ex.set hi).set hj)⟩
 ·cases hf
end
section
variable {X:Cx} {a b c e:Expr} {es:List Expr} {pos p p2 pos2:Pos} {f g h:FE}
theorem zLW:∀ {bs:List Bool} {its:List Value},zW (bs.map V.bl) its -> ∀ (i:Nat) v,its[i]? = some v -> ∃ k,bs[i]? = some k /\ v = .bool k
 | [],_,.nil,_,_,h=>by simp at h
 | k :: bs,_,.cons r t,0,v,h=>by
  simp at h; subst h;exact ⟨k,rfl,r⟩
 | k :: bs,_,.cons r t,i + 1,v,h=>by
  obtain ⟨k',e1,e2⟩:=zLW t i v (by simpa using h);exact ⟨k',by simpa using e1,e2⟩
theorem zJz (bs:List Bool):((List.range bs.length).all fun i=>(bs[i]?).getD true) = bs.all id:=by
 rw [Bool.eq_iff_iff,zVg,zVg];constructor
 ·intro q k hk;obtain ⟨i,hi,rfl⟩:=zW8 hk;have:=q i (zVj.mpr hi);rw [zU9 hi] at this;exact this
 ·intro q i hi;rw [zU9 (zVj.mp hi)];exact q _ (zVd _)
def zT3 (K:PySem.W.Frag) (F:List Bool -> Bool):List V -> Hp -> VK -> Prop:=fun xs H Q=>∃ q bs,xs = [.ref q] /\ SqL K H q (bs.map V.bl) /\ Q (.bl (F bs)) H
theorem zLh (hc:X.calm = true):zBX X (.builtin "all") (zT3 X.K fun bs=>bs.all id):=by
 intro zB s σ H xs us Q I r h;obtain ⟨l,bs,rfl,hq,q⟩:=h;obtain ⟨u,rfl,rx⟩:=zDJ r;cases rx;obtain ⟨its,rv,pl,_⟩:=I.list hq;have hlt:l < s.heap.objs.size:=by obtain ⟨_,z,_⟩:=pl.isList; exact zVG z
 refine call_all_walk (wpAny_pyIter_list pl.isList ⟨s.heap.objs.size,[s.heap.objs.size,l],[s.heap.objs.size],its.toArray.size,_,_,fun i=>(bs[i]?).getD true,rfl,Walks.list (A:=X.A.in1) (I.ok.hd hc) _ l (zVQ hlt) its.toArray,
  ⟨⟨_,zVF _ rfl,rfl,rfl⟩,pl.isList.push _⟩,fun i v s' Q' E' hP hQ=>?_,fun h' tk hk=>?_⟩)
 ·obtain ⟨k,z,rfl⟩:=zLW rv i v (by simpa using hP);dsimp only at hQ; rw [z] at hQ;exact zWH hQ
 ·have hl:=rv.length;rw [zVE] at hl;rw [zVD,<- hl,zJz];exact ⟨.bl _,H,I.kept (t':=tk) fun b o z=>hk b o (fun m=>by rw [zVX.mp m] at z; exact zVn _ (zVG z)) (zU6 _ z),rfl,q⟩
def zEz:List D -> Option (List Bool)
 | []=>some []
 | .bl k :: r=>match zEz r with
  | some bs=>some (k :: bs)
  | none=>none
 | _=>none
theorem zK9:∀ {ds:List D} {bs:List Bool} {vs:List V},zEz ds = some bs -> zH L H ds vs -> vs = bs.map V.bl
 | [],bs,vs,e,r=>by cases e; unfold zH at r; exact r
 | d :: ds,bs,vs,e,r=>by
  unfold zH at r;obtain ⟨v,r',rfl,r1,r2⟩:=r;cases d with
  | bl k=>
   unfold zEz at e;cases q:zEz ds with
   | none=>rw [q] at e; cases e
   | some bs'=>
    rw [q] at e; cases e;unfold Rep at r1;rw [r1,zK9 q r2]; rfl
  | _=>cases e
def zMK (F:List Bool -> Bool):KB:=fun xs M=>match xs with
 | [x]=>match zAk M x with
  | some ds=>match zEz ds with
   | some bs=>some (.dat (.bl (F bs)),M)
   | none=>none
  | none=>none
 | _=>none
theorem zP9 {K:PySem.W.Frag} {F:List Bool -> Bool}:zE6 K (zT3 K F) (zMK F):=by
 intro L M M' H H0 xs d vs Q c r hk q;unfold zMK at hk;split at hk
 ·rename_i x;split at hk
  ·rename_i ds e1;split at hk
   ·rename_i bs e2;cases hk;obtain ⟨v,rfl,r1⟩:=r.one;obtain ⟨l,ws,rfl,h1,r2⟩:=zAS c r1 e1;have:=zK9 e2 r2;subst this;exact ⟨l,bs,rfl,.inl h1,q L H _ (.refl L H) c (zAc (L:=L) (H:=H))⟩
   ·cases hk
  ·cases hk
 ·cases hk
abbrev zP7:KB:=zMK fun bs=>bs.all id
section
variable {fa:FAE}
theorem zTs (hc:X.calm = true) (hg:Gl X "all") (hm:X.mg "all" = none) (ha:QAE X [e] fa) (he:starEach [e] X.env = (false,eval e X.env) :: starEach [] X.env:=by rfl) (hpl:(backTo pos (starEach [] X.env)).any (·.1) = false:=by rfl):QE X (.Call (.Name "all" p) [e] [] pos) (fB zP7 fa) :=
 zCh zP9 (zLh hc) (by rfl) hg hm ha (by decide) (by decide) he hpl
end
theorem zT0 (h:zAk M x = some ds) (hb:zEz ds = some bs):Ok (zMK F [x] M) P ↔ P (.dat (.bl (F bs))) M:=by
 have:zMK F [x] M = some (.dat (.bl (F bs)),M):=by unfold zMK; dsimp only; rw [h]; dsimp only; rw [hb]
 rw [this,zg]
theorem zGx:∀ bs:List Bool,zEz (bs.map D.bl) = some bs
 | []=>rfl
 | k :: bs=>by rw [zVO]; unfold zEz; rw [zGx bs]
def zJ8:V -> Bool
 | .non=>true
 | .bl _=>true
 | _=>false
theorem zN0:OpR X (compareOp .IsNot) (fun x y H Q=>zJ8 y = true /\ Q (.bl (!decide (x = y))) H):=by
 intro zB s σ H x y v u Q I rx ry h;obtain ⟨hp,q⟩:=h;cases y with
 | non=>
  cases ry;refine wpAny_isNot_plain (by cases x <;> first | (cases rx; rfl) | (obtain ⟨t,rfl⟩:=rx; rfl)) (zc I q ?_);cases x <;> first | (cases rx; rfl) | (obtain ⟨t,rfl⟩:=rx; rfl)
 | bl k=>
  cases ry;refine wpAny_isNot_plain (by cases x <;> first | (cases rx; rfl) | (obtain ⟨t,rfl⟩:=rx; rfl)) (zc I q ?_);cases x with
  | bl k'=>cases rx; cases k <;> cases k' <;> rfl
  | _=>first | (cases rx; rfl) | (obtain ⟨t,rfl⟩:=rx; rfl)
 | _=>cases hp
def isD:EV -> D -> Option Bool
 | x,.non=>match x with
  | .dat .non=>some true
  | _=>some false
 | x,.bl k=>match x with
  | .dat (.bl k')=>some (decide (k' = k))
  | _=>some false
 | _,_=>none
def kIs (neg:Bool):K2:=fun x y M=>match y with
 | .dat d=>match isD x d with
  | some k=>some (.dat (.bl (if neg then !k else k)),M)
  | none=>none
 | _=>none
theorem zQX (rx:zV H0 L H x v) (ry:Rep L H d w) (e:isD x d = some k):zJ8 w = true /\ decide (v = w) = k:=by
 cases d with
 | non=>
  unfold Rep at ry; subst ry;refine ⟨rfl,?_⟩;cases x with
  | fl xs=>obtain ⟨q,vs,rfl,_⟩:=rx; cases e; rfl
  | dat d'=>
   cases d' with
   | non=>unfold zV Rep at rx; subst rx; cases e; rfl
   | bl _=>unfold zV Rep at rx; subst rx; cases e; rfl
   | int _=>unfold zV Rep at rx; subst rx; cases e; rfl
   | str _=>unfold zV Rep at rx; subst rx; cases e; rfl
   | tup _=>unfold zV Rep at rx; obtain ⟨q,vs,rfl,_⟩:=rx; cases e; rfl
   | ref _=>unfold zV Rep at rx; obtain ⟨q,rfl,_⟩:=rx; cases e; rfl
 | bl k'=>
  unfold Rep at ry; subst ry;refine ⟨rfl,?_⟩;cases x with
  | fl xs=>obtain ⟨q,vs,rfl,_⟩:=rx; cases e; rfl
  | dat d'=>
   cases d' with
   | non=>unfold zV Rep at rx; subst rx; cases e; rfl
   | bl j=>unfold zV Rep at rx; subst rx; cases e; cases j <;> cases k' <;> rfl
   | int _=>unfold zV Rep at rx; subst rx; cases e; rfl
   | str _=>unfold zV Rep at rx; subst rx; cases e; rfl
   | tup _=>unfold zV Rep at rx; obtain ⟨q,vs,rfl,_⟩:=rx; cases e; rfl
   | ref _=>unfold zV Rep at rx; obtain ⟨q,rfl,_⟩:=rx; cases e; rfl
 | _=>cases e
theorem zOx (h:kIs neg x y M = some (r,M')):∃ d k,y = .dat d /\ isD x d = some k /\ r = .dat (.bl (if neg then !k else k)) /\ M' = M:=by
 unfold kIs at h;split at h
 ·rename_i d;split at h
  ·rename_i k e1; cases h; exact ⟨d,k,rfl,e1,rfl,rfl⟩
  ·cases h
 ·cases h
theorem zOq {K:PySem.W.Frag}:zA3 K (fun x y H Q=>zJ8 y = true /\ Q (.bl (!decide (x = y))) H) (kIs true):=by
 intro L M M' H H0 x y d v w Q cc rx ry hk q;obtain ⟨d',k,rfl,e,rfl,rfl⟩:=zOx hk;obtain ⟨h1,h2⟩:=zQX rx ry e;refine ⟨h1,?_⟩;rw [h2];exact q L H _ (.refl L H) cc (zAc (L:=L) (H:=H))
theorem zQo (h1:QE X a f) (h2:QE X b g):QT X (.Compare a [.IsNot] [b] pos) (tst (fOp (kIs true) f g)):=zDl zOq zN0 h1 h2 (zC0 _)
def zEZ (k k':K2) (f g h:FE):FE:=fun σ M=>match f σ M with
 | some (x,M1)=>match g σ M1 with
  | some (y,M2)=>match k x y M2 with
   | some (.dat (.bl true),M3)=>match h σ M3 with
    | some (w,M4)=>k' y w M4
    | none=>none
   | some (.dat (.bl false),M3)=>some (.dat (.bl false),M3)
   | _=>none
  | none=>none
 | none=>none
theorem zKD {K:PySem.W.Frag} {r r':R2} {k k':K2} (hk:zA3 K r k) (hk':zA3 K r' k') {τ:Sv} {H:Hp} {Q:VK} (z:trE K (zEZ k k' f g h) τ H Q):zOu r r' (trE K f) (trE K g) (trE K h) τ H Q:=by
 obtain ⟨L,σ,M,d,M',cc,rs,hf,q⟩:=z;unfold zEZ at hf;split at hf
 ·rename_i x M1 e1;split at hf
  ·rename_i y M2 e2;refine ⟨L,σ,M,_,_,cc,rs,e1,fun L1 H1 v s1 c1 r1=>⟨L1,σ,M1,_,_,c1,rs.stp s1,e2,fun L2 H2 w s2 c2 r2=>?_⟩⟩;split at hf
   ·rename_i M3 e3;split at hf
    ·rename_i u M4 e4;refine hk (H0:=H) c2 (r1.stp s2) (r2.back s1 cc s2.sub) e3 fun L3 H3 t s3 c3 r3=>⟨true,zq r3,zEf ?_⟩;refine ⟨L3,σ,M3,_,_,c3,rs.stp ((s1.trans s2).trans s3),e4,fun L4 H4 w4 s4 c4 r4=>?_⟩;have s13:=(s1.trans s2).trans s3;refine hk' (H0:=H) c4 (((r2.back s1 cc s2.sub).stp s3).stp s4) (r4.back s13 cc s4.sub) hf fun L5 H5 u5 s5 c5 r5=>?_;exact q L5 H5 u5 ((s13.trans s4).trans s5) c5 (r5.back (s13.trans s4) cc s5.sub)
    ·cases hf
   ·rename_i M3 e3;cases hf;refine hk (H0:=H) c2 (r1.stp s2) (r2.back s1 cc s2.sub) e3 fun L3 H3 t s3 c3 r3=>⟨false,zq r3,zEi ?_⟩;exact q L3 H3 _ ((s1.trans s2).trans s3) c3 (by have:=zq r3; subst this; exact r3)
   ·cases hf
  ·cases hf
 ·cases hf
theorem zQp (hk:zA3 X.K r k) (hk':zA3 X.K r' k') (ho:OpR X (compareOp op) r) (ho':OpR X (compareOp op') r') (h1:QE X a f) (h2:QE X b g) (h3:QE X c h)
  (hm:lastMarks [op,op'] [b,c] = false:=by with_unfolding_all rfl):QE X (.Compare a [op,op'] [b,c] pos) (zEZ k k' f g h):=.mk <| PE.imp (zNO ho ho' h1.un h2.un h3.un hm) fun _ _ _ z=>zKD hk hk' z
section
variable {M:Mem} {σ:Sd} {P:EV -> Mem -> Prop}
theorem zPT:Ok (zEZ k k' f g h σ M) P ↔ Ok (f σ M) fun x M1=>Ok (g σ M1) fun y M2=>Ok (k x y M2) (blP fun t M3=>if t then Ok (h σ M3) fun w M4=>Ok (k' y w M4) P else P (.dat (.bl false)) M3):=by
 unfold zEZ;constructor
 ·rintro ⟨x,M1,z,q⟩;split at z
  ·rename_i y M2 e1;split at z
   ·rename_i y' M3 e2;split at z
    ·rename_i M4 e3;split at z
     ·rename_i w M5 e4;exact ⟨_,_,e1,_,_,e2,_,_,e3,by rw [zD0,zVK rfl]; exact ⟨_,_,e4,_,_,z,q⟩⟩
     ·cases z
    ·rename_i M4 e3;cases z;exact ⟨_,_,e1,_,_,e2,_,_,e3,by rw [zD0]; simpa using q⟩
    ·cases z
   ·cases z
  ·cases z
 ·rintro ⟨x,M1,e1,y,M2,e2,t,M3,e3,q⟩;rw [e1]; dsimp only; rw [e2]; dsimp only; rw [e3];cases t with
  | fl _=>exact q.elim
  | dat d=>
   cases d with
   | bl t=>
    rw [zD0] at q;cases t with
    | true=>
     rw [zVK rfl] at q;obtain ⟨w,M4,e4,q⟩:=q;dsimp only; rw [e4]; exact q
    | false=>exact ⟨_,_,rfl,by simpa using q⟩
   | _=>exact q.elim
end
end
open AutoSeq1 (wpAny_loadPart')
section
variable {prog:Program} {w:World} {A:Around} {E:Value -> Shared -> Prop} {s:Shared}
theorem zOP {r:Addr} {lo hi:Int} {t u v:Tok} {n:Nat} {Q:List Value -> Shared -> Prop} (hh:A.handled = none) (R:IsRange s.heap r lo hi 1 t u v) (sm:Builtin.Range.small lo hi 1 = true) (hn:Builtin.Range.rangeSize lo hi 1 = n) (hz:n <= 2 ^ 24)
  (q:∀ h' tk (acc:Array Value),(∀ b o,s.heap.get? b = some o -> h'.get? b = some o) -> ItemsOf (fun i v=>∃ t,v = .int (lo + i * 1) t) acc n -> Q acc.toList { s with heap:=h',toks:=tk }):wpAny (model prog w) A (collect (.ref r)) Q E s:=by
 unfold collect;refine zU5 (wpAny_runValue (codeAny_builtin PySem.F.entry_proto_collect ?_));rw [Around.under_plainId PySem.F.plain_proto_collect _];refine zU5 (m:=newList []) (zVY (zU7 ⟨plainId_quiet PySem.F.plain_list_iadd _,codeAny_builtin PySem.F.entry_list_iadd ?_⟩));rw [Around.under_plainId PySem.F.plain_list_iadd _];have S0:(s.heap.push { cls:=.type "list", data:=.seq ([]:List Value).toArray }).get? s.heap.objs.size = some { cls:=.type "list", data:=.seq #[] 0 }:=zVF _ rfl
 have fin:∀ (h':Heap) (tk:Nat) (acc:Array Value) (k:Nat),(∀ b o,b ≠ s.heap.objs.size -> (s.heap.push { cls:=.type "list", data:=.seq ([]:List Value).toArray }).get? b = some o -> h'.get? b = some o) ->
   h'.get? s.heap.objs.size = some { cls:=.type "list", dict:=none,data:=.seq acc k,slots:=#[] } -> ItemsOf (fun i v=>∃ t,v = .int (lo + i * 1) t) acc n ->
   wpAny (model prog w) A (match Value.ref s.heap.objs.size with
    | Value.ref a=>do
     match (<- load a).data with
      | Data.seq xs _=>pure xs.toList
      | _=>unsupported "internal:collect"
    | _=>unsupported "internal:collect") Q E { s with heap:=h',toks:=tk }:=fun h' tk acc k kp e it=>by
  refine zU5 (m:=load s.heap.objs.size) (wpAny_load e (zU7 (q h' tk acc (fun b o m=>kp b o (zVQ (zVG m)) (zU6 _ m)) it)))
 refine zVb (wpAny_extend_range (A:=A) (s:={ s with heap:=s.heap.push { cls:=.type "list", data:=.seq ([]:List Value).toArray } })
  (R:=fun r s'=>r = .ok (.ret (.ref s.heap.objs.size)) /\ ∃ h' tk acc k,s' = { s with heap:=h',toks:=tk } /\ (∀ b o,b ≠ s.heap.objs.size -> (s.heap.push { cls:=.type "list", data:=.seq ([]:List Value).toArray }).get? b = some o -> h'.get? b = some o) /\
   h'.get? s.heap.objs.size = some { cls:=.type "list", dict:=none,data:=.seq acc k,slots:=#[] } /\ ItemsOf (fun i v=>∃ t,v = .int (lo + i * 1) t) acc n)
  hh (zU6 _ R) sm hn hz s.heap.objs.size (.ref s.heap.objs.size) 0 S0 fun h' tk acc k kp e it=>⟨rfl,h',tk,acc,k,rfl,kp,e,it⟩) (fun f s' z=>?_) (fun e s' z=>?_)
 ·cases f with
  | done f=>
   obtain ⟨e,h',tk,acc,k,rfl,z1,z2,z3⟩:=z;cases e;exact fin h' tk acc k z1 z2 z3
  | again c'=>exact ⟨z.1,codeAny_mono z.2 fun r s'' z=>by obtain ⟨rfl,h',tk,acc,k,rfl,z1,z2,z3⟩:=z; exact fin h' tk acc k z1 z2 z3⟩
 ·exact absurd z.1 (by simp)
end
theorem zHj (r:Addr) (lo hi:Int) (t u v:Tok) (n:Nat) (sm:Builtin.Range.small lo hi 1 = true) (hn:Builtin.Range.rangeSize lo hi 1 = n) (hz:n <= 2 ^ 24) :
  Meets (Builtin.«tuple.__new__» ⟨[.type "tuple", .ref r],[]⟩) (fun A R s=>A.handled = none /\ IsRange s.heap r lo hi 1 t u v /\
   ∀ (h':Heap) (tk:Nat) (acc:Array Value),(∀ b o,s.heap.get? b = some o -> h'.get? b = some o) -> ItemsOf (fun i v=>∃ t,v = .int (lo + i * 1) t) acc n -> R (.ok (.ret (.ref h'.objs.size))) { s with heap:=h'.push { cls:=.type "tuple", data:=.seq acc },toks:=tk }) :=
 .of_wp fun prog w A R s h=>by
  obtain ⟨hp,g,d,tk,os⟩:=s;obtain ⟨hh,Ra,h⟩:=h;have h1:=sub_tuple_self;have h2:=init_tuple_lookup;have h3:=madeHere_tuple;have T:Shared.TypeIs ⟨hp,g,d,tk,os⟩ (.ref r) "range" := ⟨_,Ra,rfl⟩;wp_walk using wpAny_loadPart' Ra,wpAny_typeOf T,zOP (show A.in1.handled = none from hh) Ra sm hn hz;intro h' tk' acc kp it;refine zU5 (m:=Builtin.Tuple.tupleExact acc.toList.toArray) ?_;unfold Builtin.Tuple.tupleExact;have sz:acc.toList.toArray.size <= sizeLine:=by rw [zVD,zVo,it.1,sizeLine_eq]; omega
  refine zVY (zU7 ⟨_,rfl,?_⟩) sz;have e:acc.toList.toArray = acc:=by simp
  rw [e];exact h h' tk' acc kp it
section
variable {X:Cx} {a e:Expr} {es:List Expr} {pos p p2 pos2:Pos} {f:FE}
theorem zIv:zBX X (.type "range") (fun xs H Q=>∃ j,xs = [.int j] /\ ∀ l,H l = none -> Q (.ref l) (upd H l (.rng 0 j))):=by
 intro zB s σ H xs us Q I r h;obtain ⟨j,rfl,q⟩:=h;obtain ⟨u,rfl,rx⟩:=zDJ r;obtain ⟨t,rfl⟩:=rx;refine call_range_1 ⟨.ref s.heap.objs.size,_,I.laid (fun b o z=>zU6 _ z) (zVB _) ?_,rfl,q _ (I.hok.fresh (zVB _))⟩;exact ⟨_,_,_,zVF _ rfl⟩
def upV (n:Nat):List V:=(List.range n).map fun (k:Nat)=>V.int k
theorem zI1 (h:ItemsOf (fun i v=>∃ t,v = .int ((0:Int) + i * 1) t) acc n):zW (upV n) acc.toList:=by
 obtain ⟨hz,hi⟩:=h;have:∀ (xs:List Value) (k:Nat),(∀ j v,xs[j]? = some v -> ∃ t,v = Value.int ((k + j:Nat):Int) t) -> zW ((List.range' k xs.length).map fun (k:Nat)=>V.int k) xs:=by
  intro xs;induction xs with
  | nil=>intro k _; exact .nil
  | cons x xs ih=>
   intro k hk;rw [zVc,List.range'_succ,zVO];refine .cons ?_ (ih (k + 1) fun j v e=>?_)
   ·obtain ⟨t,e⟩:=hk 0 x rfl;exact ⟨t,by simpa using e⟩
   ·obtain ⟨t,e'⟩:=hk (j + 1) v (by simpa using e);exact ⟨t,by rw [e']; congr 2; omega⟩
 have q:=this acc.toList 0 (fun j v e=>by
  obtain ⟨t,e'⟩:=hi j v (by simpa using e);exact ⟨t,by rw [e']; congr 1; omega⟩)
 unfold upV;rw [List.range_eq_range'];rw [zVo,hz] at q;exact q
theorem zGz (h0:0 <= j) (h1:j <= 16777216):Builtin.Range.small 0 j 1 = true /\ Builtin.Range.rangeSize 0 j 1 = (j.toNat:Int):=by
 refine ⟨small_one (by omega) (by omega) (by omega) (by omega),?_⟩;rw [rangeSize_one]; split <;> omega
def zTf (mk:List V -> HO):List V -> Hp -> VK -> Prop:=fun xs H Q=>∃ r j,xs = [.ref r] /\ H r = some (.rng 0 j) /\ 0 <= j /\ j <= 16777216 /\ ∀ l,H l = none -> Q (.ref l) (upd H l (mk (upV j.toNat)))
theorem zFO (n:Nat):(upV n).length = n:=by unfold upV; simp
theorem zMp (hc:X.calm = true):zBX X (.type "tuple") (zTf HO.tup):=by
 intro zB s σ H xs us Q I r h;obtain ⟨l,j,rfl,hr,h0,h1,q⟩:=h;obtain ⟨u,rfl,rx⟩:=zDJ r;cases rx;obtain ⟨t,u,v,er⟩:=(show zl X.prog X.w H s.heap l (.rng 0 j) from I.hok l _ hr);obtain ⟨sm,sz⟩:=zGz h0 h1
 refine callType_new PySem.F.called_tuple (by decide) (PySem.F.typeCall_tuple_1 _) (PySem.F.newCall_tuple_1 _) (fun obj=>PySem.F.args_object_init_2 obj _) PySem.F.entry_tuple_new (zHj l 0 j t u v j.toNat sm sz (by omega))
  ⟨I.ok.hd hc,er,fun h' tk acc kp it=>⟨⟨_,zVF _ rfl,rfl⟩,?_⟩⟩
 have I1:Inv X zB σ H { s with heap:=h',toks:=tk }:=I.kept kp;refine ⟨.ref h'.objs.size,_,I1.laid (t':=tk) (fun b o z=>zU6 _ z) (zVB _) ?_,rfl,q _ (I1.hok.fresh (zVB _))⟩;exact ⟨by rw [zFO,sizeLine_eq]; omega,acc.toList,zI1 it,by simpa using zBu.new h' acc⟩
theorem zL0 (hc:X.calm = true):zBX X (.type "list") (zTf HO.lst):=by
 intro zB s σ H xs us Q I r h;obtain ⟨l,j,rfl,hr,h0,h1,q⟩:=h;obtain ⟨u,rfl,rx⟩:=zDJ r;cases rx;obtain ⟨t,u,v,er⟩:=(show zl X.prog X.w H s.heap l (.rng 0 j) from I.hok l _ hr);obtain ⟨sm,sz⟩:=zGz h0 h1;refine call_list_range (I.ok.hd hc) er sm sz (by omega) fun h' tk acc k kp z it=>?_;refine ⟨.ref s.heap.objs.size,_,I.laid (t':=tk) kp (zVB _) (show zl X.prog X.w _ h' _ (.lst (upV j.toNat)) from ⟨by rw [zFO,sizeLine_eq]; omega,acc.toList,k,zI1 it,by simpa using z⟩),rfl,q _ (I.hok.fresh (zVB _))⟩
def upD (n:Nat):List D:=(List.range n).map fun (k:Nat)=>D.int k
theorem zLI (n:Nat):zH L H (upD n) (upV n):=by
 have:∀ xs:List Nat,zH L H (xs.map fun (k:Nat)=>D.int k) (xs.map fun (k:Nat)=>V.int k):=by
  intro xs;induction xs with
  | nil=>exact .nil
  | cons x xs ih=>exact .cons z0 ih
 exact this _
def zLO (f:FE):FE:=fun σ M=>match f σ M with
 | some (.dat (.int j),M1)=>if 0 <= j /\ j <= 16777216 then some (.dat (.tup (upD j.toNat)),M1) else none
 | _=>none
def zFn (f:FE):FE:=fun σ M=>match f σ M with
 | some (.dat (.int j),M1)=>if 0 <= j /\ j <= 16777216 then some (.fl (upD j.toNat),M1) else none
 | _=>none
theorem zSX (hc:X.calm = true) (hg:Gl X "tuple") (hm:X.mg "tuple" = none) (hg2:Gl X "range") (hm2:X.mg "range" = none) (ha:QE X a f)
  (he:starEach [Expr.Call (.Name "range" p2) [a] [] pos2] X.env = (false,eval (Expr.Call (.Name "range" p2) [a] [] pos2) X.env) :: starEach [] X.env:=by rfl) (hpl:(backTo pos (starEach [] X.env)).any (·.1) = false:=by rfl)
  (he2:starEach [a] X.env = (false,eval a X.env) :: starEach [] X.env:=by rfl) (hpl2:(backTo pos2 (starEach [] X.env)).any (·.1) = false:=by rfl) :
  QE X (.Call (.Name "tuple" p) [.Call (.Name "range" p2) [a] [] pos2] [] pos) (zLO f) :=
 .mk <| PE.imp (zCO (zMp hc) hg hm (by rfl) (zB3 (zCO zIv hg2 hm2 boot_range (zB3 ha.un zDw he2) (by decide) (by decide) he2 hpl2) zDw he) (by decide) (by decide) he hpl) fun τ H Q zz=>by
  obtain ⟨L,σ,M,d,M',c,rs,hf,q⟩:=zz;unfold zLO at hf;split at hf
  ·rename_i j M1 e1;split at hf
   ·rename_i hb;cases hf;refine ⟨L,σ,M,_,_,c,rs,e1,fun L1 H1 v s1 c1 r1=>⟨j,by unfold zV Rep at r1; rw [r1],fun l hl=>⟨l,j,rfl,zo,hb.1,hb.2,fun k hk=>?_⟩⟩⟩;exact q L1 _ _ ((s1.trans (.upd hl)).trans (.upd hk)) ((c1.upd hl).upd hk) (Rep.newTup hk (zLI _))
   ·cases hf
  ·cases hf
theorem zSk (hc:X.calm = true) (hg:Gl X "list") (hm:X.mg "list" = none) (hg2:Gl X "range") (hm2:X.mg "range" = none) (ha:QE X a f)
  (he:starEach [Expr.Call (.Name "range" p2) [a] [] pos2] X.env = (false,eval (Expr.Call (.Name "range" p2) [a] [] pos2) X.env) :: starEach [] X.env:=by rfl) (hpl:(backTo pos (starEach [] X.env)).any (·.1) = false:=by rfl)
  (he2:starEach [a] X.env = (false,eval a X.env) :: starEach [] X.env:=by rfl) (hpl2:(backTo pos2 (starEach [] X.env)).any (·.1) = false:=by rfl) :
  QE X (.Call (.Name "list" p) [.Call (.Name "range" p2) [a] [] pos2] [] pos) (zFn f) :=
 .mk <| PE.imp (zCO (zL0 hc) hg hm (by rfl) (zB3 (zCO zIv hg2 hm2 boot_range (zB3 ha.un zDw he2) (by decide) (by decide) he2 hpl2) zDw he) (by decide) (by decide) he hpl) fun τ H Q zz=>by
  obtain ⟨L,σ,M,d,M',c,rs,hf,q⟩:=zz;unfold zFn at hf;split at hf
  ·rename_i j M1 e1;split at hf
   ·rename_i hb;cases hf;refine ⟨L,σ,M,_,_,c,rs,e1,fun L1 H1 v s1 c1 r1=>⟨j,by unfold zV Rep at r1; rw [r1],fun l hl=>⟨l,j,rfl,zo,hb.1,hb.2,fun k hk=>?_⟩⟩⟩;have s2:Stp L H L1 (upd H1 l (.rng 0 j)):=s1.trans (.upd hl);exact q L1 _ _ (s2.trans (.upd hk)) ((c1.upd hl).upd hk) (zV.newLst s2 c (c1.upd hl) hk (zLI _))
   ·cases hf
  ·cases hf
section
variable {M:Mem} {σ:Sd} {P:EV -> Mem -> Prop}
theorem zPv (e:f σ M = some (.dat (.int j),M)) (h0:0 <= j) (h1:j <= 16777216) (q:P (.fl (upD j.toNat)) M):Ok (zFn f σ M) P:=by
 refine ⟨_,_,?_,q⟩;unfold zFn; rw [e]; dsimp only; rw [zVK ⟨h0,h1⟩]
end
end
def zHm:Expr -> Bool
 | .Starred .. =>false
 | _=>true
theorem zT (h:zHm e = true):starEach (e :: es) env = (false,eval e env) :: starEach es env:=by
 cases e <;> first | rfl | cases h
theorem zNI (h:zHm e = true):starEach [e] env = [(false,eval e env)]:=zT h
theorem zBj:∀ {es:List Expr},es.all zHm = true -> (backTo pos (starEach es env)).any (·.1) = false
 | [],_=>rfl
 | e :: es,h=>by
  rw [List.all_cons,zVf] at h;rw [zT h.1];have:=zBj (pos:=pos) (env:=env) h.2;simpa [backTo] using this
theorem Cor.pushO {K:PySem.W.Frag} {L:List Addr} {M:List MO} {H:Hp} {p:Addr} {o:HO} {m:MO} (c:Cor K L M H) (h:H p = none) (new:zGF K (L ++ [p]) (L2.upd H p o) p m) :
  Cor K (L ++ [p]) (M ++ [m]) (L2.upd H p o) /\ Stp L H (L ++ [p]) (L2.upd H p o):=by
 have hp:p ∉ L:=fun z=>by obtain ⟨o,e⟩:=c.tracked z; rw [h] at e; cases e
 have st:Stp L H (L ++ [p]) (L2.upd H p o):=by
  refine ⟨⟨[p],rfl⟩,fun a ha=>?_,fun a o e _=>?_,fun a o e=>?_,fun a o u e=>?_⟩
  ·rcases zVV.mp ha with z | z
   ·exact .inl z
   ·have:a = p:=by simpa using z
    subst this; exact .inr h
  all_goals (rw [zS (zk e h)]; exact e)
 refine ⟨⟨by simp [c.len],?_,fun n a m e1 e2=>?_⟩,st⟩
 ·rw [zWJ];exact ⟨c.nd,by simp,fun a ha b hb z=>by
   have:b = p:=by simpa using hb
   subst this; subst z; exact hp ha⟩
 ·by_cases hn:n < L.length
  ·rw [zVC hn] at e1;rw [zVC (by rw [<- c.len]; exact hn)] at e2;exact (c.obj n a m e1 e2).stp st fun o e=>by rw [zS (zk e h)]; exact e
  ·have hn':n = L.length:=by
    have:=(zU8.mp e1).1;rw [zVL] at this;simp at this; omega
   subst hn';simp at e1;rw [c.len] at e2;simp at e2;subst e1; subst e2;exact new
theorem Cor.put {K:PySem.W.Frag} {L:List Addr} {M:List MO} {H:Hp} {n:Nat} {p:Addr} {o o':HO} {m:MO} (c:Cor K L M H) (h1:L[n]? = some p) (ho:H p = some o) (ht:∀ xs,o ≠ .tup xs) (hf:∀ a u,o ≠ .frz a u)
  (new:Stp L H L (L2.upd H p o') -> zGF K L (L2.upd H p o') p m):Cor K L (M.set n m) (L2.upd H p o') /\ Stp L H L (L2.upd H p o'):=by
 have st:Stp L H L (L2.upd H p o'):=by
  refine ⟨⟨[],by simp⟩,fun a ha=> .inl ha,fun a o e ha=>?_,fun a xs e=>?_,fun a b u e=>?_⟩
  ·rw [zS (show a ≠ p from fun z=>ha (by rw [z]; exact zVw h1))]; exact e
  ·rw [zS (zFh e ho (fun z=>ht xs z.symm))]; exact e
  ·rw [zS (zFh e ho (fun z=>hf b u z.symm))]; exact e
 refine ⟨⟨by simp [c.len],c.nd,fun k a m' e1 e2=>?_⟩,st⟩;rw [zWe] at e2;split at e2
 ·rename_i hk;subst hk;rw [h1] at e1; cases e1;split at e2
  ·cases e2; exact new st
  ·cases e2
 ·rename_i hk;have hne:a ≠ p:=fun z=>hk (by
   subst z;exact (List.getElem?_inj (zU8.mp h1).1 c.nd).mp (h1.trans e1.symm))
  exact (c.obj k a m' e1 e2).stp st fun o e=>by rw [zS hne]; exact e
section
variable {X:Cx} {a b e:Expr} {pos:Pos} {f g:FE}
def zFq:FE:=fun _ M=>some (.dat (.ref M.length),M ++ [.dicT []])
theorem zP3:QE X (.Dict [] [] pos) zFq:=.mk <| PE.imp zO5 fun τ H Q ⟨L,σ,M,d,M',c,rs,hf,q⟩ p hp=>by
 unfold zFq at hf;cases hf;obtain ⟨c2,s2⟩:=c.pushO (m:=.dicT []) hp ⟨[],zo,rfl⟩;refine q _ _ _ s2 c2 ?_;unfold zV Rep;exact ⟨p,rfl,by rw [<- c.len]; simp⟩
theorem zHw (h:Rep L H d v) (e:zEk d = some k):v = kV k:=by
 cases d with
 | int i=>cases e; unfold Rep at h; exact h
 | str x=>cases e; unfold Rep at h; exact h
 | _=>cases e
def zKv (M:Mem):EV -> Option (List D)
 | .fl xs=>some xs
 | .dat (.ref n)=>match M[n]? with
  | some (.lst xs)=>some xs
  | _=>none
 | _=>none
theorem zPN {K:PySem.W.Frag} {L:List Addr} {M:Mem} {H H0:Hp} {x:EV} {v:V} {xs:List D} (c:Cor K L M H) (r:zV H0 L H x v) (h:zKv M x = some xs):∃ a vs,v = .ref a /\ H a = some (.lst vs) /\ zH L H xs vs:=by
 cases x with
 | fl ys=>
  cases h;obtain ⟨p,vs,rfl,_,e,_,r⟩:=r;exact ⟨p,vs,rfl,e,r⟩
 | dat d=>
  cases d with
  | ref n=>
   unfold zV Rep at r;obtain ⟨a,rfl,e⟩:=r;unfold zKv at h;dsimp only at h;split at h
   ·rename_i ys q;cases h;obtain ⟨vs,e1,r1⟩:=c.obj n a _ e q;exact ⟨a,vs,rfl,e1,r1⟩
   ·cases h
  | _=>cases h
def zHJ:K2:=fun x y M=>match zKv M x,zKv M y with
 | some xs,some ys=>if xs.length + ys.length <= sizeLine then some (.fl (xs ++ ys),M) else none
 | _,_=>none
theorem zPQ {K:PySem.W.Frag}:zA3 K zT5 zHJ:=by
 intro L M M' H H0 x y d v w Q c rx ry hk q;unfold zHJ at hk;split at hk
 ·rename_i xs ys e1 e2;split at hk
  ·rename_i hz;cases hk;obtain ⟨l,vs,rfl,h1,r1⟩:=zPN c rx e1;obtain ⟨l2,ws,rfl,h2,r2⟩:=zPN c ry e2;refine ⟨l,l2,vs,ws,rfl,rfl,h1,h2,by rw [r1.length,r2.length]; exact hz,fun p hp=>?_⟩;exact q L _ _ (.upd hp) (c.upd hp) (zV.newLst (.refl L H) c c hp (r1.app r2))
  ·cases hk
 ·cases hk
theorem zR0 (h1:QE X a f) (h2:QE X b g):QE X (.BinOp a .Add b pos) (fOp zHJ f g):=zKs zPQ zSq h1 h2
theorem zTE (h1:zKv M x = some xs) (h2:zKv M y = some ys) (hz:xs.length + ys.length <= 100000) (q:P (.fl (xs ++ ys)) M):Ok (zHJ x y M) P:=by
 refine ⟨_,_,?_,q⟩;unfold zHJ; rw [h1,h2]; dsimp only; rw [zVK (zVW hz (by decide))]
end
end L3
namespace LR
open PySem PySem.Spec PyProof.Rows
open Sem (wp)
open Sem (wp)
open AutoSeq1 (wpAny_loadPart')
open Sem (wp)
open AutoSeq1 (wpAny_loadPart')
end LR
namespace L3
open PySem PySem.Spec PyProof.Rows L2
section
variable {X:Cx} {a b e o:Expr} {pos p apos cpos:Pos} {f g:FE}
def zAC:List D -> Option (List Int)
 | []=>some []
 | .int i :: r=>match zAC r with
  | some bs=>some (i :: bs)
  | none=>none
 | _=>none
theorem zDt:∀ {ds:List D} {bs:List Int} {vs:List V},zAC ds = some bs -> zH L H ds vs -> vs = bs.map V.int
 | [],bs,vs,e,r=>by cases e; unfold zH at r; exact r
 | d :: ds,bs,vs,e,r=>by
  unfold zH at r;obtain ⟨v,r',rfl,r1,r2⟩:=r;cases d with
  | int k=>
   unfold zAC at e;cases q:zAC ds with
   | none=>rw [q] at e; cases e
   | some bs'=>
    rw [q] at e; cases e;unfold Rep at r1;rw [r1,zDt q r2]; rfl
  | _=>cases e
theorem zBv:∀ xs:List Int,zAC (xs.map D.int) = some xs
 | []=>rfl
 | x :: r=>by rw [zVO]; unfold zAC; rw [zBv r]
end
end L3
namespace L2
open PySem PySem.Spec PyProof.Rows
section
variable {prog:Program} {w:World} {A:Around} {E:Value -> Shared -> Prop} {R:Result -> Shared -> Prop} {s:Shared}
theorem zGe (I:Nat -> Shared -> Prop)
  (turn:∀ n s,I n s -> wpAny (model prog w) A (pyNext it) (fun r s₁=>match r with
   | none=>R (.ok .next) s₁
   | some v=>wpAny (model prog w) A (letOwnedTupleGo target it v) (fun _ s₁'=>wpAny (model prog w) A (assign target env v) (fun _ s₂=>
     wpAny (model prog w) A (forIn ifs true fun c r=>if r = true then do let ok <- isTrue c env (eval c env); pure (ForInStep.yield ok) else pure (ForInStep.yield r)) (fun ok s₃=>
      if ok = true then wpAny (model prog w) A (eval kx env) (fun kv s₄=>wpAny (model prog w) A (eval vx env) (fun vv s₅=>
       wpAny (model prog w) A (dictSet D kv vv) (fun _ s₆=>∃ m,m < n /\ I m s₆) (fun _ _=>False) s₅) (fun _ _=>False) s₄) (fun _ _=>False) s₃
      else ∃ m,m < n /\ I m s₃) (fun _ _=>False) s₂) (fun _ _=>False) s₁') (fun _ _=>False) s₁) (fun _ _=>False) s)
  (n:Nat) (h:I n s) :
  codeAny (model prog w) A (.compLoop (.DictComp kx vx [⟨target,iter,ifs,0⟩] scope pos) 0 it (.ref D) env) R s:=by
 refine codeAny_loop rfl I (fun n s hI=>?_) n h;show wpAny _ A ((compTurn (.DictComp kx vx [⟨target,iter,ifs,0⟩] scope pos) 0 it (.ref D) env).onRaise (fun x=>do noteFrame x env; theTreesLotGoes x)) _ _ s;refine wpAny_noted ?_;rw [compTurn_dict];refine zU5 (zV3 (zU5 (zVb (turn n s hI) (fun r s₁ h₁=>?_) fun _ _ h'=>h'.elim)));cases r with
 | none=>exact zU7 h₁
 | some v=>
  refine zU5 (zVb h₁ (fun _ s₁' h₁'=>?_) fun _ _ h'=>h'.elim);refine zU5 (zVb h₁' (fun _ s₂ h₂=>zU5 (zVb h₂ (fun ok s₃ h₃=>?_) fun _ _ h'=>h'.elim)) fun _ _ h'=>h'.elim);cases ok with
  | false=>exact zU7 ⟨rfl,h₃⟩
  | true=>
   exact zU5 (zU5 (zVb h₃ (fun kv s₄ h₄=>zU5 (zVy (zVb h₄ (fun vv s₅ h₅=>zU5 (zV3 (zVy (zVb h₅ (fun _ s₆ h₆=>zU7 ⟨rfl,h₆⟩) fun _ _ h'=>h'.elim)))) fun _ _ h'=>h'.elim))) fun _ _ h'=>h'.elim))
theorem zH7 (elt target iter:Expr) (ifs:List Expr) (scope:Scope) (pos:Pos) (it acc:Value) (env:Env) :
  compTurn (.SetComp elt [⟨target,iter,ifs,0⟩] scope pos) 0 it acc env = (do
   standAt iter.pos;match <- pyNext it with
   | none=>pure (.done .next)
   | some v=>
    letOwnedTupleGo target it v;assign target env v;let mut ok:=true
    for c in ifs do
     if ok then ok <- isTrue c env (eval c env)
    if ok then (do let v <- eval elt env; standAt elt.pos; let _ <- call (.builtin "set.add") [acc,v])
    again (.compLoop (.SetComp elt [⟨target,iter,ifs,0⟩] scope pos) 0 it acc env)):=by rfl
theorem zHq (I:Nat -> Shared -> Prop)
  (turn:∀ n s,I n s -> wpAny (model prog w) A (pyNext it) (fun r s₁=>match r with
   | none=>R (.ok .next) s₁
   | some v=>wpAny (model prog w) A (letOwnedTupleGo target it v) (fun _ s₁'=>wpAny (model prog w) A (assign target env v) (fun _ s₂=>
     wpAny (model prog w) A (forIn ifs true fun c r=>if r = true then do let ok <- isTrue c env (eval c env); pure (ForInStep.yield ok) else pure (ForInStep.yield r)) (fun ok s₃=>
      if ok = true then wpAny (model prog w) A (eval elt env) (fun x s₄=>
       wpAny (model prog w) A (call (.builtin "set.add") [acc,x]) (fun _ s₅=>∃ m,m < n /\ I m s₅) (fun _ _=>False) s₄) (fun _ _=>False) s₃
      else ∃ m,m < n /\ I m s₃) (fun _ _=>False) s₂) (fun _ _=>False) s₁') (fun _ _=>False) s₁) (fun _ _=>False) s)
  (n:Nat) (h:I n s) :
  codeAny (model prog w) A (.compLoop (.SetComp elt [⟨target,iter,ifs,0⟩] scope pos) 0 it acc env) R s:=by
 refine codeAny_loop rfl I (fun n s hI=>?_) n h;show wpAny _ A ((compTurn (.SetComp elt [⟨target,iter,ifs,0⟩] scope pos) 0 it acc env).onRaise (fun x=>do noteFrame x env; theTreesLotGoes x)) _ _ s;refine wpAny_noted ?_;rw [zH7];refine zU5 (zV3 (zU5 (zVb (turn n s hI) (fun r s₁ h₁=>?_) fun _ _ h'=>h'.elim)));cases r with
 | none=>exact zU7 h₁
 | some v=>
  refine zU5 (zVb h₁ (fun _ s₁' h₁'=>?_) fun _ _ h'=>h'.elim);refine zU5 (zVb h₁' (fun _ s₂ h₂=>zU5 (zVb h₂ (fun ok s₃ h₃=>?_) fun _ _ h'=>h'.elim)) fun _ _ h'=>h'.elim);cases ok with
  | false=>exact zU7 ⟨rfl,h₃⟩
  | true=>
   exact zU5 (zU5 (zVb h₃ (fun x s₄ h₄=>zU5 (zV3 (zU5 (zVb h₄ (fun _ s₅ h₅=>zU7 (zU7 ⟨rfl,h₅⟩)) fun _ _ h'=>h'.elim)))) fun _ _ h'=>h'.elim))
end
end L2
namespace LR
open PySem PySem.Spec PyProof.Rows
open Sem (wp)
end LR
namespace L3
open PySem PySem.Spec PyProof.Rows L2
end L3
namespace ST
open PySem
abbrev Up (xs:Array Nat):Prop:=xs.toList.Pairwise (· < ·)
theorem Up.get (h:Up xs) (hik:i < k) (hk:k < xs.size):xs[i]'(by omega) < xs[k]:=by
 have:=List.pairwise_iff_getElem.mp h i k (by simpa using (show i < xs.size by omega)) (by simpa using hk) hik;simpa using this
theorem zHp (h:Up xs) (j:Nat):∀ (fuel lo hi:Nat),lo <= hi -> hi <= xs.size -> hi - lo <= fuel -> (∀ i (hi':i < xs.size),i < lo -> xs[i] < j) -> (∀ i (hi':i < xs.size),hi <= i -> j <= xs[i]) ->
  (SetTable.below.go xs j fuel lo hi <= xs.size) /\ (∀ i (hi':i < xs.size),i < SetTable.below.go xs j fuel lo hi -> xs[i] < j) /\ (∀ i (hi':i < xs.size),SetTable.below.go xs j fuel lo hi <= i -> j <= xs[i])
 | 0,lo,hi,h1,h2,h3,a,b=>by
  have:lo = hi:=by omega
  subst this;unfold SetTable.below.go;exact ⟨h2,a,b⟩
 | fuel + 1,lo,hi,h1,h2,h3,a,b=>by
  unfold SetTable.below.go;by_cases hl:lo < hi
  ·rw [zVK hl];dsimp only;have hm:(lo + hi) / 2 < xs.size:=by omega
   have eg:xs.getD ((lo + hi) / 2) j = xs[(lo + hi) / 2]:=by simp [Array.getD,hm]
   rw [eg];by_cases hc:xs[(lo + hi) / 2] < j
   ·rw [zVK hc];refine zHp h j fuel _ _ (by omega) h2 (by omega) (fun i hi' hlt=>?_) b;rcases Nat.lt_or_ge i ((lo + hi) / 2) with z | z
    ·exact Nat.lt_trans (h.get z hm) hc
    ·have:i = (lo + hi) / 2:=by omega
     subst this; exact hc
   ·rw [zVN hc];refine zHp h j fuel _ _ (by omega) (by omega) (by omega) a (fun i hi' hge=>?_);rcases Nat.lt_or_ge ((lo + hi) / 2) i with z | z
    ·have:=h.get z hi'; omega
    ·have:i = (lo + hi) / 2:=by omega
     subst this; omega
  ·rw [zVN hl];have:lo = hi:=by omega
   subst this;exact ⟨h2,a,b⟩
theorem zCa (h:Up xs) (j:Nat):SetTable.below xs j <= xs.size /\ (∀ i (hi':i < xs.size),i < SetTable.below xs j -> xs[i] < j) /\ (∀ i (hi':i < xs.size),SetTable.below xs j <= i -> j <= xs[i]):=by
 unfold SetTable.below;exact zHp h j xs.size 0 xs.size (zVr _) (zVB _) (by omega) (fun i _ z=>by omega) (fun i hi' z=>by omega)
theorem zKB (h:Up xs):SetTable.below xs 0 = 0:=by
 obtain ⟨a,b,c⟩:=zCa h 0;rcases Nat.eq_zero_or_pos (SetTable.below xs 0) with z | z
 ·exact z
 ·have:=b 0 (by omega) z; omega
theorem zKE (h:Up xs) (hk:k < xs.size):SetTable.below xs (xs[k] + 1) = k + 1:=by
 obtain ⟨a,b,c⟩:=zCa h (xs[k] + 1);rcases Nat.lt_trichotomy (SetTable.below xs (xs[k] + 1)) (k + 1) with z | z | z
 ·have:=c k hk (by omega); omega
 ·exact z
 ·have h1:k + 1 < xs.size:=by omega
  have:=b (k + 1) h1 z;have:=h.get (show k < k + 1 by omega) h1;omega
theorem zFB {α:Type} (xs:Array α) (p:Nat) (x:α):(SetTable.insertAt xs p x).toList = xs.toList.take p ++ x :: xs.toList.drop p:=by
  unfold SetTable.insertAt;simp;have:xs.toList.length <= xs.size:=by simp
  rw [List.take_of_length_le (by simp)]
theorem zLk (h : Up xs) (hj : j ∉ xs.toList) : Up (SetTable.insertAt xs (SetTable.below xs j) j) := by
  obtain ⟨a, b, c⟩ := zCa h j;unfold Up;rw [zFB];rw [List.pairwise_append];have hT : ∀ x ∈ xs.toList.take (SetTable.below xs j), x < j := fun x hx => by
    obtain ⟨i,hi,e⟩:=zW8 hx;rw [List.getElem_take] at e;rw [zWT] at hi
    have h1 : i < xs.size := by have : xs.toList.length = xs.size := by simp
                                omega
    have:=b i h1 (by omega);rw [<- e]; simpa using this
  have hD : ∀ x ∈ xs.toList.drop (SetTable.below xs j), j < x := fun x hx => by
    obtain ⟨i,hi,e⟩:=zW8 hx;rw [List.getElem_drop] at e;rw [zXY] at hi
    have h1 : SetTable.below xs j + i < xs.size := by have : xs.toList.length = xs.size := by simp
                                                      omega
    have h2:=c _ h1 (by omega);have h3:x ≠ j:=fun z=>hj (z ▸ List.mem_of_mem_drop hx);have e':xs[SetTable.below xs j + i] = x:=by simpa using e
    omega
  refine ⟨h.sublist (List.take_sublist _ _),zXF.mpr ⟨hD,h.sublist (List.drop_sublist _ _)⟩,fun x hx y hy=>?_⟩;rcases zVH.mp hy with z | z
  · rw [z]; exact hT x hx
  · exact Nat.lt_trans (hT x hx) (hD y z)
theorem zHD (j:Nat):SetTable.has #[] j = false:=by
 unfold SetTable.has; simp
theorem zJ6 {t:SetTable} (h:Up t.place) (he:t.slot j = .empty):j ∉ t.place.toList:=fun hm=>by
 obtain ⟨a,b,c⟩:=zCa h j;obtain ⟨k,hk,e⟩:=zW8 hm;have hk':k < t.place.size:=by simpa using hk
 have e':t.place[k] = j:=by simpa using e
 have eb:SetTable.below t.place j = k:=by
  rcases Nat.lt_trichotomy (SetTable.below t.place j) k with z | z | z
  ·have h1:SetTable.below t.place j < t.place.size:=by omega
   have:=c _ h1 (zVB _);have:=h.get z hk';omega
  ·exact z
  ·have:=b k hk' z; omega
 unfold SetTable.slot at he;dsimp only at he;rw [eb,zVK (by simp [hk',e'])] at he;cases he
theorem zIy (hd:t.dummies = #[]):∀ (fuel:Nat) (p:SetTable.Probe) {j:Nat} {d:Option Nat},p.dummy = none -> SetTable.probe.go t hashAt h fuel p = some (.empty j d) -> d = none /\ t.slot j = .empty
 | 0,_,_,_,_,e=>by unfold SetTable.probe.go at e; cases e
 | fuel + 1,p,j,d,hp,e=>by
  unfold SetTable.probe.go at e;split at e
  ·rename_i hs;cases e;exact ⟨hp,hs⟩
  ·rename_i hs;unfold SetTable.slot at hs;dsimp only at hs;rw [hd,zHD] at hs;split at hs <;> first | cases hs | simp at hs
  ·split at e
   ·cases e
   ·refine zIy hd fuel _ ?_ e;unfold SetTable.advance;split <;> simp [hp]
theorem zMV {t:SetTable} (hu:Up t.place) (hd:t.dummies = #[]) (e:t.freeSlot h = some (j,b)):b = false /\ j ∉ t.place.toList:=by
 unfold SetTable.freeSlot at e;split at e
 ·rename_i j' d hp;unfold SetTable.probe at hp;obtain ⟨h1,h2⟩:=zIy hd _ _ (by rfl) hp;subst h1;simp at e;obtain ⟨rfl,rfl⟩:=e;exact ⟨rfl,zJ6 hu h2⟩
 ·cases e
structure TabOk (w:World) (t:SetTable):Prop where
 led:t.led = !w.params.followText "set-order"
 up:Up t.place
 nod:t.dummies = #[]
theorem zOS (n:Nat):Up (Array.range n):=by
 unfold Up;rw [Array.toList_range];exact List.pairwise_lt_range
theorem TabOk.standIn (h:TabOk w t) (n:Nat):TabOk w (t.standIn n):=⟨h.led,zOS n,rfl⟩
theorem TabOk.orStandIn (h:TabOk w t) (n:Nat):TabOk w (t.orStandIn n):=by
 unfold SetTable.orStandIn;split
 ·exact h
 ·exact h.standIn n
theorem TabOk.put (h:TabOk w t) (hj:j ∉ t.place.toList):TabOk w (t.put j).1:=by
 unfold SetTable.put;refine ⟨h.led,zLk h.up hj,?_⟩;show (if SetTable.has t.dummies j = true then _ else t.dummies) = #[];rw [h.nod,zHD]; rfl
theorem TabOk.layNew (h:TabOk w t) (es:Array (Int × Value)) (hh:Int) (x:Value):TabOk w (layNew t es hh x).2.1:=by
 unfold PySem.layNew;split
 ·rename_i j b e;exact (h.put (zMV h.up h.nod e).2).orStandIn _
 ·exact h.standIn _
theorem TabOk.relaid (h:TabOk w t) (e:t.relaid hs wanted = some (t',order)):TabOk w t':=by
 unfold SetTable.relaid SetTable.laid at e;cases q:SetTable.layClean (SetTable.sizeAbove wanted - 1) hs with
 | none=>rw [q] at e; cases e
 | some owner=>
  rw [q] at e;simp only [Option.bind_eq_bind,Option.bind_some,Option.pure_def,Option.some.injEq,Prod.mk.injEq] at e;obtain ⟨rfl,_⟩:=e;refine ⟨h.led,?_,rfl⟩;unfold Up;dsimp only;rw [List.pairwise_map,List.pairwise_filterMap];refine List.pairwise_lt_range.imp fun {a b} hab x hx y hy=>?_;cases o1:owner.getD a none with
  | none=>rw [o1] at hx; cases hx
  | some u=>
   cases o2:owner.getD b none with
   | none=>rw [o2] at hy; cases hy
   | some v=>
    rw [o1] at hx; rw [o2] at hy;cases hx; cases hy;exact hab
theorem TabOk.relayAll (h:TabOk w t) (es:Array (Int × Value)) (wanted:Nat):TabOk w (relayAll t es wanted).2.1:=by
 unfold PySem.relayAll;split
 ·rename_i t' order e;dsimp only;split
  ·exact h.relaid e
  ·exact h.standIn _
 ·exact h.standIn _
theorem TabOk.plain (h:TabOk w t) (b:Bool):TabOk w { t with plain:=b }:=⟨h.led,h.up,h.nod⟩
theorem TabOk.fresh:TabOk w (SetTable.fresh 0 0 (!w.params.followText "set-order")):=⟨rfl,List.Pairwise.nil,rfl⟩
open Sem (wp)
set_option genInjectivity true in
inductive F2 {α β:Type} (R:α -> β -> Prop):List α -> List β -> Prop
 | nil:F2 R [] []
 | cons {x y xs ys}:R x y -> F2 R xs ys -> F2 R (x :: xs) (y :: ys)
section
variable {prog:Program} {w:World} {K:Type} [DecidableEq K]
def zRg (knd:KeyKind prog w K) (e:Int × Value) (k:K):Prop:=(knd.is k e.2 = true /\ e.1 = knd.hash k) /\ e.2.scannable = true
structure SetK (knd:KeyKind prog w K) (o:Obj) (es:Array (Int × Value)) (ep:Nat) (t:SetTable) (ks:List K):Prop where
 ex:o.ExactSet
 data:o.data = .set es ep t
 tab:TabOk w t
 fits:t.fits es.size = true
 bound:es.size < scanBound
 ent:∃ ks',ks'.Perm ks /\ F2 (zRg knd) es.toList ks'
def ins (ks:List K) (k:K):List K:=if k ∈ ks then ks else ks ++ [k]
variable {knd:KeyKind prog w K} {o:Obj} {es:Array (Int × Value)} {ep:Nat} {t:SetTable} {ks:List K}
theorem zDD {α β:Type} {R:α -> β -> Prop}:∀ {xs:List α} {ys:List β},F2 R xs ys -> xs.length = ys.length
 | _,_,.nil=>rfl
 | _,_,.cons _ h=>by simp [zDD h]
theorem zCy {α β:Type} {R:α -> β -> Prop}:∀ {xs:List α} {ys:List β},F2 R xs ys -> ∀ x ∈ xs,∃ y ∈ ys,R x y
 | _,_,.nil,x,hx=>by cases hx
 | _,_,.cons h r,x,hx=>by
  rcases zVH.mp hx with z | z
  ·subst z; exact ⟨_,zVJ,h⟩
  ·obtain ⟨y,hy,q⟩:=zCy r x z; exact ⟨y,zVI _ hy,q⟩
theorem zEA {α β:Type} {R:α -> β -> Prop}:∀ {xs:List α} {ys:List β},F2 R xs ys -> ∀ y ∈ ys,∃ x ∈ xs,R x y
 | _,_,.nil,x,hx=>by cases hx
 | _,_,.cons h r,x,hx=>by
  rcases zVH.mp hx with z | z
  ·subst z; exact ⟨_,zVJ,h⟩
  ·obtain ⟨y,hy,q⟩:=zEA r x z; exact ⟨y,zVI _ hy,q⟩
theorem zDG {α β:Type} {R:α -> β -> Prop}:∀ {xs:List α} {ys:List β} {us:List α} {vs:List β},F2 R xs ys -> F2 R us vs -> F2 R (xs ++ us) (ys ++ vs)
 | _,_,_,_,.nil,h=>h
 | _,_,_,_,.cons h r,q=> .cons h (zDG r q)
theorem zEB {α β:Type} {R:α -> β -> Prop} {xs xs':List α} (p:xs'.Perm xs):∀ {ys:List β},F2 R xs ys -> ∃ ys',ys'.Perm ys /\ F2 R xs' ys':=by
 have p':=p.symm;clear p;induction p' with
 | nil=>intro ys h; exact ⟨ys,.refl _,h⟩
 | cons x _ ih=>
  intro ys h;cases h with
  | cons h r=>
   obtain ⟨ys',q1,q2⟩:=ih r;exact ⟨_,q1.cons _,.cons h q2⟩
 | swap x y l=>
  intro ys h;cases h with
  | cons h r=>
   cases r with
   | cons h2 r=>
    exact ⟨_,List.Perm.swap _ _ _,.cons h2 (.cons h r)⟩
 | trans _ _ ih1 ih2=>
  intro ys h;obtain ⟨ys',q1,q2⟩:=ih1 h;obtain ⟨ys'',r1,r2⟩:=ih2 q2;exact ⟨ys'',r1.trans q1,r2⟩
theorem SetK.size (h:SetK knd o es ep t ks):es.size = ks.length:=by
 obtain ⟨ks',p,f⟩:=h.ent;rw [<- p.length_eq,<- zDD f,zVo]
theorem SetK.elems (h:SetK knd o es ep t ks):ElemsOf knd es.toList:=fun e he=>by
 obtain ⟨ks',p,f⟩:=h.ent;obtain ⟨k,_,q⟩:=zCy f e he;exact ⟨⟨k,q.1⟩,q.2⟩
theorem SetK.mem (h:SetK knd o es ep t ks) (k:K):k ∈ ks ↔ ∃ e ∈ es.toList,knd.is k e.2 = true:=by
 obtain ⟨ks',p,f⟩:=h.ent;rw [<- p.mem_iff];constructor
 ·intro hk;obtain ⟨e,he,q⟩:=zEA f k hk;exact ⟨e,he,q.1.1⟩
 ·rintro ⟨e,he,q⟩;obtain ⟨k',hk',q'⟩:=zCy f e he;rw [knd.inj e.2 k k' q q'.1.1]; exact hk'
variable {A:Around} {E:Value -> Shared -> Prop} {s:Shared} {a:Addr} {k:K} {x:Value}
theorem SetK.typeIs (h:SetK knd o es ep t ks) (ho:s.heap.get? a = some o):s.TypeIs (.ref a) "set" := ⟨o,ho,h.ex.1⟩
theorem zGt {h:Heap} (ho:h.get? a = some o) (hd:o.data = .set es ep t) :
  (h.update a (Obj.putSet es' t')).get? a = some { o with data:=.set es' (ep + 1) t' }:=by
 have:=zVs (Obj.putSet es' t') ho (by rw [putSet_of es' t' hd]; rfl);rw [putSet_of es' t' hd] at this; exact this
theorem zFA {Q:Bool -> Shared -> Prop} (hkey:knd.is k x = true) (hsc:x.scannable = true) (ho:s.heap.get? a = some o) (hS:SetK knd o es ep t ks) (hroom:ks.length + 1 < scanBound)
  (h:∀ h' o' es' ep' t' b,Heap.SameBut a s.heap h' -> h'.get? a = some o' -> SetK knd o' es' ep' t' (ins ks k) -> Q b { s with heap:=h' }) :
  wpAny (model prog w) A (setAddHashed a x (knd.hash k)) Q E s:=by
 have hd:=hS.data;have hf:=hS.fits;have hel:=hS.elems;have hb:=hS.bound;have hb1:es.size + 1 < scanBound:=by rw [hS.size]; exact hroom
 unfold setAddHashed setAddHashedIn;refine zVy (zU5 (wpAny_setState_of ho hd hf ?_));dsimp only;rw [byScan_of hsc hb hel];simp only [↓reduceIte];unfold setAddByScan;refine zU5 ?_;refine zU5 (wpAny_rule ?_);refine zU5 (wpAny_setScan_of hkey ho hd hf hel ?_);cases hr:List.findIdx? (fun e=>knd.is k e.2) es.toList with
 | some j=>
  dsimp only;obtain ⟨hj,hpj,_⟩:=List.findIdx?_eq_some_iff_getElem.mp hr;have hSk:k ∈ ks:=(hS.mem k).mpr ⟨es.toList[j],zVd hj,hpj⟩;refine zU7 (zU7 ?_);have e:s = { s with heap:=s.heap }:=by cases s; rfl
  rw [e];refine h s.heap o es ep t _ (Heap.SameBut.refl a s.heap) ho ?_;unfold ins;rw [zVK hSk]; exact hS
 | none=>
  dsimp only;have hSk:k ∉ ks:=fun hk=>by
   obtain ⟨e,he,hp⟩:=(hS.mem k).mp hk; have:=List.findIdx?_eq_none_iff.mp hr e he; rw [hp] at this; exact Bool.noConfusion this
  have hgw:∀ (b:Bool) {s₁:Shared} {Q':Unit -> Shared -> Prop},Q' () s₁ -> wpAny (model prog w) A (match b with | true=>rule "set.scan.the-table-gave-way" | false=>pure ()) Q' E s₁ :=
   fun b s₁ Q' hq=>by cases b <;> first | exact zU7 hq | exact wpAny_rule hq
  have hperm:=layNew_perm t es (knd.hash k) x;have hfits:=layNew_fits t es (knd.hash k) x;have htab:=hS.tab.layNew es (knd.hash k) x;generalize hL:layNew t es (knd.hash k) x = L at hperm hfits htab ⊢;obtain ⟨es1,t1,wasDummy,gave⟩:=L;dsimp only at hperm hfits htab ⊢;rw [Array.toList_push] at hperm;have hb1':es1.size < scanBound:=by rw [<- zVo,hperm.length_eq,zVL,zVo]; simpa using hb1
  obtain ⟨ks',p,f⟩:=hS.ent;have f1:F2 (zRg knd) (es.toList ++ [(knd.hash k,x)]) (ks' ++ [k]):=zDG f (.cons ⟨⟨hkey,rfl⟩,hsc⟩ .nil);obtain ⟨ks1,p1,f2⟩:=zEB hperm f1;have pI:ks1.Perm (ins ks k):=by
   unfold ins;rw [zVN hSk];exact p1.trans (p.append_right _)
  refine zU5 (hgw _ ?_)
  have tail:∀ t2:SetTable,TabOk w t2 -> t2.fits es1.size = true -> wpAny (model prog w) A (do
    storeSet a es1 t2
    if (!wasDummy && t2.tooFull) = true then do
      (match (relayAll t2 es1 (SetTable.grown es1.size)).2.2 with | true=>rule "set.scan.the-table-gave-way" | false=>pure ())
      storeSet a (relayAll t2 es1 (SetTable.grown es1.size)).1 (relayAll t2 es1 (SetTable.grown es1.size)).2.1;pure (some true)
     else pure (some true)) (fun r s'=>wpAny (model prog w) A (match r with | some added=>pure added | none=>setAddHashedIn a x (knd.hash k) 99999) Q E s') E s:=by
   intro t2 T2 F2;refine zU5 (wpAny_storeSet_of ho hd ?_ (fits_of_scanBound hb1'));have g1:=zGt (es':=es1) (t':=t2) ho hd;have sb1:=zV8 s.heap a (Obj.putSet es1 t2);have S1:SetK knd { o with data:=.set es1 (ep + 1) t2 } es1 (ep + 1) t2 (ins ks k):=⟨hS.ex,rfl,T2,F2,hb1',ks1,pI,f2⟩;split
   ·have hp:=relayAll_perm t2 es1 (SetTable.grown es1.size);have hfr:=relayAll_fits t2 es1 (SetTable.grown es1.size);have htr:=T2.relayAll es1 (SetTable.grown es1.size);generalize hRl:relayAll t2 es1 (SetTable.grown es1.size) = Rl at hp hfr htr ⊢;obtain ⟨es2,t3,gave2⟩:=Rl;dsimp only at hp hfr htr ⊢;have hsz:es2.size = es1.size:=by rw [<- zVo,hp.length_eq,zVo]
    have hb2:es2.size < scanBound:=by rw [hsz]; exact hb1'
    obtain ⟨ks2,p2,f3⟩:=zEB hp f2;refine zU5 (hgw _ ?_);refine zU5 (wpAny_storeSet_of g1 rfl ?_ (fits_of_scanBound hb2));have g2:=zGt (es':=es2) (t':=t3) g1 rfl;exact zU7 (zU7 (h _ _ _ _ _ _ (sb1.trans (zV8 _ a _)) g2 ⟨hS.ex,rfl,htr,hfr,hb2,ks2,p2.trans pI,f3⟩))
   ·exact zU7 (zU7 (h _ _ _ _ _ _ sb1 g1 S1))
  split
  ·refine zU5 ?_;rw [hashByValue_scannable 8 hsc];refine zU7 ?_;refine tail _ ?_ ?_
   ·split
    ·exact htab
    ·exact htab.plain _
   ·split
    ·exact hfits
    ·exact SetTable.fits_plain_off hfits
  ·refine zU5 (zU7 ?_);simp only [↓reduceIte];exact tail _ htab hfits
theorem zOj (hkey:knd.is k x = true) (hsc:x.scannable = true) (ho:s.heap.get? a = some o) (hS:SetK knd o es ep t ks) (hroom:ks.length + 1 < scanBound)
  (h:∀ h' o' es' ep' t',Heap.SameBut a s.heap h' -> h'.get? a = some o' -> SetK knd o' es' ep' t' (ins ks k) -> Q .none { s with heap:=h',toks:=s.toks + 1 }) :
  wpAny (model prog w) A (call (.builtin "set.add") [.ref a,x]) Q E s:=by
 refine zVi F.slot_set_add (hS.typeIs ho) F.entry_set_add ?_ (F.args_set_add_2 _ _);unfold Builtin.«set.add» Builtin.Frozenset.oneOther;simp only [List.isEmpty_nil,bind_assoc];unfold Builtin.Frozenset.addrOf setAdd;refine zU5 (zU7 ?_);try dsimp only
 refine zU5 (zU7 ?_);try dsimp only
 refine zU5 ?_;refine zVy ?_;refine zU5 (knd.pyHash hkey ?_);refine zFA (s:={ s with toks:=s.toks + 1 }) hkey hsc ho hS hroom fun h' o' es' ep' t' b hsb ho' hS'=>?_;show wpAny _ _ (ret Value.none) _ _ _;exact zU7 ⟨_,rfl,h h' o' es' ep' t' hsb ho' hS'⟩
def zBS (w:World):Obj:={ cls:=.type "set", dict:=none,data:=.set #[] 0 (.fresh 0 0 (!w.params.followText "set-order")) }
theorem SetK.fresh:SetK knd (zBS w) #[] 0 (.fresh 0 0 (!w.params.followText "set-order")) []:=⟨⟨rfl,rfl,rfl⟩,rfl,.fresh,by rfl,by decide,[],.refl _,.nil⟩
theorem zMm (h:Q (.ref s.heap.objs.size) { s with heap:=s.heap.push (zBS w) }) :
  wpAny (model prog w) A (newSet (.type "set")) Q E s:=by
 unfold newSet setsByText;refine zU5 (zU5 (wpAny_askSetting (zU7 ?_)));dsimp only;simp only [newObj];exact zU5 (wpAny_alloc (zU7 h))
end
open PySem.Spec PyProof.Rows
open Sem (wp)
theorem zI8:Manifest.owners.lookup (String.ofList ['r','o','t','a','r','e','t','i','_','t','e','s'].reverse) = some Manifest.sig_set_iterator:=by kernel_rfl
theorem zm:Slot "set_iterator" "__next__" "set_iterator.__next__" := .of (owner := "set_iterator") (n := "__next__") (by rw [typeLookup_type,builtinLookup_eq_fast]; kernel_rfl) (by decide +kernel) (by decide +kernel) (by decide +kernel) (by first | exact .inl (by decide +kernel) | exact .inr (by decide +kernel)) (by rw [isSubtype_type]; kernel_rfl)
theorem zEF:Slot "set_iterator" "__iter__" "set_iterator.__iter__" := .of (owner := "set_iterator") (n := "__iter__") (by rw [typeLookup_type,builtinLookup_eq_fast]; kernel_rfl) (by decide +kernel) (by decide +kernel) (by decide +kernel) (by first | exact .inl (by decide +kernel) | exact .inr (by decide +kernel)) (by rw [isSubtype_type]; kernel_rfl)
theorem zBd (a:Value):argsOk "set_iterator.__next__" ⟨[a],[]⟩:=by
 unfold argsOk; rw [signature?_of (id := "set_iterator.__next__") (n:=['_','_','t','x','e','n','_','_']) (o:=['r','o','t','a','r','e','t','i','_','t','e','s']) (by kernel_rfl) zI8]; kernel_rfl
theorem zHn (a:Value):argsOk "set_iterator.__iter__" ⟨[a],[]⟩:=by
 unfold argsOk; rw [signature?_of (id := "set_iterator.__iter__") (n:=['_','_','r','e','t','i','_','_']) (o:=['r','o','t','a','r','e','t','i','_','t','e','s']) (by kernel_rfl) zI8]; kernel_rfl
theorem zBO:entryFor table "set_iterator.__next__" = some Builtin.«set_iterator.__next__»:=entryFor_of_tree (by kernel_rfl)
theorem zGa:entryFor table "set_iterator.__iter__" = some Builtin.«dict_keyiterator.__iter__» :=
 entryFor_alias (id' := "dict_keyiterator.__iter__") (by kernel_rfl) (by first | rfl | decide +kernel | (unfold String.splitOn; simp +decide [String.splitOnAux])) (by decide +kernel) (by kernel_rfl)
theorem zGA:entryFor table "set.__iter__" = some Builtin.«frozenset.__iter__» :=
 entryFor_alias (id' := "frozenset.__iter__") (by kernel_rfl) rfl (by decide +kernel) (by kernel_rfl)
def zAm (f:Value) (i:Nat) (a:Addr) (n ep:Nat):Obj:={ cls:=.type "set_iterator", data:=.fields #[f,rawInt i,.ref a,rawInt n,rawInt ep] }
theorem zDv {α:Type}:∀ {l:List α} {i:Nat} (h:i < l.length),(l[i] :: l.eraseIdx i).Perm l
 | [],i,h=>by simp at h
 | x :: l,0,h=>by simp
 | x :: l,i + 1,h=>by
  have:=zDv (l:=l) (i:=i) (by simpa using h);rw [List.getElem_cons_succ,List.eraseIdx_cons_succ];exact (List.Perm.swap _ _ _).trans (this.cons x)
theorem zGn {α:Type} {l:List α} (h:i < l.length) (e:n + 1 = l.length):n = (l.eraseIdx i).length:=by
 rw [List.length_eraseIdx,zVK h]; omega
theorem zG4 {α:Type} (next:Nat -> Nat):∀ (fuel k:Nat) (left:List α) (out:Array α),fuel = left.length -> (pickOrder.go next fuel k left out).toList.Perm (out.toList ++ left)
 | 0,k,left,out,h=>by
  have:left = []:=List.length_eq_zero_iff.mp h.symm;subst this;unfold pickOrder.go;simp
 | fuel + 1,k,left,out,h=>by
  unfold pickOrder.go;have hl:0 < left.length:=by omega
  have hm:next k % left.length < left.length:=Nat.mod_lt _ hl
  rw [zU9 hm];dsimp only;refine (zG4 next fuel (k + 1) _ _ (zGn hm h)).trans ?_;rw [Array.toList_push,zWB];exact (zDv hm).append_left _
theorem zDE {α:Type} (next:Nat -> Nat) (xs:Array α):(pickOrder next xs).toList.Perm xs.toList:=by
 unfold pickOrder;simpa using zG4 next xs.size 0 xs.toList #[] (by simp)
section
variable {prog:Program} {w:World} {A:Around} {E:Value -> Shared -> Prop} {s:Shared}
theorem zH8 (h0:n ≠ 0) (h:∀ r d,r < n -> Q r { s with drawn:=d }):wpAny (model prog w) A (choose src n) Q E s :=
 fun Γ p hΓ=>⟨h0,h _ _ (Nat.mod_lt _ (by omega))⟩
theorem zCm {α:Type}:∀ (n:Nat) (xs:List α) {s:Shared} {Q:List α -> Shared -> Prop},n = xs.length -> (∀ ys d,ys.Perm xs -> Q ys { s with drawn:=d }) -> wpAny (model prog w) A (drawOrder n xs) Q E s
 | 0,xs,s,Q,h,q=>by
  have:xs = []:=List.length_eq_zero_iff.mp h.symm;subst this;have e:s = { s with drawn:=s.drawn }:=by cases s; rfl
  rw [e];exact zU7 (q [] s.drawn (.refl _))
 | n + 1,[],s,Q,h,q=>by cases h
 | n + 1,x :: xs,s,Q,h,q=>by
  unfold drawOrder;refine zU5 (zH8 (by simp) fun r d hr=>?_);rw [zU9 hr];dsimp only;refine zU5 (zCm n _ (zGn hr h) fun ys d' hp=>zU7 ?_);exact q _ d' ((hp.cons _).trans (zDv hr))
variable {K:Type} [DecidableEq K] {knd:KeyKind prog w K} {o:Obj} {es:Array (Int × Value)} {ep:Nat} {t:SetTable} {ks:List K} {a I:Addr}
theorem zGC (h:s.heap.get? I = some (zAm f i a n ep)):s.TypeIs (.ref I) "set_iterator" := ⟨_,h,rfl⟩
theorem zK7 (hI:s.heap.get? I = some (zAm f i a n ep)) (h:Q (.ref I) s):wpAny (model prog w) A (pyIter (.ref I)) Q E s:=by
 refine wpAny_pyIter_slot (zGC hI) zEF (zVi zEF (zGC hI) zGa ?_ (zHn _));show wpAny _ _ (ret (.ref I)) _ _ s;exact zU7 ⟨_,rfl, "set_iterator", _,zGC hI,zm.lookup,h⟩
structure Nexts (prog:Program) (w:World) (o:Obj) (a:Addr) (ep:Nat) (n:Nat) (at_:Nat -> Nat) (ord:List Value):Prop where
 len:ord.length = n
 nx:∀ (A:Around) (E:Value -> Shared -> Prop) (i:Nat) (s:Shared) (Q:Option (Value × Nat) -> Shared -> Prop),i <= n -> s.heap.get? a = some o -> Q ((ord[i]?).map fun x=>(x,at_ (i + 1))) s -> wpAny (model prog w) A (setNext a (at_ i) i ep) Q E s
theorem zMA (N:Nexts prog w o a ep ks.length at_ ord) (hS:SetK knd o es ep t ks) (hI:s.heap.get? I = some (zAm (rawInt (at_ i)) i a ks.length ep)) (ho:s.heap.get? a = some o)
  (hx:ord[i]? = some x) (hQ:∀ h',h'.get? I = some (zAm (rawInt (at_ (i + 1))) (i + 1) a ks.length ep) -> Heap.SameBut I s.heap h' -> Q (some x) { s with heap:=h' }):wpAny (model prog w) A (pyNext (.ref I)) Q E s:=by
 have hT:=zGC hI;have hi:i < ks.length:=by have:=(zU8.mp hx).1; rw [N.len] at this; exact this
 unfold pyNext;refine zU5 (zWg (zVh (name:=Str.ofString "__next__") hT zm (zVi zm hT zBO ?_ (zBd _))));unfold Builtin.«set_iterator.__next__» slotArgs;simp only [List.isEmpty_nil,Bool.not_true,zV6,↓reduceIte,List.length_nil,bne_self_eq_false,pure_bind,bind_assoc];refine zU5 (wpAny_fieldsOf hI rfl ?_);dsimp only [rawInt];refine zU5 (wpAny_setEntries_of ho hS.data hS.fits ?_);rw [zVN (by rw [hS.size]; simp)];refine zU5 (N.nx _ _ i s _ (by omega) ho ?_);rw [hx];dsimp only [Option.map];refine zU5 (zWq hI rfl (by simp) ?_);have e1:=zVs (Obj.mapFields fun vs=>vs.set! 0 (rawInt (at_ (i + 1)))) hI (Obj.isFreed_of_fields (zWM rfl _));refine zU5 (zWq e1 (zWM rfl _) (by simp) ?_);have e2:=zVs (Obj.mapFields fun vs=>vs.set! 1 (rawInt ((i:Int) + 1))) e1 (Obj.isFreed_of_fields (zWM (zWM rfl _) _));refine zU7 ⟨x,rfl,zU7 (hQ _ ?_ ((zV8 ..).trans (zV8 ..)))⟩;refine e2.trans ?_;simp [Obj.mapFields,zAm,rawInt]
end
open Sem (wp)
section
variable {prog:Program} {w:World} {A:Around} {E:Value -> Shared -> Prop} {s:Shared}
variable {K:Type} [DecidableEq K] {knd:KeyKind prog w K} {o:Obj} {es:Array (Int × Value)} {ep:Nat} {t:SetTable} {ks:List K} {a I:Addr}
theorem zFN (hh:A.handled = none) (N:Nexts prog w o a ep ks.length at_ ord) (hS:SetK knd o es ep t ks) (hI:s.heap.get? I = some (zAm (rawInt (at_ ks.length)) ks.length a ks.length ep)) (ho:s.heap.get? a = some o)
  (hQ:∀ h',Heap.ExtBut I s.heap h' -> Q none { s with heap:=h' }):wpAny (model prog w) A (pyNext (.ref I)) Q E s:=by
 have hT:=zGC hI;unfold pyNext;refine zU5 (zWg (zVh (name:=Str.ofString "__next__") hT zm (zVi zm hT zBO ?_ (zBd _))));unfold Builtin.«set_iterator.__next__» slotArgs;simp only [List.isEmpty_nil,Bool.not_true,zV6,↓reduceIte,List.length_nil,bne_self_eq_false,pure_bind,bind_assoc];refine zU5 (wpAny_fieldsOf hI rfl ?_);dsimp only [rawInt];refine zU5 (wpAny_setEntries_of ho hS.data hS.fits ?_);rw [zVN (by rw [hS.size]; simp)];refine zU5 (N.nx _ _ ks.length s _ (zVB _) ho ?_);rw [List.getElem?_eq_none (by rw [N.len]; exact zVB _)];dsimp only [Option.map];refine zU5 (zWq hI rfl (by simp) ?_);simp only [newExc,newTuple,bind_assoc,pure_bind];refine zU5 (zVY (zU5 (m:=firstArgMember _ _) (wpAny_of_eq (a:=Value.none) (by first | rfl | (simp only [firstArgMember]; rfl)) (zU5 (zVY ?_ (by size_fits))))) (by size_fits));simp only [raiseNew];refine zU5 (wpAny_handled ?_);rw [show A.in1.handled = none from hh];refine zU5 (zU7 (wpAny_throw ?_));refine zU5 (wpAny_isInstance (T := "StopIteration") (b:=true) ⟨_,zVF _ rfl,rfl⟩ isSubtype_stop (zU7 ?_));exact hQ _ (((zV8 ..).extBut.push _).push _)
theorem zIa (hh:A.handled = none) (hne:a ≠ I) (N:Nexts prog w o a ep ks.length at_ ord) (hS:SetK knd o es ep t ks) :
  Walks prog w A I [I,a] [I] ks.length (fun i v=>ord[i]? = some v) (fun i h=>h.get? I = some (zAm (rawInt (at_ i)) i a ks.length ep) /\ h.get? a = some o) where
 sub:=fun b hb=>by simp at hb; simp [hb]
 frame:=fun _ _ _ st hk=>⟨hk I (by simp) _ st.1,hk a (by simp) _ st.2⟩;item:=fun i s Q E hi st hQ=>by
  have hx:ord[i]? = some (ord[i]'(by rw [N.len]; exact hi)):=zU9 _;refine zMA N hS st.1 st.2 hx fun h' hI' hs'=>?_;exact hQ _ h' s.toks hx ⟨hI',hs'.extBut a o hne st.2⟩ fun b u hb ee=>hs'.extBut b u (fun h=>hb (by simp [h])) ee
 done:=fun s Q E st hQ=>zFN hh N hS st.1 st.2 fun h' he'=>hQ h' s.toks fun b u hb ee=>he' b u (fun h=>hb (by simp [h])) ee;self:=fun _ _ _ _ st hQ=>zK7 st.1 hQ
theorem zKw {pl:List Nat} (hS:SetK knd o es ep t ks) (hl:pl.length = ks.length) (hI:s.heap.get? I = some (zAm (.ref T) i a ks.length ep)) (ho:s.heap.get? a = some o)
  (hT:IsTup s.heap T (pl.map fun (k:Nat)=>rawInt k).toArray)
  (hx:(pl[i]?).bind (fun k=>(es[k]?).map (·.2)) = some x) (hQ:∀ h',h'.get? I = some (zAm (.ref T) (i + 1) a ks.length ep) -> Heap.SameBut I s.heap h' -> Q (some x) { s with heap:=h' }):wpAny (model prog w) A (pyNext (.ref I)) Q E s:=by
 have hTy:=zGC hI;obtain ⟨oT,hoT,hcT,nT,hdT⟩:=id hT;cases hp:pl[i]? with
 | none=>rw [hp] at hx; cases hx
 | some k=>
  rw [hp] at hx;cases he:es[k]? with
  | none=>simp only [Option.bind_some] at hx; rw [he] at hx; cases hx
  | some e=>
   simp only [Option.bind_some] at hx;rw [he] at hx;cases hx;unfold pyNext;refine zU5 (zWg (zVh (name:=Str.ofString "__next__") hTy zm (zVi zm hTy zBO ?_ (zBd _))));unfold Builtin.«set_iterator.__next__» slotArgs;simp only [List.isEmpty_nil,Bool.not_true,zV6,↓reduceIte,List.length_nil,bne_self_eq_false,pure_bind,bind_assoc];refine zU5 (wpAny_fieldsOf hI rfl ?_);dsimp only [rawInt];refine zU5 (wpAny_setEntries_of ho hS.data hS.fits ?_);rw [zVN (by rw [hS.size]; simp)];refine zU5 (wpAny_seqItems hoT hdT ?_);dsimp only;have e5:(List.map (fun (k:Nat)=>rawInt k) pl).toArray[(i:Int).toNat]? = some (rawInt k):=by simp [hp]
   rw [e5];dsimp only [rawInt];unfold setNextDrawn;simp only [bind_assoc];refine zU5 (wpAny_setState_of ho hS.data hS.fits ?_);dsimp only;rw [zVN (by simp)];have e6:es[(k:Int).toNat]? = some e:=by simpa using he
   rw [e6];obtain ⟨e1,e2⟩:=e;dsimp only;simp only [pure_bind];refine zU5 (zWq hI rfl (by simp) ?_);refine zU7 ⟨e2,rfl,zU7 (hQ _ ?_ (zV8 ..))⟩;refine (zVs _ hI (Obj.isFreed_of_fields (zWM rfl _))).trans ?_;simp [Obj.mapFields,zAm,rawInt]
theorem zL5 {pl:List Nat} (hh:A.handled = none) (hS:SetK knd o es ep t ks) (hl:pl.length = ks.length) (hI:s.heap.get? I = some (zAm (.ref T) ks.length a ks.length ep)) (ho:s.heap.get? a = some o)
  (hT:IsTup s.heap T (pl.map fun (k:Nat)=>rawInt k).toArray) (hQ:∀ h',Heap.ExtBut I s.heap h' -> Q none { s with heap:=h' }):wpAny (model prog w) A (pyNext (.ref I)) Q E s:=by
 have hTy:=zGC hI;obtain ⟨oT,hoT,hcT,nT,hdT⟩:=id hT;unfold pyNext;refine zU5 (zWg (zVh (name:=Str.ofString "__next__") hTy zm (zVi zm hTy zBO ?_ (zBd _))));unfold Builtin.«set_iterator.__next__» slotArgs;simp only [List.isEmpty_nil,Bool.not_true,zV6,↓reduceIte,List.length_nil,bne_self_eq_false,pure_bind,bind_assoc];refine zU5 (wpAny_fieldsOf hI rfl ?_);dsimp only [rawInt];refine zU5 (wpAny_setEntries_of ho hS.data hS.fits ?_);rw [zVN (by rw [hS.size]; simp)];refine zU5 (wpAny_seqItems hoT hdT ?_);dsimp only;have e5:(List.map (fun (k:Nat)=>rawInt k) pl).toArray[(ks.length:Int).toNat]? = none:=by simp [hl]
 rw [e5];dsimp only [rawInt];refine zU5 (zWq hI rfl (by simp) ?_);have e1:=zVs (Obj.mapFields fun vs=>vs.set! 0 (rawInt 0)) hI (Obj.isFreed_of_fields (zWM rfl _));refine zU5 (zWq e1 (zWM rfl _) (by simp) ?_);simp only [newExc,newTuple,bind_assoc,pure_bind];refine zU5 (zVY (zU5 (m:=firstArgMember _ _) (wpAny_of_eq (a:=Value.none) (by first | rfl | (simp only [firstArgMember]; rfl)) (zU5 (zVY ?_ (by size_fits))))) (by size_fits));simp only [raiseNew];refine zU5 (wpAny_handled ?_);rw [show A.in1.handled = none from hh];refine zU5 (zU7 (wpAny_throw ?_));refine zU5 (wpAny_isInstance (T := "StopIteration") (b:=true) ⟨_,zVF _ rfl,rfl⟩ isSubtype_stop (zU7 ?_));exact hQ _ ((((zV8 ..).trans (zV8 ..)).extBut.push _).push _)
theorem zIX {pl:List Nat} (hh:A.handled = none) (hne:a ≠ I) (hneT:T ≠ I) (hS:SetK knd o es ep t ks) (hl:pl.length = ks.length) (hb:∀ k ∈ pl,k < es.size) :
  Walks prog w A I [I,a,T] [I] ks.length (fun i v=>(pl[i]?).bind (fun k=>(es[k]?).map (·.2)) = some v) (fun i h=>h.get? I = some (zAm (.ref T) i a ks.length ep) /\ h.get? a = some o /\ IsTup h T (pl.map fun (k:Nat)=>rawInt k).toArray) where
 sub:=fun b hb=>by simp at hb; simp [hb]
 frame:=fun _ _ _ st hk=>⟨hk I (by simp) _ st.1,hk a (by simp) _ st.2.1,let ⟨oT,ho,r⟩:=st.2.2; ⟨oT,hk T (by simp) oT ho,r⟩⟩;item:=fun i s Q E hi st hQ=>by
  have hi':i < pl.length:=by rw [hl]; exact hi
  have hk:pl[i] < es.size:=hb _ (zVd hi');have hx:(pl[i]?).bind (fun k=>(es[k]?).map (·.2)) = some (es[pl[i]].2):=by
   rw [zU9 hi']; simp [hk]
  refine zKw hS hl st.1 st.2.1 st.2.2 hx fun h' hI' hs'=>?_;exact hQ _ h' s.toks hx ⟨hI',hs'.extBut a o hne st.2.1,st.2.2.extBut hs'.extBut hneT⟩ fun b u hb ee=>hs'.extBut b u (fun h=>hb (by simp [h])) ee
 done:=fun s Q E st hQ=>zL5 hh hS hl st.1 st.2.1 st.2.2 fun h' he'=>hQ h' s.toks fun b u hb ee=>he' b u (fun h=>hb (by simp [h])) ee;self:=fun _ _ _ _ st hQ=>zK7 st.1 hQ
end
open Sem (wp)
theorem zMs {prog:Program} {w:World} {A:Around} {I:Addr} {fp wr:List Addr} {n:Nat} {P P':Nat -> Value -> Prop} {St:Nat -> Heap -> Prop} (W:Walks prog w A I fp wr n P St) (h:∀ i v,P i v -> P' i v):Walks prog w A I fp wr n P' St where
 sub:=W.sub;frame:=W.frame;item:=fun i s Q E hi st hQ=>W.item i s Q E hi st fun v h' tk hP=>hQ v h' tk (h i v hP);done:=W.done;self:=W.self
section
variable {prog:Program} {w:World} {A:Around} {E:Value -> Shared -> Prop} {s:Shared}
variable {K:Type} [DecidableEq K] {knd:KeyKind prog w K} {o:Obj} {es:Array (Int × Value)} {ep:Nat} {t:SetTable} {ks:List K} {a I:Addr}
theorem zCA (h:Q (w.params.followText "set-order") s):wpAny (model prog w) A setsByText Q E s:=by
 unfold setsByText;exact zU5 (wpAny_askSetting (zU7 h))
theorem zKR (hS:SetK knd o es ep t ks) (hT:w.params.followText "set-order" = true):Nexts prog w o a ep ks.length (fun _=>0) ((pickOrder (w.params.setOrder a ep) es).toList.map (·.2)) where
 len:=by rw [zVE,(zDE _ es).length_eq,zVo,hS.size]
 nx:=fun A E i s Q hi ho hQ=>by
  unfold setNext;refine zU5 (wpAny_setState_of ho hS.data hS.fits ?_);dsimp only;refine zU5 (zCA ?_);rw [hT,zVK rfl,zVN (by simp)];refine zU5 ?_;unfold setWalk;refine zU5 (wpAny_setState_of ho hS.data hS.fits ?_);dsimp only;refine zU5 (zCA ?_);rw [hT,zVK rfl];refine zU5 (wpAny_askSetting (zU7 ?_));refine zU7 ?_;have e:(Option.map (fun (e:Int × Value)=>(e.2,0)) (pickOrder (w.params.setOrder a ep) es)[i]?) = Option.map (fun x=>(x,0)) ((pickOrder (w.params.setOrder a ep) es).toList.map (·.2))[i]?:=by
   rw [zVS,zWk];cases (pickOrder (w.params.setOrder a ep) es)[i]? <;> rfl
  show Q (Option.map (fun (e:Int × Value)=>(e.2,0)) (pickOrder (w.params.setOrder a ep) es)[i]?) s;rw [e]; exact hQ
def zKA (t:SetTable):Nat -> Nat
 | 0=>0
 | i + 1=>t.place.getD i 0 + 1
theorem zOR (h:Up t.place) (hi:i <= t.place.size):SetTable.below t.place (zKA t i) = i:=by
 cases i with
 | zero=>exact zKB h
 | succ i=>
  show SetTable.below t.place (t.place.getD i 0 + 1) = i + 1;have hl:i < t.place.size:=by omega
  have e:t.place.getD i 0 = t.place[i]:=by simp [Array.getD,hl]
  rw [e]; exact zKE h hl
theorem zMZ (hS:SetK knd o es ep t ks):t.place.size = es.size:=by
 have:=hS.fits;simp only [SetTable.fits,zVf,beq_iff_eq] at this;exact this.1
theorem zIl (hS:SetK knd o es ep t ks) (hT:w.params.followText "set-order" = false) (hd:(!t.plain && decide (es.size > 1)) = false):Nexts prog w o a ep ks.length (zKA t) (es.toList.map (·.2)) where
 len:=by rw [zVE,zVo,hS.size]
 nx:=fun A E i s Q hi ho hQ=>by
  have hz:=zMZ hS;unfold setNext;refine zU5 (wpAny_setState_of ho hS.data hS.fits ?_);dsimp only;refine zU5 (zCA ?_);rw [hT,zVN (by decide)];show wpAny _ _ (if (!t.plain && decide (es.size > 1)) = true then _ else _) _ _ _;rw [zVN (by rw [hd]; decide)];have hl:t.led = true:=by rw [hS.tab.led,hT]; rfl
  refine zU5 ?_;show wpAny _ _ (if (!t.led && !es.isEmpty) = true then unsupported "set:maker-not-led" else pure ()) _ _ _;rw [zVN (by rw [hl]; simp)];refine zU7 ?_;rw [zOR hS.tab.up (by rw [hz,hS.size]; exact hi)];refine zU7 ?_;rw [zVS,zWk] at hQ;by_cases q:i < es.size
  ·have q2:i < t.place.size:=by rw [hz]; exact q
   rw [zVq q,zVq q2];rw [zVq q] at hQ;have e:zKA t (i + 1) = t.place[i] + 1:=by
    show t.place.getD i 0 + 1 = _;simp [Array.getD,q2]
   simp only [Option.map] at hQ;rw [e] at hQ;exact hQ
  ·have:i = es.size:=by rw [hS.size] at q ⊢; omega
   rw [Array.getElem?_eq_none (by omega)] at hQ ⊢;exact hQ
theorem zOt (ho:s.heap.get? a = some o) (hS:SetK knd o es ep t ks)
  (h:∀ (h':Heap) (d:Drawn) (I:Addr) (fp:List Addr) (ord:List Value) (St:Nat -> Heap -> Prop),(∀ b u,s.heap.get? b = some u -> h'.get? b = some u) -> s.heap.objs.size <= I -> (∀ b ∈ fp,b < h'.objs.size /\ (b = a \/ s.heap.objs.size <= b)) ->
   (∀ A:Around,A.handled = none -> Walks prog w A I fp [I] ks.length (fun i v=>ord[i]? = some v) St) -> St 0 h' -> ord.Perm (es.toList.map (·.2)) -> Q (.ref I) { s with heap:=h',drawn:=d }) :
  wpAny (model prog w) A (pyIter (.ref a)) Q E s:=by
 have hT:=hS.typeIs ho;have hal:a < s.heap.objs.size:=zVG ho;refine wpAny_pyIter_slot hT F.slot_set_iter (zVi F.slot_set_iter hT zGA ?_ (F.args_set_iter_1 _));unfold Builtin.«frozenset.__iter__» Builtin.Frozenset.slot0 slotArgs Builtin.Frozenset.addrOf Builtin.Frozenset.sizeOf;simp only [List.isEmpty_nil,Bool.not_true,zV6,↓reduceIte,List.length_nil,bne_self_eq_false,pure_bind,bind_assoc];refine zU5 (wpAny_setEntries_of ho hS.data hS.fits ?_);unfold setDrawn;simp only [bind_assoc];refine zU5 (wpAny_setState_of ho hS.data hS.fits ?_);dsimp only;refine zU5 (zCA ?_);simp only [pure_bind];have hsz:=hS.size;have plain:∀ (at_:Nat -> Nat) (ord:List Value),at_ 0 = 0 -> Nexts prog w o a ep ks.length at_ ord -> ord.Perm (es.toList.map (·.2)) -> Q (.ref s.heap.objs.size) { s with heap:=s.heap.push (zAm (rawInt 0) 0 a ks.length ep) }:=by
  intro at_ ord h0 N hp;have e:s.heap.push (zAm (rawInt 0) 0 a ks.length ep) = s.heap.push (zAm (rawInt 0) 0 a ks.length ep):=rfl
  have:=h (s.heap.push (zAm (rawInt 0) 0 a ks.length ep)) s.drawn s.heap.objs.size [s.heap.objs.size,a] ord (fun i h=>h.get? s.heap.objs.size = some (zAm (rawInt (at_ i)) i a ks.length ep) /\ h.get? a = some o)
   (fun b u e=>zU6 _ e) (zVB _) (fun b hb=>by
    rw [zVl];rcases zVH.mp hb with z | z
    ·rw [z]; exact ⟨zV2 _,.inr (zVB _)⟩
    ·rw [zVX.mp z]; exact ⟨zVu hal,.inl rfl⟩)
   (fun A hh=>zIa hh (zVQ hal) N hS) ⟨by rw [h0]; exact zVF _ rfl,zU6 _ ho⟩ hp
  exact this
 have mk:∀ (s1:Shared) (f:Value) (hv:s1.heap.get? a = some o) {Q':Fin -> Shared -> Prop},Q' (.done (.ret (.ref s1.heap.objs.size))) { s1 with heap:=s1.heap.push (zAm f 0 a ks.length ep) } -> wpAny (model prog w) A.in1 (do
   let e <- setEpoch a;let r <- newFields "set_iterator" [f,rawInt 0,Value.ref a,rawInt es.size,rawInt e];ret r) Q' E s1:=by
  intro s1 f hv Q' hq;refine zU5 (wpAny_setEpoch_of hv hS.data hS.fits ?_);unfold newFields;refine zU5 (zVY (zU7 ?_));rw [hsz]; exact hq
 have ty:∀ (s1:Shared) (f:Value),(∃ T' r,Shared.TypeIs { s1 with heap:=s1.heap.push (zAm f 0 a ks.length ep) } (.ref s1.heap.objs.size) T' /\ typeLookup (Value.type T') (Str.ofString "__next__") = pure (some r) /\ True):=fun s1 f=>⟨"set_iterator", _,⟨_,zVF _ rfl,rfl⟩,zm.lookup,trivial⟩;show wpAny _ _ (if (!w.params.followText "set-order" && (!t.plain && decide (es.size > 1))) = true then _ else _) _ _ _;by_cases hc:(!w.params.followText "set-order" && (!t.plain && decide (es.size > 1))) = true
 ·rw [zVK hc];refine zU5 (zCm _ _ (by simp) fun pl d hp=>?_);refine zU5 ?_;unfold newTuple;have hpl:pl.length = ks.length:=by rw [hp.length_eq,zW2,hsz]
  refine zVY ?_ (by
   show (List.map (fun (i:Nat)=>rawInt i) pl).toArray.size <= sizeLine;rw [zVD,zVE,hpl,<- hsz]; exact fits_of_scanBound hS.bound)
  generalize hH:s.heap.push { cls:=.type "tuple", data:=.seq (List.map (fun (i:Nat)=>rawInt i) pl).toArray } = H;have kH:∀ b u,s.heap.get? b = some u -> H.get? b = some u:=fun b u e=>by rw [<- hH]; exact zU6 _ e
  have hT1:IsTup H s.heap.objs.size (pl.map fun (k:Nat)=>rawInt k).toArray:=⟨_,by rw [<- hH]; exact zVF _ rfl,rfl,0,rfl⟩;have szH:H.objs.size = s.heap.objs.size + 1:=by rw [<- hH]; exact zVl ..
  have szlt:s.heap.objs.size < H.objs.size:=by rw [szH]; exact zV2 _
  have alt:a < H.objs.size:=Nat.lt_trans hal szlt;refine mk { s with heap:=H,drawn:=d } (.ref s.heap.objs.size) (kH _ _ ho) ?_;obtain ⟨T',r,e1,e2,_⟩:=ty { s with heap:=H,drawn:=d } (.ref s.heap.objs.size);refine ⟨_,rfl,T',r,e1,e2,?_⟩;have kH2:∀ b u,s.heap.get? b = some u -> (H.push (zAm (.ref s.heap.objs.size) 0 a ks.length ep)).get? b = some u:=fun b u e=>zU6 _ (kH b u e);refine h _ d H.objs.size [H.objs.size,a,s.heap.objs.size] (pl.map fun k=>((es[k]?).map (·.2)).getD .none) (fun i h=>h.get? H.objs.size = some (zAm (.ref s.heap.objs.size) i a ks.length ep) /\ h.get? a = some o /\ IsTup h s.heap.objs.size (pl.map fun (k:Nat)=>rawInt k).toArray) kH2 (by rw [szH]; exact zWn _) (fun b hb=>?_) (fun A hh=>?_) ⟨zVF _ rfl,kH2 a o ho,?_⟩ ?_
  ·rw [zVl];simp only [zVH,zVa,or_false] at hb;rcases hb with z | z | z
   ·rw [z]; exact ⟨zV2 _,.inr (Nat.le_of_lt szlt)⟩
   ·rw [z]; exact ⟨zVu alt,.inl rfl⟩
   ·rw [z]; exact ⟨zVu szlt,.inr (zVB _)⟩
  ·have hb:∀ k ∈ pl,k < es.size:=fun k hk=>by have:=hp.mem_iff.mp hk; simpa using this
   refine zMs (zIX hh (a:=a) (I:=H.objs.size) (T:=s.heap.objs.size) (zVQ alt) (zVQ szlt) hS hpl hb) fun i v hv=>?_;rw [zVS];cases q:pl[i]? with
   | none=>rw [q] at hv; cases hv
   | some k=>
    rw [q] at hv;simp only [Option.bind_some] at hv;rw [Option.map_some,hv]; rfl
  ·exact hT1.push _
  ·have e:es.toList.map (·.2) = (List.range es.size).map fun k=>((es[k]?).map (·.2)).getD .none:=by
    apply List.ext_getElem?;intro i;rw [zVS,zVS,zWk];by_cases q:i < es.size
    ·rw [List.getElem?_range q,zVq q]; simp [q]
    ·rw [Array.getElem?_eq_none (by omega),List.getElem?_eq_none (by simp; omega)]; rfl
   rw [e];exact hp.map _
 ·rw [zVN hc];refine mk s (rawInt 0) ho ?_;obtain ⟨T',r,e1,e2,_⟩:=ty s (rawInt 0);refine ⟨_,rfl,T',r,e1,e2,?_⟩;cases hX:w.params.followText "set-order" with
  | true=>exact plain _ _ rfl (zKR hS hX) ((zDE _ es).map _)
  | false=>
   rw [hX] at hc;exact plain _ _ rfl (zIl hS hX (by simpa using hc)) (.refl _)
end
open Sem (wp)
section
variable {prog:Program} {w:World} {A:Around} {E:Value -> Shared -> Prop} {s:Shared}
variable {K:Type} [DecidableEq K] {knd:KeyKind prog w K} {o:Obj} {es:Array (Int × Value)} {ep:Nat} {t:SetTable} {ks:List K} {a I:Addr}
theorem zOC:isSubtype (.type "set") (.type "set") = pure true:=sub_set_self
theorem zM4 (hT:s.TypeIs (.ref a) "set") (h:Q false s):wpAny (model prog w) A (Builtin.List.listLengthHint (.ref a)) Q E s:=by
 unfold Builtin.List.listLengthHint;refine zU5 (wpAny_specialOf hT F.slot_set_len.lookup ?_);have hsp:splitId "set.__len__" = some ("set", "__len__"):=by decide +kernel
 dsimp only;rw [hsp];dsimp only;refine zU5 (wpAny_isInstance hT zOC ?_);rw [zVN (by decide),zVK (by decide +kernel)];refine zU5 (wpAny_typeOf hT ?_);exact zU7 h
theorem zJb (hh:A.handled = none) (ho:s.heap.get? a = some o) (hS:SetK knd o es ep t ks)
  (hQ:∀ (s':Shared) (acc:List Value),(∀ b u,s.heap.get? b = some u -> s'.heap.get? b = some u) -> s'.os = s.os -> s'.gens = s.gens -> acc.Perm (es.toList.map (·.2)) -> Q acc s'):wpAny (model prog w) A (collect (.ref a)) Q E s:=by
 have hal:a < s.heap.objs.size:=zVG ho;have hn:ks.length <= sizeLine:=by rw [<- hS.size]; exact fits_of_scanBound hS.bound
 unfold collect;refine zU5 (wpAny_runValue (codeAny_builtin F.entry_proto_collect ?_));rw [Around.under_plainId F.plain_proto_collect _];show wpAny _ A.in1 (newList [] >>= fun l=>again (.builtin "list.__iadd__" ⟨[l,.ref a],[]⟩)) _ _ s;refine zU5 (zVY (zU7 ⟨plainId_quiet F.plain_list_iadd _,codeAny_builtin F.entry_list_iadd ?_⟩));rw [Around.under_plainId F.plain_list_iadd _];generalize hH:s.heap.push { cls:=.type "list", data:=.seq ([]:List Value).toArray } = H;have kH:∀ b u,s.heap.get? b = some u -> H.get? b = some u:=fun b u e=>by rw [<- hH]; exact zU6 _ e
 have szH:H.objs.size = s.heap.objs.size + 1:=by rw [<- hH]; exact zVl ..
 have hL1:H.get? s.heap.objs.size = some { cls:=.type "list", data:=.seq ([]:List Value).toArray }:=by rw [<- hH]; exact zVF _ rfl
 have ho1:=kH a o ho;show wpAny _ A.in1 (Builtin.List.listExtendWith (.ref s.heap.objs.size) (.ref a) (.ref s.heap.objs.size)) _ _ { s with heap:=H };unfold Builtin.List.listExtendWith;have hT1:Shared.TypeIs { s with heap:=H } (.ref a) "set" := ⟨o,ho1,hS.ex.1⟩;refine zU5 (wpAny_typeOf hT1 ?_);have hneL:s.heap.objs.size ≠ a:=zWa hal;have h1:Builtin.List.listSameRef (.ref s.heap.objs.size) (.ref a) = false:=by simp [Builtin.List.listSameRef,hneL]
 have h2:(Value.type "set" == Value.type "list") = false:=by decide
 have h3:(Value.type "set" == Value.type "tuple") = false:=by decide
 simp only [h1,h2,h3,Bool.or_false,zV6,zXW];refine zU5 (zOt (s:={ s with heap:=H }) ho1 hS fun h2 d I fp ord St k2 hI2 hfp W st0 hp=>?_);have ho2:=k2 a o ho1;refine zU5 (zVy (zM4 (s:={ s with heap:=h2,drawn:=d }) ⟨o,ho2,hS.ex.1⟩ ?_));rw [zVK (by decide +kernel)];refine zU5 (wpAny_rule (zU5 ?_));show wpAny _ A.in1 (updateSeq s.heap.objs.size (·.push .none) >>= fun _=>updateSeq s.heap.objs.size (·.pop)) _ _ _;have hL2:=k2 _ _ hL1;refine zU5 (wpAny_updateSeq (s:={ s with heap:=h2,drawn:=d }) hL2 rfl ?_);have hS2:=zVs (Obj.mapSeq (·.push Value.none)) hL2 rfl;refine wpAny_updateSeq hS2 rfl ?_;have hS3:=zVs (Obj.mapSeq (·.pop)) hS2 rfl;generalize hH3:(h2.update s.heap.objs.size (Obj.mapSeq (·.push Value.none))).update s.heap.objs.size (Obj.mapSeq (·.pop)) = H3 at hS3;have oth:∀ b u,b ≠ s.heap.objs.size -> h2.get? b = some u -> H3.get? b = some u:=fun b u hb e=>by
  rw [<- hH3]; exact (zVm _ _ (Ne.symm hb)).trans ((zVm _ _ (Ne.symm hb)).trans e)
 have hSf:s.heap.objs.size ∉ fp:=fun hm=>by
  rcases (hfp _ hm).2 with z | z
  ·exact hneL z
  ·have z':H.objs.size <= s.heap.objs.size:=z;rw [szH] at z'; exact absurd z' (Nat.not_succ_le_self _)
 have WS:=(W A.in1.in1 hh).toS;have st3:St 0 H3:=(W A.in1.in1 hh).frame 0 _ _ st0 fun b hb u e=>oth b u (fun z=>hSf (z ▸ hb)) e;have hI3:I ≠ s.heap.objs.size:=fun z=>by
  have z':H.objs.size <= I:=hI2;rw [szH,z] at z'; exact absurd z' (Nat.not_succ_le_self _)
 refine zU7 ⟨plainId_quiet F.plain_extend_loop _,codeAny_extend_loopS (A:=A) (WalksS.of_in1 WS) hn _ hSf _ ks.length 0 { s with heap:=H3,drawn:=d } _ _ rfl (zVr _) st3 hS3 (ItemsOf.nil _) fun s' acc' c' hm hS' hacc=>?_⟩;show wpAny _ A (load s.heap.objs.size >>= _) _ _ s';refine zU5 (wpAny_load hS' (zU7 (hQ s' _ (fun b u e=>hm.heap b u (fun q=>?_) (oth b u (fun z=>zVn _ (z ▸ zVG e)) (k2 b u (kH b u e)))) hm.os hm.gens ?_)))
 ·rcases zVH.mp q with z | z
  ·exact zVn _ (z ▸ zVG e)
  ·have z':H.objs.size <= I:=hI2;rw [<- zVX.mp z,szH] at z';exact zVn _ (Nat.lt_trans (zVU (zV2 _) z') (zVG e))
 ·have e:acc'.toList = ord:=by
   have hl:ord.length = ks.length:=by rw [hp.length_eq,zVE,zVo,hS.size]
   apply List.ext_getElem?;intro i;rw [zWk];by_cases q:i < ks.length
   ·have q':i < acc'.size:=by rw [hacc.1]; exact q
    rw [zVq q'];exact (hacc.2 i _ (zVq q')).symm
   ·rw [Array.getElem?_eq_none (by rw [hacc.1]; omega),List.getElem?_eq_none (by omega)]
  rw [e]; exact hp
end
end ST
namespace L2
open PySem PySem.Spec PyProof.Rows ST
section
variable {prog:Program} {w:World} {A:Around} {R:Result -> Shared -> Prop} {s:Shared}
theorem zCp {elt target iter ifs rest scope pos it acc env}
  (h0:codeAny (model prog w) A (.compLoop (.SetComp elt (⟨target,iter,ifs,0⟩ :: rest) scope pos) 0 it acc env) R s)
  (h:wpAny (model prog w) A (pyIter it) (fun it' s'=>codeAny (model prog w) A (.compLoop (.SetComp elt (⟨target,iter,ifs,0⟩ :: rest) scope pos) 0 it' acc env) R s')
   (notedBy (model prog w) A env fun x s'=>R (.error x) s') s) :
  codeAny (model prog w) A (.compStart (.SetComp elt (⟨target,iter,ifs,0⟩ :: rest) scope pos) 0 it acc env) R s:=by
 refine codeAny_of_tree ?_;show wpAny _ _ ((compStart (.SetComp elt (⟨target,iter,ifs,0⟩ :: rest) scope pos) 0 it acc env).onRaise (fun x=>do noteFrame x env; standAt theWindowsPlace)) _ _ s;refine wpAny_notedAt ?_;unfold compStart;show wpAny _ _ (ask >>= _) _ _ s;refine zU5 (wpAny_askSetting (wpAny_ite ?_));split
 ·first
   | exact zU5 (zU7 (zU7 (And.intro rfl h0)))
   | exact zU7 (And.intro rfl h0)
 ·first
   | exact zU5 (wpAny_rule (zU5 (zV3 (zU5 (zVb h (fun it' s' h'=>zU7 (And.intro rfl h')) fun _ _ x=>x)))))
   | (refine zU5 (wpAny_rule ?_); show wpAny _ _ (standAt iter.pos >>= _) _ _ s; exact zU5 (zV3 (zU5 (zVb h (fun it' s' h'=>zU7 (And.intro rfl h')) fun _ _ x=>x))))
end
section
variable {X:Cx} {zB:List (Addr × Obj)} {σ:St} {H:Hp} {s:Shared} {scope:Scope} {cl:List (Str × Addr)} {fp:List Addr} {it:Addr} {tn:Nat -> Heap -> Prop} {J:It} {tg elt iter:Expr} {ifs:List Expr} {pos:Pos}
 {own:List Nat} {g:TG} {tc:TT} {te:TE} {E:Value -> Shared -> Prop}
theorem zJy (h:SetK (intKind prog w) o es ep t ks):∀ v,o.data ≠ .cell v:=fun v z=>by rw [h.data] at z; cases z
theorem zGL (C:CompIn X scope own) (hcalm:X.calm = true) (I:Inv X zB σ H s) (T:Turn X.prog X.w X.K tg J fp it tn) (st:tn 0 s.heap) (hf:∀ b ∈ fp,zBt X zB H b)
  (c1:∀ x c,cl.lookup x = some c -> X.env.cells.lookup x = some c) (c2:∀ y ∈ scope.names,y.2 = .free -> (cl.lookup y.1).isSome = true)
  (hg:PG (zG X zB scope cl s H fp) tg g) (hi:zE7 (zG X zB scope cl s H fp) ifs tc) (he:PE (zG X zB scope cl s H fp) elt te)
  {RR:Value -> Addr -> Result -> Shared -> Prop} {QQ:List Int -> Hp -> Prop} {W:Nat -> Nat -> List Int -> Hp -> Prop} {m0:Nat} (w0:W 0 m0 [] H)
  (turn:∀ i m ys H,W i m ys H -> (J.stop i H /\ QQ ys H) \/
   (J.go i H /\ ∀ x H',J.yld i H x H' -> g x (clr own σ) H' fun σ2 H2=>Ext (clr own σ) σ2 /\ tc σ2 H2 fun b H3=>
    if b = true then te σ2 H3 fun v H4=>∃ k,v = .int k /\ ys.length + 1 < scanBound /\ ∃ m',m' < m /\ W (i + 1) m' (ins ys k) H4 else ∃ m',m' < m /\ W (i + 1) m' ys H3))
  (fin:∀ σc H' s' o es ep t ys,Inv (zG X zB scope cl s H fp) [(s.heap.objs.size,o)] σc H' s' -> SetK (intKind X.prog X.w) o es ep t ys -> QQ ys H' -> RR (.ref s.heap.objs.size) (s.heap.objs.size + 1) (.ok .next) s') :
  wpAny (model X.prog X.w) X.A (newSet (.type "set")) (fun acc s₃=>wpAny (model X.prog X.w) X.A (newFunctionEnv scope X.env.globals cl [] X.env.qual none .none (some X.env)) (fun cenv s₄=>
   codeAny (model X.prog X.w) X.A (.compStart (.SetComp elt [⟨tg,iter,ifs,0⟩] scope pos) 0 (.ref it) acc { cenv with scope:=relabel scope X.env }) (RR acc cenv.locals) s₄) E s₃) E s:=by
 have ob:∀ b:Nat,b ∈ fp -> b < s.heap.objs.size:=fun b hb=>let ⟨_,e,_⟩:=T.obj 0 _ st b hb; zVG e;refine zMm (zB4 ?_);have sz1:(s.heap.push (zBS X.w)).objs.size = s.heap.objs.size + 1:=zVl ..;have I4:=zEL (X:=X) (zB:=zB) (σ:=σ) (σc:=clr own σ) (H:=H) (s:=s) (scope:=scope) (cl:=cl) (fp:=fp) C.sc I hf ob c1 c2 (zAv own σ) (fun i x v h1 h2 h3=>by
  obtain ⟨a,b⟩:=zCD own σ i v h2;rcases C.nm i x h1 with z | z | z
  ·exact absurd z b
  ·exact absurd (zBf x z) h3
  ·exact ⟨z,a⟩) (zBS X.w) (by intro v z; cases z) rfl rfl
 have st4:tn 0 (pushCells ((s.heap.push (zBS X.w)).push { cls:=.type "dict", data:=.dict #[] }) scope.names):=T.keep 0 _ _ st fun b _ o e=>pushCells_keeps _ _ b o (zU6 _ (zU6 _ e));dsimp only;unfold newEnv;dsimp only;rw [sz1];have hDfp:s.heap.objs.size ∉ fp:=fun z=>zVn _ (ob _ z);have hcD:∀ x c,(zG X zB scope cl s H fp).env.cells.lookup x = some c -> c ≠ s.heap.objs.size:=fun x c e z=>by
  obtain ⟨v,o,ho,hd⟩:=I4.cell x c e;obtain ⟨q,_⟩:=I4.pin (s.heap.objs.size,zBS X.w) (by simp);rw [z,q] at ho;cases ho; cases hd
 have fpk:∀ {H':Hp} {pl:List (Addr × Obj)},(∀ b ∈ fp,H' b = none) -> (∀ p ∈ pl,p.1 = s.heap.objs.size) -> ∀ b ∈ fp,zBt (zG X zB scope cl s H fp) pl H' b:=fun {H' pl} hn hp b hb=>
  ⟨hn b hb,(I4.ok.exf b hb).1,I4.ok.exfs b hb,.inl hb,(I4.ok.exf b hb).2,fun p hq=>by
   rcases zVV.mp hq with z | z
   ·exact (hf b hb).2.2.2.2.2 p z
   ·intro e;have e2:=hp p z;rw [e] at e2;exact hDfp (e2 ▸ hb)⟩
 have loop:codeAny (model X.prog X.w) X.A (.compLoop (.SetComp elt [⟨tg,iter,ifs,0⟩] scope pos) 0 (.ref it) (.ref s.heap.objs.size) (zG X zB scope cl s H fp).env) (RR (.ref s.heap.objs.size) (s.heap.objs.size + 1))
   { s with heap:=pushCells ((s.heap.push (zBS X.w)).push { cls:=.type "dict", data:=.dict #[] }) scope.names }:=by
  refine zHq (fun n s'=>∃ i H' ys o es ep t,Inv (zG X zB scope cl s H fp) [(s.heap.objs.size,o)] (clr own σ) H' s' /\ SetK (intKind X.prog X.w) o es ep t ys /\ tn i s'.heap /\ (∀ b ∈ fp,H' b = none) /\ W i n ys H') ?_ m0
   ⟨0,H,[],zBS X.w,_,_,_,I4,.fresh,st4,fun b hb=>(hf b hb).1,w0⟩
  rintro n s5 ⟨i,H5,ys,o,es,ep,t,I5,r5,st5,f5,w5⟩;have pinD:∀ p ∈ [(s.heap.objs.size,o)],p.1 = s.heap.objs.size:=fun p hp=>by
   have:p = (s.heap.objs.size,o):=by simpa using hp
   rw [this]
  rcases turn i n ys H5 w5 with ⟨stop,qq⟩ | ⟨go,step⟩
  ·refine thn (T.done (zG X zB scope cl s H fp) rfl rfl rfl hcalm i _ s5 _ H5 _ I5 (fpk f5 pinD) st5 stop) fun r s6 ⟨hr,I6⟩=>?_;subst hr;exact fin _ H5 s6 o es ep t ys I6 r5 qq
  ·refine thn (T.item (zG X zB scope cl s H fp) rfl rfl rfl hcalm i _ s5 _ H5 _ I5 (fpk f5 pinD) st5 go) fun r s6 ⟨u,hr,h6⟩=>?_;subst hr;refine thn h6 fun _ s7 ⟨x,H7,I7,r7,y7,st7,f7⟩=>?_;have I7':=I7.pinned (fpk f7 pinD) (T.obj _ _ st7);refine thn (hg _ s7 _ H7 x u _ I7' r7 (step x H7 y7)) fun _ s8 ⟨σ8,H8,I8,x8,q8⟩=>?_;refine thn (hi _ s8 σ8 H8 _ I8 q8) fun ok s9 ⟨H9,I9,q9⟩=>?_;have back:∀ {s':Shared} {Hx:Hp},Inv (zG X zB scope cl s H fp) ([(s.heap.objs.size,o)] ++ zCH fp s7.heap) σ8 Hx s' -> tn (i + 1) s'.heap /\ ∀ b ∈ fp,Hx b = none:=fun {s' Hx} Ix=>
    ⟨T.keep _ _ _ st7 fun b hb o e=>(Ix.pin (b,o) (zVP _ (zVP _ (zt hb e)))).1,fun b hb=>by
     obtain ⟨o,e,d⟩:=T.obj _ _ st7 b hb;exact (Ix.pin (b,o) (zVP _ (zVP _ (zt hb e)))).2.1⟩
   cases ok with
   | false=>
    obtain ⟨m',hm,w'⟩:=q9;obtain ⟨b1,b2⟩:=back I9;exact ⟨m',hm,i + 1,H9,ys,o,es,ep,t,(I9.weak (by rw [x8.1]) x8.2).unpinned,r5,b1,b2,w'⟩
   | true=>
    refine thn (he _ s9 σ8 H9 _ I9 q9) fun v s10 ⟨y,H10,I10,r10,k,hk,hlt,m',hm,w'⟩=>?_;subst hk;obtain ⟨b1,b2⟩:=back I10;have J10:=(I10.weak (by rw [x8.1]) x8.2).unpinned;obtain ⟨e10,n10,ne10,nf10,d10⟩:=J10.pin (s.heap.objs.size,o) (by simp);obtain ⟨tk,hv⟩:∃ tk,v = .int k tk:=r10;subst hv;refine zOj (knd:=intKind X.prog X.w) (intKind_is _ _ _ _) rfl e10 r5 hlt fun h' o' es' ep' t' hs' e' S'=>?_;refine ⟨m',hm,i + 1,H10,ins ys k,o',es',ep',t',?_,S',T.keep _ _ _ b1 fun b hb o e=>hs'.extBut b o (fun z=>hDfp (z ▸ hb)) e,b2,w'⟩;refine (Inv.repin (pl:=[]) J10 (fun p hp=>?_) hs' (zVB _) hcD e' (zJy S')).tok _;rw [zVp] at hp;have hp':p ∈ X.pn ++ zB:=hp;exact zVQ (zVG (I.pin p hp').1)
 exact zCp loop (T.self _ 0 _ _ _ st4 loop)
theorem zHs (I:Inv X zB σ H s) (hf:∀ b ∈ fp,zBt X zB H b)
  (Ic:Inv (zG X zB scope cl s H fp) [(s.heap.objs.size,oD)] σc H' s') (hs:Heap.SameBut (s.heap.objs.size + 1) s'.heap h') :
  Inv X zB σ H' { s' with heap:=h' } /\ h'.get? s.heap.objs.size = some oD:=by
 obtain ⟨eD,nD,_⟩:=Ic.pin (s.heap.objs.size,oD) (by simp);have nC:H' (s.heap.objs.size + 1) = none:=Ic.free;have eD':h'.get? s.heap.objs.size = some oD:=hs.extBut _ _ (zVQ (zV2 _)) eD;have lt1:∀ {b:Addr} {o:Obj},s.heap.get? b = some o -> b ≠ s.heap.objs.size + 1:=fun e=>zVQ (zVu (zVG e));have tr:∀ b u,H' b = some u -> b ≠ s.heap.objs.size + 1:=fun b u e z=>by rw [z,nC] at e; cases e
 refine ⟨?_,eD'⟩;have B:=Ic.base;have un:Un (frs X.stack) fp H H' s.heap h':=by
  refine ⟨fun b o e q hb hx=>hs.extBut b o (lt1 e) (B.keep b o e q hb hx),fun b o e q hb hx=>?_,fun b o e q hx=>B.free b o e q hx,fun b o e hx=>?_,fun b xs e=>B.tups b xs e,fun b o xs e=>B.frzs b o xs e,fun b ps e=>B.tbls b ps e⟩
  ·obtain ⟨sl,e1⟩:=B.slot b o e q hb hx;exact ⟨sl,hs.extBut b _ (lt1 e) e1⟩
  ·obtain ⟨o',e1⟩:=B.there b o e hx;exact ⟨o',hs.extBut b _ (lt1 e) e1⟩
 have hok:HOk X.prog X.w H' h':=fun b u e=>by
  refine (Ic.hok b u e).stay (fun c v hc q=>hs.extBut c v ?_ q) (fun c q=>q) fun c xs q=>q;rcases hc with z | z
  ·rw [z]; exact tr b u e
  ·exact tr c _ z
 exact I.call' (s':={ s' with heap:=h' }) (ch:=fp) Ic.os un hok Ic.bare fun b hb=>⟨(hf b hb).2.2.2.1,(hf b hb).2.1,(hf b hb).2.2.2.2.1,(hf b hb).2.2.2.2.2⟩
end
abbrev TZ:=St -> Hp -> (List Int -> Hp -> Prop) -> Prop
def PZ (X:Cx) (e:Expr) (t:TZ):Prop:=∀ (zB:List (Addr × Obj)) (s:Shared) (σ:St) (H:Hp) (Q:List Int -> Hp -> Prop),Inv X zB σ H s -> t σ H Q ->
 wpAny (model X.prog X.w) X.A (eval e X.env) (fun v s'=>∃ a o es ep tb ks H',v = .ref a /\ s'.heap.get? a = some o /\ SetK (intKind X.prog X.w) o es ep tb ks /\ Inv X zB σ H' s' /\ Q ks H') X.xe s
def zJX (own:List Nat) (wi:TI) (g:TG) (tc:TT) (te:TE):TZ:=fun σ H Q=>wi σ H fun J H1=>∃ W:Nat -> Nat -> List Int -> Hp -> Prop,(∃ m,W 0 m [] H1) /\ ∀ i m ys H,W i m ys H ->
 (J.stop i H /\ Q ys H) \/
 (J.go i H /\ ∀ x H',J.yld i H x H' -> g x (clr own σ) H' fun σ2 H2=>Ext (clr own σ) σ2 /\ tc σ2 H2 fun b H3=>
  if b = true then te σ2 H3 fun v H4=>∃ k,v = .int k /\ ys.length + 1 < scanBound /\ ∃ m',m' < m /\ W (i + 1) m' (ins ys k) H4 else ∃ m',m' < m /\ W (i + 1) m' ys H3)
section
variable {X:Cx} {scope:Scope} {tg elt iter:Expr} {ifs:List Expr} {pos:Pos} {own:List Nat} {wi:TI} {g:TG} {tc:TT} {te:TE}
theorem zP1 (C:CompIn X scope own) (hcalm:X.calm = true) (hi:PI X tg iter wi) (p:CompParts X scope tg ifs elt g tc te) (hs:∀ x,foldedSetIterable iter X.env x = pure x:=by intro _; rfl) :
  PZ X (.SetComp elt [⟨tg,iter,ifs,0⟩] scope pos) (zJX own wi g tc te):=by
 intro zB s σ H Q I h;obtain ⟨cl,hcl,c1,c2⟩:=C.sc.closure I;rw [arm_eval_SetComp];refine zWz (use:=none) rfl hs hcl C.sc.kind C.sc.names (thn (hi zB s σ H _ I h) fun v s1 h1=>thn h1 fun itv s2 h2=>?_);obtain ⟨it,fp,tn,J,H2,e,I2,T,st2,f2,W,⟨m0,w0⟩,turn⟩:=h2;subst e;refine zGL C hcalm I2 T st2 f2 c1 c2 (p.g _ _ _ _ _) (p.c _ _ _ _ _) (p.e _ _ _ _ _) (RR:=fun acc C r s'=>compPost (model X.prog X.w) X.A X.xe none (fun v s'=>∃ a o es ep tb ks H',v = .ref a /\ s'.heap.get? a = some o /\ SetK (intKind X.prog X.w) o es ep tb ks /\ Inv X zB σ H' s' /\ Q ks H') acc C r s') (QQ:=Q) w0 turn ?_;intro σc H' s' o es ep t ys Ic rv qq;obtain ⟨m,hn,_⟩:=Ic.loc;refine ⟨m,hn,fun h' hs'=>?_⟩;obtain ⟨J',eD⟩:=zHs I2 f2 Ic hs';exact ⟨_,o,es,ep,t,ys,H',rfl,eD,rv,J',qq⟩
end
end L2
namespace ST
open PySem PySem.Spec PyProof.Rows
open Sem (wp)
section
variable {prog:Program} {w:World} {A:Around} {E:Value -> Shared -> Prop} {s:Shared}
variable {K:Type} [DecidableEq K] {knd:KeyKind prog w K}
def zAl (ks:List K):List K:=ks.foldl ins []
theorem zIY (ks:List K) (k:K):zAl (ks ++ [k]) = ins (zAl ks) k:=by unfold zAl; rw [List.foldl_append]; rfl
theorem zP2 (ks:List K) (k:K):(ins ks k).length <= ks.length + 1:=by unfold ins; split <;> simp
theorem zDx (ks:List K):(zAl ks).length <= ks.length:=by
 have:∀ (l acc:List K),(l.foldl ins acc).length <= acc.length + l.length:=by
  intro l;induction l with
  | nil=>intro acc; simp
  | cons x r ih=>intro acc; have:=ih (ins acc x); have:=zP2 acc x; simp only [List.foldl_cons,zVc]; omega
 simpa [zAl] using this ks []
theorem zQx (ks:List K) (k x:K):x ∈ ins ks k ↔ x ∈ ks \/ x = k:=by
 unfold ins;split
 ·rename_i h; constructor
  ·exact .inl
  ·rintro (z | z)
   ·exact z
   ·rw [z]; exact h
 ·simp
theorem zJ3 (ks:List K) (x:K):x ∈ zAl ks ↔ x ∈ ks:=by
  have:∀ (l acc:List K),x ∈ l.foldl ins acc ↔ x ∈ acc \/ x ∈ l:=by
    intro l;induction l with
    | nil=>intro acc; simp
    | cons y r ih=>intro acc; rw [List.foldl_cons,ih,zQx,zVH]; simp [or_assoc]
  simpa [zAl] using this ks []
theorem zMl (h : ks.Nodup) (k : K) : (ins ks k).Nodup := by
  unfold ins;split
  · exact h
  · rename_i q
    rw [zWJ]
    exact ⟨h, by simp, fun a ha b hb z => by have : b = k := by simpa using hb
                                             subst this; subst z; exact q ha⟩
theorem zH9 (ks:List K):(zAl ks).Nodup:=by
 have:∀ (l acc:List K),acc.Nodup -> (l.foldl ins acc).Nodup:=by
  intro l;induction l with
  | nil=>intro acc h; exact h
  | cons y r ih=>intro acc h; exact ih _ (zMl h y)
 exact this ks [] (by simp)
variable {R:Result -> Shared -> Prop} {I:Addr} {fp wr:List Addr} {G:Array GenState -> Array GenState -> Prop} {n:Nat} {P:Nat -> Value -> Prop} {St:Nat -> Shared -> Prop}
end
def zCn (ks:List Int):List Int:=ks.mergeSort fun a b=>decide (a <= b)
theorem zBF (ks:List Int):(zCn ks).Perm ks:=List.mergeSort_perm _ _
theorem zFi (ks:List Int):(zCn ks).Pairwise (· <= ·):=by
 have:=List.pairwise_mergeSort (le:=fun (a b:Int)=>decide (a <= b)) (fun a b c h1 h2=>by simp at h1 h2 ⊢; omega) (fun a b=>by simp; omega) ks;exact this.imp fun h=>by simpa using h
theorem zHQ:∀ {xs ys:List Int},xs.Perm ys -> xs.Pairwise (· <= ·) -> ys.Pairwise (· <= ·) -> xs = ys
 | [],ys,p,_,_=>by have:=p.length_eq; simp at this; rw [List.length_eq_zero_iff.mp this.symm]
 | x :: xs,[],p,_,_=>by have:=p.length_eq; simp at this
 | x :: xs,y :: ys,p,h1,h2=>by
  have hx:=zXF.mp h1;have hy:=zXF.mp h2;have e:x = y:=by
   have a:x ∈ y :: ys:=p.mem_iff.mp zVJ;have b:y ∈ x :: xs:=p.mem_iff.mpr zVJ;rcases zVH.mp a with z | z
   ·exact z
   ·rcases zVH.mp b with q | q
    ·exact q.symm
    ·exact Int.le_antisymm (hx.1 y q) (hy.1 x z)
  subst e;rw [zHQ (p.cons_inv) hx.2 hy.2]
theorem zJH (p:xs.Perm ys) (h:xs.Pairwise (· <= ·)):xs = zCn ys:=zHQ (p.trans (zBF ys).symm) h (zFi ys)
section
variable {prog:Program} {w:World} {A:Around} {E:Value -> Shared -> Prop} {s:Shared}
theorem zKT
  (hc:wpAny (model prog w) A.in1 (collect v) (fun vs s1=>∃ ns,IntsAre vs ns /\ vs.length < 64 /\ ∀ (h':Heap) (out:List Value) (n:Nat),(∀ b u,s1.heap.get? b = some u -> h'.get? b = some u) -> h'.get? s1.heap.objs.size = some (seqObj "list" out.toArray n) -> IntsAre out (zCn ns) -> Q (.ref s1.heap.objs.size) { s1 with heap:=h' }) E s) :
  wpAny (model prog w) A (call (.builtin "sorted") [v]) Q E s:=by
 refine Calls.call_function_entry kind_sorted plain_sorted entry_sorted (args_sorted1 _) ?_;unfold Builtin.«sorted»;refine zU5 (m:=checkCount "sorted" 1 1 _) (zU7 ?_);refine zU5 (zVb hc (fun vs s1 h1=>?_) fun _ _ h'=>h');obtain ⟨ns,hI,h64,h⟩:=h1;refine zU5 (wpAny_newList ?_ (by rw [sizeLine_eq]; omega));have hoL:(s1.heap.push (seqObj "list" vs.toArray 0)).get? s1.heap.objs.size = some (seqObj "list" vs.toArray 0):=zVF _ rfl;refine zU5 (zVy (zVi slot_list_sort ⟨_,hoL,rfl⟩ entry_list_sort (list_sort_tree (s:={ s1 with heap:=s1.heap.push (seqObj "list" vs.toArray 0) }) hoL hI h64 fun out ns' a1 a2 a3=>⟨_,rfl,?_⟩) (args_list_sort _)));refine zU7 ⟨_,rfl,?_⟩;have g1:=get?_update_seq hoL (fun _=> #[]);have g2:(((s1.heap.push (seqObj "list" vs.toArray 0)).update s1.heap.objs.size (Obj.mapSeq fun _=> #[])).push (seqObj "tuple" vs.toArray 0)).get? s1.heap.objs.size = _:=zU6 _ g1;have g3:=zU6 (seqObj "list" #[] 0) g2;have g4:=get?_update_seq g3 (fun _=>out);have eS:=zJH a2 a3;subst eS;refine h _ out.toList _ (fun b u e=>?_) (by rw [Array.toArray_toList]; exact g4) a1;have hb:s1.heap.objs.size ≠ b:=fun z=>zVn _ (z ▸ zVG e);exact (zVm _ _ hb).trans (zU6 _ (zU6 _ ((zVm _ _ hb).trans (zU6 _ e))))
theorem zMd (h:F2 (zRg (intKind prog w)) es ks):IntsAre (es.map (·.2)) ks:=by
 induction h with
 | nil=>exact .nil
 | cons h _ ih=>
  obtain ⟨⟨h1,_⟩,_⟩:=h;obtain ⟨t,e⟩:=Value.isInt_shape h1;rw [zVO,e];exact .cons _ _ ih
theorem zMT (p:us.Perm vs):∀ {ks:List Int},IntsAre vs ks -> ∃ ks',ks'.Perm ks /\ IntsAre us ks':=by
 have p':=p.symm;clear p;induction p' with
 | nil=>intro ks h; exact ⟨ks,.refl _,h⟩
 | cons x _ ih=>
  intro ks h;cases h with
  | cons n t r=>
   obtain ⟨ys',q1,q2⟩:=ih r;exact ⟨_,q1.cons _,.cons _ _ q2⟩
 | swap x y l=>
  intro ks h;cases h with
  | cons n t r=>
   cases r with
   | cons n2 t2 r=>exact ⟨_,List.Perm.swap _ _ _,.cons _ _ (.cons _ _ r)⟩
 | trans _ _ ih1 ih2=>
  intro ks h;obtain ⟨ys',q1,q2⟩:=ih1 h;obtain ⟨ys'',r1,r2⟩:=ih2 q2;exact ⟨ys'',r1.trans q1,r2⟩
theorem zIU (p:xs.Perm ys):zCn xs = zCn ys:=zJH ((zBF xs).trans p) (zFi xs)
theorem zKf (hh:A.handled = none) (ho:s.heap.get? a = some o) (hS:SetK (intKind prog w) o es ep t ks) (h64:ks.length < 64)
  (h:∀ (s1:Shared) (h':Heap) (out:List Value) (n:Nat),(∀ b u,s.heap.get? b = some u -> s1.heap.get? b = some u) -> s1.os = s.os -> s1.gens = s.gens -> (∀ b u,s1.heap.get? b = some u -> h'.get? b = some u) -> h'.get? s1.heap.objs.size = some (seqObj "list" out.toArray n) -> IntsAre out (zCn ks) -> Q (.ref s1.heap.objs.size) { s1 with heap:=h' }) :
  wpAny (model prog w) A (call (.builtin "sorted") [.ref a]) Q E s:=by
 refine zKT (zJb (A:=A.in1) hh ho hS fun s' acc k1 k2 k3 hp=>?_);obtain ⟨ks',p,f⟩:=hS.ent;obtain ⟨ks2,p2,f2⟩:=zMT hp (zMd f);refine ⟨ks2,f2,?_,fun h' out n e1 e2 e3=>?_⟩
 ·rw [hp.length_eq,zVE,zVo,hS.size]; exact h64
 ·rw [zIU (p2.trans p)] at e3;exact h s' h' out n k1 k2 k3 e1 e2 e3
end
end ST
namespace L2
open PySem PySem.Spec PyProof.Rows ST
section
variable {X:Cx} {e:Expr} {p pos:Pos} {zB:List (Addr × Obj)} {σ:St} {H:Hp} {s:Shared}
theorem Inv.kept' (I:Inv X zB σ H s) (k:∀ b u,s.heap.get? b = some u -> s1.heap.get? b = some u) (ho:s1.os = s.os) (hg:s1.gens = s.gens):Inv X zB σ H s1 :=
 I.call' (ch:=[]) ho (Un.kept k) (I.hok.kept k) (by rw [hg]; exact I.bare) fun b hb=>nomatch hb
theorem zGG:∀ {ns:List Int} {us:List Value},IntsAre us ns -> zW (ns.map V.int) us
 | _,_,.nil=> .nil
 | _,_,.cons n t h=> .cons ⟨t,rfl⟩ (zGG h)
theorem zNR (ks:List Int):(zCn ks).length = ks.length:=(zBF ks).length_eq
theorem zPY (hc:X.calm = true) (hg:Gl X "sorted") (hm:X.mg "sorted" = none) (ha:PZ X e t) (hs:starEach [e] X.env = (false,eval e X.env) :: starEach [] X.env:=by rfl) (hpl:(backTo pos (starEach [] X.env)).any (·.1) = false:=by rfl) :
  PE X (.Call (.Name "sorted" p) [e] [] pos) (fun σ H Q=>t σ H fun ks H1=>ks.length < 64 /\ ∀ q,H1 q = none -> Q (.ref q) (upd H1 q (.lst ((zCn ks).map V.int)))):=by
 intro zB s σ H Q I h;refine wpAny_Call_Name_kw (zEm I hg hm (by rfl) ?_ (by decide) (by decide));refine callWith_builtin1 ?_ hs hpl;rw [hs];show wpAny _ _ (spliced ((false,eval e X.env) :: backTo pos (starEach [] X.env))) _ _ s;refine Calls.spliced_cons (thn (ha zB s σ H _ I h) fun u s1 ⟨a,o,es,ep,tb,ks,H1,hv,ho,hS,I1,h64,q⟩=>Calls.spliced_nil ?_);subst hv;refine zKf (I1.ok.hd hc) ho hS h64 fun s2 h' out n k1 k2 k3 k4 e4 i4=>?_;have I2:Inv X zB σ H1 s2:=I1.kept' k1 k2 k3;have hf:H1 s2.heap.objs.size = none:=I2.hok.fresh (zVB _);refine ⟨.ref s2.heap.objs.size,upd H1 s2.heap.objs.size (.lst ((zCn ks).map V.int)),I2.laid (t':=s2.toks) k4 (zVB _) ⟨by rw [zVE,zNR,sizeLine_eq]; omega,out,n,zGG i4,e4⟩,rfl,q _ hf⟩
end
end L2
namespace L3
open PySem PySem.Spec PyProof.Rows L2 ST
abbrev FZ:=Sd -> Mem -> Option (List Int × Mem)
def trZ (K:PySem.W.Frag) (f:FZ):TZ:=fun τ H Q=>∃ L σ M ks M',Cor K L M H /\ zA2 L H σ τ /\ f σ M = some (ks,M') /\ ∀ L' H',Stp L H L' H' -> Cor K L' M' H' -> Q ks H'
structure QZ (X:Cx) (e:Expr) (f:FZ):Prop where
 un:PZ X e (trZ X.K f)
theorem PZ.imp (h:PZ X e t) (hi:∀ τ H Q,t' τ H Q -> t τ H Q):PZ X e t':=fun zB s σ H Q I q=>h zB s σ H Q I (hi _ _ _ q)
noncomputable def zHI (own:List Nat) (fi:FI) (g:FG) (tc:FT) (te:FE):FZ:=fun σ M=>match zj own fi g tc te σ M with
 | some (.fl ys,M2)=>match zAC ys with
  | some ks=>if ks.length + 1 < scanBound then some (zAl ks,M2) else none
  | none=>none
 | _=>none
theorem zGJ:∀ {as bs:List D} {zs:List Int},zAC (as ++ bs) = some zs -> ∃ xs ys,zAC as = some xs /\ zAC bs = some ys /\ zs = xs ++ ys
 | [],bs,zs,h=>⟨[],zs,rfl,h,rfl⟩
 | a :: as,bs,zs,h=>by
  cases a with
  | int i=>
   rw [List.cons_append] at h;unfold zAC at h;split at h
   ·rename_i us e;cases h;obtain ⟨xs,ys,e1,e2,e3⟩:=zGJ e;refine ⟨i :: xs,ys,?_,e2,by rw [e3]; rfl⟩;unfold zAC; rw [e1]
   ·cases h
  | _=>cases h
theorem zIf (h:zAC as = some xs):zAC (as ++ [.int i]) = some (xs ++ [i]):=by
 induction as generalizing xs with
 | nil=>cases h; rfl
 | cons a as ih=>
  cases a with
  | int j=>
   unfold zAC at h;split at h
   ·rename_i us e; cases h;rw [List.cons_append]; unfold zAC; rw [ih e]; rfl
   ·cases h
  | _=>cases h
theorem zMU {K:PySem.W.Frag} {own:List Nat} {fi:FI} {g:TG} {fg:FG} {tc:FT} {te:FE} (hg:zDs own g fg) {τ:Sv} {H:Hp} {Q:List Int -> Hp -> Prop} (h:trZ K (zHI own fi fg tc te) τ H Q):zJX own (trI K fi) g (trT K tc) (trD K (toD te)) τ H Q:=by
 obtain ⟨L,σ,M,d,Mf,c,rs,hf,q⟩:=h;unfold zHI zj at hf;cases e1:fi σ M with
 | none=>rw [e1] at hf; cases hf
 | some r=>
  obtain ⟨xs,gd,M1⟩:=r;rw [e1] at hf;dsimp only at hf;by_cases hz:xs.length <= sizeLine
  ·rw [zVK hz] at hf;cases e2:zAV fg tc te (zAp own σ) xs gd xs M1 with
   | none=>rw [e2] at hf; cases hf
   | some r=>
    obtain ⟨zs,M2⟩:=r;rw [e2] at hf;dsimp only at hf;split at hf
    ·rename_i kz ez;split at hf
     ·rename_i hb;cases hf;refine ⟨L,σ,M,_,_,_,c,rs,e1,fun L1 H1 J s1 c1 it=>?_⟩
      refine ⟨fun i m ys H'=>m = xs.length - i /\ i <= xs.length /\ ∃ L' M' as bs ka,Stp L1 H1 L' H' /\ Cor K L' M' H' /\ zAC as = some ka /\ ys = zAl ka /\ zAV fg tc te (zAp own σ) xs gd (xs.drop i) M' = some (bs,Mf) /\ as ++ bs = zs,
       ⟨xs.length,by simp,zVr _,L1,M1,[],zs,[],.refl _ _,c1,rfl,rfl,by simpa using e2,rfl⟩,?_⟩
      rintro i m ys H' ⟨rfl,hi,L',M',as,bs,ka,s',c',r',hl,e',hab⟩;by_cases hlt:i < xs.length
      ·rw [zBi hlt] at e';unfold zAV at e';split at e'
       ·rename_i hgd;obtain ⟨step,_⟩:=it L' H' M' s' c' hgd;obtain ⟨go,yl⟩:=step i xs[i] (zU9 hlt);split at e'
        ·rename_i σ1 eg;refine .inr ⟨go,fun v H2 hy=>?_⟩;obtain ⟨gr,rv⟩:=yl v H2 hy;have s2:Stp L1 H1 L' H2:=s'.yld gr;refine hg (zDO own ((rs.stp s1).stp s2)) (.refl _) rv eg fun τ2 r2 x2=>⟨x2,?_⟩;split at e'
         ·rename_i M3 e3;split at e'
          ·rename_i d M4 e4;split at e'
           ·rename_i ds M5 e5;cases e';refine ⟨L',σ1,M',_,_,c'.grow gr,r2,e3,fun L3 H3 s3 c3=>zEf ?_⟩;refine ⟨L3,σ1,M3,_,_,c3,r2.stp s3,e4,fun L4 H4 w s4 c4 r4=>?_⟩;have st:Stp L' H' L4 H4:=((Stp.grow gr).trans s3).trans s4;have ez':=ez;rw [<- hab] at ez';obtain ⟨x1,y1,g1,g2,g3⟩:=zGJ ez';obtain ⟨k,hk⟩:∃ k,d = .int k:=by
             cases d with
             | int k=>exact ⟨k,rfl⟩
             | _=>cases g2
            subst hk;have ew:w = .int k:=by unfold Rep at r4; exact r4
            have hka:ka.length <= kz.length:=by
             rw [r'] at g1; cases g1;rw [g3,zVL]; omega
            refine ⟨k,ew,?_,xs.length - (i + 1),by omega,rfl,hlt,L4,M4,as ++ [.int k],ds,ka ++ [k],s'.trans st,c4,zIf r',by rw [hl,zIY],e5,by rw [<- hab]; simp⟩;rw [hl];have:=zDx ka;omega
           ·cases e'
          ·cases e'
         ·rename_i M3 e3;refine ⟨L',σ1,M',_,_,c'.grow gr,r2,e3,fun L3 H3 s3 c3=>zEi ?_⟩;have st:Stp L' H' L3 H3:=(Stp.grow gr).trans s3;exact ⟨xs.length - (i + 1),by omega,rfl,hlt,L3,M3,as,bs,ka,s'.trans st,c3,r',hl,e',hab⟩
         ·cases e'
        ·cases e'
       ·cases e'
      ·have hi':i = xs.length:=by omega
       subst hi';rw [List.drop_length] at e';unfold zAV at e';split at e'
       ·rename_i hgd;cases e';obtain ⟨_,stop⟩:=it L' H' _ s' c' hgd;rw [zVp] at hab;subst hab;rw [r'] at ez; cases ez;refine .inl ⟨stop,?_⟩;rw [hl];exact q L' H' (s1.trans s') c'
       ·cases e'
     ·cases hf
    ·cases hf
  ·rw [zVN hz] at hf; cases hf
section
variable {X:Cx} {scope:Scope} {tg elt iter:Expr} {ifs:List Expr} {pos p:Pos} {own:List Nat} {e:Expr} {f:FE}
theorem zSD (hg:zDs own g fg) (C:CompIn X scope own) (hcalm:X.calm = true) (hi:QI X tg iter fi) (p:QParts X scope tg ifs elt g tc te) (hs:∀ x,foldedSetIterable iter X.env x = pure x:=by intro _; rfl) :
  QZ X (.SetComp elt [⟨tg,iter,ifs,0⟩] scope pos) (zHI own fi fg tc te) :=
 .mk <| PZ.imp (zP1 C hcalm hi.un p.parts hs) fun _ _ _ h=>zMU hg h
def zF9 (f:FZ):FE:=fun σ M=>match f σ M with
 | some (ks,M1)=>if ks.length < 64 then some (.fl ((zCn ks).map D.int),M1) else none
 | none=>none
theorem zHG:∀ (ns:List Int),zH L H (ns.map D.int) (ns.map V.int)
 | []=> .nil
 | n :: ns=> .cons z0 (zHG ns)
theorem zQS (hc:X.calm = true) (hg:Gl X "sorted") (hm:X.mg "sorted" = none) (h:QZ X e fz) (hs:starEach [e] X.env = (false,eval e X.env) :: starEach [] X.env:=by rfl) (hpl:(backTo pos (starEach [] X.env)).any (·.1) = false:=by rfl) :
  QE X (.Call (.Name "sorted" p) [e] [] pos) (zF9 fz):=.mk <| PE.imp (zPY hc hg hm h.un hs hpl) fun τ H Q zz=>by
 obtain ⟨L,σ,M,d,M',c,rs,hf,q⟩:=zz;unfold zF9 at hf;split at hf
 ·rename_i ks M1 e1;split at hf
  ·rename_i hb;cases hf;refine ⟨L,σ,M,_,_,c,rs,e1,fun L1 H1 s1 c1=>⟨hb,fun p hp=>?_⟩⟩;exact q L1 _ _ (s1.trans (.upd hp)) (c1.upd hp) (zV.newLst s1 c c1 hp (zHG _))
  ·cases hf
 ·cases hf
end
open AutoSeq1 (wpAny_loadPart')
theorem zSg (hh:A.handled = none) (it l:Addr) (hne:l ≠ it) (items:Array Value) :
  Draws prog w A it [it,l] items.size (fun i v=>items[i]? = some v) (fun i h=>h.IsTupleIter it l i /\ h.IsTuple l items) where
 live:=fun _ _ st=>let ⟨o,ho,_⟩:=st.1; ⟨o,ho⟩;frame:=fun _ _ _ st hk=>⟨let ⟨o,ho,r⟩:=st.1; ⟨o,hk it (by simp) o ho,r⟩,let ⟨o,ho,r⟩:=st.2; ⟨o,hk l (by simp) o ho,r⟩⟩;item:=fun i s Q E hi st hQ=>by
  refine zKP st.1 st.2 (x:=items[i]) (by simp [hi]) fun h' hit' hs'=>?_;exact hQ _ h' s.toks (by simp [hi]) ⟨hit',Tup.but st.2 hs'.extBut hne⟩ hs'
 done:=fun s Q E st hE=>zHH hh st.1 st.2 (by simp) hE
theorem zIg (l:Addr) (items:Array Value) (n:Nat) (dct:Option Addr) (sl:Array (Option Value)) :
  Meets (Builtin.«enumerate.__new__» ⟨[.type "enumerate", .ref l],[]⟩) (fun _ R s=>s.heap.get? l = some { cls:=.type "tuple", dict:=dct,data:=.seq items n,slots:=sl } /\
   R (.ok (.ret (.ref (s.heap.push { cls:=.type "tuple_iterator", data:=.fields #[.ref l,.int 0 0] }).objs.size)))
    { s with heap:=(s.heap.push { cls:=.type "tuple_iterator", data:=.fields #[.ref l,.int 0 0] }).push { cls:=.type "enumerate", data:=.fields #[.none,.bool false,.ref s.heap.objs.size,rawInt 0,.none,.none] } }) :=
 .of_wp fun prog w A R s h=>by
  obtain ⟨hp,g,d,tk,os⟩:=s; obtain ⟨hl,h⟩:=h;have hsub:=sub_enumerate;have hL:Heap.IsTuple (Shared.heap ⟨hp,g,d,tk,os⟩) l items:=⟨_,hl,rfl,n,rfl⟩;wp_walk using wpAny_loadPart' hl;refine wpAny_stack_any fun st=>zU7 ?_;split
  ·rename_i c _ _ _ _ _;cases (c == Value.type "enumerate")
   ·wp_walk using wpAny_loadPart' hl,wpAny_pyIter_tuple hL;exact ⟨_,rfl,h⟩
   ·wp_walk using wpAny_loadPart' hl,wpAny_pyIter_tuple hL;exact ⟨_,rfl,h⟩
  ·wp_walk using wpAny_loadPart' hl,wpAny_pyIter_tuple hL;exact ⟨_,rfl,h⟩
section
variable {prog:Program} {w:World} {A:Around} {E:Value -> Shared -> Prop} {s:Shared}
theorem zJ0 (hL:s.heap.IsTuple l items)
  (h:∀ h',IsEnum h' (s.heap.objs.size + 1) s.heap.objs.size 0 .none -> h'.IsTupleIter s.heap.objs.size l 0 -> (∀ c o,s.heap.get? c = some o -> h'.get? c = some o) -> Q (.ref (s.heap.objs.size + 1)) { s with heap:=h' }) :
  wpAny (model prog w) A (call (.type "enumerate") [.ref l]) Q E s:=by
 obtain ⟨o,ho,hc,n,hd⟩:=hL;obtain ⟨ocls,odict,odata,oslots⟩:=o;simp only at hc hd;subst hc; subst hd;refine callType_new PySem.F.called_enumerate (by decide) (PySem.F.typeCall_enumerate_1 _) (PySem.F.newCall_enumerate_1 _) (fun obj=>PySem.F.args_object_init_2 obj _) PySem.F.entry_enumerate_new (zIg l items n odict oslots) ⟨ho,?_⟩;have q1:(s.heap.push { cls:=.type "tuple_iterator", data:=.fields #[.ref l,.int 0 0] }).objs.size = s.heap.objs.size + 1:=zVl ..;have p2:((s.heap.push { cls:=.type "tuple_iterator", data:=.fields #[.ref l,.int 0 0] }).push { cls:=.type "enumerate", data:=.fields #[.none,.bool false,.ref s.heap.objs.size,rawInt 0,.none,.none] }).get? (s.heap.push { cls:=.type "tuple_iterator", data:=.fields #[.ref l,.int 0 0] }).objs.size = some _:=zVF _ rfl;show _ /\ _;rw [q1] at p2;rw [q1];exact ⟨⟨_,p2,rfl⟩,h _ p2 ⟨_,zU6 _ (zVF _ rfl),rfl,rfl⟩ fun c o x=>zU6 _ (zU6 _ x)⟩
theorem zIj (he:IsEnum s.heap e it i old)
  (hn:∀ (Q':Value -> Shared -> Prop) (E':Value -> Shared -> Prop),(∀ h' x,Heap.ExtBut it s.heap h' -> (∃ o,h'.get? x = some o /\ o.cls = .type "StopIteration") -> E' (.ref x) { s with heap:=h' }) -> wpAny (model prog w) A.in1 (Builtin.SmallTypes.nextOf (.ref it)) Q' E' s)
  (hQ:∀ h',Heap.ExtBut it s.heap h' -> Q none { s with heap:=h' }):wpAny (model prog w) A (pyNext (.ref e)) Q E s:=by
 have hT:s.TypeIs (.ref e) "enumerate" := ⟨_,he,rfl⟩;unfold pyNext
 refine zU5 (zWg (zVh (name:=Str.ofString "__next__") hT PySem.F.slot_enumerate_next
  (zVi PySem.F.slot_enumerate_next hT PySem.F.entry_enumerate_next ?_ (PySem.F.args_enumerate_next_1 _))))
 show wpAny _ _ (field (.ref e) 2 >>= _) _ _ _;refine zU5 (zVk he rfl (x:=.ref it) rfl ?_);refine zU5 (hn _ _ fun h' x he' hx'=>?_);obtain ⟨o,ho,hc⟩:=hx';refine zU5 (wpAny_isInstance (T := "StopIteration") (b:=true) ⟨o,ho,hc⟩ isSubtype_stop ?_);exact zU7 (hQ _ he')
end
def zJN (K:PySem.W.Frag) (isT:Bool) (a:Addr):It :=
 ⟨fun i H=>∃ xs x,(if isT then SqT K H a xs else SqL K H a xs) /\ xs[i]? = some x,
  fun i H v H'=>∃ T x,v = .ref T /\ H T = none /\ H' = upd H T (.tup [.int i,x]) /\ ∀ xs,(if isT then SqT K H a xs else SqL K H a xs) -> xs[i]? = some x,
  fun i H=>∃ xs,(if isT then SqT K H a xs else SqL K H a xs) /\ xs.length <= i⟩
def zQT (isT:Bool) (it a:Addr) (i:Nat) (h:Heap):Prop:=if isT then h.IsTupleIter it a i else h.IsListIter it a i
theorem zMj {P:Program} {w:World} {K:PySem.W.Frag} {es:List Expr} {ek:Nat} {ep:Pos} {isT:Bool} {e it a:Addr} (hei:e ≠ it) (hae:a ≠ e) (hai:a ≠ it) :
  Turn P w K (.Tuple es ek ep) (zJN K isT a) [e,it] e (fun i h=>(∃ old,IsEnum h e it i old) /\ zQT isT it a i h) where
 mem:=by simp
 obj:=fun i h ⟨⟨old,he⟩,st⟩ c hc=>by
  simp only [zVH,zVa,or_false] at hc;rcases hc with rfl | rfl
  ·exact ⟨_,he,fun v m=>by cases m⟩
  ·cases isT with
   | true=>obtain ⟨o1,e1,_,d1⟩:=(show h.IsTupleIter c a i from st); exact ⟨_,e1,fun v m=>by rw [d1] at m; cases m⟩
   | false=>obtain ⟨o1,e1,_,d1⟩:=(show h.IsListIter c a i from st); exact ⟨_,e1,fun v m=>by rw [d1] at m; cases m⟩
 keep:=fun i h h' ⟨⟨old,he⟩,st⟩ k=>by
  refine ⟨⟨old,k e (by simp) _ he⟩,?_⟩;cases isT with
  | true=>obtain ⟨o1,e1,r⟩:=(show h.IsTupleIter it a i from st); exact ⟨o1,k it (by simp) _ e1,r⟩
  | false=>obtain ⟨o1,e1,r⟩:=(show h.IsListIter it a i from st); exact ⟨o1,k it (by simp) _ e1,r⟩
 item:=by
  intro X hP hw hK hc i zB s σ H E I hf Z hg;subst hP hw hK;obtain ⟨⟨old,he⟩,st⟩:=Z;obtain ⟨xs,x,sa,hx⟩:=hg;have hch:∀ c ∈ [e,it],zBt X zB H c:=hf;have elt:e < s.heap.objs.size:=zVG he
  have fin:∀ (its:List Value) (u:Value) (h':Heap) (tk:Nat),zW xs its -> its[i]? = some u -> IsEnumOut h' e it ((i:Int) + 1) u s.heap.objs.size -> zQT isT it a (i + 1) h' -> h'.get? s.heap.objs.size = some { cls:=.type "tuple", data:=.seq #[.int i tk,u] } ->
    (∀ b o,b ≠ e -> b ≠ it -> s.heap.get? b = some o -> h'.get? b = some o) -> it < s.heap.objs.size ->
    ∃ u',some (Value.ref s.heap.objs.size) = some u' /\ wpAny (model X.prog X.w) X.A (letOwnedTupleGo (.Tuple es ek ep) (.ref e) u') (fun _ s2=>∃ x H',Inv X zB σ H' s2 /\ za x u' /\ (zJN X.K isT a).yld i H x H' /\ ((∃ old,IsEnum s2.heap e it ((i + 1:Nat):Int) old) /\ zQT isT it a (i + 1) s2.heap) /\ ∀ b ∈ [e,it],H' b = none) E { s with heap:=h',toks:=tk + 1 }:=by
   intro its u h' tk rv hu ho st' hT hk ilt;refine ⟨_,rfl,wpAny_letOwnedTupleGo_enum ho fun h2 he2 e2=>?_⟩;have kk:∀ c o,c ∉ [e,it] -> s.heap.get? c = some o -> h2.get? c = some o:=fun c o n q=>by
    simp only [zVH,zVa,or_false,not_or] at n;exact e2.extBut _ _ n.1 (hk c o n.1 n.2 q)
   have NT:=e2.extBut _ _ (zWa elt) hT;have hfr:H s.heap.objs.size = none:=I.hok.fresh (zVB _);obtain ⟨u2,hu2,ru⟩:=rv.get hx;rw [hu] at hu2; cases hu2;refine ⟨.ref s.heap.objs.size,upd H s.heap.objs.size (.tup [.int i,x]),zEx (s:=s) (h':=h2) (t':=tk + 1) I hch kk (zVB _) ?_,rfl,⟨_,x,rfl,hfr,rfl,fun ws hw=>?_⟩,⟨⟨u,by simpa using he2⟩,?_⟩,fun c hm=>?_⟩
   ·exact ⟨by show 2 <= sizeLine; decide,[.int i tk,u],.cons ⟨tk,rfl⟩ (.cons ru .nil),⟨_,NT,rfl,⟨_,rfl⟩,rfl⟩⟩
   ·cases isT with
    | true=>rw [I.tuple_inj hw sa]; exact hx
    | false=>rw [I.list_inj hw sa]; exact hx
   ·cases isT with
    | true=>obtain ⟨o1,e1,r⟩:=(show h'.IsTupleIter it a (i + 1) from st'); exact ⟨o1,e2.extBut _ _ hei.symm e1,r⟩
    | false=>obtain ⟨o1,e1,r⟩:=(show h'.IsListIter it a (i + 1) from st'); exact ⟨o1,e2.extBut _ _ hei.symm e1,r⟩
   ·have lt:c < s.heap.objs.size:=by
     simp only [zVH,zVa,or_false] at hm;rcases hm with rfl | rfl
     ·exact elt
     ·exact ilt
    rw [zS (zVQ lt)];exact (hf c hm).1
  have hef:e ∉ [it,a]:=by simp only [zVH,zVa,or_false,not_or]; exact ⟨hei,hae.symm⟩
  cases isT with
  | true=>
   obtain ⟨its,rv,p1,z1⟩:=I.tuple sa;have st':s.heap.IsTupleIter it a i:=st;obtain ⟨o1,e1,_⟩:=id st';refine wpAny_pyNext_enum_itemD (zSg (prog:=X.prog) (w:=X.w) (A:=X.A.in1) (I.ok.hd hc) it a hai its.toArray) he ⟨st',show s.heap.IsTuple a its.toArray from p1⟩ (by have:=rv.length; have:=(zU8.mp hx).1; rw [zVD]; omega) hei hef fun u h' tk hu ho hs hT _ hk=>?_;exact fin its u h' tk rv (by simpa using hu) ho hs.1 hT hk (zVG e1)
  | false=>
   obtain ⟨its,rv,p1,z1⟩:=I.list sa;have st':s.heap.IsListIter it a i:=st;obtain ⟨o1,e1,_⟩:=id st';refine wpAny_pyNext_enum_itemD (Draws.list (prog:=X.prog) (w:=X.w) (A:=X.A.in1) (I.ok.hd hc) it a hai its.toArray) he ⟨st',p1.isList⟩ (by have:=rv.length; have:=(zU8.mp hx).1; rw [zVD]; omega) hei hef fun u h' tk hu ho hs hT _ hk=>?_;exact fin its u h' tk rv (by simpa using hu) ho hs.1 hT hk (zVG e1)
 done:=by
  intro X hP hw hK hc i zB s σ H E I hf Z hg;subst hP hw hK;obtain ⟨⟨old,he⟩,st⟩:=Z;obtain ⟨xs,sa,hz⟩:=hg;have out:∀ h',Heap.ExtBut it s.heap h' -> (none:Option Value) = none /\ Inv X zB σ H { s with heap:=h' }:=fun h' x=>⟨rfl,zGm (s:=s) (h':=h') (t':=s.toks) I hf fun c o n q=>x c o (fun m=>n (by simp [m])) q⟩;cases isT with
  | true=>
   obtain ⟨its,rv,p1,z1⟩:=I.tuple sa;refine zIj he (fun Q' E' hq=>zHH (I.ok.hd hc) (show s.heap.IsTupleIter it a i from st) (show s.heap.IsTuple a its.toArray from p1) (by have:=rv.length; simp; omega) hq) out
  | false=>
   obtain ⟨its,rv,p1,z1⟩:=I.list sa;refine zIj he (fun Q' E' hq=>wpAny_nextOf_list_end (I.ok.hd hc) (show s.heap.IsListIter it a i from st) p1.isList (by have:=rv.length; simp; omega) hq) out
 self:=fun _ _ _ _ _ Z h=>let ⟨⟨_,he⟩,_⟩:=Z; wpAny_pyIter_enum he h
section
variable {X:Cx} {a:Expr} {es:List Expr} {ek:Nat} {ep p pos:Pos}
theorem zPw {te:TE} (hg:Gl X "enumerate") (hm:X.mg "enumerate" = none) (ha:PE X a te) (hs:starEach [a] X.env = (false,eval a X.env) :: starEach [] X.env:=by rfl) (hpl:(backTo pos (starEach [] X.env)).any (·.1) = false:=by rfl) :
  PI X (.Tuple es ek ep) (.Call (.Name "enumerate" p) [a] [] pos) (fun σ H R=>te σ H fun x H1=>∃ l,x = .ref l /\ ((∃ xs,SqT X.K H1 l xs) /\ R (zJN X.K true l) H1 \/ (∃ xs,SqL X.K H1 l xs) /\ R (zJN X.K false l) H1)):=by
 intro zB s σ H R I h;refine wpAny_Call_Name_kw (zEm I hg hm (by rfl) ?_ (by decide) (by decide));refine callWith_type1 ?_ hs hpl;rw [hs];show wpAny _ _ (spliced ((false,eval a X.env) :: backTo pos (starEach [] X.env))) _ _ s;refine Calls.spliced_cons (thn (ha zB s σ H _ I h) fun u s1 ⟨x,H1,I1,r1,l,hx,q⟩=>Calls.spliced_nil ?_);subst hx;cases r1
 have out:∀ (isT:Bool) (h':Heap),l < s1.heap.objs.size -> IsEnum h' (s1.heap.objs.size + 1) s1.heap.objs.size 0 .none -> zQT isT s1.heap.objs.size l 0 h' -> (∀ c o,s1.heap.get? c = some o -> h'.get? c = some o) -> R (zJN X.K isT l) H1 ->
   wpAny (model X.prog X.w) X.A (pyIter (.ref (s1.heap.objs.size + 1))) (PIE X zB σ (.Tuple es ek ep) R) X.xe { s1 with heap:=h' }:=by
  intro isT h' hl he st kp q;refine wpAny_pyIter_enum (s:={ s1 with heap:=h' }) he ?_;refine ⟨s1.heap.objs.size + 1,[s1.heap.objs.size + 1,s1.heap.objs.size],_,_,H1,rfl,I1.kept (t':=s1.toks) kp,zMj (isT:=isT) (zWa (zV2 _)) (zVQ (zVu hl)) (zVQ hl),⟨⟨_,he⟩,st⟩,fun c hc=>?_,q⟩;have ge:s1.heap.objs.size <= c:=by
   simp only [zVH,zVa,or_false] at hc;rcases hc with rfl | rfl
   ·exact zWn _
   ·exact zVB _
  exact I1.fpOk ge (I1.hok.fresh ge)
 rcases q with ⟨⟨xs,hq⟩,q⟩ | ⟨⟨xs,hq⟩,q⟩
 ·obtain ⟨its,rv,p1,_⟩:=I1.tuple hq;have hl:l < s1.heap.objs.size:=by obtain ⟨_,e,_⟩:=p1; exact zVG e
  exact zJ0 (show s1.heap.IsTuple l its.toArray from p1) fun h' he st kp=>out true h' hl he st kp q
 ·obtain ⟨its,rv,p1,_⟩:=I1.list hq;have hl:l < s1.heap.objs.size:=by obtain ⟨_,_,e,_⟩:=p1; exact zVG e
  exact call_enumerate_list p1.isList fun h' he st _ kp=>out false h' hl he st kp q
def zJr (xs:List D):List D:=((List.range xs.length).zip xs).map fun q=>D.tup [.int (q.1:Nat),q.2]
theorem zNL {xs:List D} {i:Nat} {d:D} (h:(zJr xs)[i]? = some d):∃ x,xs[i]? = some x /\ d = .tup [.int (i:Nat),x]:=by
 unfold zJr at h;rw [zVS] at h;cases e:((List.range xs.length).zip xs)[i]? with
 | none=>rw [e] at h; cases h
 | some pr=>
  rw [e] at h;cases h;obtain ⟨f1,f2⟩:=List.getElem?_zip_eq_some.mp e;have hi:i < xs.length:=(zU8.mp f2).1;rw [List.getElem?_range hi] at f1;cases f1;exact ⟨pr.2,f2,rfl⟩
theorem zOX (xs:List D):(zJr xs).length = xs.length:=by unfold zJr; simp
def zIO (f:FE):FI:=fun σ M=>match f σ M with
 | some (x,M1)=>match zAR M1 x with
  | some xs=>some (zJr xs,zDg x xs,M1)
  | none=>none
 | none=>none
theorem zQR {g:FE} (hg:Gl X "enumerate") (hm:X.mg "enumerate" = none) (h:QE X a g) (hs:starEach [a] X.env = (false,eval a X.env) :: starEach [] X.env:=by rfl) (hpl:(backTo pos (starEach [] X.env)).any (·.1) = false:=by rfl) :
  QI X (.Tuple es ek ep) (.Call (.Name "enumerate" p) [a] [] pos) (zIO g):=.mk <| PI.imp (zPw hg hm h.un hs hpl) fun τ H R zz=>by
 obtain ⟨L,σ,M,xs,gd,M',c,rs,hf,q⟩:=zz;unfold zIO at hf;split at hf
 ·rename_i y M1 e1;split at hf
  ·rename_i zs e2;cases hf;refine ⟨L,σ,M,_,_,c,rs,e1,fun L1 H1 v s1 c1 r1=>?_⟩
   have step:∀ (isT:Bool) (l:Addr) (L2:List Addr) (H2:Hp) (vs:List V),(if isT then SqT X.K H2 l vs else SqL X.K H2 l vs) -> zH L2 H2 zs vs ->
     (∀ (i:Nat) d,(zJr zs)[i]? = some d -> (zJN X.K isT l).go i H2 /\ ∀ v H'',(zJN X.K isT l).yld i H2 v H'' -> (∀ a o,H2 a = some o -> H'' a = some o) /\ Rep L2 H'' d v) /\ (zJN X.K isT l).stop (zJr zs).length H2:=by
    intro isT l L2 H2 vs hq r;refine ⟨fun i d hd=>?_,⟨vs,hq,by rw [zOX,r.length]; exact zVB _⟩⟩;obtain ⟨x,hx,rfl⟩:=zNL hd;obtain ⟨u,hu,ru⟩:=r.get hx;refine ⟨⟨vs,u,hq,hu⟩,fun v H3 hy=>?_⟩;obtain ⟨T,x',rfl,hT,rfl,hxx⟩:=hy;have ex:=hxx vs hq;rw [hu] at ex; cases ex;exact ⟨fun a o e=>by rw [zS (zk e hT)]; exact e,Rep.newTup hT (.cons z0 (.cons ru .nil))⟩
   unfold zAR at e2;cases t:zCB y with
   | some ws=>
    rw [t] at e2; cases e2;obtain ⟨a,vs,rfl,e3,r3⟩:=zA5 r1 t;refine ⟨a,rfl,.inl ⟨⟨vs,.of e3⟩,q L1 H1 _ s1 c1 fun L2 H2 M2 s2 c2 _=>?_⟩⟩;exact step true a L2 H2 vs (.of (s2.tup a vs e3)) (r3.stp s2)
   | none=>
    rw [t] at e2;dsimp only at e2;obtain ⟨a,vs,rfl,e3,r3⟩:=zAS c1 r1 e2;refine ⟨a,rfl,.inr ⟨⟨vs,.inl e3⟩,q L1 H1 _ s1 c1 fun L2 H2 M2 s2 c2 hgd=>?_⟩⟩;have key:∃ vs',SqL X.K H2 a vs' /\ zH L2 H2 zs vs':=by
     cases y with
     | fl ys=>
      cases e2;obtain ⟨p',vs',hp',_,e5,e6,r6⟩:=r1;cases hp';exact ⟨vs',.of (s2.old _ _ e5 e6),r6.stp s2⟩
     | dat d=>
      cases d with
      | ref n=>
       unfold zV Rep at r1;obtain ⟨a',ha',e5⟩:=r1;cases ha';have e6:L2[n]? = some a:=by obtain ⟨N,hN⟩:=s2.pre; rw [hN]; exact zA7 e5
       rcases hgd with z | z
       ·obtain ⟨vs',e7,r7⟩:=c2.obj n a _ e6 z; exact ⟨vs',.of e7,r7⟩
       ·obtain ⟨o,vs',e7,r7⟩:=c2.obj n a _ e6 z; exact ⟨vs',.inl (.inr ⟨o,e7⟩),r7⟩
      | _=>cases e2
    obtain ⟨vs',hq,r7⟩:=key;exact step false a L2 H2 vs' hq r7
  ·cases hf
 ·cases hf
end
section
variable {κ:Type} [DecidableEq κ]
def zDc (kf:D -> Option κ) (kvs:List (D × D)) (k:κ):Option D:=(kvs.find? fun p=>decide (kf p.1 = some k)).map (·.2)
def zJd (kf:D -> Option κ) (kvs:List (D × D)) (k:κ) (kd v:D):List (D × D) :=
 if (kvs.any fun p=>decide (kf p.1 = some k)) = true then kvs.map fun p=>if kf p.1 = some k then (p.1,v) else p else kvs ++ [(kd,v)]
theorem zF7 (k:κ):∀ {kvs:List (D × D)} {vs:List (κ × V)},zAZ kf L H kvs vs -> (zDc kf kvs k = none /\ zDX vs k = none) \/ ∃ d v,zDc kf kvs k = some d /\ zDX vs k = some v /\ Rep L H d v
 | [],vs,h=>by unfold zAZ at h; subst h; exact .inl ⟨rfl,rfl⟩
 | p :: r,vs,h=>by
  obtain ⟨k',v,r',rfl,e,h1,h2⟩:=h;by_cases q:k' = k
  ·subst q;exact .inr ⟨p.2,v,by unfold zDc; rw [zWr,e]; simp,by rw [zEI rfl],h1⟩
  ·have e1:zDc kf (p :: r) k = zDc kf r k:=by unfold zDc; rw [zWr,e]; simp [q]
   rw [e1,zEE q];exact zF7 k h2
theorem zIN (k:κ):∀ {kvs:List (D × D)} {vs:List (κ × V)},zAZ kf L H kvs vs -> (kvs.any fun p=>decide (kf p.1 = some k)) = (vs.any fun kv=>decide (kv.1 = k))
 | [],vs,h=>by unfold zAZ at h; subst h; rfl
 | p :: r,vs,h=>by
  obtain ⟨k',v,r',rfl,e,h1,h2⟩:=h;rw [List.any_cons,List.any_cons,zIN k h2,e];simp
theorem zFx (k:κ) (hd:Rep L H d u):∀ {kvs:List (D × D)} {vs:List (κ × V)},zAZ kf L H kvs vs -> zAZ kf L H (kvs.map fun p=>if kf p.1 = some k then (p.1,d) else p) (vs.map fun kv=>if kv.1 = k then (kv.1,u) else kv)
 | [],vs,h=>by unfold zAZ at h; subst h; rfl
 | p :: r,vs,h=>by
  obtain ⟨k',v,r',rfl,e,h1,h2⟩:=h;rw [zVO,zVO];by_cases q:k' = k
  ·subst q;rw [zVK e,zVK rfl];exact ⟨k',u,_,rfl,e,hd,zFx k' hd h2⟩
  ·rw [zVN (by rw [e]; simpa using q),zVN q];exact ⟨k',v,_,rfl,e,h1,zFx k hd h2⟩
theorem zG5 (hk:kf kd = some k) (hd:Rep L H d u):∀ {kvs:List (D × D)} {vs:List (κ × V)},zAZ kf L H kvs vs -> zAZ kf L H (kvs ++ [(kd,d)]) (vs ++ [(k,u)])
 | [],vs,h=>by unfold zAZ at h; subst h; exact ⟨k,u,[],rfl,hk,hd,rfl⟩
 | p :: r,vs,h=>by
  obtain ⟨k',v,r',rfl,e,h1,h2⟩:=h;exact ⟨k',v,_,rfl,e,h1,zG5 hk hd h2⟩
theorem zLU {kf:D -> Option κ} {L:List Addr} {H:Hp} {k:κ} {kd d:D} {u:V} (hk:kf kd = some k) (hd:Rep L H d u) {kvs:List (D × D)} {vs:List (κ × V)} (h:zAZ kf L H kvs vs):zAZ kf L H (zJd kf kvs k kd d) (zCs vs k u):=by
 unfold zJd zCs;rw [zIN k h];split
 ·exact zFx k hd h
 ·exact zG5 hk hd h
end
theorem zIx:∀ {ds:List D} {vs:List V} {ks:List Key},zH L H ds vs -> zCT ds = some ks -> vs = ks.map kV
 | [],vs,ks,h,e=>by cases e; unfold zH at h; exact h
 | d :: ds,vs,ks,h,e=>by
  unfold zH at h;obtain ⟨v,r,rfl,h1,h2⟩:=h;unfold zCT at e;cases e1:zEk d with
  | none=>rw [e1] at e; cases e
  | some k=>
   cases e2:zCT ds with
   | none=>rw [e1,e2] at e; cases e
   | some ks'=>
    rw [e1,e2] at e; cases e;rw [zHw h1 e1,zIx h2 e2]; rfl
theorem zNd (h:Rep L H d v) (e:tkD d = some ks):∃ b,v = .ref b /\ H b = some (.tup (ks.map kV)):=by
 cases d with
 | tup ds=>
  unfold Rep at h;obtain ⟨a,vs,rfl,e1,r⟩:=h;exact ⟨a,rfl,by rw [e1,zIx r e]⟩
 | _=>cases e
def zED (M:Mem) (x:EV) (k:D):Option (Option D):=match x with
 | .dat (.ref n)=>match M[n]? with
  | some (.dict kvs)=>match zEk k with
   | some kk=>some (zDc zEk kvs kk)
   | none=>none
  | some (.dicT kvs)=>match tkD k with
   | some kk=>some (zDc tkD kvs kk)
   | none=>none
  | _=>none
 | _=>none
def zTS (L:List Addr) (H:Hp):Option D -> Option V -> Prop
 | none,o=>o = none
 | some d,o=>∃ v,o = some v /\ Rep L H d v
theorem zCw {K:PySem.W.Frag} {L:List Addr} {M:Mem} {H H0:Hp} {x:EV} {v w:V} {k:D} {o:Option D} (c:Cor K L M H) (rx:zV H0 L H x v) (rk:Rep L H k w) (e:zED M x k = some o):∃ a ov,v = .ref a /\ zCI H a w ov /\ zTS L H o ov:=by
 cases x with
 | fl xs=>cases e
 | dat d=>
  cases d with
  | ref n=>
   unfold zV Rep at rx;obtain ⟨a,rfl,ea⟩:=rx;unfold zED at e;dsimp only at e;cases q:M[n]? with
   | none=>rw [q] at e; cases e
   | some m=>
    rw [q] at e;have z:=c.obj n a m ea q;cases m with
    | dict kvs=>
     dsimp only at e;cases e2:zEk k with
     | none=>rw [e2] at e; cases e
     | some kk=>
      rw [e2] at e;cases e;obtain ⟨vs,e3,r⟩:=z;refine ⟨a,zDX vs kk,rfl,?_,?_⟩
      ·rw [zHw rk e2]; exact zCI.k e3
      ·rcases zF7 kk r with ⟨h1,h2⟩ | ⟨d,v,h1,h2,h3⟩
       ·rw [h1,h2]; rfl
       ·rw [h1,h2]; exact ⟨v,rfl,h3⟩
    | dicT kvs=>
     dsimp only at e;cases e2:tkD k with
     | none=>rw [e2] at e; cases e
     | some kk=>
      rw [e2] at e;cases e;obtain ⟨vs,e3,r⟩:=z;obtain ⟨b,rfl,eb⟩:=zNd rk e2;refine ⟨a,zDX vs kk,rfl,zCI.t e3 eb,?_⟩;rcases zF7 kk r with ⟨h1,h2⟩ | ⟨d,v,h1,h2,h3⟩
      ·rw [h1,h2]; rfl
      ·rw [h1,h2]; exact ⟨v,rfl,h3⟩
    | _=>cases e
  | _=>cases e
def zDY (M:Mem) (n:Nat) (k v:D):Option Mem:=match M[n]? with
 | some (.dict kvs)=>match zEk k with
  | some kk=>if kvs.length < sizeLine then some (M.set n (.dict (zJd zEk kvs kk k v))) else none
  | none=>none
 | some (.dicT kvs)=>match tkD k with
  | some kk=>if kvs.length < sizeLine then some (M.set n (.dicT (zJd tkD kvs kk k v))) else none
  | none=>none
 | _=>none
theorem zIi {K:PySem.W.Frag} {L:List Addr} {M M':Mem} {H:Hp} {n:Nat} {a:Addr} {k v:D} {w u:V} (c:Cor K L M H) (ea:L[n]? = some a) (rk:Rep L H k w) (rv:Rep L H v u) (e:zDY M n k v = some M'):∃ H',zFC H a w u H' /\ Cor K L M' H' /\ Stp L H L H':=by
 unfold zDY at e;cases q:M[n]? with
 | none=>rw [q] at e; cases e
 | some m=>
  rw [q] at e;have z:=c.obj n a m ea q;cases m with
  | dict kvs=>
   dsimp only at e;cases e2:zEk k with
   | none=>rw [e2] at e; cases e
   | some kk=>
    rw [e2] at e;dsimp only at e;split at e
    ·rename_i hl;cases e;obtain ⟨vs,e3,r⟩:=z;obtain ⟨c3,s3⟩:=c.put (m:=.dict (zJd zEk kvs kk k v)) (o':=.dK (zCs vs kk u)) ea e3 (fun _ z=>by cases z) (fun _ _ z=>by cases z) fun s3=>⟨_,zo,(zLU e2 rv r).stp s3⟩;refine ⟨_,?_,c3,s3⟩;rw [zHw rk e2]; exact zFC.k e3 (by rw [r.length]; exact hl)
    ·cases e
  | dicT kvs=>
   dsimp only at e;cases e2:tkD k with
   | none=>rw [e2] at e; cases e
   | some kk=>
    rw [e2] at e;dsimp only at e;split at e
    ·rename_i hl;cases e;obtain ⟨vs,e3,r⟩:=z;obtain ⟨b,rfl,eb⟩:=zNd rk e2;obtain ⟨c3,s3⟩:=c.put (m:=.dicT (zJd tkD kvs kk k v)) (o':=.dT (zCs vs kk u)) ea e3 (fun _ z=>by cases z) (fun _ _ z=>by cases z) fun s3=>⟨_,zo,(zLU e2 rv r).stp s3⟩;exact ⟨_,zFC.t e3 eb (by rw [r.length]; exact hl),c3,s3⟩
    ·cases e
  | _=>cases e
section
variable {X:Cx} {a b e o i value:Expr} {pos pos' apos cpos:Pos} {f g h:FE}
def zAF:K2:=fun x y M=>match y with
 | .dat k=>match zED M x k with
  | some (some d)=>some (.dat d,M)
  | _=>none
 | _=>none
theorem zO7 {K:PySem.W.Frag}:zA3 K (fun x y H Q=>∃ a v,x = .ref a /\ zCI H a y (some v) /\ Q v H) zAF:=by
 intro L M M' H H0 x y d v w Q c rx ry hk q;unfold zAF at hk;split at hk
 ·rename_i k;split at hk
  ·rename_i d' e1;cases hk;obtain ⟨a,ov,rfl,h1,h2⟩:=zCw c rx ry e1;obtain ⟨u,rfl,r⟩:=h2;exact ⟨a,u,rfl,h1,q L H u (.refl L H) c r⟩
  ·cases hk
 ·cases hk
theorem zTF (hu:X.A.units + 1 < cLine) (h1:QE X o f) (h2:QE X i g) (hs:zSf i:=by intro _ _; rfl):QE X (.Subscript o i pos) (fOp zAF f g):=.mk <| PE.imp (zQ9 hu h1.un h2.un hs) fun _ _ _ h=>zCZ zO7 h
def zCN (neg:Bool):K2:=fun x y M=>match x with
  | .dat k=>match zED M y k with
    | some o=>some (.dat (.bl (if neg then !o.isSome else o.isSome)),M)
    | none=>none
  | _=>none
theorem zJT {o:Option D} {ov:Option V} (h:zTS L H o ov):ov.isSome = o.isSome:=by
  cases o with
  | none => have h' : ov = none := h
            rw [h']; rfl
  | some d=>obtain ⟨v,rfl,_⟩:=h; rfl
theorem zQ5 {K:PySem.W.Frag}:zA3 K (fun y x H Q=>∃ a o,x = .ref a /\ zCI H a y o /\ Q (.bl o.isSome) H) (zCN false):=by
 intro L M M' H H0 x y d v w Q c rx ry hk q;unfold zCN at hk;split at hk
 ·rename_i k;split at hk
  ·rename_i o e1;cases hk;obtain ⟨a,ov,rfl,h1,h2⟩:=zCw c ry rx e1;refine ⟨a,ov,rfl,h1,?_⟩;rw [zJT h2];exact q L H _ (.refl L H) c (zAc (L:=L) (H:=H))
  ·cases hk
 ·cases hk
theorem zKp {K:PySem.W.Frag}:zA3 K (fun y x H Q=>∃ a o,x = .ref a /\ zCI H a y o /\ Q (.bl (!o.isSome)) H) (zCN true):=by
 intro L M M' H H0 x y d v w Q c rx ry hk q;unfold zCN at hk;split at hk
 ·rename_i k;split at hk
  ·rename_i o e1;cases hk;obtain ⟨a,ov,rfl,h1,h2⟩:=zCw c ry rx e1;refine ⟨a,ov,rfl,h1,?_⟩;rw [zJT h2];exact q L H _ (.refl L H) c (zAc (L:=L) (H:=H))
  ·cases hk
 ·cases hk
theorem zTG (hu:X.A.units + 1 < cLine) (h1:QE X a f) (h2:QE X b g) (hm:behindInMarks .In b = false:=by rfl):QT X (.Compare a [.In] [b] pos) (tst (fOp (zCN false) f g)):=.mk <| PT.imp (zPG (zRl hu h1.un h2.un) hm) fun _ _ _ h=>zDn (fun _ _ _ z=>zCZ zQ5 z) (zDQ h)
theorem zM1 (hu:X.A.units + 1 < cLine) (h1:QE X a f) (h2:QE X b g) (hm:behindInMarks .NotIn b = false:=by rfl):QT X (.Compare a [.NotIn] [b] pos) (tst (fOp (zCN true) f g)):=.mk <| PT.imp (zPG (zLq hu h1.un h2.un) hm) fun _ _ _ h=>zDn (fun _ _ _ z=>zCZ zKp z) (zDQ h)
def zBT (fv fo fi:FE):FS:=fun σ M=>match toD fv σ M with
 | some (v,M1)=>match toD fo σ M1 with
  | some (.ref n,M2)=>match toD fi σ M2 with
   | some (k,M3)=>match zDY M3 n k v with
    | some M4=>some (.nx,σ,M4)
    | none=>none
   | none=>none
  | _=>none
 | none=>none
theorem zRi (hu:X.A.units + 1 < cLine) (hv:QE X value f) (ho:QE X o g) (hi:QE X i h) (hs:swapsWith value (some (.Subscript o i pos')) pos.line X.env = pure false:=by rfl):QS X (.Assign [.Subscript o i pos'] value pos) (zBT f g h) :=
 .mk <| PS.imp (zQi hu (zBb ho).un (zBb hi).un (zBb hv).un hs) fun E τ H zz=>by
  obtain ⟨L,σ,M,out,σ',M',c,rs,hf,q⟩:=zz;unfold zBT at hf;split at hf
  ·rename_i v M1 e1;split at hf
   ·rename_i n M2 e2;split at hf
    ·rename_i k M3 e3;split at hf
     ·rename_i M4 e4;cases hf;refine ⟨L,σ,M,_,_,c,rs,e1,fun L1 H1 u s1 c1 r1=>⟨L1,σ,M1,_,_,c1,rs.stp s1,e2,fun L2 H2 y s2 c2 r2=>⟨L2,σ,M2,_,_,c2,(rs.stp s1).stp s2,e3,fun L3 H3 z s3 c3 r3=>?_⟩⟩⟩;unfold Rep at r2;obtain ⟨a,rfl,ea⟩:=r2;have ea3:L3[n]? = some a:=by obtain ⟨N,hN⟩:=s3.pre; rw [hN]; exact zA7 ea
      obtain ⟨H4,h1,h2,h3⟩:=zIi c3 ea3 r3 ((r1.stp s2).stp s3) e4;exact ⟨a,H4,rfl,h1,q L3 H4 (((s1.trans s2).trans s3).trans h3) h2 τ ((((rs.stp s1).stp s2).stp s3).stp h3)⟩
     ·cases hf
    ·cases hf
   ·cases hf
  ·cases hf
def zBI (fo fi fx:FE):FE:=fun σ M=>match toD fo σ M with
 | some (.ref n,M1)=>match M1[n]? with
  | some (.dict _) | some (.dicT _)=>match toD fi σ M1 with
   | some (k,M2)=>match toD fx σ M2 with
    | some (x,M3)=>match zED M3 (.dat (.ref n)) k with
     | some o=>some (.dat (o.getD x),M3)
     | none=>none
    | none=>none
   | none=>none
  | _=>none
 | _=>none
theorem zQ4 (hu:X.A.units + 1 < cLine) (ho:QE X o f) (hi:QE X i g) (hx:QE X e h) (m:M2 X o "get" apos i e cpos):QE X (.Call (.Attribute o "get" apos) [i,e] [] cpos) (zBI f g h) :=
 .mk <| PE.imp (zOm hu (zBb ho).un (zBb hi).un (zBb hx).un m) fun τ H Q zz=>by
  obtain ⟨L,σ,M,d,M',c,rs,hf,q⟩:=zz
  have key:∀ n M1,toD f σ M = some (.ref n,M1) -> (∃ kvs,M1[n]? = some (.dict kvs) \/ M1[n]? = some (.dicT kvs)) -> (match toD g σ M1 with
   | some (k,M2)=>match toD h σ M2 with
    | some (x,M3)=>match zED M3 (.dat (.ref n)) k with
     | some o=>some (EV.dat (o.getD x),M3)
     | none=>none
    | none=>none
   | none=>none) = some (d,M') -> zPB (trD X.K (toD f)) (trD X.K (toD g)) (trD X.K (toD h)) τ H Q:=by
   intro n M1 e1 hd hf;split at hf
   ·rename_i k M2 e2;split at hf
    ·rename_i x M3 e3;split at hf
     ·rename_i ov e4;cases hf;refine ⟨L,σ,M,_,_,c,rs,e1,fun L1 H1 u s1 c1 r1=>?_⟩;unfold Rep at r1;obtain ⟨a,rfl,ea⟩:=r1;refine ⟨a,rfl,?_,L1,σ,M1,_,_,c1,rs.stp s1,e2,fun L2 H2 y s2 c2 r2=>⟨L2,σ,M2,_,_,c2,(rs.stp s1).stp s2,e3,fun L3 H3 z s3 c3 r3=>?_⟩⟩
      ·obtain ⟨kvs,hk | hk⟩:=hd
       ·obtain ⟨vs,e5,_⟩:=c1.obj n a _ ea hk; exact .inl ⟨vs,.inl e5⟩
       ·obtain ⟨vs,e5,_⟩:=c1.obj n a _ ea hk; exact .inr ⟨vs,.inl e5⟩
      ·have ra:zV H L3 H3 (.dat (.ref n)) (.ref a):=by
        unfold zV Rep;exact ⟨a,rfl,by obtain ⟨N,hN⟩:=(s2.trans s3).pre; rw [hN]; exact zA7 ea⟩
       obtain ⟨a',o',e6,h1,h2⟩:=zCw c3 ra (r2.stp s3) e4;cases e6;refine ⟨o',h1,?_⟩;cases ov with
       | none=>
        have h':o' = none:=h2;subst h';exact q L3 H3 _ ((s1.trans s2).trans s3) c3 r3
       | some dd=>
        obtain ⟨v,rfl,rv⟩:=h2;exact q L3 H3 _ ((s1.trans s2).trans s3) c3 rv
     ·cases hf
    ·cases hf
   ·cases hf
  unfold zBI at hf;split at hf
  ·rename_i n M1 e1;split at hf
   ·rename_i kvs e5; exact key n M1 e1 ⟨kvs,.inl e5⟩ hf
   ·rename_i kvs e5; exact key n M1 e1 ⟨kvs,.inr e5⟩ hf
   ·cases hf
  ·cases hf
end
end L3
namespace L2
open PySem PySem.Spec PyProof.Rows
section
variable {prog:Program} {w:World} {A:Around} {R:Result -> Shared -> Prop} {s:Shared}
theorem zCR {kx vx target iter ifs rest scope pos it acc env}
  (h0:codeAny (model prog w) A (.compLoop (.DictComp kx vx (⟨target,iter,ifs,0⟩ :: rest) scope pos) 0 it acc env) R s)
  (h:wpAny (model prog w) A (pyIter it) (fun it' s'=>codeAny (model prog w) A (.compLoop (.DictComp kx vx (⟨target,iter,ifs,0⟩ :: rest) scope pos) 0 it' acc env) R s')
   (notedBy (model prog w) A env fun x s'=>R (.error x) s') s) :
  codeAny (model prog w) A (.compStart (.DictComp kx vx (⟨target,iter,ifs,0⟩ :: rest) scope pos) 0 it acc env) R s:=by
 refine codeAny_of_tree ?_;show wpAny _ _ ((compStart (.DictComp kx vx (⟨target,iter,ifs,0⟩ :: rest) scope pos) 0 it acc env).onRaise (fun x=>do noteFrame x env; standAt theWindowsPlace)) _ _ s;refine wpAny_notedAt ?_;unfold compStart;show wpAny _ _ (ask >>= _) _ _ s;refine zU5 (wpAny_askSetting (wpAny_ite ?_));split
 ·first
   | exact zU5 (zU7 (zU7 (And.intro rfl h0)))
   | exact zU7 (And.intro rfl h0)
 ·first
   | exact zU5 (wpAny_rule (zU5 (zV3 (zU5 (zVb h (fun it' s' h'=>zU7 (And.intro rfl h')) fun _ _ x=>x)))))
   | (refine zU5 (wpAny_rule ?_); show wpAny _ _ (standAt iter.pos >>= _) _ _ s; exact zU5 (zV3 (zU5 (zVb h (fun it' s' h'=>zU7 (And.intro rfl h')) fun _ _ x=>x))))
end
section
variable {X:Cx} {zB:List (Addr × Obj)} {σ:St} {H:Hp} {s:Shared}
theorem Inv.trackAt (I:Inv X zB σ H s) (ho:s.heap.get? D = some o) (hn:H D = none) (h0:X.s₀.heap.objs.size <= D) (hL:D ≠ X.env.locals) (hc:∀ x c,X.env.cells.lookup x = some c -> c ≠ D) (hp:∀ p ∈ X.pn ++ zB,p.1 ≠ D)
  (new:zl X.prog X.w (upd H D u) s.heap D u):Inv X zB σ (upd H D u) s:=by
 have un:∀ b v,H b = some v -> upd H D u b = some v:=fun b v e=>by rw [zS (zk e hn)]; exact e
 have e0:s = { s with heap:=s.heap,gens:=s.gens,drawn:=s.drawn,toks:=s.toks }:=by cases s; rfl
 rw [e0];refine I.step (g':=s.gens) (d':=s.drawn) (ch:=[D]) (fun b hb=>?_) (fun b v _ _ _ e _=>e) (fun b v _ _ _ e _=>⟨v.slots,e⟩) (fun b v hb e n=>?_) (fun b v _ e=>⟨v,e⟩) (fun b xs e=>un b _ e) (fun b p v e=>un b _ e) (fun b ps e=>⟨#[],by rw [un b _ e]; simp⟩) (fun m hm=>hm) (fun b v e=>?_) I.bare
 ·have:b = D:=by simpa using hb
  subst this;exact ⟨.inr h0,hL,hc,hp⟩
 ·rw [zS (fun z=>hb (by simp [z]))]; exact n
 ·by_cases hb:b = D
  ·subst hb; rw [zo] at e; cases e; exact new
  ·rw [zS hb] at e;exact (I.hok b v e).stay (fun c v hc q=>q) (fun c q=>un c _ q) fun c xs q=>un c _ q
theorem zL4 (hu:A.units + 1 < cLine) (I:Inv X zB σ H s) (g:zFC H a y v H') (ry:za y u) (rv:za v r) (h:∀ s',Inv X zB σ H' s' -> Heap.SameBut a s.heap s'.heap -> Q () s') :
  wpAny (model X.prog X.w) A (dictSet a u r) Q E s:=by
 rcases g with ⟨kvs,k,e,ey,l,eH⟩ | ⟨kvs,k,b,e,ey,eb,l,eH⟩
 ·subst ey eH;obtain ⟨z,hd,vs,rel,dd⟩:=zRL I.hok e;have hz:vs.length <= sizeLine:=by rw [<- rel.length]; exact z
  have hl:(zCs kvs k v).length <= sizeLine:=by have:=zB7 kvs k v; omega
  refine wpAny_dictSet_pairs (hsz:=hz) (zE2 ry) dd fun h' dd' hs=>h _ ?_ hs;have he:∃ q,h'.get? a = some q:=let ⟨q,_,_,hq,_⟩:=dd'; ⟨q,hq⟩;exact zEG I (by rw [e]; exact True.intro) hs he (zN1 hl hd (rel.put k rv) dd')
 ·subst ey eH;cases (show u = Value.ref b from ry);obtain ⟨z,hd,xs,rel,dd⟩:=zRd I.hok e;have hz:xs.length <= sizeLine:=by rw [<- Paired.length rel]; exact z
  have hl:(zCs kvs k v).length <= sizeLine:=by have:=zB7 kvs k v; omega
  refine wpAny_dictSet_heap (hsz:=hz) (show (tupleKind (zi X.prog X.w)).room A from Nat.lt_of_succ_lt hu) (zC4 I.hok eb) dd fun h' dd' hs=>h _ ?_ hs;obtain ⟨q,es,ep,hq,h2,h3,h4,_,h5⟩:=dd';refine zEG I (by rw [e]; exact True.intro) hs ⟨q,hq⟩ ⟨hl,hd,_,(rel.put k eb rv).keeps fun c ys ec=>?_,q,es,ep,hq,h2,h3,h4,h5⟩;rw [zS (zFh ec e (fun z=>nomatch z))];exact ec
end
def zD4 (isT:Bool):HO:=if isT then .dT [] else .dK []
abbrev zBe:Obj:={ cls:=.type "dict", data:=.dict #[] }
section
variable {X:Cx} {zB:List (Addr × Obj)} {σ:St} {H:Hp} {s:Shared} {scope:Scope} {cl:List (Str × Addr)} {fp:List Addr} {it:Addr} {tn:Nat -> Heap -> Prop} {J:It} {tg kx vx iter:Expr} {ifs:List Expr} {pos:Pos}
 {own:List Nat} {g:TG} {tc:TT} {tk tv:TE} {E:Value -> Shared -> Prop} {isT:Bool}
theorem zCl (hu:X.A.units + 1 < cLine) (C:CompIn X scope own) (hcalm:X.calm = true) (I:Inv X zB σ H s) (T:Turn X.prog X.w X.K tg J fp it tn) (st:tn 0 s.heap) (hf:∀ b ∈ fp,zBt X zB H b)
  (c1:∀ x c,cl.lookup x = some c -> X.env.cells.lookup x = some c) (c2:∀ y ∈ scope.names,y.2 = .free -> (cl.lookup y.1).isSome = true)
  (hg:PG (zG X zB scope cl s H fp) tg g) (hi:zE7 (zG X zB scope cl s H fp) ifs tc) (hk:PE (zG X zB scope cl s H fp) kx tk) (hv:PE (zG X zB scope cl s H fp) vx tv)
  {RR:Value -> Addr -> Result -> Shared -> Prop} {QQ:Hp -> Prop} {W:Nat -> Nat -> Hp -> Prop} {m0:Nat} (w0:W 0 m0 (upd H s.heap.objs.size (zD4 isT)))
  (turn:∀ i m H,W i m H -> (J.stop i H /\ QQ H) \/
   (J.go i H /\ ∀ x H',J.yld i H x H' -> g x (clr own σ) H' fun σ2 H2=>Ext (clr own σ) σ2 /\ tc σ2 H2 fun b H3=>
    if b = true then tk σ2 H3 fun k H4=>tv σ2 H4 fun v H5=>∃ H6 m',zFC H5 s.heap.objs.size k v H6 /\ m' < m /\ W (i + 1) m' H6 else ∃ m',m' < m /\ W (i + 1) m' H3))
  (fin:∀ σc H' s',Inv (zG X zB scope cl s H fp) [] σc H' s' -> QQ H' -> RR (.ref s.heap.objs.size) (s.heap.objs.size + 1) (.ok .next) s') :
  wpAny (model X.prog X.w) X.A newDict (fun acc s₃=>wpAny (model X.prog X.w) X.A (newFunctionEnv scope X.env.globals cl [] X.env.qual none .none (some X.env)) (fun cenv s₄=>
   codeAny (model X.prog X.w) X.A (.compStart (.DictComp kx vx [⟨tg,iter,ifs,0⟩] scope pos) 0 (.ref it) acc { cenv with scope:=relabel scope X.env }) (RR acc cenv.locals) s₄) E s₃) E s:=by
 have ob:∀ b:Nat,b ∈ fp -> b < s.heap.objs.size:=fun b hb=>let ⟨_,e,_⟩:=T.obj 0 _ st b hb; zVG e;show wpAny _ _ (newObj (.type "dict") (.dict #[])) _ _ _;refine zVY (zB4 ?_);have sz1:(s.heap.push zBe).objs.size = s.heap.objs.size + 1:=zVl ..;have I4:=zEL (X:=X) (zB:=zB) (σ:=σ) (σc:=clr own σ) (H:=H) (s:=s) (scope:=scope) (cl:=cl) (fp:=fp) C.sc I hf ob c1 c2 (zAv own σ) (fun i x v h1 h2 h3=>by
  obtain ⟨a,b⟩:=zCD own σ i v h2;rcases C.nm i x h1 with z | z | z
  ·exact absurd z b
  ·exact absurd (zBf x z) h3
  ·exact ⟨z,a⟩) zBe (by intro v z; cases z) rfl rfl
 have st4:tn 0 (pushCells ((s.heap.push zBe).push { cls:=.type "dict", data:=.dict #[] }) scope.names):=T.keep 0 _ _ st fun b _ o e=>pushCells_keeps _ _ b o (zU6 _ (zU6 _ e));dsimp only;unfold newEnv;dsimp only;rw [sz1];have hDfp:s.heap.objs.size ∉ fp:=fun z=>zVn _ (ob _ z);obtain ⟨pD,nD,neD,nfD,dD⟩:=I4.pin (s.heap.objs.size,zBe) (by simp);have hcD:∀ x c,(zG X zB scope cl s H fp).env.cells.lookup x = some c -> c ≠ s.heap.objs.size:=fun x c e z=>by
  obtain ⟨v,o,ho,hd⟩:=I4.cell x c e;rw [z,pD] at ho;cases ho; cases hd
 have hpn:∀ p ∈ (zG X zB scope cl s H fp).pn ++ [],p.1 ≠ s.heap.objs.size:=fun p hp=>by
  rw [zVp] at hp;have hp':p ∈ X.pn ++ zB:=hp;exact zVQ (zVG (I.pin p hp').1)
 have big:sysModules < s.heap.objs.size:=I.big;have hsm:(s.heap.objs.size == sysModules) = false:=by rw [beq_eq_false_iff_ne]; exact zWa big
 have I5:Inv (zG X zB scope cl s H fp) [] (clr own σ) (upd H s.heap.objs.size (zD4 isT)) { s with heap:=pushCells ((s.heap.push zBe).push { cls:=.type "dict", data:=.dict #[] }) scope.names }:=by
  have I4':Inv (zG X zB scope cl s H fp) [] (clr own σ) H { s with heap:=pushCells ((s.heap.push zBe).push { cls:=.type "dict", data:=.dict #[] }) scope.names }:=I4.pins_of fun p hp=>nomatch hp;refine I4'.trackAt pD nD (zVB _) neD hcD hpn ?_;cases isT with
  | false=>exact ⟨zVr _,hsm,[],.nil,zBe,#[],0,pD,⟨rfl,rfl,rfl⟩,rfl,fun _ he=>by simp at he,.nil,List.nodup_nil⟩
  | true=>exact ⟨zVr _,hsm,[],.nil,zBe,#[],0,pD,⟨rfl,rfl,rfl⟩,rfl,rfl,List.nodup_nil⟩
 have fpk:∀ {H':Hp},(∀ b ∈ fp,H' b = none) -> ∀ b ∈ fp,zBt (zG X zB scope cl s H fp) [] H' b:=fun {H'} hn b hb=>
  ⟨hn b hb,(I4.ok.exf b hb).1,I4.ok.exfs b hb,.inl hb,(I4.ok.exf b hb).2,fun p hq=>by
   rw [zVp] at hq;exact (hf b hb).2.2.2.2.2 p hq⟩
 have loop:codeAny (model X.prog X.w) X.A (.compLoop (.DictComp kx vx [⟨tg,iter,ifs,0⟩] scope pos) 0 (.ref it) (.ref s.heap.objs.size) (zG X zB scope cl s H fp).env) (RR (.ref s.heap.objs.size) (s.heap.objs.size + 1))
   { s with heap:=pushCells ((s.heap.push zBe).push { cls:=.type "dict", data:=.dict #[] }) scope.names }:=by
  refine zGe (fun n s'=>∃ i H',Inv (zG X zB scope cl s H fp) [] (clr own σ) H' s' /\ tn i s'.heap /\ (∀ b ∈ fp,H' b = none) /\ W i n H') ?_ m0
   ⟨0,_,I5,st4,fun b hb=>by rw [zS (show b ≠ s.heap.objs.size from fun z=>hDfp (by rw [<- z]; exact hb))]; exact (hf b hb).1,w0⟩
  rintro n s5 ⟨i,H5,J5,st5,f5,w5⟩;rcases turn i n H5 w5 with ⟨stop,qq⟩ | ⟨go,step⟩
  ·refine thn (T.done (zG X zB scope cl s H fp) rfl rfl rfl hcalm i _ s5 _ H5 _ J5 (fpk f5) st5 stop) fun r s6 ⟨hr,I6⟩=>?_;subst hr;exact fin _ H5 s6 I6 qq
  ·refine thn (T.item (zG X zB scope cl s H fp) rfl rfl rfl hcalm i _ s5 _ H5 _ J5 (fpk f5) st5 go) fun r s6 ⟨u,hr,h6⟩=>?_;subst hr;refine thn h6 fun _ s7 ⟨x,H7,I7,r7,y7,st7,f7⟩=>?_;have I7':=I7.pinned (fpk f7) (T.obj _ _ st7);refine thn (hg _ s7 _ H7 x u _ I7' r7 (step x H7 y7)) fun _ s8 ⟨σ8,H8,I8,x8,q8⟩=>?_;refine thn (hi _ s8 σ8 H8 _ I8 q8) fun ok s9 ⟨H9,I9,q9⟩=>?_;have back:∀ {s':Shared} {Hx:Hp},Inv (zG X zB scope cl s H fp) ([] ++ zCH fp s7.heap) σ8 Hx s' -> tn (i + 1) s'.heap /\ ∀ b ∈ fp,Hx b = none:=fun {s' Hx} Ix=>
    ⟨T.keep _ _ _ st7 fun b hb o e=>(Ix.pin (b,o) (zVP _ (zVP _ (zt hb e)))).1,fun b hb=>by
     obtain ⟨o,e,d⟩:=T.obj _ _ st7 b hb;exact (Ix.pin (b,o) (zVP _ (zVP _ (zt hb e)))).2.1⟩
   cases ok with
   | false=>
    obtain ⟨m',hm,w'⟩:=q9;obtain ⟨b1,b2⟩:=back I9;exact ⟨m',hm,i + 1,H9,(I9.weak (by rw [x8.1]) x8.2).unpinned,b1,b2,w'⟩
   | true=>
    refine thn (hk _ s9 σ8 H9 _ I9 q9) fun kv s10 ⟨y,H10,I10,r10,q10⟩=>?_;refine thn (hv _ s10 σ8 H10 _ I10 q10) fun vv s11 ⟨z,H11,I11,r11,H12,m',hp,hm,w'⟩=>?_;refine zL4 (X:=zG X zB scope cl s H fp) hu I11 hp r10 r11 fun s12 I12 hs=>?_;obtain ⟨b1,b2⟩:=back I12;exact ⟨m',hm,i + 1,H12,(I12.weak (by rw [x8.1]) x8.2).unpinned,b1,b2,w'⟩
 exact zCR loop (T.self _ 0 _ _ _ st4 loop)
theorem zDa (I:Inv X zB σ H s) (hf:∀ b ∈ fp,zBt X zB H b)
  (Ic:Inv (zG X zB scope cl s H fp) [] σc H' s') (hs:Heap.SameBut (s.heap.objs.size + 1) s'.heap h'):Inv X zB σ H' { s' with heap:=h' }:=by
 have nC:H' (s.heap.objs.size + 1) = none:=Ic.free;have lt1:∀ {b:Addr} {o:Obj},s.heap.get? b = some o -> b ≠ s.heap.objs.size + 1:=fun e=>zVQ (zVu (zVG e));have tr:∀ b u,H' b = some u -> b ≠ s.heap.objs.size + 1:=fun b u e z=>by rw [z,nC] at e; cases e
 have B:=Ic.base;have un:Un (frs X.stack) fp H H' s.heap h':=by
  refine ⟨fun b o e q hb hx=>hs.extBut b o (lt1 e) (B.keep b o e q hb hx),fun b o e q hb hx=>?_,fun b o e q hx=>B.free b o e q hx,fun b o e hx=>?_,fun b xs e=>B.tups b xs e,fun b o xs e=>B.frzs b o xs e,fun b ps e=>B.tbls b ps e⟩
  ·obtain ⟨sl,e1⟩:=B.slot b o e q hb hx;exact ⟨sl,hs.extBut b _ (lt1 e) e1⟩
  ·obtain ⟨o',e1⟩:=B.there b o e hx;exact ⟨o',hs.extBut b _ (lt1 e) e1⟩
 have hok:HOk X.prog X.w H' h':=fun b u e=>by
  refine (Ic.hok b u e).stay (fun c v hc q=>hs.extBut c v ?_ q) (fun c q=>q) fun c xs q=>q;rcases hc with z | z
  ·rw [z]; exact tr b u e
  ·exact tr c _ z
 exact I.call' (s':={ s' with heap:=h' }) (ch:=fp) Ic.os un hok Ic.bare fun b hb=>⟨(hf b hb).2.2.2.1,(hf b hb).2.1,(hf b hb).2.2.2.2.1,(hf b hb).2.2.2.2.2⟩
end
def zES (isT:Bool) (own:List Nat) (wi:TI) (g:TG) (tc:TT) (tk tv:TE):TE:=fun σ H Q=>wi σ H fun J H1=>∀ D,H1 D = none -> ∃ W:Nat -> Nat -> Hp -> Prop,(∃ m,W 0 m (upd H1 D (zD4 isT))) /\ ∀ i m H,W i m H ->
 (J.stop i H /\ Q (.ref D) H) \/
 (J.go i H /\ ∀ x H',J.yld i H x H' -> g x (clr own σ) H' fun σ2 H2=>Ext (clr own σ) σ2 /\ tc σ2 H2 fun b H3=>
  if b = true then tk σ2 H3 fun k H4=>tv σ2 H4 fun v H5=>∃ H6 m',zFC H5 D k v H6 /\ m' < m /\ W (i + 1) m' H6 else ∃ m',m' < m /\ W (i + 1) m' H3)
section
variable {X:Cx} {scope:Scope} {tg kx vx iter:Expr} {ifs:List Expr} {pos:Pos} {own:List Nat} {wi:TI} {g:TG} {tc:TT} {tk tv:TE} {isT:Bool}
theorem zI9 (hu:X.A.units + 1 < cLine) (C:CompIn X scope own) (hcalm:X.calm = true) (hi:PI X tg iter wi) (p:CompParts X scope tg ifs kx g tc tk) (p2:∀ zB cl s H fp,PE (zG X zB scope cl s H fp) vx tv) (hs:∀ x,foldedSetIterable iter X.env x = pure x:=by intro _; rfl) :
  PE X (.DictComp kx vx [⟨tg,iter,ifs,0⟩] scope pos) (zES isT own wi g tc tk tv):=by
 intro zB s σ H Q I h;obtain ⟨cl,hcl,c1,c2⟩:=C.sc.closure I;rw [arm_eval_DictComp];refine zWz (use:=none) rfl hs hcl C.sc.kind C.sc.names (thn (hi zB s σ H _ I h) fun v s1 h1=>thn h1 fun itv s2 h2=>?_);obtain ⟨it,fp,tn,J,H2,e,I2,T,st2,f2,hD⟩:=h2;subst e;obtain ⟨W,⟨m0,w0⟩,turn⟩:=hD s2.heap.objs.size (I2.hok.fresh (zVB _));refine zCl hu C hcalm I2 T st2 f2 c1 c2 (p.g _ _ _ _ _) (p.c _ _ _ _ _) (p.e _ _ _ _ _) (p2 _ _ _ _ _) (RR:=fun acc C r s'=>compPost (model X.prog X.w) X.A X.xe none (EP X zB σ Q) acc C r s') (QQ:=fun H=>Q (.ref s2.heap.objs.size) H) w0 turn ?_;intro σc H' s' Ic qq;obtain ⟨m,hn,_⟩:=Ic.loc;refine ⟨m,hn,fun h' hs'=>?_⟩;exact ⟨.ref s2.heap.objs.size,_,zDa I2 f2 Ic hs',rfl,qq⟩
end
end L2
namespace L3
open PySem PySem.Spec PyProof.Rows L2
def zHW (isT:Bool):MO:=if isT then .dicT [] else .dict []
noncomputable def zBp (g:FG) (tc:FT) (tk tv:FE) (σ:Sd) (n:Nat) (all:List D) (gd:Option (Mem -> Prop)):List D -> Mem -> Option Mem
 | [],M=>open Classical in if zAX gd all M then some M else none
 | x :: r,M=>open Classical in if zAX gd all M then match g x σ with
   | some σ1=>match tc σ1 M with
    | some (true,M1)=>match toD tk σ1 M1 with
     | some (k,M2)=>match toD tv σ1 M2 with
      | some (v,M3)=>match zDY M3 n k v with
       | some M4=>zBp g tc tk tv σ n all gd r M4
       | none=>none
      | none=>none
     | none=>none
    | some (false,M1)=>zBp g tc tk tv σ n all gd r M1
    | none=>none
   | none=>none
  else none
noncomputable def zCJ (isT:Bool) (own:List Nat) (fi:FI) (g:FG) (tc:FT) (tk tv:FE):FE:=fun σ M=>match fi σ M with
 | some (xs,gd,M1)=>match zBp g tc tk tv (zAp own σ) M1.length xs gd xs (M1 ++ [zHW isT]) with
  | some M2=>some (.dat (.ref M1.length),M2)
  | none=>none
 | none=>none
theorem zF2 {K:PySem.W.Frag} {isT:Bool} {own:List Nat} {fi:FI} {g:TG} {fg:FG} {tc:FT} {tk tv:FE} (hg:zDs own g fg) {τ:Sv} {H:Hp} {Q:VK} (h:trE K (zCJ isT own fi fg tc tk tv) τ H Q):zES isT own (trI K fi) g (trT K tc) (trD K (toD tk)) (trD K (toD tv)) τ H Q:=by
 obtain ⟨L,σ,M,d,Mf,c,rs,hf,q⟩:=h;unfold zCJ at hf;split at hf
 ·rename_i xs gd M1 e1;split at hf
  ·rename_i M2 e2;cases hf;refine ⟨L,σ,M,_,_,_,c,rs,e1,fun L1 H1 J s1 c1 it p hp=>?_⟩;obtain ⟨c0,s0⟩:Cor K (L1 ++ [p]) (M1 ++ [zHW isT]) (upd H1 p (zD4 isT)) /\ Stp L1 H1 (L1 ++ [p]) (upd H1 p (zD4 isT)):=by
    cases isT with
    | true=>exact c1.pushO (m:=.dicT []) hp ⟨[],zo,rfl⟩
    | false=>exact c1.pushO (m:=.dict []) hp ⟨[],zo,rfl⟩
   have lp0:(L1 ++ [p])[M1.length]? = some p:=by rw [<- c1.len]; simp
   refine ⟨fun i m H'=>m = xs.length - i /\ i <= xs.length /\ ∃ L' M',Stp (L1 ++ [p]) (upd H1 p (zD4 isT)) L' H' /\ Cor K L' M' H' /\ zBp fg tc tk tv (zAp own σ) M1.length xs gd (xs.drop i) M' = some Mf,
    ⟨xs.length,by simp,zVr _,_,_,.refl _ _,c0,by simpa using e2⟩,?_⟩
   rintro i m H' ⟨rfl,hi,L',M',s',c',e'⟩;have lp:L'[M1.length]? = some p:=by obtain ⟨N,hN⟩:=s'.pre; rw [hN]; exact zA7 lp0
   by_cases hlt:i < xs.length
   ·rw [zBi hlt] at e';unfold zBp at e';split at e'
    ·rename_i hgd;obtain ⟨step,_⟩:=it L' H' M' (s0.trans s') c' hgd;obtain ⟨go,yl⟩:=step i xs[i] (zU9 hlt);split at e'
     ·rename_i σ1 eg;refine .inr ⟨go,fun v H2 hy=>?_⟩;obtain ⟨gr,rv⟩:=yl v H2 hy;have s2:Stp (L1 ++ [p]) (upd H1 p (zD4 isT)) L' H2:=s'.yld gr;refine hg (zDO own (((rs.stp s1).stp s0).stp s2)) (.refl _) rv eg fun τ2 r2 x2=>⟨x2,?_⟩;split at e'
      ·rename_i M3 e3;split at e'
       ·rename_i kd M4 e4;split at e'
        ·rename_i vd M5 e5;split at e'
         ·rename_i M6 e6;refine ⟨L',σ1,M',_,_,c'.grow gr,r2,e3,fun L3 H3 s3 c3=>zEf ?_⟩;refine ⟨L3,σ1,M3,_,_,c3,r2.stp s3,e4,fun L4 H4 w s4 c4 r4=>?_⟩;refine ⟨L4,σ1,M4,_,_,c4,(r2.stp s3).stp s4,e5,fun L5 H5 u s5 c5 r5=>?_⟩;have st:Stp L' H' L5 H5:=(((Stp.grow gr).trans s3).trans s4).trans s5;have lp5:L5[M1.length]? = some p:=by obtain ⟨N,hN⟩:=st.pre; rw [hN]; exact zA7 lp
          obtain ⟨H6,h1,h2,h3⟩:=zIi c5 lp5 (r4.stp s5) r5 e6;exact ⟨H6,xs.length - (i + 1),h1,by omega,rfl,hlt,L5,M6,(s'.trans st).trans h3,h2,e'⟩
         ·cases e'
        ·cases e'
       ·cases e'
      ·rename_i M3 e3;refine ⟨L',σ1,M',_,_,c'.grow gr,r2,e3,fun L3 H3 s3 c3=>zEi ?_⟩;have st:Stp L' H' L3 H3:=(Stp.grow gr).trans s3;exact ⟨xs.length - (i + 1),by omega,rfl,hlt,L3,M3,s'.trans st,c3,e'⟩
      ·cases e'
     ·cases e'
    ·cases e'
   ·have hi':i = xs.length:=by omega
    subst hi';rw [List.drop_length] at e';unfold zBp at e';split at e'
    ·rename_i hgd;cases e';obtain ⟨_,stop⟩:=it L' H' _ (s0.trans s') c' hgd;refine .inl ⟨stop,?_⟩;refine q L' _ _ ((s1.trans s0).trans s') c' ?_;unfold zV Rep;exact ⟨p,rfl,lp⟩
    ·cases e'
  ·cases hf
 ·cases hf
section
variable {X:Cx} {scope:Scope} {tg kx vx iter:Expr} {ifs:List Expr} {pos:Pos} {own:List Nat} {isT:Bool}
theorem zP6 {fi:FI} {g:TG} {fg:FG} {tc:FT} {tk tv:FE} (hu:X.A.units + 1 < cLine) (hg:zDs own g fg) (C:CompIn X scope own) (hcalm:X.calm = true) (hi:QI X tg iter fi) (p:QParts X scope tg ifs kx g tc tk) (p2:∀ zB cl s H fp,QE (zG X zB scope cl s H fp) vx tv) (hs:∀ x,foldedSetIterable iter X.env x = pure x:=by intro _; rfl) :
  QE X (.DictComp kx vx [⟨tg,iter,ifs,0⟩] scope pos) (zCJ isT own fi fg tc tk tv) :=
 .mk <| PE.imp (zI9 (isT:=isT) hu C hcalm hi.un p.parts (fun _ _ _ _ _=>(zBb (p2 _ _ _ _ _)).un) hs) fun _ _ _ h=>zF2 hg h
end
def zAB:Nat -> D -> Bool
 | 0,.int _=>true
 | n + 1,.tup ds=>ds.all (zAB n)
 | _,_=>false
def zBL:Nat -> D -> D -> Bool
 | 0,.int i,.int j=>decide (i = j)
 | n + 1,.tup xs,.tup ys=>xs.length == ys.length && (xs.zip ys).all fun q=>zBL n q.1 q.2
 | _,_,_=>false
theorem zEb:∀ (n:Nat) (x:D),zAB n x = true -> zBL n x x = true
 | 0,.int i,_=>by simp [zBL]
 | n + 1,.tup xs,h=>by
  unfold zAB at h;unfold zBL;rw [zVg] at h;simp only [beq_self_eq_true,Bool.true_and];rw [zVg];intro q hq;have:q.1 = q.2:=by
   obtain ⟨i,hi,e⟩:=zW8 hq;rw [List.getElem_zip] at e;rw [<- e]
  rw [<- this];exact zEb n _ (h q.1 (List.of_mem_zip hq).1)
 | 0,.non,h=>by cases h
 | 0,.bl _,h=>by cases h
 | 0,.str _,h=>by cases h
 | 0,.tup _,h=>by cases h
 | 0,.ref _,h=>by cases h
 | n + 1,.non,h=>by cases h
 | n + 1,.bl _,h=>by cases h
 | n + 1,.int _,h=>by cases h
 | n + 1,.str _,h=>by cases h
 | n + 1,.ref _,h=>by cases h
theorem zO3:∀ (n:Nat) (x y:D) (v:V),zAB n x = true -> zAB n y = true -> Rep L H x v -> Rep L H y v -> x = y:=by
 intro n;induction n with
 | zero=>
  intro x y v hx hy rx ry;cases x <;> first | cases hx | skip
  cases y <;> first | cases hy | skip
  unfold Rep at rx ry;rw [rx] at ry;cases ry; rfl
 | succ n ih=>
  intro x y v hx hy rx ry;cases x <;> first | cases hx | skip
  cases y <;> first | cases hy | skip
  rename_i xs ys;unfold zAB at hx hy;rw [zVg] at hx hy;unfold Rep at rx ry;obtain ⟨a,vs,rfl,e,r⟩:=rx;obtain ⟨a',vs',e1,e2,r'⟩:=ry;cases e1;rw [e] at e2; cases e2;congr 1;have hl:xs.length = ys.length:=by rw [<- r.length,r'.length]
  apply List.ext_getElem hl;intro i h1 h2;obtain ⟨u,hu,ru⟩:=r.get (zU9 h1);obtain ⟨u',hu',ru'⟩:=r'.get (zU9 h2);rw [hu] at hu'; cases hu';exact ih _ _ u (hx _ (zVd h1)) (hy _ (zVd h2)) ru ru'
section
variable {X:Cx} {zB:List (Addr × Obj)} {σ:L2.St} {H:Hp} {s:Shared} {L:List Addr}
theorem zLJ {xs ys:List D} (f:D -> D -> Bool) (h:xs.length = ys.length):((List.range xs.length).all fun j=>f (xs.getD j .non) (ys.getD j .non)) = (xs.zip ys).all fun q=>f q.1 q.2:=by
  rw [Bool.eq_iff_iff,zVg,zVg];constructor
  · intro hh q hq
    obtain ⟨i,hi,e⟩:=zW8 hq;rw [List.getElem_zip] at e;rw [List.length_zip] at hi;have:=hh i (by simp; omega);rw [<- e];simpa [zVA,show i < xs.length by omega,show i < ys.length by omega] using this
  · intro hh i hi
    have h1:i < xs.length:=by simpa using hi
    have h2:i < ys.length:=by omega
    have hz:i < (xs.zip ys).length:=by rw [List.length_zip]; omega
    have:=hh (xs.zip ys)[i] (zVd hz);rw [List.getElem_zip] at this;simpa [zVA,h1,h2] using this
theorem zMW (I : Inv X zB σ H s) : ∀ (n : Nat) (A : Around) (x y : D) (v w : V) (u u' : Value), A.units + n < cLine -> zAB n x = true -> zAB n y = true -> Rep L H x v -> Rep L H y w -> za v u -> za w u' -> SeqAt.EqAt A s u u' (zBL n x y) := by
  intro n;induction n with
  | zero=>
    intro A x y v w u u' hu hx hy rx ry ru ru';cases x <;> first | cases hx | skip
    cases y <;> first | cases hy | skip
    unfold Rep at rx ry;subst rx; subst ry;obtain ⟨t,rfl⟩:=ru;obtain ⟨t',rfl⟩:=ru';have:=SeqAt.EqAt.int_int (A:=A) (s:=s) ‹Int› t ‹Int› t';unfold zBL;rename_i i j;have h:=SeqAt.EqAt.int_int (A:=A) (s:=s) i t j t';have e:(i == j) = decide (i = j):=by by_cases q:i = j <;> simp [q]
    rw [e] at h;exact h
  | succ n ih =>
    intro A x y v w u u' hu hx hy rx ry ru ru';cases x <;> first | cases hx | skip
    cases y <;> first | cases hy | skip
    rename_i xs ys;have hx':=hx;have hy':=hy;have rx':=rx;have ry':=ry;unfold zAB at hx hy;rw [zVg] at hx hy;unfold Rep at rx ry;obtain ⟨a,vs,rfl,e,r⟩:=rx;obtain ⟨b,ws,rfl,e2,r2⟩:=ry;cases ru;cases ru';by_cases hab:a = b
    · subst hab
      have:=zO3 (n + 1) _ _ _ hx' hy' rx' ry';rw [this,zEb (n + 1) _ hy'];exact SeqAt.EqAt.same _
    · refine SeqAt.EqAt.of_refs hab ?_
      obtain ⟨its,rv,p1,_⟩:=I.tuple (.of e);obtain ⟨its2,rv2,p2,_⟩:=I.tuple (.of e2);have l1:its.toArray.size = xs.length:=by rw [zVD,<- rv.length,r.length]
      have l2:its2.toArray.size = ys.length:=by rw [zVD,<- rv2.length,r2.length]
      have key := SeqAt.RcAt.tuples (A := A) (s := s) (l := a) (b := b) (items := its.toArray) (items2 := its2.toArray) (e := fun j => zBL n (xs.getD j .non) (ys.getD j .non)) p1 p2 (by omega) (fun j h1 h2 => by
        have j1:j < xs.length:=by omega
        have j2:j < ys.length:=by omega
        obtain ⟨q1,g1,t1⟩:=r.get (zU9 j1);obtain ⟨q2,g2,t2⟩:=r2.get (zU9 j2);obtain ⟨o1,k1,m1⟩:=rv.get g1;obtain ⟨o2,k2,m2⟩:=rv2.get g2
        have z1 : its.toArray[j] = o1 := by have : its.toArray[j]? = some o1 := by simpa using k1
                                            rw [zVq h1] at this; exact zV5 this
        have z2 : its2.toArray[j] = o2 := by have : its2.toArray[j]? = some o2 := by simpa using k2
                                             rw [zVq h2] at this; exact zV5 this
        rw [z1,z2];have w1:xs.getD j .non = xs[j]:=by simp [zVA,j1]
        have w2:ys.getD j .non = ys[j]:=by simp [zVA,j2]
        show SeqAt.EqAt A.in1 s o1 o2 (zBL n (xs.getD j .non) (ys.getD j .non));rw [w1,w2];exact ih A.in1 _ _ _ _ _ _ (by show A.units + 1 + n < cLine; omega) (hx _ (zVd j1)) (hy _ (zVd j2)) t1 t2 m1 m2)
      have fin:((List.range (min its.toArray.size its2.toArray.size)).all (fun j=>zBL n (xs.getD j .non) (ys.getD j .non)) && its.toArray.size == its2.toArray.size) = zBL (n + 1) (.tup xs) (.tup ys):=by
        rw [l1,l2];show _ = (xs.length == ys.length && (xs.zip ys).all fun q=>zBL n q.1 q.2);by_cases hl:xs.length = ys.length
        · rw [hl,Nat.min_self,<- hl,zLJ (zBL n) hl,Bool.and_comm]
        · have:(xs.length == ys.length) = false:=by simpa using hl
          rw [this]; simp
      rw [fin] at key;exact key
end
def nb (neg b:Bool):Bool:=if neg then !b else b
def rTr (neg:Bool) (K:PySem.W.Frag) (n:Nat):R2:=fun x y H Q=>∃ (L:List Addr) (xs ys:List D),(xs.all (zAB n) = true /\ ys.all (zAB n) = true) /\
 ((Rep L H (.tup xs) x /\ Rep L H (.tup ys) y) \/ ∃ a b vs ws,x = .ref a /\ y = .ref b /\ SqL K H a vs /\ SqL K H b ws /\ zH L H xs vs /\ zH L H ys ws) /\ Q (.bl (nb neg (zBL (n + 1) (.tup xs) (.tup ys)))) H
section
variable {X:Cx}
theorem zGP (I:Inv X zB σ H s) (hu:A.units + n < cLine) (hx:xs.all (zAB n) = true) (hy:ys.all (zAB n) = true) (r:zH L H xs vs) (r2:zH L H ys ws) (rv:zW vs its) (rv2:zW ws its2) (j:Nat) (h1:j < its.toArray.size) (h2:j < its2.toArray.size) :
  SeqAt.EqAt A s its.toArray[j] its2.toArray[j] (zBL n (xs.getD j .non) (ys.getD j .non)):=by
 rw [zVg] at hx hy;have l1:its.toArray.size = xs.length:=by rw [zVD,<- rv.length,r.length]
 have l2:its2.toArray.size = ys.length:=by rw [zVD,<- rv2.length,r2.length]
 have j1:j < xs.length:=by omega
 have j2:j < ys.length:=by omega
 obtain ⟨q1,g1,t1⟩:=r.get (zU9 j1);obtain ⟨q2,g2,t2⟩:=r2.get (zU9 j2);obtain ⟨o1,k1,m1⟩:=rv.get g1;obtain ⟨o2,k2,m2⟩:=rv2.get g2;have z1:its.toArray[j] = o1:=by
  have:its.toArray[j]? = some o1:=by simpa using k1
  rw [zVq h1] at this; exact zV5 this
 have z2:its2.toArray[j] = o2:=by
  have:its2.toArray[j]? = some o2:=by simpa using k2
  rw [zVq h2] at this; exact zV5 this
 have w1:xs.getD j .non = xs[j]:=by simp [zVA,j1]
 have w2:ys.getD j .non = ys[j]:=by simp [zVA,j2]
 rw [z1,z2,w1,w2];exact zMW I n A _ _ _ _ _ _ hu (hx _ (zVd j1)) (hy _ (zVd j2)) t1 t2 m1 m2
theorem zNK (l1:a = xs.length) (l2:b = ys.length):((List.range (min a b)).all (fun j=>zBL n (xs.getD j .non) (ys.getD j .non)) && a == b) = zBL (n + 1) (.tup xs) (.tup ys):=by
 subst l1 l2;show _ = (xs.length == ys.length && (xs.zip ys).all fun q=>zBL n q.1 q.2);by_cases hl:xs.length = ys.length
 ·rw [hl,Nat.min_self,<- hl,zLJ (zBL n) hl,Bool.and_comm]
 ·have:(xs.length == ys.length) = false:=by simpa using hl
  rw [this]; simp
theorem zRq (hl:xs.length = ys.length):((List.range xs.length).all fun j=>zBL n (xs.getD j .non) (ys.getD j .non)) = zBL (n + 1) (.tup xs) (.tup ys):=by
 rw [<- zNK (n:=n) rfl rfl,hl,Nat.min_self]; simp
theorem zSr (hl:xs.length ≠ ys.length):zBL (n + 1) (.tup xs) (.tup ys) = false:=by
 show (xs.length == ys.length && _) = false;rw [show (xs.length == ys.length) = false by simpa using hl]; rfl
theorem zPg (n:Nat) (hu:X.A.units + 1 + n < cLine):OpR X (compareOp .NotEq) (rTr true X.K n):=by
 intro zB s σ H x y v u Q I rx ry h;obtain ⟨L,xs,ys,⟨hx,hy⟩,hc,q⟩:=h;have hu1:X.A.in1.units + n < cLine:=hu;rcases hc with ⟨p1,p2⟩ | ⟨a,b,vs,ws,rfl,rfl,s1,s2,r1,r2⟩
 ·unfold Rep at p1 p2;obtain ⟨a,vs,rfl,e1,r1⟩:=p1;obtain ⟨b,ws,rfl,e2,r2⟩:=p2;cases rx;cases ry;obtain ⟨its,rv,t1,_⟩:=I.tuple (.of e1);obtain ⟨its2,rv2,t2,_⟩:=I.tuple (.of e2);refine SeqAt.RcNeAt.tuples (e:=fun j=>zBL n (xs.getD j .non) (ys.getD j .non)) t1 t2 (by omega) (fun j h1 h2=>zGP I hu1 hx hy r1 r2 rv rv2 j h1 h2) _ _ _ _ ?_;rw [zNK (by rw [zVD,<- rv.length,r1.length]) (by rw [zVD,<- rv2.length,r2.length])];exact ⟨.bl _,H,I,rfl,q⟩
 ·cases rx;cases ry;obtain ⟨its,rv,t1,_⟩:=I.list s1;obtain ⟨its2,rv2,t2,_⟩:=I.list s2;have l1:its.toArray.size = xs.length:=by rw [zVD,<- rv.length,r1.length]
  have l2:its2.toArray.size = ys.length:=by rw [zVD,<- rv2.length,r2.length]
  by_cases hl:xs.length = ys.length
  ·refine SeqAt.RcNeAt.lists (e:=fun j=>zBL n (xs.getD j .non) (ys.getD j .non)) t1.isList t2.isList (by omega) (by omega) (fun j h1 h2=>zGP I hu1 hx hy r1 r2 rv rv2 j h1 h2) _ _ _ _ ?_;rw [l1,zRq hl];exact ⟨.bl _,H,I,rfl,q⟩
  ·refine SeqAt.RcNeAt.lists_lengths t1.isList t2.isList (by rw [l1,l2]; simpa using hl) (by omega) _ _ _ _ ?_;rw [zSr hl] at q;exact ⟨.bl true,H,I,rfl,q⟩
end
section
variable {X:Cx} {a b e o:Expr} {pos apos cpos:Pos} {f g:FE}
def kTr (neg:Bool) (n:Nat):K2:=fun x y M=>match zCB x,zCB y with
 | some xs,some ys=>if xs.all (zAB n) && ys.all (zAB n) then some (.dat (.bl (nb neg (zBL (n + 1) (.tup xs) (.tup ys)))),M) else none
 | _,_=>match zAk M x,zAk M y with
  | some xs,some ys=>if xs.all (zAB n) && ys.all (zAB n) then some (.dat (.bl (nb neg (zBL (n + 1) (.tup xs) (.tup ys)))),M) else none
  | _,_=>none
theorem zSc {K:PySem.W.Frag} {neg:Bool} {n:Nat}:zA3 K (rTr neg K n) (kTr neg n):=by
 intro L M M' H H0 x y d v w Q c rx ry hk q;unfold kTr at hk;split at hk
 ·rename_i xs ys e1 e2;split at hk
  ·rename_i hb;cases hk;rw [zVf] at hb;obtain ⟨p,vs,rfl,h1,r1⟩:=zA5 rx e1;obtain ⟨p',ws,rfl,h2,r2⟩:=zA5 ry e2;refine ⟨L,xs,ys,hb,.inl ⟨?_,?_⟩,q L H _ (.refl L H) c (zAc (L:=L) (H:=H))⟩
   ·unfold Rep; exact ⟨p,vs,rfl,h1,r1⟩
   ·unfold Rep; exact ⟨p',ws,rfl,h2,r2⟩
  ·cases hk
 ·split at hk
  ·rename_i xs ys e1 e2;split at hk
   ·rename_i hb;cases hk;rw [zVf] at hb;obtain ⟨p,vs,rfl,h1,r1⟩:=zAS c rx e1;obtain ⟨p',ws,rfl,h2,r2⟩:=zAS c ry e2;exact ⟨L,xs,ys,hb,.inr ⟨p,p',vs,ws,rfl,rfl,.inl h1,.inl h2,r1,r2⟩,q L H _ (.refl L H) c (zAc (L:=L) (H:=H))⟩
   ·cases hk
  ·cases hk
theorem zQ7 (n:Nat) (hu:X.A.units + 1 + n < cLine) (h1:QE X a f) (h2:QE X b g):QT X (.Compare a [.NotEq] [b] pos) (tst (fOp (kTr true n) f g)):=zDl zSc (zPg n hu) h1 h2 (zC0 _)
theorem zTO (n:Nat) (hn:n <= 8) (hr:Room k A):A.units + 1 + n < cLine:=by
 have:=hr.units;omega
end
open Builtin
section
variable {X:Cx} {a b o e e2:Expr} {pos p apos cpos:Pos} {f g:FE}
def zI7:KB:=fun xs M=>match xs with
 | [.dat (.int i),.dat (.int j)]=>some (.dat (.int (if j > i then j else i)),M)
 | _=>none
def zI4:KB:=fun xs M=>match xs with
 | [.dat (.int i),.dat (.int j)]=>some (.dat (.int (if j < i then j else i)),M)
 | _=>none
theorem zEu (r:zB1 H0 L H [.dat (.int i),.dat (.int j)] vs):vs = [.int i,.int j]:=by
 unfold zB1 at r;obtain ⟨v,r1,rfl,a1,a2⟩:=r;unfold zB1 at a2;obtain ⟨v2,r2,rfl,b1,b2⟩:=a2;unfold zB1 at b2;subst b2;unfold zV Rep at a1 b1;subst a1 b1;rfl
theorem zOI {K:PySem.W.Frag}:zE6 K (fun xs H Q=>∃ i j,xs = [.int i,.int j] /\ Q (.int (if j > i then j else i)) H) zI7:=by
 intro L M M' H H0 xs d vs Q c r hk q;unfold zI7 at hk;split at hk
 ·rename_i i j;cases hk;exact ⟨i,j,zEu r,q L H _ (.refl L H) c (z0 (L:=L) (H:=H))⟩
 ·cases hk
theorem zNh {K:PySem.W.Frag}:zE6 K (fun xs H Q=>∃ i j,xs = [.int i,.int j] /\ Q (.int (if j < i then j else i)) H) zI4:=by
 intro L M M' H H0 xs d vs Q c r hk q;unfold zI4 at hk;split at hk
 ·rename_i i j;cases hk;exact ⟨i,j,zEu r,q L H _ (.refl L H) c (z0 (L:=L) (H:=H))⟩
 ·cases hk
theorem zRj (hcalm:X.calm = true) (hg:Gl X "max") (hm:X.mg "max" = none) (ha:QAE X [e,e2] fa) (he:starEach [e,e2] X.env = (false,eval e X.env) :: starEach [e2] X.env:=by rfl) (hpl:(backTo pos (starEach [e2] X.env)).any (·.1) = false:=by rfl):QE X (.Call (.Name "max" p) [e,e2] [] pos) (fB zI7 fa) :=
 zCh zOI (zMD hcalm) (by rfl) hg hm ha (by decide) (by decide) he hpl
theorem zRw (hcalm:X.calm = true) (hg:Gl X "min") (hm:X.mg "min" = none) (ha:QAE X [e,e2] fa) (he:starEach [e,e2] X.env = (false,eval e X.env) :: starEach [e2] X.env:=by rfl) (hpl:(backTo pos (starEach [e2] X.env)).any (·.1) = false:=by rfl):QE X (.Call (.Name "min" p) [e,e2] [] pos) (fB zI4 fa) :=
 zCh zNh (zMF hcalm) (by rfl) hg hm ha (by decide) (by decide) he hpl
def zDW:KM:=fun x ds M=>match x,ds with
 | .dat (.ref n),[.ref m]=>match M[n]?,M[m]? with
  | some (.lst xs),some (.lst ys)=>if xs.length + ys.length <= sizeLine then some (.non,M.set n (.lst (xs ++ ys))) else none
  | _,_=>none
 | _,_=>none
theorem zKb {K:PySem.W.Frag}:zNB K zLS zDW:=by
 intro L M M' H H0 x ds d v vs Q c rx rd hk q;unfold zDW at hk;split at hk
 ·rename_i n m;split at hk
  ·rename_i xs ys e1 e1';split at hk
   ·rename_i hz;cases hk;unfold zV Rep at rx;obtain ⟨a,rfl,e2⟩:=rx;obtain ⟨ws,e3,r3⟩:=c.obj n a _ e2 e1;obtain ⟨w,rfl,r4⟩:=rd.one;unfold Rep at r4;obtain ⟨b,rfl,e4⟩:=r4;obtain ⟨zs,e5,r5⟩:=c.obj m b _ e4 e1';obtain ⟨c5,s5⟩:=c.write e2 e1 (r3.app r5);exact ⟨a,b,ws,zs,rfl,rfl,e3,e5,by rw [r3.length,r5.length]; exact hz,q L _ _ s5 c5 (by unfold Rep; rfl)⟩
   ·cases hk
  ·cases hk
 ·cases hk
theorem zOv (h:QE X a f) (hg:QA X [e] fg) (hbase:attributeBase a "extend" X.env (eval a X.env) = eval a X.env:=by rfl)
  (hfew:((backTo cpos (starEach [e] X.env)).all (fun x=> !x.1) && (backToKw cpos (keywordEach [] X.env)).all (fun x=>x.1.isSome) && decide ([e].length + ([]:List Keyword).length + (if ([]:List Keyword).isEmpty then 0 else 1) < 30)) = true:=by rfl)
  (hline:(apos.endLine == cpos.line) = true:=by rfl) (hs:starEach [e] X.env = (false,eval e X.env) :: starEach [] X.env:=by rfl) (hplain:(backTo cpos (starEach [] X.env)).any (·.1) = false:=by rfl) :
  QE X (.Call (.Attribute a "extend" apos) [e] [] cpos) (fM zDW f fg) :=
 .mk <| PE.imp (zJj PySem.F.plainAttrs_list PySem.F.slot_list_extend PySem.F.type_list_extend zLw h.un hg.un hbase hfew hline hs hplain) fun _ _ _ z=>zFf zKb z
end
end L3
namespace HT
open PySem PySem.Spec PyProof.Rows
end HT
namespace L3
open PySem PySem.Spec PyProof.Rows L2
section
variable {X:Cx} {e tg:Expr} {pos:Pos}
def zOQ (fg:FG) (f:FE):FS:=fun σ M=>match toD f σ M with
 | some (d,M1)=>match fg d σ with
  | some σ1=>some (.nx,σ1,M1)
  | none=>none
 | none=>none
theorem zTz (hk:GOk g fg) (h:QE X e f) (hg:PG X tg g) (hs:swapsWithSole [tg] e pos.line X.env = pure false:=by rfl) (hw:swappedStores [tg] e X.env = pure none:=by rfl)
  (h1:(assignEach [tg] X.env).map (·.2) = [assign tg X.env]:=by rfl):QS X (.Assign [tg] e pos) (zOQ fg f) :=
 .mk <| PS.imp (zPS h.un hg hs hw h1) fun E τ H zz=>by
  obtain ⟨L,σ,M,o,σ',M',c,rs,hf,q⟩:=zz;unfold zOQ at hf;split at hf
  ·rename_i d M1 e1;split at hf
   ·rename_i σ1 e2;cases hf;refine zJQ ⟨L,σ,M,_,_,c,rs,e1,fun L1 H1 v s1 c1 r1=>?_⟩;exact hk (rs.stp s1) r1 e2 fun τ' rs'=>q L1 H1 s1 c1 τ' rs'
   ·cases hf
  ·cases hf
variable {σ:Sd} {M:Mem} {P:Out -> Sd -> Mem -> Prop} {fg:FG} {f:FE}
theorem zP8:OkS (zOQ fg f σ M) P ↔ Ok (f σ M) (zFY fun d M1=>∃ σ1,fg d σ = some σ1 /\ P .nx σ1 M1):=by
 rw [<- zAT];unfold zOQ;constructor
 ·rintro ⟨o,σ',M',e,p⟩;split at e
  ·rename_i d M1 e1;split at e
   ·rename_i σ1 e2;cases e;exact ⟨d,_,e1,_,e2,p⟩
   ·cases e
  ·cases e
 ·rintro ⟨d,M1,e1,σ1,e2,p⟩;refine ⟨.nx,σ1,M1,?_,p⟩;rw [e1]; dsimp only; rw [e2]
end
def SI (b:Bool) (h:Heap) (it t:Addr) (k:Nat):Prop:=if b then h.IsTupleIter it t k else h.IsListIter it t k
def SO (b:Bool) (h:Heap) (t:Addr) (xs:Array Value):Prop:=if b then h.IsTuple t xs else h.IsList t xs
abbrev itO (b:Bool) (t:Addr):Obj:={ cls:=.type (if b then "tuple_iterator" else "list_iterator"),data:=.fields #[.ref t,.int 0 0] }
theorem SO.keep (x:SO b h t xs) (e:∀ o,h.get? t = some o -> h'.get? t = some o):SO b h' t xs:=by
 cases b with
 | true=>obtain ⟨o,q,r⟩:=(show h.IsTuple t xs from x); exact (show h'.IsTuple t xs from ⟨o,e o q,r⟩)
 | false=>obtain ⟨o,q,r⟩:=(show h.IsList t xs from x); exact (show h'.IsList t xs from ⟨o,e o q,r⟩)
section
variable {prog:Program} {w:World} {A:Around} {E:Value -> Shared -> Prop} {s:Shared}
theorem zRV (hl:SO b s.heap l items) (hQ:Q (.ref s.heap.objs.size) { s with heap:=s.heap.push (itO b l) }):wpAny (model prog w) A (pyIter (.ref l)) Q E s:=by
 cases b with
 | true=>exact wpAny_pyIter_tuple (show s.heap.IsTuple l items from hl) hQ
 | false=>exact wpAny_pyIter_list (show s.heap.IsList l items from hl) hQ
theorem zUQ (e:h.get? it = some (itO b t)):SI b h it t 0:=by
 cases b with
 | true=>exact (show h.IsTupleIter it t 0 from ⟨_,e,rfl,rfl⟩)
 | false=>exact (show h.IsListIter it t 0 from ⟨_,e,rfl,rfl⟩)
end
def SqG (K:PySem.W.Frag) (b:Bool) (H:Hp) (a:Addr) (xs:List V):Prop:=if b then SqT K H a xs else SqL K H a xs
theorem zSm (I:Inv X zB σ H s) (h:SqG X.K b H a xs):∃ its,zW xs its /\ SO b s.heap a its.toArray:=by
 cases b with
 | true=>obtain ⟨its,rv,p1,_⟩:=I.tuple h; exact ⟨its,rv,p1⟩
 | false=>obtain ⟨its,rv,p1,_⟩:=I.list h; exact ⟨its,rv,p1.isList⟩
theorem zU1 (x:SO b h a its):a < h.objs.size:=by
 cases b with
 | true=>obtain ⟨_,e,_⟩:=(show h.IsTuple a its from x); exact zVG e
 | false=>obtain ⟨_,e,_⟩:=(show h.IsList a its from x); exact zVG e
section
variable {X:Cx} {a b:Expr} {es:List Expr} {ek:Nat} {ep p pos:Pos}
theorem zS1 {K:PySem.W.Frag} {L1:List Addr} {M1:Mem} {H1:Hp} {x:D} {v:V} {xs:List D} (c1:Cor K L1 M1 H1) (r1:Rep L1 H1 x v) (e:zAR M1 (.dat x) = some xs) :
  ∃ b l,v = .ref l /\ (∃ vs,SqG K b H1 l vs) /\ ∀ L2 H2 M2,Stp L1 H1 L2 H2 -> Cor K L2 M2 H2 -> zAR M2 (.dat x) = some xs -> ∃ vs',SqG K b H2 l vs' /\ zH L2 H2 xs vs':=by
 have r1':zV H1 L1 H1 (.dat x) v:=r1;cases x with
 | tup ds=>
  cases e;obtain ⟨a,vs,rfl,e3,r3⟩:=zA5 r1' (xs:=xs) rfl;exact ⟨true,a,rfl,⟨vs,(show SqT K H1 a vs from .of e3)⟩,fun L2 H2 M2 s2 c2 _=>⟨vs,(show SqT K H2 a vs from .of (s2.tup a vs e3)),r3.stp s2⟩⟩
 | ref n=>
  have e2:zAk M1 (.dat (.ref n)) = some xs:=e;obtain ⟨a,vs,rfl,e3,r3⟩:=zAS c1 r1' e2;refine ⟨false,a,rfl,⟨vs,(show SqL K H1 a vs from .inl e3)⟩,fun L2 H2 M2 s2 c2 hq=>?_⟩;unfold Rep at r1;obtain ⟨a',ha',e5⟩:=r1;cases ha';have e6:L2[n]? = some a:=by obtain ⟨N,hN⟩:=s2.pre; rw [hN]; exact zA7 e5
  have r2:zV H2 L2 H2 (.dat (.ref n)) (.ref a):=by unfold zV Rep; exact ⟨a,rfl,e6⟩
  obtain ⟨a2,vs',h2,e7,r7⟩:=zAS c2 r2 (show zAk M2 (.dat (.ref n)) = some xs from hq);cases h2;exact ⟨vs',(show SqL K H2 a vs' from .inl e7),r7⟩
 | _=>cases e
end
theorem zGM {ns:List Int} {its:List Value} (r:zW (ns.map V.int) its) {i:Nat} {v:Value} (h:its.toArray[i]? = some v):∃ t,v = .int (ns.getD i 0) t:=by
 have h':its[i]? = some v:=by simpa using h
 have hi:i < its.length:=(zU8.mp h').1;have hl:=r.length;rw [zVE] at hl;have hx:(ns.map V.int)[i]? = some (.int (ns.getD i 0)):=by
  rw [zVS,zVA,zU9 (by omega)]; rfl
 obtain ⟨u,hu,ru⟩:=r.get hx;rw [h'] at hu;cases hu;obtain ⟨t,rfl⟩:=ru;exact ⟨t,rfl⟩
theorem zOe (hh:A.handled = none) (b:Bool) (I ax:Addr) (hne:ax ≠ I) (items:Array Value) :
  Walks prog w A I [I,ax] [I] items.size (fun i v=>items[i]? = some v) (fun i h=>SI b h I ax i /\ SO b h ax items):=by
 cases b with
 | true=>exact Walks.tuple hh I ax hne items
 | false=>exact Walks.list hh I ax hne items
section
variable {X:Cx} {e:Expr} {pos p:Pos}
theorem zMH (gt:Bool) (hc:X.calm = true):zBX X (.builtin (if gt then "max" else "min")) (fun xs H Q=>∃ (b:Bool) (a:Addr) (ns:List Int) (m:Int),xs = [.ref a] /\ SqG X.K b H a (ns.map V.int) /\ m ∈ ns /\ (∀ x ∈ ns,if gt then x <= m else m <= x) /\ Q (.int m) H):=by
 intro zB s σ H xs us Q I r h;obtain ⟨b,a,ns,m,rfl,hs,hm,hb,q⟩:=h;obtain ⟨u,rfl,ru⟩:=zDJ r;cases ru;obtain ⟨its,rv,p1⟩:=zSm I hs;have hl:its.toArray.size = ns.length:=by have:=rv.length; simp at this ⊢; omega
 have hpos:0 < ns.length:=List.length_pos_of_mem hm;have hlt:=zU1 p1;have hfp:∀ c ∈ [s.heap.objs.size,a],c < (s.heap.push (itO b a)).objs.size:=fun c hc'=>by
  rw [zVl];simp only [zVH,zVa,or_false] at hc';rcases hc' with rfl | rfl
  ·exact zV2 _
  ·exact zVu hlt
 have st:SI b (s.heap.push (itO b a)) s.heap.objs.size a 0 /\ SO b (s.heap.push (itO b a)) a its.toArray:=⟨zUQ (zVF _ rfl),p1.keep fun o e=>zU6 _ e⟩;have kp:∀ h':Heap,(∀ c o,c ∉ [s.heap.objs.size] -> (s.heap.push (itO b a)).get? c = some o -> h'.get? c = some o) -> ∀ c o,s.heap.get? c = some o -> h'.get? c = some o:=fun h' hk c o e0=>
  hk c o (by simp only [zVH,zVa,or_false]; exact zVQ (zVG e0)) (zU6 _ e0)
 have fin:∀ (i:Nat) (v:Value) (h':Heap) (tk:Nat),its.toArray[i]? = some v -> ns.getD i 0 = m -> (∀ c o,s.heap.get? c = some o -> h'.get? c = some o) -> EP X zB σ Q v { s with heap:=h',toks:=tk }:=fun i v h' tk hv hi hk=>by
  obtain ⟨t,rfl⟩:=zGM rv hv;rw [hi];exact ⟨.int m,H,I.kept hk,⟨t,rfl⟩,q⟩
 cases gt with
 | true=>
  refine call_max_walk (zRV p1 ⟨s.heap.objs.size,[s.heap.objs.size,a],[s.heap.objs.size],its.toArray.size,fun i v=>its.toArray[i]? = some v,fun i h=>SI b h s.heap.objs.size a i /\ SO b h a its.toArray,_,rfl,zOe (A:=X.A.in1) (I.ok.hd hc) b _ a (zVQ hlt) its.toArray,st,hfp,by omega,CmpOf.ints_gt (fun i=>ns.getD i 0) (fun _ _ hv=>zGM rv hv),fun v h' tk hP hk=>?_⟩);refine fin _ v h' tk hP ?_ (kp h' hk);obtain ⟨h1,h2⟩:=argBest_gt (fun i=>ns.getD i 0) (its.toArray.size - 1);rw [hl] at h1 h2 ⊢;generalize argBest _ (ns.length - 1) = q at h1 h2 ⊢;obtain ⟨j,hj,ej⟩:=List.mem_iff_getElem.mp hm;have h3:=h2 j (by omega);have e3:ns.getD j 0 = m:=by rw [zVA,zU9 hj]; exact ej
  have hq:q < ns.length:=by omega
  have h4:ns.getD q 0 <= m:=by
   have:=hb (ns.getD q 0) (by rw [zVA,zU9 hq]; exact zVd hq);simpa using this
  rw [e3] at h3;omega
 | false=>
  refine call_min_walk (zRV p1 ⟨s.heap.objs.size,[s.heap.objs.size,a],[s.heap.objs.size],its.toArray.size,fun i v=>its.toArray[i]? = some v,fun i h=>SI b h s.heap.objs.size a i /\ SO b h a its.toArray,_,rfl,zOe (A:=X.A.in1) (I.ok.hd hc) b _ a (zVQ hlt) its.toArray,st,hfp,by omega,CmpOf.ints_lt (fun i=>ns.getD i 0) (fun _ _ hv=>zGM rv hv),fun v h' tk hP hk=>?_⟩);refine fin _ v h' tk hP ?_ (kp h' hk);obtain ⟨h1,h2⟩:=argBest_lt (fun i=>ns.getD i 0) (its.toArray.size - 1);rw [hl] at h1 h2 ⊢;generalize argBest _ (ns.length - 1) = q at h1 h2 ⊢;obtain ⟨j,hj,ej⟩:=List.mem_iff_getElem.mp hm;have h3:=h2 j (by omega);have e3:ns.getD j 0 = m:=by rw [zVA,zU9 hj]; exact ej
  have hq:q < ns.length:=by omega
  have h4:m <= ns.getD q 0:=by
   have:=hb (ns.getD q 0) (by rw [zVA,zU9 hq]; exact zVd hq);simpa using this
  rw [e3] at h3;omega
def zB5 (gt:Bool):Int -> List Int -> Int
 | m,[]=>m
 | m,x :: r=>zB5 gt (if (if gt then m < x else x < m) then x else m) r
theorem zBr (gt:Bool):∀ (r:List Int) (m:Int),zB5 gt m r ∈ m :: r /\ ∀ x ∈ m :: r,if gt then x <= zB5 gt m r else zB5 gt m r <= x
 | [],m=>by
  refine ⟨by simp [zB5],fun x hx=>?_⟩;have:x = m:=by simpa using hx
  subst this; cases gt <;> simp [zB5]
 | y :: r,m=>by
  unfold zB5;obtain ⟨h1,h2⟩:=zBr gt r (if (if gt then m < y else y < m) then y else m);generalize hb:zB5 gt (if (if gt then m < y else y < m) then y else m) r = B at h1 h2;constructor
  ·rcases zVH.mp h1 with q | q
   ·rw [q];by_cases hc:(if gt = true then m < y else y < m)
    ·rw [zVK hc]; simp
    ·rw [zVN hc]; simp
   ·simp [q]
  ·intro x hx;have h0:=h2 _ zVJ;rcases zVH.mp hx with q | q
   ·subst q;cases gt with
    | true=>simp at h0 ⊢; split at h0 <;> omega
    | false=>simp at h0 ⊢; split at h0 <;> omega
   ·rcases zVH.mp q with z | z
    ·subst z;cases gt with
     | true=>simp at h0 ⊢; split at h0 <;> omega
     | false=>simp at h0 ⊢; split at h0 <;> omega
    ·exact h2 x (zVI _ z)
def zBl (gt:Bool):KB:=fun xs M=>match xs with
 | [.dat d]=>match zAR M (.dat d) with
  | some ds=>match zAC ds with
   | some (n :: ns)=>some (.dat (.int (zB5 gt n ns)),M)
   | _=>none
  | none=>none
 | [.fl ds]=>match zAC ds with
  | some (n :: ns)=>some (.dat (.int (zB5 gt n ns)),M)
  | _=>none
 | _=>none
theorem zN4 {K:PySem.W.Frag} {gt:Bool}:zE6 K (fun xs H Q=>∃ (b:Bool) (a:Addr) (ns:List Int) (m:Int),xs = [.ref a] /\ SqG K b H a (ns.map V.int) /\ m ∈ ns /\ (∀ x ∈ ns,if gt then x <= m else m <= x) /\ Q (.int m) H) (zBl gt):=by
 intro L M M' H H0 xs d vs Q c r hk q;unfold zBl at hk;split at hk
 ·rename_i d0;split at hk
  ·rename_i ds e1;split at hk
   ·rename_i n ns e2;cases hk;obtain ⟨v,rfl,r1⟩:=r.one;have r1':Rep L H d0 v:=r1;obtain ⟨b,l,rfl,_,key⟩:=zS1 c r1' e1;obtain ⟨vs',hq,rr⟩:=key L H M (.refl L H) c e1;have ev:=zDt e2 rr;subst ev;obtain ⟨h1,h2⟩:=zBr gt ns n;exact ⟨b,l,n :: ns,zB5 gt n ns,rfl,hq,h1,h2,q L H _ (.refl L H) c (z0 (L:=L) (H:=H))⟩
   ·cases hk
  ·cases hk
 ·rename_i ds;split at hk
  ·rename_i n ns e2;cases hk;obtain ⟨v,rfl,r1⟩:=r.one;obtain ⟨l,vs',rfl,hq,rr⟩:=zAS c r1 (show zAk M (.fl ds) = some ds from rfl);have ev:=zDt e2 rr;subst ev;obtain ⟨h1,h2⟩:=zBr gt ns n;exact ⟨false,l,n :: ns,zB5 gt n ns,rfl,.inl hq,h1,h2,q L H _ (.refl L H) c (z0 (L:=L) (H:=H))⟩
  ·cases hk
 ·cases hk
theorem zTB (hcalm:X.calm = true) (hg:Gl X "min") (hm:X.mg "min" = none) (ha:QAE X [e] fa) (he:starEach [e] X.env = (false,eval e X.env) :: starEach [] X.env:=by rfl) (hpl:(backTo pos (starEach [] X.env)).any (·.1) = false:=by rfl):QE X (.Call (.Name "min" p) [e] [] pos) (fB (zBl false) fa) :=
 zCh zN4 (zMH false hcalm) (by rfl) hg hm ha (by decide) (by decide) he hpl
end
section
variable {X:Cx} {a e e2 o:Expr} {pos p apos cpos:Pos} {f:FE}
def zMt (f:FE):FT:=fun σ M=>match f σ M with
 | some (x,M1)=>match zAR M1 x with
  | some xs=>some (!xs.isEmpty,M1)
  | none=>none
 | none=>none
theorem zQN (h:QE X a f) (he:∀ whole,isTrue a X.env whole = (do let v <- whole; standAt a.pos; holding [v] (truthy v)):=by intro _; rfl):QT X a (zMt f) :=
 .mk <| PT.imp (zPK h.un he) fun τ H Q zz=>by
  obtain ⟨L,σ,M,d,M',c,rs,hf,q⟩:=zz;unfold zMt at hf;split at hf
  ·rename_i x M1 e1;split at hf
   ·rename_i xs e2;cases hf;refine ⟨L,σ,M,_,_,c,rs,e1,fun L1 H1 v s1 c1 r1=>⟨!xs.isEmpty,?_,q L1 H1 s1 c1⟩⟩;unfold zAR at e2;have emp:∀ {vs:List V},zH L1 H1 xs vs -> (!xs.isEmpty) = !vs.isEmpty:=fun {vs} r=>by
     have:=r.length;cases xs <;> cases vs <;> first | rfl | simp at this
    cases t:zCB x with
    | some ws=>
     rw [t] at e2; cases e2;obtain ⟨l,vs,rfl,e3,r3⟩:=zA5 r1 t;exact .inr (.inl ⟨vs,.of e3,emp r3⟩)
    | none=>
     rw [t] at e2;dsimp only at e2;obtain ⟨l,vs,rfl,e3,r3⟩:=zAS c1 r1 e2;exact .inl ⟨vs,.inl e3,emp r3⟩
   ·cases hf
  ·cases hf
def zR9 (i j k:Nat):FG:=fun d σ=>match d with
 | .tup [x,y,z]=>some (((σ.set i (some x)).set j (some y)).set k (some z))
 | _=>none
abbrev gP3 (K:PySem.W.Frag) (i j k:Nat):TG:=zNX K 3 (zDb (zBE i) (zDb (zBE j) (zDb (zBE k) zPC)))
theorem zTb (r:zH L H [x,y,z] vs):∃ v1 v2 v3,vs = [v1,v2,v3] /\ Rep L H x v1 /\ Rep L H y v2 /\ Rep L H z v3:=by
 unfold zH at r;obtain ⟨v1,r',rfl,h1,r⟩:=r;obtain ⟨v2,v3,rfl,h2,h3⟩:=r.two;exact ⟨v1,v2,v3,rfl,h1,h2,h3⟩
theorem zRG {K:PySem.W.Frag} {i j k:Nat}:GOk (gP3 K i j k) (zR9 i j k):=by
 intro L H σ σ' τ d v Q rs r hf q;unfold zR9 at hf;split at hf
 ·rename_i x y z;cases hf;unfold Rep at r;obtain ⟨a,vs,rfl,e,r⟩:=r;obtain ⟨v1,v2,v3,rfl,r1,r2,r3⟩:=zTb r;exact ⟨a,_,rfl,.of e,rfl,v1,[v2,v3],rfl,v2,[v3],rfl,v3,[],rfl,rfl,q _ (((rs.set r1).set r2).set r3)⟩
 ·cases hf
end
section
variable {prog:Program} {w:World} {A:Around} {E:Value -> Shared -> Prop} {s:Shared}
theorem zN2 {its:List Value} {i:Int} (e:s.heap.get? l = some { cls:=.type "list", data:=.seq its.toArray n }) (hfit:¬ (!Builtin.List.listFitsIndex i) = true) (h0:¬ (i < 0)) (hz:its.toArray.size <= sizeLine)
  (h:∀ g:Array Value -> Array Value,g its.toArray = (its.take (min i.toNat its.length) ++ [u2] ++ its.drop (min i.toNat its.length)).toArray -> Q .none { s with heap:=s.heap.update l (Obj.mapSeq g),toks:=s.toks }) :
  wpAny (model prog w) A (call (.builtin "list.insert") [.ref l,.int i t,u2]) Q E s:=by
 have hm:=@AutoSeq1.list_insert_list_int_val_1 l its.toArray n i t u2 hfit hz;have h1:s.TypeIs (.ref l) "list" := ⟨_,e,rfl⟩;refine call_meets (B:=Builtin.«list.insert») (self:=.ref l) (rest:=[.int i t,u2]) F.slot_list_insert h1 F.entry_list_insert (F.args_list_insert_3 _ _ _) hm ⟨e,?_⟩;refine h _ ?_;simp only [h0,zXW,zVD];simp;exact List.take_of_length_le (by simp)
end
section
variable {X:Cx} {a o x1 x2:Expr} {pos p apos cpos:Pos} {f:FE}
def zKz:V -> List V -> Hp -> VK -> Prop:=fun x vs H Q=>∃ (l:Addr) (i:Int) (y:V) (xs:List V),x = .ref l /\ vs = [.int i,y] /\ H l = some (.lst xs) /\ 0 <= i /\ i.toNat <= xs.length /\ xs.length < sizeLine /\ Q .non (upd H l (.lst (xs.take i.toNat ++ [y] ++ xs.drop i.toNat)))
theorem zLt:MtM X "list.insert" zKz:=by
 intro zB s σ H x vs v us Q I rx rv h;obtain ⟨l,i,y,xs,rfl,rfl,hH,h0,hi,hz,q⟩:=h;cases rx;obtain ⟨u,u2,rfl,⟨t,rfl⟩,ru2⟩:=rv.two;obtain ⟨z,its,n,r,hl,e⟩:=I.lstM hH;have hs:(sizeLine:Nat) < 2 ^ 62:=by decide
 have hi1 : -(2 ^ 63) <= i:=by omega
 have hi2:i < 2 ^ 63:=by omega
 refine zN2 (its:=its) e (by rw [fitsIndex_both hi1 hi2]; exact zVR) (by omega) (by rw [zVD,<- hl]; exact Nat.le_of_lt hz) fun g hg=>?_;rw [Nat.min_eq_left (by omega)] at hg;exact ⟨.non,_,I.lset (its':=its.take i.toNat ++ [u2] ++ its.drop i.toNat) (ys:=xs.take i.toNat ++ [y] ++ xs.drop i.toNat) hH e hg (((r.take i.toNat).append (.cons ru2 .nil)).append (r.drop i.toNat)) (by simp; omega),rfl,q⟩
def zDP:KM:=fun x ds M=>match x,ds with
 | .dat (.ref n),[.int i,d]=>match M[n]? with
  | some (.lst xs)=>if 0 <= i /\ i.toNat <= xs.length /\ xs.length < sizeLine then some (.non,M.set n (.lst (xs.take i.toNat ++ [d] ++ xs.drop i.toNat))) else none
  | _=>none
 | _,_=>none
theorem zGr:∀ (k:Nat) {ds:List D} {vs:List V},zH L H ds vs -> zH L H (ds.take k) (vs.take k)
 | 0,_,_,_=> .nil
 | k + 1,[],vs,h=>by unfold zH at h; subst h; exact .nil
 | k + 1,d :: ds,vs,h=>by
  unfold zH at h;obtain ⟨v,r,rfl,h1,h2⟩:=h;exact .cons h1 (zGr k h2)
theorem zGu:∀ (k:Nat) {ds:List D} {vs:List V},zH L H ds vs -> zH L H (ds.drop k) (vs.drop k)
 | 0,_,_,h=>h
 | k + 1,[],vs,h=>by unfold zH at h; subst h; exact .nil
 | k + 1,d :: ds,vs,h=>by
  unfold zH at h;obtain ⟨v,r,rfl,h1,h2⟩:=h;exact zGu k h2
theorem zKZ {K:PySem.W.Frag}:zNB K zKz zDP:=by
 intro L M M' H H0 x ds d v vs Q c rx rd hk q;unfold zDP at hk;split at hk
 ·rename_i n i d';split at hk
  ·rename_i xs e1;split at hk
   ·rename_i hz;cases hk;unfold zV Rep at rx;obtain ⟨a,rfl,e2⟩:=rx;obtain ⟨ws,e3,r3⟩:=c.obj n a _ e2 e1;obtain ⟨w1,w2,rfl,r4,r5⟩:=rd.two;have hw:w1 = .int i:=by unfold Rep at r4; exact r4
    subst hw;obtain ⟨c5,s5⟩:=c.write e2 e1 (((zGr i.toNat r3).app (.cons r5 .nil)).app (zGu i.toNat r3));exact ⟨a,i,w2,ws,rfl,rfl,e3,hz.1,by rw [r3.length]; exact hz.2.1,by rw [r3.length]; exact hz.2.2,q L _ _ s5 c5 (by unfold Rep; rfl)⟩
   ·cases hk
  ·cases hk
 ·cases hk
theorem zPA (h:QE X a f) (hg:QA X [x1,x2] fg) (hbase:attributeBase a "insert" X.env (eval a X.env) = eval a X.env:=by rfl)
  (hfew:((backTo cpos (starEach [x1,x2] X.env)).all (fun x=> !x.1) && (backToKw cpos (keywordEach [] X.env)).all (fun x=>x.1.isSome) && decide ([x1,x2].length + ([]:List Keyword).length + (if ([]:List Keyword).isEmpty then 0 else 1) < 30)) = true:=by rfl)
  (hline:(apos.endLine == cpos.line) = true:=by rfl) (hs:starEach [x1,x2] X.env = (false,eval x1 X.env) :: starEach [x2] X.env:=by rfl) (hplain:(backTo cpos (starEach [x2] X.env)).any (·.1) = false:=by rfl) :
  QE X (.Call (.Attribute a "insert" apos) [x1,x2] [] cpos) (fM zDP f fg) :=
 .mk <| PE.imp (zJj PySem.F.plainAttrs_list PySem.F.slot_list_insert PySem.F.type_list_insert zLt h.un hg.un hbase hfew hline hs hplain) fun _ _ _ z=>zFf zKZ z
end
noncomputable def zIL (fg:FG) (tc:FT) (fi2:FI) (own2:List Nat) (fg2:FG) (tc2:FT) (te:FE) (σ:Sd) (all:List D) (gd:Option (Mem -> Prop)):List D -> List D -> Mem -> Option (List D × Mem)
 | [],acc,M=>open Classical in if zAX gd all M then some (acc,M) else none
 | x :: r,acc,M=>open Classical in if zAX gd all M then match fg x σ with
   | some σ1=>match tc σ1 M with
    | some (true,M1)=>match fi2 σ1 M1 with
     | some (ys,gd2,M2)=>if acc.length + ys.length <= sizeLine then match zAV fg2 tc2 te (zAp own2 σ1) ys gd2 ys M2 with
       | some (ds,M3)=>zIL fg tc fi2 own2 fg2 tc2 te σ all gd r (acc ++ ds) M3
       | none=>none
      else none
     | none=>none
    | some (false,M1)=>zIL fg tc fi2 own2 fg2 tc2 te σ all gd r acc M1
    | none=>none
   | none=>none
  else none
noncomputable def zEg (own own2:List Nat) (fi:FI) (fg:FG) (tc:FT) (fi2:FI) (fg2:FG) (tc2:FT) (te:FE):FE:=fun σ M=>match fi σ M with
 | some (xs,gd,M1)=>match zIL fg tc fi2 own2 fg2 tc2 te (zAp own σ) xs gd xs [] M1 with
  | some (ys,M2)=>some (.fl ys,M2)
  | none=>none
 | none=>none
theorem zKq {K:PySem.W.Frag} {own own2:List Nat} {fi fi2:FI} {g g2:TG} {fg fg2:FG} {tc tc2:FT} {te:FE} (hg:zDs own g fg) (hg2:zDs own2 g2 fg2) {τ:Sv} {H:Hp} {Q:VK} (h:trE K (zEg own own2 fi fg tc fi2 fg2 tc2 te) τ H Q) :
  zOD own own2 (trI K fi) g (trT K tc) (trI K fi2) g2 (trT K tc2) (trD K (toD te)) τ H Q:=by
 obtain ⟨L,σ,M,d,Mf,c,rs,hf,q⟩:=h;unfold zEg at hf;split at hf
 ·rename_i xs gd M1 e1;split at hf
  ·rename_i zs M2 e2;cases hf;refine ⟨L,σ,M,_,_,_,c,rs,e1,fun L1 H1 J s1 c1 it=>?_⟩
   refine ⟨fun i m ys H'=>m = xs.length - i /\ i <= xs.length /\ ∃ L' M' as,Stp L1 H1 L' H' /\ Cor K L' M' H' /\ zH L' H' as ys /\ as.length <= sizeLine /\ zIL fg tc fi2 own2 fg2 tc2 te (zAp own σ) xs gd (xs.drop i) as M' = some (zs,Mf),
    ⟨xs.length,by simp,zVr _,L1,M1,[],.refl _ _,c1,.nil,zVr _,by simpa using e2⟩,?_⟩
   rintro i m ys H' ⟨rfl,hi,L',M',as,s',c',r',hl,e'⟩;by_cases hlt:i < xs.length
   ·rw [zBi hlt] at e';unfold zIL at e';split at e'
    ·rename_i hgd;obtain ⟨step,_⟩:=it L' H' M' s' c' hgd;obtain ⟨go,yl⟩:=step i xs[i] (zU9 hlt);split at e'
     ·rename_i σ1 eg;refine .inr ⟨go,fun v H2 hy=>?_⟩;obtain ⟨gr,rv⟩:=yl v H2 hy;have s2:Stp L1 H1 L' H2:=s'.yld gr;refine hg (zDO own ((rs.stp s1).stp s2)) (.refl _) rv eg fun τ2 r2 x2=>⟨x2,?_⟩;split at e'
      ·rename_i M3 e3;split at e'
       ·rename_i ys2 gd2 M4 e4;split at e'
        ·rename_i hz2;split at e'
         ·rename_i ds M5 e5;refine ⟨L',σ1,M',_,_,c'.grow gr,r2,e3,fun L3 H3 s3 c3=>zEf ?_⟩;have st3:Stp L' H' L3 H3:=(Stp.grow gr).trans s3;refine ⟨L3,σ1,M3,_,_,_,c3,r2.stp s3,e4,fun L4 H4 J2 s4 c4 it2=>?_⟩
          refine ⟨fun j m2 ws H5=>m2 = ys2.length - j /\ j <= ys2.length /\ ∃ L5 M6 bs cs,Stp L4 H4 L5 H5 /\ Cor K L5 M6 H5 /\ zH L5 H5 (as ++ bs) ws /\ bs.length <= j /\ zAV fg2 tc2 te (zAp own2 σ1) ys2 gd2 (ys2.drop j) M6 = some (cs,M5) /\ bs ++ cs = ds,
           ⟨ys2.length,by simp,zVr _,L4,M4,[],ds,.refl _ _,c4,by simpa using (r'.stp st3).stp s4,zVB _,by simpa using e5,rfl⟩,?_⟩
          rintro j m2 ws H5 ⟨rfl,hj,L5,M6,bs,cs,s5,c5,r5,hbl,e6,hbc⟩;have hws:ws.length <= as.length + j:=by rw [r5.length,zVL]; omega
          by_cases hlt2:j < ys2.length
          ·rw [zBi hlt2] at e6;unfold zAV at e6;split at e6
           ·rename_i hgd2;obtain ⟨step2,_⟩:=it2 L5 H5 M6 s5 c5 hgd2;obtain ⟨go2,yl2⟩:=step2 j ys2[j] (zU9 hlt2);split at e6
            ·rename_i σ2 eg2;refine .inr ⟨go2,fun v2 H6 hy2=>?_⟩;obtain ⟨gr2,rv2⟩:=yl2 v2 H6 hy2;have s6:Stp L4 H4 L5 H6:=s5.yld gr2;refine hg2 (zDO own2 (((r2.stp s3).stp s4).stp s6)) (.refl _) rv2 eg2 fun τ3 r3 x3=>⟨x3,?_⟩;split at e6
             ·rename_i M7 e7;split at e6
              ·rename_i d M8 e8;split at e6
               ·rename_i ds' M9 e9;cases e6;refine ⟨L5,σ2,M6,_,_,c5.grow gr2,r3,e7,fun L7 H7 s7 c7=>zEf ?_⟩;refine ⟨L7,σ2,M7,_,_,c7,r3.stp s7,e8,fun L8 H8 w s8 c8 r8=>?_⟩;have st:Stp L5 H5 L8 H8:=((Stp.grow gr2).trans s7).trans s8;refine ⟨by omega,ys2.length - (j + 1),by omega,rfl,hlt2,L8,M8,bs ++ [d],ds',s5.trans st,c8,?_,by simp; omega,e9,by rw [<- hbc]; simp⟩;have:=(r5.stp st).app (.cons r8 .nil);simpa using this
               ·cases e6
              ·cases e6
             ·rename_i M7 e7;refine ⟨L5,σ2,M6,_,_,c5.grow gr2,r3,e7,fun L7 H7 s7 c7=>zEi ?_⟩;have st:Stp L5 H5 L7 H7:=(Stp.grow gr2).trans s7;exact ⟨ys2.length - (j + 1),by omega,rfl,hlt2,L7,M7,bs,cs,s5.trans st,c7,r5.stp st,by omega,e6,hbc⟩
             ·cases e6
            ·cases e6
           ·cases e6
          ·have hj':j = ys2.length:=by omega
           subst hj';rw [List.drop_length] at e6;unfold zAV at e6;split at e6
           ·rename_i hgd2;cases e6;obtain ⟨_,stop2⟩:=it2 L5 H5 _ s5 c5 hgd2;rw [zVp] at hbc;subst hbc;refine .inl ⟨stop2,xs.length - (i + 1),by omega,rfl,hlt,L5,M5,as ++ bs,s'.trans ((st3.trans s4).trans s5),c5,r5,by rw [zVL]; omega,e'⟩
           ·cases e6
         ·cases e'
        ·cases e'
       ·cases e'
      ·rename_i M3 e3;refine ⟨L',σ1,M',_,_,c'.grow gr,r2,e3,fun L3 H3 s3 c3=>zEi ?_⟩;have st:Stp L' H' L3 H3:=(Stp.grow gr).trans s3;exact ⟨xs.length - (i + 1),by omega,rfl,hlt,L3,M3,as,s'.trans st,c3,r'.stp st,hl,e'⟩
      ·cases e'
     ·cases e'
    ·cases e'
   ·have hi':i = xs.length:=by omega
    subst hi';rw [List.drop_length] at e';unfold zIL at e';split at e'
    ·rename_i hgd;cases e';obtain ⟨_,stop⟩:=it L' H' _ s' c' hgd;refine .inl ⟨stop,by rw [r'.length]; exact hl,fun p hp=>?_⟩;exact q L' _ _ ((s1.trans s').trans (.upd hp)) (c'.upd hp) (zV.newLst (s1.trans s') c c' hp r')
    ·cases e'
  ·cases hf
 ·cases hf
section
variable {X:Cx} {scope:Scope} {elt t1 i1 t2 i2:Expr} {f1 f2:List Expr} {pos:Pos}
structure QParts2 (X:Cx) (scope:Scope) (t1:Expr) (f1:List Expr) (t2 i2:Expr) (f2:List Expr) (elt:Expr) (g:TG) (tc:FT) (fi2:FI) (g2:TG) (tc2:FT) (te:FE):Prop where
 g:∀ zB cl s H fp,PG (zG X zB scope cl s H fp) t1 g
 c:∀ zB cl s H fp,QIfs (zG X zB scope cl s H fp) f1 tc
 w2:∀ zB cl s H fp,QI (zG X zB scope cl s H fp) t2 i2 fi2
 g2:∀ zB cl s H fp,PG (zG X zB scope cl s H fp) t2 g2
 c2:∀ zB cl s H fp,QIfs (zG X zB scope cl s H fp) f2 tc2
 e:∀ zB cl s H fp,QE (zG X zB scope cl s H fp) elt te
 s2:∀ zB cl s H fp x,foldedSetIterable i2 (zG X zB scope cl s H fp).env x = pure x
theorem zQd {own own2:List Nat} {fi fi2:FI} {g g2:TG} {fg fg2:FG} {tc tc2:FT} {te:FE} (hsub:∀ i ∈ own2,i ∈ own) (hg:zDs own g fg) (hg2:zDs own2 g2 fg2) (C:CompIn X scope own) (hcalm:X.calm = true) (hi:QI X t1 i1 fi) (p:QParts2 X scope t1 f1 t2 i2 f2 elt g tc fi2 g2 tc2 te) (hs:∀ x,foldedSetIterable i1 X.env x = pure x:=by intro _; rfl) :
  QE X (zA0 elt t1 i1 f1 t2 i2 f2 scope pos) (zEg own own2 fi fg tc fi2 fg2 tc2 te) :=
 .mk <| PE.imp (zOE hsub C hcalm hi.un ⟨p.g,fun zB cl s H fp=>(p.c zB cl s H fp).un,fun zB cl s H fp=>(p.w2 zB cl s H fp).un,p.g2,fun zB cl s H fp=>(p.c2 zB cl s H fp).un,fun zB cl s H fp=>(zBb (p.e zB cl s H fp)).un,p.s2⟩ hs) fun _ _ _ h=>zKq hg hg2 h
end
end L3
namespace L2
open PySem PySem.Spec PyProof.Rows
section
variable {X:Cx} {scope:Scope} {tg kx vx iter:Expr} {ifs:List Expr} {pos:Pos} {own:List Nat} {isT:Bool} {wi:TI} {g:TG} {tc:TT} {tk tv:TE}
theorem zFa (hN:X.N.Nodup) (hi':X.N[i]? = some x) (hx:Loc X.env.scope x) (hfn:X.fn x = true \/ X.env.scope.names.lookup x = some .local)
  (hsw:swapsWith (.DictComp kx vx [⟨tg,iter,ifs,0⟩] scope pos) (some (.Name x pos')) pos''.line X.env = pure true)
  (hu:X.A.units + 1 < cLine) (C:CompIn X scope own) (hcalm:X.calm = true) (hi:PI X tg iter wi) (p:CompParts X scope tg ifs kx g tc tk) (p2:∀ zB cl s H fp,PE (zG X zB scope cl s H fp) vx tv) (hs:∀ x,foldedSetIterable iter X.env x = pure x:=by intro _; rfl) :
  PS X (.Assign [.Name x pos'] (.DictComp kx vx [⟨tg,iter,ifs,0⟩] scope pos) pos'') (zO9 (zES isT own wi g tc tk tv) (zBE i)):=by
 intro zB s σ H D I h;obtain ⟨cl,hcl,c1,c2⟩:=C.sc.closure I;rw [exec_Assign_Name_used _ _ _ _ hsw];refine zU5 (zV3 (zU5 ?_));show wpAny _ X.A (do let _ <- comprehension (.DictComp kx vx [⟨tg,iter,ifs,0⟩] scope pos) scope X.env _ newDict false (eval iter X.env) (some (assign (.Name x pos') X.env))) _ _ s
 refine zU5 (zVb (zWz (use:=some (assign (.Name x pos') X.env)) (Q:=fun _ s'=>SP X zB D .next s') rfl hs hcl C.sc.kind C.sc.names
  (thn (hi zB s σ H _ I h) fun v s1 h1=>thn h1 fun itv s2 h2=>?_)) (fun _ s' hq=>zU7 (zU7 hq)) fun _ _ e=>e)
 obtain ⟨it,fp,tn,J,H2,e,I2,T,st2,f2,hD⟩:=h2;subst e;obtain ⟨W,⟨m0,w0⟩,turn⟩:=hD s2.heap.objs.size (I2.hok.fresh (zVB _))
 refine zCl hu C hcalm I2 T st2 f2 c1 c2 (p.g _ _ _ _ _) (p.c _ _ _ _ _) (p.e _ _ _ _ _) (p2 _ _ _ _ _) (RR:=fun acc C r s'=>compPost (model X.prog X.w) X.A X.xe (some (assign (.Name x pos') X.env)) (fun _ s'=>SP X zB D .next s') acc C r s')
  (QQ:=fun H=>zBE i (.ref s2.heap.objs.size) σ H D.nx) w0 turn ?_
 intro σc H' s' Ic qq;obtain ⟨m,hn,_⟩:=Ic.loc;have J':=zDa (h':=s'.heap) I2 f2 Ic (.refl ..);obtain ⟨oC,es,ep,hoC,hdC,r1,r2⟩:=id hn;have nC:H' (s2.heap.objs.size + 1) = none:=Ic.free;have K':Inv X (zB ++ [(s2.heap.objs.size + 1,oC)]) σ H' s':=J'.pins_of fun q hq=>by
  rcases zVV.mp hq with z | z
  ·exact J'.pin q (zVP _ z)
  ·have e:q = (s2.heap.objs.size + 1,oC):=by simpa using z
   subst e;refine ⟨hoC,nC,zWa (zVu I2.lt),I2.nofs (zWn _),fun v z=>?_⟩;have z':oC.data = .cell v:=z;rw [hdC] at z'; cases z'
 show wpAny _ X.A (assign (.Name x pos') X.env (.ref s2.heap.objs.size)) _ _ _;refine thn (zHT hN hi' hx hfn _ s' σ _ (.ref s2.heap.objs.size) (.ref s2.heap.objs.size) _ K' rfl qq) fun _ s'' ⟨σ'',H'',I'',q''⟩=>?_;obtain ⟨eC,_⟩:=I''.pin (s2.heap.objs.size + 1,oC) (by simp);refine ⟨m,⟨oC,es,ep,eC,hdC,r1,r2⟩,fun h' hs'=>⟨σ'',H'',?_,q''⟩⟩;have I3:Inv X zB σ'' H'' s'':=I''.unpinned;obtain ⟨_,nC'',neC,_,_⟩:=I''.pin (s2.heap.objs.size + 1,oC) (by simp);refine I3.turned (t':=s''.toks) (it:=s2.heap.objs.size + 1) (fun b o hb e=>hs'.extBut b o hb e) nC'' neC (.inr (zVW I2.sz (zWn _))) (fun x c e z=>?_) (fun q hq z=>?_)
 ·obtain ⟨v,o,ho,hd⟩:=I3.cell x c e;rw [z,eC] at ho; cases ho;rw [hdC] at hd; cases hd
 ·obtain ⟨e,_⟩:=I2.pin q hq;exact zVQ (zVu (zVG e)) z
end
end L2
namespace L3
open PySem PySem.Spec PyProof.Rows L2
section
variable {X:Cx} {scope:Scope} {tg kx vx iter:Expr} {ifs:List Expr} {pos:Pos} {own:List Nat} {isT:Bool}
theorem zKL (hN:X.N.Nodup) (hi':X.N[i]? = some x) (hx:Loc X.env.scope x) (hfn:X.fn x = true \/ X.env.scope.names.lookup x = some .local)
  (hsw:swapsWith (.DictComp kx vx [⟨tg,iter,ifs,0⟩] scope pos) (some (.Name x pos')) pos''.line X.env = pure true)
  (hu:X.A.units + 1 < cLine) (hg:zDs own g fg) (C:CompIn X scope own) (hcalm:X.calm = true) (hi:QI X tg iter fi) (p:QParts X scope tg ifs kx g tc tk) (p2:∀ zB cl s H fp,QE (zG X zB scope cl s H fp) vx tv) (hs:∀ x,foldedSetIterable iter X.env x = pure x:=by intro _; rfl) :
  QS X (.Assign [.Name x pos'] (.DictComp kx vx [⟨tg,iter,ifs,0⟩] scope pos) pos'') (zx i (zCJ isT own fi fg tc tk tv)) :=
 .mk <| PS.imp (zFa (isT:=isT) hN hi' hx hfn hsw hu C hcalm hi.un p.parts (fun _ _ _ _ _=>(zBb (p2 _ _ _ _ _)).un) hs) fun _ _ _ z=>zFz (fun _ _ _ z=>zF2 hg z) z
end
end L3
namespace L2
open PySem PySem.Spec PyProof.Rows
end L2
namespace L3
open PySem PySem.Spec PyProof.Rows L2
open SeqAt
structure Df (K:PySem.W.Frag) (mg:Str -> Option Value) (x:Str) (st:Stmt) (ps:List Str) where
 f:Addr
 fd:FuncData
 F:Fun K x x st f fd
 b:zFb K fd ps []
 m:mg x = some (.ref f)
structure Dg (K:PySem.W.Frag) (x:Str) (st:Stmt) where
 f:Addr
 {od an:Option Addr}
 {sl:Array (Option Value)}
 {oc kV dc pm cd ct:Value}
 a:PySem.W.nsIn K mainGlobals x = some (some (.ref f))
 l:K.lookup f = some ⟨oc,od,.func (PySem.W.fnOf x x (zDR st) (zB6 st) (zN st) .none kV dc pm an cd ct),sl⟩
 c:PySem.W.codeIn K cd x = true
 k:PySem.W.keepIn K (.ref f) = true
abbrev Dg.df {K:PySem.W.Frag} {x:Str} {st:Stmt} {ps:List Str} {h:Heap} {mg:Str -> Option Value} (g:Dg K x st) (X:K.In h) (G:h.Ns mainGlobals mg)
  (hb:∀ (kV doc pm:Value) (an:Option Addr) (cdv ct:Value) (us:List Value),us.length = ps.length -> bindArgs (PySem.W.fnOf x x (zDR st) (zB6 st) (zN st) .none kV doc pm an cdv ct) ⟨us,[]⟩ = pure (ps.zip us)):Df K mg x st ps :=
 ⟨g.f,_,zNV g.l g.c g.k,(zNV g.l g.c g.k).binds hb,PySem.W.mg_of X G g.a⟩
abbrev Od (P:Program) (w:World) (base:Heap) (k:Nat) {K:PySem.W.Frag} {mg:Str -> Option Value} {x:Str} {st:Stmt} {ps:List Str} (d:Df K mg x st ps) (m:FF):Prop:=FnOk P w K mg base CX0 k d.f d.fd ps (spF K ps.length m)
abbrev Zn (K:PySem.W.Frag) (x:Str):Prop:=PySem.W.nsIn K mainGlobals x = some none
abbrev Ki (K:PySem.W.Frag) (t T:String) (b:Bool):Prop:=PySem.W.kitOne K (.type t) (.type T) = some b
theorem zGT {P:List Value -> Prop} (h:∀ a,P [a]):∀ us:List Value,us.length = 1 -> P us
 | [a],_=>h a
theorem zOH {P:List Value -> Prop} (h:∀ a b,P [a,b]):∀ us:List Value,us.length = 2 -> P us
 | [a,b],_=>h a b
theorem zOi {P:List Value -> Prop} (h:∀ a b c,P [a,b,c]):∀ us:List Value,us.length = 3 -> P us
 | [a,b,c],_=>h a b c
theorem zUj {P:List Value -> Prop} (h:∀ a b c d,P [a,b,c,d]):∀ us:List Value,us.length = 4 -> P us
 | [a,b,c,d],_=>h a b c d
section
variable {X:Cx} {e:Expr} {es:List Expr} {pos p:Pos} {x:Str} {k:Nat} {st:Stmt} {ps:List Str}
theorem zUa {d:Df X.K X.mg x st ps} (F:FnOk X.prog X.w X.K X.mg X.base CX0 k d.f d.fd ps (spF X.K (e :: es).length g)) (hr:Room k X.A) (hg:Gl X x)
  (ha:QA X (e :: es) fa) (hl:∀ σ M ds M1,fa σ M = some (ds,M1) -> ds.length = (e :: es).length) (hdb:(x == ("__debug__" : Str)) = false) (he:starEach (e :: es) X.env = (false,eval e X.env) :: starEach es X.env) (hpl:(backTo pos (starEach es X.env)).any (·.1) = false) :
  QE X (.Call (.Name x p) (e :: es) [] pos) (zR g fa):=zSI F hr hg d.m d.F.kp d.b ha hl hdb he hpl
theorem zU0 (hN:X.N.Nodup) (hi:X.N[i]? = some x) (h:QE X e f) (hx:Loc X.env.scope x:=by first | exact Or.inl rfl | exact Or.inr rfl) (hs:swapsWith e (some (.Name x pos')) pos.line X.env = pure false:=by rfl)
  (hf:X.fn x = true \/ X.env.scope.names.lookup x = some .local:=by first | exact .inl rfl | exact .inr rfl | assumption):QS X (.Assign [.Name x pos'] e pos) (zx i f):=zTk hN hi hx h hs hf
theorem zUF (hN:X.N.Nodup) (hi:X.N[i]? = some x) (hx:Loc X.env.scope x:=by first | exact Or.inl rfl | exact Or.inr rfl) (hf:X.fn x = true \/ X.env.scope.names.lookup x = some .local:=by first | exact .inl rfl | exact .inr rfl | assumption):PG X (.Name x pos) (zBE i):=zHT hN hi hx hf
end
section
variable {prog:Program} {w:World} {A:Around} {E:Value -> Shared -> Prop} {s:Shared} {it d v:Addr} {i ep:Nat} {ok ov:Value} {o:Obj} {es:Array DictEntry}
theorem zLu (hv:s.heap.IsItemsView v d) (ho:s.heap.get? d = some o) (hdat:o.data = .dict es ep)
  (hQ:Q (.ref s.heap.objs.size) { s with heap:=s.heap.push { cls:=.type "dict_itemiterator", data:=.fields #[.none,.bool false,.ref d,.int 0 0,.int es.size 0,.int ep 0,.none,.none] } }):wpAny (model prog w) A (pyIter (.ref v)) Q E s:=by
 obtain ⟨q,hq,_,hd⟩:=id hv;refine wpAny_pyIter_slot hv.typeIs F.slot_dict_items_iter (zVi F.slot_dict_items_iter hv.typeIs F.entry_dict_items_iter ?_ (F.args_dict_items_iter_1 _));unfold Builtin.«dict_items.__iter__»;refine zU5 (zU7 (zU5 ?_));unfold Builtin.Dict_items.dictOf;refine zU5 (zVk hq hd (x:=.ref d) rfl (zU7 (zU5 ?_)));unfold Builtin.Dict_items.newIterator;refine zU5 (wpAny_dictEntries ho hdat (zU5 (wpAny_dictEpoch ho hdat ?_)));simp only [show Builtin.Dict_items.ownsTuple "dict_itemiterator" = true by decide,if_true];refine zVY (zU7 ⟨_,rfl, "dict_itemiterator", _,⟨_,zVF _ rfl,rfl⟩,F.slot_dict_itemiterator_next.lookup,?_⟩) (by simp only [sizeOk,Builtin.Dict_items.ownedTupleFields,zVD,zVL,zVc,List.length_nil,sizeLine_eq]; omega);simpa [rawInt,Builtin.Dict_items.ownedTupleFields] using hQ
theorem zFN (hh:A.handled = none) (hit:IsItemIter s.heap it d i es.size ep ok ov) (hod:s.heap.get? d = some o) (hdd:o.data = .dict es ep) (hge:es.size <= i)
  (hQ:∀ h',Heap.ExtBut it s.heap h' -> Q none { s with heap:=h' }):wpAny (model prog w) A (pyNext (.ref it)) Q E s:=by
 have hT:s.TypeIs (.ref it) "dict_itemiterator" := ⟨_,hit,rfl⟩;unfold pyNext;refine zU5 (zWg (zVh (name:=Str.ofString "__next__") hT F.slot_dict_itemiterator_next (zVi F.slot_dict_itemiterator_next hT F.entry_dict_itemiterator_next ?_ (F.args_dict_itemiterator_next_1 _))));refine zU5 (zU7 (zU5 (zU5 ?_)));first | refine zU5 (wpAny_typeNameOfWhole_itemiter hT (zU7 ?_)) | refine zU5 (wpAny_typeNameOf_itemiter hT (zU7 ?_))
 refine zU5 (wpAny_fieldsOf hit rfl ?_);simp only [show Builtin.Dict_items.ownsTuple "dict_itemiterator" = true by decide,if_true];show wpAny _ _ (if (Value.ref d == Value.none) = true then _ else _) _ _ s;rw [zVN (show ¬ ((Value.ref d == Value.none) = true) from zVR)];refine zU5 (zU7 (zU5 (wpAny_dictEntries hod hdd ?_)));rw [zVN (by simp)];refine zU5 (zU7 (zU5 (wpAny_dictEpoch hod hdd ?_)));rw [zVN (by simp)];refine zU7 ?_;simp only [show ¬ ((i:Int) < 0) from by omega,zXW,Int.toNat_natCast,Array.getElem?_eq_none hge];refine zU5 ?_;first | refine zU5 (wpAny_typeNameOfWhole_itemiter hT (zU7 ?_)) | refine zU5 (wpAny_typeNameOf_itemiter hT (zU7 ?_))
 show wpAny _ _ (setField (.ref it) 2 .none >>= _) _ _ s;refine zU5 (zWq hit rfl (by simp) ?_);show wpAny _ _ (newExc (.type "StopIteration") [] >>= _) _ _ _;refine zU5 ?_;simp only [newExc,newTuple];refine zU5 (zVY ?_ (by size_fits));refine zU5 (m:=firstArgMember _ _) (wpAny_of_eq (a:=Value.none) (by first | rfl | (simp only [firstArgMember]; rfl)) ?_);refine zVY ?_ (by size_fits);simp only [raiseNew];refine zU5 (wpAny_handled ?_);rw [show A.in1.handled = none from hh];refine zU5 (zU7 (wpAny_throw ?_));refine zU5 (wpAny_isInstance (T := "StopIteration") (b:=true) ⟨_,zVF _ rfl,rfl⟩ isSubtype_stop ?_);exact zU7 (hQ _ (((zV8 ..).extBut.push _).push _))
theorem zKU (hit:IsItemIter s.heap it d i es.size ep ok ov) (hod:s.heap.get? d = some o) (hdd:o.data = .dict es ep) (hx:es[i]? = some e)
  (hQ:∀ h',IsItemIterOut h' it d (i + 1) es.size ep e.key e.val s.heap.objs.size -> h'.get? s.heap.objs.size = some { cls:=.type "tuple", data:=.seq #[e.key,e.val] } -> (∀ b o,b ≠ it -> s.heap.get? b = some o -> h'.get? b = some o) -> Q (some (.ref s.heap.objs.size)) { s with heap:=h' }) :
  wpAny (model prog w) A (pyNext (.ref it)) Q E s:=by
 obtain ⟨hp,g,dr,tk,os⟩:=s;have hT:Shared.TypeIs ⟨hp,g,dr,tk,os⟩ (.ref it) "dict_itemiterator" := ⟨_,hit,rfl⟩;obtain ⟨hlt,hxe⟩:=Array.getElem?_eq_some_iff.mp hx;unfold pyNext;refine zU5 (zWg (zVh (name:=Str.ofString "__next__") hT F.slot_dict_itemiterator_next (zVi F.slot_dict_itemiterator_next hT F.entry_dict_itemiterator_next ?_ (F.args_dict_itemiterator_next_1 _))));refine zU5 (zU7 (zU5 (zU5 ?_)));first | refine zU5 (wpAny_typeNameOfWhole_itemiter hT (zU7 ?_)) | refine zU5 (wpAny_typeNameOf_itemiter hT (zU7 ?_))
 refine zU5 (wpAny_fieldsOf hit rfl ?_);simp only [show Builtin.Dict_items.ownsTuple "dict_itemiterator" = true by decide,if_true];show wpAny _ _ (if (Value.ref d == Value.none) = true then _ else _) _ _ _;rw [zVN (show ¬ ((Value.ref d == Value.none) = true) from zVR)];refine zU5 (zU7 (zU5 (wpAny_dictEntries hod hdd ?_)));rw [zVN (by simp)];refine zU5 (zU7 (zU5 (wpAny_dictEpoch hod hdd ?_)));rw [zVN (by simp)];refine zU7 ?_;simp only [show ¬ ((i:Int) < 0) from by omega,zXW,Int.toNat_natCast,zVq hlt,hxe];refine zU5 ?_;first | refine zU5 (wpAny_typeNameOfWhole_itemiter hT (zU7 ?_)) | refine zU5 (wpAny_typeNameOf_itemiter hT (zU7 ?_))
 refine zU5 (wpAny_isOneOf_itemiter hT ?_);show wpAny _ _ (setField (.ref it) 3 (rawInt ((i:Int) + 1)) >>= _) _ _ ⟨hp,g,dr,tk,os⟩;refine zU5 (wpAny_setField_rec hit (by simp) fun h1 he1 hs1=>?_);replace hs1:Heap.SameBut it hp h1:=hs1;replace he1:IsItemIter h1 it d (i + 1) es.size ep ok ov:=by
  have q:((i + 1:Nat):Int) = (i:Int) + 1:=by omega
  unfold IsItemIter; rw [q]; simpa [rawInt] using he1
 have hT1:Shared.TypeIs ⟨h1,g,dr,tk,os⟩ (.ref it) "dict_itemiterator" := ⟨_,he1,rfl⟩;refine zU5 (zVy (zU5 (wpAny_isOneOf_itemiter hT1 (zU5 (wpAny_isOneOf_itemiter hT1 ?_)))));show wpAny _ _ (Builtin.Dict_items.pairFromOwner (.ref it) 6 e.key e.val) _ _ ⟨h1,g,dr,tk,os⟩;unfold Builtin.Dict_items.pairFromOwner;refine zU5 (wpAny_newTuple ?_);have he2:IsItemIter (h1.push { cls:=.type "tuple", data:=.seq #[e.key,e.val] }) it d (i + 1) es.size ep ok ov:=zU6 _ he1;generalize hh2:h1.push { cls:=.type "tuple", data:=.seq #[e.key,e.val] } = h2 at he2;have z1:h1.objs.size = hp.objs.size:=hs1.1;have hil:it < hp.objs.size:=zVG hit;have t2:h2.get? hp.objs.size = some { cls:=.type "tuple", data:=.seq #[e.key,e.val] }:=by rw [<- hh2,<- z1]; exact zVF _ rfl
 have k2:∀ b o,b ≠ it -> hp.get? b = some o -> h2.get? b = some o:=fun b o hb q=>by rw [<- hh2]; exact zU6 _ (hs1.extBut b o hb q)
 show wpAny _ _ (Builtin.Dict_items.ownedTupleIsFree (.ref it) >>= _) _ _ ⟨h2,g,dr,tk,os⟩;rw [z1];clear hh2 he1 hs1 hT1 z1 h1;refine zU5 ?_;unfold Builtin.Dict_items.ownedTupleIsFree;refine zU5 (zVk he2 rfl (x:=.none) rfl (zU7 ?_));simp only [if_true];refine zU5 (zVk he2 rfl (x:=ok) rfl (zU5 (zVk he2 rfl (x:=ov) rfl ?_)));refine zU5 (wpAny_setField_rec he2 (by simp) fun h3 he3 hs3=>?_);replace he3:IsItemIter h3 it d (i + 1) es.size ep e.key ov:=he3;replace hs3:Heap.SameBut it h2 h3:=hs3;refine zU5 (wpAny_setField_rec he3 (by simp) fun h4 he4 hs4=>?_);replace he4:IsItemIter h4 it d (i + 1) es.size ep e.key e.val:=he4;replace hs4:Heap.SameBut it h3 h4:=hs4;refine zU5 (wpAny_setField_rec he4 (by simp) fun h5 he5 hs5=>?_);replace he5:IsItemIterOut h5 it d (i + 1) es.size ep e.key e.val hp.objs.size:=he5;replace hs5:Heap.SameBut it h4 h5:=hs5;refine zU5 (wpAny_setField_rec he5 (by simp) fun h6 he6 hs6=>?_);replace he6:IsItemIterOut h6 it d (i + 1) es.size ep e.key e.val hp.objs.size:=he6;replace hs6:Heap.SameBut it h5 h6:=hs6;have up:∀ b o,b ≠ it -> h2.get? b = some o -> h6.get? b = some o:=fun b o hb q=>hs6.extBut b o hb (hs5.extBut b o hb (hs4.extBut b o hb (hs3.extBut b o hb q)));exact zU5 (wpAny_letGo (zU7 (zU7 ⟨_,rfl,zU7 (hQ h6 he6 (up _ _ (zWa hil) t2) fun b o hb q=>up b o hb (k2 b o hb q))⟩)))
theorem zHr (d:Addr) (hd:(d == sysModules) = false) :
  MeetsIn prog w (Builtin.«dict.items» ⟨[.ref d],[]⟩) (fun _ R s=>s.TypeIs (.ref d) "dict" /\ R (.ok (.ret (.ref s.heap.objs.size))) { s with heap:=s.heap.push { cls:=.type "dict_items", data:=.fields #[.ref d] } }) :=
 .of_wp fun A R s ⟨hT,h⟩=>by
  unfold Builtin.«dict.items»;refine zU5 ?_;unfold Builtin.Dict.noArgs;refine zU5 (wpAny_notOrdered_dict hT ?_);show wpAny _ _ (pure d) _ _ s;refine zU7 ?_;show wpAny _ _ (Builtin.Dict.showsAll d >>= _) _ _ s;unfold Builtin.Dict.showsAll;rw [zVN (by rw [hd]; exact zVR)];exact zU5 (zU7 (zU5 (zVY (zU7 ⟨_,rfl,h⟩))))
end
theorem zGO:entryFor table "dict_itemiterator.__iter__" = some Builtin.«dict_keyiterator.__iter__»:=entryFor_alias (id' := "dict_keyiterator.__iter__") (by kernel_rfl) rfl (by decide +kernel) (by kernel_rfl)
theorem zGW (he:IsItemIter s.heap it d i n ep ok ov) (h:Q (.ref it) s):wpAny (model prog w) A (pyIter (.ref it)) Q E s:=by
 have hT:s.TypeIs (.ref it) "dict_itemiterator" := ⟨_,he,rfl⟩;refine wpAny_pyIter_slot hT F.slot_dict_itemiterator_iter (zVi F.slot_dict_itemiterator_iter hT zGO ?_ (F.args_dict_itemiterator_iter_1 _));show wpAny _ _ (ret (.ref it)) _ _ s;exact zU7 ⟨_,rfl, "dict_itemiterator", _,hT,F.slot_dict_itemiterator_next.lookup,h⟩
def zTl (d:Addr) (o:Obj) (kvs:List (List Key × V)):It :=
 ⟨fun i H=>H d = some (.frz o (.dT kvs)) /\ i < kvs.length,
  fun i H v H'=>∃ T b k x,kvs[i]? = some (k,x) /\ v = .ref T /\ H T = none /\ H b = some (.tup (k.map kV)) /\ H' = upd H T (.tup [.ref b,x]),
  fun i H=>H d = some (.frz o (.dT kvs)) /\ kvs.length <= i⟩
theorem zON (I:Inv X zB σ H s) (hd:o.data = .dict es ep) (e:H d = some (.frz o (.dT kvs))) :
  s.heap.get? d = some o /\ ∃ xs,KT H kvs xs /\ es.toList = xs.map (entryOfKey (tupleKind (zi X.prog X.w))) /\ kvs.length = es.size:=by
 obtain ⟨h0,_,_,xs,r,o',es',ep',h1,_,h3,h4,_⟩:=(show zl X.prog X.w H s.heap d (.frz o (.dT kvs)) from I.hok d _ e);rw [h0] at h1; cases h1;rw [hd] at h3; cases h3;refine ⟨h0,xs,r,h4,?_⟩;have h5:es.toList.length = xs.length:=by rw [h4,zVE]
 rw [Paired.length r,<- h5,zVo]
theorem zRY:∀ {kvs:List (List Key × V)} {xs:List (List Key × Addr × Value)} {i:Nat} {k:List Key} {x:V},KT H kvs xs -> kvs[i]? = some (k,x) -> ∃ b u,xs[i]? = some (k,b,u) /\ H b = some (.tup (k.map kV)) /\ za x u:=by
 intro kvs xs i k x r;induction r generalizing i with
 | nil=>intro e; cases e
 | @cons p q ps qs hq t ih=>
  intro e;cases i with
  | zero=>
   cases e;obtain ⟨q1,q2,q3⟩:=q;exact ⟨q2,q3,by rw [show k = q1 from hq.1]; rfl,hq.2.1,hq.2.2⟩
  | succ j=>exact ih e
theorem zKt {P:Program} {w:World} {K:PySem.W.Frag} {tes:List Expr} {ek:Nat} {ep:Pos} {it d:Addr} {o:Obj} {kvs:List (List Key × V)} {es:Array DictEntry} {en:Nat} (hd:o.data = .dict es en) :
  Turn P w K (.Tuple tes ek ep) (zTl d o kvs) [it] it (fun i h=>∃ ok ov,IsItemIter h it d i es.size en ok ov) where
 mem:=zVX.mpr rfl;obj:=fun i h ⟨ok,ov,he⟩ c hc=>by
  cases zVX.mp hc;exact ⟨_,he,fun v m=>by cases m⟩
 keep:=fun i h h' ⟨ok,ov,he⟩ k=>⟨ok,ov,k it (zVX.mpr rfl) _ he⟩;item:=by
  intro X hP hw hK hc i zB s σ H E I hf Z hg;subst hP hw hK;obtain ⟨ok,ov,he⟩:=Z;obtain ⟨hg,hi⟩:=hg;obtain ⟨h0,xs,r,h4,hl⟩:=zON I hd hg;rcases hkx:kvs[i] with ⟨k,x⟩;have hk:kvs[i]? = some (k,x):=by rw [zU9 hi,hkx]
  obtain ⟨b,u,h5,h6,h7⟩:=zRY r hk;have hx:es[i]? = some (entryOfKey (tupleKind (zi X.prog X.w)) (k,b,u)):=by
   rw [<- zWk,h4,zVS,h5]; rfl
  have ilt:it < s.heap.objs.size:=zVG he;refine zKU he h0 hd hx fun h' ho hT kp=>⟨_,rfl,wpAny_letOwnedTupleGo_items ho fun h2 he2 e2=>?_⟩;have kk:∀ c q,c ∉ [it] -> s.heap.get? c = some q -> h2.get? c = some q:=fun c q n z=>e2.extBut _ _ (fun y=>n (zVX.mpr y)) (kp c q (fun y=>n (zVX.mpr y)) z);have NT:=e2.extBut _ _ (zWa ilt) hT;have hfr:H s.heap.objs.size = none:=I.hok.fresh (zVB _);refine ⟨.ref s.heap.objs.size,upd H s.heap.objs.size (.tup [.ref b,x]),zEx (s:=s) (h':=h2) (t':=s.toks) I hf kk (zVB _) ?_,rfl,⟨_,b,k,x,hk,rfl,hfr,h6,rfl⟩,⟨_,_,he2⟩,fun c hm=>?_⟩
  ·exact ⟨by show 2 <= sizeLine; decide,[.ref b,u],.cons rfl (.cons h7 .nil),⟨_,NT,rfl,⟨_,rfl⟩,rfl⟩⟩
  ·cases zVX.mp hm;rw [zS (zVQ ilt)];exact (hf it hm).1
 done:=by
  intro X hP hw hK hc i zB s σ H E I hf Z hg;subst hP hw hK;obtain ⟨ok,ov,he⟩:=Z;obtain ⟨hg,hi⟩:=hg;obtain ⟨h0,xs,r,h4,hl⟩:=zON I hd hg;exact zFN (I.ok.hd hc) he h0 hd (by omega) fun h' x=>⟨rfl,zGm (s:=s) (h':=h') (t':=s.toks) I hf fun c q n z=>x c q (fun y=>n (zVX.mpr y)) z⟩
 self:=fun A i s Q E Z h=>by
  obtain ⟨ok,ov,he⟩:=Z;exact zGW he h
theorem zRr (I:Inv X zB σ H s) (ed:H d = some (.dT kvs)):∃ o es en,s.heap.get? d = some o /\ o.data = .dict es en /\ Inv X zB σ (upd H d (.frz o (.dT kvs))) s:=by
 obtain ⟨z1,z2,xs,r,o,es',en,h1,h2,h3,h4,h5⟩:=(show zl X.prog X.w H s.heap d (.dT kvs) from I.hok d _ ed);refine ⟨o,es',en,h1,h3,zEG (s:=s) (h':=s.heap) (t':=s.toks) (ob:=.frz o (.dT kvs)) I (by rw [ed]; exact True.intro) (Heap.SameBut.refl _ _) ⟨o,h1⟩ ⟨h1,z1,z2,xs,KT.keeps r fun c ys ec=>?_,o,es',en,h1,h2,h3,h4,h5⟩⟩;rw [zS (zFh ec ed (fun z=>nomatch z))];exact ec
section
variable {X:Cx} {e:Expr} {es:List Expr} {ek:Nat} {ep apos cpos:Pos}
theorem zOb {td:TE} (ho:PE X e td) (hbase:attributeBase e "items" X.env (eval e X.env) = eval e X.env:=by rfl) (hline:(apos.endLine == cpos.line) = true:=by rfl) :
  PI X (.Tuple es ek ep) (.Call (.Attribute e "items" apos) [] [] cpos) (fun σ H R=>td σ H fun x H1=>∃ d kvs,x = .ref d /\ H1 d = some (.dT kvs) /\ ∀ o,R (zTl d o kvs) (upd H1 d (.frz o (.dT kvs)))):=by
 intro zB s σ H R I h;refine wpAny_Call_method0_late hbase hline (thn (ho zB s σ H _ I h) fun v s1 ⟨x,H1,I1,r1,d,kvs,ex,ed,q⟩=>?_);subst ex;cases r1;obtain ⟨t1,t2,t3⟩:=zKV I1 (.inr ⟨kvs,.inl ed⟩);refine ⟨"dict", "dict.items", PySem.F.plainAttrs_dict,PySem.F.slot_dict_items,PySem.F.type_dict_items,t1,t2,Calls.callWith_builtin rfl (PySem.evalArgs_none ?_)⟩;refine call_meetsIn PySem.F.slot_dict_items t1 PySem.F.entry_dict_items (PySem.F.args_dict_items_1 _) (zHr d t3) ⟨t1,?_⟩;obtain ⟨o,es',en,h1,h3,I0⟩:=zRr I1 ed;refine zLu (d:=d) (o:=o) (es:=es') (ep:=en) ⟨_,zVF _ rfl,rfl,rfl⟩ (zU6 _ h1) h3 ?_;have ge:s1.heap.objs.size <= (s1.heap.push { cls:=.type "dict_items", data:=.fields #[.ref d] }).objs.size:=by rw [zVl]; exact zWn _
 refine ⟨_,[_],_,_,_,rfl,I0.kept (t':=s1.toks) fun b q z=>zU6 _ (zU6 _ z),zKt h3,⟨_,_,zVF _ rfl⟩,fun c hc=>?_,q o⟩;cases zVX.mp hc;exact I0.fpOk ge (I0.hok.fresh ge)
end
theorem zQO (h:zEk d = some k):Rep L H d (kV k):=by
 cases d with
 | int i=>cases h; unfold Rep; rfl
 | str x=>cases h; unfold Rep; rfl
 | _=>cases h
theorem zIw:∀ {ds:List D} {ks:List Key},zCT ds = some ks -> zH L H ds (ks.map kV)
 | [],ks,h=>by cases h; exact .nil
 | d :: ds,ks,h=>by
  unfold zCT at h;cases e1:zEk d with
  | none=>rw [e1] at h; cases h
  | some k=>
   cases e2:zCT ds with
   | none=>rw [e1,e2] at h; cases h
   | some ks'=>rw [e1,e2] at h; cases h; exact .cons (zQO e1) (zIw e2)
theorem zNW (h:tkD d = some k) (e:H b = some (.tup (k.map kV))):Rep L H d (.ref b):=by
 cases d with
 | tup ds=>unfold Rep; exact ⟨b,_,rfl,e,zIw h⟩
 | _=>cases h
theorem zLM:∀ {ps:List (D × D)} {vs:List (List Key × V)} {i:Nat} {p:D × D},zAZ tkD L H ps vs -> ps[i]? = some p -> ∃ k x,vs[i]? = some (k,x) /\ tkD p.1 = some k /\ Rep L H p.2 x
 | [],_,i,p,_,e=>by cases e
 | q :: ps,vs,i,p,h,e=>by
  obtain ⟨k,v,r',rfl,e1,h1,h2⟩:=h;cases i with
  | zero=>cases e; exact ⟨k,v,rfl,e1,h1⟩
  | succ j=>exact zLM (ps:=ps) (i:=j) h2 (by rw [List.getElem?_cons_succ] at e; exact e)
def zFV (f:FE):FI:=fun σ M=>match f σ M with
 | some (.dat (.ref n),M1)=>match M1[n]? with
  | some (.dicT ps)=>some (ps.map fun p=>D.tup [p.1,p.2],none,M1.set n (.set []))
  | _=>none
 | _=>none
section
variable {X:Cx} {e:Expr} {es:List Expr} {ek:Nat} {ep apos cpos:Pos} {f:FE}
theorem zNZ (h:QE X e f) (hbase:attributeBase e "items" X.env (eval e X.env) = eval e X.env:=by rfl) (hline:(apos.endLine == cpos.line) = true:=by rfl) :
  QI X (.Tuple es ek ep) (.Call (.Attribute e "items" apos) [] [] cpos) (zFV f):=.mk <| PI.imp (zOb h.un hbase hline) fun τ H R zz=>by
 obtain ⟨L,σ,M,xs,gd,M',c,rs,hf,q⟩:=zz;unfold zFV at hf;split at hf
 ·rename_i n M1 e1;split at hf
  ·rename_i ps e2;cases hf;refine ⟨L,σ,M,_,_,c,rs,e1,fun L1 H1 v s1 c1 r1=>?_⟩;unfold zV Rep at r1;obtain ⟨a,rfl,ea⟩:=r1;obtain ⟨vs,e3,r3⟩:=c1.obj n a _ ea e2;refine ⟨a,vs,rfl,e3,fun o=>?_⟩;obtain ⟨c2,s2⟩:=c1.put (m:=.set []) (o':=.frz o (.dT vs)) ea e3 (fun _ z=>by cases z) (fun _ _ z=>by cases z) fun _=>⟨o,_,zo⟩;refine q L1 _ _ (s1.trans s2) c2 fun L2 H2 M2 s3 c3 _=>?_;have hz:H2 a = some (.frz o (.dT vs)):=s3.frz _ _ _ zo;have r4:=r3.stp (s2.trans s3);refine ⟨fun i d hd=>?_,hz,by rw [zVE,r4.length]; exact zVB _⟩;rw [zVS] at hd;cases hp:ps[i]? with
   | none=>rw [hp] at hd; cases hd
   | some p=>
    rw [hp] at hd;cases hd;obtain ⟨k,x,hk,ek,rx⟩:=zLM r4 hp;refine ⟨⟨hz,(zU8.mp hk).1⟩,fun v H3 hy=>?_⟩;obtain ⟨T,b,k',x',hk',rfl,hT,hb,rfl⟩:=hy;rw [hk] at hk'; cases hk';exact ⟨fun a o e=>by rw [zS (zk e hT)]; exact e,Rep.newTup hT (.cons (zNW ek hb) (.cons rx .nil))⟩
  ·cases hf
 ·cases hf
end
def zK6 (i j k:Nat):FG:=fun d σ=>match d with
 | .tup [x,.tup [y,z]]=>some (((σ.set i (some x)).set j (some y)).set k (some z))
 | _=>none
abbrev gN3 (K:PySem.W.Frag) (i j k:Nat):TG:=zNX K 2 (zDb (zBE i) (zDb (zNX K 2 (zDb (zBE j) (zDb (zBE k) zPC))) zPC))
theorem zMn {K:PySem.W.Frag} {own:List Nat} {i j k:Nat} (hi:i ∈ own) (hj:j ∈ own) (hk:k ∈ own):zDs own (gN3 K i j k) (zK6 i j k):=by
 intro L H σ σ' τ τ0 d v Q rs ex r hf q;unfold zK6 at hf;split at hf
 ·rename_i x y z;cases hf;unfold Rep at r;obtain ⟨a,vs,rfl,e,r⟩:=r;obtain ⟨v1,v2,rfl,r1,r2⟩:=r.two;unfold Rep at r2;obtain ⟨b,ws,rfl,e2,r2⟩:=r2;obtain ⟨w1,w2,rfl,r3,r4⟩:=r2.two;exact ⟨a,_,rfl,.of e,rfl,v1,[.ref b],rfl,.ref b,[],rfl,b,_,rfl,.of e2,rfl,w1,[w2],rfl,w2,[],rfl,rfl,rfl,q _ (((rs.set r1).set r3).set r4) (((ex.set hi).set hj).set hk)⟩
 ·cases hf
section
variable {prog:Program} {w:World} {A:Around} {E:Value -> Shared -> Prop} {s:Shared} {it d:Addr} {i ep:Nat} {o:Obj} {es:Array DictEntry}
theorem zPR (hd:(d == sysModules) = false) (hT:s.TypeIs (.ref d) "dict") (ho:s.heap.get? d = some o) (hdat:o.data = .dict es ep)
  (hQ:Q (.ref s.heap.objs.size) { s with heap:=s.heap.push { cls:=.type "dict_keyiterator", data:=.fields #[.ref d,.int 0 0,.int es.size 0,.int ep 0] } }):wpAny (model prog w) A (pyIter (.ref d)) Q E s:=by
 refine wpAny_pyIter_slot hT F.slot_dict_iter (zVi F.slot_dict_iter hT F.entry_dict_iter ?_ (F.args_dict_iter_1 _));unfold Builtin.«dict.__iter__»;refine zU5 ?_;unfold Builtin.Dict.dictSlotNone;refine zU5 (wpAny_notOrdered_dict hT ?_);show wpAny _ _ (pure (Value.ref d)) _ _ s;refine zU7 ?_;show wpAny _ _ (Builtin.Dict.showsAll d >>= _) _ _ s;unfold Builtin.Dict.showsAll;rw [zVN (by rw [hd]; exact zVR)];refine zU5 (zU7 (zU5 (wpAny_dictEntries ho hdat (zU5 (wpAny_dictEpoch ho hdat ?_)))));refine zU5 (zVY (zU7 ⟨_,rfl, "dict_keyiterator", _,⟨_,zVF _ rfl,rfl⟩,F.slot_dict_keyiterator_next.lookup,?_⟩));simpa [rawInt] using hQ
theorem zPE (hit:s.heap.IsKeyIter it d i es.size ep) (hod:s.heap.get? d = some o) (hdd:o.data = .dict es ep) (hx:es[i]? = some e)
  (hQ:∀ h',h'.IsKeyIter it d (i + 1) es.size ep -> Heap.SameBut it s.heap h' -> Q (some e.key) { s with heap:=h' }):wpAny (model prog w) A (pyNext (.ref it)) Q E s:=by
 obtain ⟨q,ho,hc,hd⟩:=id hit;obtain ⟨hlt,hxe⟩:=Array.getElem?_eq_some_iff.mp hx;unfold pyNext;refine zU5 (zWg (zVh (name:=Str.ofString "__next__") hit.typeIs F.slot_dict_keyiterator_next (zVi F.slot_dict_keyiterator_next hit.typeIs F.entry_dict_keyiterator_next ?_ (F.args_dict_keyiterator_next_1 _))));refine zU5 (zU7 (zU5 (zU5 ?_)));first | refine zU5 (wpAny_typeNameOfWhole_keyiter hit.typeIs (zU7 ?_)) | refine zU5 (wpAny_typeNameOf_keyiter hit.typeIs (zU7 ?_))
 refine zU5 (wpAny_fieldsOf ho hd ?_);simp only [show Builtin.Dict_items.ownsTuple "dict_keyiterator" = false by decide,zV6,zXW];show wpAny _ _ (if (Value.ref d == Value.none) = true then _ else _) _ _ s;rw [zVN (show ¬ ((Value.ref d == Value.none) = true) from zVR)];refine zU5 (zU7 (zU5 (wpAny_dictEntries hod hdd ?_)));rw [zVN (by simp)];refine zU5 (zU7 (zU5 (wpAny_dictEpoch hod hdd ?_)));rw [zVN (by simp)];refine zU7 ?_;simp only [show ¬ ((i:Int) < 0) from by omega,zXW,Int.toNat_natCast,zVq hlt,hxe];refine zU5 ?_;first | refine zU5 (wpAny_typeNameOfWhole_keyiter hit.typeIs (zU7 ?_)) | refine zU5 (wpAny_typeNameOf_keyiter hit.typeIs (zU7 ?_))
 refine zU5 (wpAny_isOneOf_keyiter hit.typeIs ?_);show wpAny _ _ (setField (.ref it) 1 (rawInt ((i:Int) + 1)) >>= _) _ _ s;refine zU5 (zWq ho hd (by simp) ?_);have hit':(s.heap.update it (Obj.mapFields (·.setIfInBounds 1 (rawInt ((i:Int) + 1))))).IsKeyIter it d (i + 1) es.size ep :=
  ⟨_,zVs _ ho (Obj.isFreed_of_fields (zWM hd _)),(Obj.cls_mapFields ..).trans hc,by rw [zWM hd]; simp [rawInt]⟩
 refine zU5 (zVy (zU5 (wpAny_isOneOf_keyiter (s:={ s with heap:=s.heap.update it (Obj.mapFields (·.setIfInBounds 1 (rawInt ((i:Int) + 1)))) }) hit'.typeIs ?_)));show wpAny _ _ (pure e.key) _ _ _;exact zU7 (zU7 ⟨_,rfl,zU7 (hQ _ hit' (zV8 ..))⟩)
theorem zQ3 (hh:A.handled = none) (hit:s.heap.IsKeyIter it d i es.size ep) (hod:s.heap.get? d = some o) (hdd:o.data = .dict es ep) (hge:es.size <= i)
  (hQ:∀ h',Heap.ExtBut it s.heap h' -> Q none { s with heap:=h' }):wpAny (model prog w) A (pyNext (.ref it)) Q E s:=by
 obtain ⟨q,ho,hc,hd⟩:=id hit;unfold pyNext;refine zU5 (zWg (zVh (name:=Str.ofString "__next__") hit.typeIs F.slot_dict_keyiterator_next (zVi F.slot_dict_keyiterator_next hit.typeIs F.entry_dict_keyiterator_next ?_ (F.args_dict_keyiterator_next_1 _))));refine zU5 (zU7 (zU5 (zU5 ?_)));first | refine zU5 (wpAny_typeNameOfWhole_keyiter hit.typeIs (zU7 ?_)) | refine zU5 (wpAny_typeNameOf_keyiter hit.typeIs (zU7 ?_))
 refine zU5 (wpAny_fieldsOf ho hd ?_);simp only [show Builtin.Dict_items.ownsTuple "dict_keyiterator" = false by decide,zV6,zXW];show wpAny _ _ (if (Value.ref d == Value.none) = true then _ else _) _ _ s;rw [zVN (show ¬ ((Value.ref d == Value.none) = true) from zVR)];refine zU5 (zU7 (zU5 (wpAny_dictEntries hod hdd ?_)));rw [zVN (by simp)];refine zU5 (zU7 (zU5 (wpAny_dictEpoch hod hdd ?_)));rw [zVN (by simp)];refine zU7 ?_;simp only [show ¬ ((i:Int) < 0) from by omega,zXW,Int.toNat_natCast,Array.getElem?_eq_none hge];refine zU5 ?_;first | refine zU5 (wpAny_typeNameOfWhole_keyiter hit.typeIs (zU7 ?_)) | refine zU5 (wpAny_typeNameOf_keyiter hit.typeIs (zU7 ?_))
 show wpAny _ _ (setField (.ref it) 0 .none >>= _) _ _ s;refine zU5 (zWq ho hd (by simp) ?_);show wpAny _ _ (newExc (.type "StopIteration") [] >>= _) _ _ _;refine zU5 ?_;simp only [newExc,newTuple];refine zU5 (zVY ?_ (by size_fits));refine zU5 (m:=firstArgMember _ _) (wpAny_of_eq (a:=Value.none) (by first | rfl | (simp only [firstArgMember]; rfl)) ?_);refine zVY ?_ (by size_fits);simp only [raiseNew];refine zU5 (wpAny_handled ?_);rw [show A.in1.handled = none from hh];refine zU5 (zU7 (wpAny_throw ?_));refine zU5 (wpAny_isInstance (T := "StopIteration") (b:=true) ⟨_,zVF _ rfl,rfl⟩ isSubtype_stop ?_);exact zU7 (hQ _ (((zV8 ..).extBut.push _).push _))
theorem zO8 (lo:(d == sysModules) = false) (hc:o.cls = .type "dict") (hdd:o.data = .dict es ep):PySem.W.KdlSrc prog w "dict" d d es.size (fun i v=>∃ e,es[i]? = some e /\ v = e.key) (fun h=>h.get? d = some o) where
 type:=fun _ h=>⟨o,h,hc⟩;there:=fun _ h=>⟨zVG h,zVG h⟩;keep:=fun _ _ h k=>k d (.inl rfl) o h;notList:=by decide
 notTuple:=by decide
 hint:=fun _ _ _ _ h hq=>PySem.W.kdl_hint_dict ⟨o,h,hc⟩ hq
 iter:=fun A s hh h=>⟨_,fun i h'=>h'.IsKeyIter s.heap.objs.size d i es.size ep /\ h'.get? d = some o,(fun _ _ hq=>zPR lo ⟨o,h,hc⟩ h hdd hq),⟨fun b hb=>by simp at hb; simp [hb],
  fun _ _ _ st hk=>⟨st.1.at fun o e=>hk _ (by simp) o e,hk d (by simp) o st.2⟩,
  fun i s2 Q E hi st hQ=>zPE (e:=es[i]) st.1 st.2 hdd (by simp [hi]) fun h' hit' hs'=>hQ _ h' s2.toks ⟨es[i],by simp [hi],rfl⟩ ⟨hit',hs'.extBut _ _ (zVQ (zVG h)) st.2⟩ fun b q hb e=>hs'.extBut b q (fun z=>hb (by simp [z])) e,
  fun s2 Q E st hQ=>zQ3 hh st.1 st.2 hdd (zVB _) fun h' he'=>hQ h' s2.toks fun b q hb e=>he' b q (fun z=>hb (by simp [z])) e,
  fun _ _ _ _ st hQ=>wpAny_pyIter_keyiter st.1 hQ⟩,⟨⟨_,zVF _ rfl,rfl,rfl⟩,zU6 _ h⟩⟩
end
def KS (H:Hp) (kvs:List (List Key × V)) (ys:List V):Prop:=ys.length = kvs.length /\ ∀ (i:Nat) k x,kvs[i]? = some (k,x) -> ∃ b,ys[i]? = some (.ref b) /\ H b = some (.tup (k.map kV))
theorem zLE:∀ {ys:List V} {us:List Value},ys.length = us.length -> (∀ (i:Nat) y u,ys[i]? = some y -> us[i]? = some u -> za y u) -> zW ys us
 | [],[],_,_=> .nil
 | [],_ :: _,h,_=>by cases h
 | _ :: _,[],h,_=>by cases h
 | y :: ys,u :: us,h,q=> .cons (q 0 y u rfl rfl) (zLE (Nat.succ.inj h) fun i y' u' e1 e2=>q (i + 1) y' u' (by simpa using e1) (by simpa using e2))
section
variable {X:Cx}
theorem zG9:∀ {ps:List (D × D)} {vs:List (List Key × V)} {ys:List V},zAZ tkD L H ps vs -> KS H vs ys -> zH L H (ps.map (·.1)) ys
 | [],_,ys,h,k=>by
  unfold zAZ at h; subst h;have:ys = []:=List.length_eq_zero_iff.mp k.1;subst this; exact .nil
 | p :: ps,_,ys,h,k=>by
  obtain ⟨kk,v,r',rfl,e,h1,h2⟩:=h;obtain ⟨kl,kp⟩:=k;cases ys with
  | nil=>cases kl
  | cons y ys=>
   obtain ⟨b,e1,e2⟩:=kp 0 kk v rfl;cases e1;exact .cons (zNW e e2) (zG9 h2 ⟨Nat.succ.inj kl,fun i k x q=>by obtain ⟨b,q1,q2⟩:=kp (i + 1) k x (by simpa using q); exact ⟨b,by simpa using q1,q2⟩⟩)
end
def zK5 (r r' r'':R2) (ta tb tc td:TE):TE:=fun σ H Q=>ta σ H fun x H1=>tb σ H1 fun y H2=>r x y H2 fun z H3=>∃ k,z = .bl k /\
 (if k = true then tc σ H3 fun w H4=>r' y w H4 fun z' H5=>∃ k',z' = .bl k' /\ (if k' = true then td σ H5 fun v H6=>r'' w v H6 Q else Q (.bl false) H5) else Q (.bl false) H3)
section
variable {X:Cx} {a b c d:Expr} {ta tb tc td:TE} {pos:Pos} {f g h i:FE}
theorem zM3 (ho:OpR X (compareOp op) r) (ho':OpR X (compareOp op') r') (ho'':OpR X (compareOp op'') r'') (ha:PE X a ta) (hb:PE X b tb) (hc:PE X c tc) (hd:PE X d td)
  (hm:lastMarks [op,op',op''] [b,c,d] = false:=by with_unfolding_all rfl):PE X (.Compare a [op,op',op''] [b,c,d] pos) (zK5 r r' r'' ta tb tc td):=by
 intro zB s σ H Q I h;refine Compare_chain (thn (ha zB s σ H _ I h) fun v s1 ⟨x,H1,I1,r1,q1⟩=>chain_link (thn (hb zB s1 σ H1 _ I1 q1) fun u s2 ⟨y,H2,I2,r2,q2⟩=>
  thn (ho zB s2 σ H2 x y v u _ I2 r1 r2 q2) fun d s3 ⟨z,H3,I3,r3,k,e,q3⟩=>?_)) hm
 subst e;cases r3;refine zWH ?_;cases k with
 | false=>exact ite_ff ⟨.bl false,H3,I3,rfl,q3⟩
 | true=>
  refine ite_tt (chain_link (thn (hc zB s3 σ H3 _ I3 q3) fun w' s4 ⟨z',H4,I4,r4,q4⟩=>thn (ho' zB s4 σ H4 y z' u w' _ I4 r2 r4 q4) fun d s5 ⟨z5,H5,I5,r5,k5,e5,q5⟩=>?_));subst e5;cases r5;refine zWH ?_;cases k5 with
  | false=>exact ite_ff ⟨.bl false,H5,I5,rfl,q5⟩
  | true=>exact ite_tt (chain_last (thn (hd zB s5 σ H5 _ I5 q5) fun w6 s6 ⟨z6,H6,I6,r6,q6⟩=>ho'' zB s6 σ H6 z' z6 w' w6 Q I6 r4 r6 q6))
def zDU (k k' k'':K2) (f g h i:FE):FE:=fun σ M=>match f σ M with
 | some (x,M1)=>match g σ M1 with
  | some (y,M2)=>match k x y M2 with
   | some (.dat (.bl true),M3)=>match h σ M3 with
    | some (w,M4)=>match k' y w M4 with
     | some (.dat (.bl true),M5)=>match i σ M5 with
      | some (v,M6)=>k'' w v M6
      | none=>none
     | some (.dat (.bl false),M5)=>some (.dat (.bl false),M5)
     | _=>none
    | none=>none
   | some (.dat (.bl false),M3)=>some (.dat (.bl false),M3)
   | _=>none
  | none=>none
 | none=>none
theorem zJM {K:PySem.W.Frag} {r r' r'':R2} {k k' k'':K2} (hk:zA3 K r k) (hk':zA3 K r' k') (hk'':zA3 K r'' k'') {τ:Sv} {H:Hp} {Q:VK} (z:trE K (zDU k k' k'' f g h i) τ H Q):zK5 r r' r'' (trE K f) (trE K g) (trE K h) (trE K i) τ H Q:=by
 obtain ⟨L,σ,M,d,M',cc,rs,hf,q⟩:=z;unfold zDU at hf;split at hf
 ·rename_i x M1 e1;split at hf
  ·rename_i y M2 e2;refine ⟨L,σ,M,_,_,cc,rs,e1,fun L1 H1 v s1 c1 r1=>⟨L1,σ,M1,_,_,c1,rs.stp s1,e2,fun L2 H2 w s2 c2 r2=>?_⟩⟩;split at hf
   ·rename_i M3 e3;split at hf
    ·rename_i u M4 e4;refine hk (H0:=H) c2 (r1.stp s2) (r2.back s1 cc s2.sub) e3 fun L3 H3 t s3 c3 r3=>⟨true,zq r3,zEf ?_⟩;have s13:=(s1.trans s2).trans s3;refine ⟨L3,σ,M3,_,_,c3,rs.stp s13,e4,fun L4 H4 w4 s4 c4 r4=>?_⟩;split at hf
     ·rename_i M5 e5;split at hf
      ·rename_i u6 M6 e6;refine hk' (H0:=H) c4 (((r2.back s1 cc s2.sub).stp s3).stp s4) (r4.back s13 cc s4.sub) e5 fun L5 H5 u5 s5 c5 r5=>⟨true,zq r5,zEf ?_⟩;have s15:=(s13.trans s4).trans s5;refine ⟨L5,σ,M5,_,_,c5,rs.stp s15,e6,fun L6 H6 w6 s6 c6 r6=>?_⟩;refine hk'' (H0:=H) c6 (((r4.back s13 cc s4.sub).stp s5).stp s6) (r6.back s15 cc s6.sub) hf fun L7 H7 u7 s7 c7 r7=>?_;exact q L7 H7 u7 ((s15.trans s6).trans s7) c7 (r7.back (s15.trans s6) cc s7.sub)
      ·cases hf
     ·rename_i M5 e5;cases hf;refine hk' (H0:=H) c4 (((r2.back s1 cc s2.sub).stp s3).stp s4) (r4.back s13 cc s4.sub) e5 fun L5 H5 u5 s5 c5 r5=>⟨false,zq r5,zEi ?_⟩;exact q L5 H5 _ ((s13.trans s4).trans s5) c5 (by have:=zq r5; subst this; exact r5)
     ·cases hf
    ·cases hf
   ·rename_i M3 e3;cases hf;refine hk (H0:=H) c2 (r1.stp s2) (r2.back s1 cc s2.sub) e3 fun L3 H3 t s3 c3 r3=>⟨false,zq r3,zEi ?_⟩;exact q L3 H3 _ ((s1.trans s2).trans s3) c3 (by have:=zq r3; subst this; exact r3)
   ·cases hf
  ·cases hf
 ·cases hf
theorem zN9 (hk:zA3 X.K r k) (hk':zA3 X.K r' k') (hk'':zA3 X.K r'' k'') (ho:OpR X (compareOp op) r) (ho':OpR X (compareOp op') r') (ho'':OpR X (compareOp op'') r'') (h1:QE X a f) (h2:QE X b g) (h3:QE X c h) (h4:QE X d i)
  (hm:lastMarks [op,op',op''] [b,c,d] = false:=by with_unfolding_all rfl):QE X (.Compare a [op,op',op''] [b,c,d] pos) (zDU k k' k'' f g h i):=.mk <| PE.imp (zM3 ho ho' ho'' h1.un h2.un h3.un h4.un hm) fun _ _ _ z=>zJM hk hk' hk'' z
end
end L3
namespace ST
open PySem PySem.Spec PyProof.Rows
section
variable {prog:Program} {w:World} {A:Around} {E:Value -> Shared -> Prop} {s:Shared} {κ:SortKind} {vs:List Value} {r:Value -> Nat}
def zLV (prog:Program) (w:World) (s:Shared) (κ:SortKind) (vs:List Value) (r:Value -> Nat):Prop :=
 ∀ (A:Around) (E:Value -> Shared -> Prop) (x y:Value) (Q:Bool -> Shared -> Prop),x ∈ vs -> y ∈ vs -> Q (decide (r x < r y)) s -> wpAny (model prog w) A (keyLt' κ x y) Q E s
theorem zQ2 (R:zLV prog w s κ vs r) {st:SortSt} {x y:Keyed} {Q:Option Bool -> SortSt -> Prop} (hk:kindOf st = κ) (hx:x.1 ∈ vs) (hy:y.1 ∈ vs) (h:Q (some (decide (r x.1 < r y.1))) st) :
  wpS (model prog w) A E s (lt' x y) Q st:=by
 rw [lt'_eq];refine wpS_bind (wpS_get ?_);rw [hk];exact wpS_bind (wpS_lift (zWg (R _ _ _ _ _ hx hy ⟨rfl,wpS_pure h⟩)))
theorem zMY (R:zLV prog w s κ vs r) {st:SortSt} {i j:Nat} {x y:Keyed} {Q:Option Bool -> SortSt -> Prop} (hk:kindOf st = κ) (ei:(arrOf st)[i]? = some x) (ej:(arrOf st)[j]? = some y) (hx:x.1 ∈ vs) (hy:y.1 ∈ vs)
  (h:Q (some (decide (r x.1 < r y.1))) st):wpS (model prog w) A E s (ltAt' i j) Q st:=by
 rw [ltAt'_eq];refine wpS_bind (wpS_get ?_);show wpS _ _ _ _ (elem' (arrOf st) i >>= fun x=>elem' (arrOf st) j >>= fun y=>lt' x y) Q st;rw [elem'_eq,elem'_eq,ei,ej];exact wpS_bind (wpS_pure (wpS_bind (wpS_pure (zQ2 R hk hx hy h))))
theorem zHC:∀ (f n c:Nat),n < 2 ^ (6 + f) -> c <= 1 -> minRun' f n c <= 64
 | 0,n,c,h,hc=>by show n + c <= 64; have:(2:Nat) ^ (6 + 0) = 64:=rfl; omega
 | f + 1,n,c,h,hc=>by
  rw [minRun'_succ];split
  ·omega
  ·refine zHC f _ _ ?_ (by omega);have:(2:Nat) ^ (6 + (f + 1)) = 2 ^ (6 + f) * 2:=by rw [<- Nat.pow_succ]; rfl
   omega
theorem zI0 (n:Nat):minRun' n n 0 <= n \/ minRun' n n 0 <= 64 /\ 64 <= n:=by
 by_cases h:n < 64
 ·left;cases n with
  | zero=>exact zVB _
  | succ m=>rw [minRun'_succ,zVK h]; exact zVB _
 ·exact .inr ⟨zHC n n 0 (zVU Nat.lt_two_pow_self (Nat.pow_le_pow_right (by decide) (by omega))) (by omega),by omega⟩
theorem zJI {i:Nat} {v:Value} (h:vs[i]? = some v):(pairsOf vs)[i]? = some (v,v):=by
 rw [<- zWk,pairsOf_toList,List.getElem?_zip_eq_some]; exact ⟨h,h⟩
theorem zJB (R:zLV prog w s κ vs r) (hr:∀ i x y,vs[i]? = some x -> vs[i + 1]? = some y -> r x <= r y) (h2:2 <= vs.length) :
  wpS (model prog w) A E s sortRuns' (fun _ st'=>failedOf st' = none /\ arrOf st' = pairsOf vs) (SortSt.mk' κ (pairsOf vs) #[] 7 none):=by
 have hm:=zI0 vs.length;rw [sortRuns'_eq];refine wpS_bind (wpS_get ?_);dsimp only;have hz:(pairsOf vs).size = vs.length:=pairsOf_size vs;generalize hN:vs.length = N at *;simp only [hz]
 refine wpS_bind (wpS_mono (wpS_forRange
  (I:=fun x c st=>(x = 0 /\ c = (none,0) /\ st = SortSt.mk' κ (pairsOf vs) #[] 7 none) \/ (1 <= x /\ c = (none,N) /\ st = SortSt.mk' κ (pairsOf vs) #[(0,N,0)] 7 none))
  (Q:=fun c st=>c = (none,N) /\ st = SortSt.mk' κ (pairsOf vs) #[(0,N,0)] 7 none) ?step ?fin (.inl ⟨rfl,rfl,rfl⟩)) ?post)
 case fin=>
  rintro c st (⟨hx,_,_⟩ | ⟨_,hc,hD⟩)
  ·omega
  ·exact ⟨hc,hD⟩
 case step=>
  rintro x c st _ hx (⟨rfl,rfl,rfl⟩ | ⟨hx1,rfl,rfl⟩)
  ·dsimp only;rw [zVN (by omega)];simp only [Nat.sub_zero,Nat.min_self,Nat.zero_add];rw [countRun0_eq];refine wpS_bind (wpS_bind (wpS_mono (Q:=fun c st=>c = (none,N) /\ st = SortSt.mk' κ (pairsOf vs) #[] 7 none) ?asc ?aft))
   case asc=>
    unfold ascLoop;refine wpS_forRange (I:=fun x c st=>c = (none,x) /\ st = SortSt.mk' κ (pairsOf vs) #[] 7 none) ?s2 ?f2 ⟨rfl,rfl⟩
    case f2=>
     rintro c st ⟨rfl,rfl⟩;rw [show max 1 N = N by omega]; exact ⟨rfl,rfl⟩
    case s2=>
     rintro x c st h1 hx ⟨rfl,rfl⟩;dsimp only;have e1:vs[x]? = some vs[x]:=zU9 (by omega);have e2:vs[x - 1]? = some vs[x - 1]:=zU9 (by omega);refine wpS_bind (zMY R rfl (zJI e1) (zJI e2) (zVd _) (zVd _) ?_);have:=hr (x - 1) _ _ e2 (by rw [show x - 1 + 1 = x by omega]; exact e1);dsimp only;rw [zVe (show ¬ r vs[x] < r vs[x - 1] by omega)];exact wpS_pure ⟨rfl,rfl⟩
   case aft=>
    rintro c st ⟨rfl,rfl⟩;dsimp only;rw [zVK (by simp)];refine wpS_pure ?_;dsimp only;rw [zVN (by omega)];refine wpS_bind (wpS_get ?_);exact wpS_bind (wpS_modify (wpS_pure (.inr ⟨by omega,rfl,rfl⟩)))
  ·dsimp only;rw [zVK (zVB _)];exact wpS_pure ⟨rfl,rfl⟩
 case post=>
  rintro c st ⟨rfl,rfl⟩;dsimp only;refine wpS_bind (wpS_mono (wpS_forRange (I:=fun _ c st=>st = SortSt.mk' κ (pairsOf vs) #[(0,N,0)] 7 none /\ c = (none,())) (Q:=fun c st=>st = SortSt.mk' κ (pairsOf vs) #[(0,N,0)] 7 none /\ c = (none,())) ?_ (fun _ _ hh=>hh) ⟨rfl,rfl⟩) ?_)
  ·rintro x c st _ _ ⟨rfl,rfl⟩;refine wpS_bind (wpS_get ?_);rw [zVK (show (pendingOf (SortSt.mk' κ (pairsOf vs) #[(0,N,0)] 7 none)).size <= 1 from zVB 1)];exact wpS_pure ⟨rfl,rfl⟩
  ·rintro c st ⟨rfl,rfl⟩;exact wpS_pure ⟨rfl,rfl⟩
def zCV (h:Heap) (v:Value) (xs:List Int):Prop:=∃ b o us n,v = .ref b /\ h.get? b = some o /\ o.cls = .type "tuple" /\ o.data = .seq us n /\ IntsAre us.toList xs
theorem zCV.keep {h h':Heap} {v:Value} {xs:List Int} (t:zCV h v xs) (k:∀ b o,v = .ref b -> h.get? b = some o -> h'.get? b = some o):zCV h' v xs:=by
 obtain ⟨b,o,us,n,rfl,h1,h2,h3,h4⟩:=t;exact ⟨b,o,us,n,rfl,k b o rfl h1,h2,h3,h4⟩
def zAn:List Int -> List Int -> Bool
 | [],[]=>false
 | [],_ :: _=>true
 | _ :: _,[]=>false
 | x :: xs,y :: ys=>if x = y then zAn xs ys else decide (x < y)
theorem zJR {a b:Int} {t u:Tok} {Q:Bool -> Shared -> Prop} (h:Q (decide (a < b)) s):wpAny (model prog w) A (oneLt' false (.int a t) (.int b u)) Q E s:=by
 rw [oneLt'_eq];simp only [zV6,zXW];refine zU5 (richCompare_gives (op:=.Lt) (typeIs_int s a t) (typeIs_int s b u) F.slot_int_lt F.entry_int_lt (F.args_int_lt_2 _ _) (gives_int_lt a b t u) (fun x=>nomatch x) ?_);exact zWH h
theorem zMJ {c:Bool} {a b:Int} {t u:Tok} {Q:Bool -> Shared -> Prop} (h:Q (decide (a < b)) s):wpAny (model prog w) A (oneLt' c (.int a t) (.int b u)) Q E s:=by
 cases c
 ·exact zJR h
 ·exact oneLt_int h
theorem zHX {c:Bool} {x y:Value} {xs ys:List Int} {Q:Bool -> Shared -> Prop} (hx:zCV s.heap x xs) (hy:zCV s.heap y ys) (h:Q (zAn xs ys) s):wpAny (model prog w) A (keyLt' (tuples' c) x y) Q E s:=by
 obtain ⟨a,o1,us,n1,rfl,h1,h2,h3,h4⟩:=hx;obtain ⟨b,o2,ws,n2,rfl,g1,g2,g3,g4⟩:=hy;refine zU5 (listItems_at h1 h3 (zU5 (listItems_at g1 g3 ?_)));refine zU5 (wpAny_forIn_list _ (fun rest c s'=>c = (none,()) /\ s' = s /\ ∃ us' ws' xs' ys' k,rest = (us'.zip ws').zipIdx k /\ IntsAre us' xs' /\ IntsAre ws' ys' /\ zAn xs ys = zAn xs' ys' /\ us.size + ws'.length = ws.size + us'.length) (fun c s'=>s' = s /\ Q (match c.1 with | some b=>b | none=>decide (us.size < ws.size)) s) ?turn ?fin _ _ ⟨rfl,rfl,_,_,_,_,0,rfl,h4,g4,rfl,by simp; omega⟩ |> fun z=>zVb z ?post fun _ _ e=>e)
 case turn=>
  rintro ⟨⟨p,q⟩,i⟩ rest c s' ⟨rfl,rfl,us',ws',xs',ys',k,e,i1,i2,e2,e3⟩;cases i1 with
  | nil=>simp at e
  | @cons n t us1 xs1 i1=>
   cases i2 with
   | nil=>simp at e
   | @cons m u ws1 ys1 i2=>
    simp only [List.zip_cons_cons,List.zipIdx_cons] at e;injection e with ea eb
    cases ea;refine zU5 (wpAny_eqBool_int ?_);rw [show zAn (n :: xs1) (m :: ys1) = if n = m then zAn xs1 ys1 else decide (n < m) from rfl] at e2;by_cases hnm:n = m
    ·subst hnm;simp only [beq_self_eq_true,Bool.not_true,zV6,zXW];rw [zVK rfl] at e2;simp only [zVc] at e3;exact zU7 ⟨rfl,rfl,_,_,_,_,_,eb,i1,i2,e2,by omega⟩
    ·rw [zVN hnm] at e2;have:(n == m) = false:=by simpa using hnm
     rw [this];simp only [Bool.not_false,if_true];refine zU5 ?_;refine zMJ (zU7 ⟨rfl,?_⟩);rw [<- e2]; exact h
 case fin=>
  rintro c s' ⟨rfl,rfl,us',ws',xs',ys',k,e,i1,i2,e2,e3⟩;refine ⟨rfl,?_⟩;dsimp only;have key:zAn xs ys = decide (us.size < ws.size):=by
   rw [e2];cases i1 with
   | nil=>
    cases i2 with
    | nil=>simp at e3; simp [zAn,e3]
    | cons m u i2=>simp at e3; simp [zAn]; omega
   | cons n t i1=>
    cases i2 with
    | nil=>simp at e3; simp [zAn]; omega
    | cons m u i2=>simp at e
  rw [<- key]; exact h
 case post=>
  rintro ⟨c1,c2⟩ s' ⟨rfl,q⟩;dsimp only at q ⊢;cases c1 with
  | some b=>exact zU7 q
  | none=>exact zU7 q
theorem zLL:∀ ds:List (Int × Tok),IntsAre (ds.map fun p=> .int p.1 p.2) (ds.map (·.1))
 | []=> .nil
 | p :: ds=> .cons p.1 p.2 (zLL ds)
theorem zMS {v:Value} {x:Int} {xs:List Int} {Q:Option Value -> Shared -> Prop} (hv:zCV s.heap v (x :: xs)) (h:∀ t,Q (some (.int x t)) s):wpAny (model prog w) A (firstOfTuple' v) Q E s:=by
 obtain ⟨a,o1,us,n1,rfl,h1,h2,h3,h4⟩:=hv;refine zU5 (wpAny_typeOf (T := "tuple") ⟨o1,h1,h2⟩ ?_);rw [zVN (by decide)];refine zU5 (listItems_at h1 h3 (zU7 ?_));obtain ⟨us⟩:=us;cases h4 with
 | cons n t i=>exact h t
theorem zFl:∀ {vs:List Value} {Q:List (Option Value) -> Shared -> Prop},(∀ v ∈ vs,∃ x xs,zCV s.heap v (x :: xs)) -> (∀ ds:List (Int × Tok),ds.length = vs.length -> Q (ds.map fun p=>some (.int p.1 p.2)) s) -> wpAny (model prog w) A (vs.mapM firstOfTuple') Q E s
 | [],Q,_,q=>by rw [List.mapM_nil]; exact zU7 (q [] rfl)
 | v :: vs,Q,h,q=>by
  rw [List.mapM_cons];obtain ⟨x,xs,hv⟩:=h v (zVJ ..);refine zU5 (zMS hv fun t=>zU5 (zFl (fun u hu=>h u (zVI _ hu)) fun ds hl=>zU7 ?_));exact q ((x,t) :: ds) (by simp [hl])
theorem zNm {v:Value} (h:∀ u ∈ v :: vs,∃ x xs,zCV s.heap u (x :: xs)) {Q:SortKind -> Shared -> Prop} (q:Q (tuples' true) s):wpAny (model prog w) A (keyKind' (v :: vs).toArray) Q E s:=by
 rw [keyKind'_eq,List.mapM_toArray];refine zU5 ?_;show wpAny _ _ (List.toArray <$> (v :: vs).mapM firstOfTuple') _ _ _;rw [map_eq_pure_bind];refine zU5 (zFl h fun ds hl=>zU7 ?_);rw [zVK (by simp)];refine zU5 (wpAny_rule ?_);have e:Array.filterMap id (List.map (fun p=>some (Value.int p.1 p.2)) ds).toArray = (ds.map fun p=>Value.int p.1 p.2).toArray:=by
  rw [List.filterMap_toArray,List.filterMap_map];exact zWs List.toArray (List.filterMap_eq_map' (f:=fun p:Int × Tok=>Value.int p.1 p.2) ▸ rfl)
 rw [e,oneTypeOnly'_eq,List.mapM_toArray,mapM_typeOf_ints (zLL ds)];cases ds with
 | nil=>cases hl
 | cons d ds=>
  have hall:((List.map (fun _=>Value.type "int") (List.map (fun p:Int × Tok=>Value.int p.1 p.2) (d :: ds))).toArray.all fun x=>x == Value.type "int") = true:=by
   simp only [List.all_toArray,List.all_map,zVg];intro _ _; rfl
  have h0:(List.map (fun _=>Value.type "int") (List.map (fun p:Int × Tok=>Value.int p.1 p.2) (d :: ds))).toArray[0]? = some (Value.type "int"):=by simp
  simp only [map_pure,pure_bind];rw [h0];simp only [hall,if_true,pure_bind];exact zU7 q
end
theorem zF0:∀ x:List Int,zAn x x = false
 | []=>rfl
 | a :: x=>by rw [show zAn (a :: x) (a :: x) = if a = a then zAn x x else decide (a < a) from rfl,zVK rfl]; exact zF0 x
theorem zCW (a b:Int) (x y:List Int):zAn (a :: x) (b :: y) = if a = b then zAn x y else decide (a < b):=rfl
theorem zJO:∀ {x y:List Int},zAn x y = false -> zAn y x = false -> x = y
 | [],[],_,_=>rfl
 | [],_ :: _,h,_=>by cases h
 | _ :: _,[],_,h=>by cases h
 | a :: x,b :: y,h1,h2=>by
  rw [zCW] at h1 h2;by_cases e:a = b
  ·subst e;rw [zVK rfl] at h1 h2;rw [zJO h1 h2]
  ·rw [zVN e] at h1; rw [zVN (Ne.symm e)] at h2;have:=of_decide_eq_false h1; have:=of_decide_eq_false h2;omega
theorem zDe:∀ {x y z:List Int},zAn x y = true -> zAn y z = true -> zAn x z = true
 | [],[],_,h,_=>by cases h
 | _ :: _,[],_,h,_=>by cases h
 | _,_ :: _,[],_,h=>by cases h
 | [],_ :: _,_ :: _,_,_=>rfl
 | a :: x,b :: y,c :: z,h1,h2=>by
  rw [zCW] at h1 h2 ⊢;by_cases e:a = b
  ·subst e;rw [zVK rfl] at h1;by_cases e2:a = c
   ·rw [zVK e2] at h2 ⊢; exact zDe h1 h2
   ·rw [zVN e2] at h2 ⊢; exact h2
  ·rw [zVN e] at h1;have l1:=zV1 h1;by_cases e2:b = c
   ·subst e2; rw [zVN e]; exact h1
   ·rw [zVN e2] at h2;have l2:=zV1 h2;rw [zVN (by omega)]; exact zWD (by omega)
def rkI (ks:List (List Int)) (k:List Int):Nat:=ks.countP fun a=>zAn a k
theorem zHO {α:Type} {p q:α -> Bool}:∀ {l:List α} {x:α},x ∈ l -> p x = false -> q x = true -> (∀ y,p y = true -> q y = true) -> l.countP p < l.countP q
 | [],_,h,_,_,_=>by cases h
 | y :: l,x,h,h1,h2,h3=>by
  have hm:l.countP p <= l.countP q:=List.countP_mono_left fun z _ hz=>h3 z hz;rw [List.countP_cons,List.countP_cons];rcases zVH.mp h with rfl | h
  ·rw [h1,h2]; simp; omega
  ·have:=zHO h h1 h2 h3;cases hp:p y with
   | true=>rw [h3 y hp]; simp; omega
   | false=>cases q y <;> simp <;> omega
theorem zRe {ks:List (List Int)} {x y:List Int} (hx:x ∈ ks) (hy:y ∈ ks):zAn x y = decide (rkI ks x < rkI ks y):=by
 have go:∀ {x y:List Int},x ∈ ks -> zAn x y = true -> rkI ks x < rkI ks y:=fun {x y} hx h=>
  zHO hx (zF0 x) h fun z hz=>zDe hz h
 cases e:zAn x y with
 | true=>exact (zWD (go hx e)).symm
 | false=>
  cases e2:zAn y x with
  | true=>have:=go hy e2; exact (zVe (by omega)).symm
  | false=>rw [zJO e e2]; exact (zVe (by omega)).symm
section
variable {prog:Program} {w:World} {A:Around} {E:Value -> Shared -> Prop} {s:Shared} {κ:SortKind} {vs:List Value}
theorem zCV.uniq {h:Heap} {v:Value} {xs ys:List Int} (a:zCV h v xs) (b:zCV h v ys):xs = ys:=by
 obtain ⟨b1,o1,us,n1,rfl,h1,h2,h3,h4⟩:=a;obtain ⟨b2,o2,ws,n2,e,g1,g2,g3,g4⟩:=b;cases e;rw [h1] at g1; cases g1;rw [h3] at g3; cases g3;rw [<- h4.nums,<- g4.nums]
open Classical in
noncomputable def zJa (h:Heap) (v:Value):List Int:=if z:∃ xs,zCV h v xs then z.choose else []
theorem zCE {h:Heap} {v:Value} {xs:List Int} (t:zCV h v xs):zJa h v = xs:=by
 unfold zJa;rw [dif_pos ⟨xs,t⟩];exact zCV.uniq (Classical.choose_spec (⟨xs,t⟩:∃ xs,zCV h v xs)) t
def zRk (h:Heap) (vs:List Value):Prop:=∀ v ∈ vs,∃ x xs,zCV h v (x :: xs)
noncomputable def rkV (h:Heap) (vs:List Value) (v:Value):Nat:=rkI (vs.map (zJa h)) (zJa h v)
theorem zMO (h:zRk s.heap vs):zLV prog w s (tuples' true) vs (rkV s.heap vs):=by
 intro A E x y Q hx hy q;obtain ⟨a,as,ha⟩:=h x hx;obtain ⟨b,bs,hb⟩:=h y hy;refine zHX ha hb ?_;rw [<- zCE ha,<- zCE hb,zRe (ks:=vs.map (zJa s.heap)) (List.mem_map_of_mem hx) (List.mem_map_of_mem hy)];exact q
theorem zMB {F:Array Value -> Prop} {a:Addr} {n:Nat} {P:Fin -> Shared -> Prop} (ho:s.heap.get? a = some (seqObj "list" vs.toArray n)) (hz:vs.length <= sizeLine)
  (hF:∀ out,F out -> out.size = vs.length) (hs:vs.length < 2 -> F vs.toArray)
  (hr:2 <= vs.length -> ∀ h6:Heap,(∀ b o,b ≠ a -> s.heap.get? b = some o -> h6.get? b = some o) -> (∀ (A:Around) (E:Value -> Shared -> Prop) (Q:SortKind -> Shared -> Prop),Q κ { s with heap:=h6 } -> wpAny (model prog w) A (keyKind' vs.toArray) Q E { s with heap:=h6 }) /\
   ∀ (A:Around) (E:Value -> Shared -> Prop),wpS (model prog w) A E { s with heap:=h6 } sortRuns' (fun _ st=>failedOf st = none /\ F ((arrOf st).map (·.2))) (SortSt.mk' κ (pairsOf vs) #[] 7 none))
  (h:∀ out,F out -> P (.done (.ret .none)) { s with heap:=sortedHeap s.heap a vs out }):wpAny (model prog w) A (Builtin.«list.sort» ⟨[.ref a],[]⟩) P E s:=by
 have ha:a < s.heap.objs.size:=zVG ho;rw [list_sort_plain];refine zU5 (listItems_at ho rfl (zU5 (listUpdate_at ho rfl ?_ (hsz:=by simpa using hz))));obtain ⟨e1,o1⟩:∃ e,(s.heap.update a (Obj.mapSeq fun _=> #[])).get? a = some (seqObj "list" #[] e):=⟨_,get?_update_seq ho fun _=> #[]⟩;refine zU5 (seqEpoch_at o1 rfl (zU5 (wpAny_newTuple ?_ (by simpa using hz))));refine zU5 (wpAny_newList (zVy ?_));generalize hH:((s.heap.update a (Obj.mapSeq fun _=> #[])).push (seqObj "tuple" vs.toArray 0)).push (seqObj "list" #[] 0) = h6;have k6:∀ b o,b ≠ a -> s.heap.get? b = some o -> h6.get? b = some o:=fun b o hb e=>by
  rw [<- hH]; exact zU6 _ (zU6 _ ((zVm _ _ (Ne.symm hb)).trans e))
 have o6:h6.get? a = some (seqObj "list" #[] e1):=by rw [<- hH]; exact zU6 _ (zU6 _ o1)
 have fin:∀ st:SortSt,failedOf st = none -> F ((arrOf st).map (·.2)) -> wpAny (model prog w) A (do
   let t:=(<- seqEpoch a) != e1;Builtin.List.listUpdate (.ref a) fun _=>(arrOf st).map (·.2);if let some e:=failedOf st then rule "list.sort.comparison-raised"; throw e
   if t then rule "list.sort.modified"; raiseError "ValueError" "list modified during sort"
   ret .none) P E { s with heap:=h6 }:=by
  intro st h1 h2;refine zU5 (seqEpoch_at o6 rfl (zU5 (listUpdate_at o6 rfl ?_ (hsz2:=by show (Array.map _ _).size <= _; rw [hF _ h2]; omega))));rw [h1];simp only [bne_self_eq_false,zV6,zXW];refine zU7 ?_;have:=h _ h2;unfold sortedHeap at this;rw [hH] at this;exact this
 dsimp only;by_cases h2:vs.toArray.size < 2
 ·rw [zVK h2,zVK h2];refine zU5 (zU7 ?_);rw [StateT.run_pure];refine zU5 (zU7 ?_);refine fin (SortSt.mk' general' (vs.toArray.zip vs.toArray) #[] 7 none) rfl ?_;have e:((vs.toArray.zip vs.toArray).map (·.2)) = vs.toArray:=by
   apply Array.toList_inj.mp;rw [Array.toList_map,Array.toList_zip,List.map_snd_zip (zVB _)]
  show F ((vs.toArray.zip vs.toArray).map (·.2));rw [e]; exact hs (by simpa using h2)
 ·rw [zVN h2,zVN h2];obtain ⟨g1,g2⟩:=hr (by simp at h2; omega) h6 k6;refine zU5 (g1 _ _ _ ?_);refine zU5 (zVb (g2 _ _) ?_ fun _ _ e=>e);rintro ⟨⟨⟩,st⟩ s' ⟨rfl,h3,h4⟩;exact fin st h3 h4
theorem zNk {T:String} {r d S:Addr} {n:Nat} {P:Nat -> Value -> Prop} {OK:Heap -> Prop} {R:Result -> Shared -> Prop} (K:PySem.W.KdlSrc prog w T r d n P OK) (hh:A.handled = none) (hok:OK s.heap) (hSr:S ≠ r) (hSd:S ≠ d) (hS:s.heap.get? S = some { cls:=.type "list", data:=.seq #[] })
  (hR:∀ h' tk acc c',(∀ b u,b ≠ S -> s.heap.get? b = some u -> h'.get? b = some u) -> h'.get? S = some { cls:=.type "list", dict:=none,data:=.seq acc c',slots:=#[] } -> ItemsOf P acc n -> R (.ok (.ret (.ref S))) { s with heap:=h',toks:=tk }) (hn:n <= sizeLine):codeAny (model prog w) A (.builtin "list.__iadd__" ⟨[.ref S,.ref r],[]⟩) R s:=by
 refine codeAny_builtin F.entry_list_iadd ?_;rw [Around.under_plainId F.plain_list_iadd _];exact PySem.W.kdl_extend K hh hok S hSr hSd (.ref S) 0 hS hR hn
theorem zIh {T:String} {r d:Addr} {n:Nat} {P:Nat -> Value -> Prop} {OK:Heap -> Prop} {Q:List Value -> Shared -> Prop} (K:PySem.W.KdlSrc prog w T r d n P OK) (hh:A.handled = none) (hok:OK s.heap) (hn:n <= sizeLine)
  (hQ:∀ h' tk acc,(∀ b u,s.heap.get? b = some u -> h'.get? b = some u) -> s.heap.objs.size <= h'.objs.size -> ItemsOf P acc n -> Q acc.toList { s with heap:=h',toks:=tk }):wpAny (model prog w) A (collect (.ref r)) Q E s:=by
 unfold collect;refine zU5 (wpAny_runValue (codeAny_builtin F.entry_proto_collect ?_));rw [Around.under_plainId F.plain_proto_collect _];show wpAny _ A.in1 (newList [] >>= fun l=>again (.builtin "list.__iadd__" ⟨[l,.ref r],[]⟩)) _ _ s;have hlt:=K.there _ hok;refine zU5 (zVY (zU7 ⟨plainId_quiet F.plain_list_iadd _,zNk (s:={ s with heap:=s.heap.push { cls:=.type "list", data:=.seq ([]:List Value).toArray } }) K hh (K.keep _ _ hok fun b _ o e=>zU6 _ e) (zWa hlt.1) (zWa hlt.2) (zVF _ rfl) (fun h' tk acc c' hk hS' hacc=>?_) hn⟩));show wpAny _ A (load s.heap.objs.size >>= _) _ _ { s with heap:=h',toks:=tk };exact zU5 (wpAny_load (s:={ s with heap:=h',toks:=tk }) hS' (zU7 (hQ h' tk acc (fun b u e=>hk b u (zVQ (zVG e)) (zU6 _ e)) (Nat.le_of_lt (zVG hS')) hacc)))
theorem zGb {v:Value} {Q:Value -> Shared -> Prop}
  (hc:wpAny (model prog w) A.in1 (collect v) (fun vs s1=>vs.length <= sizeLine /\ zRk s1.heap vs /\ (∀ i x y,vs[i]? = some x -> vs[i + 1]? = some y -> zAn (zJa s1.heap y) (zJa s1.heap x) = false) /\
   ∀ (h':Heap) (n:Nat),(∀ b u,s1.heap.get? b = some u -> h'.get? b = some u) -> h'.get? s1.heap.objs.size = some (seqObj "list" vs.toArray n) -> Q (.ref s1.heap.objs.size) { s1 with heap:=h' }) E s) :
  wpAny (model prog w) A (call (.builtin "sorted") [v]) Q E s:=by
 refine Calls.call_function_entry kind_sorted plain_sorted entry_sorted (args_sorted1 _) ?_;unfold Builtin.«sorted»;refine zU5 (m:=checkCount "sorted" 1 1 _) (zU7 ?_);refine zU5 (zVb hc (fun vs s1 z=>?_) fun _ _ e=>e);obtain ⟨hz,ht,hr,h⟩:=z;refine zU5 (wpAny_newList ?_ hz);have hoL:(s1.heap.push (seqObj "list" vs.toArray 0)).get? s1.heap.objs.size = some (seqObj "list" vs.toArray 0):=zVF _ rfl;refine zU5 (zVy (zVi slot_list_sort ⟨_,hoL,rfl⟩ entry_list_sort (zMB (κ:=tuples' true) (F:=fun out=>out = vs.toArray) (s:={ s1 with heap:=s1.heap.push (seqObj "list" vs.toArray 0) }) hoL hz (fun out e=>by rw [e]; simp) (fun _=>rfl) ?_ fun out e=>⟨_,rfl,?_⟩) (args_list_sort _)))
 ·intro h2 h6 k6;have kT:∀ {v xs},v ∈ vs -> zCV s1.heap v xs -> zCV h6 v xs:=fun {v xs} hv t=>t.keep fun b o _ e=>k6 b o (fun z=>zVn _ (z ▸ zVG e)) (zU6 _ e);have ht6:zRk h6 vs:=fun v hv=>let ⟨x,xs,t⟩:=ht v hv; ⟨x,xs,kT hv t⟩;refine ⟨fun A E Q q=>?_,fun A E=>wpS_mono (zJB (zMO (s:={ s1 with heap:=h6 }) ht6) (fun i x y ex ey=>?_) h2) ?_⟩
  ·match vs,h2,ht6 with
   | v :: vs,_,ht6=>exact zNm (s:={ s1 with heap:=h6 }) ht6 q
  ·have mx:=zVw ex;have my:=zVw ey;obtain ⟨a,as,tx⟩:=ht x mx;obtain ⟨b,bs,ty⟩:=ht y my;have:=hr i x y ex ey;rw [zCE tx,zCE ty,<- zCE (kT mx tx),<- zCE (kT my ty),zRe (ks:=vs.map (zJa h6)) (List.mem_map_of_mem my) (List.mem_map_of_mem mx)] at this;exact Nat.le_of_not_lt (of_decide_eq_false this)
  ·rintro _ st ⟨e1,e2⟩;refine ⟨e1,?_⟩;rw [e2];apply Array.toList_inj.mp;rw [Array.toList_map,pairsOf_toList,List.map_snd_zip (zVB _)]
 ·subst e;refine zU7 ⟨_,rfl,?_⟩;have g1:=get?_update_seq hoL (fun _=> #[]);have g4:=get?_update_seq (zU6 (seqObj "list" #[] 0) (zU6 (seqObj "tuple" vs.toArray 0) g1)) (fun _=>vs.toArray);refine h _ _ (fun b u e=>?_) g4;have hb:s1.heap.objs.size ≠ b:=fun z=>zVn _ (z ▸ zVG e);exact (zVm _ _ hb).trans (zU6 _ (zU6 _ ((zVm _ _ hb).trans (zU6 _ e))))
end
end ST
namespace L3
open PySem PySem.Spec PyProof.Rows L2 ST
def kkI (xs:List Int):List Key:=xs.map .inl
def zCP:List (List Int) -> Bool
 | []=>true
 | [x]=>x != []
 | x :: y :: r=>x != [] && (!zAn y x && zCP (y :: r))
def zRf:D -> Option (List Int)
 | .tup ds=>zAC ds
 | _=>none
def zKW:List D -> Option (List (List Int))
 | []=>some []
 | d :: r=>match zRf d,zKW r with
  | some x,some xs=>some (x :: xs)
  | _,_=>none
theorem zJn:∀ {ds:List D} {xs:List Int},zAC ds = some xs -> zCT ds = some (kkI xs)
 | [],_,h=>by cases h; rfl
 | .int i :: r,xs,h=>by
  unfold zAC at h;split at h
  ·rename_i bs e;cases h;unfold zCT;rw [zJn e]; rfl
  ·cases h
 | .non :: _,_,h=>by cases h
 | .bl _ :: _,_,h=>by cases h
 | .str _ :: _,_,h=>by cases h
 | .tup _ :: _,_,h=>by cases h
 | .ref _ :: _,_,h=>by cases h
theorem zLf {L:List Addr} {H:Hp}:∀ {ps:List (D × D)} {ts:List (List Int)} {kvs:List (List Key × V)},zKW (ps.map (·.1)) = some ts -> zAZ tkD L H ps kvs -> kvs.map (·.1) = ts.map kkI
 | [],_,_,h,r=>by cases h; unfold zAZ at r; subst r; rfl
 | (d,e) :: ps,ts,kvs,h,r=>by
  rw [zVO] at h;unfold zKW at h;split at h
  ·rename_i x xs h1 h2;cases h;obtain ⟨k,v,r',rfl,e1,_,r2⟩:=r;rw [zVO,zVO,zLf h2 r2];cases d with
   | tup ds=>
    have e1':zCT ds = some k:=e1;rw [zJn h1] at e1';cases e1'; rfl
   | _=>cases h1
  ·cases h
theorem zLH:∀ {ts:List (List Int)},zCP ts = true -> (∀ t ∈ ts,t ≠ []) /\ ∀ (i:Nat) x y,ts[i]? = some x -> ts[i + 1]? = some y -> zAn y x = false
 | [],_=>⟨(fun _ h=>by cases h),(fun i x y e _=>by simp at e)⟩
 | [x],h=>⟨(fun t ht=>by rw [zVX.mp ht]; unfold zCP at h; simpa using h),(fun i x y _ e=>by simp at e)⟩
 | x :: y :: r,h=>by
  unfold zCP at h;simp only [zVf,bne_iff_ne,ne_eq,Bool.not_eq_true'] at h;obtain ⟨h1,h2⟩:=zLH h.2.2;refine ⟨fun t ht=>?_,fun i a b ea eb=>?_⟩
  ·rcases zVH.mp ht with rfl | ht
   ·exact h.1
   ·exact h1 t ht
  ·cases i with
   | zero=>cases ea; cases eb; exact h.2.1
   | succ i=>exact h2 i a b (by simpa using ea) (by simpa using eb)
theorem zFp:∀ {xs:List Int} {its:List Value},zW ((kkI xs).map kV) its -> IntsAre its xs
 | [],_,h=>by cases h; exact .nil
 | x :: xs,_,h=>by
  cases h with
  | cons r1 r2=>obtain ⟨t,rfl⟩:=r1; exact .cons _ _ (zFp r2)
section
variable {X:Cx}
theorem zPU {P:Program} {w:World} {H:Hp} {h:Heap} {b:Addr} {xs:List Int} (o:zl P w H h b (.tup ((kkI xs).map kV))):zCV h (.ref b) xs:=by
 obtain ⟨_,its,r,o,e,c,⟨n,d⟩,_⟩:=o;exact ⟨b,o,its.toArray,n,rfl,e,c,d,by simpa using zFp r⟩
theorem zKn (hc:X.calm = true):zBX X (.builtin "sorted") (fun xs H Q=>∃ d kvs ts,xs = [.ref d] /\ H d = some (.dT kvs) /\ kvs.map (·.1) = ts.map kkI /\ zCP ts = true /\ ∀ ys l,KS H kvs ys -> H l = none -> Q (.ref l) (upd H l (.lst ys))):=by
 intro zB s σ H xs us Q I r h;obtain ⟨d,kvs,ts,rfl,ed,ets,hrise,q⟩:=h;obtain ⟨u,rfl,rx⟩:=zDJ r;cases rx;obtain ⟨z1,z2,xs,r,o,es,en,h1,h2,h3,h4,h5⟩:=(show zl X.prog X.w H s.heap d (.dT kvs) from I.hok d _ ed);have hsz:es.size = kvs.length:=by rw [Paired.length r,<- zVo,h4,zVE]
 have htl:ts.length = kvs.length:=by have:=zWs List.length ets; simpa using this.symm
 obtain ⟨hne,hri⟩:=zLH hrise;have kat:∀ (i:Nat) t,ts[i]? = some t -> ∃ x b u,kvs[i]? = some (kkI t,x) /\ es[i]? = some (entryOfKey (tupleKind (zi X.prog X.w)) (kkI t,b,u)) /\ H b = some (.tup ((kkI t).map kV)):=by
  intro i t e;have hi:i < kvs.length:=by rw [<- htl]; exact (zU8.mp e).1
  have e1:(kvs.map (·.1))[i]? = some (kkI t):=by rw [ets,zVS,e]; rfl
  rw [zVS,zU9 hi] at e1;have e2:kvs[i]? = some (kkI t,kvs[i].2):=by rw [zU9 hi]; have:=zV5 e1; rw [<- this]
  obtain ⟨b,u,h6,h7,_⟩:=zRY r e2;exact ⟨_,b,u,e2,by rw [<- zWk,h4,zVS,h6]; rfl,h7⟩
 refine zGb (zIh (zO8 z2 h2.1 h3) (I.ok.hd hc) h1 (by omega) fun h' tk acc hk hle hacc=>?_);have hal:acc.toList.length = kvs.length:=by rw [zVo,hacc.1,hsz]
 have aat:∀ (i:Nat) u,acc.toList[i]? = some u -> ∃ t b x,ts[i]? = some t /\ u = .ref b /\ kvs[i]? = some (kkI t,x) /\ H b = some (.tup ((kkI t).map kV)) /\ zCV h' (.ref b) t:=by
  intro i u e;have hi:i < kvs.length:=by rw [<- hal]; exact (zU8.mp e).1
  have e0:ts[i]? = some ts[i]:=zU9 (by omega);obtain ⟨x,b,u',k1,k2,k3⟩:=kat i _ e0;rw [zWk] at e;obtain ⟨e',he',hv⟩:=hacc.2 i u e;rw [k2] at he'; cases he';exact ⟨_,b,x,e0,hv,k1,k3,(zPU (I.hok b _ k3)).keep fun c o _ eo=>hk c o eo⟩
 refine ⟨by rw [hal]; exact z1,fun v hv=>?_,fun i x y ex ey=>?_,fun h2' n' hk2 hL=>?_⟩
 ·obtain ⟨i,hi⟩:=List.mem_iff_getElem?.mp hv;obtain ⟨t,b,x,e1,rfl,_,_,tt⟩:=aat i v hi;cases t with
  | nil=>exact absurd rfl (hne _ (zVw e1))
  | cons a t=>exact ⟨a,t,tt⟩
 ·obtain ⟨t1,b1,x1,e1,rfl,_,_,tt1⟩:=aat i x ex;obtain ⟨t2,b2,x2,e2,rfl,_,_,tt2⟩:=aat (i + 1) y ey;rw [zCE tt1,zCE tt2];exact hri i t1 t2 e1 e2
 let ys:List V:=acc.toList.map fun u=>match u with | .ref b=> .ref b | _=> .non
 have hyl:ys.length = kvs.length:=by show (acc.toList.map _).length = _; rw [zVE,hal]
 have hys:∀ (i:Nat) b,acc.toList[i]? = some (.ref b) -> ys[i]? = some (.ref b):=fun i b e=>by show (acc.toList.map _)[i]? = _; rw [zVS,e]; rfl
 have ks:KS H kvs ys:=⟨hyl,fun i k x e=>by
  have hi:i < acc.toList.length:=by rw [hal]; exact (zU8.mp e).1
  have e3:acc.toList[i]? = some acc.toList[i]:=zU9 hi;obtain ⟨t,b,x',e1,e2,e4,e5,_⟩:=aat i _ e3;rw [e] at e4; cases e4;exact ⟨b,hys i b (by rw [e3,e2]),e5⟩⟩
 have rv:zW ys acc.toList:=zLE (hyl.trans hal.symm) fun i y u e1 e2=>by
  obtain ⟨t,b,x',e3,rfl,_⟩:=aat i u e2;rw [hys i b e2] at e1;cases e1; rfl
 exact ⟨.ref h'.objs.size,_,I.laid (t':=tk) (fun b o e=>hk2 b o (hk b o e)) hle (show zl X.prog X.w _ h2' _ (.lst ys) from ⟨by rw [hyl]; exact z1,acc.toList,n',rv,hL⟩),rfl,q ys _ ks (I.hok.fresh hle)⟩
def zD1:KB:=fun xs M=>match xs with
 | [.dat (.ref n)]=>match M[n]? with
  | some (.dicT ps)=>match zKW (ps.map (·.1)) with
   | some ts=>if zCP ts = true then some (.fl (ps.map (·.1)),M) else none
   | none=>none
  | _=>none
 | _=>none
theorem zM6:zE6 X.K (fun xs H Q=>∃ d kvs ts,xs = [.ref d] /\ H d = some (.dT kvs) /\ kvs.map (·.1) = ts.map kkI /\ zCP ts = true /\ ∀ ys l,KS H kvs ys -> H l = none -> Q (.ref l) (upd H l (.lst ys))) zD1:=by
 intro L M M' H H0 xs d vs Q cc r hk q;unfold zD1 at hk;split at hk
 ·rename_i n;split at hk
  ·rename_i ps e1;split at hk
   ·rename_i ts e2;split at hk
    ·rename_i e3;cases hk;obtain ⟨v,rfl,r1⟩:=r.one;unfold zV Rep at r1;obtain ⟨a,rfl,ea⟩:=r1;obtain ⟨ws,e4,r3⟩:=cc.obj n a _ ea e1;exact ⟨a,ws,ts,rfl,e4,zLf e2 r3,e3,fun ys l ks hl=>q L _ _ (.upd hl) (cc.upd hl) (zV.newLst (.refl L H) cc cc hl (zG9 r3 ks))⟩
    ·cases hk
   ·cases hk
  ·cases hk
 ·cases hk
theorem zQl {e:Expr} {p pos:Pos} {fa:FAE} (hc:X.calm = true) (hg:Gl X "sorted") (hm:X.mg "sorted" = none) (ha:QAE X [e] fa) (he:starEach [e] X.env = (false,eval e X.env) :: starEach [] X.env:=by rfl) (hpl:(backTo pos (starEach [] X.env)).any (·.1) = false:=by rfl):QE X (.Call (.Name "sorted" p) [e] [] pos) (fB zD1 fa) :=
 zCh zM6 (zKn hc) (by rfl) hg hm ha (by decide) (by decide) he hpl
def zET (fo fi:FE):FE:=fun σ M=>match toD fo σ M with
 | some (.ref n,M1)=>match M1[n]? with
  | some (.dicT _)=>match toD fi σ M1 with
   | some (k,M2)=>match zED M2 (.dat (.ref n)) k with
    | some o=>some (.dat (o.getD .non),M2)
    | none=>none
   | none=>none
  | _=>none
 | _=>none
theorem zRF {o i:Expr} {apos cpos:Pos} {f g:FE} (hu:X.A.units + 1 < cLine) (ho:QE X o f) (hi:QE X i g) (m:M1 X o "get" apos i cpos):QE X (.Call (.Attribute o "get" apos) [i] [] cpos) (zET f g) :=
 .mk <| PE.imp (zOT hu (zBb ho).un (zBb hi).un m) fun τ H Q zz=>by
  obtain ⟨L,σ,M,d,M',c,rs,hf,q⟩:=zz;unfold zET at hf;split at hf
  ·rename_i n M1 e1;split at hf
   ·rename_i kvs hk;split at hf
    ·rename_i k M2 e2;split at hf
     ·rename_i ov e4;cases hf;refine ⟨L,σ,M,_,_,c,rs,e1,fun L1 H1 u s1 c1 r1=>?_⟩;unfold Rep at r1;obtain ⟨a,rfl,ea⟩:=r1;refine ⟨a,rfl,?_,L1,σ,M1,_,_,c1,rs.stp s1,e2,fun L2 H2 y s2 c2 r2=>?_⟩
      ·obtain ⟨vs,e5,_⟩:=c1.obj n a _ ea hk; exact .inr ⟨vs,.inl e5⟩
      ·have ra:zV H L2 H2 (.dat (.ref n)) (.ref a):=by
        unfold zV Rep;exact ⟨a,rfl,by obtain ⟨N,hN⟩:=s2.pre; rw [hN]; exact zA7 ea⟩
       obtain ⟨a',o',e6,h1,h2⟩:=zCw c2 ra r2 e4;cases e6;refine ⟨o',h1,?_⟩;cases ov with
       | none=>
        have h':o' = none:=h2;subst h';exact q L2 H2 _ (s1.trans s2) c2 (by unfold zV Rep; rfl)
       | some dd=>
        obtain ⟨v,rfl,rv⟩:=h2;exact q L2 H2 _ (s1.trans s2) c2 rv
     ·cases hf
    ·cases hf
   ·cases hf
  ·cases hf
def oV:Option Int -> V
 | some i=> .int i
 | none=> .non
def zCx:List D -> Option (List (Option Int))
 | []=>some []
 | .int i :: r=>match zCx r with
  | some bs=>some (some i :: bs)
  | none=>none
 | .non :: r=>match zCx r with
  | some bs=>some (none :: bs)
  | none=>none
 | _=>none
theorem zFg {L:List Addr} {H:Hp}:∀ {ds:List D} {bs:List (Option Int)} {vs:List V},zCx ds = some bs -> zH L H ds vs -> vs = bs.map oV
 | [],bs,vs,e,r=>by cases e; unfold zH at r; exact r
 | d :: ds,bs,vs,e,r=>by
  unfold zH at r;obtain ⟨v,r',rfl,h1,h2⟩:=r;cases d <;> unfold zCx at e <;> try cases e
  all_goals
   split at e
   ·rename_i cs e1;cases e;rw [zVO,<- zFg e1 h2];unfold Rep at h1;rw [h1]; rfl
   ·cases e
def zGv (i:Int):Value -> Bool
 | .int j _=>j == i
 | _=>false
theorem zJ5:∀ {xs:List (Option Int)} {its:List Value},zW (xs.map oV) its -> ∀ (i:Int) (j:Nat) u,its[j]? = some u -> ∃ o,xs[j]? = some o /\ zGv i u = (o == some i) /\ ∀ (A:Around) (s:Shared) (t:Tok),SeqAt.EqAt A s u (.int i t) (zGv i u)
 | [],_,h,i,j,u,e=>by cases h; simp at e
 | x :: xs,_,h,i,j,u,e=>by
  cases h with
  | cons r1 r2=>
   cases j with
   | succ j=>exact zJ5 r2 i j u (by simpa using e)
   | zero=>
    cases e;refine ⟨x,rfl,?_⟩;cases x with
    | some k=>
     obtain ⟨t',rfl⟩:=r1;exact ⟨by show (k == i) = (some k == some i); simp,fun A s t=>SeqAt.EqAt.int_int k t' i t⟩
    | none=>
     cases r1;exact ⟨rfl,fun A s t=>SeqAt.EqAt.none_int i t⟩
theorem zLv:MtM X "list.index" (fun x vs H Q=>∃ (l:Addr) (i:Int) (xs:List (Option Int)),x = .ref l /\ vs = [.int i] /\ H l = some (.lst (xs.map oV)) /\ xs.length <= 90000 /\ some i ∈ xs /\ Q (.int (xs.idxOf (some i))) H):=by
 intro zB s σ H x xs v us Q I rx rv z;obtain ⟨p,i,ns,rfl,rfl,hp,hz,hi,q⟩:=z;cases rx;obtain ⟨u,rfl,ru⟩:=rv.one;obtain ⟨t,rfl⟩:=ru;obtain ⟨z,its,n,r,hl,ee⟩:=I.lstM hp;have hlen:its.length = ns.length:=by rw [<- r.length,zVE]
 have hj:ns.idxOf (some i) < ns.length:=List.idxOf_lt_length_iff.mpr hi;have at_:∀ (j:Nat) (h:j < its.length),zGv i its[j] = (ns[j]'(by omega) == some i):=fun j h=>by
  obtain ⟨o,e1,e2,_⟩:=zJ5 r i j _ (zU9 h);rw [zU9 (by omega)] at e1;cases e1; exact e2
 refine call_meets PySem.F.slot_list_index ⟨_,ee,rfl⟩ PySem.F.entry_list_index (PySem.F.args_list_index_2 _ _)
  (PySem.SeqAt.list_indexAt p its.toArray n none #[] (.int i t) (zGv i) (ns.idxOf (some i)) (by simpa [hlen] using hj) (by omega) ?_ ?_) ⟨ee,fun y hy=>?_,⟨.int (ns.idxOf (some i)),H,I.tok _,⟨_,rfl⟩,q⟩⟩
 ·show zGv i its[ns.idxOf (some i)] = true;rw [at_ _ (by omega)];simpa using List.getElem_idxOf hj
 ·intro j hjs hlt;show zGv i its[j] = false;rw [at_ j (by simpa using hjs)];have:=List.not_of_lt_findIdx hlt;simpa using this
 ·obtain ⟨j,hj⟩:=List.mem_iff_getElem?.mp (show y ∈ its by simpa using hy);obtain ⟨o,_,_,e3⟩:=zJ5 r i j y hj;exact e3 _ _ t
def zDV:KM:=fun x ds M=>match x,ds with
 | .dat (.ref n),[.int i]=>match M[n]? with
  | some (.lst ds)=>match zCx ds with
   | some xs=>if some i ∈ xs /\ xs.length <= 90000 then some (.int (xs.idxOf (some i)),M) else none
   | none=>none
  | _=>none
 | _,_=>none
theorem zKh {K:PySem.W.Frag}:zNB K (fun x vs H Q=>∃ (l:Addr) (i:Int) (xs:List (Option Int)),x = .ref l /\ vs = [.int i] /\ H l = some (.lst (xs.map oV)) /\ xs.length <= 90000 /\ some i ∈ xs /\ Q (.int (xs.idxOf (some i))) H) zDV:=by
 intro L M M' H H0 x ds d v vs Q c rx rd hk q;unfold zDV at hk;split at hk
 ·rename_i n i;split at hk
  ·rename_i ds e1;split at hk
   ·rename_i xs e2;split at hk
    ·rename_i hi;cases hk;unfold zV Rep at rx;obtain ⟨a,rfl,e4⟩:=rx;obtain ⟨ws,e5,r5⟩:=c.obj n a _ e4 e1;have ev:=zFg e2 r5;subst ev;exact ⟨a,i,xs,rfl,zEa rd,e5,hi.2,hi.1,q L H _ (.refl L H) c (by unfold Rep; rfl)⟩
    ·cases hk
   ·cases hk
  ·cases hk
 ·cases hk
theorem zNu {a e:Expr} {apos cpos:Pos} {f:FE} {fg:FA} (h:QE X a f) (hg:QA X [e] fg) (hbase:attributeBase a "index" X.env (eval a X.env) = eval a X.env:=by rfl)
  (hfew:((backTo cpos (starEach [e] X.env)).all (fun x=> !x.1) && (backToKw cpos (keywordEach [] X.env)).all (fun x=>x.1.isSome) && decide ([e].length + ([]:List Keyword).length + (if ([]:List Keyword).isEmpty then 0 else 1) < 30)) = true:=by rfl)
  (hline:(apos.endLine == cpos.line) = true:=by rfl) (hs:starEach [e] X.env = (false,eval e X.env) :: starEach [] X.env:=by rfl) (hplain:(backTo cpos (starEach [] X.env)).any (·.1) = false:=by rfl) :
  QE X (.Call (.Attribute a "index" apos) [e] [] cpos) (fM zDV f fg) :=
 .mk <| PE.imp (zJj PySem.F.plainAttrs_list PySem.F.slot_list_index PySem.F.type_list_index zLv h.un hg.un hbase hfew hline hs hplain) fun _ _ _ z=>zFf zKh z
end
end L3
namespace Law
open PySem PySem.Spec PyProof.Rows L2 L3
noncomputable def zC1:FS:=(zO (zx 1 (fOp zAQ (fB zBQ (zQ (zC 0) zh)) (fC (.int 3))))
  (zO (zCQ (zAH (fSl (zC 0) zEq (zEH (fC (.int 63))))) (gN 2) (zx 1 (fOp zEV (fOp zAQ (fOp zAQ (fOp zMc (zC 1) (fC (.int 6364136223846793))) (fOp zEV (zC 2) (fOp zOn (fC (.int 10)) (fC (.int 30))))) (fC (.int 1442695040888963))) (fC (.int 2305843009213693951)))))
  (zw (zAW (zD (toD (zj [2] (zAH (fSl (zC 0) zEq (zEH (fC (.int 63))))) (gN 2) (tst (fOp kGe (fB zMb (zQ (zC 2) zh)) (fOp zOn (fC (.int 10)) (fC (.int 18))))) (fB zMb (zQ (zC 2) zh)))) (zD (toD (zC 1)) zI))))))
noncomputable def zAx:FF:=zBP 3 zC1
noncomputable def zDp:FS:=(zO (zA9 (zBc (tst (fOp kNe (fOp kIx (zC 0) (fC (.int 0))) (zAW zI))) (tst (fOp kEq (fOp kIx (fOp kIx (zC 0) (fC (.int 0))) (fC (.int 0))) (fC (.int 0))))) (zAj (fM zJq (fOp kIx (zC 0) (fC (.int 0))) (zD (toD (fC (.int 0))) zI))) 100)
  (zO (sIf (tst (fOp kNe (fOp kIx (zC 0) (fC (.int 0))) (zAW zI))) (zO (zx 2 (fOp zEV (fOp kIx (fOp kIx (zC 0) (fC (.int 0))) (fC (.int 0))) (zC 1)))
  (zO (zKI (fOp zLi (fOp kIx (fOp kIx (zC 0) (fC (.int 0))) (fC (.int 0))) (zC 1)) (fOp kIx (zC 0) (fC (.int 0))) (fC (.int 0)))
  (zw (zC 2)))) zBM)
  (zO (zKI (fOp zEV (fOp zAQ (fOp zMc (fOp kIx (zC 0) (fC (.int 1))) (fC (.int 6364136223846793))) (fC (.int 1442695040888963))) (fC (.int 2305843009213693951))) (zC 0) (fC (.int 1)))
  (zw (fOp zEV (fOp zLi (fOp zEV (fOp zMc (fOp kIx (zC 0) (fC (.int 1))) (fOp kIx (zC 0) (fC (.int 1)))) (fC (.int 2305843009213693921))) (fC (.int 65537))) (zC 1))))))
noncomputable def zZ:FF:=zBP 3 zDp
structure Gen (M:Mem) (n k:Nat):Prop where
 ex:∃ (c:List Int) (s:Int),M[n]? = some (.lst [.ref k,.int s]) /\ M[k]? = some (.lst (c.map D.int)) /\ (∀ x ∈ c,0 <= x) /\ c.length <= 63 /\ 0 <= s /\ s < 2305843009213693951
 ne:n ≠ k
 wf:∀ (j:Nat) u,M[j]? = some u -> MO.und M.length u = true
structure Nx (M M':Mem) (n k:Nat):Prop where
 gen:Gen M' n k
 len:M'.length = M.length
 fr:∀ j,j ≠ n -> j ≠ k -> M'[j]? = M[j]?
theorem Nx.refl (h:Gen M n k):Nx M M n k:=⟨h,rfl,fun _ _ _=>rfl⟩
theorem Nx.trans {M M1 M2:Mem} {n k:Nat} (a:Nx M M1 n k) (b:Nx M1 M2 n k):Nx M M2 n k:=⟨b.gen,b.len.trans a.len,fun j h1 h2=>(b.fr j h1 h2).trans (a.fr j h1 h2)⟩
theorem zAD (n:Nat):∀ c:List Int,D.unds n (c.map D.int) = true
 | []=>rfl
 | x :: r=>by
  show (D.und n (D.int x) && D.unds n (r.map D.int)) = true;rw [zAD n r]; rfl
theorem Gen.lt (h:Gen M n k):n < M.length /\ k < M.length:=by
 obtain ⟨c,s,e1,e2,_⟩:=h.ex;exact ⟨(zU8.mp e1).1,(zU8.mp e2).1⟩
theorem Gen.put {M:Mem} (h:Gen M n k) {c:List Int} (hc:∀ x ∈ c,0 <= x) (hl:c.length <= 63) (h0:0 <= s) (h1:s < 2305843009213693951) :
  Nx M ((M.set k (.lst (c.map D.int))).set n (.lst [.ref k,.int s])) n k:=by
 obtain ⟨hn,hk⟩:=h.lt;refine ⟨⟨⟨c,s,?_,?_,hc,hl,h0,h1⟩,h.ne,fun j u e=>?_⟩,by simp,fun j h1 h2=>?_⟩
 ·rw [zVz (by simpa using hn)]
 ·rw [zVZ h.ne,zVz hk]
 ·rw [List.length_set,List.length_set];rw [zWe] at e;split at e
  ·split at e
   ·cases e;show D.unds _ _ = true;unfold D.unds D.unds D.unds D.und;simp [hk]
   ·cases e
  ·rw [zWe] at e;split at e
   ·rename_i z;subst z;cases e; exact zAD _ _
   ·exact h.wf j u e
 ·rw [zVZ (Ne.symm h1),zVZ (Ne.symm h2)]
theorem zGK {M:Mem} (h:M[k]? = some u):M.set k u = M:=by
 apply List.ext_getElem?;intro i;rw [zWe];split
 ·rename_i e; subst e;rw [zVK (zU8.mp h).1]; exact h.symm
 ·rfl
theorem zIu:∀ {a b:List Int},a.map D.int = b.map D.int -> a = b
 | [],[],_=>rfl
 | [],_ :: _,h=>by cases h
 | _ :: _,[],h=>by cases h
 | x :: a,y :: b,h=>by
  rw [zVO,zVO] at h;have h1:=(zV9 h).1;have h2:=zIu (zV9 h).2;cases h1; rw [h2]
theorem at0 {x:D} {xs:List D}:atI (x :: xs) 0 = some x:=zKx (k:=0) rfl
theorem at1 {x y:D} {xs:List D}:atI (x :: y :: xs) 1 = some y:=zKx (k:=1) rfl
theorem zQM (h:Gen M n k) (h0:0 < m) (h1:m < 1073741824) :
  Ok (zZ [.ref n,.int m] M) fun d M'=>(∃ i,d = .int i /\ 0 <= i /\ i < m) /\ Nx M M' n k:=by
 unfold zZ;rw [zAI];unfold zDp;show OkS (zO _ _ [some (.ref n),some (.int m),none] M) _;rw [zK];have st:∀ {M:Mem} {c:List Int} {s:Int} {σ:Sd} {P:EV -> Mem -> Prop},σ[0]? = some (some (.ref n)) -> M[n]? = some (.lst [.ref k,.int s]) -> P (.dat (.ref k)) M -> Ok (fOp kIx (zC 0) (fC (.int 0)) σ M) P:=fun hσ hM p=>
  zAA.mpr (zv.mpr ⟨_,hσ,zBz.mpr (zN7 (zy hM) at0 p)⟩)
 have sd:∀ {M:Mem} {s:Int} {σ:Sd} {P:EV -> Mem -> Prop},σ[0]? = some (some (.ref n)) -> M[n]? = some (.lst [.ref k,.int s]) -> P (.dat (.int s)) M -> Ok (fOp kIx (zC 0) (fC (.int 1)) σ M) P:=fun hσ hM p=>
  zAA.mpr (zv.mpr ⟨_,hσ,zBz.mpr (zN7 (zy hM) at1 p)⟩)
 have hd:∀ {M:Mem} {c:List Int} {x s:Int} {σ:Sd} {P:EV -> Mem -> Prop},σ[0]? = some (some (.ref n)) -> M[n]? = some (.lst [.ref k,.int s]) -> M[k]? = some (.lst ((x :: c).map D.int)) -> P (.dat (.int x)) M -> Ok (fOp kIx (fOp kIx (zC 0) (fC (.int 0))) (fC (.int 0)) σ M) P:=fun {M c x s σ P} hσ hM hK p=>
  zAA.mpr (st (c:=c) hσ hM (zBz.mpr (zN7 (zy hK) at0 p)))
 have ne:∀ {M:Mem} {c:List Int} {s:Int} {σ:Sd} {P:Bool -> Mem -> Prop},σ[0]? = some (some (.ref n)) -> M[n]? = some (.lst [.ref k,.int s]) -> M[k]? = some (.lst (c.map D.int)) -> P (!c.isEmpty) M -> Ok (tst (fOp kNe (fOp kIx (zC 0) (fC (.int 0))) (zAW zI)) σ M) P:=fun {M c s σ P} hσ hM hK p=>by
  refine zKc.mpr (zAA.mpr (st (c:=c) hσ hM (zJu.mpr (zB2.mpr ⟨zVr _,?_⟩))));rw [zK2 (zAr hK) (by intro d e; cases e; rfl)];rw [zD0];simpa using p
 have W:∀ (fuel m':Nat) (σ:Sd) (M':Mem),m' < fuel -> ((σ = [some (.ref n),some (.int m),none] /\ Nx M M' n k) /\ ∃ (c:List Int) (s:Int),M'[n]? = some (.lst [.ref k,.int s]) /\ M'[k]? = some (.lst (c.map D.int)) /\ c.length = m') ->
   OkS (zA9 (zBc (tst (fOp kNe (fOp kIx (zC 0) (fC (.int 0))) (zAW zI))) (tst (fOp kEq (fOp kIx (fOp kIx (zC 0) (fC (.int 0))) (fC (.int 0))) (fC (.int 0))))) (zAj (fM zJq (fOp kIx (zC 0) (fC (.int 0))) (zD (toD (fC (.int 0))) zI))) fuel σ M')
    (fun o σ1 M1=>o = .nx /\ σ1 = [some (.ref n),some (.int m),none] /\ Nx M M1 n k):=by
  intro fuel m' σ M' hlt hI;refine zDS (I:=fun m' σ M'=>(σ = [some (.ref n),some (.int m),none] /\ Nx M M' n k) /\ ∃ (c:List Int) (s:Int),M'[n]? = some (.lst [.ref k,.int s]) /\ M'[k]? = some (.lst (c.map D.int)) /\ c.length = m') ?_ fuel m' σ M' hlt hI;rintro m' σ M' ⟨⟨rfl,nx⟩,c,s,e1,e2,hl⟩;refine zPc.mpr (ne rfl e1 e2 ?_);cases c with
  | nil=>simp; exact nx
  | cons x c=>
   simp only [List.isEmpty_cons,Bool.not_false,if_true];refine zKc.mpr (zAA.mpr (hd rfl e1 e2 (zBz.mpr (zMQ.mpr (zD0.mpr ?_)))));by_cases hx:x = 0
   ·rw [zVK (by simpa using hx)];refine zCS.mpr (zKl.mpr (st (c:=c) rfl e1 ⟨⟨_,zAr e2⟩,zAY.mpr (zAT.mpr (zBz.mpr (zL.mpr (zB2.mpr ?_))))⟩));rw [zVO] at e2;rw [zSJ e2];refine ⟨c.length,by rw [<- hl]; simp,?_⟩;obtain ⟨c',s',z1,z2,z3,z4,z5,z6⟩:=nx.gen.ex;rw [e1] at z1; cases z1;rw [e2] at z2;have hcc:c' = x :: c:=by
     have:(x :: c).map D.int = c'.map D.int:=by have:=z2; simp only [Option.some.injEq,MO.lst.injEq] at this; simpa using this
     exact (zIu this).symm
    subst hcc;have P:=nx.gen.put (c:=c) (s:=s) (fun y hy=>z3 y (zVI _ hy)) (by simp at z4; omega) z5 z6;have q:((M'.set k (.lst (c.map D.int))).set n (.lst [.ref k,.int s])) = M'.set k (.lst (c.map D.int)):=zGK (by rw [zVZ (Ne.symm nx.gen.ne)]; exact e1);rw [q] at P;have hk:=nx.gen.lt.2;refine ⟨⟨rfl,nx.trans P⟩,c,s,?_,?_,rfl⟩
    ·rw [zVZ (Ne.symm nx.gen.ne)]; exact e1
    ·rw [zVz hk]
   ·rw [zVN (by simpa using hx)];first | exact ⟨rfl,rfl,nx⟩ | exact ⟨trivial,trivial,nx⟩ | simpa using nx
 obtain ⟨c,s,e1,e2,e3,e4,_⟩:=h.ex;refine OkS.mono (W 100 c.length _ M (by omega) ⟨⟨rfl,.refl h⟩,c,s,e1,e2,rfl⟩) ?_;rintro o σ M1 ⟨rfl,rfl,nx⟩;rw [zP,zK,zBA];obtain ⟨c,s,e1,e2,e3,e4,e5,e6⟩:=nx.gen.ex;refine ne rfl e1 e2 ?_;cases c with
 | nil=>
  simp only [List.isEmpty_nil,Bool.not_true,zV6,zXW];rw [zAs,zP,zK,zH1];refine zAA.mpr (zAA.mpr (zAA.mpr (sd rfl e1 (zBz.mpr (zOF.mpr ⟨by simp [zL9] <;> omega,zBz.mpr (zEW.mpr (zBz.mpr (zEr.mpr ⟨by decide,?_⟩)))⟩)))));rw [zL];refine zv.mpr ⟨_,rfl,zBz.mpr ?_⟩;rw [zL];have hs0:0 <= (s * 6364136223846793 + 1442695040888963) % 2305843009213693951:=Int.emod_nonneg _ (by decide);have hs1:(s * 6364136223846793 + 1442695040888963) % 2305843009213693951 < 2305843009213693951:=Int.emod_lt_of_pos _ (by decide);generalize (s * 6364136223846793 + 1442695040888963) % 2305843009213693951 = s' at hs0 hs1;have P:=nx.gen.put (c:=[]) (s:=s') (fun _ h=>by cases h) (by simp) hs0 hs1;rw [zGK (show M1[k]? = some (.lst (([]:List Int).map D.int)) from e2)] at P;refine ⟨_,zFd (k:=1) e1 (by simp),?_⟩;rw [zP,zAU];have e1':(M1.set n (.lst [.ref k,.int s']))[n]? = some (.lst [.ref k,.int s']):=zVz nx.gen.lt.1;refine zAA.mpr (zAA.mpr (zAA.mpr (zAA.mpr (sd rfl e1' (sd rfl e1' (zOF.mpr ⟨by simp [zL9] <;> omega,zBz.mpr (zEr.mpr ⟨by decide,zBz.mpr (zOr.mpr ⟨by decide,zv.mpr ⟨_,rfl,zEr.mpr ⟨h0,?_⟩⟩⟩)⟩)⟩))))));rw [zL];exact ⟨⟨_,rfl,Int.emod_nonneg _ (by omega),Int.emod_lt_of_pos _ h0⟩,nx.trans P⟩
 | cons x c=>
  simp only [List.isEmpty_cons,Bool.not_false,if_true];rw [zK,zb];refine zAA.mpr (hd rfl e1 e2 (zv.mpr ⟨_,rfl,zEr.mpr ⟨h0,?_⟩⟩));rw [zL,zP,zK,zH1];refine zAA.mpr (hd rfl e1 e2 (zv.mpr ⟨_,rfl,zOr.mpr ⟨⟨h0,h1⟩,?_⟩⟩));rw [zL];refine st (c:=c) rfl e1 (zBz.mpr ?_);rw [zL];refine ⟨_,zFd (k:=0) e2 (by simp),?_⟩;rw [zP,zAU];refine zv.mpr ⟨_,rfl,?_⟩;rw [zL,zCY];have hx:=e3 x zVJ;have P:=nx.gen.put (c:=(x / m) :: c) (s:=s) (fun y hy=>by
   rcases zVH.mp hy with z | z
   ·subst z; exact Int.ediv_nonneg hx (by omega)
   ·exact e3 y (zVI _ z)) (by simpa using e4) e5 e6
  rw [zGK (k:=n) (by rw [zVZ (Ne.symm nx.gen.ne)]; exact e1)] at P;exact ⟨⟨_,rfl,Int.emod_nonneg _ (by omega),Int.emod_lt_of_pos _ h0⟩,nx.trans P⟩
theorem zN8 (ns:List Int) (lo hi:Option Int):∃ c:List Int,L3.zE4 (ns.map D.int) lo hi = c.map D.int /\ c.length <= ns.length:=by
 refine ⟨(ns.drop (HT.sIx ns.length 0 lo)).take (HT.sIx ns.length ns.length hi - HT.sIx ns.length 0 lo),?_,?_⟩
 ·unfold L3.zE4;rw [zVE,List.map_take,List.map_drop]
 ·rw [zWT,zXY]; omega
theorem zDd (h:x :: r = c.map D.int):∃ y c',c = y :: c' /\ x = .int y /\ r = c'.map D.int:=by
 cases c with
 | nil=>cases h
 | cons y c'=>rw [zVO] at h; exact ⟨y,c',rfl,(zV9 h).1,(zV9 h).2⟩
theorem zAo:zAX none xs M:=trivial
theorem zn (h:n <= 100000):n <= sizeLine:=zVW h (by decide)
theorem zOG {ns:List Int} (h:ns.length <= 63):Ok (zAx [.ref 0] [.fro (ns.map D.int)]) fun d M'=>d = .ref 2 /\ Gen M' 2 1 /\ M'[0]? = some (.fro (ns.map D.int)) /\ M'.length = 3:=by
 unfold zAx;rw [zAI];unfold zC1;show OkS (zO _ _ [some (.ref 0),none,none] _) _;have e0:([.fro (ns.map D.int)]:Mem)[0]? = some (.fro (ns.map D.int)):=rfl;obtain ⟨cut,ec,lc⟩:=zN8 ns none (some 63);have sl:∀ {σ:Sd} {P:EV -> Mem -> Prop},σ[0]? = some (some (.ref 0)) -> P (.fl (cut.map D.int)) [.fro (ns.map D.int)] -> Ok (fSl (zC 0) zEq (zEH (fC (.int 63))) σ [.fro (ns.map D.int)]) P:=fun hσ p=>by
  refine zRM.mpr (zv.mpr ⟨_,hσ,zIT.mpr (zJf.mpr (zBz.mpr (zIm.mpr ?_)))⟩);rw [zOZ (zK0 e0) rfl,ec]; exact p
 rw [zK,zb];refine zAA.mpr (zQt.mpr (zD9.mpr (zv.mpr ⟨_,rfl,zFM.mpr ((zRb (zPp e0)).mpr (zBz.mpr (zEW.mpr ?_)))⟩)));rw [zL,zP,zK,zBN];obtain ⟨x,M1,ex,px⟩:=sl (σ:=[some (.ref 0),some (.int (((ns.map D.int).length:Int) + 3)),none]) (P:=fun x M=>x = .fl (cut.map D.int) /\ M = [.fro (ns.map D.int)]) rfl ⟨rfl,rfl⟩;obtain ⟨rfl,rfl⟩:=px;refine ⟨_,_,_,zDT ex zEl,?_⟩;refine zA8 (I:=fun r σ M=>M = [.fro (ns.map D.int)] /\ (∃ c:List Int,r = c.map D.int) /\ ∃ s y,σ = [some (.ref 0),some (.int s),y] /\ 0 <= s /\ s < 2305843009213693951) ?_ ?_ _ _ _ ⟨rfl,⟨cut,rfl⟩,_,none,rfl,by simp; omega,by simp; omega⟩
 ·rintro x r σ M ⟨rfl,⟨c,hc⟩,s,y,rfl,h0,h1⟩;obtain ⟨z,c',rfl,rfl,rfl⟩:=zDd hc;refine ⟨zAo,_,rfl,?_⟩;rw [zb];refine zAA.mpr (zAA.mpr (zAA.mpr (zAA.mpr (zv.mpr ⟨_,rfl,zBz.mpr (zOF.mpr ⟨by simp [zL9],?_⟩)⟩))));refine zAA.mpr (zv.mpr ⟨_,rfl,zAA.mpr (zBz.mpr (zBz.mpr (zRX.mpr ⟨by decide,zEr.mpr ⟨by decide,zEW.mpr (zBz.mpr (zEW.mpr (zBz.mpr (zEr.mpr ⟨by decide,?_⟩))))⟩⟩)))⟩);rw [zL];exact ⟨rfl,⟨c',rfl⟩,_,_,rfl,Int.emod_nonneg _ (by decide),Int.emod_lt_of_pos _ (by decide)⟩
 ·rintro σ M ⟨rfl,_,s,y,rfl,h0,h1⟩;refine ⟨zAo,?_⟩;rw [zP,zAU,zJu,zAY,zAT,zEQ];obtain ⟨x,M1,ex,px⟩:=sl (σ:=[some (.ref 0),some (.int s),y]) (P:=fun x M=>x = .fl (cut.map D.int) /\ M = [.fro (ns.map D.int)]) rfl ⟨rfl,rfl⟩;obtain ⟨rfl,rfl⟩:=px;refine ⟨_,_,_,zDT ex zEl,by rw [zVE]; exact zn (by omega),?_⟩;refine Ok.mono (zDL (I:=fun r acc M=>M = [.fro (ns.map D.int)] /\ (∃ c:List Int,r = c.map D.int) /\ r.length + acc.length <= 63 /\ ∃ b:List Int,acc = b.map D.int /\ ∀ x ∈ b,0 <= x) (Q:=fun acc M=>M = [.fro (ns.map D.int)] /\ acc.length <= 63 /\ ∃ b:List Int,acc = b.map D.int /\ ∀ x ∈ b,0 <= x) ?_ ?_ _ [] _ ⟨rfl,⟨cut,rfl⟩,by simp; omega,[],rfl,fun _ h=>by cases h⟩) ?_
  ·rintro x r acc M ⟨rfl,⟨c,hc⟩,hl,b,rfl,hb⟩;obtain ⟨z,c',rfl,rfl,rfl⟩:=zDd hc;refine ⟨zAo,_,rfl,?_⟩;refine zKc.mpr (zAA.mpr (zQt.mpr (zD9.mpr (zv.mpr ⟨_,rfl,zFM.mpr (zRN.mpr (zAA.mpr (zBz.mpr (zBz.mpr (zRX.mpr ⟨by decide,zUs.mpr (zD0.mpr ?_)⟩)))))⟩))));by_cases hz:(10:Int) ^ (18:Int).toNat <= (if z < 0 then -z else z)
   ·rw [zVK (by simpa using hz)];refine zQt.mpr (zD9.mpr (zv.mpr ⟨_,rfl,zFM.mpr (zRN.mpr (zL.mpr ⟨rfl,⟨c',rfl⟩,?_,b ++ [if z < 0 then -z else z],by simp,?_⟩))⟩))
    ·simp at hl ⊢; omega
    ·intro y hy;rcases zVV.mp hy with q | q
     ·exact hb y q
     ·have:y = if z < 0 then -z else z:=by simpa using q
      rw [this]; split <;> omega
   ·rw [zVN (by simpa using hz)];exact ⟨rfl,⟨c',rfl⟩,by simp at hl ⊢; omega,b,rfl,hb⟩
  ·rintro acc M ⟨rfl,_,hl,hb⟩;exact ⟨zAo,rfl,by simpa using hl,hb⟩
  ·rintro ys M ⟨rfl,hl,b,hb,hp⟩;rw [List.nil_append] at hb hl;subst hb;rw [zFD,zAY,zAT,zv];refine ⟨_,rfl,?_⟩;rw [zL,zB2];refine ⟨zn (by simp),?_⟩;rw [zFD];refine ⟨rfl,⟨⟨b,s,rfl,rfl,hp,by simpa using hl,h0,h1⟩,by decide,?_⟩,rfl,rfl⟩;intro j u e;match j,e with
   | 0,e=>cases e; exact zAD _ _
   | 1,e=>cases e; exact zAD _ _
   | 2,e=>cases e; rfl
   | j + 3,e=>simp at e
mutual
theorem zCz (h:a <= b):∀ {d:D},D.und a d = true -> D.und b d = true
 | .non,_=>by unfold D.und; rfl
 | .bl _,_=>by unfold D.und; rfl
 | .int _,_=>by unfold D.und; rfl
 | .str _,_=>by unfold D.und; rfl
 | .tup ds,e=>by unfold D.und at e ⊢; exact zBg h e
 | .ref k,e=>by unfold D.und at e ⊢; simp at e ⊢; omega
theorem zBg (h:a <= b):∀ {ds:List D},D.unds a ds = true -> D.unds b ds = true
 | [],_=>by unfold D.unds; rfl
 | d :: ds,e=>by
  unfold D.unds at e ⊢;rw [zVf] at e ⊢;exact ⟨zCz h e.1,zBg h e.2⟩
end
theorem zMh (h:a <= b) (e:MO.und a u = true):MO.und b u = true:=by
 cases u with
 | lst xs=>exact zBg h e
 | fro xs=>exact zBg h e
 | set xs=>exact zBg h e
 | dict kvs=>
  unfold MO.und at e ⊢;rw [zVg] at e ⊢;intro p hp;have:=e p hp;rw [zVf] at this ⊢;exact ⟨zCz h this.1,zCz h this.2⟩
 | dicT kvs=>
  unfold MO.und at e ⊢;rw [zVg] at e ⊢;intro p hp;have:=e p hp;rw [zVf] at this ⊢;exact ⟨zCz h this.1,zCz h this.2⟩
theorem zFr:∀ {xs ys:List D},D.unds n (xs ++ ys) = (D.unds n xs && D.unds n ys)
 | [],ys=>by simp [D.unds]
 | x :: xs,ys=>by
  show (D.und n x && D.unds n (xs ++ ys)) = ((D.und n x && D.unds n xs) && D.unds n ys);rw [zFr,Bool.and_assoc]
theorem zFv:∀ {xs:List D},(∀ x ∈ xs,D.und n x = true) -> D.unds n xs = true
 | [],_=>rfl
 | x :: xs,h=>by
  show (D.und n x && D.unds n xs) = true;rw [h x zVJ,zFv fun y hy=>h y (zVI _ hy)]; rfl
theorem zBR (c:List Int):D.und n (.tup (c.map D.int)) = true:=by unfold D.und; exact zAD n c
theorem Gen.app (h:Gen A n k) (hu:∀ u ∈ us,MO.und (A.length + us.length) u = true):Gen (A ++ us) n k:=by
 obtain ⟨c,s,e1,e2,r⟩:=h.ex;obtain ⟨hn,hk⟩:=h.lt;refine ⟨⟨c,s,by rw [zVC hn]; exact e1,by rw [zVC hk]; exact e2,r⟩,h.ne,fun j u e=>?_⟩;rw [zVL];by_cases hj:j < A.length
 ·rw [zVC hj] at e;exact zMh (by omega) (h.wf j u e)
 ·rw [zWF (by omega)] at e;exact hu u (zVw e)
theorem zAO (h:Gen M n k) (ha:fa σ M = some (.dat (.ref n),M)) (hb:fb σ M = some (.dat (.int m),M)) (h0:0 < m) (h1:m < 1073741824)
  (q:∀ i M',0 <= i -> i < m -> Nx M M' n k -> P (.dat (.int i)) M'):Ok (zR zZ (zD (toD fa) (zD (toD fb) zI)) σ M) P:=by
 rw [zCd,zAY,zAT];refine ⟨_,_,ha,?_⟩;rw [zL,zAY,zAT];refine ⟨_,_,hb,?_⟩;rw [zL,zB2];refine Ok.mono (zQM h h0 h1) ?_;rintro d M' ⟨⟨i,rfl,i0,i1⟩,nx⟩;exact q i M' i0 i1 nx
def zBq (i:Nat):Nat -> List D
 | 0=>[]
 | n + 1=> .int i :: zBq (i + 1) n
theorem zID (n:Nat):∀ i,((List.range' i n).map fun (k:Nat)=>D.int k) = zBq i n:=by
 induction n with
 | zero=>intro i; rfl
 | succ n ih=>intro i; rw [List.range'_succ,zVO,ih]; rfl
theorem zF5 (n:Nat):((List.range n).map fun (k:Nat)=>D.int k) = zBq 0 n:=by rw [List.range_eq_range',zID]
theorem zCL:∀ (n i:Nat),(zBq i n).length = n
 | 0,_=>rfl
 | n + 1,i=>by show (zBq (i + 1) n).length + 1 = _; rw [zCL n]
theorem zHx (n:Nat) (I:Nat -> Sd -> Mem -> Prop)
  (hs:∀ i σ M,i < n -> I i σ M -> ∃ σ1,g (.int i) σ = some σ1 /\ OkS (b σ1 M) fun o σ2 M2=>match o with | .nx=>I (i + 1) σ2 M2 | .cnt=>I (i + 1) σ2 M2 | .brk=>P .nx σ2 M2 | .ret d=>P (.ret d) σ2 M2)
  (he:∀ σ M,I n σ M -> P .nx σ M) (σ:Sd) (M:Mem) (h0:I 0 σ M):OkS (zB9 g b all none (zBq 0 n) σ M) P:=by
 refine zA8 (I:=fun r σ M=>∃ i,i <= n /\ r = zBq i (n - i) /\ I i σ M) ?_ ?_ _ _ _ ⟨0,zVr _,by simp,h0⟩
 ·rintro x r σ M ⟨i,hi,e,hI⟩;have hlt:i < n:=by
   rcases Nat.lt_or_ge i n with z | z
   ·exact z
   ·rw [show n - i = 0 by omega] at e; cases e
  rw [show n - i = (n - (i + 1)) + 1 by omega] at e;obtain ⟨rfl,rfl⟩:=zV9 e;obtain ⟨σ1,e1,q⟩:=hs i σ M hlt hI;refine ⟨zAo,σ1,e1,OkS.mono q ?_⟩;intro o σ2 M2 z;cases o with
  | nx=>exact ⟨i + 1,hlt,rfl,z⟩
  | cnt=>exact ⟨i + 1,hlt,rfl,z⟩
  | brk=>exact z
  | ret d=>exact z
 ·rintro σ M ⟨i,hi,e,hI⟩;have:i = n:=by
   rcases Nat.lt_or_ge i n with z | z
   ·rw [show n - i = (n - (i + 1)) + 1 by omega] at e; cases e
   ·omega
  subst this;exact ⟨zAo,he σ M hI⟩
theorem zOO (n:Nat) (I:Nat -> List D -> Mem -> Prop)
  (hs:∀ i acc M,i < n -> I i acc M -> ∃ σ1,g (.int i) σ = some σ1 /\ Ok (te σ1 M) (zFY fun d M2=>I (i + 1) (acc ++ [d]) M2)) (h0:I 0 [] M) :
  Ok (zAV g zd te σ all none (zBq 0 n) M) fun ys M1=>I n ys M1:=by
 refine Ok.mono (zDL (I:=fun r acc M=>∃ i,i <= n /\ r = zBq i (n - i) /\ I i acc M) (Q:=fun acc M=>I n acc M) ?_ ?_ _ [] _ ⟨0,zVr _,by simp,h0⟩) fun ys M1 q=>by simpa using q
 ·rintro x r acc M ⟨i,hi,e,hI⟩;have hlt:i < n:=by
   rcases Nat.lt_or_ge i n with z | z
   ·exact z
   ·rw [show n - i = 0 by omega] at e; cases e
  rw [show n - i = (n - (i + 1)) + 1 by omega] at e;obtain ⟨rfl,rfl⟩:=zV9 e;obtain ⟨σ1,e1,q⟩:=hs i acc M hlt hI;refine ⟨zAo,σ1,e1,zJi.mpr ?_⟩;rw [zVK rfl];refine Ok.mono q ?_;intro x M2 z;cases x with
  | dat d=>exact ⟨i + 1,hlt,rfl,z⟩
  | fl xs=>exact ⟨i + 1,hlt,rfl,z⟩
 ·rintro acc M ⟨i,hi,e,hI⟩;have:i = n:=by
   rcases Nat.lt_or_ge i n with z | z
   ·rw [show n - i = (n - (i + 1)) + 1 by omega] at e; cases e
   ·omega
  subst this;exact ⟨zAo,hI⟩
theorem zBZ (e:f σ M = some (.dat (.int j),M)) (h1:0 <= j) (h2:j < 2 ^ 62):zr (zD (toD f) zI) σ M = some (zBq 0 j.toNat,none,M):=by
 have e':(zD (toD f) zI) σ M = some ([.int j],M):=by unfold zD toD zI; rw [e]
 rw [zKg e' h1 h2,zF5]
def mD (zA:List (List Int)):D:=.tup (zA.map fun r=> .tup (r.map D.int))
structure IsM (zA:List (List Int)) (l:Nat):Prop where
 r0:0 < zA.length
 l0:0 < l
 row:∀ r ∈ zA,r.length = l /\ ∀ g ∈ r,0 <= g /\ g < zA.length
theorem zFP (zA:List (List Int)):D.und n (mD zA) = true:=by
 unfold mD D.und;refine zFv fun x hx=>?_;obtain ⟨r,_,rfl⟩:=zVM.mp hx;exact zBR r
theorem zU {α:Type} {x:Option (α × Mem)} {a:α} {M:Mem} (h:Ok x fun b M'=>b = a /\ M' = M):x = some (a,M):=by
 obtain ⟨b,M',e,rfl,rfl⟩:=h; exact e
theorem zE {α:Type} {x:Option (α × Mem)} {a:α} {M:Mem} {P:α -> Mem -> Prop} (h:x = some (a,M)) (p:P a M):Ok x P:=⟨a,M,h,p⟩
theorem zFF {c:FT} {a g:FS} {σ:Sd} {M:Mem} {P:Out -> Sd -> Mem -> Prop} (hc:c σ M = some (false,M)) (h:OkS (g σ M) P):OkS (zO (sIf c a zBM) g σ M) P:=by
 rw [zK,zBA];refine zE hc ?_;rw [zVN (by decide),zAs];exact h
theorem zIr {c:FT} {a:FS} {σ:Sd} {M:Mem} {P:Out -> Sd -> Mem -> Prop} (hc:c σ M = some (false,M)) (h:P .nx σ M):OkS (sIf c a zBM σ M) P:=by
 rw [zBA];refine zE hc ?_;rw [zVN (by decide),zAs];exact h
theorem zGE {f:FE} {σ:Sd} {M M':Mem} {k:Bool} (h:f σ M = some (.dat (.bl k),M')):zD8 (tst f) σ M = some (!k,M'):=by
 unfold zD8 tst; rw [h]
theorem zAG {f:FE} {σ:Sd} {M:Mem} {d:D} (h:f σ M = some (.dat d,M)):zD (toD f) zI σ M = some ([d],M):=by
 unfold zD toD zI; rw [h]
theorem zAd {f:FE} {g:FA} {σ:Sd} {M:Mem} {d:D} {ds:List D} (h:f σ M = some (.dat d,M)) (hg:g σ M = some (ds,M)):zD (toD f) g σ M = some (d :: ds,M):=by
 unfold zD toD; rw [h]; dsimp only; rw [hg]
theorem zAq {m:FF} {a:FA} {σ:Sd} {M M':Mem} {ds:List D} {d:D} (h:a σ M = some (ds,M)) (hm:m ds M = some (d,M')):zR m a σ M = some (.dat d,M'):=by
 unfold zR; rw [h]; dsimp only; rw [hm]
theorem zM {k:K2} {f g:FE} {σ:Sd} {M:Mem} {x y:EV} {r:Option (EV × Mem)} (hf:f σ M = some (x,M)) (hg:g σ M = some (y,M)) (hk:k x y M = r):fOp k f g σ M = r:=by
 unfold fOp; rw [hf]; dsimp only; rw [hg]; exact hk
theorem zCM {x:EV} {xs:List D} {i:Int} {d:D} {M:Mem} (h:zAR M x = some xs) (hd:atI xs i = some d):kIx x (.dat (.int i)) M = some (.dat d,M):=zU (zN7 h hd ⟨rfl,rfl⟩)
theorem zF4 {f:FE} {x:EV} {xs:List D} {σ:Sd} {M:Mem} (hf:f σ M = some (x,M)) (h:zAR M x = some xs):fB zBQ (zQ f zh) σ M = some (.dat (.int xs.length),M):=by
 unfold fB zQ zh; rw [hf]; exact zU ((zRb h).mpr ⟨rfl,rfl⟩)
def zAa (zA:List (List Int)) (h g:Int):Int:=(zA.getD h.toNat []).getD g.toNat 0
theorem zNY {zA:List (List Int)} {h:Int} (h0:0 <= h) (h1:h < zA.length):atI (zA.map fun r=>D.tup (r.map D.int)) h = some (.tup ((zA.getD h.toNat []).map D.int)):=by
 refine zOA h0 ?_;rw [zVS,zVA,zU9 (by omega)];rfl
theorem zJ2 {r:List Int} {g:Int} (h0:0 <= g) (h1:g < r.length):atI (r.map D.int) g = some (.int (r.getD g.toNat 0)):=by
 refine zOA h0 ?_;rw [zVS,zVA,zU9 (by omega)];rfl
theorem IsM.get {zA:List (List Int)} {l:Nat} (m:IsM zA l) {h:Int} (h0:0 <= h) (h1:h < zA.length):(zA.getD h.toNat []).length = l /\ ∀ g ∈ zA.getD h.toNat [],0 <= g /\ g < zA.length:=by
 refine m.row _ ?_;rw [zVA,zU9 (by omega)];exact zVd _
theorem IsM.step {zA:List (List Int)} {l:Nat} (m:IsM zA l) {h g:Int} (h0:0 <= h) (h1:h < zA.length) (g0:0 <= g) (g1:g < l):0 <= zAa zA h g /\ zAa zA h g < zA.length:=by
 obtain ⟨q1,q2⟩:=m.get h0 h1;refine q2 _ ?_;unfold zAa;rw [zVA (l:=zA.getD h.toNat []),zU9 (by omega)];exact zVd _
theorem IsM.ix {zA:List (List Int)} {l:Nat} (m:IsM zA l) {h g:Int} (h0:0 <= h) (h1:h < zA.length) (g0:0 <= g) (g1:g < l) {f1 f2 f3:FE} {σ:Sd} {M:Mem} (e1:f1 σ M = some (.dat (mD zA),M)) (e2:f2 σ M = some (.dat (.int h),M)) (e3:f3 σ M = some (.dat (.int g),M)) :
  fOp kIx (fOp kIx f1 f2) f3 σ M = some (.dat (.int (zAa zA h g)),M):=by
 obtain ⟨q1,_⟩:=m.get h0 h1;exact zM (zM e1 e2 (zCM zAM (zNY h0 h1))) e3 (zCM zAM (zJ2 g0 (by omega)))
theorem zFu (hf:f σ M = some (x,M)) (ht:zM8 M x = some t):zII T f σ M = some (.dat (.bl (isT t T)),M):=by
 unfold zII; rw [hf]; dsimp only; rw [ht]
theorem zAN (h:f σ M = some (.dat (.bl k),M')):tst f σ M = some (k,M'):=by unfold tst; rw [h]
theorem zAu (hf:f σ M = some (.dat d,M)) (h:P (.ret d) σ M):OkS (zw f σ M) P:=by
 rw [zAU]; exact zE hf h
theorem zA6 {α:Type} (as:List α) (enc out:α -> D) (hi:fi σ M = some (as.map enc,gd,M)) (hgd:zAX gd (as.map enc) M) (hz:as.length <= 100000)
  (he:∀ a ∈ as,∃ σ1,g (enc a) (zAp own σ) = some σ1 /\ te σ1 M = some (.dat (out a),M)):zj own fi g zd te σ M = some (.fl (as.map out),M):=by
 refine zU (zEQ.mpr ⟨_,_,_,hi,by rw [zVE]; exact zn hz,?_⟩);refine Ok.mono (zDL (I:=fun r acc M'=>M' = M /\ ∃ ra rb:List α,as = rb ++ ra /\ r = ra.map enc /\ acc = rb.map out) (Q:=fun acc M'=>M' = M /\ acc = as.map out) ?_ ?_ _ [] _ ⟨rfl,as,[],rfl,rfl,rfl⟩) ?_
 ·rintro x r acc M' ⟨rfl,ra,rb,hab,hr,rfl⟩;cases ra with
  | nil=>cases hr
  | cons a ra=>
   rw [zVO] at hr;obtain ⟨rfl,rfl⟩:=zV9 hr;obtain ⟨σ1,e1,e2⟩:=he a (by rw [hab]; simp);refine ⟨hgd,σ1,e1,zJi.mpr ?_⟩;rw [zVK rfl];refine zE e2 ?_;rw [zL];exact ⟨rfl,ra,rb ++ [a],by rw [hab]; simp,rfl,by simp⟩
 ·rintro acc M' ⟨rfl,ra,rb,hab,hr,rfl⟩;cases ra with
  | nil=>rw [zVp] at hab; subst hab; exact ⟨hgd,rfl,rfl⟩
  | cons a ra=>cases hr
 ·rintro ys M' ⟨rfl,h⟩;rw [List.nil_append] at h;subst h;exact ⟨rfl,rfl⟩
theorem zFX (hf:f σ M = some (x,M)) (h:zAR M x = some xs):fB zBm (zQ f zh) σ M = some (.dat (.tup xs),M):=by
 unfold fB zQ zh; rw [hf]; exact zU ((zLX h).mpr ⟨rfl,rfl⟩)
theorem zCe (hf:f σ M = some (.dat (.tup xs),M)):zAH f σ M = some (xs,none,M):=zDT hf zAM
theorem zKG (n:Nat):zBq 0 n = (List.range n).map fun (k:Nat)=>D.int k:=(zF5 n).symm
theorem zHB (e:f σ M = some (.dat (.int j),M)) (h1:0 <= j) (h2:j < 2 ^ 62):zr (zD (toD f) zI) σ M = some ((List.range j.toNat).map (fun (k:Nat)=>D.int k),none,M):=by
 rw [zBZ e h1 h2,zKG]
theorem zDr (hf:f σ M = some (.dat d,M)) (h:OkS (g (σ.set i (some d)) M) P):OkS (zO (zx i f) g σ M) P:=by
 rw [zK,zb]; exact zE hf h
theorem zRU (h:f σ M = some (.dat d,M')):zD (toD f) zI σ M = some ([d],M'):=by
 unfold zD toD zI; rw [h]
theorem zGB {α β:Type} (f:α -> β) (d:α):∀ xs:List α,(List.range xs.length).map (fun i=>f (xs.getD i d)) = xs.map f
 | []=>rfl
 | x :: xs=>by
  rw [zVc,List.range_succ_eq_map,zVO,zVT,zVO,<- zGB f d xs];rfl
open ST
def ris (xs:List Int):List Int:=zCn (zAl xs)
theorem zEJ (xs:List Int) (x:Int):x ∈ ris xs ↔ x ∈ xs:=by
 unfold ris; rw [(zBF _).mem_iff,zJ3]
theorem zIF (xs:List Int):(ris xs).Pairwise (· < ·):=by
 have h1:=zFi (zAl xs);have h2:(ris xs).Nodup:=(zBF _).nodup_iff.mpr (zH9 xs);unfold ris at h2 ⊢;exact (h1.and h2).imp fun {a b} h=>by have:=h.1; have:=h.2; omega
theorem zEX:∀ {xs ys:List Int},xs.Pairwise (· < ·) -> ys.Pairwise (· < ·) -> (∀ x,x ∈ xs ↔ x ∈ ys) -> xs = ys
 | [],[],_,_,_=>rfl
 | [],y :: ys,_,_,h=>by have:=(h y).mpr zVJ; cases this
 | x :: xs,[],_,_,h=>by have:=(h x).mp zVJ; cases this
 | x :: xs,y :: ys,h1,h2,h=>by
  have hx:=zXF.mp h1;have hy:=zXF.mp h2;have e:x = y:=by
   have a:=(h x).mp zVJ;have b:=(h y).mpr zVJ;rcases zVH.mp a with z | z
   ·exact z
   ·rcases zVH.mp b with q | q
    ·exact q.symm
    ·have:=hx.1 y q; have:=hy.1 x z; omega
  subst e;rw [zEX hx.2 hy.2 fun z=>?_];constructor
  ·intro hz;rcases zVH.mp ((h z).mp (zVI _ hz)) with q | q
   ·subst q; have:=hx.1 _ hz; omega
   ·exact q
  ·intro hz;rcases zVH.mp ((h z).mpr (zVI _ hz)) with q | q
   ·subst q; have:=hy.1 _ hz; omega
   ·exact q
theorem zLK (h:∀ x,x ∈ xs ↔ x ∈ ys):ris xs = ris ys:=zEX (zIF xs) (zIF ys) fun x=>by rw [zEJ,zEJ]; exact h x
theorem zOJ (h:xs.Pairwise (· < ·)):ris xs = xs:=zEX (zIF xs) h fun x=>zEJ xs x
theorem zLd (xs:List Int):(ris xs).length <= xs.length:=by
 unfold ris; rw [(zBF _).length_eq]; exact zDx xs
theorem zST (h:0 < xs.length):0 < (ris xs).length:=by
 cases xs with
 | nil=>cases h
 | cons x r=>exact List.length_pos_of_mem ((zEJ (x :: r) x).mpr zVJ)
theorem zQD (h:zj own fi g tc te σ M = some (.fl (ks.map D.int),M)) (hz:ks.length <= 4000):zHI own fi g tc te σ M = some (zAl ks,M):=by
 unfold zHI; rw [h]; dsimp only; rw [zBv]; dsimp only; rw [zVK (by unfold scanBound; omega)]
theorem zPZ (h:fz σ M = some (zAl ks,M)) (hz:(zAl ks).length < 64):zF9 fz σ M = some (.fl ((ris ks).map D.int),M):=by
 unfold zF9; rw [h]; dsimp only; rw [zVK hz]; rfl
noncomputable def zEU:FS:=(zw (fB zBm (zQ (zF9 (zHI [3] (zAH (zC 1)) (gN 3) zd (fOp kIx (fOp kIx (zC 0) (zC 3)) (zC 2)))) zh)))
noncomputable def zA1:FF:=zEt (zBP 4 zEU)
def setR (zA:List (List Int)) (S:List Int) (g:Int):List Int:=ris (S.map fun h=>zAa zA h g)
def zTy (zA:List (List Int)) (S word:List Int):List Int:=word.foldl (setR zA) S
structure IsS (zA:List (List Int)) (S:List Int):Prop where
 pw:S.Pairwise (· < ·)
 n0:0 < S.length
 mem:∀ x ∈ S,0 <= x /\ x < (zA.length:Int)
theorem zNN:∀ {S:List Int} {a:Int} {n:Nat},S.Pairwise (· < ·) -> (∀ x ∈ S,a <= x /\ x < a + (n:Int)) -> S.length <= n
 | [],_,_,_,_=>zVr _
 | x :: S,a,n,h,hm=>by
  have hx:=zXF.mp h;obtain ⟨m0,m1⟩:=hm x zVJ;have hn:0 < n:=by omega
  have:=zNN (S:=S) (a:=x + 1) (n:=(a + n - (x + 1)).toNat) hx.2 fun y hy=>by
   have:=hx.1 y hy;have:=(hm y (zVI _ hy)).2;omega
  simp only [zVc]; omega
theorem IsS.len (h:IsS zA S):S.length <= zA.length:=zNN h.pw (a:=0) fun x hx=>by have:=h.mem x hx; omega
theorem IsM.setR {zA:List (List Int)} {l:Nat} (m:IsM zA l) {S:List Int} (s:IsS zA S) {g:Int} (g0:0 <= g) (g1:g < l):IsS zA (setR zA S g):=by
 refine ⟨zIF _,zST (by rw [zVE]; exact s.n0),fun x hx=>?_⟩;obtain ⟨y,hy,rfl⟩:=zVM.mp ((zEJ _ _).mp hx);obtain ⟨y0,y1⟩:=s.mem y hy;exact m.step y0 y1 g0 g1
def tI (xs:List Int):D:=.tup (xs.map D.int)
theorem zK3 {zA:List (List Int)} {l:Nat} (m:IsM zA l) (hR:zA.length < 64) {S:List Int} (s:IsS zA S) {g:Int} (g0:0 <= g) (g1:g < l) {M:Mem}:zA1 [mD zA,tI S,.int g] M = some (tI (setR zA S g),M):=by
 refine zU ?_;unfold zA1;refine zFL (by unfold D.unds D.unds D.unds D.unds; rw [zFP]; simp [tI,zBR,D.und,zAD]) ?_;rw [zAI];unfold zEU;have hl:=s.len;have hz:(zAl (S.map fun h=>zAa zA h g)).length < 64:=by have:=zDx (S.map fun h=>zAa zA h g); rw [zVE] at this; omega
 refine zAu (d:=tI (setR zA S g)) ?_ ⟨by unfold tI; exact zBR _,rfl,rfl⟩;refine zFX (zPZ (ks:=S.map fun h=>zAa zA h g) (zQD ?_ (by rw [zVE]; omega)) hz) zEl;refine (zA6 S D.int (fun h=> .int (zAa zA h g)) (zCe rfl) trivial (by omega) fun h hh=>⟨_,rfl,?_⟩).trans ?_
 ·obtain ⟨h0,h1⟩:=s.mem h hh;exact m.ix h0 h1 g0 g1 rfl rfl rfl
 ·rw [zVT]; rfl
end Law
namespace Law
open PySem PySem.Spec PyProof.Rows L2 L3 ST
theorem zKQ (hgd:zAX gd all M) (hg:g x σ = some σ1) (hk:tk σ1 M = some (.dat k,M)) (hv:tv σ1 M = some (.dat v,M)) (hp:zDY M n k v = some M'):zBp g zd tk tv σ n all gd (x :: r) M = zBp g zd tk tv σ n all gd r M':=by
 rw [zBp];rw [zVK hgd,hg];have et:zd σ1 M = some (true,M):=rfl;have e1:toD tk σ1 M = some (k,M):=by unfold toD; rw [hk]
 have e2:toD tv σ1 M = some (v,M):=by unfold toD; rw [hv]
 dsimp only;rw [et]; dsimp only;rw [e1]; dsimp only;rw [e2]; dsimp only;rw [hp]
theorem zG1 (hgd:zAX gd all M):zBp g tc tk tv σ n all gd [] M = some M:=by
 rw [zBp,zVK hgd]
theorem zER (e:f σ M = some (.dat (mD zA),M)):fB zBQ (zQ f zh) σ M = some (.dat (.int zA.length),M):=by
 have:=zF4 e zAM;rw [zVE] at this; exact this
theorem zFJ (m:IsM zA l) (e:f σ M = some (.dat (mD zA),M)):fB zBQ (zQ (fOp kIx f (fC (.int 0))) zh) σ M = some (.dat (.int l),M):=by
 have r0:=m.r0;have:=zF4 (zM (g:=fC (.int 0)) e rfl (zCM zAM (zNY (h:=0) (by omega) (by omega)))) zAM;rw [zVE,(m.get (h:=0) (by omega) (by omega)).1] at this; exact this
mutual
def Vd (M:Mem):D -> Prop
 | .ref n=>∃ t,zM8 M (.dat (.ref n)) = some t /\ (t = "list" \/ t = "dict")
 | .tup ds=>ds.length <= 100000 /\ Vds M ds
 | _=>True
def Vds (M:Mem):List D -> Prop
 | []=>True
 | d :: ds=>Vd M d /\ Vds M ds
end
def zPP:D -> Bool
 | .int _=>true
 | _=>false
def zSu:D -> Bool
 | .tup _=>true
 | _=>false
theorem Vd.ty (h:Vd M d):∃ t,zM8 M (.dat d) = some t /\ isT t "tuple" = zSu d /\ (isT t "int" && !isT t "bool") = zPP d:=by
 cases d with
 | non=>exact ⟨_,rfl,(show isT "NoneType" "tuple" = false by decide),(show (isT "NoneType" "int" && !isT "NoneType" "bool") = false by decide)⟩
 | bl k=>exact ⟨_,rfl,(show isT "bool" "tuple" = false by decide),(show (isT "bool" "int" && !isT "bool" "bool") = false by decide)⟩
 | int i=>exact ⟨_,rfl,(show isT "int" "tuple" = false by decide),(show (isT "int" "int" && !isT "int" "bool") = true by decide)⟩
 | str x=>exact ⟨_,rfl,(show isT "str" "tuple" = false by decide),(show (isT "str" "int" && !isT "str" "bool") = false by decide)⟩
 | tup ds=>exact ⟨_,rfl,(show isT "tuple" "tuple" = true by decide),(show (isT "tuple" "int" && !isT "tuple" "bool") = false by decide)⟩
 | ref n=>
  unfold Vd at h;obtain ⟨t,e,h⟩:=h;rcases h with rfl | rfl
  ·exact ⟨_,e,(show isT "list" "tuple" = false by decide),(show (isT "list" "int" && !isT "list" "bool") = false by decide)⟩
  ·exact ⟨_,e,(show isT "dict" "tuple" = false by decide),(show (isT "dict" "int" && !isT "dict" "bool") = false by decide)⟩
theorem zLe (hf:f σ M = some (.dat (.bl a),M)) (hg:a = true -> g σ M = some (.dat (.bl b),M)):zL3 f g σ M = some (.dat (.bl (a && b)),M):=by
 unfold zL3; rw [hf];cases a with
 | true=>exact hg rfl
 | false=>rfl
theorem zRC (hf:f σ M = some (.dat (.bl a),M)):zNv f σ M = some (.dat (.bl (!a)),M):=by unfold zNv; rw [hf]
theorem zQU (h:f (ds.map some ++ List.replicate (n - ds.length) none) M = some (.dat d,M)):zBP n (zw f) ds M = some (d,M):=by
 refine zU ?_;rw [zAI];exact zAu h ⟨rfl,rfl⟩
theorem zNj {bs:List Bool} (h:f σ M = some (.fl (bs.map D.bl),M)):fB zP7 (zQ f zh) σ M = some (.dat (.bl (bs.all id)),M):=by
 unfold fB zQ zh; rw [h]; exact zU ((zT0 zSR (zGx bs)).mpr ⟨rfl,rfl⟩)
theorem zJw {α:Type} (xs:List α) (p:α -> Bool):(xs.map p).all id = xs.all p:=by rw [List.all_map]; rfl
end Law
namespace Law
open PySem PySem.Spec PyProof.Rows L2 L3 ST
abbrev gL (k:Nat) (s:Int):MO:=.lst [.ref k,.int s]
theorem zRs (hk:k < N):MO.und N (gL k s) = true:=by
 show D.unds _ _ = true;unfold D.unds D.unds D.unds D.und;simp [hk]
structure Nw (M M':Mem) (n k:Nat):Prop where
 gen:Gen M' n k
 len:M.length <= M'.length
 fr:∀ j,j < M.length -> j ≠ n -> j ≠ k -> M'[j]? = M[j]?
theorem Nw.trans {M M1 M2:Mem} {n k:Nat} (a:Nw M M1 n k) (b:Nw M1 M2 n k):Nw M M2 n k :=
 ⟨b.gen,zVW a.len b.len,fun j h h1 h2=>(b.fr j (zVU h a.len) h1 h2).trans (a.fr j h h1 h2)⟩
theorem Nx.nw (x:Nx M M' n k):Nw M M' n k:=⟨x.gen,by rw [x.len]; exact zVB _,fun j _ h1 h2=>x.fr j h1 h2⟩
theorem Gen.lst (h:Gen A n k) (xs:List D) (hx:D.unds A.length xs = true):Nw A (A ++ [.lst xs]) n k:=⟨h.app fun u hu=>by
 have:u = .lst xs:=by simpa using hu
 subst this; exact zBg (by simp) hx,by simp,fun j hj _ _=>zVC hj⟩
theorem Nw.setB (h:Nw M A n k) (g:Gen M n k) (hj:M.length <= j) (hu:MO.und A.length u = true):Nw M (A.set j u) n k:=by
 obtain ⟨hn,hk⟩:=g.lt;obtain ⟨c,s,e1,e2,r⟩:=h.gen.ex;refine ⟨⟨⟨c,s,by rw [zVZ (by omega)]; exact e1,by rw [zVZ (by omega)]; exact e2,r⟩,g.ne,fun i v e=>?_⟩,by rw [List.length_set]; exact h.len,fun i hi h1 h2=>by rw [zVZ (by omega)]; exact h.fr i hi h1 h2⟩;rw [List.length_set];rw [zWe] at e;split at e
 ·split at e
  ·cases e; exact hu
  ·cases e
 ·exact h.gen.wf i v e
theorem Nw.wf0 (h:Nw M M' n k) (g:Gen M n k):∀ (j:Nat) u,j < M.length -> M'[j]? = some u -> MO.und M.length u = true:=fun j u hj e=>by
 obtain ⟨hn,hk⟩:=g.lt;obtain ⟨c,s,e1,e2,r⟩:=h.gen.ex;by_cases q1:j = n
 ·subst q1; rw [e1] at e; cases e; exact zRs hk
 ·by_cases q2:j = k
  ·subst q2; rw [e2] at e; cases e; exact zAD _ _
  ·rw [h.fr j hj q1 q2] at e; exact g.wf j u e
theorem Nw.trim (h:Nw M M' n k) (g:Gen M n k):Nw M (M'.take M.length) n k:=by
 obtain ⟨hn,hk⟩:=g.lt;have tk:∀ j,j < M.length -> (M'.take M.length)[j]? = M'[j]?:=fun j hj=>List.getElem?_take_of_lt hj;have tl:(M'.take M.length).length = M.length:=by have:=h.len; rw [zWT]; omega
 obtain ⟨c,s,e1,e2,r⟩:=h.gen.ex;refine ⟨⟨⟨c,s,(tk n hn).trans e1,(tk k hk).trans e2,r⟩,g.ne,fun j u e=>?_⟩,by omega,fun j hj h1 h2=>(tk j hj).trans (h.fr j hj h1 h2)⟩;have hj:j < M.length:=by have:=(zU8.mp e).1; omega
 rw [tk j hj] at e;rw [tl];exact h.wf0 g j u hj e
theorem Nw.get (h:Nw M M' n k) (e:M[j]? = some u) (h1:j ≠ n) (h2:j ≠ k):M'[j]? = some u :=
 (h.fr j (zU8.mp e).1 h1 h2).trans e
end Law
namespace Lac
open PySem PySem.Spec PyProof.Rows L2 L3 ST Law
noncomputable def zCu:FS:=(zO (zx 2 (zAW zI))
  (zO (zCQ (zr (zD (toD (zC 1)) zI)) (gN 3) (zAj (fM zDP (zC 2) (zD (toD (zR zZ (zD (toD (zC 0)) (zD (toD (fOp zAQ (zC 3) (fC (.int 1)))) zI)))) (zD (toD (zC 3)) zI)))))
  (zw (zC 2))))
noncomputable def zBY:FF:=zBP 4 zCu
noncomputable def zCf:FS:=(zO (sIf (tst (fOp kEq (zC 1) (fC (.int 0)))) (zw (zj [4] (zr (zD (toD (zC 2)) zI)) (gN 4) zd (zR zZ (zD (toD (zC 0)) (zD (toD (zC 2)) zI))))) zBM)
  (zO (sIf (tst (fOp kEq (zC 1) (fC (.int 1)))) (zw (zj [4] (zr (zD (toD (zC 2)) zI)) (gN 4) zd (fOp zEV (fOp zAQ (zC 4) (zR zZ (zD (toD (zC 0)) (zD (toD (fC (.int 3))) zI)))) (zC 2)))) zBM)
  (zO (sIf (tst (fOp kEq (zC 1) (fC (.int 2)))) (zO (zx 5 (fOp zLi (fOp zAQ (zC 2) (fC (.int 1))) (fC (.int 2))))
  (zO (zx 6 (zj [4] (zr (zD (toD (zC 5)) zI)) (gN 4) zd (zR zZ (zD (toD (zC 0)) (zD (toD (zC 5)) zI)))))
  (zw (fOp zHJ (zC 6) (zj [4] (zr (zD (toD (fOp zKC (zC 2) (zC 5))) zI)) (gN 4) zd (fOp zAQ (zC 5) (zR zZ (zD (toD (zC 0)) (zD (toD (fOp zKC (zC 2) (zC 5))) zI))))))))) zBM)
  (zO (sIf (zBc (tst (fOp kEq (zC 1) (fC (.int 3)))) (tst (fOp kEq (zC 3) (fC (.int 0))))) (zw (zj [4] (zr (zD (toD (zC 2)) zI)) (gN 4) zd (fOp zEV (fOp zAQ (zC 4) (fC (.int 1))) (zC 2)))) zBM)
  (zO (sIf (tst (fOp kEq (zC 1) (fC (.int 3)))) (zw (zj [4] (zr (zD (toD (zC 2)) zI)) (gN 4) zd (fOp kIx (zAW (zD (toD (zC 4)) (zD (toD (fC (.int 0))) zI))) (fB zKa (zQ (fOp kEq (zC 4) (fOp zKC (zC 2) (fC (.int 1)))) zh))))) zBM)
  (zO (sIf (zDy (tst (fOp kEq (zC 1) (fC (.int 4)))) (tst (fOp kEq (zC 1) (fC (.int 7))))) (zO (zx 7 (zR zZ (zD (toD (zC 0)) (zD (toD (zC 2)) zI))))
  (zw (zj [4] (zr (zD (toD (zC 2)) zI)) (gN 4) zd (fOp kIx (zAW (zD (toD (fOp zEV (fOp zAQ (zC 4) (zC 7)) (zC 2))) (zD (toD (zC 7)) zI))) (fB zKa (zQ (fOp kEq (zC 1) (fC (.int 7))) zh)))))) zBM)
  (zO (zx 8 (zR zBY (zD (toD (zC 0)) (zD (toD (zC 2)) zI))))
  (zO (sIf (zBc (tst (fOp kEq (zC 1) (fC (.int 6)))) (tst (fOp kEq (zC 3) (fC (.int 0))))) (zO (zx 9 (fOp kIx (zC 8) (zR zZ (zD (toD (zC 0)) (zD (toD (zC 2)) zI)))))
  (zKI (zC 9) (zC 8) (zR zZ (zD (toD (zC 0)) (zD (toD (zC 2)) zI))))) zBM)
  (zw (zC 8))))))))))
noncomputable def zBC:FF:=zBP 10 zCf
noncomputable def zCK:FS:=(zO (zx 3 (zR zZ (zD (toD (zC 0)) (zD (toD (fC (.int 8))) zI))))
  (zO (zx 4 (zj [5] (zr (zD (toD (zC 2)) zI)) (gN 5) zd (zR zBC (zD (toD (zC 0)) (zD (toD (zC 3)) (zD (toD (zC 1)) (zD (toD (zC 5)) zI)))))))
  (zw (fB zBm (zQ (zj [7] (zr (zD (toD (zC 1)) zI)) (gN 7) zd (fB zBm (zQ (zj [6] (zAH (zC 4)) (gN 6) zd (fOp kIx (zC 6) (zC 7))) zh))) zh)))))
noncomputable def zAb:FF:=zJD (zBP 8 zCK)
def Col (many:Int) (c:List Int):Prop:=(c.length:Int) = many /\ ∀ x ∈ c,0 <= x /\ x < many
theorem zu (h:P (.ref M.length) (M ++ [.lst xs])):zFY P (.fl xs) M:=h
theorem zBV (A:Mem) (u:MO):(A ++ [u])[A.length]? = some u:=by simp
theorem zTu (h:0 < b):zEV (.dat (.int a)) (.dat (.int b)) M = some (.dat (.int (a % b)),M):=zU (zEr.mpr ⟨h,rfl,rfl⟩)
theorem zF6 {M:Mem} {n k:Nat} (h:Gen M n k) {own:List Nat} {i:Nat} {f te:FE} {σ:Sd} {cnt lo hi:Int} (c0:0 <= cnt) (c1:cnt <= 90000) (hf:f σ M = some (.dat (.int cnt),M))
  (ht:∀ (r:Nat) (M':Mem),(r:Int) < cnt -> Gen M' n k -> Ok (te ((zAp own σ).set i (some (.int r))) M') fun x M''=>∃ v:Int,x = .dat (.int v) /\ lo <= v /\ v < hi /\ Nx M' M'' n k) :
  Ok (zj own (zr (zD (toD f) zI)) (gN i) zd te σ M) fun x M'=>(∃ c:List Int,x = .fl (c.map D.int) /\ (c.length:Int) = cnt /\ ∀ y ∈ c,lo <= y /\ y < hi) /\ Nx M M' n k:=by
 refine zEQ.mpr ⟨_,_,_,zBZ hf c0 (by omega),by rw [zCL]; exact zn (by omega),?_⟩;refine Ok.mono (zOO (n:=cnt.toNat) (I:=fun j acc M2=>(∃ c:List Int,acc = c.map D.int /\ c.length = j /\ ∀ y ∈ c,lo <= y /\ y < hi) /\ Nx M M2 n k) ?_ ⟨⟨[],rfl,rfl,fun _ h=>by cases h⟩,Nx.refl h⟩) ?_
 ·rintro j acc M2 hj ⟨⟨c,rfl,hcl,hc⟩,nx⟩;refine ⟨_,rfl,?_⟩;refine Ok.mono (ht j M2 (by omega) nx.gen) ?_;rintro x M3 ⟨v,rfl,v0,v1,nx3⟩;rw [zL];refine ⟨⟨c ++ [v],by simp,by simp [hcl],fun z hz=>?_⟩,nx.trans nx3⟩;rcases zVV.mp hz with q | q
  ·exact hc z q
  ·have:z = v:=by simpa using q
   subst this; exact ⟨v0,v1⟩
 ·rintro ys M2 ⟨⟨c,rfl,hcl,hc⟩,nx⟩;exact ⟨⟨c,rfl,by omega,hc⟩,nx⟩
theorem zUJ (ha:a σ M = some (.dat x,M)) (hb:b σ M = some (.dat y,M)):zAW (zD (toD a) (zD (toD b) zI)) σ M = some (.fl [x,y],M):=by
 unfold zAW; rw [zAd ha (zAG hb)]; dsimp only; rw [zVK (zn (by simp))]
theorem zRc (hl:l σ M = some (.fl [x,y],M)) (ht:t σ M = some (.dat (.bl b),M)):fOp kIx l (fB zKa (zQ t zh)) σ M = some (.dat (if b then y else x),M):=by
 have e:fB zKa (zQ t zh) σ M = some (.dat (.int (if b then 1 else 0)),M):=by unfold fB zQ zh; rw [ht]; rfl
 cases b with
 | true=>exact zM hl e rfl
 | false=>exact zM hl e rfl
theorem zLx (h:M[n]? = some (.lst xs)) (h0:0 <= i) (h1:i.toNat <= xs.length) (hz:xs.length < 90000):zDP (.dat (.ref n)) [.int i,d] M = some (.non,M.set n (.lst (xs.take i.toNat ++ [d] ++ xs.drop i.toNat))):=by
 unfold zDP; dsimp only; rw [h]; dsimp only; rw [zVK ⟨h0,h1,zVU hz (zn (by omega))⟩]
theorem zOs (h:Gen M n k) (m0:0 < many) (m1:many <= 1000):Ok (zBY [.ref n,.int many] M) fun d M'=>∃ j c,d = .ref j /\ M'[j]? = some (.lst (c.map D.int)) /\ Col many c /\ M.length <= j /\ Nw M M' n k /\ c.Perm ((List.range many.toNat).map fun (x:Nat)=>(x:Int)):=by
 obtain ⟨hn,hk⟩:=h.lt;unfold zBY;rw [zAI];unfold zCu;show OkS (zO _ _ [some (.ref n),some (.int many),none,none] M) _;rw [zK,zb];refine zJu.mpr (zB2.mpr ⟨zn (by simp),zu ?_⟩);rw [zP,zK,zBN];have nw1:=h.lst [] rfl;have e1:(M ++ [MO.lst ([]:List D)])[M.length]? = some (.lst []):=zBV _ _;generalize M ++ [MO.lst ([]:List D)] = M1 at nw1 e1;show ∃ xs gd M2,zr _ [some (.ref n),some (.int many),some (.ref M.length),none] M1 = some (xs,gd,M2) /\ _;refine ⟨_,_,_,zBZ rfl (by omega) (by omega),?_⟩;refine zHx (n:=many.toNat) (I:=fun i σ M'=>(∃ y,σ = [some (.ref n),some (.int many),some (.ref M.length),y]) /\ ∃ c:List Int,M'[M.length]? = some (.lst (c.map D.int)) /\ c.length = i /\ (∀ x ∈ c,0 <= x /\ x < many) /\ Nw M M' n k /\ c.Perm ((List.range i).map fun (x:Nat)=>(x:Int))) ?_ ?_ _ _ ⟨⟨_,rfl⟩,[],e1,rfl,(fun _ h=>by cases h),nw1,.refl _⟩
 ·rintro i σ M' hi ⟨⟨y,rfl⟩,c,ec,hcl,hc,nw,pm⟩;refine ⟨_,rfl,?_⟩;show OkS (zAj _ [some (.ref n),some (.int many),some (.ref M.length),some (.int (i:Nat))] M') _;rw [zCS];refine zKl.mpr (zv.mpr ⟨_,rfl,⟨_,zAr ec⟩,zAY.mpr (zAT.mpr ?_)⟩);refine zAO nw.gen rfl (zM (x:=.dat (.int (i:Nat))) rfl rfl rfl) (by omega) (by omega) fun q M2 q0 q1 nx=>?_;have ec2:=nx.nw.get ec (by omega) (by omega);rw [zL];refine zE (zAG (d:=.int (i:Nat)) rfl) ?_;refine zE (zLx ec2 q0 (by rw [zVE]; omega) (by rw [zVE]; omega)) ?_;have hl:M.length < M2.length:=(zU8.mp ec2).1;refine ⟨⟨_,rfl⟩,c.take q.toNat ++ [(i:Int)] ++ c.drop q.toNat,?_,by simp; omega,fun x hx=>?_,?_,?_⟩
  ·rw [zVz hl];simp
  ·simp only [zVV,zVX] at hx;rcases hx with (w | w) | w
   ·exact hc x (List.mem_of_mem_take w)
   ·omega
   ·exact hc x (List.mem_of_mem_drop w)
  ·refine (nw.trans nx.nw).setB h (zVB _) ?_;show D.unds _ _ = true;rw [<- List.map_take,<- List.map_drop,zFr,zFr,zAD,zAD]; rfl
  ·rw [List.range_succ,zVx];refine List.Perm.trans ?_ (List.Perm.append_right _ pm);rw [zWB];refine List.Perm.trans (List.Perm.append_left _ List.perm_append_comm) ?_;rw [<- zWB,List.take_append_drop];exact .refl _
 ·rintro σ M' ⟨⟨y,rfl⟩,c,ec,hcl,hc,nw,pm⟩;rw [zP];exact zAu rfl ⟨M.length,c,rfl,ec,⟨by omega,hc⟩,zVB _,nw,pm⟩
theorem zQu (h:Col many c) (hj:j < c.length):0 <= c.getD j 0 /\ c.getD j 0 < many:=by
 rw [zVA,zU9 hj]; exact h.2 _ (zVd hj)
theorem zNa (h:Col many c) (hj:j < c.length):Col many (c.set i (c.getD j 0)):=by
 refine ⟨by rw [List.length_set]; exact h.1,fun x hx=>?_⟩;rcases List.mem_or_eq_of_mem_set hx with q | q
 ·exact h.2 x q
 ·rw [q,zVA,zU9 hj]; exact h.2 _ (zVd hj)
theorem zMz {M:Mem} {n k:Nat} (h:Gen M n k) {fam many let_:Int} (m0:0 < many) (m1:many <= 1000) :
  Ok (zBC [.ref n,.int fam,.int many,.int let_] M) fun d M'=>∃ j c,d = .ref j /\ M'[j]? = some (.lst (c.map D.int)) /\ Col many c /\ M.length <= j /\ Nw M M' n k:=by
 obtain ⟨hn,hk⟩:=h.lt;unfold zBC;rw [zAI];unfold zCf;show OkS (zO _ _ [some (.ref n),some (.int fam),some (.int many),some (.int let_),none,none,none,none,none,none] M) _;have isf:∀ (j:Int) (σ:Sd) (M:Mem),σ[1]? = some (some (.int fam)) -> tst (fOp kEq (zC 1) (fC (.int j))) σ M = some (decide (fam = j),M):=fun j σ M e=>by
  have v4:zC 1 σ M = some (.dat (.int fam),M):=by unfold zC; rw [e]
  exact zAN (zM v4 rfl (zU (zMQ.mpr ⟨rfl,rfl⟩)))
 have isl:∀ (σ:Sd) (M:Mem),σ[3]? = some (some (.int let_)) -> tst (fOp kEq (zC 3) (fC (.int 0))) σ M = some (decide (let_ = 0),M):=fun σ M e=>by
  have v4:zC 3 σ M = some (.dat (.int let_),M):=by unfold zC; rw [e]
  exact zAN (zM v4 rfl (zU (zMQ.mpr ⟨rfl,rfl⟩)))
 have andE:∀ {a b:FT} {σ:Sd} {M:Mem} {x y:Bool},a σ M = some (x,M) -> b σ M = some (y,M) -> zBc a b σ M = some (x && y,M):=fun {a b σ M x y} ha hb=>by
  unfold zBc; rw [ha]; cases x <;> first | exact hb | rfl
 have orE:∀ {a b:FT} {σ:Sd} {M:Mem} {x y:Bool},a σ M = some (x,M) -> b σ M = some (y,M) -> zDy a b σ M = some (x || y,M):=fun {a b σ M x y} ha hb=>by
  unfold zDy; rw [ha]; cases x <;> first | exact hb | rfl
 have new:∀ (A:Mem) (c':List Int),Nw M A n k -> Col many c' -> ∃ j c,D.ref A.length = D.ref j /\ (A ++ [MO.lst (c'.map D.int)])[j]? = some (.lst (c.map D.int)) /\ Col many c /\ M.length <= j /\ Nw M (A ++ [MO.lst (c'.map D.int)]) n k:=fun A c' nw hc'=>
  ⟨A.length,c',rfl,zBV _ _,hc',nw.len,nw.trans (nw.gen.lst _ (zAD _ _))⟩
 rw [zK,zBA];refine zE (isf 0 _ _ rfl) ?_;by_cases w0:fam = 0
 ·rw [zVK (by simpa using w0),zAU];refine Ok.mono (zF6 h (cnt:=many) (lo:=0) (hi:=many) (by omega) (by omega) rfl fun r M' hr g=>zAO g rfl rfl m0 (by omega) fun i M2 i0 i1 nx=>⟨i,rfl,i0,i1,nx⟩) ?_;rintro x M1 ⟨⟨c,rfl,hcl,hc⟩,nx⟩;refine zu ?_;rw [zCY];exact new _ _ nx.nw ⟨hcl,hc⟩
 rw [zVN (by simpa using w0),zAs,zP,zK,zBA];refine zE (isf 1 _ _ rfl) ?_;by_cases w1:fam = 1
 ·rw [zVK (by simpa using w1),zAU];refine Ok.mono (zF6 h (cnt:=many) (lo:=0) (hi:=many) (by omega) (by omega) rfl fun r M' hr g=>?_) ?_
  ·refine zAA.mpr (zAA.mpr (zv.mpr ⟨_,rfl,zAO g rfl rfl (by decide) (by decide) fun i M2 i0 i1 nx=>zEW.mpr (zv.mpr ⟨_,rfl,zEr.mpr ⟨m0,_,rfl,Int.emod_nonneg _ (by omega),Int.emod_lt_of_pos _ m0,nx⟩⟩)⟩))
  rintro x M1 ⟨⟨c,rfl,hcl,hc⟩,nx⟩;refine zu ?_;rw [zCY];exact new _ _ nx.nw ⟨hcl,hc⟩
 rw [zVN (by simpa using w1),zAs,zP,zK,zBA];refine zE (isf 2 _ _ rfl) ?_;by_cases w2:fam = 2
 ·rw [zVK (by simpa using w2)];refine zDr (d:=.int ((many + 1) / 2)) (zM (x:=.dat (.int (many + 1))) (zM rfl rfl rfl) rfl (zU (zOr.mpr ⟨⟨by decide,by decide⟩,rfl,rfl⟩))) ?_;obtain ⟨h0,h1⟩:0 < (many + 1) / 2 /\ (many + 1) / 2 <= many:=by omega
  generalize (many + 1) / 2 = half at h0 h1;rw [zK,zb];refine Ok.mono (zF6 h (cnt:=half) (lo:=0) (hi:=half) (by omega) (by omega) rfl fun r M' hr g=>zAO g rfl rfl h0 (by omega) fun i M2 i0 i1 nx=>⟨i,rfl,i0,i1,nx⟩) ?_;rintro x M1 ⟨⟨c,rfl,hcl,hc⟩,nx⟩;refine zu ?_;rw [zP,zAU];have nw2:=nx.nw.trans (nx.gen.lst (c.map D.int) (zAD _ _));have e6:(M1 ++ [MO.lst (c.map D.int)])[M1.length]? = some (.lst (c.map D.int)):=zBV _ _;have hj:M.length <= M1.length:=nx.nw.len;generalize M1 ++ [MO.lst (c.map D.int)] = M2 at nw2 e6;generalize M1.length = j6 at e6 hj;show Ok (fOp _ _ _ [some (.ref n),some (.int fam),some (.int many),some (.int let_),none,some (.int half),some (.ref j6),none,none,none] M2) _;refine zAA.mpr (zv.mpr ⟨_,rfl,?_⟩);refine Ok.mono (zF6 nw2.gen (cnt:=many - half) (lo:=half) (hi:=many) (by omega) (by omega) (zM rfl rfl rfl) fun r M' hr g=>?_) ?_
  ·refine zAA.mpr (zv.mpr ⟨_,rfl,zAO g rfl (zM (x:=.dat (.int many)) (y:=.dat (.int half)) rfl rfl rfl) (by omega) (by omega) fun i M3 i0 i1 nx3=>zEW.mpr ⟨_,rfl,by omega,by omega,nx3⟩⟩)
  rintro x M3 ⟨⟨c3,rfl,hcl3,hc3⟩,nx3⟩;have e6':=nx3.nw.get e6 (by omega) (by omega);refine zTE (xs:=c.map D.int) (ys:=c3.map D.int) ?_ rfl (by simp; omega) (zu ?_)
  ·unfold zKv; dsimp only; rw [e6']
  rw [zCY,<- zVx];refine new _ _ (nw2.trans nx3.nw) ⟨by simp; omega,fun x hx=>?_⟩;rcases zVV.mp hx with q | q
  ·have:=hc x q; omega
  ·have:=hc3 x q; omega
 rw [zVN (by simpa using w2),zAs,zP,zK,zBA];refine zE (andE (isf 3 _ _ rfl) (isl _ _ rfl)) ?_;by_cases w3:(decide (fam = 3) && decide (let_ = 0)) = true
 ·rw [zVK w3,zAU];refine Ok.mono (zF6 h (cnt:=many) (lo:=0) (hi:=many) (by omega) (by omega) rfl fun r M' hr g=>?_) ?_
  ·exact zE (zM (x:=.dat (.int ((r:Int) + 1))) (y:=.dat (.int many)) (zM rfl rfl rfl) rfl (zTu m0)) ⟨_,rfl,Int.emod_nonneg _ (by omega),Int.emod_lt_of_pos _ m0,Nx.refl g⟩
  rintro x M1 ⟨⟨c,rfl,hcl,hc⟩,nx⟩;refine zu ?_;rw [zCY];exact new _ _ nx.nw ⟨hcl,hc⟩
 rw [zVN w3,zAs,zP,zK,zBA];refine zE (isf 3 _ _ rfl) ?_;by_cases w3':fam = 3
 ·rw [zVK (by simpa using w3'),zAU];refine Ok.mono (zF6 h (cnt:=many) (lo:=0) (hi:=many) (by omega) (by omega) rfl fun r M' hr g=>?_) ?_
  ·refine zE (zRc (b:=decide ((r:Int) = many - 1)) (zUJ (x:=.int r) (y:=.int 0) rfl rfl) (zM (x:=.dat (.int r)) (y:=.dat (.int (many - 1))) rfl (zM rfl rfl rfl) (zU (zMQ.mpr ⟨rfl,rfl⟩)))) ?_;by_cases q:(r:Int) = many - 1
   ·rw [zWD q,zVK rfl]; exact ⟨0,rfl,by omega,by omega,Nx.refl g⟩
   ·rw [zVe q,zVN (by decide)]; exact ⟨r,rfl,by omega,by omega,Nx.refl g⟩
  rintro x M1 ⟨⟨c,rfl,hcl,hc⟩,nx⟩;refine zu ?_;rw [zCY];exact new _ _ nx.nw ⟨hcl,hc⟩
 rw [zVN (by simpa using w3'),zAs,zP,zK,zBA];refine zE (orE (isf 4 _ _ rfl) (isf 7 _ _ rfl)) ?_;by_cases w4:(decide (fam = 4) || decide (fam = 7)) = true
 ·rw [zVK w4,zK,zb];refine zAO h rfl rfl m0 (by omega) fun far M1 a0 a1 nx1=>?_;rw [zL,zP,zAU];show Ok (zj _ _ _ _ _ [some (.ref n),some (.int fam),some (.int many),some (.int let_),none,none,none,some (.int far),none,none] M1) _;refine Ok.mono (zF6 nx1.gen (cnt:=many) (lo:=0) (hi:=many) (by omega) (by omega) rfl fun r M' hr g=>?_) ?_
  ·refine zE (zRc (b:=decide (fam = 7)) (zUJ (x:=.int (((r:Int) + far) % many)) (y:=.int far) (zM (x:=.dat (.int ((r:Int) + far))) (y:=.dat (.int many)) (zM rfl rfl rfl) rfl (zTu m0)) rfl) (zM (x:=.dat (.int fam)) (y:=.dat (.int 7)) rfl rfl (zU (zMQ.mpr ⟨rfl,rfl⟩)))) ?_;by_cases q:fam = 7
   ·rw [zWD q,zVK rfl]; exact ⟨far,rfl,a0,a1,Nx.refl g⟩
   ·rw [zVe q,zVN (by decide)]; exact ⟨_,rfl,Int.emod_nonneg _ (by omega),Int.emod_lt_of_pos _ m0,Nx.refl g⟩
  rintro x M2 ⟨⟨c,rfl,hcl,hc⟩,nx⟩;refine zu ?_;rw [zCY];exact new _ _ (nx1.trans nx).nw ⟨hcl,hc⟩
 rw [zVN w4,zAs,zP,zK,zb];refine zCd.mpr (zE (zAd rfl (zAG rfl)) ?_);refine Ok.mono (zOs h m0 m1) ?_;rintro d M1 ⟨j,c,rfl,ej,cc,hj,nw1,_⟩;have cl:=cc.1;rw [zL,zP,zK,zBA];refine zE (andE (isf 6 _ _ rfl) (isl _ _ rfl)) ?_;by_cases w6:(decide (fam = 6) && decide (let_ = 0)) = true
 ·rw [zVK w6,zK,zb];refine zAA.mpr (zv.mpr ⟨_,rfl,zAO nw1.gen rfl rfl m0 (by omega) fun p M2 p0 p1 nx2=>?_⟩);have ej2:=nx2.nw.get ej (by omega) (by omega);refine zN7 (zy ej2) (zJ2 p0 (by omega)) ?_;rw [zL,zP,zH1];refine zv.mpr ⟨_,rfl,?_⟩;rw [zL];refine zv.mpr ⟨_,rfl,zAO nx2.gen rfl rfl m0 (by omega) fun q M3 q0 q1 nx3=>?_⟩;have ej3:=nx3.nw.get ej2 (by omega) (by omega);rw [zL];have eq':q = ((q.toNat:Nat):Int):=by omega
  refine ⟨M3.set j (.lst ((c.map D.int).set q.toNat (.int (c.getD p.toNat 0)))),?_,?_⟩
  ·have:=zFd (k:=q.toNat) (d:=.int (c.getD p.toNat 0)) ej3 (by rw [zVE]; omega);rw [<- eq'] at this; exact this
  rw [zP];refine zAu rfl ⟨j,c.set q.toNat (c.getD p.toNat 0),rfl,?_,zNa cc (by omega),hj,?_⟩
  ·rw [zVz (zU8.mp ej3).1,List.map_set]
  ·refine ((nw1.trans nx2.nw).trans nx3.nw).setB h hj ?_;show D.unds _ _ = true;rw [<- List.map_set]; exact zAD _ _
 ·rw [zVN w6,zAs,zP];exact zAu rfl ⟨j,c,rfl,ej,cc,hj,nw1⟩
def zCk (many:Int) (cs:List (List Int)):List (List Int):=(List.range many.toNat).map fun r=>cs.map fun c=>c.getD r 0
theorem zLm (h0:0 < many) (hc:∀ c ∈ cs,Col many c) (hl:0 < cs.length):IsM (zCk many cs) cs.length:=by
 have hlen:(zCk many cs).length = many.toNat:=by unfold zCk; simp
 refine ⟨by omega,hl,fun r hr=>?_⟩;rw [hlen];unfold zCk at hr;obtain ⟨k,hk,rfl⟩:=zVM.mp hr;refine ⟨by simp,fun g hg=>?_⟩;obtain ⟨c,hcm,rfl⟩:=zVM.mp hg;have:=hc c hcm;have h1:=this.1;have:=zQu this (j:=k) (by have:=zVj.mp hk; omega);omega
def zNr (M:Mem) (lo:Nat) (many:Int) (js:List Nat) (cs:List (List Int)):Prop:=js.length = cs.length /\ ∀ (i:Nat) j c,js[i]? = some j -> cs[i]? = some c -> lo <= j /\ M[j]? = some (.lst (c.map D.int)) /\ Col many c
theorem zKH (h:Gen M n k) (hm:0 < many) (hm1:many <= 900) (hl:0 < lm) (hl1:lm <= 900) :
  Ok (zAb [.ref n,.int many,.int lm] M) fun d M'=>(∃ zA l,d = mD zA /\ IsM zA l /\ (zA.length:Int) = many /\ (l:Int) = lm) /\ Nw M M' n k:=by
 obtain ⟨hn,hk⟩:=h.lt;unfold zAb;refine zQP ?_;rw [zAI];unfold zCK;show OkS (zO _ _ [some (.ref n),some (.int many),some (.int lm),none,none,none,none,none] M) _;rw [zK,zb];refine zAO h rfl rfl (by decide) (by decide) fun fam M1 f0 f1 nx1=>?_;rw [zL,zP,zK,zb];show Ok (zj _ _ _ _ _ [some (.ref n),some (.int many),some (.int lm),some (.int fam),none,none,none,none] M1) _;refine zEQ.mpr ⟨_,_,_,zBZ (j:=lm) rfl (by omega) (by omega),by rw [zCL]; exact zn (by omega),?_⟩;refine Ok.mono (zOO (n:=lm.toNat) (I:=fun i acc M'=>∃ (js:List Nat) (cs:List (List Int)),acc = js.map D.ref /\ zNr M' M.length many js cs /\ cs.length = i /\ Nw M M' n k) ?_ ⟨[],[],rfl,⟨rfl,fun i j c h=>by simp at h⟩,rfl,nx1.nw⟩) ?_
 ·rintro i acc M' hi ⟨js,cs,rfl,hcs,hcl,nw⟩;refine ⟨_,rfl,?_⟩;refine zCd.mpr (zE (zAd (d:=.ref n) rfl (zAd (d:=.int fam) rfl (zAd (d:=.int many) rfl (zAG (d:=.int (i:Nat)) rfl)))) ?_);refine Ok.mono (zMz nw.gen hm (by omega)) ?_;rintro d M2 ⟨j,c,rfl,ec,cc,hj,nw2⟩;have hle:=nw.len;rw [zL];refine ⟨js ++ [j],cs ++ [c],by simp,⟨by simp [hcs.1],fun a b c' h1 h2=>?_⟩,by simp [hcl],nw.trans nw2⟩;by_cases ha:a < js.length
  ·rw [zVC ha] at h1;rw [zVC (by rw [<- hcs.1]; exact ha)] at h2;obtain ⟨q1,q2,q3⟩:=hcs.2 a b c' h1 h2;exact ⟨q1,nw2.get q2 (by omega) (by omega),q3⟩
  ·have ha':a = js.length:=by
    have:=(zU8.mp h1).1;simp at this; omega
   subst ha';rw [zWF (zVB _)] at h1;rw [zWF (by rw [hcs.1]; exact zVB _)] at h2;simp at h1;rw [hcs.1] at h2;simp at h2;subst h1 h2;exact ⟨by omega,ec,cc⟩
 ·rintro ys M2 ⟨js,cs,rfl,hcs,hcl,nw⟩;refine zu ?_;rw [zP];have hju:D.unds M2.length (js.map D.ref) = true:=zFv fun z hz=>by
   obtain ⟨b,hb,rfl⟩:=zVM.mp hz;obtain ⟨i,hi,rfl⟩:=List.mem_iff_getElem.mp hb;have hi':i < cs.length:=by rw [<- hcs.1]; exact hi
   obtain ⟨_,q2,_⟩:=hcs.2 i js[i] cs[i] (zU9 hi) (zU9 hi');simp [D.und,(zU8.mp q2).1]
  have nwA:=nw.trans (nw.gen.lst (js.map D.ref) hju);have eA:(M2 ++ [MO.lst (js.map D.ref)])[M2.length]? = some (.lst (js.map D.ref)):=zBV _ _;have hA:zNr (M2 ++ [MO.lst (js.map D.ref)]) M.length many js cs:=⟨hcs.1,fun i j c h1 h2=>by
   obtain ⟨q1,q2,q3⟩:=hcs.2 i j c h1 h2;exact ⟨q1,by rw [zVC (zU8.mp q2).1]; exact q2,q3⟩⟩
  generalize M2 ++ [MO.lst (js.map D.ref)] = A at nwA eA hA;generalize M2.length = j at eA;show OkS (zw _ [some (.ref n),some (.int many),some (.int lm),some (.int fam),some (.ref j),none,none,none] A) _;have hcol:∀ c ∈ cs,Col many c:=fun c hc=>by
   obtain ⟨i,hi,rfl⟩:=List.mem_iff_getElem.mp hc;exact (hA.2 i (js[i]'(by rw [hA.1]; exact hi)) cs[i] (zU9 _) (zU9 _)).2.2
  have hlen:(zCk many cs).length = many.toNat:=by unfold zCk; simp
  refine zAu (d:=mD (zCk many cs)) ?_ ⟨⟨zFP _,nwA.len,nwA.wf0 h⟩,⟨zCk many cs,cs.length,rfl,zLm hm hcol (by omega),by omega,by omega⟩,nwA.trim h⟩;refine (zFX (zA6 (List.range many.toNat) (fun k=>D.int k) (fun k=> .tup ((cs.map fun c=>c.getD k 0).map D.int)) (zHB (f:=zC 1) rfl (by omega) (by omega)) trivial (by simp; omega) fun r hr=>⟨_,rfl,?_⟩) zEl).trans ?_
  ·have hr':=zVj.mp hr;refine (zFX (zA6 (gd:=zDg (.dat (.ref j)) (js.map D.ref)) (List.range js.length) (fun i=>D.ref (js.getD i 0)) (fun i=> .int ((cs.getD i []).getD r 0)) ?_ ?_ (by rw [zW2,hA.1,hcl]; omega) fun i hi=>⟨_,rfl,?_⟩) zEl).trans ?_
   ·rw [show ((List.range js.length).map fun i=>D.ref (js.getD i 0)) = js.map D.ref by
     apply List.ext_getElem
     ·simp
     ·intro i h1 h2;simp at h1;simp [h1]]
    exact zDT (x:=.dat (.ref j)) rfl (zy eA)
   ·exact .inl eA
   ·have hi':=zVj.mp hi;have hc':i < cs.length:=by rw [<- hA.1]; exact hi'
    have ej':js[i]? = some (js.getD i 0):=by rw [zVA,zU9 hi']; rfl
    have ec':cs[i]? = some (cs.getD i []):=by rw [zVA,zU9 hc']; rfl
    obtain ⟨_,q2,q3⟩:=hA.2 i _ _ ej' ec';have hz:=q3.1;exact zM (x:=.dat (.ref (js.getD i 0))) (y:=.dat (.int (r:Nat))) rfl rfl (zCM (zy q2) (zJ2 (by omega) (by omega)))
   ·congr 3;rw [zVT];refine zWs D.tup ?_;apply List.ext_getElem
    ·simp [hA.1]
    ·intro i h1 h2;simp at h1 h2;have h2':i < cs.length:=h2;simp [h2']
  ·unfold mD zCk; rw [zVT]; rfl
noncomputable def zC8:FS:=(zw (zLO (fB zBQ (zQ (zC 0) zh))))
noncomputable def zAf:FF:=zBP 1 zC8
noncomputable def zD5:FS:=(zw (zEg [1,2] [2] (zAH (zC 0)) (gN 1) zd (zAH (zC 0)) (gN 2) (tst (fOp kLt (zC 1) (zC 2))) (zCr (zD (toD (zC 1)) (zD (toD (zC 2)) zI)))))
noncomputable def zAh:FF:=zBP 3 zD5
theorem zJP {α:Type} (enc out:α -> D) (keep:α -> Bool):∀ (as:List α),(∀ a ∈ as,∃ σ1,g (enc a) σ = some σ1 /\ tc σ1 M = some (keep a,M) /\ (keep a = true -> te σ1 M = some (.dat (out a),M))) -> zAV g tc te σ all none (as.map enc) M = some ((as.filter keep).map out,M)
 | [],_=>by
  rw [List.map_nil];unfold zAV;rw [zVK (show zAX none all M from trivial)]; rfl
 | a :: r,h=>by
  obtain ⟨σ1,e1,e2,e3⟩:=h a zVJ;have ih:=zJP (all:=all) (σ:=σ) enc out keep r fun b hb=>h b (zVI _ hb);rw [zVO];unfold zAV;rw [zVK (show zAX none all M from trivial),e1];dsimp only;rw [e2];cases hk:keep a with
  | false=>
   dsimp only;rw [ih,List.filter_cons_of_neg (by simp [hk])]
  | true=>
   dsimp only;rw [show toD te σ1 M = some (out a,M) by unfold toD; rw [e3 hk]];dsimp only;rw [ih,List.filter_cons_of_pos hk];rfl
theorem zNn {α β:Type} (as:List α) (enc:α -> D) (bs:α -> List β) (enc2:β -> D) (keep:α -> β -> Bool) (out:α -> β -> D) (B:Nat)
  (hi:fi σ M = some (as.map enc,none,M)) (hB:∀ a ∈ as,(bs a).length <= B) (hz:as.length * B <= 90000)
  (he:∀ a ∈ as,∃ σ1,fg (enc a) (zAp own σ) = some σ1 /\ fi2 σ1 M = some ((bs a).map enc2,none,M) /\ ∀ b ∈ bs a,∃ σ2,fg2 (enc2 b) (zAp own2 σ1) = some σ2 /\ tc2 σ2 M = some (keep a b,M) /\ (keep a b = true -> te σ2 M = some (.dat (out a b),M))) :
  zEg own own2 fi fg zd fi2 fg2 tc2 te σ M = some (.fl (as.flatMap fun a=>((bs a).filter (keep a)).map (out a)),M):=by
 have key:∀ (r:List α) (acc:List D),(∀ a ∈ r,a ∈ as) -> acc.length + r.length * B <= 90000 -> zIL fg zd fi2 own2 fg2 tc2 te (zAp own σ) (as.map enc) none (r.map enc) acc M = some (acc ++ r.flatMap fun a=>((bs a).filter (keep a)).map (out a),M):=by
  intro r;induction r with
  | nil=>
   intro acc _ _;rw [List.map_nil];unfold zIL;rw [zVK (show zAX none (as.map enc) M from trivial)]; simp
  | cons a r ih=>
   intro acc hs hl;have ha:=hs a zVJ;obtain ⟨σ1,e1,e2,e3⟩:=he a ha;have hb:=hB a ha;have hlen:(((bs a).filter (keep a)).map (out a)).length <= (bs a).length:=by rw [zVE]; exact List.length_filter_le _ _
   rw [zVc,Nat.add_mul] at hl;rw [zVO];unfold zIL;rw [zVK (show zAX none (as.map enc) M from trivial),e1];dsimp only;rw [show zd σ1 M = some (true,M) from rfl];dsimp only;rw [e2];dsimp only;rw [zVK (zn (by rw [zVE]; omega)),zJP enc2 (out a) (keep a) (bs a) e3];dsimp only;rw [ih _ (fun b hb=>hs b (zVI _ hb)) (by rw [zVL]; omega)];rw [List.flatMap_cons,zWB]
 unfold zEg;rw [hi];dsimp only;rw [key as [] (fun _ h=>h) (by simpa using hz)];simp
def zX (xs:List Int):List (List Int):=xs.flatMap fun a=>(xs.filter fun b=>decide (a < b)).map fun b=>[a,b]
theorem zJe (hz:xs.length <= 200):zAh [tI xs] M = some (.ref M.length,M ++ [.lst ((zX xs).map tI)]):=by
 suffices h:Ok (zAh [tI xs] M) fun d M'=>d = .ref M.length /\ M' = M ++ [.lst ((zX xs).map tI)] by
  obtain ⟨d,M',e,rfl,rfl⟩:=h; exact e
 unfold zAh;rw [zAI];unfold zD5;rw [zAU];have hq:xs.length * xs.length <= 90000:=zVW (zWh hz hz) (by decide);refine zE (zNn xs D.int (fun _=>xs) D.int (fun a b=>decide (a < b)) (fun a b=>tI [a,b]) xs.length (zCe rfl) (fun _ _=>zVB _) hq fun a ha=>⟨_,rfl,zCe rfl,fun b hb=>⟨_,rfl,?_,fun _=>?_⟩⟩) (zu ⟨rfl,?_⟩)
 ·exact zAN (zM (x:=.dat (.int a)) (y:=.dat (.int b)) rfl rfl (zU (zT2.mpr ⟨rfl,rfl⟩)))
 ·unfold zCr;rw [zAd (d:=.int a) rfl (zAG (d:=.int b) rfl)];dsimp only;rw [zVK (zn (by simp))]; rfl
 ·congr 3;unfold zX;rw [List.map_flatMap];congr 1;funext a;rw [zVT]; rfl
theorem zAt:p ∈ zX xs ↔ ∃ a b,p = [a,b] /\ a ∈ xs /\ b ∈ xs /\ a < b:=by
 unfold zX;rw [List.mem_flatMap];constructor
 ·rintro ⟨a,ha,h⟩;obtain ⟨b,hb,rfl⟩:=zVM.mp h;obtain ⟨h1,h2⟩:=zWG.mp hb;exact ⟨a,b,rfl,ha,h1,zV1 h2⟩
 ·rintro ⟨a,b,rfl,ha,hb,hlt⟩;exact ⟨a,ha,zVM.mpr ⟨b,zWG.mpr ⟨hb,zWD hlt⟩,rfl⟩⟩
theorem zJp (hz:zA.length <= 1000):zAf [mD zA] M = some (tI ((List.range zA.length).map fun (k:Nat)=>(k:Int)),M):=by
 refine zU ?_;unfold zAf;rw [zAI];unfold zC8;refine zAu (d:=tI ((List.range zA.length).map fun (k:Nat)=>(k:Int))) ?_ ⟨rfl,rfl⟩;unfold zLO;rw [show fB zBQ (zQ (zC 0) zh) ([mD zA].map some ++ List.replicate (1 - [mD zA].length) none) M = some (.dat (.int zA.length),M) from zER rfl];dsimp only;rw [zVK ⟨by omega,by omega⟩];unfold upD tI;rw [zVT,show (zA.length:Int).toNat = zA.length by omega]; rfl
def zIM (g:List Int):List Key:=g.map Sum.inl
theorem zIt:∀ {a b:List Int},zIM a = zIM b -> a = b
 | [],[],_=>rfl
 | [],_ :: _,h=>by cases h
 | _ :: _,[],h=>by cases h
 | x :: a,y :: b,h=>by
  have h1:=(zV9 h).1;have h2:=zIt (zV9 h).2;cases h1; rw [h2]
theorem zFT:∀ g:List Int,zCT (g.map D.int) = some (zIM g)
 | []=>rfl
 | x :: r=>by
  rw [zVO];unfold zCT;rw [zFT r];rfl
theorem zF8 (g:List Int):tkD (tI g) = some (zIM g):=zFT g
abbrev zDk (T:List (List Int × D)):List (D × D):=T.map fun q=>(tI q.1,q.2)
abbrev dT (T:List (List Int × D)):MO:=.dicT (zDk T)
def zF:List (List Int × D) -> List Int -> Option D
 | [],_=>none
 | q :: r,g=>if q.1 = g then some q.2 else zF r g
def zBa (T:List (List Int × D)) (g:List Int) (v:D):List (List Int × D):=match zF T g with
 | some _=>T.map fun q=>if q.1 = g then (q.1,v) else q
 | none=>T ++ [(g,v)]
theorem zHY (a g:List Int):decide (tkD (tI a) = some (zIM g)) = decide (a = g):=by
 rw [zF8];by_cases h:a = g
 ·subst h; simp
 ·rw [zVe h,zVe];intro e;exact h (zIt (zV5 e))
theorem zPO (g:List Int):∀ T:List (List Int × D),zDc tkD (zDk T) (zIM g) = zF T g
 | []=>rfl
 | q :: r=>by
  have ih:=zPO g r;unfold zDc at ih ⊢;unfold zDk at ih ⊢;rw [zVO,zWr];dsimp only;rw [zHY];unfold zF;by_cases h:q.1 = g
  ·rw [zWD h,zVK h]; rfl
  ·rw [zVe h,zVN h]; exact ih
theorem zRZ (g:List Int):∀ T:List (List Int × D),((zDk T).any fun p=>decide (tkD p.1 = some (zIM g))) = (zF T g).isSome
 | []=>rfl
 | q :: r=>by
  have ih:=zRZ g r;unfold zDk at ih ⊢;rw [zVO,List.any_cons,zHY];unfold zF;by_cases h:q.1 = g
  ·rw [zWD h,zVK h]; rfl
  ·rw [zVe h,zVN h,Bool.false_or]; exact ih
theorem zT7 (T:List (List Int × D)) (g:List Int) (v:D):zJd tkD (zDk T) (zIM g) (tI g) v = zDk (zBa T g v):=by
 unfold zJd zBa;rw [zRZ];cases h:zF T g with
 | none=>
  rw [zVN (by simp)];unfold zDk; rw [zVx]; rfl
 | some d=>
  rw [zVK (by simp)];unfold zDk;dsimp only;rw [zVT,zVT];apply List.map_congr_left;intro q _;show (if tkD (tI q.1) = some (zIM g) then (tI q.1,v) else (tI q.1,q.2)) = (tI (if q.1 = g then (q.1,v) else q).1,(if q.1 = g then (q.1,v) else q).2);have hd:=zHY q.1 g;by_cases hq:q.1 = g
  ·rw [zWD hq] at hd;rw [zVK (zV1 hd),zVK hq]
  ·rw [zVe hq] at hd;rw [zVN (of_decide_eq_false hd),zVN hq]
theorem zDN (T:List (List Int × D)) (g h:List Int) (v:D):zF (zBa T g v) h = if g = h then some v else zF T h:=by
 have app:∀ (T:List (List Int × D)),zF T g = none -> zF (T ++ [(g,v)]) h = if g = h then some v else zF T h:=by
  intro T;induction T with
  | nil=>intro _; rfl
  | cons q r ih=>
   intro e;unfold zF at e;by_cases hq:q.1 = g
   ·rw [zVK hq] at e; cases e
   ·rw [zVN hq] at e;show (if q.1 = h then some q.2 else zF (r ++ [(g,v)]) h) = if g = h then some v else if q.1 = h then some q.2 else zF r h
    rw [ih e];by_cases h1:q.1 = h
    ·rw [zVK h1,zVK h1,zVN (fun z=>hq (h1.trans z.symm))]
    ·rw [zVN h1,zVN h1]
 have mp:∀ (T:List (List Int × D)),(zF T g).isSome = true -> zF (T.map fun q=>if q.1 = g then (q.1,v) else q) h = if g = h then some v else zF T h:=by
  intro T;by_cases hgh:g = h
  ·subst hgh;induction T with
   | nil=>intro e; cases e
   | cons q r ih=>
    intro e;rw [zVO];unfold zF;by_cases hq:q.1 = g
    ·rw [zVK hq]; simp [hq]
    ·rw [zVN hq,zVN hq];unfold zF at e;rw [zVN hq] at e;rw [ih e,zVK rfl,zVK rfl]
  ·intro hx;clear hx;rw [zVN hgh];clear app;induction T with
   | nil=>rfl
   | cons q r ih=>
    rw [zVO];unfold zF;by_cases hq:q.1 = g
    ·have:¬ q.1 = h:=fun z=>hgh (hq.symm.trans z);rw [zVK hq];show (if q.1 = h then some v else _) = _;rw [zVN this,zVN this]; exact ih
    ·rw [zVN hq];by_cases h1:q.1 = h
     ·rw [zVK h1,zVK h1]
     ·rw [zVN h1,zVN h1]; exact ih
 unfold zBa;cases e:zF T g with
 | none=>exact app T e
 | some d=>exact mp T (by rw [e]; rfl)
theorem zIs (T:List (List Int × D)) (g:List Int) (v:D):(zBa T g v).length <= T.length + 1:=by
 unfold zBa;cases zF T g with
 | none=>simp
 | some d=>simp
section
variable {M:Mem} {n:Nat} {T:List (List Int × D)} {g:List Int}
theorem dgT (h:M[n]? = some (dT T)):zED M (.dat (.ref n)) (tI g) = some (zF T g):=by
 unfold zED; dsimp only; rw [h]; dsimp only; rw [zF8]; dsimp only; rw [zPO]
theorem zQy (h:M[n]? = some (dT T)):zCN neg (.dat (tI g)) (.dat (.ref n)) M = some (.dat (.bl (if neg then !(zF T g).isSome else (zF T g).isSome)),M):=by
 unfold zCN; dsimp only; rw [dgT h]
theorem zFc (h:M[n]? = some (dT T)) (hd:zF T g = some d):zAF (.dat (.ref n)) (.dat (tI g)) M = some (.dat d,M):=by
 unfold zAF; dsimp only; rw [dgT h,hd]
theorem zGq (h:M[n]? = some (dT T)) (hz:T.length < 90000):zDY M n (tI g) v = some (M.set n (dT (zBa T g v))):=by
 unfold zDY; rw [h]; dsimp only; rw [zF8]; dsimp only; rw [zVK (by rw [zVE]; exact zVU hz (zn (by omega))),zT7]
end
noncomputable def zDC:FS:=(zO (zx 1 zFq)
  (zO (zCQ (zAH (zR zAh (zD (toD (zR zAf (zD (toD (zC 0)) zI))) zI))) (gN 2) (zCQ (zr (zD (toD (fB zBQ (zQ (fOp kIx (zC 0) (fC (.int 0))) zh))) zI)) (gN 3) (zO (zx 4 (zR zA1 (zD (toD (zC 0)) (zD (toD (zC 2)) (zD (toD (zC 3)) zI)))))
  (zO (sIf (tst (fOp (zCN true) (zC 4) (zC 1))) (zBT (zAW zI) (zC 1) (zC 4)) zBM)
  (zAj (fM zAL (fOp zAF (zC 1) (zC 4)) (zD (toD (zC 2)) zI)))))))
  (zw (zC 1))))
noncomputable def zBW:FF:=zBP 5 zDC
def zCU (zA:List (List Int)) (ps:List (List Int × Int)) (g:List Int):List (List Int):=(ps.filter fun q=>decide (setR zA q.1 q.2 = g)).map (·.1)
theorem zGN (zA:List (List Int)) (ps:List (List Int × Int)) (p:List Int) (x:Int) (g:List Int):zCU zA (ps ++ [(p,x)]) g = zCU zA ps g ++ (if setR zA p x = g then [p] else []):=by
 unfold zCU;rw [List.filter_append,zVx];congr 1;by_cases h:setR zA p x = g
 ·rw [zVK h,List.filter_cons_of_pos (by simpa using h)]; rfl
 ·rw [zVN h,List.filter_cons_of_neg (by simpa using h)]; rfl
structure Sr (zA:List (List Int)) (M:Mem) (jd lo:Nat) (ps:List (List Int × Int)):Prop where
 ex:∃ T:List (List Int × D),M[jd]? = some (dT T) /\ T.length <= ps.length /\ (∀ g d,zF T g = some d -> ∃ j,d = .ref j /\ lo < j /\ M[j]? = some (.lst ((zCU zA ps g).map tI))) /\ (∀ g,zF T g = none -> zCU zA ps g = []) /\ ∀ g g' j,zF T g = some (.ref j) -> zF T g' = some (.ref j) -> g = g'
theorem zLj {zA:List (List Int)} {l:Nat} (m:IsM zA l) (hR:zA.length < 64) {M:Mem} {jd lo:Nat} {ps:List (List Int × Int)} (hps:ps.length < 50000) (hlo:jd < lo) (hlo2:lo < M.length) (sr:Sr zA M jd lo ps) {p:List Int} (hp:IsS zA p) {x:Int} (x0:0 <= x) (x1:x < l) {y4:Option D} :
  OkS (zO (zx 4 (zR zA1 (zD (toD (zC 0)) (zD (toD (zC 2)) (zD (toD (zC 3)) zI))))) (zO (sIf (tst (fOp (zCN true) (zC 4) (zC 1))) (zBT (zAW zI) (zC 1) (zC 4)) zBM) (zAj (fM zAL (fOp zAF (zC 1) (zC 4)) (zD (toD (zC 2)) zI)))) [some (mD zA),some (.ref jd),some (tI p),some (.int x),y4] M)
   fun o σ' M'=>o = .nx /\ (∃ y,σ' = [some (mD zA),some (.ref jd),some (tI p),some (.int x),y]) /\ Sr zA M' jd lo (ps ++ [(p,x)]) /\ M.length <= M'.length /\ ∀ j,j <= lo -> j ≠ jd -> M'[j]? = M[j]?:=by
 obtain ⟨T,ed,hT,h1,h2,h3⟩:=sr.ex;refine zDr (zAq (zAd rfl (zAd rfl (zAG rfl))) (zK3 m hR hp x0 x1)) ?_;generalize hg:setR zA p x = goal;show OkS (zO _ _ [some (mD zA),some (.ref jd),some (tI p),some (.int x),some (tI goal)] M) _;rw [zK,zBA];refine zE (M:=M) (a:=!(zF T goal).isSome) (zAN (zM (x:=.dat (tI goal)) (y:=.dat (.ref jd)) rfl rfl (zQy ed))) ?_
 have last:∀ (A:Mem) (T':List (List Int × D)) (j:Nat),A[jd]? = some (dT T') -> zF T' goal = some (.ref j) -> lo < j -> A[j]? = some (.lst ((zCU zA ps goal).map tI)) -> T'.length <= ps.length + 1 -> M.length <= A.length -> (∀ j,j <= lo -> j ≠ jd -> A[j]? = M[j]?) ->
   (∀ g d,zF T' g = some d -> ∃ j,d = .ref j /\ lo < j /\ A[j]? = some (.lst ((zCU zA ps g).map tI))) -> (∀ g,zF T' g = none -> zCU zA ps g = []) -> (∀ g g' j,zF T' g = some (.ref j) -> zF T' g' = some (.ref j) -> g = g') ->
   OkS (zAj (fM zAL (fOp zAF (zC 1) (zC 4)) (zD (toD (zC 2)) zI)) [some (mD zA),some (.ref jd),some (tI p),some (.int x),some (tI goal)] A)
    fun o σ' M'=>o = .nx /\ (∃ y,σ' = [some (mD zA),some (.ref jd),some (tI p),some (.int x),y]) /\ Sr zA M' jd lo (ps ++ [(p,x)]) /\ M.length <= M'.length /\ ∀ j,j <= lo -> j ≠ jd -> M'[j]? = M[j]?:=by
  intro A T' j ea el hj ej hz hle hfr k1 k2 k3;rw [zCS];have hfl:(zCU zA ps goal).length <= ps.length:=by unfold zCU; rw [zVE]; exact List.length_filter_le _ _
  have jl:j < A.length:=(zU8.mp ej).1;refine zKl.mpr (zE (zM (x:=.dat (.ref jd)) (y:=.dat (tI goal)) rfl rfl (zFc ea el)) ⟨⟨_,zAr ej⟩,zE (zAG (d:=tI p) rfl) ?_⟩);rw [zGS ej (by rw [zVE]; exact zVU (m:=95000) (by omega) (zn (by omega)))];refine ⟨rfl,⟨_,rfl⟩,⟨T',by rw [zVZ (by omega)]; exact ea,by simpa using hz,fun g d hd=>?_,fun g hd=>?_,k3⟩,by simpa using hle,fun i hi hn=>by rw [zVZ (by omega)]; exact hfr i hi hn⟩
  ·obtain ⟨j',rfl,hj',ej'⟩:=k1 g d hd;refine ⟨j',rfl,hj',?_⟩;rw [zGN,hg];by_cases hgg:goal = g
   ·subst hgg;rw [el] at hd;cases hd;rw [zVz jl,zVK rfl,zVx]; rfl
   ·rw [zVN hgg,zVp];have:j ≠ j':=fun z=>hgg (k3 goal g j el (by rw [z]; exact hd));rw [zVZ this]; exact ej'
  ·rw [zGN,hg,zVN (fun z=>by rw [<- z,el] at hd; cases hd),zVp];exact k2 g hd
 cases hl:zF T goal with
 | some d=>
  obtain ⟨j,rfl,hj,ej⟩:=h1 goal d hl;rw [zVN (by simp),zAs,zP];exact last M T j ed hl hj ej (by omega) (zVB _) (fun _ _ _=>rfl) h1 h2 h3
 | none=>
  rw [zVK (by simp)];have e0:=h2 goal hl;have jdl:jd < M.length:=(zU8.mp ed).1;have ed':(M ++ [MO.lst ([]:List D)])[jd]? = some (dT T):=by rw [zVC jdl]; exact ed
  refine ⟨.nx,[some (mD zA),some (.ref jd),some (tI p),some (.int x),some (tI goal)],(M ++ [MO.lst ([]:List D)]).set jd (dT (zBa T goal (.ref M.length))),?_,?_⟩
  ·unfold zBT;rw [show toD (zAW zI) [some (mD zA),some (.ref jd),some (tI p),some (.int x),some (tI goal)] M = some (.ref M.length,M ++ [.lst []]) by
    unfold toD zAW zI; dsimp only; rw [zVK (zn (by simp))]]
   dsimp only;rw [show toD (zC 1) [some (mD zA),some (.ref jd),some (tI p),some (.int x),some (tI goal)] (M ++ [.lst []]) = some (.ref jd,M ++ [.lst []]) from rfl];dsimp only;rw [show toD (zC 4) [some (mD zA),some (.ref jd),some (tI p),some (.int x),some (tI goal)] (M ++ [.lst []]) = some (tI goal,M ++ [.lst []]) from rfl];dsimp only;rw [zGq ed' (by omega)]
  rw [zP];have hput:=fun g=>zDN T goal g (.ref M.length);refine last _ (zBa T goal (.ref M.length)) M.length (zVz (by simp; omega)) (by rw [hput,zVK rfl]) hlo2 ?_ (by have:=zIs T goal (.ref M.length); omega) (by simp) (fun i hi hn=>?_) (fun g d hd=>?_) (fun g hd=>?_) (fun g g' j hd hd'=>?_)
  ·rw [zVZ (by omega),e0]; simp
  ·rw [zVZ (Ne.symm hn),zVC (by omega)]
  ·rw [hput] at hd;by_cases hgg:goal = g
   ·subst hgg;rw [zVK rfl] at hd;cases hd;exact ⟨M.length,rfl,hlo2,by rw [zVZ (by omega),e0]; simp⟩
   ·rw [zVN hgg] at hd;obtain ⟨j,rfl,hj,ej⟩:=h1 g d hd;exact ⟨j,rfl,hj,by rw [zVZ (by omega),zVC (zU8.mp ej).1]; exact ej⟩
  ·rw [hput] at hd;by_cases hgg:goal = g
   ·rw [zVK hgg] at hd; cases hd
   ·rw [zVN hgg] at hd; exact h2 g hd
  ·rw [hput] at hd hd';by_cases a:goal = g
   ·by_cases b:goal = g'
    ·rw [<- a,<- b]
    ·rw [zVK a] at hd;rw [zVN b] at hd';cases hd;obtain ⟨j,e,_,ej⟩:=h1 g' _ hd';cases e;exact absurd (zU8.mp ej).1 (zVn _)
   ·rw [zVN a] at hd;by_cases b:goal = g'
    ·rw [zVK b] at hd';cases hd';obtain ⟨j,e,_,ej⟩:=h1 g _ hd;cases e;exact absurd (zU8.mp ej).1 (zVn _)
    ·rw [zVN b] at hd';exact h3 g g' j hd hd'
def zJ (zA:List (List Int)):List Int:=(List.range zA.length).map fun (k:Nat)=>(k:Int)
def zBx (l:Nat) (ps:List (List Int)):List (List Int × Int):=ps.flatMap fun p=>(List.range l).map fun (x:Nat)=>(p,(x:Int))
theorem zFt (l:Nat) (ps:List (List Int)):(zBx l ps).length = ps.length * l:=by
 unfold zBx;induction ps with
 | nil=>simp
 | cons p r ih=>rw [List.flatMap_cons,zVL,ih,zVE,zW2,zVc,Nat.add_mul]; omega
theorem zBk (xs:List Int):(zX xs).length <= xs.length * xs.length:=by
 unfold zX;have:∀ (r:List Int),(r.flatMap fun a=>(xs.filter fun b=>decide (a < b)).map fun b=>[a,b]).length <= r.length * xs.length:=by
  intro r;induction r with
  | nil=>simp
  | cons a r ih=>
   rw [List.flatMap_cons,zVL,zVE,zVc,Nat.add_mul];have:=List.length_filter_le (fun b=>decide (a < b)) xs;omega
 exact this xs
theorem zLZ (h:p ∈ zX (zJ zA)):IsS zA p:=by
 obtain ⟨a,b,rfl,ha,hb,hlt⟩:=zAt.mp h;obtain ⟨i,hi,rfl⟩:=zVM.mp ha;obtain ⟨j,hj,rfl⟩:=zVM.mp hb;have:=zVj.mp hi;have:=zVj.mp hj;refine ⟨by simp; omega,by simp,fun x hx=>?_⟩;simp only [zVH,zVa,or_false] at hx;omega
theorem zK1 {M M1:Mem} (ha:a σ M = some (ds,M)) (hg:g ds M = some (.ref j,M1)) (hj:M1[j]? = some (.lst xs)):zAH (zR g a) σ M = some (xs,zDg (.dat (.ref j)) xs,M1):=by
 have:zR g a σ M = some (.dat (.ref j),M1):=by unfold zR; rw [ha]; dsimp only; rw [hg]
 unfold zAH; rw [this]; dsimp only; rw [zy hj]
theorem zQs {zA:List (List Int)} {l:Nat} (m:IsM zA l) (hR:zA.length < 64) (hl:l <= 12) {M:Mem}:Ok (zBW [mD zA] M) fun d M'=>d = .ref M.length /\ Sr zA M' M.length (M.length + 1) (zBx l (zX (zJ zA))) /\ M.length + 1 < M'.length /\ ∀ j,j < M.length -> M'[j]? = M[j]?:=by
 unfold zBW;rw [zAI];unfold zDC;show OkS (zO _ _ [some (mD zA),none,none,none,none] M) _;rw [zK,zb];refine zE (M:=M ++ [.dicT []]) (a:=.dat (.ref M.length)) rfl ?_;rw [zL,zP,zK,zBN];show ∃ xs gd M1,zAH _ [some (mD zA),some (.ref M.length),none,none,none] (M ++ [.dicT []]) = some (xs,gd,M1) /\ _;have hrl:(zJ zA).length = zA.length:=by unfold zJ; simp
 have epr:=zJe (xs:=zJ zA) (by omega) (M:=M ++ [.dicT []]);refine ⟨_,_,_,zK1 (zAG (d:=tI (zJ zA)) (zAq (zAG (d:=mD zA) rfl) (zJp (by omega)))) epr (zBV _ _),?_⟩;rw [show (M ++ [MO.dicT []]).length = M.length + 1 by simp];generalize hP:zX (zJ zA) = P;have hPl:P.length <= 3969:=by
  rw [<- hP];have h1:=zBk (zJ zA);rw [hrl] at h1;exact zVW h1 (zWh (show zA.length <= 63 by omega) (show zA.length <= 63 by omega))
 have e1:(M ++ [MO.dicT []] ++ [MO.lst (P.map tI)])[M.length + 1]? = some (.lst (P.map tI)):=by
  rw [zWB,zWF (by omega)]; simp
 have e0:(M ++ [MO.dicT []] ++ [MO.lst (P.map tI)])[M.length]? = some (dT []):=by
  rw [zWB,zWF (by omega)]; simp
 have ef:∀ j,j < M.length -> (M ++ [MO.dicT []] ++ [MO.lst (P.map tI)])[j]? = M[j]?:=fun j hj=>by rw [zWB,zVC hj]
 have el:(M ++ [MO.dicT []] ++ [MO.lst (P.map tI)]).length = M.length + 2:=by simp
 generalize M ++ [MO.dicT []] ++ [MO.lst (P.map tI)] = M1 at e1 e0 ef el;refine zA8 (I:=fun r σ M'=>(∃ y2 y3 y4,σ = [some (mD zA),some (.ref M.length),y2,y3,y4]) /\ ∃ us vs:List (List Int),P = us ++ vs /\ r = vs.map tI /\ Sr zA M' M.length (M.length + 1) (zBx l us) /\ M'[M.length + 1]? = some (.lst (P.map tI)) /\ M.length + 1 < M'.length /\ ∀ j,j < M.length -> M'[j]? = M[j]?) ?_ ?_ _ _ _ ⟨⟨_,_,_,rfl⟩,[],P,rfl,rfl,⟨[],e0,by simp,(fun g d h=>by cases h),(fun _ _=>rfl),(fun g g' j h=>by cases h)⟩,e1,by omega,ef⟩
 ·rintro x r σ M' ⟨⟨y2,y3,y4,rfl⟩,us,vs,hab,hr,sr,ep,hlen,hfr⟩;cases vs with
  | nil=>cases hr
  | cons p vs=>
   rw [zVO] at hr;obtain ⟨rfl,rfl⟩:=zV9 hr;have hpm:p ∈ zX (zJ zA):=by rw [hP,hab]; simp
   have hul:us.length < 3969:=by have:=zWs List.length hab; simp at this; omega
   refine ⟨.inl ep,_,rfl,?_⟩;show OkS (zCQ _ _ _ [some (mD zA),some (.ref M.length),some (tI p),y3,y4] M') _;rw [zBN];refine ⟨_,_,_,zBZ (zFJ m rfl) (by omega) (by omega),?_⟩;rw [show (l:Int).toNat = l by omega];refine zHx (n:=l) (I:=fun i σ M''=>(∃ y3 y4,σ = [some (mD zA),some (.ref M.length),some (tI p),y3,y4]) /\ Sr zA M'' M.length (M.length + 1) (zBx l us ++ (List.range i).map fun (x:Nat)=>(p,(x:Int))) /\ M''[M.length + 1]? = some (.lst (P.map tI)) /\ M.length + 1 < M''.length /\ ∀ j,j < M.length -> M''[j]? = M[j]?) ?_ ?_ _ _ ⟨⟨_,_,rfl⟩,by simpa using sr,ep,hlen,hfr⟩
   ·rintro i σ M2 hi ⟨⟨y3,y4,rfl⟩,sr2,ep2,hlen2,hfr2⟩;refine ⟨_,rfl,?_⟩;have hcount:(zBx l us ++ (List.range i).map fun (x:Nat)=>(p,(x:Int))).length < 50000:=by
     rw [zVL,zFt,zVE,zW2];have:=zWh (show us.length <= 3968 by omega) hl;omega
    refine OkS.mono (zLj m hR hcount (zV2 _) hlen2 sr2 (zLZ hpm) (x:=(i:Int)) (by omega) (by omega)) ?_;rintro o σ' M3 ⟨rfl,⟨y,rfl⟩,sr3,hl3,hf3⟩;refine ⟨⟨_,_,rfl⟩,?_,by rw [hf3 _ (zVB _) (by omega)]; exact ep2,by omega,fun j hj=>by rw [hf3 j (by omega) (by omega)]; exact hfr2 j hj⟩;rw [List.range_succ,zVx,<- zWB];exact sr3
   ·rintro σ M2 ⟨⟨y3,y4,rfl⟩,sr2,ep2,hlen2,hfr2⟩;refine ⟨⟨_,_,_,rfl⟩,us ++ [p],vs,by rw [hab]; simp,rfl,?_,ep2,hlen2,hfr2⟩;have:zBx l (us ++ [p]) = zBx l us ++ (List.range l).map fun (x:Nat)=>(p,(x:Int)):=by
     unfold zBx; rw [List.flatMap_append]; simp
    rw [this]; exact sr2
 ·rintro σ M' ⟨⟨y2,y3,y4,rfl⟩,us,vs,hab,hr,sr,ep,hlen,hfr⟩;have:vs = []:=by cases vs with | nil=>rfl | cons _ _=>cases hr
  subst this;rw [zVp] at hab;subst hab;refine ⟨.inl ep,?_⟩;rw [zP];exact zAu rfl ⟨rfl,sr,hlen,hfr⟩
noncomputable def zCj:FS:=(zO (zx 2 (zR zBW (zD (toD (zC 0)) zI)))
  (zO (zx 3 (zC 1))
  (zO (zx 4 (zCJ true [5] (zAH (zC 1)) (gN 5) zd (zC 5) (fC (.int 0))))
  (zO (zA9 (zMt (zC 3)) (zO (zx 6 (zAW zI))
  (zO (zCQ (zAH (zC 3)) (gN 5) (zCQ (zAH (zBI (zC 2) (zC 5) (zAW zI))) (gN 7) (sIf (tst (fOp (zCN true) (zC 7) (zC 4))) (zO (zBT (fOp zAQ (fOp zAF (zC 4) (zC 5)) (fC (.int 1))) (zC 4) (zC 7))
  (zAj (fM zAL (zC 6) (zD (toD (zC 7)) zI)))) zBM)))
  (zx 3 (zC 6)))) 1000)
  (zw (zC 4))))))
noncomputable def zA4:FF:=zBP 8 zCj
abbrev Fd:=List (List Int × D) × List (List Int)
def zAe (k:Int) (st:Fd) (p:List Int):Fd:=if (zF st.1 p).isSome then st else (zBa st.1 p (.int k),st.2 ++ [p])
structure Lv (M0 M:Mem) (jf jb:Nat) (st:Fd):Prop where
 f:M[jf]? = some (dT st.1)
 b:M[jb]? = some (.lst (st.2.map tI))
 len:M0.length <= M.length
 fr:∀ j,j < M0.length -> j ≠ jf -> j ≠ jb -> M[j]? = M0[j]?
theorem zNU (k:Int) (st:Fd) (p:List Int):(zAe k st p).1.length <= st.1.length + 1 /\ (zAe k st p).2.length <= st.2.length + 1:=by
 unfold zAe;split
 ·exact ⟨by omega,by omega⟩
 ·exact ⟨zIs _ _ _,by simp⟩
theorem zRI {M0:Mem} {jf jb js jd jl:Nat} {zA:List (List Int)} {x1 x3 y7:Option D} {goal:List Int} {k:Int} {ps:List (List Int)} (hne:jf ≠ jb) (h1:jf < M0.length) (h2:jb < M0.length) :
  ∀ (M:Mem) (st:Fd),Lv M0 M jf jb st -> M[js]? = some (.lst (ps.map tI)) -> js ≠ jf -> js ≠ jb -> zF st.1 goal = some (.int k) -> st.1.length + ps.length <= 80000 -> st.2.length + ps.length <= 80000 ->
  OkS (zB9 (gN 7) (sIf (tst (fOp (zCN true) (zC 7) (zC 4))) (zO (zBT (fOp zAQ (fOp zAF (zC 4) (zC 5)) (fC (.int 1))) (zC 4) (zC 7)) (zAj (fM zAL (zC 6) (zD (toD (zC 7)) zI)))) zBM) (ps.map tI) (zDg (.dat (.ref js)) (ps.map tI)) (ps.map tI) [some (mD zA),x1,some (.ref jd),x3,some (.ref jf),some (tI goal),some (.ref jb),y7] M)
   fun o σ' M'=>o = .nx /\ (∃ y,σ' = [some (mD zA),x1,some (.ref jd),x3,some (.ref jf),some (tI goal),some (.ref jb),y]) /\ Lv M0 M' jf jb (ps.foldl (zAe (k + 1)) st) /\ M'.length = M.length /\ ∀ j,j ≠ jf -> j ≠ jb -> M'[j]? = M[j]?:=by
 intro M st lv ejs n1 n2 hgl z1 z2;refine zA8 (I:=fun r σ M'=>(∃ y,σ = [some (mD zA),x1,some (.ref jd),x3,some (.ref jf),some (tI goal),some (.ref jb),y]) /\ ∃ us vs:List (List Int),ps = us ++ vs /\ r = vs.map tI /\ Lv M0 M' jf jb (us.foldl (zAe (k + 1)) st) /\ zF (us.foldl (zAe (k + 1)) st).1 goal = some (.int k) /\ (us.foldl (zAe (k + 1)) st).1.length <= st.1.length + us.length /\ (us.foldl (zAe (k + 1)) st).2.length <= st.2.length + us.length /\ M'.length = M.length /\ ∀ j,j ≠ jf -> j ≠ jb -> M'[j]? = M[j]?) ?_ ?_ _ _ _ ⟨⟨_,rfl⟩,[],ps,rfl,rfl,lv,hgl,by simp,by simp,rfl,fun _ _ _=>rfl⟩
 ·rintro x r σ M' ⟨⟨y,rfl⟩,us,vs,hab,hr,lv',hg',l1,l2,hl,hfr⟩;cases vs with
  | nil=>cases hr
  | cons p vs=>
   rw [zVO] at hr;obtain ⟨rfl,rfl⟩:=zV9 hr;have hul:us.length < ps.length:=by rw [hab]; simp
   refine ⟨.inl (by rw [hfr js n1 n2]; exact ejs),_,rfl,?_⟩;show OkS (sIf _ _ _ [some (mD zA),x1,some (.ref jd),x3,some (.ref jf),some (tI goal),some (.ref jb),some (tI p)] M') _;have hfold:(us ++ [p]).foldl (zAe (k + 1)) st = zAe (k + 1) (us.foldl (zAe (k + 1)) st) p:=by rw [List.foldl_append]; rfl
   generalize us.foldl (zAe (k + 1)) st = st' at lv' hg' l1 l2 hfold;have al:=zNU (k + 1) st' p;rw [zBA];refine zE (M:=M') (a:=!(zF st'.1 p).isSome) (zAN (zM (x:=.dat (tI p)) (y:=.dat (.ref jf)) rfl rfl (zQy lv'.f))) ?_;cases hlk:zF st'.1 p with
   | some d=>
    have ea:zAe (k + 1) st' p = st':=by unfold zAe; rw [hlk]; rfl
    rw [zVN (by simp),zAs];refine ⟨⟨_,rfl⟩,us ++ [p],vs,by rw [hab]; simp,rfl,?_⟩;rw [hfold,ea];exact ⟨lv',hg',by simp; omega,by simp; omega,hl,hfr⟩
   | none=>
    have ea:zAe (k + 1) st' p = (zBa st'.1 p (.int (k + 1)),st'.2 ++ [p]):=by unfold zAe; rw [hlk]; rfl
    have hgp:p ≠ goal:=fun z=>by rw [z,hg'] at hlk; cases hlk
    rw [zVK (by simp),zK];have ev:fOp zAQ (fOp zAF (zC 4) (zC 5)) (fC (.int 1)) [some (mD zA),x1,some (.ref jd),x3,some (.ref jf),some (tI goal),some (.ref jb),some (tI p)] M' = some (.dat (.int (k + 1)),M'):=zM (x:=.dat (.int k)) (zM (x:=.dat (.ref jf)) (y:=.dat (tI goal)) rfl rfl (zFc lv'.f hg')) rfl rfl;have hd:OkS (zBT (fOp zAQ (fOp zAF (zC 4) (zC 5)) (fC (.int 1))) (zC 4) (zC 7) [some (mD zA),x1,some (.ref jd),x3,some (.ref jf),some (tI goal),some (.ref jb),some (tI p)] M') fun o σ' M2=>o = .nx /\ σ' = [some (mD zA),x1,some (.ref jd),x3,some (.ref jf),some (tI goal),some (.ref jb),some (tI p)] /\ M2 = M'.set jf (dT (zBa st'.1 p (.int (k + 1)))):=by
     refine ⟨.nx,_,_,?_,rfl,rfl,rfl⟩;unfold zBT;rw [show toD (fOp zAQ (fOp zAF (zC 4) (zC 5)) (fC (.int 1))) [some (mD zA),x1,some (.ref jd),x3,some (.ref jf),some (tI goal),some (.ref jb),some (tI p)] M' = some (.int (k + 1),M') by unfold toD; rw [ev]];dsimp only;rw [show toD (zC 4) [some (mD zA),x1,some (.ref jd),x3,some (.ref jf),some (tI goal),some (.ref jb),some (tI p)] M' = some (.ref jf,M') from rfl];dsimp only;rw [show toD (zC 7) [some (mD zA),x1,some (.ref jd),x3,some (.ref jf),some (tI goal),some (.ref jb),some (tI p)] M' = some (tI p,M') from rfl];dsimp only;rw [zGq lv'.f (by omega)]
    refine OkS.mono hd ?_;rintro o σ' M2 ⟨rfl,rfl,rfl⟩;rw [zP,zCS];have eb:(M'.set jf (dT (zBa st'.1 p (.int (k + 1)))))[jb]? = some (.lst (st'.2.map tI)):=by rw [zVZ hne]; exact lv'.b
    refine zKl.mpr (zv.mpr ⟨_,rfl,⟨_,zAr eb⟩,zE (zAG (d:=tI p) rfl) ?_⟩);rw [zGS eb (by rw [zVE]; exact zVU (m:=95000) (by omega) (zn (by omega)))];have jfl:jf < M'.length:=zVU h1 lv'.len;have jbl:jb < M'.length:=zVU h2 lv'.len;refine ⟨⟨_,rfl⟩,us ++ [p],vs,by rw [hab]; simp,rfl,?_⟩;rw [hfold];refine ⟨?_,?_,by simp; omega,by simp; omega,by simp [hl],fun j q1 q2=>by rw [zVZ (Ne.symm q2),zVZ (Ne.symm q1)]; exact hfr j q1 q2⟩
    ·rw [ea];refine ⟨by rw [zVZ (Ne.symm hne),zVz jfl],by rw [zVz (by simpa using jbl),zVx]; rfl,by simpa using lv'.len,fun j q0 q1 q2=>by rw [zVZ (Ne.symm q2),zVZ (Ne.symm q1)]; exact lv'.fr j q0 q1 q2⟩
    ·rw [ea];show zF (zBa st'.1 p (.int (k + 1))) goal = _;rw [zDN,zVN hgp]; exact hg'
 ·rintro σ M' ⟨⟨y,rfl⟩,us,vs,hab,hr,lv',hg',l1,l2,hl,hfr⟩;have:vs = []:=by cases vs with | nil=>rfl | cons _ _=>cases hr
  subst this;rw [zVp] at hab;subst hab;exact ⟨.inl (by rw [hfr js n1 n2]; exact ejs),rfl,⟨_,rfl⟩,lv',hl,hfr⟩
theorem zTm {f g:FE} {σ:Sd} {M:Mem} {n:Nat} {T:List (List Int × D)} {k:List Int} (hf:f σ M = some (.dat (.ref n),M)) (hn:M[n]? = some (dT T)) (hg:g σ M = some (.dat (tI k),M)):zBI f g (zAW zI) σ M = some (.dat ((zF T k).getD (.ref M.length)),M ++ [.lst []]):=by
 have nl:n < M.length:=(zU8.mp hn).1;unfold zBI;rw [show toD f σ M = some (.ref n,M) by unfold toD; rw [hf]];dsimp only;rw [hn];dsimp only;rw [show toD g σ M = some (tI k,M) by unfold toD; rw [hg]];dsimp only;rw [show toD (zAW zI) σ M = some (.ref M.length,M ++ [.lst []]) by
  unfold toD zAW zI; dsimp only; rw [zVK (zn (by simp))]]
 dsimp only;rw [dgT (g:=k) (show (M ++ [MO.lst ([]:List D)])[n]? = some (dT T) by rw [zVC nl]; exact hn)]
def zBD (src:List Int -> List (List Int)) (k:Int) (gs:List (List Int)) (st:Fd):Fd:=gs.foldl (fun st g=>(src g).foldl (zAe (k + 1)) st) st
theorem zMM {k:Int} {st:Fd} {p g:List Int} {d:D} (h:zF st.1 g = some d):zF (zAe k st p).1 g = some d:=by
 unfold zAe;split
 ·exact h
 ·rename_i q;show zF (zBa st.1 p (.int k)) g = some d;rw [zDN,zVN (fun z=>q (by rw [z,h]; rfl))]; exact h
theorem zFj {k:Int} {g:List Int} {d:D}:∀ (ps:List (List Int)) {st:Fd},zF st.1 g = some d -> zF (ps.foldl (zAe k) st).1 g = some d
 | [],_,h=>h
 | p :: r,_,h=>zFj r (zMM h)
def zTL (M:Mem) (Ts:List (List Int × D)) (jf jb:Nat) (src:List Int -> List (List Int)):Prop:=∀ g,(∃ j,zF Ts g = some (.ref j) /\ j ≠ jf /\ j ≠ jb /\ M[j]? = some (.lst ((src g).map tI))) \/ (zF Ts g = none /\ src g = [])
theorem zPn {M0:Mem} {jf jb jd jl:Nat} {zA:List (List Int)} {x1 y5 y7:Option D} {k:Int} {gs:List (List Int)} {src:List Int -> List (List Int)} {Ts:List (List Int × D)} (hne:jf ≠ jb) (h1:jf < M0.length) (h2:jb < M0.length) (hd:M0[jd]? = some (dT Ts)) (d1:jd ≠ jf) (d2:jd ≠ jb) (hl:M0[jl]? = some (.lst (gs.map tI))) (l1:jl ≠ jf) (l2:jl ≠ jb) (hs:zTL M0 Ts jf jb src) (B:Nat) (hB:∀ g ∈ gs,(src g).length <= B)
  {st:Fd} (hg:∀ g ∈ gs,zF st.1 g = some (.int k)) (Z:Nat) (hZB:Z + B <= 80000) (hZ:∀ us vs,gs = us ++ vs -> (zBD src k us st).1.length <= Z /\ (zBD src k us st).2.length <= Z) (lv:Lv M0 M0 jf jb st) :
  OkS (zB9 (gN 5) (zCQ (zAH (zBI (zC 2) (zC 5) (zAW zI))) (gN 7) (sIf (tst (fOp (zCN true) (zC 7) (zC 4))) (zO (zBT (fOp zAQ (fOp zAF (zC 4) (zC 5)) (fC (.int 1))) (zC 4) (zC 7)) (zAj (fM zAL (zC 6) (zD (toD (zC 7)) zI)))) zBM)) (gs.map tI) (zDg (.dat (.ref jl)) (gs.map tI)) (gs.map tI) [some (mD zA),x1,some (.ref jd),some (.ref jl),some (.ref jf),y5,some (.ref jb),y7] M0)
   fun o σ' M'=>o = .nx /\ (∃ y5 y7,σ' = [some (mD zA),x1,some (.ref jd),some (.ref jl),some (.ref jf),y5,some (.ref jb),y7]) /\ Lv M0 M' jf jb (zBD src k gs st):=by
 refine zA8 (I:=fun r σ M'=>(∃ y5 y7,σ = [some (mD zA),x1,some (.ref jd),some (.ref jl),some (.ref jf),y5,some (.ref jb),y7]) /\ ∃ us vs:List (List Int),gs = us ++ vs /\ r = vs.map tI /\ Lv M0 M' jf jb (zBD src k us st) /\ (∀ g ∈ gs,zF (zBD src k us st).1 g = some (.int k))) ?_ ?_ _ _ _ ⟨⟨_,_,rfl⟩,[],gs,rfl,rfl,lv,hg⟩
 ·rintro x r σ M' ⟨⟨y5,y7,rfl⟩,us,vs,hab,hr,lv',hg'⟩;cases vs with
  | nil=>cases hr
  | cons g vs=>
   rw [zVO] at hr;obtain ⟨rfl,rfl⟩:=zV9 hr;have hgm:g ∈ gs:=by rw [hab]; simp
   have hsb:=hB g hgm;obtain ⟨b1,b2⟩:=hZ us (g :: vs) hab;have keep:∀ {j:Nat} {u:MO},M0[j]? = some u -> j ≠ jf -> j ≠ jb -> M'[j]? = some u:=fun {j u} e q1 q2=>(lv'.fr j (zU8.mp e).1 q1 q2).trans e;refine ⟨.inl (keep hl l1 l2),_,rfl,?_⟩;show OkS (zCQ _ _ _ [some (mD zA),x1,some (.ref jd),some (.ref jl),some (.ref jf),some (tI g),some (.ref jb),y7] M') _;have hfold:zBD src k (us ++ [g]) st = (src g).foldl (zAe (k + 1)) (zBD src k us st):=by unfold zBD; rw [List.foldl_append]; rfl
   generalize zBD src k us st = st' at lv' hg' b1 b2 hfold;have e2:=zTm (f:=zC 2) (g:=zC 5) (σ:=[some (mD zA),x1,some (.ref jd),some (.ref jl),some (.ref jf),some (tI g),some (.ref jb),y7]) (M:=M') (k:=g) rfl (keep hd d1 d2) rfl;have lvA:Lv M0 (M' ++ [.lst []]) jf jb st':=by
    have f1:=(zU8.mp lv'.f).1;have f2:=(zU8.mp lv'.b).1;have f3:=lv'.len;exact ⟨by rw [zVC f1]; exact lv'.f,by rw [zVC f2]; exact lv'.b,by simp; omega,fun j q0 q1 q2=>by rw [zVC (by omega)]; exact lv'.fr j q0 q1 q2⟩
   obtain ⟨js,ejs,n1,n2,el⟩:∃ js,(zF Ts g).getD (.ref M'.length) = .ref js /\ js ≠ jf /\ js ≠ jb /\ (M' ++ [MO.lst ([]:List D)])[js]? = some (.lst ((src g).map tI)):=by
    rcases hs g with ⟨j,e,q1,q2,q3⟩ | ⟨e,q⟩
    ·have:=keep q3 q1 q2;exact ⟨j,by rw [e]; rfl,q1,q2,by rw [zVC (zU8.mp this).1]; exact this⟩
    ·have:=lv'.len;exact ⟨M'.length,by rw [e]; rfl,by omega,by omega,by rw [q]; simp⟩
   rw [ejs] at e2;rw [zBN];refine ⟨_,_,_,(show zAH (zBI (zC 2) (zC 5) (zAW zI)) [some (mD zA),x1,some (.ref jd),some (.ref jl),some (.ref jf),some (tI g),some (.ref jb),y7] M' = some ((src g).map tI,zDg (.dat (.ref js)) ((src g).map tI),M' ++ [.lst []]) by unfold zAH; rw [e2]; dsimp only; rw [zy el]),?_⟩;refine OkS.mono (zRI (jl:=jl) (k:=k) hne h1 h2 _ st' lvA el n1 n2 (hg' g hgm) (by omega) (by omega)) ?_;rintro o σ' M2 ⟨rfl,⟨y,rfl⟩,lv2,_,_⟩;refine ⟨⟨_,_,rfl⟩,us ++ [g],vs,by rw [hab]; simp,rfl,?_⟩;rw [hfold];exact ⟨lv2,fun g' hg''=>zFj _ (hg' g' hg'')⟩
 ·rintro σ M' ⟨⟨y5,y7,rfl⟩,us,vs,hab,hr,lv',hg'⟩;have:vs = []:=by cases vs with | nil=>rfl | cons _ _=>cases hr
  subst this;rw [zVp] at hab;subst hab;have keep:∀ {j:Nat} {u:MO},M0[j]? = some u -> j ≠ jf -> j ≠ jb -> M'[j]? = some u:=fun {j u} e q1 q2=>(lv'.fr j (zU8.mp e).1 q1 q2).trans e;exact ⟨.inl (keep hl l1 l2),rfl,⟨_,_,rfl⟩,lv'⟩
theorem zLp (k:Int) (st:Fd) (p t:List Int):zF (zAe k st p).1 t = (if (zF st.1 t).isSome then zF st.1 t else if t = p then some (.int k) else none) /\ (t ∈ (zAe k st p).2 ↔ t ∈ st.2 \/ (zF st.1 t = none /\ t = p)):=by
 unfold zAe;by_cases h:(zF st.1 p).isSome = true
 ·rw [zVK h];constructor
  ·by_cases ht:(zF st.1 t).isSome = true
   ·rw [zVK ht]
   ·rw [zVN ht,zVN (fun z=>ht (by rw [z]; exact h))];cases e:zF st.1 t with
    | none=>rfl
    | some d=>rw [e] at ht; simp at ht
  ·constructor
   ·exact .inl
   ·rintro (q | ⟨q,rfl⟩)
    ·exact q
    ·rw [q] at h; cases h
 ·rw [zVN h];have hn:zF st.1 p = none:=by
   cases e:zF st.1 p with
   | none=>rfl
   | some d=>rw [e] at h; simp at h
  constructor
  ·show zF (zBa st.1 p (.int k)) t = _;rw [zDN];by_cases ht:p = t
   ·subst ht;rw [zVK rfl,zVN h,zVK rfl]
   ·rw [zVN ht];by_cases hs:(zF st.1 t).isSome = true
    ·rw [zVK hs]
    ·rw [zVN hs,zVN (fun z=>ht z.symm)];cases e:zF st.1 t with
     | none=>rfl
     | some d=>rw [e] at hs; simp at hs
  ·show t ∈ st.2 ++ [p] ↔ _;rw [zVV,zVX];constructor
   ·rintro (q | rfl)
    ·exact .inl q
    ·exact .inr ⟨hn,rfl⟩
   ·rintro (q | ⟨_,q⟩)
    ·exact .inl q
    ·exact .inr q
theorem zFo (k:Int):∀ (ps:List (List Int)) (st:Fd) (t:List Int),zF (ps.foldl (zAe k) st).1 t = (if (zF st.1 t).isSome then zF st.1 t else if t ∈ ps then some (.int k) else none) /\ (t ∈ (ps.foldl (zAe k) st).2 ↔ t ∈ st.2 \/ (zF st.1 t = none /\ t ∈ ps))
 | [],st,t=>by
  constructor
  ·by_cases h:(zF st.1 t).isSome = true
   ·rw [zVK h]; rfl
   ·rw [zVN h,zVN (by simp)];cases e:zF st.1 t with
    | none=>exact e
    | some d=>rw [e] at h; simp at h
  ·simp
 | p :: r,st,t=>by
  obtain ⟨a1,a2⟩:=zLp k st p t;obtain ⟨b1,b2⟩:=zFo k r (zAe k st p) t;rw [List.foldl_cons,b1,b2,a2,a1];by_cases h:(zF st.1 t).isSome = true
  ·rw [zVK h,zVK h,zVK h];refine ⟨rfl,?_⟩;have hn:¬ zF st.1 t = none:=fun z=>by rw [z] at h; cases h
   simp [hn]
  ·have hn:zF st.1 t = none:=by
    cases e:zF st.1 t with
    | none=>rfl
    | some d=>rw [e] at h; simp at h
   rw [zVN h,zVN h];by_cases hp:t = p
   ·rw [zVK hp];refine ⟨?_,?_⟩
    ·rw [zVK (show (some (D.int k)).isSome = true from rfl),zVK (by rw [hp]; exact zVJ)]
    ·simp [hn,hp]
   ·rw [zVN hp];refine ⟨?_,?_⟩
    ·rw [zVN (by simp)];by_cases hr:t ∈ r
     ·rw [zVK hr,zVK (zVI _ hr)]
     ·rw [zVN hr,zVN (by simp [hp,hr])]
    ·simp [hn,hp]
theorem zHE (src:List Int -> List (List Int)) (k:Int) (gs:List (List Int)) (st:Fd) (t:List Int):zF (zBD src k gs st).1 t = (if (zF st.1 t).isSome then zF st.1 t else if t ∈ gs.flatMap src then some (.int (k + 1)) else none) /\ (t ∈ (zBD src k gs st).2 ↔ t ∈ st.2 \/ (zF st.1 t = none /\ t ∈ gs.flatMap src)):=by
 have:∀ (gs:List (List Int)) (st:Fd),zBD src k gs st = (gs.flatMap src).foldl (zAe (k + 1)) st:=by
  intro gs;induction gs with
  | nil=>intro st; rfl
  | cons g r ih=>
   intro st;show zBD src k r ((src g).foldl (zAe (k + 1)) st) = _;rw [ih,List.flatMap_cons,List.foldl_append]
 rw [this gs st];exact zFo (k + 1) (gs.flatMap src) st t
def Rch (zA:List (List Int)) (l:Nat) (G:List Int -> Prop) (t:List Int) (n:Nat):Prop:=∃ w:List Int,w.length = n /\ (∀ x ∈ w,0 <= x /\ x < (l:Int)) /\ G (zTy zA t w)
def Dst (zA:List (List Int)) (l:Nat) (G:List Int -> Prop) (t:List Int) (n:Nat):Prop:=Rch zA l G t n /\ ∀ m,m < n -> ¬ Rch zA l G t m
theorem zC2:Rch zA l G t (n + 1) ↔ ∃ x:Int,(0 <= x /\ x < (l:Int)) /\ Rch zA l G (setR zA t x) n:=by
 constructor
 ·rintro ⟨w,hw,hb,hl⟩;cases w with
  | nil=>cases hw
  | cons x w=>exact ⟨x,hb x zVJ,w,by simpa using hw,fun y hy=>hb y (zVI _ hy),hl⟩
 ·rintro ⟨x,hx,w,hw,hb,hl⟩;exact ⟨x :: w,by simp [hw],fun y hy=>by rcases zVH.mp hy with rfl | q; exact hx; exact hb y q,hl⟩
theorem zI6:Rch zA l G t 0 ↔ G t:=by
 constructor
 ·rintro ⟨w,hw,_,hl⟩;have:w = []:=List.length_eq_zero_iff.mp hw;subst this; exact hl
 ·intro h; exact ⟨[],rfl,(fun _ h=>by cases h),h⟩
theorem zEO:Dst zA l G t 0 ↔ G t:=by
 unfold Dst;rw [zI6];exact ⟨fun h=>h.1,fun h=>⟨h,fun m hm=>by omega⟩⟩
theorem zDK:Dst zA l G t (n + 1) ↔ (∀ m,m <= n -> ¬ Rch zA l G t m) /\ ∃ x:Int,(0 <= x /\ x < (l:Int)) /\ Dst zA l G (setR zA t x) n:=by
 constructor
 ·rintro ⟨h1,h2⟩;obtain ⟨x,hx,hr⟩:=zC2.mp h1;exact ⟨fun m hm=>h2 m (by omega),x,hx,hr,fun m hm hq=>h2 (m + 1) (by omega) (zC2.mpr ⟨x,hx,hq⟩)⟩
 ·rintro ⟨h1,x,hx,hr,_⟩;exact ⟨zC2.mpr ⟨x,hx,hr⟩,fun m hm=>h1 m (by omega)⟩
theorem zGI:∀ n,Rch zA l G t n -> ∃ m,m <= n /\ Dst zA l G t m:=by
 intro n;induction n using Nat.strongRecOn with
 | ind n ih=>
  intro h;by_cases q:∃ m,m < n /\ Rch zA l G t m
  ·obtain ⟨m,hm,hr⟩:=q;obtain ⟨m',h1,h2⟩:=ih m hm hr;exact ⟨m',by omega,h2⟩
  ·exact ⟨n,zVB _,h,fun m hm hr=>q ⟨m,hm,hr⟩⟩
theorem zDz (h1:Dst zA l G t a) (h2:Dst zA l G t b):a = b:=by
 rcases Nat.lt_trichotomy a b with q | q | q
 ·exact absurd h1.1 (h2.2 a q)
 ·exact q
 ·exact absurd h2.1 (h1.2 b q)
def zGD (zA:List (List Int)) (l:Nat) (G:List Int -> Prop) (U:List Int -> Prop) (k:Nat) (fd:List (List Int × D)) (lev:List (List Int)):Prop:=(∀ t d,zF fd t = some d ↔ U t /\ ∃ n:Nat,n <= k /\ Dst zA l G t n /\ d = .int (n:Int)) /\ ∀ t,t ∈ lev ↔ U t /\ Dst zA l G t k
theorem zEj (h:zGD zA l G U k fd lev) (u:U t):zF fd t = none ↔ ∀ m,m <= k -> ¬ Rch zA l G t m:=by
 constructor
 ·intro e m hm hr;obtain ⟨n,hn,hd⟩:=zGI m hr;rw [(h.1 t (.int (n:Int))).mpr ⟨u,n,by omega,hd,rfl⟩] at e;cases e
 ·intro q;cases e:zF fd t with
  | none=>rfl
  | some d=>
   obtain ⟨_,n,hn,hd,_⟩:=(h.1 t d).mp e;exact absurd hd.1 (q n hn)
theorem zMy {zA:List (List Int)} {l:Nat} {U P:List Int -> Prop} {src:List Int -> List (List Int)} (hs:∀ g t,t ∈ src g ↔ P t /\ ∃ x:Int,(0 <= x /\ x < (l:Int)) /\ setR zA t x = g) (hP:∀ t,P t -> U t) (hU:∀ t n,U t -> ¬ G t -> Rch zA l G t n -> P t) (hc:∀ t (x:Int),U t -> 0 <= x /\ x < (l:Int) -> U (setR zA t x))
  {k:Nat} {fd:List (List Int × D)} {lev:List (List Int)} (h:zGD zA l G U k fd lev):zGD zA l G U (k + 1) (zBD src (k:Int) lev (fd,[])).1 (zBD src (k:Int) lev (fd,[])).2:=by
 have key:∀ t,(zF fd t = none /\ t ∈ lev.flatMap src) ↔ U t /\ Dst zA l G t (k + 1):=by
  intro t;constructor
  ·rintro ⟨e,hm⟩;obtain ⟨g,hg,ht⟩:=List.mem_flatMap.mp hm;obtain ⟨p,x,hx,hq⟩:=(hs g t).mp ht;have u:=hP t p;refine ⟨u,zDK.mpr ⟨(zEj h u).mp e,x,hx,?_⟩⟩;rw [hq]; exact ((h.2 g).mp hg).2
  ·rintro ⟨u,hd⟩;obtain ⟨q,x,hx,hr⟩:=zDK.mp hd;refine ⟨(zEj h u).mpr q,List.mem_flatMap.mpr ⟨setR zA t x,(h.2 _).mpr ⟨hc t x u hx,hr⟩,(hs _ t).mpr ⟨hU t _ u ?_ hd.1,x,hx,rfl⟩⟩⟩;intro h1;exact q 0 (zVr _) (zI6.mpr h1)
 constructor
 ·intro t d;rw [(zHE src (k:Int) lev (fd,[]) t).1];show (if (zF fd t).isSome then zF fd t else if t ∈ lev.flatMap src then some (.int ((k:Int) + 1)) else none) = some d ↔ _;cases e:zF fd t with
  | some d'=>
   rw [zVK (show (some d').isSome = true from rfl)];obtain ⟨u,n,hn,hd,rfl⟩:=(h.1 t d').mp e;constructor
   ·intro z; cases z;exact ⟨u,n,by omega,hd,rfl⟩
   ·rintro ⟨_,m,_,hm,rfl⟩;rw [zDz hm hd]
  | none=>
   rw [zVN (by simp)];by_cases hm:t ∈ lev.flatMap src
   ·rw [zVK hm];obtain ⟨u,hd⟩:=(key t).mp ⟨e,hm⟩;constructor
    ·intro z; cases z;exact ⟨u,k + 1,zVB _,hd,by simp⟩
    ·rintro ⟨_,m,_,hm',rfl⟩;rw [zDz hm' hd]; simp
   ·rw [zVN hm];constructor
    ·intro z; cases z
    ·rintro ⟨u,m,hk,hd,rfl⟩;exfalso;by_cases hmk:m <= k
     ·exact (zEj h u).mp e m hmk hd.1
     ·have:m = k + 1:=by omega
      subst this;exact hm ((key t).mpr ⟨u,hd⟩).2
 ·intro t;rw [(zHE src (k:Int) lev (fd,[]) t).2];show t ∈ ([]:List (List Int)) \/ (zF fd t = none /\ t ∈ lev.flatMap src) ↔ _;rw [key t];simp
theorem zPD {zA:List (List Int)} {l:Nat} {G:List Int -> Prop} {U:List Int -> Prop} (hc:∀ t (x:Int),U t -> 0 <= x /\ x < (l:Int) -> U (setR zA t x)) {k:Nat} {fd:List (List Int × D)} (h:zGD zA l G U k fd []) (t:List Int) (d:D):zF fd t = some d ↔ U t /\ ∃ n:Nat,Dst zA l G t n /\ d = .int (n:Int):=by
 have far:∀ n t,U t -> ¬ Dst zA l G t (k + n):=by
  intro n;induction n with
  | zero=>intro t u hd; exact absurd ((h.2 t).mpr ⟨u,hd⟩) (by simp)
  | succ n ih=>
   intro t u hd;obtain ⟨_,x,hx,hr⟩:=zDK.mp (show Dst zA l G t ((k + n) + 1) from hd);exact ih _ (hc t x u hx) hr
 rw [h.1 t d];constructor
 ·rintro ⟨u,n,_,a,b⟩; exact ⟨u,n,a,b⟩
 ·rintro ⟨u,n,a,b⟩;refine ⟨u,n,?_,a,b⟩;by_cases q:n <= k
  ·exact q
  ·exfalso;have e:n = k + (n - k):=by omega
   rw [e] at a;exact far _ t u a
def Th (zA:List (List Int)) (t:List Int):Prop:=IsS zA t /\ t.length <= 2
def zCo (zA:List (List Int)) (l:Nat) (g:List Int):List (List Int):=zCU zA (zBx l (zX (zJ zA))) g
theorem zQ6 (g t:List Int):t ∈ zCo zA l g ↔ t ∈ zX (zJ zA) /\ ∃ x:Int,(0 <= x /\ x < (l:Int)) /\ setR zA t x = g:=by
 unfold zCo zCU zBx;simp only [zVM,zWG,List.mem_flatMap,zVj,zWI];constructor
 ·rintro ⟨q,⟨⟨p,hp,k,hk,rfl⟩,hq⟩,rfl⟩;exact ⟨hp,(k:Int),⟨by omega,by omega⟩,hq⟩
 ·rintro ⟨hp,x,⟨x0,x1⟩,hq⟩;refine ⟨(t,x),⟨⟨t,hp,x.toNat,by omega,?_⟩,hq⟩,rfl⟩;rw [show ((x.toNat:Nat):Int) = x by omega]
theorem zAP:x ∈ zJ zA ↔ 0 <= x /\ x < (zA.length:Int):=by
 unfold zJ;simp only [zVM,zVj];constructor
 ·rintro ⟨k,hk,rfl⟩; omega
 ·rintro ⟨h0,h1⟩; exact ⟨x.toNat,by omega,by omega⟩
theorem zFI (t:List Int) (h:t ∈ zX (zJ zA)):Th zA t:=by
 refine ⟨zLZ h,?_⟩;obtain ⟨a,b,rfl,_⟩:=zAt.mp h;exact zVB _
theorem zK4 (t:List Int) (h:Th zA t) (h1:t.length ≠ 1):t ∈ zX (zJ zA):=by
 obtain ⟨⟨pw,n0,hm⟩,h2⟩:=h;match t,pw,n0,hm,h1,h2 with
 | [a,b],pw,_,hm,_,_=>
  exact zAt.mpr ⟨a,b,rfl,zAP.mpr (hm a (by simp)),zAP.mpr (hm b (by simp)),by simpa using pw⟩
 | [a],_,_,_,h1,_=>exact absurd rfl h1
 | [],_,n0,_,_,_=>cases n0
 | _ :: _ :: _ :: _,_,_,_,_,h2=>simp at h2
theorem zDi (m:IsM zA l) (t:List Int) (x:Int) (h:Th zA t) (hx:0 <= x /\ x < (l:Int)):Th zA (setR zA t x):=by
 refine ⟨m.setR h.1 hx.1 hx.2,?_⟩;have:=zLd (t.map fun h=>zAa zA h x);rw [zVE] at this;exact zVW this h.2
def zFQ (zA:List (List Int)) (G:List Int -> Prop):Prop:=(∀ t,Th zA t -> t.length = 1 -> G t) \/ ∀ t,t.length = 1 -> ¬ G t
theorem zG3 (m:IsM zA l):∀ (w t:List Int),Th zA t -> t.length = 1 -> (∀ x ∈ w,0 <= x /\ x < (l:Int)) -> (zTy zA t w).length = 1
 | [],_,_,h,_=>h
 | x :: w,t,u,h,hw=>by
  have hx:=hw x zVJ;have u':=zDi m t x u hx;refine zG3 m w (setR zA t x) u' ?_ fun y hy=>hw y (zVI _ hy);have h1:=zLd (t.map fun h=>zAa zA h x);rw [zVE,h] at h1;have h2:=u'.1.n0;have h3:(setR zA t x).length <= 1:=h1;omega
theorem zMa (m:IsM zA l) (o:zFQ zA G) (t:List Int) (n:Nat) (u:Th zA t) (g:¬ G t) (r:Rch zA l G t n):t ∈ zX (zJ zA):=by
 refine zK4 t u fun h1=>?_;rcases o with o | o
 ·exact g (o t u h1)
 ·obtain ⟨w,_,hw,hg⟩:=r;exact o _ (zG3 m w t u h1 hw) hg
theorem zJl (m:IsM zA l) (o:zFQ zA G) (h:zGD zA l G (Th zA) k fd lev):zGD zA l G (Th zA) (k + 1) (zBD (zCo zA l) (k:Int) lev (fd,[])).1 (zBD (zCo zA l) (k:Int) lev (fd,[])).2 :=
 zMy (P:=fun t=>t ∈ zX (zJ zA)) zQ6 zFI (zMa m o) (zDi m) h
theorem zME (hts:∀ t,t ∈ ts ↔ Th zA t /\ G t) (h:∀ t d,zF fd t = some d ↔ t ∈ ts /\ d = .int 0):zGD zA l G (Th zA) 0 fd ts:=by
 have key:∀ t,t ∈ ts ↔ Th zA t /\ Dst zA l G t 0:=fun t=>by rw [zEO,hts]
 refine ⟨fun t d=>?_,key⟩;rw [h t d,key t];constructor
 ·rintro ⟨⟨a,b⟩,rfl⟩; exact ⟨a,0,zVB _,b,by simp⟩
 ·rintro ⟨a,n,hn,b,rfl⟩;have:n = 0:=by omega
  subst this;exact ⟨⟨a,b⟩,by simp⟩
abbrev One (t:List Int):Prop:=t.length = 1
theorem zN3 (t:List Int):t ∈ (zJ zA).map (fun r=>[r]) ↔ Th zA t /\ One t:=by
 rw [zVM];constructor
 ·rintro ⟨r,hr,rfl⟩;have:=zAP.mp hr;refine ⟨⟨⟨by simp,by simp,fun x hx=>?_⟩,by simp⟩,rfl⟩;rw [zVX] at hx;subst hx; exact this
 ·rintro ⟨⟨s,_⟩,h1⟩;obtain ⟨r,rfl⟩:=List.length_eq_one_iff.mp h1;exact ⟨r,zAP.mpr (s.mem r (by simp)),rfl⟩
theorem zPe:zFQ zA One:=.inl fun _ _ h=>h
theorem whole (m:IsM zA l) (h:zGD zA l G (Th zA) k fd []) (t:List Int) (d:D):zF fd t = some d ↔ Th zA t /\ ∃ n:Nat,Dst zA l G t n /\ d = .int (n:Int):=zPD (zDi m) h t d
theorem zGp {α:Type} [DecidableEq α]:∀ (xs ys:List α),xs.Nodup -> (∀ x ∈ xs,x ∈ ys) -> xs.length <= ys.length
 | [],_,_,_=>zVr _
 | x :: r,ys,h,hm=>by
  obtain ⟨h1,h2⟩:=List.nodup_cons.mp h;have hx:x ∈ ys:=hm x zVJ;have:=zGp r (ys.erase x) h2 fun y hy=>(List.mem_erase_of_ne (fun z=>h1 (by rw [<- z]; exact hy))).mpr (hm y (zVI _ hy));rw [List.length_erase_of_mem hx] at this;have:=List.length_pos_of_mem hx;simp only [zVc]; omega
theorem zC7:∀ {T:List (List Int × D)} {g:List Int},(zF T g).isSome = true ↔ g ∈ T.map (·.1)
 | [],g=>by simp [zF]
 | q :: r,g=>by
  unfold zF;by_cases h:q.1 = g
  ·simp [h]
  ·rw [zVN h,zC7 (T:=r)];simp only [zVO,zVH];constructor
   ·exact .inr
   ·rintro (z | z)
    ·exact absurd z.symm h
    ·exact z
structure Sz (n:Nat) (st:Fd):Prop where
 ks:(st.1.map (·.1)).Nodup
 nd:st.2.Nodup
 sub:∀ t ∈ st.2,t ∈ st.1.map (·.1)
 len:st.1.length = n + st.2.length
theorem zPh {n:Nat} {st:Fd} (k:Int) (p:List Int) (h:Sz n st):Sz n (zAe k st p):=by
 unfold zAe;by_cases q:(zF st.1 p).isSome = true
 ·rw [zVK q]; exact h
 ·rw [zVN q];have hn:zF st.1 p = none:=by
   cases e:zF st.1 p with
   | none=>rfl
   | some d=>rw [e] at q; simp at q
  have hk:p ∉ st.1.map (·.1):=fun z=>q (zC7.mpr z);have e:zBa st.1 p (.int k) = st.1 ++ [(p,.int k)]:=by unfold zBa; rw [hn]
  rw [e];refine ⟨?_,?_,?_,?_⟩
  ·show ((st.1 ++ [(p,D.int k)]).map (·.1)).Nodup;rw [zVx,zWJ];refine ⟨h.ks,by simp,fun a ha b hb=>?_⟩;simp at hb;subst hb;intro z; subst z; exact hk ha
  ·show (st.2 ++ [p]).Nodup;rw [zWJ];refine ⟨h.nd,by simp,fun a ha b hb=>?_⟩;simp at hb;subst hb;intro z; subst z; exact hk (h.sub _ ha)
  ·intro t ht;show t ∈ (st.1 ++ [(p,D.int k)]).map (·.1);rw [zVx,zVV];rcases zVV.mp (show t ∈ st.2 ++ [p] from ht) with z | z
   ·exact .inl (h.sub t z)
   ·right; simpa using z
  ·show (st.1 ++ [(p,D.int k)]).length = n + (st.2 ++ [p]).length;rw [zVL,zVL,h.len];simp; omega
theorem zFG (src:List Int -> List (List Int)) (k:Int):∀ (gs:List (List Int)) {st:Fd},Sz n st -> Sz n (zBD src k gs st)
 | [],st,h=>h
 | g :: r,st,h=>by
  show Sz n (zBD src k r ((src g).foldl (zAe (k + 1)) st));refine zFG src k r ?_;have:∀ (ps:List (List Int)) {st:Fd},Sz n st -> Sz n (ps.foldl (zAe (k + 1)) st):=by
   intro ps;induction ps with
   | nil=>intro st h; exact h
   | cons p ps ih=>intro st h; exact ih (zPh (k + 1) p h)
  exact this _ h
theorem zMw (k:Int) (st:Fd) (p:List Int):st.1.length <= (zAe k st p).1.length:=by
 unfold zAe;split
 ·exact zVB _
 ·show st.1.length <= (zBa st.1 p _).length;unfold zBa;cases zF st.1 p <;> simp
theorem zHP (src:List Int -> List (List Int)) (k:Int):∀ (gs:List (List Int)) (st:Fd),st.1.length <= (zBD src k gs st).1.length
 | [],st=>zVB _
 | g :: r,st=>by
  have h1:∀ (ps:List (List Int)) (st:Fd),st.1.length <= (ps.foldl (zAe (k + 1)) st).1.length:=by
   intro ps;induction ps with
   | nil=>intro st; exact zVB _
   | cons p ps ih=>intro st; exact zVW (zMw (k + 1) st p) (ih _)
  exact zVW (h1 (src g) st) (zHP src k r _)
theorem zEn (h:zGD zA l G (Th zA) k fd lev) (hk:(fd.map (·.1)).Nodup):fd.length <= zA.length + zA.length * zA.length:=by
 have hr:(zJ zA).length = zA.length:=by unfold zJ; simp
 have h1:=zGp (fd.map (·.1)) ((zJ zA).map (fun r=>[r]) ++ zX (zJ zA)) hk fun t ht=>by
  have hs:=zC7.mpr ht;cases e:zF fd t with
  | none=>rw [e] at hs; cases hs
  | some d=>
   obtain ⟨u,_⟩:=(h.1 t d).mp e;rw [zVV];by_cases h1:t.length = 1
   ·obtain ⟨r,rfl⟩:=List.length_eq_one_iff.mp h1;exact .inl (zVM.mpr ⟨r,zAP.mpr (u.1.mem r (by simp)),rfl⟩)
   ·exact .inr (zK4 t u h1)
 have h2:=zBk (zJ zA);rw [zVE,zVL,zVE,hr] at h1;rw [hr] at h2;omega
theorem zSW (h:f σ M = some (.dat (.ref j),M)) (hj:M[j]? = some (.lst xs)):zMt f σ M = some (!xs.isEmpty,M):=by
 unfold zMt; rw [h]; dsimp only; rw [zy hj]
theorem zQb (zA:List (List Int)) (l:Nat) (g:List Int):(zCo zA l g).length <= zA.length * zA.length * l:=by
 unfold zCo zCU;rw [zVE];refine zVW (List.length_filter_le _ _) ?_;rw [zFt];have:=zBk (zJ zA);have hr:(zJ zA).length = zA.length:=by unfold zJ; simp
 rw [hr] at this;exact Nat.mul_le_mul_right l this
theorem zOl (m:IsM zA l) (oa:zFQ zA G) (hR:zA.length <= 26) (hl:l <= 12) (h1:jf < M0.length) (hd:M0[jd]? = some (dT Ts)) (d1:jd ≠ jf) (hs:∀ g,(∃ j,zF Ts g = some (.ref j) /\ j ≠ jf /\ M0[j]? = some (.lst ((zCo zA l g).map tI))) \/ (zF Ts g = none /\ zCo zA l g = [])) (hf:M0[jf]? = some (dT fd)) (hv:M0[jl]? = some (.lst (lev.map tI))) (l1:jl ≠ jf) (inv:zGD zA l G (Th zA) 0 fd lev) (nk:(fd.map (·.1)).Nodup) (nl:lev.length <= fd.length) :
  OkS (zA9 (zMt (zC 3)) (zO (zx 6 (zAW zI)) (zO (zCQ (zAH (zC 3)) (gN 5) (zCQ (zAH (zBI (zC 2) (zC 5) (zAW zI))) (gN 7) (sIf (tst (fOp (zCN true) (zC 7) (zC 4))) (zO (zBT (fOp zAQ (fOp zAF (zC 4) (zC 5)) (fC (.int 1))) (zC 4) (zC 7)) (zAj (fM zAL (zC 6) (zD (toD (zC 7)) zI)))) zBM))) (zx 3 (zC 6)))) 1000 [some (mD zA),x1,some (.ref jd),some (.ref jl),some (.ref jf),y5,y6,y7] M0)
   fun o σ' M'=>o = .nx /\ (∃ y3 y5 y6 y7,σ' = [some (mD zA),x1,some (.ref jd),y3,some (.ref jf),y5,y6,y7]) /\ (∃ fd',M'[jf]? = some (dT fd') /\ fd'.length <= 702 /\ ∀ t d,zF fd' t = some d ↔ Th zA t /\ ∃ n:Nat,Dst zA l G t n /\ d = .int (n:Int)) /\ M0.length <= M'.length /\ ∀ j,j < M0.length -> j ≠ jf -> M'[j]? = M0[j]?:=by
 have hN:zA.length + zA.length * zA.length <= 702:=by
  have:=zWh hR hR;omega
 have hB:zA.length * zA.length * l <= 8112:=zWh (zWh hR hR) hl;refine zDS (I:=fun z σ M=>∃ (jl:Nat) (y5 y6 y7:Option D) (k:Nat) (fd:List (List Int × D)) (lev:List (List Int)),σ = [some (mD zA),x1,some (.ref jd),some (.ref jl),some (.ref jf),y5,y6,y7] /\ M[jf]? = some (dT fd) /\ M[jl]? = some (.lst (lev.map tI)) /\ jl ≠ jf /\ zGD zA l G (Th zA) k fd lev /\ (fd.map (·.1)).Nodup /\ lev.length <= fd.length /\ M0.length <= M.length /\ (∀ j,j < M0.length -> j ≠ jf -> M[j]? = M0[j]?) /\ z = (702 - fd.length) + (if lev.isEmpty then 0 else 1)) ?_ 1000 ((702 - fd.length) + (if lev.isEmpty then 0 else 1)) _ _ (by split <;> omega) ⟨jl,y5,y6,y7,0,fd,lev,rfl,hf,hv,l1,inv,nk,nl,zVB _,fun _ _ _=>rfl,rfl⟩;rintro z σ M ⟨jl,y5,y6,y7,k,fd,lev,rfl,hf,hv,l1,inv,nk,nl,hlen,fr,rfl⟩;have hfl:=zVW (zEn inv nk) hN;refine zE (M:=M) (a:=!(lev.map tI).isEmpty) (zSW rfl hv) ?_;cases lev with
 | nil=>
  exact ⟨rfl,⟨_,_,_,_,rfl⟩,⟨fd,hf,hfl,whole m inv⟩,hlen,fr⟩
 | cons g0 lev0=>
  show OkS (zO _ _ [some (mD zA),x1,some (.ref jd),some (.ref jl),some (.ref jf),y5,y6,y7] M) _;generalize hlv:g0 :: lev0 = lev at *;have hne0:lev.isEmpty = false:=by rw [<- hlv]; rfl
  rw [zK,zb];refine zE (M:=M) (a:=.fl []) (by unfold zAW zI; dsimp only; rw [zVK (zn (by simp))]) ?_;rw [zFD,zP,zK,zBN];have fl:=(zU8.mp hf).1;have vl:=(zU8.mp hv).1;have up:∀ {j:Nat},j < M.length -> (M ++ [MO.lst ([]:List D)])[j]? = M[j]?:=fun h=>zVC h;have dl:=(zU8.mp hd).1;refine ⟨_,_,_,(show zAH (zC 3) [some (mD zA),x1,some (.ref jd),some (.ref jl),some (.ref jf),y5,some (.ref M.length),y7] (M ++ [.lst []]) = some (lev.map tI,zDg (.dat (.ref jl)) (lev.map tI),M ++ [.lst []]) by
   unfold zAH;rw [show zC 3 [some (mD zA),x1,some (.ref jd),some (.ref jl),some (.ref jf),y5,some (.ref M.length),y7] (M ++ [.lst []]) = some (.dat (.ref jl),M ++ [.lst []]) from rfl];dsimp only; rw [zy ((up vl).trans hv)]),?_⟩
  have sz0:Sz fd.length (fd,([]:List (List Int))):=⟨nk,by simp,(fun t h=>by cases h),by simp⟩;have szw:Sz fd.length (zBD (zCo zA l) (k:Int) lev (fd,[])):=zFG _ _ lev sz0;have hflw:=zVW (zEn (zJl m oa inv) szw.ks) hN;refine OkS.mono (zPn (k:=(k:Int)) (src:=zCo zA l) (st:=(fd,[])) (Ts:=Ts) (by omega) (by simp; omega) (by simp) ((up (by omega)).trans ((fr _ dl d1).trans hd)) d1 (by omega) ((up vl).trans hv) l1 (by omega) ?_ 8112 (fun g _=>zVW (zQb zA l g) hB) ?_ 702 (by omega) (fun us vs e=>?_) ⟨(up fl).trans hf,by simp,zVB _,fun _ _ _ _=>rfl⟩) ?_
  ·intro g;rcases hs g with ⟨j,e,q1,q2⟩ | q
   ·have jl':=(zU8.mp q2).1;exact .inl ⟨j,e,q1,by omega,(up (by omega)).trans ((fr _ jl' q1).trans q2)⟩
   ·exact .inr q
  ·intro g hg;obtain ⟨u,hd'⟩:=(inv.2 g).mp hg;exact (inv.1 g _).mpr ⟨u,k,zVB _,hd',rfl⟩
  ·have h3:=zHP (zCo zA l) (k:Int) vs (zBD (zCo zA l) (k:Int) us (fd,[]));have h4:zBD (zCo zA l) (k:Int) vs (zBD (zCo zA l) (k:Int) us (fd,[])) = zBD (zCo zA l) (k:Int) lev (fd,[]):=by rw [e]; unfold zBD; rw [List.foldl_append]
   rw [h4] at h3;have h5:=(zFG (zCo zA l) (k:Int) us sz0).len;omega
  ·rintro o σ' M' ⟨rfl,⟨y5,y7,rfl⟩,lv⟩;rw [zP,zb];refine zE (M:=M') (a:=.dat (.ref M.length)) rfl ?_;rw [zL];have sz:Sz fd.length (zBD (zCo zA l) (k:Int) lev (fd,[])):=zFG _ _ lev ⟨nk,by simp,(fun t h=>by cases h),by simp⟩;have inv':=zJl m oa inv;generalize zBD (zCo zA l) (k:Int) lev (fd,[]) = st at lv sz inv';have hfl':=zVW (zEn inv' sz.ks) hN;have hsl:=sz.len;refine ⟨(702 - st.1.length) + (if st.2.isEmpty then 0 else 1),?_,M.length,y5,_,y7,k + 1,st.1,st.2,rfl,lv.f,lv.b,by omega,inv',sz.ks,by omega,?_,?_,rfl⟩
   ·rw [hne0];cases e:st.2 with
    | nil=>simp; omega
    | cons a r=>rw [e] at hsl; simp at hsl ⊢; omega
   ·have:=lv.len; simp at this; omega
   ·intro j hj hjf;rw [lv.fr j (by simp; omega) hjf (by omega),up (by omega)];exact fr j hj hjf
theorem zM0 {M:Mem} {ts:List (List Int)} (hf:f σ M = some (.dat (.ref jl),M)) (hj:M[jl]? = some (.lst (ts.map tI))) (nd:ts.Nodup) (hz:ts.length <= 80000) (hg:∀ a,gN i a (zAp own σ) = some ((zAp own σ).set i (some a))) (hs:∀ (a:D) M',zC i ((zAp own σ).set i (some a)) M' = some (.dat a,M')) :
  zCJ true own (zAH f) (gN i) zd (zC i) (fC (.int 0)) σ M = some (.dat (.ref M.length),M ++ [dT (ts.map fun t=>(t,.int 0))]):=by
 have hjl:=(zU8.mp hj).1;unfold zCJ zAH;rw [hf]; dsimp only;rw [zy hj]; dsimp only;have loop:∀ (r q:List (List Int)),q ++ r = ts -> zBp (gN i) zd (zC i) (fC (.int 0)) (zAp own σ) M.length (ts.map tI) (zDg (.dat (.ref jl)) (ts.map tI)) (r.map tI) (M ++ [dT (q.map fun t=>(t,.int 0))]) = some (M ++ [dT (ts.map fun t=>(t,.int 0))]):=by
  intro r;induction r with
  | nil=>intro q e; rw [zVp] at e; subst e; exact zG1 (.inl (by rw [zVC hjl]; exact hj))
  | cons x r ih=>
   intro q e;have hx:x ∉ q:=fun z=>by
    rw [<- e,zWJ] at nd;exact nd.2.2 x z x zVJ rfl
   have hl:q.length < 90000:=by have:=zWs List.length e; simp at this; omega
   have hk:zF (q.map fun t=>(t,D.int 0)) x = none:=by
    cases e2:zF (q.map fun t=>(t,D.int 0)) x with
    | none=>rfl
    | some d=>
     have:=zC7.mp (show (zF (q.map fun t=>(t,D.int 0)) x).isSome = true by rw [e2]; rfl);rw [zVT] at this;obtain ⟨y,hy,rfl⟩:=zVM.mp this;exact absurd hy hx
   have hgd:zAX (zDg (.dat (.ref jl)) (ts.map tI)) (ts.map tI) (M ++ [dT (q.map fun t=>(t,.int 0))]):=.inl (by rw [zVC hjl]; exact hj);rw [zVO,zKQ (σ1:=(zAp own σ).set i (some (tI x))) (k:=tI x) (v:=.int 0) (M':=M ++ [dT ((q ++ [x]).map fun t=>(t,.int 0))]) hgd (hg _) (hs _ _) rfl]
   ·exact ih (q ++ [x]) (by rw [<- e]; simp)
   ·rw [zGq (T:=q.map fun t=>(t,.int 0)) (by simp) (by rw [zVE]; exact hl)];unfold zBa;rw [hk];simp
 have:=loop ts [] rfl;rw [show zHW true = dT [] from rfl];rw [show (([]:List (List Int)).map fun t=>(t,D.int 0)) = [] from rfl] at this;rw [this]
theorem zGV {zA:List (List Int)} (m:IsM zA l) (oa:zFQ zA G) (hR:zA.length <= 26) (hl:l <= 12) {M:Mem} {ts:List (List Int)} (hj:M[jg]? = some (.lst (ts.map tI))) (nd:ts.Nodup) (hts:∀ t,t ∈ ts ↔ Th zA t /\ G t) (hz:ts.length <= 80000):Ok (zA4 [mD zA,.ref jg] M) fun d M'=>∃ jf,d = .ref jf /\ M.length <= jf /\ (∃ fd,M'[jf]? = some (dT fd) /\ fd.length <= 702 /\ ∀ t d,zF fd t = some d ↔ Th zA t /\ ∃ n:Nat,Dst zA l G t n /\ d = .int (n:Int)) /\ M.length <= M'.length /\ ∀ j,j < M.length -> M'[j]? = M[j]?:=by
 have hjl:=(zU8.mp hj).1;unfold zA4;rw [zAI];unfold zCj;show OkS (zO _ _ [some (mD zA),some (.ref jg),none,none,none,none,none,none] M) _;rw [zK,zb];refine zCd.mpr (zE (zAG rfl) (Ok.mono (zQs m (by omega) hl) ?_));rintro d M1 ⟨rfl,sr,h1,fr⟩;rw [zL,zP];refine zDr (d:=.ref jg) rfl ?_;show OkS (zO _ _ [some (mD zA),some (.ref jg),some (.ref M.length),some (.ref jg),none,none,none,none] M1) _;have hj1:=(fr _ hjl).trans hj;rw [zK,zb];refine zE (zM0 (jl:=jg) (ts:=ts) rfl hj1 nd hz (fun _=>rfl) (fun _ _=>rfl)) ?_;rw [zL,zP];show OkS (zO _ _ [some (mD zA),some (.ref jg),some (.ref M.length),some (.ref jg),some (.ref M1.length),none,none,none] _) _;obtain ⟨T,ed,hT,a1,a2,a3⟩:=sr.ex;have up:∀ {j:Nat} {u:MO},M1[j]? = some u -> (M1 ++ [dT (ts.map fun t=>(t,D.int 0))])[j]? = some u:=fun {j u} h=>by rw [zVC (zU8.mp h).1]; exact h
 have ed':=(zU8.mp ed).1;rw [zK];refine OkS.mono (zOl (jf:=M1.length) (jd:=M.length) (jl:=jg) (Ts:=T) (lev:=ts) (fd:=ts.map fun t=>(t,D.int 0)) m oa hR hl (by simp) (up ed) (by omega) ?_ (by simp) (up hj1) (by omega) (zME hts ?_) ?_ (by simp)) ?_
 ·intro g;cases e:zF T g with
  | none=>exact .inr ⟨rfl,a2 g e⟩
  | some d=>
   obtain ⟨j,rfl,q1,q2⟩:=a1 g d e;have:=(zU8.mp q2).1;exact .inl ⟨j,rfl,by omega,up q2⟩
 ·intro t d;have gen:∀ (ts:List (List Int)),zF (ts.map fun t=>(t,D.int 0)) t = some d ↔ t ∈ ts /\ d = .int 0:=by
   intro ts;induction ts with
   | nil=>simp [zF]
   | cons x r ih=>
    rw [zVO,zF];by_cases q:x = t
    ·subst q; simp [eq_comm]
    ·rw [zVN q,ih,zVH];constructor
     ·rintro ⟨z1,z2⟩; exact ⟨.inr z1,z2⟩
     ·rintro ⟨z1 | z1,z2⟩
      ·exact absurd z1.symm q
      ·exact ⟨z1,z2⟩
  exact gen _
 ·rw [zVT];rw [show ((fun (x:List Int × D)=>x.1) ∘ fun (t:List Int)=>(t,D.int 0)) = id from rfl,List.map_id];exact nd
 ·rintro o σ' M' ⟨rfl,⟨y3,y5,y6,y7,rfl⟩,⟨fd,e1,e2,e3⟩,hlen,fr'⟩;rw [zP];rw [zVL] at hlen fr';refine zAu (d:=.ref M1.length) rfl ⟨M1.length,rfl,by omega,⟨fd,e1,e2,e3⟩,by omega,fun j hj=>?_⟩;rw [fr' j (by omega) (by omega),zVC (by omega)];exact fr j hj
noncomputable def zEo:FS:=(zw (zR zA4 (zD (toD (zC 0)) (zD (toD (zj [1] (zr (zD (toD (fB zBQ (zQ (zC 0) zh))) zI)) (gN 1) zd (zCr (zD (toD (zC 1)) zI)))) zI))))
noncomputable def zBh:FF:=zBP 2 zEo
theorem zKX (m:IsM zA l) (hR:zA.length <= 26) (hl:l <= 12):Ok (zBh [mD zA] M) fun d M'=>∃ jf,d = .ref jf /\ M.length <= jf /\ (∃ fd,M'[jf]? = some (dT fd) /\ fd.length <= 702 /\ ∀ t d,zF fd t = some d ↔ Th zA t /\ ∃ n:Nat,Dst zA l One t n /\ d = .int (n:Int)) /\ M.length <= M'.length /\ ∀ j,j < M.length -> M'[j]? = M[j]?:=by
 unfold zBh;rw [zAI];unfold zEo;show OkS (zw _ [some (mD zA),none] M) _;have er:zr (zD (toD (fB zBQ (zQ (zC 0) zh))) zI) [some (mD zA),none] M = some ((List.range zA.length).map (fun (k:Nat)=>D.int k),none,M):=by
  rw [zBZ (j:=(zA.length:Int)) (zER rfl) (by omega) (by omega),zF5];rw [show (zA.length:Int).toNat = zA.length by omega]
 have ec:zj [1] (zr (zD (toD (fB zBQ (zQ (zC 0) zh))) zI)) (gN 1) zd (zCr (zD (toD (zC 1)) zI)) [some (mD zA),none] M = some (.fl ((List.range zA.length).map fun (k:Nat)=>tI [(k:Int)]),M) :=
  zA6 (List.range zA.length) (fun (k:Nat)=>D.int k) (fun (k:Nat)=>tI [(k:Int)]) er trivial (by rw [zW2]; omega) fun k _=>⟨_,rfl,rfl⟩
 have el:((List.range zA.length).map fun (k:Nat)=>tI [(k:Int)]) = ((zJ zA).map fun r=>[r]).map tI:=by
  unfold zJ; rw [zVT,zVT]; rfl
 rw [el] at ec;rw [zAU];refine zCd.mpr (zAY.mpr (zAT.mpr (zv.mpr ⟨_,rfl,?_⟩)));rw [zL];refine zAY.mpr (zAT.mpr (zE ec ?_));rw [zFD,zB2];refine Ok.mono (zGV m zPe hR hl (jg:=M.length) (ts:=(zJ zA).map fun r=>[r]) (by simp) ?_ zN3 ?_) ?_
 ·unfold zJ;rw [zVT];exact List.pairwise_map.mpr (List.Pairwise.imp (fun {a b} h z=>h (by simp at z; omega)) List.nodup_range)
 ·unfold zJ; simp; omega
 rintro d M' ⟨jf,rfl,h1,h2,h3,h4⟩;rw [zL];rw [zVL] at h1 h3 h4;refine ⟨jf,rfl,by omega,h2,by omega,fun j hj=>?_⟩;rw [h4 j (by omega),zVC hj]
end Lac
namespace Lac
open PySem PySem.Spec PyProof.Rows L2 L3 ST Law
theorem zEh (ha:a σ M = some (false,M)) (hb:b σ M = some (k,M)):zDy a b σ M = some (k,M):=by unfold zDy; rw [ha]; exact hb
theorem aC' {f:FE} {g:FA} {σ:Sd} {M M1 M2:Mem} {d:D} {ds:List D} (h:toD f σ M = some (d,M1)) (hg:g σ M1 = some (ds,M2)):zD (toD f) g σ M = some (d :: ds,M2):=by
 unfold zD; rw [h]; dsimp only; rw [hg]
theorem zLT (h:f σ M = some (.dat d,M)):toD f σ M = some (d,M):=by unfold toD; rw [h]
theorem zTN {M M1:Mem} (h:f σ M = some (.fl xs,M1)):toD f σ M = some (.ref M1.length,M1 ++ [.lst xs]):=by unfold toD; rw [h]
theorem zSK {g:FA} {σ:Sd} {M M1:Mem} {ds:List D} (h:g σ M = some (ds,M1)) (hz:ds.length <= 100000):zAW g σ M = some (.fl ds,M1):=by
 unfold zAW; rw [h]; dsimp only; rw [zVK (zn hz)]
theorem zO1 {g:FA} {σ:Sd} {M M1:Mem} {ds:List D} (h:g σ M = some (ds,M1)) (hz:ds.length <= 100000):zCr g σ M = some (.dat (.tup ds),M1):=by
 unfold zCr; rw [h]; dsimp only; rw [zVK (zn hz)]
theorem zQL (hf:f σ M = some (.dat (.int i),M)) (hg:g σ M = some (.dat (.int j),M)):fB zI4 (zQ f (zQ g zh)) σ M = some (.dat (.int (if j < i then j else i)),M):=by
 unfold fB zQ zh; rw [hf]; dsimp only; rw [hg]; rfl
theorem zP0 {f:FE} {σ:Sd} {M M1:Mem} {xs:List D} (h:f σ M = some (.fl xs,M1)):zAH f σ M = some (xs,none,M1):=by
 unfold zAH; rw [h]; rfl
theorem zMu (h1:M[n]? = some (.lst xs)) (h2:M[m]? = some (.lst ys)) (hz:xs.length + ys.length <= 90000):zDW (.dat (.ref n)) [.ref m] M = some (.non,M.set n (.lst (xs ++ ys))):=by
 unfold zDW; dsimp only; rw [h1,h2]; dsimp only; rw [zVK (zn (by omega))]
theorem zQc (hf:f σ M = some (.dat (.int i),M)) (hg:g σ M = some (.dat (.int j),M)):fB zI7 (zQ f (zQ g zh)) σ M = some (.dat (.int (if j > i then j else i)),M):=by
 unfold fB zQ zh; rw [hf]; dsimp only; rw [hg]; rfl
theorem zLG {m:FF} {a:FA} {σ:Sd} {M M1 M':Mem} {ds:List D} {d:D} (h:a σ M = some (ds,M1)) (hm:m ds M1 = some (d,M')):zR m a σ M = some (.dat d,M'):=by
 unfold zR; rw [h]; dsimp only; rw [hm]
noncomputable def zBn:FS:=(zO (zx 3 (zj [4] (zr (zD (toD (fB zBQ (zQ (fOp kIx (zC 0) (fC (.int 0))) zh))) zI)) (gN 4) zd (zR zA1 (zD (toD (zC 0)) (zD (toD (zC 1)) (zD (toD (zC 4)) zI))))))
  (zw (fB (zBl false) (zQ (zj [4,5] (zIO (zC 3)) (zFZ 4 5) (zBc (tst (fOp (zCN false) (zC 5) (zC 2))) (tst (fOp kEq (fOp zAF (zC 2) (zC 5)) (fOp zKC (fOp zAF (zC 2) (zC 1)) (fC (.int 1)))))) (zC 4)) zh))))
noncomputable def zp:FF:=zBP 6 zBn
noncomputable def zD3:FS:=(zO (zx 2 (zj [3] (zAH (zR zAh (zD (toD (zR zAf (zD (toD (zC 0)) zI))) zI))) (gN 3) (tst (fOp kGt (zBI (zC 1) (zC 3) (fC (.int 0))) (fC (.int 0)))) (zC 3)))
  (zw (zCJ true [3] (zAH (zC 2)) (gN 3) zd (zC 3) (zCr (zD (toD (fOp zAF (zC 1) (zC 3))) (zD (toD (zR zp (zD (toD (zC 0)) (zD (toD (zC 3)) (zD (toD (zC 1)) zI))))) zI))))))
noncomputable def zBJ:FF:=zBP 4 zD3
noncomputable def zHf:FS:=(zw (zR zBJ (zD (toD (zC 0)) (zD (toD (zR zBh (zD (toD (zC 0)) zI))) zI))))
noncomputable def zEK:FF:=zBP 1 zHf
theorem zG7 {α:Type} (hgd:zAX gd all M) (enc out:α -> D) (keep:α -> Bool):∀ (as:List α),(∀ a ∈ as,∃ σ1,g (enc a) σ = some σ1 /\ tc σ1 M = some (keep a,M) /\ (keep a = true -> te σ1 M = some (.dat (out a),M))) -> zAV g tc te σ all gd (as.map enc) M = some ((as.filter keep).map out,M)
 | [],_=>by
  rw [List.map_nil];unfold zAV;rw [zVK hgd]; rfl
 | a :: r,h=>by
  obtain ⟨σ1,e1,e2,e3⟩:=h a zVJ;have ih:=zG7 (σ:=σ) hgd enc out keep r fun b hb=>h b (zVI _ hb);rw [zVO];unfold zAV;rw [zVK hgd,e1];dsimp only;rw [e2];cases hk:keep a with
  | false=>
   dsimp only;rw [ih,List.filter_cons_of_neg (by simp [hk])]
  | true=>
   dsimp only;rw [show toD te σ1 M = some (out a,M) by unfold toD; rw [e3 hk]];dsimp only;rw [ih,List.filter_cons_of_pos hk];rfl
theorem zB8 {α:Type} {own:List Nat} {fi:FI} {g:FG} {tc:FT} {te:FE} {σ:Sd} {M M1:Mem} {gd:Option (Mem -> Prop)} (as:List α) (enc out:α -> D) (keep:α -> Bool) (hi:fi σ M = some (as.map enc,gd,M1)) (hgd:zAX gd (as.map enc) M1) (hz:as.length <= 100000)
  (he:∀ a ∈ as,∃ σ1,g (enc a) (zAp own σ) = some σ1 /\ tc σ1 M1 = some (keep a,M1) /\ (keep a = true -> te σ1 M1 = some (.dat (out a),M1))):zj own fi g tc te σ M = some (.fl ((as.filter keep).map out),M1) :=
 zU (zEQ.mpr ⟨_,_,_,hi,by rw [zVE]; exact zn hz,zE (zG7 hgd enc out keep as he) ⟨rfl,rfl⟩⟩)
theorem zRJ {f:FE} {σ:Sd} {M M1:Mem} {xs:List Int} (hf:f σ M = some (.fl (xs.map D.int),M1)) (hx:xs ≠ []):∃ b,fB (zBl false) (zQ f zh) σ M = some (.dat (.int b),M1) /\ b ∈ xs /\ ∀ y ∈ xs,b <= y:=by
 cases xs with
 | nil=>exact absurd rfl hx
 | cons x r=>
  obtain ⟨h1,h2⟩:=zBr false r x;refine ⟨zB5 false x r,?_,h1,fun y hy=>by simpa using h2 y hy⟩;unfold fB zQ zh;rw [hf];show zBl false [.fl ((x :: r).map D.int)] M1 = _;unfold zBl;dsimp only;rw [zBv]
def zNl (zA:List (List Int)) (l:Nat) (G:List Int -> Prop) (fd:List (List Int × D)):Prop:=∀ t d,zF fd t = some d ↔ Th zA t /\ ∃ n:Nat,Dst zA l G t n /\ d = .int (n:Int)
structure Fst (zA:List (List Int)) (l:Nat) (G:List Int -> Prop) (p:List Int) (n:Nat) (x:Int):Prop where
 x0:0 <= x
 x1:x < (l:Int)
 d:Dst zA l G (setR zA p x) n
 f:∀ y,0 <= y -> y < x -> ¬ Dst zA l G (setR zA p y) n
def isN (n:Nat):Option D -> Bool
 | some (.int v)=>decide (v = (n:Int))
 | _=>false
theorem zHu (sp:zNl zA l G fd) (u:Th zA t):isN n (zF fd t) = true ↔ Dst zA l G t n:=by
 constructor
 ·intro h;cases e:zF fd t with
  | none=>rw [e] at h; cases h
  | some d=>
   obtain ⟨_,k,hk,rfl⟩:=(sp t d).mp e;rw [e] at h;have:(k:Int) = (n:Int):=zV1 h;rw [show n = k by omega]; exact hk
 ·intro h;rw [(sp t _).mpr ⟨u,n,h,rfl⟩];exact zWD rfl
theorem eqE:kEq (.dat (.int a)) (.dat (.int b)) M = some (.dat (.bl (decide (a = b))),M):=zU (zMQ.mpr ⟨rfl,rfl⟩)
theorem zUY:zKC (.dat (.int a)) (.dat (.int b)) M = some (.dat (.int (a - b)),M):=rfl
theorem gtE:kGt (.dat (.int a)) (.dat (.int b)) M = some (.dat (.bl (decide (b < a))),M):=rfl
theorem zQq (ha:a σ M = some (true,M)) (hb:b σ M = some (k,M)):zBc a b σ M = some (k,M):=by unfold zBc; rw [ha]; exact hb
theorem zQr (ha:a σ M = some (false,M)):zBc a b σ M = some (false,M):=by unfold zBc; rw [ha]
theorem zOg {zA:List (List Int)} {l:Nat} {G:List Int -> Prop} (m:IsM zA l) (hR:zA.length <= 26) (hl:l <= 12) {M:Mem} {jf:Nat} {fd:List (List Int × D)} (hf:M[jf]? = some (dT fd)) (sp:zNl zA l G fd) {p:List Int} (u:Th zA p) {n:Nat} (hd:Dst zA l G p (n + 1)) :
  Ok (zp [mD zA,tI p,.ref jf] M) fun d M'=>∃ x:Int,d = .int x /\ Fst zA l G p n x /\ ∃ us,M' = M ++ us:=by
 unfold zp;rw [zAI];unfold zBn;show OkS (zO _ _ [some (mD zA),some (tI p),some (.ref jf),none,none,none] M) _;have hfl:=(zU8.mp hf).1;have er:=zHB (σ:=[some (mD zA),some (tI p),some (.ref jf),none,none,none]) (M:=M) (zFJ m (f:=zC 0) rfl) (by omega) (by omega);rw [show (l:Int).toNat = l by omega] at er;have ec:=zA6 (own:=[4]) (g:=gN 4) (te:=zR zA1 (zD (toD (zC 0)) (zD (toD (zC 1)) (zD (toD (zC 4)) zI)))) (List.range l) (fun (k:Nat)=>D.int k) (fun (k:Nat)=>tI (setR zA p (k:Int))) er trivial (by rw [zW2]; omega) fun k hk=>⟨_,rfl,zAq (zAd (d:=mD zA) rfl (zAd (d:=tI p) rfl (zAG (d:=.int (k:Int)) rfl))) (zK3 m (by omega) u.1 (by omega) (by have:=zVj.mp hk; omega))⟩;rw [zK,zb];refine zE ec (zu ?_);rw [zP];show OkS (zw _ [some (mD zA),some (tI p),some (.ref jf),some (.ref M.length),none,none] (M ++ [.lst ((List.range l).map fun (k:Nat)=>tI (setR zA p (k:Int)))])) _;generalize hA:M ++ [MO.lst ((List.range l).map fun (k:Nat)=>tI (setR zA p (k:Int)))] = A;have a1:A[M.length]? = some (.lst ((List.range l).map fun (k:Nat)=>tI (setR zA p (k:Int)))):=by rw [<- hA]; simp
 have a2:A[jf]? = some (dT fd):=by rw [<- hA,zVC hfl]; exact hf
 have hen:zIO (zC 3) [some (mD zA),some (tI p),some (.ref jf),some (.ref M.length),none,none] A = some ((List.range l).map (fun (k:Nat)=>D.tup [.int (k:Nat),tI (setR zA p (k:Int))]),zDg (.dat (.ref M.length)) ((List.range l).map fun (k:Nat)=>tI (setR zA p (k:Int))),A):=by
  unfold zIO;rw [show zC 3 [some (mD zA),some (tI p),some (.ref jf),some (.ref M.length),none,none] A = some (.dat (.ref M.length),A) from rfl];dsimp only;rw [zy a1];dsimp only;congr 2;unfold zJr;rw [zVE,zW2];apply List.ext_getElem?;intro i;by_cases hi:i < l
  ·rw [zVS,zVS,List.zip_eq_zipWith,List.getElem?_zipWith,zVS,List.getElem?_range hi];rfl
  ·rw [List.getElem?_eq_none (by simp; omega),List.getElem?_eq_none (by simp; omega)]
 have lp:zF fd p = some (.int ((n + 1:Nat):Int)):=(sp p _).mpr ⟨u,n + 1,hd,rfl⟩;have ef:=zB8 (own:=[4,5]) (g:=zFZ 4 5) (tc:=zBc (tst (fOp (zCN false) (zC 5) (zC 2))) (tst (fOp kEq (fOp zAF (zC 2) (zC 5)) (fOp zKC (fOp zAF (zC 2) (zC 1)) (fC (.int 1)))))) (te:=zC 4) (List.range l) _ (fun (k:Nat)=>D.int (k:Int)) (fun (k:Nat)=>isN n (zF fd (setR zA p (k:Int)))) hen (.inl a1) (by rw [zW2]; omega) (fun k hk=>by
  have u':=zDi m p (k:Int) u ⟨by omega,by have:=zVj.mp hk; omega⟩;refine ⟨[some (mD zA),some (tI p),some (.ref jf),some (.ref M.length),some (.int (k:Int)),some (tI (setR zA p (k:Int)))],rfl,?_,fun _=>rfl⟩;have e1:fOp (zCN false) (zC 5) (zC 2) [some (mD zA),some (tI p),some (.ref jf),some (.ref M.length),some (.int (k:Int)),some (tI (setR zA p (k:Int)))] A = _:=zM (x:=.dat (tI (setR zA p (k:Int)))) (y:=.dat (.ref jf)) rfl rfl (zQy a2);rw [zVN (by decide)] at e1;cases e:zF fd (setR zA p (k:Int)) with
  | none=>
   rw [e] at e1;exact zQr (zAN e1)
  | some d=>
   obtain ⟨_,v,_,rfl⟩:=(sp _ d).mp e;rw [e] at e1;refine zQq (zAN e1) (zAN ?_);refine zM (x:=.dat (.int (v:Int))) (y:=.dat (.int (((n + 1:Nat):Int) - 1))) (zM (x:=.dat (.ref jf)) (y:=.dat (tI (setR zA p (k:Int)))) rfl rfl (zFc a2 e)) (zM (x:=.dat (.int ((n + 1:Nat):Int))) (y:=.dat (.int 1)) (zM (x:=.dat (.ref jf)) (y:=.dat (tI p)) rfl rfl (zFc a2 lp)) rfl zUY) ?_;rw [eqE];unfold isN;congr 5;exact propext ⟨fun h=>by omega,fun h=>by omega⟩)
 rw [show ((List.range l).filter fun (k:Nat)=>isN n (zF fd (setR zA p (k:Int)))).map (fun (k:Nat)=>D.int (k:Int)) = (((List.range l).filter fun (k:Nat)=>isN n (zF fd (setR zA p (k:Int)))).map fun (k:Nat)=>(k:Int)).map D.int by rw [zVT]; rfl] at ef;obtain ⟨b,eb,hb1,hb2⟩:=zRJ ef (by
  obtain ⟨_,x,hx,hr⟩:=zDK.mp hd;have:((x.toNat:Nat):Int) ∈ ((List.range l).filter fun (k:Nat)=>isN n (zF fd (setR zA p (k:Int)))).map fun (k:Nat)=>(k:Int):=zVM.mpr ⟨x.toNat,zWG.mpr ⟨zVj.mpr (by omega),by rw [show ((x.toNat:Nat):Int) = x by omega]; exact (zHu sp (zDi m p x u hx)).mpr hr⟩,rfl⟩;exact List.ne_nil_of_mem this)
 obtain ⟨k,hk,rfl⟩:=zVM.mp hb1;obtain ⟨k1,k2⟩:=zWG.mp hk;have k3:=zVj.mp k1;refine zAu eb ⟨(k:Int),rfl,⟨by omega,by omega,(zHu sp (zDi m p _ u ⟨by omega,by omega⟩)).mp k2,fun y y0 y1 hy=>?_⟩,_,hA.symm⟩;have:=hb2 y (zVM.mpr ⟨y.toNat,zWG.mpr ⟨zVj.mpr (by omega),by rw [show ((y.toNat:Nat):Int) = y by omega]; exact (zHu sp (zDi m p y u ⟨y0,by omega⟩)).mpr hy⟩,by omega⟩);omega
theorem zKN (a:Fst zA l G p n x) (b:Fst zA l G p n y):x = y:=by
 rcases Int.lt_trichotomy x y with q | q | q
 ·exact absurd a.d (b.f x a.x0 q)
 ·exact q
 ·exact absurd b.d (a.f y b.x0 q)
open Classical in
noncomputable def zBy (zA:List (List Int)) (l:Nat) (G:List Int -> Prop) (t:List Int):Nat:=if h:∃ n,Dst zA l G t n then Classical.choose h else 0
open Classical in
noncomputable def zC9 (zA:List (List Int)) (l:Nat) (G:List Int -> Prop) (t:List Int):Int:=if h:∃ x,Fst zA l G t (zBy zA l G t - 1) x then Classical.choose h else 0
theorem zCC (h:Dst zA l G t n):zBy zA l G t = n:=by
 unfold zBy;have hx:∃ n,Dst zA l G t n:=⟨n,h⟩;rw [dif_pos hx];exact zDz (Classical.choose_spec hx) h
theorem zIe (h:0 < zBy zA l G t):Dst zA l G t (zBy zA l G t):=by
 by_cases hx:∃ n,Dst zA l G t n
 ·obtain ⟨n,hn⟩:=hx;rw [zCC hn]; exact hn
 ·unfold zBy at h;rw [dif_neg hx] at h;omega
theorem zKy (hd:Dst zA l G t (n + 1)) (h:Fst zA l G t n x):zC9 zA l G t = x:=by
 unfold zC9;rw [zCC hd];have hx:∃ x,Fst zA l G t (n + 1 - 1) x:=⟨x,h⟩;rw [dif_pos hx];exact zKN (Classical.choose_spec hx) h
noncomputable def zLR (zA:List (List Int)) (l:Nat) (G:List Int -> Prop) (t:List Int):Bool:=decide (0 < zBy zA l G t)
noncomputable def zO2 (zA:List (List Int)) (l:Nat) (G:List Int -> Prop) (t:List Int):D:=.tup [.int (zBy zA l G t:Nat),.int (zC9 zA l G t)]
noncomputable def zf (zA:List (List Int)) (l:Nat) (G:List Int -> Prop):List (List Int):=(zX (zJ zA)).filter (zLR zA l G)
noncomputable def zE0 (zA:List (List Int)) (l:Nat) (G:List Int -> Prop):List (List Int × D):=(zf zA l G).map fun p=>(p,zO2 zA l G p)
theorem zC3 {f:List Int -> D} {t:List Int}:∀ {ps:List (List Int)},zF (ps.map fun p=>(p,f p)) t = if t ∈ ps then some (f t) else none
 | []=>rfl
 | p :: r=>by
  rw [zVO,zF];by_cases h:p = t
  ·subst h; rw [zVK rfl,zVK zVJ]
  ·rw [zVN h,zC3 (ps:=r)];by_cases hr:t ∈ r
   ·rw [zVK hr,zVK (zVI _ hr)]
   ·rw [zVN hr,zVN (by simp [hr,Ne.symm h])]
theorem zHg (h:g ∉ T.map (·.1)):zBa T g v = T ++ [(g,v)]:=by
 unfold zBa;cases e:zF T g with
 | none=>rfl
 | some d=>exact absurd (zC7.mp (show (zF T g).isSome = true by rw [e]; rfl)) h
theorem zD7 (h:xs.Nodup):(zX xs).Nodup:=by
 have gen:∀ r:List Int,r.Nodup -> (r.flatMap fun a=>(xs.filter fun b=>decide (a < b)).map fun b=>[a,b]).Nodup:=by
  intro r;induction r with
  | nil=>intro _; simp
  | cons a r ih=>
   intro hr;obtain ⟨h1,h2⟩:=List.nodup_cons.mp hr;rw [List.flatMap_cons,zWJ];refine ⟨?_,ih h2,fun u hu v hv=>?_⟩
   ·refine List.pairwise_map.mpr (List.Pairwise.imp (fun {x y} q z=>q (by simpa using z)) (List.Pairwise.filter _ h))
   ·obtain ⟨b,_,rfl⟩:=zVM.mp hu;obtain ⟨c,hc,hv⟩:=List.mem_flatMap.mp hv;obtain ⟨d,_,rfl⟩:=zVM.mp hv;intro z;have:a = c:=by simpa using (zV9 z).1
    exact h1 (by rw [this]; exact hc)
 exact gen xs h
theorem zE1 (zA:List (List Int)):(zJ zA).Nodup:=by
 unfold zJ;exact List.pairwise_map.mpr (List.Pairwise.imp (fun {a b} h z=>h (by omega)) List.nodup_range)
theorem zBH:t ∈ zf zA l G ↔ t ∈ zX (zJ zA) /\ ∃ n,Dst zA l G t (n + 1):=by
 unfold zf zLR;rw [zWG];constructor
 ·rintro ⟨a,b⟩;have:=zIe (zV1 b);exact ⟨a,zBy zA l G t - 1,by rw [show zBy zA l G t - 1 + 1 = zBy zA l G t by have:=zV1 b; omega]; exact this⟩
 ·rintro ⟨a,n,h⟩;exact ⟨a,zWD (by rw [zCC h]; omega)⟩
theorem zRn (hf:f σ M = some (.dat (.ref n),M)) (hn:M[n]? = some (dT T)) (hg:g σ M = some (.dat (tI k),M)):zBI f g (fC c) σ M = some (.dat ((zF T k).getD c),M):=by
 unfold zBI;rw [show toD f σ M = some (.ref n,M) by unfold toD; rw [hf]];dsimp only;rw [hn];dsimp only;rw [show toD g σ M = some (tI k,M) by unfold toD; rw [hg]];dsimp only;rw [show toD (fC c) σ M = some (c,M) from rfl];dsimp only;rw [dgT hn]
theorem zL1 {own:List Nat} {i:Nat} {tv:FE} {σ:Sd} {M:Mem} {jl jk:Nat} {K:MO} {ts:List (List Int)} {val:List Int -> D} (hj:M[jl]? = some (.lst (ts.map tI))) (hk:M[jk]? = some K) (nd:ts.Nodup) (hz:ts.length <= 80000)
  (hg:∀ a,gN i a (zAp own σ) = some ((zAp own σ).set i (some a))) (hs:∀ (a:D) M',zC i ((zAp own σ).set i (some a)) M' = some (.dat a,M'))
  (hv:∀ t ∈ ts,∀ M':Mem,M'[jk]? = some K -> ∃ us,tv ((zAp own σ).set i (some (tI t))) M' = some (.dat (val t),M' ++ us)) {n:Nat} (hn:n = M.length) :
  ∃ us,zBp (gN i) zd (zC i) tv (zAp own σ) n (ts.map tI) (zDg (.dat (.ref jl)) (ts.map tI)) (ts.map tI) (M ++ [dT []]) = some (M ++ dT (ts.map fun t=>(t,val t)) :: us):=by
 subst hn;have hjl:=(zU8.mp hj).1;have hkl:=(zU8.mp hk).1;have loop:∀ (r q:List (List Int)) (ws:Mem),q ++ r = ts -> ∃ us,zBp (gN i) zd (zC i) tv (zAp own σ) M.length (ts.map tI) (zDg (.dat (.ref jl)) (ts.map tI)) (r.map tI) (M ++ dT (q.map fun t=>(t,val t)) :: ws) = some (M ++ dT (ts.map fun t=>(t,val t)) :: us):=by
  intro r;induction r with
  | nil=>
   intro q ws e;rw [zVp] at e; subst e;exact ⟨ws,zG1 (.inl (by rw [zVC hjl]; exact hj))⟩
  | cons x r ih=>
   intro q ws e;have hx:x ∉ q:=fun z=>by
    rw [<- e,zWJ] at nd;exact nd.2.2 x z x zVJ rfl
   have hl:q.length < 90000:=by have:=zWs List.length e; simp at this; omega
   obtain ⟨us,hu⟩:=hv x (by rw [<- e]; simp) (M ++ dT (q.map fun t=>(t,val t)) :: ws) (by rw [zVC hkl]; exact hk);obtain ⟨vs,hvs⟩:=ih (q ++ [x]) (ws ++ us) (by rw [<- e]; simp);refine ⟨vs,?_⟩;rw [<- hvs,zVO];have hgd:zAX (zDg (.dat (.ref jl)) (ts.map tI)) (ts.map tI) (M ++ dT (q.map fun t=>(t,val t)) :: ws):=.inl (by rw [zVC hjl]; exact hj);rw [zBp,zVK hgd,hg];dsimp only;rw [show zd ((zAp own σ).set i (some (tI x))) (M ++ dT (q.map fun t=>(t,val t)) :: ws) = some (true,M ++ dT (q.map fun t=>(t,val t)) :: ws) from rfl];dsimp only;rw [show toD (zC i) ((zAp own σ).set i (some (tI x))) (M ++ dT (q.map fun t=>(t,val t)) :: ws) = some (tI x,M ++ dT (q.map fun t=>(t,val t)) :: ws) by unfold toD; rw [hs]];dsimp only;rw [show toD tv ((zAp own σ).set i (some (tI x))) (M ++ dT (q.map fun t=>(t,val t)) :: ws) = some (val x,M ++ dT (q.map fun t=>(t,val t)) :: ws ++ us) by unfold toD; rw [hu]];dsimp only;rw [zGq (T:=q.map fun t=>(t,val t)) (by simp) (by rw [zVE]; exact hl),zHg (by rw [zVT]; simpa using hx)];dsimp only;congr 1;rw [zWB,List.set_append_right _ _ (zVB _)];simp
 exact loop ts [] [] rfl
theorem zIV {zA:List (List Int)} {l:Nat} {G:List Int -> Prop} (m:IsM zA l) (hR:zA.length <= 26) (hl:l <= 12) {M:Mem} {jf:Nat} {fd:List (List Int × D)} (hf:M[jf]? = some (dT fd)) (sp:zNl zA l G fd) :
  Ok (zBJ [mD zA,.ref jf] M) fun d M'=>∃ jr us,d = .ref jr /\ M' = M ++ us /\ M.length <= jr /\ M'[jr]? = some (dT (zE0 zA l G)):=by
 unfold zBJ;rw [zAI];unfold zD3;show OkS (zO _ _ [some (mD zA),some (.ref jf),none,none] M) _;have hfl:=(zU8.mp hf).1;have hrl:(zJ zA).length = zA.length:=by unfold zJ; simp
 have epr:=zJe (xs:=zJ zA) (by omega) (M:=M);have ei:zAH (zR zAh (zD (toD (zR zAf (zD (toD (zC 0)) zI))) zI)) [some (mD zA),some (.ref jf),none,none] M = _:=zK1 (zAG (d:=tI (zJ zA)) (zAq (zAG (d:=mD zA) rfl) (zJp (by omega)))) epr (zBV _ _);have hPl:(zX (zJ zA)).length <= 676:=by
  have h1:=zBk (zJ zA);rw [hrl] at h1;exact zVW h1 (zWh hR hR)
 generalize hA:M ++ [MO.lst ((zX (zJ zA)).map tI)] = A at ei;have a1:A[M.length]? = some (.lst ((zX (zJ zA)).map tI)):=by rw [<- hA]; simp
 have a2:A[jf]? = some (dT fd):=by rw [<- hA,zVC hfl]; exact hf
 have ef:=zB8 (own:=[3]) (g:=gN 3) (tc:=tst (fOp kGt (zBI (zC 1) (zC 3) (fC (.int 0))) (fC (.int 0)))) (te:=zC 3) (zX (zJ zA)) tI tI (zLR zA l G) ei (.inl a1) (by omega) (fun p hp=>by
  refine ⟨[some (mD zA),some (.ref jf),none,some (tI p)],rfl,zAN ?_,fun _=>rfl⟩;have e1:zBI (zC 1) (zC 3) (fC (.int 0)) [some (mD zA),some (.ref jf),none,some (tI p)] A = _:=zRn (k:=p) rfl a2 rfl;unfold zLR;cases e:zF fd p with
  | none=>
   rw [e] at e1;rw [zM (x:=.dat (.int 0)) (y:=.dat (.int 0)) e1 rfl gtE];have:¬ 0 < zBy zA l G p:=fun h=>by
    rw [(sp p _).mpr ⟨zFI p hp,_,zIe h,rfl⟩] at e;cases e
   rw [zVe this]; rfl
  | some d=>
   obtain ⟨_,v,hv,rfl⟩:=(sp _ d).mp e;rw [e] at e1;rw [zM (x:=.dat (.int (v:Int))) (y:=.dat (.int 0)) e1 rfl gtE,zCC hv];congr 5;exact propext ⟨fun h=>by omega,fun h=>by omega⟩)
 rw [zK,zb];refine zE ef (zu ?_);rw [zP];show OkS (zw _ [some (mD zA),some (.ref jf),some (.ref A.length),none] (A ++ [.lst ((zf zA l G).map tI)])) _;have nd:(zf zA l G).Nodup:=List.Pairwise.filter _ (zD7 (zE1 zA));have hrl2:(zf zA l G).length <= 676:=zVW (List.length_filter_le _ _) hPl;generalize hB:A ++ [MO.lst ((zf zA l G).map tI)] = B;have b1:B[A.length]? = some (.lst ((zf zA l G).map tI)):=by rw [<- hB]; simp
 have b2:B[jf]? = some (dT fd):=by rw [<- hB,zVC (zU8.mp a2).1]; exact a2
 obtain ⟨us,hu⟩:=zL1 (own:=[3]) (i:=3) (σ:=[some (mD zA),some (.ref jf),some (.ref A.length),none]) (tv:=zCr (zD (toD (fOp zAF (zC 1) (zC 3))) (zD (toD (zR zp (zD (toD (zC 0)) (zD (toD (zC 3)) (zD (toD (zC 1)) zI))))) zI))) (val:=zO2 zA l G) b1 b2 nd (by omega) (fun _=>rfl) (fun _ _=>rfl) (fun t ht M' hM=>by
  obtain ⟨ht1,n,hn⟩:=zBH.mp ht;obtain ⟨d,M2,e,x,rfl,fx,us,rfl⟩:=zOg m hR hl hM sp (zFI t ht1) hn;refine ⟨us,?_⟩;show zCr _ [some (mD zA),some (.ref jf),some (.ref A.length),some (tI t)] M' = _;have e1:fOp zAF (zC 1) (zC 3) [some (mD zA),some (.ref jf),some (.ref A.length),some (tI t)] M' = some (.dat (.int ((n + 1:Nat):Int)),M'):=zM (x:=.dat (.ref jf)) (y:=.dat (tI t)) rfl rfl (zFc hM ((sp t _).mpr ⟨zFI t ht1,n + 1,hn,rfl⟩));have e2:zR zp (zD (toD (zC 0)) (zD (toD (zC 3)) (zD (toD (zC 1)) zI))) [some (mD zA),some (.ref jf),some (.ref A.length),some (tI t)] M' = some (.dat (.int x),M' ++ us):=zAq (zAd (d:=mD zA) rfl (zAd (d:=tI t) rfl (zAG (d:=.ref jf) rfl))) e;rw [zO1 (aC' (zLT e1) (zRU e2)) (by simp)];unfold zO2;rw [zCC hn,zKy hn fx]) rfl
 have ed:zCJ true [3] (zAH (zC 2)) (gN 3) zd (zC 3) (zCr (zD (toD (fOp zAF (zC 1) (zC 3))) (zD (toD (zR zp (zD (toD (zC 0)) (zD (toD (zC 3)) (zD (toD (zC 1)) zI))))) zI))) [some (mD zA),some (.ref jf),some (.ref A.length),none] B = some (.dat (.ref B.length),B ++ dT (zE0 zA l G) :: us):=by
  unfold zCJ zAH;rw [show zC 2 [some (mD zA),some (.ref jf),some (.ref A.length),none] B = some (.dat (.ref A.length),B) from rfl];dsimp only;rw [zy b1];dsimp only;rw [show zHW true = dT [] from rfl,hu];rfl
 rw [zAU];refine zE ed ⟨B.length,[MO.lst ((zX (zJ zA)).map tI)] ++ ([MO.lst ((zf zA l G).map tI)] ++ dT (zE0 zA l G) :: us),rfl,by rw [<- hB,<- hA]; simp only [zWB],?_,by simp⟩;rw [<- hB,<- hA]; simp only [zVL]; omega
theorem zPF (m:IsM zA l) (hR:zA.length <= 26) (hl:l <= 12) :
  Ok (zEK [mD zA] M) fun d M'=>∃ jr,d = .ref jr /\ M.length <= jr /\ M'[jr]? = some (dT (zE0 zA l One)) /\ M.length <= M'.length /\ ∀ j,j < M.length -> M'[j]? = M[j]?:=by
 unfold zEK;rw [zAI];unfold zHf;show OkS (zw _ [some (mD zA)] M) _;obtain ⟨d,M1,e,jf,rfl,h1,⟨fd,h2,_,sp⟩,h3,h4⟩:=zKX m hR hl (M:=M);obtain ⟨d2,M2,e2,jr,us,rfl,rfl,q1,q2⟩:=zIV m hR hl h2 sp;rw [zAU];have ec:zR zBJ (zD (toD (zC 0)) (zD (toD (zR zBh (zD (toD (zC 0)) zI))) zI)) [some (mD zA)] M = some (.dat (.ref jr),M1 ++ us):=by
  exact zLG (aC' (zLT (d:=mD zA) rfl) (zRU (zAq (zAG (d:=mD zA) rfl) e))) e2
 refine zE ec ⟨jr,rfl,by omega,q2,by rw [zVL]; omega,fun j hj=>?_⟩;rw [zVC (by omega)]; exact h4 j hj
theorem zMx (hR:zA.length <= 26):(zX (zJ zA)).length <= 676:=by
 have h1:=zBk (zJ zA);have hrl:(zJ zA).length = zA.length:=by unfold zJ; simp
 rw [hrl] at h1;exact zVW h1 (zWh hR hR)
def zBU (a b:Int):List Int:=[if b < a then b else a,if b > a then b else a]
theorem zLl (a0:0 <= a) (a1:a < zA.length) (b0:0 <= b) (b1:b < zA.length) (ne:a ≠ b):zBU a b ∈ zX (zJ zA):=by
 unfold zBU;refine zAt.mpr ⟨_,_,rfl,zAP.mpr ?_,zAP.mpr ?_,?_⟩
 ·split <;> omega
 ·split <;> omega
 ·split <;> split <;> omega
theorem zOK (h:a ≠ b):(zBU a b).Pairwise (· < ·):=by
 unfold zBU;simp only [zXF,zVX,forall_eq,zVa,false_implies,implies_true,List.Pairwise.nil,and_true];split <;> split <;> omega
theorem zJY (h1:fv σ M = some (.dat v,M)) (h2:fo σ M = some (.dat (.ref n),M)) (h3:fi σ M = some (.dat k,M)) (h4:zDY M n k v = some M4) (q:P .nx σ M4):OkS (zBT fv fo fi σ M) P:=by
 refine ⟨.nx,σ,M4,?_,q⟩;unfold zBT toD;rw [h1]; dsimp only; rw [h2]; dsimp only; rw [h3]; dsimp only; rw [h4]
end Lac
namespace Lac
open PySem PySem.Spec PyProof.Rows L2 L3 ST Law
noncomputable def zDH:FS:=(zO (zx 1 (zAW zI))
  (zO (zCQ (zr (zD (toD (fB zBQ (zQ (zC 0) zh))) zI)) (gN 2) (zAj (fM zDW (zC 1) (zD (toD (zj [3] (zAH (fSl (zC 0) (zEH (fOp zAQ (zC 2) (fC (.int 1)))) zEq)) (gN 3) zd (zCr (zD (toD (fOp kIx (zC 0) (zC 2))) (zD (toD (zC 3)) zI))))) zI))))
  (zw (zC 1))))
noncomputable def zAz:FF:=zBP 4 zDH
noncomputable def zCc:FS:=(zO (zx 3 (fOp kIx (fOp kIx (zC 0) (fOp kIx (zC 1) (fC (.int 0)))) (zC 2)))
  (zO (zx 4 (fOp kIx (fOp kIx (zC 0) (fOp kIx (zC 1) (fC (.int 1)))) (zC 2)))
  (zw (zCr (zD (toD (fB zI4 (zQ (zC 3) (zQ (zC 4) zh)))) (zD (toD (fB zI7 (zQ (zC 3) (zQ (zC 4) zh)))) zI))))))
noncomputable def zBB:FF:=zEt (zBP 5 zCc)
theorem zJh {xs:List Int} (h:xs.Pairwise (· < ·)) (hi:i < xs.length):xs.filter (fun b=>decide (xs[i] < b)) = xs.drop (i + 1):=by
 have hg:=List.pairwise_iff_getElem.mp h;have h1:(xs.take (i + 1)).filter (fun b=>decide (xs[i] < b)) = []:=by
  rw [List.filter_eq_nil_iff];intro b hb;obtain ⟨j,hj,rfl⟩:=zW8 hb;rw [zWT] at hj;rw [List.getElem_take,zWI];rcases Nat.lt_or_ge j i with q | q
  ·have:=hg j i (by omega) hi q; omega
  ·have:j = i:=by omega
   subst this; omega
 have h2:(xs.drop (i + 1)).filter (fun b=>decide (xs[i] < b)) = xs.drop (i + 1):=by
  rw [List.filter_eq_self];intro b hb;obtain ⟨j,hj,rfl⟩:=zW8 hb;rw [zXY] at hj;rw [List.getElem_drop,zWI];exact hg i (i + 1 + j) hi (by omega) (by omega)
 have key:∀ f:Int -> Bool,(xs.take (i + 1)).filter f = [] -> (xs.drop (i + 1)).filter f = xs.drop (i + 1) -> xs.filter f = xs.drop (i + 1):=fun f a b=>by
  have:=List.filter_append (p:=f) (xs.take (i + 1)) (xs.drop (i + 1));rw [List.take_append_drop,a,b] at this;simpa using this
 exact key _ h1 h2
def zEN (xs:List Int) (k:Nat):List (List Int):=(List.range k).flatMap fun i=>(xs.drop (i + 1)).map fun b=>[xs.getD i 0,b]
theorem zMC {xs:List Int} (h:xs.Pairwise (· < ·)):zEN xs xs.length = zX xs:=by
 have e:zX xs = (List.range xs.length).flatMap fun i=>(xs.filter fun b=>decide (xs.getD i 0 < b)).map fun b=>[xs.getD i 0,b]:=by
  unfold zX;have:xs = (List.range xs.length).map fun i=>xs.getD i 0:=by
   have:=zGB (fun x:Int=>x) 0 xs;simpa using this.symm
  conv=>lhs; arg 2; rw [this]
  rw [List.flatMap_map]
 rw [e];unfold zEN;have:∀ i ∈ List.range xs.length,(xs.drop (i + 1)).map (fun b=>[xs.getD i 0,b]) = (xs.filter fun b=>decide (xs.getD i 0 < b)).map fun b=>[xs.getD i 0,b]:=fun i hi=>by
  have hi':=zVj.mp hi;rw [<- zJh h hi'];congr 2;funext b;rw [zVA,zU9 hi'];rfl
 rw [List.flatMap_def,List.flatMap_def,List.map_congr_left this]
theorem zQf (xs:List Int):∀ k,(zEN xs k).length <= k * xs.length:=by
 intro k;induction k with
 | zero=>simp [zEN]
 | succ k ih=>
  unfold zEN at ih ⊢;rw [List.range_succ,List.flatMap_append,zVL];simp only [List.flatMap_cons,List.flatMap_nil,zVp,zVE,zXY];rw [Nat.add_mul]; omega
theorem zNP {xs:List D} (hk:k <= xs.length):L3.zE4 xs (some (k:Int)) none = xs.drop k:=by
 have ha:HT.sIx xs.length 0 (some (k:Int)) = k:=by rw [HT.zQm]; omega
 unfold L3.zE4;rw [ha,show HT.sIx xs.length xs.length none = xs.length from rfl];exact List.take_of_length_le (by simp)
theorem zQn (n:Nat) (ps:List (List Int)):D.unds n (ps.map tI) = true:=by
 induction ps with
 | nil=>rfl
 | cons p r ih=>rw [zVO]; unfold D.unds; rw [ih,show D.und n (tI p) = true from zBR p]; rfl
theorem zHv (hj:M[j]? = some (.lst (xs.map D.int))) (hx:xs.Pairwise (· < ·)) (hz:xs.length <= 100) :
  Ok (zAz [.ref j] M) fun d M'=>d = .ref M.length /\ ∃ us:Mem,M' = M ++ .lst ((zX xs).map tI) :: us /\ ∀ u ∈ us,MO.und 0 u = true:=by
 have hjl:=(zU8.mp hj).1;unfold zAz;rw [zAI];unfold zDH;show OkS (zO _ _ [some (.ref j),none,none,none] M) _;rw [zK,zb];refine zE (M:=M) (a:=.fl []) (zSK rfl (by simp)) (zu ?_);rw [zP];show OkS (zO _ _ [some (.ref j),some (.ref M.length),none,none] (M ++ [.lst []])) _;have up:∀ us:Mem,(M ++ us)[j]? = some (.lst (xs.map D.int)):=fun us=>by rw [zVC hjl]; exact hj
 rw [zK,zBN];have el:=zF4 (f:=zC 0) (σ:=[some (.ref j),some (.ref M.length),none,none]) (M:=M ++ [.lst []]) (x:=.dat (.ref j)) rfl (zy (up _));rw [zVE] at el;refine ⟨_,_,_,zBZ el (by omega) (by omega),?_⟩;rw [show ((xs.length:Int)).toNat = xs.length by omega];refine zHx (n:=xs.length) (I:=fun k σ M'=>(∃ y2 y3,σ = [some (.ref j),some (.ref M.length),y2,y3]) /\ ∃ us:Mem,M' = M ++ .lst ((zEN xs k).map tI) :: us /\ ∀ u ∈ us,MO.und 0 u = true) ?_ ?_ _ _ ⟨⟨_,_,rfl⟩,[],by simp [zEN],(fun _ h=>by cases h)⟩
 ·rintro k σ M' hk ⟨⟨y2,y3,rfl⟩,us,rfl,hu⟩;refine ⟨_,rfl,?_⟩;show OkS (zAj _ [some (.ref j),some (.ref M.length),some (.int (k:Int)),y3] (M ++ .lst ((zEN xs k).map tI) :: us)) _;generalize hA:M ++ MO.lst ((zEN xs k).map tI) :: us = A;have a0:A[j]? = some (.lst (xs.map D.int)):=by rw [<- hA]; exact up _
  have a1:A[M.length]? = some (.lst ((zEN xs k).map tI)):=by rw [<- hA]; simp
  have al:M.length < A.length:=(zU8.mp a1).1;rw [zCS];have esl:fSl (zC 0) (zEH (fOp zAQ (zC 2) (fC (.int 1)))) zEq [some (.ref j),some (.ref M.length),some (.int (k:Int)),y3] A = some (.fl ((xs.drop (k + 1)).map D.int),A):=by
   refine zU (zRM.mpr (zE (a:=.dat (.ref j)) (M:=A) rfl (zJf.mpr (zE (a:=.dat (.int ((k + 1:Nat):Int))) (M:=A) rfl (zIm.mpr (zIT.mpr ?_))))));rw [zOZ (zAr a0) rfl,zNP (by rw [zVE]; omega),List.map_drop];exact ⟨rfl,rfl⟩
  have ec:=zA6 (own:=[3]) (g:=gN 3) (te:=zCr (zD (toD (fOp kIx (zC 0) (zC 2))) (zD (toD (zC 3)) zI))) (σ:=[some (.ref j),some (.ref M.length),some (.int (k:Int)),y3]) (M:=A) (xs.drop (k + 1)) D.int (fun b=>tI [xs.getD k 0,b]) (zP0 esl) trivial (by rw [zXY]; omega) fun b _=>⟨_,rfl,zO1 (zAd (zM (x:=.dat (.ref j)) (y:=.dat (.int (k:Int))) rfl rfl (zCM (zy a0) (zKx (by rw [zVS,zU9 hk,zVA,zU9 hk]; rfl)))) (zAG (d:=.int b) rfl)) (by simp)⟩;have htl:=zQf xs k;have hmul:k * xs.length <= 100 * 100:=zWh (by omega) hz;refine zKl.mpr (zE (a:=.dat (.ref M.length)) (M:=A) rfl ⟨⟨_,zAr a1⟩,zAY.mpr (zAT.mpr (zE ec (zu ?_)))⟩);rw [zB2];refine zE (zMu (n:=M.length) (m:=A.length) (xs:=(zEN xs k).map tI) (ys:=(xs.drop (k + 1)).map fun b=>tI [xs.getD k 0,b]) (by rw [zVC al]; exact a1) (zBV _ _) (by rw [zVE,zVE,zXY]; omega)) ?_;refine ⟨⟨_,_,rfl⟩,us ++ [.lst ((xs.drop (k + 1)).map fun b=>tI [xs.getD k 0,b])],?_,fun u hu'=>?_⟩
  ·rw [<- hA,zWB,List.set_append_right _ _ (zVB _)];have:(zEN xs (k + 1)).map tI = (zEN xs k).map tI ++ (xs.drop (k + 1)).map fun b=>tI [xs.getD k 0,b]:=by
    unfold zEN;rw [List.range_succ,List.flatMap_append,zVx];simp [zVT,Function.comp_def]
   rw [this];simp
  ·rcases zVV.mp hu' with q | q
   ·exact hu u q
   ·rw [zVX] at q; subst q;show D.unds 0 _ = true;rw [show (xs.drop (k + 1)).map (fun b=>tI [xs.getD k 0,b]) = ((xs.drop (k + 1)).map fun b=>[xs.getD k 0,b]).map tI by rw [zVT]; rfl];exact zQn 0 _
 ·rintro σ M' ⟨⟨y2,y3,rfl⟩,us,rfl,hu⟩;rw [zP];exact zAu (d:=.ref M.length) rfl ⟨rfl,us,by rw [zMC hx],hu⟩
theorem zL7 {zA:List (List Int)} {l:Nat} (m:IsM zA l) {a b x:Int} (a0:0 <= a) (a1:a < zA.length) (b0:0 <= b) (b1:b < zA.length) (x0:0 <= x) (x1:x < l) {M:Mem}:zBB [mD zA,tI [a,b],.int x] M = some (tI (zBU (zAa zA a x) (zAa zA b x)),M):=by
 refine zU ?_;unfold zBB;refine zFL ?_ ?_
 ·unfold D.unds D.unds D.unds D.unds;rw [zFP,show D.und 0 (tI [a,b]) = true from zBR _]; rfl
 rw [zAI];unfold zCc;show OkS (zO _ _ [some (mD zA),some (tI [a,b]),some (.int x),none,none] []) _;refine zDr (m.ix a0 a1 x0 x1 (f1:=zC 0) (f2:=fOp kIx (zC 1) (fC (.int 0))) (f3:=zC 2) rfl (zM (x:=.dat (tI [a,b])) (y:=.dat (.int 0)) rfl rfl (zCM zAM rfl)) rfl) ?_;refine zDr (m.ix b0 b1 x0 x1 (f1:=zC 0) (f2:=fOp kIx (zC 1) (fC (.int 1))) (f3:=zC 2) rfl (zM (x:=.dat (tI [a,b])) (y:=.dat (.int 1)) rfl rfl (zCM zAM rfl)) rfl) ?_;exact zAu (d:=tI (zBU (zAa zA a x) (zAa zA b x))) (zO1 (zAd (zQL (i:=zAa zA a x) (j:=zAa zA b x) rfl rfl) (zAG (zQc (i:=zAa zA a x) (j:=zAa zA b x) rfl rfl))) (by simp [zBU])) ⟨zBR _,rfl,rfl⟩
theorem zNF (h:p ≠ q):zBU p q = ris [p,q]:=by
 refine (zOJ (zOK h)).symm.trans (zLK fun x=>?_);unfold zBU;by_cases z:q < p
 ·rw [zVK z,zVN (by omega)]; simp [or_comm]
 ·rw [zVN z,zVK (by omega)]
end Lac
namespace Lac
open PySem PySem.Spec PyProof.Rows L2 L3 ST Law
theorem zNG {c r:Int} (c0:1 <= c) (r0:0 < r) (cr:c + r <= 28) {rest:FS} {τ:Sd} {P:Out -> Sd -> Mem -> Prop} {ns:List Int} (h:ns.length <= 63)
  (q:∀ zA l M,IsM zA l -> c <= (zA.length:Int) -> (zA.length:Int) < c + r -> zA.length <= 27 -> l <= 6 -> Gen M 2 1 -> M[0]? = some (.fro (ns.map D.int)) -> OkS (rest (some (.ref 0) :: some (.ref 2) :: some (mD zA) :: τ) M) P) :
  OkS (zO (zx 1 (zR zAx (zD (toD (zC 0)) zI))) (zO (zx 2 (zR zAb (zD (toD (zC 1)) (zD (toD (fOp zAQ (fC (.int c)) (zR zZ (zD (toD (zC 1)) (zD (toD (fC (.int r))) zI))))) (zD (toD (fOp zAQ (fC (.int 1)) (zR zZ (zD (toD (zC 1)) (zD (toD (fC (.int 6))) zI))))) zI))))) rest) (some (.ref 0) :: none :: none :: τ) [.fro (ns.map D.int)]) P:=by
 rw [zK,zb];refine zCd.mpr (zE (zAG rfl) ?_);refine Ok.mono (zOG h) ?_;rintro d M1 ⟨rfl,g1,e0,_⟩;rw [zL,zP,zK,zb];show Ok (zR _ _ (some (.ref 0) :: some (.ref 2) :: none :: τ) M1) _;refine zCd.mpr (zAY.mpr (zAT.mpr (zE (a:=.dat (.ref 2)) rfl ?_)));rw [zL];refine zAY.mpr (zAT.mpr (zAA.mpr (zE rfl (zAO g1 rfl rfl r0 (by omega) fun i M2 i0 i1 nx2=>zE (a:=.dat (.int (c + i))) rfl ?_))));rw [zL];refine zAY.mpr (zAT.mpr (zAA.mpr (zE rfl (zAO nx2.gen rfl rfl (by decide) (by decide) fun j M3 j0 j1 nx3=>zE (a:=.dat (.int (1 + j))) rfl ?_))));rw [zL,zB2];refine Ok.mono (zKH nx3.gen (by omega) (by omega) (by omega) (by omega)) ?_;rintro d M4 ⟨⟨zA,l,rfl,m,hR,hL⟩,nx4⟩;rw [zL,zP];have l3:0 < M3.length:=by rw [nx3.len,nx2.len]; exact (zU8.mp e0).1
 have e4:M4[0]? = some (.fro (ns.map D.int)):=(nx4.fr 0 l3 (by decide) (by decide)).trans ((nx3.fr 0 (by decide) (by decide)).trans ((nx2.fr 0 (by decide) (by decide)).trans e0));exact q zA l M4 m (by omega) (by omega) (by omega) (by omega) nx4.gen e4
theorem zKJ (hz:zA.length <= 1000) (hf:f σ M = some (.dat (.int zA.length),M)):zFn f σ M = some (.fl ((zJ zA).map D.int),M):=by
 refine zU (zPv (j:=(zA.length:Int)) hf (by omega) (by omega) ⟨?_,rfl⟩);unfold upD zJ;rw [zVT,show (zA.length:Int).toNat = zA.length by omega]; rfl
noncomputable def zDI:FS:=(zw (zL3 (zII "int" (zC 0)) (zNv (zII "bool" (zC 0)))))
noncomputable def zAg:FF:=zBP 1 zDI
noncomputable def zFS:FS:=(zw (fB zBm (zQ (zj [1,2,3] (zFV (zR zEK (zD (toD (zC 0)) zI))) (zK6 1 2 3) zd (zCr (zD (toD (zC 1)) (zD (toD (zC 2)) (zD (toD (zC 3)) zI))))) zh)))
noncomputable def zDB:FF:=zEt (zBP 4 zFS)
theorem zM5 (h:Vd M d):zAg [d] M = some (.bl (zPP d),M):=by
 obtain ⟨t,e,_,q⟩:=h.ty;unfold zAg zDI;refine zQU ?_;rw [<- q];exact zLe (zFu rfl e) fun _=>zRC (zFu rfl e)
theorem zMv (hf:f σ M = some (.dat (.int a),M)) (hg:g σ M = some (.dat (.int b),M)) (hh:h σ M = some (.dat (.int c),M)) (hi:i σ M = some (.dat (.int d),M)) :
  zDU kLe kLt kLt f g h i σ M = some (.dat (.bl (decide (a <= b) && decide (b < c) && decide (c < d))),M):=by
 unfold zDU;rw [hf]; dsimp only;rw [hg]; dsimp only;rw [show kLe (.dat (.int a)) (.dat (.int b)) M = some (.dat (.bl (decide (a <= b))),M) from rfl];cases decide (a <= b) with
 | false=>rfl
 | true=>
  dsimp only;rw [hh]; dsimp only;rw [show kLt (.dat (.int b)) (.dat (.int c)) M = some (.dat (.bl (decide (b < c))),M) from rfl];cases decide (b < c) with
  | false=>rfl
  | true=>dsimp only; rw [hi]; rfl
noncomputable def zBs (zA:List (List Int)) (l:Nat) (p:List Int):D:=.tup [tI p,.int (zBy zA l One p:Nat),.int (zC9 zA l One p)]
theorem zRA (zA:List (List Int)) (l:Nat) (ps:List (List Int)):D.und 0 (.tup (ps.map (zBs zA l))) = true:=by
 unfold D.und;induction ps with
 | nil=>rfl
 | cons p r ih=>
  rw [zVO];unfold D.unds;rw [ih];unfold zBs D.und D.unds D.unds D.unds D.unds;rw [show D.und 0 (tI p) = true from zBR _];rfl
theorem zJs (hR:zA.length <= 26):(zf zA l One).length <= 676:=zVW (List.length_filter_le _ _) (zMx hR)
theorem zPI {M M1:Mem} {T:List (List Int × D)} (ha:a σ M = some (ds,M)) (hg:g ds M = some (.ref jr,M1)) (hr:M1[jr]? = some (dT T)):zFV (zR g a) σ M = some (T.map (fun q=>D.tup [tI q.1,q.2]),none,M1.set jr (.set [])):=by
 unfold zFV;rw [zAq ha hg];dsimp only;rw [hr];show some ((zDk T).map (fun p=>D.tup [p.1,p.2]),_,_) = _;unfold zDk;rw [zVT]; rfl
theorem zLs {zA:List (List Int)} (m:IsM zA l) (hR:zA.length <= 26) (hl:l <= 12):zDB [mD zA] M = some (.tup ((zf zA l One).map (zBs zA l)),M):=by
 refine zU ?_;unfold zDB;refine zFL ?_ ?_
 ·unfold D.unds D.unds;rw [zFP]; rfl
 rw [zAI];unfold zFS;show OkS (zw _ [some (mD zA),none,none,none] []) _;obtain ⟨d,M1,e,jr,rfl,_,hr,_,_⟩:=zPF m hR hl (M:=[]);have ei:=zPI (σ:=[some (mD zA),none,none,none]) (zAG (f:=zC 0) (d:=mD zA) rfl) e hr;clear e;have ef:=zB8 (own:=[1,2,3]) (g:=zK6 1 2 3) (tc:=zd) (te:=zCr (zD (toD (zC 1)) (zD (toD (zC 2)) (zD (toD (zC 3)) zI)))) (zE0 zA l One) (fun q=>D.tup [tI q.1,q.2]) (fun q=>zBs zA l q.1) (fun _=>true) ei trivial (by have:=zJs (l:=l) hR; unfold zE0; rw [zVE]; omega) (fun q hq=>by
  obtain ⟨p,_,rfl⟩:=zVM.mp hq;exact ⟨[some (mD zA),some (tI p),some (.int (zBy zA l One p:Nat)),some (.int (zC9 zA l One p))],rfl,rfl,fun _=>zO1 (zAd (d:=tI p) rfl (zAd (d:=.int (zBy zA l One p:Nat)) rfl (zAG (d:=.int (zC9 zA l One p)) rfl))) (by simp)⟩)
 have hft:((zE0 zA l One).filter fun _=>true).map (fun q=>zBs zA l q.1) = (zf zA l One).map (zBs zA l):=by
  rw [List.filter_eq_self.mpr fun _ _=>rfl];unfold zE0;rw [zVT]; rfl
 rw [hft] at ef;rw [zAU];refine zQt.mpr (zD9.mpr (zE ef (zFM.mpr ((zLX zEl).mpr ?_))));rw [zL];exact ⟨zRA _ _ _,rfl,rfl⟩
noncomputable def zD6:FS:=(zO (sIf (zDy (zD8 (tst (zII "tuple" (zC 1)))) (zDy (tst (fOp kNe (fB zBQ (zQ (zC 1) zh)) (fC (.int 3)))) (zDy (zD8 (tst (zII "tuple" (fOp kIx (zC 1) (fC (.int 0)))))) (tst (fOp kNe (fB zBQ (zQ (fOp kIx (zC 1) (fC (.int 0))) zh)) (fC (.int 2))))))) (zw (fC (.bl false))) zBM)
  (zO (zOQ (zFZ 2 3) (fOp kIx (zC 1) (fC (.int 0))))
  (zO (sIf (zD8 (tst (fB zP7 (zQ (zj [4] (zAH (zCr (zD (toD (zC 2)) (zD (toD (zC 3)) (zD (toD (fOp kIx (zC 1) (fC (.int 1)))) (zD (toD (fOp kIx (zC 1) (fC (.int 2)))) zI)))))) (gN 4) zd (zR zAg (zD (toD (zC 4)) zI))) zh)))) (zw (fC (.bl false))) zBM)
  (zw (zL3 (zDU kLe kLt kLt (fC (.int 0)) (zC 2) (zC 3) (fB zBQ (zQ (zC 0) zh))) (zEZ kLe kLt (fC (.int 0)) (fOp kIx (zC 1) (fC (.int 2))) (fB zBQ (zQ (fOp kIx (zC 0) (fC (.int 0))) zh))))))))
noncomputable def zBK:FF:=zEt (zBP 5 zD6)
noncomputable def zDf:FS:=(zO (zx 3 (zAW zI))
  (zO (zCQ (zr (zD (toD (fB zBQ (zQ (fOp kIx (zC 0) (fC (.int 0))) zh))) zI)) (gN 4) (zO (zx 5 (zR zBB (zD (toD (zC 0)) (zD (toD (zC 2)) (zD (toD (zC 4)) zI)))))
  (sIf (tst (fOp kEq (fOp kIx (zC 5) (fC (.int 0))) (fOp kIx (zC 5) (fC (.int 1))))) (zAj (fM zAL (zC 3) (zD (toD (fC (.int 0))) zI))) (zAj (fM zAL (zC 3) (zD (toD (zET (zC 1) (zC 5))) zI))))))
  (zw (zC 3))))
noncomputable def zBG:FF:=zBP 6 zDf
noncomputable def zN5:FS:=(zO (zx 1 (zR zAx (zD (toD (zC 0)) zI)))
  (zO (zx 2 (zR zAb (zD (toD (zC 1)) (zD (toD (fOp zAQ (fC (.int 1)) (zR zZ (zD (toD (zC 1)) (zD (toD (fC (.int 26))) zI))))) (zD (toD (fOp zAQ (fC (.int 1)) (zR zZ (zD (toD (zC 1)) (zD (toD (fC (.int 6))) zI))))) zI)))))
  (zO (zx 3 (zR zDB (zD (toD (zC 2)) zI)))
  (zO (sIf (zDy (zD8 (tst (zII "tuple" (zC 3)))) (zD8 (tst (fB zP7 (zQ (zj [4] (zAH (zC 3)) (gN 4) zd (zR zBK (zD (toD (zC 2)) (zD (toD (zC 4)) zI)))) zh))))) (zw (fC (.bl false))) zBM)
  (zO (zx 5 zFq)
  (zO (zx 6 zFq)
  (zO (zCQ (zAH (zC 3)) (zR9 7 8 9) (zO (zBT (zC 8) (zC 5) (zC 7))
  (zBT (zC 9) (zC 6) (zC 7))))
  (zO (sIf (tst (fOp (kTr true 1) (zj [4] (zAH (zC 3)) (gN 4) zd (fOp kIx (zC 4) (fC (.int 0)))) (fB zD1 (zQ (zC 5) zh)))) (zw (fC (.bl false))) zBM)
  (zO (zCQ (zAH (zR zAz (zD (toD (zFn (fB zBQ (zQ (zC 2) zh)))) zI))) (gN 7) (zO (zx 10 (zR zBG (zD (toD (zC 2)) (zD (toD (zC 5)) (zD (toD (zC 7)) zI)))))
  (zO (zx 11 (zj [12] (zAH (zC 10)) (gN 12) (tst (fOp (kIs true) (zC 12) (fC .non))) (zC 12)))
  (sIf (tst (fOp (zCN true) (zC 7) (zC 5))) (sIf (tst (fOp kNe (zC 11) (zAW zI))) (zw (fC (.bl false))) zBM) (sIf (zDy (tst (fOp kEq (zC 11) (zAW zI))) (zDy (tst (fOp kNe (fOp zAF (zC 5) (zC 7)) (fOp zAQ (fB (zBl false) (zQ (zC 11) zh)) (fC (.int 1))))) (tst (fOp kNe (fM zDV (zC 10) (zD (toD (fB (zBl false) (zQ (zC 11) zh))) zI)) (fOp zAF (zC 6) (zC 7)))))) (zw (fC (.bl false))) zBM)))))
  (zw (fC (.bl true))))))))))))
noncomputable def zEy:FF:=zBP 13 zN5
open Classical in
noncomputable def zJF (zA:List (List Int)) (l:Nat) (p:List Int) (x:Int):Option Int:=if ∃ n,Dst zA l One (setR zA p x) n then some (zBy zA l One (setR zA p x):Nat) else none
noncomputable def ze (zA:List (List Int)) (l:Nat) (p:List Int):List (Option Int):=(List.range l).map fun (k:Nat)=>zJF zA l p (k:Int)
theorem zGR {zA:List (List Int)} {l:Nat} {p:List Int} {x:Int} {n:Nat} (h:Dst zA l One (setR zA p x) n):zJF zA l p x = some (n:Int):=by
 unfold zJF; rw [zVK ⟨n,h⟩,zCC h]
theorem zOW {zA:List (List Int)} {l:Nat} {p:List Int} {x:Int} (h:¬ ∃ n,Dst zA l One (setR zA p x) n):zJF zA l p x = none:=zVN h
theorem zOL {zA:List (List Int)} {l:Nat} {p:List Int} {x i:Int} (h:zJF zA l p x = some i):∃ n:Nat,i = n /\ Dst zA l One (setR zA p x) n:=by
 by_cases z:∃ n,Dst zA l One (setR zA p x) n
 ·obtain ⟨n,hn⟩:=z;rw [zGR hn] at h;exact ⟨n,(zV5 h).symm,hn⟩
 ·rw [zOW z] at h; cases h
theorem zHz {zA:List (List Int)} {l:Nat} {p:List Int} {k:Nat} (hk:k < l):(ze zA l p)[k]? = some (zJF zA l p (k:Int)):=by
 unfold ze; rw [zVS,List.getElem?_range hk]; rfl
theorem zC5 (zA:List (List Int)) (l:Nat) (p:List Int):(ze zA l p).length = l:=by unfold ze; simp
theorem zGH {zA:List (List Int)} {l:Nat} {p:List Int} {i:Int}:some i ∈ ze zA l p ↔ ∃ x:Int,(0 <= x /\ x < (l:Int)) /\ ∃ n:Nat,i = n /\ Dst zA l One (setR zA p x) n:=by
 unfold ze;rw [zVM];constructor
 ·rintro ⟨k,hk,e⟩;exact ⟨k,⟨by omega,by have:=zVj.mp hk; omega⟩,zOL e⟩
 ·rintro ⟨x,⟨x0,x1⟩,n,rfl,d⟩;exact ⟨x.toNat,zVj.mpr (by omega),by rw [show ((x.toNat:Nat):Int) = x by omega]; exact zGR d⟩
theorem zNc {zA:List (List Int)} {l:Nat} {p:List Int} (hp:p.length = 2) {i:Int} (h:some i ∈ ze zA l p):∃ m n:Nat,i = n /\ m <= n /\ Dst zA l One p (m + 1):=by
 obtain ⟨x,hx,n,rfl,d⟩:=zGH.mp h;obtain ⟨m,hm,dm⟩:=zGI (n + 1) (zC2.mpr ⟨x,hx,d.1⟩);cases m with
 | zero=>have:=zEO.mp dm; unfold One at this; omega
 | succ m=>exact ⟨m,n,rfl,by omega,dm⟩
theorem zIW {zA:List (List Int)} {p:List Int} (h:p ∈ zX (zJ zA)):p.length = 2:=by
 obtain ⟨a,b,rfl,_⟩:=zAt.mp h; rfl
theorem zEc {zA:List (List Int)} {l:Nat} {p:List Int} {n:Nat} (d:Dst zA l One p (n + 1)):some (n:Int) ∈ ze zA l p /\ ∀ i,some i ∈ ze zA l p -> (n:Int) <= i:=by
 obtain ⟨_,x,hx,dx⟩:=zDK.mp d;refine ⟨zGH.mpr ⟨x,hx,n,rfl,dx⟩,fun i hi=>?_⟩;obtain ⟨y,hy,k,rfl,dk⟩:=zGH.mp hi;rcases Nat.lt_or_ge k n with z | z
 ·exact absurd (zC2.mpr ⟨y,hy,dk.1⟩) (d.2 (k + 1) (by omega))
 ·omega
theorem zF3 {zA:List (List Int)} {l:Nat} {p:List Int} {n:Nat} (d:Dst zA l One p (n + 1)):((ze zA l p).idxOf (some (n:Int)):Int) = zC9 zA l One p:=by
 have hm:=(zEc d).1;have hl:=List.idxOf_lt_length_iff.mpr hm;have hg:=List.getElem_idxOf hl;have hlen:=zC5 zA l p;have e:=zHz (zA:=zA) (l:=l) (p:=p) (k:=(ze zA l p).idxOf (some (n:Int))) (by omega);rw [zU9 hl,hg] at e;obtain ⟨m,e1,dm⟩:=zOL (zV5 e).symm;have e1':n = m:=by omega
 subst e1';refine (zKy d ⟨by omega,by omega,dm,fun y y0 y1 dy=>?_⟩).symm;have hy:y.toNat < (ze zA l p).idxOf (some (n:Int)):=by omega
 have:=List.not_of_lt_findIdx hy;rw [show (ze zA l p)[y.toNat]'(by omega) = some (n:Int) by
  have e2:=zHz (zA:=zA) (l:=l) (p:=p) (k:=y.toNat) (by omega);rw [zU9 (by omega),show ((y.toNat:Nat):Int) = y by omega,zGR dy] at e2;exact zV5 e2] at this
 simp at this
theorem zKk {xs:List Int} (h:xs.Pairwise (· < ·)):(zX xs).Pairwise fun a b=>zAn a b = true:=by
 unfold zX;rw [List.pairwise_flatMap];refine ⟨fun a _=>List.pairwise_map.mpr ((h.filter _).imp fun {b c} hb=>?_),h.imp fun {a b} hab=>?_⟩
 ·rw [zCW,zVK rfl,zCW,zVN (by omega)]; exact zWD hb
 ·intro x hx y hy;obtain ⟨c,_,rfl⟩:=zVM.mp hx;obtain ⟨d,_,rfl⟩:=zVM.mp hy;rw [zCW,zVN (by omega)]; exact zWD hab
theorem zLa:∀ {ts:List (List Int)},(∀ t ∈ ts,t ≠ []) -> ts.Pairwise (fun a b=>zAn a b = true) -> zCP ts = true
 | [],_,_=>rfl
 | [x],h,_=>by unfold zCP; simpa using h x (by simp)
 | x :: y :: r,h,p=>by
  unfold zCP;have p':=zXF.mp p;rw [zLa (fun t ht=>h t (zVI _ ht)) p'.2];have hx:=h x (by simp);have:zAn y x = false:=by
   cases e:zAn y x with
   | false=>rfl
   | true=>have:=zDe e (p'.1 y (by simp)); rw [zF0] at this; cases this
  rw [this];simpa using hx
theorem zFe (zA:List (List Int)):(zJ zA).Pairwise (· < ·):=by
 unfold zJ;exact List.pairwise_map.mpr (List.pairwise_lt_range.imp fun {a b} h=>by omega)
theorem zNC (zA:List (List Int)) (l:Nat):zCP (zf zA l One) = true :=
 zLa (fun t ht=>by have:=zIW (zBH.mp ht).1; intro z; subst z; cases this) ((zKk (zFe zA)).filter _)
theorem zMk {i:Int} {M:Mem}:zAg [.int i] M = some (.bl true,M):=zM5 (by unfold Vd; trivial)
theorem zPi {zA:List (List Int)} {l:Nat} {p:List Int} {n:Nat} (d:Dst zA l One p (n + 1)):0 <= zC9 zA l One p /\ zC9 zA l One p < l:=by
 rw [<- zF3 d];have:=List.idxOf_lt_length_iff.mpr (zEc d).1;rw [zC5] at this;omega
theorem zQe {zA:List (List Int)} {l:Nat} (m:IsM zA l) {p:List Int} (hp:p ∈ zf zA l One) {M:Mem}:zBK [mD zA,zBs zA l p] M = some (.bl true,M):=by
 obtain ⟨hp1,n,dn⟩:=zBH.mp hp;obtain ⟨a,b,rfl,ha,hb,hab⟩:=zAt.mp hp1;obtain ⟨x0,x1⟩:=zPi dn;have a01:=zAP.mp ha;have b01:=zAP.mp hb;refine zU ?_;unfold zBK;refine zFL ?_ ?_
 ·unfold D.unds D.unds D.unds;rw [zFP];unfold zBs D.und D.unds D.unds D.unds D.unds;rw [show D.und 0 (tI [a,b]) = true from zBR _]; rfl
 rw [zAI];unfold zD6;show OkS (zO _ _ [some (mD zA),some (zBs zA l [a,b]),none,none,none] []) _;generalize hT:zBs zA l [a,b] = T;have e0:∀ {y2 y3 y4:Option D},fOp kIx (zC 1) (fC (.int 0)) [some (mD zA),some T,y2,y3,y4] [] = some (.dat (tI [a,b]),[]):=by
  intro y2 y3 y4; rw [<- hT]; exact zM (x:=.dat (zBs zA l [a,b])) (y:=.dat (.int 0)) rfl rfl (zCM zAM rfl)
 have e1:∀ {y2 y3 y4:Option D},fOp kIx (zC 1) (fC (.int 1)) [some (mD zA),some T,y2,y3,y4] [] = some (.dat (.int (zBy zA l One [a,b]:Nat)),[]):=by
  intro y2 y3 y4; rw [<- hT]; exact zM (x:=.dat (zBs zA l [a,b])) (y:=.dat (.int 1)) rfl rfl (zCM zAM rfl)
 have e2:∀ {y2 y3 y4:Option D},fOp kIx (zC 1) (fC (.int 2)) [some (mD zA),some T,y2,y3,y4] [] = some (.dat (.int (zC9 zA l One [a,b])),[]):=by
  intro y2 y3 y4; rw [<- hT]; exact zM (x:=.dat (zBs zA l [a,b])) (y:=.dat (.int 2)) rfl rfl (zCM zAM rfl)
 refine zFF (zEh (zGE (k:=true) ?_) (zEh ?_ (zEh (zGE (k:=true) ((zFu (T := "tuple") e0 rfl).trans rfl)) (zAN (zM (zF4 e0 zAM) rfl (zU (zRD.mpr ⟨rfl,rfl⟩))))))) ?_
 ·rw [<- hT]; exact (zFu (T := "tuple") (f:=zC 1) rfl rfl).trans rfl
 ·rw [<- hT];exact zAN (zM (zF4 (f:=zC 1) rfl zAM) rfl (zU (zRD.mpr ⟨rfl,rfl⟩)))
 rw [zK,zP8];refine zE e0 ?_;rw [zL];refine ⟨_,rfl,?_⟩;rw [zP];show OkS (zO _ _ [some (mD zA),some T,some (.int a),some (.int b),none] []) _;generalize zC9 zA l One [a,b] = x at *;generalize zBy zA l One [a,b] = dd at *;refine zFF (zGE (k:=true) ?_) ?_
 ·have cm:=Law.zA6 (own:=[4]) (g:=gN 4) (te:=zR zAg (zD (toD (zC 4)) zI)) (gd:=none) [a,b,(dd:Int),x] D.int (fun _=>D.bl true) (zCe (σ:=[some (mD zA),some T,some (.int a),some (.int b),none]) (zO1 (zAd (f:=zC 2) (d:=.int a) rfl (zAd (f:=zC 3) (d:=.int b) rfl (zAd e1 (zAG e2)))) (by simp))) trivial (by simp) fun i hi=>⟨[some (mD zA),some T,some (.int a),some (.int b),some (.int i)],rfl,zAq (zAG (d:=.int i) rfl) zMk⟩;exact zNj (bs:=[true,true,true,true]) cm
 refine zAu (d:=.bl true) ((zLe (a:=true) (b:=true) ((zMv (a:=0) (b:=a) (c:=b) rfl rfl rfl (zER rfl)).trans ?_) fun _=>?_).trans rfl) ⟨rfl,rfl,rfl⟩
 ·rw [zWD a01.1,zWD hab,zWD b01.2]; rfl
 ·refine zU (zPT.mpr (zBz.mpr (zE e2 (zUn.mpr (zD0.mpr ?_)))));rw [zWD x0,zVK rfl];refine zE (zFJ m (f:=zC 0) rfl) (zT2.mpr ⟨?_,rfl⟩);rw [zWD x1]
noncomputable def zB0 (zA:List (List Int)) (l:Nat) (ps:List (List Int)):List (List Int × D):=ps.map fun p=>(p,.int (zBy zA l One p:Nat))
noncomputable def zCq (zA:List (List Int)) (l:Nat) (ps:List (List Int)):List (List Int × D):=ps.map fun p=>(p,.int (zC9 zA l One p))
def oD:Option Int -> D
 | some i=> .int i
 | none=> .non
theorem zSF {f g:FE} {σ:Sd} {M:Mem} {n:Nat} {T:List (List Int × D)} {k:List Int} (hf:f σ M = some (.dat (.ref n),M)) (hn:M[n]? = some (dT T)) (hg:g σ M = some (.dat (tI k),M)):zET f g σ M = some (.dat ((zF T k).getD .non),M):=by
 unfold zET;rw [zLT hf];dsimp only;rw [hn];show (match toD g σ M with | some (k,M2)=>_ | none=>none) = _;rw [zLT hg];dsimp only;rw [dgT hn]
theorem zQC {zA:List (List Int)} {l:Nat} (m:IsM zA l) (hl:l <= 12) {M:Mem} {jk:Nat} (hk:M[jk]? = some (dT (zB0 zA l (zf zA l One)))) {p:List Int} (hp:p ∈ zX (zJ zA)) :
  zBG [mD zA,.ref jk,tI p] M = some (.ref M.length,M ++ [.lst ((ze zA l p).map oD)]):=by
 obtain ⟨a,b,rfl,ha,hb,hab⟩:=zAt.mp hp;have a01:=zAP.mp ha;have b01:=zAP.mp hb;have hkl:=(zU8.mp hk).1;refine zU ?_;unfold zBG;rw [zAI];unfold zDf;show OkS (zO _ _ [some (mD zA),some (.ref jk),some (tI [a,b]),none,none,none] M) _;rw [zK,zb];refine zE (M:=M) (a:=.fl []) (zSK rfl (by simp)) (zu ?_);rw [zP];show OkS (zO _ _ [some (mD zA),some (.ref jk),some (tI [a,b]),some (.ref M.length),none,none] (M ++ [.lst []])) _;rw [zK,zBN];refine ⟨_,_,_,zBZ (zFJ m (f:=zC 0) rfl) (by omega) (by omega),?_⟩;rw [show ((l:Int)).toNat = l by omega];refine zHx (n:=l) (I:=fun k σ M'=>(∃ y4 y5,σ = [some (mD zA),some (.ref jk),some (tI [a,b]),some (.ref M.length),y4,y5]) /\ M' = M ++ [.lst (((ze zA l [a,b]).take k).map oD)]) ?_ ?_ _ _ ⟨⟨_,_,rfl⟩,rfl⟩
 ·rintro k σ M' hkl' ⟨⟨y4,y5,rfl⟩,rfl⟩;refine ⟨_,rfl,?_⟩;have x0:(0:Int) <= (k:Int):=by omega
  have x1:(k:Int) < (l:Int):=by omega
  obtain ⟨s0,s1⟩:=m.step a01.1 a01.2 x0 x1;obtain ⟨t0,t1⟩:=m.step b01.1 b01.2 x0 x1;generalize hA:M ++ [MO.lst (((ze zA l [a,b]).take k).map oD)] = A;have ak:A[jk]? = some (dT (zB0 zA l (zf zA l One))):=by rw [<- hA,zVC hkl]; exact hk
  have aL:A[M.length]? = some (.lst (((ze zA l [a,b]).take k).map oD)):=by rw [<- hA]; simp
  have hset:setR zA [a,b] (k:Int) = ris [zAa zA a k,zAa zA b k]:=rfl;have fin:∀ (f:FE) (σ:Sd),(∃ y4 y5,σ = [some (mD zA),some (.ref jk),some (tI [a,b]),some (.ref M.length),y4,y5]) -> f σ A = some (.dat (oD (zJF zA l [a,b] (k:Int))),A) -> OkS (zAj (fM zAL (zC 3) (zD (toD f) zI)) σ A) fun o σ2 M2=>o = .nx /\ (∃ y4 y5,σ2 = [some (mD zA),some (.ref jk),some (tI [a,b]),some (.ref M.length),y4,y5]) /\ M2 = M ++ [.lst (((ze zA l [a,b]).take (k + 1)).map oD)]:=by
   rintro f σ ⟨y4,y5,rfl⟩ ef;rw [zCS];refine zKl.mpr (zE (a:=.dat (.ref M.length)) rfl ⟨⟨_,zAr aL⟩,zE (zAG ef) ((zGS aL (by rw [zVE,zWT,zC5]; exact zVU (m:=95000) (by omega) (zn (by omega)))).mpr ?_)⟩);refine ⟨rfl,⟨_,_,rfl⟩,?_⟩;rw [<- hA,List.set_append_right _ _ (zVB _)];have:(ze zA l [a,b]).take (k + 1) = (ze zA l [a,b]).take k ++ [zJF zA l [a,b] (k:Int)]:=by
    rw [List.take_add_one,zHz hkl']; rfl
   rw [this];simp
  refine zDr (zAq (zAd (d:=mD zA) rfl (zAd (d:=tI [a,b]) rfl (zAG (d:=.int (k:Int)) rfl))) (zL7 m a01.1 a01.2 b01.1 b01.2 x0 x1)) ?_;show OkS (sIf _ _ _ [some (mD zA),some (.ref jk),some (tI [a,b]),some (.ref M.length),some (.int (k:Int)),some (tI (zBU (zAa zA a k) (zAa zA b k)))] A) _;generalize hs:zAa zA a (k:Int) = s at *;generalize ht:zAa zA b (k:Int) = t at *;have ec:tst (fOp kEq (fOp kIx (zC 5) (fC (.int 0))) (fOp kIx (zC 5) (fC (.int 1)))) [some (mD zA),some (.ref jk),some (tI [a,b]),some (.ref M.length),some (.int (k:Int)),some (tI (zBU s t))] A = some (decide (s = t),A):=by
   refine zAN ((zM (x:=.dat (.int (if t < s then t else s))) (y:=.dat (.int (if t > s then t else s))) (zM (x:=.dat (tI (zBU s t))) (y:=.dat (.int 0)) rfl rfl (zCM zAM rfl)) (zM (x:=.dat (tI (zBU s t))) (y:=.dat (.int 1)) rfl rfl (zCM zAM rfl)) eqE).trans ?_);congr 4;apply decide_eq_decide.mpr;constructor
   ·intro h; split at h <;> split at h <;> omega
   ·rintro rfl; simp
  rw [zBA];refine zE ec ?_;by_cases hst:s = t
  ·subst hst;rw [zWD rfl];show OkS (zAj _ _ _) _;refine OkS.mono (fin (fC (.int 0)) _ ⟨_,_,rfl⟩ ?_) ?_
   ·have d0:Dst zA l One (setR zA [a,b] (k:Int)) 0:=zEO.mpr (by
     rw [hset,zLK (ys:=[s]) fun x=>by simp,zOJ (by simp)]; rfl)
    rw [zGR d0]; rfl
   ·rintro o σ2 M2 ⟨rfl,h1,h2⟩; exact ⟨h1,h2⟩
  ·rw [zVe hst];show OkS (zAj _ _ _) _;refine OkS.mono (fin (zET (zC 1) (zC 5)) _ ⟨_,_,rfl⟩ ?_) ?_
   ·rw [zSF (k:=zBU s t) (n:=jk) rfl ak rfl];have hp2:zBU s t ∈ zX (zJ zA):=zLl s0 s1 t0 t1 hst;have hset2:setR zA [a,b] (k:Int) = zBU s t:=by rw [hset,zNF hst]
    unfold zB0;rw [zC3];by_cases hm:zBU s t ∈ zf zA l One
    ·rw [zVK hm];obtain ⟨_,n,dn⟩:=zBH.mp hm;rw [zGR (n:=n + 1) (by rw [hset2]; exact dn),zCC dn]; rfl
    ·rw [zVN hm,zOW]
     ·rfl
     ·rintro ⟨n,dn⟩;rw [hset2] at dn;cases n with
      | zero=>have:=zEO.mp dn; exact absurd this (by show ¬ (2 = 1); omega)
      | succ n=>exact hm (zBH.mpr ⟨hp2,n,dn⟩)
   ·rintro o σ2 M2 ⟨rfl,h1,h2⟩; exact ⟨h1,h2⟩
 ·rintro σ M' ⟨⟨y4,y5,rfl⟩,rfl⟩;rw [zP];exact zAu (d:=.ref M.length) rfl ⟨rfl,by rw [List.take_of_length_le (by rw [zC5]; omega)]⟩
theorem zNp {M:Mem} {ts:List (List Int)}:kTr true 1 (.fl (ts.map tI)) (.fl (ts.map tI)) M = some (.dat (.bl false),M):=by
 have tr:(ts.map tI).all (zAB 1) = true:=by
  rw [zVg];intro x hx;obtain ⟨t,_,rfl⟩:=zVM.mp hx;unfold tI zAB;rw [zVg];intro y hy;obtain ⟨i,_,rfl⟩:=zVM.mp hy;rfl
 have e:zBL 2 (.tup (ts.map tI)) (.tup (ts.map tI)) = true:=zEb 2 _ (by unfold zAB; exact tr);show (if ((ts.map tI).all (zAB 1) && (ts.map tI).all (zAB 1)) = true then some (EV.dat (.bl (nb true (zBL 2 (.tup (ts.map tI)) (.tup (ts.map tI))))),M) else none) = _;rw [tr,zVK (by decide),e];rfl
theorem zId:∀ ts:List (List Int),zKW (ts.map tI) = some ts
 | []=>rfl
 | t :: ts=>by
  rw [zVO];unfold zKW;rw [zId ts,show zRf (tI t) = some t from zBv t]
theorem zDq:∀ xs:List (Option Int),zCx (xs.map oD) = some xs
 | []=>rfl
 | some i :: xs=>by rw [zVO]; show (match zCx (xs.map oD) with | some bs=>some (some i :: bs) | none=>none) = _; rw [zDq xs]
 | none :: xs=>by rw [zVO]; show (match zCx (xs.map oD) with | some bs=>some (none :: bs) | none=>none) = _; rw [zDq xs]
theorem zNy {f:FE} {σ:Sd} {M:Mem} {n:Nat} {ps:List (List Int)} {val:List Int -> D} (hf:f σ M = some (.dat (.ref n),M)) (hn:M[n]? = some (dT (ps.map fun p=>(p,val p)))) (hr:zCP ps = true):fB zD1 (zQ f zh) σ M = some (.fl (ps.map tI),M):=by
 unfold fB zQ zh;rw [hf];show zD1 [.dat (.ref n)] M = _;unfold zD1;dsimp only;rw [hn];have e:List.map (fun q:D × D=>q.1) (zDk (ps.map fun p=>(p,val p))) = ps.map tI:=by unfold zDk; rw [zVT,zVT]; rfl
 show (match zKW (List.map (fun q:D × D=>q.1) (zDk (ps.map fun p=>(p,val p)))) with | some ts=>if zCP ts = true then some (EV.fl (List.map (fun q:D × D=>q.1) (zDk (ps.map fun p=>(p,val p)))),M) else none | none=>none) = _;rw [e,zId];dsimp only;rw [zVK hr]
theorem zOU {f:FE} {σ:Sd} {M:Mem} {j:Nat} {xs:List Int} (hf:f σ M = some (.dat (.ref j),M)) (hj:M[j]? = some (.lst (xs.map D.int))) (hx:xs ≠ []):∃ b,fB (zBl false) (zQ f zh) σ M = some (.dat (.int b),M) /\ b ∈ xs /\ ∀ y ∈ xs,b <= y:=by
 cases xs with
 | nil=>exact absurd rfl hx
 | cons x r=>
  obtain ⟨h1,h2⟩:=zBr false r x;refine ⟨zB5 false x r,?_,h1,fun y hy=>by simpa using h2 y hy⟩;unfold fB zQ zh;rw [hf];show zBl false [.dat (.ref j)] M = _;unfold zBl;dsimp only;rw [zy hj];dsimp only;rw [zBv]
theorem zQj {zA:List (List Int)} {l:Nat} (m:IsM zA l) (hl:l <= 12) {M:Mem} {jk jl:Nat} {p:List Int} (hp:p ∈ zX (zJ zA)) (hk:M[jk]? = some (dT (zB0 zA l (zf zA l One)))) (hlt:M[jl]? = some (dT (zCq zA l (zf zA l One)))) {a0 a1 a3 a4 a8 a9 a10 a11 a12:Option D}
  {P:Out -> Sd -> Mem -> Prop} (q:∀ b10 b11 us,P .nx [a0,a1,some (mD zA),a3,a4,some (.ref jk),some (.ref jl),some (tI p),a8,a9,b10,b11,a12] (M ++ us)) :
  OkS (zO (zx 10 (zR zBG (zD (toD (zC 2)) (zD (toD (zC 5)) (zD (toD (zC 7)) zI)))))
  (zO (zx 11 (zj [12] (zAH (zC 10)) (gN 12) (tst (fOp (kIs true) (zC 12) (fC .non))) (zC 12)))
  (sIf (tst (fOp (zCN true) (zC 7) (zC 5))) (sIf (tst (fOp kNe (zC 11) (zAW zI))) (zw (fC (.bl false))) zBM) (sIf (zDy (tst (fOp kEq (zC 11) (zAW zI))) (zDy (tst (fOp kNe (fOp zAF (zC 5) (zC 7)) (fOp zAQ (fB (zBl false) (zQ (zC 11) zh)) (fC (.int 1))))) (tst (fOp kNe (fM zDV (zC 10) (zD (toD (fB (zBl false) (zQ (zC 11) zh))) zI)) (fOp zAF (zC 6) (zC 7)))))) (zw (fC (.bl false))) zBM)))
   [a0,a1,some (mD zA),a3,a4,some (.ref jk),some (.ref jl),some (tI p),a8,a9,a10,a11,a12] M) P:=by
 have hkl:=(zU8.mp hk).1;have hll:=(zU8.mp hlt).1;rw [zK,zb];refine zE (zAq (zAd (d:=mD zA) rfl (zAd (d:=.ref jk) rfl (zAG (d:=tI p) rfl))) (zQC m hl hk hp)) ?_;rw [zL,zP];show OkS (zO _ _ [a0,a1,some (mD zA),a3,a4,some (.ref jk),some (.ref jl),some (tI p),a8,a9,some (.ref M.length),a11,a12] (M ++ [.lst ((ze zA l p).map oD)])) _;generalize hA:M ++ [MO.lst ((ze zA l p).map oD)] = A;have aw:A[M.length]? = some (.lst ((ze zA l p).map oD)):=by rw [<- hA]; simp
 have ak:A[jk]? = some (dT (zB0 zA l (zf zA l One))):=by rw [<- hA,zVC hkl]; exact hk
 have al:A[jl]? = some (dT (zCq zA l (zf zA l One))):=by rw [<- hA,zVC hll]; exact hlt
 have hAl:A.length = M.length + 1:=by rw [<- hA]; simp
 have hwl:=zC5 zA l p;have ei0:zAH (zC 10) [a0,a1,some (mD zA),a3,a4,some (.ref jk),some (.ref jl),some (tI p),a8,a9,some (.ref M.length),a11,a12] A = _:=zDT rfl (zy aw);have ef:=zB8 (own:=[12]) (g:=gN 12) (tc:=tst (fOp (kIs true) (zC 12) (fC .non))) (te:=zC 12) (σ:=[a0,a1,some (mD zA),a3,a4,some (.ref jk),some (.ref jl),some (tI p),a8,a9,some (.ref M.length),a11,a12]) (ze zA l p) oD oD (fun o=>o.isSome) ei0 (.inl aw) (by omega) (fun o _=>by
  refine ⟨[a0,a1,some (mD zA),a3,a4,some (.ref jk),some (.ref jl),some (tI p),a8,a9,some (.ref M.length),a11,some (oD o)],rfl,?_,fun _=>rfl⟩;cases o with
  | some i=>exact zAN (zM (x:=.dat (.int i)) (y:=.dat .non) rfl rfl rfl)
  | none=>exact zAN (zM (x:=.dat .non) (y:=.dat .non) rfl rfl rfl))
 have hmap:((ze zA l p).filter fun o=>o.isSome).map oD = ((ze zA l p).filterMap id).map D.int:=by
  generalize ze zA l p = xs;induction xs with
  | nil=>rfl
  | cons x r ih=>
   cases x with
   | none=>simpa using ih
   | some i=>simp only [List.filter_cons,Option.isSome_some,if_true,zVO,List.filterMap_cons,id]; rw [ih]; rfl
 rw [hmap] at ef;rw [zK,zb];refine zE ef (zu ?_);rw [zP];show OkS (sIf _ _ _ [a0,a1,some (mD zA),a3,a4,some (.ref jk),some (.ref jl),some (tI p),a8,a9,some (.ref M.length),some (.ref A.length),a12] (A ++ [.lst (((ze zA l p).filterMap id).map D.int)])) _;have smem:∀ i,i ∈ (ze zA l p).filterMap id ↔ some i ∈ ze zA l p:=fun i=>by simp
 generalize hB:A ++ [MO.lst (((ze zA l p).filterMap id).map D.int)] = B;generalize hσ:[a0,a1,some (mD zA),a3,a4,some (.ref jk),some (.ref jl),some (tI p),a8,a9,some (.ref M.length),some (.ref A.length),a12] = σ;have bs:B[A.length]? = some (.lst (((ze zA l p).filterMap id).map D.int)):=by rw [<- hB]; simp
 have bw:B[M.length]? = some (.lst ((ze zA l p).map oD)):=by rw [<- hB,zVC (by omega)]; exact aw
 have bk:B[jk]? = some (dT (zB0 zA l (zf zA l One))):=by rw [<- hB,zVC (by omega)]; exact ak
 have bl:B[jl]? = some (dT (zCq zA l (zf zA l One))):=by rw [<- hB,zVC (by omega)]; exact al
 have v5:zC 5 σ B = some (.dat (.ref jk),B):=by rw [<- hσ]; rfl
 have v6:zC 6 σ B = some (.dat (.ref jl),B):=by rw [<- hσ]; rfl
 have v7:zC 7 σ B = some (.dat (tI p),B):=by rw [<- hσ]; rfl
 have v10:zC 10 σ B = some (.dat (.ref M.length),B):=by rw [<- hσ]; rfl
 have v11:zC 11 σ B = some (.dat (.ref A.length),B):=by rw [<- hσ]; rfl
 have done:P .nx σ B:=by
  rw [<- hσ,<- hB,<- hA,zWB]; exact q _ _ _
 have enil:∀ neg:Bool,fOp (if neg then kNe else kEq) (zC 11) (zAW zI) σ B = some (.dat (.bl (if neg then !((ze zA l p).filterMap id).isEmpty else ((ze zA l p).filterMap id).isEmpty)),B):=by
  intro neg;have e1:zAW zI σ B = some (.fl [],B):=zSK rfl (by simp);have e2:(((ze zA l p).filterMap id).map D.int).isEmpty = ((ze zA l p).filterMap id).isEmpty:=by cases (ze zA l p).filterMap id <;> rfl
  cases neg with
  | true=>exact zM v11 e1 (zU ((zK2 (zAr bs) fun d hd=>by cases hd; rfl).mpr ⟨by rw [e2]; rfl,rfl⟩))
  | false=>
   refine zM v11 e1 ?_;simp only [zV6,zXW];unfold kEq kOr;rw [show zJZ false (.dat (.ref A.length)) (.fl []) B = none from rfl];unfold zM2;rw [zAr bs,<- e2]; rfl
 have ein:tst (fOp (zCN true) (zC 7) (zC 5)) σ B = some (decide (p ∉ zf zA l One),B):=by
  refine zAN ((zM v7 v5 (zQy bk)).trans ?_);rw [zVK rfl];unfold zB0;rw [zC3];by_cases h:p ∈ zf zA l One
  ·rw [zVK h,zVe (by simpa using h)]; rfl
  ·rw [zVN h,zWD h]; rfl
 rw [zBA];refine zE ein ?_;by_cases hm:p ∈ zf zA l One
 ·rw [zVe (by simpa using hm)];show OkS (sIf _ _ _ _ _) _;obtain ⟨_,n,dn⟩:=zBH.mp hm;obtain ⟨w1,w2⟩:=zEc dn;have hne:(ze zA l p).filterMap id ≠ []:=List.ne_nil_of_mem ((smem n).mpr w1);obtain ⟨b,eb,b1,b2⟩:=zOU v11 bs hne;have hb:b = (n:Int):=by
   have h1:=b2 n ((smem n).mpr w1);have h2:=w2 b ((smem b).mp b1);omega
  subst hb;have ek:fOp zAF (zC 5) (zC 7) σ B = some (.dat (.int ((n + 1:Nat):Int)),B):=by
   refine zM v5 v7 (zFc bk ?_);unfold zB0;rw [zC3,zVK hm,zCC dn]
  have el:fOp zAF (zC 6) (zC 7) σ B = some (.dat (.int (zC9 zA l One p)),B):=by
   refine zM v6 v7 (zFc bl ?_);unfold zCq;rw [zC3,zVK hm]
  have ei:fM zDV (zC 10) (zD (toD (fB (zBl false) (zQ (zC 11) zh))) zI) σ B = some (.dat (.int (zC9 zA l One p)),B):=by
   refine zU (zKl.mpr (zE v10 ⟨⟨_,zAr bw⟩,zE (zAG eb) (zE (a:=.int (zC9 zA l One p)) (M:=B) ?_ ⟨rfl,rfl⟩)⟩));show (match B[M.length]? with | some (.lst ds)=>_ | _=>none) = _;rw [bw];dsimp only;rw [zDq];dsimp only;rw [zVK ⟨w1,by omega⟩,zF3 dn]
  refine zIr (zEh ?_ (zEh ?_ ?_)) done
  ·refine zAN ((enil false).trans ?_);rw [zVN (by decide)];cases e:(ze zA l p).filterMap id with
   | nil=>exact absurd e hne
   | cons _ _=>rfl
  ·refine zAN (zM ek (zM eb rfl rfl) (zU (zRD.mpr ⟨?_,rfl⟩)));rw [zVe (by omega)]
  ·refine zAN (zM ei el (zU (zRD.mpr ⟨?_,rfl⟩)));rw [zVe (by simp)]
 ·rw [zWD hm];show OkS (sIf _ _ _ _ _) _;refine zIr (zAN ((enil true).trans ?_)) done;rw [zVK rfl];have:(ze zA l p).filterMap id = []:=by
   rw [List.eq_nil_iff_forall_not_mem];intro i hi;obtain ⟨k,n,_,_,d⟩:=zNc (zIW hp) ((smem i).mp hi);exact hm (zBH.mpr ⟨hp,k,d⟩)
  rw [this]; rfl
theorem zMP {fv fo fi gv go gi:FE} {σ:Sd} {M M4 M5:Mem} {P:Out -> Sd -> Mem -> Prop} {v k v2 k2:D} {n n2:Nat} (h1:fv σ M = some (.dat v,M)) (h2:fo σ M = some (.dat (.ref n),M)) (h3:fi σ M = some (.dat k,M)) (h4:zDY M n k v = some M4)
  (g1:gv σ M4 = some (.dat v2,M4)) (g2:go σ M4 = some (.dat (.ref n2),M4)) (g3:gi σ M4 = some (.dat k2,M4)) (g4:zDY M4 n2 k2 v2 = some M5) (q:P .nx σ M5):OkS (zO (zBT fv fo fi) (zBT gv go gi) σ M) P:=by
 rw [zK];exact zJY h1 h2 h3 h4 (by rw [zP]; exact zJY g1 g2 g3 g4 q)
theorem zNQ (ns:List Int) (h:ns.length <= 63):∃ M',zEy [.ref 0] [.fro (ns.map D.int)] = some (.bl true,M'):=by
 suffices hh:Ok (zEy [.ref 0] [.fro (ns.map D.int)]) fun d _=>d = .bl true by
  obtain ⟨d,M',e,rfl⟩:=hh;exact ⟨M',e⟩
 unfold zEy;rw [zAI];unfold zN5;refine zNG (τ:=[none,none,none,none,none,none,none,none,none,none]) (by decide) (by decide) (by decide) h fun zA l M2 m hr1 hr2 hr3 hl g2 e02=>?_;have hR:zA.length <= 26:=by omega
 have hl12:l <= 12:=by omega
 have hrl:=zJs (l:=l) hR;refine zDr (zAq (zAG (f:=zC 2) (d:=mD zA) rfl) (zLs m hR hl12)) ?_;show OkS (zO _ _ [some (.ref 0),some (.ref 2),some (mD zA),some (.tup ((zf zA l One).map (zBs zA l))),none,none,none,none,none,none,none,none,none] M2) _;generalize hT:D.tup ((zf zA l One).map (zBs zA l)) = T;have eT:∀ (σ:Sd) (M:Mem) (b4 b5 b6 b7 b8 b9 b10 b11 b12:Option D),σ = [some (.ref 0),some (.ref 2),some (mD zA),some T,b4,b5,b6,b7,b8,b9,b10,b11,b12] -> zC 3 σ M = some (.dat (.tup ((zf zA l One).map (zBs zA l))),M):=by
  rintro σ M b4 b5 b6 b7 b8 b9 b10 b11 b12 rfl; rw [hT]; rfl
 have cm:=Law.zA6 (own:=[4]) (g:=gN 4) (te:=zR zBK (zD (toD (zC 2)) (zD (toD (zC 4)) zI))) (gd:=none) (zf zA l One) (zBs zA l) (fun _=>D.bl true) (zCe (eT [some (.ref 0),some (.ref 2),some (mD zA),some T,none,none,none,none,none,none,none,none,none] M2 _ _ _ _ _ _ _ _ _ rfl)) trivial (by omega) fun p hp=>⟨[some (.ref 0),some (.ref 2),some (mD zA),some T,some (zBs zA l p),none,none,none,none,none,none,none,none],rfl,zAq (zAd (d:=mD zA) rfl (zAG (d:=zBs zA l p) rfl)) (zQe m hp)⟩;refine zFF (zEh (zGE (k:=true) ?_) (zGE (k:=true) ?_)) ?_
 ·rw [<- hT]; exact (zFu (T := "tuple") (f:=zC 3) rfl rfl).trans rfl
 ·have:=zNj (bs:=(zf zA l One).map fun _=>true) (by rw [zVT]; exact cm);rw [this,zJw];congr 4;rw [zVg]; intro _ _; rfl
 clear cm;rw [zK,zb];refine zE (M:=M2 ++ [.dicT []]) (a:=.dat (.ref M2.length)) rfl ?_;rw [zL,zP];rw [zK,zb];refine zE (M:=M2 ++ [.dicT []] ++ [.dicT []]) (a:=.dat (.ref (M2 ++ [MO.dicT []]).length)) rfl ?_;rw [zL,zP];have hj:(M2 ++ [MO.dicT []]).length = M2.length + 1:=by simp
 rw [hj];show OkS (zO _ _ [some (.ref 0),some (.ref 2),some (mD zA),some T,none,some (.ref M2.length),some (.ref (M2.length + 1)),none,none,none,none,none,none] (M2 ++ [dT []] ++ [dT []])) _;rw [zK,zBN];refine ⟨_,_,_,zCe (eT _ _ _ _ _ _ _ _ _ _ _ rfl),?_⟩;have nd:(zf zA l One).Nodup:=(zD7 (zE1 zA)).filter _;refine zA8 (I:=fun r σ M'=>∃ (dn re:List (List Int)) (y7 y8 y9:Option D),zf zA l One = dn ++ re /\ r = re.map (zBs zA l) /\ σ = [some (.ref 0),some (.ref 2),some (mD zA),some T,none,some (.ref M2.length),some (.ref (M2.length + 1)),y7,y8,y9,none,none,none] /\ M' = M2 ++ [dT (zB0 zA l dn)] ++ [dT (zCq zA l dn)]) ?_ ?_ _ _ _ ⟨[],zf zA l One,none,none,none,rfl,rfl,rfl,rfl⟩
 ·rintro x r σ M' ⟨dn,re,y7,y8,y9,hd,hr,rfl,rfl⟩;cases re with
  | nil=>cases hr
  | cons p r2=>
   obtain ⟨rfl,rfl⟩:=zV9 hr;refine ⟨zAo,_,rfl,?_⟩;have hlen:=zWs List.length hd;rw [zVL,zVc] at hlen;have hp:p ∉ dn:=by
    rw [hd] at nd;exact fun z=>(zWJ.mp nd).2.2 p z p zVJ rfl
   have n1:p ∉ (zB0 zA l dn).map (·.1):=by unfold zB0; rw [zVT]; simpa using hp
   have n2:p ∉ (zCq zA l dn).map (·.1):=by unfold zCq; rw [zVT]; simpa using hp
   have s1:(M2 ++ [dT (zB0 zA l dn)] ++ [dT (zCq zA l dn)]).set M2.length (dT (zBa (zB0 zA l dn) p (.int (zBy zA l One p:Nat)))) = M2 ++ [dT (zB0 zA l (dn ++ [p]))] ++ [dT (zCq zA l dn)]:=by
    rw [zHg n1,zWB,List.set_append_right _ _ (zVB _)];simp [zB0]
   have s2:(M2 ++ [dT (zB0 zA l (dn ++ [p]))] ++ [dT (zCq zA l dn)]).set (M2.length + 1) (dT (zBa (zCq zA l dn) p (.int (zC9 zA l One p)))) = M2 ++ [dT (zB0 zA l (dn ++ [p]))] ++ [dT (zCq zA l (dn ++ [p]))]:=by
    rw [zHg n2,zWB,List.set_append_right _ _ (by omega)];simp [zCq]
   refine zMP (v:=.int (zBy zA l One p:Nat)) (k:=tI p) (n:=M2.length) (v2:=.int (zC9 zA l One p)) (k2:=tI p) (n2:=M2.length + 1) rfl rfl rfl ((zGq (T:=zB0 zA l dn) (by rw [zWB]; simp) (by unfold zB0; rw [zVE]; omega)).trans (zWs some s1)) rfl rfl rfl ((zGq (T:=zCq zA l dn) (by rw [zWB]; simp) (by unfold zCq; rw [zVE]; omega)).trans (zWs some s2)) ?_;exact ⟨dn ++ [p],r2,_,_,_,by rw [hd]; simp,rfl,rfl,rfl⟩
 rintro σ M' ⟨dn,re,y7,y8,y9,hd,hr,rfl,rfl⟩;refine ⟨zAo,?_⟩;rw [zP]
 have hre:re = []:=by cases re with
  | nil=>rfl
  | cons _ _=>cases hr
 subst hre;rw [zVp] at hd;subst hd;generalize hA:M2 ++ [dT (zB0 zA l (zf zA l One))] ++ [dT (zCq zA l (zf zA l One))] = A;have ak:A[M2.length]? = some (dT (zB0 zA l (zf zA l One))):=by rw [<- hA,zWB]; simp
 have al:A[M2.length + 1]? = some (dT (zCq zA l (zf zA l One))):=by rw [<- hA,zWB]; simp
 generalize hjk:M2.length = jk at *;have cm:=Law.zA6 (own:=[4]) (g:=gN 4) (te:=fOp kIx (zC 4) (fC (.int 0))) (gd:=none) (zf zA l One) (zBs zA l) tI (zCe (eT [some (.ref 0),some (.ref 2),some (mD zA),some T,none,some (.ref jk),some (.ref (jk + 1)),y7,y8,y9,none,none,none] A _ _ _ _ _ _ _ _ _ rfl)) trivial (by omega) fun p hp=>⟨[some (.ref 0),some (.ref 2),some (mD zA),some T,some (zBs zA l p),some (.ref jk),some (.ref (jk + 1)),y7,y8,y9,none,none,none],rfl,zM (x:=.dat (zBs zA l p)) (y:=.dat (.int 0)) rfl rfl (zCM zAM rfl)⟩;refine zFF (zAN (zM cm (zNy (f:=zC 5) (val:=fun p=> .int (zBy zA l One p:Nat)) rfl ak (zNC zA l)) zNp)) ?_;have eL:=zTN (zKJ (zA:=zA) (f:=fB zBQ (zQ (zC 2) zh)) (σ:=[some (.ref 0),some (.ref 2),some (mD zA),some T,none,some (.ref jk),some (.ref (jk + 1)),y7,y8,y9,none,none,none]) (M:=A) (by omega) (zER rfl));have hrooms:(zJ zA).length = zA.length:=by unfold zJ; simp
 obtain ⟨d,B,ep,rfl,us,hB,_⟩:=zHv (M:=A ++ [.lst ((zJ zA).map D.int)]) (j:=A.length) (xs:=zJ zA) (zBV _ _) (zFe zA) (by omega);have ec:zR zAz (zD (toD (zFn (fB zBQ (zQ (zC 2) zh)))) zI) [some (.ref 0),some (.ref 2),some (mD zA),some T,none,some (.ref jk),some (.ref (jk + 1)),y7,y8,y9,none,none,none] A = some (.dat (.ref (A ++ [MO.lst ((zJ zA).map D.int)]).length),B):=zLG (aC' eL rfl) ep;have bp:B[(A ++ [MO.lst ((zJ zA).map D.int)]).length]? = some (.lst ((zX (zJ zA)).map tI)):=by rw [hB]; simp
 have ei:=zDT ec (zy bp);clear ec ep;have hkA:=(zU8.mp ak).1;have hlA:=(zU8.mp al).1;have bk:B[jk]? = some (dT (zB0 zA l (zf zA l One))):=by rw [hB,zWB,zVC hkA]; exact ak
 have bl:B[jk + 1]? = some (dT (zCq zA l (zf zA l One))):=by rw [hB,zWB,zVC hlA]; exact al
 generalize (A ++ [MO.lst ((zJ zA).map D.int)]).length = jp at *;have hbp:=(zU8.mp bp).1;have hbk:=(zU8.mp bk).1;have hbl:=(zU8.mp bl).1;rw [zK,zBN];refine ⟨_,_,_,ei,?_⟩;refine zA8 (I:=fun r σ M'=>∃ (ps:List (List Int)) (us:Mem) (y7 y10 y11:Option D),(∀ p ∈ ps,p ∈ zX (zJ zA)) /\ r = ps.map tI /\ σ = [some (.ref 0),some (.ref 2),some (mD zA),some T,none,some (.ref jk),some (.ref (jk + 1)),y7,y8,y9,y10,y11,none] /\ M' = B ++ us) ?_ ?_ _ _ _ ⟨zX (zJ zA),[],_,_,_,fun _ h=>h,rfl,rfl,by simp⟩
 ·rintro x r σ M' ⟨ps,us,y7,y10,y11,hps,hr,rfl,rfl⟩;cases ps with
  | nil=>cases hr
  | cons p r2=>
   obtain ⟨rfl,rfl⟩:=zV9 hr;refine ⟨.inl (by rw [zVC hbp]; exact bp),_,rfl,?_⟩;refine zQj m hl12 (hps p zVJ) (by rw [zVC hbk]; exact bk) (by rw [zVC hbl]; exact bl) fun b10 b11 vs=>?_;exact ⟨r2,us ++ vs,_,_,_,fun q hq=>hps q (zVI _ hq),rfl,rfl,by simp⟩
 rintro σ M' ⟨ps,us,y7,y10,y11,hps,hr,rfl,rfl⟩;refine ⟨.inl (by rw [zVC hbp]; exact bp),?_⟩;rw [zP];exact zAu (d:=.bl true) rfl rfl
end Lac
set_option maxHeartbeats 4000000
namespace Lac
open PySem PySem.Spec PyProof.Rows L2 L3 Law
-- the text by places
def top (i:Nat):Stmt:=PySem.Challenge.pw_bringhome_k22_the_ladder.main.body.getD i (.Pass ⟨0,0,0,0⟩)
abbrev zC6:Stmt:=top 1
abbrev zEe:Stmt:=top 3
abbrev zDh:Stmt:=top 5
abbrev zDF:Stmt:=top 6
abbrev zCi:Stmt:=top 7
abbrev zEp:Stmt:=top 8
abbrev zBo:Stmt:=top 9
abbrev zDj:Stmt:=top 10
abbrev zHZ:Stmt:=top 11
abbrev zFw:Stmt:=top 12
abbrev zDM:Stmt:=top 14
abbrev zDu:Stmt:=top 15
abbrev zDA:Stmt:=top 16
abbrev zCg:Stmt:=top 17
abbrev zCF:Stmt:=top 18
abbrev zCt:Stmt:=top 19
abbrev zCb:Stmt:=top 20
abbrev zCv:Stmt:=top 21
abbrev zDm:Stmt:=top 22
abbrev zDo:Stmt:=top 23
abbrev zN6:Stmt:=top 24
structure Txt (K:PySem.W.Frag) (mg:Str -> Option Value) where
  d_all_rooms:Df K mg "all_rooms" zC6 ["machine"]
  d_stepped:Df K mg "stepped" zEe ["machine", "rooms", "letter"]
  d_pairs_of:Df K mg "pairs_of" zDh ["rooms"]
  d_ways_back:Df K mg "ways_back" zDF ["machine"]
  d_lengths_to:Df K mg "lengths_to" zCi ["machine", "goals"]
  d_lengths:Df K mg "lengths" zEp ["machine"]
  d_first_letter:Df K mg "first_letter" zBo ["machine", "pair", "found"]
  d_rungs_to:Df K mg "rungs_to" zDj ["machine", "found"]
  d_rungs:Df K mg "rungs" zHZ ["machine"]
  d_ladder:Df K mg "ladder" zFw ["machine"]
  d_law_begin:Df K mg "_law_begin" zDM ["_law_script"]
  d_law_next:Df K mg "_law_next" zDu ["_law_state", "_law_many"]
  d_law_order:Df K mg "_law_order" zDA ["_law_state", "_law_many"]
  d_law_column:Df K mg "_law_column" zCg ["_law_state", "_law_family", "_law_rooms", "_law_letter"]
  d_law_machine:Df K mg "_law_machine" zCF ["_law_state", "_law_rooms", "_law_letters"]
  d_law_pairs:Df K mg "_law_pairs" zCt ["_law_rooms"]
  d_law_behind:Df K mg "_law_behind" zCb ["_law_machine_here", "_law_pair", "_law_letter"]
  d_law_whole:Df K mg "_law_whole" zCv ["_law_thing"]
  d_law_rung:Df K mg "_law_rung" zDm ["_law_machine_here", "_law_thing"]
  d_law_ways:Df K mg "_law_ways" zDo ["_law_machine_here", "_law_known", "_law_pair"]
  d_law:Df K mg "law" zN6 ["_law_script"]
  z_tuple:mg "tuple" = none
  z_range:mg "range" = none
  z_len:mg "len" = none
  z_sorted:mg "sorted" = none
  z_min:mg "min" = none
  z_enumerate:mg "enumerate" = none
  z_abs:mg "abs" = none
  z_int:mg "int" = none
  z_max:mg "max" = none
  z_isinstance:mg "isinstance" = none
  z_bool:mg "bool" = none
  z_all:mg "all" = none
  z_list:mg "list" = none
  kinds:Kinds K
section
variable {P:Program} {w:World} {K:PySem.W.Frag} {mg:Str -> Option Value} {base:Heap}
theorem zAw {X:Cx} {scope sc:Scope} {own:List Nat} {N ps:List Str} (_:FnScope N ps sc) (hk:scope.kind = .function) (hs:X.env.scope = sc) (hN:X.N = N) (h1:zEM sc scope = true) (h2:zFH N scope own = true):CompIn X scope own:=zHR hk hs hN h1 h2
theorem zMq {X:Cx} {scope sc sd:Scope} {own:List Nat} {N ps:List Str} (_:FnScope N ps sd) (hk:scope.kind = .function) (hs:X.env.scope = sc) (hN:X.N = N) (h1:zEM sc scope = true) (h2:zFH N scope own = true):CompIn X scope own:=zHR hk hs hN h1 h2
set_option hygiene false in
local macro_rules | `(tactic| decreasing_trivial)=> `(tactic| repeat' first
  | refine zTV (pv _)
  | refine zBb ?_
  | refine zQ1 ?_ ?_ (zT rfl)
  | refine zUU
  | refine zL2 ?_
  | refine zR3
  | refine zQF ?_ ?_
  | refine zSL ?_
  | refine zNw
  | refine zUF sc.nd rfl
  | refine zUp ?_ ?_
  | refine zTv ?_
  | refine zUa (by first | exact zJV T | exact zJC T | exact zHh T | exact zKM T | exact zIH T | exact zGh T | exact zIB T | exact zE5 T | exact zH5 T | exact zGc T | exact zGX T | exact zIz T | exact zJx T | exact zOd T | exact zIG T | exact zFR T | exact zNA T | exact zJL T | exact zHt T | exact zJo T) (hr.mono (by omega)) rfl ?_ ?_ (by decide) (zT rfl) (zBj rfl)
  | refine zQY ?_ ?_ (zT rfl)
  | refine zSU
  | refine zSb
  | refine zSn ?_
  | refine zUy ?_ ?_ ?_
  | refine zSC
  | refine zSv ?_ ?_
  | refine zLg rfl T.z_range ?_ ?_ (zNI rfl)
  | refine zIE (zAy (by decide)) (zAw sc rfl rfl rfl (by decide +kernel) (by decide +kernel)) rfl ?_ ⟨fun _ _ _ _ _=>?_,fun _ _ _ _ _=>?_,fun _ _ _ _ _=>?_⟩
  | refine zTq hr.units0 ?_ ?_
  | refine zTT ?_
  | refine zTJ rfl T.z_len ?_ (zT rfl) rfl
  | refine zPW ?_ ?_
  | refine zT6 ?_ ?_
  | refine zRa zOp PassesOwn.never rfl ?_ ?_ ?_
  | refine zTo ?_
  | refine zUD hr.units0 ?_ ?_
  | refine zRh ?_
  | refine zTF (zEv hr) ?_ ?_
  | refine zUk
  | refine zSy ?_
  | refine zPt
  | refine zRz rfl ?_
  | refine zS2 ?_
  | refine zPa rfl T.z_tuple ?_ (zT rfl) rfl
  | refine zQH ?_
  | refine zRi (zEv hr) ?_ ?_ ?_
  | refine zOh ?_ ?_
  | refine zLy sc.nd rfl (by first | exact Or.inl rfl | exact Or.inr rfl) (by first | exact .inl rfl | exact .inr rfl) rfl (zAy (by decide)) (zAw sc rfl rfl rfl (by decide +kernel) (by decide +kernel)) rfl ?_ ⟨fun _ _ _ _ _=>?_,fun _ _ _ _ _=>?_,fun _ _ _ _ _=>?_⟩
  | refine zUR ?_ ?_
  | refine zSZ ?_
  | refine zQI
  | refine zQK ?_
  | refine zQG ?_ ?_ ?_
  | refine zUL ?_ ?_
  | refine zTe ?_ ?_
  | refine zPM ?_ ?_ ?_
  | refine zP3
  | refine zM1 (zEv hr) ?_ ?_
  | refine zTB rfl rfl T.z_min ?_ (zT rfl) rfl
  | refine zO6 T.kinds (by decide) rfl T.z_isinstance rfl T.z_tuple (by rfl) (by decide) (by decide) ?_ (zT rfl) (zT rfl) (zBj rfl)
  | refine zRW ?_ ?_
  | refine zTg ?_ ?_
  | refine zUE rfl T.z_abs ?_ (zT rfl) rfl
  | refine zPf _ PassesOwn.never ?_ ?_
  | refine zRu ?_
  | refine zSe ?_ ?_
  | refine zTs rfl rfl T.z_all ?_ (zT rfl) rfl
  | refine zQ4 (zEv hr) ?_ ?_ ?_ ⟨rfl,rfl,rfl,rfl⟩
  | refine zU4 hr.units0 ?_ ?_
  | refine zSP rfl T.z_int ?_ (zT rfl) rfl
  | refine zSX rfl rfl T.z_tuple rfl T.z_range ?_ (zT rfl) rfl (zT rfl) rfl
  | refine zSD (zAy (by decide)) (zAw sc rfl rfl rfl (by decide +kernel) (by decide +kernel)) rfl ?_ ⟨fun _ _ _ _ _=>?_,fun _ _ _ _ _=>?_,fun _ _ _ _ _=>?_⟩
  | refine zQS rfl rfl T.z_sorted ?_ (zT rfl) rfl
  | refine zTa ?_ ?_
  | refine zQd (by decide) (zAy (by decide)) (zAy (by decide)) (zAw sc rfl rfl rfl (by decide +kernel) (by decide +kernel)) rfl ?_ ⟨fun _ _ _ _ _=>?_,fun _ _ _ _ _=>?_,fun _ _ _ _ _=>?_,fun _ _ _ _ _=>?_,fun _ _ _ _ _=>?_,fun _ _ _ _ _=>?_,fun _ _ _ _ _ _=>rfl⟩
  | refine zTd ?_ ?_
  | refine zUM ?_ ?_
  | refine zOv ?_ ?_
  | refine zRw rfl rfl T.z_min ?_ (zT rfl) (zBj rfl)
  | refine zRj rfl rfl T.z_max ?_ (zT rfl) (zBj rfl)
  | refine zO6 T.kinds (by decide) rfl T.z_isinstance rfl T.z_int (by rfl) (by decide) (by decide) ?_ (zT rfl) (zT rfl) (zBj rfl)
  | refine zO6 T.kinds (by decide) rfl T.z_isinstance rfl T.z_bool (by rfl) (by decide) (by decide) ?_ (zT rfl) (zT rfl) (zBj rfl)
  | refine zS6 ?_
  | refine zQR rfl T.z_enumerate ?_ (zT rfl) rfl
  | refine zTG (zEv hr) ?_ ?_
  | refine zIE (zMo (K:=K) (by decide) (by decide)) (zAw sc rfl rfl rfl (by decide +kernel) (by decide +kernel)) rfl ?_ ⟨fun _ _ _ _ _=>?_,fun _ _ _ _ _=>?_,fun _ _ _ _ _=>?_⟩
  | refine zPA ?_ ?_
  | refine zTz (zPL (K:=K)) ?_ ?_
  | refine zN9 (zCG fun _ _ _ _=>zAc) (zCG fun _ _ _ _=>zAc) (zCG fun _ _ _ _=>zAc) zRR zLA zLA ?_ ?_ ?_ ?_
  | refine zQp (zCG fun _ _ _ _=>zAc) (zCG fun _ _ _ _=>zAc) zRR zLA ?_ ?_ ?_
  | refine zRF (zEv hr) ?_ ?_ ⟨rfl,rfl,rfl,rfl⟩
  | refine zKL sc.nd rfl (by first | exact Or.inl rfl | exact Or.inr rfl) (by first | exact .inl rfl | exact .inr rfl) rfl (zEv hr) (zAy (by decide)) (zAw sc rfl rfl rfl (by decide +kernel) (by decide +kernel)) rfl ?_ ⟨fun _ _ _ _ _=>?_,fun _ _ _ _ _=>?_,fun _ _ _ _ _=>?_⟩ fun _ _ _ _ _=>?_
  | refine zQN ?_
  | refine zTP ?_ ?_
  | refine zP6 (zEv hr) (zAy (by decide)) (zAw sc rfl rfl rfl (by decide +kernel) (by decide +kernel)) rfl ?_ ⟨fun _ _ _ _ _=>?_,fun _ _ _ _ _=>?_,fun _ _ _ _ _=>?_⟩ fun _ _ _ _ _=>?_
  | refine zR0 ?_ ?_
  | refine zIE (zAy (by decide)) (zMq sc rfl rfl rfl (by rfl) (by decide +kernel)) rfl ?_ ⟨fun _ _ _ _ _=>?_,fun _ _ _ _ _=>?_,fun _ _ _ _ _=>?_⟩
  | refine zNZ ?_
  | refine zIE (zMn (K:=K) (by decide) (by decide) (by decide)) (zAw sc rfl rfl rfl (by decide +kernel) (by decide +kernel)) rfl ?_ ⟨fun _ _ _ _ _=>?_,fun _ _ _ _ _=>?_,fun _ _ _ _ _=>?_⟩
  | refine zRa (zRG (K:=K)) PassesOwn.never rfl ?_ ?_ ?_
  | refine zQl rfl rfl T.z_sorted ?_ (zT rfl) rfl
  | refine zQ7 1 (zTO 1 (by decide) hr) ?_ ?_
  | refine zSk rfl rfl T.z_list rfl T.z_range ?_ (zT rfl) rfl (zT rfl) rfl
  | refine zUC
  | refine zQo ?_ ?_
  | refine zNu ?_ ?_
  | refine zU0 sc.nd rfl ?_
  | refine zTc (zSQ ?_ ?_)
  | refine zTc (zRW ?_ ?_)
  | refine zTA ?_)
abbrev zIp:List Str:=["machine"]
theorem zHd:FnScope zIp ["machine"] (zN zC6):=⟨rfl,rfl,rfl,by decide +kernel,rfl,by decide +kernel,by decide +kernel⟩
theorem zHh (T:Txt K mg):Od P w base 1 T.d_all_rooms zAf:=by
  unfold zAf;have sc:=zHd;exact zAJ (n:=1) T.d_all_rooms.F sc rfl (fun cdv A outer s H E hr=>by
    unfold zC8;decreasing_trivial)
abbrev zMf:List Str:=["machine", "rooms", "letter", "room"]
theorem zKS:FnScope zMf ["machine", "rooms", "letter"] (zN zEe):=⟨rfl,rfl,rfl,by decide +kernel,rfl,by decide +kernel,by decide +kernel⟩
theorem zKM (T:Txt K mg):Od P w base 1 T.d_stepped zA1:=by
  unfold zA1;have sc:=zKS;exact zFK (zAJ (n:=3) T.d_stepped.F sc rfl (fun cdv A outer s H E hr=>by
    unfold zEU;decreasing_trivial))
abbrev zJ1:List Str:=["rooms", "one", "other"]
theorem zJk:FnScope zJ1 ["rooms"] (zN zDh):=⟨rfl,rfl,rfl,by decide +kernel,rfl,by decide +kernel,by decide +kernel⟩
theorem zJC (T:Txt K mg):Od P w base 1 T.d_pairs_of zAh:=by
  unfold zAh;have sc:=zJk;exact zAJ (n:=1) T.d_pairs_of.F sc rfl (fun cdv A outer s H E hr=>by
    unfold zD5;decreasing_trivial)
abbrev zJg:List Str:=["_law_script", "_law_seed", "_law_cell"]
theorem zHy:FnScope zJg ["_law_script"] (zN zDM):=⟨rfl,rfl,rfl,by decide +kernel,rfl,by decide +kernel,by decide +kernel⟩
theorem zIG (T:Txt K mg):Od P w base 1 T.d_law_begin zAx:=by
  unfold zAx;have sc:=zHy;exact zAJ (n:=1) T.d_law_begin.F sc rfl (fun cdv A outer s H E hr=>by
    unfold zC1;decreasing_trivial)
abbrev zJt:List Str:=["_law_state", "_law_many", "_law_digit"]
theorem zIb:FnScope zJt ["_law_state", "_law_many"] (zN zDu):=⟨rfl,rfl,rfl,by decide +kernel,rfl,by decide +kernel,by decide +kernel⟩
theorem zJV (T:Txt K mg):Od P w base 1 T.d_law_next zZ:=by
  unfold zZ;have sc:=zIb;exact zAJ (n:=2) T.d_law_next.F sc rfl (fun cdv A outer s H E hr=>by
    unfold zDp;decreasing_trivial)
abbrev zJE:List Str:=["_law_rooms", "_law_found", "_law_k", "_law_other"]
theorem zH2:FnScope zJE ["_law_rooms"] (zN zCt):=⟨rfl,rfl,rfl,by decide +kernel,rfl,by decide +kernel,by decide +kernel⟩
theorem zHt (T:Txt K mg):Od P w base 1 T.d_law_pairs zAz:=by
  unfold zAz;have sc:=zH2;exact zAJ (n:=1) T.d_law_pairs.F sc rfl (fun cdv A outer s H E hr=>by
    unfold zDH;decreasing_trivial)
abbrev zHk:List Str:=["_law_machine_here", "_law_pair", "_law_letter", "_law_one", "_law_other"]
theorem zGg:FnScope zHk ["_law_machine_here", "_law_pair", "_law_letter"] (zN zCb):=⟨rfl,rfl,rfl,by decide +kernel,rfl,by decide +kernel,by decide +kernel⟩
theorem zGh (T:Txt K mg):Od P w base 1 T.d_law_behind zBB:=by
  unfold zBB;have sc:=zGg;exact zFK (zAJ (n:=3) T.d_law_behind.F sc rfl (fun cdv A outer s H E hr=>by
    unfold zCc;decreasing_trivial))
abbrev zJS:List Str:=["_law_thing"]
theorem zHi:FnScope zJS ["_law_thing"] (zN zCv):=⟨rfl,rfl,rfl,by decide +kernel,rfl,by decide +kernel,by decide +kernel⟩
theorem zIH (T:Txt K mg):Od P w base 1 T.d_law_whole zAg:=by
  unfold zAg;have sc:=zHi;exact zAJ (n:=1) T.d_law_whole.F sc rfl (fun cdv A outer s H E hr=>by
    unfold zDI;decreasing_trivial)
abbrev zIk:List Str:=["machine", "sources", "pair", "letter", "goal"]
theorem zIK:FnScope zIk ["machine"] (zN zDF):=⟨rfl,rfl,rfl,by decide +kernel,rfl,by decide +kernel,by decide +kernel⟩
theorem zIB (T:Txt K mg):Od P w base 2 T.d_ways_back zBW:=by
  unfold zBW;have sc:=zIK;exact zAJ (n:=1) T.d_ways_back.F sc rfl (fun cdv A outer s H E hr=>by
    unfold zDC;decreasing_trivial)
abbrev zF1:List Str:=["machine", "pair", "found", "goals", "letter", "goal"]
theorem zE9:FnScope zF1 ["machine", "pair", "found"] (zN zBo):=⟨rfl,rfl,rfl,by decide +kernel,rfl,by decide +kernel,by decide +kernel⟩
theorem zE5 (T:Txt K mg):Od P w base 2 T.d_first_letter zp:=by
  unfold zp;have sc:=zE9;exact zAJ (n:=3) T.d_first_letter.F sc rfl (fun cdv A outer s H E hr=>by
    unfold zBn;decreasing_trivial)
abbrev zJm:List Str:=["_law_state", "_law_many", "_law_order_here", "_law_k"]
theorem zHS:FnScope zJm ["_law_state", "_law_many"] (zN zDA):=⟨rfl,rfl,rfl,by decide +kernel,rfl,by decide +kernel,by decide +kernel⟩
theorem zH5 (T:Txt K mg):Od P w base 2 T.d_law_order zBY:=by
  unfold zBY;have sc:=zHS;exact zAJ (n:=2) T.d_law_order.F sc rfl (fun cdv A outer s H E hr=>by
    unfold zCu;decreasing_trivial)
abbrev zKY:List Str:=["_law_machine_here", "_law_thing", "_law_one", "_law_other", "_law_part"]
theorem zJc:FnScope zKY ["_law_machine_here", "_law_thing"] (zN zDm):=⟨rfl,rfl,rfl,by decide +kernel,rfl,by decide +kernel,by decide +kernel⟩
theorem zJL (T:Txt K mg):Od P w base 2 T.d_law_rung zBK:=by
  unfold zBK;have sc:=zJc;exact zFK (zAJ (n:=2) T.d_law_rung.F sc rfl (fun cdv A outer s H E hr=>by
    unfold zD6;decreasing_trivial))
abbrev zKe:List Str:=["_law_machine_here", "_law_known", "_law_pair", "_law_ways_here", "_law_letter", "_law_goal"]
theorem zIS:FnScope zKe ["_law_machine_here", "_law_known", "_law_pair"] (zN zDo):=⟨rfl,rfl,rfl,by decide +kernel,rfl,by decide +kernel,by decide +kernel⟩
theorem zJo (T:Txt K mg):Od P w base 2 T.d_law_ways zBG:=by
  unfold zBG;have sc:=zIS;exact zAJ (n:=3) T.d_law_ways.F sc rfl (fun cdv A outer s H E hr=>by
    unfold zDf;decreasing_trivial)
abbrev zIA:List Str:=["machine", "goals", "sources", "level", "found", "goal", "behind", "pair"]
theorem zGi:FnScope zIA ["machine", "goals"] (zN zCi):=⟨rfl,rfl,rfl,by decide +kernel,rfl,by decide +kernel,by decide +kernel⟩
theorem zGc (T:Txt K mg):Od P w base 3 T.d_lengths_to zA4:=by
  unfold zA4;have sc:=zGi;exact zAJ (n:=2) T.d_lengths_to.F sc rfl (fun cdv A outer s H E hr=>by
    unfold zCj;decreasing_trivial)
abbrev zKu:List Str:=["machine", "found", "pairs", "pair"]
theorem zIP:FnScope zKu ["machine", "found"] (zN zDj):=⟨rfl,rfl,rfl,by decide +kernel,rfl,by decide +kernel,by decide +kernel⟩
theorem zIz (T:Txt K mg):Od P w base 3 T.d_rungs_to zBJ:=by
  unfold zBJ;have sc:=zIP;exact zAJ (n:=2) T.d_rungs_to.F sc rfl (fun cdv A outer s H E hr=>by
    unfold zD3;decreasing_trivial)
abbrev zH0:List Str:=["_law_state", "_law_family", "_law_rooms", "_law_letter", "_law_room", "_law_half", "_law_ahead", "_law_far", "_law_order_here", "_law_goal"]
theorem zGk:FnScope zH0 ["_law_state", "_law_family", "_law_rooms", "_law_letter"] (zN zCg):=⟨rfl,rfl,rfl,by decide +kernel,rfl,by decide +kernel,by decide +kernel⟩
theorem zGX (T:Txt K mg):Od P w base 3 T.d_law_column zBC:=by
  unfold zBC;have sc:=zGk;exact zAJ (n:=4) T.d_law_column.F sc rfl (fun cdv A outer s H E hr=>by
    unfold zCf;decreasing_trivial)
abbrev zMI:List Str:=["machine", "room"]
theorem zKO:FnScope zMI ["machine"] (zN zEp):=⟨rfl,rfl,rfl,by decide +kernel,rfl,by decide +kernel,by decide +kernel⟩
theorem zJx (T:Txt K mg):Od P w base 4 T.d_lengths zBh:=by
  unfold zBh;have sc:=zKO;exact zAJ (n:=1) T.d_lengths.F sc rfl (fun cdv A outer s H E hr=>by
    unfold zEo;decreasing_trivial)
abbrev zGd:List Str:=["_law_state", "_law_rooms", "_law_letters", "_law_family", "_law_columns", "_law_letter", "_law_column_here", "_law_room"]
theorem zFy:FnScope zGd ["_law_state", "_law_rooms", "_law_letters"] (zN zCF):=⟨rfl,rfl,rfl,by decide +kernel,rfl,by decide +kernel,by decide +kernel⟩
theorem zFR (T:Txt K mg):Od P w base 4 T.d_law_machine zAb:=by
  unfold zAb;have sc:=zFy;exact zPq (zAJ (n:=3) T.d_law_machine.F sc rfl (fun cdv A outer s H E hr=>by
    unfold zCK;decreasing_trivial))
abbrev zPu:List Str:=["machine"]
theorem zNT:FnScope zPu ["machine"] (zN zHZ):=⟨rfl,rfl,rfl,by decide +kernel,rfl,by decide +kernel,by decide +kernel⟩
theorem zOd (T:Txt K mg):Od P w base 5 T.d_rungs zEK:=by
  unfold zEK;have sc:=zNT;exact zAJ (n:=1) T.d_rungs.F sc rfl (fun cdv A outer s H E hr=>by
    unfold zHf;decreasing_trivial)
abbrev zNx:List Str:=["machine", "pair", "many", "letter"]
theorem zLn:FnScope zNx ["machine"] (zN zFw):=⟨rfl,rfl,rfl,by decide +kernel,rfl,by decide +kernel,by decide +kernel⟩
theorem zNA (T:Txt K mg):Od P w base 6 T.d_ladder zDB:=by
  unfold zDB;have sc:=zLn;exact zFK (zAJ (n:=1) T.d_ladder.F sc rfl (fun cdv A outer s H E hr=>by
    unfold zFS;decreasing_trivial))
abbrev zTx:List Str:=["_law_script", "_law_state", "_law_machine_here", "_law_told", "_law_one", "_law_known", "_law_letters", "_law_pair", "_law_many", "_law_letter", "_law_ways_here", "_law_some", "_law_way"]
theorem zSt:FnScope zTx ["_law_script"] (zN zN6):=⟨rfl,rfl,rfl,by decide +kernel,rfl,by decide +kernel,by decide +kernel⟩
theorem zRo (T:Txt K mg):Od P w base 7 T.d_law zEy:=by
  unfold zEy;have sc:=zSt;exact zAJ (n:=1) T.d_law.F sc rfl (fun cdv A outer s H E hr=>by
    unfold zN5;decreasing_trivial)
end
theorem zR8 {l:PySem.W.OpenLaw} {w:World} {K:PySem.W.Frag} {h:Heap} {mg:Str -> Option Value} {fa:Addr} (X:K.In h) (G:h.Ns mainGlobals mg) (hfa:mg "law" = some (.ref fa))
    (g1:Dg K "all_rooms" zC6) (g2:Dg K "stepped" zEe) (g3:Dg K "pairs_of" zDh) (g4:Dg K "ways_back" zDF) (g5:Dg K "lengths_to" zCi) (g6:Dg K "lengths" zEp) (g7:Dg K "first_letter" zBo) (g8:Dg K "rungs_to" zDj) (g9:Dg K "rungs" zHZ) (g10:Dg K "ladder" zFw) (g11:Dg K "_law_begin" zDM) (g12:Dg K "_law_next" zDu) (g13:Dg K "_law_order" zDA) (g14:Dg K "_law_column" zCg) (g15:Dg K "_law_machine" zCF) (g16:Dg K "_law_pairs" zCt) (g17:Dg K "_law_behind" zCb) (g18:Dg K "_law_whole" zCv) (g19:Dg K "_law_rung" zDm) (g20:Dg K "_law_ways" zDo) (g21:Dg K "law" zN6) (z1:Zn K "tuple") (z2:Zn K "range") (z3:Zn K "len") (z4:Zn K "sorted") (z5:Zn K "min") (z6:Zn K "enumerate") (z7:Zn K "abs") (z8:Zn K "int") (z9:Zn K "max") (z10:Zn K "isinstance") (z11:Zn K "bool") (z12:Zn K "all") (z13:Zn K "list") (y1:Ki K "NoneType" "int" false) (y2:Ki K "NoneType" "bool" false) (y3:Ki K "NoneType" "str" false) (y4:Ki K "NoneType" "tuple" false) (y5:Ki K "bool" "int" true) (y6:Ki K "bool" "bool" true) (y7:Ki K "bool" "str" false) (y8:Ki K "bool" "tuple" false) (y9:Ki K "int" "int" true) (y10:Ki K "int" "bool" false) (y11:Ki K "int" "str" false) (y12:Ki K "int" "tuple" false) (y13:Ki K "str" "int" false) (y14:Ki K "str" "bool" false) (y15:Ki K "str" "str" true) (y16:Ki K "str" "tuple" false) (y17:Ki K "list" "int" false) (y18:Ki K "list" "bool" false) (y19:Ki K "list" "str" false) (y20:Ki K "list" "tuple" false) (y21:Ki K "tuple" "int" false) (y22:Ki K "tuple" "bool" false) (y23:Ki K "tuple" "str" false) (y24:Ki K "tuple" "tuple" true) (y25:Ki K "dict" "int" false) (y26:Ki K "dict" "bool" false) (y27:Ki K "dict" "str" false) (y28:Ki K "dict" "tuple" false) :
    ∃ fd:FuncData,(∀ (s:Shared) (v:Value),BindsTo s fd ⟨[v],[]⟩ [("_law_script", v)]) /\ ∀ base:Heap,K.In base -> base.Ns mainGlobals mg -> FnOk l.prog w K mg base CX0 7 fa fd ["_law_script"] (spF K 1 zEy):=by
  have e:=hfa.symm.trans (PySem.W.mg_of X G g21.a);cases e;have kinds:Kinds K:=⟨by
    intro t T ht hT;simp only [zVH,zVa,or_false] at ht hT;rcases ht with rfl | rfl | rfl | rfl | rfl | rfl | rfl <;> rcases hT with rfl | rfl | rfl | rfl <;> assumption⟩
  let T:Txt K mg:=⟨g1.df X G fun _ _ _ _ _ _=>zGT fun _=>rfl,g2.df X G fun _ _ _ _ _ _=>zOi fun _ _ _=>rfl,g3.df X G fun _ _ _ _ _ _=>zGT fun _=>rfl,g4.df X G fun _ _ _ _ _ _=>zGT fun _=>rfl,g5.df X G fun _ _ _ _ _ _=>zOH fun _ _=>rfl,g6.df X G fun _ _ _ _ _ _=>zGT fun _=>rfl,g7.df X G fun _ _ _ _ _ _=>zOi fun _ _ _=>rfl,g8.df X G fun _ _ _ _ _ _=>zOH fun _ _=>rfl,g9.df X G fun _ _ _ _ _ _=>zGT fun _=>rfl,g10.df X G fun _ _ _ _ _ _=>zGT fun _=>rfl,g11.df X G fun _ _ _ _ _ _=>zGT fun _=>rfl,g12.df X G fun _ _ _ _ _ _=>zOH fun _ _=>rfl,g13.df X G fun _ _ _ _ _ _=>zOH fun _ _=>rfl,g14.df X G fun _ _ _ _ _ _=>zUj fun _ _ _ _=>rfl,g15.df X G fun _ _ _ _ _ _=>zOi fun _ _ _=>rfl,g16.df X G fun _ _ _ _ _ _=>zGT fun _=>rfl,g17.df X G fun _ _ _ _ _ _=>zOi fun _ _ _=>rfl,g18.df X G fun _ _ _ _ _ _=>zGT fun _=>rfl,g19.df X G fun _ _ _ _ _ _=>zOH fun _ _=>rfl,g20.df X G fun _ _ _ _ _ _=>zOi fun _ _ _=>rfl,g21.df X G fun _ _ _ _ _ _=>zGT fun _=>rfl,zV4 X G z1,zV4 X G z2,zV4 X G z3,zV4 X G z4,zV4 X G z5,zV4 X G z6,zV4 X G z7,zV4 X G z8,zV4 X G z9,zV4 X G z10,zV4 X G z11,zV4 X G z12,zV4 X G z13,kinds⟩;refine ⟨T.d_law.fd,fun s v=> .of_eq rfl,fun base _ _=>?_⟩;exact zRo (P:=l.prog) (w:=w) (base:=base) T
theorem zUo {l:PySem.W.OpenLaw} {q:Program} {loose:List Str} {XP:(Str -> Option Value) -> Heap -> Prop} {YP:World -> Heap -> Prop} {d:DefRec} {K:Params -> PySem.W.Frag} (hn:l.most = some 63) (hdf:d.params.defaults = [])
    (hY:∀ (w:World) (h:Heap),YP w h -> (K w.params).In h) (hL:∀ w:World,zH3 (K w.params) = true)
    (F:∀ (w:World) (mg:Str -> Option Value) (fa:Addr) (h:Heap),(K w.params).In h -> h.Ns mainGlobals mg -> mg d.name = some (.ref fa) ->
      ∃ fd:FuncData,(∀ (s:Shared) (u:Value),BindsTo s fd ⟨[u],[]⟩ [("_law_script", u)]) /\ ∀ base:Heap,(K w.params).In base -> base.Ns mainGlobals mg -> FnOk l.prog w (K w.params) mg base CX0 7 fa fd ["_law_script"] (spF (K w.params) 1 zEy)) :
    PySem.W.WalkO q loose XP YP l.row.toRowW d [] (fun f vs=>PySem.call f vs) :=
  L2.zQJ (n:=63) (k:=7) (x := "_law_script") (CX:=fun _=>CX0) (sp:=fun w=>spF (K w.params) 1 zEy) hn (by decide) hdf ⟨rfl,by decide,by decide⟩ hY F
    (fun w H a ns hl hO hS=>zM9 (hL w) hO hS (zNQ ns hl)) fun _ _ _ _ _ z=>z
end Lac
open PySem PySem.W PyProof.Rows
set_option maxRecDepth 100000 in
set_option maxHeartbeats 0 in
theorem PySem.Challenge.cw_bringhome_k22_the_ladder_holds : PySem.Challenge.rw_bringhome_k22_the_ladder.Holds := by
  w_on; o_law; k_head; (case hw=>w_witness2);k_fill;refine Lac.zUo (l:=PySem.Challenge.rw_bringhome_k22_the_ladder) rfl rfl (fun w h Y=>PySem.W.kIn_of Y) (fun w=>by rfl) ?F
  case F=>
    intro w mg fa h KX G hmg;refine' Lac.zR8 KX G hmg ?_ ?_ ?_ ?_ ?_ ?_ ?_ ?_ ?_ ?_ ?_ ?_ ?_ ?_ ?_ ?_ ?_ ?_ ?_ ?_ ?_ ?_ ?_ ?_ ?_ ?_ ?_ ?_ ?_ ?_ ?_ ?_ ?_ ?_ ?_ ?_ ?_ ?_ ?_ ?_ ?_ ?_ ?_ ?_ ?_ ?_ ?_ ?_ ?_ ?_ ?_ ?_ ?_ ?_ ?_ ?_ ?_ ?_ ?_ ?_ ?_ ?_;all_goals first | exact ⟨_,by k_is,by k_is,by k_is,by k_is⟩ | (unfold L3.Zn; k_is) | (unfold L3.Ki; kit_is) | k_is
