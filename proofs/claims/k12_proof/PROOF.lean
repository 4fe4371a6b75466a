import PyProof.Rows.All
import Wide.All
import OpenK.AllK
import Wide.FinOn
import Lean
import PyProof.EqAt
import PyProof.EqKinds
import PyProof.TupleCall
import PyProof.NeKinds
import PyProof.ZipIter
import PyProof.ListRange
import PyProof.TupleOfSeq
import PyProof.ConsumeWalk
import PyProof.IsRules
import PyProof.SetKind
import PyProof.SetRoads
import PyProof.Rows.SetFrom
import PyProof.Draws
import PyProof.EnumMake
import PyProof.DictCompW
import PyProof.ListMulRoad
import PyProof.Rows.SeqMore2
import PyProof.WalkInts
import PyProof.DictRoadsH
import PyProof.DictItems
import KE.KDictList
import PySem.Challenge.RW_bringhome_k12_least_words
namespace PySem.W.Fast
def tw4865513988096146854:=0
def tw8872975119623175211:=0
def tw6208560198961474908:=0
def tw6269313024269071803:=0
def tw11897268026905450471:=0
def tw16169107371631983102:=0
def tw4140021274375725505:=0
def tw17663858339330377236:=0
def tw7303789838648626702:=0
def tw1712454255109450169:=0
def tw13456949548646786586:=0
def tw17657014377545279555:=0
def tw12060300371733210943:=0
def tw4061169963526834253:=0
def tw7294063508305667795:=0
def tw4626304921879930083:=0
def tw7254455873343671579:=0
def tw4364175289885693218:=0
def tw4389038563946349840:=0
def tw11760844920354329379:=0
def tw16322657336716369842:=0
def tw11936794513928193174:=0
def tw17326961124927962109:=0
def tw4950630192509709422:=0
def tw11748750203032008116:=0
def tw1696925216399665280:=0
def tw17903414862499307050:=0
def tw15571215140774372118:=0
def tw7137842826643181947:=0
def tw7920957331220009668:=0
def tw15054886569291018954:=0
def tw13692110390155884301:=0
def tw5427052591855446338:=0
def tw11838448315221919957:=0
def tw5750247413795816499:=0
def tw17240202667560092635:=0
def tw18381542547589855550:=0
def tw13881255892750248435:=0
def tw11509103113304464850:=0
def tw7488807170785188932:=0
def tw3848611552061402819:=0
def tw1541369186747887576:=0
def tw12718908472660791:=0
def tw18203530531072673743:=0
def tw3828270057533080102:=0
def tw18044940272079946831:=0
def tw12522848167948373160:=0
def tw16312739593043090505:=0
def tw16769195058112164545:=0
def tw6446051630923630610:=0
def tw13498499334523744562:=0
def tw11557453199793530695:=0
def tw2102039187511527392:=0
def tw13058506476200617976:=0
def tw12645003592956249958:=0
def tw17935989720788809140:=0
def tw7394016864225910126:=0
def tw16698984190677773650:=0
def tw12585356600735237518:=0
def tw14635489689203831718:=0
def tw15314509156479104217:=0
def tw6146990915864814281:=0
def tw10343164829715848156:=0
def tw11053173055335762176:=0
def tw1837884726225918299:=0
def tw10739992599720755341:=0
def tw13351499750176791373:=0
def tw8736017995966139085:=0
def tw8325168409828136037:=0
def tw558378786702800319:=0
def tw9509390191869237610:=0
def tw13054262133237783901:=0
def tw8499409595311319827:=0
def tw18195477060553486238:=0
def tw10668115058987178027:=0
def tw15270466885962924392:=0
def tw4269617823364472608:=0
def tw889287933456606740:=0
def tw7362304813036465741:=0
end PySem.W.Fast
section
open PySem PySem.Spec PyProof.Rows
theorem zTx:type_of% @wpAny_bind:=@wpAny_bind
theorem zTy:type_of% @Heap.get?_push_of_some:=@Heap.get?_push_of_some
theorem zTz:type_of% @wpAny_pure:=@wpAny_pure
theorem zT0:type_of% @List.getElem?_eq_some_iff:=@List.getElem?_eq_some_iff
theorem zT6:type_of% @List.getElem?_eq_getElem:=@List.getElem?_eq_getElem
theorem zT7:type_of% @List.getD_eq_getElem?_getD:=@List.getD_eq_getElem?_getD
theorem zT8:type_of% @Nat.le_refl:=@Nat.le_refl
theorem zT9:type_of% @List.getElem?_append_left:=@List.getElem?_append_left
theorem zUA:type_of% @List.size_toArray:=@List.size_toArray
theorem zUB:type_of% @List.length_map:=@List.length_map
theorem zUC:type_of% @Heap.get?_push_size:=@Heap.get?_push_size
theorem zUD:type_of% @Heap.lt_size:=@Heap.lt_size
theorem zUE:type_of% @List.mem_cons:=@List.mem_cons
theorem zUF:type_of% @List.mem_cons_of_mem:=@List.mem_cons_of_mem
theorem zUG:type_of% @List.mem_cons_self:=@List.mem_cons_self
theorem zUH:type_of% @if_pos:=@if_pos
theorem zUI:type_of% @List.length_append:=@List.length_append
theorem zUJ:type_of% @List.mem_map:=@List.mem_map
theorem zUK:type_of% @if_neg:=@if_neg
theorem zUL:type_of% @List.map_cons:=@List.map_cons
theorem zUM:type_of% @List.mem_append_right:=@List.mem_append_right
theorem zUN:type_of% @Nat.ne_of_lt:=@Nat.ne_of_lt
theorem zUO:type_of% @Bool.false_ne_true:=@Bool.false_ne_true
theorem zUP:type_of% @List.getElem?_map:=@List.getElem?_map
theorem zUR:type_of% @Nat.lt_of_lt_of_le:=@Nat.lt_of_lt_of_le
theorem zUS:type_of% @List.mem_append:=@List.mem_append
theorem zUT:type_of% @Nat.le_trans:=@Nat.le_trans
theorem zUU:type_of% @List.mem_singleton:=@List.mem_singleton
theorem zUV:type_of% @wpAny_newObj_type:=@wpAny_newObj_type
theorem zUW:type_of% @List.getElem?_set_ne:=@List.getElem?_set_ne
theorem zUX:type_of% @List.not_mem_nil:=@List.not_mem_nil
theorem zUY:type_of% @wpAny_mono:=@wpAny_mono
theorem zUZ:type_of% @List.length_cons:=@List.length_cons
theorem zUa:type_of% @List.getElem_mem:=@List.getElem_mem
theorem zUb:type_of% @decide_eq_false:=@decide_eq_false
theorem zUc:type_of% @Bool.and_eq_true:=@Bool.and_eq_true
theorem zUd:type_of% @List.all_eq_true:=@List.all_eq_true
theorem zUe:type_of% @wpAny_callSpecial?_slot:=@wpAny_callSpecial?_slot
theorem zUf:type_of% @wpAny_call_entry:=@wpAny_call_entry
theorem zUh:type_of% @wpAny_field:=@wpAny_field
theorem zUi:type_of% @Heap.size_push:=@Heap.size_push
theorem zUj:type_of% @Heap.get?_update_other:=@Heap.get?_update_other
theorem zUk:type_of% @Nat.lt_irrefl:=@Nat.lt_irrefl
theorem zUl:type_of% @Array.length_toList:=@Array.length_toList
theorem zUm:type_of% @List.append_nil:=@List.append_nil
theorem zUn:type_of% @Array.getElem?_eq_getElem:=@Array.getElem?_eq_getElem
theorem zUo:type_of% @Nat.zero_le:=@Nat.zero_le
theorem zUp:type_of% @Heap.get?_update_self:=@Heap.get?_update_self
theorem zUr:type_of% @Nat.lt_succ_of_lt:=@Nat.lt_succ_of_lt
theorem zUs:type_of% @wpAny_seqItems:=@wpAny_seqItems
theorem zUt:type_of% @List.mem_of_getElem?:=@List.mem_of_getElem?
theorem zUu:type_of% @List.map_append:=@List.map_append
theorem zUv:type_of% @wpAny_holding:=@wpAny_holding
theorem zUw:type_of% @List.getElem?_set_self:=@List.getElem?_set_self
theorem zUx:type_of% @Around.under_plainId:=@Around.under_plainId
theorem zUy:type_of% @of_decide_eq_true:=@of_decide_eq_true
theorem zUz:type_of% @Nat.lt_succ_self:=@Nat.lt_succ_self
theorem zU1:type_of% @PySem.W.mg_none_of:=@PySem.W.mg_none_of
theorem zU2:type_of% @Option.some.inj:=@Option.some.inj
theorem zU3:type_of% @Bool.false_eq_true:=@Bool.false_eq_true
theorem zU4:type_of% @PySem.mem_of_lookup:=@PySem.mem_of_lookup
theorem zU5:type_of% @Heap.SameBut.update:=@Heap.SameBut.update
theorem zU6:type_of% @List.cons.inj:=@List.cons.inj
theorem zU7:type_of% @codeAny_builtin:=@codeAny_builtin
theorem zU8:type_of% @List.append_assoc:=@List.append_assoc
theorem zVA:type_of% @decide_eq_true:=@decide_eq_true
theorem zVB:type_of% @List.getElem?_eq_none:=@List.getElem?_eq_none
theorem zVC:type_of% @List.getElem?_append_right:=@List.getElem?_append_right
theorem zVF:type_of% @decide_eq_true_eq:=@decide_eq_true_eq
theorem zVG:type_of% @List.nodup_append:=@List.nodup_append
theorem zVH:type_of% @List.mem_append_left:=@List.mem_append_left
theorem zVI:type_of% @wpAny_setField_rec:=@wpAny_setField_rec
theorem zVJ:type_of% @Obj.data_mapFields:=@Obj.data_mapFields
theorem zVL:type_of% @List.replicate_succ:=@List.replicate_succ
theorem zVP:type_of% @wpAny_rule:=@wpAny_rule
theorem zVQ:type_of% @List.length_take:=@List.length_take
theorem zVW:type_of% @List.length_nil:=@List.length_nil
theorem zVX:type_of% @Nat.ne_of_gt:=@Nat.ne_of_gt
theorem zVa:type_of% @PyProof.Rows.slot_tuple_getitem:=@PyProof.Rows.slot_tuple_getitem
theorem zVb:type_of% @List.getElem?_set:=@List.getElem?_set
theorem zVd:type_of% @wpAny_attempt:=@wpAny_attempt
theorem zVf:type_of% @PySem.W.kia_one:=@PySem.W.kia_one
theorem zVh:type_of% @Array.getElem?_toList:=@Array.getElem?_toList
theorem zVn:type_of% @wpAny_setField:=@wpAny_setField
theorem zVo:type_of% @List.find?_cons:=@List.find?_cons
theorem zVp:type_of% @congrArg:=@congrArg
theorem zVu:type_of% @Int.emod_lt_of_pos:=@Int.emod_lt_of_pos
theorem zV4:type_of% @List.length_eq_zero_iff:=@List.length_eq_zero_iff
theorem zV7:type_of% @List.lookup_cons:=@List.lookup_cons
theorem zWC:type_of% @List.pairwise_cons:=@List.pairwise_cons
theorem zWK:type_of% @List.nil_append:=@List.nil_append
theorem zWL:type_of% @List.length_set:=@List.length_set
theorem zWm:type_of% @Int.toNat_natCast:=@Int.toNat_natCast
theorem zWp:type_of% @List.take_append_drop:=@List.take_append_drop
theorem zWy:type_of% @Nat.le_of_lt:=@Nat.le_of_lt
theorem zXH:type_of% @List.length_singleton:=@List.length_singleton
end
set_option Elab.async false
set_option linter.all false
set_option maxRecDepth 100000
set_option genSizeOf false
set_option genInjectivity false
noncomputable section
namespace L2
open PySem PySem.Spec PyProof.Rows
abbrev Key:=Sum Int Str
def zGz:Key -> Value -> Bool
 | .inl k,v=>Value.isInt k v
 | .inr x,v=>Value.isStrOf x v
def zTq (w:World):Key -> Int
 | .inl k=>hashInt k
 | .inr x=>hashStr w x
theorem zAK:∀ {k:Key} {v:Value},zGz k v = true -> (∃ i t,k = Sum.inl i /\ v = Value.int i t) \/ (∃ x t,k = Sum.inr x /\ v = Value.str x t)
 | .inl i,v,h=>by
  obtain ⟨t,e⟩:=Value.isInt_shape (k:=i) (v:=v) h;exact .inl ⟨i,t,rfl,e⟩
 | .inr x,v,h=>by
  obtain ⟨t,e⟩:=Value.isStrOf_shape (x:=x) (v:=v) h;exact .inr ⟨x,t,rfl,e⟩
theorem zMb (i:Int) (t:Tok):zGz (.inl i) (.int i t) = true:=by simp [zGz,Value.isInt]
theorem zLy (x:Str) (t:Tok):zGz (.inr x) (.str x t) = true:=by simp [zGz,Value.isStrOf]
theorem zRu (a b:Int):decide ((Sum.inl a:Key) = Sum.inl b) = (a == b):=by
 by_cases e:a = b
 ·subst e; simp
 ·have h:¬ (Sum.inl a:Key) = Sum.inl b:=fun q=>e (Sum.inl.inj q);rw [zUb h];exact (beq_eq_false_iff_ne.mpr e).symm
theorem zQY (a b:Str):decide ((Sum.inr a:Key) = Sum.inr b) = decide (a = b):=by
 by_cases e:a = b
 ·subst e; simp
 ·have h:¬ (Sum.inr a:Key) = Sum.inr b:=fun q=>e (Sum.inr.inj q);rw [zUb h,zUb e]
theorem zR5 (a:Int) (b:Str):decide ((Sum.inl a:Key) = Sum.inr b) = false:=zUb (fun q=>nomatch q)
theorem zRv (a:Str) (b:Int):decide ((Sum.inr a:Key) = Sum.inl b) = false:=zUb (fun q=>nomatch q)
def zv (prog:Program) (w:World):PySem.KeyKind prog w Key where
 is:=zGz
 hash:=zTq w
 inj:=fun v a b ha hb=>by
  rcases zAK ha with ⟨i,t,rfl,rfl⟩ | ⟨x,t,rfl,rfl⟩
  ·rcases zAK hb with ⟨j,u,rfl,e⟩ | ⟨y,u,rfl,e⟩
   ·injection e with e1 _; rw [e1]
   ·exact nomatch e
  ·rcases zAK hb with ⟨j,u,rfl,e⟩ | ⟨y,u,rfl,e⟩
   ·exact nomatch e
   ·injection e with e1 _; rw [e1]
 byValue:=fun k v h=>by
  rcases zAK h with ⟨i,t,rfl,rfl⟩ | ⟨x,t,rfl,rfl⟩ <;> rfl
 pyHash:=fun hv h=>by
  rcases zAK hv with ⟨i,t,rfl,rfl⟩ | ⟨x,t,rfl,rfl⟩
  ·exact wpAny_pyHash_int h
  ·exact wpAny_pyHash_str h
 eqBool:=fun hu hv h=>by
  rcases zAK hu with ⟨i,t,rfl,rfl⟩ | ⟨x,t,rfl,rfl⟩
  ·rcases zAK hv with ⟨j,u,rfl,rfl⟩ | ⟨y,u,rfl,rfl⟩
   ·rw [zRu] at h; exact wpAny_eqBool_int h
   ·rw [zR5] at h; exact SeqAt.EqAt.int_str i t y u _ _ _ _ h
  ·rcases zAK hv with ⟨j,u,rfl,rfl⟩ | ⟨y,u,rfl,rfl⟩
   ·rw [zRv] at h; exact SeqAt.EqAt.str_int x t j u _ _ _ _ h
   ·rw [zQY] at h; exact wpAny_eqBool_str h
 «strs»:=fun k x t v h=>by
  rcases zAK h with ⟨i,u,rfl,e⟩ | ⟨y,u,rfl,e⟩
  ·exact nomatch e
  ·injection e with e1 _
   subst e1
   cases v <;> rfl
theorem zIa (prog:Program) (w:World) (i:Int) (t:Tok):(zv prog w).is (.inl i) (.int i t) = true:=zMb i t
theorem zI8 (prog:Program) (w:World) (x:Str) (t:Tok):(zv prog w).is (.inr x) (.str x t) = true:=zLy x t
set_option genInjectivity true in
inductive V where
 | non | bl (b:Bool) | int (i:Int) | str (x:Str) | byt (b:Array UInt8) | flt (b:UInt64) | ref (a:Addr) | ty (n:String)
 deriving DecidableEq
def za:V -> Value -> Prop
 | .non,u=>u = Value.none
 | .bl b,u=>u = Value.bool b
 | .int i,u=>∃ t,u = Value.int i t
 | .str x,u=>∃ t,u = Value.str x t
 | .byt b,u=>∃ t,u = Value.bytes b t
 | .flt b,u=>∃ t,u = Value.float b t
 | .ref a,u=>u = Value.ref a
 | .ty n,u=>u = Value.type n
abbrev zU:List V -> List Value -> Prop:=Paired za
theorem zU.length {xs:List V} {us:List Value} (r:zU xs us):xs.length = us.length:=Paired.length r
theorem zU.get:∀ {xs:List V} {us:List Value} {i:Nat} {x:V},zU xs us -> xs[i]? = some x -> ∃ u,us[i]? = some u /\ za x u
 | _,_,_,_,.nil,e=>by simp at e
 | _,_,0,_,.cons r _,e=>by simp at e; subst e; exact ⟨_,rfl,r⟩
 | _,_,i + 1,x,.cons _ t,e=>by
  obtain ⟨u,h1,h2⟩:=zU.get (i:=i) (x:=x) t (by simpa using e);exact ⟨u,by simpa using h1,h2⟩
theorem zU.set {x:V} {u:Value} (r:za x u):∀ {xs:List V} {us:List Value} (i:Nat),zU xs us -> zU (xs.set i x) (us.set i u)
 | _,_,_,.nil=> .nil
 | _,_,0,.cons _ t=> .cons r t
 | _,_,i + 1,.cons q t=> .cons q (zU.set r i t)
theorem zU.append:∀ {xs ys:List V} {us ws:List Value},zU xs us -> zU ys ws -> zU (xs ++ ys) (us ++ ws)
 | _,_,_,_,.nil,s=>s
 | _,_,_,_,.cons r t,s=> .cons r (zU.append t s)
theorem zU.take:∀ {xs:List V} {us:List Value} (n:Nat),zU xs us -> zU (xs.take n) (us.take n)
 | _,_,0,_=> .nil
 | _,_,_ + 1,.nil=> .nil
 | _,_,n + 1,.cons r t=> .cons r (zU.take n t)
theorem zU.drop:∀ {xs:List V} {us:List Value} (n:Nat),zU xs us -> zU (xs.drop n) (us.drop n)
 | _,_,0,r=>r
 | _,_,_ + 1,.nil=> .nil
 | _,_,n + 1,.cons _ t=>zU.drop n t
def zF0:Option V -> Option Value -> Prop
 | some v,some u=>za v u
 | none,none=>True
 | _,_=>False
def KV {κ:Type}:List (κ × V) -> List (κ × Value) -> Prop:=Paired fun (p:κ × V) (q:κ × Value)=>p.1 = q.1 /\ za p.2 q.2
def kV:Key -> V
 | .inl i=> .int i
 | .inr x=> .str x
set_option genInjectivity true in
inductive HO where
 | lst (xs:List V)
 | tup (xs:List V)
 | dK (kvs:List (Key × V)) | dT (kvs:List (List Key × V))
 | set (S:Int -> Bool) (n:Nat)
 | ins (C dx:Addr) (fs:List (Str × V))
 | own (x:Addr)
 | xd (fs:List (Str × V))
 | met (f x:Addr)
 | rng (lo hi:Int)
 | frz (o:Obj) (u:HO)
 | tbl (ps:Array Value)
 | ext (φ:Heap -> Prop)
abbrev Hp:=Addr -> Option HO
def upd (H:Hp) (a:Addr) (o:HO):Hp:=fun b=>if b = a then some o else H b
theorem zg {H:Hp} {a:Addr} {o:HO}:upd H a o a = some o:=by unfold upd; rw [zUH rfl]
theorem zQ {H:Hp} {a b:Addr} {o:HO} (h:b ≠ a):upd H a o b = H b:=by unfold upd; rw [zUK h]
theorem zCb {H:Hp} {a b:Addr} {o u:HO} (h:H a = some o) (h':H b = some u) (d:o ≠ u):a ≠ b:=by
 intro e; subst e; rw [h] at h'; exact d (zU2 h')
theorem zX {H:Hp} {a b:Addr} {o:HO} (h:H a = some o) (h':H b = none):a ≠ b:=by
 intro e; subst e; rw [h] at h'; cases h'
def zBW (h:Heap) (a:Addr) (items:Array Value):Prop:=∃ o,h.get? a = some o /\ o.cls = .type "tuple" /\ (∃ n,o.data = .seq items n) /\ o.dict = none
theorem zBW.tup {h:Heap} {a:Addr} {items:Array Value} (x:zBW h a items):IsTup h a items:=let ⟨o,e,c,d,_⟩:=x; ⟨o,e,c,d⟩
theorem zBW.lt {h:Heap} {a:Addr} {items:Array Value} (x:zBW h a items):a < h.objs.size:=let ⟨_,e,_⟩:=x; zUD e
theorem zBW.new (h:Heap) (items:Array Value):zBW (h.push { cls:=.type "tuple", data:=.seq items }) h.objs.size items:=⟨_,zUC _ rfl,rfl,⟨_,rfl⟩,rfl⟩
section
variable (P:Program) (w:World)
def zk (H:Hp) (h:Heap) (a:Addr):HO -> Prop
 | .lst xs=>xs.length <= sizeLine /\ ∃ (its:List Value) (n:Nat),zU xs its /\ h.get? a = some { cls:=.type "list", data:=.seq its.toArray n }
 | .tup xs=>xs.length <= sizeLine /\ ∃ its:List Value,zU xs its /\ zBW h a its.toArray
 | .dK kvs=>kvs.length <= sizeLine /\ (a == sysModules) = false /\ ∃ vs,KV kvs vs /\ h.DictOf (zv P w) a vs
 | .dT kvs=>kvs.length <= sizeLine /\ (a == sysModules) = false /\ ∃ xs:List (List Key × Addr × Value),
   Paired (fun (p:List Key × V) (q:List Key × Addr × Value)=>p.1 = q.1 /\ H q.2.1 = some (.tup (p.1.map kV)) /\ za p.2 q.2.2) kvs xs /\
   ∃ o es ep,h.get? a = some o /\ o.ExactDict /\ o.data = .dict es ep /\ es.toList = xs.map (entryOfKey (tupleKind (zv P w))) /\ (xs.map (·.1)).Nodup
 | .set S n=>h.SetOf (intKind P w) a S n
 | .ins C dx fs=>H dx = some (.own a) /\ fs.length <= 1000 /\ dx ≠ a /\ h.get? a = some (PySem.W.instObj C dx) /\
   ∃ mA,h.Ns1 dx mA /\ (∀ f,zF0 (fs.lookup f) (mA f)) /\ PySem.Within mA (fs.map (·.1))
 | .own _=>∃ o,h.get? a = some o
 | .xd fs=>∃ mA,h.Ns1 a mA /\ ∀ f,zF0 (fs.lookup f) (mA f)
 | .rng lo hi=>∃ t u v,h.get? a = some { cls:=.type "range", data:=.fields #[.int lo t,.int hi u,.int 1 v] }
 | .frz o u=>h.get? a = some o /\ zk H h a u
 | .tbl ps=>h.get? a = some { cls:=.none,data:=.fields ps }
 | .met f x=>h.get? a = some (PySem.W.methodObj (.ref f) (.ref x))
 | .ext φ=>φ h /\ (∃ o,h.get? a = some o) /\ ∀ h1 h2:Heap,φ h1 -> (∀ o,h1.get? a = some o -> h2.get? a = some o) -> φ h2
def HOk (H:Hp) (h:Heap):Prop:=∀ a o,H a = some o -> zk P w H h a o
end
section
variable {P:Program} {w:World} {H H':Hp} {h h':Heap} {a:Addr} {o:HO}
theorem zk.lt (x:zk P w H h a o):a < h.objs.size:=by
 cases o with
 | lst xs=>obtain ⟨_,_,_,_,e⟩:=x; exact zUD e
 | tup xs=>obtain ⟨_,_,_,p⟩:=x; exact p.lt
 | dK kvs=>obtain ⟨_,_,_,_,o,_,_,e,_⟩:=x; exact zUD e
 | dT kvs=>obtain ⟨_,_,_,_,o,_,_,e,_⟩:=x; exact zUD e
 | set S n=>obtain ⟨o,_,_,_,e,_⟩:=x; exact zUD e
 | ins C dx fs=>obtain ⟨_,_,_,e,_⟩:=x; exact zUD e
 | own y=>obtain ⟨_,e⟩:=x; exact zUD e
 | xd fs=>obtain ⟨_,⟨_,_,_,e,_⟩,_⟩:=x; exact zUD e
 | rng lo hi=>obtain ⟨_,_,_,e⟩:=x; exact zUD e
 | frz ob u=>obtain ⟨e,_⟩:=x; exact zUD e
 | tbl ps=>exact zUD (show h.get? a = some _ from x)
 | met f y=>exact zUD (show h.get? a = some _ from x)
 | ext φ=>obtain ⟨_,⟨_,e⟩,_⟩:=x; exact zUD e
theorem Paired.mapP {α β:Type} {F G:α -> β -> Prop}:∀ {l₁:List α} {l₂:List β},Paired F l₁ l₂ -> (∀ a b,F a b -> G a b) -> Paired G l₁ l₂
 | _,_,.nil,_=> .nil
 | _,_,.cons r t,f=> .cons (f _ _ r) (Paired.mapP t f)
theorem zk.stay (x:zk P w H h a o) (k:∀ b u,(b = a \/ H b = some (.own a)) -> h.get? b = some u -> h'.get? b = some u)
  (ho:∀ b,H b = some (.own a) -> H' b = some (.own a)) (ht:∀ b xs,H b = some (.tup xs) -> H' b = some (.tup xs)):zk P w H' h' a o:=by
 induction o with
 | lst xs=>obtain ⟨z,its,n,r,e⟩:=x; exact ⟨z,its,n,r,k _ _ (.inl rfl) e⟩
 | tup xs=>obtain ⟨z,its,r,ob,e,c⟩:=x; exact ⟨z,its,r,ob,k _ _ (.inl rfl) e,c⟩
 | dK kvs=>obtain ⟨z,y,vs,r,ob,es,ep,e,c⟩:=x; exact ⟨z,y,vs,r,ob,es,ep,k _ _ (.inl rfl) e,c⟩
 | dT kvs=>
  obtain ⟨z,y,xs,r,ob,es,ep,e,c⟩:=x;exact ⟨z,y,xs,Paired.mapP r fun p q z=>⟨z.1,ht _ _ z.2.1,z.2.2⟩,ob,es,ep,k _ _ (.inl rfl) e,c⟩
 | set S n=>obtain ⟨ob,es,ep,t,e,c⟩:=x; exact ⟨ob,es,ep,t,k _ _ (.inl rfl) e,c⟩
 | ins C dx fs=>
  obtain ⟨d,z,ne,e,mA,⟨od,es,ep,e2,c⟩,r⟩:=x;exact ⟨ho _ d,z,ne,k _ _ (.inl rfl) e,mA,⟨od,es,ep,k _ _ (.inr d) e2,c⟩,r⟩
 | own y=>obtain ⟨ob,e⟩:=x; exact ⟨ob,k _ _ (.inl rfl) e⟩
 | xd fs=>obtain ⟨mA,⟨od,es,ep,e,c⟩,r⟩:=x; exact ⟨mA,⟨od,es,ep,k _ _ (.inl rfl) e,c⟩,r⟩
 | rng lo hi=>obtain ⟨t,u,v,e⟩:=x; exact ⟨t,u,v,k _ _ (.inl rfl) e⟩
 | frz ob u ih=>obtain ⟨e,q⟩:=x; exact ⟨k _ _ (.inl rfl) e,ih q⟩
 | tbl ps=>
  have e:h.get? a = some { cls:=.none,data:=.fields ps }:=x;show h'.get? a = some { cls:=.none,data:=.fields ps };exact k a _ (.inl rfl) e
 | met f y=>
  have e:h.get? a = some (PySem.W.methodObj (.ref f) (.ref y)):=x;show h'.get? a = some (PySem.W.methodObj (.ref f) (.ref y));exact k a _ (.inl rfl) e
 | ext φ=>obtain ⟨p,⟨o,e⟩,st⟩:=x; exact ⟨st _ _ p fun o q=>k _ _ (.inl rfl) q,⟨o,k _ _ (.inl rfl) e⟩,st⟩
theorem HOk.lt (x:HOk P w H h) (e:H a = some o):a < h.objs.size:=(x a o e).lt
theorem HOk.fresh (x:HOk P w H h) (e:h.objs.size <= a):H a = none:=by
 cases q:H a with
 | none=>rfl
 | some u=>exact absurd (zUR (x.lt q) e) (zUk _)
theorem HOk.kept (x:HOk P w H h) (k:∀ b u,h.get? b = some u -> h'.get? b = some u):HOk P w H h':=fun a o e=>
 (x a o e).stay (fun b u _ q=>k b u q) (fun _ q=>q) fun _ _ q=>q
theorem HOk.laid (x:HOk P w H h) (k:∀ b u,h.get? b = some u -> h'.get? b = some u) (hp:h.objs.size <= a) (new:zk P w (upd H a o) h' a o):HOk P w (upd H a o) h':=fun b u e=>by
 have hn:=x.fresh hp;by_cases hb:b = a
 ·subst hb; rw [zg] at e; cases e; exact new
 ·rw [zQ hb] at e;exact (x b u e).stay (fun c v _ q=>k c v q) (fun c q=>by rw [zQ (zX q hn)]; exact q) fun c xs q=>by rw [zQ (zX q hn)]; exact q
end
def Rd (H:Hp) (a:Addr) (u:HO):Prop:=H a = some u \/ ∃ o,H a = some (.frz o u)
theorem Rd.ok {P:Program} {w:World} {H:Hp} {h:Heap} {a:Addr} {u:HO} (r:Rd H a u) (x:HOk P w H h):zk P w H h a u:=by
 rcases r with r | ⟨o,r⟩
 ·exact x a u r
 ·obtain ⟨_,q⟩:=x a _ r;exact q
def Mut:Option HO -> Prop
 | some (.lst _)=>True
 | some (.dK _)=>True
 | some (.dT _)=>True
 | some (.set _ _)=>True
 | some (.ins _ _ _)=>True
 | some (.ext _)=>True
 | _=>False
section
variable {P:Program} {w:World} {H:Hp} {h h':Heap} {x e:Addr} {o':HO}
theorem HOk.write (ok:HOk P w H h) (mu:Mut (H x)) (he:e = x \/ H e = some (.own x)) (k:∀ b u,b ≠ e -> h.get? b = some u -> h'.get? b = some u) (heo:∃ u,h'.get? e = some u)
  (new:zk P w (upd H x o') h' x o'):HOk P w (upd H x o') h':=fun b u q=>by
 have nown:∀ c y,H c = some (.own y) -> c ≠ x:=fun c y r z=>by subst z; rw [r] at mu; exact mu
 have ntup:∀ c xs,H c = some (.tup xs) -> c ≠ x:=fun c xs r z=>by subst z; rw [r] at mu; exact mu
 by_cases hb:b = x
 ·subst hb; rw [zg] at q; cases q; exact new
 ·rw [zQ hb] at q;by_cases hbe:b = e
  ·have q':H b = some (.own x):=by
    rcases he with z | z
    ·exact absurd (hbe.trans z) hb
    ·rw [hbe]; exact z
   rw [q] at q'; cases q';obtain ⟨v,hv⟩:=heo;exact ⟨v,by rw [hbe]; exact hv⟩
  ·refine (ok b u q).stay (fun c v hc r=>k c v ?_ r) (fun c r=>by rw [zQ (nown c b r)]; exact r) fun c xs r=>by rw [zQ (ntup c xs r)]; exact r
   rcases hc with rfl | hc
   ·exact hbe
   ·rintro rfl;rcases he with z | z
    ·exact nown c b hc z
    ·rw [hc] at z; cases z; exact hb rfl
end
structure Un (fs ex:List Addr) (H H':Hp) (h h':Heap):Prop where
 keep:∀ b o,h.get? b = some o -> H b = none -> b ∉ fs -> b ∉ ex -> h'.get? b = some o
 slot:∀ b o,h.get? b = some o -> H b = none -> b ∈ fs -> b ∉ ex -> ∃ sl,h'.get? b = some { o with slots:=sl }
 free:∀ b o,h.get? b = some o -> H b = none -> b ∉ ex -> H' b = none
 there:∀ b o,h.get? b = some o -> b ∉ ex -> ∃ o',h'.get? b = some o'
 tups:∀ b xs,H b = some (.tup xs) -> H' b = some (.tup xs)
 frzs:∀ b o u,H b = some (.frz o u) -> H' b = some (.frz o u)
 tbls:∀ b ps,H b = some (.tbl ps) -> ∃ more,H' b = some (.tbl (ps ++ more))
section
variable {fs fs' ex ex':List Addr} {H H1 H2:Hp} {h h1 h2 h':Heap} {a x e:Addr} {o:HO}
theorem Un.any (u:Un fs ex H H1 h h1) {b:Addr} {ob:Obj} (q:h.get? b = some ob) (n:H b = none) (hx:b ∉ ex):∃ sl,h1.get? b = some { ob with slots:=sl }:=by
 by_cases hb:b ∈ fs
 ·exact u.slot b ob q n hb hx
 ·exact ⟨ob.slots,u.keep b ob q n hb hx⟩
theorem Un.kept (k:∀ b u,h.get? b = some u -> h'.get? b = some u):Un fs ex H H h h' :=
 ⟨fun b ob q _ _ _=>k b ob q,fun b ob q _ _ _=>⟨ob.slots,k b ob q⟩,fun _ _ _ n _=>n,fun b ob q _=>⟨ob,k b ob q⟩,fun _ _ q=>q,fun _ _ _ q=>q,fun _ ps q=>⟨#[],by rw [q]; simp⟩⟩
theorem Un.refl:Un fs ex H H h h:=Un.kept fun _ _ q=>q
theorem Un.laid (k:∀ b u,h.get? b = some u -> h'.get? b = some u) (hp:h.objs.size <= a) (hn:H a = none):Un fs ex H (upd H a o) h h' where
 keep:=fun b u q _ _ _=>k b u q;slot:=fun b u q _ _ _=>⟨u.slots,k b u q⟩;free:=fun b u q n _=>by rw [zQ (zUN (zUR (zUD q) hp))]; exact n
 there:=fun b u q _=>⟨u,k b u q⟩;tups:=fun b xs q=>by rw [zQ (zX q hn)]; exact q
 frzs:=fun b u xs q=>by rw [zQ (zX q hn)]; exact q
 tbls:=fun b ps q=>⟨#[],by rw [zQ (zX q hn),q]; simp⟩
theorem Un.write (mu:Mut (H x)) (he:e = x \/ H e = some (.own x)) (k:∀ b u,b ≠ e -> h.get? b = some u -> h'.get? b = some u) (heo:∃ u,h'.get? e = some u):Un fs ex H (upd H x o) h h':=by
 have hx:∀ b,H b = none -> b ≠ x:=fun b n z=>by subst z; rw [n] at mu; exact mu
 have hb:∀ b,H b = none -> b ≠ e:=fun b n z=>by
  subst z;rcases he with r | r
  ·exact hx b n r
  ·rw [n] at r; cases r
 have hm:∀ b u,H b = some u -> ¬ Mut (some u) -> b ≠ x:=fun b u q nm z=>by subst z; rw [q] at mu; exact nm mu
 refine ⟨fun b u q n _ _=>k b u (hb b n) q,fun b u q n _ _=>⟨u.slots,k b u (hb b n) q⟩,fun b u q n _=>by rw [zQ (hx b n)]; exact n,fun b u q _=>?_,
  fun b xs q=>by rw [zQ (hm b _ q fun z=>z)]; exact q,fun b u xs q=>by rw [zQ (hm b _ q fun z=>z)]; exact q,fun b ps q=>⟨#[],by rw [zQ (hm b _ q fun z=>z),q]; simp⟩⟩
 by_cases hbe:b = e
 ·subst hbe; exact heo
 ·exact ⟨u,k b u hbe q⟩
end
def trk (h:Heap) (H:Hp):List Addr:=(List.range h.objs.size).filter fun a=>(H a).isSome
def zGS (h:Heap) (H:Hp):Heap:=PySem.W.hideAll h (trk h H)
theorem zLh (h:Heap) (H:Hp):(zGS h H).objs.size = h.objs.size:=PySem.W.hideAll_size _ _
theorem zNL {h:Heap} {H:Hp} {b:Addr} {o:Obj} (e:h.get? b = some o) (n:H b = none):(zGS h H).get? b = some o :=
 PySem.W.hideAll_get _ e fun hm=>by
  have q:(H b).isSome = true:=(List.mem_filter.mp hm).2;rw [n] at q; simp at q
theorem zPF {h:Heap} {H:Hp} {b:Addr} {o:Obj} (e:(zGS h H).get? b = some o):h.get? b = some o /\ H b = none:=by
 have e':h.get? b = some o:=PySem.W.of_hideAll (trk h H) e;refine ⟨e',?_⟩;cases q:H b with
 | none=>rfl
 | some x=>
  have hm:b ∈ trk h H:=List.mem_filter.mpr ⟨List.mem_range.mpr (zUD e'),by simp [q]⟩;have z:(zGS h H).get? b = none:=PySem.W.hideAll_none (trk h H) hm;rw [z] at e; cases e
def BMn (mg:Str -> Option Value) (h:Heap):Prop:=∃ bm ob,mg "__builtins__" = some (.ref bm) /\ bm ≠ builtinsNs /\ h.get? bm = some ob /\ ob.cls = .type "module" /\ ob.dict = some builtinsNs /\ ob.data = .plain
structure Mod (K:PySem.W.Frag) (mg:Str -> Option Value) (base:Heap):Prop where
 kin:K.In base
 glob:base.Ns mainGlobals mg
 blt:∃ mb,base.Ns builtinsNs mb /\ ∀ x:Str,x ≠ "__name__" -> mb x = bootBuiltins x
 nolimit:base.NoLimit
 bmn:BMn mg base
structure Cx where
 prog:Program
 w:World
 K:PySem.W.Frag
 mg:Str -> Option Value
 base:Heap
 A:Around
 N:List Str
 s₀:Shared
 H₀:Hp
 env:Env
 outer:List Env
 stack:List Env
 ex:List Addr
 fn:Str -> Bool
 calm:Bool
 pn:List (Addr × Obj)
 xe:Value -> Shared -> Prop
def frs (l:List Env):List Addr:=l.filterMap (·.frame)
abbrev Cx.fs (X:Cx):List Addr:=frs X.outer
def Vis (sc:Scope) (x:Str):Prop:=sc.names.lookup x = some .local \/ sc.names.lookup x = some .cell \/ sc.names.lookup x = some .free
def Loc (sc:Scope) (x:Str):Prop:=sc.names.lookup x = some .local \/ sc.names.lookup x = some .cell
def zTR (env:Env) (h:Heap) (m:Str -> Option Value) (x:Str) (u:Value):Prop :=
 (env.kindOf x = some .local /\ m x = some u) \/ ((env.kindOf x = some .cell \/ env.kindOf x = some .free) /\ ∃ c,env.cells.lookup x = some c /\ h.IsCell c (some u))
structure Cx.Ok (X:Cx):Prop where
 mod:Mod X.K X.mg X.base
 kind:X.env.scope.kind = .function
 glob:X.env.globals = mainGlobals
 blt:X.env.builtins = builtinsNs
 above:X.s₀.heap.objs.size <= X.env.locals
 inj:∀ x y c,X.env.cells.lookup x = some c -> X.env.cells.lookup y = some c -> x = y
 has:∀ x,(X.env.kindOf x = some .cell \/ X.env.kindOf x = some .free) -> ∃ c,X.env.cells.lookup x = some c
 cab:∀ x c,X.fn x = true -> X.env.cells.lookup x = some c -> X.s₀.heap.objs.size <= c
 hd:X.calm = true -> X.A.handled = none
 frames:X.A.frames = some X.stack
 stk:X.stack = X.outer \/ (X.stack = X.env :: X.outer /\ X.env.frame = some X.env.locals)
 exf:∀ b ∈ X.ex,b ≠ X.env.locals /\ ∀ x c,X.env.cells.lookup x = some c -> c ≠ b
 bs:∀ b o,X.base.get? b = some o -> X.s₀.heap.get? b = some o /\ X.H₀ b = none
 bsz:X.base.objs.size <= X.s₀.heap.objs.size
 noex:∀ b o,X.base.get? b = some o -> b ∉ X.ex
 exfs:∀ b ∈ X.ex,b ∉ X.fs
 funs:X.s₀.heap.FunFrames X.base X.outer
 frf:∀ b ∈ X.fs,X.H₀ b = none
structure Inv (X:Cx) (zB:List (Addr × Obj)) (σ:List (Option V)) (H:Hp) (s:Shared):Prop where
 ok:X.Ok
 os:s.os = X.s₀.os
 bare:AllBare s.gens
 base:Un X.fs X.ex X.H₀ H X.s₀.heap s.heap
 loc:∃ m,s.heap.Ns X.env.locals m /\ ∀ (i:Nat) (x:Str) (v:V),X.N[i]? = some x -> σ[i]? = some (some v) -> Vis X.env.scope x -> ∃ u,za v u /\ zTR X.env s.heap m x u
 cell:∀ x c,X.env.cells.lookup x = some c -> ∃ v,s.heap.IsCell c v
 free:H X.env.locals = none
 freeC:∀ x c,X.env.cells.lookup x = some c -> H c = none
 pin:∀ p ∈ X.pn ++ zB,s.heap.get? p.1 = some p.2 /\ H p.1 = none /\ p.1 ≠ X.env.locals /\ p.1 ∉ X.fs /\ ∀ v,p.2.data ≠ .cell v
 hok:HOk X.prog X.w H s.heap
 len:σ.length = X.N.length
section
variable {X:Cx} {zB:List (Addr × Obj)} {σ:List (Option V)} {H H':Hp} {s:Shared} {h':Heap}
theorem Cx.Ok.nofr (ok:X.Ok) {b:Addr} {o:Obj} (e:X.base.get? b = some o):b ∉ X.fs:=fun hb=>by
 have:=(ok.funs.mem hb).1;rw [e] at this; cases this
theorem Inv.bs (I:Inv X zB σ H s):∀ b o,X.base.get? b = some o -> s.heap.get? b = some o /\ H b = none:=fun b o e=>
 ⟨I.base.keep b o (I.ok.bs b o e).1 (I.ok.bs b o e).2 (I.ok.nofr e) (I.ok.noex b o e),I.base.free b o (I.ok.bs b o e).1 (I.ok.bs b o e).2 (I.ok.noex b o e)⟩
theorem Inv.bk (I:Inv X zB σ H s):∀ b o,X.base.get? b = some o -> s.heap.get? b = some o:=fun b o e=>(I.bs b o e).1
theorem Inv.mod (I:Inv X zB σ H s):Mod X.K X.mg X.base:=I.ok.mod
theorem Inv.kIn (I:Inv X zB σ H s):X.K.In s.heap:=I.ok.mod.kin.keeps I.bk
theorem Inv.lt (I:Inv X zB σ H s):X.env.locals < s.heap.objs.size:=let ⟨_,hn,_⟩:=I.loc; hn.lt
theorem Inv.sz (I:Inv X zB σ H s):X.s₀.heap.objs.size <= s.heap.objs.size:=zUT I.ok.above (zWy I.lt)
theorem Inv.nofs (I:Inv X zB σ H s) {a:Addr} (h:s.heap.objs.size <= a):a ∉ X.fs:=fun hb=>by
 obtain ⟨_,o,ho,_⟩:=I.ok.funs.mem hb;exact absurd (zUR (zUD ho) (zUT I.sz h)) (zUk _)
theorem Inv.cne (I:Inv X zB σ H s):∀ x c,X.env.cells.lookup x = some c -> c ≠ X.env.locals:=fun x c e z=>by
 obtain ⟨v,o,ho,hd⟩:=I.cell x c e;obtain ⟨m,⟨o',es,ep,ho',hd',_⟩,_⟩:=I.loc;rw [z,ho'] at ho; cases ho; rw [hd'] at hd; cases hd
theorem Inv.funs (I:Inv X zB σ H s):s.heap.FunFrames X.base X.outer:=by
 have all:∀ (l:List Env),(∀ b ∈ frs l,b ∈ X.fs) -> X.s₀.heap.FunFrames X.base l -> s.heap.FunFrames X.base l:=by
  intro l;induction l with
  | nil=>intro _ _; trivial
  | cons env r ih=>
   intro hs hl;obtain ⟨hk,⟨L,o,hf,hn,ho,hd⟩,hr⟩:=hl;have hL:L ∈ X.fs:=hs L (by unfold frs; rw [List.filterMap_cons,hf]; exact zUG);obtain ⟨sl,e⟩:=I.base.slot L o ho (I.ok.frf L hL) hL fun z=>I.ok.exfs L z hL;exact ⟨hk,⟨L,_,hf,hn,e,hd⟩,ih (fun b hb=>hs b (by unfold frs; rw [List.filterMap_cons,hf]; exact zUF _ hb)) hr⟩
 exact all X.outer (fun _ hb=>hb) I.ok.funs
theorem Inv.stack (I:Inv X zB σ H s):s.heap.FunFrames X.base X.stack:=by
 rcases I.ok.stk with e | ⟨e,hf⟩
 ·rw [e]; exact I.funs
 ·rw [e];obtain ⟨m,hn,_⟩:=I.loc;refine .cons (by rw [I.ok.kind]; decide) hf hn ?_ I.funs;exact Heap.get?_none_of_le (zUT I.ok.bsz I.ok.above)
theorem Inv.stkSub (I:Inv X zB σ H s):∀ b ∈ frs X.stack,b ∈ X.env.locals :: X.fs:=fun b hb=>by
 rcases I.ok.stk with e | ⟨e,hf⟩
 ·rw [e] at hb; exact zUF _ hb
 ·rw [e] at hb;unfold frs at hb;rw [List.filterMap_cons,hf] at hb;exact hb
theorem Inv.stkFree (I:Inv X zB σ H s):∀ b ∈ frs X.stack,H b = none:=fun b hb=>by
 rcases zUE.mp (I.stkSub b hb) with e | hb
 ·rw [e]; exact I.free
 ·obtain ⟨_,o,ho,_⟩:=I.ok.funs.mem hb;exact I.base.free b o ho (I.ok.frf b hb) fun z=>I.ok.exfs b z hb
theorem Inv.step {g':Array GenState} {t':Nat} {d':Drawn} {ch:List Addr} (I:Inv X zB σ H s)
  (hch:∀ b ∈ ch,(b ∈ X.ex \/ X.s₀.heap.objs.size <= b) /\ b ≠ X.env.locals /\ (∀ x c,X.env.cells.lookup x = some c -> c ≠ b) /\ ∀ p ∈ X.pn ++ zB,p.1 ≠ b)
  (keep:∀ b o,b ≠ X.env.locals -> b ∉ X.fs -> b ∉ ch -> s.heap.get? b = some o -> H b = none -> h'.get? b = some o)
  (slot:∀ b o,b ≠ X.env.locals -> b ∈ X.fs -> b ∉ ch -> s.heap.get? b = some o -> H b = none -> ∃ sl,h'.get? b = some { o with slots:=sl }) (free:∀ b o,b ∉ ch -> s.heap.get? b = some o -> H b = none -> H' b = none)
  (there:∀ b o,b ∉ ch -> s.heap.get? b = some o -> ∃ o',h'.get? b = some o')
  (tups:∀ b xs,H b = some (.tup xs) -> H' b = some (.tup xs)) (frzs:∀ b o u,H b = some (.frz o u) -> H' b = some (.frz o u)) (tbls:∀ b ps,H b = some (.tbl ps) -> ∃ more,H' b = some (.tbl (ps ++ more)))
  (ns:∀ m,s.heap.Ns X.env.locals m -> h'.Ns X.env.locals m) (hok:HOk X.prog X.w H' h') (hg:AllBare g') :
  Inv X zB σ H' { s with heap:=h',gens:=g',drawn:=d',toks:=t' }:=by
 have neL:∀ b o,X.s₀.heap.get? b = some o -> b ≠ X.env.locals:=fun b o e=>zUN (zUR (zUD e) I.ok.above);have neC:∀ b o,X.s₀.heap.get? b = some o -> b ∉ X.ex -> b ∉ ch:=fun b o e hx hb=>by
  rcases (hch b hb).1 with z | z
  ·exact hx z
  ·exact absurd (zUR (zUD e) z) (zUk _)
 have cellK:∀ x c,X.env.cells.lookup x = some c -> ∀ v,s.heap.IsCell c v -> h'.IsCell c v:=fun x c e v ⟨o,ho,hd⟩=>by
  have nch:c ∉ ch:=fun z=>(hch c z).2.2.1 x c e rfl;by_cases hc:c ∈ X.fs
  ·obtain ⟨sl,q⟩:=slot c o (I.cne x c e) hc nch ho (I.freeC x c e);exact ⟨_,q,hd⟩
  ·exact ⟨o,keep c o (I.cne x c e) hc nch ho (I.freeC x c e),hd⟩
 refine ⟨I.ok,I.os,hg,⟨fun b o e n hb hx=>?_,fun b o e n hb hx=>?_,fun b o e n hx=>?_,fun b o e hx=>?_,fun b xs e=>tups b xs (I.base.tups b xs e),fun b o xs e=>frzs b o xs (I.base.frzs b o xs e),fun b ps e=>?_⟩,?_,fun x c e=>?_,?_,fun x c e=>?_,fun p hp=>?_,hok,I.len⟩
 ·exact keep b o (neL b o e) hb (neC b o e hx) (I.base.keep b o e n hb hx) (I.base.free b o e n hx)
 ·obtain ⟨sl,e1⟩:=I.base.slot b o e n hb hx;obtain ⟨sl',e2⟩:=slot b _ (neL b o e) hb (neC b o e hx) e1 (I.base.free b o e n hx);exact ⟨sl',e2⟩
 ·obtain ⟨o',e1⟩:=I.base.there b o e hx;exact free b o' (neC b o e hx) e1 (I.base.free b o e n hx)
 ·obtain ⟨o',e1⟩:=I.base.there b o e hx;exact there b o' (neC b o e hx) e1
 ·obtain ⟨m1,e1⟩:=I.base.tbls b ps e;obtain ⟨m2,e2⟩:=tbls b _ e1;exact ⟨m1 ++ m2,by rw [e2,Array.append_assoc]⟩
 ·obtain ⟨m,hn,hl⟩:=I.loc;refine ⟨m,ns m hn,fun i x v e1 e2 e3=>?_⟩;obtain ⟨u,r,l⟩:=hl i x v e1 e2 e3;refine ⟨u,r,?_⟩;rcases l with l | ⟨k,c,e,z⟩
  ·exact .inl l
  ·exact .inr ⟨k,c,e,cellK x c e _ z⟩
 ·obtain ⟨v,z⟩:=I.cell x c e;exact ⟨v,cellK x c e v z⟩
 ·obtain ⟨m,⟨o,_,_,ho,_⟩,_⟩:=I.loc;exact free _ o (fun z=>(hch _ z).2.1 rfl) ho I.free
 ·obtain ⟨v,o,ho,hd⟩:=I.cell x c e;exact free c o (fun z=>(hch c z).2.2.1 x c e rfl) ho (I.freeC x c e)
 ·obtain ⟨e,n,ne,nf,d⟩:=I.pin p hp;have nch:p.1 ∉ ch:=fun z=>(hch p.1 z).2.2.2 p hp rfl;exact ⟨keep p.1 p.2 ne nf nch e n,free p.1 p.2 nch e n,ne,nf,d⟩
theorem Inv.un {t':Nat} (I:Inv X zB σ H s) (u:Un X.fs [] H H' s.heap h') (hok:HOk X.prog X.w H' h'):Inv X zB σ H' { s with heap:=h',toks:=t' }:=by
 obtain ⟨m,⟨o,es,ep,ho,r⟩,_⟩:=id I.loc;obtain ⟨sl,hL⟩:=u.any ho I.free (by simp);exact I.step (g':=s.gens) (d':=s.drawn) (ch:=[]) (fun _ z=>nomatch z) (fun b o _ hb _ e n=>u.keep b o e n hb (by simp)) (fun b o _ hb _ e n=>u.slot b o e n hb (by simp)) (fun b o _ e n=>u.free b o e n (by simp)) (fun b o _ e=>u.there b o e (by simp)) u.tups u.frzs u.tbls (fun m' hm=>by
  obtain ⟨o',es',ep',ho',r'⟩:=hm;rw [ho] at ho'; cases ho';exact ⟨_,es',ep',hL,r'⟩) hok I.bare
theorem Inv.call {g':Array GenState} {t':Nat} {d':Drawn} {ch:List Addr} (I:Inv X zB σ H s) (u:Un (frs X.stack) ch H H' s.heap h') (hok:HOk X.prog X.w H' h') (hg:AllBare g')
  (hch:∀ b ∈ ch,(b ∈ X.ex \/ X.s₀.heap.objs.size <= b) /\ b ≠ X.env.locals /\ (∀ x c,X.env.cells.lookup x = some c -> c ≠ b) /\ ∀ p ∈ X.pn ++ zB,p.1 ≠ b) :
  Inv X zB σ H' { s with heap:=h',gens:=g',drawn:=d',toks:=t' }:=by
 obtain ⟨m,⟨o,es,ep,ho,r⟩,_⟩:=id I.loc;obtain ⟨sl,hL⟩:=u.any ho I.free fun z=>(hch _ z).2.1 rfl;exact I.step (ch:=ch) hch (fun b o hL hb hc e n=>u.keep b o e n (fun z=>(zUE.mp (I.stkSub b z)).elim hL hb) hc) (fun b o _ _ hc e n=>u.any e n hc) (fun b o hc e n=>u.free b o e n hc) (fun b o hc e=>u.there b o e hc) u.tups u.frzs u.tbls (fun m' hm=>by
  obtain ⟨o',es',ep',ho',r'⟩:=hm;rw [ho] at ho'; cases ho';exact ⟨_,es',ep',hL,r'⟩) hok hg
theorem Inv.turned {t':Nat} {it:Addr} (I:Inv X zB σ H s) (k:∀ b o,b ≠ it -> s.heap.get? b = some o -> h'.get? b = some o) (hn:H it = none) (hL:it ≠ X.env.locals)
  (h1:it ∈ X.ex \/ X.s₀.heap.objs.size <= it) (h2:∀ x c,X.env.cells.lookup x = some c -> c ≠ it) (h3:∀ p ∈ X.pn ++ zB,p.1 ≠ it):Inv X zB σ H { s with heap:=h',toks:=t' }:=by
 have nit:∀ b u,H b = some u -> b ≠ it:=fun b u e z=>by rw [z,hn] at e; cases e
 refine I.step (g':=s.gens) (d':=s.drawn) (ch:=[it]) (fun b hb=>?_) (fun b o _ _ hc e _=>k b o (fun z=>hc (by simp [z])) e) (fun b o _ _ hc e _=>⟨o.slots,k b o (fun z=>hc (by simp [z])) e⟩) (fun _ _ _ _ n=>n)
  (fun b o hc e=>⟨o,k b o (fun z=>hc (by simp [z])) e⟩) (fun _ _ e=>e) (fun _ _ _ e=>e) (fun b ps e=>⟨#[],by rw [e]; simp⟩) (fun m hm=>?_) (fun b u e=>?_) I.bare
 ·have e:b = it:=by simpa using hb
  subst e;exact ⟨h1,hL,h2,h3⟩
 ·obtain ⟨o,es,ep,ho,r⟩:=hm;exact ⟨o,es,ep,k _ o (Ne.symm hL) ho,r⟩
 ·refine (I.hok b u e).stay (fun c v hc q=>k c v ?_ q) (fun _ q=>q) fun _ _ q=>q;rcases hc with z | z
  ·rw [z]; exact nit b u e
  ·exact nit c _ z
theorem Inv.tok (I:Inv X zB σ H s) (t:Nat):Inv X zB σ H { s with toks:=t }:=I.un (h':=s.heap) (t':=t) Un.refl I.hok
theorem Inv.kept {t':Nat} (I:Inv X zB σ H s) (k:∀ b u,s.heap.get? b = some u -> h'.get? b = some u):Inv X zB σ H { s with heap:=h',toks:=t' }:=I.un (Un.kept k) (I.hok.kept k)
theorem Inv.laid {a:Addr} {o:HO} {t':Nat} (I:Inv X zB σ H s) (k:∀ b u,s.heap.get? b = some u -> h'.get? b = some u) (hp:s.heap.objs.size <= a) (new:zk X.prog X.w (upd H a o) h' a o) :
  Inv X zB σ (upd H a o) { s with heap:=h',toks:=t' }:=I.un (Un.laid k hp (I.hok.fresh hp)) (I.hok.laid k hp new)
theorem Inv.write {x e:Addr} {o:HO} {t':Nat} (I:Inv X zB σ H s) (mu:Mut (H x)) (he:e = x \/ H e = some (.own x)) (k:∀ b u,b ≠ e -> s.heap.get? b = some u -> h'.get? b = some u) (heo:∃ u,h'.get? e = some u)
  (new:zk X.prog X.w (upd H x o) h' x o):Inv X zB σ (upd H x o) { s with heap:=h',toks:=t' }:=I.un (Un.write mu he k heo) (I.hok.write mu he k heo new)
theorem Inv.weak {σ':List (Option V)} (I:Inv X zB σ H s) (hl:σ'.length = σ.length) (w:∀ (i:Nat) v,σ'[i]? = some (some v) -> σ[i]? = some (some v)):Inv X zB σ' H s :=
 ⟨I.ok,I.os,I.bare,I.base,let ⟨m,hn,hl'⟩:=I.loc; ⟨m,hn,fun i x v e1 e2 e3=>hl' i x v e1 (w i v e2) e3⟩,I.cell,I.free,I.freeC,I.pin,I.hok,hl.trans I.len⟩
theorem Inv.pins_of {pins':List (Addr × Obj)} (I:Inv X zB σ H s) (h:∀ p ∈ pins',s.heap.get? p.1 = some p.2 /\ H p.1 = none /\ p.1 ≠ X.env.locals /\ p.1 ∉ X.fs /\ ∀ v,p.2.data ≠ .cell v):Inv X pins' σ H s :=
 ⟨I.ok,I.os,I.bare,I.base,I.loc,I.cell,I.free,I.freeC,fun p hp=>(zUS.mp hp).elim (fun z=>I.pin p (zVH _ z)) (h p),I.hok,I.len⟩
theorem zJB {N:List Str} (hN:N.Nodup) {i j:Nat} {x:Str} (a:N[i]? = some x) (b:N[j]? = some x):i = j:=by
 obtain ⟨h1,e1⟩:=zT0.mp a;obtain ⟨h2,e2⟩:=zT0.mp b;exact (List.getElem_inj hN).mp (e1.trans e2.symm)
theorem zMV {M:Model} {A:Around} {E:Value -> Shared -> Prop} {i:Nat} {x:Str} {v:V} {u:Value} {Q:Unit -> Shared -> Prop} (I:Inv X zB σ H s) (hN:X.N.Nodup) (hi:X.N[i]? = some x) (hx:Loc X.env.scope x) (r:za v u)
  (h:∀ s',Inv X zB (σ.set i (some v)) H s' -> (∃ a,Heap.SameBut a s.heap s'.heap /\ (a = X.env.locals \/ X.env.cells.lookup x = some a)) -> Q () s') (hf:X.fn x = true \/ X.env.scope.names.lookup x = some .local:=by first | exact .inl rfl | exact .inr rfl | assumption):wpAny M A (storeName X.env x u) Q E s:=by
 obtain ⟨m,hn,hl⟩:=id I.loc;have hcls:(X.env.scope.kind == .class || (X.env.scope.kind == .module && X.env.locals != X.env.globals)) = false:=by rw [I.ok.kind]; rfl
 have hiσ:i < σ.length:=by rw [I.len]; exact (zT0.mp hi).1
 have cne:=I.cne;have tracked:∀ {a:Addr} {h':Heap},(∃ o,s.heap.get? a = some o /\ H a = none) -> Heap.SameBut a s.heap h' -> HOk X.prog X.w H h':=fun {a h'} ha hs b ob e=>by
  obtain ⟨_,_,hfree⟩:=ha;refine (I.hok b ob e).stay (fun c w' hc q=>(hs.2 c ?_).trans q) (fun _ q=>q) fun _ _ q=>q;rintro rfl;rcases hc with rfl | hc
  ·rw [hfree] at e; cases e
  ·rw [hfree] at hc; cases hc
 rcases hx with hk | hk
 ·refine wpAny_storeName_local hk hn (fun h' hn' hs=>?_) hcls;obtain ⟨oL,_,_,hoL,_⟩:=id hn;refine h _ ⟨I.ok,I.os,I.bare,⟨fun b o e n hb hx=>?_,fun b o e n hb hx=>?_,I.base.free,fun b o e hx=>?_,I.base.tups,I.base.frzs,I.base.tbls⟩,⟨_,hn',fun j y v' e1 e2 e3=>?_⟩,fun y c e=>?_,I.free,I.freeC,fun p hp=>?_,tracked ⟨oL,hoL,I.free⟩ hs,by simpa using I.len⟩ ⟨_,hs,.inl rfl⟩
  ·exact (hs.2 b (zUN (zUR (zUD e) I.ok.above))).trans (I.base.keep b o e n hb hx)
  ·obtain ⟨sl,e1⟩:=I.base.slot b o e n hb hx;exact ⟨sl,(hs.2 b (zUN (zUR (zUD e) I.ok.above))).trans e1⟩
  ·obtain ⟨o',e1⟩:=I.base.there b o e hx;exact ⟨o',(hs.2 b (zUN (zUR (zUD e) I.ok.above))).trans e1⟩
  ·by_cases hj:j = i
   ·subst hj;rw [hi] at e1; cases e1;rw [zUw hiσ] at e2;cases e2;exact ⟨u,r,.inl ⟨hk,by simp⟩⟩
   ·rw [zUW (Ne.symm hj)] at e2;obtain ⟨u',r',q⟩:=hl j y v' e1 e2 e3;refine ⟨u',r',?_⟩;rcases q with ⟨k,e⟩ | ⟨k,c,e,z⟩
    ·refine .inl ⟨k,?_⟩;have:y ≠ x:=fun e=>hj (zJB hN e1 (e ▸ hi));simp [this,e]
    ·exact .inr ⟨k,c,e,z.sameBut hs (cne y c e)⟩
  ·obtain ⟨w',z⟩:=I.cell y c e;exact ⟨w',z.sameBut hs (cne y c e)⟩
  ·obtain ⟨e,n,ne,nf,d⟩:=I.pin p hp;exact ⟨(hs.2 p.1 ne).trans e,n,ne,nf,d⟩
 ·have hfn:X.fn x = true:=by
   rcases hf with z | z
   ·exact z
   ·rw [z] at hk; cases hk
  obtain ⟨c,hc⟩:=I.ok.has x (.inl hk);obtain ⟨w',z⟩:=I.cell x c hc;refine wpAny_storeName_cell I.ok.kind hk hc z (fun h' hc' hs=>?_);obtain ⟨oc,hoc,hocd⟩:=id z;refine h { s with heap:=h' } ⟨I.ok,I.os,I.bare,⟨fun b o e n hb hx=>?_,fun b o e n hb hx=>?_,I.base.free,fun b o e hx=>?_,I.base.tups,I.base.frzs,I.base.tbls⟩,⟨m,hn.sameBut hs (Ne.symm (cne x c hc)),fun j y v' e1 e2 e3=>?_⟩,fun y c' e=>?_,I.free,I.freeC,fun p hp=>?_,tracked ⟨oc,hoc,I.freeC x c hc⟩ hs,by simpa using I.len⟩ ⟨c,hs,.inr hc⟩
  ·exact (hs.2 b (zUN (zUR (zUD e) (I.ok.cab x c hfn hc)))).trans (I.base.keep b o e n hb hx)
  ·obtain ⟨sl,e1⟩:=I.base.slot b o e n hb hx;exact ⟨sl,(hs.2 b (zUN (zUR (zUD e) (I.ok.cab x c hfn hc)))).trans e1⟩
  ·obtain ⟨o',e1⟩:=I.base.there b o e hx;exact ⟨o',(hs.2 b (zUN (zUR (zUD e) (I.ok.cab x c hfn hc)))).trans e1⟩
  ·by_cases hj:j = i
   ·subst hj;rw [hi] at e1; cases e1;rw [zUw hiσ] at e2;cases e2;exact ⟨u,r,.inr ⟨.inl hk,c,hc,hc'⟩⟩
   ·rw [zUW (Ne.symm hj)] at e2;obtain ⟨u',r',q⟩:=hl j y v' e1 e2 e3;refine ⟨u',r',?_⟩;rcases q with q | ⟨k,c',e,z'⟩
    ·exact .inl q
    ·refine .inr ⟨k,c',e,z'.sameBut hs ?_⟩;rintro rfl;exact hj (zJB hN e1 (I.ok.inj _ _ _ e hc ▸ hi))
  ·by_cases hcc:c' = c
   ·subst hcc; exact ⟨_,hc'⟩
   ·obtain ⟨w2,z2⟩:=I.cell y c' e;exact ⟨w2,z2.sameBut hs hcc⟩
  ·obtain ⟨e,n,ne,nf,d⟩:=I.pin p hp;refine ⟨(hs.2 p.1 ?_).trans e,n,ne,nf,d⟩;intro q;rw [q,hoc] at e;have q':oc = p.2:=zU2 e;exact d w' (by rw [<- q']; exact hocd)
theorem zIZ {M:Model} {A:Around} {E:Value -> Shared -> Prop} {i:Nat} {x:Str} {v:V} {u:Value} {Q:Unit -> Shared -> Prop} (I:Inv X zB σ H s) (hN:X.N.Nodup) (hi:X.N[i]? = some x) (hx:Loc X.env.scope x) (r:za v u)
  (h:∀ s',Inv X zB (σ.set i (some v)) H s' -> Q () s') (hf:X.fn x = true \/ X.env.scope.names.lookup x = some .local:=by first | exact .inl rfl | exact .inr rfl | assumption):wpAny M A (storeName X.env x u) Q E s :=
 zMV I hN hi hx r (fun s' I' _=>h s' I') hf
theorem Inv.call' {s':Shared} {ch:List Addr} (I:Inv X zB σ H s) (ho:s'.os = s.os) (u:Un (frs X.stack) ch H H' s.heap s'.heap) (hok:HOk X.prog X.w H' s'.heap) (hg:AllBare s'.gens)
  (hch:∀ b ∈ ch,(b ∈ X.ex \/ X.s₀.heap.objs.size <= b) /\ b ≠ X.env.locals /\ (∀ x c,X.env.cells.lookup x = some c -> c ≠ b) /\ ∀ p ∈ X.pn ++ zB,p.1 ≠ b):Inv X zB σ H' s':=by
 obtain ⟨h',g',d',t',o'⟩:=s';have e:o' = s.os:=ho;subst e;exact I.call (g':=g') (t':=t') (d':=d') u hok hg hch
end
abbrev XK:=Value -> Option Addr -> Hp -> Prop
abbrev St:=List (Option V)
abbrev VK:=V -> Hp -> Prop
abbrev TE:=St -> Hp -> VK -> Prop
abbrev TT:=St -> Hp -> (Bool -> Hp -> Prop) -> Prop
abbrev TA:=St -> Hp -> (List V -> Hp -> Prop) -> Prop
structure Ends where
 nx:St -> Hp -> Prop
 rt:VK
 bk:St -> Hp -> Prop:=fun _ _=>False
 ct:St -> Hp -> Prop:=fun _ _=>False
abbrev TS:=Ends -> St -> Hp -> Prop
def EP (X:Cx) (zB:List (Addr × Obj)) (σ:St) (Q:VK) (u:Value) (s':Shared):Prop:=∃ v H',Inv X zB σ H' s' /\ za v u /\ Q v H'
def TP (X:Cx) (zB:List (Addr × Obj)) (σ:St) (Q:Bool -> Hp -> Prop) (b:Bool) (s':Shared):Prop:=∃ H',Inv X zB σ H' s' /\ Q b H'
def AP (X:Cx) (zB:List (Addr × Obj)) (σ:St) (Q:List V -> Hp -> Prop) (us:List Value) (s':Shared):Prop:=∃ vs H',Inv X zB σ H' s' /\ zU vs us /\ Q vs H'
def SP (X:Cx) (zB:List (Addr × Obj)) (D:Ends) (f:Flow) (s':Shared):Prop :=
 match f with
 | .next=>∃ σ' H',Inv X zB σ' H' s' /\ D.nx σ' H'
 | .brk=>∃ σ' H',Inv X zB σ' H' s' /\ D.bk σ' H'
 | .cont=>∃ σ' H',Inv X zB σ' H' s' /\ D.ct σ' H'
 | .ret u=>∃ v σ' H',Inv X zB σ' H' s' /\ za v u /\ D.rt v H'
def PE (X:Cx) (e:Expr) (t:TE):Prop :=
 ∀ (zB:List (Addr × Obj)) (s:Shared) (σ:St) (H:Hp) (Q:VK),Inv X zB σ H s -> t σ H Q -> wpAny (model X.prog X.w) X.A (eval e X.env) (EP X zB σ Q) X.xe s
def PT (X:Cx) (e:Expr) (t:TT):Prop :=
 ∀ (zB:List (Addr × Obj)) (s:Shared) (σ:St) (H:Hp) (Q:Bool -> Hp -> Prop),Inv X zB σ H s -> t σ H Q -> wpAny (model X.prog X.w) X.A (isTrue e X.env (eval e X.env)) (TP X zB σ Q) X.xe s
def PW (X:Cx) (e:Expr) (t:TT):Prop :=
 ∀ (whole:Sem Value) (zB:List (Addr × Obj)) (s:Shared) (σ:St) (H:Hp) (Q:Bool -> Hp -> Prop),Inv X zB σ H s -> t σ H Q -> wpAny (model X.prog X.w) X.A (isTrue e X.env whole) (TP X zB σ Q) X.xe s
theorem PW.pt {X:Cx} {e:Expr} {t:TT} (h:PW X e t):PT X e t:=h _
def PA (X:Cx) (es:List Expr) (t:TA):Prop :=
 ∀ (pos:Pos) (zB:List (Addr × Obj)) (s:Shared) (σ:St) (H:Hp) (Q:List V -> Hp -> Prop),Inv X zB σ H s -> t σ H Q -> wpAny (model X.prog X.w) X.A (spliced (backTo pos (starEach es X.env))) (AP X zB σ Q) X.xe s
def PS (X:Cx) (st:Stmt) (t:TS):Prop :=
 ∀ (zB:List (Addr × Obj)) (s:Shared) (σ:St) (H:Hp) (D:Ends),Inv X zB σ H s -> t D σ H -> wpAny (model X.prog X.w) X.A (exec st X.env) (SP X zB D) X.xe s
def PSs (X:Cx) (st:List Stmt) (t:TS):Prop :=
 ∀ (zB:List (Addr × Obj)) (s:Shared) (σ:St) (H:Hp) (D:Ends),Inv X zB σ H s -> t D σ H -> wpAny (model X.prog X.w) X.A (execs st X.env) (SP X zB D) X.xe s
theorem thn {α:Type} {t:Sem α} {Q Q':α -> Shared -> Prop} {M:Model} {A:Around} {E:Value -> Shared -> Prop} {s:Shared} (h:wpAny M A t Q E s) (hQ:∀ a s,Q a s -> Q' a s):wpAny M A t Q' E s:=zUY h hQ fun _ _ x=>x
section
variable {X:Cx}
def zQi (i:Nat):TE:=fun σ H Q=>∃ v,σ[i]? = some (some v) /\ Q v H
def tC (v:V):TE:=fun _ H Q=>Q v H
theorem zOQ {i:Nat} {x:Str} {pos:Pos} (hN:X.N[i]? = some x) (hv:Vis X.env.scope x) (hd:(x == ("__debug__" : Str)) = false:=by decide) (hcd:(x == ("__classdict__" : Str)) = false:=by decide):PE X (.Name x pos) (zQi i):=by
 intro zB s σ H Q I h;obtain ⟨v,e,h⟩:=h;obtain ⟨m,hn,hl⟩:=I.loc;obtain ⟨u,r,l⟩:=hl i x v hN e hv;have fin:EP X zB σ Q u s:=⟨v,H,I,r,h⟩;rcases l with ⟨hk,hm⟩ | ⟨hk,c,hc,hcell⟩
 ·exact wpAny_Name (wpAny_loadName_local I.ok.kind hk hn hm fin) hd
 ·rcases hk with hk | hk
  ·exact wpAny_Name (wpAny_loadName_cell I.ok.kind hk hc hcell fin) hd
  ·exact wpAny_Name (wpAny_loadName_free I.ok.kind hk hc hcell fin hcd) hd
theorem zQa {i j pos}:PE X (.Constant (.int i) j pos) (tC (.int i)):=fun _ _ _ H _ I h=>wpAny_Constant_int ⟨.int i,H,I.tok _,⟨_,rfl⟩,h⟩
theorem zST {b j pos}:PE X (.Constant (.bool b) j pos) (tC (.bl b)):=fun _ _ _ H _ I h=>Constant_bool ⟨.bl b,H,I,rfl,h⟩
theorem zQq {j pos}:PE X (.Constant .none j pos) (tC .non):=fun _ _ _ H _ I h=>Constant_none ⟨.non,H,I,rfl,h⟩
theorem zQc {x j pos}:PE X (.Constant (.str x) j pos) (tC (.str x)):=fun _ _ _ H _ I h=>Calls.Constant_str ⟨.str x,H,I.tok _,⟨_,rfl⟩,h⟩
def Gl (X:Cx) (x:Str):Prop:=X.env.kindOf x = some .globalImplicit
theorem zLI {E:Value -> Shared -> Prop} {zB:List (Addr × Obj)} {s:Shared} {σ:St} {H:Hp} {x:Str} {u:Value} {pos:Pos} {Q:Value -> Shared -> Prop} (I:Inv X zB σ H s) (hg:Gl X x) (hm:X.mg x = some u) (h:Q u s)
  (hd:(x == ("__debug__" : Str)) = false:=by decide):wpAny (model X.prog X.w) X.A (eval (.Name x pos) X.env) Q E s :=
 Calls.Name_function_global I.ok.kind hg (Calls.loadGlobal_global (by rw [I.ok.glob]; exact I.mod.glob.keeps I.bk) hm h) hd
theorem zEk {E:Value -> Shared -> Prop} {zB:List (Addr × Obj)} {s:Shared} {σ:St} {H:Hp} {x:Str} {u:Value} {pos:Pos} {Q:Value -> Shared -> Prop} (I:Inv X zB σ H s) (hg:Gl X x) (hm:X.mg x = none) (hv:bootBuiltins x = some u) (h:Q u s)
  (hn:x ≠ "__name__" := by decide) (hd:(x == ("__debug__" : Str)) = false:=by decide):wpAny (model X.prog X.w) X.A (eval (.Name x pos) X.env) Q E s:=by
 obtain ⟨mb,h1,h2⟩:=I.mod.blt;exact Calls.Name_function_global I.ok.kind hg (Calls.loadGlobal_builtin (by rw [I.ok.glob]; exact I.mod.glob.keeps I.bk) hm (by rw [I.ok.blt]; exact h1.keeps I.bk) ((h2 x hn).trans hv) h) hd
theorem zP5 {x:Str} {v:V} {u:Value} {pos:Pos} (hg:Gl X x) (hm:X.mg x = none) (hv:bootBuiltins x = some u) (r:za v u) (hn:x ≠ "__name__" := by decide) (hd:(x == ("__debug__" : Str)) = false:=by decide):PE X (.Name x pos) (tC v) :=
 fun _ _ _ H _ I h=>zEk I hg hm hv ⟨v,H,I,r,h⟩ hn hd
variable {a b:Expr} {ta tb:TE} {pos:Pos}
def PC (X:Cx) (op:CmpOp) (a b:Expr) (t:TE):Prop :=
 ∀ (zB:List (Addr × Obj)) (s:Shared) (σ:St) (H:Hp) (Q:VK),Inv X zB σ H s -> t σ H Q ->
  wpAny (model X.prog X.w) X.A (eval a X.env) (fun v s₁=>wpAny (model X.prog X.w) X.A (eval b X.env) (fun u s₂=>wpAny (model X.prog X.w) X.A (compareOp op v u) (EP X zB σ Q) X.xe s₂) X.xe s₁) X.xe s
def tB (t:TE):TT:=fun σ H Q=>t σ H fun x H1=>∃ c,x = .bl c /\ Q c H1
theorem zRi {op:CmpOp} {t:TE} (h:PC X op a b t) (h1:behindInMarks op b = false:=by first | exact nobehind _ (by decide) (by decide) | rfl):PT X (.Compare a [op] [b] pos) (tB t):=by
 intro zB s σ H Q I hw;refine wpAny_isTrue_Compare1 (thn (h zB s σ H _ I hw) fun v s1 h1=>thn h1 fun u s2 h2=>thn h2 fun c s3 ⟨x,H1,I1,r1,q1⟩=>?_) h1;obtain ⟨d,rfl,q⟩:=q1;cases r1;exact wpAny_truthy_bool ⟨H1,I1,q⟩
theorem zR8 {e:Expr} {t:TE} (h:PE X e t) (he:∀ whole,isTrue e X.env whole = (do let v <- whole; standAt e.pos; holding [v] (truthy v)):=by intro _; rfl):PT X e (tB t):=by
 intro zB s σ H Q I hw;refine isTrue_plain (thn (h zB s σ H _ I hw) fun v s1 ⟨x,H1,I1,r1,q1⟩=>?_) (he _);obtain ⟨d,rfl,q⟩:=q1;cases r1;exact wpAny_truthy_bool ⟨H1,I1,q⟩
variable {tA tB':TT} {rest:List Expr}
def zTt (t u:TT):TT:=fun σ H Q=>t σ H fun c H1=>if c = true then u σ H1 Q else Q false H1
def tOr (t u:TT):TT:=fun σ H Q=>t σ H fun c H1=>if c = true then Q true H1 else u σ H1 Q
def zTg (t:TT):TT:=fun σ H Q=>t σ H fun c H1=>Q (!c) H1
theorem zPB (ha:PT X a tA):PW X (.BoolOp .And [a] pos) tA:=by
 intro wh zB s σ H Q I h;refine isTrue_and (thn (ha zB s σ H Q I h) fun c s1 e=>?_);cases c with
 | true=>exact isTrue_and_nil e
 | false=>exact e
theorem zQX (ha:PT X a tA):PW X (.BoolOp .Or [a] pos) tA:=by
 intro wh zB s σ H Q I h;refine isTrue_or (thn (ha zB s σ H Q I h) fun c s1 e=>?_);cases c with
 | false=>exact isTrue_or_nil e
 | true=>exact e
theorem zRL (ha:PT X a tA) (hb:PW X (.BoolOp .And (b :: rest) pos) tB'):PW X (.BoolOp .And (a :: b :: rest) pos) (zTt tA tB'):=by
 intro wh zB s σ H Q I h;refine isTrue_and (thn (ha zB s σ H _ I h) fun c s1 ⟨H1,I1,q1⟩=>?_);cases c with
 | true=>exact hb wh zB s1 σ H1 Q I1 q1
 | false=>exact ⟨H1,I1,q1⟩
theorem zSH (ha:PT X a tA) (hb:PW X (.BoolOp .Or (b :: rest) pos) tB'):PW X (.BoolOp .Or (a :: b :: rest) pos) (tOr tA tB'):=by
 intro wh zB s σ H Q I h;refine isTrue_or (thn (ha zB s σ H _ I h) fun c s1 ⟨H1,I1,q1⟩=>?_);cases c with
 | true=>exact ⟨H1,I1,q1⟩
 | false=>exact hb wh zB s1 σ H1 Q I1 q1
theorem zRE (ha:PT X a tA):PT X (.UnaryOp .Not a pos) (zTg tA):=by
 intro zB s σ H Q I h;exact isTrue_not (ha zB s σ H (fun c H1=>Q (!c) H1) I h)
def zSY (ta tb:TE):TE:=fun σ H Q=>ta σ H fun x H1=>∃ c,x = .bl c /\ if c = true then tb σ H1 Q else Q (.bl false) H1
def zSm (ta:TE):TE:=fun σ H Q=>ta σ H fun x H1=>∃ c,x = .bl c /\ Q (.bl (!c)) H1
theorem zQk {op} {t:TE} (h:PE X a t):PE X (.BoolOp op [a] pos) t:=fun zB s σ H Q I hw=>BoolOp_one (h zB s σ H Q I hw)
theorem zRB (ha:PE X a ta) (hb:PE X (.BoolOp .And (b :: rest) pos) tb):PE X (.BoolOp .And (a :: b :: rest) pos) (zSY ta tb):=by
 intro zB s σ H Q I h;refine BoolOp_and (thn (ha zB s σ H _ I h) fun v s1 ⟨x,H1,I1,r1,q1⟩=>?_);obtain ⟨c,rfl,q1⟩:=q1;cases r1;refine wpAny_truthy_bool ?_;cases c with
 | true=>exact hb zB s1 σ H1 Q I1 q1
 | false=>exact ⟨.bl false,H1,I1,rfl,q1⟩
theorem zRh (ha:PE X a ta):PE X (.UnaryOp .Not a pos) (zSm ta):=by
 intro zB s σ H Q I h;refine UnaryOp_ (thn (ha zB s σ H _ I h) fun v s1 ⟨x,H1,I1,r1,q1⟩=>?_);obtain ⟨c,rfl,q1⟩:=q1;cases r1;exact not_of (wpAny_truthy_bool ⟨.bl (!c),H1,I1,rfl,q1⟩)
end
def SqL (K:PySem.W.Frag) (H:Hp) (a:Addr) (xs:List V):Prop :=
 Rd H a (.lst xs) \/
  ∃ (o:Obj) (its:Array Value) (n:Nat),K.lookup a = some o /\ o.cls = .type "list" /\ o.dict = none /\ o.data = .seq its n /\ its.size <= sizeLine /\ zU xs its.toList
def SqT (K:PySem.W.Frag) (H:Hp) (a:Addr) (xs:List V):Prop :=
 Rd H a (.tup xs) \/
  ∃ (o:Obj) (its:Array Value) (n:Nat),K.lookup a = some o /\ o.cls = .type "tuple" /\ o.data = .seq its n /\ its.size <= sizeLine /\ zU xs its.toList
def zTU:Value -> Option V
 | .none=>some .non
 | .bool b=>some (.bl b)
 | .int i _=>some (.int i)
 | .str x _=>some (.str x)
 | .bytes b _=>some (.byt b)
 | .float b _=>some (.flt b)
 | .ref a=>some (.ref a)
 | .type n=>some (.ty n)
 | _=>none
theorem za.abs {x:V} {u:Value} (r:za x u):zTU u = some x:=by
 cases x with
 | non=>cases r; rfl
 | bl _=>cases r; rfl
 | int _=>obtain ⟨t,rfl⟩:=r; rfl
 | str _=>obtain ⟨t,rfl⟩:=r; rfl
 | byt _=>obtain ⟨t,rfl⟩:=r; rfl
 | flt _=>obtain ⟨t,rfl⟩:=r; rfl
 | ref _=>cases r; rfl
 | ty _=>cases r; rfl
theorem za.inj {x y:V} {u:Value} (r:za x u) (q:za y u):x = y:=zU2 (r.abs.symm.trans q.abs)
theorem zU.inj:∀ {xs ys:List V} {us:List Value},zU xs us -> zU ys us -> xs = ys
 | _,_,_,.nil,.nil=>rfl
 | _,_,_,.cons r t,.cons r' t'=>by rw [r.inj r',zU.inj t t']
section
variable {X:Cx} {zB:List (Addr × Obj)} {σ:St} {H:Hp} {s:Shared} {a:Addr} {xs ys:List V}
theorem SqL.of {K:PySem.W.Frag} (h:H a = some (.lst xs)):SqL K H a xs:=.inl (.inl h)
theorem SqT.of {K:PySem.W.Frag} (h:H a = some (.tup xs)):SqT K H a xs:=.inl (.inl h)
theorem Inv.list (I:Inv X zB σ H s) (h:SqL X.K H a xs):∃ its:List Value,zU xs its /\ PlainL s.heap a its.toArray /\ xs.length <= sizeLine:=by
 rcases h with h | ⟨o,its,n,hk,hc,hd,hs,hz,r⟩
 ·obtain ⟨z,its,n,r,e⟩:=h.ok I.hok;exact ⟨its,r,⟨_,n,e,rfl,rfl,rfl⟩,z⟩
 ·refine ⟨its.toList,r,⟨o,n,I.kIn a o hk,hc,hd,by simpa using hs⟩,?_⟩;have e:=r.length;simp only [zUl] at e;omega
theorem Inv.tuple (I:Inv X zB σ H s) (h:SqT X.K H a xs):∃ its:List Value,zU xs its /\ IsTup s.heap a its.toArray /\ xs.length <= sizeLine:=by
 rcases h with h | ⟨o,its,n,hk,hc,hs,hz,r⟩
 ·obtain ⟨z,its,r,p⟩:=h.ok I.hok;exact ⟨its,r,p.tup,z⟩
 ·refine ⟨its.toList,r,⟨o,I.kIn a o hk,hc,n,by simpa using hs⟩,?_⟩;have e:=r.length;simp only [zUl] at e;omega
theorem Inv.list_inj (I:Inv X zB σ H s) (h:SqL X.K H a xs) (h':SqL X.K H a ys):xs = ys:=by
 obtain ⟨its,r,⟨o,n,e,_,_,d⟩,_⟩:=I.list h;obtain ⟨its',r',⟨o',n',e',_,_,d'⟩,_⟩:=I.list h';rw [e] at e'; cases e';rw [d] at d';injection d' with d1 _
 have:its = its':=by simpa using zVp Array.toList d1
 subst this;exact r.inj r'
theorem Inv.tuple_inj (I:Inv X zB σ H s) (h:SqT X.K H a xs) (h':SqT X.K H a ys):xs = ys:=by
 obtain ⟨its,r,⟨o,e,_,n,d⟩,_⟩:=I.tuple h;obtain ⟨its',r',⟨o',e',_,n',d'⟩,_⟩:=I.tuple h';rw [e] at e'; cases e';rw [d] at d';injection d' with d1 _
 have:its = its':=by simpa using zVp Array.toList d1
 subst this;exact r.inj r'
end
abbrev Cx.wish (X:Cx) (E:Value -> Shared -> Prop):Cx:={ X with xe:=E }
abbrev Cx.nox (X:Cx):Cx:=X.wish fun _ _=>False
theorem Cx.Ok.wish {X:Cx} (ok:X.Ok) (E:Value -> Shared -> Prop):(X.wish E).Ok :=
 ⟨ok.mod,ok.kind,ok.glob,ok.blt,ok.above,ok.inj,ok.has,ok.cab,ok.hd,ok.frames,ok.stk,ok.exf,ok.bs,ok.bsz,ok.noex,ok.exfs,ok.funs,ok.frf⟩
theorem Cx.Ok.unwish {X:Cx} {E:Value -> Shared -> Prop} (ok:(X.wish E).Ok):X.Ok :=
 ⟨ok.mod,ok.kind,ok.glob,ok.blt,ok.above,ok.inj,ok.has,ok.cab,ok.hd,ok.frames,ok.stk,ok.exf,ok.bs,ok.bsz,ok.noex,ok.exfs,ok.funs,ok.frf⟩
section
variable {X:Cx} {zB:List (Addr × Obj)} {σ:St} {H:Hp} {s:Shared} {E:Value -> Shared -> Prop}
theorem Inv.wish (I:Inv X zB σ H s) (E:Value -> Shared -> Prop):Inv (X.wish E) zB σ H s:=⟨I.ok.wish E,I.os,I.bare,I.base,I.loc,I.cell,I.free,I.freeC,I.pin,I.hok,I.len⟩
theorem Inv.unwish (I:Inv (X.wish E) zB σ H s):Inv X zB σ H s:=⟨I.ok.unwish,I.os,I.bare,I.base,I.loc,I.cell,I.free,I.freeC,I.pin,I.hok,I.len⟩
theorem SP.unwish {D:Ends} {f:Flow} {s':Shared} (h:SP (X.wish E) zB D f s'):SP X zB D f s':=by
 cases f with
 | next=>obtain ⟨σ',H',I,q⟩:=h; exact ⟨σ',H',I.unwish,q⟩
 | brk=>obtain ⟨σ',H',I,q⟩:=h; exact ⟨σ',H',I.unwish,q⟩
 | cont=>obtain ⟨σ',H',I,q⟩:=h; exact ⟨σ',H',I.unwish,q⟩
 | ret u=>obtain ⟨v,σ',H',I,r,q⟩:=h; exact ⟨v,σ',H',I.unwish,r,q⟩
theorem PSs.nox {st:List Stmt} {t:TS} (h:PSs X.nox st t):PSs X st t:=fun zB s σ H D I hw=>
 zUY (h zB s σ H D (I.wish _) hw) (fun _ _ q=>q.unwish) fun _ _ z=>False.elim z
end
section
variable {X:Cx} {st:Stmt} {rest:List Stmt} {t u:TS} {e:Expr} {te:TE} {pos:Pos}
def zSt:TS:=fun D σ H=>D.nx σ H
def zTm (t u:TS):TS:=fun D σ H=>t { D with nx:=u D } σ H
theorem zPM:PSs X [] zSt:=fun _ _ σ H _ I h=>wpAny_execs_nil ⟨σ,H,I,h⟩
theorem zNE (h1:PS X st t) (h2:PSs X rest u):PSs X (st :: rest) (zTm t u):=by
 intro zB s σ H D I h;refine wpAny_execs_cons (thn (h1 zB s σ H { D with nx:=u D } I h) fun f s1 q=>?_);cases f with
 | next=>
  obtain ⟨σ',H',I',q⟩:=q;exact h2 zB s1 σ' H' D I' q
 | ret v=>exact q
 | brk=>exact q
 | cont=>exact q
theorem zO2 (h1:PS X st t):PSs X [st] t:=by
 intro zB s σ H D I h;refine wpAny_execs_cons (thn (h1 zB s σ H D I h) fun f s1 q=>?_);cases f with
 | next=>exact wpAny_execs_nil q
 | ret v=>exact q
 | brk=>exact q
 | cont=>exact q
theorem Inv.quiet {zB:List (Addr × Obj)} {σ:St} {H:Hp} {s:Shared} (I:Inv X zB σ H s):interactive X.env = false:=by simp [interactive,I.ok.kind]
def zSf (te:TE):TS:=fun D σ H=>te σ H fun _ H1=>D.nx σ H1
theorem zOu (he:PE X e te) (hs:swapsWith e none pos.line X.env = pure false:=by rfl):PS X (.Expr e pos) (zSf te):=by
 intro zB s σ H D I h;exact wpAny_Expr_any (thn (he zB s σ H _ I h) fun v s1 ⟨x,H1,I1,r1,q1⟩=>⟨σ,H1,I1,q1⟩) I.quiet hs
def zTV (te:TE):TS:=fun D σ H=>te σ H D.rt
theorem zRr (he:PE X e te):PS X (.Return (some e) pos) (zTV te):=by
 intro zB s σ H D I h;exact wpAny_Return_some (thn (he zB s σ H _ I h) fun v s1 ⟨x,H1,I1,r1,q1⟩=>⟨x,σ,H1,I1,r1,q1⟩)
def zTj (c:TT) (t u:TS):TS:=fun D σ H=>c σ H fun b H1=>if b = true then t D σ H1 else u D σ H1
theorem zSk {c:Expr} {a b:List Stmt} {tc:TT} (hc:PT X c tc) (ha:PSs X a t) (hb:PSs X b u):PS X (.If c a b pos) (zTj tc t u):=by
 intro zB s σ H D I h;refine wpAny_If (thn (hc zB s σ H _ I h) fun d s1 ⟨H1,I1,q1⟩=>?_);cases d with
 | true=>exact ha zB s1 σ H1 D I1 q1
 | false=>exact hb zB s1 σ H1 D I1 q1
end
abbrev TG:=V -> St -> Hp -> (St -> Hp -> Prop) -> Prop
abbrev TGs:=List V -> St -> Hp -> (St -> Hp -> Prop) -> Prop
def PG (X:Cx) (target:Expr) (t:TG):Prop :=
 ∀ (zB:List (Addr × Obj)) (s:Shared) (σ:St) (H:Hp) (v:V) (u:Value) (Q:St -> Hp -> Prop),Inv X zB σ H s -> za v u -> t v σ H Q ->
  wpAny (model X.prog X.w) X.A (assign target X.env u) (fun _ s'=>∃ σ' H',Inv X zB σ' H' s' /\ Q σ' H') X.xe s
def PGs (X:Cx) (ts:List Expr) (t:TGs):Prop :=
 ∀ (zB:List (Addr × Obj)) (s:Shared) (σ:St) (H:Hp) (vs:List V) (us:List Value) (Q:St -> Hp -> Prop),Inv X zB σ H s -> zU vs us -> t vs σ H Q ->
  wpAny (model X.prog X.w) X.A (assignInOrder ((assignEach ts X.env).map (·.2)) us) (fun _ s'=>∃ σ' H',Inv X zB σ' H' s' /\ Q σ' H') X.xe s
abbrev zRs:=V -> V -> V -> Hp -> (Hp -> Prop) -> Prop
def zSb (X:Cx) (t:zRs):Prop :=
 ∀ (zB:List (Addr × Obj)) (s:Shared) (σ:St) (H:Hp) (o i v:V) (ov iv u:Value) (Q:Hp -> Prop),Inv X zB σ H s -> za o ov -> za i iv -> za v u -> t o i v H Q ->
  wpAny (model X.prog X.w) X.A (setItem ov iv u) (fun _ s'=>∃ H',Inv X zB σ H' s' /\ Q H') X.xe s
section
variable {X:Cx} {pos:Pos}
def zDN (i:Nat):TG:=fun v σ H Q=>Q (σ.set i (some v)) H
theorem zLA {i:Nat} {x:Str} (hN:X.N.Nodup) (hi:X.N[i]? = some x) (hx:Loc X.env.scope x) (hf:X.fn x = true \/ X.env.scope.names.lookup x = some .local:=by first | exact .inl rfl | exact .inr rfl | assumption):PG X (.Name x pos) (zDN i):=by
 intro zB s σ H v u Q I r h;exact wpAny_assign_Name (zIZ I hN hi hx r (fun s' I'=>⟨_,H,I',h⟩) hf)
def zSP:TGs:=fun vs σ H Q=>vs = [] /\ Q σ H
def zMy (t:TG) (u:TGs):TGs:=fun vs σ H Q=>∃ v r,vs = v :: r /\ t v σ H fun σ' H'=>u r σ' H' Q
theorem zKr:PGs X [] zSP:=by
 intro zB s σ H vs us Q I r h;obtain ⟨e,h⟩:=h;subst e;cases r;exact assignInOrder_nil ⟨σ,H,I,h⟩
theorem zGC {e:Expr} {es:List Expr} {t:TG} {u:TGs} (h1:PG X e t) (h2:PGs X es u)
  (hs:(assignEach (e :: es) X.env).map (·.2) = assign e X.env :: (assignEach es X.env).map (·.2):=by rfl):PGs X (e :: es) (zMy t u):=by
 intro zB s σ H vs us Q I r h;obtain ⟨v,vr,e1,h⟩:=h;subst e1;cases r with
 | cons r rr=>
  rw [hs];refine assignInOrder_cons (thn (h1 zB s σ H _ _ _ I r h) fun _ s1 ⟨σ1,H1,I1,q1⟩=>?_);exact h2 zB s1 σ1 H1 _ _ Q I1 rr q1
def zSQ (K:PySem.W.Frag) (n:Nat) (t:TGs):TG:=fun v σ H Q=>∃ a xs,v = .ref a /\ SqT K H a xs /\ xs.length = n /\ t xs σ H Q
theorem zMr {es:List Expr} {k:Nat} {t:TGs} {n:Nat} (hc:X.calm = true) (h:PGs X es t)
  (hn:(assignEach es X.env).length = n:=by rfl) (hst:(assignEach es X.env).findIdx? (·.1) = none:=by rfl):PG X (.Tuple es k pos) (zSQ X.K n t):=by
 intro zB s σ H v u Q I r hw;obtain ⟨a,xs,e1,hq,hl,hw⟩:=hw;subst e1;cases r;obtain ⟨its,rv,ht,hz⟩:=I.tuple hq;refine assign_Tuple_tuple (I.ok.hd hc) ht (by simp [hn,<- hl,rv.length]) hst fun h' hx=>?_;have I1:Inv X zB σ H { s with heap:=h' }:=I.kept (t':=s.toks) fun b o e=>hx b o (zUN (zUD e)) e;exact h zB _ σ H xs _ Q I1 (by simpa using rv) hw
def zTh (to ti:TE) (t:zRs):TG:=fun v σ H Q=>to σ H fun o H1=>ti σ H1 fun i H2=>t o i v H2 fun H3=>Q σ H3
theorem zQT {o i:Expr} {to ti:TE} {t:zRs} (ho:PE X o to) (hi:PE X i ti) (hs:zSb X t)
  (ha:∀ v,assign (.Subscript o i pos) X.env v = (do
   let ov <- holding [v] (eval o X.env);let iv <- holding [v,ov] (eval i X.env);standAt pos;holding [v,ov,iv] (setItem ov iv v);release [v,ov,iv] []):=by intro _; rfl):PG X (.Subscript o i pos) (zTh to ti t):=by
 intro zB s σ H v u Q I r h;rw [ha];refine zTx (zUv (thn (ho zB s σ H _ I h) fun ov s1 ⟨x,H1,I1,r1,q1⟩=>?_));refine zTx (zUv (thn (hi zB s1 σ H1 _ I1 q1) fun iv s2 ⟨y,H2,I2,r2,q2⟩=>?_));refine zTx (wpAny_standAt (zTx (zUv (thn (hs zB s2 σ H2 x y v ov iv u _ I2 r1 r2 r q2) fun _ s3 ⟨H3,I3,q3⟩=>?_))));exact wpAny_release ⟨σ,H3,I3,q3⟩
def zOo (te:TE) (g:TG):TS:=fun D σ H=>te σ H fun x H1=>g x σ H1 D.nx
theorem zRx {tg e:Expr} {te:TE} {g:TG} (he:PE X e te) (hg:PG X tg g) (hs:swapsWithSole [tg] e pos.line X.env = pure false:=by rfl) (hw:swappedStores [tg] e X.env = pure none:=by rfl)
  (h1:(assignEach [tg] X.env).map (·.2) = [assign tg X.env]:=by rfl):PS X (.Assign [tg] e pos) (zOo te g):=by
 intro zB s σ H D I h;refine wpAny_Assign_stores (thn (he zB s σ H _ I h) fun v s1 ⟨x,H1,I1,r1,q1⟩=>?_) hs hw;rw [h1];exact thn (hg zB s1 σ H1 x v _ I1 r1 q1) fun _ s2 q=>q
theorem zRA {i:Nat} {x:Str} {e:Expr} {te:TE} {pos':Pos} (hN:X.N.Nodup) (hi:X.N[i]? = some x) (hx:Loc X.env.scope x) (he:PE X e te) (hs:swapsWith e (some (.Name x pos')) pos.line X.env = pure false:=by rfl) (hf:X.fn x = true \/ X.env.scope.names.lookup x = some .local:=by first | exact .inl rfl | exact .inr rfl | assumption) :
  PS X (.Assign [.Name x pos'] e pos) (zOo te (zDN i)):=by
 intro zB s σ H D I h;refine wpAny_Assign_Name (thn (he zB s σ H _ I h) fun v s1 ⟨y,H1,I1,r1,q1⟩=>?_) hs;exact zIZ I1 hN hi hx r1 (fun s2 I2=>⟨_,H1,I2,q1⟩) hf
def zM5 (c:TT) (tb:TS):TS:=fun D σ H=>∃ W:Nat -> St -> Hp -> Prop,(∃ m,W m σ H) /\ ∀ m σ H,W m σ H ->
 c σ H fun b H1=>if b = true then ∃ N:St -> Hp -> Prop,(∀ σ' H',N σ' H' -> ∃ m',m' < m /\ W m' σ' H') /\ tb { D with nx:=N,ct:=N,bk:=D.nx } σ H1 else D.nx σ H1
theorem zNw {c:Expr} {body:List Stmt} {tc:TT} {tb:TS} (hp:PassesOwn (model X.prog X.w) X.A X.env X.xe) (hc:PT X c tc) (hb:PSs X body tb):PS X (.While c body [] pos) (zM5 tc tb):=by
 intro zB s σ H D I h;obtain ⟨W,⟨m0,w0⟩,turn⟩:=h;refine wpAny_While (codeAny_whileLoop (fun n s'=>∃ σ' H',Inv X zB σ' H' s' /\ W n σ' H') ?_ m0 ⟨σ,H,I,w0⟩);rintro n s1 ⟨σ1,H1,I1,w1⟩;refine wpAny_passesOwn hp (thn (hc zB s1 σ1 H1 _ I1 (turn n σ1 H1 w1)) fun b s2 ⟨H2,I2,q2⟩=>?_);cases b with
 | true=>
  obtain ⟨N,hN,q2⟩:=q2;rw [zUH rfl];refine wpAny_passesOwn hp (thn (hb zB s2 σ1 H2 _ I2 q2) fun f s3 q3=>?_);cases f with
  | next=>
   obtain ⟨σ3,H3,I3,n3⟩:=q3;obtain ⟨m',hm,w3⟩:=hN σ3 H3 n3;exact ⟨m',hm,σ3,H3,I3,w3⟩
  | cont=>
   obtain ⟨σ3,H3,I3,n3⟩:=q3;obtain ⟨m',hm,w3⟩:=hN σ3 H3 n3;exact ⟨m',hm,σ3,H3,I3,w3⟩
  | brk=>exact q3
  | ret v=>exact q3
 | false=>
  rw [zUK zUO];exact wpAny_execs_nil ⟨σ1,H2,I2,q2⟩
end
structure It where
 go:Nat -> Hp -> Prop
 yld:Nat -> Hp -> V -> Hp -> Prop
 stop:Nat -> Hp -> Prop
def zCh (X:Cx) (zB:List (Addr × Obj)) (H:Hp) (b:Addr):Prop :=
 H b = none /\ b ≠ X.env.locals /\ b ∉ X.fs /\ (b ∈ X.ex \/ X.s₀.heap.objs.size <= b) /\ (∀ x c,X.env.cells.lookup x = some c -> c ≠ b) /\ ∀ p ∈ X.pn ++ zB,p.1 ≠ b
theorem Inv.fpOk {X:Cx} {zB:List (Addr × Obj)} {σ:St} {H H':Hp} {s:Shared} {b:Addr} (I:Inv X zB σ H s) (hb:s.heap.objs.size <= b) (hn:H' b = none):zCh X zB H' b:=by
 refine ⟨hn,zVX (zUR I.lt hb),I.nofs hb,.inr (zUT I.sz hb),fun x c e z=>?_,fun p hp z=>?_⟩
 ·obtain ⟨v,q⟩:=I.cell x c e;exact absurd (zUR q.lt (by rw [z]; exact hb)) (zUk _)
 ·exact absurd (zUR (zUD (I.pin p hp).1) (by rw [z]; exact hb)) (zUk _)
structure Turn (P:Program) (w:World) (K:PySem.W.Frag) (tg:Expr) (J:It) (fp:List Addr) (it:Addr) (tn:Nat -> Heap -> Prop):Prop where
 mem:it ∈ fp
 obj:∀ i h,tn i h -> ∀ b ∈ fp,∃ o,h.get? b = some o /\ ∀ v,o.data ≠ .cell v
 keep:∀ i h h',tn i h -> (∀ b ∈ fp,∀ o,h.get? b = some o -> h'.get? b = some o) -> tn i h'
 item:∀ (X:Cx),X.prog = P -> X.w = w -> X.K = K -> X.calm = true -> ∀ (i:Nat) (zB:List (Addr × Obj)) (s:Shared) (σ:St) (H:Hp) (E:Value -> Shared -> Prop),Inv X zB σ H s -> (∀ b ∈ fp,zCh X zB H b) -> tn i s.heap -> J.go i H ->
  wpAny (model P w) X.A (pyNext (.ref it)) (fun r s1=>∃ u,r = some u /\
   wpAny (model P w) X.A (letOwnedTupleGo tg (.ref it) u) (fun _ s2=>∃ x H',Inv X zB σ H' s2 /\ za x u /\ J.yld i H x H' /\ tn (i + 1) s2.heap /\ ∀ b ∈ fp,H' b = none) E s1) E s
 done:∀ (X:Cx),X.prog = P -> X.w = w -> X.K = K -> X.calm = true -> ∀ (i:Nat) (zB:List (Addr × Obj)) (s:Shared) (σ:St) (H:Hp) (E:Value -> Shared -> Prop),Inv X zB σ H s -> (∀ b ∈ fp,zCh X zB H b) -> tn i s.heap -> J.stop i H ->
  wpAny (model P w) X.A (pyNext (.ref it)) (fun r s1=>r = none /\ Inv X zB σ H s1) E s
 self:∀ (A:Around) (i:Nat) (s:Shared) (Q:Value -> Shared -> Prop) (E:Value -> Shared -> Prop),tn i s.heap -> Q (.ref it) s -> wpAny (model P w) A (pyIter (.ref it)) Q E s
abbrev TI:=St -> Hp -> (It -> Hp -> Prop) -> Prop
def PIE (X:Cx) (zB:List (Addr × Obj)) (σ:St) (tg:Expr) (R:It -> Hp -> Prop) (itv:Value) (s2:Shared):Prop :=
 ∃ (it:Addr) (fp:List Addr) (tn:Nat -> Heap -> Prop) (J:It) (H':Hp),itv = .ref it /\ Inv X zB σ H' s2 /\ Turn X.prog X.w X.K tg J fp it tn /\ tn 0 s2.heap /\ (∀ b ∈ fp,zCh X zB H' b) /\ R J H'
def PI (X:Cx) (tg iter:Expr) (wi:TI):Prop :=
  ∀ (zB:List (Addr × Obj)) (s:Shared) (σ:St) (H:Hp) (R:It -> Hp -> Prop),Inv X zB σ H s -> wi σ H R ->
    wpAny (model X.prog X.w) X.A (eval iter X.env) (fun v s1=>wpAny (model X.prog X.w) X.A (pyIter v) (PIE X zB σ tg R) X.xe s1) X.xe s
theorem zOO {M:Model} {A:Around} {E:Value -> Shared -> Prop} {s:Shared} {tg:Expr} {it:Addr} {u:Value} {o:Obj} {n:String} {vs:Array Value} {Q:Unit -> Shared -> Prop} (ho:s.heap.get? it = some o) (hc:o.cls = .type n) (hd:o.data = .fields vs)
    (hn:["enumerate", "zip", "dict_itemiterator", "dict_reverseitemiterator", "odict_iterator", "itertools.zip_longest", "itertools.pairwise"].contains n = false) (hQ:Q () s):wpAny M A (letOwnedTupleGo tg (.ref it) u) Q E s:=by
  unfold letOwnedTupleGo
  cases tg <;> first
    | exact zTz hQ
    | (cases u <;> first
        | exact zTz hQ
        | (refine zTx (wpAny_load ho ?_)
           rw [hc,hd];show wpAny M A (if (["enumerate", "zip", "dict_itemiterator", "dict_reverseitemiterator", "odict_iterator", "itertools.zip_longest", "itertools.pairwise"].contains n && vs[0]? == some (rawInt _)) = true then _ else _) Q E s;rw [zUK (by intro h; rw [hn,Bool.false_and] at h; cases h)];exact zTz hQ))
def Itl (K:PySem.W.Frag) (a:Addr):It :=
 ⟨fun i H=>∃ xs x,SqL K H a xs /\ xs[i]? = some x,fun i H x H'=>H' = H /\ ∀ xs,SqL K H a xs -> xs[i]? = some x,fun i H=>∃ xs,SqL K H a xs /\ xs.length <= i⟩
def Itt (K:PySem.W.Frag) (a:Addr):It :=
 ⟨fun i H=>∃ xs x,SqT K H a xs /\ xs[i]? = some x,fun i H x H'=>H' = H /\ ∀ xs,SqT K H a xs -> xs[i]? = some x,fun i H=>∃ xs,SqT K H a xs /\ xs.length <= i⟩
def Itr (lo:Int) (n:Nat):It:=⟨fun i _=>i < n,fun i H x H'=>H' = H /\ x = .int (lo + i),fun i _=>n <= i⟩
theorem zL4 {P:Program} {w:World} {K:PySem.W.Frag} {tg:Expr} (a it:Addr):Turn P w K tg (Itl K a) [it] it (fun i h=>h.IsListIter it a i) where
 mem:=by simp
 obj:=fun i h st b hb=>by
  have e:b = it:=by simpa using hb
  subst e;obtain ⟨o,e,c,d⟩:=st;exact ⟨o,e,fun v z=>by rw [d] at z; cases z⟩
 keep:=fun i h h' st k=>st.at fun o e=>k it (by simp) o e;item:=by
  intro X hP hw hK hc i zB s σ H E I hf st hg;subst hP hw hK;obtain ⟨xs,x,hq,hx⟩:=hg;obtain ⟨its,rv,p,hz⟩:=I.list hq;obtain ⟨u,hu,ru⟩:=rv.get hx;obtain ⟨f0,f1,f2,f3,f4,f5⟩:=hf it (by simp);refine wpAny_pyNext_list_item st p.isList (x:=u) (by simpa using hu) fun h' st' sb=>?_;have I1:Inv X zB σ H { s with heap:=h' }:=I.turned (t':=s.toks) (fun b o hb e=>(sb.2 b hb).trans e) f0 f1 f3 f4 f5;obtain ⟨o,e,c,d⟩:=id st';exact ⟨u,rfl,zOO (s:={ s with heap:=h' }) e c d (by decide) ⟨x,H,I1,ru,⟨rfl,fun ys hy=>by rw [I.list_inj hy hq]; exact hx⟩,st',fun b hb=>(hf b hb).1⟩⟩
 done:=by
  intro X hP hw hK hc i zB s σ H E I hf st hg;subst hP hw hK;obtain ⟨xs,hq,hx⟩:=hg;obtain ⟨its,rv,p,hz⟩:=I.list hq;obtain ⟨f0,f1,f2,f3,f4,f5⟩:=hf it (by simp);have hl:=rv.length;exact wpAny_pyNext_list_end (I.ok.hd hc) st p.isList (by simp; omega) fun h' eb=>⟨rfl,I.turned (t':=s.toks) (fun b o hb e=>eb b o hb e) f0 f1 f3 f4 f5⟩
 self:=fun _ _ _ _ _ st h=>wpAny_pyIter_listiter st h
theorem zKP {P:Program} {w:World} {K:PySem.W.Frag} {tg:Expr} (a it:Addr):Turn P w K tg (Itt K a) [it] it (fun i h=>h.IsTupleIter it a i) where
 mem:=by simp
 obj:=fun i h st b hb=>by
  have e:b = it:=by simpa using hb
  subst e;obtain ⟨o,e,c,d⟩:=st;exact ⟨o,e,fun v z=>by rw [d] at z; cases z⟩
 keep:=fun i h h' st k=>st.at fun o e=>k it (by simp) o e;item:=by
  intro X hP hw hK hc i zB s σ H E I hf st hg;subst hP hw hK;obtain ⟨xs,x,hq,hx⟩:=hg;obtain ⟨its,rv,p,hz⟩:=I.tuple hq;obtain ⟨u,hu,ru⟩:=rv.get hx;obtain ⟨f0,f1,f2,f3,f4,f5⟩:=hf it (by simp);refine wpAny_pyNext_tuple_item st (show s.heap.IsTuple a its.toArray from p) (x:=u) (by simpa using hu) fun h' st' sb=>?_;have I1:Inv X zB σ H { s with heap:=h' }:=I.turned (t':=s.toks) (fun b o hb e=>(sb.2 b hb).trans e) f0 f1 f3 f4 f5;obtain ⟨o,e,c,d⟩:=id st';exact ⟨u,rfl,zOO (s:={ s with heap:=h' }) e c d (by decide) ⟨x,H,I1,ru,⟨rfl,fun ys hy=>by rw [I.tuple_inj hy hq]; exact hx⟩,st',fun b hb=>(hf b hb).1⟩⟩
 done:=by
  intro X hP hw hK hc i zB s σ H E I hf st hg;subst hP hw hK;obtain ⟨xs,hq,hx⟩:=hg;obtain ⟨its,rv,p,hz⟩:=I.tuple hq;obtain ⟨f0,f1,f2,f3,f4,f5⟩:=hf it (by simp);have hl:=rv.length;exact wpAny_pyNext_tuple_end (I.ok.hd hc) st (show s.heap.IsTuple a its.toArray from p) (by simp; omega) fun h' eb=>⟨rfl,I.turned (t':=s.toks) (fun b o hb e=>eb b o hb e) f0 f1 f3 f4 f5⟩
 self:=fun _ _ _ _ _ st h=>wpAny_pyIter_tupleiter st h
theorem zJu {P:Program} {w:World} {K:PySem.W.Frag} {tg:Expr} (it:Addr) (lo:Int) (n:Nat):Turn P w K tg (Itr lo n) [it] it (fun i h=>IsRangeIter h it (lo + (i:Nat) * 1) ((n:Int) - (i:Nat)) 1) where
 mem:=by simp
 obj:=fun i h st b hb=>by
  have e:b = it:=by simpa using hb
  subst e;exact ⟨_,st,fun v z=>by
   have z':Data.fields _ = Data.cell v:=z;cases z'⟩
 keep:=fun i h h' st k=>k it (by simp) _ st;item:=by
  intro X hP hw hK hc i zB s σ H E I hf st hg;subst hP hw hK;obtain ⟨f0,f1,f2,f3,f4,f5⟩:=hf it (by simp);have W:=Walks.range (prog:=X.prog) (w:=X.w) (I.ok.hd hc) it lo 1 n;refine W.item i s _ _ hg st fun v h' tk hv st' kk=>?_;obtain ⟨t,rfl⟩:=hv;have I1:Inv X zB σ H { s with heap:=h',toks:=tk }:=I.turned (fun b o hb e=>kk b o (by simpa using hb) e) f0 f1 f3 f4 f5;refine ⟨_,rfl,zOO (s:={ s with heap:=h',toks:=tk }) (n := "range_iterator") st' rfl rfl (by decide) ⟨.int (lo + i),H,I1,⟨t,?_⟩,⟨rfl,rfl⟩,st',fun b hb=>(hf b hb).1⟩⟩;rw [Int.mul_one]
 done:=by
  intro X hP hw hK hc i zB s σ H E I hf st hg;subst hP hw hK;obtain ⟨f0,f1,f2,f3,f4,f5⟩:=hf it (by simp);exact wpAny_pyNext_range_end (I.ok.hd hc) st (by have:n <= i:=hg; omega) fun h' eb=>⟨rfl,I.turned (t':=s.toks) (fun b o hb e=>eb b o hb e) f0 f1 f3 f4 f5⟩
 self:=fun _ _ _ _ _ st h=>wpAny_pyIter_rangeiter st h
section
variable {X:Cx} {tg:Expr}
theorem zNb {zB:List (Addr × Obj)} {σ:St} {H:Hp} {s:Shared} {R:It -> Hp -> Prop} {E:Value -> Shared -> Prop} {lo hi:Int} {t u v:Tok} {tk:Nat} (I:Inv X zB σ H s) (h1 : -(2 ^ 62) <= lo) (h2:lo < 2 ^ 62) (h3 : -(2 ^ 62) <= hi) (h4:hi < 2 ^ 62)
  (q:R (Itr lo (hi - lo).toNat) H):wpAny (model X.prog X.w) X.A (pyIter (.ref s.heap.objs.size)) (PIE X zB σ tg R) E { s with heap:=s.heap.push { cls:=.type "range", data:=.fields #[.int lo t,.int hi u,.int 1 v] },toks:=tk }:=by
 refine wpAny_pyIter_range (IsRange.new ..) (small_one h1 h2 h3 h4) ?_;have I1:Inv X zB σ H { s with heap:=s.heap.push { cls:=.type "range", data:=.fields #[.int lo t,.int hi u,.int 1 v] },toks:=tk }:=I.kept fun b o e=>zTy _ e
 refine ⟨(s.heap.push { cls:=.type "range", data:=.fields #[.int lo t,.int hi u,.int 1 v] }).objs.size,[(s.heap.push { cls:=.type "range", data:=.fields #[.int lo t,.int hi u,.int 1 v] }).objs.size],_,_,H,rfl,
  I1.kept (t':=tk) fun b o e=>zTy _ e,zJu _ lo (hi - lo).toNat,?_,fun b hb=>?_,q⟩
 ·have e1:lo + ((0:Nat):Int) * 1 = lo:=by simp
  have e2:(((hi - lo).toNat:Nat):Int) - ((0:Nat):Int) = Builtin.Range.rangeSize lo hi 1:=by rw [rangeSize_one]; split <;> omega
  show IsRangeIter _ _ (lo + ((0:Nat):Int) * 1) ((((hi - lo).toNat:Nat):Int) - ((0:Nat):Int)) 1;rw [e1,e2];exact zUC _ rfl
 ·have e:b = (s.heap.push { cls:=.type "range", data:=.fields #[.int lo t,.int hi u,.int 1 v] }).objs.size:=by simpa using hb
  subst e;exact I1.fpOk (zT8 _) (I1.hok.fresh (zT8 _))
def zSZ (ta:TA):TI:=fun σ H R=>ta σ H fun vs H1=>∃ j:Int,vs = [.int j] /\ -(2 ^ 62) <= j /\ j < 2 ^ 62 /\ R (Itr 0 j.toNat) H1
theorem zMg {a:Expr} {ta:TA} {p pos:Pos} (hg:Gl X "range") (hm:X.mg "range" = none) (ha:PA X [a] ta) (hs:starEach [a] X.env = [(false,eval a X.env)]:=by rfl):PI X tg (.Call (.Name "range" p) [a] [] pos) (zSZ ta):=by
 intro zB s σ H R I h;refine Call_ (zEk I hg hm boot_range (PyProof.Rows.callWith_type1 (thn (ha pos zB s σ H _ I h) fun us s1 ⟨vs,H1,I1,r1,q1⟩=>?_) hs rfl));obtain ⟨j,e,q1,q2,q⟩:=q1;subst e;cases r1 with
 | cons r rr=>
  cases rr;obtain ⟨t,rfl⟩:=r;exact call_range_1 (zNb I1 (by omega) (by omega) q1 q2 (by simpa using q))
def zSR (wi:TI) (g:TG) (tb:TS):TS:=fun D σ H=>wi σ H fun J H1=>∃ W:Nat -> Nat -> St -> Hp -> Prop,(∃ m,W 0 m σ H1) /\ ∀ i m σ H,W i m σ H ->
 (J.stop i H /\ D.nx σ H) \/ (J.go i H /\ ∃ N:St -> Hp -> Prop,(∀ σ' H',N σ' H' -> ∃ m',m' < m /\ W (i + 1) m' σ' H') /\ ∀ x H',J.yld i H x H' -> g x σ H' fun σ2 H2=>tb { D with nx:=N,ct:=N,bk:=D.nx } σ2 H2)
def zEL (fp:List Addr) (h:Heap):List (Addr × Obj):=fp.filterMap fun b=>(h.get? b).map fun o=>(b,o)
theorem zBD {fp:List Addr} {h:Heap} {b:Addr} {o:Obj} (hb:b ∈ fp) (e:h.get? b = some o):(b,o) ∈ zEL fp h:=List.mem_filterMap.mpr ⟨b,hb,by rw [e]; rfl⟩
theorem zLz {fp:List Addr} {h:Heap} {p:Addr × Obj} (hp:p ∈ zEL fp h):p.1 ∈ fp /\ h.get? p.1 = some p.2:=by
 obtain ⟨b,hb,e⟩:=List.mem_filterMap.mp hp;cases q:h.get? b with
 | none=>rw [q] at e; cases e
 | some o=>
  rw [q] at e;have e':(b,o) = p:=zU2 e;subst e';exact ⟨hb,q⟩
theorem Inv.pinned {zB:List (Addr × Obj)} {σ:St} {H:Hp} {s:Shared} {fp:List Addr} (I:Inv X zB σ H s) (hf:∀ b ∈ fp,zCh X zB H b) (ho:∀ b ∈ fp,∃ o,s.heap.get? b = some o /\ ∀ v,o.data ≠ .cell v):Inv X (zB ++ zEL fp s.heap) σ H s :=
 I.pins_of fun p hp=>(zUS.mp hp).elim (fun z=>I.pin p (zUM _ z)) fun z=>by
  obtain ⟨hb,e⟩:=zLz z;obtain ⟨f0,f1,f2,_⟩:=hf p.1 hb;obtain ⟨o,e',d⟩:=ho p.1 hb;rw [e] at e'; cases e';exact ⟨e,f0,f1,f2,d⟩
theorem Inv.unpinned {zB pl:List (Addr × Obj)} {σ:St} {H:Hp} {s:Shared} (I:Inv X (zB ++ pl) σ H s):Inv X zB σ H s:=I.pins_of fun p hp=>I.pin p (zUM _ (zVH _ hp))
theorem zRF {iter:Expr} {body:List Stmt} {wi:TI} {g:TG} {tb:TS} {pos:Pos} (hp:PassesOwn (model X.prog X.w) X.A X.env X.xe) (hc:X.calm = true) (hi:PI X tg iter wi) (hg:PG X tg g) (hb:PSs X body tb)
  (hs:∀ x,foldedSetIterable iter X.env x = pure x:=by intro _; rfl):PS X (.For tg iter body [] pos) (zSR wi g tb):=by
 intro zB s σ H D I h;refine wpAny_For (thn (hi zB s σ H _ I h) fun v s1 h1=>thn h1 fun itv s2 h2=>?_) hs;obtain ⟨it,fp,tn,J,H2,e,I2,T,st2,f2,W,⟨m0,w0⟩,turn⟩:=h2;subst e;have stat:∀ {H':Hp},(∀ b ∈ fp,H' b = none) -> ∀ b ∈ fp,zCh X zB H' b:=fun hn b hb=>⟨hn b hb,(f2 b hb).2⟩;refine codeAny_forLoop_any (fun n s'=>∃ i σ' H',Inv X zB σ' H' s' /\ tn i s'.heap /\ (∀ b ∈ fp,H' b = none) /\ W i n σ' H') ?_ m0 ⟨0,σ,H2,I2,st2,fun b hb=>(f2 b hb).1,w0⟩;rintro n s3 ⟨i,σ3,H3,I3,st3,fr3,w3⟩;rcases turn i n σ3 H3 w3 with ⟨stop,qn⟩ | ⟨go,N,hN,step⟩
 ·refine wpAny_passesOwn hp (thn (T.done X rfl rfl rfl hc i zB s3 σ3 H3 X.xe I3 (stat fr3) st3 stop) fun r s4 ⟨hr,I4⟩=>?_);subst hr;exact wpAny_execs_nil ⟨σ3,H3,I4,qn⟩
 ·refine wpAny_passesOwn hp (thn (T.item X rfl rfl rfl hc i zB s3 σ3 H3 X.xe I3 (stat fr3) st3 go) fun r s4 ⟨u,hr,h4⟩=>?_);subst hr;refine wpAny_passesOwn hp (thn h4 fun _ s5 ⟨x,H5,I5,r5,y5,st5,fr5⟩=>?_);have I5':=I5.pinned (stat fr5) (T.obj _ _ st5);refine wpAny_passesOwn hp (thn (hg _ s5 σ3 H5 x u _ I5' r5 (step x H5 y5)) fun _ s6 ⟨σ6,H6,I6,q6⟩=>?_);refine wpAny_passesOwn hp (thn (hb _ s6 σ6 H6 _ I6 q6) fun f s7 q7=>?_);have again:∀ {σ7:St} {H7:Hp},Inv X (zB ++ zEL fp s5.heap) σ7 H7 s7 -> N σ7 H7 -> ∃ m,m < n /\ ∃ i σ' H',Inv X zB σ' H' s7 /\ tn i s7.heap /\ (∀ b ∈ fp,H' b = none) /\ W i m σ' H':=fun {σ7 H7} I7 n7=>by
   obtain ⟨m',hm,w7⟩:=hN σ7 H7 n7;refine ⟨m',hm,i + 1,σ7,H7,I7.unpinned,T.keep _ _ _ st5 fun b hb o e=>(I7.pin (b,o) (zUM _ (zUM _ (zBD hb e)))).1,fun b hb=>?_,w7⟩;obtain ⟨o,e,d⟩:=T.obj _ _ st5 b hb;exact (I7.pin (b,o) (zUM _ (zUM _ (zBD hb e)))).2.1
  cases f with
  | next=>obtain ⟨σ7,H7,I7,n7⟩:=q7; exact again I7 n7
  | cont=>obtain ⟨σ7,H7,I7,n7⟩:=q7; exact again I7 n7
  | brk=>obtain ⟨σ7,H7,I7,q7⟩:=q7; exact ⟨σ7,H7,I7.unpinned,q7⟩
  | ret v=>obtain ⟨x7,σ7,H7,I7,r7,q7⟩:=q7; exact ⟨x7,σ7,H7,I7.unpinned,r7,q7⟩
end
abbrev R2:=V -> V -> Hp -> VK -> Prop
def OpR (X:Cx) (f:Value -> Value -> Sem Value) (r:R2):Prop :=
 ∀ (zB:List (Addr × Obj)) (s:Shared) (σ:St) (H:Hp) (x y:V) (v u:Value) (Q:VK),Inv X zB σ H s -> za x v -> za y u -> r x y H Q ->
  wpAny (model X.prog X.w) X.A (f v u) (EP X zB σ Q) X.xe s
def UnR (X:Cx) (f:Value -> Sem Value) (r:V -> Hp -> VK -> Prop):Prop :=
 ∀ (zB:List (Addr × Obj)) (s:Shared) (σ:St) (H:Hp) (x:V) (v:Value) (Q:VK),Inv X zB σ H s -> za x v -> r x H Q ->
  wpAny (model X.prog X.w) X.A (f v) (EP X zB σ Q) X.xe s
def zBa (X:Cx) (f:Value) (r:List V -> Hp -> VK -> Prop):Prop :=
 ∀ (zB:List (Addr × Obj)) (s:Shared) (σ:St) (H:Hp) (xs:List V) (us:List Value) (Q:VK),Inv X zB σ H s -> zU xs us -> r xs H Q ->
  wpAny (model X.prog X.w) X.A (call f us) (EP X zB σ Q) X.xe s
def tOp (r:R2) (ta tb:TE):TE:=fun σ H Q=>ta σ H fun x H1=>tb σ H1 fun y H2=>r x y H2 Q
def tUn (r:V -> Hp -> VK -> Prop) (ta:TE):TE:=fun σ H Q=>ta σ H fun x H1=>r x H1 Q
def rI (C:Int -> Int -> Prop) (g:Int -> Int -> V):R2:=fun x y H Q=>∃ i j,x = .int i /\ y = .int j /\ C i j /\ Q (g i j) H
def rI0 (g:Int -> Int -> V):R2:=fun x y H Q=>∃ i j,x = .int i /\ y = .int j /\ Q (g i j) H
def rU (g:Int -> V):V -> Hp -> VK -> Prop:=fun x H Q=>∃ i,x = .int i /\ Q (g i) H
section
variable {X:Cx} {a b c:Expr} {ta tb tc:TE} {pos:Pos}
theorem zQx (ha:PE X a ta) (hb:PE X b tb) {zB:List (Addr × Obj)} {s:Shared} {σ:St} {H:Hp} {R:V -> V -> Hp -> Prop} (I:Inv X zB σ H s)
  (h:ta σ H fun x H1=>tb σ H1 fun y H2=>R x y H2) {Q:Value -> Shared -> Prop} {f:Value -> Value -> Sem Value}
  (hf:∀ v u s2 x y H2,Inv X zB σ H2 s2 -> za x v -> za y u -> R x y H2 -> wpAny (model X.prog X.w) X.A (f v u) Q X.xe s2) :
  wpAny (model X.prog X.w) X.A (eval a X.env) (fun v s₁=>wpAny (model X.prog X.w) X.A (eval b X.env) (fun u s₂=>wpAny (model X.prog X.w) X.A (f v u) Q X.xe s₂) X.xe s₁) X.xe s:=by
 refine thn (ha zB s σ H _ I h) fun v s1 ⟨x,H1,I1,r1,q1⟩=>?_;refine thn (hb zB s1 σ H1 _ I1 q1) fun u s2 ⟨y,H2,I2,r2,q2⟩=>?_;exact hf v u s2 x y H2 I2 r1 r2 q2
theorem zSW {op:Operator} {r:R2} (ho:OpR X (binaryOp op) r) (ha:PE X a ta) (hb:PE X b tb):PE X (.BinOp a op b pos) (tOp r ta tb):=by
 intro zB s σ H Q I h;exact wpAny_BinOp (zQx ha hb I h fun v u s2 x y H2 I2 rx ry q=>ho zB s2 σ H2 x y v u Q I2 rx ry q)
theorem zSJ {op:UnaryOp} {r:V -> Hp -> VK -> Prop} (ho:UnR X (unaryOp op) r) (ha:PE X a ta):PE X (.UnaryOp op a pos) (tUn r ta):=by
 intro zB s σ H Q I h;exact UnaryOp_ (thn (ha zB s σ H _ I h) fun v s1 ⟨x,H1,I1,r1,q1⟩=>ho zB s1 σ H1 x v Q I1 r1 q1)
theorem opI {f:Value -> Value -> Sem Value} {C:Int -> Int -> Prop} {g:Int -> Int -> Int}
  (rule:∀ (i j:Int) (t u:Tok) (s:Shared) (Q:Value -> Shared -> Prop) (E:Value -> Shared -> Prop),C i j -> Q (.int (g i j) s.toks) { s with toks:=s.toks + 1 } -> wpAny (model X.prog X.w) X.A (f (.int i t) (.int j u)) Q E s) :
  OpR X f (rI C fun i j=> .int (g i j)):=by
 intro zB s σ H x y v u Q I rx ry h;obtain ⟨i,j,rfl,rfl,hc,q⟩:=h;obtain ⟨t,rfl⟩:=rx;obtain ⟨t',rfl⟩:=ry;exact rule i j t t' s _ _ hc ⟨.int (g i j),H,I.tok _,⟨_,rfl⟩,q⟩
theorem zSj {f:Value -> Value -> Sem Value} {g:Int -> Int -> Int}
  (rule:∀ (i j:Int) (t u:Tok) (s:Shared) (Q:Value -> Shared -> Prop) (E:Value -> Shared -> Prop),Q (.int (g i j) s.toks) { s with toks:=s.toks + 1 } -> wpAny (model X.prog X.w) X.A (f (.int i t) (.int j u)) Q E s) :
  OpR X f (rI0 fun i j=> .int (g i j)):=by
 intro zB s σ H x y v u Q I rx ry h;obtain ⟨i,j,rfl,rfl,q⟩:=h;obtain ⟨t,rfl⟩:=rx;obtain ⟨t',rfl⟩:=ry;exact rule i j t t' s _ _ ⟨.int (g i j),H,I.tok _,⟨_,rfl⟩,q⟩
theorem zRg {f:Value -> Value -> Sem Value} {g:Int -> Int -> Bool}
  (rule:∀ (i j:Int) (t u:Tok) (s:Shared) (Q:Value -> Shared -> Prop) (E:Value -> Shared -> Prop),Q (.bool (g i j)) s -> wpAny (model X.prog X.w) X.A (f (.int i t) (.int j u)) Q E s) :
  OpR X f (rI0 fun i j=> .bl (g i j)):=by
 intro zB s σ H x y v u Q I rx ry h;obtain ⟨i,j,rfl,rfl,q⟩:=h;obtain ⟨t,rfl⟩:=rx;obtain ⟨t',rfl⟩:=ry;exact rule i j t t' s _ _ ⟨.bl (g i j),H,I,rfl,q⟩
def zTf (i j:Int):Prop:=0 < j /\ j < 1073741824
def zTT (i j:Int):Prop:=0 <= j /\ j <= 1000000 /\ i.natAbs < 2 ^ 64
def zRd (i j:Int):Prop:=(-(2 ^ 64) < i /\ i < 2 ^ 64) \/ (-(2 ^ 64) < j /\ j < 2 ^ 64)
theorem zRd.ok {i j:Int} (h:zRd i j):IntMulOk i j:=by
 rcases h with ⟨h1,h2⟩ | ⟨h1,h2⟩
 ·exact .of_left (intBits_le_64 h1 h2)
 ·exact .of_right (intBits_le_64 h1 h2)
theorem zQ8:OpR X (binaryOp .Add) (rI0 fun i j=> .int (i + j)):=zSj fun _ _ _ _ _ _ _ q=>add_int q
theorem zRN:OpR X (binaryOp .Sub) (rI0 fun i j=> .int (i - j)):=zSj fun _ _ _ _ _ _ _ q=>sub_int q
theorem zRS:OpR X (binaryOp .Mult) (rI zRd fun i j=> .int (i * j)):=opI fun _ _ _ _ _ _ _ hc q=>mul_int q hc.ok
theorem zP1:OpR X (binaryOp .FloorDiv) (rI zTf fun i j=> .int (i / j)):=opI fun i j _ _ _ _ _ hc q=>by
 have h1:(0:Int) < j:=hc.1;have h2:j < 1073741824:=hc.2;exact floordiv_int (by omega) (by rw [Int.fdiv_eq_ediv_of_nonneg i (by omega)]; exact q) (.inl (PyProof.noPylong_small (by omega)))
theorem zQt:OpR X (binaryOp .Mod) (rI (fun _ j=>0 < j) fun i j=> .int (i % j)):=opI fun i j _ _ _ _ _ hc q=>by
 have h1:(0:Int) < j:=hc;exact mod_int' (by omega) (by rw [Int.fmod_eq_emod_of_nonneg i (by omega)]; exact q)
theorem zRI:OpR X (binaryOp .Pow) (rI zTT fun i j=> .int (i ^ j.toNat)):=opI fun _ _ _ _ _ _ _ hc q=>pow_int_small hc.1 hc.2.1 hc.2.2 q
theorem unI {f:Value -> Sem Value} {g:Int -> Int}
  (rule:∀ (i:Int) (t:Tok) (s:Shared) (Q:Value -> Shared -> Prop) (E:Value -> Shared -> Prop),Q (.int (g i) s.toks) { s with toks:=s.toks + 1 } -> wpAny (model X.prog X.w) X.A (f (.int i t)) Q E s) :
  UnR X f (rU fun i=> .int (g i)):=by
 intro zB s σ H x v Q I rx h;obtain ⟨i,rfl,q⟩:=h;obtain ⟨t,rfl⟩:=rx;exact rule i t s _ _ ⟨.int (g i),H,I.tok _,⟨_,rfl⟩,q⟩
theorem zRz:UnR X (unaryOp .USub) (rU fun i=> .int (-i)):=unI fun _ _ _ _ _ q=>neg_int q
end
def zPW:V -> V -> Bool
 | .non,.non=>true | .non,.int _=>true | .int _,.non=>true | .non,.bl _=>true | .bl _,.non=>true | .non,.str _=>true | .str _,.non=>true
 | .int _,.int _=>true | .bl _,.bl _=>true | .str _,.str _=>true | .byt _,.byt _=>true
 | .int _,.str _=>true | .str _,.int _=>true | .bl _,.str _=>true | .str _,.bl _=>true
 | _,_=>false
def rEq:R2:=fun x y H Q=>zPW x y = true /\ Q (.bl (decide (x = y))) H
def rNe:R2:=fun x y H Q=>zPW x y = true /\ Q (.bl (!decide (x = y))) H
theorem zLQ {i j:Int}:decide (V.int i = V.int j) = (i == j):=by
 rw [Bool.eq_iff_iff];simp
theorem zNr {i j:Bool}:decide (V.bl i = V.bl j) = (i == j):=by
 rw [Bool.eq_iff_iff];simp
theorem zLR {i j:Str}:decide (V.str i = V.str j) = (i == j):=by
 rw [Bool.eq_iff_iff];simp
theorem zLB {i j:Array UInt8}:decide (V.byt i = V.byt j) = (i.toList == j.toList):=by
 rw [Bool.eq_iff_iff];cases i;cases j;simp
section
variable {X:Cx} {a b c:Expr} {ta tb tc:TE} {pos:Pos}
theorem zb {zB:List (Addr × Obj)} {σ:St} {H:Hp} {s:Shared} {Q:VK} {k k':Bool} (I:Inv X zB σ H s) (q:Q (.bl k) H) (e:k = k'):EP X zB σ Q (.bool k') s:=by
 subst e;exact ⟨.bl k,H,I,rfl,q⟩
theorem zQK:OpR X (compareOp .Eq) rEq:=by
 intro zB s σ H x y v u Q I rx ry h;obtain ⟨hs,q⟩:=h;cases x with
 | non=>
  cases rx;cases y with
  | non=>cases ry; exact PySem.EqNone.eq_none_none (zb I q (by simp))
  | bl j=>cases ry; exact PySem.EqNone.eq_none_bool (zb I q (by simp))
  | int j=>obtain ⟨t',rfl⟩:=ry; exact PySem.EqNone.eq_none_int (zb I q (by simp))
  | str j=>obtain ⟨t',rfl⟩:=ry; exact PySem.EqNone.eq_none_str (zb I q (by simp))
  | _=>exact absurd (show false = true from hs) zUO
 | bl i=>
  cases rx;cases y with
  | non=>cases ry; exact PySem.EqNone.eq_bool_none (zb I q (by simp))
  | bl j=>cases ry; exact eq_bool (zb I q zNr)
  | str j=>obtain ⟨t',rfl⟩:=ry; exact PySem.EqMixed.eq_bool_str (zb I q (by simp))
  | _=>exact absurd (show false = true from hs) zUO
 | int i=>
  obtain ⟨t,rfl⟩:=rx;cases y with
  | non=>cases ry; exact PySem.EqNone.eq_int_none (zb I q (by simp))
  | int j=>obtain ⟨t',rfl⟩:=ry; exact eq_int (zb I q zLQ)
  | str j=>obtain ⟨t',rfl⟩:=ry; exact PySem.EqMixed.eq_int_str (zb I q (by simp))
  | _=>exact absurd (show false = true from hs) zUO
 | str i=>
  obtain ⟨t,rfl⟩:=rx;cases y with
  | non=>cases ry; exact PySem.EqNone.eq_str_none (zb I q (by simp))
  | bl j=>cases ry; exact PySem.EqMixed.eq_str_bool (zb I q (by simp))
  | int j=>obtain ⟨t',rfl⟩:=ry; exact PySem.EqMixed.eq_str_int (zb I q (by simp))
  | str j=>obtain ⟨t',rfl⟩:=ry; exact eq_str (zb I q zLR)
  | _=>exact absurd (show false = true from hs) zUO
 | byt i=>
  obtain ⟨t,rfl⟩:=rx;cases y with
  | byt j=>obtain ⟨t',rfl⟩:=ry; exact PySem.W.eq_bytes (zb I q zLB)
  | _=>exact absurd (show false = true from hs) zUO
 | _=>cases y <;> exact absurd (show false = true from hs) zUO
theorem zR9:OpR X (compareOp .NotEq) rNe:=by
 intro zB s σ H x y v u Q I rx ry h;obtain ⟨hs,q⟩:=h;cases x with
 | non=>
  cases rx;cases y with
  | non=>cases ry; exact PySem.EqNone.ne_none_none (zb I q (by simp))
  | bl j=>cases ry; exact PySem.EqNone.ne_none_bool (zb I q (by simp))
  | int j=>obtain ⟨t',rfl⟩:=ry; exact PySem.EqNone.ne_none_int (zb I q (by simp))
  | str j=>obtain ⟨t',rfl⟩:=ry; exact PySem.EqNone.ne_none_str (zb I q (by simp))
  | _=>exact absurd (show false = true from hs) zUO
 | bl i=>
  cases rx;cases y with
  | non=>cases ry; exact PySem.EqNone.ne_bool_none (zb I q (by simp))
  | bl j=>cases ry; exact ne_bool (zb I q (zVp not zNr))
  | str j=>obtain ⟨t',rfl⟩:=ry; exact PySem.EqMixed.ne_bool_str (zb I q (by simp))
  | _=>exact absurd (show false = true from hs) zUO
 | int i=>
  obtain ⟨t,rfl⟩:=rx;cases y with
  | non=>cases ry; exact PySem.EqNone.ne_int_none (zb I q (by simp))
  | int j=>obtain ⟨t',rfl⟩:=ry; exact ne_int (zb I q (zVp not zLQ))
  | str j=>obtain ⟨t',rfl⟩:=ry; exact PySem.EqMixed.ne_int_str (zb I q (by simp))
  | _=>exact absurd (show false = true from hs) zUO
 | str i=>
  obtain ⟨t,rfl⟩:=rx;cases y with
  | non=>cases ry; exact PySem.EqNone.ne_str_none (zb I q (by simp))
  | bl j=>cases ry; exact PySem.EqMixed.ne_str_bool (zb I q (by simp))
  | int j=>obtain ⟨t',rfl⟩:=ry; exact PySem.EqMixed.ne_str_int (zb I q (by simp))
  | str j=>obtain ⟨t',rfl⟩:=ry; exact ne_str (zb I q (zVp not zLR))
  | _=>exact absurd (show false = true from hs) zUO
 | byt i=>
  obtain ⟨t,rfl⟩:=rx;cases y with
  | byt j=>obtain ⟨t',rfl⟩:=ry; exact PySem.W.ne_bytes (zb I q (zVp not zLB))
  | _=>exact absurd (show false = true from hs) zUO
 | _=>cases y <;> exact absurd (show false = true from hs) zUO
theorem zSe:OpR X (compareOp .Lt) (rI0 fun i j=> .bl (decide (i < j))):=zRg fun _ _ _ _ _ _ _ q=>lt_int q
theorem zSK:OpR X (compareOp .LtE) (rI0 fun i j=> .bl (decide (i <= j))):=zRg fun _ _ _ _ _ _ _ q=>le_int q
theorem zSA:OpR X (compareOp .Gt) (rI0 fun i j=> .bl (decide (j < i))):=zRg fun _ _ _ _ _ _ _ q=>gt_int q
theorem OpR.or {f:Value -> Value -> Sem Value} {r r':R2} (h:OpR X f r) (h':OpR X f r'):OpR X f (fun x y H Q=>r x y H Q \/ r' x y H Q):=by
 intro zB s σ H x y v u Q I rx ry q;rcases q with q | q
 ·exact h zB s σ H x y v u Q I rx ry q
 ·exact h' zB s σ H x y v u Q I rx ry q
theorem zDi (b:Expr) {op:CmpOp} (h:op ≠ .In:=by decide) (h2:op ≠ .NotIn:=by decide):behindInMarks op b = false:=by
 have e1:(op == CmpOp.In) = false:=by cases op <;> first | rfl | exact absurd rfl h
 have e2:(op == CmpOp.NotIn) = false:=by cases op <;> first | rfl | exact absurd rfl h2
 cases b <;> simp [behindInMarks,e1,e2]
theorem zOw {op:CmpOp} {r:R2} (ho:OpR X (compareOp op) r) (ha:PE X a ta) (hb:PE X b tb) (hm:behindInMarks op b = false):PE X (.Compare a [op] [b] pos) (tOp r ta tb):=by
 intro zB s σ H Q I h;exact wpAny_Compare1 (zQx ha hb I h fun v u s2 x y H2 I2 rx ry q=>ho zB s2 σ H2 x y v u Q I2 rx ry q) hm
def zKw (t:TE):TT:=fun σ H Q=>t σ H fun x H'=>∃ k,x = .bl k /\ Q k H'
theorem zPJ {op:CmpOp} {r:R2} (ho:OpR X (compareOp op) r) (ha:PE X a ta) (hb:PE X b tb) (hm:behindInMarks op b = false):PT X (.Compare a [op] [b] pos) (zKw (tOp r ta tb)):=by
 intro zB s σ H Q I h;refine wpAny_isTrue_Compare1 (thn (ha zB s σ H _ I h) fun v s1 ⟨x,H1,I1,r1,q1⟩=>thn (hb zB s1 σ H1 _ I1 q1) fun u s2 ⟨y,H2,I2,r2,q2⟩=>
  thn (ho zB s2 σ H2 x y v u _ I2 r1 r2 q2) fun c s3 ⟨z,H3,I3,r3,k,e,q3⟩=>?_) hm
 subst e;cases r3;exact wpAny_truthy_bool ⟨H3,I3,q3⟩
theorem zEV:(sizeLine:Nat) < 2 ^ 63:=by rw [sizeLine_eq]; decide
theorem zDM {x:V} {us:List Value} (r:zU [x] us):∃ u,us = [u] /\ za x u:=by
 cases r with
 | cons r1 r2=>cases r2; exact ⟨_,rfl,r1⟩
theorem zTF {x y:V} {us:List Value} (r:zU [x,y] us):∃ u w',us = [u,w'] /\ za x u /\ za y w':=by
 cases r with
 | cons r1 r2=>
  cases r2 with
  | cons r3 r4=>cases r4; exact ⟨_,_,rfl,r1,r3⟩
theorem zLT (hc:X.calm = true):zBa X (.builtin "max") (fun xs H Q=>∃ i j,xs = [.int i,.int j] /\ Q (.int (if j > i then j else i)) H):=by
 intro zB s σ H xs us Q I r h;obtain ⟨i,j,rfl,q⟩:=h;obtain ⟨u,w',rfl,⟨t,rfl⟩,⟨t',rfl⟩⟩:=zTF r;refine max_two_ints (I.ok.hd hc) fun h' tk k=>⟨_,H,I.kept k,?_,q⟩;by_cases hj:j > i
 ·rw [zUH hj,zUH hj]; exact ⟨_,rfl⟩
 ·rw [zUK hj,zUK hj]; exact ⟨_,rfl⟩
theorem zMc:zBa X (.type "int") (fun xs H Q=>(∃ i,xs = [.int i] /\ Q (.int i) H) \/ ∃ k,xs = [.bl k] /\ Q (.int (if k then 1 else 0)) H):=by
 intro zB s σ H xs us Q I r h;rcases h with ⟨i,rfl,q⟩ | ⟨k,rfl,q⟩
 ·obtain ⟨u,rfl,t,rfl⟩:=zDM r;exact call_int_int ⟨.int i,H,I,⟨_,rfl⟩,q⟩
 ·obtain ⟨u,rfl,r1⟩:=zDM r;cases r1;exact call_int_bool ⟨.int (if k then 1 else 0),H,I.tok _,⟨_,rfl⟩,q⟩
end
structure ObjM (h:Heap) (x dx C:Addr) (mA:Str -> Option Value):Prop where
 obj:h.get? x = some (PySem.W.instObj C dx)
 ns:h.Ns1 dx mA
 ne:dx ≠ x
theorem zLV {h:Heap} {dx:Addr} {mA:Str -> Option Value} (n:h.Ns1 dx mA):∃ od,h.get? dx = some od /\ ∀ name,PySem.W.lookIn name od = some (mA name):=by
 obtain ⟨o,es,ep,ho,hd,hk,_,hm⟩:=n;refine ⟨o,ho,fun name=>?_⟩;have e:=hm name;unfold nsFind findBy at e;rw [<- Array.find?_toList] at e;unfold PySem.W.lookIn;rw [hd];dsimp only;split
 ·rename_i y q;rw [q] at e;exact zVp some e
 ·rename_i q;rw [q] at e;have a:es.toList.any (·.refKey) = false:=by
   rw [List.any_eq_false];intro y hy;obtain ⟨z,t,hkey⟩:=hk y (Array.mem_toList_iff.mp hy);simp [DictEntry.refKey,hkey]
  have a':¬ es.toList.any (·.refKey) = true:=by rw [a]; exact zUO
  rw [zUK a'];exact zVp some e
theorem ObjM.look {h:Heap} {x dx C:Addr} {mA:Str -> Option Value} (I:ObjM h x dx C mA):∃ od,PySem.W.InstAt h x (PySem.W.instObj C dx) C (some od) /\ ∀ name,PySem.W.lookIn name od = some (mA name) :=
 let ⟨od,ho,hl⟩:=zLV I.ns
 ⟨od,⟨I.obj,rfl,rfl,ho⟩,hl⟩
theorem zF0.some_of {v:V} {o:Option Value} (r:zF0 (some v) o):∃ u,o = some u /\ za v u:=by
 cases o with
 | none=>exact (show False from r).elim
 | some u=>exact ⟨u,rfl,r⟩
section
variable {P:Program} {w:World} {H H':Hp} {h h':Heap} {a C dx:Addr} {fs fs':List (Str × V)}
theorem zPL (hok:HOk P w H h) (e:H a = some (.ins C dx fs)):∃ mA,ObjM h a dx C mA /\ (∀ f,zF0 (fs.lookup f) (mA f)) /\ PySem.Within mA (fs.map (·.1)) /\ fs.length <= 1000 /\ H dx = some (.own a):=by
 obtain ⟨d,z,ne,ob,mA,n,r,q⟩:=(show zk P w H h a (.ins C dx fs) from hok a _ e);exact ⟨mA,⟨ob,n,ne⟩,r,q,z,d⟩
end
structure Cls (K:PySem.W.Frag) (C:Addr):Prop where
 pg:PySem.W.plainGet K C Str.empty = true
 hd:PySem.W.hasDictIn K C = true
 po:PySem.W.plainOver K C = true
 sa:PySem.W.findIn K (.ref C) "__setattr__" = some (some (.builtin "object.__setattr__"))
theorem Cls.get {K:PySem.W.Frag} {C:Addr} (c:Cls K C) (f:Str):PySem.W.plainGet K C f = true:=c.pg
section
variable {X:Cx} {zB:List (Addr × Obj)} {σ:St} {H:Hp} {s:Shared} {A:Around} {E:Value -> Shared -> Prop} {Q:Value -> Shared -> Prop} {c:Value} {b:Bool}
set_option genInjectivity true in
inductive TyOf (K:PySem.W.Frag) (H:Hp):V -> Value -> Prop where
 | non:TyOf K H .non (.type "NoneType")
 | bl (x:Bool):TyOf K H (.bl x) (.type "bool")
 | int (i:Int):TyOf K H (.int i) (.type "int")
 | str (x:Str):TyOf K H (.str x) (.type "str")
 | flt (x:UInt64):TyOf K H (.flt x) (.type "float")
 | lst {a:Addr} {xs:List V} (e:H a = some (.lst xs)):TyOf K H (.ref a) (.type "list")
 | frz {a:Addr} {o:Obj} {xs:List V} (e:H a = some (.frz o (.lst xs))):TyOf K H (.ref a) (.type "list")
 | tup {a:Addr} {xs:List V} (e:H a = some (.tup xs)):TyOf K H (.ref a) (.type "tuple")
 | dK {a:Addr} {kvs:List (Key × V)} (e:H a = some (.dK kvs)):TyOf K H (.ref a) (.type "dict")
 | dT {a:Addr} {kvs:List (List Key × V)} (e:H a = some (.dT kvs)):TyOf K H (.ref a) (.type "dict")
 | ins {a C dx:Addr} {fs:List (Str × V)} (e:H a = some (.ins C dx fs)) (cl:Cls K C) (ha:PySem.W.findIn K (.ref C) "__class__" = some (some (.builtin "object.__class__")))
   (hn:PySem.W.specialIn K (.builtin "object.__class__") "__get__" = some (some (.builtin "getset_descriptor.__get__"))) (htk:PySem.W.takesIn K (.builtin "object.__class__") = some true)
   (hm:PySem.W.mroIn K C (.type "object") = some true):TyOf K H (.ref a) (.ref C)
theorem zLk {x:V} {u t:Value} (I:Inv X zB σ H s) (rx:za x u) (ty:TyOf X.K H x t) (e:PySem.W.kitOne X.K t c = some b) (h:∀ tk,Q (.bool b) { s with toks:=tk }) :
  wpAny (model X.prog X.w) A (call (.builtin "isinstance") [u,c]) Q E s:=by
 cases ty with
 | non=>cases (show u = Value.none from rx); exact zVf PySem.W.kitx_none I.kIn True.intro e (fun z=>nomatch z) h
 | bl y=>cases (show u = Value.bool y from rx); exact zVf PySem.W.kitx_bool I.kIn True.intro e (fun z=>nomatch z) h
 | int i=>obtain ⟨t,q⟩:=(show ∃ t,u = Value.int i t from rx); cases q; exact zVf PySem.W.kitx_int I.kIn True.intro e (fun z=>nomatch z) h
 | str y=>obtain ⟨t,q⟩:=(show ∃ t,u = Value.str y t from rx); cases q; exact zVf PySem.W.kitx_str I.kIn True.intro e (fun z=>nomatch z) h
 | flt y=>obtain ⟨t,q⟩:=(show ∃ t,u = Value.float y t from rx); cases q; exact zVf PySem.W.kitx_float I.kIn True.intro e (fun z=>nomatch z) h
 | @lst a xs ea=>
  cases (show u = Value.ref a from rx);obtain ⟨_,_,n,_,h1⟩:=(show zk X.prog X.w H s.heap a (.lst xs) from I.hok a _ ea);exact zVf PySem.W.kitx_list I.kIn ⟨_,h1,rfl⟩ e (fun z=>nomatch z) h
 | @frz a ob xs ea=>
  cases (show u = Value.ref a from rx);obtain ⟨_,_,_,n,_,h1⟩:=(show zk X.prog X.w H s.heap a (.frz ob (.lst xs)) from I.hok a _ ea);exact zVf PySem.W.kitx_list I.kIn ⟨_,h1,rfl⟩ e (fun z=>nomatch z) h
 | @tup a xs ea=>
  cases (show u = Value.ref a from rx);obtain ⟨_,_,_,p⟩:=(show zk X.prog X.w H s.heap a (.tup xs) from I.hok a _ ea);obtain ⟨o,h1,h2,_⟩:=p;exact zVf PySem.W.kitx_tuple I.kIn ⟨o,h1,h2⟩ e (fun z=>nomatch z) h
 | @dK a kvs ea=>
  cases (show u = Value.ref a from rx);obtain ⟨_,_,vs,_,p⟩:=(show zk X.prog X.w H s.heap a (.dK kvs) from I.hok a _ ea);obtain ⟨o,es,ep,h1,h2,_⟩:=p;exact zVf PySem.W.kitx_dict I.kIn ⟨o,h1,h2.1⟩ e (fun z=>nomatch z) h
 | @dT a kvs ea=>
  cases (show u = Value.ref a from rx);obtain ⟨_,_,xs,_,o,es,ep,h1,h2,_⟩:=(show zk X.prog X.w H s.heap a (.dT kvs) from I.hok a _ ea);exact zVf PySem.W.kitx_dict I.kIn ⟨o,h1,h2.1⟩ e (fun z=>nomatch z) h
 | @ins a C dx fs ea cl ha hn htk hm=>
  cases (show u = Value.ref a from rx);obtain ⟨mA,O,_⟩:=zPL I.hok ea;obtain ⟨od,J,_⟩:=O.look;exact zVf (PySem.W.kitx_own (cl.get _) cl.hd ha hn htk hm) I.kIn J e (fun z=>nomatch z) h
end
structure Room (k:Nat) (A:Around):Prop where
 hd:A.handled = none
 dp:A.depth + 3 * k + 5 < recursionLimit
 un:A.units + 16 * k + 200 < cLine
theorem Room.mono {j k:Nat} {A:Around} (r:Room k A) (h:j <= k):Room j A:=⟨r.hd,by have:=r.dp; omega,by have:=r.un; omega⟩
theorem Room.deeper {k:Nat} {A:Around} (r:Room (k + 1) A) (env:Env):Room k (A.deeper env) :=
 ⟨r.hd,by have:=r.dp; show A.depth + 1 + 3 * k + 5 < _; omega,by have:=r.un; show A.units + 3 + 16 * k + 200 < _; omega⟩
theorem Room.depth {k:Nat} {A:Around} (r:Room k A):A.depth < recursionLimit:=by have:=r.dp; omega
theorem Room.units {k:Nat} {A:Around} (r:Room k A):A.units + 64 < cLine:=by have:=r.un; omega
theorem Room.units0 {k:Nat} {A:Around} (r:Room k A):A.units < cLine:=by have:=r.un; omega
def zTw:TA:=fun _ H Q=>Q [] H
def zSD (ta:TE) (tr:TA):TA:=fun σ H Q=>ta σ H fun x H1=>tr σ H1 fun xs H2=>Q (x :: xs) H2
section
variable {X:Cx} {e:Expr} {es:List Expr} {te:TE} {t:TA} {pos:Pos}
theorem zFW:PA X [] zTw:=fun _ _ _ _ H Q I h=>Calls.spliced_nil ⟨[],H,I,.nil,h⟩
theorem zB2 (ha:PE X e te) (hr:PA X es t) (hs:starEach (e :: es) X.env = (false,eval e X.env) :: starEach es X.env:=by rfl):PA X (e :: es) (zSD te t):=by
 intro pos zB s σ H Q I h;rw [hs];show wpAny _ _ (spliced ((false,eval e X.env) :: backTo pos (starEach es X.env))) _ _ s;refine Calls.spliced_cons (thn (ha zB s σ H _ I h) fun u s1 ⟨x,H1,I1,r1,q1⟩=>?_);exact thn (hr pos zB s1 σ H1 _ I1 q1) fun us s2 ⟨xs,H2,I2,r2,q2⟩=>⟨x :: xs,H2,I2,.cons r1 r2,q2⟩
def zTn (t:TA):TE:=fun σ H Q=>t σ H fun xs H1=>xs.length <= sizeLine /\ ∀ p,H1 p = none -> Q (.ref p) (upd H1 p (.tup xs))
def zTl (t:TA):TE:=fun σ H Q=>t σ H fun xs H1=>xs.length <= sizeLine /\ ∀ p,H1 p = none -> Q (.ref p) (upd H1 p (.lst xs))
theorem zR6 {x1} (h:PA X es t):PE X (.Tuple es x1 pos) (zTn t):=by
 intro zB s σ H Q I hq;refine wpAny_Tuple_spliced (thn (h pos zB s σ H _ I hq) fun us s1 ⟨xs,H1,I1,r,z,q⟩=>⟨by rw [<- r.length]; exact z,?_⟩);have hf:H1 s1.heap.objs.size = none:=I1.hok.fresh (zT8 _);refine ⟨.ref s1.heap.objs.size,upd H1 s1.heap.objs.size (.tup xs),I1.laid (t':=s1.toks) (fun b u e=>zTy _ e) (zT8 _) ?_,rfl,q _ hf⟩;exact ⟨z,us,r,⟨_,zUC _ rfl,rfl,⟨_,rfl⟩,rfl⟩⟩
theorem zQZ (h:PA X es t):PE X (.List es pos) (zTl t):=by
 intro zB s σ H Q I hq;refine wpAny_List_spliced (thn (h pos zB s σ H _ I hq) fun us s1 ⟨xs,H1,I1,r,z,q⟩=>⟨by rw [<- r.length]; exact z,?_⟩);have hf:H1 s1.heap.objs.size = none:=I1.hok.fresh (zT8 _);refine ⟨.ref s1.heap.objs.size,upd H1 s1.heap.objs.size (.lst xs),I1.laid (t':=s1.toks) (fun b u e=>zTy _ e) (zT8 _) ?_,rfl,q _ hf⟩;exact ⟨z,us,0,r,zUC _ rfl⟩
end
abbrev Sp:=List V -> Hp -> VK -> XK -> Prop
abbrev CXT:=List Env -> Hp -> Shared -> XK -> Value -> Shared -> Prop
structure Env0 (P:Program) (w:World) (K:PySem.W.Frag) (mg:Str -> Option Value) (base:Heap) (A:Around) (outer:List Env) (s:Shared) (H:Hp):Prop where
 frames:A.frames = some outer
 mod:Mod K mg base
 bs:∀ b o,base.get? b = some o -> s.heap.get? b = some o /\ H b = none
 bsz:base.objs.size <= s.heap.objs.size
 funs:s.heap.FunFrames base outer
 frf:∀ b ∈ frs outer,H b = none
 hok:HOk P w H s.heap
 bare:AllBare s.gens
def CE (outer:List Env) (P:Program) (w:World) (H:Hp) (s:Shared) (Q:VK) (u:Value) (s':Shared):Prop :=
 ∃ v H',s'.os = s.os /\ AllBare s'.gens /\ Un (frs outer) [] H H' s.heap s'.heap /\ HOk P w H' s'.heap /\ za v u /\ Q v H'
def CR (CX:CXT) (outer:List Env) (P:Program) (w:World) (H:Hp) (s:Shared) (Q:VK) (E:XK) (r:Result) (s':Shared):Prop :=
 match r with
 | .ok (.ret u)=>CE outer P w H s Q u s'
 | .ok _=>False
 | .error e=>CX outer H s E e s'
structure FnOk (P:Program) (w:World) (K:PySem.W.Frag) (mg:Str -> Option Value) (base:Heap) (CX:CXT) (k:Nat) (f:Addr) (fd:FuncData) (ps:List Str) (sp:Sp):Prop where
 len:∀ vs H Q E,sp vs H Q E -> vs.length = ps.length
 run:∀ (A:Around) (outer:List Env) (s:Shared) (H:Hp) (args:Args) (us:List Value) (vs:List V) (Q:VK) (E:XK),Room k A -> Env0 P w K mg base A outer s H -> BindsTo s fd args (ps.zip us) -> zU vs us -> sp vs H Q E ->
  codeAny (model P w) A (.call (.ref f) args) (CR CX outer P w H s Q E) s
theorem FnOk.mono {P:Program} {w:World} {K:PySem.W.Frag} {mg:Str -> Option Value} {base:Heap} {CX:CXT} {j k:Nat} {f:Addr} {fd:FuncData} {ps:List Str} {sp:Sp} (F:FnOk P w K mg base CX j f fd ps sp) (h:j <= k) :
  FnOk P w K mg base CX k f fd ps sp:=⟨F.len,fun A outer s H args us vs Q E hr=>F.run A outer s H args us vs Q E (hr.mono h)⟩
theorem FnOk.imp {P:Program} {w:World} {K:PySem.W.Frag} {mg:Str -> Option Value} {base:Heap} {CX:CXT} {k:Nat} {f:Addr} {fd:FuncData} {ps:List Str} {sp sp':Sp} (F:FnOk P w K mg base CX k f fd ps sp)
  (h:∀ vs H Q E,sp' vs H Q E -> sp vs H Q E):FnOk P w K mg base CX k f fd ps sp' :=
 ⟨fun vs H Q E q=>F.len vs H Q E (h _ _ _ _ q),fun A outer s H args us vs Q E hr he hb hv hs=>F.run A outer s H args us vs Q E hr he hb hv (h _ _ _ _ hs)⟩
section
variable {X:Cx} {zB:List (Addr × Obj)} {σ:St} {H:Hp} {s s':Shared}
theorem Inv.env0 (I:Inv X zB σ H s):Env0 X.prog X.w X.K X.mg X.base X.A X.stack s H :=
 ⟨I.ok.frames,I.ok.mod,I.bs,zUT I.ok.bsz I.sz,I.stack,I.stkFree,I.hok,I.bare⟩
theorem Inv.after {Q:VK} {u:Value} (I:Inv X zB σ H s) (h:CE X.stack X.prog X.w H s Q u s'):EP X zB σ Q u s':=by
 obtain ⟨v,H',os,bare,un,hok,r,q⟩:=h;obtain ⟨hh,g,d,t,os'⟩:=s';obtain rfl:os' = s.os:=os;exact ⟨v,H',I.call (h':=hh) (g':=g) (d':=d) (t':=t) (ch:=[]) un hok bare (fun b z=>absurd z (by simp)),r,q⟩
end
def zSI (sp:Sp) (dvs:List V) (E:XK) (t:TA):TE:=fun σ H Q=>t σ H fun vs H1=>sp (vs ++ dvs) H1 Q E
def zDD (K:PySem.W.Frag) (fd:FuncData) (ps:List Str) (ds:List Value):Prop :=
 ∀ (s:Shared) (us:List Value),K.In s.heap -> (us ++ ds).length = ps.length -> BindsTo s fd ⟨us,[]⟩ (ps.zip (us ++ ds))
theorem zDD.all {K:PySem.W.Frag} {fd:FuncData} {ps:List Str} (h:∀ us:List Value,us.length = ps.length -> bindArgs fd ⟨us,[]⟩ = pure (ps.zip us)):zDD K fd ps []:=fun s us _ hl=>by
 rw [zUm] at hl ⊢;exact .of_eq (h us hl)
def zKb (CX:CXT) (X:Cx) (E:XK):Prop:=∀ (zB:List (Addr × Obj)) (σ:St) (H:Hp) (s:Shared) (e:Value) (s':Shared),Inv X zB σ H s -> CX X.stack H s E e s' -> X.xe e s'
section
variable {X:Cx} {CX:CXT} {k:Nat} {f C:Addr} {fd:FuncData} {ps:List Str} {sp:Sp} {dvs:List V} {ds:List Value} {E:XK} {x m:Str} {p pos apos:Pos} {e o:Expr} {es:List Expr} {ta:TE} {t:TA}
theorem zOJ {zB:List (Addr × Obj)} {σ:St} {H:Hp} {s:Shared} {Q:VK} {us:List Value} {vs:List V} (F:FnOk X.prog X.w X.K X.mg X.base CX k f fd ps sp) (hr:Room k X.A) (hb:zDD X.K fd ps ds) (hd:zU dvs ds) (hx:zKb CX X E)
  (I:Inv X zB σ H s) (r:zU vs us) (h:sp (vs ++ dvs) H Q E):wpAny (model X.prog X.w) X.A (call (.ref f) us) (EP X zB σ Q) X.xe s:=by
 have r2:zU (vs ++ dvs) (us ++ ds):=r.append hd;have hl:(us ++ ds).length = ps.length:=by rw [<- r2.length]; exact F.len _ _ _ _ h
 refine wpAny_call (codeAny_mono (F.run X.A X.stack s H ⟨us,[]⟩ (us ++ ds) (vs ++ dvs) Q E hr I.env0 (hb s us I.kIn hl) r2 h) fun r s' hq=>?_);cases r with
 | error e=>exact hx zB σ H s e s' I hq
 | ok fl=>
  cases fl with
  | ret u=>exact I.after hq
  | next=>exact False.elim hq
  | brk=>exact False.elim hq
  | cont=>exact False.elim hq
theorem zO4 (F:FnOk X.prog X.w X.K X.mg X.base CX k f fd ps sp) (hr:Room k X.A) (hg:Gl X x) (hm:X.mg x = some (.ref f)) (hk:PySem.W.keepIn X.K (.ref f) = true) (hb:zDD X.K fd ps ds) (hd:zU dvs ds) (hx:zKb CX X E)
  (ha:PA X (e :: es) t) (hdb:(x == ("__debug__" : Str)) = false:=by decide) (he:starEach (e :: es) X.env = (false,eval e X.env) :: starEach es X.env:=by rfl) (hpl:(backTo pos (starEach es X.env)).any (·.1) = false:=by rfl) :
  PE X (.Call (.Name x p) (e :: es) [] pos) (zSI sp dvs E t):=by
 intro zB s σ H Q I h;refine wpAny_Call_Name_kw (zLI I hg hm ?_ hdb);refine PySem.W.callWith_K (h₀:=X.base) I.ok.mod.kin hk (thn (ha pos zB s σ H _ I h) fun us s1 ⟨vs,H1,I1,r,q⟩=>⟨I1.kIn,?_⟩) he hpl;exact zOJ F hr hb hd hx I1 r q
end
structure FnScope (N P:List Str) (sc:Scope):Prop where
 kind:sc.kind = .function
 co:sc.isCoroutine = false
 gen:sc.isGenerator = false
 nd:N.Nodup
 pre:N.take P.length = P
 par:∀ x ∈ P,sc.names.lookup x = some .local \/ sc.names.lookup x = some .cell
 nofree:∀ y ∈ sc.names,y.2 ≠ .free
theorem zG2 {kindOf:Str -> Option NameKind} {x:Str}:∀ {binds:List (Str × Value)} {m:Str -> Option Value},(∀ v,(x,v) ∉ binds) -> bindL kindOf binds m x = m x
 | [],_,_=>rfl
 | (n,v) :: r,m,h=>by
  unfold bindL;rw [zG2 fun w hw=>h w (zUF _ hw)];split
  ·have:x ≠ n:=by rintro rfl; exact h v zUG
   simp [this]
  ·rfl
theorem zGd {kindOf:Str -> Option NameKind} {x:Str}:∀ {binds:List (Str × Value)} {m:Str -> Option Value},(∀ v,(x,v) ∉ binds) -> bindC kindOf binds m x = m x
 | [],_,_=>rfl
 | (n,v) :: r,m,h=>by
  unfold bindC;rw [zGd fun w hw=>h w (zUF _ hw)];split
  ·rfl
  ·have:x ≠ n:=by rintro rfl; exact h v zUG
   simp [this]
theorem zGl {kindOf:Str -> Option NameKind} {x:Str} {v:Value}:∀ {P:List Str} {vs:List Value} {i:Nat} {m:Str -> Option Value},P.Nodup -> P[i]? = some x -> vs[i]? = some v -> kindOf x = some .local ->
  bindL kindOf (P.zip vs) m x = some v
 | [],_,_,_,_,h,_,_=>by simp at h
 | _ :: _,[],_,_,_,_,h,_=>by simp at h
 | p :: P,w :: vs,0,m,nd,h1,h2,hk=>by
  simp at h1 h2; subst h1; subst h2;show bindL kindOf ((p,w) :: P.zip vs) m p = _;unfold bindL;rw [zG2 fun v hv=>(List.nodup_cons.mp nd).1 (List.of_mem_zip hv).1,zUH hk];simp
 | p :: P,w :: vs,i + 1,m,nd,h1,h2,hk=>by
  show bindL kindOf ((p,w) :: P.zip vs) m x = _;unfold bindL;exact zGl (i:=i) (List.nodup_cons.mp nd).2 (by simpa using h1) (by simpa using h2) hk
theorem zGu {kindOf:Str -> Option NameKind} {x:Str} {v:Value}:∀ {P:List Str} {vs:List Value} {i:Nat} {m:Str -> Option Value},P.Nodup -> P[i]? = some x -> vs[i]? = some v -> kindOf x ≠ some .local ->
  bindC kindOf (P.zip vs) m x = some v
 | [],_,_,_,_,h,_,_=>by simp at h
 | _ :: _,[],_,_,_,_,h,_=>by simp at h
 | p :: P,w :: vs,0,m,nd,h1,h2,hk=>by
  simp at h1 h2; subst h1; subst h2;show bindC kindOf ((p,w) :: P.zip vs) m p = _;unfold bindC;rw [zGd fun v hv=>(List.nodup_cons.mp nd).1 (List.of_mem_zip hv).1,zUK hk];simp
 | p :: P,w :: vs,i + 1,m,nd,h1,h2,hk=>by
  show bindC kindOf ((p,w) :: P.zip vs) m x = _;unfold bindC;exact zGu (i:=i) (List.nodup_cons.mp nd).2 (by simpa using h1) (by simpa using h2) hk
def zDG (N:List Str) (vs:List V):St:=vs.map some ++ List.replicate (N.length - vs.length) none
def zIA (CX:CXT) (P:Program) (w:World) (K:PySem.W.Frag) (mg:Str -> Option Value) (base:Heap) (N:List Str) (qual:Str) (scope:Scope) (f:Addr) (cd:Value) (A:Around) (outer:List Env) (s:Shared) (H:Hp) (E:XK):Cx where
 prog:=P
 w:=w
 K:=K
 mg:=mg
 base:=base
 A:=A.deeper (envOfC qual scope s.heap.objs.size f cd)
 N:=N
 s₀:=s
 H₀:=H
 env:=envOfC qual scope s.heap.objs.size f cd
 outer:=outer
 stack:=envOfC qual scope s.heap.objs.size f cd :: outer
 ex:=[]
 calm:=true
 fn:=fun _=>true
 pn:=[]
 xe:=fun e s'=>wpAny (model P w) (A.deeper (envOfC qual scope s.heap.objs.size f cd)) (leaving (envOfC qual scope s.heap.objs.size f cd) e) (fun _ s''=>CX outer H s E e s'') (fun e' s''=>CX outer H s E e' s'') s'
theorem zFN {sc:Scope} {n:Nat} {x:Str} (h:sc.names.lookup x = some .cell):∃ c,(cellsFrom n sc.names []).lookup x = some c:=by
 have q:=PySem.W.cellsFrom_some sc.names n [] (.inl h);exact Option.isSome_iff_exists.mp q
theorem zL1 {CX:CXT} {P:Program} {w:World} {K:PySem.W.Frag} {mg:Str -> Option Value} {base:Heap} {N ps:List Str} {qual:Str} {scope:Scope} {f:Addr} {cd:Value} {A:Around} {outer:List Env} {s s1:Shared} {H:Hp} {E:XK} {us:List Value} {vs:List V}
  (S:FnScope N ps scope) (hd:A.handled = none) (e0:Env0 P w K mg base A outer s H) (hl:vs.length = ps.length) (r:zU vs us)
  (x:InCallC s s.heap.objs.size (bindL (envOfC qual scope s.heap.objs.size f cd).kindOf (ps.zip us) fun _=>none) (cellsFrom (s.heap.objs.size + 1) scope.names []) (bindC (envOfC qual scope s.heap.objs.size f cd).kindOf (ps.zip us) fun _=>none) s1) :
  Inv (zIA CX P w K mg base N qual scope f cd A outer s H E) [] (zDG N vs) H s1:=by
 have hpl:ps.length <= N.length:=by have:=zVp List.length S.pre; rw [zVQ] at this; omega
 obtain ⟨h1,tk,rfl,hk⟩:=x.done;have noA:∀ b:Addr,b ∉ (zIA CX P w K mg base N qual scope f cd A outer s H E).ex:=fun b z=>absurd (show b ∈ ([]:List Addr) from z) (by simp)
 refine ⟨⟨e0.mod,S.kind,rfl,rfl,zT8 _,fun y z c h1 h2=>?_,fun y hy=>?_,fun y c _ h=>?_,fun _=>hd,Around.frames_deeper e0.frames,.inr ⟨rfl,rfl⟩,fun b z=>absurd z (noA b),e0.bs,e0.bsz,fun b _ _=>noA b,fun b z=>absurd z (noA b),e0.funs,e0.frf⟩,
  rfl,e0.bare,Un.kept hk,⟨_,x.toInCall.ns,fun i y v h1 h2 h3=>?_⟩,fun y c h=>⟨_,x.cell y c h⟩,e0.hok.fresh (zT8 _),fun y c h=>?_,fun p hp=>absurd (show p ∈ ([]:List (Addr × Obj)) from hp) (by simp),e0.hok.kept hk,?_⟩
 ·exact name_of_addr x.apart (zU4 h1) (zU4 h2)
 ·have hy:scope.names.lookup y = some .cell \/ scope.names.lookup y = some .free:=hy;rcases hy with hy | hy
  ·exact zFN hy
  ·exact absurd rfl (S.nofree _ (zU4 hy))
 ·exact zWy (x.above y c (zU4 h))
 ·have hi:i < vs.length:=by
   unfold zDG at h2;by_cases hi:i < vs.length
   ·exact hi
   ·rw [zVC (by simpa using hi)] at h2;rw [List.getElem?_replicate] at h2;split at h2 <;> cases h2
  have ha:vs[i]? = some v:=by
   unfold zDG at h2;rw [zT9 (by simpa using hi),zUP] at h2;cases e:vs[i]? with
   | none=>rw [e] at h2; cases h2
   | some a=>rw [e] at h2; cases h2; rfl
  obtain ⟨u,hu,rv⟩:=r.get ha;have hp:ps[i]? = some y:=by
   rw [<- S.pre,List.getElem?_take_of_lt (by omega)]; exact h1
  have ndP:ps.Nodup:=by rw [<- S.pre]; exact S.nd.sublist (List.take_sublist _ _)
  refine ⟨u,rv,?_⟩;rcases S.par y (zUt hp) with k | k
  ·exact .inl ⟨k,zGl ndP hp hu k⟩
  ·obtain ⟨c,e⟩:=zFN (n:=s.heap.objs.size + 1) k;refine .inr ⟨.inl k,c,e,?_⟩;have q:=x.cell y c e;rw [zGu ndP hp hu (by show scope.names.lookup y ≠ _; rw [k]; decide)] at q;exact q
 ·exact e0.hok.fresh (zWy (x.above y c (zU4 h)))
 ·unfold zDG;show _ = N.length;rw [zUI,zUB,List.length_replicate];omega
theorem zQG {CX:CXT} {P:Program} {w:World} {K:PySem.W.Frag} {mg:Str -> Option Value} {base:Heap} {k:Nat} {f:Addr} {name qual:Str} {params:Arguments} {body:List Stmt} {scope:Scope} {dV kV doc pm cdv ct oc:Value} {an od:Option Addr}
  {osl:Array (Option Value)} {N ps:List Str} {sp:Sp} (lk:K.lookup f = some ⟨oc,od,.func (PySem.W.fnOf name qual params body scope dV kV doc pm an cdv ct),osl⟩) (hcd:PySem.W.codeIn K cdv qual = true) (S:FnScope N ps scope)
  (len:∀ vs H Q E,sp vs H Q E -> vs.length = ps.length)
  (hbody:∀ (A:Around) (outer:List Env) (s:Shared) (H:Hp) (vs:List V) (Q:VK) (E:XK),Room k (A.deeper (envOfC qual scope s.heap.objs.size f cdv)) -> sp vs H Q E ->
   ∃ t,PSs (zIA CX P w K mg base N qual scope f cdv A outer s H E) body t /\ t { nx:=fun _ H'=>Q .non H',rt:=Q } (zDG N vs) H) :
  FnOk P w K mg base CX (k + 1) f (PySem.W.fnOf name qual params body scope dV kV doc pm an cdv ct) ps sp:=by
 refine ⟨len,fun A outer s H args us vs Q E hr e0 hb r hsp=>?_⟩;have hl:=len _ _ _ _ hsp;have KX:K.In s.heap:=e0.mod.kin.keeps fun b o e=>(e0.bs b o e).1;have lim:s.heap.NoLimit:=e0.mod.nolimit.keeps fun b o e=>(e0.bs b o e).1;have hkind:∀ y ∈ ps.zip us,scope.names.lookup y.1 = some .local \/ (scope.names.lookup y.1 = some .cell /\ ((cellsFrom (s.heap.objs.size + 1) scope.names []).lookup y.1).isSome = true):=fun ⟨n,v⟩ hy=>by
  rcases S.par n (List.of_mem_zip hy).1 with q | q
  ·exact .inl q
  ·exact .inr ⟨q,PySem.W.cellsFrom_some _ _ _ (.inl q)⟩
 refine codeAny_call_function hr.depth (KX _ _ lk) rfl S.co S.gen rfl (PySem.W.codeRec_of KX hcd) (hb _ _ _ _ ?_);refine wpAny_newFunctionEnv_cells S.kind hkind fun env he s1 x=>?_;subst he;refine ⟨lim.keeps x.toInCall.keep,codeAny_func ?_⟩;obtain ⟨t,ht,hq⟩:=hbody A outer s H vs Q E (hr.deeper _) hsp;have I:Inv (zIA CX P w K mg base N qual scope f cdv A outer s H E) [] (zDG N vs) H s1:=zL1 S hr.hd e0 hl r x;refine zUY (ht [] s1 (zDG N vs) H _ I hq) (fun fl s' hs=>?_) fun e s' hs=>hs;have fin:∀ {σ':St} {H':Hp} {v:V} {u:Value},Inv (zIA CX P w K mg base N qual scope f cdv A outer s H E) [] σ' H' s' -> za v u -> Q v H' -> CE outer P w H s Q u s' :=
  fun {σ' H' v u} J rv q=>⟨v,H',J.os,J.bare,J.base,J.hok,rv,q⟩
 cases fl with
 | ret u=>
  obtain ⟨v,σ',H',J,rv,q⟩:=hs;exact fin J rv q
 | next=>
  obtain ⟨σ',H',J,q⟩:=hs;exact fin (v:=V.non) (u:=Value.none) J rfl q
 | brk=>
  obtain ⟨_,_,_,q⟩:=hs;exact False.elim q
 | cont=>
  obtain ⟨_,_,_,q⟩:=hs;exact False.elim q
section
variable {X:Cx} {x:Str} {p pos:Pos} {e:Expr} {es:List Expr} {t:TA} {id T:String} {r:List V -> Hp -> VK -> Prop}
def tCB (r:List V -> Hp -> VK -> Prop) (t:TA):TE:=fun σ H Q=>t σ H fun vs H1=>r vs H1 Q
theorem zIL (hc:zBa X (.builtin id) r) (hg:Gl X x) (hm:X.mg x = none) (hv:bootBuiltins x = some (.builtin id)) (ha:PA X (e :: es) t) (hn:x ≠ "__name__" := by decide) (hdb:(x == ("__debug__" : Str)) = false:=by decide)
  (he:starEach (e :: es) X.env = (false,eval e X.env) :: starEach es X.env:=by rfl) (hpl:(backTo pos (starEach es X.env)).any (·.1) = false:=by rfl):PE X (.Call (.Name x p) (e :: es) [] pos) (tCB r t):=by
 intro zB s σ H Q I h;refine wpAny_Call_Name_kw (zEk I hg hm hv ?_ hn hdb);exact PyProof.Rows.callWith_builtin1 (thn (ha pos zB s σ H _ I h) fun us s1 ⟨vs,H1,I1,r1,q1⟩=>hc zB s1 σ H1 vs us Q I1 r1 q1) he hpl
theorem zEb (hc:zBa X (.type T) r) (hg:Gl X x) (hm:X.mg x = none) (hv:bootBuiltins x = some (.type T)) (ha:PA X (e :: es) t) (hn:x ≠ "__name__" := by decide) (hdb:(x == ("__debug__" : Str)) = false:=by decide)
  (he:starEach (e :: es) X.env = (false,eval e X.env) :: starEach es X.env:=by rfl) (hpl:(backTo pos (starEach es X.env)).any (·.1) = false:=by rfl):PE X (.Call (.Name x p) (e :: es) [] pos) (tCB r t):=by
 intro zB s σ H Q I h;refine wpAny_Call_Name_kw (zEk I hg hm hv ?_ hn hdb);exact PyProof.Rows.callWith_type1 (thn (ha pos zB s σ H _ I h) fun us s1 ⟨vs,H1,I1,r1,q1⟩=>hc zB s1 σ H1 vs us Q I1 r1 q1) he hpl
end
end L2
namespace HT
open PySem PyProof.Rows
section
variable {prog:Program} {w:World} {A:Around} {E:Value -> Shared -> Prop} {s:Shared}
theorem zPl {t b:Addr} {vs ws:List Value} {Q:Value -> Shared -> Prop} (ht:IsTup s.heap t vs.toArray) (hb:IsTup s.heap b ws.toArray) (hv:vs ≠ [])
  (h1:ws = [] -> Q (.ref t) s) (h2:ws ≠ [] -> Q (.ref s.heap.objs.size) { s with heap:=s.heap.push { cls:=.type "tuple", data:=.seq (vs ++ ws).toArray } })
  (hsz:vs.length + ws.length <= sizeLine):wpAny (model prog w) A (binaryOp .Add (.ref t) (.ref b)) Q E s:=by
 obtain ⟨⟨cls,dd,data,sl⟩,ho,hc,n,hd⟩:=id ht;obtain ⟨⟨cls2,dd2,data2,sl2⟩,ho2,hc2,n2,hd2⟩:=id hb;simp only at hc hd hc2 hd2;subst hc hd hc2 hd2;have e:vs.toArray ++ ws.toArray = (vs ++ ws).toArray:=by simp
 by_cases hw:ws = []
 ·exact concat_meets ⟨_,ho,rfl⟩ ⟨_,ho2,rfl⟩ noFill_tuple_add seq_tuple_add PySem.F.slot_tuple_add PySem.F.entry_tuple_add (PySem.F.args_tuple_add_2 _ _)
   (tuple_addW1 t b vs.toArray ws.toArray n n2 dd dd2 sl sl2 (by simpa using hv) (by simp [hw])) ⟨ho,ho2,h1 hw⟩
 ·refine concat_meets ⟨_,ho,rfl⟩ ⟨_,ho2,rfl⟩ noFill_tuple_add seq_tuple_add PySem.F.slot_tuple_add PySem.F.entry_tuple_add (PySem.F.args_tuple_add_2 _ _)
   (tuple_addW2 t b vs.toArray ws.toArray n n2 dd dd2 sl sl2 (by simpa using hv) (by simpa using hw) (by rw [zUA,zUA]; exact hsz)) ⟨ho,ho2,?_⟩
  rw [e];exact h2 hw
def sIx (n d:Nat):Option Int -> Nat
 | none=>d
 | some v=>if v < 0 then (v + (n:Int)).toNat else min v.toNat n
theorem zPj (n d k:Nat):sIx n d (some (k:Int)) = min k n:=by
 show (if (k:Int) < 0 then ((k:Int) + (n:Int)).toNat else min (k:Int).toNat n) = min k n;rw [zUK (by omega),zWm]
theorem zQy (n d:Nat) (hd:d <= n) (o:Option Int):sIx n d o <= n:=by
 cases o with
 | none=>exact hd
 | some v=>
  show (if v < 0 then (v + (n:Int)).toNat else min v.toNat n) <= n;by_cases hv:v < 0
  ·rw [zUH hv]; omega
  ·rw [zUK hv]; exact Nat.min_le_right _ _
theorem zLO (v:Int) (n d:Nat):(if v < 0 then max (v + (n:Int)) 0 else min v (n:Int)) = ((sIx n d (some v):Nat):Int):=by
 show (if v < 0 then max (v + (n:Int)) 0 else min v (n:Int)) = (((if v < 0 then (v + (n:Int)).toNat else min v.toNat n):Nat):Int);by_cases hv:v < 0
 ·simp only [zUH hv]; omega
 ·simp only [zUK hv]; omega
theorem zJn (lo hi:Option Int) (n:Nat):Builtin.Slice.sliceAdjust lo hi 1 (n:Int) = (((sIx n 0 lo:Nat):Int),((sIx n n hi:Nat):Int)):=by
 have h1:¬ ((1:Int) < 0):=by omega
 unfold Builtin.Slice.sliceAdjust;simp only [h1,if_false];refine Prod.ext ?_ ?_
 ·cases lo with
  | none=>rfl
  | some v=>exact zLO v n 0
 ·cases hi with
  | none=>rfl
  | some v=>exact zLO v n n
theorem zKV (i j:Nat):Builtin.Slice.slicePlaces (i:Int) (j:Int) 1 = j - i:=by
 unfold Builtin.Slice.slicePlaces;have h1:(1:Int) > 0:=by omega
 simp only [h1,if_true,Int.ediv_one];split <;> omega
theorem zFT {v:Value} {o:Option Int} {Q:Option Int -> Shared -> Prop} (p:IsPart v o) (h:Q o s):wpAny (model prog w) A (Builtin.Slice.slicePartIndex v) Q E s:=by
 cases p with
 | none=>exact slicePart_none h
 | int i t=>exact slicePart_int h
theorem zCC {sl:Addr} {vl vu:Value} {lo hi:Option Int} {n:Nat} {Q:Int × Int × Nat -> Shared -> Prop} (hs:s.heap.IsSliceOf sl vl vu .none) (pl:IsPart vl lo) (pu:IsPart vu hi)
  (h:Q (((sIx n 0 lo:Nat):Int),1,sIx n n hi - sIx n 0 lo) s):wpAny (model prog w) A (Builtin.Slice.sliceApplied (.ref sl) (pure (n:Int))) Q E s:=by
 obtain ⟨os,hos,hcs,hds⟩:=id hs;unfold Builtin.Slice.sliceApplied Builtin.Slice.sliceFields;refine zTx (zTx (zUh hos hds (x:=vl) rfl (zTx (zUh hos hds (x:=vu) rfl (zTx (zUh hos hds (x:=.none) rfl (zTz ?_)))))));refine zTx (slicePart_none ?_);show wpAny _ _ (if ((1:Int) == 0) = true then _ else _) _ _ s;rw [zUK (by decide)];refine zTx (zFT pl (zTx (zFT pu (zTx (zTz ?_)))));show wpAny _ _ (match Builtin.Slice.sliceAdjust lo hi 1 (n:Int) with | (lo,hi)=>pure (lo,(1:Int),Builtin.Slice.slicePlaces lo hi 1)) _ _ s;rw [zJn lo hi n];show wpAny _ _ (pure (((sIx n 0 lo:Nat):Int),(1:Int),Builtin.Slice.slicePlaces ((sIx n 0 lo:Nat):Int) ((sIx n n hi:Nat):Int) 1)) _ _ s;rw [zKV];exact zTz h
theorem zMt (xs:Array Value) (i k:Nat):((List.range k).filterMap fun (m:Nat)=>xs[((i:Int) + (m:Int) * 1).toNat]?).toArray = ((xs.toList.drop i).take k).toArray:=by
 have e:(fun (m:Nat)=>xs[((i:Int) + (m:Int) * 1).toNat]?) = fun m=>xs[i + m]?:=by
  funext m;have:((i:Int) + (m:Int) * 1).toNat = i + m:=by omega
  rw [this]
 rw [e];have:=pick_run xs i k;rw [List.filterMap_map] at this;have e2:((fun x=>xs[x]?) ∘ fun x=>i + x) = fun m=>xs[i + m]?:=rfl;rw [e2] at this;rw [this]
theorem zD7 {t sl:Addr} {items:Array Value} {vl vu:Value} {lo hi:Option Int} {Q:Value -> Shared -> Prop} (ht:IsTup s.heap t items) (hs:s.heap.IsSliceOf sl vl vu .none) (pl:IsPart vl lo) (pu:IsPart vu hi)
  (hw:¬ (sIx items.size 0 lo = 0 /\ sIx items.size items.size hi = items.size))
  (h:Q (.ref s.heap.objs.size) { s with heap:=s.heap.push { cls:=.type "tuple", data:=.seq ((items.toList.drop (sIx items.size 0 lo)).take (sIx items.size items.size hi - sIx items.size 0 lo)).toArray } })
  (hsz:items.size <= sizeLine):wpAny (model prog w) A (getItem (.ref t) (.ref sl)) Q E s:=by
 have htake:sizeOk (.seq ((items.toList.drop (sIx items.size 0 lo)).take (sIx items.size items.size hi - sIx items.size 0 lo)).toArray):=by
  show ((items.toList.drop (sIx items.size 0 lo)).take (sIx items.size items.size hi - sIx items.size 0 lo)).toArray.size <= sizeLine;rw [zUA,zVQ,List.length_drop,zUl];omega
 have hj:sIx items.size items.size hi <= items.size:=zQy _ _ (zT8 _) hi;obtain ⟨os,hos,hcs,hds⟩:=id hs;have hTs:s.TypeIs (.ref sl) "slice" := ⟨os,hos,hcs⟩;unfold getItem;try with_reducible refine zUv ?_
 first | refine zTx (zTz ?_) | skip
 refine zTx (wpAny_sequenceKey ht.typeIs (by decide) ?_)
 refine zTx (zUe (name:=Str.ofString "__getitem__") ht.typeIs zVa
  (zUf zVa ht.typeIs entry_tuple_getitem ?_ (args_tuple_getitem _ _)))
 show wpAny _ _ (Builtin.Tuple.tupleItemsOf (.ref t) >>= _) _ _ s;refine zTx (tupleItemsOf_ ht ?_);refine zTx (wpAny_typeOf hTs ?_);rw [zUH (by decide)];refine zTx (zCC hs pl pu ?_);have hno:¬ ((((sIx items.size 0 lo:Nat):Int) == 0 && (1:Int) == 1 && (sIx items.size items.size hi - sIx items.size 0 lo) == items.size) = true):=by
  intro q;rw [zUc,zUc] at q;have q1:((sIx items.size 0 lo:Nat):Int) = 0:=eq_of_beq q.1.1;have q2:sIx items.size items.size hi - sIx items.size 0 lo = items.size:=eq_of_beq q.2;exact hw ⟨by omega,by omega⟩
 show wpAny _ _ (if (((sIx items.size 0 lo:Nat):Int) == 0 && (1:Int) == 1 && (sIx items.size items.size hi - sIx items.size 0 lo) == items.size) = true then _ else _) _ _ s;rw [zUK hno,zMt]
 first
  | exact zTx (m:=Builtin.Tuple.tupleExact _) (zUV (zTz ⟨_,rfl,zTz h⟩) htake)
  | exact zTx (m:=Builtin.Tuple.tupleExact _) (zUV (zTx (zTz (zTz ⟨_,rfl,zTz h⟩))) htake)
  | exact zTx (zTx (m:=Builtin.Tuple.tupleExact _) (zUV (zTz (zTz ⟨_,rfl,zTz h⟩)) htake))
  | exact zTx (zTx (m:=Builtin.Tuple.tupleExact _) (zUV (zTz ⟨_,rfl,zTz h⟩) htake))
end
end HT
namespace L2
open PySem PySem.Spec PyProof.Rows
abbrev TO:=St -> Hp -> (Option Int -> Hp -> Prop) -> Prop
def PO (X:Cx) (e:Option Expr) (t:TO):Prop :=
 ∀ (zB:List (Addr × Obj)) (s:Shared) (σ:St) (H:Hp) (Q:Option Int -> Hp -> Prop),Inv X zB σ H s -> t σ H Q ->
  wpAny (model X.prog X.w) X.A (evalPart e X.env) (fun u s'=>∃ o H',Inv X zB σ H' s' /\ IsPart u o /\ Q o H') X.xe s
def zPQ:TO:=fun _ H Q=>Q none H
def zSv (t:TE):TO:=fun σ H Q=>t σ H fun x H1=>∃ i,x = .int i /\ Q (some i) H1
section
variable {X:Cx} {e:Expr} {te:TE} {lo hi:Option Expr} {tl th:TO} {pos p2:Pos}
theorem zPO:PO X none zPQ:=by
 intro zB s σ H Q I h;rw [evalPart_none];exact zTz ⟨none,H,I,.none,h⟩
theorem zPv (h:PE X e te):PO X (some e) (zSv te):=by
 intro zB s σ H Q I hw;rw [evalPart_some];refine thn (h zB s σ H _ I hw) fun u s1 ⟨x,H1,I1,r1,q1⟩=>?_;obtain ⟨i,rfl,q⟩:=q1;obtain ⟨t,rfl⟩:=r1;exact ⟨some i,H1,I1,.int i t,q⟩
def SlR (X:Cx) (r:V -> Option Int -> Option Int -> Hp -> VK -> Prop):Prop :=
 ∀ (zB:List (Addr × Obj)) (s:Shared) (σ:St) (H:Hp) (x:V) (v vl vu:Value) (lo hi:Option Int) (sl:Addr) (Q:VK),Inv X zB σ H s -> za x v -> s.heap.IsSliceOf sl vl vu .none -> IsPart vl lo -> IsPart vu hi -> r x lo hi H Q ->
  ∃ T id,typeLookup (.type T) "__getitem__" = pure (some (.builtin id)) /\ s.TypeIs v T /\ wpAny (model X.prog X.w) X.A (getItem v (.ref sl)) (EP X zB σ Q) X.xe s
theorem SlR.or {r r':V -> Option Int -> Option Int -> Hp -> VK -> Prop} (h:SlR X r) (h':SlR X r'):SlR X (fun x lo hi H Q=>r x lo hi H Q \/ r' x lo hi H Q):=by
 intro zB s σ H x v vl vu lo hi sl Q I rx hs pl pu q;rcases q with q | q
 ·exact h zB s σ H x v vl vu lo hi sl Q I rx hs pl pu q
 ·exact h' zB s σ H x v vl vu lo hi sl Q I rx hs pl pu q
def tSl (r:V -> Option Int -> Option Int -> Hp -> VK -> Prop) (te:TE) (tl th:TO):TE:=fun σ H Q=>te σ H fun x H1=>tl σ H1 fun l H2=>th σ H2 fun u H3=>r x l u H3 Q
theorem zNY {r:V -> Option Int -> Option Int -> Hp -> VK -> Prop} (hr:SlR X r) (he:PE X e te) (hl:PO X lo tl) (hu:PO X hi th):PE X (.Subscript e (.Slice lo hi none p2) pos) (tSl r te tl th):=by
 intro zB s σ H Q I h;refine Subscript_ (thn (he zB s σ H _ I h) fun v s1 ⟨x,H1,I1,r1,q1⟩=>?_);refine wpAny_Slice (thn (hl zB s1 σ H1 _ I1 q1) fun vl s2 ⟨l,H2,I2,pl,q2⟩=>thn (hu zB s2 σ H2 _ I2 q2) fun vu s3 ⟨u,H3,I3,pu,q3⟩=>?_);rw [evalPart_none];refine zTz ?_;have I4:Inv X zB σ H3 { s3 with heap:=s3.heap.push { cls:=.type "slice", data:=.fields #[vl,vu,.none] } }:=I3.kept (t':=s3.toks) fun b ob q=>zTy _ q;obtain ⟨T,id,hT,ht,hg⟩:=hr zB { s3 with heap:=s3.heap.push { cls:=.type "slice", data:=.fields #[vl,vu,.none] } } σ H3 x v vl vu l u s3.heap.objs.size Q I4 r1 (Heap.IsSliceOf.new ..) pl pu q3;show wpAny (model X.prog X.w) X.A (subscriptTail e (.Slice lo hi none p2) v (.ref s3.heap.objs.size)) (EP X zB σ Q) X.xe { s3 with heap:=s3.heap.push { cls:=.type "slice", data:=.fields #[vl,vu,.none] } };exact tail_any (ops:=[.ref s3.heap.objs.size,v]) ht hT hg (by with_unfolding_all rfl)
def zIv (xs:List V) (lo hi:Option Int):List V:=(xs.drop (HT.sIx xs.length 0 lo)).take (HT.sIx xs.length xs.length hi - HT.sIx xs.length 0 lo)
theorem zEr (xs:List V) (lo hi:Option Int):(zIv xs lo hi).length <= xs.length:=by
 unfold zIv;rw [zVQ,List.length_drop];omega
def zTo (K:PySem.W.Frag):V -> Option Int -> Option Int -> Hp -> VK -> Prop:=fun x lo hi H Q=>∃ a xs,x = .ref a /\ SqT K H a xs /\
 ¬ (HT.sIx xs.length 0 lo = 0 /\ HT.sIx xs.length xs.length hi = xs.length) /\ ∀ p,H p = none -> Q (.ref p) (upd H p (.tup (zIv xs lo hi)))
theorem zQ4:SlR X (zTo X.K):=by
 intro zB s σ H x v vl vu lo hi sl Q I rx hs pl pu h;obtain ⟨a,xs,rfl,hx,hw,q⟩:=h;cases rx;obtain ⟨its,r,ht,hz⟩:=I.tuple hx;have hlen:its.toArray.size = xs.length:=by rw [zUA]; exact r.length.symm
 refine ⟨"tuple", _,zVa.lookup,ht.typeIs,?_⟩;refine HT.zD7 ht hs pl pu (by rw [hlen]; exact hw) ?_ (by rw [hlen]; exact hz);rw [hlen];refine ⟨.ref s.heap.objs.size,_,I.laid (t':=s.toks) (o:=.tup (zIv xs lo hi)) (fun b ob q=>zTy _ q) (zT8 _) ?_,rfl,q _ (I.hok.fresh (zT8 _))⟩;exact ⟨zUT (zEr xs lo hi) hz,_,(r.drop (HT.sIx xs.length 0 lo)).take (HT.sIx xs.length xs.length hi - HT.sIx xs.length 0 lo),zBW.new _ _⟩
def zQB (K:PySem.W.Frag):R2:=fun x y H Q=>∃ a b xs ys,x = .ref a /\ y = .ref b /\ SqT K H a xs /\ SqT K H b ys /\ xs ≠ [] /\ xs.length + ys.length <= sizeLine /\
 (ys = [] -> Q (.ref a) H) /\ (ys ≠ [] -> ∀ p,H p = none -> Q (.ref p) (upd H p (.tup (xs ++ ys))))
theorem zU.nil_iff {xs:List V} {us:List Value} (r:zU xs us):us = [] ↔ xs = []:=by
 cases r with
 | nil=>simp
 | cons _ _=>simp
theorem zPd:OpR X (binaryOp .Add) (zQB X.K):=by
 intro zB s σ H x y v u Q I rx ry h;obtain ⟨a,b,xs,ys,rfl,rfl,ha,hb,hx,hz,q1,q2⟩:=h;cases rx;cases ry;obtain ⟨its,r1,p1,_⟩:=I.tuple ha;obtain ⟨its2,r2,p2,_⟩:=I.tuple hb;refine HT.zPl p1 p2 (fun z=>hx (r1.nil_iff.mp z)) (fun z=>⟨.ref a,H,I,rfl,q1 (r2.nil_iff.mp z)⟩) (fun z=>?_) (by rw [<- r1.length,<- r2.length]; exact hz);refine ⟨.ref s.heap.objs.size,_,I.laid (t':=s.toks) (o:=.tup (xs ++ ys)) (fun b ob q=>zTy _ q) (zT8 _) ?_,rfl,q2 (fun w=>z (r2.nil_iff.mpr w)) _ (I.hok.fresh (zT8 _))⟩;exact ⟨by rw [zUI]; exact hz,_,r1.append r2,zBW.new _ _⟩
end
def ixN (n:Nat) (i:Int):Option Nat:=if 0 <= i then (if i < n then some i.toNat else none) else if -(n:Int) <= i then some (i + n).toNat else none
def atI {α:Type} (xs:List α) (i:Int):Option α:=(ixN xs.length i).bind fun j=>xs[j]?
theorem zLJ {n:Nat} {i:Int} {j:Nat} (h:ixN n i = some j):seqIndex? i n = some j /\ j < n /\ -(n:Int) <= i /\ i < n:=by
 unfold ixN at h;by_cases h0:0 <= i
 ·rw [zUH h0] at h;by_cases h1:i < n
  ·rw [zUH h1] at h;have e:i.toNat = j:=zU2 h;exact ⟨by rw [seqIndex_of h0 h1,e],by omega,by omega,h1⟩
  ·rw [zUK h1] at h; cases h
 ·rw [zUK h0] at h;by_cases h1 : -(n:Int) <= i
  ·rw [zUH h1] at h;have e:(i + n).toNat = j:=zU2 h;exact ⟨by rw [seqIndex_neg (by omega) h1,e],by omega,h1,by omega⟩
  ·rw [zUK h1] at h; cases h
theorem zHn {α:Type} {xs:List α} {i:Int} {v:α} (h:atI xs i = some v):∃ j,seqIndex? i xs.length = some j /\ xs[j]? = some v /\ j < xs.length /\ -(xs.length:Int) <= i /\ i < xs.length:=by
 unfold atI at h;cases e:ixN xs.length i with
 | none=>rw [e] at h; cases h
 | some j=>
  rw [e] at h;obtain ⟨h1,h2,h3,h4⟩:=zLJ e;exact ⟨j,h1,h,h2,h3,h4⟩
theorem zH2 {α:Type} {xs:List α} {j:Nat} {v:α} (h:xs[j]? = some v):atI xs (j:Int) = some v:=by
 have hj:j < xs.length:=(zT0.mp h).1;have e:ixN xs.length (j:Int) = some j:=by
  unfold ixN;rw [zUH (by omega),zUH (by omega)]; simp
 unfold atI; rw [e]; exact h
def zLL (b:Expr):Prop:=∀ o i,subscripted b false o i = operate [o,i] (getItem o i)
def IxR (X:Cx) (r:R2):Prop :=
 ∀ (value slice:Expr) (zB:List (Addr × Obj)) (s:Shared) (σ:St) (H:Hp) (x y:V) (v u:Value) (Q:VK),Inv X zB σ H s -> za x v -> za y u -> r x y H Q ->
  subscripted slice false v u = operate [v,u] (getItem v u) -> wpAny (model X.prog X.w) X.A (subscriptTail value slice v u) (EP X zB σ Q) X.xe s
def MtR (X:Cx) (id:String) (r:V -> List V -> Hp -> VK -> Prop):Prop :=
 ∀ (zB:List (Addr × Obj)) (s:Shared) (σ:St) (H:Hp) (x:V) (xs:List V) (v:Value) (us:List Value) (Q:VK),Inv X zB σ H s -> za x v -> zU xs us -> r x xs H Q ->
  wpAny (model X.prog X.w) X.A (call (.builtin id) (v :: us)) (EP X zB σ Q) X.xe s
section
variable {X:Cx} {a b:Expr} {ta tb:TE} {pos:Pos}
theorem IxR.or {r r':R2} (h:IxR X r) (h':IxR X r'):IxR X (fun x y H Q=>r x y H Q \/ r' x y H Q):=by
 intro value slice zB s σ H x y v u Q I rx ry q hs;rcases q with q | q
 ·exact h value slice zB s σ H x y v u Q I rx ry q hs
 ·exact h' value slice zB s σ H x y v u Q I rx ry q hs
theorem zTI {r:R2} (hr:IxR X r) (ha:PE X a ta) (hb:PE X b tb) (hs:zLL b):PE X (.Subscript a b pos) (tOp r ta tb):=by
 intro zB s σ H Q I h;exact Subscript_ (zQx ha hb I h fun v u s2 x y H2 I2 rx ry q=>hr a b zB s2 σ H2 x y v u Q I2 rx ry q (hs _ _))
def zS2 (K:PySem.W.Frag):R2:=fun x y H Q=>∃ p xs i v,x = .ref p /\ y = .int i /\ SqL K H p xs /\ atI xs i = some v /\ Q v H
def zSz (K:PySem.W.Frag):R2:=fun x y H Q=>∃ p xs i v,x = .ref p /\ y = .int i /\ SqT K H p xs /\ atI xs i = some v /\ Q v H
def zSL:R2:=fun x y H Q=>∃ z i c,x = .str z /\ y = .int i /\ z.length <= sizeLine /\ atI z.cps.toList i = some c /\ Q (.str ⟨#[c]⟩) H
theorem zPz:IxR X (zS2 X.K):=by
 intro value slice zB s σ H x y v u Q I rx ry h hs;obtain ⟨p,xs,i,z,rfl,rfl,hq,he,q⟩:=h;cases rx;obtain ⟨t,rfl⟩:=ry;obtain ⟨its,r,pl,hz⟩:=I.list hq;obtain ⟨j,h1,h2,h3,h4,h5⟩:=zHn he;obtain ⟨w,ew,rw'⟩:=r.get h2;have hl:=r.length;have hn:=zEV;have fin:EP X zB σ Q w s:=⟨z,H,I,rw',q⟩;by_cases h0:0 <= i
 ·have hj:i.toNat = j:=by
   rw [seqIndex_of h0 h5] at h1;exact zU2 h1
  exact item_listR pl.isList h0 (by omega) (by rw [hj]; simpa using ew) fin hs
 ·have hj:(i + (its.toArray.size:Int)).toNat = j:=by
   rw [seqIndex_neg (by omega) h4] at h1;rw [zUA,<- hl];exact zU2 h1
  exact subscriptTail_builtinR (x:=w) pl.isList.typeIs slot_list_getitem.lookup
   (wpAny_getItem_list_neg (Q:=fun r s'=>r = w /\ EP X zB σ Q r s') pl.isList (by omega) (by rw [zUA] <;> omega) (by omega) (by rw [hj]; simpa using ew) ⟨rfl,fin⟩) hs
theorem zQ9:IxR X (zSz X.K):=by
 intro value slice zB s σ H x y v u Q I rx ry h hs;obtain ⟨p,xs,i,z,rfl,rfl,hq,he,q⟩:=h;cases rx;obtain ⟨t,rfl⟩:=ry;obtain ⟨its,r,pl,hz⟩:=I.tuple hq;obtain ⟨j,h1,h2,h3,h4,h5⟩:=zHn he;obtain ⟨w,ew,rw'⟩:=r.get h2;have hl:=r.length;have hn:=zEV;have fin:EP X zB σ Q w s:=⟨z,H,I,rw',q⟩
 exact subscriptTail_builtinR (x:=w) pl.typeIs slot_tuple_getitem.lookup
  (getItem_tuple (j:=j) (Q:=fun r s'=>r = w /\ EP X zB σ Q r s') pl (by omega) (by omega) (by rw [zUA,<- hl]; exact h1) (by simpa using ew) ⟨rfl,fin⟩) hs
theorem zQs:IxR X zSL:=by
 intro value slice zB s σ H x y v u Q I rx ry h hs;obtain ⟨z,i,c,rfl,rfl,hz,he,q⟩:=h;obtain ⟨t,rfl⟩:=rx;obtain ⟨t',rfl⟩:=ry;obtain ⟨j,h1,h2,h3,h4,h5⟩:=zHn he;have hl:z.cps.toList.length = z.length:=by simp [Str.length]
 rw [hl] at h1 h4 h5;have hn:=zEV;exact tail_any (typeIs_str s z t) slot_str_getitem.lookup (getItem_str (c:=c) (by
  have e1:decide (i < -(2 ^ 63:Int)) = false:=zUb (by omega);have e2:decide (i ≥ 2 ^ 63) = false:=zUb (by omega);rw [e1,e2,Bool.or_false]) (by rw [h1]; simpa using h2) ⟨.str ⟨#[c]⟩,H,I.tok _,⟨_,rfl⟩,q⟩) hs
def rIx (K:PySem.W.Frag):R2:=fun x y H Q=>zS2 K x y H Q \/ zSz K x y H Q \/ zSL x y H Q
theorem zQd:IxR X (rIx X.K):=zPz.or (zQ9.or zQs)
theorem zJx (its:List Value) (n j:Nat) (u:Value):Obj.mapSeq (·.setIfInBounds j u) { cls:=.type "list", data:=.seq its.toArray n } = { cls:=.type "list", data:=.seq (its.set j u).toArray n }:=by
 simp [Obj.mapSeq]
theorem Inv.lst {zB:List (Addr × Obj)} {σ:St} {H:Hp} {s:Shared} {p:Addr} {xs:List V} (I:Inv X zB σ H s) (h:H p = some (.lst xs)) :
  ∃ (its:List Value) (n:Nat),zU xs its /\ s.heap.get? p = some { cls:=.type "list", data:=.seq its.toArray n } /\ xs.length <= sizeLine:=by
 obtain ⟨z,its,n,r,e⟩:=I.hok p _ h;exact ⟨its,n,r,e,z⟩
theorem Inv.lstUpd {zB:List (Addr × Obj)} {σ:St} {H:Hp} {s:Shared} {p:Addr} {xs ys:List V} {its its':List Value} {n n':Nat} {f:Obj -> Obj} (I:Inv X zB σ H s) (h:H p = some (.lst xs))
  (ho:s.heap.get? p = some { cls:=.type "list", data:=.seq its.toArray n }) (hf:f { cls:=.type "list", data:=.seq its.toArray n } = { cls:=.type "list", data:=.seq its'.toArray n' }) (r:zU ys its') (hz:ys.length <= sizeLine) (t:Nat) :
  Inv X zB σ (upd H p (.lst ys)) { s with heap:=s.heap.update p f,toks:=t }:=by
 have e:(s.heap.update p f).get? p = some { cls:=.type "list", data:=.seq its'.toArray n' }:=by
  rw [zUp f ho (by rw [hf] <;> rfl),hf]
 refine I.write (x:=p) (e:=p) (by rw [h]; trivial) (.inl rfl) (fun b u hb q=>(zUj _ _ (Ne.symm hb)).trans q) ⟨_,e⟩ ?_;exact ⟨hz,its',n',r,e⟩
def zS1:V -> V -> V -> Hp -> (Hp -> Prop) -> Prop:=fun o i v H Q=>∃ p xs k j,o = .ref p /\ i = .int k /\ H p = some (.lst xs) /\ ixN xs.length k = some j /\ Q (upd H p (.lst (xs.set j v)))
theorem zOd:zSb X zS1:=by
 intro zB s σ H o i v ov iv u Q I ro ri rv h;obtain ⟨p,xs,k,j,rfl,rfl,hp,hj,q⟩:=h;cases ro;obtain ⟨t,rfl⟩:=ri;obtain ⟨its,n,r,ho,hz⟩:=I.lst hp;obtain ⟨h1,h2,h3,h4⟩:=zLJ hj;have hl:=r.length;have hn:=zEV;have I':Inv X zB σ (upd H p (.lst (xs.set j v))) { s with heap:=s.heap.update p (Obj.mapSeq (·.setIfInBounds j u)) } :=
  I.lstUpd hp ho (zJx its n j u) (r.set rv j) (by rw [zWL]; exact hz) s.toks
 by_cases h0:0 <= k
 ·have hk:k.toNat = j:=by
   rw [seqIndex_of h0 h4] at h1;exact zU2 h1
  exact PySem.W.ki_setAt ho h0 (by omega) (by rw [zUA,<- hl]; exact h4) (by rw [hk]; exact ⟨_,I',q⟩)
 ·have hk:(k + (its.toArray.size:Int)).toNat = j:=by
   rw [seqIndex_neg (by omega) h3] at h1;rw [zUA,<- hl];exact zU2 h1
  exact PySem.W.ki_setBack ho (by omega) (by rw [zUA,<- hl]; exact h3) (by omega) (by rw [hk]; exact ⟨_,I',q⟩)
theorem zHb (lo hi:Option Int) (n:Nat):(sliceBounds lo hi none n).1 = ((HT.sIx n 0 lo:Nat):Int) /\ (sliceBounds lo hi none n).2.1 = ((HT.sIx n n hi:Nat):Int) /\ (sliceBounds lo hi none n).2.2 = 1:=by
 refine ⟨?_,?_,rfl⟩
 ·cases lo with
  | none=>simp [sliceBounds,HT.sIx]
  | some i=>
   simp only [sliceBounds,HT.sIx,Option.getD_none,show (1:Int) > 0 by decide,if_true];by_cases h:i < 0
   ·simp only [h,if_true] <;> omega
   ·simp only [h,if_false] <;> omega
 ·cases hi with
  | none=>simp [sliceBounds,HT.sIx]
  | some i=>
   simp only [sliceBounds,HT.sIx,Option.getD_none,show (1:Int) > 0 by decide,if_true];by_cases h:i < 0
   ·simp only [h,if_true] <;> omega
   ·simp only [h,if_false] <;> omega
theorem zGV (its:List Value) (lo hi:Option Int):slicePick its.toArray lo hi none = ((its.drop (HT.sIx its.length 0 lo)).take (HT.sIx its.length its.length hi - HT.sIx its.length 0 lo)).toArray:=by
 obtain ⟨h1,h2,h3⟩:=zHb lo hi its.toArray.size;unfold slicePick;rw [h1,h2,h3];simp only [sliceRange_one,pick_run,zUA] <;> rfl
def zTe (K:PySem.W.Frag):V -> Option Int -> Option Int -> Hp -> VK -> Prop:=fun x lo hi H Q=>∃ a xs,x = .ref a /\ SqL K H a xs /\ ∀ p,H p = none -> Q (.ref p) (upd H p (.lst (zIv xs lo hi)))
theorem zPE:SlR X (zTe X.K):=by
 intro zB s σ H x v vl vu lo hi sl Q I rx hs pl pu h;obtain ⟨a,xs,rfl,hx,q⟩:=h;cases rx;obtain ⟨its,r,ht,hz⟩:=I.list hx;have hlen:=r.length;refine ⟨"list", _,slot_list_getitem.lookup,ht.isList.typeIs,?_⟩;refine wpAny_getItem_list_slice ht.isList hs pl pu .none (by simp) ?_ (by rw [zUA] <;> omega);rw [zGV,<- hlen];refine ⟨.ref s.heap.objs.size,_,I.laid (t':=s.toks) (o:=.lst (zIv xs lo hi)) (fun b ob q=>zTy _ q) (zT8 _) ?_,rfl,q _ (I.hok.fresh (zT8 _))⟩;exact ⟨zUT (zEr xs lo hi) hz,_,0,(r.drop (HT.sIx xs.length 0 lo)).take (HT.sIx xs.length xs.length hi - HT.sIx xs.length 0 lo),zUC _ rfl⟩
def zD2:V -> Bool
 | .non=>true
 | .bl _=>true
 | .int _=>true
 | .str _=>true
 | _=>false
def eqV:V -> V -> Bool
 | .non,.non=>true
 | .bl a,.bl b=>a == b
 | .bl a,.int b=>(if a then 1 else 0) == b
 | .int a,.bl b=>a == (if b then 1 else 0)
 | .int a,.int b=>a == b
 | .str a,.str b=>a == b
 | _,_=>false
theorem zQn {A:Around} {s:Shared} {y x:V} {u v:Value} (ry:za y u) (rx:za x v) (fy:zD2 y = true) (fx:zD2 x = true):SeqAt.EqAt A s u v (eqV y x):=by
 cases y with
 | non=>
  cases ry;cases x with
  | non=>cases rx; exact SeqAt.EqAt.same _
  | bl b=>cases rx; exact SeqAt.EqAt.none_bool b
  | int b=>obtain ⟨t,rfl⟩:=rx; exact SeqAt.EqAt.none_int b t
  | str b=>obtain ⟨t,rfl⟩:=rx; exact SeqAt.EqAt.none_str b t
  | _=>exact absurd (show false = true from fx) zUO
 | bl a=>
  cases ry;cases x with
  | non=>cases rx; exact SeqAt.EqAt.bool_none a
  | bl b=>cases rx; exact SeqAt.EqAt.bool_bool a b
  | int b=>obtain ⟨t,rfl⟩:=rx; exact SeqAt.EqAt.bool_int a b t
  | str b=>obtain ⟨t,rfl⟩:=rx; exact SeqAt.EqAt.bool_str a b t
  | _=>exact absurd (show false = true from fx) zUO
 | int a=>
  obtain ⟨t',rfl⟩:=ry;cases x with
  | non=>cases rx; exact SeqAt.EqAt.int_none a t'
  | bl b=>cases rx; exact SeqAt.EqAt.int_bool a t' b
  | int b=>obtain ⟨t,rfl⟩:=rx; exact SeqAt.EqAt.int_int a t' b t
  | str b=>obtain ⟨t,rfl⟩:=rx; exact SeqAt.EqAt.int_str a t' b t
  | _=>exact absurd (show false = true from fx) zUO
 | str a=>
  obtain ⟨t',rfl⟩:=ry;cases x with
  | non=>cases rx; exact SeqAt.EqAt.str_none a t'
  | bl b=>cases rx; exact SeqAt.EqAt.str_bool a t' b
  | int b=>obtain ⟨t,rfl⟩:=rx; exact SeqAt.EqAt.str_int a t' b t
  | str b=>obtain ⟨t,rfl⟩:=rx; exact SeqAt.EqAt.str_str a t' b t
  | _=>exact absurd (show false = true from fx) zUO
 | _=>exact absurd (show false = true from fy) zUO
def eqU (x:V) (u:Value):Bool:=match u with
 | .none=>eqV .non x
 | .bool b=>eqV (.bl b) x
 | .int i _=>eqV (.int i) x
 | .str z _=>eqV (.str z) x
 | _=>false
theorem zNz {x y:V} {u:Value} (r:za y u) (f:zD2 y = true):eqU x u = eqV y x:=by
 cases y with
 | non=>cases r; rfl
 | bl b=>cases r; rfl
 | int i=>obtain ⟨t,rfl⟩:=r; rfl
 | str z=>obtain ⟨t,rfl⟩:=r; rfl
 | _=>exact absurd (show false = true from f) zUO
theorem zD4 {x:V}:∀ {xs:List V} {us:List Value},zU xs us -> xs.all zD2 = true -> us.any (eqU x) = xs.any fun y=>eqV y x
 | _,_,.nil,_=>rfl
 | y :: xs,u :: us,.cons r t,f=>by
  rw [List.all_cons,zUc] at f;rw [List.any_cons,List.any_cons,zNz r f.1,zD4 t f.2]
theorem zCt {A:Around} {s:Shared} {x:V} {v:Value} (rx:za x v) (fx:zD2 x = true):∀ {xs:List V} {us:List Value},zU xs us -> xs.all zD2 = true -> ∀ u ∈ us,SeqAt.EqAt A s u v (eqU x u)
 | _,_,.nil,_=>fun u hu=>by cases hu
 | y :: xs,u :: us,.cons r t,f=>fun u' hu=>by
  rw [List.all_cons,zUc] at f;rcases zUE.mp hu with rfl | hu
  ·rw [zNz r f.1]; exact zQn r rx f.1 fx
  ·exact zCt rx fx t f.2 u' hu
def inV (x:V) (xs:List V):Bool:=xs.any fun y=>eqV y x
def rIn (K:PySem.W.Frag) (neg:Bool):R2:=fun x y H Q=>∃ p xs,y = .ref p /\ (SqL K H p xs \/ SqT K H p xs) /\ zD2 x = true /\ xs.all zD2 = true /\ Q (.bl (if neg then !inV x xs else inV x xs)) H
theorem zLp:OpR X (compareOp .In) (rIn X.K false):=by
 intro zB s σ H x y v u Q I rx ry h;obtain ⟨p,xs,rfl,hq,fx,fs,q⟩:=h;cases ry;rcases hq with hq | hq
 ·obtain ⟨its,r,pl,hz⟩:=I.list hq;refine SeqAt.in_listAt (eqU x) pl.isList (fun w hw=>zCt rx fx r fs w (by simpa using hw)) ⟨.bl _,H,I,rfl,?_⟩;rw [show its.toArray.any (eqU x) = its.any (eqU x) by simp,zD4 r fs];exact q
 ·obtain ⟨its,r,pl,hz⟩:=I.tuple hq;refine SeqAt.in_tupleAt (eqU x) pl (fun w hw=>zCt rx fx r fs w (by simpa using hw)) ⟨.bl _,H,I,rfl,?_⟩;rw [show its.toArray.any (eqU x) = its.any (eqU x) by simp,zD4 r fs];exact q
theorem zHg:OpR X (compareOp .NotIn) (rIn X.K true):=by
 intro zB s σ H x y v u Q I rx ry h;obtain ⟨p,xs,rfl,hq,fx,fs,q⟩:=h;cases ry;rcases hq with hq | hq
 ·obtain ⟨its,r,pl,hz⟩:=I.list hq;refine SeqAt.notIn_listAt (eqU x) pl.isList (fun w hw=>zCt rx fx r fs w (by simpa using hw)) ⟨.bl _,H,I,rfl,?_⟩;rw [show its.toArray.any (eqU x) = its.any (eqU x) by simp,zD4 r fs];exact q
 ·obtain ⟨its,r,pl,hz⟩:=I.tuple hq;refine SeqAt.notIn_tupleAt (eqU x) pl (fun w hw=>zCt rx fx r fs w (by simpa using hw)) ⟨.bl _,H,I,rfl,?_⟩;rw [show its.toArray.any (eqU x) = its.any (eqU x) by simp,zD4 r fs];exact q
theorem zHE:zBa X (.builtin "len") (fun xs H Q=>∃ p ys,xs = [.ref p] /\ (SqL X.K H p ys \/ SqT X.K H p ys) /\ Q (.int ys.length) H):=by
 intro zB s σ H xs us Q I r h;obtain ⟨p,ys,rfl,hq,q⟩:=h;obtain ⟨u,rfl,rx⟩:=zDM r;cases rx;have hn:=zEV;rcases hq with hq | hq
 ·obtain ⟨its,r',pl,hz⟩:=I.list hq;have hlen:=r'.length;exact Calls.call_len_list pl.isList (by simp only [zUA] <;> omega) ⟨.int ys.length,H,I.tok _,⟨s.toks + 1,by rw [zUA,hlen]⟩,q⟩
 ·obtain ⟨its,r',pl,hz⟩:=I.tuple hq;have hlen:=r'.length;exact len_tuple pl (by simp only [zUA] <;> omega) ⟨.int ys.length,H,I.tok _,⟨s.toks + 1,by rw [zUA,hlen]⟩,q⟩
theorem zHe:zBa X (.type "list") (fun xs H Q=>∃ p ys,xs = [.ref p] /\ (SqL X.K H p ys \/ SqT X.K H p ys) /\ ∀ l,H l = none -> Q (.ref l) (upd H l (.lst ys))):=by
 intro zB s σ H xs us Q I r h;obtain ⟨p,ys,rfl,hq,q⟩:=h;obtain ⟨u,rfl,rx⟩:=zDM r;cases rx
 have fin:∀ (its:List Value),zU ys its -> ys.length <= sizeLine -> ∀ (h':Heap) (c':Nat),(∀ b o',s.heap.get? b = some o' -> h'.get? b = some o') ->
   h'.get? s.heap.objs.size = some { cls:=.type "list", dict:=none,data:=.seq its.toArray c',slots:=#[] } -> EP X zB σ Q (.ref s.heap.objs.size) { s with heap:=h' }:=fun its r' hz h' c' kp e=>
  ⟨.ref s.heap.objs.size,_,I.laid (t':=s.toks) kp (zT8 _) (show zk X.prog X.w _ h' _ (.lst ys) from ⟨hz,its,c',r',e⟩),rfl,q _ (I.hok.fresh (zT8 _))⟩
 rcases hq with hq | hq
 ·obtain ⟨its,r',pl,hz⟩:=I.list hq;have hlen:=r'.length;obtain ⟨o,ho,hc,n,hd⟩:=pl.isList;exact call_list_seq p (.inl rfl) ho hc hd (fun h' c' kp e=>fin its r' hz h' c' kp e) (by simp only [zUA] <;> omega)
 ·obtain ⟨its,r',pl,hz⟩:=I.tuple hq;have hlen:=r'.length;obtain ⟨o,ho,hc,n,hd⟩:=pl;exact call_list_seq p (.inr rfl) ho hc hd (fun h' c' kp e=>fin its r' hz h' c' kp e) (by simp only [zUA] <;> omega)
theorem zGT:zBa X (.type "tuple") (fun xs H Q=>∃ p ys,xs = [.ref p] /\ ((SqL X.K H p ys /\ ∀ l,H l = none -> Q (.ref l) (upd H l (.tup ys))) \/ (SqT X.K H p ys /\ Q (.ref p) H))):=by
 intro zB s σ H xs us Q I r h;obtain ⟨p,ys,rfl,h⟩:=h;obtain ⟨u,rfl,rx⟩:=zDM r;cases rx;rcases h with ⟨hq,q⟩ | ⟨hq,q⟩
 ·obtain ⟨its,r',pl,hz⟩:=I.list hq;have hlen:=r'.length;refine call_tuple_list pl.isList (fun h' kp=>?_) (by simp only [zUA] <;> omega);have I1:Inv X zB σ H { s with heap:=h' }:=I.kept (t':=s.toks) kp;have I2:Inv X zB σ (upd H h'.objs.size (.tup ys)) { s with heap:=h'.push { cls:=.type "tuple", data:=.seq its.toArray } } :=
   I1.laid (t':=s.toks) (fun b o e=>zTy _ e) (zT8 _) (show zk X.prog X.w _ _ _ (.tup ys) from ⟨hz,its,r',zBW.new _ _⟩)
  exact ⟨.ref h'.objs.size,_,I2,rfl,q _ (I1.hok.fresh (zT8 _))⟩
 ·obtain ⟨its,r',pl,hz⟩:=I.tuple hq;exact call_tuple_same pl ⟨.ref p,H,I,rfl,q⟩
def tyV (K:PySem.W.Frag) (T:String) (x:V) (H:Hp):Prop:=match x with
 | .str _=>T = "str"
 | .int _=>T = "int"
 | .ref p=>(T = "list" /\ ∃ xs,SqL K H p xs) \/ (T = "tuple" /\ ((∃ o,K.lookup p = some o /\ o.cls = .type "tuple" /\ o.dict = none) \/ ∃ xs,H p = some (.tup xs))) \/
   (T = "dict" /\ ((∃ kvs,H p = some (.dK kvs)) \/ ∃ kvs,H p = some (.dT kvs))) \/ (T = "set" /\ ∃ S n,H p = some (.set S n))
 | _=>False
theorem zQW {zB:List (Addr × Obj)} {σ:St} {H:Hp} {s:Shared} {T:String} {x:V} {v:Value} (I:Inv X zB σ H s) (r:za x v) (ty:tyV X.K T x H) :
  s.TypeIs v T /\ ∀ a,v = .ref a -> ∃ ob,s.heap.get? a = some ob /\ ob.dict = none:=by
 cases x with
 | str z=>
  obtain ⟨t,rfl⟩:=r;cases (show T = "str" from ty);exact ⟨typeIs_str s z t,fun _ e=>nomatch e⟩
 | int i=>
  obtain ⟨t,rfl⟩:=r;cases (show T = "int" from ty);exact ⟨typeIs_int s i t,fun _ e=>nomatch e⟩
 | ref p=>
  cases r;rcases ty with ⟨rfl,xs,hq⟩ | ⟨rfl,⟨o,hk,hc,hd⟩ | ⟨xs,hq⟩⟩ | ⟨rfl,hk⟩ | ⟨rfl,S,n,hk⟩
  ·obtain ⟨its,_,pl,_⟩:=I.list hq;refine ⟨pl.isList.typeIs,fun a e=>?_⟩;cases e;obtain ⟨o,n,e,c,hd,_⟩:=pl;exact ⟨o,e,hd⟩
  ·refine ⟨⟨o,I.kIn p o hk,hc⟩,fun a e=>?_⟩;cases e;exact ⟨o,I.kIn _ o hk,hd⟩
  ·obtain ⟨_,its,_,o,e,c,_,hd⟩:=I.hok p _ hq;refine ⟨⟨o,e,c⟩,fun a e2=>?_⟩;cases e2;exact ⟨o,e,hd⟩
  ·have z:∃ o,s.heap.get? p = some o /\ o.ExactDict:=by
    rcases hk with ⟨kvs,hk⟩ | ⟨kvs,hk⟩
    ·obtain ⟨_,_,_,_,o,_,_,e,ex,_⟩:=I.hok p _ hk;exact ⟨o,e,ex⟩
    ·obtain ⟨_,_,_,_,o,_,_,e,ex,_⟩:=I.hok p _ hk;exact ⟨o,e,ex⟩
   obtain ⟨o,e,ex⟩:=z;refine ⟨⟨o,e,ex.1⟩,fun a e2=>?_⟩;cases e2;exact ⟨o,e,ex.2.1⟩
  ·obtain ⟨o,_,_,_,e,ex,_⟩:=I.hok p _ hk;refine ⟨⟨o,e,ex.1⟩,fun a e2=>?_⟩;cases e2;exact ⟨o,e,ex.2.1⟩
 | _=>exact False.elim ty
def tBM (K:PySem.W.Frag) (T:String) (r:V -> List V -> Hp -> VK -> Prop) (to:TE) (t:TA):TE:=fun σ H Q=>to σ H fun x H1=>tyV K T x H1 /\ t σ H1 fun xs H2=>r x xs H2 Q
variable {o e:Expr} {es:List Expr} {to:TE} {t:TA} {name:Str} {apos cpos:Pos} {T id:String} {r:V -> List V -> Hp -> VK -> Prop}
theorem zQM (pa:PlainAttrs T) (slot:Slot T name id) (hty:typeOf (.builtin id) = pure (.type "method_descriptor")) (hm:MtR X id r) (ho:PE X o to) (ha:PA X (e :: es) t)
  (hbase:attributeBase o name X.env (eval o X.env) = eval o X.env:=by rfl)
  (hfew:((backTo cpos (starEach (e :: es) X.env)).all (fun x=> !x.1) && (backToKw cpos (keywordEach [] X.env)).all (fun x=>x.1.isSome)
   && decide ((e :: es).length + ([]:List Keyword).length + (if ([]:List Keyword).isEmpty then 0 else 1) < 30)) = true:=by rfl)
  (hline:(apos.endLine == cpos.line) = true:=by rfl) (hs:starEach (e :: es) X.env = (false,eval e X.env) :: starEach es X.env:=by rfl) (hplain:(backTo cpos (starEach es X.env)).any (·.1) = false:=by rfl) :
  PE X (.Call (.Attribute o name apos) (e :: es) [] cpos) (tBM X.K T r to t):=by
 intro zB s σ H Q I h;refine wpAny_Call_method_late hbase hfew hline rfl (thn (ho zB s σ H _ I h) fun v s1 ⟨x,H1,I1,r1,ty,q1⟩=>?_);obtain ⟨h1,h2⟩:=zQW I1 r1 ty;refine ⟨T,id,pa,slot,hty,h1,h2,?_⟩;have hA:=ha cpos zB s1 σ H1 _ I1 q1;rw [hs] at hA ⊢;refine Calls.callWith_builtin (by show (false || (backTo cpos (starEach es X.env)).any (·.1)) = false; rw [hplain] <;> rfl) (Calls.evalArgs_plain ?_);exact thn hA fun us s2 ⟨vs,H2,I2,r2,q2⟩=>hm zB s2 σ H2 x vs v us Q I2 r1 r2 q2
end
def MtM (X:Cx) (id:String) (r:V -> List V -> Hp -> VK -> Prop):Prop :=
 ∀ (zB:List (Addr × Obj)) (s:Shared) (σ:St) (H:Hp) (x:V) (xs:List V) (v:Value) (us:List Value) (Q:VK),Inv X zB σ H s -> za x v -> zU xs us -> r x xs H Q ->
  wpAny (model X.prog X.w) X.A (call (.builtin id) (v :: us)) (EP X zB σ Q) X.xe s
theorem zU.one:∀ {x:V} {us:List Value},zU [x] us -> ∃ u,us = [u] /\ za x u
 | _,_,.cons r .nil=>⟨_,rfl,r⟩
theorem zU.two:∀ {x y:V} {us:List Value},zU [x,y] us -> ∃ u v,us = [u,v] /\ za x u /\ za y v
 | _,_,_,.cons r (.cons q .nil)=>⟨_,_,rfl,r,q⟩
theorem zU.rep {xs:List V} {us:List Value} (h:zU xs us):∀ k:Nat,zU (List.replicate k xs).flatten (List.replicate k us).flatten
 | 0=> .nil
 | k + 1=>by
  rw [zVL,zVL,List.flatten_cons,List.flatten_cons];exact zU.append h (zU.rep h k)
theorem zEe (its:List Value):∀ (k:Nat) (acc:List Value),
  List.foldl (fun x1 x2=>x1 ++ x2) acc.toArray (List.replicate k its.toArray) = (acc ++ (List.replicate k its).flatten).toArray
 | 0,acc=>by simp
 | k + 1,acc=>by
  have e:acc.toArray ++ its.toArray = (acc ++ its).toArray:=by simp
  have e2:(acc ++ its) ++ (List.replicate k its).flatten = acc ++ (List.replicate (k + 1) its).flatten:=by
   rw [zVL,List.flatten_cons,zU8]
  rw [<- e2,<- zEe its k (acc ++ its),<- e,zVL,List.foldl_cons]
section
variable {X:Cx} {zB:List (Addr × Obj)} {σ:St} {H:Hp} {s:Shared} {l b:Addr} {xs ys zs:List V}
theorem Inv.lset {its its':List Value} {n:Nat} {f:Array Value -> Array Value} {t':Nat} (I:Inv X zB σ H s) (hH:H l = some (.lst xs))
  (e:s.heap.get? l = some { cls:=.type "list", data:=.seq its.toArray n }) (hf:f its.toArray = its'.toArray) (hv:zU ys its') (hz:ys.length <= sizeLine) :
  Inv X zB σ (upd H l (.lst ys)) { s with heap:=s.heap.update l (Obj.mapSeq f),toks:=t' }:=by
 have q:=PySem.IsL.update e f;rw [hf] at q;refine I.write (x:=l) (e:=l) (by rw [hH]; exact trivial) (.inl rfl) (fun b' u hb hu=>(zUj s.heap (Obj.mapSeq f) (Ne.symm hb)).trans hu) ⟨_,q⟩ ?_;exact ⟨hz,its',_,hv,q⟩
theorem Inv.lnew {its:List Value} {t':Nat} (I:Inv X zB σ H s) (hv:zU ys its) (hz:ys.length <= sizeLine) :
  Inv X zB σ (upd H s.heap.objs.size (.lst ys)) { s with heap:=s.heap.push { cls:=.type "list", data:=.seq its.toArray },toks:=t' } :=
 I.laid (fun _ _ q=>zTy _ q) (zT8 _) ⟨hz,its,0,hv,zUC _ rfl⟩
theorem Inv.fresh (I:Inv X zB σ H s):H s.heap.objs.size = none:=I.hok.fresh (zT8 _)
theorem Inv.lstM (I:Inv X zB σ H s) (hH:H l = some (.lst xs)):xs.length <= sizeLine /\ ∃ (its:List Value) (n:Nat),zU xs its /\ xs.length = its.length /\ s.heap.get? l = some { cls:=.type "list", data:=.seq its.toArray n }:=by
 obtain ⟨z,its,n,r,e⟩:=I.hok l _ hH;exact ⟨z,its,n,r,r.length,e⟩
theorem zOT {n:Nat} (h:n <= sizeLine):Builtin.List.listTooLong n = false:=by
 unfold Builtin.List.listTooLong;exact zUb (by omega)
end
section
variable {X:Cx}
def zK4:V -> List V -> Hp -> VK -> Prop:=fun x vs H Q=>∃ l xs y,x = .ref l /\ vs = [y] /\ H l = some (.lst xs) /\ xs.length < sizeLine /\ Q .non (upd H l (.lst (xs ++ [y])))
theorem zLl:MtM X "list.append" zK4:=by
 intro zB s σ H x vs v us Q I rx rv h;obtain ⟨l,xs,y,rfl,rfl,hH,hz,q⟩:=h;cases rx;obtain ⟨u,rfl,ru⟩:=rv.one;obtain ⟨z,its,n,r,hl,e⟩:=I.lstM hH;refine call_meets F.slot_list_append ⟨_,e,rfl⟩ F.entry_list_append (F.args_list_append_2 _ _) (PySem.list_append l its.toArray n u (by rw [zUA]; omega)) ⟨e,?_⟩;refine ⟨.non,_,I.lset (its':=its ++ [u]) hH e (by simp) (r.append (.cons ru .nil)) ?_,rfl,q⟩;rw [zUI,zXH];omega
def zTC:R2:=fun x y H Q=>∃ l b xs zs,x = .ref l /\ y = .ref b /\ H l = some (.lst xs) /\ H b = some (.lst zs) /\ xs.length + zs.length <= sizeLine /\ ∀ p,H p = none -> Q (.ref p) (upd H p (.lst (xs ++ zs)))
theorem zRW:OpR X (binaryOp .Add) zTC:=by
 intro zB s σ H x y v u Q I rx ry h;obtain ⟨l,b,xs,zs,rfl,rfl,hH,hB,hz,q⟩:=h;cases rx;cases ry;obtain ⟨z,its,n,r,hl,e⟩:=I.lstM hH;obtain ⟨z2,its2,n2,r2,hl2,e2⟩:=I.lstM hB;refine PySem.P.add_list e e2 ?_ (by rw [zUA,zUA]; omega);have ea:its.toArray ++ its2.toArray = (its ++ its2).toArray:=by simp
 rw [ea];exact ⟨.ref _,_,I.lnew (t':=s.toks) (r.append r2) (by rw [zUI]; omega),rfl,q _ I.fresh⟩
def zSn:R2:=fun x y H Q=>∃ l k xs,x = .ref l /\ y = .int k /\ H l = some (.lst xs) /\ -(2 ^ 63) <= k /\ k < 2 ^ 63 /\ xs.length * k.toNat <= sizeLine /\
 ∀ p,H p = none -> Q (.ref p) (upd H p (.lst (List.replicate k.toNat xs).flatten))
theorem zHL {α:Type} (xs:List α) (k:Nat):(List.replicate k xs).flatten.length = k * xs.length:=by
 induction k with
 | zero=>simp
 | succ k ih=>rw [zVL,List.flatten_cons,zUI,ih,Nat.succ_mul,Nat.add_comm]
theorem zRH:OpR X (binaryOp .Mult) zSn:=by
 intro zB s σ H x y v u Q I rx ry h;obtain ⟨l,k,xs,rfl,rfl,hH,h1,h2,hz,q⟩:=h;cases rx;obtain ⟨t,rfl⟩:=ry;obtain ⟨z,its,n,r,hl,e⟩:=I.lstM hH;have hlen:its.toArray.size * k.toNat <= sizeLine:=by rw [zUA,<- hl]; exact hz
 have hcap:¬ its.toArray.size * k.toNat > (2 ^ 63 - 1) / 8:=by
  have:(sizeLine:Nat) <= (2 ^ 63 - 1) / 8:=by decide
  omega
 have hfit:¬ (!Builtin.List.listFitsIndex k) = true:=by
  rw [fitsIndex_both h1 h2];exact zUO
 have hlong:¬ Builtin.List.listTooLong (its.toArray.size * k.toNat) = true:=by
  rw [zOT hlen];exact zUO
 have hnew:List.foldl (fun x1 x2=>x1 ++ x2) #[] (List.replicate (if its.toArray.isEmpty = true then 0 else k.toNat) its.toArray) = (List.replicate k.toNat its).flatten.toArray:=by
  have f0:∀ m:Nat,List.foldl (fun x1 x2=>x1 ++ x2) #[] (List.replicate m its.toArray) = (List.replicate m its).flatten.toArray:=fun m=>by
   have:=zEe its m [];rw [zWK] at this;exact this
  rw [f0];cases its with
  | nil=>simp
  | cons a r'=>rw [zUK (by simp)]
 refine wpAny_binaryOp_repeat_ref (T := "list") (U := "int") (by decide) ⟨_,e,rfl⟩ (fun s'=>typeIs_int s' k t) noFill_list_mul F.fills_int_mul F.slot_int_rmul repeat_list F.slot_int_index.lookup
  (call_meets F.slot_int_rmul (typeIs_int s k t) F.entry_int_rmul (F.args_int_rmul_2 _ _) (int___rmul___int_list k t l its.toArray n)
   ⟨e,rfl,⟨_,e,rfl⟩,call_meets F.slot_list_mul ⟨_,e,rfl⟩ F.entry_list_mul (F.args_list_mul_2 _ _) (AutoListH.list___mul___list_int_3 l its.toArray n k t hfit hcap hlong) ⟨e,?_⟩⟩)
 rw [hnew];exact ⟨.ref _,_,I.lnew (t':=s.toks) (r.rep k.toNat) (by rw [zHL,Nat.mul_comm]; exact hz),rfl,q _ I.fresh⟩
end
end L2
namespace Att
open PySem PySem.W PySem.Calls PyProof.Rows
theorem zE2 {P:Params} {h:Heap}:∀ (ns:List Int) (vs:List Value),WellAll P h vs (ns.map WData.int) -> IntsAre vs ns:=by
 intro ns;induction ns with
 | nil=>
  intro vs w;rw [List.map_nil] at w;cases w;exact .nil
 | cons n ns ih=>
  intro vs w;rw [zUL] at w;cases w with
  | cons a b=>
   cases a;exact .cons _ _ (ih _ b)
theorem zML {l:OpenLaw} {n:Nat} (hn:l.most = some n) {P:Params} {h:Heap} {args:List WData} {vals:List Value}
  (hpre:l.row.toRowW.claim.pre args = true) (hwl:WellAll P h vals args) :
  ∃ a vs ns,vals = [Value.ref a] /\ args = [WData.list (ns.map WData.int)] /\ h.get? a = some { cls:=.type "list", data:=.seq vs.toArray } /\ IntsAre vs ns /\ ns.length <= n:=by
 have hsh:WShape.hasAll [] args [.list .int] = true:=(pre_splitW hpre).1;have hc:l.pre.holds [] { args:=args } = true:=(pre_splitW hpre).2;obtain ⟨d,r,rfl,h1,h2⟩:=hasAllW_cons hsh;obtain rfl:=hasAllW_nil h2;obtain ⟨xs,rfl,h3⟩:=hasW_list h1;obtain ⟨ns,rfl⟩:=items_int h3;have hlen:ns.length <= n:=by
  unfold OpenLaw.pre at hc;have h4:(WTm.not (.lt (.lit (.int (n:Int))) (.len (.arg 0)))).holds [] { args:=[.list (ns.map .int)] } = true:=by
   have h4:=(holds_andW hc).1;rw [hn] at h4;exact h4
  have h5:=condW_of h4 (w_not (w_lt w_lit (w_len_list (w_arg rfl))));rw [zUB] at h5;refine Nat.le_of_not_lt fun q=>?_;have q':(n:Int) < ((ns.length:Nat):Int):=by omega
  first
   | (rw [zVA q'] at h5; exact absurd h5 (by decide))
   | (simp at h5; omega)
 cases hwl with
 | cons w1 w2=>
  cases w2;cases w1 with
  | list ho hall=>exact ⟨_,_,ns,rfl,rfl,ho,zE2 ns _ hall,hlen⟩
theorem zMC (l:OpenLaw) (args:List WData):l.row.toRowW.claim.post args (.bool true) args = true :=
 postW_of (r:=l.row.toRowW) (X:=(true == true))
  (show WShape.has [] (.bool true) .bool = true by first | rfl | decide | simp [WShape.has,WShape.arms,WShape.armsAll])
  (show (WTm.eq .res (.lit (.bool true))).value [] { args:=args,res:=some (.bool true),after:=args } = some (.bool (true == true)) from w_eq_bool (w_res rfl) w_lit) rfl
theorem zIN {l:OpenLaw} {n:Nat} {q:Program} {loose:List Str} {XP:(Str -> Option Value) -> Heap -> Prop} {YP:World -> Heap -> Prop} {d:DefRec}
  (hn:l.most = some n) (hdf:d.params.defaults = [])
  (call:∀ (w:World) (s₀ s₁:Shared) (mg mb:Str -> Option Value) (fa:Addr) (o:Obj) (pm cd doc:Value) (a:Addr) (vs:List Value) (ns:List Int),
   Ground q loose [] XP w s₀ mg mb s₁.heap -> YP w s₁.heap ->
   s₁.heap.get? fa = some o -> o.data = .func (docDef d.name d.params d.body d.scope pm cd doc) -> s₁.heap.CodeRec cd d.name -> mg d.name = some (.ref fa) ->
   s₁.heap.get? a = some { cls:=.type "list", data:=.seq vs.toArray } -> IntsAre vs ns -> ns.length <= n -> s₁.gens = #[] ->
   codeAny (model l.prog w) callerA (.call (.ref fa) ⟨[.ref a],[]⟩) (fun r s'=>r = .ok (.ret (.bool true)) /\ OldK s₁.heap s'.heap /\ s'.os = s₁.os /\ AllBare s'.gens) s₁) :
  WalkO q loose XP YP l.row.toRowW d [] (fun f vs=>PySem.call f vs):=by
 intro w s₀ s₁ mg mb G Y fa o pm cd doc dV kV ho hd hcd hD hmg hg args vals as hpre hlay hrd hwl hlo;obtain rfl:dV = .none:=Dflts.none hD hdf;obtain rfl:kV = .none:=Dflts.noKw hD;obtain ⟨a,vs,ns,rfl,rfl,hobj,hints,hlen⟩:=zML hn hpre hwl;refine enter_call (codeAny_mono (call w s₀ s₁ mg mb fa o pm cd doc a vs ns G Y ho (fd_plain hd) hcd hmg hobj hints hlen hg) fun r s' hq=>?_);obtain ⟨rfl,h2,h3,h4⟩:=hq;exact ⟨.inl ⟨.bool true,.bool true,[],rfl,fun _=>rfl,.bool true,zMC l _,fun _=>⟨List.Pairwise.nil,fun _ hm=>(nomatch hm)⟩⟩,h2,h3,h4⟩
end Att
namespace L2
open PySem PySem.Spec PyProof.Rows
theorem zGw:∀ {vs:List Value} {ns:List Int},IntsAre vs ns -> zU (ns.map V.int) vs
 | _,_,.nil=> .nil
 | _,_,.cons n t h=> .cons ⟨t,rfl⟩ (zGw h)
end L2
namespace L2
open PySem PySem.Spec PyProof.Rows
def zCI (s:Stmt):Arguments:=match s with
 | .FunctionDef _ a _ _ _ _ _ _ _ _=>a
 | _=>{ posonlyargs:=[],args:=[],vararg:=none,kwonlyargs:=[],kw_defaults:=[],kwarg:=none,defaults:=[] }
def zBM (s:Stmt):List Stmt:=match s with
 | .FunctionDef _ _ b _ _ _ _ _ _ _=>b
 | _=>[]
def zP (s:Stmt):Scope:=match s with
 | .FunctionDef _ _ _ _ _ _ sc _ _ _=>sc
 | _=>{ kind:=.function,names:=[],isGenerator:=false,isCoroutine:=false }
abbrev CX0:CXT:=fun _ _ _ _ _ _=>False
abbrev E0:XK:=fun _ _ _=>False
theorem zQL {X:Cx}:zKb CX0 X E0:=fun _ _ _ _ _ _ _ h=>h.elim
structure Fun (K:PySem.W.Frag) (x qual:Str) (st:Stmt) (f:Addr) (fd:FuncData):Prop where
 ex:∃ (oc:Value) (od:Option Addr) (kV doc pm:Value) (an:Option Addr) (cdv ct:Value) (osl:Array (Option Value)),
  fd = PySem.W.fnOf x qual (zCI st) (zBM st) (zP st) .none kV doc pm an cdv ct /\ K.lookup f = some ⟨oc,od,.func fd,osl⟩ /\ PySem.W.codeIn K cdv qual = true
 kp:PySem.W.keepIn K (.ref f) = true
section
variable {P:Program} {w:World} {K:PySem.W.Frag} {mg:Str -> Option Value} {base:Heap}
theorem Fun.ok {x qual:Str} {st:Stmt} {f:Addr} {fd:FuncData} {N ps:List Str} {k:Nat} {sp:Sp} (F:Fun K x qual st f fd) (S:FnScope N ps (zP st)) (len:∀ vs H Q E,sp vs H Q E -> vs.length = ps.length)
  (hbody:∀ (cdv:Value) (A:Around) (outer:List Env) (s:Shared) (H:Hp) (vs:List V) (Q:VK) (E:XK),Room k (A.deeper (envOfC qual (zP st) s.heap.objs.size f cdv)) -> sp vs H Q E ->
   ∃ t,PSs (zIA CX0 P w K mg base N qual (zP st) f cdv A outer s H E).nox (zBM st) t /\ t { nx:=fun _ H'=>Q .non H',rt:=Q } (zDG N vs) H):FnOk P w K mg base CX0 (k + 1) f fd ps sp:=by
 obtain ⟨oc,od,kV,doc,pm,an,cdv,ct,osl,rfl,lk,hcd⟩:=F.ex;refine zQG lk hcd S len fun A outer s H vs Q E hr hsp=>?_;obtain ⟨t,h,q⟩:=hbody cdv A outer s H vs Q E hr hsp;exact ⟨t,h.nox,q⟩
theorem Fun.binds {x qual:Str} {st:Stmt} {f:Addr} {fd:FuncData} {ps:List Str} (F:Fun K x qual st f fd)
  (h:∀ (kV doc pm:Value) (an:Option Addr) (cdv ct:Value) (us:List Value),us.length = ps.length -> bindArgs (PySem.W.fnOf x qual (zCI st) (zBM st) (zP st) .none kV doc pm an cdv ct) ⟨us,[]⟩ = pure (ps.zip us)):zDD K fd ps []:=by
 obtain ⟨oc,od,kV,doc,pm,an,cdv,ct,osl,rfl,lk,hcd⟩:=F.ex;exact .all (h kV doc pm an cdv ct)
theorem zNe {x qual:Str} {st:Stmt} {f:Addr} {oc:Value} {od an:Option Addr} {osl:Array (Option Value)} {kV doc pm cdv ct:Value} (l:K.lookup f = some ⟨oc,od,.func (PySem.W.fnOf x qual (zCI st) (zBM st) (zP st) .none kV doc pm an cdv ct),osl⟩)
  (c:PySem.W.codeIn K cdv qual = true) (k:PySem.W.keepIn K (.ref f) = true):Fun K x qual st f (PySem.W.fnOf x qual (zCI st) (zBM st) (zP st) .none kV doc pm an cdv ct):=⟨⟨oc,od,kV,doc,pm,an,cdv,ct,osl,rfl,l,c⟩,k⟩
end
theorem zLD {A:Around} {k:Nat} (hr:Room k A):A.units + 1 < cLine:=Nat.lt_of_le_of_lt (Nat.add_le_add_left (by decide:1 <= 64) _) hr.units
section
variable {X:Cx}
theorem pv (i:Nat) {x:Str} {pos:Pos} (hN:X.N[i]? = some x:=by rfl) (hv:Vis X.env.scope x:=by first | exact Or.inl rfl | exact Or.inr (Or.inl rfl) | exact Or.inr (Or.inr rfl)) (hd:(x == ("__debug__" : Str)) = false:=by decide)
  (hcd:(x == ("__classdict__" : Str)) = false:=by decide):PE X (.Name x pos) (zQi i):=zOQ hN hv hd hcd
end
theorem zKI {A B:Prop} (h:B):if false = true then A else B:=by
 rw [zUK zUO];exact h
theorem zJT {A B:Prop} (h:A):if true = true then A else B:=by
 rw [zUH rfl];exact h
section
variable {κ:Type} [DecidableEq κ]
def zCe (kvs:List (κ × V)) (k:κ):Option V:=(kvs.find? fun kv=>decide (kv.1 = k)).map (·.2)
def zBe (kvs:List (κ × V)) (k:κ) (v:V):List (κ × V) :=
 if (kvs.any fun kv=>decide (kv.1 = k)) = true then kvs.map (fun kv=>if kv.1 = k then (kv.1,v) else kv) else kvs ++ [(k,v)]
theorem zDz {p:κ × V} {r:List (κ × V)} {k:κ} (e:p.1 = k):zCe (p :: r) k = some p.2:=by simp [zCe,zVo,e]
theorem zDl {p:κ × V} {r:List (κ × V)} {k:κ} (e:¬ p.1 = k):zCe (p :: r) k = zCe r k:=by simp [zCe,zVo,e]
theorem zJF (k:κ):∀ kvs:List (κ × V),(kvs.any fun kv=>decide (kv.1 = k)) = (zCe kvs k).isSome
 | []=>rfl
 | p :: r=>by
  rw [List.any_cons];by_cases e:p.1 = k
  ·simp only [zDz e,zVA e,Bool.true_or,Option.isSome_some]
  ·rw [zDl e,zUb e,Bool.false_or]; exact zJF k r
theorem zBU (kvs:List (κ × V)) (k:κ) (v:V):(zBe kvs k v).length <= kvs.length + 1:=by
 unfold zBe;split
 ·rw [zUB]; omega
 ·rw [zUI,zUZ,zVW]; omega
theorem zF0.isSome_eq {o:Option V} {u:Option Value} (r:zF0 o u):o.isSome = u.isSome:=by
 cases o with
 | none=>cases u with
  | none=>rfl
  | some _=>exact (show False from r).elim
 | some _=>cases u with
  | none=>exact (show False from r).elim
  | some _=>rfl
theorem KV.val {kvs:List (κ × V)} {vs:List (κ × Value)} (r:KV kvs vs) (k:κ):zF0 (zCe kvs k) (valueAt vs k):=by
 unfold KV at r;induction r with
 | nil=>exact True.intro
 | @cons p q ps qs h t ih=>
  obtain ⟨h1,h2⟩:=h;by_cases e:p.1 = k
  ·have e':q.1 = k:=h1.symm.trans e;have b:valueAt (q :: qs) k = some q.2:=by simp [valueAt,zVo,e']
   rw [zDz e,b]; exact h2
  ·have e':¬ q.1 = k:=fun z=>e (h1.trans z);have b:valueAt (q :: qs) k = valueAt qs k:=by simp [valueAt,zVo,e']
   rw [zDl e,b]; exact ih
theorem KV.any {kvs:List (κ × V)} {vs:List (κ × Value)} (r:KV kvs vs) (k:κ):(kvs.any fun kv=>decide (kv.1 = k)) = vs.any fun kv=>decide (kv.1 = k):=by
 unfold KV at r;induction r with
 | nil=>rfl
 | cons h t ih=>rw [List.any_cons,List.any_cons,ih,h.1]
theorem KV.repl {kvs:List (κ × V)} {vs:List (κ × Value)} (r:KV kvs vs) (k:κ) {y:V} {u:Value} (ry:za y u) :
  KV (kvs.map fun kv=>if kv.1 = k then (kv.1,y) else kv) (vs.map fun kv=>if kv.1 = k then (kv.1,u) else kv):=by
 unfold KV at r ⊢;induction r with
 | nil=>exact .nil
 | @cons p q ps qs h t ih=>
  rw [zUL,zUL];refine .cons ?_ ih;obtain ⟨h1,h2⟩:=h;by_cases e:p.1 = k
  ·rw [zUH e,zUH (h1.symm.trans e)]; exact ⟨h1,ry⟩
  ·rw [zUK e,zUK (fun z=>e (h1.trans z))]; exact ⟨h1,h2⟩
theorem KV.put {kvs:List (κ × V)} {vs:List (κ × Value)} (r:KV kvs vs) (k:κ) {y:V} {u:Value} (ry:za y u):KV (zBe kvs k y) (stored vs k u):=by
 unfold zBe stored;rw [r.any k];by_cases e:(vs.any fun kv=>decide (kv.1 = k)) = true
 ·rw [zUH e,zUH e]; exact r.repl k ry
 ·rw [zUK e,zUK e]; exact Paired.snoc r ⟨rfl,ry⟩
theorem KV.length {kvs:List (κ × V)} {vs:List (κ × Value)} (r:KV kvs vs):kvs.length = vs.length:=Paired.length r
end
theorem zGq {P:Program} {w:World} {k:Key} {u:Value} (r:za (kV k) u):(zv P w).is k u = true:=by
 cases k with
 | inl i=>obtain ⟨t,e⟩:=(show ∃ t,u = Value.int i t from r); subst e; exact zIa P w i t
 | inr x=>obtain ⟨t,e⟩:=(show ∃ t,u = Value.str x t from r); subst e; exact zI8 P w x t
theorem zGZ {P:Program} {w:World}:∀ {ks:List Key} {us:List Value},zU (ks.map kV) us -> ItemsAre (zv P w) ks us
 | [],_,r=>by rw [List.map_nil] at r; cases r; exact .nil
 | k :: ks,_,r=>by
  rw [zUL] at r;cases r with
  | cons h t=>exact .cons (zGq h) (zGZ t)
abbrev KT (H:Hp):List (List Key × V) -> List (List Key × Addr × Value) -> Prop:=Paired fun p q=>p.1 = q.1 /\ H q.2.1 = some (.tup (p.1.map kV)) /\ za p.2 q.2.2
theorem KT.val {H:Hp} {kvs:List (List Key × V)} {xs:List (List Key × Addr × Value)} (r:KT H kvs xs) (k:List Key):zF0 (zCe kvs k) ((atKey xs k).map (·.2)):=by
 induction r with
 | nil=>exact True.intro
 | @cons p q ps qs h t ih=>
  obtain ⟨h1,_,h2⟩:=h;by_cases e:p.1 = k
  ·have e':q.1 = k:=h1.symm.trans e;have b:atKey (q :: qs) k = some q.2:=by simp [atKey,zVo,e']
   rw [zDz e,b]; exact h2
  ·have e':¬ q.1 = k:=fun z=>e (h1.trans z);have b:atKey (q :: qs) k = atKey qs k:=by simp [atKey,zVo,e']
   rw [zDl e,b]; exact ih
theorem KT.repl {H:Hp} {kvs:List (List Key × V)} {xs:List (List Key × Addr × Value)} (r:KT H kvs xs) (k:List Key) {y:V} {u:Value} (ry:za y u) :
  KT H (kvs.map fun kv=>if kv.1 = k then (kv.1,y) else kv) (xs.map (putAt k u)):=by
 induction r with
 | nil=>exact .nil
 | @cons p q ps qs h t ih=>
  rw [zUL,zUL];refine .cons ?_ ih;obtain ⟨h1,h2,h3⟩:=h;unfold putAt;by_cases e:p.1 = k
  ·rw [zUH e,zUH (h1.symm.trans e)]; exact ⟨h1,h2,ry⟩
  ·rw [zUK e,zUK (fun z=>e (h1.trans z))]; exact ⟨h1,h2,h3⟩
theorem KT.put {H:Hp} {kvs:List (List Key × V)} {xs:List (List Key × Addr × Value)} (r:KT H kvs xs) (k:List Key) {b:Addr} {y:V} {u:Value} (hb:H b = some (.tup (k.map kV))) (ry:za y u) :
  KT H (zBe kvs k y) (storedH xs k b u):=by
 have e:(kvs.any fun kv=>decide (kv.1 = k)) = (atKey xs k).isSome:=by
  rw [zJF,(r.val k).isSome_eq,Option.isSome_map]
 unfold zBe storedH;rw [e];by_cases q:(atKey xs k).isSome = true
 ·rw [zUH q,zUH q]; exact r.repl k ry
 ·rw [zUK q,zUK q]; exact Paired.snoc r ⟨rfl,hb,ry⟩
theorem KT.keeps {H H':Hp} {kvs:List (List Key × V)} {xs:List (List Key × Addr × Value)} (r:KT H kvs xs) (ht:∀ b ys,H b = some (.tup ys) -> H' b = some (.tup ys)):KT H' kvs xs :=
 Paired.mapP r fun _ _ z=>⟨z.1,ht _ _ z.2.1,z.2.2⟩
section
variable {P:Program} {w:World} {H:Hp} {h:Heap} {a:Addr}
theorem zQO {u:HO} (ok:HOk P w H h) (e:Rd H a u):zk P w H h a u:=e.ok ok
theorem zIz {kvs:List (Key × V)} (ok:HOk P w H h) (e:Rd H a (.dK kvs)):kvs.length <= sizeLine /\ (a == sysModules) = false /\ ∃ vs,KV kvs vs /\ h.DictOf (zv P w) a vs :=
 show zk P w H h a (.dK kvs) from zQO ok e
theorem zNc {kvs:List (Key × V)} (ok:HOk P w H h) (e:H a = some (.dK kvs)):kvs.length <= sizeLine /\ (a == sysModules) = false /\ ∃ vs,KV kvs vs /\ h.DictOf (zv P w) a vs:=zIz ok (.inl e)
theorem zFX {ks:List Key} (ok:HOk P w H h) (e:H a = some (.tup (ks.map kV))):(tupleKind (zv P w)).is h ks a:=by
 obtain ⟨_,its,r,o,h1,h2,⟨n,h3⟩,_⟩:=(show zk P w H h a (.tup (ks.map kV)) from ok a _ e);exact ⟨o,its.toArray,n,h1,h2,h3,by simpa using zGZ r⟩
theorem zIf {kvs:List (List Key × V)} (ok:HOk P w H h) (e:Rd H a (.dT kvs)):kvs.length <= sizeLine /\ (a == sysModules) = false /\
  ∃ xs,KT H kvs xs /\ h.DictOfH (tupleKind (zv P w)) a xs:=by
 obtain ⟨z,y,xs,r,o,es,ep,h1,h2,h3,h4,h5⟩:=(show zk P w H h a (.dT kvs) from zQO ok e);refine ⟨z,y,xs,r,o,es,ep,h1,h2,h3,h4,fun x hx=>?_,h5⟩;have all:∀ {l:List (List Key × V)} {m:List (List Key × Addr × Value)},KT H l m -> ∀ x ∈ m,(tupleKind (zv P w)).is h x.1 x.2.1:=by
  intro l m q;induction q with
  | nil=>intro x hx; exact nomatch hx
  | @cons p q ps qs hq t ih=>
   intro x hx;rcases zUE.mp hx with e | hx
   ·subst e;exact zFX ok (by rw [<- hq.1]; exact hq.2.1)
   ·exact ih x hx
 exact all r x hx
theorem zQN {kvs:List (List Key × V)} (ok:HOk P w H h) (e:H a = some (.dT kvs)):kvs.length <= sizeLine /\ (a == sysModules) = false /\
  ∃ xs,KT H kvs xs /\ h.DictOfH (tupleKind (zv P w)) a xs:=zIf ok (.inl e)
end
def zDx (H:Hp) (a:Addr) (y:V) (r:Option V):Prop :=
 (∃ kvs k,Rd H a (.dK kvs) /\ y = kV k /\ r = zCe kvs k) \/ ∃ kvs k b,Rd H a (.dT kvs) /\ y = .ref b /\ H b = some (.tup (k.map kV)) /\ r = zCe kvs k
def zEz (H:Hp) (a:Addr) (y v:V) (H':Hp):Prop :=
 (∃ kvs k,H a = some (.dK kvs) /\ y = kV k /\ kvs.length < sizeLine /\ H' = upd H a (.dK (zBe kvs k v))) \/
 ∃ kvs k b,H a = some (.dT kvs) /\ y = .ref b /\ H b = some (.tup (k.map kV)) /\ kvs.length < sizeLine /\ H' = upd H a (.dT (zBe kvs k v))
theorem zDx.k {H:Hp} {a:Addr} {kvs:List (Key × V)} {k:Key} (e:H a = some (.dK kvs)):zDx H a (kV k) (zCe kvs k):=.inl ⟨kvs,k,.inl e,rfl,rfl⟩
theorem zDx.t {H:Hp} {a b:Addr} {kvs:List (List Key × V)} {k:List Key} (e:H a = some (.dT kvs)) (eb:H b = some (.tup (k.map kV))):zDx H a (.ref b) (zCe kvs k):=.inr ⟨kvs,k,b,.inl e,rfl,eb,rfl⟩
theorem zEz.k {H:Hp} {a:Addr} {kvs:List (Key × V)} {k:Key} {v:V} (e:H a = some (.dK kvs)) (hl:kvs.length < sizeLine):zEz H a (kV k) v (upd H a (.dK (zBe kvs k v))):=.inl ⟨kvs,k,e,rfl,hl,rfl⟩
theorem zEz.t {H:Hp} {a b:Addr} {kvs:List (List Key × V)} {k:List Key} {v:V} (e:H a = some (.dT kvs)) (eb:H b = some (.tup (k.map kV))) (hl:kvs.length < sizeLine) :
  zEz H a (.ref b) v (upd H a (.dT (zBe kvs k v))):=.inr ⟨kvs,k,b,e,rfl,eb,hl,rfl⟩
section
variable {X:Cx} {zB:List (Addr × Obj)} {σ:St} {H:Hp} {s:Shared} {a:Addr} {y v:V} {u r:Value} {o:Option V} {A:Around} {E:Value -> Shared -> Prop}
theorem Inv.big (I:Inv X zB σ H s):sysModules < s.heap.objs.size:=by
 have h:mainGlobals < s.heap.objs.size:=(I.mod.glob.keeps I.bk).lt;exact Nat.lt_trans (by decide) h
theorem zLf {Q:Value -> Shared -> Prop} (hu:A.units + 1 < cLine) (I:Inv X zB σ H s) (g:zDx H a y (some v)) (ry:za y u) (h:∀ w' s',Inv X zB σ H s' -> za v w' -> Q w' s') :
  wpAny (model X.prog X.w) A (getItem (.ref a) u) Q E s:=by
 rcases g with ⟨kvs,k,e,ey,l⟩ | ⟨kvs,k,b,e,ey,eb,l⟩
 ·subst ey;obtain ⟨z,hd,vs,rel,dd⟩:=zIz I.hok e;obtain ⟨w',hw,rw'⟩:=zF0.some_of (v:=v) (o:=valueAt vs k) (by rw [l]; exact rel.val k);exact wpAny_getItem_of (zGq ry) dd.mapOf hw (h w' _ (I.tok _) rw')
 ·subst ey;cases (show u = Value.ref b from ry);obtain ⟨z,hd,xs,rel,dd⟩:=zIf I.hok e;obtain ⟨w',hw,rw'⟩:=zF0.some_of (v:=v) (o:=(atKey xs k).map (·.2)) (by rw [l]; exact rel.val k);obtain ⟨p,hp,hp2⟩:=Option.map_eq_some_iff.mp hw;refine wpAny_getItem_heap (tupleKind_room_in1 hu) (zFX I.hok eb) dd hp ?_;rw [hp2];exact h w' _ (I.tok _) rw'
theorem zPe {Q:Value -> Shared -> Prop} (hu:A.units + 1 < cLine) (I:Inv X zB σ H s) (g:zDx H a y o) (ry:za y u) (h:∀ s',Inv X zB σ H s' -> Q (.bool (!o.isSome)) s') :
  wpAny (model X.prog X.w) A (compareOp .NotIn u (.ref a)) Q E s:=by
 rcases g with ⟨kvs,k,e,ey,l⟩ | ⟨kvs,k,b,e,ey,eb,l⟩
 ·subst ey;obtain ⟨z,hd,vs,rel,dd⟩:=zIz I.hok e;refine wpAny_notIn_of (zGq ry) hd dd.mapOf ?_;rw [<- (rel.val k).isSome_eq,<- l];exact h _ (I.tok _)
 ·subst ey;cases (show u = Value.ref b from ry);obtain ⟨z,hd,xs,rel,dd⟩:=zIf I.hok e;refine wpAny_notIn_heap (tupleKind_room_in1 hu) (zFX I.hok eb) hd dd ?_;have q:=(rel.val k).isSome_eq;rw [Option.isSome_map] at q;rw [<- q,<- l];exact h _ (I.tok _)
theorem zC6 {h':Heap} {t':Nat} {ob:HO} (I:Inv X zB σ H s) (mu:Mut (H a)) (hs:Heap.SameBut a s.heap h') (he:∃ q,h'.get? a = some q) (new:zk X.prog X.w (upd H a ob) h' a ob) :
  Inv X zB σ (upd H a ob) { s with heap:=h',toks:=t' } :=
 I.write (x:=a) (e:=a) mu (.inl rfl) (fun b q hb z=>(hs.2 b hb).trans z) he new
theorem zKd {P:Program} {w:World} {H':Hp} {h':Heap} {kvs:List (Key × V)} {vs:List (Key × Value)} (z:kvs.length <= sizeLine) (hd:(a == sysModules) = false) (rel:KV kvs vs) (dd:h'.DictOf (zv P w) a vs) :
  zk P w H' h' a (.dK kvs):=⟨z,hd,vs,rel,dd⟩
theorem zMa {H':Hp} {Q:Unit -> Shared -> Prop} (hu:A.units + 1 < cLine) (I:Inv X zB σ H s) (g:zEz H a y v H') (ry:za y u) (rv:za v r) (h:∀ s',Inv X zB σ H' s' -> Q () s') :
  wpAny (model X.prog X.w) A (setItem (.ref a) u r) Q E s:=by
 rcases g with ⟨kvs,k,e,ey,l,eH⟩ | ⟨kvs,k,b,e,ey,eb,l,eH⟩
 ·subst ey eH;obtain ⟨z,hd,vs,rel,dd⟩:=zNc I.hok e;have hz:vs.length <= sizeLine:=by rw [<- rel.length]; exact z
  have hl:(zBe kvs k v).length <= sizeLine:=by have:=zBU kvs k v; omega
  refine wpAny_setItem_pairs (hsz:=hz) (zGq ry) dd fun h' dd' hs=>h _ ?_;have he:∃ q,h'.get? a = some q:=let ⟨q,_,_,hq,_⟩:=dd'; ⟨q,hq⟩;exact zC6 I (by rw [e]; exact True.intro) hs he (zKd hl hd (rel.put k rv) dd')
 ·subst ey eH;cases (show u = Value.ref b from ry);obtain ⟨z,hd,xs,rel,dd⟩:=zQN I.hok e;have hz:xs.length <= sizeLine:=by rw [<- Paired.length rel]; exact z
  have hl:(zBe kvs k v).length <= sizeLine:=by have:=zBU kvs k v; omega
  refine wpAny_setItem_heap (hsz:=hz) (tupleKind_room_in1 hu) (zFX I.hok eb) dd fun h' dd' hs=>h _ ?_;obtain ⟨q,es,ep,hq,h2,h3,h4,_,h5⟩:=dd';refine zC6 I (by rw [e]; exact True.intro) hs ⟨q,hq⟩ ⟨hl,hd,_,(rel.put k eb rv).keeps fun c ys ec=>?_,q,es,ep,hq,h2,h3,h4,h5⟩;rw [zQ (zCb ec e (fun z=>nomatch z))];exact ec
end
def zRJ (i:Expr):Prop:=∀ ov iv,subscripted i false ov iv = operate [ov,iv] (getItem ov iv)
theorem zPo {prog:Program} {w:World} {A:Around} {E:Value -> Shared -> Prop} {s:Shared} {env:Env} {value slice:Expr} {pos:Pos} {T id:String} {Q:Value -> Shared -> Prop}
  (hl:typeLookup (.type T) "__getitem__" = pure (some (.builtin id))) (hs:zRJ slice)
  (h:wpAny (model prog w) A (eval value env) (fun o s₁=>wpAny (model prog w) A (eval slice env) (fun i s₂=>s₂.TypeIs o T /\ wpAny (model prog w) A (getItem o i) Q E s₂) E s₁) E s) :
  wpAny (model prog w) A (eval (.Subscript value slice pos) env) Q E s:=by
 refine Subscript_ (zUY h (fun o s₁ h₁=>zUY h₁ (fun i s₂ h₂=>?_) fun _ _ x=>x) fun _ _ x=>x);obtain ⟨hT,h₂⟩:=h₂;unfold subscriptTail;refine zTx ?_;rw [getitemInPython_of_ne hT.not_modules];refine zTx (wpAny_specialOf hT hl ?_);have fin:wpAny (model prog w) A (subscripted slice false o i) (fun r s₃=>wpAny (model prog w) A (letTemporaryGo value o r >>= fun _=>pure r) Q E s₃) E s₂:=by
  rw [hs o i];exact wpAny_operating (zUY h₂ (fun r s₃ h₃=>zTx (wpAny_letTemporaryGo (zTz h₃))) fun _ _ x=>x)
 first
  | exact zTz (zTx fin)
  | exact zTx (zTz (zTx fin))
  | exact zTx fin
theorem zIC {X:Cx} {zB:List (Addr × Obj)} {σ:St} {H:Hp} {s:Shared} {a:Addr} {y:V} {o:Option V} (I:Inv X zB σ H s) (g:zDx H a y o):s.TypeIs (.ref a) "dict" := by
 rcases g with ⟨kvs,k,e,_,_⟩ | ⟨kvs,k,b,e,_,_,_⟩
 ·obtain ⟨_,_,vs,_,dd⟩:=zIz I.hok e;exact dd.typeIs
 ·obtain ⟨_,_,xs,_,dd⟩:=zIf I.hok e;exact dd.typeIs
def zS9 (td ty:TE):TE:=fun σ H Q=>td σ H fun x H1=>ty σ H1 fun y H2=>∃ a v,x = .ref a /\ zDx H2 a y (some v) /\ Q v H2
def zPi (ty td:TE):TE:=fun σ H Q=>ty σ H fun y H1=>td σ H1 fun x H2=>∃ a o,x = .ref a /\ zDx H2 a y o /\ Q (.bl (!o.isSome)) H2
def zSr (td ty tv:TE):TS:=fun D σ H=>tv σ H fun v H1=>td σ H1 fun x H2=>ty σ H2 fun y H3=>∃ a H4,x = .ref a /\ zEz H3 a y v H4 /\ D.nx σ H4
section
variable {X:Cx} {o i e value:Expr} {pos pos' tpos:Pos} {td ty tv:TE}
theorem zOx (hu:X.A.units + 1 < cLine) (ho:PE X o td) (hi:PE X i ty) (hs:zRJ i):PE X (.Subscript o i pos) (zS9 td ty):=by
 intro zB s σ H Q I h;refine zPo PySem.F.slot_dict_getitem.lookup hs (thn (ho zB s σ H _ I h) fun u s1 ⟨x,H1,I1,rx,q1⟩=>thn (hi zB s1 σ H1 _ I1 q1) fun iv s2 ⟨y,H2,I2,ry,a,v,ex,g,q2⟩=>?_);subst ex;obtain rfl:u = Value.ref a:=rx;exact ⟨zIC I2 g,zLf hu I2 g ry fun w' s3 I3 rw'=>⟨v,H2,I3,rw',q2⟩⟩
theorem zMP (hu:X.A.units + 1 < cLine) (hi:PE X i ty) (ho:PE X o td):PC X .NotIn i o (zPi ty td):=by
 intro zB s σ H Q I h;refine thn (hi zB s σ H _ I h) fun iv s1 ⟨y,H1,I1,ry,q1⟩=>thn (ho zB s1 σ H1 _ I1 q1) fun u s2 ⟨x,H2,I2,rx,a,ov,ex,g,q2⟩=>?_;subst ex;obtain rfl:u = Value.ref a:=rx;exact zPe hu I2 g ry fun s3 I3=>⟨.bl (!ov.isSome),H2,I3,rfl,q2⟩
theorem zPn (hu:X.A.units + 1 < cLine) (ho:PE X o td) (hi:PE X i ty) (hv:PE X value tv) (hs:swapsWith value (some (.Subscript o i pos')) pos.line X.env = pure false) :
  PS X (.Assign [.Subscript o i pos'] value pos) (zSr td ty tv):=by
 intro zB s σ H D I h;refine wpAny_Assign_Subscript (thn (hv zB s σ H _ I h) fun r s1 ⟨v,H1,I1,rv,q1⟩=>thn (ho zB s1 σ H1 _ I1 q1) fun u s2 ⟨x,H2,I2,rx,q2⟩=>thn (hi zB s2 σ H2 _ I2 q2) fun iv s3 ⟨y,H3,I3,ry,a,H4,ex,g,q3⟩=>?_) hs;subst ex;obtain rfl:u = Value.ref a:=rx;exact zMa hu I3 g ry rv fun s4 I4=>⟨σ,H4,I4,q3⟩
end
theorem zNn {P:Program} {w:World} {H:Hp} (h:Heap) (hb:sysModules < h.objs.size):zk P w H (h.push { cls:=.type "dict", data:=.dict #[] }) h.objs.size (.dK []) :=
 ⟨zUo _,beq_eq_false_iff_ne.mpr (Ne.symm (zUN hb)),[],.nil,Heap.DictOf.new h⟩
theorem zH8 {P:Program} {w:World} {H:Hp} (h:Heap) (hb:sysModules < h.objs.size):zk P w H (h.push { cls:=.type "dict", data:=.dict #[] }) h.objs.size (.dT []) :=
 ⟨zUo _,beq_eq_false_iff_ne.mpr (Ne.symm (zUN hb)),[],.nil,_,#[],0,zUC _ rfl,⟨rfl,rfl,rfl⟩,rfl,rfl,List.nodup_nil⟩
def zRP:TE:=fun _ H Q=>∀ p,H p = none -> Q (.ref p) (upd H p (.dT []))
section
variable {X:Cx} {pos:Pos}
theorem zN9:PE X (.Dict [] [] pos) zRP:=fun zB s σ H Q I h=>
 wpAny_Dict_empty ⟨.ref s.heap.objs.size,_,I.laid (a:=s.heap.objs.size) (o:=.dT []) (t':=s.toks) (fun _ _ q=>zTy _ q) (zT8 _) (zH8 s.heap I.big),rfl,h _ (I.hok.fresh (zT8 _))⟩
end
def zKi:List (TE × TE) -> St -> Hp -> (List (V × V) -> Hp -> Prop) -> Prop
 | [],_,H,Q=>Q [] H
 | (tk,tv) :: r,σ,H,Q=>tk σ H fun x H1=>tv σ H1 fun y H2=>zKi r σ H2 fun ps H3=>Q ((x,y) :: ps) H3
abbrev VV:List (V × V) -> List (Value × Value) -> Prop:=Paired fun p q=>za p.1 q.1 /\ za p.2 q.2
def PPs (X:Cx) (pos:Pos) (keys:List (Option Expr)) (values:List Expr) (trs:List (TE × TE)):Prop :=
 ∀ (zB:List (Addr × Obj)) (s:Shared) (σ:St) (H:Hp) (Q:List (V × V) -> Hp -> Prop),Inv X zB σ H s -> zKi trs σ H Q ->
  wpAny (model X.prog X.w) X.A (evalPairs (pairTrees keys values X.env pos)) (fun vs s'=>∃ ps H',Inv X zB σ H' s' /\ VV ps vs /\ Q ps H') X.xe s
theorem zLF {X:Cx} {pos:Pos}:PPs X pos [] [] []:=fun zB s σ H Q I h=>pairTrees_nil_walk ⟨[],H,I,.nil,h⟩
theorem zDr {X:Cx} {pos:Pos} {k v:Expr} {ks:List (Option Expr)} {vs:List Expr} {tk tv:TE} {trs:List (TE × TE)} (hk:PE X k tk) (hv:PE X v tv) (hr:PPs X pos ks vs trs) :
  PPs X pos (some k :: ks) (v :: vs) ((tk,tv) :: trs):=fun zB s σ H Q I h=>
 pairTrees_cons_walk (thn (hk zB s σ H _ I h) fun u s1 ⟨x,H1,I1,rx,q1⟩=>thn (hv zB s1 σ H1 _ I1 q1) fun w2 s2 ⟨y,H2,I2,ry,q2⟩=>
  thn (hr zB s2 σ H2 _ I2 q2) fun ws s3 ⟨ps,H3,I3,rel,q3⟩=>⟨(x,y) :: ps,H3,I3,.cons ⟨rx,ry⟩ rel,q3⟩)
def zDQ (kvs more:List (Key × V)):List (Key × V):=more.foldl (fun acc kv=>zBe acc kv.1 kv.2) kvs
theorem KV.merge:∀ {more:List (Key × V)} {rs:List (Key × Value)} {kvs:List (Key × V)} {vs:List (Key × Value)},KV more rs -> KV kvs vs -> KV (zDQ kvs more) (merged vs rs):=by
 intro more rs kvs vs r;unfold KV at r;induction r generalizing kvs vs with
 | nil=>intro q; exact q
 | @cons p q ps qs h t ih=>
  intro r0;have e:KV (zBe kvs p.1 p.2) (stored vs q.1 q.2):=by
   have:=r0.put p.1 h.2;rw [<- h.1]; exact this
  exact ih e
theorem zDI:∀ (more kvs:List (Key × V)),(zDQ kvs more).length <= kvs.length + more.length
 | [],kvs=>by show kvs.length <= kvs.length + 0; omega
 | p :: r,kvs=>by
  have h1:=zDI r (zBe kvs p.1 p.2);have h2:=zBU kvs p.1 p.2;show (zDQ (zBe kvs p.1 p.2) r).length <= _;rw [zUZ]; omega
theorem zFx {P:Program} {w:World}:∀ {kvs:List (Key × V)} {ws:List (Value × Value)},VV (kvs.map fun kv=>(kV kv.1,kv.2)) ws -> ∃ rs,Carries (zv P w) ws rs /\ KV kvs rs
 | [],_,r=>by rw [List.map_nil] at r; cases r; exact ⟨[],True.intro,.nil⟩
 | p :: kvs,_,r=>by
  rw [zUL] at r;cases r with
  | @cons a b as bs h t=>
   obtain ⟨rs,c,q⟩:=zFx (P:=P) (w:=w) t;obtain ⟨b1,b2⟩:=b;exact ⟨(p.1,b2) :: rs,⟨zGq h.1,rfl,c⟩,.cons ⟨rfl,h.2⟩ q⟩
def zSg (trs:List (TE × TE)):TE:=fun σ H Q=>∀ p,H p = none -> zKi trs σ (upd H p (.dK [])) fun ps H2=>H2 p = some (.dK []) /\ ∃ kvs:List (Key × V),ps = kvs.map (fun kv=>(kV kv.1,kv.2)) /\ kvs.length <= 15 /\ Q (.ref p) (upd H2 p (.dK (zDQ [] kvs)))
theorem zPw {X:Cx} {pos:Pos} {keys:List (Option Expr)} {values:List Expr} {trs:List (TE × TE)} (h:PPs X pos keys values trs) (hall:keys.all (·.isSome) = true) (hl:keys.length = values.length) (h0:keys ≠ [])
  (h15:keys.length <= 15):PE X (.Dict keys values pos) (zSg trs):=by
 intro zB s σ H Q I q;have hn:=I.hok.fresh (zT8 s.heap.objs.size);have I1:=I.laid (a:=s.heap.objs.size) (o:=.dK []) (h':=s.heap.push { cls:=.type "dict", data:=.dict #[] }) (t':=s.toks) (fun _ _ q=>zTy _ q) (zT8 _) (zNn s.heap I.big);refine wpAny_Dict_walk (knd:=zv X.prog X.w) hall hl h0 h15 (thn (h zB _ σ _ _ I1 (q _ hn)) fun ws s2 ⟨ps,H2,I2,rel,e,kvs,ep,lk,q2⟩=>?_);subst ep;obtain ⟨rs,c,rk⟩:=zFx (P:=X.prog) (w:=X.w) rel;obtain ⟨z,hd,vs0,r0,dd⟩:=zNc I2.hok e;cases r0;refine ⟨rs,c,dd,fun h' dd' hs=>⟨.ref s.heap.objs.size,_,?_,rfl,q2⟩⟩;have hz:(zDQ [] kvs).length <= sizeLine:=by
  have h1:=zDI kvs [];rw [zVW] at h1;rw [sizeLine_eq]; omega
 have he:∃ q,h'.get? s.heap.objs.size = some q:=let ⟨q,_,_,hq,_⟩:=dd'; ⟨q,hq⟩;exact zC6 I2 (by rw [e]; exact True.intro) hs he (zKd hz hd (rk.merge .nil) dd')
def IsD (H:Hp) (a:Addr):Prop:=(∃ kvs,Rd H a (.dK kvs)) \/ ∃ kvs,Rd H a (.dT kvs)
theorem zNg {X:Cx} {zB:List (Addr × Obj)} {σ:St} {H:Hp} {s:Shared} {a:Addr} (I:Inv X zB σ H s) (d:IsD H a) :
  s.TypeIs (.ref a) "dict" /\ (∀ b,Value.ref a = .ref b -> ∃ ob,s.heap.get? b = some ob /\ ob.dict = none) /\ (a == sysModules) = false:=by
 rcases d with ⟨kvs,e⟩ | ⟨kvs,e⟩
 ·obtain ⟨_,hd,vs,_,dd⟩:=zIz I.hok e;refine ⟨dd.typeIs,fun b q=>?_,hd⟩;cases q;obtain ⟨ob,_,_,h1,h2,_⟩:=dd;exact ⟨ob,h1,h2.2.1⟩
 ·obtain ⟨_,hd,xs,_,dd⟩:=zIf I.hok e;refine ⟨dd.typeIs,fun b q=>?_,hd⟩;cases q;obtain ⟨ob,_,_,h1,h2,_⟩:=dd;exact ⟨ob,h1,h2.2.1⟩
theorem zAL:∀ (names:List (Str × NameKind)) (n:Nat) (acc:List (Str × Addr)),cellsFrom n names acc = cellsFrom n names [] ++ acc
 | [],_,_=>rfl
 | (name,kind) :: r,n,acc=>by
  unfold cellsFrom;split
  ·rw [zAL r (n + 1) ((name,n) :: acc),zAL r (n + 1) [(name,n)],zU8];rfl
  ·exact zAL r n acc
theorem zBo {α:Type} (x:Str):∀ (l r:List (Str × α)),(l ++ r).lookup x = (match l.lookup x with | some c=>some c | none=>r.lookup x)
 | [],r=>rfl
 | (k,v) :: l,r=>by
  rw [List.cons_append,zV7,zV7];cases hb:x == k with
  | true=>rfl
  | false=>exact zBo x l r
theorem zDS {env:Env}:∀ (names:List (Str × NameKind)) (acc:List (Str × Addr)),
  (∀ y ∈ names,y.2 = .free -> ∃ c,env.cells.lookup y.1 = some c) ->
  (∀ x c,acc.lookup x = some c -> env.cells.lookup x = some c) ->
  ∃ cl:List (Str × Addr),(forIn names acc (fun (p:Str × NameKind) (cs:List (Str × Addr))=>(do
    if p.2 == .free then
     let a <- cellOf env p.1;pure (ForInStep.yield ((p.1,a) :: cs))
    else pure (ForInStep.yield cs):Sem (ForInStep (List (Str × Addr)))))) = pure cl /\
   (∀ x c,cl.lookup x = some c -> env.cells.lookup x = some c) /\
   (∀ x,(acc.lookup x).isSome = true -> (cl.lookup x).isSome = true) /\ ∀ y ∈ names,y.2 = .free -> (cl.lookup y.1).isSome = true
 | [],acc,_,ha=>⟨acc,by rw [List.forIn_nil],ha,fun _ h=>h,fun _ h=>nomatch h⟩
 | (n,k) :: r,acc,hf,ha=>by
  rw [List.forIn_cons];by_cases hk:k = .free
  ·subst hk;obtain ⟨c,hc⟩:=hf (n,.free) zUG rfl;have hco:cellOf env n = pure c:=by unfold cellOf; rw [hc]
   obtain ⟨cl,e,h1,h2,h3⟩:=zDS r ((n,c) :: acc) (fun y hy=>hf y (zUF _ hy)) (fun x d hx=>by
    rw [zV7] at hx;cases hb:x == n with
    | true=>rw [hb] at hx; cases hx; rw [beq_iff_eq.mp hb]; exact hc
    | false=>rw [hb] at hx; exact ha x d hx)
   refine ⟨cl,?_,h1,fun x hx=>h2 x ?_,fun y hy hk=>?_⟩
   ·rw [<- e];simp only [beq_self_eq_true,if_true,hco];rfl
   ·rw [zV7];cases hb:x == n with
    | true=>rfl
    | false=>exact hx
   ·rcases zUE.mp hy with z | z
    ·subst z;exact h2 n (by rw [zV7]; simp)
    ·exact h3 y z hk
  ·obtain ⟨cl,e,h1,h2,h3⟩:=zDS r acc (fun y hy=>hf y (zUF _ hy)) ha;refine ⟨cl,?_,h1,h2,fun y hy hk'=>?_⟩
   ·rw [<- e];have:(k == NameKind.free) = false:=by simpa using hk
    simp only [this,zU3,if_false];rfl
   ·rcases zUE.mp hy with z | z
    ·subst z; exact absurd hk' hk
    ·exact h3 y z hk'
theorem zDF {env:Env} {scope:Scope} (hf:∀ y ∈ scope.names,y.2 = .free -> ∃ c,env.cells.lookup y.1 = some c) :
  ∃ cl,closureFor scope env = pure cl /\ (∀ x c,cl.lookup x = some c -> env.cells.lookup x = some c) /\ ∀ y ∈ scope.names,y.2 = .free -> (cl.lookup y.1).isSome = true:=by
 obtain ⟨cl,e,h1,_,h3⟩:=zDS (env:=env) scope.names [] hf (fun x c h=>nomatch h);refine ⟨cl,?_,h1,h3⟩;unfold closureFor;rw [show (pure cl:Sem _) = pure cl >>= pure from rfl,<- e]
theorem zEu {M:Model} {A:Around} {E:Value -> Shared -> Prop} {s:Shared} {scope:Scope} {globals:Addr} {cl:List (Str × Addr)} {qual:Str} {env:Env} {Q:Env -> Shared -> Prop}
  (hQ:Q (newEnv scope s.heap.objs.size globals (cellsFrom (s.heap.objs.size + 1) scope.names cl) qual none .none (some env) builtinsNs)
   { s with heap:=pushCells (s.heap.push { cls:=.type "dict", data:=.dict #[] }) scope.names }) :
  wpAny M A (newFunctionEnv scope globals cl [] qual none .none (some env)) Q E s:=by
 simp only [newFunctionEnv,Option.isSome_some,if_true];refine zTx (wpAny_alloc ?_);refine zTx (wpAny_layCells _ (fun name kind cells=>by cases hkc:kind == NameKind.cell <;> simp [hkc]) _ _ _ _ ?_);rw [show ({ s with heap:=s.heap.push { cls:=.type "dict", data:=.dict #[] } }:Shared).heap.objs.size = s.heap.objs.size + 1 from zUi ..];exact zTx (zTz (zTz hQ))
def zf (X:Cx) (zB:List (Addr × Obj)) (scope:Scope) (cl:List (Str × Addr)) (s:Shared) (H:Hp) (fp:List Addr):Cx where
 prog:=X.prog
 w:=X.w
 K:=X.K
 mg:=X.mg
 base:=X.base
 A:=X.A
 N:=X.N
 s₀:=s
 H₀:=H
 env:={ scope:=relabel scope X.env,locals:=s.heap.objs.size + 1,globals:=X.env.globals,cells:=cellsFrom (s.heap.objs.size + 1 + 1) scope.names cl,qual:=X.env.qual,func:=none,code:=X.env.code,frame:=X.env.frame,builtins:=X.env.builtins }
 outer:=X.stack
 stack:=X.stack
 ex:=fp
 fn:=fun x=>decide (scope.names.lookup x = some .cell)
 calm:=X.calm
 pn:=X.pn ++ zB
 xe:=fun _ _=>False
theorem zAj {scope:Scope} {env:Env} (x:Str):∀ {names:List (Str × NameKind)} {k:NameKind},
  (names.map fun (n,k)=>if (k == NameKind.free && env.scope.kind == .function && env.kindOf n == some .cell) then (n,NameKind.cell) else (n,k)).lookup x = some k ->
  names.lookup x = some k \/ (names.lookup x = some .free /\ k = .cell)
 | [],_,h=>by simp at h
 | (n,k') :: r,k,h=>by
  rw [zUL] at h;by_cases hc:(k' == NameKind.free && env.scope.kind == .function && env.kindOf n == some .cell) = true
  ·simp only [hc,if_true] at h;rw [zV7] at h ⊢;cases hb:x == n with
   | true=>
    rw [hb] at h;simp only [zUc,beq_iff_eq] at hc;exact .inr ⟨by rw [hc.1.1],(zU2 h).symm⟩
   | false=>rw [hb] at h; exact zAj (scope:=scope) x h
  ·simp only [hc,zU3,if_false] at h;rw [zV7] at h ⊢;cases hb:x == n with
   | true=>rw [hb] at h; exact .inl h
   | false=>rw [hb] at h; exact zAj (scope:=scope) x h
theorem zF9:∀ (names:List (Str × NameKind)) (n:Nat) (acc:List (Str × Addr)) (x:Str) (c:Addr),(x,c) ∈ cellsFrom n names acc -> (x,c) ∉ acc -> (x,NameKind.cell) ∈ names
 | [],_,_,_,_,h,h'=>absurd h h'
 | (name,kind) :: r,n,acc,x,c,h,h'=>by
  unfold cellsFrom at h;split at h
  ·rename_i hk;by_cases e:(x,c) = (name,n)
   ·cases e;rw [beq_iff_eq] at hk;subst hk;exact zUG
   ·exact zUF _ (zF9 r _ _ x c h fun z=>(zUE.mp z).elim e h')
  ·exact zUF _ (zF9 r _ _ x c h h')
structure CompScope (X:Cx) (scope:Scope):Prop where
 kind:scope.kind = .function
 names:∀ y ∈ scope.names,y.2 = .local -> scope.names.lookup y.1 = some .local
 cells:∀ y ∈ scope.names,y.2 = .cell -> scope.names.lookup y.1 = some .cell
 free:∀ y ∈ scope.names,y.2 = .free -> X.env.kindOf y.1 = some .cell \/ X.env.kindOf y.1 = some .free
section
variable {X:Cx} {zB:List (Addr × Obj)} {σ σc:St} {H:Hp} {s s4:Shared} {scope:Scope} {cl:List (Str × Addr)} {fp:List Addr}
theorem zI5 (S:CompScope X scope) (I:Inv X zB σ H s) (hf:∀ b ∈ fp,zCh X zB H b) (ho:∀ b:Nat,b ∈ fp -> b < s.heap.objs.size)
  (c1:∀ x c,cl.lookup x = some c -> X.env.cells.lookup x = some c) (c2:∀ y ∈ scope.names,y.2 = .free -> (cl.lookup y.1).isSome = true)
  (hl:σc.length = σ.length) (hσ:∀ (i:Nat) x v,X.N[i]? = some x -> σc[i]? = some (some v) -> (relabel scope X.env).names.lookup x ≠ none -> scope.names.lookup x = some .free /\ σ[i]? = some (some v))
  (lo:Obj) (hlo:∀ v,lo.data ≠ .cell v) (hfr:lo.isFreed = false)
  (h4:s4 = { s with heap:=pushCells ((s.heap.push lo).push { cls:=.type "dict", data:=.dict #[] }) scope.names }) :
  Inv (zf X zB scope cl s H fp) [(s.heap.objs.size,lo)] σc H s4:=by
 subst h4;have sz1:(s.heap.push lo).objs.size = s.heap.objs.size + 1:=zUi ..;have sz2:((s.heap.push lo).push { cls:=.type "dict", data:=.dict #[] }).objs.size = s.heap.objs.size + 1 + 1:=by rw [zUi,sz1]
 have hk:∀ b o,s.heap.get? b = some o -> (pushCells ((s.heap.push lo).push { cls:=.type "dict", data:=.dict #[] }) scope.names).get? b = some o:=fun b o e=>
  pushCells_keeps _ _ b o (zTy _ (zTy _ e))
 have ok:=cellsFrom_ok scope.names ((s.heap.push lo).push { cls:=.type "dict", data:=.dict #[] }) (s.heap.objs.size + 1 + 1) [] ⟨fun _ _ hm=>(nomatch hm),List.Pairwise.nil⟩ (by rw [sz2]; exact zT8 _);rw [sz2] at ok;have look:∀ x c,(cellsFrom (s.heap.objs.size + 1 + 1) scope.names cl).lookup x = some c -> ((cellsFrom (s.heap.objs.size + 1 + 1) scope.names []).lookup x = some c) \/ ((cellsFrom (s.heap.objs.size + 1 + 1) scope.names []).lookup x = none /\ X.env.cells.lookup x = some c):=fun x c e=>by
  rw [zAL,zBo] at e;cases q:(cellsFrom (s.heap.objs.size + 1 + 1) scope.names []).lookup x with
  | some d=>rw [q] at e; exact .inl e
  | none=>rw [q] at e; exact .inr ⟨rfl,c1 x c e⟩
 have old:∀ x (c:Nat),X.env.cells.lookup x = some c -> c < s.heap.objs.size:=fun x c e=>let ⟨_,q⟩:=I.cell x c e; q.lt;have new:∀ x (c:Nat),(cellsFrom (s.heap.objs.size + 1 + 1) scope.names []).lookup x = some c -> s.heap.objs.size + 1 + 1 <= c:=fun x c e=>(ok.empty x c (zU4 e)).2;have own:∀ x,scope.names.lookup x = some .cell -> ∃ c,(cellsFrom (s.heap.objs.size + 1 + 1) scope.names []).lookup x = some c:=fun x e=>zFN e;have cne:∀ x (c:Nat),(cellsFrom (s.heap.objs.size + 1 + 1) scope.names cl).lookup x = some c -> c < s.heap.objs.size \/ s.heap.objs.size + 1 + 1 <= c:=fun x c e=>by
  rcases look x c e with q | ⟨_,q⟩
  ·exact .inr (new x c q)
  ·exact .inl (old x c q)
 refine ⟨⟨I.ok.mod,S.kind,I.ok.glob,I.ok.blt,Nat.le_succ _,fun x y c h1 h2=>?_,fun x hx=>?_,fun x c hx h=>?_,I.ok.hd,I.ok.frames,.inl rfl,fun b hb=>⟨?_,fun x c e z=>?_⟩,I.bs,zUT I.ok.bsz I.sz,fun b o e hb=>?_,fun b hb z=>?_,I.stack,I.stkFree⟩,
  rfl,I.bare,Un.kept hk,⟨fun _=>none,?_,fun i x v h1 h2 h3=>?_⟩,fun x c e=>?_,I.hok.fresh (Nat.le_succ _),fun x c e=>?_,fun p hp=>?_,I.hok.kept hk,hl.trans I.len⟩
 ·rcases look x c h1 with a | ⟨_,a⟩ <;> rcases look y c h2 with b | ⟨_,b⟩
  ·exact name_of_addr ok.apart (zU4 a) (zU4 b)
  ·exact absurd (Nat.lt_of_le_of_lt (new x c a) (old y c b)) (by omega)
  ·exact absurd (Nat.lt_of_le_of_lt (new y c b) (old x c a)) (by omega)
  ·exact I.ok.inj x y c a b
 ·have hx':(relabel scope X.env).names.lookup x = some .cell \/ (relabel scope X.env).names.lookup x = some .free:=hx;have go:scope.names.lookup x = some .cell \/ scope.names.lookup x = some .free:=by
   rcases hx' with q | q
   ·rcases zAj (scope:=scope) x q with z | z
    ·exact .inl z
    ·exact .inr z.1
   ·rcases zAj (scope:=scope) x q with z | z
    ·exact .inr z
    ·exact .inr z.1
  show ∃ c,(cellsFrom (s.heap.objs.size + 1 + 1) scope.names cl).lookup x = some c;rw [zAL,zBo];rcases go with q | q
  ·obtain ⟨c,e⟩:=own x q;exact ⟨c,by rw [e]⟩
  ·cases e:(cellsFrom (s.heap.objs.size + 1 + 1) scope.names []).lookup x with
   | some d=>exact ⟨d,rfl⟩
   | none=>exact Option.isSome_iff_exists.mp (c2 (x,.free) (zU4 q) rfl)
 ·obtain ⟨d,e⟩:=own x (zUy hx);have h':(cellsFrom (s.heap.objs.size + 1 + 1) scope.names cl).lookup x = some c:=h;rw [zAL,zBo,e] at h';cases h';exact zUT (zUT (Nat.le_succ _) (Nat.le_succ _)) (new x _ e)
 ·exact zUN (zUr (ho b hb))
 ·rcases look x c e with q | ⟨_,q⟩
  ·have a:=new x c q;rw [z] at a;exact absurd (Nat.lt_of_le_of_lt a (ho b hb)) (by omega)
  ·exact (hf b hb).2.2.2.2.1 x c q z
 ·rcases (hf b hb).2.2.2.1 with z | z
  ·exact I.ok.noex b o e z
  ·exact absurd (zUR (zUD e) (zUT I.ok.bsz z)) (zUk _)
 ·rcases zUE.mp (I.stkSub b z) with q | q
  ·exact (hf b hb).2.1 q
  ·exact (hf b hb).2.2.1 q
 ·have q:((s.heap.push lo).push { cls:=.type "dict", data:=.dict #[] }).Ns (s.heap.push lo).objs.size (fun _=>none):=Heap.Ns.new ..;rw [sz1] at q;exact q.keeps (pushCells_keeps _ _)
 ·have h3':(relabel scope X.env).names.lookup x ≠ none:=by
   rcases h3 with z | z | z <;> (intro q; have z':(relabel scope X.env).names.lookup x = _:=z; rw [q] at z'; cases z')
  obtain ⟨fr,hv⟩:=hσ i x v h1 h2 h3';obtain ⟨m,hn,hlk⟩:=I.loc;have kx:=S.free (x,.free) (zU4 fr) rfl;obtain ⟨u,rv,lk⟩:=hlk i x v h1 hv (by rcases kx with z | z; exact .inr (.inl z); exact .inr (.inr z));refine ⟨u,rv,?_⟩;rcases lk with ⟨z,_⟩ | ⟨_,c,e,ic⟩
  ·rcases kx with k | k <;> (rw [k] at z; cases z)
  ·have kind:(relabel scope X.env).names.lookup x = some .cell \/ (relabel scope X.env).names.lookup x = some .free:=by
    cases q:(relabel scope X.env).names.lookup x with
    | none=>exact absurd q h3'
    | some k=>
     rcases zAj (scope:=scope) x q with z | z
     ·rw [fr] at z; cases z; exact .inr rfl
     ·rw [z.2]; exact .inl rfl
   refine .inr ⟨kind,c,?_,ic.keeps hk⟩;show (cellsFrom (s.heap.objs.size + 1 + 1) scope.names cl).lookup x = some c;rw [zAL,zBo];obtain ⟨d,hd⟩:=Option.isSome_iff_exists.mp (c2 (x,.free) (zU4 fr) rfl);have:=c1 x d hd;rw [e] at this; cases this;have nn:(cellsFrom (s.heap.objs.size + 1 + 1) scope.names []).lookup x = none:=by
    cases q:(cellsFrom (s.heap.objs.size + 1 + 1) scope.names []).lookup x with
    | none=>rfl
    | some d'=>
     have z:=S.cells (x,.cell) (zF9 scope.names _ [] x d' (zU4 q) fun z=>nomatch z) rfl;rw [fr] at z; cases z
   rw [nn]; exact hd
 ·rcases look x c e with q | ⟨_,q⟩
  ·exact ⟨none,(ok.empty x c (zU4 q)).1⟩
  ·obtain ⟨v,z⟩:=I.cell x c q;exact ⟨v,z.keeps hk⟩
 ·rcases look x c e with q | ⟨_,q⟩
  ·exact I.hok.fresh (by have:=new x c q; omega)
  ·exact I.freeC x c q
 ·have hp':p ∈ X.pn ++ zB \/ p = (s.heap.objs.size,lo):=by
   rcases zUS.mp hp with z | z
   ·exact .inl z
   ·exact .inr (by simpa using z)
  rcases hp' with z | z
  ·obtain ⟨e,n,ne,nf,d⟩:=I.pin p z;have lt:(p.1:Nat) < s.heap.objs.size:=zUD e;refine ⟨hk _ _ e,n,?_,fun q=>?_,d⟩
   ·exact zUN (zUr lt)
   ·rcases zUE.mp (I.stkSub _ q) with r | r
    ·exact ne r
    ·exact nf r
  ·subst z;refine ⟨pushCells_keeps _ _ _ _ (zTy _ (zUC _ hfr)),I.hok.fresh (zT8 _),?_,fun q=>?_,hlo⟩
   ·show s.heap.objs.size ≠ s.heap.objs.size + 1;omega
   ·rcases zUE.mp (I.stkSub _ q) with r | r
    ·exact absurd I.lt (by rw [<- r]; exact zUk _)
    ·exact I.nofs (zT8 _) r
end
def clr (own:List Nat) (σ:St):St:=own.foldl (fun σ i=>σ.set i none) σ
theorem zDR:∀ (own:List Nat) (σ:St),(clr own σ).length = σ.length
 | [],_=>rfl
 | i :: r,σ=>by
  show (clr r (σ.set i none)).length = _;rw [zDR r,zWL]
theorem zFG:∀ (own:List Nat) (σ:St) (j:Nat) (v:V),(clr own σ)[j]? = some (some v) -> σ[j]? = some (some v) /\ j ∉ own
 | [],_,_,_,h=>⟨h,fun z=>nomatch z⟩
 | i :: r,σ,j,v,h=>by
  have h':(clr r (σ.set i none))[j]? = some (some v):=h;obtain ⟨a,b⟩:=zFG r _ j v h';rw [zVb] at a;split at a
  ·split at a <;> cases a
  ·rename_i hne;exact ⟨a,fun z=>(zUE.mp z).elim (fun e=>hne e.symm) b⟩
def Ext (a b:St):Prop:=b.length = a.length /\ ∀ (i:Nat) v,a[i]? = some (some v) -> b[i]? = some (some v)
theorem Ext.refl (a:St):Ext a a:=⟨rfl,fun _ _ h=>h⟩
theorem Ext.set {own:List Nat} {σ a:St} {i:Nat} {v:V} (e:Ext (clr own σ) a) (h:i ∈ own):Ext (clr own σ) (a.set i (some v)):=by
 refine ⟨by rw [zWL]; exact e.1,fun j u q=>?_⟩;rw [zVb];split
 ·rename_i z;exact absurd (z ▸ h) (zFG own σ j u q).2
 ·exact e.2 j u q
def zMj (X:Cx) (ifs:List Expr) (t:TT):Prop :=
 ∀ (zB:List (Addr × Obj)) (s:Shared) (σ:St) (H:Hp) (Q:Bool -> Hp -> Prop),Inv X zB σ H s -> t σ H Q ->
  wpAny (model X.prog X.w) X.A (forIn ifs true fun c r=>if r = true then do let ok <- isTrue c X.env (eval c X.env); pure (ForInStep.yield ok) else pure (ForInStep.yield r)) (TP X zB σ Q) X.xe s
def zTd:TT:=fun _ H Q=>Q true H
theorem zNT {X:Cx}:zMj X [] zTd:=fun _ _ _ H _ I h=>wpAny_tests_nil ⟨H,I,h⟩
theorem zNX {X:Cx} {c:Expr} {t:TT} (h:PT X c t):zMj X [c] t:=fun zB s σ H Q I hq=>wpAny_tests_one (h zB s σ H Q I hq)
section
variable {prog:Program} {w:World} {A:Around} {E:Value -> Shared -> Prop} {R:Result -> Shared -> Prop} {s:Shared}
theorem zHx {elt target iter:Expr} {ifs:List Expr} {scope:Scope} {pos:Pos} {it acc:Value} {env:Env} (I:Nat -> Shared -> Prop)
  (turn:∀ n s,I n s -> wpAny (model prog w) A (pyNext it) (fun r s₁=>match r with
   | none=>R (.ok .next) s₁
   | some v=>wpAny (model prog w) A (letOwnedTupleGo target it v) (fun _ s₁'=>wpAny (model prog w) A (assign target env v) (fun _ s₂=>
     wpAny (model prog w) A (forIn ifs true fun c r=>if r = true then do let ok <- isTrue c env (eval c env); pure (ForInStep.yield ok) else pure (ForInStep.yield r)) (fun ok s₃=>
      if ok = true then wpAny (model prog w) A (eval elt env) (fun x s₄=>
       wpAny (model prog w) A (call (.builtin "list.append") [acc,x]) (fun _ s₅=>∃ m,m < n /\ I m s₅) (fun _ _=>False) s₄) (fun _ _=>False) s₃
      else ∃ m,m < n /\ I m s₃) (fun _ _=>False) s₂) (fun _ _=>False) s₁') (fun _ _=>False) s₁) (fun _ _=>False) s)
  (n:Nat) (h:I n s) :
  codeAny (model prog w) A (.compLoop (.ListComp elt [⟨target,iter,ifs,0⟩] scope pos) 0 it acc env) R s:=by
 refine codeAny_loop rfl I (fun n s hI=>?_) n h;show wpAny _ A ((compTurn (.ListComp elt [⟨target,iter,ifs,0⟩] scope pos) 0 it acc env).onRaise (fun x=>do noteFrame x env; theTreesLotGoes x)) _ _ s;refine wpAny_noted ?_;rw [compTurn_list];refine zTx (wpAny_standAt (zTx (zUY (turn n s hI) (fun r s₁ h₁=>?_) fun _ _ h'=>h'.elim)));cases r with
 | none=>exact zTz h₁
 | some v=>
  refine zTx (zUY h₁ (fun _ s₁' h₁'=>?_) fun _ _ h'=>h'.elim);refine zTx (zUY h₁' (fun _ s₂ h₂=>zTx (zUY h₂ (fun ok s₃ h₃=>?_) fun _ _ h'=>h'.elim)) fun _ _ h'=>h'.elim);cases ok with
  | false=>exact zTz ⟨rfl,h₃⟩
  | true=>
   exact zTx (zTx (zUY h₃ (fun x s₄ h₄=>zTx (zUY h₄ (fun _ s₅ h₅=>zTz (zTz ⟨rfl,h₅⟩)) fun _ _ h'=>h'.elim)) fun _ _ h'=>h'.elim))
end
def zOC (own:List Nat) (wi:TI) (g:TG) (tc:TT) (te:TE):TE:=fun σ H Q=>wi σ H fun J H1=>∃ W:Nat -> Nat -> List V -> Hp -> Prop,(∃ m,W 0 m [] H1) /\ ∀ i m ys H,W i m ys H ->
 (J.stop i H /\ ys.length <= sizeLine /\ ∀ D,H D = none -> Q (.ref D) (upd H D (.lst ys))) \/
 (J.go i H /\ ∀ x H',J.yld i H x H' -> g x (clr own σ) H' fun σ2 H2=>Ext (clr own σ) σ2 /\ tc σ2 H2 fun b H3=>
  if b = true then te σ2 H3 fun v H4=>ys.length < sizeLine /\ ∃ m',m' < m /\ W (i + 1) m' (ys ++ [v]) H4 else ∃ m',m' < m /\ W (i + 1) m' ys H3)
abbrev zAl (its:List Value) (n:Nat):Obj:={ cls:=.type "list", data:=.seq its.toArray n }
section
variable {X:Cx} {zB:List (Addr × Obj)} {σ:St} {H:Hp} {s:Shared}
theorem Inv.repin {pl:List (Addr × Obj)} {D:Addr} {o o':Obj} {h':Heap} (I:Inv X (pl ++ [(D,o)]) σ H s) (hpl:∀ p ∈ X.pn ++ pl,p.1 ≠ D) (hs:Heap.SameBut D s.heap h') (hD:X.s₀.heap.objs.size <= D) (hc:∀ x c,X.env.cells.lookup x = some c -> c ≠ D)
  (e:h'.get? D = some o') (hn:∀ v,o'.data ≠ .cell v):Inv X (pl ++ [(D,o')]) σ H { s with heap:=h' }:=by
 obtain ⟨e0,n0,ne0,nf0,d0⟩:=I.pin (D,o) (by simp);have I1:Inv X pl σ H s:=I.pins_of fun p hp=>I.pin p (by simp [hp]);have I2:Inv X pl σ H { s with heap:=h' }:=I1.turned (t':=s.toks) (it:=D) (fun b u hb q=>hs.extBut b u hb q) n0 ne0 (.inr hD) hc hpl;exact I2.pins_of fun p hp=>by
  rcases zUS.mp hp with z | z
  ·exact I2.pin p (zUM _ z)
  ·have:p = (D,o'):=by simpa using z
   subst this;exact ⟨e,n0,ne0,nf0,hn⟩
end
section
variable {X:Cx} {zB:List (Addr × Obj)} {σ:St} {H:Hp} {s:Shared} {scope:Scope} {cl:List (Str × Addr)} {fp:List Addr} {it:Addr} {tn:Nat -> Heap -> Prop} {J:It} {tg elt iter:Expr} {ifs:List Expr} {pos:Pos}
 {own:List Nat} {g:TG} {tc:TT} {te:TE} {E:Value -> Shared -> Prop}
structure CompIn (X:Cx) (scope:Scope) (own:List Nat):Prop where
 sc:CompScope X scope
 nm:∀ (i:Nat) x,X.N[i]? = some x -> i ∈ own \/ scope.names.lookup x = none \/ scope.names.lookup x = some .free
theorem zEG {scope:Scope} {env:Env} (x:Str) (h:scope.names.lookup x = none):(relabel scope env).names.lookup x = none:=by
 cases q:(relabel scope env).names.lookup x with
 | none=>rfl
 | some k=>
  rcases zAj (scope:=scope) x q with z | z
  ·rw [h] at z; cases z
  ·rw [h] at z; cases z.1
theorem zFt (C:CompIn X scope own) (hcalm:X.calm = true) (I:Inv X zB σ H s) (T:Turn X.prog X.w X.K tg J fp it tn) (st:tn 0 s.heap) (hf:∀ b ∈ fp,zCh X zB H b)
  (c1:∀ x c,cl.lookup x = some c -> X.env.cells.lookup x = some c) (c2:∀ y ∈ scope.names,y.2 = .free -> (cl.lookup y.1).isSome = true)
  (hg:PG (zf X zB scope cl s H fp) tg g) (hi:zMj (zf X zB scope cl s H fp) ifs tc) (he:PE (zf X zB scope cl s H fp) elt te)
  {RR:Value -> Addr -> Result -> Shared -> Prop} {QQ:List V -> Hp -> Prop} {W:Nat -> Nat -> List V -> Hp -> Prop} {m0:Nat} (w0:W 0 m0 [] H)
  (turn:∀ i m ys H,W i m ys H -> (J.stop i H /\ ys.length <= sizeLine /\ QQ ys H) \/
   (J.go i H /\ ∀ x H',J.yld i H x H' -> g x (clr own σ) H' fun σ2 H2=>Ext (clr own σ) σ2 /\ tc σ2 H2 fun b H3=>
    if b = true then te σ2 H3 fun v H4=>ys.length < sizeLine /\ ∃ m',m' < m /\ W (i + 1) m' (ys ++ [v]) H4 else ∃ m',m' < m /\ W (i + 1) m' ys H3))
  (fin:∀ σc H' s' its n ys,Inv (zf X zB scope cl s H fp) [(s.heap.objs.size,zAl its n)] σc H' s' -> zU ys its -> ys.length <= sizeLine -> QQ ys H' -> RR (.ref s.heap.objs.size) (s.heap.objs.size + 1) (.ok .next) s') :
  wpAny (model X.prog X.w) X.A (newList []) (fun acc s₃=>wpAny (model X.prog X.w) X.A (newFunctionEnv scope X.env.globals cl [] X.env.qual none .none (some X.env)) (fun cenv s₄=>
   codeAny (model X.prog X.w) X.A (.compStart (.ListComp elt [⟨tg,iter,ifs,0⟩] scope pos) 0 (.ref it) acc { cenv with scope:=relabel scope X.env }) (RR acc cenv.locals) s₄) E s₃) E s:=by
 have ob:∀ b:Nat,b ∈ fp -> b < s.heap.objs.size:=fun b hb=>let ⟨_,e,_⟩:=T.obj 0 _ st b hb; zUD e;refine zUV (zEu ?_);have sz1:(s.heap.push (zAl [] 0)).objs.size = s.heap.objs.size + 1:=zUi ..;have I4:=zI5 (X:=X) (zB:=zB) (σ:=σ) (σc:=clr own σ) (H:=H) (s:=s) (scope:=scope) (cl:=cl) (fp:=fp) C.sc I hf ob c1 c2 (zDR own σ) (fun i x v h1 h2 h3=>by
  obtain ⟨a,b⟩:=zFG own σ i v h2;rcases C.nm i x h1 with z | z | z
  ·exact absurd z b
  ·exact absurd (zEG x z) h3
  ·exact ⟨z,a⟩) (zAl [] 0) (by intro v z; cases z) rfl rfl
 have st4:tn 0 (pushCells ((s.heap.push (zAl [] 0)).push { cls:=.type "dict", data:=.dict #[] }) scope.names):=T.keep 0 _ _ st fun b _ o e=>pushCells_keeps _ _ b o (zTy _ (zTy _ e));dsimp only;unfold newEnv;dsimp only;rw [sz1];have hDfp:s.heap.objs.size ∉ fp:=fun z=>zUk _ (ob _ z);have hcD:∀ x c,(zf X zB scope cl s H fp).env.cells.lookup x = some c -> c ≠ s.heap.objs.size:=fun x c e z=>by
  obtain ⟨v,o,ho,hd⟩:=I4.cell x c e;obtain ⟨q,_⟩:=I4.pin (s.heap.objs.size,zAl [] 0) (by simp);rw [z,q] at ho;cases ho; cases hd
 have fpk:∀ {H':Hp} {pl:List (Addr × Obj)},(∀ b ∈ fp,H' b = none) -> (∀ p ∈ pl,p.1 = s.heap.objs.size) -> ∀ b ∈ fp,zCh (zf X zB scope cl s H fp) pl H' b:=fun {H' pl} hn hp b hb=>
  ⟨hn b hb,(I4.ok.exf b hb).1,I4.ok.exfs b hb,.inl hb,(I4.ok.exf b hb).2,fun p hq=>by
   rcases zUS.mp hq with z | z
   ·exact (hf b hb).2.2.2.2.2 p z
   ·intro e;have e2:=hp p z;rw [e] at e2;exact hDfp (e2 ▸ hb)⟩
 have loop:codeAny (model X.prog X.w) X.A (.compLoop (.ListComp elt [⟨tg,iter,ifs,0⟩] scope pos) 0 (.ref it) (.ref s.heap.objs.size) (zf X zB scope cl s H fp).env) (RR (.ref s.heap.objs.size) (s.heap.objs.size + 1))
   { s with heap:=pushCells ((s.heap.push (zAl [] 0)).push { cls:=.type "dict", data:=.dict #[] }) scope.names }:=by
  refine zHx (fun n s'=>∃ i H' ys its k,Inv (zf X zB scope cl s H fp) [(s.heap.objs.size,zAl its k)] (clr own σ) H' s' /\ zU ys its /\ tn i s'.heap /\ (∀ b ∈ fp,H' b = none) /\ W i n ys H') ?_ m0
   ⟨0,H,[],[],0,I4,.nil,st4,fun b hb=>(hf b hb).1,w0⟩
  rintro n s5 ⟨i,H5,ys,its,k,I5,r5,st5,f5,w5⟩;have pinD:∀ p ∈ [(s.heap.objs.size,zAl its k)],p.1 = s.heap.objs.size:=fun p hp=>by
   have:p = (s.heap.objs.size,zAl its k):=by simpa using hp
   rw [this]
  rcases turn i n ys H5 w5 with ⟨stop,hz,qq⟩ | ⟨go,step⟩
  ·refine thn (T.done (zf X zB scope cl s H fp) rfl rfl rfl hcalm i _ s5 _ H5 _ I5 (fpk f5 pinD) st5 stop) fun r s6 ⟨hr,I6⟩=>?_;subst hr;exact fin _ H5 s6 its k ys I6 r5 hz qq
  ·refine thn (T.item (zf X zB scope cl s H fp) rfl rfl rfl hcalm i _ s5 _ H5 _ I5 (fpk f5 pinD) st5 go) fun r s6 ⟨u,hr,h6⟩=>?_;subst hr;refine thn h6 fun _ s7 ⟨x,H7,I7,r7,y7,st7,f7⟩=>?_;have I7':=I7.pinned (fpk f7 pinD) (T.obj _ _ st7);refine thn (hg _ s7 _ H7 x u _ I7' r7 (step x H7 y7)) fun _ s8 ⟨σ8,H8,I8,x8,q8⟩=>?_;refine thn (hi _ s8 σ8 H8 _ I8 q8) fun ok s9 ⟨H9,I9,q9⟩=>?_;have back:∀ {s':Shared} {Hx:Hp},Inv (zf X zB scope cl s H fp) ([(s.heap.objs.size,zAl its k)] ++ zEL fp s7.heap) σ8 Hx s' -> tn (i + 1) s'.heap /\ ∀ b ∈ fp,Hx b = none:=fun {s' Hx} Ix=>
    ⟨T.keep _ _ _ st7 fun b hb o e=>(Ix.pin (b,o) (zUM _ (zUM _ (zBD hb e)))).1,fun b hb=>by
     obtain ⟨o,e,d⟩:=T.obj _ _ st7 b hb;exact (Ix.pin (b,o) (zUM _ (zUM _ (zBD hb e)))).2.1⟩
   cases ok with
   | false=>
    obtain ⟨m',hm,w'⟩:=q9;obtain ⟨b1,b2⟩:=back I9;exact ⟨m',hm,i + 1,H9,ys,its,k,(I9.weak (by rw [x8.1]) x8.2).unpinned,r5,b1,b2,w'⟩
   | true=>
    refine thn (he _ s9 σ8 H9 _ I9 q9) fun v s10 ⟨y,H10,I10,r10,hlt,m',hm,w'⟩=>?_;obtain ⟨b1,b2⟩:=back I10;have J10:=(I10.weak (by rw [x8.1]) x8.2).unpinned;obtain ⟨e10,n10,ne10,nf10,d10⟩:=J10.pin (s.heap.objs.size,zAl its k) (by simp);have hlen:its.toArray.size <= sizeLine:=by
     have:=r5.length;rw [zUA,<- this];exact zWy hlt
    refine wpAny_list_append_plain (hsz:=hlen) (show s10.heap.PlainList s.heap.objs.size its.toArray from ⟨k,e10⟩) fun h' hl' hs'=>?_;obtain ⟨k',e'⟩:=hl';have e'':h'.get? s.heap.objs.size = some (zAl (its ++ [v]) k'):=by rw [e']; simp [zAl]
    refine ⟨m',hm,i + 1,H10,ys ++ [y],its ++ [v],k',?_,r5.append (.cons r10 .nil),T.keep _ _ _ b1 fun b hb o e=>hs'.extBut b o (fun z=>hDfp (z ▸ hb)) e,b2,w'⟩;refine Inv.repin (pl:=[]) J10 (fun p hp=>?_) hs' (zT8 _) hcD e'' (by intro v z; cases z);rw [zUm] at hp;have hp':p ∈ X.pn ++ zB:=hp;exact zUN (zUD (I.pin p hp').1)
 exact codeAny_compStart_list loop (T.self _ 0 _ _ _ st4 loop)
end
section
variable {X:Cx} {zB:List (Addr × Obj)} {σ:St} {H:Hp} {s:Shared} {scope:Scope} {cl:List (Str × Addr)} {fp:List Addr}
theorem zIF {σc:St} {H':Hp} {s':Shared} {h':Heap} {its:List Value} {n:Nat} {ys:List V} (I:Inv X zB σ H s) (hf:∀ b ∈ fp,zCh X zB H b)
  (Ic:Inv (zf X zB scope cl s H fp) [(s.heap.objs.size,zAl its n)] σc H' s') (rv:zU ys its) (hz:ys.length <= sizeLine) (hs:Heap.SameBut (s.heap.objs.size + 1) s'.heap h') :
  Inv X zB σ (upd H' s.heap.objs.size (.lst ys)) { s' with heap:=h' } /\ H' s.heap.objs.size = none:=by
 obtain ⟨eD,nD,_⟩:=Ic.pin (s.heap.objs.size,zAl its n) (by simp);have nC:H' (s.heap.objs.size + 1) = none:=Ic.free;have eD':h'.get? s.heap.objs.size = some (zAl its n):=hs.extBut _ _ (zUN (zUz _)) eD;have lt1:∀ {b:Addr} {o:Obj},s.heap.get? b = some o -> b ≠ s.heap.objs.size + 1 /\ b ≠ s.heap.objs.size:=fun e=>⟨zUN (zUr (zUD e)),zUN (zUD e)⟩;have tr:∀ b u,H' b = some u -> b ≠ s.heap.objs.size + 1 /\ b ≠ s.heap.objs.size:=fun b u e=>⟨fun z=>(by rw [z,nC] at e; cases e),fun z=>(by rw [z,nD] at e; cases e)⟩;refine ⟨?_,nD⟩;have B:=Ic.base;have un:Un (frs X.stack) fp H (upd H' s.heap.objs.size (.lst ys)) s.heap h':=by
  refine ⟨fun b o e q hb hx=>hs.extBut b o (lt1 e).1 (B.keep b o e q hb hx),fun b o e q hb hx=>?_,fun b o e q hx=>?_,fun b o e hx=>?_,fun b xs e=>?_,fun b o xs e=>?_,fun b ps e=>?_⟩
  ·obtain ⟨sl,e1⟩:=B.slot b o e q hb hx;exact ⟨sl,hs.extBut b _ (lt1 e).1 e1⟩
  ·rw [zQ (lt1 e).2]; exact B.free b o e q hx
  ·obtain ⟨o',e1⟩:=B.there b o e hx;exact ⟨o',hs.extBut b _ (lt1 e).1 e1⟩
  ·have q:=B.tups b xs e;rw [zQ (tr b _ q).2]; exact q
  ·have q:=B.frzs b o xs e;rw [zQ (tr b _ q).2]; exact q
  ·obtain ⟨more,q⟩:=B.tbls b ps e;exact ⟨more,by rw [zQ (tr b _ q).2]; exact q⟩
 have hok:HOk X.prog X.w (upd H' s.heap.objs.size (.lst ys)) h':=fun b u e=>by
  by_cases hb:b = s.heap.objs.size
  ·subst hb;rw [zg] at e; cases e;exact ⟨hz,its,n,rv,eD'⟩
  ·rw [zQ hb] at e;refine (Ic.hok b u e).stay (fun c v hc q=>hs.extBut c v ?_ q) (fun c q=>by rw [zQ (tr c _ q).2]; exact q) fun c xs q=>by rw [zQ (tr c _ q).2]; exact q
   rcases hc with z | z
   ·rw [z]; exact (tr b u e).1
   ·exact (tr c _ z).1
 exact I.call' (s':={ s' with heap:=h' }) (ch:=fp) Ic.os un hok Ic.bare fun b hb=>⟨(hf b hb).2.2.2.1,(hf b hb).2.1,(hf b hb).2.2.2.2.1,(hf b hb).2.2.2.2.2⟩
end
section
variable {X:Cx} {scope:Scope} {tg elt iter:Expr} {ifs:List Expr} {pos:Pos} {own:List Nat} {wi:TI} {g:TG} {tc:TT} {te:TE}
structure CompParts (X:Cx) (scope:Scope) (tg:Expr) (ifs:List Expr) (elt:Expr) (g:TG) (tc:TT) (te:TE):Prop where
 g:∀ zB cl s H fp,PG (zf X zB scope cl s H fp) tg g
 c:∀ zB cl s H fp,zMj (zf X zB scope cl s H fp) ifs tc
 e:∀ zB cl s H fp,PE (zf X zB scope cl s H fp) elt te
theorem CompScope.closure {zB:List (Addr × Obj)} {σ:St} {H:Hp} {s:Shared} (S:CompScope X scope) (I:Inv X zB σ H s) :
  ∃ cl,closureFor scope X.env = pure cl /\ (∀ x c,cl.lookup x = some c -> X.env.cells.lookup x = some c) /\ ∀ y ∈ scope.names,y.2 = .free -> (cl.lookup y.1).isSome = true :=
 zDF fun y hy hk=>I.ok.has y.1 (S.free y hy hk)
theorem zP8 (C:CompIn X scope own) (hcalm:X.calm = true) (hi:PI X tg iter wi) (p:CompParts X scope tg ifs elt g tc te) (hs:∀ x,foldedSetIterable iter X.env x = pure x:=by intro _; rfl) :
  PE X (.ListComp elt [⟨tg,iter,ifs,0⟩] scope pos) (zOC own wi g tc te):=by
 intro zB s σ H Q I h;obtain ⟨cl,hcl,c1,c2⟩:=C.sc.closure I;rw [eval_ListComp];refine wpAny_comprehension_free (use:=none) rfl hs hcl C.sc.kind C.sc.names (thn (hi zB s σ H _ I h) fun v s1 h1=>thn h1 fun itv s2 h2=>?_);obtain ⟨it,fp,tn,J,H2,e,I2,T,st2,f2,W,⟨m0,w0⟩,turn⟩:=h2;subst e;refine zFt C hcalm I2 T st2 f2 c1 c2 (p.g _ _ _ _ _) (p.c _ _ _ _ _) (p.e _ _ _ _ _) (RR:=fun acc C r s'=>compPost (model X.prog X.w) X.A X.xe none (EP X zB σ Q) acc C r s') (QQ:=fun ys H=>∀ D,H D = none -> Q (.ref D) (upd H D (.lst ys))) w0 turn ?_;intro σc H' s' its n ys Ic rv hz qq;obtain ⟨m,hn,_⟩:=Ic.loc;refine ⟨m,hn,fun h' hs'=>?_⟩;obtain ⟨J',nD⟩:=zIF I2 f2 Ic rv hz hs';exact ⟨.ref s2.heap.objs.size,_,J',rfl,qq _ nD⟩
theorem zKa {i:Nat} {x:Str} {pos' pos'':Pos} (hN:X.N.Nodup) (hi':X.N[i]? = some x) (hx:Loc X.env.scope x) (hfn:X.fn x = true \/ X.env.scope.names.lookup x = some .local)
  (C:CompIn X scope own) (hcalm:X.calm = true) (hi:PI X tg iter wi) (p:CompParts X scope tg ifs elt g tc te)
  (hsw:swapsWith (.ListComp elt [⟨tg,iter,ifs,0⟩] scope pos) (some (.Name x pos')) pos''.line X.env = pure true) (hs:∀ x,foldedSetIterable iter X.env x = pure x:=by intro _; rfl) :
  PS X (.Assign [.Name x pos'] (.ListComp elt [⟨tg,iter,ifs,0⟩] scope pos) pos'') (zOo (zOC own wi g tc te) (zDN i)):=by
 intro zB s σ H D I h;obtain ⟨cl,hcl,c1,c2⟩:=C.sc.closure I;rw [exec_Assign_Name_used _ _ _ _ hsw];refine zTx (wpAny_standAt (zTx ?_));show wpAny _ X.A (do let _ <- comprehension (.ListComp elt [⟨tg,iter,ifs,0⟩] scope pos) scope X.env _ (newList []) false (eval iter X.env) (some (assign (.Name x pos') X.env))) _ _ s
 refine zTx (zUY (wpAny_comprehension_free (use:=some (assign (.Name x pos') X.env)) (Q:=fun _ s'=>SP X zB D .next s') rfl hs hcl C.sc.kind C.sc.names
  (thn (hi zB s σ H _ I h) fun v s1 h1=>thn h1 fun itv s2 h2=>?_)) (fun _ s' hq=>zTz (zTz hq)) fun _ _ e=>e)
 obtain ⟨it,fp,tn,J,H2,e,I2,T,st2,f2,W,⟨m0,w0⟩,turn⟩:=h2;subst e
 refine zFt C hcalm I2 T st2 f2 c1 c2 (p.g _ _ _ _ _) (p.c _ _ _ _ _) (p.e _ _ _ _ _) (RR:=fun acc C r s'=>compPost (model X.prog X.w) X.A X.xe (some (assign (.Name x pos') X.env)) (fun _ s'=>SP X zB D .next s') acc C r s')
  (QQ:=fun ys H=>∀ E,H E = none -> zDN i (.ref E) σ (upd H E (.lst ys)) D.nx) w0 turn ?_
 intro σc H' s' its n ys Ic rv hz qq;obtain ⟨m,hn,_⟩:=Ic.loc;obtain ⟨J',nD⟩:=zIF (h':=s'.heap) I2 f2 Ic rv hz (.refl ..);obtain ⟨oC,es,ep,hoC,hdC,r1,r2⟩:=id hn;have nC:upd H' s2.heap.objs.size (.lst ys) (s2.heap.objs.size + 1) = none:=by rw [zQ (zVX (zUz _))]; exact Ic.free
 have K':Inv X (zB ++ [(s2.heap.objs.size + 1,oC)]) σ (upd H' s2.heap.objs.size (.lst ys)) s':=J'.pins_of fun q hq=>by
  rcases zUS.mp hq with z | z
  ·exact J'.pin q (zUM _ z)
  ·have e:q = (s2.heap.objs.size + 1,oC):=by simpa using z
   subst e;refine ⟨hoC,nC,zVX (zUr I2.lt),I2.nofs (Nat.le_succ _),fun v z=>?_⟩;have z':oC.data = .cell v:=z;rw [hdC] at z'; cases z'
 show wpAny _ X.A (assign (.Name x pos') X.env (.ref s2.heap.objs.size)) _ _ _;refine thn (zLA hN hi' hx hfn _ s' σ _ (.ref s2.heap.objs.size) (.ref s2.heap.objs.size) _ K' rfl (qq _ nD)) fun _ s'' ⟨σ'',H'',I'',q''⟩=>?_;obtain ⟨eC,_⟩:=I''.pin (s2.heap.objs.size + 1,oC) (by simp);refine ⟨m,⟨oC,es,ep,eC,hdC,r1,r2⟩,fun h' hs'=>⟨σ'',H'',?_,q''⟩⟩;have I3:Inv X zB σ'' H'' s'':=I''.unpinned;obtain ⟨_,nC'',neC,_,_⟩:=I''.pin (s2.heap.objs.size + 1,oC) (by simp);refine I3.turned (t':=s''.toks) (it:=s2.heap.objs.size + 1) (fun b o hb e=>hs'.extBut b o hb e) nC'' neC (.inr (zUT I2.sz (Nat.le_succ _))) (fun x c e z=>?_) (fun q hq z=>?_)
 ·obtain ⟨v,o,ho,hd⟩:=I3.cell x c e;rw [z,eC] at ho; cases ho;rw [hdC] at hd; cases hd
 ·obtain ⟨e,_⟩:=I2.pin q hq;exact zUN (zUr (zUD e)) z
end
end L2
namespace L3
open PySem PySem.Spec PyProof.Rows L2
abbrev Sv:=List (Option V)
def zCv (H:Hp) (v:Value):Prop:=∃ a oc vs q t,v = .ref a /\ H a = some (.frz oc (.ext fun _=>True)) /\ oc.data = .fields vs /\ vs[1]? = some (.str q t)
structure Lm where
 f:Addr
 c:Value
 us:List V
set_option genInjectivity true in
inductive D where
 | non | bl (b:Bool) | int (i:Int) | str (x:Str) | tup (xs:List D) | ref (n:Nat) | fn (l:Lm) (ds:List D)
set_option genInjectivity true in
inductive MO where
 | lst (xs:List D) | fro (xs:List D) | dict (kvs:List (D × D)) | dicT (kvs:List (D × D)) | set (xs:List D) | froT (kvs:List (D × D)) | froK (kvs:List (D × D))
mutual
def Rep (L:List Addr) (H:Hp):D -> V -> Prop
 | .non,v=>v = .non
 | .bl b,v=>v = .bl b
 | .int i,v=>v = .int i
 | .str x,v=>v = .str x
 | .tup ds,v=>∃ a vs,v = .ref a /\ H a = some (.tup vs) /\ zH L H ds vs
 | .ref n,v=>∃ a,v = .ref a /\ L[n]? = some a
 | .fn l ds,v=>v = .ref l.f /\ zCv H l.c /\ zH L H ds l.us
def zH (L:List Addr) (H:Hp):List D -> List V -> Prop
 | [],vs=>vs = []
 | d :: ds,vs=>∃ v r,vs = v :: r /\ Rep L H d v /\ zH L H ds r
end
theorem zH.length {L:List Addr} {H:Hp}:∀ {ds:List D} {vs:List V},zH L H ds vs -> vs.length = ds.length
 | [],_,h=>by unfold zH at h; subst h; rfl
 | d :: ds,_,h=>by
  unfold zH at h;obtain ⟨v,r,rfl,_,h2⟩:=h;simp [zH.length h2]
theorem zH.nil {L:List Addr} {H:Hp}:zH L H [] []:=by unfold zH; rfl
theorem zH.cons {L:List Addr} {H:Hp} {d:D} {ds:List D} {v:V} {vs:List V} (h:Rep L H d v) (t:zH L H ds vs):zH L H (d :: ds) (v :: vs):=by
 unfold zH; exact ⟨v,vs,rfl,h,t⟩
theorem zH.get {L:List Addr} {H:Hp}:∀ {ds:List D} {vs:List V} {i:Nat} {d:D},zH L H ds vs -> ds[i]? = some d -> ∃ v,vs[i]? = some v /\ Rep L H d v
 | [],_,_,_,_,e=>by simp at e
 | d :: ds,_,0,d',h,e=>by
  unfold zH at h;obtain ⟨v,r,rfl,h1,h2⟩:=h;simp at e; subst e;exact ⟨v,rfl,h1⟩
 | d :: ds,_,i + 1,d',h,e=>by
  unfold zH at h;obtain ⟨v,r,rfl,h1,h2⟩:=h;obtain ⟨u,e1,e2⟩:=zH.get (i:=i) h2 (by simpa using e);exact ⟨u,by simpa using e1,e2⟩
theorem zH.app {L:List Addr} {H:Hp}:∀ {ds es:List D} {vs ws:List V},zH L H ds vs -> zH L H es ws -> zH L H (ds ++ es) (vs ++ ws)
 | [],_,_,_,h,t=>by unfold zH at h; subst h; exact t
 | d :: ds,_,_,_,h,t=>by
  unfold zH at h;obtain ⟨v,r,rfl,h1,h2⟩:=h;exact .cons h1 (zH.app h2 t)
theorem zH.set {L:List Addr} {H:Hp} {d:D} {v:V} (h:Rep L H d v):∀ {ds:List D} {vs:List V} (i:Nat),zH L H ds vs -> zH L H (ds.set i d) (vs.set i v)
 | [],_,_,t=>by unfold zH at t; subst t; exact .nil
 | _ :: _,_,0,t=>by
  unfold zH at t;obtain ⟨v',r,rfl,h1,h2⟩:=t;exact .cons h h2
 | _ :: _,_,i + 1,t=>by
  unfold zH at t;obtain ⟨v',r,rfl,h1,h2⟩:=t;exact .cons h1 (zH.set h i h2)
theorem zH.drop {L:List Addr} {H:Hp}:∀ {ds:List D} {vs:List V} (n:Nat),zH L H ds vs -> zH L H (ds.drop n) (vs.drop n)
 | _,_,0,t=>t
 | [],_,n + 1,t=>by unfold zH at t; subst t; exact .nil
 | _ :: _,_,n + 1,t=>by
  unfold zH at t;obtain ⟨v',r,rfl,h1,h2⟩:=t;exact zH.drop n h2
theorem zH.take {L:List Addr} {H:Hp}:∀ {ds:List D} {vs:List V} (n:Nat),zH L H ds vs -> zH L H (ds.take n) (vs.take n)
 | _,_,0,t=> .nil
 | [],_,n + 1,t=>by unfold zH at t; subst t; exact .nil
 | _ :: _,_,n + 1,t=>by
  unfold zH at t;obtain ⟨v',r,rfl,h1,h2⟩:=t;exact .cons h1 (zH.take n h2)
theorem zCv.keep {H H':Hp} {v:Value} (h:∀ a o u,H a = some (.frz o u) -> H' a = some (.frz o u)) (x:zCv H v):zCv H' v :=
 let ⟨a,oc,vs,q,t,e1,e2,r⟩:=x; ⟨a,oc,vs,q,t,e1,h _ _ _ e2,r⟩
def zEF (H:Hp) (ps:Array Value):Prop:=PySem.TriplesOk ps.toList /\ ∀ pos v,codeAmong pos ps.toList = some v -> zCv H v
theorem zEF.keep {H H':Hp} {ps:Array Value} (h:∀ a o u,H a = some (.frz o u) -> H' a = some (.frz o u)) (g:zEF H ps):zEF H' ps :=
 ⟨g.1,fun pos v e=>(g.2 pos v e).keep h⟩
abbrev NT (o:HO):Prop:=∀ ps,o ≠ .tbl ps
structure Stp (L:List Addr) (H:Hp) (L':List Addr) (H':Hp):Prop where
 pre:∃ N,L' = L ++ N
 new:∀ a ∈ L',a ∈ L \/ H a = none
 old:∀ a o,H a = some o -> a ∉ L -> NT o -> H' a = some o
 tup:∀ a xs,H a = some (.tup xs) -> H' a = some (.tup xs)
 frz:∀ a o u,H a = some (.frz o u) -> H' a = some (.frz o u)
 tbl:∀ a ps,H a = some (.tbl ps) -> ∃ ps',H' a = some (.tbl ps') /\ (zEF H ps -> zEF H' ps')
theorem Stp.refl (L:List Addr) (H:Hp):Stp L H L H:=⟨⟨[],by simp⟩,fun _ h=> .inl h,fun _ _ h _ _=>h,fun _ _ h=>h,fun _ _ _ h=>h,fun _ ps h=>⟨ps,h,id⟩⟩
theorem zEE {H H':Hp} (hf:∀ a o u,H a = some (.frz o u) -> H' a = some (.frz o u)) (h:∀ a ps,H a = some (.tbl ps) -> H' a = some (.tbl ps)) :
  ∀ a ps,H a = some (.tbl ps) -> ∃ ps',H' a = some (.tbl ps') /\ (zEF H ps -> zEF H' ps'):=fun a ps e=>⟨ps,h a ps e,.keep hf⟩
theorem Stp.trans {L L1 L2:List Addr} {H H1 H2:Hp} (a:Stp L H L1 H1) (b:Stp L1 H1 L2 H2):Stp L H L2 H2:=by
 obtain ⟨N,rfl⟩:=a.pre;obtain ⟨N',rfl⟩:=b.pre;have back:∀ c,c ∉ L -> H1 c = none -> H c = none:=fun c hc h1=>by
  cases q:H c with
  | none=>rfl
  | some o=>
   by_cases z:NT o
   ·rw [a.old c o q hc z] at h1; cases h1
   ·obtain ⟨ps,z⟩:=Classical.not_forall.mp z;rw [Classical.not_not.mp z] at q;obtain ⟨ps',e,_⟩:=a.tbl c ps q;rw [e] at h1; cases h1
 refine ⟨⟨N ++ N',by simp⟩,fun c hc=>?_,fun c o e hc nt=>?_,fun c xs e=>b.tup c xs (a.tup c xs e),fun c o u e=>b.frz c o u (a.frz c o u e),fun c ps e=>?_⟩
 ·by_cases hL:c ∈ L
  ·exact .inl hL
  ·rcases b.new c hc with z | z
   ·exact a.new c z
   ·exact .inr (back c hL z)
 ·refine b.old c o (a.old c o e hc nt) (fun z=>?_) nt;rcases a.new c z with q | q
  ·exact hc q
  ·rw [q] at e; cases e
 ·obtain ⟨p1,e1,g1⟩:=a.tbl c ps e;obtain ⟨p2,e2,g2⟩:=b.tbl c p1 e1;exact ⟨p2,e2,fun g=>g2 (g1 g)⟩
theorem Stp.grow {L:List Addr} {H H':Hp} (h:∀ a o,H a = some o -> H' a = some o):Stp L H L H':=⟨⟨[],by simp⟩,fun _ h=> .inl h,fun a o e _ _=>h a o e,fun a _ e=>h a _ e,fun a _ _ e=>h a _ e,zEE (fun a _ _ e=>h a _ e) fun a _ e=>h a _ e⟩
theorem Stp.bare {L N:List Addr} {H H':Hp} (s:Stp [] H N H'):Stp L H L H':=⟨⟨[],by simp⟩,fun _ h=> .inl h,fun a o e _ nt=>s.old a o e (by simp) nt,s.tup,s.frz,s.tbl⟩
theorem Stp.upd {L:List Addr} {H:Hp} {p:Addr} {o:HO} (h:H p = none):Stp L H L (upd H p o):=.grow fun a u e=>by rw [zQ (zX e h)]; exact e
theorem zDs {L N:List Addr} {n:Nat} {a:Addr} (h:L[n]? = some a):(L ++ N)[n]? = some a:=by
 rw [zT9 (zT0.mp h).1]; exact h
mutual
theorem Rep.stp {L L':List Addr} {H H':Hp} (s:Stp L H L' H'):∀ {d:D} {v:V},Rep L H d v -> Rep L' H' d v
 | .non,_,h=>by unfold Rep at h ⊢; exact h
 | .bl _,_,h=>by unfold Rep at h ⊢; exact h
 | .int _,_,h=>by unfold Rep at h ⊢; exact h
 | .str _,_,h=>by unfold Rep at h ⊢; exact h
 | .tup ds,_,h=>by
  unfold Rep at h ⊢;obtain ⟨a,vs,rfl,e,r⟩:=h;exact ⟨a,vs,rfl,s.tup a vs e,zH.stp s r⟩
 | .ref n,_,h=>by
  unfold Rep at h ⊢;obtain ⟨a,rfl,e⟩:=h;obtain ⟨N,rfl⟩:=s.pre;exact ⟨a,rfl,zDs e⟩
 | .fn _ ds,_,h=>by
  unfold Rep at h ⊢;exact ⟨h.1,h.2.1.keep s.frz,zH.stp s h.2.2⟩
theorem zH.stp {L L':List Addr} {H H':Hp} (s:Stp L H L' H'):∀ {ds:List D} {vs:List V},zH L H ds vs -> zH L' H' ds vs
 | [],_,h=>by unfold zH at h ⊢; exact h
 | d :: ds,_,h=>by
  unfold zH at h ⊢;obtain ⟨v,r,rfl,h1,h2⟩:=h;exact ⟨v,r,rfl,Rep.stp s h1,zH.stp s h2⟩
end
def zCY:D -> Option Key
 | .int i=>some (.inl i)
 | .str x=>some (.inr x)
 | _=>none
def zCE:List D -> Option (List Key)
 | []=>some []
 | d :: r=>match zCY d,zCE r with
  | some k,some ks=>some (k :: ks)
  | _,_=>none
def tkD:D -> Option (List Key)
 | .tup ds=>zCE ds
 | _=>none
def zAD {κ:Type} (kf:D -> Option κ) (L:List Addr) (H:Hp):List (D × D) -> List (κ × V) -> Prop
 | [],vs=>vs = []
 | p :: r,vs=>∃ k v r',vs = (k,v) :: r' /\ kf p.1 = some k /\ Rep L H p.2 v /\ zAD kf L H r r'
theorem zAD.stp {κ:Type} {kf:D -> Option κ} {L L':List Addr} {H H':Hp} (s:Stp L H L' H'):∀ {ps:List (D × D)} {vs:List (κ × V)},zAD kf L H ps vs -> zAD kf L' H' ps vs
 | [],_,h=>h
 | p :: r,_,h=>by
  obtain ⟨k,v,r',rfl,e,h1,h2⟩:=h;exact ⟨k,v,r',rfl,e,h1.stp s,zAD.stp s h2⟩
theorem zAD.length {κ:Type} {kf:D -> Option κ} {L:List Addr} {H:Hp}:∀ {ps:List (D × D)} {vs:List (κ × V)},zAD kf L H ps vs -> vs.length = ps.length
 | [],_,h=>by unfold zAD at h; subst h; rfl
 | p :: r,_,h=>by
  obtain ⟨k,v,r',rfl,e,h1,h2⟩:=h;simp [zAD.length h2]
def zDB (K:PySem.W.Frag) (L:List Addr) (H:Hp) (a:Addr):MO -> Prop
 | .lst xs=>∃ vs,H a = some (.lst vs) /\ zH L H xs vs
 | .fro xs=>∃ o vs,H a = some (.frz o (.lst vs)) /\ zH L H xs vs
 | .dict ps=>∃ vs,H a = some (.dK vs) /\ zAD zCY L H ps vs
 | .dicT ps=>∃ vs,H a = some (.dT vs) /\ zAD tkD L H ps vs
 | .set _=>∃ o u,H a = some (.frz o u)
 | .froT ps=>∃ o vs,H a = some (.frz o (.dT vs)) /\ zAD tkD L H ps vs
 | .froK ps=>∃ o vs,H a = some (.frz o (.dK vs)) /\ zAD zCY L H ps vs
theorem zDB.there {K:PySem.W.Frag} {L:List Addr} {H:Hp} {a:Addr} {m:MO} (h:zDB K L H a m):∃ o,H a = some o:=by
 cases m with
 | lst xs=>obtain ⟨vs,e,_⟩:=h; exact ⟨_,e⟩
 | fro xs=>obtain ⟨o,vs,e,_⟩:=h; exact ⟨_,e⟩
 | dict ps=>obtain ⟨vs,e,_⟩:=h; exact ⟨_,e⟩
 | dicT ps=>obtain ⟨vs,e,_⟩:=h; exact ⟨_,e⟩
 | set _=>obtain ⟨o,u,e⟩:=h; exact ⟨_,e⟩
 | froT ps=>obtain ⟨o,vs,e,_⟩:=h; exact ⟨_,e⟩
 | froK ps=>obtain ⟨o,vs,e,_⟩:=h; exact ⟨_,e⟩
theorem zDB.stp {K:PySem.W.Frag} {L L':List Addr} {H H':Hp} {a:Addr} {m:MO} (s:Stp L H L' H') (hk:∀ o,NT o -> H a = some o -> H' a = some o) (h:zDB K L H a m):zDB K L' H' a m:=by
 cases m with
 | lst xs=>obtain ⟨vs,e,r⟩:=h; exact ⟨vs,hk _ (by intro _ z; cases z) e,r.stp s⟩
 | fro xs=>obtain ⟨o,vs,e,r⟩:=h; exact ⟨o,vs,hk _ (by intro _ z; cases z) e,r.stp s⟩
 | dict ps=>obtain ⟨vs,e,r⟩:=h; exact ⟨vs,hk _ (by intro _ z; cases z) e,r.stp s⟩
 | dicT ps=>obtain ⟨vs,e,r⟩:=h; exact ⟨vs,hk _ (by intro _ z; cases z) e,r.stp s⟩
 | set _=>obtain ⟨o,u,e⟩:=h; exact ⟨o,u,hk _ (by intro _ z; cases z) e⟩
 | froT ps=>obtain ⟨o,vs,e,r⟩:=h; exact ⟨o,vs,hk _ (by intro _ z; cases z) e,r.stp s⟩
 | froK ps=>obtain ⟨o,vs,e,r⟩:=h; exact ⟨o,vs,hk _ (by intro _ z; cases z) e,r.stp s⟩
def zB8:List Str:=["levels", "least_word", "word_into", "shows_least", "shows_into"]
def zLt (K:PySem.W.Frag) (H:Hp):Prop:=∀ x ∈ zB8,∀ c P,PySem.W.tabIn K x = some (c,P) -> ∃ ps,H P = some (.tbl ps) /\ zEF H ps
theorem zLt.stp {K:PySem.W.Frag} {L L':List Addr} {H H':Hp} (s:Stp L H L' H') (t:zLt K H):zLt K H':=fun x hx c P e=>
 let ⟨ps,e1,g⟩:=t x hx c P e;let ⟨ps',e2,g2⟩:=s.tbl P ps e1
 ⟨ps',e2,g2 g⟩
structure Cor (K:PySem.W.Frag) (L:List Addr) (M:List MO) (H:Hp):Prop where
 len:L.length = M.length
 nd:L.Nodup
 obj:∀ (n:Nat) a m,L[n]? = some a -> M[n]? = some m -> zDB K L H a m
 tab:zLt K H
def zAs (L:List Addr) (H:Hp) (σ:List (Option D)) (τ:Sv):Prop:=τ.length = σ.length /\ ∀ (i:Nat) d,σ[i]? = some (some d) -> ∃ v,τ[i]? = some (some v) /\ Rep L H d v
theorem zAs.stp {L L':List Addr} {H H':Hp} (s:Stp L H L' H') {σ:List (Option D)} {τ:Sv} (h:zAs L H σ τ):zAs L' H' σ τ :=
 ⟨h.1,fun i d e=>let ⟨v,e1,r⟩:=h.2 i d e; ⟨v,e1,r.stp s⟩⟩
theorem Cor.tracked {K:PySem.W.Frag} {L:List Addr} {M:List MO} {H:Hp} (c:Cor K L M H) {a:Addr} (h:a ∈ L):∃ o,H a = some o:=by
 obtain ⟨n,hn⟩:=List.getElem?_of_mem h;have hl:n < M.length:=by rw [<- c.len]; exact (zT0.mp hn).1
 have m:=c.obj n a M[n] hn (zT6 hl);exact m.there
theorem Cor.grow {K:PySem.W.Frag} {L:List Addr} {M:List MO} {H H':Hp} (c:Cor K L M H) (h:∀ a o,H a = some o -> H' a = some o):Cor K L M H':=by
 exact ⟨c.len,c.nd,fun n a m e1 e2=>(c.obj n a m e1 e2).stp (.grow h) fun o _ e=>h a o e,c.tab.stp (Stp.grow (L:=L) h)⟩
theorem Cor.bare {K:PySem.W.Frag} {L N:List Addr} {M:List MO} {H H':Hp} (c:Cor K L M H) (s:Stp [] H N H'):Cor K L M H' :=
 ⟨c.len,c.nd,fun n a m e1 e2=>(c.obj n a m e1 e2).stp s.bare fun o nt e=>s.old a o e (by simp) nt,c.tab.stp s⟩
theorem Cor.upd {K:PySem.W.Frag} {L:List Addr} {M:List MO} {H:Hp} {p:Addr} {o:HO} (c:Cor K L M H) (h:H p = none):Cor K L M (upd H p o):=c.grow fun a u e=>by rw [zQ (zX e h)]; exact e
theorem Cor.write {K:PySem.W.Frag} {L:List Addr} {M:List MO} {H:Hp} {n:Nat} {p:Addr} {xs xs':List D} {vs':List V} (c:Cor K L M H) (h1:L[n]? = some p) (h2:M[n]? = some (.lst xs)) (r:zH L H xs' vs') :
  Cor K L (M.set n (.lst xs')) (L2.upd H p (.lst vs')) /\ Stp L H L (L2.upd H p (.lst vs')):=by
 obtain ⟨vs,hp,_⟩:=c.obj n p _ h1 h2;have st:Stp L H L (L2.upd H p (.lst vs')):=by
  refine ⟨⟨[],by simp⟩,fun a ha=> .inl ha,fun a o e ha _=>?_,fun a o e=>?_,fun a o u e=>?_,zEE (fun a o u e=>?_) fun a ps e=>?_⟩
  ·rw [zQ (show a ≠ p from fun z=>ha (by rw [z]; exact zUt h1))]; exact e
  all_goals (rw [zQ (zCb e hp (by intro z; cases z))]; exact e)
 refine ⟨⟨by simp [c.len],c.nd,fun k a m e1 e2=>?_,c.tab.stp st⟩,st⟩;rw [zVb] at e2;split at e2
 ·rename_i hk;subst hk;rw [h1] at e1; cases e1;split at e2
  ·cases e2; exact ⟨vs',zg,r.stp st⟩
  ·cases e2
 ·rename_i hk;have hne:a ≠ p:=fun z=>hk (by
   subst z;exact (List.getElem?_inj (zT0.mp h1).1 c.nd).mp (h1.trans e1.symm))
  exact (c.obj k a m e1 e2).stp st fun o _ e=>by rw [zQ hne]; exact e
set_option genInjectivity true in
inductive EV where
 | dat (d:D) | fl (xs:List D)
def zS (H0:Hp) (L:List Addr) (H:Hp):EV -> V -> Prop
 | .dat d,v=>Rep L H d v
 | .fl xs,v=>∃ p vs,v = .ref p /\ H0 p = none /\ H p = some (.lst vs) /\ p ∉ L /\ zH L H xs vs
abbrev Sd:=List (Option D)
abbrev Mem:=List MO
abbrev FE:=Sd -> Mem -> Option (EV × Mem)
abbrev FD:=Sd -> Mem -> Option (D × Mem)
abbrev FT:=Sd -> Mem -> Option (Bool × Mem)
abbrev FA:=Sd -> Mem -> Option (List D × Mem)
theorem Stp.there {L L':List Addr} {H H':Hp} (s:Stp L H L' H') {p:Addr} {o:HO} (h:H p = some o) (hp:p ∉ L):∃ o',H' p = some o':=by
 by_cases z:NT o
 ·exact ⟨o,s.old p o h hp z⟩
 ·obtain ⟨ps,z⟩:=Classical.not_forall.mp z;rw [Classical.not_not.mp z] at h;obtain ⟨ps',e,_⟩:=s.tbl p ps h;exact ⟨_,e⟩
theorem Stp.out {L L':List Addr} {H H':Hp} (s:Stp L H L' H') {p:Addr} {o:HO} (h:H p = some o) (hp:p ∉ L):p ∉ L':=fun z=>by
 rcases s.new p z with q | q
 ·exact hp q
 ·rw [h] at q; cases q
theorem zS.stp {H0:Hp} {L L':List Addr} {H H':Hp} (s:Stp L H L' H') {e:EV} {v:V} (h:zS H0 L H e v):zS H0 L' H' e v:=by
 cases e with
 | dat d=>exact Rep.stp s h
 | fl xs=>
  obtain ⟨p,vs,rfl,e0,e1,e2,r⟩:=h;exact ⟨p,vs,rfl,e0,s.old p _ e1 e2 (by intro _ z; cases z),s.out e1 e2,r.stp s⟩
theorem zS.back {H0 H1:Hp} {L0 L1 L:List Addr} {H:Hp} (s:Stp L0 H0 L1 H1) {M:List MO} {K:PySem.W.Frag} (c:Cor K L0 M H0) {e:EV} {v:V} (h:zS H1 L H e v) (hL:∀ a ∈ L1,a ∈ L):zS H0 L H e v:=by
 cases e with
 | dat d=>exact h
 | fl xs=>
  obtain ⟨p,vs,rfl,e0,e1,e2,r⟩:=h;refine ⟨p,vs,rfl,?_,e1,e2,r⟩;cases q:H0 p with
  | none=>rfl
  | some o=>
   by_cases hp:p ∈ L0
   ·obtain ⟨N,hN⟩:=s.pre;exact absurd (hL p (by rw [hN]; exact zVH _ hp)) e2
   ·obtain ⟨o',z⟩:=s.there q hp;rw [z] at e0; cases e0
section
variable (K:PySem.W.Frag)
def trE (f:FE):TE:=fun τ H Q=>∃ L σ M d M',Cor K L M H /\ zAs L H σ τ /\ f σ M = some (d,M') /\ ∀ L' H' v,Stp L H L' H' -> Cor K L' M' H' -> zS H L' H' d v -> Q v H'
def trD (f:FD):TE:=fun τ H Q=>∃ L σ M d M',Cor K L M H /\ zAs L H σ τ /\ f σ M = some (d,M') /\ ∀ L' H' v,Stp L H L' H' -> Cor K L' M' H' -> Rep L' H' d v -> Q v H'
def trT (f:FT):TT:=fun τ H Q=>∃ L σ M d M',Cor K L M H /\ zAs L H σ τ /\ f σ M = some (d,M') /\ ∀ L' H',Stp L H L' H' -> Cor K L' M' H' -> Q d H'
def trA (f:FA):TA:=fun τ H Q=>∃ L σ M ds M',Cor K L M H /\ zAs L H σ τ /\ f σ M = some (ds,M') /\ ∀ L' H' vs,Stp L H L' H' -> Cor K L' M' H' -> zH L' H' ds vs -> Q vs H'
end
section
variable {X:Cx} {e:Expr}
theorem PE.imp {t t':TE} (h:PE X e t) (hi:∀ τ H Q,t' τ H Q -> t τ H Q):PE X e t':=fun zB s σ H Q I q=>h zB s σ H Q I (hi _ _ _ q)
theorem PT.imp {t t':TT} (h:PT X e t) (hi:∀ τ H Q,t' τ H Q -> t τ H Q):PT X e t':=fun zB s σ H Q I q=>h zB s σ H Q I (hi _ _ _ q)
theorem PS.imp {st:Stmt} {t t':TS} (h:PS X st t) (hi:∀ D τ H,t' D τ H -> t D τ H):PS X st t':=fun zB s σ H D I q=>h zB s σ H D I (hi _ _ _ q)
theorem PSs.imp {st:List Stmt} {t t':TS} (h:PSs X st t) (hi:∀ D τ H,t' D τ H -> t D τ H):PSs X st t':=fun zB s σ H D I q=>h zB s σ H D I (hi _ _ _ q)
structure QE (X:Cx) (e:Expr) (f:FE):Prop where
 un:PE X e (trE X.K f)
structure QD (X:Cx) (e:Expr) (f:FD):Prop where
 un:PE X e (trD X.K f)
structure QT (X:Cx) (e:Expr) (f:FT):Prop where
 un:PT X e (trT X.K f)
structure QA (X:Cx) (es:List Expr) (f:FA):Prop where
 un:PA X es (trA X.K f)
def toD (f:FE):FD:=fun σ M=>match f σ M with
 | some (.dat d,M')=>some (d,M')
 | some (.fl xs,M')=>some (.ref M'.length,M' ++ [.lst xs])
 | none=>none
mutual
theorem Rep.more {L:List Addr} {H:Hp} (N:List Addr):∀ {d:D} {v:V},Rep L H d v -> Rep (L ++ N) H d v
 | .non,_,h=>by unfold Rep at h ⊢; exact h
 | .bl _,_,h=>by unfold Rep at h ⊢; exact h
 | .int _,_,h=>by unfold Rep at h ⊢; exact h
 | .str _,_,h=>by unfold Rep at h ⊢; exact h
 | .tup ds,_,h=>by
  unfold Rep at h ⊢;obtain ⟨a,vs,rfl,e,r⟩:=h;exact ⟨a,vs,rfl,e,zH.more N r⟩
 | .ref n,_,h=>by
  unfold Rep at h ⊢;obtain ⟨a,rfl,e⟩:=h;exact ⟨a,rfl,zDs e⟩
 | .fn _ ds,_,h=>by
  unfold Rep at h ⊢;exact ⟨h.1,h.2.1,zH.more N h.2.2⟩
theorem zH.more {L:List Addr} {H:Hp} (N:List Addr):∀ {ds:List D} {vs:List V},zH L H ds vs -> zH (L ++ N) H ds vs
 | [],_,h=>by unfold zH at h ⊢; exact h
 | d :: ds,_,h=>by
  unfold zH at h ⊢;obtain ⟨v,r,rfl,h1,h2⟩:=h;exact ⟨v,r,rfl,Rep.more N h1,zH.more N h2⟩
end
theorem zAD.more {κ:Type} {kf:D -> Option κ} {L:List Addr} {H:Hp} (N:List Addr):∀ {ps:List (D × D)} {vs:List (κ × V)},zAD kf L H ps vs -> zAD kf (L ++ N) H ps vs
 | [],_,h=>h
 | p :: r,_,h=>by
  obtain ⟨k,v,r',rfl,e,h1,h2⟩:=h;exact ⟨k,v,r',rfl,e,h1.more N,zAD.more N h2⟩
theorem zDB.more {K:PySem.W.Frag} {L:List Addr} {H:Hp} {a:Addr} {m:MO} (N:List Addr) (h:zDB K L H a m):zDB K (L ++ N) H a m:=by
 cases m with
 | lst xs=>obtain ⟨vs,e,r⟩:=h; exact ⟨vs,e,r.more N⟩
 | fro xs=>obtain ⟨o,vs,e,r⟩:=h; exact ⟨o,vs,e,r.more N⟩
 | dict ps=>obtain ⟨vs,e,r⟩:=h; exact ⟨vs,e,r.more N⟩
 | dicT ps=>obtain ⟨vs,e,r⟩:=h; exact ⟨vs,e,r.more N⟩
 | set _=>exact h
 | froT ps=>obtain ⟨o,vs,e,r⟩:=h; exact ⟨o,vs,e,r.more N⟩
 | froK ps=>obtain ⟨o,vs,e,r⟩:=h; exact ⟨o,vs,e,r.more N⟩
theorem zQD {K:PySem.W.Frag} {L L':List Addr} {M':List MO} {H H':Hp} {p:Addr} {xs:List D} {vs:List V} (s:Stp L H L' H') (c:Cor K L' M' H') (h0:H p = none) (h1:H' p = some (.lst vs)) (h2:p ∉ L') (r:zH L' H' xs vs) :
  Cor K (L' ++ [p]) (M' ++ [.lst xs]) H' /\ Stp L H (L' ++ [p]) H':=by
 refine ⟨⟨by simp [c.len],?_,fun n a m e1 e2=>?_,c.tab⟩,?_⟩
 ·rw [zVG];exact ⟨c.nd,by simp,fun a ha b hb z=>by
   have:b = p:=by simpa using hb
   subst this; subst z; exact h2 ha⟩
 ·by_cases hn:n < L'.length
  ·rw [zT9 hn] at e1;rw [zT9 (by rw [<- c.len]; exact hn)] at e2;exact (c.obj n a m e1 e2).more [p]
  ·have hn':n = L'.length:=by
    have:=(zT0.mp e1).1;rw [zUI] at this;simp at this; omega
   subst hn';simp at e1;rw [c.len] at e2;simp at e2;subst e1; subst e2;exact ⟨vs,h1,r.more [p]⟩
 ·obtain ⟨N,hN⟩:=s.pre;refine ⟨⟨N ++ [p],by rw [hN]; simp⟩,fun a ha=>?_,s.old,s.tup,s.frz,s.tbl⟩;rcases zUS.mp ha with z | z
  ·exact s.new a z
  ·have:a = p:=by simpa using z
   subst this; exact .inr h0
theorem Rep.last {L:List Addr} {M:List MO} {H:Hp} {K:PySem.W.Frag} {p:Addr} (c:Cor K L M H):Rep (L ++ [p]) H (.ref M.length) (.ref p):=by
 unfold Rep;exact ⟨p,rfl,by rw [<- c.len]; simp⟩
theorem zAb {f:FE} (h:QE X e f):QD X e (toD f):=.mk <| PE.imp h.un fun τ H Q zz=>by
 obtain ⟨L,σ,M,d,M',c,rs,hf,q⟩:=zz;unfold toD at hf;split at hf
 ·rename_i d' M1 e1;cases hf;exact ⟨L,σ,M,_,_,c,rs,e1,fun L' H' v s c' r=>q L' H' v s c' r⟩
 ·rename_i xs M1 e1;cases hf;refine ⟨L,σ,M,_,_,c,rs,e1,fun L' H' v s c' r=>?_⟩;obtain ⟨p,vs,rfl,e0,e2,e3,r⟩:=r;obtain ⟨c2,s2⟩:=zQD s c' e0 e2 e3 r;exact q _ H' _ s2 c2 (Rep.last c')
 ·cases hf
def zC (i:Nat):FE:=fun σ M=>match σ[i]? with
 | some (some d)=>some (.dat d,M)
 | _=>none
theorem zAt {i:Nat} {x:Str} {pos:Pos} (h:PE X (.Name x pos) (zQi i)):QE X (.Name x pos) (zC i):=.mk <| PE.imp h fun τ H Q zz=>by
 obtain ⟨L,σ,M,d,M',c,rs,hf,q⟩:=zz;unfold zC at hf;split at hf
 ·rename_i d' e1;cases hf;obtain ⟨v,e2,r⟩:=rs.2 i d' e1;exact ⟨v,e2,q L H v (.refl L H) c r⟩
 ·cases hf
def fC (d:D):FE:=fun _ M=>some (.dat d,M)
theorem zFF {v:V} {d:D} (hd:∀ L H,Rep L H d v) (h:PE X e (tC v)):QE X e (fC d):=.mk <| PE.imp h fun τ H Q zz=>by
 obtain ⟨L,σ,M,d',M',c,rs,hf,q⟩:=zz;unfold fC at hf;cases hf;exact q L H v (.refl L H) c (hd L H)
theorem zS4 {i j pos}:QE X (.Constant (.int i) j pos) (fC (.int i)):=zFF (fun _ _=>by unfold Rep; rfl) zQa
theorem zSq {b j pos}:QE X (.Constant (.bool b) j pos) (fC (.bl b)):=zFF (fun _ _=>by unfold Rep; rfl) zST
theorem zSF {j pos}:QE X (.Constant .none j pos) (fC .non):=zFF (fun _ _=>by unfold Rep; rfl) zQq
theorem zS3 {x j pos}:QE X (.Constant (.str x) j pos) (fC (.str x)):=zFF (fun _ _=>by unfold Rep; rfl) zQc
def zL:FA:=fun _ M=>some ([],M)
def zD (f:FD) (g:FA):FA:=fun σ M=>match f σ M with
 | some (d,M1)=>match g σ M1 with
  | some (ds,M2)=>some (d :: ds,M2)
  | none=>none
 | none=>none
theorem PA.imp {es:List Expr} {t t':TA} (h:PA X es t) (hi:∀ τ H Q,t' τ H Q -> t τ H Q):PA X es t':=fun pos zB s σ H Q I q=>h pos zB s σ H Q I (hi _ _ _ q)
theorem zHz:QA X [] zL:=.mk <| PA.imp zFW fun τ H Q zz=>by
 obtain ⟨L,σ,M,d,M',c,rs,hf,q⟩:=zz;unfold zL at hf;cases hf;exact q L H [] (.refl L H) c .nil
theorem zD5 {es:List Expr} {f:FD} {g:FA} (h1:QD X e f) (h2:QA X es g) (hs:starEach (e :: es) X.env = (false,eval e X.env) :: starEach es X.env:=by rfl):QA X (e :: es) (zD f g) :=
 .mk <| PA.imp (zB2 h1.un h2.un hs) fun τ H Q zz=>by
  obtain ⟨L,σ,M,d,M',c,rs,hf,q⟩:=zz;unfold zD at hf;split at hf
  ·rename_i d1 M1 e1;split at hf
   ·rename_i ds M2 e2;cases hf;refine ⟨L,σ,M,_,_,c,rs,e1,fun L1 H1 v s1 c1 r1=>⟨L1,σ,M1,_,_,c1,rs.stp s1,e2,fun L2 H2 vs s2 c2 r2=>?_⟩⟩;exact q L2 H2 _ (s1.trans s2) c2 (.cons (r1.stp s2) r2)
   ·cases hf
  ·cases hf
def zAd (g:FA):FE:=fun σ M=>match g σ M with
 | some (ds,M1)=>if ds.length <= sizeLine then some (.dat (.tup ds),M1) else none
 | none=>none
def zA1 (g:FA):FE:=fun σ M=>match g σ M with
 | some (ds,M1)=>if ds.length <= sizeLine then some (.fl ds,M1) else none
 | none=>none
theorem Rep.newTup {L:List Addr} {H:Hp} {p:Addr} {ds:List D} {vs:List V} (h:H p = none) (r:zH L H ds vs):Rep L (upd H p (.tup vs)) (.tup ds) (.ref p):=by
 unfold Rep;exact ⟨p,vs,rfl,zg,r.stp (.upd h)⟩
theorem zSN {es:List Expr} {g:FA} {x1 pos} (h:QA X es g):QE X (.Tuple es x1 pos) (zAd g):=.mk <| PE.imp (zR6 h.un) fun τ H Q zz=>by
 obtain ⟨L,σ,M,d,M',c,rs,hf,q⟩:=zz;unfold zAd at hf;split at hf
 ·rename_i ds M1 e1;split at hf
  ·rename_i hz;cases hf;refine ⟨L,σ,M,_,_,c,rs,e1,fun L1 H1 vs s1 c1 r1=>⟨by rw [r1.length]; exact hz,fun p hp=>?_⟩⟩;exact q L1 _ _ (s1.trans (.upd hp)) (c1.upd hp) (Rep.newTup hp r1)
  ·cases hf
 ·cases hf
theorem zG1 {L L1:List Addr} {H H1:Hp} {K:PySem.W.Frag} {M M1:List MO} (s:Stp L H L1 H1) (c:Cor K L M H) (c1:Cor K L1 M1 H1) {p:Addr} (hp:H1 p = none):H p = none /\ p ∉ L1:=by
 have hp1:p ∉ L1:=fun z=>by obtain ⟨o,e⟩:=c1.tracked z; rw [hp] at e; cases e
 refine ⟨?_,hp1⟩;cases q:H p with
 | none=>rfl
 | some o=>
  have:p ∉ L:=fun z=>hp1 (by obtain ⟨N,hN⟩:=s.pre; rw [hN]; exact zVH _ z);obtain ⟨o',z⟩:=s.there q this;rw [z] at hp; cases hp
theorem zS.newLst {L L1:List Addr} {H H1:Hp} {K:PySem.W.Frag} {M M1:List MO} {p:Addr} {ds:List D} {vs:List V} (s:Stp L H L1 H1) (c:Cor K L M H) (c1:Cor K L1 M1 H1) (hp:H1 p = none) (r:zH L1 H1 ds vs) :
  zS H L1 (upd H1 p (.lst vs)) (.fl ds) (.ref p):=by
 obtain ⟨a,b⟩:=zG1 s c c1 hp;exact ⟨p,vs,rfl,a,zg,b,r.stp (.upd hp)⟩
theorem zTB {es:List Expr} {g:FA} {pos} (h:QA X es g):QE X (.List es pos) (zA1 g):=.mk <| PE.imp (zQZ h.un) fun τ H Q zz=>by
 obtain ⟨L,σ,M,d,M',c,rs,hf,q⟩:=zz;unfold zA1 at hf;split at hf
 ·rename_i ds M1 e1;split at hf
  ·rename_i hz;cases hf;refine ⟨L,σ,M,_,_,c,rs,e1,fun L1 H1 vs s1 c1 r1=>⟨by rw [r1.length]; exact hz,fun p hp=>?_⟩⟩;exact q L1 _ _ (s1.trans (.upd hp)) (c1.upd hp) (zS.newLst s1 c c1 hp r1)
  ·cases hf
 ·cases hf
end
abbrev FAE:=Sd -> Mem -> Option (List EV × Mem)
def zBy (H0:Hp) (L:List Addr) (H:Hp):List EV -> List V -> Prop
 | [],vs=>vs = []
 | e :: es,vs=>∃ v r,vs = v :: r /\ zS H0 L H e v /\ zBy H0 L H es r
theorem Stp.sub {L L':List Addr} {H H':Hp} (s:Stp L H L' H'):∀ a ∈ L,a ∈ L':=fun a h=>by
 obtain ⟨N,hN⟩:=s.pre;rw [hN]; exact zVH _ h
theorem zBy.back {H0 H1:Hp} {L0 L1 L:List Addr} {H:Hp} (s:Stp L0 H0 L1 H1) {M:List MO} {K:PySem.W.Frag} (c:Cor K L0 M H0) (hL:∀ a ∈ L1,a ∈ L):∀ {es:List EV} {vs:List V},zBy H1 L H es vs -> zBy H0 L H es vs
 | [],_,h=>h
 | e :: es,_,h=>by
  obtain ⟨v,r,rfl,h1,h2⟩:=h;exact ⟨v,r,rfl,h1.back s c hL,zBy.back s c hL h2⟩
def zSs (K:PySem.W.Frag) (f:FAE):TA:=fun τ H Q=>∃ L σ M ds M',Cor K L M H /\ zAs L H σ τ /\ f σ M = some (ds,M') /\ ∀ L' H' vs,Stp L H L' H' -> Cor K L' M' H' -> zBy H L' H' ds vs -> Q vs H'
structure QAE (X:Cx) (es:List Expr) (f:FAE):Prop where
 un:PA X es (zSs X.K f)
section
variable {X:Cx} {a b e:Expr} {es:List Expr} {pos:Pos}
def zM:FAE:=fun _ M=>some ([],M)
def zF (f:FE) (g:FAE):FAE:=fun σ M=>match f σ M with
 | some (d,M1)=>match g σ M1 with
  | some (ds,M2)=>some (d :: ds,M2)
  | none=>none
 | none=>none
theorem zFO:QAE X [] zM:=.mk <| PA.imp zFW fun τ H Q zz=>by
 obtain ⟨L,σ,M,d,M',c,rs,hf,q⟩:=zz;unfold zM at hf;cases hf;exact q L H [] (.refl L H) c rfl
theorem zDp {f:FE} {g:FAE} (h1:QE X e f) (h2:QAE X es g) (hs:starEach (e :: es) X.env = (false,eval e X.env) :: starEach es X.env:=by rfl):QAE X (e :: es) (zF f g) :=
 .mk <| PA.imp (zB2 h1.un h2.un hs) fun τ H Q zz=>by
  obtain ⟨L,σ,M,d,M',c,rs,hf,q⟩:=zz;unfold zF at hf;split at hf
  ·rename_i d1 M1 e1;split at hf
   ·rename_i ds M2 e2;cases hf;refine ⟨L,σ,M,_,_,c,rs,e1,fun L1 H1 v s1 c1 r1=>⟨L1,σ,M1,_,_,c1,rs.stp s1,e2,fun L2 H2 vs s2 c2 r2=>?_⟩⟩;exact q L2 H2 _ (s1.trans s2) c2 ⟨v,vs,rfl,r1.stp s2,r2.back s1 c s2.sub⟩
   ·cases hf
  ·cases hf
abbrev K2:=EV -> EV -> Mem -> Option (EV × Mem)
def zCA (K:PySem.W.Frag) (r:R2) (k:K2):Prop:=∀ {L:List Addr} {M M':Mem} {H H0:Hp} {x y d:EV} {v w:V} {Q:VK},Cor K L M H -> zS H0 L H x v -> zS H0 L H y w -> k x y M = some (d,M') ->
 (∀ L' H' u,Stp L H L' H' -> Cor K L' M' H' -> zS H L' H' d u -> Q u H') -> r v w H Q
def fOp (k:K2) (f g:FE):FE:=fun σ M=>match f σ M with
 | some (x,M1)=>match g σ M1 with
  | some (y,M2)=>k x y M2
  | none=>none
 | none=>none
theorem zC8 {K:PySem.W.Frag} {r:R2} {k:K2} {f g:FE} (hk:zCA K r k) {τ:Sv} {H:Hp} {Q:VK} (h:trE K (fOp k f g) τ H Q):tOp r (trE K f) (trE K g) τ H Q:=by
 obtain ⟨L,σ,M,d,M',c,rs,hf,q⟩:=h;unfold fOp at hf;split at hf
 ·rename_i x M1 e1;split at hf
  ·rename_i y M2 e2;refine ⟨L,σ,M,_,_,c,rs,e1,fun L1 H1 v s1 c1 r1=>⟨L1,σ,M1,_,_,c1,rs.stp s1,e2,fun L2 H2 w s2 c2 r2=>?_⟩⟩;refine hk (H0:=H) c2 (r1.stp s2) (r2.back s1 c s2.sub) hf fun L3 H3 u s3 c3 r3=>?_;exact q L3 H3 u ((s1.trans s2).trans s3) c3 (r3.back (s1.trans s2) c s3.sub)
  ·cases hf
 ·cases hf
theorem zI4 {op:Operator} {r:R2} {k:K2} {f g:FE} (hk:zCA X.K r k) (ho:OpR X (binaryOp op) r) (h1:QE X a f) (h2:QE X b g):QE X (.BinOp a op b pos) (fOp k f g):=.mk <| PE.imp (zSW ho h1.un h2.un) fun _ _ _ h=>zC8 hk h
theorem zOK {op:CmpOp} {r:R2} {k:K2} {f g:FE} (hk:zCA X.K r k) (ho:OpR X (compareOp op) r) (h1:QE X a f) (h2:QE X b g) (hm:behindInMarks op b = false):QE X (.Compare a [op] [b] pos) (fOp k f g) :=
 .mk <| PE.imp (zOw ho h1.un h2.un hm) fun _ _ _ h=>zC8 hk h
def tst (f:FE):FT:=fun σ M=>match f σ M with
 | some (.dat (.bl c),M')=>some (c,M')
 | _=>none
theorem zEm {K:PySem.W.Frag} {f:FE} {τ:Sv} {H:Hp} {Q:Bool -> Hp -> Prop} (h:trT K (tst f) τ H Q):zKw (trE K f) τ H Q:=by
 obtain ⟨L,σ,M,d,M',c,rs,hf,q⟩:=h;unfold tst at hf;split at hf
 ·rename_i k M1 e1;cases hf;refine ⟨L,σ,M,_,_,c,rs,e1,fun L1 H1 v s1 c1 r1=>?_⟩;have:v = .bl d:=by unfold zS Rep at r1; exact r1
  exact ⟨d,this,q L1 H1 s1 c1⟩
 ·cases hf
theorem zF4 {t t':TE} (h:∀ τ H Q,t τ H Q -> t' τ H Q) {τ:Sv} {H:Hp} {Q:Bool -> Hp -> Prop} (q:zKw t τ H Q):zKw t' τ H Q:=h _ _ _ q
theorem zEN {op:CmpOp} {r:R2} {k:K2} {f g:FE} (hk:zCA X.K r k) (ho:OpR X (compareOp op) r) (h1:QE X a f) (h2:QE X b g) (hm:behindInMarks op b = false):QT X (.Compare a [op] [b] pos) (tst (fOp k f g)) :=
 .mk <| PT.imp (zPJ ho h1.un h2.un hm) fun _ _ _ h=>zF4 (fun _ _ _ z=>zC8 hk z) (zEm h)
theorem zH4 {f:FE} (h:QE X e f) (he:∀ whole,isTrue e X.env whole = (do let v <- whole; standAt e.pos; holding [v] (truthy v)):=by intro _; rfl):QT X e (tst f) :=
 .mk <| PT.imp (zR8 h.un he) fun _ _ _ h=>zEm h
def kI (C:Int -> Int -> Bool) (g:Int -> Int -> D):K2:=fun x y M=>match x,y with
 | .dat (.int i),.dat (.int j)=>if C i j then some (.dat (g i j),M) else none
 | _,_=>none
def kI0 (g:Int -> Int -> D):K2:=kI (fun _ _=>true) g
theorem zIQ {K:PySem.W.Frag} {C:Int -> Int -> Bool} {C':Int -> Int -> Prop} {g:Int -> Int -> D} {g':Int -> Int -> V} (hC:∀ i j,C i j = true -> C' i j) (hg:∀ L H i j,Rep L H (g i j) (g' i j)):zCA K (rI C' g') (kI C g):=by
 intro L M M' H H0 x y d v w Q c rx ry hk q;unfold kI at hk;split at hk
 ·rename_i i j;split at hk
  ·rename_i hc;cases hk;refine ⟨i,j,by unfold zS Rep at rx; exact rx,by unfold zS Rep at ry; exact ry,hC i j hc,q L H _ (.refl L H) c (hg L H i j)⟩
  ·cases hk
 ·cases hk
theorem zFK {K:PySem.W.Frag} {g:Int -> Int -> D} {g':Int -> Int -> V} (hg:∀ L H i j,Rep L H (g i j) (g' i j)):zCA K (rI0 g') (kI0 g):=by
 intro L M M' H H0 x y d v w Q c rx ry hk q;obtain ⟨i,j,h1,h2,_,h4⟩:=zIQ (C:=fun _ _=>true) (C':=fun _ _=>True) (fun _ _ _=>trivial) hg c rx ry hk q;exact ⟨i,j,h1,h2,h4⟩
theorem zAX {L:List Addr} {H:Hp} {i:Int}:Rep L H (.int i) (.int i):=by unfold Rep; rfl
theorem zBr {L:List Addr} {H:Hp} {i:Bool}:Rep L H (.bl i) (.bl i):=by unfold Rep; rfl
def zNI (i j:Int):Bool:=(decide (-(2 ^ 64) < i) && decide (i < 2 ^ 64)) || (decide (-(2 ^ 64) < j) && decide (j < 2 ^ 64))
abbrev zRk:K2:=kI0 fun i j=> .int (i + j)
abbrev zEx:K2:=kI0 fun i j=> .int (i - j)
abbrev zHk:K2:=kI zNI fun i j=> .int (i * j)
abbrev zDX:K2:=kI (fun _ j=>decide (0 < j)) fun i j=> .int (i % j)
abbrev zKY:K2:=kI (fun _ j=>decide (0 < j) && decide (j < 1073741824)) fun i j=> .int (i / j)
abbrev zLY:K2:=kI (fun i j=>decide (0 <= j) && decide (j <= 1000000) && decide (i.natAbs < 2 ^ 64)) fun i j=> .int (i ^ j.toNat)
abbrev kLt:K2:=kI0 fun i j=> .bl (decide (i < j))
abbrev kLe:K2:=kI0 fun i j=> .bl (decide (i <= j))
abbrev kGt:K2:=kI0 fun i j=> .bl (decide (j < i))
section
variable {f g:FE}
theorem zSU (h1:QE X a f) (h2:QE X b g):QE X (.BinOp a .Sub b pos) (fOp zEx f g):=zI4 (zFK fun _ _ _ _=>zAX) zRN h1 h2
theorem zSc (h1:QE X a f) (h2:QE X b g):QE X (.BinOp a .Mult b pos) (fOp zHk f g):=zI4 (zIQ (fun i j h=>by
 unfold zNI at h;simp only [Bool.or_eq_true,zUc,zVF] at h;exact h) fun _ _ _ _=>zAX) zRS h1 h2
theorem zSd (h1:QE X a f) (h2:QE X b g):QE X (.BinOp a .Mod b pos) (fOp zDX f g):=zI4 (zIQ (fun i j h=>zUy h) fun _ _ _ _=>zAX) zQt h1 h2
theorem zSo (h1:QE X a f) (h2:QE X b g):QE X (.BinOp a .FloorDiv b pos) (fOp zKY f g):=zI4 (zIQ (fun i j h=>by
 simp only [zUc,zVF] at h;exact h) fun _ _ _ _=>zAX) zP1 h1 h2
theorem zSM (h1:QE X a f) (h2:QE X b g):QE X (.BinOp a .Pow b pos) (fOp zLY f g):=zI4 (zIQ (fun i j h=>by
 simp only [zUc,zVF] at h;exact ⟨h.1.1,h.1.2,h.2⟩) fun _ _ _ _=>zAX) zRI h1 h2
theorem zS8 (h1:QE X a f) (h2:QE X b g):QE X (.Compare a [.LtE] [b] pos) (fOp kLe f g):=zOK (zFK fun _ _ _ _=>zBr) zSK h1 h2 (zDi _)
theorem zSp (h1:QE X a f) (h2:QE X b g):QT X (.Compare a [.Lt] [b] pos) (tst (fOp kLt f g)):=zEN (zFK fun _ _ _ _=>zBr) zSe h1 h2 (zDi _)
theorem zTO (h1:QE X a f) (h2:QE X b g):QT X (.Compare a [.Gt] [b] pos) (tst (fOp kGt f g)):=zEN (zFK fun _ _ _ _=>zBr) zSA h1 h2 (zDi _)
end
end
def zBZ (M:Mem):EV -> Option (List D)
 | .fl xs=>some xs
 | .dat (.ref n)=>match M[n]? with
  | some (.lst xs)=>some xs
  | some (.fro xs)=>some xs
  | _=>none
 | _=>none
def zBn:EV -> Option (List D)
 | .dat (.tup xs)=>some xs
 | _=>none
def zAf (M:Mem) (x:EV):Option (List D):=match zBn x with
 | some xs=>some xs
 | none=>zBZ M x
theorem zB0 {K:PySem.W.Frag} {L:List Addr} {M:Mem} {H H0:Hp} {x:EV} {v:V} {xs:List D} (c:Cor K L M H) (r:zS H0 L H x v) (h:zBZ M x = some xs):∃ a vs,v = .ref a /\ Rd H a (.lst vs) /\ zH L H xs vs:=by
 cases x with
 | fl ys=>
  cases h;obtain ⟨p,vs,rfl,_,e,_,r⟩:=r;exact ⟨p,vs,rfl,.inl e,r⟩
 | dat d=>
  cases d with
  | ref n=>
   unfold zS Rep at r;obtain ⟨a,rfl,e⟩:=r;unfold zBZ at h;dsimp only at h;cases q:M[n]? with
   | none=>rw [q] at h; cases h
   | some m=>
    rw [q] at h;have z:=c.obj n a m e q;cases m with
    | lst ys=>cases h; obtain ⟨vs,e1,r1⟩:=z; exact ⟨a,vs,rfl,.inl e1,r1⟩
    | fro ys=>cases h; obtain ⟨o,vs,e1,r1⟩:=z; exact ⟨a,vs,rfl,.inr ⟨o,e1⟩,r1⟩
    | dict _=>cases h
    | dicT _=>cases h
    | set _=>cases h
    | froT _=>cases h
    | froK _=>cases h
  | _=>cases h
theorem zCL {L:List Addr} {H H0:Hp} {x:EV} {v:V} {xs:List D} (r:zS H0 L H x v) (h:zBn x = some xs):∃ a vs,v = .ref a /\ H a = some (.tup vs) /\ zH L H xs vs:=by
 cases x with
 | fl ys=>cases h
 | dat d=>
  cases d with
  | tup ys=>cases h; unfold zS Rep at r; exact r
  | _=>cases h
theorem zC3 {K:PySem.W.Frag} {L:List Addr} {M:Mem} {H H0:Hp} {x:EV} {v:V} {xs:List D} (c:Cor K L M H) (r:zS H0 L H x v) (h:zAf M x = some xs):∃ a vs,v = .ref a /\ (SqL K H a vs \/ SqT K H a vs) /\ zH L H xs vs:=by
 unfold zAf at h;cases q:zBn x with
 | some ys=>
  rw [q] at h; cases h;obtain ⟨a,vs,e,h1,h2⟩:=zCL r q;exact ⟨a,vs,e,.inr (.of h1),h2⟩
 | none=>
  rw [q] at h;obtain ⟨a,vs,e,h1,h2⟩:=zB0 c r h;exact ⟨a,vs,e,.inl (.inl h1),h2⟩
theorem zRZ {L:List Addr} {H:Hp} {xs:List D} {vs:List V} {i:Int} {d:D} (r:zH L H xs vs) (h:atI xs i = some d):∃ v,atI vs i = some v /\ Rep L H d v:=by
 unfold atI at h ⊢;rw [r.length];cases q:ixN xs.length i with
 | none=>rw [q] at h; cases h
 | some j=>rw [q] at h; exact r.get h
theorem zO3 {L:List Addr} {H:Hp} {i:Str}:Rep L H (.str i) (.str i):=by unfold Rep; rfl
def kIx:K2:=fun x y M=>match y with
 | .dat (.int i)=>match zAf M x with
  | some xs=>match atI xs i with
   | some d=>some (.dat d,M)
   | none=>none
  | none=>match x with
   | .dat (.str z)=>if z.length <= sizeLine then match atI z.cps.toList i with
     | some c=>some (.dat (.str ⟨#[c]⟩),M)
     | none=>none
    else none
   | _=>none
 | _=>none
theorem zQ5 {K:PySem.W.Frag}:zCA K (rIx K) kIx:=by
 intro L M M' H H0 x y d v w Q c rx ry hk q;unfold kIx at hk;split at hk
 ·rename_i i;have ew:w = .int i:=by unfold zS Rep at ry; exact ry
  split at hk
  ·rename_i xs e1;split at hk
   ·rename_i d' e2;cases hk;obtain ⟨a,vs,rfl,hs,r⟩:=zC3 c rx e1;obtain ⟨u,e3,r3⟩:=zRZ r e2;rcases hs with hs | hs
    ·exact .inl ⟨a,vs,i,u,rfl,ew,hs,e3,q L H u (.refl L H) c r3⟩
    ·exact .inr (.inl ⟨a,vs,i,u,rfl,ew,hs,e3,q L H u (.refl L H) c r3⟩)
   ·cases hk
  ·split at hk
   ·rename_i z _;split at hk
    ·rename_i hz;split at hk
     ·rename_i ch e2;cases hk;have ev:v = .str z:=by unfold zS Rep at rx; exact rx
      exact .inr (.inr ⟨z,i,ch,ev,ew,hz,e2,q L H _ (.refl L H) c (zO3 (L:=L) (H:=H))⟩)
     ·cases hk
    ·cases hk
   ·cases hk
 ·cases hk
section
variable {prog:Program} {w:World} {A:Around} {E:Value -> Shared -> Prop} {s:Shared}
theorem zJ4 {t sl:Addr} {items:Array Value} {vl vu:Value} {lo hi:Option Int} {Q:Value -> Shared -> Prop} (T:IsTup s.heap t items) (S:s.heap.IsSliceOf sl vl vu .none) (pl:IsPart vl lo) (pu:IsPart vu hi)
  (h1:HT.sIx items.size 0 lo = 0) (h2:HT.sIx items.size items.size hi = items.size) (h:Q (.ref t) s):wpAny (model prog w) A (getItem (.ref t) (.ref sl)) Q E s:=by
 obtain ⟨o,O,C,G⟩:=id S;have TS:s.TypeIs (.ref sl) "slice" := ⟨o,O,C⟩;unfold getItem;try with_reducible refine zUv ?_
 first | refine zTx (zTz ?_) | skip
 refine zTx (wpAny_sequenceKey T.typeIs (by decide) ?_);refine zTx (zUe (name:=Str.ofString "__getitem__") T.typeIs zVa (zUf zVa T.typeIs entry_tuple_getitem ?_ (args_tuple_getitem _ _)));refine zTx (m:=Builtin.Tuple.tupleItemsOf (.ref t)) (tupleItemsOf_ T (zTx (wpAny_typeOf TS ?_)));rw [zUH (by decide)];refine zTx (HT.zCC S pl pu ?_);rw [h1,h2];show wpAny _ _ (if ((((0:Nat):Int) == 0 && (1:Int) == 1 && (items.size - 0) == items.size)) = true then _ else _) _ _ s;rw [zUH (by simp)];unfold Builtin.Tuple.tupleIsExact;refine zTx (zTx (wpAny_typeOf T.typeIs (zTz ?_)));rw [zUH (by decide)];exact zTx (zVP (zTz ⟨_,rfl,zTz h⟩))
end
def zTY (K:PySem.W.Frag):V -> Option Int -> Option Int -> Hp -> VK -> Prop:=fun x lo hi H Q=>∃ a xs,x = .ref a /\ SqT K H a xs /\ (HT.sIx xs.length 0 lo = 0 /\ HT.sIx xs.length xs.length hi = xs.length) /\ Q (.ref a) H
theorem zPp {X:Cx}:SlR X (zTY X.K):=by
 intro zB s σ H x v vl vu lo hi sl Q I rx hs pl pu h;obtain ⟨a,xs,rfl,hx,hw,q⟩:=h;cases rx;obtain ⟨its,r,ht,hz⟩:=I.tuple hx;have hlen:its.toArray.size = xs.length:=by rw [zUA]; exact r.length.symm
 exact ⟨"tuple", _,zVa.lookup,ht.typeIs,zJ4 ht hs pl pu (by rw [hlen]; exact hw.1) (by rw [hlen]; exact hw.2) ⟨.ref a,H,I,rfl,q⟩⟩
section
variable {X:Cx} {a b e:Expr} {es:List Expr} {pos:Pos} {f g:FE}
theorem zTu (h1:QE X a f) (h2:QE X b g) (hs:zLL b:=by intro _ _; rfl):QE X (.Subscript a b pos) (fOp kIx f g):=.mk <| PE.imp (zTI zQd h1.un h2.un hs) fun _ _ _ h=>zC8 zQ5 h
abbrev FO:=Sd -> Mem -> Option (Option Int × Mem)
def trO (K:PySem.W.Frag) (f:FO):TO:=fun τ H Q=>∃ L σ M d M',Cor K L M H /\ zAs L H σ τ /\ f σ M = some (d,M') /\ ∀ L' H',Stp L H L' H' -> Cor K L' M' H' -> Q d H'
structure QO (X:Cx) (e:Option Expr) (f:FO):Prop where
 un:PO X e (trO X.K f)
def zD6:FO:=fun _ M=>some (none,M)
def zDJ (f:FE):FO:=fun σ M=>match f σ M with
 | some (.dat (.int i),M')=>some (some i,M')
 | _=>none
theorem PO.imp {e:Option Expr} {t t':TO} (h:PO X e t) (hi:∀ τ H Q,t' τ H Q -> t τ H Q):PO X e t':=fun zB s σ H Q I q=>h zB s σ H Q I (hi _ _ _ q)
theorem zOt:QO X none zD6:=.mk <| PO.imp zPO fun τ H Q zz=>by
 obtain ⟨L,σ,M,d,M',c,rs,hf,q⟩:=zz;unfold zD6 at hf;cases hf;exact q L H (.refl L H) c
theorem zPH (h:QE X e f):QO X (some e) (zDJ f):=.mk <| PO.imp (zPv h.un) fun τ H Q zz=>by
 obtain ⟨L,σ,M,d,M',c,rs,hf,q⟩:=zz;unfold zDJ at hf;split at hf
 ·rename_i i M1 e1;cases hf;refine ⟨L,σ,M,_,_,c,rs,e1,fun L1 H1 v s1 c1 r1=>?_⟩;exact ⟨i,by unfold zS Rep at r1; exact r1,q L1 H1 s1 c1⟩
 ·cases hf
def zE1 (xs:List D) (lo hi:Option Int):List D:=(xs.drop (HT.sIx xs.length 0 lo)).take (HT.sIx xs.length xs.length hi - HT.sIx xs.length 0 lo)
theorem zK7 {L:List Addr} {H:Hp} {xs:List D} {vs:List V} {lo hi:Option Int} (r:zH L H xs vs):zH L H (zE1 xs lo hi) (zIv vs lo hi):=by
 unfold zE1 zIv;rw [r.length];exact (r.drop _).take _
def kSl (x:EV) (lo hi:Option Int) (M:Mem):Option (EV × Mem):=match zBn x with
 | some xs=>some (.dat (.tup (zE1 xs lo hi)),M)
 | none=>match zBZ M x with
  | some xs=>some (.fl (zE1 xs lo hi),M)
  | none=>none
def fSl (f:FE) (fl fh:FO):FE:=fun σ M=>match f σ M with
 | some (x,M1)=>match fl σ M1 with
  | some (lo,M2)=>match fh σ M2 with
   | some (hi,M3)=>kSl x lo hi M3
   | none=>none
  | none=>none
 | none=>none
theorem zP6 {lo hi:Option Expr} {p2:Pos} {fl fh:FO} (h:QE X e f) (hl:QO X lo fl) (hh:QO X hi fh):QE X (.Subscript e (.Slice lo hi none p2) pos) (fSl f fl fh) :=
 .mk <| PE.imp (zNY (SlR.or zPE (SlR.or zQ4 zPp)) h.un hl.un hh.un) fun τ H Q zz=>by
  obtain ⟨L,σ,M,d,M',c,rs,hf,q⟩:=zz;unfold fSl at hf;split at hf
  ·rename_i x M1 e1;split at hf
   ·rename_i l M2 e2;split at hf
    ·rename_i u M3 e3;refine ⟨L,σ,M,_,_,c,rs,e1,fun L1 H1 v s1 c1 r1=>⟨L1,σ,M1,_,_,c1,rs.stp s1,e2,fun L2 H2 s2 c2=>⟨L2,σ,M2,_,_,c2,rs.stp (s1.trans s2),e3,fun L3 H3 s3 c3=>?_⟩⟩⟩;have s:=(s1.trans s2).trans s3;have r3:zS H L3 H3 x v:=(r1.stp s2).stp s3;unfold kSl at hf;cases t:zBn x with
     | some xs=>
      rw [t] at hf;dsimp only at hf;cases hf;obtain ⟨a,vs,rfl,e4,r4⟩:=zCL r3 t;by_cases hw:HT.sIx vs.length 0 l = 0 /\ HT.sIx vs.length vs.length u = vs.length
      ·refine .inr (.inr ⟨a,vs,rfl,.of e4,hw,?_⟩);have ec:zE1 xs l u = xs:=by
        unfold zE1;rw [<- r4.length,hw.1,hw.2,r4.length];simp
       rw [ec] at q;refine q L3 H3 _ s c3 ?_;unfold zS Rep;exact ⟨a,vs,rfl,e4,r4⟩
      ·refine .inr (.inl ⟨a,vs,rfl,.of e4,hw,fun p hp=>?_⟩);exact q L3 _ _ (s.trans (.upd hp)) (c3.upd hp) (Rep.newTup hp (zK7 r4))
     | none=>
      rw [t] at hf;dsimp only at hf;split at hf
      ·rename_i xs e4;cases hf;obtain ⟨a,vs,rfl,e5,r5⟩:=zB0 c3 r3 e4;refine .inl ⟨a,vs,rfl,.inl e5,fun p hp=>?_⟩;exact q L3 _ _ (s.trans (.upd hp)) (c3.upd hp) (zS.newLst s c c3 hp (zK7 r5))
      ·cases hf
    ·cases hf
   ·cases hf
  ·cases hf
abbrev KB:=List EV -> Mem -> Option (EV × Mem)
def zEy (K:PySem.W.Frag) (r:List V -> Hp -> VK -> Prop) (k:KB):Prop:=∀ {L:List Addr} {M M':Mem} {H H0:Hp} {xs:List EV} {d:EV} {vs:List V} {Q:VK},Cor K L M H -> zBy H0 L H xs vs -> k xs M = some (d,M') ->
 (∀ L' H' u,Stp L H L' H' -> Cor K L' M' H' -> zS H L' H' d u -> Q u H') -> r vs H Q
def fB (k:KB) (f:FAE):FE:=fun σ M=>match f σ M with
 | some (xs,M1)=>k xs M1
 | none=>none
theorem zNf {K:PySem.W.Frag} {r:List V -> Hp -> VK -> Prop} {k:KB} {f:FAE} (hk:zEy K r k) {τ:Sv} {H:Hp} {Q:VK} (h:trE K (fB k f) τ H Q):tCB r (zSs K f) τ H Q:=by
 obtain ⟨L,σ,M,d,M',c,rs,hf,q⟩:=h;unfold fB at hf;split at hf
 ·rename_i xs M1 e1;refine ⟨L,σ,M,_,_,c,rs,e1,fun L1 H1 vs s1 c1 r1=>?_⟩;refine hk c1 r1 hf fun L2 H2 u s2 c2 r2=>?_;exact q L2 H2 u (s1.trans s2) c2 (r2.back s1 c s2.sub)
 ·cases hf
theorem zBy.one {H0:Hp} {L:List Addr} {H:Hp} {x:EV} {vs:List V} (h:zBy H0 L H [x] vs):∃ v,vs = [v] /\ zS H0 L H x v:=by
 obtain ⟨v,r,rfl,h1,h2⟩:=h;unfold zBy at h2;subst h2;exact ⟨v,rfl,h1⟩
def zh:KB:=fun xs M=>match xs with
 | [x]=>match zAf M x with
  | some ys=>some (.dat (.int ys.length),M)
  | none=>none
 | _=>none
theorem zPP:zEy X.K (fun xs H Q=>∃ p ys,xs = [.ref p] /\ (SqL X.K H p ys \/ SqT X.K H p ys) /\ Q (.int ys.length) H) zh:=by
 intro L M M' H H0 xs d vs Q c r hk q;unfold zh at hk;split at hk
 ·rename_i x;split at hk
  ·rename_i ys e1;cases hk;obtain ⟨v,rfl,r1⟩:=r.one;obtain ⟨a,ws,rfl,hs,r2⟩:=zC3 c r1 e1;refine ⟨a,ws,rfl,hs,q L H _ (.refl L H) c ?_⟩;rw [r2.length]; exact (zAX (L:=L) (H:=H))
  ·cases hk
 ·cases hk
theorem zC7 {x:Str} {p:Pos} {id:String} {r:List V -> Hp -> VK -> Prop} {k:KB} {f:FAE} (hk:zEy X.K r k) (hc:zBa X (.builtin id) r) (hv:bootBuiltins x = some (.builtin id)) (hg:Gl X x) (hm:X.mg x = none) (ha:QAE X (e :: es) f) (hn:x ≠ "__name__" := by decide) (hdb:(x == ("__debug__" : Str)) = false:=by decide)
  (he:starEach (e :: es) X.env = (false,eval e X.env) :: starEach es X.env:=by rfl) (hpl:(backTo pos (starEach es X.env)).any (·.1) = false:=by rfl):QE X (.Call (.Name x p) (e :: es) [] pos) (fB k f) :=
 .mk <| PE.imp (zIL hc hg hm hv ha.un hn hdb he hpl) fun _ _ _ h=>zNf hk h
theorem zFS {x:Str} {p:Pos} {T:String} {r:List V -> Hp -> VK -> Prop} {k:KB} {f:FAE} (hk:zEy X.K r k) (hc:zBa X (.type T) r) (hv:bootBuiltins x = some (.type T)) (hg:Gl X x) (hm:X.mg x = none) (ha:QAE X (e :: es) f) (hn:x ≠ "__name__" := by decide) (hdb:(x == ("__debug__" : Str)) = false:=by decide)
  (he:starEach (e :: es) X.env = (false,eval e X.env) :: starEach es X.env:=by rfl) (hpl:(backTo pos (starEach es X.env)).any (·.1) = false:=by rfl):QE X (.Call (.Name x p) (e :: es) [] pos) (fB k f) :=
 .mk <| PE.imp (zEb hc hg hm hv ha.un hn hdb he hpl) fun _ _ _ h=>zNf hk h
def zW:KB:=fun xs M=>match xs with
 | [x]=>match zAf M x with
  | some ys=>some (.dat (.tup ys),M)
  | none=>none
 | _=>none
theorem zL7:zEy X.K (fun xs H Q=>∃ p ys,xs = [.ref p] /\ ((SqL X.K H p ys /\ ∀ l,H l = none -> Q (.ref l) (upd H l (.tup ys))) \/ (SqT X.K H p ys /\ Q (.ref p) H))) zW:=by
 intro L M M' H H0 xs d vs Q c r hk q;unfold zW at hk;split at hk
 ·rename_i x;split at hk
  ·rename_i ys e1;cases hk;obtain ⟨v,rfl,r1⟩:=r.one;unfold zAf at e1;cases t:zBn x with
   | some zs=>
    rw [t] at e1; cases e1;obtain ⟨a,ws,rfl,e2,r2⟩:=zCL r1 t;refine ⟨a,ws,rfl,.inr ⟨.of e2,q L H _ (.refl L H) c ?_⟩⟩;unfold zS Rep;exact ⟨a,ws,rfl,e2,r2⟩
   | none=>
    rw [t] at e1;obtain ⟨a,ws,rfl,e2,r2⟩:=zB0 c r1 e1;refine ⟨a,ws,rfl,.inl ⟨.inl e2,fun p hp=>?_⟩⟩;exact q L _ _ (.upd hp) (c.upd hp) (Rep.newTup hp r2)
  ·cases hk
 ·cases hk
end
set_option genInjectivity true in
inductive Out where
 | nx | ret (d:D) | brk | cnt
abbrev FS:=Sd -> Mem -> Option (Out × Sd × Mem)
def zS5 (E:Ends) (L:List Addr) (H:Hp) (σ:Sd):Out -> Prop
 | .nx=>∀ τ,zAs L H σ τ -> E.nx τ H
 | .ret d=>∀ v,Rep L H d v -> E.rt v H
 | .brk=>∀ τ,zAs L H σ τ -> E.bk τ H
 | .cnt=>∀ τ,zAs L H σ τ -> E.ct τ H
def trS (K:PySem.W.Frag) (f:FS):TS:=fun E τ H=>∃ L σ M o σ' M',Cor K L M H /\ zAs L H σ τ /\ f σ M = some (o,σ',M') /\ ∀ L' H',Stp L H L' H' -> Cor K L' M' H' -> zS5 E L' H' σ' o
structure QS (X:Cx) (st:Stmt) (f:FS):Prop where
 un:PS X st (trS X.K f)
structure QSs (X:Cx) (st:List Stmt) (f:FS):Prop where
 un:PSs X st (trS X.K f)
theorem zAs.set {L:List Addr} {H:Hp} {σ:Sd} {τ:Sv} {i:Nat} {d:D} {v:V} (h:zAs L H σ τ) (r:Rep L H d v):zAs L H (σ.set i (some d)) (τ.set i (some v)):=by
 refine ⟨by simp [h.1],fun j e q=>?_⟩;rw [zVb] at q ⊢;split at q
 ·rename_i z;subst z;split at q
  ·rename_i hl;cases q;rw [zUH rfl,zUH (by rw [h.1]; exact hl)];exact ⟨v,rfl,r⟩
  ·cases q
 ·rename_i z;rw [zUK z];exact h.2 j e q
theorem zNB {K:PySem.W.Frag} {f:FE} {τ:Sv} {H:Hp} {Q:VK} (h:trD K (toD f) τ H Q):trE K f τ H Q:=by
 obtain ⟨L,σ,M,d,M',c,rs,hf,q⟩:=h;unfold toD at hf;split at hf
 ·rename_i d' M1 e1;cases hf;exact ⟨L,σ,M,_,_,c,rs,e1,fun L' H' v s c' r=>q L' H' v s c' r⟩
 ·rename_i xs M1 e1;cases hf;refine ⟨L,σ,M,_,_,c,rs,e1,fun L' H' v s c' r=>?_⟩;obtain ⟨p,vs,rfl,e0,e2,e3,r⟩:=r;obtain ⟨c2,s2⟩:=zQD s c' e0 e2 e3 r;exact q _ H' _ s2 c2 (Rep.last c')
 ·cases hf
def zAZ:FS:=fun σ M=>some (.nx,σ,M)
def zK (f g:FS):FS:=fun σ M=>match f σ M with
 | some (.nx,σ1,M1)=>g σ1 M1
 | r=>r
def sIf (c:FT) (f g:FS):FS:=fun σ M=>match c σ M with
 | some (true,M1)=>f σ M1
 | some (false,M1)=>g σ M1
 | none=>none
def zAO (f:FE):FS:=fun σ M=>match toD f σ M with
 | some (d,M1)=>some (.ret d,σ,M1)
 | none=>none
def zi (i:Nat) (f:FE):FS:=fun σ M=>match toD f σ M with
 | some (d,M1)=>some (.nx,σ.set i (some d),M1)
 | none=>none
def zAv (f:FE):FS:=fun σ M=>match f σ M with
 | some (_,M1)=>some (.nx,σ,M1)
 | none=>none
section
variable {X:Cx} {st:Stmt} {rest:List Stmt} {e c:Expr} {pos:Pos}
theorem zHd:QSs X [] zAZ:=.mk <| PSs.imp zPM fun E τ H zz=>by
 obtain ⟨L,σ,M,o,σ',M',c,rs,hf,q⟩:=zz;unfold zAZ at hf;cases hf;exact q L H (.refl L H) c τ rs
theorem zFE {f g:FS} (h1:QS X st f) (h2:QSs X rest g):QSs X (st :: rest) (zK f g):=.mk <| PSs.imp (zNE h1.un h2.un) fun E τ H zz=>by
 obtain ⟨L,σ,M,o,σ',M',c,rs,hf,q⟩:=zz;unfold zK at hf;split at hf
 ·rename_i σ1 M1 e1;refine ⟨L,σ,M,_,_,_,c,rs,e1,fun L1 H1 s1 c1 τ1 r1=>⟨L1,σ1,M1,_,_,_,c1,r1,hf,fun L2 H2 s2 c2=>q L2 H2 (s1.trans s2) c2⟩⟩
 ·rename_i hne;refine ⟨L,σ,M,_,_,_,c,rs,hf,fun L1 H1 s1 c1=>?_⟩;have z:=q L1 H1 s1 c1;cases o with
  | nx=>exact absurd hf (hne σ' M')
  | ret d=>exact z
  | brk=>exact z
  | cnt=>exact z
theorem zEg {f:FS} (h1:QS X st f):QSs X [st] f:=.mk <| PSs.imp (zO2 h1.un) fun _ _ _ h=>h
theorem zP0 {a b:List Stmt} {fc:FT} {f g:FS} (hc:QT X c fc) (ha:QSs X a f) (hb:QSs X b g):QS X (.If c a b pos) (sIf fc f g):=.mk <| PS.imp (zSk hc.un ha.un hb.un) fun E τ H zz=>by
 obtain ⟨L,σ,M,o,σ',M',c,rs,hf,q⟩:=zz;unfold sIf at hf;split at hf
 ·rename_i M1 e1;refine ⟨L,σ,M,_,_,c,rs,e1,fun L1 H1 s1 c1=>?_⟩;exact zJT ⟨L1,σ,M1,_,_,_,c1,rs.stp s1,hf,fun L2 H2 s2 c2=>q L2 H2 (s1.trans s2) c2⟩
 ·rename_i M1 e1;refine ⟨L,σ,M,_,_,c,rs,e1,fun L1 H1 s1 c1=>?_⟩;exact zKI ⟨L1,σ,M1,_,_,_,c1,rs.stp s1,hf,fun L2 H2 s2 c2=>q L2 H2 (s1.trans s2) c2⟩
 ·cases hf
theorem zG0 {f:FE} (h:QE X e f):QS X (.Return (some e) pos) (zAO f):=.mk <| PS.imp (zRr (zAb h).un) fun E τ H zz=>by
 obtain ⟨L,σ,M,o,σ',M',c,rs,hf,q⟩:=zz;unfold zAO at hf;split at hf
 ·rename_i d M1 e1;cases hf;exact ⟨L,σ,M,_,_,c,rs,e1,fun L1 H1 v s1 c1 r1=>q L1 H1 s1 c1 v r1⟩
 ·cases hf
theorem zJK {K:PySem.W.Frag} {i:Nat} {f:FE} {t:TE} (ht:∀ τ H Q,trE K f τ H Q -> t τ H Q) {E:Ends} {τ:Sv} {H:Hp} (h:trS K (zi i f) E τ H):zOo t (zDN i) E τ H:=by
 obtain ⟨L,σ,M,o,σ',M',c,rs,hf,q⟩:=h;unfold zi at hf;split at hf
 ·rename_i d M1 e1;cases hf;exact ht _ _ _ (zNB ⟨L,σ,M,_,_,c,rs,e1,fun L1 H1 v s1 c1 r1=>q L1 H1 s1 c1 _ ((rs.stp s1).set r1)⟩)
 ·cases hf
theorem zTL {i:Nat} {x:Str} {f:FE} {pos':Pos} (hN:X.N.Nodup) (hi:X.N[i]? = some x) (hx:Loc X.env.scope x) (h:QE X e f) (hs:swapsWith e (some (.Name x pos')) pos.line X.env = pure false:=by rfl)
  (hf:X.fn x = true \/ X.env.scope.names.lookup x = some .local:=by first | exact .inl rfl | exact .inr rfl | assumption):QS X (.Assign [.Name x pos'] e pos) (zi i f) :=
 .mk <| PS.imp (zRA hN hi hx h.un hs hf) fun _ _ _ z=>zJK (fun _ _ _ z=>z) z
theorem zQ0 {f:FE} (h:QE X e f) (hs:swapsWith e none pos.line X.env = pure false:=by rfl):QS X (.Expr e pos) (zAv f):=.mk <| PS.imp (zOu h.un hs) fun E τ H zz=>by
 obtain ⟨L,σ,M,o,σ',M',c,rs,hf,q⟩:=zz;unfold zAv at hf;split at hf
 ·rename_i d M1 e1;cases hf;exact ⟨L,σ,M,_,_,c,rs,e1,fun L1 H1 v s1 c1 r1=>q L1 H1 s1 c1 τ (rs.stp s1)⟩
 ·cases hf
abbrev FG:=D -> Sd -> Option Sd
def GOk (g:TG) (fg:FG):Prop:=∀ {L:List Addr} {H:Hp} {σ σ':Sd} {τ:Sv} {d:D} {v:V} {Q:Sv -> Hp -> Prop},zAs L H σ τ -> Rep L H d v -> fg d σ = some σ' -> (∀ τ',zAs L H σ' τ' -> Q τ' H) -> g v τ H Q
def gN (i:Nat):FG:=fun d σ=>some (σ.set i (some d))
theorem zOh {i:Nat}:GOk (zDN i) (gN i):=by
 intro L H σ σ' τ d v Q rs r hf q;unfold gN at hf;cases hf;exact q _ (rs.set r)
abbrev FI:=Sd -> Mem -> Option (List D × Option (Mem -> Prop) × Mem)
def zCd (g:Option (Mem -> Prop)) (xs:List D) (M:Mem):Prop:=match g with
 | none=>True
 | some p=>p M
def zSy (K:PySem.W.Frag) (J:It) (L:List Addr) (H:Hp) (xs:List D) (g:Option (Mem -> Prop)):Prop:=∀ L' H' M',Stp L H L' H' -> Cor K L' M' H' -> zCd g xs M' ->
 (∀ (i:Nat) d,xs[i]? = some d -> J.go i H' /\ ∀ v H'',J.yld i H' v H'' -> (∀ a o,H' a = some o -> H'' a = some o) /\ Rep L' H'' d v) /\ J.stop xs.length H'
def trI (K:PySem.W.Frag) (f:FI):TI:=fun τ H R=>∃ L σ M xs g M',Cor K L M H /\ zAs L H σ τ /\ f σ M = some (xs,g,M') /\ ∀ L' H' J,Stp L H L' H' -> Cor K L' M' H' -> zSy K J L' H' xs g -> R J H'
structure QI (X:Cx) (tg e:Expr) (f:FI):Prop where
 un:PI X tg e (trI X.K f)
theorem PI.imp {tg e:Expr} {t t':TI} (h:PI X tg e t) (hi:∀ τ H R,t' τ H R -> t τ H R):PI X tg e t':=fun zB s σ H R I q=>h zB s σ H R I (hi _ _ _ q)
noncomputable def zCZ (g:FG) (b:FS) (all:List D) (gd:Option (Mem -> Prop)):List D -> Sd -> Mem -> Option (Out × Sd × Mem)
 | [],σ,M=>open Classical in if zCd gd all M then some (.nx,σ,M) else none
 | x :: r,σ,M=>open Classical in if zCd gd all M then match g x σ with
   | some σ1=>match b σ1 M with
    | some (.nx,σ2,M2)=>zCZ g b all gd r σ2 M2
    | some (.cnt,σ2,M2)=>zCZ g b all gd r σ2 M2
    | some (.brk,σ2,M2)=>some (.nx,σ2,M2)
    | some (.ret d,σ2,M2)=>some (.ret d,σ2,M2)
    | none=>none
   | none=>none
  else none
noncomputable def zBH (fi:FI) (g:FG) (b:FS):FS:=fun σ M=>match fi σ M with
 | some (xs,gd,M1)=>zCZ g b xs gd xs σ M1
 | none=>none
theorem zEc {α:Type} {xs:List α} {i:Nat} (h:i < xs.length):xs.drop i = xs[i] :: xs.drop (i + 1):=List.drop_eq_getElem_cons h
theorem Stp.yld {L L':List Addr} {H H' H'':Hp} (s:Stp L H L' H') (h:∀ a o,H' a = some o -> H'' a = some o):Stp L H L' H'':=s.trans (.grow h)
theorem zMx {K:PySem.W.Frag} {fi:FI} {g:TG} {fg:FG} {b:FS} (hg:GOk g fg) {E:Ends} {τ:Sv} {H:Hp} (h:trS K (zBH fi fg b) E τ H):zSR (trI K fi) g (trS K b) E τ H:=by
 obtain ⟨L,σ,M,o,σf,Mf,c,rs,hf,q⟩:=h;unfold zBH at hf;split at hf
 ·rename_i xs gd M1 e1;refine ⟨L,σ,M,_,_,_,c,rs,e1,fun L1 H1 J s1 c1 it=>?_⟩
  refine ⟨fun i m τ' H'=>m = xs.length - i /\ i <= xs.length /\ ∃ L' σ' M',Stp L1 H1 L' H' /\ Cor K L' M' H' /\ zAs L' H' σ' τ' /\ zCZ fg b xs gd (xs.drop i) σ' M' = some (o,σf,Mf),
   ⟨xs.length,by simp,zUo _,L1,σ,M1,.refl _ _,c1,rs.stp s1,by simpa using hf⟩,?_⟩
  rintro i m τ' H' ⟨rfl,hi,L',σ',M',s',c',rs',e'⟩;by_cases hlt:i < xs.length
  ·rw [zEc hlt] at e';unfold zCZ at e';split at e'
   ·rename_i hgd;obtain ⟨step,_⟩:=it L' H' M' s' c' hgd;obtain ⟨go,yl⟩:=step i xs[i] (zT6 hlt);cases eg:fg xs[i] σ' with
    | none=>rw [eg] at e'; cases e'
    | some σ1=>
     rw [eg] at e';dsimp only at e';refine .inr ⟨go,fun τ2 H2=>∃ L2 σ2 M2,Stp L1 H1 L2 H2 /\ Cor K L2 M2 H2 /\ zAs L2 H2 σ2 τ2 /\ zCZ fg b xs gd (xs.drop (i + 1)) σ2 M2 = some (o,σf,Mf),fun τ2 H2 ⟨L2,σ2,M2,a1,a2,a3,a4⟩=>⟨xs.length - (i + 1),by omega,rfl,hlt,L2,σ2,M2,a1,a2,a3,a4⟩,fun v H2 hy=>?_⟩;obtain ⟨gr,rv⟩:=yl v H2 hy;refine hg (zAs.stp (.grow gr) rs') rv eg fun τ2 r2=>?_;cases eb:b σ1 M' with
     | none=>rw [eb] at e'; cases e'
     | some r=>
      obtain ⟨o2,σ2,M2⟩:=r;rw [eb] at e';refine ⟨L',σ1,M',_,_,_,c'.grow gr,r2,eb,fun L3 H3 s3 c3=>?_⟩;have s13:Stp L1 H1 L3 H3:=(s'.yld gr).trans s3;cases o2 with
      | nx=>exact fun τ3 r3=>⟨L3,σ2,M2,s13,c3,r3,e'⟩
      | cnt=>exact fun τ3 r3=>⟨L3,σ2,M2,s13,c3,r3,e'⟩
      | brk=>cases e'; exact q L3 H3 (s1.trans s13) c3
      | ret d=>cases e'; exact q L3 H3 (s1.trans s13) c3
   ·cases e'
  ·have hi':i = xs.length:=by omega
   subst hi';rw [List.drop_length] at e';unfold zCZ at e';split at e'
   ·rename_i hgd;cases e';obtain ⟨_,stop⟩:=it L' H' _ s' c' hgd;exact .inl ⟨stop,q L' H' (s1.trans s') c' τ' rs'⟩
   ·cases e'
 ·cases hf
theorem zQC {tg iter:Expr} {body:List Stmt} {fi:FI} {g:TG} {fg:FG} {b:FS} (hg:GOk g fg) (hp:PassesOwn (model X.prog X.w) X.A X.env X.xe) (hc:X.calm = true) (hi:QI X tg iter fi) (ht:PG X tg g) (hb:QSs X body b)
  (hs:∀ x,foldedSetIterable iter X.env x = pure x:=by intro _; rfl):QS X (.For tg iter body [] pos) (zBH fi fg b):=.mk <| PS.imp (zRF hp hc hi.un ht hb.un hs) fun _ _ _ h=>zMx hg h
end
section
variable {X:Cx} {e c iter tg elt:Expr} {pos:Pos} {scope:Scope} {ifs:List Expr}
def zt (c:FT) (b:FS):Nat -> Sd -> Mem -> Option (Out × Sd × Mem)
 | 0,_,_=>none
 | n + 1,σ,M=>match c σ M with
  | some (true,M1)=>match b σ M1 with
   | some (.nx,σ2,M2)=>zt c b n σ2 M2
   | some (.cnt,σ2,M2)=>zt c b n σ2 M2
   | some (.brk,σ2,M2)=>some (.nx,σ2,M2)
   | some (.ret d,σ2,M2)=>some (.ret d,σ2,M2)
   | none=>none
  | some (false,M1)=>some (.nx,σ,M1)
  | none=>none
theorem zJ6 {K:PySem.W.Frag} {fc:FT} {b:FS} {n:Nat} {E:Ends} {τ:Sv} {H:Hp} (h:trS K (zt fc b n) E τ H):zM5 (trT K fc) (trS K b) E τ H:=by
 obtain ⟨L,σ,M,o,σf,Mf,c,rs,hf,q⟩:=h;refine ⟨fun m τ' H'=>∃ L' σ' M',Stp L H L' H' /\ Cor K L' M' H' /\ zAs L' H' σ' τ' /\ zt fc b m σ' M' = some (o,σf,Mf),⟨n,L,σ,M,.refl _ _,c,rs,hf⟩,?_⟩;rintro m τ' H' ⟨L',σ',M',s',c',rs',e'⟩;cases m with
 | zero=>unfold zt at e'; cases e'
 | succ m=>
  unfold zt at e';split at e'
  ·rename_i M1 e1;refine ⟨L',σ',M',_,_,c',rs',e1,fun L1 H1 s1 c1=>zJT ?_⟩;refine ⟨fun τ2 H2=>∃ L2 σ2 M2,Stp L H L2 H2 /\ Cor K L2 M2 H2 /\ zAs L2 H2 σ2 τ2 /\ zt fc b m σ2 M2 = some (o,σf,Mf),fun τ2 H2 h2=>⟨m,zUz m,h2⟩,?_⟩;cases eb:b σ' M1 with
   | none=>rw [eb] at e'; cases e'
   | some r=>
    obtain ⟨o2,σ2,M2⟩:=r;rw [eb] at e';refine ⟨L1,σ',M1,_,_,_,c1,rs'.stp s1,eb,fun L3 H3 s3 c3=>?_⟩;have s13:Stp L H L3 H3:=(s'.trans s1).trans s3;cases o2 with
    | nx=>exact fun τ3 r3=>⟨L3,σ2,M2,s13,c3,r3,e'⟩
    | cnt=>exact fun τ3 r3=>⟨L3,σ2,M2,s13,c3,r3,e'⟩
    | brk=>cases e'; exact q L3 H3 s13 c3
    | ret d=>cases e'; exact q L3 H3 s13 c3
  ·rename_i M1 e1;cases e';exact ⟨L',_,M',_,_,c',rs',e1,fun L1 H1 s1 c1=>zKI (q L1 H1 (s'.trans s1) c1 τ' (rs'.stp s1))⟩
  ·cases e'
theorem zO0 {body:List Stmt} {fc:FT} {b:FS} (n:Nat) (hp:PassesOwn (model X.prog X.w) X.A X.env X.xe) (hc:QT X c fc) (hb:QSs X body b):QS X (.While c body [] pos) (zt fc b n) :=
 .mk <| PS.imp (zNw hp hc.un hb.un) fun _ _ _ h=>zJ6 h
def zGW (own:List Nat) (σ:Sd):Sd:=own.foldl (fun σ i=>σ.set i none) σ
theorem zHw {L:List Addr} {H:Hp}:∀ (own:List Nat) {σ:Sd} {τ:Sv},zAs L H σ τ -> zAs L H (zGW own σ) (clr own τ)
 | [],_,_,h=>h
 | i :: r,σ,τ,h=>by
  refine zHw r (σ:=σ.set i none) (τ:=τ.set i none) ⟨by simp [h.1],fun j d q=>?_⟩;rw [zVb] at q ⊢;split at q
  ·split at q <;> cases q
  ·rename_i z;rw [zUK z];exact h.2 j d q
noncomputable def zBk (g:FG) (tc:FT) (te:FE) (σ:Sd) (all:List D) (gd:Option (Mem -> Prop)):List D -> Mem -> Option (List D × Mem)
 | [],M=>open Classical in if zCd gd all M then some ([],M) else none
 | x :: r,M=>open Classical in if zCd gd all M then match g x σ with
   | some σ1=>match tc σ1 M with
    | some (true,M1)=>match toD te σ1 M1 with
     | some (d,M2)=>match zBk g tc te σ all gd r M2 with
      | some (ds,M3)=>some (d :: ds,M3)
      | none=>none
     | none=>none
    | some (false,M1)=>zBk g tc te σ all gd r M1
    | none=>none
   | none=>none
  else none
noncomputable def zAQ (own:List Nat) (fi:FI) (g:FG) (tc:FT) (te:FE):FE:=fun σ M=>match fi σ M with
 | some (xs,gd,M1)=>if xs.length <= sizeLine then match zBk g tc te (zGW own σ) xs gd xs M1 with
   | some (ys,M2)=>some (.fl ys,M2)
   | none=>none
  else none
 | none=>none
def zJm (own:List Nat) (g:TG) (fg:FG):Prop:=∀ {L:List Addr} {H:Hp} {σ σ':Sd} {τ τ0:Sv} {d:D} {v:V} {Q:Sv -> Hp -> Prop},zAs L H σ τ -> Ext (clr own τ0) τ -> Rep L H d v -> fg d σ = some σ' -> (∀ τ',zAs L H σ' τ' -> Ext (clr own τ0) τ' -> Q τ' H) -> g v τ H Q
theorem zC9 {own:List Nat} {i:Nat} (hi:i ∈ own):zJm own (zDN i) (gN i):=by
 intro L H σ σ' τ τ0 d v Q rs ex r hf q;unfold gN at hf;cases hf;exact q _ (rs.set r) (ex.set hi)
theorem zGm {K:PySem.W.Frag} {own:List Nat} {fi:FI} {g:TG} {fg:FG} {tc:FT} {te:FE} (hg:zJm own g fg) {τ:Sv} {H:Hp} {Q:VK} (h:trE K (zAQ own fi fg tc te) τ H Q):zOC own (trI K fi) g (trT K tc) (trD K (toD te)) τ H Q:=by
 obtain ⟨L,σ,M,d,Mf,c,rs,hf,q⟩:=h;unfold zAQ at hf;split at hf
 ·rename_i xs gd M1 e1;split at hf
  ·rename_i hz;split at hf
   ·rename_i zs M2 e2;cases hf;refine ⟨L,σ,M,_,_,_,c,rs,e1,fun L1 H1 J s1 c1 it=>?_⟩
    refine ⟨fun i m ys H'=>m = xs.length - i /\ i <= xs.length /\ ∃ L' M' as bs,Stp L1 H1 L' H' /\ Cor K L' M' H' /\ zH L' H' as ys /\ as.length <= i /\ zBk fg tc te (zGW own σ) xs gd (xs.drop i) M' = some (bs,Mf) /\ as ++ bs = zs,
     ⟨xs.length,by simp,zUo _,L1,M1,[],zs,.refl _ _,c1,.nil,zT8 _,by simpa using e2,rfl⟩,?_⟩
    rintro i m ys H' ⟨rfl,hi,L',M',as,bs,s',c',r',hl,e',hab⟩;have hys:ys.length <= i:=by rw [r'.length]; exact hl
    by_cases hlt:i < xs.length
    ·rw [zEc hlt] at e';unfold zBk at e';split at e'
     ·rename_i hgd;obtain ⟨step,_⟩:=it L' H' M' s' c' hgd;obtain ⟨go,yl⟩:=step i xs[i] (zT6 hlt);split at e'
      ·rename_i σ1 eg;refine .inr ⟨go,fun v H2 hy=>?_⟩;obtain ⟨gr,rv⟩:=yl v H2 hy;have s2:Stp L1 H1 L' H2:=s'.yld gr;refine hg (zHw own ((rs.stp s1).stp s2)) (.refl _) rv eg fun τ2 r2 x2=>⟨x2,?_⟩;split at e'
       ·rename_i M3 e3;split at e'
        ·rename_i d M4 e4;split at e'
         ·rename_i ds M5 e5;cases e';refine ⟨L',σ1,M',_,_,c'.grow gr,r2,e3,fun L3 H3 s3 c3=>zJT ?_⟩;refine ⟨L3,σ1,M3,_,_,c3,r2.stp s3,e4,fun L4 H4 w s4 c4 r4=>?_⟩;have st:Stp L' H' L4 H4:=((Stp.grow gr).trans s3).trans s4;refine ⟨Nat.lt_of_le_of_lt hys (zUR hlt hz),xs.length - (i + 1),by omega,rfl,hlt,L4,M4,as ++ [d],ds,s'.trans st,c4,(r'.stp st).app (.cons r4 .nil),by simp; omega,e5,by rw [<- hab]; simp⟩
         ·cases e'
        ·cases e'
       ·rename_i M3 e3;refine ⟨L',σ1,M',_,_,c'.grow gr,r2,e3,fun L3 H3 s3 c3=>zKI ?_⟩;have st:Stp L' H' L3 H3:=(Stp.grow gr).trans s3;exact ⟨xs.length - (i + 1),by omega,rfl,hlt,L3,M3,as,bs,s'.trans st,c3,r'.stp st,by omega,e',hab⟩
       ·cases e'
      ·cases e'
     ·cases e'
    ·have hi':i = xs.length:=by omega
     subst hi';rw [List.drop_length] at e';unfold zBk at e';split at e'
     ·rename_i hgd;cases e';obtain ⟨_,stop⟩:=it L' H' _ s' c' hgd;refine .inl ⟨stop,zUT hys hz,fun p hp=>?_⟩;rw [zUm] at hab;subst hab;exact q L' _ _ ((s1.trans s').trans (.upd hp)) (c'.upd hp) (zS.newLst (s1.trans s') c c' hp r')
     ·cases e'
   ·cases hf
  ·cases hf
 ·cases hf
structure QIfs (X:Cx) (ifs:List Expr) (f:FT):Prop where
 un:zMj X ifs (trT X.K f)
def zAp:FT:=fun _ M=>some (true,M)
theorem zNV:QIfs X [] zAp:=.mk fun zB s σ H Q I h=>by
 obtain ⟨L,σ',M,d,M',c,rs,hf,q⟩:=h;unfold zAp at hf;cases hf;exact zNT zB s σ H Q I (q L H (.refl L H) c)
theorem zQV {f:FT} (h:QT X c f):QIfs X [c] f:=.mk (zNX h.un)
structure QParts (X:Cx) (scope:Scope) (tg:Expr) (ifs:List Expr) (elt:Expr) (g:TG) (tc:FT) (te:FE):Prop where
 g:∀ zB cl s H fp,PG (zf X zB scope cl s H fp) tg g
 c:∀ zB cl s H fp,QIfs (zf X zB scope cl s H fp) ifs tc
 e:∀ zB cl s H fp,QE (zf X zB scope cl s H fp) elt te
theorem QParts.parts {g:TG} {tc:FT} {te:FE} (p:QParts X scope tg ifs elt g tc te):CompParts X scope tg ifs elt g (trT X.K tc) (trD X.K (toD te)) :=
 ⟨p.g,fun zB cl s H fp=>(p.c zB cl s H fp).un,fun zB cl s H fp=>(zAb (p.e zB cl s H fp)).un⟩
theorem zKD {own:List Nat} {fi:FI} {g:TG} {fg:FG} {tc:FT} {te:FE} (hg:zJm own g fg) (C:CompIn X scope own) (hcalm:X.calm = true) (hi:QI X tg iter fi) (p:QParts X scope tg ifs elt g tc te) (hs:∀ x,foldedSetIterable iter X.env x = pure x:=by intro _; rfl) :
  QE X (.ListComp elt [⟨tg,iter,ifs,0⟩] scope pos) (zAQ own fi fg tc te):=.mk <| PE.imp (zP8 C hcalm hi.un p.parts hs) fun _ _ _ h=>zGm hg h
theorem zL3 {i:Nat} {x:Str} {pos' pos'':Pos} {own:List Nat} {fi:FI} {g:TG} {fg:FG} {tc:FT} {te:FE} (hN:X.N.Nodup) (hi':X.N[i]? = some x) (hx:Loc X.env.scope x) (hfn:X.fn x = true \/ X.env.scope.names.lookup x = some .local)
  (hsw:swapsWith (.ListComp elt [⟨tg,iter,ifs,0⟩] scope pos) (some (.Name x pos')) pos''.line X.env = pure true)
  (hg:zJm own g fg) (C:CompIn X scope own) (hcalm:X.calm = true) (hi:QI X tg iter fi) (p:QParts X scope tg ifs elt g tc te) (hs:∀ x,foldedSetIterable iter X.env x = pure x:=by intro _; rfl) :
  QS X (.Assign [.Name x pos'] (.ListComp elt [⟨tg,iter,ifs,0⟩] scope pos) pos'') (zi i (zAQ own fi fg tc te)) :=
 .mk <| PS.imp (zKa hN hi' hx hfn C hcalm hi.un p.parts hsw hs) fun _ _ _ z=>zJK (fun _ _ _ z=>zGm hg z) z
end
abbrev FF:=List D -> Mem -> Option (D × Mem)
def spF (K:PySem.W.Frag) (n:Nat) (g:FF):Sp:=fun vs H Q _=>∃ L ds M d M',Cor K L M H /\ zH L H ds vs /\ ds.length = n /\ g ds M = some (d,M') /\ ∀ L' H' v,Stp L H L' H' -> Cor K L' M' H' -> Rep L' H' d v -> Q v H'
def zY (g:FF) (fa:FA):FE:=fun σ M=>match fa σ M with
 | some (ds,M1)=>match g ds M1 with
  | some (d,M2)=>some (.dat d,M2)
  | none=>none
 | none=>none
section
variable {X:Cx} {e:Expr} {es:List Expr} {pos p:Pos} {x:Str} {k:Nat} {f:Addr} {fd:FuncData} {ps:List Str}
theorem zQb {g:FF} {fa:FA} (F:FnOk X.prog X.w X.K X.mg X.base CX0 k f fd ps (spF X.K (e :: es).length g)) (hr:Room k X.A) (hg:Gl X x) (hm:X.mg x = some (.ref f)) (hk:PySem.W.keepIn X.K (.ref f) = true) (hb:zDD X.K fd ps [])
  (ha:QA X (e :: es) fa) (hl:∀ σ M ds M1,fa σ M = some (ds,M1) -> ds.length = (e :: es).length) (hdb:(x == ("__debug__" : Str)) = false:=by decide) (he:starEach (e :: es) X.env = (false,eval e X.env) :: starEach es X.env:=by rfl) (hpl:(backTo pos (starEach es X.env)).any (·.1) = false:=by rfl) :
  QE X (.Call (.Name x p) (e :: es) [] pos) (zY g fa) :=
 .mk <| PE.imp (zO4 F hr hg hm hk hb .nil zQL ha.un hdb he hpl) fun τ H Q zz=>by
  obtain ⟨L,σ,M,d,M',c,rs,hf,q⟩:=zz;unfold zY at hf;split at hf
  ·rename_i ds M1 e1;split at hf
   ·rename_i d' M2 e2;cases hf;refine ⟨L,σ,M,_,_,c,rs,e1,fun L1 H1 vs s1 c1 r1=>?_⟩;dsimp only;rw [zUm];exact ⟨L1,ds,M1,d',_,c1,r1,hl _ _ _ _ e1,e2,fun L2 H2 v s2 c2 r2=>q L2 H2 v (s1.trans s2) c2 r2⟩
   ·cases hf
  ·cases hf
def zKU (fa:FA) (n:Nat):Prop:=∀ σ M ds M1,fa σ M = some (ds,M1) -> ds.length = n
theorem zEC:zKU zL 0:=fun σ M ds M1 h=>by unfold zL at h; cases h; rfl
theorem zB9 {f:FD} {g:FA} {n:Nat} (h:zKU g n):zKU (zD f g) (n + 1):=fun σ M ds M1 q=>by
 unfold zD at q;split at q
 ·split at q
  ·rename_i e2;cases q;simp [h _ _ _ _ e2]
  ·cases q
 ·cases q
def zBP (n:Nat) (b:FS):FF:=fun ds M=>match b (ds.map some ++ List.replicate (n - ds.length) none) M with
 | some (.ret d,_,M')=>some (d,M')
 | some (.nx,_,M')=>some (.non,M')
 | _=>none
theorem zDA {L:List Addr} {H:Hp} {N:List Str}:∀ {ds:List D} {vs:List V},zH L H ds vs -> zAs L H (ds.map some ++ List.replicate (N.length - ds.length) none) (L2.zDG N vs):=fun {ds vs} r=>by
 unfold L2.zDG;have hl:=r.length;refine ⟨by simp [hl],fun i d q=>?_⟩;by_cases hi:i < ds.length
 ·rw [zT9 (by simpa using hi),zUP] at q;rw [zT9 (by simpa [hl] using hi),zUP];cases e1:ds[i]? with
  | none=>rw [e1] at q; cases q
  | some d'=>
   rw [e1] at q; cases q;obtain ⟨v,e2,r2⟩:=r.get e1;exact ⟨v,by rw [e2]; rfl,r2⟩
 ·rw [zVC (by simpa using hi),List.getElem?_replicate] at q;split at q <;> cases q
theorem zAn {P:Program} {w:World} {K:PySem.W.Frag} {mg:Str -> Option Value} {base:Heap} {qual:Str} {st:Stmt} {N:List Str} {b:FS} {n:Nat} (F:Fun K x qual st f fd) (S:FnScope N ps (zP st)) (hn:ps.length = n)
  (hb:∀ (cdv:Value) (A:Around) (outer:List Env) (s:Shared) (H:Hp) (E:XK),Room k (A.deeper (envOfC qual (zP st) s.heap.objs.size f cdv)) -> QSs (zIA CX0 P w K mg base N qual (zP st) f cdv A outer s H E).nox (zBM st) b) :
  FnOk P w K mg base CX0 (k + 1) f fd ps (spF K n (zBP N.length b)):=by
 refine F.ok S (fun vs H Q E h=>?_) (fun cdv A outer s H vs Q E hr h=>⟨_,(hb cdv A outer s H E hr).un,?_⟩)
 ·obtain ⟨L,ds,M,d,M',c,r,hl,_⟩:=h;rw [r.length,hl,hn]
 ·obtain ⟨L,ds,M,d,M',c,r,hl,hf,q⟩:=h;unfold zBP at hf;split at hf
  ·rename_i d' σ' M1 e1;cases hf;exact ⟨L,_,M,_,_,_,c,zDA r,e1,fun L1 H1 s1 c1 v r1=>q L1 H1 v s1 c1 r1⟩
  ·rename_i σ' M1 e1;cases hf;exact ⟨L,_,M,_,_,_,c,zDA r,e1,fun L1 H1 s1 c1 τ' r1=>q L1 H1 .non s1 c1 (by unfold Rep; rfl)⟩
  ·cases hf
mutual
def D.und (n:Nat):D -> Bool
 | .tup ds=>D.unds n ds
 | .ref k=>decide (k < n)
 | .fn _ ds=>D.unds n ds
 | _=>true
def D.unds (n:Nat):List D -> Bool
 | []=>true
 | d :: ds=>D.und n d && D.unds n ds
end
mutual
theorem Rep.less {L N:List Addr} {H:Hp}:∀ {d:D} {v:V},D.und L.length d = true -> Rep (L ++ N) H d v -> Rep L H d v
 | .non,_,_,h=>by unfold Rep at h ⊢; exact h
 | .bl _,_,_,h=>by unfold Rep at h ⊢; exact h
 | .int _,_,_,h=>by unfold Rep at h ⊢; exact h
 | .str _,_,_,h=>by unfold Rep at h ⊢; exact h
 | .tup ds,_,hb,h=>by
  unfold D.und at hb;unfold Rep at h ⊢;obtain ⟨a,vs,rfl,e,r⟩:=h;exact ⟨a,vs,rfl,e,zH.less hb r⟩
 | .ref n,_,hb,h=>by
  unfold D.und at hb;unfold Rep at h ⊢;obtain ⟨a,rfl,e⟩:=h;exact ⟨a,rfl,by rwa [zT9 (zUy hb)] at e⟩
 | .fn _ ds,_,hb,h=>by
  unfold D.und at hb;unfold Rep at h ⊢;exact ⟨h.1,h.2.1,zH.less hb h.2.2⟩
theorem zH.less {L N:List Addr} {H:Hp}:∀ {ds:List D} {vs:List V},D.unds L.length ds = true -> zH (L ++ N) H ds vs -> zH L H ds vs
 | [],_,_,h=>by unfold zH at h ⊢; exact h
 | d :: ds,_,hb,h=>by
  unfold D.unds at hb;rw [zUc] at hb;unfold zH at h ⊢;obtain ⟨v,r,rfl,h1,h2⟩:=h;exact ⟨v,r,rfl,Rep.less hb.1 h1,zH.less hb.2 h2⟩
end
theorem zAD.less {κ:Type} {kf:D -> Option κ} {L N:List Addr} {H:Hp}:∀ {ps:List (D × D)} {vs:List (κ × V)},(ps.all fun p=>D.und L.length p.1 && D.und L.length p.2) = true -> zAD kf (L ++ N) H ps vs -> zAD kf L H ps vs
 | [],_,_,h=>h
 | p :: r,_,hb,h=>by
  rw [List.all_cons,zUc,zUc] at hb;obtain ⟨k,v,r',rfl,e,h1,h2⟩:=h;exact ⟨k,v,r',rfl,e,Rep.less hb.1.2 h1,zAD.less hb.2 h2⟩
def MO.und (n:Nat):MO -> Bool
 | .lst xs=>D.unds n xs
 | .fro xs=>D.unds n xs
 | .dict kvs=>kvs.all fun p=>D.und n p.1 && D.und n p.2
 | .dicT kvs=>kvs.all fun p=>D.und n p.1 && D.und n p.2
 | .set xs=>D.unds n xs
 | .froT kvs=>kvs.all fun p=>D.und n p.1 && D.und n p.2
 | .froK kvs=>kvs.all fun p=>D.und n p.1 && D.und n p.2
def zGy (g:FF):FF:=fun ds M=>match g ds M with
 | some (d,M')=>if D.und M.length d && (M'.take M.length).all (MO.und M.length) && decide (M.length <= M'.length) then some (d,M'.take M.length) else none
 | none=>none
theorem zKx {P:Program} {w:World} {K:PySem.W.Frag} {mg:Str -> Option Value} {base:Heap} {n:Nat} {g:FF} (h:FnOk P w K mg base CX0 k f fd ps (spF K n g)):FnOk P w K mg base CX0 k f fd ps (spF K n (zGy g)) :=
 h.imp fun vs H Q E ⟨L,ds,M,d,M',c,r,hl,hf,q⟩=>by
  unfold zGy at hf;split at hf
  ·rename_i d' M1 e1;split at hf
   ·rename_i hb;cases hf;simp only [zUc,zVF,zUd] at hb;obtain ⟨⟨hb1,hb2⟩,hb3⟩:=hb;refine ⟨L,ds,M,_,_,c,r,hl,e1,fun L1 H1 v s1 c1 r1=>?_⟩;obtain ⟨N,rfl⟩:=s1.pre;rw [<- c.len] at hb1 hb2 hb3;refine q L H1 v ⟨⟨[],by simp⟩,fun a ha=> .inl ha,s1.old,s1.tup,s1.frz,s1.tbl⟩ ⟨?_,?_,fun i a m e2 e3=>?_,c1.tab⟩ (Rep.less hb1 r1)
    ·rw [zVQ,<- c.len]; omega
    ·exact (zVG.mp c1.nd).1
    ·rw [<- c.len] at e3;have hi:i < L.length:=(zT0.mp e2).1;have hm:m ∈ M1.take L.length:=zUt e3;rw [List.getElem?_take_of_lt hi] at e3;have z:=c1.obj i a m (zDs e2) e3;have bl:=hb2 m hm;cases m with
     | lst xs=>obtain ⟨ws,e4,r4⟩:=z; exact ⟨ws,e4,zH.less bl r4⟩
     | fro xs=>obtain ⟨o,ws,e4,r4⟩:=z; exact ⟨o,ws,e4,zH.less bl r4⟩
     | dict ps=>obtain ⟨vs,e,r⟩:=z; exact ⟨vs,e,zAD.less bl r⟩
     | dicT ps=>obtain ⟨vs,e,r⟩:=z; exact ⟨vs,e,zAD.less bl r⟩
     | set _=>exact z
     | froT ps=>obtain ⟨o,vs,e,r⟩:=z; exact ⟨o,vs,e,zAD.less bl r⟩
     | froK ps=>obtain ⟨o,vs,e,r⟩:=z; exact ⟨o,vs,e,zAD.less bl r⟩
   ·cases hf
  ·cases hf
def zCm (g:FF):FF:=fun ds M=>if D.unds 0 ds then match g ds [] with
  | some (d,_)=>if D.und 0 d then some (d,M) else none
  | none=>none
 else none
theorem zCN {P:Program} {w:World} {K:PySem.W.Frag} {mg:Str -> Option Value} {base:Heap} {n:Nat} {g:FF} (h:FnOk P w K mg base CX0 k f fd ps (spF K n g)):FnOk P w K mg base CX0 k f fd ps (spF K n (zCm g)) :=
 h.imp fun vs H Q E ⟨L,ds,M,d,M',c,r,hl,hf,q⟩=>by
  unfold zCm at hf;split at hf
  ·rename_i hb0;split at hf
   ·rename_i d' M1 e1;split at hf
    ·rename_i hb;cases hf;refine ⟨[],ds,[],_,_,⟨rfl,.nil,fun i a m e=>by simp at e,c.tab⟩,zH.less (L:=[]) (N:=L) hb0 (by simpa using r),hl,e1,fun L1 H1 v s1 c1 r1=>?_⟩;exact q L H1 v s1.bare (c.bare s1) ((Rep.less (L:=[]) (N:=L1) hb (by simpa using r1)).more L |> fun z=>by simpa using z)
    ·cases hf
   ·cases hf
  ·cases hf
theorem zRY {X:Cx} {tg l:Expr} {tl:TE} (hl:PE X l tl):PI X tg l (fun σ H R=>tl σ H fun x H1=>∃ a,x = .ref a /\ ((∃ xs,SqL X.K H1 a xs) /\ R (Itl X.K a) H1 \/ (∃ xs,SqT X.K H1 a xs) /\ R (Itt X.K a) H1)):=by
 intro zB s σ H R I h;refine thn (hl zB s σ H _ I h) fun v s1 ⟨y,H1,I1,r1,a,hy,h1⟩=>?_;subst hy;cases r1;have fpk:∀ b ∈ [s1.heap.objs.size],zCh X zB H1 b:=fun b hb=>by
  have e:b = s1.heap.objs.size:=by simpa using hb
  subst e;exact I1.fpOk (zT8 _) (I1.hok.fresh (zT8 _))
 rcases h1 with ⟨⟨xs,hq⟩,q⟩ | ⟨⟨xs,hq⟩,q⟩
 ·obtain ⟨its,rv,pl,hz⟩:=I1.list hq;exact wpAny_pyIter_list pl.isList ⟨s1.heap.objs.size,[s1.heap.objs.size],_,_,H1,rfl,I1.kept (t':=s1.toks) fun b o e=>zTy _ e,zL4 a _,⟨_,zUC _ rfl,rfl,rfl⟩,fpk,q⟩
 ·obtain ⟨its,rv,pl,hz⟩:=I1.tuple hq;exact wpAny_pyIter_tuple (show s1.heap.IsTuple a its.toArray from pl) ⟨s1.heap.objs.size,[s1.heap.objs.size],_,_,H1,rfl,I1.kept (t':=s1.toks) fun b o e=>zTy _ e,zKP a _,⟨_,zUC _ rfl,rfl,rfl⟩,fpk,q⟩
def zPA (x:EV) (xs:List D):Option (Mem -> Prop):=match x with
 | .dat (.ref n)=>some fun M=>M[n]? = some (.lst xs) \/ M[n]? = some (.fro xs)
 | _=>none
def zBt (f:FE):FI:=fun σ M=>match f σ M with
 | some (x,M1)=>match zAf M1 x with
  | some xs=>some (xs,zPA x xs,M1)
  | none=>none
 | none=>none
def zAC (f:FA):FI:=fun σ M=>match f σ M with
 | some ([.int j],M1)=>if -(2 ^ 62) <= j /\ j < 2 ^ 62 then some ((List.range j.toNat).map fun (k:Nat)=>D.int k,none,M1) else none
 | some ([.int i,.int j],M1)=>if -(2 ^ 62) <= i /\ i < 2 ^ 62 /\ -(2 ^ 62) <= j /\ j < 2 ^ 62 then some ((List.range (j - i).toNat).map fun (k:Nat)=>D.int (i + k),none,M1) else none
 | _=>none
theorem zRw {tg:Expr} {g:FE} (h:QE X e g):QI X tg e (zBt g):=.mk <| PI.imp (zRY h.un) fun τ H R zz=>by
 obtain ⟨L,σ,M,xs,gd,M',c,rs,hf,q⟩:=zz;unfold zBt at hf;split at hf
 ·rename_i y M1 e1;split at hf
  ·rename_i zs e2;cases hf;refine ⟨L,σ,M,_,_,c,rs,e1,fun L1 H1 v s1 c1 r1=>?_⟩;unfold zAf at e2;cases t:zBn y with
   | some ws=>
    rw [t] at e2; cases e2;obtain ⟨a,vs,rfl,e3,r3⟩:=zCL r1 t;refine ⟨a,rfl,.inr ⟨⟨vs,.of e3⟩,q L1 H1 _ s1 c1 fun L2 H2 M2 s2 c2 _=>?_⟩⟩;have e4:=s2.tup a vs e3;have r4:=r3.stp s2;refine ⟨fun i d hd=>?_,⟨vs,.of e4,by rw [r4.length]; exact zT8 _⟩⟩;obtain ⟨u,hu,ru⟩:=r4.get hd;refine ⟨⟨vs,u,.of e4,hu⟩,fun v H3 ⟨hH,hv⟩=>?_⟩;subst hH;have:=hv vs (.of e4);rw [hu] at this; cases this;exact ⟨fun _ _ z=>z,ru⟩
   | none=>
    rw [t] at e2;dsimp only at e2;obtain ⟨a,vs,rfl,e3,r3⟩:=zB0 c1 r1 e2;refine ⟨a,rfl,.inl ⟨⟨vs,.inl e3⟩,q L1 H1 _ s1 c1 fun L2 H2 M2 s2 c2 hgd=>?_⟩⟩;have key:∃ vs',SqL X.K H2 a vs' /\ zH L2 H2 xs vs':=by
     cases y with
     | fl ys=>
      cases e2;obtain ⟨p',vs',hp',_,e5,e6,r6⟩:=r1;cases hp';exact ⟨vs',.of (s2.old _ _ e5 e6 (by intro _ z; cases z)),r6.stp s2⟩
     | dat d=>
      cases d with
      | ref n=>
       unfold zS Rep at r1;obtain ⟨a',ha',e5⟩:=r1;cases ha';have e6:L2[n]? = some a:=by obtain ⟨N,hN⟩:=s2.pre; rw [hN]; exact zDs e5
       rcases hgd with z | z
       ·obtain ⟨vs',e7,r7⟩:=c2.obj n a _ e6 z; exact ⟨vs',.of e7,r7⟩
       ·obtain ⟨o,vs',e7,r7⟩:=c2.obj n a _ e6 z; exact ⟨vs',.inl (.inr ⟨o,e7⟩),r7⟩
      | _=>cases e2
    obtain ⟨vs',hq,r7⟩:=key;refine ⟨fun i d hd=>?_,⟨vs',hq,by rw [r7.length]; exact zT8 _⟩⟩;obtain ⟨u,hu,ru⟩:=r7.get hd;refine ⟨⟨vs',u,hq,hu⟩,fun v H3 ⟨hH,hv⟩=>?_⟩;subst hH;have:=hv vs' hq;rw [hu] at this; cases this;exact ⟨fun _ _ z=>z,ru⟩
  ·cases hf
 ·cases hf
theorem zLi {L:List Addr} {H:Hp} {j:Int} {vs:List V} (h:zH L H [.int j] vs):vs = [.int j]:=by
 unfold zH at h;obtain ⟨v,r,rfl,h1,h2⟩:=h;unfold zH at h2;unfold Rep at h1;subst h1 h2; rfl
theorem zNQ {K:PySem.W.Frag} {L:List Addr} {H:Hp} {lo:Int} {n:Nat}:zSy K (Itr lo n) L H ((List.range n).map fun (k:Nat)=>D.int (lo + k)) none:=by
 intro L' H' M' s c _;refine ⟨fun i d hd=>?_,by simp [Itr]⟩;rw [zUP] at hd;cases q:(List.range n)[i]? with
 | none=>rw [q] at hd; cases hd
 | some k=>
  rw [q] at hd; cases hd;have hi:i < n:=by have:=(zT0.mp q).1; simpa using this
  rw [List.getElem?_range hi] at q; cases q;refine ⟨hi,fun v H'' ⟨hH,hv⟩=>?_⟩;subst hH hv;exact ⟨fun _ _ z=>z,zAX⟩
theorem zL8 {tg a:Expr} {g:FA} (hg:Gl X "range") (hm:X.mg "range" = none) (ha:QA X [a] g) (hl:zKU g 1) (hs:starEach [a] X.env = [(false,eval a X.env)]:=by rfl):QI X tg (.Call (.Name "range" p) [a] [] pos) (zAC g) :=
 .mk <| PI.imp (zMg hg hm ha.un hs) fun τ H R zz=>by
  obtain ⟨L,σ,M,xs,gd,M',c,rs,hf,q⟩:=zz;unfold zAC at hf;split at hf
  ·rename_i j M1 e1;split at hf
   ·rename_i hb;cases hf;refine ⟨L,σ,M,_,_,c,rs,e1,fun L1 H1 vs s1 c1 r1=>⟨j,zLi r1,hb.1,hb.2,q L1 H1 _ s1 c1 ?_⟩⟩;have z:=zNQ (K:=X.K) (L:=L1) (H:=H1) (lo:=0) (n:=j.toNat);simpa using z
   ·cases hf
  ·rename_i e1;have:=hl _ _ _ _ e1;simp at this
  ·cases hf
end
section
variable {X:Cx} {a b c e:Expr} {es rest:List Expr} {pos p apos cpos:Pos}
def zHC (f g:FT):FT:=fun σ M=>match f σ M with
 | some (true,M1)=>g σ M1
 | r=>r
def zIx (f g:FT):FT:=fun σ M=>match f σ M with
 | some (false,M1)=>g σ M1
 | r=>r
def zHB (f:FT):FT:=fun σ M=>match f σ M with
 | some (k,M1)=>some (!k,M1)
 | none=>none
structure QW (X:Cx) (e:Expr) (f:FT):Prop where
 un:PW X e (trT X.K f)
theorem PW.imp {t t':TT} (h:PW X e t) (hi:∀ τ H Q,t' τ H Q -> t τ H Q):PW X e t':=fun wh zB s σ H Q I q=>h wh zB s σ H Q I (hi _ _ _ q)
theorem zPf {f:FT} (h:QT X a f):QW X (.BoolOp .And [a] pos) f:=.mk (zPB h.un)
theorem zMs {f:FT} (h:QT X a f):QW X (.BoolOp .Or [a] pos) f:=.mk (zQX h.un)
theorem zRX {f g:FT} (h1:QT X a f) (h2:QW X (.BoolOp .And (b :: rest) pos) g):QW X (.BoolOp .And (a :: b :: rest) pos) (zHC f g):=.mk <| PW.imp (zRL h1.un h2.un) fun τ H Q zz=>by
 obtain ⟨L,σ,M,d,M',c,rs,hf,q⟩:=zz;unfold zHC at hf;split at hf
 ·rename_i M1 e1;exact ⟨L,σ,M,_,_,c,rs,e1,fun L1 H1 s1 c1=>zJT ⟨L1,σ,M1,_,_,c1,rs.stp s1,hf,fun L2 H2 s2 c2=>q L2 H2 (s1.trans s2) c2⟩⟩
 ·rename_i hne;cases d with
  | true=>exact absurd hf (hne M')
  | false=>exact ⟨L,σ,M,_,_,c,rs,hf,fun L1 H1 s1 c1=>zKI (q L1 H1 s1 c1)⟩
theorem zQE {f g:FT} (h1:QT X a f) (h2:QW X (.BoolOp .Or (b :: rest) pos) g):QW X (.BoolOp .Or (a :: b :: rest) pos) (zIx f g):=.mk <| PW.imp (zSH h1.un h2.un) fun τ H Q zz=>by
 obtain ⟨L,σ,M,d,M',c,rs,hf,q⟩:=zz;unfold zIx at hf;split at hf
 ·rename_i M1 e1;exact ⟨L,σ,M,_,_,c,rs,e1,fun L1 H1 s1 c1=>zKI ⟨L1,σ,M1,_,_,c1,rs.stp s1,hf,fun L2 H2 s2 c2=>q L2 H2 (s1.trans s2) c2⟩⟩
 ·rename_i hne;cases d with
  | false=>exact absurd hf (hne M')
  | true=>exact ⟨L,σ,M,_,_,c,rs,hf,fun L1 H1 s1 c1=>zJT (q L1 H1 s1 c1)⟩
theorem zQw {f:FT} (h:QW X e f):QT X e f:=.mk (PW.pt h.un)
theorem zNZ {f:FT} (h:QT X a f):QT X (.UnaryOp .Not a pos) (zHB f):=.mk <| PT.imp (zRE h.un) fun τ H Q zz=>by
 obtain ⟨L,σ,M,d,M',c,rs,hf,q⟩:=zz;unfold zHB at hf;split at hf
 ·rename_i k M1 e1;cases hf;exact ⟨L,σ,M,_,_,c,rs,e1,fun L1 H1 s1 c1=>q L1 H1 s1 c1⟩
 ·cases hf
def zE4 (f g:FE):FE:=fun σ M=>match f σ M with
 | some (.dat (.bl true),M1)=>g σ M1
 | some (.dat (.bl false),M1)=>some (.dat (.bl false),M1)
 | _=>none
def zND (f:FE):FE:=fun σ M=>match f σ M with
 | some (.dat (.bl k),M1)=>some (.dat (.bl (!k)),M1)
 | _=>none
theorem zCD {H0:Hp} {L:List Addr} {H:Hp} {k:Bool} {v:V} (h:zS H0 L H (.dat (.bl k)) v):v = .bl k:=by unfold zS Rep at h; exact h
theorem zJi {op} {f:FE} (h:QE X a f):QE X (.BoolOp op [a] pos) f:=.mk (zQk h.un)
theorem zHU {f g:FE} (h1:QE X a f) (h2:QE X (.BoolOp .And (b :: rest) pos) g):QE X (.BoolOp .And (a :: b :: rest) pos) (zE4 f g):=.mk <| PE.imp (zRB h1.un h2.un) fun τ H Q zz=>by
 obtain ⟨L,σ,M,d,M',c,rs,hf,q⟩:=zz;unfold zE4 at hf;split at hf
 ·rename_i M1 e1;exact ⟨L,σ,M,_,_,c,rs,e1,fun L1 H1 v s1 c1 r1=>⟨true,zCD r1,zJT ⟨L1,σ,M1,_,_,c1,rs.stp s1,hf,fun L2 H2 w s2 c2 r2=>q L2 H2 w (s1.trans s2) c2 (r2.back s1 c s2.sub)⟩⟩⟩
 ·rename_i M1 e1;cases hf;exact ⟨L,σ,M,_,_,c,rs,e1,fun L1 H1 v s1 c1 r1=>⟨false,zCD r1,zKI (q L1 H1 _ s1 c1 (by have:=zCD r1; subst this; exact r1))⟩⟩
 ·cases hf
theorem zRV {f:FE} (h:QE X a f):QE X (.UnaryOp .Not a pos) (zND f):=.mk <| PE.imp (zRh h.un) fun τ H Q zz=>by
 obtain ⟨L,σ,M,d,M',c,rs,hf,q⟩:=zz;unfold zND at hf;split at hf
 ·rename_i k M1 e1;cases hf;exact ⟨L,σ,M,_,_,c,rs,e1,fun L1 H1 v s1 c1 r1=>⟨k,zCD r1,q L1 H1 _ s1 c1 (by unfold zS Rep; rfl)⟩⟩
 ·cases hf
abbrev KM:=EV -> List D -> Mem -> Option (D × Mem)
def fM (k:KM) (f:FE) (g:FA):FE:=fun σ M=>match f σ M with
 | some (x,M1)=>match zBZ M1 x with
  | some _=>match g σ M1 with
   | some (ds,M2)=>match k x ds M2 with
    | some (d,M3)=>some (.dat d,M3)
    | none=>none
   | none=>none
  | none=>none
 | none=>none
def zR0 (K:PySem.W.Frag) (r:V -> List V -> Hp -> VK -> Prop) (k:KM):Prop:=∀ {L:List Addr} {M M':Mem} {H H0:Hp} {x:EV} {ds:List D} {d:D} {v:V} {vs:List V} {Q:VK},Cor K L M H -> zS H0 L H x v -> zH L H ds vs -> k x ds M = some (d,M') ->
 (∀ L' H' u,Stp L H L' H' -> Cor K L' M' H' -> Rep L' H' d u -> Q u H') -> r v vs H Q
theorem zNh {K:PySem.W.Frag} {r:V -> List V -> Hp -> VK -> Prop} {k:KM} {f:FE} {g:FA} (hk:zR0 K r k) {τ:Sv} {H:Hp} {Q:VK} (h:trE K (fM k f g) τ H Q):tBM K "list" r (trE K f) (trA K g) τ H Q:=by
 obtain ⟨L,σ,M,d,M',c,rs,hf,q⟩:=h;unfold fM at hf;split at hf
 ·rename_i x M1 e1;split at hf
  ·rename_i xs e2;split at hf
   ·rename_i ds M2 e3;split at hf
    ·rename_i d' M3 e4;cases hf;refine ⟨L,σ,M,_,_,c,rs,e1,fun L1 H1 v s1 c1 r1=>?_⟩;obtain ⟨a,vs,rfl,e5,r5⟩:=zB0 c1 r1 e2;refine ⟨.inl ⟨rfl,vs,.inl e5⟩,L1,σ,M1,_,_,c1,rs.stp s1,e3,fun L2 H2 ws s2 c2 r2=>?_⟩;exact hk c2 (r1.stp s2) r2 e4 fun L3 H3 u s3 c3 r3=>q L3 H3 u ((s1.trans s2).trans s3) c3 r3
    ·cases hf
   ·cases hf
  ·cases hf
 ·cases hf
def zw:KM:=fun x ds M=>match x,ds with
 | .dat (.ref n),[d]=>match M[n]? with
  | some (.lst xs)=>if xs.length < sizeLine then some (.non,M.set n (.lst (xs ++ [d]))) else none
  | _=>none
 | _,_=>none
theorem zH.one {L:List Addr} {H:Hp} {d:D} {vs:List V} (h:zH L H [d] vs):∃ v,vs = [v] /\ Rep L H d v:=by
 unfold zH at h;obtain ⟨v,r,rfl,h1,h2⟩:=h;unfold zH at h2;subst h2;exact ⟨v,rfl,h1⟩
theorem zKT {K:PySem.W.Frag}:zR0 K zK4 zw:=by
 intro L M M' H H0 x ds d v vs Q c rx rd hk q;unfold zw at hk;split at hk
 ·rename_i n d';split at hk
  ·rename_i xs e1;split at hk
   ·rename_i hz;cases hk;unfold zS Rep at rx;obtain ⟨a,rfl,e2⟩:=rx;obtain ⟨ws,e3,r3⟩:=c.obj n a _ e2 e1;obtain ⟨w,rfl,r4⟩:=rd.one;obtain ⟨c5,s5⟩:=c.write e2 e1 (r3.app (.cons r4 .nil));exact ⟨a,ws,w,rfl,rfl,e3,by rw [r3.length]; exact hz,q L _ _ s5 c5 (by unfold Rep; rfl)⟩
   ·cases hk
  ·cases hk
 ·cases hk
theorem zOb {f:FE} {g:FA} (h:QE X a f) (hg:QA X [e] g) (hbase:attributeBase a "append" X.env (eval a X.env) = eval a X.env:=by rfl)
  (hfew:((backTo cpos (starEach [e] X.env)).all (fun x=> !x.1) && (backToKw cpos (keywordEach [] X.env)).all (fun x=>x.1.isSome) && decide ([e].length + ([]:List Keyword).length + (if ([]:List Keyword).isEmpty then 0 else 1) < 30)) = true:=by rfl)
  (hline:(apos.endLine == cpos.line) = true:=by rfl) (hs:starEach [e] X.env = (false,eval e X.env) :: starEach [] X.env:=by rfl) (hplain:(backTo cpos (starEach [] X.env)).any (·.1) = false:=by rfl) :
  QE X (.Call (.Attribute a "append" apos) [e] [] cpos) (fM zw f g) :=
 .mk <| PE.imp (zQM PySem.F.plainAttrs_list PySem.F.slot_list_append PySem.F.type_list_append zLl h.un hg.un hbase hfew hline hs hplain) fun _ _ _ z=>zNh zKT z
def zIT (x:EV) (i:D) (d:D) (M:Mem):Option Mem:=match x,i with
 | .dat (.ref n),.int i=>match M[n]? with
  | some (.lst xs)=>match ixN xs.length i with
   | some j=>some (M.set n (.lst (xs.set j d)))
   | none=>none
  | _=>none
 | _,_=>none
def zI3 (fv fo fi:FE):FS:=fun σ M=>match toD fv σ M with
 | some (d,M1)=>match fo σ M1 with
  | some (x,M2)=>match toD fi σ M2 with
   | some (i,M3)=>match zIT x i d M3 with
    | some M4=>some (.nx,σ,M4)
    | none=>none
   | none=>none
  | none=>none
 | none=>none
theorem zNR {o i v:Expr} {fv fo fi:FE} (hv:QE X v fv) (ho:QE X o fo) (hi:QE X i fi)
  (ha:∀ v,assign (.Subscript o i p) X.env v = (do
   let ov <- holding [v] (eval o X.env);let iv <- holding [v,ov] (eval i X.env);standAt p;holding [v,ov,iv] (setItem ov iv v);release [v,ov,iv] []):=by intro _; rfl)
  (hs:swapsWithSole [.Subscript o i p] v pos.line X.env = pure false:=by rfl) (hw:swappedStores [.Subscript o i p] v X.env = pure none:=by rfl) (h1:(assignEach [.Subscript o i p] X.env).map (·.2) = [assign (.Subscript o i p) X.env]:=by rfl) :
  QS X (.Assign [.Subscript o i p] v pos) (zI3 fv fo fi):=.mk <| PS.imp (zRx (zAb hv).un (zQT ho.un (zAb hi).un zOd ha) hs hw h1) fun E τ H zz=>by
 obtain ⟨L,σ,M,out,σ',M',c,rs,hf,q⟩:=zz;unfold zI3 at hf;split at hf
 ·rename_i d M1 e1;split at hf
  ·rename_i x M2 e2;split at hf
   ·rename_i j M3 e3;split at hf
    ·rename_i M4 e4;cases hf;refine ⟨L,σ,M,_,_,c,rs,e1,fun L1 H1 u s1 c1 r1=>⟨L1,σ,M1,_,_,c1,rs.stp s1,e2,fun L2 H2 w s2 c2 r2=>⟨L2,σ,M2,_,_,c2,rs.stp (s1.trans s2),e3,fun L3 H3 z s3 c3 r3=>?_⟩⟩⟩;have st:=(s1.trans s2).trans s3;unfold zIT at e4;split at e4
     ·rename_i n k;split at e4
      ·rename_i xs e5;split at e4
       ·rename_i m e6;cases e4;have r2':=r2.stp s3;unfold zS Rep at r2';obtain ⟨a,rfl,e7⟩:=r2';obtain ⟨ws,e8,r8⟩:=c3.obj n a _ e7 e5;obtain ⟨c9,s9⟩:=c3.write e7 e5 (zH.set ((r1.stp s2).stp s3) m r8);exact ⟨a,ws,k,m,rfl,by unfold Rep at r3; exact r3,e8,by rw [r8.length]; exact e6,q L3 _ (st.trans s9) c9 τ ((rs.stp st).stp s9)⟩
       ·cases e4
      ·cases e4
     ·cases e4
    ·cases hf
   ·cases hf
  ·cases hf
 ·cases hf
def zG6:D -> Option V
 | .non=>some .non
 | .bl k=>some (.bl k)
 | .int i=>some (.int i)
 | .str x=>some (.str x)
 | _=>none
theorem zDw {L:List Addr} {H:Hp} {d:D} {v u:V} (h:Rep L H d v) (e:zG6 d = some u):v = u:=by
 cases d with
 | non=>cases e; unfold Rep at h; exact h
 | bl _=>cases e; unfold Rep at h; exact h
 | int _=>cases e; unfold Rep at h; exact h
 | str _=>cases e; unfold Rep at h; exact h
 | tup _=>cases e
 | ref _=>cases e
 | fn _ _=>cases e
def zMD (neg:Bool):K2:=fun x y M=>match x,y with
 | .dat d,.dat d'=>match zG6 d,zG6 d' with
  | some u,some w=>if zPW u w then some (.dat (.bl (if neg then !decide (u = w) else decide (u = w))),M) else none
  | _,_=>none
 | _,_=>none
theorem zGx {neg:Bool} {x y r:EV} {M M':Mem} (h:zMD neg x y M = some (r,M')):∃ d d' u w,x = .dat d /\ y = .dat d' /\ zG6 d = some u /\ zG6 d' = some w /\ zPW u w = true /\ r = .dat (.bl (if neg then !decide (u = w) else decide (u = w))) /\ M' = M:=by
 unfold zMD at h;split at h
 ·rename_i d d';split at h
  ·rename_i u w e1 e2;split at h
   ·rename_i hs;cases h;exact ⟨d,d',u,w,rfl,rfl,e1,e2,hs,rfl,rfl⟩
   ·cases h
  ·cases h
 ·cases h
theorem zKn {K:PySem.W.Frag}:zCA K rEq (zMD false):=by
 intro L M M' H H0 x y d v w Q c rx ry hk q;obtain ⟨d1,d2,u,z,rfl,rfl,e1,e2,hs,rfl,rfl⟩:=zGx hk;have a1:=zDw rx e1;have a2:=zDw ry e2;subst a1 a2;exact ⟨hs,q L H _ (.refl L H) c (zBr (L:=L) (H:=H))⟩
theorem zOl {K:PySem.W.Frag}:zCA K rNe (zMD true):=by
 intro L M M' H H0 x y d v w Q c rx ry hk q;obtain ⟨d1,d2,u,z,rfl,rfl,e1,e2,hs,rfl,rfl⟩:=zGx hk;have a1:=zDw rx e1;have a2:=zDw ry e2;subst a1 a2;exact ⟨hs,q L H _ (.refl L H) c (zBr (L:=L) (H:=H))⟩
def zRK (neg:Bool) (K:PySem.W.Frag):R2:=fun x y H Q=>∃ p q xs,x = .ref p /\ y = .ref q /\ SqL K H p xs /\ SqL K H q [] /\ Q (.bl (if neg then !xs.isEmpty else xs.isEmpty)) H
theorem zHi {its:List Value} (r:zU [] its):its = []:=by cases r; rfl
theorem zID (hu:X.A.units < cLine):OpR X (compareOp .Eq) (zRK false X.K):=by
 intro zB s σ H x y v u Q I rx ry h;obtain ⟨p,q,xs,rfl,rfl,h1,h2,hq⟩:=h;cases rx;cases ry;obtain ⟨its,rv,pl,_⟩:=I.list h1;obtain ⟨its2,rv2,pl2,_⟩:=I.list h2;cases zHi rv2;cases rv with
 | nil=>exact SeqAt.eq_listAt (e:=fun _=>true) pl.isList pl2.isList rfl hu (fun j h1=>by simp at h1) ⟨.bl true,H,I,rfl,hq⟩
 | cons _ _=>exact SeqAt.eq_list_lengthsAt pl.isList pl2.isList (by simp) hu ⟨.bl false,H,I,rfl,hq⟩
theorem zMm (hu:X.A.units < cLine):OpR X (compareOp .NotEq) (zRK true X.K):=by
 intro zB s σ H x y v u Q I rx ry h;obtain ⟨p,q,xs,rfl,rfl,h1,h2,hq⟩:=h;cases rx;cases ry;obtain ⟨its,rv,pl,_⟩:=I.list h1;obtain ⟨its2,rv2,pl2,_⟩:=I.list h2;cases zHi rv2;cases rv with
 | nil=>exact SeqAt.RcNeAt.lists (e:=fun _=>true) pl.isList pl2.isList rfl hu (fun j h1=>by simp at h1) _ _ _ _ ⟨.bl false,H,I,rfl,hq⟩
 | cons _ _=>exact SeqAt.RcNeAt.lists_lengths pl.isList pl2.isList (by simp) hu _ _ _ _ ⟨.bl true,H,I,rfl,hq⟩
def zOv (neg:Bool):K2:=fun x y M=>match zBZ M x,zBZ M y with
 | some xs,some []=>some (.dat (.bl (if neg then !xs.isEmpty else xs.isEmpty)),M)
 | _,_=>none
theorem zHH {K:PySem.W.Frag} {neg:Bool}:zCA K (zRK neg K) (zOv neg):=by
 intro L M M' H H0 x y d v w Q c rx ry hk q;unfold zOv at hk;split at hk
 ·rename_i xs e1 e2;cases hk;obtain ⟨p1,vs,rfl,h1,r1⟩:=zB0 c rx e1;obtain ⟨p2,ws,rfl,h2,r2⟩:=zB0 c ry e2;unfold zH at r2;subst r2;refine ⟨p1,p2,vs,rfl,rfl,.inl h1,.inl h2,q L H _ (.refl L H) c ?_⟩;have:vs.isEmpty = xs.isEmpty:=by
   have:=r1.length;cases vs <;> cases xs <;> simp_all
  rw [this];exact (zBr (L:=L) (H:=H))
 ·cases hk
def kOr (k1 k2:K2):K2:=fun x y M=>match k1 x y M with
 | some r=>some r
 | none=>k2 x y M
theorem zHF {K:PySem.W.Frag} {r1 r2:R2} {k1 k2:K2} (h1:zCA K r1 k1) (h2:zCA K r2 k2):zCA K (fun x y H Q=>r1 x y H Q \/ r2 x y H Q) (kOr k1 k2):=by
 intro L M M' H H0 x y d v w Q c rx ry hk q;unfold kOr at hk;split at hk
 ·rename_i r e1;cases hk;exact .inl (h1 c rx ry e1 q)
 ·exact .inr (h2 c rx ry hk q)
abbrev kEq:K2:=kOr (zMD false) (zOv false)
abbrev kNe:K2:=kOr (zMD true) (zOv true)
variable {f g:FE}
theorem zRO (hu:X.A.units < cLine) (h1:QE X a f) (h2:QE X b g):QE X (.Compare a [.Eq] [b] pos) (fOp kEq f g):=zOK (zHF zKn zHH) (zQK.or (zID hu)) h1 h2 (zDi _)
theorem zSX (hu:X.A.units < cLine) (h1:QE X a f) (h2:QE X b g):QT X (.Compare a [.Eq] [b] pos) (tst (fOp kEq f g)):=zEN (zHF zKn zHH) (zQK.or (zID hu)) h1 h2 (zDi _)
theorem zSG (hu:X.A.units < cLine) (h1:QE X a f) (h2:QE X b g):QT X (.Compare a [.NotEq] [b] pos) (tst (fOp kNe f g)):=zEN (zHF zOl zHH) (zR9.or (zMm hu)) h1 h2 (zDi _)
def zGM:KB:=fun xs M=>match xs with
 | [.dat (.int i)]=>some (.dat (.int i),M)
 | [.dat (.bl k)]=>some (.dat (.int (if k then 1 else 0)),M)
 | _=>none
theorem zP4 {K:PySem.W.Frag}:zEy K (fun xs H Q=>(∃ i,xs = [.int i] /\ Q (.int i) H) \/ ∃ k,xs = [.bl k] /\ Q (.int (if k then 1 else 0)) H) zGM:=by
 intro L M M' H H0 xs d vs Q c r hk q;unfold zGM at hk;split at hk
 ·rename_i i;cases hk;obtain ⟨v,rfl,r1⟩:=r.one;have:v = .int i:=by unfold zS Rep at r1; exact r1
  subst this;exact .inl ⟨i,rfl,q L H _ (.refl L H) c (zAX (L:=L) (H:=H))⟩
 ·rename_i k;cases hk;obtain ⟨v,rfl,r1⟩:=r.one;have:=zCD r1;subst this;exact .inr ⟨k,rfl,q L H _ (.refl L H) c (zAX (L:=L) (H:=H))⟩
 ·cases hk
end
section
variable {X:Cx} {a b c e:Expr} {es rest:List Expr} {pos p apos cpos:Pos}
theorem zOF {prog:Program} {w:World} {A:Around} {E:Value -> Shared -> Prop} {s:Shared} {t b:Addr} {ws:List Value} {Q:Value -> Shared -> Prop} (ht:IsTup s.heap t #[]) (hb:IsTup s.heap b ws.toArray) (h1:Q (.ref b) s) :
  wpAny (model prog w) A (binaryOp .Add (.ref t) (.ref b)) Q E s:=by
 obtain ⟨⟨cls,dd,data,sl⟩,ho,hc,n,hd⟩:=id ht;obtain ⟨⟨cls2,dd2,data2,sl2⟩,ho2,hc2,n2,hd2⟩:=id hb;simp only at hc hd hc2 hd2;subst hc hd hc2 hd2
 exact concat_meets ⟨_,ho,rfl⟩ ⟨_,ho2,rfl⟩ noFill_tuple_add seq_tuple_add PySem.F.slot_tuple_add PySem.F.entry_tuple_add (PySem.F.args_tuple_add_2 _ _)
   (tuple_addW0 t b #[] ws.toArray n n2 dd dd2 sl sl2 (by simp)) ⟨ho,ho2,h1⟩
def zNS (K:PySem.W.Frag):R2:=fun x y H Q=>∃ a b ys,x = .ref a /\ y = .ref b /\ SqT K H a [] /\ SqT K H b ys /\ Q (.ref b) H
theorem zOf:OpR X (binaryOp .Add) (zNS X.K):=by
 intro zB s σ H x y v u Q I rx ry h;obtain ⟨a,b,ys,rfl,rfl,ha,hb,q⟩:=h;cases rx;cases ry;obtain ⟨its,r1,p1,_⟩:=I.tuple ha;obtain ⟨its2,r2,p2,_⟩:=I.tuple hb;cases zHi r1;exact zOF p1 p2 ⟨.ref b,H,I,rfl,q⟩
def zG5:K2:=fun x y M=>match zBn x,zBn y with
 | some xs,some ys=>if xs.length + ys.length <= sizeLine then some (.dat (.tup (xs ++ ys)),M) else none
 | _,_=>none
theorem zOg {K:PySem.W.Frag}:zCA K (fun x y H Q=>zQB K x y H Q \/ zNS K x y H Q) zG5:=by
 intro L M M' H H0 x y d v w Q c rx ry hk q;unfold zG5 at hk;split at hk
 ·rename_i xs ys e1 e2;split at hk
  ·rename_i hz;cases hk;obtain ⟨p1,vs,rfl,h1,r1⟩:=zCL rx e1;obtain ⟨p2,ws,rfl,h2,r2⟩:=zCL ry e2;cases xs with
   | nil=>
    refine .inr ⟨p1,p2,ws,rfl,rfl,.of (by unfold zH at r1; subst r1; exact h1),.of h2,q L H _ (.refl L H) c ?_⟩;unfold zS Rep;exact ⟨p2,ws,rfl,h2,r2⟩
   | cons x0 xr=>
    have hv:vs ≠ []:=fun z=>by have:=r1.length; rw [z] at this; simp at this
    refine .inl ⟨p1,p2,vs,ws,rfl,rfl,.of h1,.of h2,hv,by rw [r1.length,r2.length]; exact hz,fun z=>?_,fun z pp hp=>?_⟩
    ·have:ys = []:=by
      have:=r2.length; rw [z] at this;cases ys with
      | nil=>rfl
      | cons _ _=>simp at this
     subst this;refine q L H _ (.refl L H) c ?_;unfold zS Rep;rw [zUm];exact ⟨p1,vs,rfl,h1,r1⟩
    ·exact q L _ _ (.upd hp) (c.upd hp) (Rep.newTup hp (r1.app r2))
  ·cases hk
 ·cases hk
abbrev zAc:K2:=kOr zRk zG5
variable {f g:FE}
theorem zRn (h1:QE X a f) (h2:QE X b g):QE X (.BinOp a .Add b pos) (fOp zAc f g):=zI4 (zHF (zFK fun _ _ _ _=>zAX) zOg) (zQ8.or (zPd.or zOf)) h1 h2
structure Kinds (K:PySem.W.Frag):Prop where
 k:∀ t T,t ∈ ["NoneType", "bool", "int", "str", "list", "tuple", "dict"] -> T ∈ ["int", "bool", "str", "tuple"] -> PySem.W.kitOne K (.type t) (.type T) = some (decide (t = T) || (decide (t = "bool") && decide (T = "int")))
def zJ1 (M:Mem):EV -> Option String
 | .dat .non=>some "NoneType"
 | .dat (.bl _)=>some "bool"
 | .dat (.int _)=>some "int"
 | .dat (.str _)=>some "str"
 | .dat (.tup _)=>some "tuple"
 | .fl _=>some "list"
 | .dat (.ref n)=>match M[n]? with
  | some (.lst _)=>some "list"
  | some (.fro _)=>some "list"
  | some (.dict _)=>some "dict"
  | some (.dicT _)=>some "dict"
  | _=>none
 | .dat (.fn _ _)=>none
theorem zRf {K:PySem.W.Frag} {L:List Addr} {M:Mem} {H H0:Hp} {x:EV} {v:V} {t:String} (c:Cor K L M H) (r:zS H0 L H x v) (h:zJ1 M x = some t):TyOf K H v (.type t) /\ t ∈ ["NoneType", "bool", "int", "str", "list", "tuple", "dict"]:=by
 unfold zJ1 at h;split at h
 ·cases h; unfold zS Rep at r; subst r; exact ⟨.non,by simp⟩
 ·cases h; unfold zS Rep at r; subst r; exact ⟨.bl _,by simp⟩
 ·cases h; unfold zS Rep at r; subst r; exact ⟨.int _,by simp⟩
 ·cases h; unfold zS Rep at r; subst r; exact ⟨.str _,by simp⟩
 ·cases h; unfold zS Rep at r; obtain ⟨a,vs,rfl,e,_⟩:=r; exact ⟨.tup e,by simp⟩
 ·cases h;obtain ⟨p,vs,rfl,_,e,_⟩:=r;exact ⟨.lst e,by simp⟩
 ·unfold zS Rep at r;obtain ⟨a,rfl,e⟩:=r;split at h
  ·rename_i e1; cases h; obtain ⟨vs,q,_⟩:=c.obj _ a _ e e1; exact ⟨.lst q,by simp⟩
  ·rename_i e1; cases h; obtain ⟨o,vs,q,_⟩:=c.obj _ a _ e e1; exact ⟨.frz q,by simp⟩
  ·rename_i e1; cases h; obtain ⟨vs,q,_⟩:=c.obj _ a _ e e1; exact ⟨.dK q,by simp⟩
  ·rename_i e1; cases h; obtain ⟨vs,q,_⟩:=c.obj _ a _ e e1; exact ⟨.dT q,by simp⟩
  ·cases h
 ·cases h
def isT (t T:String):Bool:=decide (t = T) || (decide (t = "bool") && decide (T = "int"))
def zEM (T:String) (f:FE):FE:=fun σ M=>match f σ M with
 | some (x,M1)=>match zJ1 M1 x with
  | some t=>some (.dat (.bl (isT t T)),M1)
  | none=>none
 | none=>none
def zSa (K:PySem.W.Frag) (T:String):List V -> Hp -> VK -> Prop:=fun xs H Q=>∃ x t b,xs = [x,.ty T] /\ TyOf K H x t /\ PySem.W.kitOne K t (.type T) = some b /\ Q (.bl b) H
theorem zOP {T:String}:zBa X (.builtin "isinstance") (zSa X.K T):=by
 intro zB s σ H xs us Q I r h;obtain ⟨x,t,b,rfl,ty,e,q⟩:=h;cases r with
 | cons r1 r2=>
  cases r2 with
  | cons r3 r4=>
   cases r4;cases r3;exact zLk I r1 ty e fun tk=>⟨.bl b,H,I.tok _,rfl,q⟩
theorem zGj {T:String} {y:Str} {p1 p2:Pos} (hK:Kinds X.K) (hT:T ∈ ["int", "bool", "str", "tuple"]) (hg:Gl X "isinstance") (hm:X.mg "isinstance" = none) (hg2:Gl X y) (hm2:X.mg y = none) (hv2:bootBuiltins y = some (.type T)) (hn2:y ≠ "__name__") (hd2:(y == ("__debug__" : Str)) = false) (h:QE X e f)
  (he:starEach (e :: [.Name y p2]) X.env = (false,eval e X.env) :: starEach [.Name y p2] X.env:=by rfl) (he2:starEach [.Name y p2] X.env = (false,eval (.Name y p2) X.env) :: starEach [] X.env:=by rfl) (hpl:(backTo pos (starEach [.Name y p2] X.env)).any (·.1) = false:=by rfl) :
  QE X (.Call (.Name "isinstance" p1) [e,.Name y p2] [] pos) (zEM T f) :=
 .mk <| PE.imp (zIL (r:=zSa X.K T) zOP hg hm (by rfl) (zB2 h.un (zB2 (zP5 (v:=.ty T) hg2 hm2 hv2 rfl hn2 hd2) zFW he2) he) (by decide) (by decide) he hpl) fun τ H Q zz=>by
  obtain ⟨L,σ,M,d,M',c,rs,hf,q⟩:=zz;unfold zEM at hf;split at hf
  ·rename_i x M1 e1;split at hf
   ·rename_i t e2;cases hf;refine ⟨L,σ,M,_,_,c,rs,e1,fun L1 H1 v s1 c1 r1=>?_⟩;obtain ⟨ty,ht⟩:=zRf c1 r1 e2;exact ⟨v,_,_,rfl,ty,hK.k t T ht hT,q L1 H1 _ s1 c1 (zBr (L:=L1) (H:=H1))⟩
   ·cases hf
  ·cases hf
theorem zH.two {L:List Addr} {H:Hp} {d d':D} {vs:List V} (h:zH L H [d,d'] vs):∃ v v',vs = [v,v'] /\ Rep L H d v /\ Rep L H d' v':=by
 unfold zH at h;obtain ⟨v,r,rfl,h1,h2⟩:=h;obtain ⟨v',rfl,h3⟩:=h2.one;exact ⟨v,v',rfl,h1,h3⟩
section
variable {fa:FAE}
theorem zKl (hg:Gl X "len") (hm:X.mg "len" = none) (ha:QAE X [e] fa) (he:starEach [e] X.env = (false,eval e X.env) :: starEach [] X.env:=by rfl) (hpl:(backTo pos (starEach [] X.env)).any (·.1) = false:=by rfl):QE X (.Call (.Name "len" p) [e] [] pos) (fB zh fa) :=
 zC7 zPP zHE PySem.boot_len hg hm ha (by decide) (by decide) he hpl
theorem zOk (hg:Gl X "tuple") (hm:X.mg "tuple" = none) (ha:QAE X [e] fa) (he:starEach [e] X.env = (false,eval e X.env) :: starEach [] X.env:=by rfl) (hpl:(backTo pos (starEach [] X.env)).any (·.1) = false:=by rfl):QE X (.Call (.Name "tuple" p) [e] [] pos) (fB zW fa) :=
 zFS zL7 zGT (by rfl) hg hm ha (by decide) (by decide) he hpl
theorem zRU (hg:Gl X "int") (hm:X.mg "int" = none) (ha:QAE X [e] fa) (he:starEach [e] X.env = (false,eval e X.env) :: starEach [] X.env:=by rfl) (hpl:(backTo pos (starEach [] X.env)).any (·.1) = false:=by rfl):QE X (.Call (.Name "int" p) [e] [] pos) (fB zGM fa) :=
 zFS zP4 zMc (by rfl) hg hm ha (by decide) (by decide) he hpl
end
end
def zED (sc scope:Scope):Bool:=scope.names.all fun y=>
 (y.2 != .local || scope.names.lookup y.1 == some .local) && (y.2 != .cell || scope.names.lookup y.1 == some .cell) && (y.2 != .free || (sc.names.lookup y.1 == some .cell || sc.names.lookup y.1 == some .free))
def zFH (N:List Str) (scope:Scope) (own:List Nat):Bool:=(List.range N.length).all fun i=>match N[i]? with
 | some x=>decide (i ∈ own) || (scope.names.lookup x == none) || (scope.names.lookup x == some .free)
 | none=>true
theorem zEa {X:Cx} {scope sc:Scope} {own:List Nat} {N:List Str} (hk:scope.kind = .function) (hs:X.env.scope = sc) (hN:X.N = N) (h1:zED sc scope = true) (h2:zFH N scope own = true):CompIn X scope own:=by
 unfold zED at h1;rw [zUd] at h1;refine ⟨⟨hk,fun y hy e=>?_,fun y hy e=>?_,fun y hy e=>?_⟩,fun i x e=>?_⟩
 ·have:=h1 y hy;simp [e] at this;exact this
 ·have:=h1 y hy;simp [e] at this;exact this
 ·have:=h1 y hy;simp [e] at this;show X.env.scope.names.lookup y.1 = _ \/ X.env.scope.names.lookup y.1 = _;rw [hs];exact this
 ·unfold zFH at h2;rw [zUd] at h2;rw [hN] at e;have hi:i < N.length:=(zT0.mp e).1;have:=h2 i (by simpa using hi);rw [e] at this;simp only [Bool.or_eq_true,zVF,beq_iff_eq,or_assoc] at this;exact this
def zEY (K:PySem.W.Frag):Bool:=K.all fun p=>match p.2.cls with
 | .type n=>n != "list"
 | _=>true
theorem zFj {a:Addr} {o:Obj}:∀ {K:PySem.W.Frag},K.lookup a = some o -> (a,o) ∈ K
 | [],h=>by cases h
 | (b,u) :: r,h=>by
  have h':List.lookup a ((b,u) :: r) = some o:=h;rw [zV7] at h';cases q:a == b with
  | true=>rw [q] at h'; cases h'; rw [beq_iff_eq.mp q]; exact zUG
  | false=>rw [q] at h'; exact zUF _ (zFj h')
theorem zG3 {K:PySem.W.Frag} (h:zEY K = true) {a:Addr} {o:Obj} (e:K.lookup a = some o) (hc:o.cls = .type "list"):False:=by
 unfold zEY at h;rw [zUd] at h;have:=h (a,o) (zFj e);simp [hc] at this
theorem zGk {L:List Addr} {H:Hp}:∀ (ns:List Int),zH L H (ns.map D.int) (ns.map V.int)
 | []=> .nil
 | n :: r=> .cons (by unfold Rep; rfl) (zGk r)
theorem zLc {K:PySem.W.Frag} {m:FF} {H:Hp} {a:Addr} {ns:List Int} {E:XK} (hL:zEY K = true) (hT:zLt K H) (hO:∀ b xs,H b ≠ some (.lst xs)) (hS:SqL K H a (ns.map V.int)) (h:∃ M',m [.ref 0] [.fro (ns.map D.int)] = some (.bl true,M')) :
  spF K 1 m [.ref a] H (fun v _=>v = .bl true) E:=by
 obtain ⟨M',e⟩:=h;have hf:∃ o,H a = some (.frz o (.lst (ns.map V.int))):=by
  rcases hS with (h1 | h1) | ⟨o,its,n,h1,h2,_⟩
  ·exact (hO _ _ h1).elim
  ·exact h1
  ·exact (zG3 hL h1 h2).elim
 obtain ⟨o,hf⟩:=hf;refine ⟨[a],[.ref 0],[.fro (ns.map D.int)],_,_,⟨rfl,by simp,fun n b m e1 e2=>?_,hT⟩,.cons ?_ .nil,rfl,e,fun L' H' v s c r=>?_⟩
 ·cases n with
  | zero=>simp at e1 e2; subst e1; subst e2; exact ⟨o,_,hf,zGk ns⟩
  | succ n=>simp at e1
 ·unfold Rep; exact ⟨a,rfl,rfl⟩
 ·unfold Rep at r; exact r
def Ok {α:Type} (x:Option (α × Mem)) (P:α -> Mem -> Prop):Prop:=∃ a M,x = some (a,M) /\ P a M
def OkS (x:Option (Out × Sd × Mem)) (P:Out -> Sd -> Mem -> Prop):Prop:=∃ o σ M,x = some (o,σ,M) /\ P o σ M
theorem Ok.mono {α:Type} {x:Option (α × Mem)} {P Q:α -> Mem -> Prop} (h:Ok x P) (hq:∀ a M,P a M -> Q a M):Ok x Q:=let ⟨a,M,e,p⟩:=h; ⟨a,M,e,hq a M p⟩
theorem OkS.mono {x:Option (Out × Sd × Mem)} {P Q:Out -> Sd -> Mem -> Prop} (h:OkS x P) (hq:∀ o σ M,P o σ M -> Q o σ M):OkS x Q:=let ⟨a,σ,M,e,p⟩:=h; ⟨a,σ,M,e,hq a σ M p⟩
theorem zp {α:Type} {a:α} {M:Mem} {P:α -> Mem -> Prop}:Ok (some (a,M)) P ↔ P a M:=⟨fun ⟨_,_,e,p⟩=>by cases e; exact p,fun p=>⟨a,M,rfl,p⟩⟩
theorem zE6 {α:Type} {P:α -> Mem -> Prop}:Ok (none:Option (α × Mem)) P ↔ False:=⟨(fun ⟨_,_,e,_⟩=>(nomatch e)),fun h=>h.elim⟩
theorem zNt {o:Out} {σ:Sd} {M:Mem} {P:Out -> Sd -> Mem -> Prop}:OkS (some (o,σ,M)) P ↔ P o σ M:=⟨fun ⟨_,_,_,e,p⟩=>by cases e; exact p,fun p=>⟨o,σ,M,rfl,p⟩⟩
section
variable {σ:Sd} {M:Mem} {f g:FE} {P:EV -> Mem -> Prop}
theorem zBG {i:Nat}:Ok (zC i σ M) P ↔ ∃ d,σ[i]? = some (some d) /\ P (.dat d) M:=by
 unfold zC;constructor
 ·rintro ⟨a,M1,e,p⟩;split at e
  ·rename_i d e1; cases e; exact ⟨d,e1,p⟩
  ·cases e
 ·rintro ⟨d,e1,p⟩;rw [e1]; exact ⟨_,_,rfl,p⟩
theorem zKe {d:D}:Ok (fC d σ M) P ↔ P (.dat d) M:=zp
theorem zG9 {k:K2}:Ok (fOp k f g σ M) P ↔ Ok (f σ M) fun x M1=>Ok (g σ M1) fun y M2=>Ok (k x y M2) P:=by
 unfold fOp;constructor
 ·rintro ⟨a,M1,e,p⟩;split at e
  ·rename_i x M2 e1;split at e
   ·rename_i y M3 e2;exact ⟨x,M2,e1,y,M3,e2,a,M1,e,p⟩
   ·cases e
  ·cases e
 ·rintro ⟨x,M2,e1,y,M3,e2,a,M1,e,p⟩;rw [e1]; dsimp only; rw [e2]; exact ⟨a,M1,e,p⟩
def zHj (P:D -> Mem -> Prop):EV -> Mem -> Prop
 | .dat d,M=>P d M
 | .fl xs,M=>P (.ref M.length) (M ++ [.lst xs])
theorem zAy {P:D -> Mem -> Prop}:Ok (toD f σ M) P ↔ Ok (f σ M) (zHj P):=by
 unfold toD;constructor
 ·rintro ⟨a,M1,e,p⟩;split at e
  ·rename_i d M2 e1; cases e; exact ⟨_,_,e1,p⟩
  ·rename_i xs M2 e1; cases e; exact ⟨_,_,e1,p⟩
  ·cases e
 ·rintro ⟨x,M2,e1,p⟩;rw [e1];cases x with
  | dat d=>exact ⟨d,M2,rfl,p⟩
  | fl xs=>exact ⟨_,_,rfl,p⟩
theorem zR {P:D -> Mem -> Prop} {d:D} {M:Mem}:zHj P (.dat d) M ↔ P d M:=Iff.rfl
section
variable {P:List D -> Mem -> Prop}
theorem zBd:Ok (zL σ M) P ↔ P [] M:=zp
theorem zA5 {f:FD} {g:FA}:Ok (zD f g σ M) P ↔ Ok (f σ M) fun d M1=>Ok (g σ M1) fun ds M2=>P (d :: ds) M2:=by
 unfold zD;constructor
 ·rintro ⟨a,M1,e,p⟩;split at e
  ·rename_i x M2 e1;split at e
   ·rename_i y M3 e2;cases e;exact ⟨x,M2,e1,y,_,e2,p⟩
   ·cases e
  ·cases e
 ·rintro ⟨x,M2,e1,y,M3,e2,p⟩;rw [e1]; dsimp only; rw [e2]; exact ⟨_,_,rfl,p⟩
end
section
variable {P:List EV -> Mem -> Prop}
theorem zPk:Ok (zM σ M) P ↔ P [] M:=zp
theorem zNG {f:FE} {g:FAE}:Ok (zF f g σ M) P ↔ Ok (f σ M) fun d M1=>Ok (g σ M1) fun ds M2=>P (d :: ds) M2:=by
 unfold zF;constructor
 ·rintro ⟨a,M1,e,p⟩;split at e
  ·rename_i x M2 e1;split at e
   ·rename_i y M3 e2;cases e;exact ⟨x,M2,e1,y,_,e2,p⟩
   ·cases e
  ·cases e
 ·rintro ⟨x,M2,e1,y,M3,e2,p⟩;rw [e1]; dsimp only; rw [e2]; exact ⟨_,_,rfl,p⟩
end
theorem zDP {a:FA}:Ok (zA1 a σ M) P ↔ Ok (a σ M) fun ds M1=>ds.length <= sizeLine /\ P (.fl ds) M1:=by
 unfold zA1;constructor
 ·rintro ⟨x,M1,e,p⟩;split at e
  ·rename_i ds M2 e1;split at e
   ·rename_i hz; cases e; exact ⟨ds,_,e1,hz,p⟩
   ·cases e
  ·cases e
 ·rintro ⟨ds,M1,e1,hz,p⟩;rw [e1]; dsimp only; rw [zUH hz]; exact ⟨_,_,rfl,p⟩
theorem zTp {k:KB} {a:FAE}:Ok (fB k a σ M) P ↔ Ok (a σ M) fun xs M1=>Ok (k xs M1) P:=by
 unfold fB;constructor
 ·rintro ⟨x,M1,e,p⟩;split at e
  ·rename_i ds M2 e1; exact ⟨ds,_,e1,x,M1,e,p⟩
  ·cases e
 ·rintro ⟨ds,M1,e1,p⟩;rw [e1]; exact p
theorem zC5 {m:FF} {a:FA}:Ok (zY m a σ M) P ↔ Ok (a σ M) fun ds M1=>Ok (m ds M1) fun d M2=>P (.dat d) M2:=by
 unfold zY;constructor
 ·rintro ⟨x,M1,e,p⟩;split at e
  ·rename_i ds M2 e1;split at e
   ·rename_i d M3 e2; cases e; exact ⟨ds,_,e1,d,_,e2,p⟩
   ·cases e
  ·cases e
 ·rintro ⟨ds,M1,e1,d,M2,e2,p⟩;rw [e1]; dsimp only; rw [e2]; exact ⟨_,_,rfl,p⟩
theorem zJl {k:KM} {a:FA}:Ok (fM k f a σ M) P ↔ Ok (f σ M) fun x M1=>(∃ xs,zBZ M1 x = some xs) /\ Ok (a σ M1) fun ds M2=>Ok (k x ds M2) fun d M3=>P (.dat d) M3:=by
 unfold fM;constructor
 ·rintro ⟨x,M1,e,p⟩;split at e
  ·rename_i y M2 e1;split at e
   ·rename_i xs e2;split at e
    ·rename_i ds M3 e3;split at e
     ·rename_i d M4 e4; cases e; exact ⟨y,_,e1,⟨xs,e2⟩,ds,_,e3,d,_,e4,p⟩
     ·cases e
    ·cases e
   ·cases e
  ·cases e
 ·rintro ⟨y,M1,e1,⟨xs,e2⟩,ds,M2,e3,d,M3,e4,p⟩;rw [e1]; dsimp only; rw [e2]; dsimp only; rw [e3]; dsimp only; rw [e4]; exact ⟨_,_,rfl,p⟩
section
variable {P:Option Int -> Mem -> Prop}
theorem zH9:Ok (zD6 σ M) P ↔ P none M:=zp
def zSS (P:Option Int -> Mem -> Prop):EV -> Mem -> Prop
 | .dat (.int i),M=>P (some i) M
 | _,_=>False
theorem zIO {i:Int} {M:Mem}:zSS P (.dat (.int i)) M ↔ P (some i) M:=Iff.rfl
theorem zIy:Ok (zDJ f σ M) P ↔ Ok (f σ M) (zSS P):=by
 unfold zDJ;constructor
 ·rintro ⟨x,M1,e,p⟩;split at e
  ·rename_i i M2 e1; cases e; exact ⟨_,_,e1,p⟩
  ·cases e
 ·rintro ⟨x,M1,e1,p⟩;rw [e1];cases x with
  | fl xs=>exact p.elim
  | dat d=>
   cases d with
   | int i=>exact ⟨_,_,rfl,p⟩
   | _=>exact p.elim
end
theorem zQJ {l h:FO}:Ok (fSl f l h σ M) P ↔ Ok (f σ M) fun x M1=>Ok (l σ M1) fun lo M2=>Ok (h σ M2) fun hi M3=>Ok (kSl x lo hi M3) P:=by
 unfold fSl;constructor
 ·rintro ⟨x,M1,e,p⟩;split at e
  ·rename_i y M2 e1;split at e
   ·rename_i lo M3 e2;split at e
    ·rename_i hi M4 e3; exact ⟨y,_,e1,lo,_,e2,hi,_,e3,x,M1,e,p⟩
    ·cases e
   ·cases e
  ·cases e
 ·rintro ⟨y,M1,e1,lo,M2,e2,hi,M3,e3,p⟩;rw [e1]; dsimp only; rw [e2]; dsimp only; rw [e3]; exact p
def blP (P:Bool -> Mem -> Prop):EV -> Mem -> Prop
 | .dat (.bl k),M=>P k M
 | _,_=>False
theorem zJf {P:Bool -> Mem -> Prop} {k:Bool} {M:Mem}:blP P (.dat (.bl k)) M ↔ P k M:=Iff.rfl
theorem zJr {P:Bool -> Mem -> Prop}:Ok (tst f σ M) P ↔ Ok (f σ M) (blP P):=by
 unfold tst;constructor
 ·rintro ⟨x,M1,e,p⟩;split at e
  ·rename_i i M2 e1; cases e; exact ⟨_,_,e1,p⟩
  ·cases e
 ·rintro ⟨x,M1,e1,p⟩;rw [e1];cases x with
  | fl xs=>exact p.elim
  | dat d=>
   cases d with
   | bl i=>exact ⟨_,_,rfl,p⟩
   | _=>exact p.elim
section
variable {P:Bool -> Mem -> Prop} {s t:FT}
theorem zFY:Ok (zAp σ M) P ↔ P true M:=zp
theorem zRt:Ok (zIx s t σ M) P ↔ Ok (s σ M) fun k M1=>if k then P true M1 else Ok (t σ M1) P:=by
 unfold zIx;constructor
 ·rintro ⟨x,M1,e,p⟩;split at e
  ·rename_i M2 e1; exact ⟨false,M2,e1,by simpa using ⟨x,M1,e,p⟩⟩
  ·rename_i hn;cases x with
   | false=>exact absurd e (hn M1)
   | true=>exact ⟨true,M1,e,by simpa using p⟩
 ·rintro ⟨x,M1,e1,p⟩;rw [e1];cases x with
  | false=>simpa using p
  | true=>exact ⟨true,M1,rfl,by simpa using p⟩
theorem zLC:Ok (zHB s σ M) P ↔ Ok (s σ M) fun k M1=>P (!k) M1:=by
 unfold zHB;constructor
 ·rintro ⟨x,M1,e,p⟩;split at e
  ·rename_i k M2 e1; cases e; exact ⟨k,_,e1,p⟩
  ·cases e
 ·rintro ⟨k,M1,e1,p⟩;rw [e1]; exact ⟨_,_,rfl,p⟩
end
end
section
variable {σ:Sd} {M:Mem} {f g:FS} {P:Out -> Sd -> Mem -> Prop}
def nxP (k:Sd -> Mem -> Prop) (P:Out -> Sd -> Mem -> Prop):Out -> Sd -> Mem -> Prop
 | .nx,σ,M=>k σ M
 | o,σ,M=>P o σ M
theorem zO {k:Sd -> Mem -> Prop}:nxP k P .nx σ M ↔ k σ M:=Iff.rfl
theorem zA6 {k:Sd -> Mem -> Prop} {d:D}:nxP k P (.ret d) σ M ↔ P (.ret d) σ M:=Iff.rfl
theorem zj:OkS (zAZ σ M) P ↔ P .nx σ M:=zNt
theorem zJ:OkS (zK f g σ M) P ↔ OkS (f σ M) (nxP (fun σ1 M1=>OkS (g σ1 M1) P) P):=by
 unfold zK;constructor
 ·rintro ⟨o,σ1,M1,e,p⟩;split at e
  ·rename_i σ2 M2 e1; exact ⟨_,_,_,e1,o,σ1,M1,e,p⟩
  ·rename_i hn;refine ⟨o,σ1,M1,e,?_⟩;cases o with
   | nx=>exact absurd e (hn σ1 M1)
   | _=>exact p
 ·rintro ⟨o,σ1,M1,e1,p⟩;rw [e1];cases o with
  | nx=>exact p
  | _=>exact ⟨_,_,_,rfl,p⟩
theorem zAE {c:FT}:OkS (sIf c f g σ M) P ↔ Ok (c σ M) fun k M1=>if k then OkS (f σ M1) P else OkS (g σ M1) P:=by
 unfold sIf;constructor
 ·rintro ⟨o,σ1,M1,e,p⟩;split at e
  ·rename_i M2 e1; exact ⟨_,_,e1,by dsimp only; rw [zUH rfl]; exact ⟨o,σ1,M1,e,p⟩⟩
  ·rename_i M2 e1; exact ⟨_,_,e1,by simpa using ⟨o,σ1,M1,e,p⟩⟩
  ·cases e
 ·rintro ⟨x,M1,e1,p⟩;rw [e1];cases x with
  | true=>simpa using p
  | false=>simpa using p
theorem zHa {h:FE}:OkS (zAO h σ M) P ↔ Ok (h σ M) (zHj fun d M1=>P (.ret d) σ M1):=by
 rw [<- zAy];unfold zAO;constructor
 ·rintro ⟨o,σ1,M1,e,p⟩;split at e
  ·rename_i d M2 e1; cases e; exact ⟨_,_,e1,p⟩
  ·cases e
 ·rintro ⟨x,M1,e1,p⟩;rw [e1]; exact ⟨_,_,_,rfl,p⟩
theorem zc {i:Nat} {h:FE}:OkS (zi i h σ M) P ↔ Ok (h σ M) (zHj fun d M1=>P .nx (σ.set i (some d)) M1):=by
 rw [<- zAy];unfold zi;constructor
 ·rintro ⟨o,σ1,M1,e,p⟩;split at e
  ·rename_i d M2 e1; cases e; exact ⟨_,_,e1,p⟩
  ·cases e
 ·rintro ⟨x,M1,e1,p⟩;rw [e1]; exact ⟨_,_,_,rfl,p⟩
theorem zBT {h:FE}:OkS (zAv h σ M) P ↔ Ok (h σ M) fun _ M1=>P .nx σ M1:=by
 unfold zAv;constructor
 ·rintro ⟨o,σ1,M1,e,p⟩;split at e
  ·rename_i d M2 e1; cases e; exact ⟨_,_,e1,p⟩
  ·cases e
 ·rintro ⟨x,M1,e1,p⟩;rw [e1]; exact ⟨_,_,_,rfl,p⟩
theorem zLM {v o i:FE}:OkS (zI3 v o i σ M) P ↔ Ok (v σ M) (zHj fun d M1=>Ok (o σ M1) fun x M2=>Ok (i σ M2) (zHj fun j M3=>∃ M4,zIT x j d M3 = some M4 /\ P .nx σ M4)):=by
 rw [<- zAy];unfold zI3;constructor
 ·rintro ⟨o,σ1,M1,e,p⟩;split at e
  ·rename_i d M2 e1;split at e
   ·rename_i x M3 e2;split at e
    ·rename_i j M4 e3;split at e
     ·rename_i M5 e4;cases e;refine ⟨_,_,e1,_,_,e2,?_⟩;dsimp only; rw [<- zAy];exact ⟨_,_,e3,_,e4,p⟩
     ·cases e
    ·cases e
   ·cases e
  ·cases e
 ·rintro ⟨d,M1,e1,x,M2,e2,p⟩;rw [<- zAy] at p;obtain ⟨j,M3,e3,M4,e4,p⟩:=p;rw [e1]; dsimp only; rw [e2]; dsimp only; rw [e3]; dsimp only; rw [e4]; exact ⟨_,_,_,rfl,p⟩
theorem zAW {n:Nat} {ds:List D} {Q:D -> Mem -> Prop}:Ok (zBP n f ds M) Q ↔ OkS (f (ds.map some ++ List.replicate (n - ds.length) none) M) fun o _ M1=>match o with | .ret d=>Q d M1 | .nx=>Q .non M1 | _=>False:=by
 unfold zBP;constructor
 ·rintro ⟨o,M1,e,p⟩;split at e
  ·rename_i d σ1 M2 e1; cases e; exact ⟨_,_,_,e1,p⟩
  ·rename_i σ1 M2 e1; cases e; exact ⟨_,_,_,e1,p⟩
  ·cases e
 ·rintro ⟨o,σ1,M1,e1,p⟩;rw [e1];cases o with
  | ret d=>exact ⟨_,_,rfl,p⟩
  | nx=>exact ⟨_,_,rfl,p⟩
  | brk=>exact p.elim
  | cnt=>exact p.elim
theorem zA9 {g:FG} {b:FS} {all:List D} {gd:Option (Mem -> Prop)} (I:List D -> Sd -> Mem -> Prop)
  (hs:∀ x r σ M,I (x :: r) σ M -> zCd gd all M /\ ∃ σ1,g x σ = some σ1 /\ OkS (b σ1 M) fun o σ2 M2=>match o with | .nx=>I r σ2 M2 | .cnt=>I r σ2 M2 | .brk=>P .nx σ2 M2 | .ret d=>P (.ret d) σ2 M2)
  (he:∀ σ M,I [] σ M -> zCd gd all M /\ P .nx σ M):∀ (xs:List D) (σ:Sd) (M:Mem),I xs σ M -> OkS (zCZ g b all gd xs σ M) P
 | [],σ,M,hi=>by
  unfold zCZ;obtain ⟨h1,h2⟩:=he σ M hi;rw [zUH h1];exact ⟨_,_,_,rfl,h2⟩
 | x :: r,σ,M,hi=>by
  unfold zCZ;obtain ⟨h1,σ1,e1,o,σ2,M2,e2,q⟩:=hs x r σ M hi;rw [zUH h1,e1];dsimp only;rw [e2];cases o with
  | nx=>exact zA9 I hs he r σ2 M2 q
  | cnt=>exact zA9 I hs he r σ2 M2 q
  | brk=>exact ⟨_,_,_,rfl,q⟩
  | ret d=>exact ⟨_,_,_,rfl,q⟩
theorem zAY {i:FI} {g:FG} {b:FS}:OkS (zBH i g b σ M) P ↔ ∃ xs gd M1,i σ M = some (xs,gd,M1) /\ OkS (zCZ g b xs gd xs σ M1) P:=by
 unfold zBH;constructor
 ·rintro ⟨o,σ1,M1,e,p⟩;split at e
  ·rename_i xs gd M2 e1; exact ⟨_,_,_,e1,_,_,_,e,p⟩
  ·cases e
 ·rintro ⟨xs,gd,M1,e1,p⟩;rw [e1]; exact p
theorem zB6 {g:FG} {tc:FT} {te:FE} {all:List D} {gd:Option (Mem -> Prop)} (I:List D -> List D -> Mem -> Prop)
  (hs:∀ x r acc M,I (x :: r) acc M -> zCd gd all M /\ ∃ σ1,g x σ = some σ1 /\ Ok (tc σ1 M) fun k M1=>if k then Ok (te σ1 M1) (zHj fun d M2=>I r (acc ++ [d]) M2) else I r acc M1)
  {Q:List D -> Mem -> Prop} (he:∀ acc M,I [] acc M -> zCd gd all M /\ Q acc M):∀ (xs acc:List D) (M:Mem),I xs acc M -> Ok (zBk g tc te σ all gd xs M) fun ys M1=>Q (acc ++ ys) M1
 | [],acc,M,hi=>by
  unfold zBk;obtain ⟨h1,h2⟩:=he acc M hi;rw [zUH h1];exact ⟨_,_,rfl,by simpa using h2⟩
 | x :: r,acc,M,hi=>by
  unfold zBk;obtain ⟨h1,σ1,e1,k,M1,e2,q⟩:=hs x r acc M hi;rw [zUH h1,e1];dsimp only;rw [e2];cases k with
  | false=>exact zB6 I hs he r acc M1 (by simpa using q)
  | true=>
   rw [zUH rfl,<- zAy] at q;obtain ⟨d,M2,e3,q⟩:=q;dsimp only;rw [e3];obtain ⟨ys,M3,e4,p⟩:=zB6 I hs he r (acc ++ [d]) M2 q;dsimp only;rw [e4];exact ⟨_,_,rfl,by simpa using p⟩
theorem zCz {own:List Nat} {i:FI} {g:FG} {tc:FT} {te:FE} {Q:EV -> Mem -> Prop}:Ok (zAQ own i g tc te σ M) Q ↔ ∃ xs gd M1,i σ M = some (xs,gd,M1) /\ xs.length <= sizeLine /\ Ok (zBk g tc te (zGW own σ) xs gd xs M1) fun ys M2=>Q (.fl ys) M2:=by
 unfold zAQ;constructor
 ·rintro ⟨o,M1,e,p⟩;split at e
  ·rename_i xs gd M2 e1;split at e
   ·rename_i hz;split at e
    ·rename_i ys M3 e2; cases e; exact ⟨_,_,_,e1,hz,_,_,e2,p⟩
    ·cases e
   ·cases e
  ·cases e
 ·rintro ⟨xs,gd,M1,e1,hz,ys,M2,e2,p⟩;rw [e1]; dsimp only; rw [zUH hz,e2]; exact ⟨_,_,rfl,p⟩
theorem zC1 {h:FE} {x:EV} {M1:Mem} {xs:List D} (e:h σ M = some (x,M1)) (e2:zAf M1 x = some xs):zBt h σ M = some (xs,zPA x xs,M1):=by
 unfold zBt; rw [e]; dsimp only; rw [e2]
theorem zJs {a:FA} {M1:Mem} {j:Int} (e:a σ M = some ([.int j],M1)) (h1:0 <= j) (h2:j < 2 ^ 62):zAC a σ M = some ((List.range j.toNat).map fun (k:Nat)=>D.int k,none,M1):=by
 unfold zAC; rw [e]; dsimp only; rw [zUH ⟨by omega,h2⟩]
end
section
variable {M:Mem} {P:EV -> Mem -> Prop} {i j:Int}
theorem zKg:Ok (zAc (.dat (.int i)) (.dat (.int j)) M) P ↔ P (.dat (.int (i + j))) M:=zp
theorem zTK:Ok (zHk (.dat (.int i)) (.dat (.int j)) M) P ↔ zNI i j = true /\ P (.dat (.int (i * j))) M:=by
 unfold zHk kI; dsimp only; split
 ·rename_i h; rw [zp]; simp [h]
 ·rename_i h; rw [zE6]; simp [h]
theorem zSC:Ok (zDX (.dat (.int i)) (.dat (.int j)) M) P ↔ 0 < j /\ P (.dat (.int (i % j))) M:=by
 unfold zDX kI; dsimp only; split
 ·rename_i h; rw [zp]; simp at h; simp [h]
 ·rename_i h; rw [zE6]; simp at h; simp; intro h'; omega
theorem zSw:Ok (zKY (.dat (.int i)) (.dat (.int j)) M) P ↔ (0 < j /\ j < 1073741824) /\ P (.dat (.int (i / j))) M:=by
 unfold zKY kI; dsimp only; split
 ·rename_i h; rw [zp]; simp at h; simp [h]
 ·rename_i h; rw [zE6]; simp at h; simp; intro h' h2; have:=h h'; omega
theorem zTA:Ok (zLY (.dat (.int i)) (.dat (.int j)) M) P ↔ (0 <= j /\ j <= 1000000 /\ i.natAbs < 2 ^ 64) /\ P (.dat (.int (i ^ j.toNat))) M:=by
 unfold zLY kI; dsimp only; split
 ·rename_i h; rw [zp]; simp only [zUc,zVF] at h; simp [h]
 ·rename_i h; rw [zE6]; simp only [zUc,zVF,not_and] at h; simp only [false_iff,not_and]; intro ⟨a,b,c⟩; exact absurd c (h ⟨a,b⟩)
theorem zQp:Ok (kLt (.dat (.int i)) (.dat (.int j)) M) P ↔ P (.dat (.bl (decide (i < j)))) M:=zp
theorem zSB:Ok (kLe (.dat (.int i)) (.dat (.int j)) M) P ↔ P (.dat (.bl (decide (i <= j)))) M:=zp
theorem zRT:Ok (kGt (.dat (.int i)) (.dat (.int j)) M) P ↔ P (.dat (.bl (decide (j < i)))) M:=zp
theorem zF3:Ok (kEq (.dat (.int i)) (.dat (.int j)) M) P ↔ P (.dat (.bl (decide (i = j)))) M:=by
 have:kEq (.dat (.int i)) (.dat (.int j)) M = some (.dat (.bl (decide (V.int i = V.int j))),M):=rfl;rw [this,zp]; simp
theorem zTZ:Ok (kNe (.dat (.int i)) (.dat (.int j)) M) P ↔ P (.dat (.bl (decide (i ≠ j)))) M:=by
 have:kNe (.dat (.int i)) (.dat (.int j)) M = some (.dat (.bl (!decide (V.int i = V.int j))),M):=rfl;rw [this,zp]; simp
theorem zTb {x:EV} {xs:List D} {d:D} (h:zAf M x = some xs) (hd:atI xs i = some d) (p:P (.dat d) M):Ok (kIx x (.dat (.int i)) M) P:=by
 have:kIx x (.dat (.int i)) M = some (.dat d,M):=by unfold kIx; dsimp only; rw [h]; dsimp only; rw [hd]
 rw [this,zp]; exact p
theorem zHf {xs:List D} {k:Nat} {d:D} (h:xs[k]? = some d):atI xs (k:Int) = some d:=zH2 h
theorem zF5 {xs:List D} {i:Int} {d:D} (h0:0 <= i) (h:xs[i.toNat]? = some d):atI xs i = some d:=by
 have:i = ((i.toNat:Nat):Int):=by omega
 rw [this]; exact zH2 h
theorem zSV {x:EV} {xs:List D} (h:zAf M x = some xs):Ok (zh [x] M) P ↔ P (.dat (.int xs.length)) M:=by
 have:zh [x] M = some (.dat (.int xs.length),M):=by unfold zh; dsimp only; rw [h]
 rw [this,zp]
theorem zPT {x:EV} {xs:List D} (h:zAf M x = some xs):Ok (zW [x] M) P ↔ P (.dat (.tup xs)) M:=by
 have:zW [x] M = some (.dat (.tup xs),M):=by unfold zW; dsimp only; rw [h]
 rw [this,zp]
theorem zRp {x:EV} {xs:List D} {lo hi:Option Int} (h:zBZ M x = some xs) (ht:zBn x = none):Ok (kSl x lo hi M) P ↔ P (.fl (zE1 xs lo hi)) M:=by
 have:kSl x lo hi M = some (.fl (zE1 xs lo hi),M):=by unfold kSl; rw [ht]; dsimp only; rw [h]
 rw [this,zp]
theorem zAG {xs:List D}:zAf M (.dat (.tup xs)) = some xs:=rfl
theorem zDT {xs:List D}:zAf M (.fl xs) = some xs:=rfl
theorem zQl {xs:List D}:zBZ M (.fl xs) = some xs:=rfl
theorem zBf {n:Nat} {xs:List D} (h:M[n]? = some (.lst xs)):zBZ M (.dat (.ref n)) = some xs:=by unfold zBZ; dsimp only; rw [h]
theorem zO1 {n:Nat} {xs:List D} (h:M[n]? = some (.fro xs)):zBZ M (.dat (.ref n)) = some xs:=by unfold zBZ; dsimp only; rw [h]
theorem zd {n:Nat} {xs:List D} (h:M[n]? = some (.lst xs)):zAf M (.dat (.ref n)) = some xs:=zBf h
theorem zK1 {n:Nat} {xs:List D} (h:M[n]? = some (.fro xs)):zAf M (.dat (.ref n)) = some xs:=zO1 h
theorem zCB {n:Nat} {xs:List D} {d:D} {Q:D -> Mem -> Prop} (h:M[n]? = some (.lst xs)) (hz:xs.length < sizeLine):Ok (zw (.dat (.ref n)) [d] M) Q ↔ Q .non (M.set n (.lst (xs ++ [d]))):=by
 have:zw (.dat (.ref n)) [d] M = some (.non,M.set n (.lst (xs ++ [d]))):=by unfold zw; dsimp only; rw [h]; dsimp only; rw [zUH hz]
 rw [this,zp]
theorem zI7 {n k:Nat} {xs:List D} {d:D} (h:M[n]? = some (.lst xs)) (hk:k < xs.length):zIT (.dat (.ref n)) (.int k) d M = some (M.set n (.lst (xs.set k d))):=by
 unfold zIT; dsimp only; rw [h]; dsimp only;have e:ixN xs.length (k:Int) = some k:=by unfold ixN; rw [zUH (by omega),zUH (by omega)]; simp
 rw [e]
end
theorem zKq {m:FF} {ds:List D} {M:Mem} {Q:D -> Mem -> Prop} (h:Ok (m ds M) fun d M1=>(D.und M.length d = true /\ M.length <= M1.length /\ ∀ (j:Nat) u,j < M.length -> M1[j]? = some u -> MO.und M.length u = true) /\ Q d (M1.take M.length)):Ok (zGy m ds M) Q:=by
 obtain ⟨d,M1,e,⟨h1,h2,h3⟩,q⟩:=h;unfold zGy;rw [e];dsimp only;rw [zUH]
 ·exact ⟨_,_,rfl,q⟩
 ·simp only [zUc,zVF,zUd];refine ⟨⟨h1,fun u hu=>?_⟩,h2⟩;obtain ⟨j,hj⟩:=List.getElem?_of_mem hu;have hlt:j < M.length:=by
   have:=(zT0.mp hj).1;rw [zVQ] at this; omega
  rw [List.getElem?_take_of_lt hlt] at hj;exact h3 j u hlt hj
theorem zCM {m:FF} {ds:List D} {M:Mem} {Q:D -> Mem -> Prop} (h0:D.unds 0 ds = true) (h:Ok (m ds []) fun d _=>D.und 0 d = true /\ Q d M):Ok (zCm m ds M) Q:=by
 obtain ⟨d,M1,e,h1,q⟩:=h;unfold zCm;rw [zUH h0,e];dsimp only;rw [zUH h1];exact ⟨_,_,rfl,q⟩
section
variable {prog:Program} {w:World} {A:Around} {E:Value -> Shared -> Prop} {s:Shared}
theorem TIt.but {h h':Heap} {a b t:Addr} {i:Nat} (x:h.IsTupleIter a t i) (hs:Heap.ExtBut b h h') (n:a ≠ b):h'.IsTupleIter a t i:=x.extBut hs n
theorem Tup.but {h h':Heap} {a b:Addr} {its:Array Value} (x:h.IsTuple a its) (hs:Heap.ExtBut b h h') (n:a ≠ b):h'.IsTuple a its:=x.extBut hs n
theorem zDc {it t:Addr} {i:Nat} {its:Array Value} {x:Value} {Q:Value -> Shared -> Prop} (I:s.heap.IsTupleIter it t i) (T:s.heap.IsTuple t its) (hx:its[i]? = some x)
  (q:∀ h',h'.IsTupleIter it t (i + 1) -> Heap.SameBut it s.heap h' -> Q x { s with heap:=h' }):wpAny (model prog w) A (Builtin.SmallTypes.nextOf (.ref it)) Q E s:=by
 obtain ⟨o,O,C,FD⟩:=id I;obtain ⟨u,U,_,m,G⟩:=T;unfold Builtin.SmallTypes.nextOf;refine zTx (zUe (name:=Str.ofString "__next__") I.typeIs PySem.F.slot_tuple_iterator_next (zUf PySem.F.slot_tuple_iterator_next I.typeIs PySem.F.entry_tuple_iterator_next ?_ (PySem.F.args_tuple_iterator_next_1 _)));refine zTx (m:=field (.ref it) 0) (zUh O FD (x:=.ref t) rfl ?_);rw [zUK (show ¬ ((Value.ref t == Value.none) = true) by exact zUO)];refine zTx (m:=field (.ref it) 1) (zUh O FD (x:=.int i 0) rfl ?_);refine zTx (m:=seqItems? (.ref t)) (zUs U G ?_);simp only [hx,zWm];refine zTx (zVn O FD (by simp) (zTz ⟨x,rfl,zTz (q _ ⟨_,zUp _ O (Obj.isFreed_of_fields (zVJ FD _)),(Obj.cls_mapFields ..).trans C,?_⟩ (zU5 ..))⟩));rw [zVJ FD];simp [rawInt]
theorem zGp {it t:Addr} {i:Nat} {its:Array Value} {Q:Value -> Shared -> Prop} (hh:A.handled = none) (I:s.heap.IsTupleIter it t i) (T:s.heap.IsTuple t its) (hx:its[i]? = none)
  (q:∀ h' e,Heap.ExtBut it s.heap h' -> (∃ o,h'.get? e = some o /\ o.cls = .type "StopIteration") -> E (.ref e) { s with heap:=h' }):wpAny (model prog w) A (Builtin.SmallTypes.nextOf (.ref it)) Q E s:=by
 obtain ⟨o,O,C,FD⟩:=id I;obtain ⟨u,U,_,m,G⟩:=T;unfold Builtin.SmallTypes.nextOf;refine zTx (zUe (name:=Str.ofString "__next__") I.typeIs PySem.F.slot_tuple_iterator_next (zUf PySem.F.slot_tuple_iterator_next I.typeIs PySem.F.entry_tuple_iterator_next ?_ (PySem.F.args_tuple_iterator_next_1 _)));refine zTx (m:=field (.ref it) 0) (zUh O FD (x:=.ref t) rfl ?_);rw [zUK (show ¬ ((Value.ref t == Value.none) = true) by exact zUO)];refine zTx (m:=field (.ref it) 1) (zUh O FD (x:=.int i 0) rfl ?_);refine zTx (m:=seqItems? (.ref t)) (zUs U G ?_);simp only [hx,zWm];refine zTx (zVP (zTx (zVn O FD (by simp) ?_)));refine zTx (m:=newExc (.type "StopIteration") []) ?_;simp only [newTuple,newExc];refine zTx (zUV (zTx (m:=firstArgMember _ _) (wpAny_of_eq (a:=Value.none) (by first | rfl | (simp only [firstArgMember]; rfl)) (zUV ?_ (by size_fits)))) (by size_fits));simp only [raiseNew];refine zTx (wpAny_handled ?_);first | rw [hh] | rw [show A.in1.handled = none from hh]
 exact zTx (zTz (wpAny_throw (q _ _ (((zU5 ..).extBut.push _).push _) ⟨_,zUC _ rfl,rfl⟩)))
structure ZipT (h:Heap) (z TI TO i1 i2 t1 t2:Addr) (f:Value) (k1 k2:Nat):Prop where
 z:IsZip h z TI TO f
 ti:IsPair h TI (.ref i1) (.ref i2)
 to:∃ a b,IsPair h TO a b
 a:h.IsTupleIter i1 t1 k1
 b:h.IsTupleIter i2 t2 k2
theorem zMM {z TI TO i1 i2 t1 t2:Addr} {k:Nat} {xs ys:Array Value} {x y:Value} {Q:Option Value -> Shared -> Prop} (D:ZipApart z TI TO i1 i2 t1 t2) (Z:ZipT s.heap z TI TO i1 i2 t1 t2 .none k k)
  (T1:s.heap.IsTuple t1 xs) (T2:s.heap.IsTuple t2 ys) (hx:xs[k]? = some x) (hy:ys[k]? = some y)
  (q:∀ h',ZipT h' z TI TO i1 i2 t1 t2 (rawInt s.heap.objs.size) (k + 1) (k + 1) -> IsPair h' s.heap.objs.size x y ->
   (∀ c o,c ∉ [z,TO,i1,i2] -> s.heap.get? c = some o -> h'.get? c = some o) -> Q (some (.ref s.heap.objs.size)) { s with heap:=h' }):wpAny (model prog w) A (pyNext (.ref z)) Q E s:=by
 obtain ⟨Z0,P0,⟨a,b,O0⟩,I1,I2⟩:=Z;have ty:s.TypeIs (.ref z) "zip" := ⟨_,Z0,rfl⟩;unfold pyNext;refine zTx (zVd (zUe (name:=Str.ofString "__next__") ty PySem.F.slot_zip_next (zUf PySem.F.slot_zip_next ty PySem.F.entry_zip_next ?_ (PySem.F.args_zip_next_1 _))));refine zTx (m:=field (.ref z) 2) (zUh Z0 rfl (x:=.bool false) rfl ?_);refine zTx (m:=field (.ref z) 3) (zUh Z0 rfl (x:=.ref TI) rfl ?_);refine zTx (zUs P0 rfl ?_);refine zTx (m:=Builtin.SmallTypes.ownedTupleIsFree (.ref z)) ?_;unfold Builtin.SmallTypes.ownedTupleIsFree;refine zTx (zUh Z0 rfl (x:=.none) rfl (zTz ?_));simp only [if_true];refine zTx (zVP (zTx (zUh Z0 rfl (x:=.ref TO) rfl (zTx (zVI Z0 (by simp) fun h1 Z1 e1=>?_)))));replace Z1:IsZip h1 z TI TO .ellipsis:=Z1;refine zTx ?_;simp only [List.forIn_cons,List.forIn_nil,List.zipIdx_cons,List.zipIdx_nil];refine zTx (zTx (wpAny_onRaise (zTx (m:=Builtin.SmallTypes.nextOf (.ref i1)) (zDc (TIt.but I1 e1.extBut D.i1z) (Tup.but T1 e1.extBut D.l1z) hx fun h2 J1 e2=>zTz ?_))));have O2:IsPair h2 TO a b:=e2.extBut _ _ D.TOi1 (e1.extBut _ _ D.TOz O0);refine zTx (zUs O2 rfl (zTx (wpAny_updateSeq_pair O2 fun h3 O3 e3=>zTx (wpAny_letGo (zTz ?_)))));replace O3:IsPair h3 TO x b:=O3
 refine zTx (zTx (wpAny_onRaise (zTx (m:=Builtin.SmallTypes.nextOf (.ref i2)) (zDc (TIt.but (TIt.but (TIt.but I2 e1.extBut D.i2z) e2.extBut D.i12.symm) e3.extBut D.TOi2.symm)
  (Tup.but (Tup.but (Tup.but T2 e1.extBut D.l2z) e2.extBut D.l2i1) e3.extBut D.l2TO) hy fun h4 J2 e4=>zTz ?_))))
 have O4:IsPair h4 TO x b:=e4.extBut _ _ D.TOi2 O3;refine zTx (zUs O4 rfl (zTx (wpAny_updateSeq_pair O4 fun h5 O5 e5=>zTx (wpAny_letGo (zTz (zTz ?_))))));replace O5:IsPair h5 TO x y:=O5;refine zTx (zUs O5 rfl (zTx (wpAny_newTuple ?_)));have sz:h5.objs.size = s.heap.objs.size:=by rw [e5.1,e4.1,e3.1,e2.1,e1.1]
 have Z5:IsZip h5 z TI TO .ellipsis:=e5.extBut _ _ D.TOz.symm (e4.extBut _ _ D.i2z.symm (e3.extBut _ _ D.TOz.symm (e2.extBut _ _ D.i1z.symm Z1)));have kp:∀ c o,c ∉ [z,TO,i1,i2] -> s.heap.get? c = some o -> h5.get? c = some o:=fun c o n e=>by
  simp only [zUE,zUX,or_false,not_or] at n;obtain ⟨n1,n2,n3,n4⟩:=n;exact e5.extBut _ _ n2 (e4.extBut _ _ n4 (e3.extBut _ _ n2 (e2.extBut _ _ n3 (e1.extBut _ _ n1 e))))
 have A5:h5.IsTupleIter i1 t1 (k + 1):=TIt.but (TIt.but (TIt.but J1 e3.extBut D.TOi1.symm) e4.extBut D.i12) e5.extBut D.TOi1.symm;have B5:h5.IsTupleIter i2 t2 (k + 1):=TIt.but J2 e5.extBut D.TOi2.symm;have zl:z < h5.objs.size:=zUD Z5;refine zTx (m:=Builtin.SmallTypes.ownedTupleHandOut (.ref z) (.ref h5.objs.size)) ?_;unfold Builtin.SmallTypes.ownedTupleHandOut;have Z6:IsZip (h5.push { cls:=.type "tuple", data:=.seq #[x,y] }) z TI TO .ellipsis:=zTy _ Z5;refine zTx (zVI Z6 (by simp) fun h7 Z7 e7=>?_);replace Z7:IsZip h7 z TI TO (rawInt h5.objs.size):=Z7;refine zVI Z7 (by simp) fun h8 Z8 e8=>?_;replace Z8:IsZip h8 z TI TO (rawInt h5.objs.size):=Z8;have up:∀ c o,c ≠ z -> h5.get? c = some o -> h8.get? c = some o:=fun c o n e=>e8.extBut _ _ n (e7.extBut _ _ n (zTy _ e));have N8:IsPair h8 h5.objs.size x y:=e8.extBut _ _ (zVX zl) (e7.extBut _ _ (zVX zl) (zUC _ rfl));rw [sz] at Z8 N8;refine zTz ⟨_,rfl,?_⟩;rw [sz];refine zTz (q h8 ⟨Z8,up _ _ D.TIz (kp _ _ (by simp [D.TIz,D.TITO,D.TIi1,D.TIi2]) P0),⟨_,_,up _ _ D.TOz O5⟩,?_,?_⟩ N8 fun c o n e=>up c o (fun m=>n (by simp [m])) (kp c o n e))
 ·obtain ⟨o,e,r⟩:=A5; exact ⟨o,up _ _ D.i1z e,r⟩
 ·obtain ⟨o,e,r⟩:=B5; exact ⟨o,up _ _ D.i2z e,r⟩
theorem zM4 {z TI TO i1 i2 t1 t2:Addr} {k:Nat} {xs ys:Array Value} {Q:Option Value -> Shared -> Prop} (hh:A.handled = none) (D:ZipApart z TI TO i1 i2 t1 t2) (Z:ZipT s.heap z TI TO i1 i2 t1 t2 .none k k)
  (T1:s.heap.IsTuple t1 xs) (T2:s.heap.IsTuple t2 ys) (he:xs[k]? = none \/ ys[k]? = none)
  (q:∀ h',(∀ c o,c ∉ [z,TO,i1,i2] -> s.heap.get? c = some o -> h'.get? c = some o) -> Q none { s with heap:=h' }):wpAny (model prog w) A (pyNext (.ref z)) Q E s:=by
 obtain ⟨Z0,P0,⟨a,b,O0⟩,I1,I2⟩:=Z;have ty:s.TypeIs (.ref z) "zip" := ⟨_,Z0,rfl⟩
 have stop:∀ (e:Addr) (h':Heap),(∀ c o,c ∉ [z,TO,i1,i2] -> s.heap.get? c = some o -> h'.get? c = some o) -> (∃ o,h'.get? e = some o /\ o.cls = .type "StopIteration") ->
   wpAny (model prog w) A (do if (<- isInstance (.ref e) (.type "StopIteration")) then pure none else throw (.ref e):Sem (Option Value)) Q E { s with heap:=h' }:=fun e h' k1 ⟨o,e1,e2⟩=>
  zTx (wpAny_isInstance (T := "StopIteration") (b:=true) ⟨o,e1,e2⟩ isSubtype_stop (zTz (q h' k1)))
 unfold pyNext;refine zTx (zVd (zUe (name:=Str.ofString "__next__") ty PySem.F.slot_zip_next (zUf PySem.F.slot_zip_next ty PySem.F.entry_zip_next ?_ (PySem.F.args_zip_next_1 _))));refine zTx (m:=field (.ref z) 2) (zUh Z0 rfl (x:=.bool false) rfl ?_);refine zTx (m:=field (.ref z) 3) (zUh Z0 rfl (x:=.ref TI) rfl ?_);refine zTx (zUs P0 rfl ?_);refine zTx (m:=Builtin.SmallTypes.ownedTupleIsFree (.ref z)) ?_;unfold Builtin.SmallTypes.ownedTupleIsFree;refine zTx (zUh Z0 rfl (x:=.none) rfl (zTz ?_));simp only [if_true];refine zTx (zVP (zTx (zUh Z0 rfl (x:=.ref TO) rfl (zTx (zVI Z0 (by simp) fun h1 Z1 e1=>?_)))));replace Z1:IsZip h1 z TI TO .ellipsis:=Z1;refine zTx ?_;simp only [List.forIn_cons,List.forIn_nil,List.zipIdx_cons,List.zipIdx_nil];cases hx:xs[k]? with
 | none=>
  refine zTx (zTx (wpAny_onRaise (zTx (m:=Builtin.SmallTypes.nextOf (.ref i1)) (zGp hh (TIt.but I1 e1.extBut D.i1z) (Tup.but T1 e1.extBut D.l1z) hx fun h2 e e2 he=>?_))));obtain ⟨oe,o1,o2⟩:=he;have Z2:IsZip h2 z TI TO .ellipsis:=e2 _ _ D.i1z.symm Z1;have ne:e ≠ z:=fun m=>by subst m; rw [Z2] at o1; cases o1; simp at o2
  refine zVI Z2 (by simp) fun h3 _ e3=>stop e h3 (fun c o n x=>?_) ⟨oe,e3.extBut _ _ ne o1,o2⟩;simp only [zUE,zUX,or_false,not_or] at n;exact e3.extBut _ _ n.1 (e2 _ _ n.2.2.1 (e1.extBut _ _ n.1 x))
 | some x=>
  have hy:ys[k]? = none:=by
   rcases he with m | m
   ·rw [hx] at m; cases m
   ·exact m
  refine zTx (zTx (wpAny_onRaise (zTx (m:=Builtin.SmallTypes.nextOf (.ref i1)) (zDc (TIt.but I1 e1.extBut D.i1z) (Tup.but T1 e1.extBut D.l1z) hx fun h2 J1 e2=>zTz ?_))));have O2:IsPair h2 TO a b:=e2.extBut _ _ D.TOi1 (e1.extBut _ _ D.TOz O0);refine zTx (zUs O2 rfl (zTx (wpAny_updateSeq_pair O2 fun h3 O3 e3=>zTx (wpAny_letGo (zTz ?_)))))
  refine zTx (zTx (wpAny_onRaise (zTx (m:=Builtin.SmallTypes.nextOf (.ref i2)) (zGp hh (TIt.but (TIt.but (TIt.but I2 e1.extBut D.i2z) e2.extBut D.i12.symm) e3.extBut D.TOi2.symm)
   (Tup.but (Tup.but (Tup.but T2 e1.extBut D.l2z) e2.extBut D.l2i1) e3.extBut D.l2TO) hy fun h4 e e4 he=>?_))))
  obtain ⟨oe,o1,o2⟩:=he;have Z4:IsZip h4 z TI TO .ellipsis:=e4 _ _ D.i2z.symm (e3.extBut _ _ D.TOz.symm (e2.extBut _ _ D.i1z.symm Z1));have ne:e ≠ z:=fun m=>by subst m; rw [Z4] at o1; cases o1; simp at o2
  refine zVI Z4 (by simp) fun h5 _ e5=>stop e h5 (fun c o n x=>?_) ⟨oe,e5.extBut _ _ ne o1,o2⟩;simp only [zUE,zUX,or_false,not_or] at n;exact e5.extBut _ _ n.1 (e4 _ _ n.2.2.2 (e3.extBut _ _ n.2.1 (e2.extBut _ _ n.2.2.1 (e1.extBut _ _ n.1 x))))
abbrev zT1 (h:Heap) (a:Addr):Heap:=h.push { cls:=.type "tuple_iterator", data:=.fields #[.ref a,.int 0 0] }
abbrev zT2 (h:Heap) (a b:Addr):Heap:=zT1 (zT1 h a) b
abbrev zT3 (h:Heap) (a b:Addr):Heap:=(zT2 h a b).push { cls:=.type "tuple", data:=.seq #[.ref h.objs.size,.ref (zT1 h a).objs.size] }
abbrev zT4 (h:Heap) (a b:Addr):Heap:=(zT3 h a b).push { cls:=.type "tuple", data:=.seq #[.none,.none] }
abbrev zT5 (h:Heap) (a b:Addr):Heap:=(zT4 h a b).push { cls:=.type "zip", data:=.fields #[.none,.bool false,.bool false,.ref (zT2 h a b).objs.size,.ref (zT3 h a b).objs.size] }
theorem zKJ (a b:Addr) (xs ys:Array Value):Meets (Builtin.«zip.__new__» ⟨[.type "zip", .ref a,.ref b],[]⟩) (fun _ R s=>s.heap.IsTuple a xs /\ s.heap.IsTuple b ys /\ R (.ok (.ret (.ref (zT4 s.heap a b).objs.size))) { s with heap:=zT5 s.heap a b }) :=
 .of_wp fun prog w A R s h=>by
  obtain ⟨hp,g,d,tk,os⟩:=s;obtain ⟨Ta,Tb,h⟩:=h;have sz:=sub_zip;have U1:Heap.IsTuple (Shared.heap ⟨hp,g,d,tk,os⟩) a xs:=Ta;have U2:Heap.IsTuple (Shared.heap ⟨hp.push { cls:=.type "tuple_iterator", data:=.fields #[.ref a,.int 0 0] },g,d,tk,os⟩) b ys:=Heap.IsTuple.push Tb _;wp_walk using wpAny_pyIter_tuple U1,wpAny_pyIter_tuple U2;exact ⟨_,rfl,h⟩
theorem zM0 {a b:Addr} {xs ys:Array Value} {Q:Value -> Shared -> Prop} (Ta:s.heap.IsTuple a xs) (Tb:s.heap.IsTuple b ys)
  (h:∀ h',ZipT h' (s.heap.objs.size + 4) (s.heap.objs.size + 2) (s.heap.objs.size + 3) s.heap.objs.size (s.heap.objs.size + 1) a b .none 0 0 -> (∀ c o,s.heap.get? c = some o -> h'.get? c = some o) -> Q (.ref (s.heap.objs.size + 4)) { s with heap:=h' }) :
  wpAny (model prog w) A (call (.type "zip") [.ref a,.ref b]) Q E s:=by
 refine callType_new PySem.F.called_zip (by decide) (PySem.F.typeCall_zip_2 _ _) (PySem.F.newCall_zip_2 _ _) (fun obj=>PySem.F.args_object_init_3 obj _ _) PySem.F.entry_zip_new (zKJ a b xs ys) ⟨Ta,Tb,?_⟩;have q1:(zT1 s.heap a).objs.size = s.heap.objs.size + 1:=zUi ..;have q2:(zT2 s.heap a b).objs.size = s.heap.objs.size + 2:=by rw [zUi,q1]
 have q3:(zT3 s.heap a b).objs.size = s.heap.objs.size + 3:=by rw [zUi,q2]
 have q4:(zT4 s.heap a b).objs.size = s.heap.objs.size + 4:=by rw [zUi,q3]
 have u:∀ {h:Heap} {c:Addr} {o p:Obj},h.get? c = some o -> (h.push p).get? c = some o:=fun e=>zTy _ e;have p5:(zT5 s.heap a b).get? (zT4 s.heap a b).objs.size = some _:=zUC _ rfl;have p4:(zT5 s.heap a b).get? (zT3 s.heap a b).objs.size = some _:=u (zUC _ rfl);have p3:(zT5 s.heap a b).get? (zT2 s.heap a b).objs.size = some _:=u (u (zUC _ rfl));have p2:(zT5 s.heap a b).get? (zT1 s.heap a).objs.size = some _:=u (u (u (zUC _ rfl)));have p1:(zT5 s.heap a b).get? s.heap.objs.size = some _:=u (u (u (u (zUC _ rfl))));show _ /\ _;rw [q2,q3,q4] at p5;rw [q1,q2] at p3;rw [q3] at p4;rw [q1] at p2;rw [q4];exact ⟨⟨_,p5,rfl⟩,h _ ⟨p5,p3,⟨_,_,p4⟩,⟨_,p1,rfl,rfl⟩,⟨_,p2,rfl,rfl⟩⟩ fun c o x=>u (u (u (u (u x))))⟩
end
theorem zEp {X:Cx} {zB:List (Addr × Obj)} {σ:L2.St} {H:Hp} {s:Shared} {h':Heap} {t':Nat} {ch:List Addr} {T:Addr} {o:HO} (I:Inv X zB σ H s) (hf:∀ b ∈ ch,zCh X zB H b)
  (k:∀ b u,b ∉ ch -> s.heap.get? b = some u -> h'.get? b = some u) (hT:s.heap.objs.size <= T) (new:zk X.prog X.w (upd H T o) h' T o):Inv X zB σ (upd H T o) { s with heap:=h',toks:=t' }:=by
 have hn:H T = none:=I.hok.fresh hT;have nch:∀ b u,H b = some u -> b ∉ ch:=fun b u e z=>by rw [(hf b z).1] at e; cases e
 have un:∀ b u,H b = some u -> upd H T o b = some u:=fun b u e=>by rw [zQ (zX e hn)]; exact e
 refine I.step (g':=s.gens) (d':=s.drawn) (ch:=ch) (fun b hb=>⟨(hf b hb).2.2.2.1,(hf b hb).2.1,(hf b hb).2.2.2.2.1,(hf b hb).2.2.2.2.2⟩) (fun b u _ _ hc e _=>k b u hc e) (fun b u _ _ hc e _=>⟨u.slots,k b u hc e⟩)
  (fun b u _ e n=>by rw [zQ (fun z=>by rw [z] at e; exact absurd (zUD e) (Nat.not_lt.mpr hT))]; exact n) (fun b u hc e=>⟨u,k b u hc e⟩) (fun b xs e=>un b _ e) (fun b p u e=>un b _ e) (fun b ps e=>⟨#[],by rw [un b _ e]; simp⟩) (fun m hm=>?_) (fun b u e=>?_) I.bare
 ·obtain ⟨p,es,ep,ho,r⟩:=hm;exact ⟨p,es,ep,k _ p (fun z=>(hf _ z).2.1 rfl) ho,r⟩
 ·by_cases hb:b = T
  ·subst hb; rw [zg] at e; cases e; exact new
  ·rw [zQ hb] at e;refine (I.hok b u e).stay (fun c v hc q=>k c v ?_ q) (fun c q=>un c _ q) fun c xs q=>un c _ q;rcases hc with z | z
   ·rw [z]; exact nch b u e
   ·exact nch c _ z
theorem zGh {X:Cx} {zB:List (Addr × Obj)} {σ:L2.St} {H:Hp} {s:Shared} {h':Heap} {t':Nat} {ch:List Addr} (I:Inv X zB σ H s) (hf:∀ b ∈ ch,zCh X zB H b)
  (k:∀ b u,b ∉ ch -> s.heap.get? b = some u -> h'.get? b = some u):Inv X zB σ H { s with heap:=h',toks:=t' }:=by
 have nch:∀ b u,H b = some u -> b ∉ ch:=fun b u e z=>by rw [(hf b z).1] at e; cases e
 refine I.step (g':=s.gens) (d':=s.drawn) (ch:=ch) (fun b hb=>⟨(hf b hb).2.2.2.1,(hf b hb).2.1,(hf b hb).2.2.2.2.1,(hf b hb).2.2.2.2.2⟩) (fun b u _ _ hc e _=>k b u hc e) (fun b u _ _ hc e _=>⟨u.slots,k b u hc e⟩)
  (fun b u _ e n=>n) (fun b u hc e=>⟨u,k b u hc e⟩) (fun b xs e=>e) (fun b p u e=>e) (fun b ps e=>⟨#[],by rw [e]; simp⟩) (fun m hm=>?_) (fun b u e=>?_) I.bare
 ·obtain ⟨p,es,ep,ho,r⟩:=hm;exact ⟨p,es,ep,k _ p (fun z=>(hf _ z).2.1 rfl) ho,r⟩
 ·refine (I.hok b u e).stay (fun c v hc q=>k c v ?_ q) (fun c q=>q) fun c xs q=>q;rcases hc with z | z
  ·rw [z]; exact nch b u e
  ·exact nch c _ z
def Itz (K:PySem.W.Frag) (a b:Addr):It :=
 ⟨fun i H=>∃ xs ys x y,SqT K H a xs /\ SqT K H b ys /\ xs[i]? = some x /\ ys[i]? = some y,
  fun i H v H'=>∃ T x y,v = .ref T /\ H T = none /\ H' = upd H T (.tup [x,y]) /\ (∀ xs,SqT K H a xs -> xs[i]? = some x) /\ ∀ ys,SqT K H b ys -> ys[i]? = some y,
  fun i H=>∃ xs ys,SqT K H a xs /\ SqT K H b ys /\ (xs.length <= i \/ ys.length <= i)⟩
theorem zLr {P:Program} {w:World} {K:PySem.W.Frag} {es:List Expr} {ek:Nat} {ep:Pos} {z TI TO i1 i2 a b:Addr} (D:ZipApart z TI TO i1 i2 a b) :
  Turn P w K (.Tuple es ek ep) (Itz K a b) [z,TI,TO,i1,i2] z (fun i h=>ZipT h z TI TO i1 i2 a b .none i i) where
 mem:=by simp
 obj:=fun i h Z c hc=>by
  obtain ⟨Z0,P0,⟨x,y,O0⟩,⟨o1,e1,_,d1⟩,⟨o2,e2,_,d2⟩⟩:=Z;simp only [zUE,zUX,or_false] at hc;rcases hc with rfl | rfl | rfl | rfl | rfl
  ·exact ⟨_,Z0,fun v m=>by cases m⟩
  ·exact ⟨_,P0,fun v m=>by cases m⟩
  ·exact ⟨_,O0,fun v m=>by cases m⟩
  ·exact ⟨_,e1,fun v m=>by rw [d1] at m; cases m⟩
  ·exact ⟨_,e2,fun v m=>by rw [d2] at m; cases m⟩
 keep:=fun i h h' Z k=>by
  obtain ⟨Z0,P0,⟨x,y,O0⟩,⟨o1,e1,r1⟩,⟨o2,e2,r2⟩⟩:=Z;exact ⟨k z (by simp) _ Z0,k TI (by simp) _ P0,⟨x,y,k TO (by simp) _ O0⟩,⟨o1,k i1 (by simp) _ e1,r1⟩,⟨o2,k i2 (by simp) _ e2,r2⟩⟩
 item:=by
  intro X hP hw hK hc i zB s σ H E I hf Z hg;subst hP hw hK;obtain ⟨xs,ys,x,y,sa,sb,hx,hy⟩:=hg;obtain ⟨its,rv,p1,z1⟩:=I.tuple sa;obtain ⟨its2,rv2,p2,z2⟩:=I.tuple sb;obtain ⟨u,hu,ru⟩:=rv.get hx;obtain ⟨u2,hu2,ru2⟩:=rv2.get hy;refine zMM D Z (show s.heap.IsTuple a its.toArray from p1) (show s.heap.IsTuple b its2.toArray from p2) (x:=u) (y:=u2) (by simpa using hu) (by simpa using hu2) fun h' Z' N' kp=>⟨_,rfl,?_⟩;refine wpAny_letOwnedTupleGo_zip Z'.z fun h2 Z2 e2=>?_;have hch:∀ c ∈ [z,TO,i1,i2],zCh X zB H c:=fun c hm=>hf c (by
   simp only [zUE,zUX,or_false] at hm ⊢;rcases hm with q | q | q | q <;> simp [q])
  have kk:∀ c o,c ∉ [z,TO,i1,i2] -> s.heap.get? c = some o -> h2.get? c = some o:=fun c o n e=>e2.extBut _ _ (fun m=>n (by simp [m])) (kp c o n e);have zlt:z < s.heap.objs.size:=zUD Z.z;have NT:IsPair h2 s.heap.objs.size u u2:=e2.extBut _ _ (zVX zlt) N';have hfr:H s.heap.objs.size = none:=I.hok.fresh (zT8 _);refine ⟨.ref s.heap.objs.size,upd H s.heap.objs.size (.tup [x,y]),zEp (s:=s) (h':=h2) (t':=s.toks) I hch kk (zT8 _) ?_,rfl,⟨_,x,y,rfl,hfr,rfl,fun ws hw=>?_,fun ws hw=>?_⟩,?_,fun c hm=>?_⟩
  ·exact ⟨by show 2 <= sizeLine; decide,[u,u2],.cons ru (.cons ru2 .nil),⟨_,NT,rfl,⟨_,rfl⟩,rfl⟩⟩
  ·rw [I.tuple_inj hw sa]; exact hx
  ·rw [I.tuple_inj hw sb]; exact hy
  ·obtain ⟨_,P1,⟨q1,q2,O1⟩,⟨o1,f1,r1⟩,⟨o2,f2,r2⟩⟩:=Z';exact ⟨Z2,e2.extBut _ _ D.TIz P1,⟨q1,q2,e2.extBut _ _ D.TOz O1⟩,⟨o1,e2.extBut _ _ D.i1z f1,r1⟩,⟨o2,e2.extBut _ _ D.i2z f2,r2⟩⟩
  ·have lt:c < s.heap.objs.size:=by
    obtain ⟨Z0,P0,⟨q1,q2,O0⟩,⟨o1,f1,_⟩,⟨o2,f2,_⟩⟩:=Z;simp only [zUE,zUX,or_false] at hm;rcases hm with rfl | rfl | rfl | rfl | rfl
    ·exact zUD Z0
    ·exact zUD P0
    ·exact zUD O0
    ·exact zUD f1
    ·exact zUD f2
   rw [zQ (zUN lt)];exact (hf c hm).1
 done:=by
  intro X hP hw hK hc i zB s σ H E I hf Z hg;subst hP hw hK;obtain ⟨xs,ys,sa,sb,hz⟩:=hg;obtain ⟨its,rv,p1,z1⟩:=I.tuple sa;obtain ⟨its2,rv2,p2,z2⟩:=I.tuple sb;have l1:=rv.length;have l2:=rv2.length;refine zM4 (I.ok.hd hc) D Z (show s.heap.IsTuple a its.toArray from p1) (show s.heap.IsTuple b its2.toArray from p2) ?_ fun h' kp=>⟨rfl,zGh (s:=s) (h':=h') (t':=s.toks) I (fun c hm=>hf c (by
   simp only [zUE,zUX,or_false] at hm ⊢;rcases hm with q | q | q | q <;> simp [q])) kp⟩
  rcases hz with q | q
  ·exact .inl (by simp; omega)
  ·exact .inr (by simp; omega)
 self:=fun _ _ _ _ _ Z h=>wpAny_pyIter_zip Z.z h
section
variable {X:Cx} {a b:Expr} {es:List Expr} {ek:Nat} {ep p pos:Pos}
theorem zRy {ta:TA} (hg:Gl X "zip") (hm:X.mg "zip" = none) (ha:PA X [a,b] ta) (hs:starEach [a,b] X.env = [(false,eval a X.env),(false,eval b X.env)]:=by rfl) (hs2:starEach [b] X.env = [(false,eval b X.env)]:=by rfl) :
  PI X (.Tuple es ek ep) (.Call (.Name "zip" p) [a,b] [] pos) (fun σ H R=>ta σ H fun vs H1=>∃ l1 l2 xs ys,vs = [.ref l1,.ref l2] /\ SqT X.K H1 l1 xs /\ SqT X.K H1 l2 ys /\ R (Itz X.K l1 l2) H1):=by
 intro zB s σ H R I h;refine Call_ (zEk I hg hm (by rfl) (PyProof.Rows.callWith_type1 (thn (ha pos zB s σ H _ I h) fun us s1 ⟨vs,H1,I1,r1,q1⟩=>?_) (by rw [hs,hs2]) (by rw [hs2]; rfl)));obtain ⟨l1,l2,xs,ys,rfl,s1',s2',q⟩:=q1;cases r1 with
 | cons r rr=>
  cases rr with
  | cons r' rr=>
   cases rr;cases r;cases r';obtain ⟨its,rv,p1,_⟩:=I1.tuple s1';obtain ⟨its2,rv2,p2,_⟩:=I1.tuple s2';have d1:l1 < s1.heap.objs.size:=by obtain ⟨_,e,_⟩:=p1; exact zUD e
   have d2:l2 < s1.heap.objs.size:=by obtain ⟨_,e,_⟩:=p2; exact zUD e
   refine zM0 (show s1.heap.IsTuple l1 its.toArray from p1) (show s1.heap.IsTuple l2 its2.toArray from p2) fun h' Z kp=>wpAny_pyIter_zip Z.z ?_;refine ⟨s1.heap.objs.size + 4,[s1.heap.objs.size + 4,s1.heap.objs.size + 2,s1.heap.objs.size + 3,s1.heap.objs.size,s1.heap.objs.size + 1],_,_,H1,rfl,I1.kept (t':=s1.toks) kp,zLr (zipApart_new d1 d2),Z,fun c hc=>?_,q⟩;have ge:s1.heap.objs.size <= c:=by
    simp only [zUE,zUX,or_false] at hc;rcases hc with rfl | rfl | rfl | rfl | rfl
    ·exact Nat.le_add_right _ 4
    ·exact Nat.le_add_right _ 2
    ·exact Nat.le_add_right _ 3
    ·exact zT8 _
    ·exact Nat.le_add_right _ 1
   exact I1.fpOk ge (I1.hok.fresh ge)
def zQ7 (g:FA):FI:=fun σ M=>match g σ M with
 | some ([.tup xs,.tup ys],M1)=>some ((xs.zip ys).map fun q=>D.tup [q.1,q.2],none,M1)
 | _=>none
theorem zQ3 {g:FA} (hg:Gl X "zip") (hm:X.mg "zip" = none) (ha:QA X [a,b] g) (hs:starEach [a,b] X.env = [(false,eval a X.env),(false,eval b X.env)]:=by rfl) (hs2:starEach [b] X.env = [(false,eval b X.env)]:=by rfl) :
  QI X (.Tuple es ek ep) (.Call (.Name "zip" p) [a,b] [] pos) (zQ7 g):=.mk <| PI.imp (zRy hg hm ha.un hs hs2) fun τ H R zz=>by
 obtain ⟨L,σ,M,xs,gd,M',c,rs,hf,q⟩:=zz;unfold zQ7 at hf;split at hf
 ·rename_i ds es' M1 e1;cases hf;refine ⟨L,σ,M,_,_,c,rs,e1,fun L1 H1 vs s1 c1 r1=>?_⟩;obtain ⟨v,v',rfl,r2,r3⟩:=r1.two;unfold Rep at r2 r3;obtain ⟨l1,ws1,rfl,h1,q1⟩:=r2;obtain ⟨l2,ws2,rfl,h2,q2⟩:=r3;refine ⟨l1,l2,ws1,ws2,rfl,.of h1,.of h2,q L1 H1 _ s1 c1 fun L2 H2 M2 s2 c2 _=>?_⟩;have k1:=s2.tup l1 ws1 h1;have k2:=s2.tup l2 ws2 h2;have p1:=q1.stp s2;have p2:=q2.stp s2;refine ⟨fun i d hd=>?_,⟨ws1,ws2,.of k1,.of k2,?_⟩⟩
  ·rw [zUP] at hd;cases e2:(ds.zip es')[i]? with
   | none=>rw [e2] at hd; cases hd
   | some pr=>
    rw [e2] at hd;cases hd;obtain ⟨f1,f2⟩:=List.getElem?_zip_eq_some.mp e2;obtain ⟨u,hu,ru⟩:=p1.get f1;obtain ⟨u2,hu2,ru2⟩:=p2.get f2;refine ⟨⟨ws1,ws2,u,u2,.of k1,.of k2,hu,hu2⟩,fun v H3 hy=>?_⟩;obtain ⟨T,x,y,rfl,hT,rfl,hxx,hyy⟩:=hy;have ex:=hxx ws1 (.of k1);have ey:=hyy ws2 (.of k2);rw [hu] at ex; cases ex;rw [hu2] at ey; cases ey;exact ⟨fun a o e=>by rw [zQ (zX e hT)]; exact e,Rep.newTup hT (.cons ru (.cons ru2 .nil))⟩
  ·rw [zUB,List.length_zip,p1.length,p2.length];omega
 ·cases hf
def zDy (i j:Nat):FG:=fun d σ=>match d with
 | .tup [x,y]=>some ((σ.set i (some x)).set j (some y))
 | _=>none
abbrev gP2 (K:PySem.W.Frag) (i j:Nat):TG:=zSQ K 2 (zMy (zDN i) (zMy (zDN j) zSP))
theorem zN3 {K:PySem.W.Frag} {i j:Nat}:GOk (gP2 K i j) (zDy i j):=by
 intro L H σ σ' τ d v Q rs r hf q;unfold zDy at hf;split at hf
 ·rename_i x y;cases hf;unfold Rep at r;obtain ⟨a,vs,rfl,e,r⟩:=r;obtain ⟨v1,v2,rfl,r1,r2⟩:=r.two;exact ⟨a,_,rfl,.of e,rfl,v1,[v2],rfl,v2,[],rfl,rfl,q _ ((rs.set r1).set r2)⟩
 ·cases hf
theorem zMI {K:PySem.W.Frag} {own:List Nat} {i j:Nat} (hi:i ∈ own) (hj:j ∈ own):zJm own (gP2 K i j) (zDy i j):=by
 intro L H σ σ' τ τ0 d v Q rs ex r hf q;unfold zDy at hf;split at hf
 ·rename_i x y;cases hf;unfold Rep at r;obtain ⟨a,vs,rfl,e,r⟩:=r;obtain ⟨v1,v2,rfl,r1,r2⟩:=r.two;exact ⟨a,_,rfl,.of e,rfl,v1,[v2],rfl,v2,[],rfl,rfl,q _ ((rs.set r1).set r2) ((ex.set hi).set hj)⟩
 ·cases hf
end
section
variable {X:Cx} {a b c e:Expr} {es:List Expr} {pos p p2 pos2:Pos} {f g h:FE}
theorem zKu:∀ {bs:List Bool} {its:List Value},zU (bs.map V.bl) its -> ∀ (i:Nat) v,its[i]? = some v -> ∃ k,bs[i]? = some k /\ v = .bool k
 | [],_,.nil,_,_,h=>by simp at h
 | k :: bs,_,.cons r t,0,v,h=>by
  simp at h; subst h;exact ⟨k,rfl,r⟩
 | k :: bs,_,.cons r t,i + 1,v,h=>by
  obtain ⟨k',e1,e2⟩:=zKu t i v (by simpa using h);exact ⟨k',by simpa using e1,e2⟩
theorem zKS (bs:List Bool):((List.range bs.length).all fun i=>(bs[i]?).getD true) = bs.all id:=by
 rw [Bool.eq_iff_iff,zUd,zUd];constructor
 ·intro q k hk;obtain ⟨i,hi,rfl⟩:=List.getElem_of_mem hk;have:=q i (List.mem_range.mpr hi);rw [zT6 hi] at this;exact this
 ·intro q i hi;rw [zT6 (List.mem_range.mp hi)];exact q _ (zUa _)
def zSh (K:PySem.W.Frag) (F:List Bool -> Bool):List V -> Hp -> VK -> Prop:=fun xs H Q=>∃ q bs,xs = [.ref q] /\ SqL K H q (bs.map V.bl) /\ Q (.bl (F bs)) H
theorem zMA (hc:X.calm = true):zBa X (.builtin "all") (zSh X.K fun bs=>bs.all id):=by
 intro zB s σ H xs us Q I r h;obtain ⟨l,bs,rfl,hq,q⟩:=h;obtain ⟨u,rfl,rx⟩:=zDM r;cases rx;obtain ⟨its,rv,pl,_⟩:=I.list hq;have hlt:l < s.heap.objs.size:=by obtain ⟨_,z,_⟩:=pl.isList; exact zUD z
 refine call_all_walk (wpAny_pyIter_list pl.isList ⟨s.heap.objs.size,[s.heap.objs.size,l],[s.heap.objs.size],its.toArray.size,_,_,fun i=>(bs[i]?).getD true,rfl,Walks.list (A:=X.A.in1) (I.ok.hd hc) _ l (zUN hlt) its.toArray,
  ⟨⟨_,zUC _ rfl,rfl,rfl⟩,pl.isList.push _⟩,fun i v s' Q' E' hP hQ=>?_,fun h' tk hk=>?_⟩)
 ·obtain ⟨k,z,rfl⟩:=zKu rv i v (by simpa using hP);dsimp only at hQ; rw [z] at hQ;exact wpAny_truthy_bool hQ
 ·have hl:=rv.length;rw [zUB] at hl;rw [zUA,<- hl,zKS];exact ⟨.bl _,H,I.kept (t':=tk) fun b o z=>hk b o (fun m=>by rw [zUU.mp m] at z; exact zUk _ (zUD z)) (zTy _ z),rfl,q⟩
def zEq:List D -> Option (List Bool)
 | []=>some []
 | .bl k :: r=>match zEq r with
  | some bs=>some (k :: bs)
  | none=>none
 | _=>none
theorem zKy {L:List Addr} {H:Hp}:∀ {ds:List D} {bs:List Bool} {vs:List V},zEq ds = some bs -> zH L H ds vs -> vs = bs.map V.bl
 | [],bs,vs,e,r=>by cases e; unfold zH at r; exact r
 | d :: ds,bs,vs,e,r=>by
  unfold zH at r;obtain ⟨v,r',rfl,r1,r2⟩:=r;cases d with
  | bl k=>
   unfold zEq at e;cases q:zEq ds with
   | none=>rw [q] at e; cases e
   | some bs'=>
    rw [q] at e; cases e;unfold Rep at r1;rw [r1,zKy q r2]; rfl
  | _=>cases e
def zMN (F:List Bool -> Bool):KB:=fun xs M=>match xs with
 | [x]=>match zBZ M x with
  | some ds=>match zEq ds with
   | some bs=>some (.dat (.bl (F bs)),M)
   | none=>none
  | none=>none
 | _=>none
theorem zO5 {K:PySem.W.Frag} {F:List Bool -> Bool}:zEy K (zSh K F) (zMN F):=by
 intro L M M' H H0 xs d vs Q c r hk q;unfold zMN at hk;split at hk
 ·rename_i x;split at hk
  ·rename_i ds e1;split at hk
   ·rename_i bs e2;cases hk;obtain ⟨v,rfl,r1⟩:=r.one;obtain ⟨l,ws,rfl,h1,r2⟩:=zB0 c r1 e1;have:=zKy e2 r2;subst this;exact ⟨l,bs,rfl,.inl h1,q L H _ (.refl L H) c (zBr (L:=L) (H:=H))⟩
   ·cases hk
  ·cases hk
 ·cases hk
abbrev zQg:KB:=zMN fun bs=>bs.all id
section
variable {fa:FAE}
theorem zQF (hc:X.calm = true) (hg:Gl X "all") (hm:X.mg "all" = none) (ha:QAE X [e] fa) (he:starEach [e] X.env = (false,eval e X.env) :: starEach [] X.env:=by rfl) (hpl:(backTo pos (starEach [] X.env)).any (·.1) = false:=by rfl):QE X (.Call (.Name "all" p) [e] [] pos) (fB zQg fa) :=
 zC7 zO5 (zMA hc) (by rfl) hg hm ha (by decide) (by decide) he hpl
end
theorem zSE {M:Mem} {P:EV -> Mem -> Prop} {F:List Bool -> Bool} {x:EV} {ds:List D} {bs:List Bool} (h:zBZ M x = some ds) (hb:zEq ds = some bs):Ok (zMN F [x] M) P ↔ P (.dat (.bl (F bs))) M:=by
 have:zMN F [x] M = some (.dat (.bl (F bs)),M):=by unfold zMN; dsimp only; rw [h]; dsimp only; rw [hb]
 rw [this,zp]
theorem zGY:∀ bs:List Bool,zEq (bs.map D.bl) = some bs
 | []=>rfl
 | k :: bs=>by rw [zUL]; unfold zEq; rw [zGY bs]
def zKK:V -> Bool
 | .non=>true
 | .bl _=>true
 | _=>false
theorem zQr:OpR X (compareOp .Is) (fun x y H Q=>zKK y = true /\ Q (.bl (decide (x = y))) H):=by
 intro zB s σ H x y v u Q I rx ry h;obtain ⟨hp,q⟩:=h;cases y with
 | non=>
  cases ry;refine wpAny_is_plain (by cases x <;> first | (cases rx; rfl) | (obtain ⟨t,rfl⟩:=rx; rfl)) (zb I q ?_);cases x <;> first | (cases rx; rfl) | (obtain ⟨t,rfl⟩:=rx; rfl)
 | bl k=>
  cases ry;refine wpAny_is_plain (by cases x <;> first | (cases rx; rfl) | (obtain ⟨t,rfl⟩:=rx; rfl)) (zb I q ?_);cases x with
  | bl k'=>cases rx; cases k <;> cases k' <;> rfl
  | _=>first | (cases rx; rfl) | (obtain ⟨t,rfl⟩:=rx; rfl)
 | _=>cases hp
def isD:EV -> D -> Option Bool
 | x,.non=>match x with
  | .dat .non=>some true
  | _=>some false
 | x,.bl k=>match x with
  | .dat (.bl k')=>some (decide (k' = k))
  | _=>some false
 | _,_=>none
def kIs (neg:Bool):K2:=fun x y M=>match y with
 | .dat d=>match isD x d with
  | some k=>some (.dat (.bl (if neg then !k else k)),M)
  | none=>none
 | _=>none
theorem zOs {L:List Addr} {H H0:Hp} {x:EV} {d:D} {v w:V} {k:Bool} (rx:zS H0 L H x v) (ry:Rep L H d w) (e:isD x d = some k):zKK w = true /\ decide (v = w) = k:=by
 cases d with
 | non=>
  unfold Rep at ry; subst ry;refine ⟨rfl,?_⟩;cases x with
  | fl xs=>obtain ⟨q,vs,rfl,_⟩:=rx; cases e; rfl
  | dat d'=>
   cases d' with
   | non=>unfold zS Rep at rx; subst rx; cases e; rfl
   | bl _=>unfold zS Rep at rx; subst rx; cases e; rfl
   | int _=>unfold zS Rep at rx; subst rx; cases e; rfl
   | str _=>unfold zS Rep at rx; subst rx; cases e; rfl
   | tup _=>unfold zS Rep at rx; obtain ⟨q,vs,rfl,_⟩:=rx; cases e; rfl
   | ref _=>unfold zS Rep at rx; obtain ⟨q,rfl,_⟩:=rx; cases e; rfl
   | fn _ _=>unfold zS Rep at rx; obtain ⟨rfl,_⟩:=rx; cases e; rfl
 | bl k'=>
  unfold Rep at ry; subst ry;refine ⟨rfl,?_⟩;cases x with
  | fl xs=>obtain ⟨q,vs,rfl,_⟩:=rx; cases e; rfl
  | dat d'=>
   cases d' with
   | non=>unfold zS Rep at rx; subst rx; cases e; rfl
   | bl j=>unfold zS Rep at rx; subst rx; cases e; cases j <;> cases k' <;> rfl
   | int _=>unfold zS Rep at rx; subst rx; cases e; rfl
   | str _=>unfold zS Rep at rx; subst rx; cases e; rfl
   | tup _=>unfold zS Rep at rx; obtain ⟨q,vs,rfl,_⟩:=rx; cases e; rfl
   | ref _=>unfold zS Rep at rx; obtain ⟨q,rfl,_⟩:=rx; cases e; rfl
   | fn _ _=>unfold zS Rep at rx; obtain ⟨rfl,_⟩:=rx; cases e; rfl
 | _=>cases e
theorem zMl {neg:Bool} {x y r:EV} {M M':Mem} (h:kIs neg x y M = some (r,M')):∃ d k,y = .dat d /\ isD x d = some k /\ r = .dat (.bl (if neg then !k else k)) /\ M' = M:=by
 unfold kIs at h;split at h
 ·rename_i d;split at h
  ·rename_i k e1; cases h; exact ⟨d,k,rfl,e1,rfl,rfl⟩
  ·cases h
 ·cases h
theorem zRa {K:PySem.W.Frag}:zCA K (fun x y H Q=>zKK y = true /\ Q (.bl (decide (x = y))) H) (kIs false):=by
 intro L M M' H H0 x y d v w Q cc rx ry hk q;obtain ⟨d',k,rfl,e,rfl,rfl⟩:=zMl hk;obtain ⟨h1,h2⟩:=zOs rx ry e;refine ⟨h1,?_⟩;rw [h2];exact q L H _ (.refl L H) cc (zBr (L:=L) (H:=H))
theorem zTP (h1:QE X a f) (h2:QE X b g):QT X (.Compare a [.Is] [b] pos) (tst (fOp (kIs false) f g)):=zEN zRa zQr h1 h2 (zDi _)
def zF2 (f:FE):FE:=fun σ M=>match f σ M with
 | some (.dat (.int i),M1)=>some (.dat (.int (-i)),M1)
 | _=>none
theorem zS6 (h1:QE X a f):QE X (.UnaryOp .USub a pos) (zF2 f):=.mk <| PE.imp (zSJ zRz h1.un) fun τ H Q zz=>by
 obtain ⟨L,σ,M,d,M',cc,rs,hf,q⟩:=zz;unfold zF2 at hf;split at hf
 ·rename_i i M1 e1;cases hf;refine ⟨L,σ,M,_,_,cc,rs,e1,fun L1 H1 v s1 c1 r1=>?_⟩;exact ⟨i,by unfold zS Rep at r1; exact r1,q L1 H1 _ s1 c1 (zAX (L:=L1) (H:=H1))⟩
 ·cases hf
def zEs:KB:=fun xs M=>match xs with
 | [x]=>match zAf M x with
  | some ys=>some (.fl ys,M)
  | none=>none
 | _=>none
theorem zOY:zEy X.K (fun xs H Q=>∃ q ys,xs = [.ref q] /\ (SqL X.K H q ys \/ SqT X.K H q ys) /\ ∀ l,H l = none -> Q (.ref l) (upd H l (.lst ys))) zEs:=by
 intro L M M' H H0 xs d vs Q cc r hk q;unfold zEs at hk;split at hk
 ·rename_i x;split at hk
  ·rename_i ys e1;cases hk;obtain ⟨v,rfl,r1⟩:=r.one;obtain ⟨l,ws,rfl,hs,r2⟩:=zC3 cc r1 e1;refine ⟨l,ws,rfl,hs,fun k hk=>?_⟩;exact q L _ _ (.upd hk) (cc.upd hk) (zS.newLst (.refl L H) cc cc hk r2)
  ·cases hk
 ·cases hk
theorem zRQ {fa:FAE} (hg:Gl X "list") (hm:X.mg "list" = none) (ha:QAE X [e] fa) (he:starEach [e] X.env = (false,eval e X.env) :: starEach [] X.env:=by rfl) (hpl:(backTo pos (starEach [] X.env)).any (·.1) = false:=by rfl):QE X (.Call (.Name "list" p) [e] [] pos) (fB zEs fa) :=
 zFS zOY zHe (by rfl) hg hm ha (by decide) (by decide) he hpl
end
open AutoSeq1 (wpAny_loadPart')
section
variable {prog:Program} {w:World} {A:Around} {E:Value -> Shared -> Prop} {s:Shared}
theorem zN8 {r:Addr} {lo hi:Int} {t u v:Tok} {n:Nat} {Q:List Value -> Shared -> Prop} (hh:A.handled = none) (R:IsRange s.heap r lo hi 1 t u v) (sm:Builtin.Range.small lo hi 1 = true) (hn:Builtin.Range.rangeSize lo hi 1 = n) (hz:n <= 2 ^ 24)
  (q:∀ h' tk (acc:Array Value),(∀ b o,s.heap.get? b = some o -> h'.get? b = some o) -> ItemsOf (fun i v=>∃ t,v = .int (lo + i * 1) t) acc n -> Q acc.toList { s with heap:=h',toks:=tk }):wpAny (model prog w) A (collect (.ref r)) Q E s:=by
 unfold collect;refine zTx (wpAny_runValue (zU7 PySem.F.entry_proto_collect ?_));rw [zUx PySem.F.plain_proto_collect _];refine zTx (m:=newList []) (zUV (zTz ⟨plainId_quiet PySem.F.plain_list_iadd _,zU7 PySem.F.entry_list_iadd ?_⟩));rw [zUx PySem.F.plain_list_iadd _];have S0:(s.heap.push { cls:=.type "list", data:=.seq ([]:List Value).toArray }).get? s.heap.objs.size = some { cls:=.type "list", data:=.seq #[] 0 }:=zUC _ rfl
 have fin:∀ (h':Heap) (tk:Nat) (acc:Array Value) (k:Nat),(∀ b o,b ≠ s.heap.objs.size -> (s.heap.push { cls:=.type "list", data:=.seq ([]:List Value).toArray }).get? b = some o -> h'.get? b = some o) ->
   h'.get? s.heap.objs.size = some { cls:=.type "list", dict:=none,data:=.seq acc k,slots:=#[] } -> ItemsOf (fun i v=>∃ t,v = .int (lo + i * 1) t) acc n ->
   wpAny (model prog w) A (match Value.ref s.heap.objs.size with
    | Value.ref a=>do
     match (<- load a).data with
      | Data.seq xs _=>pure xs.toList
      | _=>unsupported "internal:collect"
    | _=>unsupported "internal:collect") Q E { s with heap:=h',toks:=tk }:=fun h' tk acc k kp e it=>by
  refine zTx (m:=load s.heap.objs.size) (wpAny_load e (zTz (q h' tk acc (fun b o m=>kp b o (zUN (zUD m)) (zTy _ m)) it)))
 refine zUY (wpAny_extend_range (A:=A) (s:={ s with heap:=s.heap.push { cls:=.type "list", data:=.seq ([]:List Value).toArray } })
  (R:=fun r s'=>r = .ok (.ret (.ref s.heap.objs.size)) /\ ∃ h' tk acc k,s' = { s with heap:=h',toks:=tk } /\ (∀ b o,b ≠ s.heap.objs.size -> (s.heap.push { cls:=.type "list", data:=.seq ([]:List Value).toArray }).get? b = some o -> h'.get? b = some o) /\
   h'.get? s.heap.objs.size = some { cls:=.type "list", dict:=none,data:=.seq acc k,slots:=#[] } /\ ItemsOf (fun i v=>∃ t,v = .int (lo + i * 1) t) acc n)
  hh (zTy _ R) sm hn hz s.heap.objs.size (.ref s.heap.objs.size) 0 S0 fun h' tk acc k kp e it=>⟨rfl,h',tk,acc,k,rfl,kp,e,it⟩) (fun f s' z=>?_) (fun e s' z=>?_)
 ·cases f with
  | done f=>
   obtain ⟨e,h',tk,acc,k,rfl,z1,z2,z3⟩:=z;cases e;exact fin h' tk acc k z1 z2 z3
  | again c'=>exact ⟨z.1,codeAny_mono z.2 fun r s'' z=>by obtain ⟨rfl,h',tk,acc,k,rfl,z1,z2,z3⟩:=z; exact fin h' tk acc k z1 z2 z3⟩
 ·exact absurd z.1 (by simp)
end
theorem zHO (r:Addr) (lo hi:Int) (t u v:Tok) (n:Nat) (sm:Builtin.Range.small lo hi 1 = true) (hn:Builtin.Range.rangeSize lo hi 1 = n) (hz:n <= 2 ^ 24) :
  Meets (Builtin.«tuple.__new__» ⟨[.type "tuple", .ref r],[]⟩) (fun A R s=>A.handled = none /\ IsRange s.heap r lo hi 1 t u v /\
   ∀ (h':Heap) (tk:Nat) (acc:Array Value),(∀ b o,s.heap.get? b = some o -> h'.get? b = some o) -> ItemsOf (fun i v=>∃ t,v = .int (lo + i * 1) t) acc n -> R (.ok (.ret (.ref h'.objs.size))) { s with heap:=h'.push { cls:=.type "tuple", data:=.seq acc },toks:=tk }) :=
 .of_wp fun prog w A R s h=>by
  obtain ⟨hp,g,d,tk,os⟩:=s;obtain ⟨hh,Ra,h⟩:=h;have h1:=sub_tuple_self;have h2:=init_tuple_lookup;have h3:=madeHere_tuple;have T:Shared.TypeIs ⟨hp,g,d,tk,os⟩ (.ref r) "range" := ⟨_,Ra,rfl⟩;wp_walk using wpAny_loadPart' Ra,wpAny_typeOf T,zN8 (show A.in1.handled = none from hh) Ra sm hn hz;intro h' tk' acc kp it;refine zTx (m:=Builtin.Tuple.tupleExact acc.toList.toArray) ?_;unfold Builtin.Tuple.tupleExact;have sz:acc.toList.toArray.size <= sizeLine:=by rw [zUA,zUl,it.1,sizeLine_eq]; omega
  refine zUV (zTz ⟨_,rfl,?_⟩) sz;have e:acc.toList.toArray = acc:=by simp
  rw [e];exact h h' tk' acc kp it
section
variable {X:Cx} {a e:Expr} {es:List Expr} {pos p p2 pos2:Pos} {f:FE}
theorem zMn:zBa X (.type "range") (fun xs H Q=>∃ j,xs = [.int j] /\ ∀ l,H l = none -> Q (.ref l) (upd H l (.rng 0 j))):=by
 intro zB s σ H xs us Q I r h;obtain ⟨j,rfl,q⟩:=h;obtain ⟨u,rfl,rx⟩:=zDM r;obtain ⟨t,rfl⟩:=rx;refine call_range_1 ⟨.ref s.heap.objs.size,_,I.laid (fun b o z=>zTy _ z) (zT8 _) ?_,rfl,q _ (I.hok.fresh (zT8 _))⟩;exact ⟨_,_,_,zUC _ rfl⟩
def upV (n:Nat):List V:=(List.range n).map fun (k:Nat)=>V.int k
theorem zMv {acc:Array Value} {n:Nat} (h:ItemsOf (fun i v=>∃ t,v = .int ((0:Int) + i * 1) t) acc n):zU (upV n) acc.toList:=by
 obtain ⟨hz,hi⟩:=h;have:∀ (xs:List Value) (k:Nat),(∀ j v,xs[j]? = some v -> ∃ t,v = Value.int ((k + j:Nat):Int) t) -> zU ((List.range' k xs.length).map fun (k:Nat)=>V.int k) xs:=by
  intro xs;induction xs with
  | nil=>intro k _; exact .nil
  | cons x xs ih=>
   intro k hk;rw [zUZ,List.range'_succ,zUL];refine .cons ?_ (ih (k + 1) fun j v e=>?_)
   ·obtain ⟨t,e⟩:=hk 0 x rfl;exact ⟨t,by simpa using e⟩
   ·obtain ⟨t,e'⟩:=hk (j + 1) v (by simpa using e);exact ⟨t,by rw [e']; congr 2; omega⟩
 have q:=this acc.toList 0 (fun j v e=>by
  obtain ⟨t,e'⟩:=hi j v (by simpa using e);exact ⟨t,by rw [e']; congr 1; omega⟩)
 unfold upV;rw [List.range_eq_range'];rw [zUl,hz] at q;exact q
theorem zL2 {j:Int} (h0:0 <= j) (h1:j <= 16777216):Builtin.Range.small 0 j 1 = true /\ Builtin.Range.rangeSize 0 j 1 = (j.toNat:Int):=by
 refine ⟨small_one (by omega) (by omega) (by omega) (by omega),?_⟩;rw [rangeSize_one]; split <;> omega
def zTc (mk:List V -> HO):List V -> Hp -> VK -> Prop:=fun xs H Q=>∃ r j,xs = [.ref r] /\ H r = some (.rng 0 j) /\ 0 <= j /\ j <= 16777216 /\ ∀ l,H l = none -> Q (.ref l) (upd H l (mk (upV j.toNat)))
theorem zKh (n:Nat):(upV n).length = n:=by unfold upV; simp
theorem zMS (hc:X.calm = true):zBa X (.type "tuple") (zTc HO.tup):=by
 intro zB s σ H xs us Q I r h;obtain ⟨l,j,rfl,hr,h0,h1,q⟩:=h;obtain ⟨u,rfl,rx⟩:=zDM r;cases rx;obtain ⟨t,u,v,er⟩:=(show zk X.prog X.w H s.heap l (.rng 0 j) from I.hok l _ hr);obtain ⟨sm,sz⟩:=zL2 h0 h1
 refine callType_new PySem.F.called_tuple (by decide) (PySem.F.typeCall_tuple_1 _) (PySem.F.newCall_tuple_1 _) (fun obj=>PySem.F.args_object_init_2 obj _) PySem.F.entry_tuple_new (zHO l 0 j t u v j.toNat sm sz (by omega))
  ⟨I.ok.hd hc,er,fun h' tk acc kp it=>⟨⟨_,zUC _ rfl,rfl⟩,?_⟩⟩
 have I1:Inv X zB σ H { s with heap:=h',toks:=tk }:=I.kept kp;refine ⟨.ref h'.objs.size,_,I1.laid (t':=tk) (fun b o z=>zTy _ z) (zT8 _) ?_,rfl,q _ (I1.hok.fresh (zT8 _))⟩;exact ⟨by rw [zKh,sizeLine_eq]; omega,acc.toList,zMv it,by simpa using zBW.new h' acc⟩
def upD (n:Nat):List D:=(List.range n).map fun (k:Nat)=>D.int k
theorem zPS {L:List Addr} {H:Hp} (n:Nat):zH L H (upD n) (upV n):=by
 have:∀ xs:List Nat,zH L H (xs.map fun (k:Nat)=>D.int k) (xs.map fun (k:Nat)=>V.int k):=by
  intro xs;induction xs with
  | nil=>exact .nil
  | cons x xs ih=>exact .cons zAX ih
 exact this _
def zLE (f:FE):FE:=fun σ M=>match f σ M with
 | some (.dat (.int j),M1)=>if 0 <= j /\ j <= 16777216 then some (.dat (.tup (upD j.toNat)),M1) else none
 | _=>none
theorem zRD (hc:X.calm = true) (hg:Gl X "tuple") (hm:X.mg "tuple" = none) (hg2:Gl X "range") (hm2:X.mg "range" = none) (ha:QE X a f)
  (he:starEach [Expr.Call (.Name "range" p2) [a] [] pos2] X.env = (false,eval (Expr.Call (.Name "range" p2) [a] [] pos2) X.env) :: starEach [] X.env:=by rfl) (hpl:(backTo pos (starEach [] X.env)).any (·.1) = false:=by rfl)
  (he2:starEach [a] X.env = (false,eval a X.env) :: starEach [] X.env:=by rfl) (hpl2:(backTo pos2 (starEach [] X.env)).any (·.1) = false:=by rfl) :
  QE X (.Call (.Name "tuple" p) [.Call (.Name "range" p2) [a] [] pos2] [] pos) (zLE f) :=
 .mk <| PE.imp (zEb (zMS hc) hg hm (by rfl) (zB2 (zEb zMn hg2 hm2 boot_range (zB2 ha.un zFW he2) (by decide) (by decide) he2 hpl2) zFW he) (by decide) (by decide) he hpl) fun τ H Q zz=>by
  obtain ⟨L,σ,M,d,M',c,rs,hf,q⟩:=zz;unfold zLE at hf;split at hf
  ·rename_i j M1 e1;split at hf
   ·rename_i hb;cases hf;refine ⟨L,σ,M,_,_,c,rs,e1,fun L1 H1 v s1 c1 r1=>⟨j,by unfold zS Rep at r1; rw [r1],fun l hl=>⟨l,j,rfl,zg,hb.1,hb.2,fun k hk=>?_⟩⟩⟩;exact q L1 _ _ ((s1.trans (.upd hl)).trans (.upd hk)) ((c1.upd hl).upd hk) (Rep.newTup hk (zPS _))
   ·cases hf
  ·cases hf
end
theorem zPu {P:Program} {w:World} {K:PySem.W.Frag} {mg:Str -> Option Value} {base:Heap} {k:Nat} {f:Addr} {fd:FuncData} {ps:List Str} {n:Nat}:FnOk P w K mg base CX0 k f fd ps (spF K n fun _ _=>none):=by
 have no:∀ vs H Q E,¬ spF K n (fun _ _=>none) vs H Q E:=fun vs H Q E ⟨_,_,_,_,_,_,_,_,h,_⟩=>by cases h
 exact ⟨fun vs H Q E h=>absurd h (no vs H Q E),fun A outer s H args us vs Q E _ _ _ _ h=>absurd h (no vs H Q E)⟩
def zDv:Expr -> Bool
 | .Starred .. =>false
 | _=>true
theorem zG {e:Expr} {es:List Expr} {env:Env} (h:zDv e = true):starEach (e :: es) env = (false,eval e env) :: starEach es env:=by
 cases e <;> first | rfl | cases h
theorem zF1 {e:Expr} {env:Env} (h:zDv e = true):starEach [e] env = [(false,eval e env)]:=zG h
theorem zOV {e e':Expr} {env:Env} (h:zDv e = true) (h':zDv e' = true):starEach [e,e'] env = [(false,eval e env),(false,eval e' env)]:=by rw [zG h,zF1 h']
theorem zAV {pos:Pos} {env:Env}:∀ {es:List Expr},es.all zDv = true -> (backTo pos (starEach es env)).any (·.1) = false
 | [],_=>rfl
 | e :: es,h=>by
  rw [List.all_cons,zUc] at h;rw [zG h.1];have:=zAV (pos:=pos) (env:=env) h.2;simpa [backTo] using this
theorem Cor.pushO {K:PySem.W.Frag} {L:List Addr} {M:List MO} {H:Hp} {p:Addr} {o:HO} {m:MO} (c:Cor K L M H) (h:H p = none) (new:zDB K (L ++ [p]) (L2.upd H p o) p m) :
  Cor K (L ++ [p]) (M ++ [m]) (L2.upd H p o) /\ Stp L H (L ++ [p]) (L2.upd H p o):=by
 have hp:p ∉ L:=fun z=>by obtain ⟨o,e⟩:=c.tracked z; rw [h] at e; cases e
 have st:Stp L H (L ++ [p]) (L2.upd H p o):=by
  refine ⟨⟨[p],rfl⟩,fun a ha=>?_,fun a o e _ _=>?_,fun a o e=>?_,fun a o u e=>?_,zEE (fun a o u e=>?_) fun a ps e=>?_⟩
  ·rcases zUS.mp ha with z | z
   ·exact .inl z
   ·have:a = p:=by simpa using z
    subst this; exact .inr h
  all_goals (rw [zQ (zX e h)]; exact e)
 refine ⟨⟨by simp [c.len],?_,fun n a m e1 e2=>?_,c.tab.stp st⟩,st⟩
 ·rw [zVG];exact ⟨c.nd,by simp,fun a ha b hb z=>by
   have:b = p:=by simpa using hb
   subst this; subst z; exact hp ha⟩
 ·by_cases hn:n < L.length
  ·rw [zT9 hn] at e1;rw [zT9 (by rw [<- c.len]; exact hn)] at e2;exact (c.obj n a m e1 e2).stp st fun o _ e=>by rw [zQ (zX e h)]; exact e
  ·have hn':n = L.length:=by
    have:=(zT0.mp e1).1;rw [zUI] at this;simp at this; omega
   subst hn';simp at e1;rw [c.len] at e2;simp at e2;subst e1; subst e2;exact new
theorem zDB.nt {K:PySem.W.Frag} {L:List Addr} {H:Hp} {a:Addr} {m:MO} (h:zDB K L H a m) {o:HO} (e:H a = some o):NT o:=fun ps z=>by
 subst z;cases m with
 | lst xs=>obtain ⟨vs,e',_⟩:=h; rw [e] at e'; cases e'
 | fro xs=>obtain ⟨o,vs,e',_⟩:=h; rw [e] at e'; cases e'
 | dict ps=>obtain ⟨vs,e',_⟩:=h; rw [e] at e'; cases e'
 | dicT ps=>obtain ⟨vs,e',_⟩:=h; rw [e] at e'; cases e'
 | set _=>obtain ⟨o,u,e'⟩:=h; rw [e] at e'; cases e'
 | froT ps=>obtain ⟨o,vs,e',_⟩:=h; rw [e] at e'; cases e'
 | froK ps=>obtain ⟨o,vs,e',_⟩:=h; rw [e] at e'; cases e'
theorem Cor.nt {K:PySem.W.Frag} {L:List Addr} {M:List MO} {H:Hp} {n:Nat} {p:Addr} {o:HO} (c:Cor K L M H) (h1:L[n]? = some p) (ho:H p = some o):NT o :=
 (c.obj n p _ h1 (zT6 (by rw [<- c.len]; exact (zT0.mp h1).1))).nt ho
theorem Cor.put {K:PySem.W.Frag} {L:List Addr} {M:List MO} {H:Hp} {n:Nat} {p:Addr} {o o':HO} {m:MO} (c:Cor K L M H) (h1:L[n]? = some p) (ho:H p = some o) (ht:∀ xs,o ≠ .tup xs) (hf:∀ a u,o ≠ .frz a u)
  (new:Stp L H L (L2.upd H p o') -> zDB K L (L2.upd H p o') p m):Cor K L (M.set n m) (L2.upd H p o') /\ Stp L H L (L2.upd H p o'):=by
 have st:Stp L H L (L2.upd H p o'):=by
  have nt:=c.nt h1 ho;refine ⟨⟨[],by simp⟩,fun a ha=> .inl ha,fun a o e ha _=>?_,fun a xs e=>?_,fun a b u e=>?_,zEE (fun a b u e=>?_) fun a ps e=>?_⟩
  ·rw [zQ (show a ≠ p from fun z=>ha (by rw [z]; exact zUt h1))]; exact e
  ·rw [zQ (zCb e ho (fun z=>ht xs z.symm))]; exact e
  ·rw [zQ (zCb e ho (fun z=>hf b u z.symm))]; exact e
  ·rw [zQ (zCb e ho (fun z=>hf b u z.symm))]; exact e
  ·rw [zQ (zCb e ho (fun z=>nt ps z.symm))]; exact e
 refine ⟨⟨by simp [c.len],c.nd,fun k a m' e1 e2=>?_,c.tab.stp st⟩,st⟩;rw [zVb] at e2;split at e2
 ·rename_i hk;subst hk;rw [h1] at e1; cases e1;split at e2
  ·cases e2; exact new st
  ·cases e2
 ·rename_i hk;have hne:a ≠ p:=fun z=>hk (by
   subst z;exact (List.getElem?_inj (zT0.mp h1).1 c.nd).mp (h1.trans e1.symm))
  exact (c.obj k a m' e1 e2).stp st fun o _ e=>by rw [zQ hne]; exact e
section
variable {X:Cx} {a b e:Expr} {pos:Pos} {f g:FE}
def zKj:FE:=fun _ M=>some (.dat (.ref M.length),M ++ [.dicT []])
theorem zO8:QE X (.Dict [] [] pos) zKj:=.mk <| PE.imp zN9 fun τ H Q ⟨L,σ,M,d,M',c,rs,hf,q⟩ p hp=>by
 unfold zKj at hf;cases hf;obtain ⟨c2,s2⟩:=c.pushO (m:=.dicT []) hp ⟨[],zg,rfl⟩;refine q _ _ _ s2 c2 ?_;unfold zS Rep;exact ⟨p,rfl,by rw [<- c.len]; simp⟩
theorem zFC {L:List Addr} {H:Hp} {d:D} {v:V} {k:Key} (h:Rep L H d v) (e:zCY d = some k):v = kV k:=by
 cases d with
 | int i=>cases e; unfold Rep at h; exact h
 | str x=>cases e; unfold Rep at h; exact h
 | _=>cases e
def zHo (M:Mem):EV -> Option (List D)
 | .fl xs=>some xs
 | .dat (.ref n)=>match M[n]? with
  | some (.lst xs)=>some xs
  | _=>none
 | _=>none
theorem zJ2 {K:PySem.W.Frag} {L:List Addr} {M:Mem} {H H0:Hp} {x:EV} {v:V} {xs:List D} (c:Cor K L M H) (r:zS H0 L H x v) (h:zHo M x = some xs):∃ a vs,v = .ref a /\ H a = some (.lst vs) /\ zH L H xs vs:=by
 cases x with
 | fl ys=>
  cases h;obtain ⟨p,vs,rfl,_,e,_,r⟩:=r;exact ⟨p,vs,rfl,e,r⟩
 | dat d=>
  cases d with
  | ref n=>
   unfold zS Rep at r;obtain ⟨a,rfl,e⟩:=r;unfold zHo at h;dsimp only at h;split at h
   ·rename_i ys q;cases h;obtain ⟨vs,e1,r1⟩:=c.obj n a _ e q;exact ⟨a,vs,rfl,e1,r1⟩
   ·cases h
  | _=>cases h
def zDL:K2:=fun x y M=>match zHo M x,zHo M y with
 | some xs,some ys=>if xs.length + ys.length <= sizeLine then some (.fl (xs ++ ys),M) else none
 | _,_=>none
theorem zOU {K:PySem.W.Frag}:zCA K zTC zDL:=by
 intro L M M' H H0 x y d v w Q c rx ry hk q;unfold zDL at hk;split at hk
 ·rename_i xs ys e1 e2;split at hk
  ·rename_i hz;cases hk;obtain ⟨l,vs,rfl,h1,r1⟩:=zJ2 c rx e1;obtain ⟨l2,ws,rfl,h2,r2⟩:=zJ2 c ry e2;refine ⟨l,l2,vs,ws,rfl,rfl,h1,h2,by rw [r1.length,r2.length]; exact hz,fun p hp=>?_⟩;exact q L _ _ (.upd hp) (c.upd hp) (zS.newLst (.refl L H) c c hp (r1.app r2))
  ·cases hk
 ·cases hk
theorem zQo (h1:QE X a f) (h2:QE X b g):QE X (.BinOp a .Add b pos) (fOp zDL f g):=zI4 zOU zRW h1 h2
end
end L3
namespace LR
open PySem PySem.Spec PyProof.Rows
open Sem (wp)
open Sem (wp)
open AutoSeq1 (wpAny_loadPart')
open Sem (wp)
open AutoSeq1 (wpAny_loadPart')
end LR
namespace L3
open PySem PySem.Spec PyProof.Rows L2
section
variable {X:Cx} {a b e o:Expr} {pos p apos cpos:Pos} {f g:FE}
def zAB:List D -> Option (List Int)
 | []=>some []
 | .int i :: r=>match zAB r with
  | some bs=>some (i :: bs)
  | none=>none
 | _=>none
theorem zCJ {L:List Addr} {H:Hp}:∀ {ds:List D} {bs:List Int} {vs:List V},zAB ds = some bs -> zH L H ds vs -> vs = bs.map V.int
 | [],bs,vs,e,r=>by cases e; unfold zH at r; exact r
 | d :: ds,bs,vs,e,r=>by
  unfold zH at r;obtain ⟨v,r',rfl,r1,r2⟩:=r;cases d with
  | int k=>
   unfold zAB at e;cases q:zAB ds with
   | none=>rw [q] at e; cases e
   | some bs'=>
    rw [q] at e; cases e;unfold Rep at r1;rw [r1,zCJ q r2]; rfl
  | _=>cases e
theorem zBF:∀ xs:List Int,zAB (xs.map D.int) = some xs
 | []=>rfl
 | x :: r=>by rw [zUL]; unfold zAB; rw [zBF r]
theorem zMT (xs:List Int):(xs.map V.int).all zD2 = true:=by
 rw [zUd]; intro x hx; obtain ⟨i,_,rfl⟩:=zUJ.mp hx; rfl
theorem zPG (i:Int) (xs:List Int):inV (.int i) (xs.map V.int) = xs.any fun y=>decide (y = i):=by
 unfold inV;rw [List.any_map];congr 1
def kIn (neg:Bool):K2:=fun x y M=>match x with
 | .dat (.int i)=>match zAf M y with
  | some ds=>match zAB ds with
   | some xs=>some (.dat (.bl (if neg then !(xs.any fun y=>decide (y = i)) else xs.any fun y=>decide (y = i))),M)
   | none=>none
  | none=>none
 | _=>none
theorem zOe {K:PySem.W.Frag} {neg:Bool}:zCA K (rIn K neg) (kIn neg):=by
 intro L M M' H H0 x y d v w Q cc rx ry hk q;unfold kIn at hk;split at hk
 ·rename_i i;split at hk
  ·rename_i ds e1;split at hk
   ·rename_i xs e2;cases hk;have ev:v = .int i:=by unfold zS Rep at rx; exact rx
    obtain ⟨p,vs,rfl,hs,r⟩:=zC3 cc ry e1;have:=zCJ e2 r;subst this;refine ⟨p,_,rfl,hs,by rw [ev]; rfl,zMT xs,?_⟩;rw [ev,zPG];exact q L H _ (.refl L H) cc (zBr (L:=L) (H:=H))
   ·cases hk
  ·cases hk
 ·cases hk
theorem zTi (h1:QE X a f) (h2:QE X b g) (hm:behindInMarks .In b = false:=by rfl):QE X (.Compare a [.In] [b] pos) (fOp (kIn false) f g):=zOK zOe zLp h1 h2 hm
theorem zNW (h1:QE X a f) (h2:QE X b g) (hm:behindInMarks .NotIn b = false:=by rfl):QT X (.Compare a [.NotIn] [b] pos) (tst (fOp (kIn true) f g)):=zEN zOe zHg h1 h2 hm
end
end L3
namespace L2
open PySem PySem.Spec PyProof.Rows
section
variable {prog:Program} {w:World} {A:Around} {E:Value -> Shared -> Prop} {R:Result -> Shared -> Prop} {s:Shared}
theorem zHY (elt target iter:Expr) (ifs:List Expr) (scope:Scope) (pos:Pos) (it acc:Value) (env:Env) :
  compTurn (.SetComp elt [⟨target,iter,ifs,0⟩] scope pos) 0 it acc env = (do
   standAt iter.pos;match <- pyNext it with
   | none=>pure (.done .next)
   | some v=>
    letOwnedTupleGo target it v;assign target env v;let mut ok:=true
    for c in ifs do
     if ok then ok <- isTrue c env (eval c env)
    if ok then (do let v <- eval elt env; standAt elt.pos; let _ <- call (.builtin "set.add") [acc,v])
    again (.compLoop (.SetComp elt [⟨target,iter,ifs,0⟩] scope pos) 0 it acc env)):=by rfl
theorem zHr {elt target iter:Expr} {ifs:List Expr} {scope:Scope} {pos:Pos} {it acc:Value} {env:Env} (I:Nat -> Shared -> Prop)
  (turn:∀ n s,I n s -> wpAny (model prog w) A (pyNext it) (fun r s₁=>match r with
   | none=>R (.ok .next) s₁
   | some v=>wpAny (model prog w) A (letOwnedTupleGo target it v) (fun _ s₁'=>wpAny (model prog w) A (assign target env v) (fun _ s₂=>
     wpAny (model prog w) A (forIn ifs true fun c r=>if r = true then do let ok <- isTrue c env (eval c env); pure (ForInStep.yield ok) else pure (ForInStep.yield r)) (fun ok s₃=>
      if ok = true then wpAny (model prog w) A (eval elt env) (fun x s₄=>
       wpAny (model prog w) A (call (.builtin "set.add") [acc,x]) (fun _ s₅=>∃ m,m < n /\ I m s₅) (fun _ _=>False) s₄) (fun _ _=>False) s₃
      else ∃ m,m < n /\ I m s₃) (fun _ _=>False) s₂) (fun _ _=>False) s₁') (fun _ _=>False) s₁) (fun _ _=>False) s)
  (n:Nat) (h:I n s) :
  codeAny (model prog w) A (.compLoop (.SetComp elt [⟨target,iter,ifs,0⟩] scope pos) 0 it acc env) R s:=by
 refine codeAny_loop rfl I (fun n s hI=>?_) n h;show wpAny _ A ((compTurn (.SetComp elt [⟨target,iter,ifs,0⟩] scope pos) 0 it acc env).onRaise (fun x=>do noteFrame x env; theTreesLotGoes x)) _ _ s;refine wpAny_noted ?_;rw [zHY];refine zTx (wpAny_standAt (zTx (zUY (turn n s hI) (fun r s₁ h₁=>?_) fun _ _ h'=>h'.elim)));cases r with
 | none=>exact zTz h₁
 | some v=>
  refine zTx (zUY h₁ (fun _ s₁' h₁'=>?_) fun _ _ h'=>h'.elim);refine zTx (zUY h₁' (fun _ s₂ h₂=>zTx (zUY h₂ (fun ok s₃ h₃=>?_) fun _ _ h'=>h'.elim)) fun _ _ h'=>h'.elim);cases ok with
  | false=>exact zTz ⟨rfl,h₃⟩
  | true=>
   exact zTx (zTx (zUY h₃ (fun x s₄ h₄=>zTx (wpAny_standAt (zTx (zUY h₄ (fun _ s₅ h₅=>zTz (zTz ⟨rfl,h₅⟩)) fun _ _ h'=>h'.elim)))) fun _ _ h'=>h'.elim))
end
end L2
namespace LR
open PySem PySem.Spec PyProof.Rows
open Sem (wp)
end LR
namespace L3
open PySem PySem.Spec PyProof.Rows L2
end L3
namespace ST
open PySem
abbrev Up (xs:Array Nat):Prop:=xs.toList.Pairwise (· < ·)
theorem Up.get {xs:Array Nat} (h:Up xs) {i k:Nat} (hik:i < k) (hk:k < xs.size):xs[i]'(by omega) < xs[k]:=by
 have:=List.pairwise_iff_getElem.mp h i k (by simpa using (show i < xs.size by omega)) (by simpa using hk) hik;simpa using this
theorem zHT {xs:Array Nat} (h:Up xs) (j:Nat):∀ (fuel lo hi:Nat),lo <= hi -> hi <= xs.size -> hi - lo <= fuel -> (∀ i (hi':i < xs.size),i < lo -> xs[i] < j) -> (∀ i (hi':i < xs.size),hi <= i -> j <= xs[i]) ->
  (SetTable.below.go xs j fuel lo hi <= xs.size) /\ (∀ i (hi':i < xs.size),i < SetTable.below.go xs j fuel lo hi -> xs[i] < j) /\ (∀ i (hi':i < xs.size),SetTable.below.go xs j fuel lo hi <= i -> j <= xs[i])
 | 0,lo,hi,h1,h2,h3,a,b=>by
  have:lo = hi:=by omega
  subst this;unfold SetTable.below.go;exact ⟨h2,a,b⟩
 | fuel + 1,lo,hi,h1,h2,h3,a,b=>by
  unfold SetTable.below.go;by_cases hl:lo < hi
  ·rw [zUH hl];dsimp only;have hm:(lo + hi) / 2 < xs.size:=by omega
   have eg:xs.getD ((lo + hi) / 2) j = xs[(lo + hi) / 2]:=by simp [Array.getD,hm]
   rw [eg];by_cases hc:xs[(lo + hi) / 2] < j
   ·rw [zUH hc];refine zHT h j fuel _ _ (by omega) h2 (by omega) (fun i hi' hlt=>?_) b;rcases Nat.lt_or_ge i ((lo + hi) / 2) with z | z
    ·exact Nat.lt_trans (h.get z hm) hc
    ·have:i = (lo + hi) / 2:=by omega
     subst this; exact hc
   ·rw [zUK hc];refine zHT h j fuel _ _ (by omega) (by omega) (by omega) a (fun i hi' hge=>?_);rcases Nat.lt_or_ge ((lo + hi) / 2) i with z | z
    ·have:=h.get z hi'; omega
    ·have:i = (lo + hi) / 2:=by omega
     subst this; omega
  ·rw [zUK hl];have:lo = hi:=by omega
   subst this;exact ⟨h2,a,b⟩
theorem zCH {xs:Array Nat} (h:Up xs) (j:Nat):SetTable.below xs j <= xs.size /\ (∀ i (hi':i < xs.size),i < SetTable.below xs j -> xs[i] < j) /\ (∀ i (hi':i < xs.size),SetTable.below xs j <= i -> j <= xs[i]):=by
 unfold SetTable.below;exact zHT h j xs.size 0 xs.size (zUo _) (zT8 _) (by omega) (fun i _ z=>by omega) (fun i hi' z=>by omega)
theorem zJp {xs:Array Nat} (h:Up xs):SetTable.below xs 0 = 0:=by
 obtain ⟨a,b,c⟩:=zCH h 0;rcases Nat.eq_zero_or_pos (SetTable.below xs 0) with z | z
 ·exact z
 ·have:=b 0 (by omega) z; omega
theorem zJX {xs:Array Nat} (h:Up xs) {k:Nat} (hk:k < xs.size):SetTable.below xs (xs[k] + 1) = k + 1:=by
 obtain ⟨a,b,c⟩:=zCH h (xs[k] + 1);rcases Nat.lt_trichotomy (SetTable.below xs (xs[k] + 1)) (k + 1) with z | z | z
 ·have:=c k hk (by omega); omega
 ·exact z
 ·have h1:k + 1 < xs.size:=by omega
  have:=b (k + 1) h1 z;have:=h.get (show k < k + 1 by omega) h1;omega
theorem zE3 {α:Type} (xs:Array α) (p:Nat) (x:α):(SetTable.insertAt xs p x).toList = xs.toList.take p ++ x :: xs.toList.drop p:=by
  unfold SetTable.insertAt;simp;have:xs.toList.length <= xs.size:=by simp
  rw [List.take_of_length_le (by simp)]
theorem zMe {xs : Array Nat} (h : Up xs) {j : Nat} (hj : j ∉ xs.toList) : Up (SetTable.insertAt xs (SetTable.below xs j) j) := by
  obtain ⟨a, b, c⟩ := zCH h j;unfold Up;rw [zE3];rw [List.pairwise_append];have hT : ∀ x ∈ xs.toList.take (SetTable.below xs j), x < j := fun x hx => by
    obtain ⟨i,hi,e⟩:=List.getElem_of_mem hx;rw [List.getElem_take] at e;rw [zVQ] at hi
    have h1 : i < xs.size := by have : xs.toList.length = xs.size := by simp
                                omega
    have:=b i h1 (by omega);rw [<- e]; simpa using this
  have hD : ∀ x ∈ xs.toList.drop (SetTable.below xs j), j < x := fun x hx => by
    obtain ⟨i,hi,e⟩:=List.getElem_of_mem hx;rw [List.getElem_drop] at e;rw [List.length_drop] at hi
    have h1 : SetTable.below xs j + i < xs.size := by have : xs.toList.length = xs.size := by simp
                                                      omega
    have h2:=c _ h1 (by omega);have h3:x ≠ j:=fun z=>hj (z ▸ List.mem_of_mem_drop hx);have e':xs[SetTable.below xs j + i] = x:=by simpa using e
    omega
  refine ⟨h.sublist (List.take_sublist _ _),zWC.mpr ⟨hD,h.sublist (List.drop_sublist _ _)⟩,fun x hx y hy=>?_⟩;rcases zUE.mp hy with z | z
  · rw [z]; exact hT x hx
  · exact Nat.lt_trans (hT x hx) (hD y z)
theorem zG4 (j:Nat):SetTable.has #[] j = false:=by
 unfold SetTable.has; simp
theorem zKO {t:SetTable} (h:Up t.place) {j:Nat} (he:t.slot j = .empty):j ∉ t.place.toList:=fun hm=>by
 obtain ⟨a,b,c⟩:=zCH h j;obtain ⟨k,hk,e⟩:=List.getElem_of_mem hm;have hk':k < t.place.size:=by simpa using hk
 have e':t.place[k] = j:=by simpa using e
 have eb:SetTable.below t.place j = k:=by
  rcases Nat.lt_trichotomy (SetTable.below t.place j) k with z | z | z
  ·have h1:SetTable.below t.place j < t.place.size:=by omega
   have:=c _ h1 (zT8 _);have:=h.get z hk';omega
  ·exact z
  ·have:=b k hk' z; omega
 unfold SetTable.slot at he;dsimp only at he;rw [eb,zUH (by simp [hk',e'])] at he;cases he
theorem zJO {t:SetTable} (hd:t.dummies = #[]) {hashAt:Nat -> Int} {h:Int}:∀ (fuel:Nat) (p:SetTable.Probe) {j:Nat} {d:Option Nat},p.dummy = none -> SetTable.probe.go t hashAt h fuel p = some (.empty j d) -> d = none /\ t.slot j = .empty
 | 0,_,_,_,_,e=>by unfold SetTable.probe.go at e; cases e
 | fuel + 1,p,j,d,hp,e=>by
  unfold SetTable.probe.go at e;split at e
  ·rename_i hs;cases e;exact ⟨hp,hs⟩
  ·rename_i hs;unfold SetTable.slot at hs;dsimp only at hs;rw [hd,zG4] at hs;split at hs <;> first | cases hs | simp at hs
  ·split at e
   ·cases e
   ·refine zJO hd fuel _ ?_ e;unfold SetTable.advance;split <;> simp [hp]
theorem zLW {t:SetTable} (hu:Up t.place) (hd:t.dummies = #[]) {h:Int} {j:Nat} {b:Bool} (e:t.freeSlot h = some (j,b)):b = false /\ j ∉ t.place.toList:=by
 unfold SetTable.freeSlot at e;split at e
 ·rename_i j' d hp;unfold SetTable.probe at hp;obtain ⟨h1,h2⟩:=zJO hd _ _ (by rfl) hp;subst h1;simp at e;obtain ⟨rfl,rfl⟩:=e;exact ⟨rfl,zKO hu h2⟩
 ·cases e
structure zAH (w:World) (t:SetTable):Prop where
 led:t.led = !w.params.followText "set-order"
 up:Up t.place
 nod:t.dummies = #[]
theorem zM7 (n:Nat):Up (Array.range n):=by
 unfold Up;rw [Array.toList_range];exact List.pairwise_lt_range
theorem zAH.standIn {w:World} {t:SetTable} (h:zAH w t) (n:Nat):zAH w (t.standIn n):=⟨h.led,zM7 n,rfl⟩
theorem zAH.orStandIn {w:World} {t:SetTable} (h:zAH w t) (n:Nat):zAH w (t.orStandIn n):=by
 unfold SetTable.orStandIn;split
 ·exact h
 ·exact h.standIn n
theorem zAH.put {w:World} {t:SetTable} (h:zAH w t) {j:Nat} (hj:j ∉ t.place.toList):zAH w (t.put j).1:=by
 unfold SetTable.put;refine ⟨h.led,zMe h.up hj,?_⟩;show (if SetTable.has t.dummies j = true then _ else t.dummies) = #[];rw [h.nod,zG4]; rfl
theorem zAH.layNew {w:World} {t:SetTable} (h:zAH w t) (es:Array (Int × Value)) (hh:Int) (x:Value):zAH w (layNew t es hh x).2.1:=by
 unfold PySem.layNew;split
 ·rename_i j b e;exact (h.put (zLW h.up h.nod e).2).orStandIn _
 ·exact h.standIn _
theorem zAH.relaid {w:World} {t t':SetTable} {hs:Array Int} {wanted:Nat} {order:Array Nat} (h:zAH w t) (e:t.relaid hs wanted = some (t',order)):zAH w t':=by
 unfold SetTable.relaid SetTable.laid at e;cases q:SetTable.layClean (SetTable.sizeAbove wanted - 1) hs with
 | none=>rw [q] at e; cases e
 | some owner=>
  rw [q] at e;simp only [Option.bind_eq_bind,Option.bind_some,Option.pure_def,Option.some.injEq,Prod.mk.injEq] at e;obtain ⟨rfl,_⟩:=e;refine ⟨h.led,?_,rfl⟩;unfold Up;dsimp only;rw [List.pairwise_map,List.pairwise_filterMap];refine List.pairwise_lt_range.imp fun {a b} hab x hx y hy=>?_;cases o1:owner.getD a none with
  | none=>rw [o1] at hx; cases hx
  | some u=>
   cases o2:owner.getD b none with
   | none=>rw [o2] at hy; cases hy
   | some v=>
    rw [o1] at hx; rw [o2] at hy;cases hx; cases hy;exact hab
theorem zAH.relayAll {w:World} {t:SetTable} (h:zAH w t) (es:Array (Int × Value)) (wanted:Nat):zAH w (relayAll t es wanted).2.1:=by
 unfold PySem.relayAll;split
 ·rename_i t' order e;dsimp only;split
  ·exact h.relaid e
  ·exact h.standIn _
 ·exact h.standIn _
theorem zAH.plain {w:World} {t:SetTable} (h:zAH w t) (b:Bool):zAH w { t with plain:=b }:=⟨h.led,h.up,h.nod⟩
theorem zAH.fresh {w:World}:zAH w (SetTable.fresh 0 0 (!w.params.followText "set-order")):=⟨rfl,List.Pairwise.nil,rfl⟩
open Sem (wp)
set_option genInjectivity true in
inductive F2 {α β:Type} (R:α -> β -> Prop):List α -> List β -> Prop
 | nil:F2 R [] []
 | cons {x y xs ys}:R x y -> F2 R xs ys -> F2 R (x :: xs) (y :: ys)
section
variable {prog:Program} {w:World} {K:Type} [DecidableEq K]
def zRj (knd:KeyKind prog w K) (e:Int × Value) (k:K):Prop:=(knd.is k e.2 = true /\ e.1 = knd.hash k) /\ e.2.scannable = true
structure SetK (knd:KeyKind prog w K) (o:Obj) (es:Array (Int × Value)) (ep:Nat) (t:SetTable) (ks:List K):Prop where
 ex:o.ExactSet
 data:o.data = .set es ep t
 tab:zAH w t
 fits:t.fits es.size = true
 bound:es.size < scanBound
 ent:∃ ks',ks'.Perm ks /\ F2 (zRj knd) es.toList ks'
def ins (ks:List K) (k:K):List K:=if k ∈ ks then ks else ks ++ [k]
variable {knd:KeyKind prog w K} {o:Obj} {es:Array (Int × Value)} {ep:Nat} {t:SetTable} {ks:List K}
theorem zCk {α β:Type} {R:α -> β -> Prop}:∀ {xs:List α} {ys:List β},F2 R xs ys -> xs.length = ys.length
 | _,_,.nil=>rfl
 | _,_,.cons _ h=>by simp [zCk h]
theorem zCu {α β:Type} {R:α -> β -> Prop}:∀ {xs:List α} {ys:List β},F2 R xs ys -> ∀ x ∈ xs,∃ y ∈ ys,R x y
 | _,_,.nil,x,hx=>by cases hx
 | _,_,.cons h r,x,hx=>by
  rcases zUE.mp hx with z | z
  ·subst z; exact ⟨_,zUG,h⟩
  ·obtain ⟨y,hy,q⟩:=zCu r x z; exact ⟨y,zUF _ hy,q⟩
theorem zD9 {α β:Type} {R:α -> β -> Prop}:∀ {xs:List α} {ys:List β},F2 R xs ys -> ∀ y ∈ ys,∃ x ∈ xs,R x y
 | _,_,.nil,x,hx=>by cases hx
 | _,_,.cons h r,x,hx=>by
  rcases zUE.mp hx with z | z
  ·subst z; exact ⟨_,zUG,h⟩
  ·obtain ⟨y,hy,q⟩:=zD9 r x z; exact ⟨y,zUF _ hy,q⟩
theorem zCj {α β:Type} {R:α -> β -> Prop}:∀ {xs:List α} {ys:List β} {us:List α} {vs:List β},F2 R xs ys -> F2 R us vs -> F2 R (xs ++ us) (ys ++ vs)
 | _,_,_,_,.nil,h=>h
 | _,_,_,_,.cons h r,q=> .cons h (zCj r q)
theorem zD0 {α β:Type} {R:α -> β -> Prop} {xs xs':List α} (p:xs'.Perm xs):∀ {ys:List β},F2 R xs ys -> ∃ ys',ys'.Perm ys /\ F2 R xs' ys':=by
 have p':=p.symm;clear p;induction p' with
 | nil=>intro ys h; exact ⟨ys,.refl _,h⟩
 | cons x _ ih=>
  intro ys h;cases h with
  | cons h r=>
   obtain ⟨ys',q1,q2⟩:=ih r;exact ⟨_,q1.cons _,.cons h q2⟩
 | swap x y l=>
  intro ys h;cases h with
  | cons h r=>
   cases r with
   | cons h2 r=>
    exact ⟨_,List.Perm.swap _ _ _,.cons h2 (.cons h r)⟩
 | trans _ _ ih1 ih2=>
  intro ys h;obtain ⟨ys',q1,q2⟩:=ih1 h;obtain ⟨ys'',r1,r2⟩:=ih2 q2;exact ⟨ys'',r1.trans q1,r2⟩
theorem SetK.size (h:SetK knd o es ep t ks):es.size = ks.length:=by
 obtain ⟨ks',p,f⟩:=h.ent;rw [<- p.length_eq,<- zCk f,zUl]
theorem SetK.elems (h:SetK knd o es ep t ks):ElemsOf knd es.toList:=fun e he=>by
 obtain ⟨ks',p,f⟩:=h.ent;obtain ⟨k,_,q⟩:=zCu f e he;exact ⟨⟨k,q.1⟩,q.2⟩
theorem SetK.mem (h:SetK knd o es ep t ks) (k:K):k ∈ ks ↔ ∃ e ∈ es.toList,knd.is k e.2 = true:=by
 obtain ⟨ks',p,f⟩:=h.ent;rw [<- p.mem_iff];constructor
 ·intro hk;obtain ⟨e,he,q⟩:=zD9 f k hk;exact ⟨e,he,q.1.1⟩
 ·rintro ⟨e,he,q⟩;obtain ⟨k',hk',q'⟩:=zCu f e he;rw [knd.inj e.2 k k' q q'.1.1]; exact hk'
variable {A:Around} {E:Value -> Shared -> Prop} {s:Shared} {a:Addr} {k:K} {x:Value}
theorem SetK.typeIs (h:SetK knd o es ep t ks) (ho:s.heap.get? a = some o):s.TypeIs (.ref a) "set" := ⟨o,ho,h.ex.1⟩
theorem zGn {h:Heap} {es':Array (Int × Value)} {t':SetTable} (ho:h.get? a = some o) (hd:o.data = .set es ep t) :
  (h.update a (Obj.putSet es' t')).get? a = some { o with data:=.set es' (ep + 1) t' }:=by
 have:=zUp (Obj.putSet es' t') ho (by rw [putSet_of es' t' hd]; rfl);rw [putSet_of es' t' hd] at this; exact this
theorem zE0 {Q:Bool -> Shared -> Prop} (hkey:knd.is k x = true) (hsc:x.scannable = true) (ho:s.heap.get? a = some o) (hS:SetK knd o es ep t ks) (hroom:ks.length + 1 < scanBound)
  (h:∀ h' o' es' ep' t' b,Heap.SameBut a s.heap h' -> h'.get? a = some o' -> SetK knd o' es' ep' t' (ins ks k) -> Q b { s with heap:=h' }) :
  wpAny (model prog w) A (setAddHashed a x (knd.hash k)) Q E s:=by
 have hd:=hS.data;have hf:=hS.fits;have hel:=hS.elems;have hb:=hS.bound;have hb1:es.size + 1 < scanBound:=by rw [hS.size]; exact hroom
 unfold setAddHashed setAddHashedIn;refine zUv (zTx (wpAny_setState_of ho hd hf ?_));dsimp only;rw [byScan_of hsc hb hel];simp only [↓reduceIte];unfold setAddByScan;refine zTx ?_;refine zTx (zVP ?_);refine zTx (wpAny_setScan_of hkey ho hd hf hel ?_);cases hr:List.findIdx? (fun e=>knd.is k e.2) es.toList with
 | some j=>
  dsimp only;obtain ⟨hj,hpj,_⟩:=List.findIdx?_eq_some_iff_getElem.mp hr;have hSk:k ∈ ks:=(hS.mem k).mpr ⟨es.toList[j],zUa hj,hpj⟩;refine zTz (zTz ?_);have e:s = { s with heap:=s.heap }:=by cases s; rfl
  rw [e];refine h s.heap o es ep t _ (Heap.SameBut.refl a s.heap) ho ?_;unfold ins;rw [zUH hSk]; exact hS
 | none=>
  dsimp only;have hSk:k ∉ ks:=fun hk=>by
   obtain ⟨e,he,hp⟩:=(hS.mem k).mp hk; have:=List.findIdx?_eq_none_iff.mp hr e he; rw [hp] at this; exact Bool.noConfusion this
  have hgw:∀ (b:Bool) {s₁:Shared} {Q':Unit -> Shared -> Prop},Q' () s₁ -> wpAny (model prog w) A (match b with | true=>rule "set.scan.the-table-gave-way" | false=>pure ()) Q' E s₁ :=
   fun b s₁ Q' hq=>by cases b <;> first | exact zTz hq | exact zVP hq
  have hperm:=layNew_perm t es (knd.hash k) x;have hfits:=layNew_fits t es (knd.hash k) x;have htab:=hS.tab.layNew es (knd.hash k) x;generalize hL:layNew t es (knd.hash k) x = L at hperm hfits htab ⊢;obtain ⟨es1,t1,wasDummy,gave⟩:=L;dsimp only at hperm hfits htab ⊢;rw [Array.toList_push] at hperm;have hb1':es1.size < scanBound:=by rw [<- zUl,hperm.length_eq,zUI,zUl]; simpa using hb1
  obtain ⟨ks',p,f⟩:=hS.ent;have f1:F2 (zRj knd) (es.toList ++ [(knd.hash k,x)]) (ks' ++ [k]):=zCj f (.cons ⟨⟨hkey,rfl⟩,hsc⟩ .nil);obtain ⟨ks1,p1,f2⟩:=zD0 hperm f1;have pI:ks1.Perm (ins ks k):=by
   unfold ins;rw [zUK hSk];exact p1.trans (p.append_right _)
  refine zTx (hgw _ ?_)
  have tail:∀ t2:SetTable,zAH w t2 -> t2.fits es1.size = true -> wpAny (model prog w) A (do
    storeSet a es1 t2
    if (!wasDummy && t2.tooFull) = true then do
      (match (relayAll t2 es1 (SetTable.grown es1.size)).2.2 with | true=>rule "set.scan.the-table-gave-way" | false=>pure ())
      storeSet a (relayAll t2 es1 (SetTable.grown es1.size)).1 (relayAll t2 es1 (SetTable.grown es1.size)).2.1;pure (some true)
     else pure (some true)) (fun r s'=>wpAny (model prog w) A (match r with | some added=>pure added | none=>setAddHashedIn a x (knd.hash k) 99999) Q E s') E s:=by
   intro t2 T2 F2;refine zTx (wpAny_storeSet_of ho hd ?_ (fits_of_scanBound hb1'));have g1:=zGn (es':=es1) (t':=t2) ho hd;have sb1:=zU5 s.heap a (Obj.putSet es1 t2);have S1:SetK knd { o with data:=.set es1 (ep + 1) t2 } es1 (ep + 1) t2 (ins ks k):=⟨hS.ex,rfl,T2,F2,hb1',ks1,pI,f2⟩;split
   ·have hp:=relayAll_perm t2 es1 (SetTable.grown es1.size);have hfr:=relayAll_fits t2 es1 (SetTable.grown es1.size);have htr:=T2.relayAll es1 (SetTable.grown es1.size);generalize hRl:relayAll t2 es1 (SetTable.grown es1.size) = Rl at hp hfr htr ⊢;obtain ⟨es2,t3,gave2⟩:=Rl;dsimp only at hp hfr htr ⊢;have hsz:es2.size = es1.size:=by rw [<- zUl,hp.length_eq,zUl]
    have hb2:es2.size < scanBound:=by rw [hsz]; exact hb1'
    obtain ⟨ks2,p2,f3⟩:=zD0 hp f2;refine zTx (hgw _ ?_);refine zTx (wpAny_storeSet_of g1 rfl ?_ (fits_of_scanBound hb2));have g2:=zGn (es':=es2) (t':=t3) g1 rfl;exact zTz (zTz (h _ _ _ _ _ _ (sb1.trans (zU5 _ a _)) g2 ⟨hS.ex,rfl,htr,hfr,hb2,ks2,p2.trans pI,f3⟩))
   ·exact zTz (zTz (h _ _ _ _ _ _ sb1 g1 S1))
  split
  ·refine zTx ?_;rw [hashByValue_scannable 8 hsc];refine zTz ?_;refine tail _ ?_ ?_
   ·split
    ·exact htab
    ·exact htab.plain _
   ·split
    ·exact hfits
    ·exact SetTable.fits_plain_off hfits
  ·refine zTx (zTz ?_);simp only [↓reduceIte];exact tail _ htab hfits
theorem zM8 {Q:Value -> Shared -> Prop} (hkey:knd.is k x = true) (hsc:x.scannable = true) (ho:s.heap.get? a = some o) (hS:SetK knd o es ep t ks) (hroom:ks.length + 1 < scanBound)
  (h:∀ h' o' es' ep' t',Heap.SameBut a s.heap h' -> h'.get? a = some o' -> SetK knd o' es' ep' t' (ins ks k) -> Q .none { s with heap:=h',toks:=s.toks + 1 }) :
  wpAny (model prog w) A (call (.builtin "set.add") [.ref a,x]) Q E s:=by
 refine zUf F.slot_set_add (hS.typeIs ho) F.entry_set_add ?_ (F.args_set_add_2 _ _);unfold Builtin.«set.add» Builtin.Frozenset.oneOther;simp only [List.isEmpty_nil,bind_assoc];unfold Builtin.Frozenset.addrOf setAdd;refine zTx (zTz ?_);try dsimp only
 refine zTx (zTz ?_);try dsimp only
 refine zTx ?_;refine zUv ?_;refine zTx (knd.pyHash hkey ?_);refine zE0 (s:={ s with toks:=s.toks + 1 }) hkey hsc ho hS hroom fun h' o' es' ep' t' b hsb ho' hS'=>?_;show wpAny _ _ (ret Value.none) _ _ _;exact zTz ⟨_,rfl,h h' o' es' ep' t' hsb ho' hS'⟩
def zBR (w:World):Obj:={ cls:=.type "set", dict:=none,data:=.set #[] 0 (.fresh 0 0 (!w.params.followText "set-order")) }
theorem SetK.fresh:SetK knd (zBR w) #[] 0 (.fresh 0 0 (!w.params.followText "set-order")) []:=⟨⟨rfl,rfl,rfl⟩,rfl,.fresh,by rfl,by decide,[],.refl _,.nil⟩
theorem zMU {Q:Value -> Shared -> Prop} (h:Q (.ref s.heap.objs.size) { s with heap:=s.heap.push (zBR w) }) :
  wpAny (model prog w) A (newSet (.type "set")) Q E s:=by
 unfold newSet setsByText;refine zTx (zTx (wpAny_askSetting (zTz ?_)));dsimp only;simp only [newObj];exact zTx (wpAny_alloc (zTz h))
end
open PySem.Spec PyProof.Rows
open Sem (wp)
theorem zJJ:Manifest.owners.lookup (String.ofList ['r','o','t','a','r','e','t','i','_','t','e','s'].reverse) = some Manifest.sig_set_iterator:=by kernel_rfl
theorem zq:Slot "set_iterator" "__next__" "set_iterator.__next__" := .of (owner := "set_iterator") (n := "__next__") (by rw [typeLookup_type,builtinLookup_eq_fast]; kernel_rfl) (by decide +kernel) (by decide +kernel) (by decide +kernel) (by first | exact .inl (by decide +kernel) | exact .inr (by decide +kernel)) (by rw [isSubtype_type]; kernel_rfl)
theorem zDo:Slot "set_iterator" "__iter__" "set_iterator.__iter__" := .of (owner := "set_iterator") (n := "__iter__") (by rw [typeLookup_type,builtinLookup_eq_fast]; kernel_rfl) (by decide +kernel) (by decide +kernel) (by decide +kernel) (by first | exact .inl (by decide +kernel) | exact .inr (by decide +kernel)) (by rw [isSubtype_type]; kernel_rfl)
theorem zBb (a:Value):argsOk "set_iterator.__next__" ⟨[a],[]⟩:=by
 unfold argsOk; rw [signature?_of (id := "set_iterator.__next__") (n:=['_','_','t','x','e','n','_','_']) (o:=['r','o','t','a','r','e','t','i','_','t','e','s']) (by kernel_rfl) zJJ]; kernel_rfl
theorem zH0 (a:Value):argsOk "set_iterator.__iter__" ⟨[a],[]⟩:=by
 unfold argsOk; rw [signature?_of (id := "set_iterator.__iter__") (n:=['_','_','r','e','t','i','_','_']) (o:=['r','o','t','a','r','e','t','i','_','t','e','s']) (by kernel_rfl) zJJ]; kernel_rfl
theorem zBK:entryFor table "set_iterator.__next__" = some Builtin.«set_iterator.__next__»:=entryFor_of_tree (by kernel_rfl)
theorem zGR:entryFor table "set_iterator.__iter__" = some Builtin.«dict_keyiterator.__iter__» :=
 entryFor_alias (id' := "dict_keyiterator.__iter__") (by kernel_rfl) (by first | rfl | decide +kernel | (unfold String.splitOn; simp +decide [String.splitOnAux])) (by decide +kernel) (by kernel_rfl)
theorem zFm:entryFor table "set.__iter__" = some Builtin.«frozenset.__iter__» :=
 entryFor_alias (id' := "frozenset.__iter__") (by kernel_rfl) rfl (by decide +kernel) (by kernel_rfl)
def zAr (f:Value) (i:Nat) (a:Addr) (n ep:Nat):Obj:={ cls:=.type "set_iterator", data:=.fields #[f,rawInt i,.ref a,rawInt n,rawInt ep] }
theorem zDh {α:Type}:∀ {l:List α} {i:Nat} (h:i < l.length),(l[i] :: l.eraseIdx i).Perm l
 | [],i,h=>by simp at h
 | x :: l,0,h=>by simp
 | x :: l,i + 1,h=>by
  have:=zDh (l:=l) (i:=i) (by simpa using h);rw [List.getElem_cons_succ,List.eraseIdx_cons_succ];exact (List.Perm.swap _ _ _).trans (this.cons x)
theorem zGs {α:Type} {l:List α} {i n:Nat} (h:i < l.length) (e:n + 1 = l.length):n = (l.eraseIdx i).length:=by
 rw [List.length_eraseIdx,zUH h]; omega
theorem zGg {α:Type} (next:Nat -> Nat):∀ (fuel k:Nat) (left:List α) (out:Array α),fuel = left.length -> (pickOrder.go next fuel k left out).toList.Perm (out.toList ++ left)
 | 0,k,left,out,h=>by
  have:left = []:=zV4.mp h.symm;subst this;unfold pickOrder.go;simp
 | fuel + 1,k,left,out,h=>by
  unfold pickOrder.go;have hl:0 < left.length:=by omega
  have hm:next k % left.length < left.length:=Nat.mod_lt _ hl
  rw [zT6 hm];dsimp only;refine (zGg next fuel (k + 1) _ _ (zGs hm h)).trans ?_;rw [Array.toList_push,zU8];exact (zDh hm).append_left _
theorem zCp {α:Type} (next:Nat -> Nat) (xs:Array α):(pickOrder next xs).toList.Perm xs.toList:=by
 unfold pickOrder;simpa using zGg next xs.size 0 xs.toList #[] (by simp)
section
variable {prog:Program} {w:World} {A:Around} {E:Value -> Shared -> Prop} {s:Shared}
theorem zHX {src:Source} {n:Nat} {Q:Nat -> Shared -> Prop} (h0:n ≠ 0) (h:∀ r d,r < n -> Q r { s with drawn:=d }):wpAny (model prog w) A (choose src n) Q E s :=
 fun Γ p hΓ=>⟨h0,h _ _ (Nat.mod_lt _ (by omega))⟩
theorem zCa {α:Type}:∀ (n:Nat) (xs:List α) {s:Shared} {Q:List α -> Shared -> Prop},n = xs.length -> (∀ ys d,ys.Perm xs -> Q ys { s with drawn:=d }) -> wpAny (model prog w) A (drawOrder n xs) Q E s
 | 0,xs,s,Q,h,q=>by
  have:xs = []:=zV4.mp h.symm;subst this;have e:s = { s with drawn:=s.drawn }:=by cases s; rfl
  rw [e];exact zTz (q [] s.drawn (.refl _))
 | n + 1,[],s,Q,h,q=>by cases h
 | n + 1,x :: xs,s,Q,h,q=>by
  unfold drawOrder;refine zTx (zHX (by simp) fun r d hr=>?_);rw [zT6 hr];dsimp only;refine zTx (zCa n _ (zGs hr h) fun ys d' hp=>zTz ?_);exact q _ d' ((hp.cons _).trans (zDh hr))
variable {K:Type} [DecidableEq K] {knd:KeyKind prog w K} {o:Obj} {es:Array (Int × Value)} {ep:Nat} {t:SetTable} {ks:List K} {a I:Addr}
theorem zFZ {f:Value} {i n:Nat} (h:s.heap.get? I = some (zAr f i a n ep)):s.TypeIs (.ref I) "set_iterator" := ⟨_,h,rfl⟩
theorem zK0 {f:Value} {i n:Nat} {Q:Value -> Shared -> Prop} (hI:s.heap.get? I = some (zAr f i a n ep)) (h:Q (.ref I) s):wpAny (model prog w) A (pyIter (.ref I)) Q E s:=by
 refine wpAny_pyIter_slot (zFZ hI) zDo (zUf zDo (zFZ hI) zGR ?_ (zH0 _));show wpAny _ _ (ret (.ref I)) _ _ s;exact zTz ⟨_,rfl, "set_iterator", _,zFZ hI,zq.lookup,h⟩
structure Nexts (prog:Program) (w:World) (o:Obj) (a:Addr) (ep:Nat) (n:Nat) (at_:Nat -> Nat) (ord:List Value):Prop where
 len:ord.length = n
 nx:∀ (A:Around) (E:Value -> Shared -> Prop) (i:Nat) (s:Shared) (Q:Option (Value × Nat) -> Shared -> Prop),i <= n -> s.heap.get? a = some o -> Q ((ord[i]?).map fun x=>(x,at_ (i + 1))) s -> wpAny (model prog w) A (setNext a (at_ i) i ep) Q E s
theorem zMh {at_:Nat -> Nat} {ord:List Value} {i:Nat} {x:Value} {Q:Option Value -> Shared -> Prop} (N:Nexts prog w o a ep ks.length at_ ord) (hS:SetK knd o es ep t ks) (hI:s.heap.get? I = some (zAr (rawInt (at_ i)) i a ks.length ep)) (ho:s.heap.get? a = some o)
  (hx:ord[i]? = some x) (hQ:∀ h',h'.get? I = some (zAr (rawInt (at_ (i + 1))) (i + 1) a ks.length ep) -> Heap.SameBut I s.heap h' -> Q (some x) { s with heap:=h' }):wpAny (model prog w) A (pyNext (.ref I)) Q E s:=by
 have hT:=zFZ hI;have hi:i < ks.length:=by have:=(zT0.mp hx).1; rw [N.len] at this; exact this
 unfold pyNext;refine zTx (zVd (zUe (name:=Str.ofString "__next__") hT zq (zUf zq hT zBK ?_ (zBb _))));unfold Builtin.«set_iterator.__next__» slotArgs;simp only [List.isEmpty_nil,Bool.not_true,zU3,↓reduceIte,zVW,bne_self_eq_false,pure_bind,bind_assoc];refine zTx (wpAny_fieldsOf hI rfl ?_);dsimp only [rawInt];refine zTx (wpAny_setEntries_of ho hS.data hS.fits ?_);rw [zUK (by rw [hS.size]; simp)];refine zTx (N.nx _ _ i s _ (by omega) ho ?_);rw [hx];dsimp only [Option.map];refine zTx (zVn hI rfl (by simp) ?_);have e1:=zUp (Obj.mapFields fun vs=>vs.set! 0 (rawInt (at_ (i + 1)))) hI (Obj.isFreed_of_fields (zVJ rfl _));refine zTx (zVn e1 (zVJ rfl _) (by simp) ?_);have e2:=zUp (Obj.mapFields fun vs=>vs.set! 1 (rawInt ((i:Int) + 1))) e1 (Obj.isFreed_of_fields (zVJ (zVJ rfl _) _));refine zTz ⟨x,rfl,zTz (hQ _ ?_ ((zU5 ..).trans (zU5 ..)))⟩;refine e2.trans ?_;simp [Obj.mapFields,zAr,rawInt]
end
open Sem (wp)
section
variable {prog:Program} {w:World} {A:Around} {E:Value -> Shared -> Prop} {s:Shared}
variable {K:Type} [DecidableEq K] {knd:KeyKind prog w K} {o:Obj} {es:Array (Int × Value)} {ep:Nat} {t:SetTable} {ks:List K} {a I:Addr}
theorem zFa {at_:Nat -> Nat} {ord:List Value} {Q:Option Value -> Shared -> Prop} (hh:A.handled = none) (N:Nexts prog w o a ep ks.length at_ ord) (hS:SetK knd o es ep t ks) (hI:s.heap.get? I = some (zAr (rawInt (at_ ks.length)) ks.length a ks.length ep)) (ho:s.heap.get? a = some o)
  (hQ:∀ h',Heap.ExtBut I s.heap h' -> Q none { s with heap:=h' }):wpAny (model prog w) A (pyNext (.ref I)) Q E s:=by
 have hT:=zFZ hI;unfold pyNext;refine zTx (zVd (zUe (name:=Str.ofString "__next__") hT zq (zUf zq hT zBK ?_ (zBb _))));unfold Builtin.«set_iterator.__next__» slotArgs;simp only [List.isEmpty_nil,Bool.not_true,zU3,↓reduceIte,zVW,bne_self_eq_false,pure_bind,bind_assoc];refine zTx (wpAny_fieldsOf hI rfl ?_);dsimp only [rawInt];refine zTx (wpAny_setEntries_of ho hS.data hS.fits ?_);rw [zUK (by rw [hS.size]; simp)];refine zTx (N.nx _ _ ks.length s _ (zT8 _) ho ?_);rw [zVB (by rw [N.len]; exact zT8 _)];dsimp only [Option.map];refine zTx (zVn hI rfl (by simp) ?_);simp only [newExc,newTuple,bind_assoc,pure_bind];refine zTx (zUV (zTx (m:=firstArgMember _ _) (wpAny_of_eq (a:=Value.none) (by first | rfl | (simp only [firstArgMember]; rfl)) (zTx (zUV ?_ (by size_fits))))) (by size_fits));simp only [raiseNew];refine zTx (wpAny_handled ?_);rw [show A.in1.handled = none from hh];refine zTx (zTz (wpAny_throw ?_));refine zTx (wpAny_isInstance (T := "StopIteration") (b:=true) ⟨_,zUC _ rfl,rfl⟩ isSubtype_stop (zTz ?_));exact hQ _ (((zU5 ..).extBut.push _).push _)
theorem zIS {at_:Nat -> Nat} {ord:List Value} (hh:A.handled = none) (hne:a ≠ I) (N:Nexts prog w o a ep ks.length at_ ord) (hS:SetK knd o es ep t ks) :
  Walks prog w A I [I,a] [I] ks.length (fun i v=>ord[i]? = some v) (fun i h=>h.get? I = some (zAr (rawInt (at_ i)) i a ks.length ep) /\ h.get? a = some o) where
 sub:=fun b hb=>by simp at hb; simp [hb]
 frame:=fun _ _ _ st hk=>⟨hk I (by simp) _ st.1,hk a (by simp) _ st.2⟩;item:=fun i s Q E hi st hQ=>by
  have hx:ord[i]? = some (ord[i]'(by rw [N.len]; exact hi)):=zT6 _;refine zMh N hS st.1 st.2 hx fun h' hI' hs'=>?_;exact hQ _ h' s.toks hx ⟨hI',hs'.extBut a o hne st.2⟩ fun b u hb ee=>hs'.extBut b u (fun h=>hb (by simp [h])) ee
 done:=fun s Q E st hQ=>zFa hh N hS st.1 st.2 fun h' he'=>hQ h' s.toks fun b u hb ee=>he' b u (fun h=>hb (by simp [h])) ee;self:=fun _ _ _ _ st hQ=>zK0 st.1 hQ
theorem zJy {T:Addr} {pl:List Nat} {i:Nat} {x:Value} {Q:Option Value -> Shared -> Prop} (hS:SetK knd o es ep t ks) (hl:pl.length = ks.length) (hI:s.heap.get? I = some (zAr (.ref T) i a ks.length ep)) (ho:s.heap.get? a = some o)
  (hT:IsTup s.heap T (pl.map fun (k:Nat)=>rawInt k).toArray)
  (hx:(pl[i]?).bind (fun k=>(es[k]?).map (·.2)) = some x) (hQ:∀ h',h'.get? I = some (zAr (.ref T) (i + 1) a ks.length ep) -> Heap.SameBut I s.heap h' -> Q (some x) { s with heap:=h' }):wpAny (model prog w) A (pyNext (.ref I)) Q E s:=by
 have hTy:=zFZ hI;obtain ⟨oT,hoT,hcT,nT,hdT⟩:=id hT;cases hp:pl[i]? with
 | none=>rw [hp] at hx; cases hx
 | some k=>
  rw [hp] at hx;cases he:es[k]? with
  | none=>simp only [Option.bind_some] at hx; rw [he] at hx; cases hx
  | some e=>
   simp only [Option.bind_some] at hx;rw [he] at hx;cases hx;unfold pyNext;refine zTx (zVd (zUe (name:=Str.ofString "__next__") hTy zq (zUf zq hTy zBK ?_ (zBb _))));unfold Builtin.«set_iterator.__next__» slotArgs;simp only [List.isEmpty_nil,Bool.not_true,zU3,↓reduceIte,zVW,bne_self_eq_false,pure_bind,bind_assoc];refine zTx (wpAny_fieldsOf hI rfl ?_);dsimp only [rawInt];refine zTx (wpAny_setEntries_of ho hS.data hS.fits ?_);rw [zUK (by rw [hS.size]; simp)];refine zTx (zUs hoT hdT ?_);dsimp only;have e5:(List.map (fun (k:Nat)=>rawInt k) pl).toArray[(i:Int).toNat]? = some (rawInt k):=by simp [hp]
   rw [e5];dsimp only [rawInt];unfold setNextDrawn;simp only [bind_assoc];refine zTx (wpAny_setState_of ho hS.data hS.fits ?_);dsimp only;rw [zUK (by simp)];have e6:es[(k:Int).toNat]? = some e:=by simpa using he
   rw [e6];obtain ⟨e1,e2⟩:=e;dsimp only;simp only [pure_bind];refine zTx (zVn hI rfl (by simp) ?_);refine zTz ⟨e2,rfl,zTz (hQ _ ?_ (zU5 ..))⟩;refine (zUp _ hI (Obj.isFreed_of_fields (zVJ rfl _))).trans ?_;simp [Obj.mapFields,zAr,rawInt]
theorem zLa {T:Addr} {pl:List Nat} {Q:Option Value -> Shared -> Prop} (hh:A.handled = none) (hS:SetK knd o es ep t ks) (hl:pl.length = ks.length) (hI:s.heap.get? I = some (zAr (.ref T) ks.length a ks.length ep)) (ho:s.heap.get? a = some o)
  (hT:IsTup s.heap T (pl.map fun (k:Nat)=>rawInt k).toArray) (hQ:∀ h',Heap.ExtBut I s.heap h' -> Q none { s with heap:=h' }):wpAny (model prog w) A (pyNext (.ref I)) Q E s:=by
 have hTy:=zFZ hI;obtain ⟨oT,hoT,hcT,nT,hdT⟩:=id hT;unfold pyNext;refine zTx (zVd (zUe (name:=Str.ofString "__next__") hTy zq (zUf zq hTy zBK ?_ (zBb _))));unfold Builtin.«set_iterator.__next__» slotArgs;simp only [List.isEmpty_nil,Bool.not_true,zU3,↓reduceIte,zVW,bne_self_eq_false,pure_bind,bind_assoc];refine zTx (wpAny_fieldsOf hI rfl ?_);dsimp only [rawInt];refine zTx (wpAny_setEntries_of ho hS.data hS.fits ?_);rw [zUK (by rw [hS.size]; simp)];refine zTx (zUs hoT hdT ?_);dsimp only;have e5:(List.map (fun (k:Nat)=>rawInt k) pl).toArray[(ks.length:Int).toNat]? = none:=by simp [hl]
 rw [e5];dsimp only [rawInt];refine zTx (zVn hI rfl (by simp) ?_);have e1:=zUp (Obj.mapFields fun vs=>vs.set! 0 (rawInt 0)) hI (Obj.isFreed_of_fields (zVJ rfl _));refine zTx (zVn e1 (zVJ rfl _) (by simp) ?_);simp only [newExc,newTuple,bind_assoc,pure_bind];refine zTx (zUV (zTx (m:=firstArgMember _ _) (wpAny_of_eq (a:=Value.none) (by first | rfl | (simp only [firstArgMember]; rfl)) (zTx (zUV ?_ (by size_fits))))) (by size_fits));simp only [raiseNew];refine zTx (wpAny_handled ?_);rw [show A.in1.handled = none from hh];refine zTx (zTz (wpAny_throw ?_));refine zTx (wpAny_isInstance (T := "StopIteration") (b:=true) ⟨_,zUC _ rfl,rfl⟩ isSubtype_stop (zTz ?_));exact hQ _ ((((zU5 ..).trans (zU5 ..)).extBut.push _).push _)
theorem zIg {T:Addr} {pl:List Nat} (hh:A.handled = none) (hne:a ≠ I) (hneT:T ≠ I) (hS:SetK knd o es ep t ks) (hl:pl.length = ks.length) (hb:∀ k ∈ pl,k < es.size) :
  Walks prog w A I [I,a,T] [I] ks.length (fun i v=>(pl[i]?).bind (fun k=>(es[k]?).map (·.2)) = some v) (fun i h=>h.get? I = some (zAr (.ref T) i a ks.length ep) /\ h.get? a = some o /\ IsTup h T (pl.map fun (k:Nat)=>rawInt k).toArray) where
 sub:=fun b hb=>by simp at hb; simp [hb]
 frame:=fun _ _ _ st hk=>⟨hk I (by simp) _ st.1,hk a (by simp) _ st.2.1,let ⟨oT,ho,r⟩:=st.2.2; ⟨oT,hk T (by simp) oT ho,r⟩⟩;item:=fun i s Q E hi st hQ=>by
  have hi':i < pl.length:=by rw [hl]; exact hi
  have hk:pl[i] < es.size:=hb _ (zUa hi');have hx:(pl[i]?).bind (fun k=>(es[k]?).map (·.2)) = some (es[pl[i]].2):=by
   rw [zT6 hi']; simp [hk]
  refine zJy hS hl st.1 st.2.1 st.2.2 hx fun h' hI' hs'=>?_;exact hQ _ h' s.toks hx ⟨hI',hs'.extBut a o hne st.2.1,st.2.2.extBut hs'.extBut hneT⟩ fun b u hb ee=>hs'.extBut b u (fun h=>hb (by simp [h])) ee
 done:=fun s Q E st hQ=>zLa hh hS hl st.1 st.2.1 st.2.2 fun h' he'=>hQ h' s.toks fun b u hb ee=>he' b u (fun h=>hb (by simp [h])) ee;self:=fun _ _ _ _ st hQ=>zK0 st.1 hQ
end
open Sem (wp)
theorem zLg {prog:Program} {w:World} {A:Around} {I:Addr} {fp wr:List Addr} {n:Nat} {P P':Nat -> Value -> Prop} {St:Nat -> Heap -> Prop} (W:Walks prog w A I fp wr n P St) (h:∀ i v,P i v -> P' i v):Walks prog w A I fp wr n P' St where
 sub:=W.sub;frame:=W.frame;item:=fun i s Q E hi st hQ=>W.item i s Q E hi st fun v h' tk hP=>hQ v h' tk (h i v hP);done:=W.done;self:=W.self
section
variable {prog:Program} {w:World} {A:Around} {E:Value -> Shared -> Prop} {s:Shared}
variable {K:Type} [DecidableEq K] {knd:KeyKind prog w K} {o:Obj} {es:Array (Int × Value)} {ep:Nat} {t:SetTable} {ks:List K} {a I:Addr}
theorem zBz {Q:Bool -> Shared -> Prop} (h:Q (w.params.followText "set-order") s):wpAny (model prog w) A setsByText Q E s:=by
 unfold setsByText;exact zTx (wpAny_askSetting (zTz h))
theorem zKZ (hS:SetK knd o es ep t ks) (hT:w.params.followText "set-order" = true):Nexts prog w o a ep ks.length (fun _=>0) ((pickOrder (w.params.setOrder a ep) es).toList.map (·.2)) where
 len:=by rw [zUB,(zCp _ es).length_eq,zUl,hS.size]
 nx:=fun A E i s Q hi ho hQ=>by
  unfold setNext;refine zTx (wpAny_setState_of ho hS.data hS.fits ?_);dsimp only;refine zTx (zBz ?_);rw [hT,zUH rfl,zUK (by simp)];refine zTx ?_;unfold setWalk;refine zTx (wpAny_setState_of ho hS.data hS.fits ?_);dsimp only;refine zTx (zBz ?_);rw [hT,zUH rfl];refine zTx (wpAny_askSetting (zTz ?_));refine zTz ?_;have e:(Option.map (fun (e:Int × Value)=>(e.2,0)) (pickOrder (w.params.setOrder a ep) es)[i]?) = Option.map (fun x=>(x,0)) ((pickOrder (w.params.setOrder a ep) es).toList.map (·.2))[i]?:=by
   rw [zUP,zVh];cases (pickOrder (w.params.setOrder a ep) es)[i]? <;> rfl
  show Q (Option.map (fun (e:Int × Value)=>(e.2,0)) (pickOrder (w.params.setOrder a ep) es)[i]?) s;rw [e]; exact hQ
def zJv (t:SetTable):Nat -> Nat
 | 0=>0
 | i + 1=>t.place.getD i 0 + 1
theorem zNJ {t:SetTable} (h:Up t.place) {i:Nat} (hi:i <= t.place.size):SetTable.below t.place (zJv t i) = i:=by
 cases i with
 | zero=>exact zJp h
 | succ i=>
  show SetTable.below t.place (t.place.getD i 0 + 1) = i + 1;have hl:i < t.place.size:=by omega
  have e:t.place.getD i 0 = t.place[i]:=by simp [Array.getD,hl]
  rw [e]; exact zJX h hl
theorem zLw (hS:SetK knd o es ep t ks):t.place.size = es.size:=by
 have:=hS.fits;simp only [SetTable.fits,zUc,beq_iff_eq] at this;exact this.1
theorem zIl (hS:SetK knd o es ep t ks) (hT:w.params.followText "set-order" = false) (hd:(!t.plain && decide (es.size > 1)) = false):Nexts prog w o a ep ks.length (zJv t) (es.toList.map (·.2)) where
 len:=by rw [zUB,zUl,hS.size]
 nx:=fun A E i s Q hi ho hQ=>by
  have hz:=zLw hS;unfold setNext;refine zTx (wpAny_setState_of ho hS.data hS.fits ?_);dsimp only;refine zTx (zBz ?_);rw [hT,zUK (by decide)];show wpAny _ _ (if (!t.plain && decide (es.size > 1)) = true then _ else _) _ _ _;rw [zUK (by rw [hd]; decide)];have hl:t.led = true:=by rw [hS.tab.led,hT]; rfl
  refine zTx ?_;show wpAny _ _ (if (!t.led && !es.isEmpty) = true then unsupported "set:maker-not-led" else pure ()) _ _ _;rw [zUK (by rw [hl]; simp)];refine zTz ?_;rw [zNJ hS.tab.up (by rw [hz,hS.size]; exact hi)];refine zTz ?_;rw [zUP,zVh] at hQ;by_cases q:i < es.size
  ·have q2:i < t.place.size:=by rw [hz]; exact q
   rw [zUn q,zUn q2];rw [zUn q] at hQ;have e:zJv t (i + 1) = t.place[i] + 1:=by
    show t.place.getD i 0 + 1 = _;simp [Array.getD,q2]
   simp only [Option.map] at hQ;rw [e] at hQ;exact hQ
  ·have:i = es.size:=by rw [hS.size] at q ⊢; omega
   rw [Array.getElem?_eq_none (by omega)] at hQ ⊢;exact hQ
theorem zM6 {Q:Value -> Shared -> Prop} (ho:s.heap.get? a = some o) (hS:SetK knd o es ep t ks)
  (h:∀ (h':Heap) (d:Drawn) (I:Addr) (fp:List Addr) (ord:List Value) (St:Nat -> Heap -> Prop),(∀ b u,s.heap.get? b = some u -> h'.get? b = some u) -> s.heap.objs.size <= I -> (∀ b ∈ fp,b < h'.objs.size /\ (b = a \/ s.heap.objs.size <= b)) ->
   (∀ A:Around,A.handled = none -> Walks prog w A I fp [I] ks.length (fun i v=>ord[i]? = some v) St) -> St 0 h' -> ord.Perm (es.toList.map (·.2)) -> Q (.ref I) { s with heap:=h',drawn:=d }) :
  wpAny (model prog w) A (pyIter (.ref a)) Q E s:=by
 have hT:=hS.typeIs ho;have hal:a < s.heap.objs.size:=zUD ho;refine wpAny_pyIter_slot hT F.slot_set_iter (zUf F.slot_set_iter hT zFm ?_ (F.args_set_iter_1 _));unfold Builtin.«frozenset.__iter__» Builtin.Frozenset.slot0 slotArgs Builtin.Frozenset.addrOf Builtin.Frozenset.sizeOf;simp only [List.isEmpty_nil,Bool.not_true,zU3,↓reduceIte,zVW,bne_self_eq_false,pure_bind,bind_assoc];refine zTx (wpAny_setEntries_of ho hS.data hS.fits ?_);unfold setDrawn;simp only [bind_assoc];refine zTx (wpAny_setState_of ho hS.data hS.fits ?_);dsimp only;refine zTx (zBz ?_);simp only [pure_bind];have hsz:=hS.size;have plain:∀ (at_:Nat -> Nat) (ord:List Value),at_ 0 = 0 -> Nexts prog w o a ep ks.length at_ ord -> ord.Perm (es.toList.map (·.2)) -> Q (.ref s.heap.objs.size) { s with heap:=s.heap.push (zAr (rawInt 0) 0 a ks.length ep) }:=by
  intro at_ ord h0 N hp;have e:s.heap.push (zAr (rawInt 0) 0 a ks.length ep) = s.heap.push (zAr (rawInt 0) 0 a ks.length ep):=rfl
  have:=h (s.heap.push (zAr (rawInt 0) 0 a ks.length ep)) s.drawn s.heap.objs.size [s.heap.objs.size,a] ord (fun i h=>h.get? s.heap.objs.size = some (zAr (rawInt (at_ i)) i a ks.length ep) /\ h.get? a = some o)
   (fun b u e=>zTy _ e) (zT8 _) (fun b hb=>by
    rw [zUi];rcases zUE.mp hb with z | z
    ·rw [z]; exact ⟨zUz _,.inr (zT8 _)⟩
    ·rw [zUU.mp z]; exact ⟨zUr hal,.inl rfl⟩)
   (fun A hh=>zIS hh (zUN hal) N hS) ⟨by rw [h0]; exact zUC _ rfl,zTy _ ho⟩ hp
  exact this
 have mk:∀ (s1:Shared) (f:Value) (hv:s1.heap.get? a = some o) {Q':Fin -> Shared -> Prop},Q' (.done (.ret (.ref s1.heap.objs.size))) { s1 with heap:=s1.heap.push (zAr f 0 a ks.length ep) } -> wpAny (model prog w) A.in1 (do
   let e <- setEpoch a;let r <- newFields "set_iterator" [f,rawInt 0,Value.ref a,rawInt es.size,rawInt e];ret r) Q' E s1:=by
  intro s1 f hv Q' hq;refine zTx (wpAny_setEpoch_of hv hS.data hS.fits ?_);unfold newFields;refine zTx (zUV (zTz ?_));rw [hsz]; exact hq
 have ty:∀ (s1:Shared) (f:Value),(∃ T' r,Shared.TypeIs { s1 with heap:=s1.heap.push (zAr f 0 a ks.length ep) } (.ref s1.heap.objs.size) T' /\ typeLookup (Value.type T') (Str.ofString "__next__") = pure (some r) /\ True):=fun s1 f=>⟨"set_iterator", _,⟨_,zUC _ rfl,rfl⟩,zq.lookup,trivial⟩;show wpAny _ _ (if (!w.params.followText "set-order" && (!t.plain && decide (es.size > 1))) = true then _ else _) _ _ _;by_cases hc:(!w.params.followText "set-order" && (!t.plain && decide (es.size > 1))) = true
 ·rw [zUH hc];refine zTx (zCa _ _ (by simp) fun pl d hp=>?_);refine zTx ?_;unfold newTuple;have hpl:pl.length = ks.length:=by rw [hp.length_eq,List.length_range,hsz]
  refine zUV ?_ (by
   show (List.map (fun (i:Nat)=>rawInt i) pl).toArray.size <= sizeLine;rw [zUA,zUB,hpl,<- hsz]; exact fits_of_scanBound hS.bound)
  generalize hH:s.heap.push { cls:=.type "tuple", data:=.seq (List.map (fun (i:Nat)=>rawInt i) pl).toArray } = H;have kH:∀ b u,s.heap.get? b = some u -> H.get? b = some u:=fun b u e=>by rw [<- hH]; exact zTy _ e
  have hT1:IsTup H s.heap.objs.size (pl.map fun (k:Nat)=>rawInt k).toArray:=⟨_,by rw [<- hH]; exact zUC _ rfl,rfl,0,rfl⟩;have szH:H.objs.size = s.heap.objs.size + 1:=by rw [<- hH]; exact zUi ..
  have szlt:s.heap.objs.size < H.objs.size:=by rw [szH]; exact zUz _
  have alt:a < H.objs.size:=Nat.lt_trans hal szlt;refine mk { s with heap:=H,drawn:=d } (.ref s.heap.objs.size) (kH _ _ ho) ?_;obtain ⟨T',r,e1,e2,_⟩:=ty { s with heap:=H,drawn:=d } (.ref s.heap.objs.size);refine ⟨_,rfl,T',r,e1,e2,?_⟩;have kH2:∀ b u,s.heap.get? b = some u -> (H.push (zAr (.ref s.heap.objs.size) 0 a ks.length ep)).get? b = some u:=fun b u e=>zTy _ (kH b u e);refine h _ d H.objs.size [H.objs.size,a,s.heap.objs.size] (pl.map fun k=>((es[k]?).map (·.2)).getD .none) (fun i h=>h.get? H.objs.size = some (zAr (.ref s.heap.objs.size) i a ks.length ep) /\ h.get? a = some o /\ IsTup h s.heap.objs.size (pl.map fun (k:Nat)=>rawInt k).toArray) kH2 (by rw [szH]; exact Nat.le_succ _) (fun b hb=>?_) (fun A hh=>?_) ⟨zUC _ rfl,kH2 a o ho,?_⟩ ?_
  ·rw [zUi];simp only [zUE,zUX,or_false] at hb;rcases hb with z | z | z
   ·rw [z]; exact ⟨zUz _,.inr (zWy szlt)⟩
   ·rw [z]; exact ⟨zUr alt,.inl rfl⟩
   ·rw [z]; exact ⟨zUr szlt,.inr (zT8 _)⟩
  ·have hb:∀ k ∈ pl,k < es.size:=fun k hk=>by have:=hp.mem_iff.mp hk; simpa using this
   refine zLg (zIg hh (a:=a) (I:=H.objs.size) (T:=s.heap.objs.size) (zUN alt) (zUN szlt) hS hpl hb) fun i v hv=>?_;rw [zUP];cases q:pl[i]? with
   | none=>rw [q] at hv; cases hv
   | some k=>
    rw [q] at hv;simp only [Option.bind_some] at hv;rw [Option.map_some,hv]; rfl
  ·exact hT1.push _
  ·have e:es.toList.map (·.2) = (List.range es.size).map fun k=>((es[k]?).map (·.2)).getD .none:=by
    apply List.ext_getElem?;intro i;rw [zUP,zUP,zVh];by_cases q:i < es.size
    ·rw [List.getElem?_range q,zUn q]; simp [q]
    ·rw [Array.getElem?_eq_none (by omega),zVB (by simp; omega)]; rfl
   rw [e];exact hp.map _
 ·rw [zUK hc];refine mk s (rawInt 0) ho ?_;obtain ⟨T',r,e1,e2,_⟩:=ty s (rawInt 0);refine ⟨_,rfl,T',r,e1,e2,?_⟩;cases hX:w.params.followText "set-order" with
  | true=>exact plain _ _ rfl (zKZ hS hX) ((zCp _ es).map _)
  | false=>
   rw [hX] at hc;exact plain _ _ rfl (zIl hS hX (by simpa using hc)) (.refl _)
end
open Sem (wp)
section
variable {prog:Program} {w:World} {A:Around} {E:Value -> Shared -> Prop} {s:Shared}
variable {K:Type} [DecidableEq K] {knd:KeyKind prog w K} {o:Obj} {es:Array (Int × Value)} {ep:Nat} {t:SetTable} {ks:List K} {a I:Addr}
theorem zM1:isSubtype (.type "set") (.type "set") = pure true:=sub_set_self
theorem zMR {Q:Bool -> Shared -> Prop} (hT:s.TypeIs (.ref a) "set") (h:Q false s):wpAny (model prog w) A (Builtin.List.listLengthHint (.ref a)) Q E s:=by
 unfold Builtin.List.listLengthHint;refine zTx (wpAny_specialOf hT F.slot_set_len.lookup ?_);have hsp:splitId "set.__len__" = some ("set", "__len__"):=by decide +kernel
 dsimp only;rw [hsp];dsimp only;refine zTx (wpAny_isInstance hT zM1 ?_);rw [zUK (by decide),zUH (by decide +kernel)];refine zTx (wpAny_typeOf hT ?_);exact zTz h
theorem zIJ {Q:List Value -> Shared -> Prop} (hh:A.handled = none) (ho:s.heap.get? a = some o) (hS:SetK knd o es ep t ks)
  (hQ:∀ (s':Shared) (acc:List Value),(∀ b u,s.heap.get? b = some u -> s'.heap.get? b = some u) -> s'.os = s.os -> s'.gens = s.gens -> acc.Perm (es.toList.map (·.2)) -> Q acc s'):wpAny (model prog w) A (collect (.ref a)) Q E s:=by
 have hal:a < s.heap.objs.size:=zUD ho;have hn:ks.length <= sizeLine:=by rw [<- hS.size]; exact fits_of_scanBound hS.bound
 unfold collect;refine zTx (wpAny_runValue (zU7 F.entry_proto_collect ?_));rw [zUx F.plain_proto_collect _];show wpAny _ A.in1 (newList [] >>= fun l=>again (.builtin "list.__iadd__" ⟨[l,.ref a],[]⟩)) _ _ s;refine zTx (zUV (zTz ⟨plainId_quiet F.plain_list_iadd _,zU7 F.entry_list_iadd ?_⟩));rw [zUx F.plain_list_iadd _];generalize hH:s.heap.push { cls:=.type "list", data:=.seq ([]:List Value).toArray } = H;have kH:∀ b u,s.heap.get? b = some u -> H.get? b = some u:=fun b u e=>by rw [<- hH]; exact zTy _ e
 have szH:H.objs.size = s.heap.objs.size + 1:=by rw [<- hH]; exact zUi ..
 have hL1:H.get? s.heap.objs.size = some { cls:=.type "list", data:=.seq ([]:List Value).toArray }:=by rw [<- hH]; exact zUC _ rfl
 have ho1:=kH a o ho;show wpAny _ A.in1 (Builtin.List.listExtendWith (.ref s.heap.objs.size) (.ref a) (.ref s.heap.objs.size)) _ _ { s with heap:=H };unfold Builtin.List.listExtendWith;have hT1:Shared.TypeIs { s with heap:=H } (.ref a) "set" := ⟨o,ho1,hS.ex.1⟩;refine zTx (wpAny_typeOf hT1 ?_);have hneL:s.heap.objs.size ≠ a:=zVX hal;have h1:Builtin.List.listSameRef (.ref s.heap.objs.size) (.ref a) = false:=by simp [Builtin.List.listSameRef,hneL]
 have h2:(Value.type "set" == Value.type "list") = false:=by decide
 have h3:(Value.type "set" == Value.type "tuple") = false:=by decide
 simp only [h1,h2,h3,Bool.or_false,zU3,if_false];refine zTx (zM6 (s:={ s with heap:=H }) ho1 hS fun h2 d I fp ord St k2 hI2 hfp W st0 hp=>?_);have ho2:=k2 a o ho1;refine zTx (zUv (zMR (s:={ s with heap:=h2,drawn:=d }) ⟨o,ho2,hS.ex.1⟩ ?_));rw [zUH (by decide +kernel)];refine zTx (zVP (zTx ?_));show wpAny _ A.in1 (updateSeq s.heap.objs.size (·.push .none) >>= fun _=>updateSeq s.heap.objs.size (·.pop)) _ _ _;have hL2:=k2 _ _ hL1;refine zTx (wpAny_updateSeq (s:={ s with heap:=h2,drawn:=d }) hL2 rfl ?_);have hS2:=zUp (Obj.mapSeq (·.push Value.none)) hL2 rfl;refine wpAny_updateSeq hS2 rfl ?_;have hS3:=zUp (Obj.mapSeq (·.pop)) hS2 rfl;generalize hH3:(h2.update s.heap.objs.size (Obj.mapSeq (·.push Value.none))).update s.heap.objs.size (Obj.mapSeq (·.pop)) = H3 at hS3;have oth:∀ b u,b ≠ s.heap.objs.size -> h2.get? b = some u -> H3.get? b = some u:=fun b u hb e=>by
  rw [<- hH3]; exact (zUj _ _ (Ne.symm hb)).trans ((zUj _ _ (Ne.symm hb)).trans e)
 have hSf:s.heap.objs.size ∉ fp:=fun hm=>by
  rcases (hfp _ hm).2 with z | z
  ·exact hneL z
  ·have z':H.objs.size <= s.heap.objs.size:=z;rw [szH] at z'; exact absurd z' (Nat.not_succ_le_self _)
 have WS:=(W A.in1.in1 hh).toS;have st3:St 0 H3:=(W A.in1.in1 hh).frame 0 _ _ st0 fun b hb u e=>oth b u (fun z=>hSf (z ▸ hb)) e;have hI3:I ≠ s.heap.objs.size:=fun z=>by
  have z':H.objs.size <= I:=hI2;rw [szH,z] at z'; exact absurd z' (Nat.not_succ_le_self _)
 refine zTz ⟨plainId_quiet F.plain_extend_loop _,codeAny_extend_loopS (A:=A) (WalksS.of_in1 WS) hn _ hSf _ ks.length 0 { s with heap:=H3,drawn:=d } _ _ rfl (zUo _) st3 hS3 (ItemsOf.nil _) fun s' acc' c' hm hS' hacc=>?_⟩;show wpAny _ A (load s.heap.objs.size >>= _) _ _ s';refine zTx (wpAny_load hS' (zTz (hQ s' _ (fun b u e=>hm.heap b u (fun q=>?_) (oth b u (fun z=>zUk _ (z ▸ zUD e)) (k2 b u (kH b u e)))) hm.os hm.gens ?_)))
 ·rcases zUE.mp q with z | z
  ·exact zUk _ (z ▸ zUD e)
  ·have z':H.objs.size <= I:=hI2;rw [<- zUU.mp z,szH] at z';exact zUk _ (Nat.lt_trans (zUR (zUz _) z') (zUD e))
 ·have e:acc'.toList = ord:=by
   have hl:ord.length = ks.length:=by rw [hp.length_eq,zUB,zUl,hS.size]
   apply List.ext_getElem?;intro i;rw [zVh];by_cases q:i < ks.length
   ·have q':i < acc'.size:=by rw [hacc.1]; exact q
    rw [zUn q'];exact (hacc.2 i _ (zUn q')).symm
   ·rw [Array.getElem?_eq_none (by rw [hacc.1]; omega),zVB (by omega)]
  rw [e]; exact hp
end
end ST
namespace L2
open PySem PySem.Spec PyProof.Rows ST
section
variable {prog:Program} {w:World} {A:Around} {R:Result -> Shared -> Prop} {s:Shared}
theorem zCf {elt target iter ifs rest scope pos it acc env}
  (h0:codeAny (model prog w) A (.compLoop (.SetComp elt (⟨target,iter,ifs,0⟩ :: rest) scope pos) 0 it acc env) R s)
  (h:wpAny (model prog w) A (pyIter it) (fun it' s'=>codeAny (model prog w) A (.compLoop (.SetComp elt (⟨target,iter,ifs,0⟩ :: rest) scope pos) 0 it' acc env) R s')
   (notedBy (model prog w) A env fun x s'=>R (.error x) s') s) :
  codeAny (model prog w) A (.compStart (.SetComp elt (⟨target,iter,ifs,0⟩ :: rest) scope pos) 0 it acc env) R s:=by
 refine codeAny_of_tree ?_;show wpAny _ _ ((compStart (.SetComp elt (⟨target,iter,ifs,0⟩ :: rest) scope pos) 0 it acc env).onRaise (fun x=>do noteFrame x env; standAt theWindowsPlace)) _ _ s;refine wpAny_notedAt ?_;unfold compStart;show wpAny _ _ (ask >>= _) _ _ s;refine zTx (wpAny_askSetting (wpAny_ite ?_));split
 ·first
   | exact zTx (zTz (zTz (And.intro rfl h0)))
   | exact zTz (And.intro rfl h0)
 ·first
   | exact zTx (zVP (zTx (wpAny_standAt (zTx (zUY h (fun it' s' h'=>zTz (And.intro rfl h')) fun _ _ x=>x)))))
   | (refine zTx (zVP ?_); show wpAny _ _ (standAt iter.pos >>= _) _ _ s; exact zTx (wpAny_standAt (zTx (zUY h (fun it' s' h'=>zTz (And.intro rfl h')) fun _ _ x=>x))))
end
section
variable {X:Cx} {zB:List (Addr × Obj)} {σ:St} {H:Hp} {s:Shared} {scope:Scope} {cl:List (Str × Addr)} {fp:List Addr} {it:Addr} {tn:Nat -> Heap -> Prop} {J:It} {tg elt iter:Expr} {ifs:List Expr} {pos:Pos}
 {own:List Nat} {g:TG} {tc:TT} {te:TE} {E:Value -> Shared -> Prop}
theorem zKB {prog:Program} {w:World} {o:Obj} {es:Array (Int × Value)} {ep:Nat} {t:SetTable} {ks:List Int} (h:SetK (intKind prog w) o es ep t ks):∀ v,o.data ≠ .cell v:=fun v z=>by rw [h.data] at z; cases z
theorem zFp (C:CompIn X scope own) (hcalm:X.calm = true) (I:Inv X zB σ H s) (T:Turn X.prog X.w X.K tg J fp it tn) (st:tn 0 s.heap) (hf:∀ b ∈ fp,zCh X zB H b)
  (c1:∀ x c,cl.lookup x = some c -> X.env.cells.lookup x = some c) (c2:∀ y ∈ scope.names,y.2 = .free -> (cl.lookup y.1).isSome = true)
  (hg:PG (zf X zB scope cl s H fp) tg g) (hi:zMj (zf X zB scope cl s H fp) ifs tc) (he:PE (zf X zB scope cl s H fp) elt te)
  {RR:Value -> Addr -> Result -> Shared -> Prop} {QQ:List Int -> Hp -> Prop} {W:Nat -> Nat -> List Int -> Hp -> Prop} {m0:Nat} (w0:W 0 m0 [] H)
  (turn:∀ i m ys H,W i m ys H -> (J.stop i H /\ QQ ys H) \/
   (J.go i H /\ ∀ x H',J.yld i H x H' -> g x (clr own σ) H' fun σ2 H2=>Ext (clr own σ) σ2 /\ tc σ2 H2 fun b H3=>
    if b = true then te σ2 H3 fun v H4=>∃ k,v = .int k /\ ys.length + 1 < scanBound /\ ∃ m',m' < m /\ W (i + 1) m' (ins ys k) H4 else ∃ m',m' < m /\ W (i + 1) m' ys H3))
  (fin:∀ σc H' s' o es ep t ys,Inv (zf X zB scope cl s H fp) [(s.heap.objs.size,o)] σc H' s' -> SetK (intKind X.prog X.w) o es ep t ys -> QQ ys H' -> RR (.ref s.heap.objs.size) (s.heap.objs.size + 1) (.ok .next) s') :
  wpAny (model X.prog X.w) X.A (newSet (.type "set")) (fun acc s₃=>wpAny (model X.prog X.w) X.A (newFunctionEnv scope X.env.globals cl [] X.env.qual none .none (some X.env)) (fun cenv s₄=>
   codeAny (model X.prog X.w) X.A (.compStart (.SetComp elt [⟨tg,iter,ifs,0⟩] scope pos) 0 (.ref it) acc { cenv with scope:=relabel scope X.env }) (RR acc cenv.locals) s₄) E s₃) E s:=by
 have ob:∀ b:Nat,b ∈ fp -> b < s.heap.objs.size:=fun b hb=>let ⟨_,e,_⟩:=T.obj 0 _ st b hb; zUD e;refine zMU (zEu ?_);have sz1:(s.heap.push (zBR X.w)).objs.size = s.heap.objs.size + 1:=zUi ..;have I4:=zI5 (X:=X) (zB:=zB) (σ:=σ) (σc:=clr own σ) (H:=H) (s:=s) (scope:=scope) (cl:=cl) (fp:=fp) C.sc I hf ob c1 c2 (zDR own σ) (fun i x v h1 h2 h3=>by
  obtain ⟨a,b⟩:=zFG own σ i v h2;rcases C.nm i x h1 with z | z | z
  ·exact absurd z b
  ·exact absurd (zEG x z) h3
  ·exact ⟨z,a⟩) (zBR X.w) (by intro v z; cases z) rfl rfl
 have st4:tn 0 (pushCells ((s.heap.push (zBR X.w)).push { cls:=.type "dict", data:=.dict #[] }) scope.names):=T.keep 0 _ _ st fun b _ o e=>pushCells_keeps _ _ b o (zTy _ (zTy _ e));dsimp only;unfold newEnv;dsimp only;rw [sz1];have hDfp:s.heap.objs.size ∉ fp:=fun z=>zUk _ (ob _ z);have hcD:∀ x c,(zf X zB scope cl s H fp).env.cells.lookup x = some c -> c ≠ s.heap.objs.size:=fun x c e z=>by
  obtain ⟨v,o,ho,hd⟩:=I4.cell x c e;obtain ⟨q,_⟩:=I4.pin (s.heap.objs.size,zBR X.w) (by simp);rw [z,q] at ho;cases ho; cases hd
 have fpk:∀ {H':Hp} {pl:List (Addr × Obj)},(∀ b ∈ fp,H' b = none) -> (∀ p ∈ pl,p.1 = s.heap.objs.size) -> ∀ b ∈ fp,zCh (zf X zB scope cl s H fp) pl H' b:=fun {H' pl} hn hp b hb=>
  ⟨hn b hb,(I4.ok.exf b hb).1,I4.ok.exfs b hb,.inl hb,(I4.ok.exf b hb).2,fun p hq=>by
   rcases zUS.mp hq with z | z
   ·exact (hf b hb).2.2.2.2.2 p z
   ·intro e;have e2:=hp p z;rw [e] at e2;exact hDfp (e2 ▸ hb)⟩
 have loop:codeAny (model X.prog X.w) X.A (.compLoop (.SetComp elt [⟨tg,iter,ifs,0⟩] scope pos) 0 (.ref it) (.ref s.heap.objs.size) (zf X zB scope cl s H fp).env) (RR (.ref s.heap.objs.size) (s.heap.objs.size + 1))
   { s with heap:=pushCells ((s.heap.push (zBR X.w)).push { cls:=.type "dict", data:=.dict #[] }) scope.names }:=by
  refine zHr (fun n s'=>∃ i H' ys o es ep t,Inv (zf X zB scope cl s H fp) [(s.heap.objs.size,o)] (clr own σ) H' s' /\ SetK (intKind X.prog X.w) o es ep t ys /\ tn i s'.heap /\ (∀ b ∈ fp,H' b = none) /\ W i n ys H') ?_ m0
   ⟨0,H,[],zBR X.w,_,_,_,I4,.fresh,st4,fun b hb=>(hf b hb).1,w0⟩
  rintro n s5 ⟨i,H5,ys,o,es,ep,t,I5,r5,st5,f5,w5⟩;have pinD:∀ p ∈ [(s.heap.objs.size,o)],p.1 = s.heap.objs.size:=fun p hp=>by
   have:p = (s.heap.objs.size,o):=by simpa using hp
   rw [this]
  rcases turn i n ys H5 w5 with ⟨stop,qq⟩ | ⟨go,step⟩
  ·refine thn (T.done (zf X zB scope cl s H fp) rfl rfl rfl hcalm i _ s5 _ H5 _ I5 (fpk f5 pinD) st5 stop) fun r s6 ⟨hr,I6⟩=>?_;subst hr;exact fin _ H5 s6 o es ep t ys I6 r5 qq
  ·refine thn (T.item (zf X zB scope cl s H fp) rfl rfl rfl hcalm i _ s5 _ H5 _ I5 (fpk f5 pinD) st5 go) fun r s6 ⟨u,hr,h6⟩=>?_;subst hr;refine thn h6 fun _ s7 ⟨x,H7,I7,r7,y7,st7,f7⟩=>?_;have I7':=I7.pinned (fpk f7 pinD) (T.obj _ _ st7);refine thn (hg _ s7 _ H7 x u _ I7' r7 (step x H7 y7)) fun _ s8 ⟨σ8,H8,I8,x8,q8⟩=>?_;refine thn (hi _ s8 σ8 H8 _ I8 q8) fun ok s9 ⟨H9,I9,q9⟩=>?_;have back:∀ {s':Shared} {Hx:Hp},Inv (zf X zB scope cl s H fp) ([(s.heap.objs.size,o)] ++ zEL fp s7.heap) σ8 Hx s' -> tn (i + 1) s'.heap /\ ∀ b ∈ fp,Hx b = none:=fun {s' Hx} Ix=>
    ⟨T.keep _ _ _ st7 fun b hb o e=>(Ix.pin (b,o) (zUM _ (zUM _ (zBD hb e)))).1,fun b hb=>by
     obtain ⟨o,e,d⟩:=T.obj _ _ st7 b hb;exact (Ix.pin (b,o) (zUM _ (zUM _ (zBD hb e)))).2.1⟩
   cases ok with
   | false=>
    obtain ⟨m',hm,w'⟩:=q9;obtain ⟨b1,b2⟩:=back I9;exact ⟨m',hm,i + 1,H9,ys,o,es,ep,t,(I9.weak (by rw [x8.1]) x8.2).unpinned,r5,b1,b2,w'⟩
   | true=>
    refine thn (he _ s9 σ8 H9 _ I9 q9) fun v s10 ⟨y,H10,I10,r10,k,hk,hlt,m',hm,w'⟩=>?_;subst hk;obtain ⟨b1,b2⟩:=back I10;have J10:=(I10.weak (by rw [x8.1]) x8.2).unpinned;obtain ⟨e10,n10,ne10,nf10,d10⟩:=J10.pin (s.heap.objs.size,o) (by simp);obtain ⟨tk,hv⟩:∃ tk,v = .int k tk:=r10;subst hv;refine zM8 (knd:=intKind X.prog X.w) (intKind_is _ _ _ _) rfl e10 r5 hlt fun h' o' es' ep' t' hs' e' S'=>?_;refine ⟨m',hm,i + 1,H10,ins ys k,o',es',ep',t',?_,S',T.keep _ _ _ b1 fun b hb o e=>hs'.extBut b o (fun z=>hDfp (z ▸ hb)) e,b2,w'⟩;refine (Inv.repin (pl:=[]) J10 (fun p hp=>?_) hs' (zT8 _) hcD e' (zKB S')).tok _;rw [zUm] at hp;have hp':p ∈ X.pn ++ zB:=hp;exact zUN (zUD (I.pin p hp').1)
 exact zCf loop (T.self _ 0 _ _ _ st4 loop)
theorem zHW {σc:St} {H':Hp} {s':Shared} {h':Heap} {oD:Obj} (I:Inv X zB σ H s) (hf:∀ b ∈ fp,zCh X zB H b)
  (Ic:Inv (zf X zB scope cl s H fp) [(s.heap.objs.size,oD)] σc H' s') (hs:Heap.SameBut (s.heap.objs.size + 1) s'.heap h') :
  Inv X zB σ H' { s' with heap:=h' } /\ h'.get? s.heap.objs.size = some oD:=by
 obtain ⟨eD,nD,_⟩:=Ic.pin (s.heap.objs.size,oD) (by simp);have nC:H' (s.heap.objs.size + 1) = none:=Ic.free;have eD':h'.get? s.heap.objs.size = some oD:=hs.extBut _ _ (zUN (zUz _)) eD;have lt1:∀ {b:Addr} {o:Obj},s.heap.get? b = some o -> b ≠ s.heap.objs.size + 1:=fun e=>zUN (zUr (zUD e));have tr:∀ b u,H' b = some u -> b ≠ s.heap.objs.size + 1:=fun b u e z=>by rw [z,nC] at e; cases e
 refine ⟨?_,eD'⟩;have B:=Ic.base;have un:Un (frs X.stack) fp H H' s.heap h':=by
  refine ⟨fun b o e q hb hx=>hs.extBut b o (lt1 e) (B.keep b o e q hb hx),fun b o e q hb hx=>?_,fun b o e q hx=>B.free b o e q hx,fun b o e hx=>?_,fun b xs e=>B.tups b xs e,fun b o xs e=>B.frzs b o xs e,fun b ps e=>B.tbls b ps e⟩
  ·obtain ⟨sl,e1⟩:=B.slot b o e q hb hx;exact ⟨sl,hs.extBut b _ (lt1 e) e1⟩
  ·obtain ⟨o',e1⟩:=B.there b o e hx;exact ⟨o',hs.extBut b _ (lt1 e) e1⟩
 have hok:HOk X.prog X.w H' h':=fun b u e=>by
  refine (Ic.hok b u e).stay (fun c v hc q=>hs.extBut c v ?_ q) (fun c q=>q) fun c xs q=>q;rcases hc with z | z
  ·rw [z]; exact tr b u e
  ·exact tr c _ z
 exact I.call' (s':={ s' with heap:=h' }) (ch:=fp) Ic.os un hok Ic.bare fun b hb=>⟨(hf b hb).2.2.2.1,(hf b hb).2.1,(hf b hb).2.2.2.2.1,(hf b hb).2.2.2.2.2⟩
end
abbrev TZ:=St -> Hp -> (List Int -> Hp -> Prop) -> Prop
def PZ (X:Cx) (e:Expr) (t:TZ):Prop:=∀ (zB:List (Addr × Obj)) (s:Shared) (σ:St) (H:Hp) (Q:List Int -> Hp -> Prop),Inv X zB σ H s -> t σ H Q ->
 wpAny (model X.prog X.w) X.A (eval e X.env) (fun v s'=>∃ a o es ep tb ks H',v = .ref a /\ s'.heap.get? a = some o /\ SetK (intKind X.prog X.w) o es ep tb ks /\ Inv X zB σ H' s' /\ Q ks H') X.xe s
def zIY (own:List Nat) (wi:TI) (g:TG) (tc:TT) (te:TE):TZ:=fun σ H Q=>wi σ H fun J H1=>∃ W:Nat -> Nat -> List Int -> Hp -> Prop,(∃ m,W 0 m [] H1) /\ ∀ i m ys H,W i m ys H ->
 (J.stop i H /\ Q ys H) \/
 (J.go i H /\ ∀ x H',J.yld i H x H' -> g x (clr own σ) H' fun σ2 H2=>Ext (clr own σ) σ2 /\ tc σ2 H2 fun b H3=>
  if b = true then te σ2 H3 fun v H4=>∃ k,v = .int k /\ ys.length + 1 < scanBound /\ ∃ m',m' < m /\ W (i + 1) m' (ins ys k) H4 else ∃ m',m' < m /\ W (i + 1) m' ys H3)
section
variable {X:Cx} {scope:Scope} {tg elt iter:Expr} {ifs:List Expr} {pos:Pos} {own:List Nat} {wi:TI} {g:TG} {tc:TT} {te:TE}
theorem zO9 (C:CompIn X scope own) (hcalm:X.calm = true) (hi:PI X tg iter wi) (p:CompParts X scope tg ifs elt g tc te) (hs:∀ x,foldedSetIterable iter X.env x = pure x:=by intro _; rfl) :
  PZ X (.SetComp elt [⟨tg,iter,ifs,0⟩] scope pos) (zIY own wi g tc te):=by
 intro zB s σ H Q I h;obtain ⟨cl,hcl,c1,c2⟩:=C.sc.closure I;rw [arm_eval_SetComp];refine wpAny_comprehension_free (use:=none) rfl hs hcl C.sc.kind C.sc.names (thn (hi zB s σ H _ I h) fun v s1 h1=>thn h1 fun itv s2 h2=>?_);obtain ⟨it,fp,tn,J,H2,e,I2,T,st2,f2,W,⟨m0,w0⟩,turn⟩:=h2;subst e;refine zFp C hcalm I2 T st2 f2 c1 c2 (p.g _ _ _ _ _) (p.c _ _ _ _ _) (p.e _ _ _ _ _) (RR:=fun acc C r s'=>compPost (model X.prog X.w) X.A X.xe none (fun v s'=>∃ a o es ep tb ks H',v = .ref a /\ s'.heap.get? a = some o /\ SetK (intKind X.prog X.w) o es ep tb ks /\ Inv X zB σ H' s' /\ Q ks H') acc C r s') (QQ:=Q) w0 turn ?_;intro σc H' s' o es ep t ys Ic rv qq;obtain ⟨m,hn,_⟩:=Ic.loc;refine ⟨m,hn,fun h' hs'=>?_⟩;obtain ⟨J',eD⟩:=zHW I2 f2 Ic hs';exact ⟨_,o,es,ep,t,ys,H',rfl,eD,rv,J',qq⟩
end
end L2
namespace ST
open PySem PySem.Spec PyProof.Rows
open Sem (wp)
section
variable {prog:Program} {w:World} {A:Around} {E:Value -> Shared -> Prop} {s:Shared}
variable {K:Type} [DecidableEq K] {knd:KeyKind prog w K}
def zAo (ks:List K):List K:=ks.foldl ins []
theorem zIG (ks:List K) (k:K):zAo (ks ++ [k]) = ins (zAo ks) k:=by unfold zAo; rw [List.foldl_append]; rfl
theorem zP2 (ks:List K) (k:K):(ins ks k).length <= ks.length + 1:=by unfold ins; split <;> simp
theorem zFg (ks:List K):(zAo ks).length <= ks.length:=by
 have:∀ (l acc:List K),(l.foldl ins acc).length <= acc.length + l.length:=by
  intro l;induction l with
  | nil=>intro acc; simp
  | cons x r ih=>intro acc; have:=ih (ins acc x); have:=zP2 acc x; simp only [List.foldl_cons,zUZ]; omega
 simpa [zAo] using this ks []
theorem zOj (ks:List K) (k x:K):x ∈ ins ks k ↔ x ∈ ks \/ x = k:=by
 unfold ins;split
 ·rename_i h; constructor
  ·exact .inl
  ·rintro (z | z)
   ·exact z
   ·rw [z]; exact h
 ·simp
theorem zJd (ks:List K) (x:K):x ∈ zAo ks ↔ x ∈ ks:=by
  have:∀ (l acc:List K),x ∈ l.foldl ins acc ↔ x ∈ acc \/ x ∈ l:=by
    intro l;induction l with
    | nil=>intro acc; simp
    | cons y r ih=>intro acc; rw [List.foldl_cons,ih,zOj,zUE]; simp [or_assoc]
  simpa [zAo] using this ks []
theorem zLu {ks : List K} (h : ks.Nodup) (k : K) : (ins ks k).Nodup := by
  unfold ins;split
  · exact h
  · rename_i q
    rw [zVG]
    exact ⟨h, by simp, fun a ha b hb z => by have : b = k := by simpa using hb
                                             subst this; subst z; exact q ha⟩
theorem zHu (ks:List K):(zAo ks).Nodup:=by
 have:∀ (l acc:List K),acc.Nodup -> (l.foldl ins acc).Nodup:=by
  intro l;induction l with
  | nil=>intro acc h; exact h
  | cons y r ih=>intro acc h; exact ih _ (zLu h y)
 exact this ks [] (by simp)
variable {R:Result -> Shared -> Prop} {I:Addr} {fp wr:List Addr} {G:Array GenState -> Array GenState -> Prop} {n:Nat} {P:Nat -> Value -> Prop} {St:Nat -> Shared -> Prop}
end
def zA0 (ks:List Int):List Int:=ks.mergeSort fun a b=>decide (a <= b)
theorem zAx (ks:List Int):(zA0 ks).Perm ks:=List.mergeSort_perm _ _
theorem zDk (ks:List Int):(zA0 ks).Pairwise (· <= ·):=by
 have:=List.pairwise_mergeSort (le:=fun (a b:Int)=>decide (a <= b)) (fun a b c h1 h2=>by simp at h1 h2 ⊢; omega) (fun a b=>by simp; omega) ks;exact this.imp fun h=>by simpa using h
theorem zHA:∀ {xs ys:List Int},xs.Perm ys -> xs.Pairwise (· <= ·) -> ys.Pairwise (· <= ·) -> xs = ys
 | [],ys,p,_,_=>by have:=p.length_eq; simp at this; rw [zV4.mp this.symm]
 | x :: xs,[],p,_,_=>by have:=p.length_eq; simp at this
 | x :: xs,y :: ys,p,h1,h2=>by
  have hx:=zWC.mp h1;have hy:=zWC.mp h2;have e:x = y:=by
   have a:x ∈ y :: ys:=p.mem_iff.mp zUG;have b:y ∈ x :: xs:=p.mem_iff.mpr zUG;rcases zUE.mp a with z | z
   ·exact z
   ·rcases zUE.mp b with q | q
    ·exact q.symm
    ·exact Int.le_antisymm (hx.1 y q) (hy.1 x z)
  subst e;rw [zHA (p.cons_inv) hx.2 hy.2]
theorem zId {xs ys:List Int} (p:xs.Perm ys) (h:xs.Pairwise (· <= ·)):xs = zA0 ys:=zHA (p.trans (zAx ys).symm) h (zDk ys)
section
variable {prog:Program} {w:World} {A:Around} {E:Value -> Shared -> Prop} {s:Shared}
theorem zGD {v:Value} {Q:Value -> Shared -> Prop}
  (hc:wpAny (model prog w) A.in1 (collect v) (fun vs s1=>∃ ns,IntsAre vs ns /\ vs.length < 64 /\ ∀ (h':Heap) (out:List Value) (n:Nat),(∀ b u,s1.heap.get? b = some u -> h'.get? b = some u) -> h'.get? s1.heap.objs.size = some (seqObj "list" out.toArray n) -> IntsAre out (zA0 ns) -> Q (.ref s1.heap.objs.size) { s1 with heap:=h' }) E s) :
  wpAny (model prog w) A (call (.builtin "sorted") [v]) Q E s:=by
 refine Calls.call_function_entry kind_sorted plain_sorted entry_sorted (args_sorted1 _) ?_;unfold Builtin.«sorted»;refine zTx (m:=checkCount "sorted" 1 1 _) (zTz ?_);refine zTx (zUY hc (fun vs s1 h1=>?_) fun _ _ h'=>h');obtain ⟨ns,hI,h64,h⟩:=h1;refine zTx (wpAny_newList ?_ (by rw [sizeLine_eq]; omega));have hoL:(s1.heap.push (seqObj "list" vs.toArray 0)).get? s1.heap.objs.size = some (seqObj "list" vs.toArray 0):=zUC _ rfl;refine zTx (zUv (zUf slot_list_sort ⟨_,hoL,rfl⟩ entry_list_sort (list_sort_tree (s:={ s1 with heap:=s1.heap.push (seqObj "list" vs.toArray 0) }) hoL hI h64 fun out ns' a1 a2 a3=>⟨_,rfl,?_⟩) (args_list_sort _)));refine zTz ⟨_,rfl,?_⟩;have g1:=get?_update_seq hoL (fun _=> #[]);have g2:(((s1.heap.push (seqObj "list" vs.toArray 0)).update s1.heap.objs.size (Obj.mapSeq fun _=> #[])).push (seqObj "tuple" vs.toArray 0)).get? s1.heap.objs.size = _:=zTy _ g1;have g3:=zTy (seqObj "list" #[] 0) g2;have g4:=get?_update_seq g3 (fun _=>out);have eS:=zId a2 a3;subst eS;refine h _ out.toList _ (fun b u e=>?_) (by rw [Array.toArray_toList]; exact g4) a1;have hb:s1.heap.objs.size ≠ b:=fun z=>zUk _ (z ▸ zUD e);exact (zUj _ _ hb).trans (zTy _ (zTy _ ((zUj _ _ hb).trans (zTy _ e))))
theorem zLj {es:List (Int × Value)} {ks:List Int} (h:F2 (zRj (intKind prog w)) es ks):IntsAre (es.map (·.2)) ks:=by
 induction h with
 | nil=>exact .nil
 | cons h _ ih=>
  obtain ⟨⟨h1,_⟩,_⟩:=h;obtain ⟨t,e⟩:=Value.isInt_shape h1;rw [zUL,e];exact .cons _ _ ih
theorem zMi {us:List Value} {vs:List Value} (p:us.Perm vs):∀ {ks:List Int},IntsAre vs ks -> ∃ ks',ks'.Perm ks /\ IntsAre us ks':=by
 have p':=p.symm;clear p;induction p' with
 | nil=>intro ks h; exact ⟨ks,.refl _,h⟩
 | cons x _ ih=>
  intro ks h;cases h with
  | cons n t r=>
   obtain ⟨ys',q1,q2⟩:=ih r;exact ⟨_,q1.cons _,.cons _ _ q2⟩
 | swap x y l=>
  intro ks h;cases h with
  | cons n t r=>
   cases r with
   | cons n2 t2 r=>exact ⟨_,List.Perm.swap _ _ _,.cons _ _ (.cons _ _ r)⟩
 | trans _ _ ih1 ih2=>
  intro ks h;obtain ⟨ys',q1,q2⟩:=ih1 h;obtain ⟨ys'',r1,r2⟩:=ih2 q2;exact ⟨ys'',r1.trans q1,r2⟩
theorem zIB {xs ys:List Int} (p:xs.Perm ys):zA0 xs = zA0 ys:=zId ((zAx xs).trans p) (zDk xs)
theorem zKc {o:Obj} {es:Array (Int × Value)} {ep:Nat} {t:SetTable} {ks:List Int} {a:Addr} {Q:Value -> Shared -> Prop} (hh:A.handled = none) (ho:s.heap.get? a = some o) (hS:SetK (intKind prog w) o es ep t ks) (h64:ks.length < 64)
  (h:∀ (s1:Shared) (h':Heap) (out:List Value) (n:Nat),(∀ b u,s.heap.get? b = some u -> s1.heap.get? b = some u) -> s1.os = s.os -> s1.gens = s.gens -> (∀ b u,s1.heap.get? b = some u -> h'.get? b = some u) -> h'.get? s1.heap.objs.size = some (seqObj "list" out.toArray n) -> IntsAre out (zA0 ks) -> Q (.ref s1.heap.objs.size) { s1 with heap:=h' }) :
  wpAny (model prog w) A (call (.builtin "sorted") [.ref a]) Q E s:=by
 refine zGD (zIJ (A:=A.in1) hh ho hS fun s' acc k1 k2 k3 hp=>?_);obtain ⟨ks',p,f⟩:=hS.ent;obtain ⟨ks2,p2,f2⟩:=zMi hp (zLj f);refine ⟨ks2,f2,?_,fun h' out n e1 e2 e3=>?_⟩
 ·rw [hp.length_eq,zUB,zUl,hS.size]; exact h64
 ·rw [zIB (p2.trans p)] at e3;exact h s' h' out n k1 k2 k3 e1 e2 e3
theorem zEo {ty:String} {l:Addr} {vs:List Value} {Q:List Value -> Shared -> Prop} (hty:ty = "list" \/ ty = "tuple") (hl:∃ ol,s.heap.get? l = some ol /\ ol.cls = .type ty /\ ∃ nl,ol.data = .seq vs.toArray nl)
  (h:Q vs { s with heap:=(s.heap.push (seqObj "list" #[] 0)).update s.heap.objs.size (Obj.mapSeq (· ++ vs.toArray)) }) (hsz:vs.length <= sizeLine) :
  wpAny (model prog w) A (collect (.ref l)) Q E s:=by
 obtain ⟨o,ho,hc,n,hd⟩:=id hl;unfold collect;refine zTx (wpAny_runValue (zU7 entry_proto_collect' ?_));show wpAny _ _ (do again (.builtin "list.__iadd__" ⟨[<- newList [],.ref l],[]⟩)) _ _ s;refine zTx (wpAny_newList (zTz ⟨Code.quiet_builtin _ (by decide +kernel),zU7 entry_list_iadd' ?_⟩));show wpAny _ _ (Builtin.List.listExtendWith (.ref s.heap.objs.size) (.ref l) (.ref s.heap.objs.size)) _ _ { s with heap:=s.heap.push (seqObj "list" #[] 0) };unfold Builtin.List.listExtendWith;have ho':(s.heap.push (seqObj "list" #[] 0)).get? l = some o:=zTy _ ho;refine zTx (wpAny_typeOf (T:=ty) ⟨o,ho',hc⟩ ?_);have ht:(Value.type ty == Value.type "list" || Value.type ty == Value.type "tuple") = true:=by rcases hty with rfl | rfl <;> decide
 rw [zUH (by rw [Bool.or_assoc,ht]; simp)];refine zTx (listItems_at ho' hd ?_);refine zTx (listItems_at (xs:=#[]) (n:=0) (zUC _ rfl) rfl ?_);rw [zUK (by simp)];refine zTx (listUpdate_at (xs:=#[]) (n:=0) (zUC _ rfl) rfl ?_ (zUo _) (by show (#[] ++ vs.toArray).size <= sizeLine + 1; simp only [Array.size_append,zUA,zVW]; omega));refine zTz ?_
 show wpAny (model prog w) A (do
   let o <- load s.heap.objs.size;match o.data with
   | .seq xs _=>pure xs.toList
   | _=>unsupported "internal:collect") Q E { s with heap:=(s.heap.push (seqObj "list" #[] 0)).update s.heap.objs.size (Obj.mapSeq (· ++ vs.toArray)) }
 refine zTx (wpAny_load (get?_update_seq (zUC _ rfl) _) ?_);show wpAny _ _ (pure ((#[]:Array Value) ++ vs.toArray).toList) Q E _;rw [show ((#[]:Array Value) ++ vs.toArray).toList = vs by simp];exact zTz h
theorem zJe {ty:String} {l:Addr} {vs:List Value} {ns:List Int} {Q:Value -> Shared -> Prop} (hty:ty = "list" \/ ty = "tuple") (hl:∃ ol,s.heap.get? l = some ol /\ ol.cls = .type ty /\ ∃ nl,ol.data = .seq vs.toArray nl) (hI:IntsAre vs ns) (h64:vs.length < 64)
  (h:∀ (h1 h':Heap) (out:List Value) (n:Nat),(∀ b u,s.heap.get? b = some u -> h1.get? b = some u) -> (∀ b u,h1.get? b = some u -> h'.get? b = some u) -> h'.get? h1.objs.size = some (seqObj "list" out.toArray n) -> IntsAre out (zA0 ns) -> Q (.ref h1.objs.size) { s with heap:=h' }) :
  wpAny (model prog w) A (call (.builtin "sorted") [.ref l]) Q E s:=by
 refine zGD (zEo hty hl ⟨ns,hI,h64,fun h' out n e1 e2 e3=>h _ h' out n (fun b u e=>?_) e1 e2 e3⟩ (by rw [sizeLine_eq]; omega));have hb:s.heap.objs.size ≠ b:=fun z=>zUk _ (z ▸ zUD e);exact (zUj _ _ hb).trans (zTy _ e)
end
end ST
namespace L2
open PySem PySem.Spec PyProof.Rows ST
section
variable {X:Cx} {e:Expr} {p pos:Pos} {zB:List (Addr × Obj)} {σ:St} {H:Hp} {s:Shared}
theorem Inv.kept' {s1:Shared} (I:Inv X zB σ H s) (k:∀ b u,s.heap.get? b = some u -> s1.heap.get? b = some u) (ho:s1.os = s.os) (hg:s1.gens = s.gens):Inv X zB σ H s1 :=
 I.call' (ch:=[]) ho (Un.kept k) (I.hok.kept k) (by rw [hg]; exact I.bare) fun b hb=>nomatch hb
theorem zDb:∀ {ns:List Int} {us:List Value},IntsAre us ns -> zU (ns.map V.int) us
 | _,_,.nil=> .nil
 | _,_,.cons n t h=> .cons ⟨t,rfl⟩ (zDb h)
theorem zFL:∀ {ns:List Int} {us:List Value},zU (ns.map V.int) us -> IntsAre us ns
 | [],_,.nil=> .nil
 | n :: ns,_,.cons r h=>by obtain ⟨t,rfl⟩:=r; exact .cons n t (zFL h)
theorem zIM (ks:List Int):(zA0 ks).length = ks.length:=(zAx ks).length_eq
theorem zMw {t:TZ} (hc:X.calm = true) (hg:Gl X "sorted") (hm:X.mg "sorted" = none) (ha:PZ X e t) (hs:starEach [e] X.env = (false,eval e X.env) :: starEach [] X.env:=by rfl) (hpl:(backTo pos (starEach [] X.env)).any (·.1) = false:=by rfl) :
  PE X (.Call (.Name "sorted" p) [e] [] pos) (fun σ H Q=>t σ H fun ks H1=>ks.length < 64 /\ ∀ q,H1 q = none -> Q (.ref q) (upd H1 q (.lst ((zA0 ks).map V.int)))):=by
 intro zB s σ H Q I h;refine wpAny_Call_Name_kw (zEk I hg hm (by rfl) ?_ (by decide) (by decide));refine callWith_builtin1 ?_ hs hpl;rw [hs];show wpAny _ _ (spliced ((false,eval e X.env) :: backTo pos (starEach [] X.env))) _ _ s;refine Calls.spliced_cons (thn (ha zB s σ H _ I h) fun u s1 ⟨a,o,es,ep,tb,ks,H1,hv,ho,hS,I1,h64,q⟩=>Calls.spliced_nil ?_);subst hv;refine zKc (I1.ok.hd hc) ho hS h64 fun s2 h' out n k1 k2 k3 k4 e4 i4=>?_;have I2:Inv X zB σ H1 s2:=I1.kept' k1 k2 k3;have hf:H1 s2.heap.objs.size = none:=I2.hok.fresh (zT8 _);refine ⟨.ref s2.heap.objs.size,upd H1 s2.heap.objs.size (.lst ((zA0 ks).map V.int)),I2.laid (t':=s2.toks) k4 (zT8 _) ⟨by rw [zUB,zIM,sizeLine_eq]; omega,out,n,zDb i4,e4⟩,rfl,q _ hf⟩
theorem zIH:zBa X (.builtin "sorted") (fun xs H Q=>∃ a ns,xs = [.ref a] /\ (SqL X.K H a (ns.map V.int) \/ SqT X.K H a (ns.map V.int)) /\ ns.length < 64 /\ ∀ q,H q = none -> Q (.ref q) (upd H q (.lst ((zA0 ns).map V.int)))):=by
 intro zB s σ H xs us Q I r h;obtain ⟨a,ns,rfl,hq,h64,q⟩:=h;obtain ⟨u,rfl,rfl⟩:∃ u,us = [u] /\ u = .ref a:=by
  cases r with
  | cons r1 r2=>cases r2; exact ⟨_,rfl,r1⟩
 have key:∃ (ty:String) (its:List Value),(ty = "list" \/ ty = "tuple") /\ (∃ ol,s.heap.get? a = some ol /\ ol.cls = .type ty /\ ∃ nl,ol.data = .seq its.toArray nl) /\ zU (ns.map V.int) its:=by
  rcases hq with hq | hq
  ·obtain ⟨its,rv,⟨ol,nl,e1,e2,_,e3⟩,_⟩:=I.list hq;exact ⟨"list", its,.inl rfl,⟨ol,e1,e2,nl,e3⟩,rv⟩
  ·obtain ⟨its,rv,⟨ol,e1,e2,nl,e3⟩,_⟩:=I.tuple hq;exact ⟨"tuple", its,.inr rfl,⟨ol,e1,e2,nl,e3⟩,rv⟩
 obtain ⟨ty,its,hty,hl,rv⟩:=key;refine zJe hty hl (zFL rv) (by rw [<- rv.length,zUB]; exact h64) fun h1 h' out n k1 k4 e4 i4=>?_;have I2:Inv X zB σ H { s with heap:=h1 }:=I.kept (t':=s.toks) k1;have hf:H h1.objs.size = none:=I2.hok.fresh (zT8 _);exact ⟨.ref h1.objs.size,upd H h1.objs.size (.lst ((zA0 ns).map V.int)),I2.laid (t':=s.toks) k4 (zT8 _) ⟨by rw [zUB,zIM,sizeLine_eq]; omega,out,n,zDb i4,e4⟩,rfl,q _ hf⟩
end
end L2
namespace L3
open PySem PySem.Spec PyProof.Rows L2 ST
abbrev FZ:=Sd -> Mem -> Option (List Int × Mem)
def trZ (K:PySem.W.Frag) (f:FZ):TZ:=fun τ H Q=>∃ L σ M ks M',Cor K L M H /\ zAs L H σ τ /\ f σ M = some (ks,M') /\ ∀ L' H',Stp L H L' H' -> Cor K L' M' H' -> Q ks H'
structure QZ (X:Cx) (e:Expr) (f:FZ):Prop where
 un:PZ X e (trZ X.K f)
theorem PZ.imp {X:Cx} {e:Expr} {t t':TZ} (h:PZ X e t) (hi:∀ τ H Q,t' τ H Q -> t τ H Q):PZ X e t':=fun zB s σ H Q I q=>h zB s σ H Q I (hi _ _ _ q)
noncomputable def zG8 (own:List Nat) (fi:FI) (g:FG) (tc:FT) (te:FE):FZ:=fun σ M=>match zAQ own fi g tc te σ M with
 | some (.fl ys,M2)=>match zAB ys with
  | some ks=>if ks.length + 1 < scanBound then some (zAo ks,M2) else none
  | none=>none
 | _=>none
theorem zFe:∀ {as bs:List D} {zs:List Int},zAB (as ++ bs) = some zs -> ∃ xs ys,zAB as = some xs /\ zAB bs = some ys /\ zs = xs ++ ys
 | [],bs,zs,h=>⟨[],zs,rfl,h,rfl⟩
 | a :: as,bs,zs,h=>by
  cases a with
  | int i=>
   rw [List.cons_append] at h;unfold zAB at h;split at h
   ·rename_i us e;cases h;obtain ⟨xs,ys,e1,e2,e3⟩:=zFe e;refine ⟨i :: xs,ys,?_,e2,by rw [e3]; rfl⟩;unfold zAB; rw [e1]
   ·cases h
  | _=>cases h
theorem zJN {as:List D} {xs:List Int} {i:Int} (h:zAB as = some xs):zAB (as ++ [.int i]) = some (xs ++ [i]):=by
 induction as generalizing xs with
 | nil=>cases h; rfl
 | cons a as ih=>
  cases a with
  | int j=>
   unfold zAB at h;split at h
   ·rename_i us e; cases h;rw [List.cons_append]; unfold zAB; rw [ih e]; rfl
   ·cases h
  | _=>cases h
theorem zLq {K:PySem.W.Frag} {own:List Nat} {fi:FI} {g:TG} {fg:FG} {tc:FT} {te:FE} (hg:zJm own g fg) {τ:Sv} {H:Hp} {Q:List Int -> Hp -> Prop} (h:trZ K (zG8 own fi fg tc te) τ H Q):zIY own (trI K fi) g (trT K tc) (trD K (toD te)) τ H Q:=by
 obtain ⟨L,σ,M,d,Mf,c,rs,hf,q⟩:=h;unfold zG8 zAQ at hf;cases e1:fi σ M with
 | none=>rw [e1] at hf; cases hf
 | some r=>
  obtain ⟨xs,gd,M1⟩:=r;rw [e1] at hf;dsimp only at hf;by_cases hz:xs.length <= sizeLine
  ·rw [zUH hz] at hf;cases e2:zBk fg tc te (zGW own σ) xs gd xs M1 with
   | none=>rw [e2] at hf; cases hf
   | some r=>
    obtain ⟨zs,M2⟩:=r;rw [e2] at hf;dsimp only at hf;split at hf
    ·rename_i kz ez;split at hf
     ·rename_i hb;cases hf;refine ⟨L,σ,M,_,_,_,c,rs,e1,fun L1 H1 J s1 c1 it=>?_⟩
      refine ⟨fun i m ys H'=>m = xs.length - i /\ i <= xs.length /\ ∃ L' M' as bs ka,Stp L1 H1 L' H' /\ Cor K L' M' H' /\ zAB as = some ka /\ ys = zAo ka /\ zBk fg tc te (zGW own σ) xs gd (xs.drop i) M' = some (bs,Mf) /\ as ++ bs = zs,
       ⟨xs.length,by simp,zUo _,L1,M1,[],zs,[],.refl _ _,c1,rfl,rfl,by simpa using e2,rfl⟩,?_⟩
      rintro i m ys H' ⟨rfl,hi,L',M',as,bs,ka,s',c',r',hl,e',hab⟩;by_cases hlt:i < xs.length
      ·rw [zEc hlt] at e';unfold zBk at e';split at e'
       ·rename_i hgd;obtain ⟨step,_⟩:=it L' H' M' s' c' hgd;obtain ⟨go,yl⟩:=step i xs[i] (zT6 hlt);split at e'
        ·rename_i σ1 eg;refine .inr ⟨go,fun v H2 hy=>?_⟩;obtain ⟨gr,rv⟩:=yl v H2 hy;have s2:Stp L1 H1 L' H2:=s'.yld gr;refine hg (zHw own ((rs.stp s1).stp s2)) (.refl _) rv eg fun τ2 r2 x2=>⟨x2,?_⟩;split at e'
         ·rename_i M3 e3;split at e'
          ·rename_i d M4 e4;split at e'
           ·rename_i ds M5 e5;cases e';refine ⟨L',σ1,M',_,_,c'.grow gr,r2,e3,fun L3 H3 s3 c3=>zJT ?_⟩;refine ⟨L3,σ1,M3,_,_,c3,r2.stp s3,e4,fun L4 H4 w s4 c4 r4=>?_⟩;have st:Stp L' H' L4 H4:=((Stp.grow gr).trans s3).trans s4;have ez':=ez;rw [<- hab] at ez';obtain ⟨x1,y1,g1,g2,g3⟩:=zFe ez';obtain ⟨k,hk⟩:∃ k,d = .int k:=by
             cases d with
             | int k=>exact ⟨k,rfl⟩
             | _=>cases g2
            subst hk;have ew:w = .int k:=by unfold Rep at r4; exact r4
            have hka:ka.length <= kz.length:=by
             rw [r'] at g1; cases g1;rw [g3,zUI]; omega
            refine ⟨k,ew,?_,xs.length - (i + 1),by omega,rfl,hlt,L4,M4,as ++ [.int k],ds,ka ++ [k],s'.trans st,c4,zJN r',by rw [hl,zIG],e5,by rw [<- hab]; simp⟩;rw [hl];have:=zFg ka;omega
           ·cases e'
          ·cases e'
         ·rename_i M3 e3;refine ⟨L',σ1,M',_,_,c'.grow gr,r2,e3,fun L3 H3 s3 c3=>zKI ?_⟩;have st:Stp L' H' L3 H3:=(Stp.grow gr).trans s3;exact ⟨xs.length - (i + 1),by omega,rfl,hlt,L3,M3,as,bs,ka,s'.trans st,c3,r',hl,e',hab⟩
         ·cases e'
        ·cases e'
       ·cases e'
      ·have hi':i = xs.length:=by omega
       subst hi';rw [List.drop_length] at e';unfold zBk at e';split at e'
       ·rename_i hgd;cases e';obtain ⟨_,stop⟩:=it L' H' _ s' c' hgd;rw [zUm] at hab;subst hab;rw [r'] at ez; cases ez;refine .inl ⟨stop,?_⟩;rw [hl];exact q L' H' (s1.trans s') c'
       ·cases e'
     ·cases hf
    ·cases hf
  ·rw [zUK hz] at hf; cases hf
section
variable {X:Cx} {scope:Scope} {tg elt iter:Expr} {ifs:List Expr} {pos p:Pos} {own:List Nat} {e:Expr} {f:FE}
theorem zR4 {fi:FI} {g:TG} {fg:FG} {tc:FT} {te:FE} (hg:zJm own g fg) (C:CompIn X scope own) (hcalm:X.calm = true) (hi:QI X tg iter fi) (p:QParts X scope tg ifs elt g tc te) (hs:∀ x,foldedSetIterable iter X.env x = pure x:=by intro _; rfl) :
  QZ X (.SetComp elt [⟨tg,iter,ifs,0⟩] scope pos) (zG8 own fi fg tc te) :=
 .mk <| PZ.imp (zO9 C hcalm hi.un p.parts hs) fun _ _ _ h=>zLq hg h
def zFc (f:FZ):FE:=fun σ M=>match f σ M with
 | some (ks,M1)=>if ks.length < 64 then some (.fl ((zA0 ks).map D.int),M1) else none
 | none=>none
theorem zES {L:List Addr} {H:Hp}:∀ (ns:List Int),zH L H (ns.map D.int) (ns.map V.int)
 | []=> .nil
 | n :: ns=> .cons zAX (zES ns)
theorem zOp {fz:FZ} (hc:X.calm = true) (hg:Gl X "sorted") (hm:X.mg "sorted" = none) (h:QZ X e fz) (hs:starEach [e] X.env = (false,eval e X.env) :: starEach [] X.env:=by rfl) (hpl:(backTo pos (starEach [] X.env)).any (·.1) = false:=by rfl) :
  QE X (.Call (.Name "sorted" p) [e] [] pos) (zFc fz):=.mk <| PE.imp (zMw hc hg hm h.un hs hpl) fun τ H Q zz=>by
 obtain ⟨L,σ,M,d,M',c,rs,hf,q⟩:=zz;unfold zFc at hf;split at hf
 ·rename_i ks M1 e1;split at hf
  ·rename_i hb;cases hf;refine ⟨L,σ,M,_,_,c,rs,e1,fun L1 H1 s1 c1=>⟨hb,fun p hp=>?_⟩⟩;exact q L1 _ _ (s1.trans (.upd hp)) (c1.upd hp) (zS.newLst s1 c c1 hp (zES _))
  ·cases hf
 ·cases hf
def zC4:KB:=fun xs M=>match xs with
 | [x]=>match zAf M x with
  | some ds=>match zAB ds with
   | some ks=>if ks.length < 64 then some (.fl ((zA0 ks).map D.int),M) else none
   | none=>none
  | none=>none
 | _=>none
theorem zS.newLst' {L:List Addr} {H:Hp} {K:PySem.W.Frag} {M:List MO} {p:Addr} {ds:List D} {vs:List V} (c:Cor K L M H) (hp:H p = none) (r:zH L H ds vs):zS H L (upd H p (.lst vs)) (.fl ds) (.ref p):=zS.newLst (.refl L H) c c hp r
theorem zJZ:zEy X.K (fun xs H Q=>∃ a ns,xs = [.ref a] /\ (SqL X.K H a (ns.map V.int) \/ SqT X.K H a (ns.map V.int)) /\ ns.length < 64 /\ ∀ q,H q = none -> Q (.ref q) (upd H q (.lst ((zA0 ns).map V.int)))) zC4:=by
 intro L M M' H H0 xs d vs Q c r hk q;unfold zC4 at hk;split at hk
 ·rename_i x;split at hk
  ·rename_i ys e1;split at hk
   ·rename_i ks e2;split at hk
    ·rename_i hb;cases hk;obtain ⟨v,rfl,r1⟩:=r.one;obtain ⟨a,ws,rfl,hs,r2⟩:=zC3 c r1 e1;have:=zCJ e2 r2;subst this;exact ⟨a,ks,rfl,hs,hb,fun p hp=>q L _ _ (.upd hp) (c.upd hp) (zS.newLst' c hp (zES _))⟩
    ·cases hk
   ·cases hk
  ·cases hk
 ·cases hk
theorem zN0 {fa:FAE} (hg:Gl X "sorted") (hm:X.mg "sorted" = none) (ha:QAE X [e] fa) (he:starEach [e] X.env = (false,eval e X.env) :: starEach [] X.env:=by rfl) (hpl:(backTo pos (starEach [] X.env)).any (·.1) = false:=by rfl):QE X (.Call (.Name "sorted" p) [e] [] pos) (fB zC4 fa) :=
 zC7 zJZ zIH (by rfl) hg hm ha (by decide) (by decide) he hpl
end
open AutoSeq1 (wpAny_loadPart')
section
variable {κ:Type} [DecidableEq κ]
def zCc (kf:D -> Option κ) (kvs:List (D × D)) (k:κ):Option D:=(kvs.find? fun p=>decide (kf p.1 = some k)).map (·.2)
def zJG (kf:D -> Option κ) (kvs:List (D × D)) (k:κ) (kd v:D):List (D × D) :=
 if (kvs.any fun p=>decide (kf p.1 = some k)) = true then kvs.map fun p=>if kf p.1 = some k then (p.1,v) else p else kvs ++ [(kd,v)]
theorem zCi {kf:D -> Option κ} {L:List Addr} {H:Hp} (k:κ):∀ {kvs:List (D × D)} {vs:List (κ × V)},zAD kf L H kvs vs -> (zCc kf kvs k = none /\ zCe vs k = none) \/ ∃ d v,zCc kf kvs k = some d /\ zCe vs k = some v /\ Rep L H d v
 | [],vs,h=>by unfold zAD at h; subst h; exact .inl ⟨rfl,rfl⟩
 | p :: r,vs,h=>by
  obtain ⟨k',v,r',rfl,e,h1,h2⟩:=h;by_cases q:k' = k
  ·subst q;exact .inr ⟨p.2,v,by unfold zCc; rw [zVo,e]; simp,by rw [zDz rfl],h1⟩
  ·have e1:zCc kf (p :: r) k = zCc kf r k:=by unfold zCc; rw [zVo,e]; simp [q]
   rw [e1,zDl q];exact zCi k h2
theorem zJE {kf:D -> Option κ} {L:List Addr} {H:Hp} (k:κ):∀ {kvs:List (D × D)} {vs:List (κ × V)},zAD kf L H kvs vs -> (kvs.any fun p=>decide (kf p.1 = some k)) = (vs.any fun kv=>decide (kv.1 = k))
 | [],vs,h=>by unfold zAD at h; subst h; rfl
 | p :: r,vs,h=>by
  obtain ⟨k',v,r',rfl,e,h1,h2⟩:=h;rw [List.any_cons,List.any_cons,zJE k h2,e];simp
theorem zFV {kf:D -> Option κ} {L:List Addr} {H:Hp} (k:κ) {d:D} {u:V} (hd:Rep L H d u):∀ {kvs:List (D × D)} {vs:List (κ × V)},zAD kf L H kvs vs -> zAD kf L H (kvs.map fun p=>if kf p.1 = some k then (p.1,d) else p) (vs.map fun kv=>if kv.1 = k then (kv.1,u) else kv)
 | [],vs,h=>by unfold zAD at h; subst h; rfl
 | p :: r,vs,h=>by
  obtain ⟨k',v,r',rfl,e,h1,h2⟩:=h;rw [zUL,zUL];by_cases q:k' = k
  ·subst q;rw [zUH e,zUH rfl];exact ⟨k',u,_,rfl,e,hd,zFV k' hd h2⟩
  ·rw [zUK (by rw [e]; simpa using q),zUK q];exact ⟨k',v,_,rfl,e,h1,zFV k hd h2⟩
theorem zGv {kf:D -> Option κ} {L:List Addr} {H:Hp} {k:κ} {kd d:D} {u:V} (hk:kf kd = some k) (hd:Rep L H d u):∀ {kvs:List (D × D)} {vs:List (κ × V)},zAD kf L H kvs vs -> zAD kf L H (kvs ++ [(kd,d)]) (vs ++ [(k,u)])
 | [],vs,h=>by unfold zAD at h; subst h; exact ⟨k,u,[],rfl,hk,hd,rfl⟩
 | p :: r,vs,h=>by
  obtain ⟨k',v,r',rfl,e,h1,h2⟩:=h;exact ⟨k',v,_,rfl,e,h1,zGv hk hd h2⟩
theorem zKp {kf:D -> Option κ} {L:List Addr} {H:Hp} {k:κ} {kd d:D} {u:V} (hk:kf kd = some k) (hd:Rep L H d u) {kvs:List (D × D)} {vs:List (κ × V)} (h:zAD kf L H kvs vs):zAD kf L H (zJG kf kvs k kd d) (zBe vs k u):=by
 unfold zJG zBe;rw [zJE k h];split
 ·exact zFV k hd h
 ·exact zGv hk hd h
end
theorem zIt {L:List Addr} {H:Hp}:∀ {ds:List D} {vs:List V} {ks:List Key},zH L H ds vs -> zCE ds = some ks -> vs = ks.map kV
 | [],vs,ks,h,e=>by cases e; unfold zH at h; exact h
 | d :: ds,vs,ks,h,e=>by
  unfold zH at h;obtain ⟨v,r,rfl,h1,h2⟩:=h;unfold zCE at e;cases e1:zCY d with
  | none=>rw [e1] at e; cases e
  | some k=>
   cases e2:zCE ds with
   | none=>rw [e1,e2] at e; cases e
   | some ks'=>
    rw [e1,e2] at e; cases e;rw [zFC h1 e1,zIt h2 e2]; rfl
theorem zJ7 {L:List Addr} {H:Hp} {d:D} {v:V} {ks:List Key} (h:Rep L H d v) (e:tkD d = some ks):∃ b,v = .ref b /\ H b = some (.tup (ks.map kV)):=by
 cases d with
 | tup ds=>
  unfold Rep at h;obtain ⟨a,vs,rfl,e1,r⟩:=h;exact ⟨a,rfl,by rw [e1,zIt r e]⟩
 | _=>cases e
def zFP (M:Mem) (x:EV) (k:D):Option (Option D):=match x with
 | .dat (.ref n)=>match M[n]? with
  | some (.dict kvs)=>match zCY k with
   | some kk=>some (zCc zCY kvs kk)
   | none=>none
  | some (.dicT kvs)=>match tkD k with
   | some kk=>some (zCc tkD kvs kk)
   | none=>none
  | some (.froK kvs)=>match zCY k with
   | some kk=>some (zCc zCY kvs kk)
   | none=>none
  | some (.froT kvs)=>match tkD k with
   | some kk=>some (zCc tkD kvs kk)
   | none=>none
  | _=>none
 | _=>none
def zS0 (L:List Addr) (H:Hp):Option D -> Option V -> Prop
 | none,o=>o = none
 | some d,o=>∃ v,o = some v /\ Rep L H d v
theorem zIK {K:PySem.W.Frag} {L:List Addr} {M:Mem} {H H0:Hp} {x:EV} {v w:V} {k:D} {o:Option D} (c:Cor K L M H) (rx:zS H0 L H x v) (rk:Rep L H k w) (e:zFP M x k = some o):∃ a ov,v = .ref a /\ zDx H a w ov /\ zS0 L H o ov:=by
 cases x with
 | fl xs=>cases e
 | dat d=>
  cases d with
  | ref n=>
   unfold zS Rep at rx;obtain ⟨a,rfl,ea⟩:=rx;unfold zFP at e;dsimp only at e;cases q:M[n]? with
   | none=>rw [q] at e; cases e
   | some m=>
    rw [q] at e;have z:=c.obj n a m ea q;cases m with
    | dict kvs=>
     dsimp only at e;cases e2:zCY k with
     | none=>rw [e2] at e; cases e
     | some kk=>
      rw [e2] at e;cases e;obtain ⟨vs,e3,r⟩:=z;refine ⟨a,zCe vs kk,rfl,?_,?_⟩
      ·rw [zFC rk e2]; exact zDx.k e3
      ·rcases zCi kk r with ⟨h1,h2⟩ | ⟨d,v,h1,h2,h3⟩
       ·rw [h1,h2]; rfl
       ·rw [h1,h2]; exact ⟨v,rfl,h3⟩
    | dicT kvs=>
     dsimp only at e;cases e2:tkD k with
     | none=>rw [e2] at e; cases e
     | some kk=>
      rw [e2] at e;cases e;obtain ⟨vs,e3,r⟩:=z;obtain ⟨b,rfl,eb⟩:=zJ7 rk e2;refine ⟨a,zCe vs kk,rfl,zDx.t e3 eb,?_⟩;rcases zCi kk r with ⟨h1,h2⟩ | ⟨d,v,h1,h2,h3⟩
      ·rw [h1,h2]; rfl
      ·rw [h1,h2]; exact ⟨v,rfl,h3⟩
    | froK kvs=>
     dsimp only at e;cases e2:zCY k with
     | none=>rw [e2] at e; cases e
     | some kk=>
      rw [e2] at e;cases e;obtain ⟨ob,vs,e3,r⟩:=z;refine ⟨a,zCe vs kk,rfl,.inl ⟨vs,kk,.inr ⟨ob,e3⟩,zFC rk e2,rfl⟩,?_⟩;rcases zCi kk r with ⟨h1,h2⟩ | ⟨d,v,h1,h2,h3⟩
      ·rw [h1,h2]; rfl
      ·rw [h1,h2]; exact ⟨v,rfl,h3⟩
    | froT kvs=>
     dsimp only at e;cases e2:tkD k with
     | none=>rw [e2] at e; cases e
     | some kk=>
      rw [e2] at e;cases e;obtain ⟨ob,vs,e3,r⟩:=z;obtain ⟨b,rfl,eb⟩:=zJ7 rk e2;refine ⟨a,zCe vs kk,rfl,.inr ⟨vs,kk,b,.inr ⟨ob,e3⟩,rfl,eb,rfl⟩,?_⟩;rcases zCi kk r with ⟨h1,h2⟩ | ⟨d,v,h1,h2,h3⟩
      ·rw [h1,h2]; rfl
      ·rw [h1,h2]; exact ⟨v,rfl,h3⟩
    | _=>cases e
  | _=>cases e
def zCq (M:Mem) (n:Nat) (k v:D):Option Mem:=match M[n]? with
 | some (.dict kvs)=>match zCY k with
  | some kk=>if kvs.length < sizeLine then some (M.set n (.dict (zJG zCY kvs kk k v))) else none
  | none=>none
 | some (.dicT kvs)=>match tkD k with
  | some kk=>if kvs.length < sizeLine then some (M.set n (.dicT (zJG tkD kvs kk k v))) else none
  | none=>none
 | _=>none
theorem zIq {K:PySem.W.Frag} {L:List Addr} {M M':Mem} {H:Hp} {n:Nat} {a:Addr} {k v:D} {w u:V} (c:Cor K L M H) (ea:L[n]? = some a) (rk:Rep L H k w) (rv:Rep L H v u) (e:zCq M n k v = some M'):∃ H',zEz H a w u H' /\ Cor K L M' H' /\ Stp L H L H':=by
 unfold zCq at e;cases q:M[n]? with
 | none=>rw [q] at e; cases e
 | some m=>
  rw [q] at e;have z:=c.obj n a m ea q;cases m with
  | dict kvs=>
   dsimp only at e;cases e2:zCY k with
   | none=>rw [e2] at e; cases e
   | some kk=>
    rw [e2] at e;dsimp only at e;split at e
    ·rename_i hl;cases e;obtain ⟨vs,e3,r⟩:=z;obtain ⟨c3,s3⟩:=c.put (m:=.dict (zJG zCY kvs kk k v)) (o':=.dK (zBe vs kk u)) ea e3 (fun _ z=>by cases z) (fun _ _ z=>by cases z) fun s3=>⟨_,zg,(zKp e2 rv r).stp s3⟩;refine ⟨_,?_,c3,s3⟩;rw [zFC rk e2]; exact zEz.k e3 (by rw [r.length]; exact hl)
    ·cases e
  | dicT kvs=>
   dsimp only at e;cases e2:tkD k with
   | none=>rw [e2] at e; cases e
   | some kk=>
    rw [e2] at e;dsimp only at e;split at e
    ·rename_i hl;cases e;obtain ⟨vs,e3,r⟩:=z;obtain ⟨b,rfl,eb⟩:=zJ7 rk e2;obtain ⟨c3,s3⟩:=c.put (m:=.dicT (zJG tkD kvs kk k v)) (o':=.dT (zBe vs kk u)) ea e3 (fun _ z=>by cases z) (fun _ _ z=>by cases z) fun s3=>⟨_,zg,(zKp e2 rv r).stp s3⟩;exact ⟨_,zEz.t e3 eb (by rw [r.length]; exact hl),c3,s3⟩
    ·cases e
  | _=>cases e
section
variable {X:Cx} {a b e o i value:Expr} {pos pos' apos cpos:Pos} {f g h:FE}
def zAg:K2:=fun x y M=>match y with
 | .dat k=>match zFP M x k with
  | some (some d)=>some (.dat d,M)
  | _=>none
 | _=>none
theorem zOD {K:PySem.W.Frag}:zCA K (fun x y H Q=>∃ a v,x = .ref a /\ zDx H a y (some v) /\ Q v H) zAg:=by
 intro L M M' H H0 x y d v w Q c rx ry hk q;unfold zAg at hk;split at hk
 ·rename_i k;split at hk
  ·rename_i d' e1;cases hk;obtain ⟨a,ov,rfl,h1,h2⟩:=zIK c rx ry e1;obtain ⟨u,rfl,r⟩:=h2;exact ⟨a,u,rfl,h1,q L H u (.refl L H) c r⟩
  ·cases hk
 ·cases hk
theorem zQh (hu:X.A.units + 1 < cLine) (h1:QE X o f) (h2:QE X i g) (hs:zRJ i:=by intro _ _; rfl):QE X (.Subscript o i pos) (fOp zAg f g):=.mk <| PE.imp (zOx hu h1.un h2.un hs) fun _ _ _ h=>zC8 zOD h
def zEK (neg:Bool):K2:=fun x y M=>match x with
  | .dat k=>match zFP M y k with
    | some o=>some (.dat (.bl (if neg then !o.isSome else o.isSome)),M)
    | none=>none
  | _=>none
theorem zMk {L:List Addr} {H:Hp} {o:Option D} {ov:Option V} (h:zS0 L H o ov):ov.isSome = o.isSome:=by
  cases o with
  | none => have h' : ov = none := h
            rw [h']; rfl
  | some d=>obtain ⟨v,rfl,_⟩:=h; rfl
theorem zJ5 {K:PySem.W.Frag}:zCA K (fun y x H Q=>∃ a o,x = .ref a /\ zDx H a y o /\ Q (.bl (!o.isSome)) H) (zEK true):=by
 intro L M M' H H0 x y d v w Q c rx ry hk q;unfold zEK at hk;split at hk
 ·rename_i k;split at hk
  ·rename_i o e1;cases hk;obtain ⟨a,ov,rfl,h1,h2⟩:=zIK c ry rx e1;refine ⟨a,ov,rfl,h1,?_⟩;rw [zMk h2];exact q L H _ (.refl L H) c (zBr (L:=L) (H:=H))
  ·cases hk
 ·cases hk
theorem zLd (hu:X.A.units + 1 < cLine) (h1:QE X a f) (h2:QE X b g) (hm:behindInMarks .NotIn b = false:=by rfl):QT X (.Compare a [.NotIn] [b] pos) (tst (fOp (zEK true) f g)):=.mk <| PT.imp (zRi (zMP hu h1.un h2.un) hm) fun _ _ _ h=>zF4 (fun _ _ _ z=>zC8 zJ5 z) (zEm h)
def zA8 (fv fo fi:FE):FS:=fun σ M=>match toD fv σ M with
 | some (v,M1)=>match toD fo σ M1 with
  | some (.ref n,M2)=>match toD fi σ M2 with
   | some (k,M3)=>match zCq M3 n k v with
    | some M4=>some (.nx,σ,M4)
    | none=>none
   | none=>none
  | _=>none
 | none=>none
theorem zR3 (hu:X.A.units + 1 < cLine) (hv:QE X value f) (ho:QE X o g) (hi:QE X i h) (hs:swapsWith value (some (.Subscript o i pos')) pos.line X.env = pure false:=by rfl):QS X (.Assign [.Subscript o i pos'] value pos) (zA8 f g h) :=
 .mk <| PS.imp (zPn hu (zAb ho).un (zAb hi).un (zAb hv).un hs) fun E τ H zz=>by
  obtain ⟨L,σ,M,out,σ',M',c,rs,hf,q⟩:=zz;unfold zA8 at hf;split at hf
  ·rename_i v M1 e1;split at hf
   ·rename_i n M2 e2;split at hf
    ·rename_i k M3 e3;split at hf
     ·rename_i M4 e4;cases hf;refine ⟨L,σ,M,_,_,c,rs,e1,fun L1 H1 u s1 c1 r1=>⟨L1,σ,M1,_,_,c1,rs.stp s1,e2,fun L2 H2 y s2 c2 r2=>⟨L2,σ,M2,_,_,c2,(rs.stp s1).stp s2,e3,fun L3 H3 z s3 c3 r3=>?_⟩⟩⟩;unfold Rep at r2;obtain ⟨a,rfl,ea⟩:=r2;have ea3:L3[n]? = some a:=by obtain ⟨N,hN⟩:=s3.pre; rw [hN]; exact zDs ea
      obtain ⟨H4,h1,h2,h3⟩:=zIq c3 ea3 r3 ((r1.stp s2).stp s3) e4;exact ⟨a,H4,rfl,h1,q L3 H4 (((s1.trans s2).trans s3).trans h3) h2 τ ((((rs.stp s1).stp s2).stp s3).stp h3)⟩
     ·cases hf
    ·cases hf
   ·cases hf
  ·cases hf
end
end L3
namespace L2
open PySem PySem.Spec PyProof.Rows
section
variable {X:Cx} {zB:List (Addr × Obj)} {σ:St} {H:Hp} {s:Shared}
theorem zLo {a:Addr} {y v:V} {u r:Value} {H':Hp} {A:Around} {E:Value -> Shared -> Prop} {Q:Unit -> Shared -> Prop} (hu:A.units + 1 < cLine) (I:Inv X zB σ H s) (g:zEz H a y v H') (ry:za y u) (rv:za v r) (h:∀ s',Inv X zB σ H' s' -> Heap.SameBut a s.heap s'.heap -> Q () s') :
  wpAny (model X.prog X.w) A (dictSet a u r) Q E s:=by
 rcases g with ⟨kvs,k,e,ey,l,eH⟩ | ⟨kvs,k,b,e,ey,eb,l,eH⟩
 ·subst ey eH;obtain ⟨z,hd,vs,rel,dd⟩:=zNc I.hok e;have hz:vs.length <= sizeLine:=by rw [<- rel.length]; exact z
  have hl:(zBe kvs k v).length <= sizeLine:=by have:=zBU kvs k v; omega
  refine wpAny_dictSet_pairs (hsz:=hz) (zGq ry) dd fun h' dd' hs=>h _ ?_ hs;have he:∃ q,h'.get? a = some q:=let ⟨q,_,_,hq,_⟩:=dd'; ⟨q,hq⟩;exact zC6 I (by rw [e]; exact True.intro) hs he (zKd hl hd (rel.put k rv) dd')
 ·subst ey eH;cases (show u = Value.ref b from ry);obtain ⟨z,hd,xs,rel,dd⟩:=zQN I.hok e;have hz:xs.length <= sizeLine:=by rw [<- Paired.length rel]; exact z
  have hl:(zBe kvs k v).length <= sizeLine:=by have:=zBU kvs k v; omega
  refine wpAny_dictSet_heap (hsz:=hz) (show (tupleKind (zv X.prog X.w)).room A from Nat.lt_of_succ_lt hu) (zFX I.hok eb) dd fun h' dd' hs=>h _ ?_ hs;obtain ⟨q,es,ep,hq,h2,h3,h4,_,h5⟩:=dd';refine zC6 I (by rw [e]; exact True.intro) hs ⟨q,hq⟩ ⟨hl,hd,_,(rel.put k eb rv).keeps fun c ys ec=>?_,q,es,ep,hq,h2,h3,h4,h5⟩;rw [zQ (zCb ec e (fun z=>nomatch z))];exact ec
end
end L2
namespace L3
open PySem PySem.Spec PyProof.Rows L2
open Builtin
theorem zFw:fillsNumberSlot (.type "tuple") "mul" = pure false :=
 PySem.fillsNumberSlot_seq (id := "tuple.__mul__") (r:=some (.builtin "tuple.__rmul__")) F.slot_tuple_mul.lookup (by decide +kernel) F.slot_tuple_rmul.lookup (by decide +kernel)
theorem zJY:seqRepeat? (.type "tuple") = pure (some (.builtin "tuple.__mul__")):=by
 unfold seqRepeat?;rw [PySem.seqSlot_of (T := "tuple") (name := "__mul__") (id := "tuple.__mul__") F.slot_tuple_mul.lookup (by decide +kernel),PySem.seqSlot_of (T := "tuple") (name := "__rmul__") (id := "tuple.__rmul__") F.slot_tuple_rmul.lookup (by decide +kernel)];rfl
theorem zOW (a:Int) (t:Tok) (l:Addr) (items:Array Value) (n:Nat) (dd:Option Addr) (sl:Array (Option Value)) :
  Meets (Builtin.«int.__rmul__» ⟨[.int a t,.ref l],[]⟩) (fun _ R s=>s.heap.get? l = some { cls:=.type "tuple", dict:=dd,data:=.seq items n,slots:=sl } /\ R (.ok (.ret Value.notImplemented)) s) :=
 .of_wp fun prog w A R s h=>by obtain ⟨hp,g,d,tk,os⟩:=s; obtain ⟨hl,h⟩:=h; wp_walk using wpAny_loadPart' hl; exact ⟨_,rfl,h⟩
theorem zJM (l:Addr) (items:Array Value) (n:Nat) (dd:Option Addr) (sl:Array (Option Value)) (u:Tok) :
  Meets (Builtin.«tuple.__mul__» ⟨[.ref l,.int 1 u],[]⟩) (fun _ R s=>s.heap.get? l = some { cls:=.type "tuple", dict:=dd,data:=.seq items n,slots:=sl } /\ R (.ok (.ret (.ref l))) s) :=
 .of_wp fun prog w A R s h=>by
  obtain ⟨hp,g,d,tk,os⟩:=s; obtain ⟨hl,h⟩:=h;have f1:=AutoSeq1.idx_int;wp_walk using wpAny_loadPart' hl;exact ⟨_,rfl,h⟩
theorem zII (l:Addr) (items:Array Value) (n:Nat) (dd:Option Addr) (sl:Array (Option Value)) (x:Int) (u:Tok) (h0:¬ (decide (x < -(2 ^ 63)) || decide (x ≥ 2 ^ 63)) = true) (h1:¬ (items.isEmpty || x == 1) = true) (h2:¬ (decide (x <= 0) || items.isEmpty) = true) (h3:¬ (items.size:Int) * x > (2 ^ 63 - 1) / 8) (h4:¬ Builtin.Tuple.tupleTooMany (items.size * x) = true)
  (hsz:(List.foldl (fun x1 x2=>x1 ++ x2) #[] (List.replicate x.toNat items)).size <= sizeLine) :
  Meets (Builtin.«tuple.__mul__» ⟨[.ref l,.int x u],[]⟩) (fun _ R s=>s.heap.get? l = some { cls:=.type "tuple", dict:=dd,data:=.seq items n,slots:=sl } /\ R (.ok (.ret (Value.ref s.heap.objs.size))) { s with heap:=s.heap.push { cls:=Value.type "tuple", data:=Data.seq (List.foldl (fun x1 x2=>x1 ++ x2) #[] (List.replicate x.toNat items)) },toks:=s.toks }) :=
 .of_wp fun prog w A R s h=>by
  obtain ⟨hp,g,d,tk,os⟩:=s; obtain ⟨hl,h⟩:=h;have f1:=AutoSeq1.idx_int;wp_walk using wpAny_loadPart' hl;rw [zUK h0];wp_walk using wpAny_loadPart' hl;rw [zUK h3];wp_walk using wpAny_loadPart' hl;all_goals first | exact ⟨_,rfl,h⟩ | skip
section
variable {X:Cx} {a b o e e2:Expr} {pos p apos cpos:Pos} {f g:FE}
def zQA (K:PySem.W.Frag):R2:=fun x y H Q=>∃ a k xs,x = .ref a /\ y = .int k /\ SqT K H a xs /\ xs ≠ [] /\ 1 <= k /\ xs.length * k.toNat <= sizeLine /\
 (k = 1 -> Q (.ref a) H) /\ (k ≠ 1 -> ∀ p,H p = none -> Q (.ref p) (upd H p (.tup (List.replicate k.toNat xs).flatten)))
theorem zO6:OpR X (binaryOp .Mult) (zQA X.K):=by
 intro zB s σ H x y v u Q I rx ry h;obtain ⟨a,k,xs,rfl,rfl,ha,hx,hk,hz,q1,q2⟩:=h;cases rx;obtain ⟨t,rfl⟩:=ry;obtain ⟨its,r,p1,_⟩:=I.tuple ha;obtain ⟨⟨cls,dd,data,sl⟩,ho,hc,n,hd⟩:=id p1;simp only at hc hd;subst hc hd;have hl:its.toArray.size = xs.length:=by rw [zUA]; exact r.length.symm
 have hx0:0 < xs.length:=List.length_pos_iff.mpr hx;have hkz:k.toNat <= sizeLine:=zUT (Nat.le_mul_of_pos_left _ hx0) hz;have hk63:k < 2 ^ 63:=by
  have:(sizeLine:Nat) < 2 ^ 62:=by decide
  omega
 refine wpAny_binaryOp_repeat_ref (T := "tuple") (U := "int") (by decide) ⟨_,ho,rfl⟩ (fun s'=>typeIs_int s' k t) zFw F.fills_int_mul F.slot_int_rmul zJY F.slot_int_index.lookup
  (call_meets F.slot_int_rmul (typeIs_int s k t) F.entry_int_rmul (F.args_int_rmul_2 _ _) (zOW k t a its.toArray n dd sl)
   ⟨ho,rfl,⟨_,ho,rfl⟩,?_⟩)
 by_cases h1:k = 1
 ·subst h1;exact call_meets F.slot_tuple_mul ⟨_,ho,rfl⟩ F.entry_tuple_mul (F.args_tuple_mul_2 _ _) (zJM a its.toArray n dd sl t) ⟨ho,⟨.ref a,H,I,rfl,q1 rfl⟩⟩
 ·have hnew:List.foldl (fun x1 x2=>x1 ++ x2) #[] (List.replicate k.toNat its.toArray) = (List.replicate k.toNat its).flatten.toArray:=by
   have:=zEe its k.toNat [];rw [zWK] at this;exact this
  have hlr:(List.replicate k.toNat its).flatten.length <= sizeLine:=by
   rw [zHL,<- r.length,Nat.mul_comm]; exact hz
  have hem:its.toArray.isEmpty = false:=by
   rw [Array.isEmpty_eq_false_iff]; intro z; rw [z] at hl; simp at hl; omega
  have hprod:((its.toArray.size:Int)) * k = ((xs.length * k.toNat:Nat):Int):=by
   rw [hl]; rw [Int.natCast_mul,show ((k.toNat:Nat):Int) = k by omega]
  refine call_meets F.slot_tuple_mul ⟨_,ho,rfl⟩ F.entry_tuple_mul (F.args_tuple_mul_2 _ _) (zII a its.toArray n dd sl k t ?_ ?_ ?_ ?_ ?_ ?_) ⟨ho,?_⟩
  ·rw [zUb (by omega),zUb (by omega)]; decide
  ·rw [hem,Bool.false_or]; intro z; exact h1 (eq_of_beq z)
  ·rw [hem,Bool.or_false,zUb (by omega)]; decide
  ·rw [hprod];have:(sizeLine:Nat) <= (2 ^ 63 - 1) / 8:=by decide
   omega
  ·rw [hprod];unfold Builtin.Tuple.tupleTooMany;rw [zUb (by omega)]; decide
  ·rw [hnew,zUA]; exact hlr
  ·rw [hnew];refine ⟨.ref s.heap.objs.size,_,I.laid (t':=s.toks) (o:=.tup (List.replicate k.toNat xs).flatten) (fun b ob q=>zTy _ q) (zT8 _) ?_,rfl,q2 h1 _ (I.hok.fresh (zT8 _))⟩;exact ⟨by rw [zHL,Nat.mul_comm]; exact hz,_,r.rep k.toNat,zBW.new _ _⟩
theorem zH.rep {L:List Addr} {H:Hp} {ds:List D} {vs:List V} (h:zH L H ds vs):∀ k:Nat,zH L H (List.replicate k ds).flatten (List.replicate k vs).flatten
 | 0=> .nil
 | k + 1=>by
  rw [zVL,zVL,List.flatten_cons,List.flatten_cons];exact zH.app h (zH.rep h k)
def zHs:K2:=fun x y M=>match y with
 | .dat (.int k)=>match zBn x with
  | some xs=>if 0 < xs.length /\ 1 <= k /\ xs.length * k.toNat <= sizeLine then some (.dat (.tup (List.replicate k.toNat xs).flatten),M) else none
  | none=>match zHo M x with
   | some xs=>if -(2 ^ 63) <= k /\ k < 2 ^ 63 /\ xs.length * k.toNat <= sizeLine then some (.fl (List.replicate k.toNat xs).flatten,M) else none
   | none=>none
 | _=>none
theorem zOy {K:PySem.W.Frag}:zCA K (fun x y H Q=>zSn x y H Q \/ zQA K x y H Q) zHs:=by
 intro L M M' H H0 x y d v w Q c rx ry hk q;unfold zHs at hk;split at hk
 ·rename_i k;have hw:w = .int k:=by unfold zS Rep at ry; exact ry
  subst hw;split at hk
  ·rename_i xs e1;split at hk
   ·rename_i hz;cases hk;obtain ⟨p1,vs,rfl,h1,r1⟩:=zCL rx e1;refine .inr ⟨p1,k,vs,rfl,rfl,.of h1,?_,hz.2.1,by rw [r1.length]; exact hz.2.2,fun z=>?_,fun z pp hp=>?_⟩
    ·intro z; have:=r1.length; rw [z] at this; simp at this; omega
    ·subst z;refine q L H _ (.refl L H) c ?_;have:(List.replicate (1:Int).toNat xs).flatten = xs:=by simp
     rw [this];unfold zS Rep;exact ⟨p1,vs,rfl,h1,r1⟩
    ·exact q L _ _ (.upd hp) (c.upd hp) (Rep.newTup hp (r1.rep k.toNat))
   ·cases hk
  ·split at hk
   ·rename_i xs e1;split at hk
    ·rename_i hz;cases hk;obtain ⟨l,vs,rfl,h1,r1⟩:=zJ2 c rx e1;refine .inl ⟨l,k,vs,rfl,rfl,h1,hz.1,hz.2.1,by rw [r1.length]; exact hz.2.2,fun p hp=>?_⟩;exact q L _ _ (.upd hp) (c.upd hp) (zS.newLst (.refl L H) c c hp (r1.rep k.toNat))
    ·cases hk
   ·cases hk
 ·cases hk
theorem zTD (h1:QE X a f) (h2:QE X b g):QE X (.BinOp a .Mult b pos) (fOp zHs f g):=zI4 zOy (zRH.or zO6) h1 h2
def zFJ:KB:=fun xs M=>match xs with
 | [.dat (.int i),.dat (.int j)]=>some (.dat (.int (if j > i then j else i)),M)
 | _=>none
theorem zIj {H0 H:Hp} {L:List Addr} {i j:Int} {vs:List V} (r:zBy H0 L H [.dat (.int i),.dat (.int j)] vs):vs = [.int i,.int j]:=by
 unfold zBy at r;obtain ⟨v,r1,rfl,a1,a2⟩:=r;unfold zBy at a2;obtain ⟨v2,r2,rfl,b1,b2⟩:=a2;unfold zBy at b2;subst b2;unfold zS Rep at a1 b1;subst a1 b1;rfl
theorem zNl {K:PySem.W.Frag}:zEy K (fun xs H Q=>∃ i j,xs = [.int i,.int j] /\ Q (.int (if j > i then j else i)) H) zFJ:=by
 intro L M M' H H0 xs d vs Q c r hk q;unfold zFJ at hk;split at hk
 ·rename_i i j;cases hk;exact ⟨i,j,zIj r,q L H _ (.refl L H) c (zAX (L:=L) (H:=H))⟩
 ·cases hk
theorem zRc {fa:FAE} (hcalm:X.calm = true) (hg:Gl X "max") (hm:X.mg "max" = none) (ha:QAE X [e,e2] fa) (he:starEach [e,e2] X.env = (false,eval e X.env) :: starEach [e2] X.env:=by rfl) (hpl:(backTo pos (starEach [e2] X.env)).any (·.1) = false:=by rfl):QE X (.Call (.Name "max" p) [e,e2] [] pos) (fB zFJ fa) :=
 zC7 zNl (zLT hcalm) (by rfl) hg hm ha (by decide) (by decide) he hpl
end
end L3
namespace HT
open PySem PySem.Spec PyProof.Rows
end HT
namespace L3
open PySem PySem.Spec PyProof.Rows L2
section
variable {prog:Program} {w:World} {A:Around} {E:Value -> Shared -> Prop} {s:Shared}
theorem zN4 {l:Addr} {its:List Value} {n:Nat} {i:Int} {t:Tok} {u2:Value} {Q:Value -> Shared -> Prop} (e:s.heap.get? l = some { cls:=.type "list", data:=.seq its.toArray n }) (hfit:¬ (!Builtin.List.listFitsIndex i) = true) (h0:¬ (i < 0)) (hz:its.toArray.size <= sizeLine)
  (h:∀ g:Array Value -> Array Value,g its.toArray = (its.take (min i.toNat its.length) ++ [u2] ++ its.drop (min i.toNat its.length)).toArray -> Q .none { s with heap:=s.heap.update l (Obj.mapSeq g),toks:=s.toks }) :
  wpAny (model prog w) A (call (.builtin "list.insert") [.ref l,.int i t,u2]) Q E s:=by
 have hm:=@AutoSeq1.list_insert_list_int_val_1 l its.toArray n i t u2 hfit hz;have h1:s.TypeIs (.ref l) "list" := ⟨_,e,rfl⟩;refine call_meets (B:=Builtin.«list.insert») (self:=.ref l) (rest:=[.int i t,u2]) F.slot_list_insert h1 F.entry_list_insert (F.args_list_insert_3 _ _ _) hm ⟨e,?_⟩;refine h _ ?_;simp only [h0,if_false,zUA];simp;exact List.take_of_length_le (by simp)
end
section
variable {X:Cx} {a o x1 x2:Expr} {pos p apos cpos:Pos} {f:FE}
def zK5:V -> List V -> Hp -> VK -> Prop:=fun x vs H Q=>∃ (l:Addr) (i:Int) (y:V) (xs:List V),x = .ref l /\ vs = [.int i,y] /\ H l = some (.lst xs) /\ 0 <= i /\ i.toNat <= xs.length /\ xs.length < sizeLine /\ Q .non (upd H l (.lst (xs.take i.toNat ++ [y] ++ xs.drop i.toNat)))
theorem zMB:MtM X "list.insert" zK5:=by
 intro zB s σ H x vs v us Q I rx rv h;obtain ⟨l,i,y,xs,rfl,rfl,hH,h0,hi,hz,q⟩:=h;cases rx;obtain ⟨u,u2,rfl,⟨t,rfl⟩,ru2⟩:=rv.two;obtain ⟨z,its,n,r,hl,e⟩:=I.lstM hH;have hs:(sizeLine:Nat) < 2 ^ 62:=by decide
 have hi1 : -(2 ^ 63) <= i:=by omega
 have hi2:i < 2 ^ 63:=by omega
 refine zN4 (its:=its) e (by rw [fitsIndex_both hi1 hi2]; exact zUO) (by omega) (by rw [zUA,<- hl]; exact zWy hz) fun g hg=>?_;rw [Nat.min_eq_left (by omega)] at hg;exact ⟨.non,_,I.lset (its':=its.take i.toNat ++ [u2] ++ its.drop i.toNat) (ys:=xs.take i.toNat ++ [y] ++ xs.drop i.toNat) hH e hg (((r.take i.toNat).append (.cons ru2 .nil)).append (r.drop i.toNat)) (by simp; omega),rfl,q⟩
def zC0:KM:=fun x ds M=>match x,ds with
 | .dat (.ref n),[.int i,d]=>match M[n]? with
  | some (.lst xs)=>if 0 <= i /\ i.toNat <= xs.length /\ xs.length < sizeLine then some (.non,M.set n (.lst (xs.take i.toNat ++ [d] ++ xs.drop i.toNat))) else none
  | _=>none
 | _,_=>none
theorem zGt {L:List Addr} {H:Hp}:∀ (k:Nat) {ds:List D} {vs:List V},zH L H ds vs -> zH L H (ds.take k) (vs.take k)
 | 0,_,_,_=> .nil
 | k + 1,[],vs,h=>by unfold zH at h; subst h; exact .nil
 | k + 1,d :: ds,vs,h=>by
  unfold zH at h;obtain ⟨v,r,rfl,h1,h2⟩:=h;exact .cons h1 (zGt k h2)
theorem zGb {L:List Addr} {H:Hp}:∀ (k:Nat) {ds:List D} {vs:List V},zH L H ds vs -> zH L H (ds.drop k) (vs.drop k)
 | 0,_,_,h=>h
 | k + 1,[],vs,h=>by unfold zH at h; subst h; exact .nil
 | k + 1,d :: ds,vs,h=>by
  unfold zH at h;obtain ⟨v,r,rfl,h1,h2⟩:=h;exact zGb k h2
theorem zKL {K:PySem.W.Frag}:zR0 K zK5 zC0:=by
 intro L M M' H H0 x ds d v vs Q c rx rd hk q;unfold zC0 at hk;split at hk
 ·rename_i n i d';split at hk
  ·rename_i xs e1;split at hk
   ·rename_i hz;cases hk;unfold zS Rep at rx;obtain ⟨a,rfl,e2⟩:=rx;obtain ⟨ws,e3,r3⟩:=c.obj n a _ e2 e1;obtain ⟨w1,w2,rfl,r4,r5⟩:=rd.two;have hw:w1 = .int i:=by unfold Rep at r4; exact r4
    subst hw;obtain ⟨c5,s5⟩:=c.write e2 e1 (((zGt i.toNat r3).app (.cons r5 .nil)).app (zGb i.toNat r3));exact ⟨a,i,w2,ws,rfl,rfl,e3,hz.1,by rw [r3.length]; exact hz.2.1,by rw [r3.length]; exact hz.2.2,q L _ _ s5 c5 (by unfold Rep; rfl)⟩
   ·cases hk
  ·cases hk
 ·cases hk
theorem zOG {fg:FA} (h:QE X a f) (hg:QA X [x1,x2] fg) (hbase:attributeBase a "insert" X.env (eval a X.env) = eval a X.env:=by rfl)
  (hfew:((backTo cpos (starEach [x1,x2] X.env)).all (fun x=> !x.1) && (backToKw cpos (keywordEach [] X.env)).all (fun x=>x.1.isSome) && decide ([x1,x2].length + ([]:List Keyword).length + (if ([]:List Keyword).isEmpty then 0 else 1) < 30)) = true:=by rfl)
  (hline:(apos.endLine == cpos.line) = true:=by rfl) (hs:starEach [x1,x2] X.env = (false,eval x1 X.env) :: starEach [x2] X.env:=by rfl) (hplain:(backTo cpos (starEach [x2] X.env)).any (·.1) = false:=by rfl) :
  QE X (.Call (.Attribute a "insert" apos) [x1,x2] [] cpos) (fM zC0 f fg) :=
 .mk <| PE.imp (zQM PySem.F.plainAttrs_list PySem.F.slot_list_insert PySem.F.type_list_insert zMB h.un hg.un hbase hfew hline hs hplain) fun _ _ _ z=>zNh zKL z
end
end L3
namespace L2
open PySem PySem.Spec PyProof.Rows
end L2
namespace L3
open PySem PySem.Spec PyProof.Rows L2
end L3
namespace L2
open PySem PySem.Spec PyProof.Rows
section
variable {X:Cx} {pos:Pos} {k v:Expr} {tk tv:TE}
theorem zLx (hu:X.A.units + 1 < cLine) (hk:PE X k tk) (hv:PE X v tv) :
  PE X (.Dict [some k] [v] pos) (fun σ H Q=>∀ p,H p = none -> tk σ (upd H p (.dT [])) fun x H1=>tv σ H1 fun y H2=>∃ H3,zEz H2 p x y H3 /\ Q (.ref p) H3):=by
 intro zB s σ H Q I q;have hn:=I.hok.fresh (zT8 s.heap.objs.size);have I1:=I.laid (a:=s.heap.objs.size) (o:=.dT []) (h':=s.heap.push { cls:=.type "dict", data:=.dict #[] }) (t':=s.toks) (fun _ _ q=>zTy _ q) (zT8 _) (zH8 s.heap I.big);rw [arm_eval_Dict,zip_pairTrees [some k] [v] X.env pos rfl rfl,dictDisplay_pairs _ (by simp [pairTrees]) (by simp [pairTrees])];refine zTx (wpAny_standAt (zTx ?_));unfold subDict;refine zTx (wpAny_alloc ?_);refine zTx (zUv ?_);rw [zUH (by simp [pairTrees])];refine zTx (thn (zDr hk hv zLF zB _ σ _ (fun ps H2=>match ps with | [(x,y)]=>∃ H3,zEz H2 s.heap.objs.size x y H3 /\ Q (.ref s.heap.objs.size) H3 | _=>False) I1 (q _ hn)) fun vs s1 ⟨ps,H2,I2,rel,hq⟩=>?_);cases rel with
 | nil=>exact hq.elim
 | @cons a b as bs hab t=>
  cases t with
  | cons _ _=>exact hq.elim
  | nil=>
   obtain ⟨x,y⟩:=a;obtain ⟨H3,hp,q3⟩:=hq;obtain ⟨u,r⟩:=b;refine zUv ?_;rw [List.forIn_cons];refine zTx (zTx ?_);show wpAny _ _ (dictSet s.heap.objs.size u r >>= fun _=>pure (ForInStep.yield PUnit.unit)) _ _ s1;refine zTx (zLo hu I2 hp hab.1 hab.2 fun s' I' hs=>zTz ?_);show wpAny _ _ (forIn [] PUnit.unit _) _ _ s';rw [List.forIn_nil];exact zTz (zTz (zTz (zTz ⟨.ref s.heap.objs.size,H3,I',rfl,q3⟩)))
end
end L2
namespace L3
open PySem PySem.Spec PyProof.Rows L2
section
variable {X:Cx} {a b:Expr} {pos:Pos}
def zCy (fk fv:FE):FE:=fun σ M=>match toD fk σ (M ++ [.dicT []]) with
 | some (k,M1)=>match toD fv σ M1 with
  | some (v,M2)=>match zCq M2 M.length k v with
   | some M3=>some (.dat (.ref M.length),M3)
   | none=>none
  | none=>none
 | none=>none
theorem zPs {fk fv:FE} (hu:X.A.units + 1 < cLine) (h1:QE X a fk) (h2:QE X b fv):QE X (.Dict [some a] [b] pos) (zCy fk fv):=.mk <| PE.imp (zLx hu (zAb h1).un (zAb h2).un) fun τ H Q ⟨L,σ,M,d,M',c,rs,hf,q⟩ p hp=>by
 unfold zCy at hf;split at hf
 ·rename_i k M1 e1;split at hf
  ·rename_i v M2 e2;split at hf
   ·rename_i M3 e3;cases hf;obtain ⟨c0,s0⟩:=c.pushO (m:=.dicT []) (o:=.dT []) hp ⟨[],zg,rfl⟩;refine ⟨L ++ [p],σ,_,_,_,c0,rs.stp s0,e1,fun L1 H1 x st1 c1 r1=>⟨L1,σ,M1,_,_,c1,(rs.stp s0).stp st1,e2,fun L2 H2 y st2 c2 r2=>?_⟩⟩;have st:=(s0.trans st1).trans st2;have lp:L2[M.length]? = some p:=by
     obtain ⟨N,hN⟩:=(st1.trans st2).pre;rw [hN,<- c.len]; simp
    obtain ⟨H3,hd,c3,s3⟩:=zIq c2 lp (r1.stp st2) r2 e3;refine ⟨H3,hd,q _ _ _ (st.trans s3) c3 ?_⟩;unfold zS Rep;exact ⟨p,rfl,lp⟩
   ·cases hf
  ·cases hf
 ·cases hf
end
open SeqAt
structure Df (K:PySem.W.Frag) (mg:Str -> Option Value) (x:Str) (st:Stmt) (ps:List Str) where
 f:Addr
 fd:FuncData
 F:Fun K x x st f fd
 b:zDD K fd ps []
 m:mg x = some (.ref f)
structure Dg (K:PySem.W.Frag) (x:Str) (st:Stmt) where
 f:Addr
 {od an:Option Addr}
 {sl:Array (Option Value)}
 {oc kV dc pm cd ct:Value}
 a:PySem.W.nsIn K mainGlobals x = some (some (.ref f))
 l:K.lookup f = some ⟨oc,od,.func (PySem.W.fnOf x x (zCI st) (zBM st) (zP st) .none kV dc pm an cd ct),sl⟩
 c:PySem.W.codeIn K cd x = true
 k:PySem.W.keepIn K (.ref f) = true
abbrev Dg.df {K:PySem.W.Frag} {x:Str} {st:Stmt} {ps:List Str} {h:Heap} {mg:Str -> Option Value} (g:Dg K x st) (X:K.In h) (G:h.Ns mainGlobals mg)
  (hb:∀ (kV doc pm:Value) (an:Option Addr) (cdv ct:Value) (us:List Value),us.length = ps.length -> bindArgs (PySem.W.fnOf x x (zCI st) (zBM st) (zP st) .none kV doc pm an cdv ct) ⟨us,[]⟩ = pure (ps.zip us)):Df K mg x st ps :=
 ⟨g.f,_,zNe g.l g.c g.k,(zNe g.l g.c g.k).binds hb,PySem.W.mg_of X G g.a⟩
abbrev Od (P:Program) (w:World) (base:Heap) (k:Nat) {K:PySem.W.Frag} {mg:Str -> Option Value} {x:Str} {st:Stmt} {ps:List Str} (d:Df K mg x st ps) (m:FF):Prop:=FnOk P w K mg base CX0 k d.f d.fd ps (spF K ps.length m)
abbrev Zn (K:PySem.W.Frag) (x:Str):Prop:=PySem.W.nsIn K mainGlobals x = some none
abbrev Ki (K:PySem.W.Frag) (t T:String) (b:Bool):Prop:=PySem.W.kitOne K (.type t) (.type T) = some b
theorem zRG {P:List Value -> Prop} (h:∀ a,P [a]):∀ us:List Value,us.length = 1 -> P us
 | [a],_=>h a
theorem zMW {P:List Value -> Prop} (h:∀ a b,P [a,b]):∀ us:List Value,us.length = 2 -> P us
 | [a,b],_=>h a b
theorem zKM {P:List Value -> Prop} (h:∀ a b c,P [a,b,c]):∀ us:List Value,us.length = 3 -> P us
 | [a,b,c],_=>h a b c
theorem zTJ {P:List Value -> Prop} (h:∀ a b c d,P [a,b,c,d]):∀ us:List Value,us.length = 4 -> P us
 | [a,b,c,d],_=>h a b c d
section
variable {X:Cx} {e:Expr} {es:List Expr} {pos p:Pos} {x:Str} {k:Nat} {st:Stmt} {ps:List Str}
theorem zSl {g:FF} {fa:FA} {d:Df X.K X.mg x st ps} (F:FnOk X.prog X.w X.K X.mg X.base CX0 k d.f d.fd ps (spF X.K (e :: es).length g)) (hr:Room k X.A) (hg:Gl X x)
  (ha:QA X (e :: es) fa) (hl:∀ σ M ds M1,fa σ M = some (ds,M1) -> ds.length = (e :: es).length) (hdb:(x == ("__debug__" : Str)) = false) (he:starEach (e :: es) X.env = (false,eval e X.env) :: starEach es X.env) (hpl:(backTo pos (starEach es X.env)).any (·.1) = false) :
  QE X (.Call (.Name x p) (e :: es) [] pos) (zY g fa):=zQb F hr hg d.m d.F.kp d.b ha hl hdb he hpl
theorem zTQ {i:Nat} {f:FE} {pos':Pos} (hN:X.N.Nodup) (hi:X.N[i]? = some x) (h:QE X e f) (hx:Loc X.env.scope x:=by first | exact Or.inl rfl | exact Or.inr rfl) (hs:swapsWith e (some (.Name x pos')) pos.line X.env = pure false:=by rfl)
  (hf:X.fn x = true \/ X.env.scope.names.lookup x = some .local:=by first | exact .inl rfl | exact .inr rfl | assumption):QS X (.Assign [.Name x pos'] e pos) (zi i f):=zTL hN hi hx h hs hf
theorem zOR {i:Nat} (hN:X.N.Nodup) (hi:X.N[i]? = some x) (hx:Loc X.env.scope x:=by first | exact Or.inl rfl | exact Or.inr rfl) (hf:X.fn x = true \/ X.env.scope.names.lookup x = some .local:=by first | exact .inl rfl | exact .inr rfl | assumption):PG X (.Name x pos) (zDN i):=zLA hN hi hx hf
end
section
variable {prog:Program} {w:World} {A:Around} {E:Value -> Shared -> Prop} {s:Shared} {it d v:Addr} {i ep:Nat} {ok ov:Value} {o:Obj} {es:Array DictEntry}
theorem zGr {Q:Value -> Shared -> Prop} (hv:s.heap.IsItemsView v d) (ho:s.heap.get? d = some o) (hdat:o.data = .dict es ep)
  (hQ:Q (.ref s.heap.objs.size) { s with heap:=s.heap.push { cls:=.type "dict_itemiterator", data:=.fields #[.none,.bool false,.ref d,.int 0 0,.int es.size 0,.int ep 0,.none,.none] } }):wpAny (model prog w) A (pyIter (.ref v)) Q E s:=by
 obtain ⟨q,hq,_,hd⟩:=id hv;refine wpAny_pyIter_slot hv.typeIs F.slot_dict_items_iter (zUf F.slot_dict_items_iter hv.typeIs F.entry_dict_items_iter ?_ (F.args_dict_items_iter_1 _));unfold Builtin.«dict_items.__iter__»;refine zTx (zTz (zTx ?_));unfold Builtin.Dict_items.dictOf;refine zTx (zUh hq hd (x:=.ref d) rfl (zTz (zTx ?_)));unfold Builtin.Dict_items.newIterator;refine zTx (wpAny_dictEntries ho hdat (zTx (wpAny_dictEpoch ho hdat ?_)));simp only [show Builtin.Dict_items.ownsTuple "dict_itemiterator" = true by decide,if_true];refine zUV (zTz ⟨_,rfl, "dict_itemiterator", _,⟨_,zUC _ rfl,rfl⟩,F.slot_dict_itemiterator_next.lookup,?_⟩) (by simp only [sizeOk,Builtin.Dict_items.ownedTupleFields,zUA,zUI,zUZ,zVW,sizeLine_eq]; omega);simpa [rawInt,Builtin.Dict_items.ownedTupleFields] using hQ
theorem zFa {Q:Option Value -> Shared -> Prop} (hh:A.handled = none) (hit:IsItemIter s.heap it d i es.size ep ok ov) (hod:s.heap.get? d = some o) (hdd:o.data = .dict es ep) (hge:es.size <= i)
  (hQ:∀ h',Heap.ExtBut it s.heap h' -> Q none { s with heap:=h' }):wpAny (model prog w) A (pyNext (.ref it)) Q E s:=by
 have hT:s.TypeIs (.ref it) "dict_itemiterator" := ⟨_,hit,rfl⟩;unfold pyNext;refine zTx (zVd (zUe (name:=Str.ofString "__next__") hT F.slot_dict_itemiterator_next (zUf F.slot_dict_itemiterator_next hT F.entry_dict_itemiterator_next ?_ (F.args_dict_itemiterator_next_1 _))));refine zTx (zTz (zTx (zTx ?_)));first | refine zTx (wpAny_typeNameOfWhole_itemiter hT (zTz ?_)) | refine zTx (wpAny_typeNameOf_itemiter hT (zTz ?_))
 refine zTx (wpAny_fieldsOf hit rfl ?_);simp only [show Builtin.Dict_items.ownsTuple "dict_itemiterator" = true by decide,if_true];show wpAny _ _ (if (Value.ref d == Value.none) = true then _ else _) _ _ s;rw [zUK (show ¬ ((Value.ref d == Value.none) = true) from zUO)];refine zTx (zTz (zTx (wpAny_dictEntries hod hdd ?_)));rw [zUK (by simp)];refine zTx (zTz (zTx (wpAny_dictEpoch hod hdd ?_)));rw [zUK (by simp)];refine zTz ?_;simp only [show ¬ ((i:Int) < 0) from by omega,if_false,zWm,Array.getElem?_eq_none hge];refine zTx ?_;first | refine zTx (wpAny_typeNameOfWhole_itemiter hT (zTz ?_)) | refine zTx (wpAny_typeNameOf_itemiter hT (zTz ?_))
 show wpAny _ _ (setField (.ref it) 2 .none >>= _) _ _ s;refine zTx (zVn hit rfl (by simp) ?_);show wpAny _ _ (newExc (.type "StopIteration") [] >>= _) _ _ _;refine zTx ?_;simp only [newExc,newTuple];refine zTx (zUV ?_ (by size_fits));refine zTx (m:=firstArgMember _ _) (wpAny_of_eq (a:=Value.none) (by first | rfl | (simp only [firstArgMember]; rfl)) ?_);refine zUV ?_ (by size_fits);simp only [raiseNew];refine zTx (wpAny_handled ?_);rw [show A.in1.handled = none from hh];refine zTx (zTz (wpAny_throw ?_));refine zTx (wpAny_isInstance (T := "StopIteration") (b:=true) ⟨_,zUC _ rfl,rfl⟩ isSubtype_stop ?_);exact zTz (hQ _ (((zU5 ..).extBut.push _).push _))
theorem zJo {e:DictEntry} {Q:Option Value -> Shared -> Prop} (hit:IsItemIter s.heap it d i es.size ep ok ov) (hod:s.heap.get? d = some o) (hdd:o.data = .dict es ep) (hx:es[i]? = some e)
  (hQ:∀ h',IsItemIterOut h' it d (i + 1) es.size ep e.key e.val s.heap.objs.size -> h'.get? s.heap.objs.size = some { cls:=.type "tuple", data:=.seq #[e.key,e.val] } -> (∀ b o,b ≠ it -> s.heap.get? b = some o -> h'.get? b = some o) -> Q (some (.ref s.heap.objs.size)) { s with heap:=h' }) :
  wpAny (model prog w) A (pyNext (.ref it)) Q E s:=by
 obtain ⟨hp,g,dr,tk,os⟩:=s;have hT:Shared.TypeIs ⟨hp,g,dr,tk,os⟩ (.ref it) "dict_itemiterator" := ⟨_,hit,rfl⟩;obtain ⟨hlt,hxe⟩:=Array.getElem?_eq_some_iff.mp hx;unfold pyNext;refine zTx (zVd (zUe (name:=Str.ofString "__next__") hT F.slot_dict_itemiterator_next (zUf F.slot_dict_itemiterator_next hT F.entry_dict_itemiterator_next ?_ (F.args_dict_itemiterator_next_1 _))));refine zTx (zTz (zTx (zTx ?_)));first | refine zTx (wpAny_typeNameOfWhole_itemiter hT (zTz ?_)) | refine zTx (wpAny_typeNameOf_itemiter hT (zTz ?_))
 refine zTx (wpAny_fieldsOf hit rfl ?_);simp only [show Builtin.Dict_items.ownsTuple "dict_itemiterator" = true by decide,if_true];show wpAny _ _ (if (Value.ref d == Value.none) = true then _ else _) _ _ _;rw [zUK (show ¬ ((Value.ref d == Value.none) = true) from zUO)];refine zTx (zTz (zTx (wpAny_dictEntries hod hdd ?_)));rw [zUK (by simp)];refine zTx (zTz (zTx (wpAny_dictEpoch hod hdd ?_)));rw [zUK (by simp)];refine zTz ?_;simp only [show ¬ ((i:Int) < 0) from by omega,if_false,zWm,zUn hlt,hxe];refine zTx ?_;first | refine zTx (wpAny_typeNameOfWhole_itemiter hT (zTz ?_)) | refine zTx (wpAny_typeNameOf_itemiter hT (zTz ?_))
 refine zTx (wpAny_isOneOf_itemiter hT ?_);show wpAny _ _ (setField (.ref it) 3 (rawInt ((i:Int) + 1)) >>= _) _ _ ⟨hp,g,dr,tk,os⟩;refine zTx (zVI hit (by simp) fun h1 he1 hs1=>?_);replace hs1:Heap.SameBut it hp h1:=hs1;replace he1:IsItemIter h1 it d (i + 1) es.size ep ok ov:=by
  have q:((i + 1:Nat):Int) = (i:Int) + 1:=by omega
  unfold IsItemIter; rw [q]; simpa [rawInt] using he1
 have hT1:Shared.TypeIs ⟨h1,g,dr,tk,os⟩ (.ref it) "dict_itemiterator" := ⟨_,he1,rfl⟩;refine zTx (zUv (zTx (wpAny_isOneOf_itemiter hT1 (zTx (wpAny_isOneOf_itemiter hT1 ?_)))));show wpAny _ _ (Builtin.Dict_items.pairFromOwner (.ref it) 6 e.key e.val) _ _ ⟨h1,g,dr,tk,os⟩;unfold Builtin.Dict_items.pairFromOwner;refine zTx (wpAny_newTuple ?_);have he2:IsItemIter (h1.push { cls:=.type "tuple", data:=.seq #[e.key,e.val] }) it d (i + 1) es.size ep ok ov:=zTy _ he1;generalize hh2:h1.push { cls:=.type "tuple", data:=.seq #[e.key,e.val] } = h2 at he2;have z1:h1.objs.size = hp.objs.size:=hs1.1;have hil:it < hp.objs.size:=zUD hit;have t2:h2.get? hp.objs.size = some { cls:=.type "tuple", data:=.seq #[e.key,e.val] }:=by rw [<- hh2,<- z1]; exact zUC _ rfl
 have k2:∀ b o,b ≠ it -> hp.get? b = some o -> h2.get? b = some o:=fun b o hb q=>by rw [<- hh2]; exact zTy _ (hs1.extBut b o hb q)
 show wpAny _ _ (Builtin.Dict_items.ownedTupleIsFree (.ref it) >>= _) _ _ ⟨h2,g,dr,tk,os⟩;rw [z1];clear hh2 he1 hs1 hT1 z1 h1;refine zTx ?_;unfold Builtin.Dict_items.ownedTupleIsFree;refine zTx (zUh he2 rfl (x:=.none) rfl (zTz ?_));simp only [if_true];refine zTx (zUh he2 rfl (x:=ok) rfl (zTx (zUh he2 rfl (x:=ov) rfl ?_)));refine zTx (zVI he2 (by simp) fun h3 he3 hs3=>?_);replace he3:IsItemIter h3 it d (i + 1) es.size ep e.key ov:=he3;replace hs3:Heap.SameBut it h2 h3:=hs3;refine zTx (zVI he3 (by simp) fun h4 he4 hs4=>?_);replace he4:IsItemIter h4 it d (i + 1) es.size ep e.key e.val:=he4;replace hs4:Heap.SameBut it h3 h4:=hs4;refine zTx (zVI he4 (by simp) fun h5 he5 hs5=>?_);replace he5:IsItemIterOut h5 it d (i + 1) es.size ep e.key e.val hp.objs.size:=he5;replace hs5:Heap.SameBut it h4 h5:=hs5;refine zTx (zVI he5 (by simp) fun h6 he6 hs6=>?_);replace he6:IsItemIterOut h6 it d (i + 1) es.size ep e.key e.val hp.objs.size:=he6;replace hs6:Heap.SameBut it h5 h6:=hs6;have up:∀ b o,b ≠ it -> h2.get? b = some o -> h6.get? b = some o:=fun b o hb q=>hs6.extBut b o hb (hs5.extBut b o hb (hs4.extBut b o hb (hs3.extBut b o hb q)));exact zTx (wpAny_letGo (zTz (zTz ⟨_,rfl,zTz (hQ h6 he6 (up _ _ (zVX hil) t2) fun b o hb q=>up b o hb (k2 b o hb q))⟩)))
theorem zDm (d:Addr) (hd:(d == sysModules) = false) :
  MeetsIn prog w (Builtin.«dict.items» ⟨[.ref d],[]⟩) (fun _ R s=>s.TypeIs (.ref d) "dict" /\ R (.ok (.ret (.ref s.heap.objs.size))) { s with heap:=s.heap.push { cls:=.type "dict_items", data:=.fields #[.ref d] } }) :=
 .of_wp fun A R s ⟨hT,h⟩=>by
  unfold Builtin.«dict.items»;refine zTx ?_;unfold Builtin.Dict.noArgs;refine zTx (wpAny_notOrdered_dict hT ?_);show wpAny _ _ (pure d) _ _ s;refine zTz ?_;show wpAny _ _ (Builtin.Dict.showsAll d >>= _) _ _ s;unfold Builtin.Dict.showsAll;rw [zUK (by rw [hd]; exact zUO)];exact zTx (zTz (zTx (zUV (zTz ⟨_,rfl,h⟩))))
end
theorem zFl:entryFor table "dict_itemiterator.__iter__" = some Builtin.«dict_keyiterator.__iter__»:=entryFor_alias (id' := "dict_keyiterator.__iter__") (by kernel_rfl) rfl (by decide +kernel) (by kernel_rfl)
theorem zGJ {prog:Program} {w:World} {A:Around} {E:Value -> Shared -> Prop} {s:Shared} {it d:Addr} {i n ep:Nat} {ok ov:Value} {Q:Value -> Shared -> Prop} (he:IsItemIter s.heap it d i n ep ok ov) (h:Q (.ref it) s):wpAny (model prog w) A (pyIter (.ref it)) Q E s:=by
 have hT:s.TypeIs (.ref it) "dict_itemiterator" := ⟨_,he,rfl⟩;refine wpAny_pyIter_slot hT F.slot_dict_itemiterator_iter (zUf F.slot_dict_itemiterator_iter hT zFl ?_ (F.args_dict_itemiterator_iter_1 _));show wpAny _ _ (ret (.ref it)) _ _ s;exact zTz ⟨_,rfl, "dict_itemiterator", _,hT,F.slot_dict_itemiterator_next.lookup,h⟩
def zNu (d:Addr) (o:Obj) (kvs:List (List Key × V)):It :=
 ⟨fun i H=>H d = some (.frz o (.dT kvs)) /\ i < kvs.length,
  fun i H v H'=>∃ T b k x,kvs[i]? = some (k,x) /\ v = .ref T /\ H T = none /\ H b = some (.tup (k.map kV)) /\ H' = upd H T (.tup [.ref b,x]),
  fun i H=>H d = some (.frz o (.dT kvs)) /\ kvs.length <= i⟩
theorem zMu {X:Cx} {zB:List (Addr × Obj)} {σ:L2.St} {H:Hp} {s:Shared} {d:Addr} {o:Obj} {kvs:List (List Key × V)} {es:Array DictEntry} {ep:Nat} (I:Inv X zB σ H s) (hd:o.data = .dict es ep) (e:H d = some (.frz o (.dT kvs))) :
  s.heap.get? d = some o /\ ∃ xs,KT H kvs xs /\ es.toList = xs.map (entryOfKey (tupleKind (zv X.prog X.w))) /\ kvs.length = es.size:=by
 obtain ⟨h0,_,_,xs,r,o',es',ep',h1,_,h3,h4,_⟩:=(show zk X.prog X.w H s.heap d (.frz o (.dT kvs)) from I.hok d _ e);rw [h0] at h1; cases h1;rw [hd] at h3; cases h3;refine ⟨h0,xs,r,h4,?_⟩;have h5:es.toList.length = xs.length:=by rw [h4,zUB]
 rw [Paired.length r,<- h5,zUl]
theorem zQQ {H:Hp}:∀ {kvs:List (List Key × V)} {xs:List (List Key × Addr × Value)} {i:Nat} {k:List Key} {x:V},KT H kvs xs -> kvs[i]? = some (k,x) -> ∃ b u,xs[i]? = some (k,b,u) /\ H b = some (.tup (k.map kV)) /\ za x u:=by
 intro kvs xs i k x r;induction r generalizing i with
 | nil=>intro e; cases e
 | @cons p q ps qs hq t ih=>
  intro e;cases i with
  | zero=>
   cases e;obtain ⟨q1,q2,q3⟩:=q;exact ⟨q2,q3,by rw [show k = q1 from hq.1]; rfl,hq.2.1,hq.2.2⟩
  | succ j=>exact ih e
theorem zFk {P:Program} {w:World} {K:PySem.W.Frag} {tes:List Expr} {ek:Nat} {ep:Pos} {it d:Addr} {o:Obj} {kvs:List (List Key × V)} {es:Array DictEntry} {en:Nat} (hd:o.data = .dict es en) :
  Turn P w K (.Tuple tes ek ep) (zNu d o kvs) [it] it (fun i h=>∃ ok ov,IsItemIter h it d i es.size en ok ov) where
 mem:=zUU.mpr rfl;obj:=fun i h ⟨ok,ov,he⟩ c hc=>by
  cases zUU.mp hc;exact ⟨_,he,fun v m=>by cases m⟩
 keep:=fun i h h' ⟨ok,ov,he⟩ k=>⟨ok,ov,k it (zUU.mpr rfl) _ he⟩;item:=by
  intro X hP hw hK hc i zB s σ H E I hf Z hg;subst hP hw hK;obtain ⟨ok,ov,he⟩:=Z;obtain ⟨hg,hi⟩:=hg;obtain ⟨h0,xs,r,h4,hl⟩:=zMu I hd hg;rcases hkx:kvs[i] with ⟨k,x⟩;have hk:kvs[i]? = some (k,x):=by rw [zT6 hi,hkx]
  obtain ⟨b,u,h5,h6,h7⟩:=zQQ r hk;have hx:es[i]? = some (entryOfKey (tupleKind (zv X.prog X.w)) (k,b,u)):=by
   rw [<- zVh,h4,zUP,h5]; rfl
  have ilt:it < s.heap.objs.size:=zUD he;refine zJo he h0 hd hx fun h' ho hT kp=>⟨_,rfl,wpAny_letOwnedTupleGo_items ho fun h2 he2 e2=>?_⟩;have kk:∀ c q,c ∉ [it] -> s.heap.get? c = some q -> h2.get? c = some q:=fun c q n z=>e2.extBut _ _ (fun y=>n (zUU.mpr y)) (kp c q (fun y=>n (zUU.mpr y)) z);have NT:=e2.extBut _ _ (zVX ilt) hT;have hfr:H s.heap.objs.size = none:=I.hok.fresh (zT8 _);refine ⟨.ref s.heap.objs.size,upd H s.heap.objs.size (.tup [.ref b,x]),zEp (s:=s) (h':=h2) (t':=s.toks) I hf kk (zT8 _) ?_,rfl,⟨_,b,k,x,hk,rfl,hfr,h6,rfl⟩,⟨_,_,he2⟩,fun c hm=>?_⟩
  ·exact ⟨by show 2 <= sizeLine; decide,[.ref b,u],.cons rfl (.cons h7 .nil),⟨_,NT,rfl,⟨_,rfl⟩,rfl⟩⟩
  ·cases zUU.mp hm;rw [zQ (zUN ilt)];exact (hf it hm).1
 done:=by
  intro X hP hw hK hc i zB s σ H E I hf Z hg;subst hP hw hK;obtain ⟨ok,ov,he⟩:=Z;obtain ⟨hg,hi⟩:=hg;obtain ⟨h0,xs,r,h4,hl⟩:=zMu I hd hg;exact zFa (I.ok.hd hc) he h0 hd (by omega) fun h' x=>⟨rfl,zGh (s:=s) (h':=h') (t':=s.toks) I hf fun c q n z=>x c q (fun y=>n (zUU.mpr y)) z⟩
 self:=fun A i s Q E Z h=>by
  obtain ⟨ok,ov,he⟩:=Z;exact zGJ he h
theorem zQe {X:Cx} {zB:List (Addr × Obj)} {σ:L2.St} {H:Hp} {s:Shared} {d:Addr} {kvs:List (List Key × V)} (I:Inv X zB σ H s) (ed:H d = some (.dT kvs)):∃ o es en,s.heap.get? d = some o /\ o.data = .dict es en /\ Inv X zB σ (upd H d (.frz o (.dT kvs))) s:=by
 obtain ⟨z1,z2,xs,r,o,es',en,h1,h2,h3,h4,h5⟩:=(show zk X.prog X.w H s.heap d (.dT kvs) from I.hok d _ ed);refine ⟨o,es',en,h1,h3,zC6 (s:=s) (h':=s.heap) (t':=s.toks) (ob:=.frz o (.dT kvs)) I (by rw [ed]; exact True.intro) (Heap.SameBut.refl _ _) ⟨o,h1⟩ ⟨h1,z1,z2,xs,KT.keeps r fun c ys ec=>?_,o,es',en,h1,h2,h3,h4,h5⟩⟩;rw [zQ (zCb ec ed (fun z=>nomatch z))];exact ec
theorem zPC {L:List Addr} {H:Hp} {d:D} {k:Key} (h:zCY d = some k):Rep L H d (kV k):=by
 cases d with
 | int i=>cases h; unfold Rep; rfl
 | str x=>cases h; unfold Rep; rfl
 | _=>cases h
theorem zH6 {L:List Addr} {H:Hp}:∀ {ds:List D} {ks:List Key},zCE ds = some ks -> zH L H ds (ks.map kV)
 | [],ks,h=>by cases h; exact .nil
 | d :: ds,ks,h=>by
  unfold zCE at h;cases e1:zCY d with
  | none=>rw [e1] at h; cases h
  | some k=>
   cases e2:zCE ds with
   | none=>rw [e1,e2] at h; cases h
   | some ks'=>rw [e1,e2] at h; cases h; exact .cons (zPC e1) (zH6 e2)
theorem zOH {L:List Addr} {H:Hp} {d:D} {k:List Key} {b:Addr} (h:tkD d = some k) (e:H b = some (.tup (k.map kV))):Rep L H d (.ref b):=by
 cases d with
 | tup ds=>unfold Rep; exact ⟨b,_,rfl,e,zH6 h⟩
 | _=>cases h
theorem zK2 {L:List Addr} {H:Hp}:∀ {ps:List (D × D)} {vs:List (List Key × V)} {i:Nat} {p:D × D},zAD tkD L H ps vs -> ps[i]? = some p -> ∃ k x,vs[i]? = some (k,x) /\ tkD p.1 = some k /\ Rep L H p.2 x
 | [],_,i,p,_,e=>by cases e
 | q :: ps,vs,i,p,h,e=>by
  obtain ⟨k,v,r',rfl,e1,h1,h2⟩:=h;cases i with
  | zero=>cases e; exact ⟨k,v,rfl,e1,h1⟩
  | succ j=>exact zK2 (ps:=ps) (i:=j) h2 (by rw [List.getElem?_cons_succ] at e; exact e)
section
variable {prog:Program} {w:World} {A:Around} {E:Value -> Shared -> Prop} {s:Shared} {it d:Addr} {i ep:Nat} {o:Obj} {es:Array DictEntry}
theorem zOS {Q:Value -> Shared -> Prop} (hd:(d == sysModules) = false) (hT:s.TypeIs (.ref d) "dict") (ho:s.heap.get? d = some o) (hdat:o.data = .dict es ep)
  (hQ:Q (.ref s.heap.objs.size) { s with heap:=s.heap.push { cls:=.type "dict_keyiterator", data:=.fields #[.ref d,.int 0 0,.int es.size 0,.int ep 0] } }):wpAny (model prog w) A (pyIter (.ref d)) Q E s:=by
 refine wpAny_pyIter_slot hT F.slot_dict_iter (zUf F.slot_dict_iter hT F.entry_dict_iter ?_ (F.args_dict_iter_1 _));unfold Builtin.«dict.__iter__»;refine zTx ?_;unfold Builtin.Dict.dictSlotNone;refine zTx (wpAny_notOrdered_dict hT ?_);show wpAny _ _ (pure (Value.ref d)) _ _ s;refine zTz ?_;show wpAny _ _ (Builtin.Dict.showsAll d >>= _) _ _ s;unfold Builtin.Dict.showsAll;rw [zUK (by rw [hd]; exact zUO)];refine zTx (zTz (zTx (wpAny_dictEntries ho hdat (zTx (wpAny_dictEpoch ho hdat ?_)))));refine zTx (zUV (zTz ⟨_,rfl, "dict_keyiterator", _,⟨_,zUC _ rfl,rfl⟩,F.slot_dict_keyiterator_next.lookup,?_⟩));simpa [rawInt] using hQ
theorem zM9 {e:DictEntry} {Q:Option Value -> Shared -> Prop} (hit:s.heap.IsKeyIter it d i es.size ep) (hod:s.heap.get? d = some o) (hdd:o.data = .dict es ep) (hx:es[i]? = some e)
  (hQ:∀ h',h'.IsKeyIter it d (i + 1) es.size ep -> Heap.SameBut it s.heap h' -> Q (some e.key) { s with heap:=h' }):wpAny (model prog w) A (pyNext (.ref it)) Q E s:=by
 obtain ⟨q,ho,hc,hd⟩:=id hit;obtain ⟨hlt,hxe⟩:=Array.getElem?_eq_some_iff.mp hx;unfold pyNext;refine zTx (zVd (zUe (name:=Str.ofString "__next__") hit.typeIs F.slot_dict_keyiterator_next (zUf F.slot_dict_keyiterator_next hit.typeIs F.entry_dict_keyiterator_next ?_ (F.args_dict_keyiterator_next_1 _))));refine zTx (zTz (zTx (zTx ?_)));first | refine zTx (wpAny_typeNameOfWhole_keyiter hit.typeIs (zTz ?_)) | refine zTx (wpAny_typeNameOf_keyiter hit.typeIs (zTz ?_))
 refine zTx (wpAny_fieldsOf ho hd ?_);simp only [show Builtin.Dict_items.ownsTuple "dict_keyiterator" = false by decide,zU3,if_false];show wpAny _ _ (if (Value.ref d == Value.none) = true then _ else _) _ _ s;rw [zUK (show ¬ ((Value.ref d == Value.none) = true) from zUO)];refine zTx (zTz (zTx (wpAny_dictEntries hod hdd ?_)));rw [zUK (by simp)];refine zTx (zTz (zTx (wpAny_dictEpoch hod hdd ?_)));rw [zUK (by simp)];refine zTz ?_;simp only [show ¬ ((i:Int) < 0) from by omega,if_false,zWm,zUn hlt,hxe];refine zTx ?_;first | refine zTx (wpAny_typeNameOfWhole_keyiter hit.typeIs (zTz ?_)) | refine zTx (wpAny_typeNameOf_keyiter hit.typeIs (zTz ?_))
 refine zTx (wpAny_isOneOf_keyiter hit.typeIs ?_);show wpAny _ _ (setField (.ref it) 1 (rawInt ((i:Int) + 1)) >>= _) _ _ s;refine zTx (zVn ho hd (by simp) ?_);have hit':(s.heap.update it (Obj.mapFields (·.setIfInBounds 1 (rawInt ((i:Int) + 1))))).IsKeyIter it d (i + 1) es.size ep :=
  ⟨_,zUp _ ho (Obj.isFreed_of_fields (zVJ hd _)),(Obj.cls_mapFields ..).trans hc,by rw [zVJ hd]; simp [rawInt]⟩
 refine zTx (zUv (zTx (wpAny_isOneOf_keyiter (s:={ s with heap:=s.heap.update it (Obj.mapFields (·.setIfInBounds 1 (rawInt ((i:Int) + 1)))) }) hit'.typeIs ?_)));show wpAny _ _ (pure e.key) _ _ _;exact zTz (zTz ⟨_,rfl,zTz (hQ _ hit' (zU5 ..))⟩)
theorem zPN {Q:Option Value -> Shared -> Prop} (hh:A.handled = none) (hit:s.heap.IsKeyIter it d i es.size ep) (hod:s.heap.get? d = some o) (hdd:o.data = .dict es ep) (hge:es.size <= i)
  (hQ:∀ h',Heap.ExtBut it s.heap h' -> Q none { s with heap:=h' }):wpAny (model prog w) A (pyNext (.ref it)) Q E s:=by
 obtain ⟨q,ho,hc,hd⟩:=id hit;unfold pyNext;refine zTx (zVd (zUe (name:=Str.ofString "__next__") hit.typeIs F.slot_dict_keyiterator_next (zUf F.slot_dict_keyiterator_next hit.typeIs F.entry_dict_keyiterator_next ?_ (F.args_dict_keyiterator_next_1 _))));refine zTx (zTz (zTx (zTx ?_)));first | refine zTx (wpAny_typeNameOfWhole_keyiter hit.typeIs (zTz ?_)) | refine zTx (wpAny_typeNameOf_keyiter hit.typeIs (zTz ?_))
 refine zTx (wpAny_fieldsOf ho hd ?_);simp only [show Builtin.Dict_items.ownsTuple "dict_keyiterator" = false by decide,zU3,if_false];show wpAny _ _ (if (Value.ref d == Value.none) = true then _ else _) _ _ s;rw [zUK (show ¬ ((Value.ref d == Value.none) = true) from zUO)];refine zTx (zTz (zTx (wpAny_dictEntries hod hdd ?_)));rw [zUK (by simp)];refine zTx (zTz (zTx (wpAny_dictEpoch hod hdd ?_)));rw [zUK (by simp)];refine zTz ?_;simp only [show ¬ ((i:Int) < 0) from by omega,if_false,zWm,Array.getElem?_eq_none hge];refine zTx ?_;first | refine zTx (wpAny_typeNameOfWhole_keyiter hit.typeIs (zTz ?_)) | refine zTx (wpAny_typeNameOf_keyiter hit.typeIs (zTz ?_))
 show wpAny _ _ (setField (.ref it) 0 .none >>= _) _ _ s;refine zTx (zVn ho hd (by simp) ?_);show wpAny _ _ (newExc (.type "StopIteration") [] >>= _) _ _ _;refine zTx ?_;simp only [newExc,newTuple];refine zTx (zUV ?_ (by size_fits));refine zTx (m:=firstArgMember _ _) (wpAny_of_eq (a:=Value.none) (by first | rfl | (simp only [firstArgMember]; rfl)) ?_);refine zUV ?_ (by size_fits);simp only [raiseNew];refine zTx (wpAny_handled ?_);rw [show A.in1.handled = none from hh];refine zTx (zTz (wpAny_throw ?_));refine zTx (wpAny_isInstance (T := "StopIteration") (b:=true) ⟨_,zUC _ rfl,rfl⟩ isSubtype_stop ?_);exact zTz (hQ _ (((zU5 ..).extBut.push _).push _))
theorem zOL (lo:(d == sysModules) = false) (hc:o.cls = .type "dict") (hdd:o.data = .dict es ep):PySem.W.KdlSrc prog w "dict" d d es.size (fun i v=>∃ e,es[i]? = some e /\ v = e.key) (fun h=>h.get? d = some o) where
 type:=fun _ h=>⟨o,h,hc⟩;there:=fun _ h=>⟨zUD h,zUD h⟩;keep:=fun _ _ h k=>k d (.inl rfl) o h;notList:=by decide
 notTuple:=by decide
 hint:=fun _ _ _ _ h hq=>PySem.W.kdl_hint_dict ⟨o,h,hc⟩ hq
 iter:=fun A s hh h=>⟨_,fun i h'=>h'.IsKeyIter s.heap.objs.size d i es.size ep /\ h'.get? d = some o,(fun _ _ hq=>zOS lo ⟨o,h,hc⟩ h hdd hq),⟨fun b hb=>by simp at hb; simp [hb],
  fun _ _ _ st hk=>⟨st.1.at fun o e=>hk _ (by simp) o e,hk d (by simp) o st.2⟩,
  fun i s2 Q E hi st hQ=>zM9 (e:=es[i]) st.1 st.2 hdd (by simp [hi]) fun h' hit' hs'=>hQ _ h' s2.toks ⟨es[i],by simp [hi],rfl⟩ ⟨hit',hs'.extBut _ _ (zUN (zUD h)) st.2⟩ fun b q hb e=>hs'.extBut b q (fun z=>hb (by simp [z])) e,
  fun s2 Q E st hQ=>zPN hh st.1 st.2 hdd (zT8 _) fun h' he'=>hQ h' s2.toks fun b q hb e=>he' b q (fun z=>hb (by simp [z])) e,
  fun _ _ _ _ st hQ=>wpAny_pyIter_keyiter st.1 hQ⟩,⟨⟨_,zUC _ rfl,rfl,rfl⟩,zTy _ h⟩⟩
end
theorem zKs:∀ {ys:List V} {us:List Value},ys.length = us.length -> (∀ (i:Nat) y u,ys[i]? = some y -> us[i]? = some u -> za y u) -> zU ys us
 | [],[],_,_=> .nil
 | [],_ :: _,h,_=>by cases h
 | _ :: _,[],h,_=>by cases h
 | y :: ys,u :: us,h,q=> .cons (q 0 y u rfl rfl) (zKs (Nat.succ.inj h) fun i y' u' e1 e2=>q (i + 1) y' u' (by simpa using e1) (by simpa using e2))
section
variable {prog:Program} {w:World} {A:Around} {E:Value -> Shared -> Prop} {s:Shared} {d:Addr} {ep:Nat} {o:Obj} {es:Array DictEntry}
theorem zKF (hd:(d == sysModules) = false):MeetsIn prog w (Builtin.«dict.__len__» ⟨[.ref d],[]⟩) (fun _ R s=>∃ o es ep,s.heap.get? d = some o /\ o.data = .dict es ep /\ R (.ok (.ret (.int es.size s.toks))) { s with toks:=s.toks + 1 }) :=
 .of_wp fun A R s ⟨o,es,ep,ho,hdat,h⟩=>by
  show wpAny _ _ (dictSize d >>= _) _ _ s;unfold dictSize;refine zTx (zTx (wpAny_dictEntries ho hdat (zTz ?_)));show wpAny _ _ (Builtin.Dict.pendingCount d >>= _) _ _ s;refine zTx (wpAny_pendingCount_other hd (wpAny_ret_mkInt ?_));rw [Nat.add_zero]; exact h
end
end L3
namespace ST
open PySem PySem.Spec PyProof.Rows
section
variable {prog:Program} {w:World} {A:Around} {E:Value -> Shared -> Prop} {s:Shared} {κ:SortKind} {vs:List Value} {r:Value -> Nat}
def zBw (prog:Program) (w:World) (s:Shared) (κ:SortKind) (vs:List Value) (r:Value -> Nat):Prop :=
 ∀ (A:Around) (E:Value -> Shared -> Prop) (x y:Value) (Q:Bool -> Shared -> Prop),x ∈ vs -> y ∈ vs -> Q (decide (r x < r y)) s -> wpAny (model prog w) A (keyLt' κ x y) Q E s
theorem zEA (R:zBw prog w s κ vs r) {st:SortSt} {x y:Keyed} {Q:Option Bool -> SortSt -> Prop} (hk:kindOf st = κ) (hx:x.1 ∈ vs) (hy:y.1 ∈ vs) (h:Q (some (decide (r x.1 < r y.1))) st) :
  wpS (model prog w) A E s (lt' x y) Q st:=by
 rw [lt'_eq];refine wpS_bind (wpS_get ?_);rw [hk];exact wpS_bind (wpS_lift (zVd (R _ _ _ _ _ hx hy ⟨rfl,wpS_pure h⟩)))
theorem zLe (R:zBw prog w s κ vs r) {st:SortSt} {i j:Nat} {x y:Keyed} {Q:Option Bool -> SortSt -> Prop} (hk:kindOf st = κ) (ei:(arrOf st)[i]? = some x) (ej:(arrOf st)[j]? = some y) (hx:x.1 ∈ vs) (hy:y.1 ∈ vs)
  (h:Q (some (decide (r x.1 < r y.1))) st):wpS (model prog w) A E s (ltAt' i j) Q st:=by
 rw [ltAt'_eq];refine wpS_bind (wpS_get ?_);show wpS _ _ _ _ (elem' (arrOf st) i >>= fun x=>elem' (arrOf st) j >>= fun y=>lt' x y) Q st;rw [elem'_eq,elem'_eq,ei,ej];exact wpS_bind (wpS_pure (wpS_bind (wpS_pure (zEA R hk hx hy h))))
def zBs (h:Heap) (v:Value) (xs:List Int):Prop:=∃ b o us n,v = .ref b /\ h.get? b = some o /\ o.cls = .type "tuple" /\ o.data = .seq us n /\ IntsAre us.toList xs
theorem zBs.keep {h h':Heap} {v:Value} {xs:List Int} (t:zBs h v xs) (k:∀ b o,v = .ref b -> h.get? b = some o -> h'.get? b = some o):zBs h' v xs:=by
 obtain ⟨b,o,us,n,rfl,h1,h2,h3,h4⟩:=t;exact ⟨b,o,us,n,rfl,k b o rfl h1,h2,h3,h4⟩
def zAT:List Int -> List Int -> Bool
 | [],[]=>false
 | [],_ :: _=>true
 | _ :: _,[]=>false
 | x :: xs,y :: ys=>if x = y then zAT xs ys else decide (x < y)
theorem zJC {a b:Int} {t u:Tok} {Q:Bool -> Shared -> Prop} (h:Q (decide (a < b)) s):wpAny (model prog w) A (oneLt' false (.int a t) (.int b u)) Q E s:=by
 rw [oneLt'_eq];simp only [zU3,if_false];refine zTx (richCompare_gives (op:=.Lt) (typeIs_int s a t) (typeIs_int s b u) F.slot_int_lt F.entry_int_lt (F.args_int_lt_2 _ _) (gives_int_lt a b t u) (fun x=>nomatch x) ?_);exact wpAny_truthy_bool h
theorem zMG {c:Bool} {a b:Int} {t u:Tok} {Q:Bool -> Shared -> Prop} (h:Q (decide (a < b)) s):wpAny (model prog w) A (oneLt' c (.int a t) (.int b u)) Q E s:=by
 cases c
 ·exact zJC h
 ·exact oneLt_int h
theorem zHc {c:Bool} {x y:Value} {xs ys:List Int} {Q:Bool -> Shared -> Prop} (hx:zBs s.heap x xs) (hy:zBs s.heap y ys) (h:Q (zAT xs ys) s):wpAny (model prog w) A (keyLt' (tuples' c) x y) Q E s:=by
 obtain ⟨a,o1,us,n1,rfl,h1,h2,h3,h4⟩:=hx;obtain ⟨b,o2,ws,n2,rfl,g1,g2,g3,g4⟩:=hy;refine zTx (listItems_at h1 h3 (zTx (listItems_at g1 g3 ?_)));refine zTx (wpAny_forIn_list _ (fun rest c s'=>c = (none,()) /\ s' = s /\ ∃ us' ws' xs' ys' k,rest = (us'.zip ws').zipIdx k /\ IntsAre us' xs' /\ IntsAre ws' ys' /\ zAT xs ys = zAT xs' ys' /\ us.size + ws'.length = ws.size + us'.length) (fun c s'=>s' = s /\ Q (match c.1 with | some b=>b | none=>decide (us.size < ws.size)) s) ?turn ?fin _ _ ⟨rfl,rfl,_,_,_,_,0,rfl,h4,g4,rfl,by simp; omega⟩ |> fun z=>zUY z ?post fun _ _ e=>e)
 case turn=>
  rintro ⟨⟨p,q⟩,i⟩ rest c s' ⟨rfl,rfl,us',ws',xs',ys',k,e,i1,i2,e2,e3⟩;cases i1 with
  | nil=>simp at e
  | @cons n t us1 xs1 i1=>
   cases i2 with
   | nil=>simp at e
   | @cons m u ws1 ys1 i2=>
    simp only [List.zip_cons_cons,List.zipIdx_cons] at e;injection e with ea eb
    cases ea;refine zTx (wpAny_eqBool_int ?_);rw [show zAT (n :: xs1) (m :: ys1) = if n = m then zAT xs1 ys1 else decide (n < m) from rfl] at e2;by_cases hnm:n = m
    ·subst hnm;simp only [beq_self_eq_true,Bool.not_true,zU3,if_false];rw [zUH rfl] at e2;simp only [zUZ] at e3;exact zTz ⟨rfl,rfl,_,_,_,_,_,eb,i1,i2,e2,by omega⟩
    ·rw [zUK hnm] at e2;have:(n == m) = false:=by simpa using hnm
     rw [this];simp only [Bool.not_false,if_true];refine zTx ?_;refine zMG (zTz ⟨rfl,?_⟩);rw [<- e2]; exact h
 case fin=>
  rintro c s' ⟨rfl,rfl,us',ws',xs',ys',k,e,i1,i2,e2,e3⟩;refine ⟨rfl,?_⟩;dsimp only;have key:zAT xs ys = decide (us.size < ws.size):=by
   rw [e2];cases i1 with
   | nil=>
    cases i2 with
    | nil=>simp at e3; simp [zAT,e3]
    | cons m u i2=>simp at e3; simp [zAT]; omega
   | cons n t i1=>
    cases i2 with
    | nil=>simp at e3; simp [zAT]; omega
    | cons m u i2=>simp at e
  rw [<- key]; exact h
 case post=>
  rintro ⟨c1,c2⟩ s' ⟨rfl,q⟩;dsimp only at q ⊢;cases c1 with
  | some b=>exact zTz q
  | none=>exact zTz q
theorem zKm:∀ ds:List (Int × Tok),IntsAre (ds.map fun p=> .int p.1 p.2) (ds.map (·.1))
 | []=> .nil
 | p :: ds=> .cons p.1 p.2 (zKm ds)
theorem zLs {v:Value} {x:Int} {xs:List Int} {Q:Option Value -> Shared -> Prop} (hv:zBs s.heap v (x :: xs)) (h:∀ t,Q (some (.int x t)) s):wpAny (model prog w) A (firstOfTuple' v) Q E s:=by
 obtain ⟨a,o1,us,n1,rfl,h1,h2,h3,h4⟩:=hv;refine zTx (wpAny_typeOf (T := "tuple") ⟨o1,h1,h2⟩ ?_);rw [zUK (by decide)];refine zTx (listItems_at h1 h3 (zTz ?_));obtain ⟨us⟩:=us;cases h4 with
 | cons n t i=>exact h t
theorem zFh:∀ {vs:List Value} {Q:List (Option Value) -> Shared -> Prop},(∀ v ∈ vs,∃ x xs,zBs s.heap v (x :: xs)) -> (∀ ds:List (Int × Tok),ds.length = vs.length -> Q (ds.map fun p=>some (.int p.1 p.2)) s) -> wpAny (model prog w) A (vs.mapM firstOfTuple') Q E s
 | [],Q,_,q=>by rw [List.mapM_nil]; exact zTz (q [] rfl)
 | v :: vs,Q,h,q=>by
  rw [List.mapM_cons];obtain ⟨x,xs,hv⟩:=h v (zUG ..);refine zTx (zLs hv fun t=>zTx (zFh (fun u hu=>h u (zUF _ hu)) fun ds hl=>zTz ?_));exact q ((x,t) :: ds) (by simp [hl])
theorem zNd {v:Value} (h:∀ u ∈ v :: vs,∃ x xs,zBs s.heap u (x :: xs)) {Q:SortKind -> Shared -> Prop} (q:Q (tuples' true) s):wpAny (model prog w) A (keyKind' (v :: vs).toArray) Q E s:=by
 rw [keyKind'_eq,List.mapM_toArray];refine zTx ?_;show wpAny _ _ (List.toArray <$> (v :: vs).mapM firstOfTuple') _ _ _;rw [map_eq_pure_bind];refine zTx (zFh h fun ds hl=>zTz ?_);rw [zUH (by simp)];refine zTx (zVP ?_);have e:Array.filterMap id (List.map (fun p=>some (Value.int p.1 p.2)) ds).toArray = (ds.map fun p=>Value.int p.1 p.2).toArray:=by
  rw [List.filterMap_toArray,List.filterMap_map];exact zVp List.toArray (List.filterMap_eq_map' (f:=fun p:Int × Tok=>Value.int p.1 p.2) ▸ rfl)
 rw [e,oneTypeOnly'_eq,List.mapM_toArray,mapM_typeOf_ints (zKm ds)];cases ds with
 | nil=>cases hl
 | cons d ds=>
  have hall:((List.map (fun _=>Value.type "int") (List.map (fun p:Int × Tok=>Value.int p.1 p.2) (d :: ds))).toArray.all fun x=>x == Value.type "int") = true:=by
   simp only [List.all_toArray,List.all_map,zUd];intro _ _; rfl
  have h0:(List.map (fun _=>Value.type "int") (List.map (fun p:Int × Tok=>Value.int p.1 p.2) (d :: ds))).toArray[0]? = some (Value.type "int"):=by simp
  simp only [map_pure,pure_bind];rw [h0];simp only [hall,if_true,pure_bind];exact zTz q
end
theorem zFy:∀ x:List Int,zAT x x = false
 | []=>rfl
 | a :: x=>by rw [show zAT (a :: x) (a :: x) = if a = a then zAT x x else decide (a < a) from rfl,zUH rfl]; exact zFy x
theorem zGo (a b:Int) (x y:List Int):zAT (a :: x) (b :: y) = if a = b then zAT x y else decide (a < b):=rfl
theorem zD1:∀ {x y:List Int},zAT x y = false -> zAT y x = false -> x = y
 | [],[],_,_=>rfl
 | [],_ :: _,h,_=>by cases h
 | _ :: _,[],_,h=>by cases h
 | a :: x,b :: y,h1,h2=>by
  rw [zGo] at h1 h2;by_cases e:a = b
  ·subst e;rw [zUH rfl] at h1 h2;rw [zD1 h1 h2]
  ·rw [zUK e] at h1; rw [zUK (Ne.symm e)] at h2;have:=of_decide_eq_false h1; have:=of_decide_eq_false h2;omega
theorem zCU:∀ {x y z:List Int},zAT x y = true -> zAT y z = true -> zAT x z = true
 | [],[],_,h,_=>by cases h
 | _ :: _,[],_,h,_=>by cases h
 | _,_ :: _,[],_,h=>by cases h
 | [],_ :: _,_ :: _,_,_=>rfl
 | a :: x,b :: y,c :: z,h1,h2=>by
  rw [zGo] at h1 h2 ⊢;by_cases e:a = b
  ·subst e;rw [zUH rfl] at h1;by_cases e2:a = c
   ·rw [zUH e2] at h2 ⊢; exact zCU h1 h2
   ·rw [zUK e2] at h2 ⊢; exact h2
  ·rw [zUK e] at h1;have l1:=zUy h1;by_cases e2:b = c
   ·subst e2; rw [zUK e]; exact h1
   ·rw [zUK e2] at h2;have l2:=zUy h2;rw [zUK (by omega)]; exact zVA (by omega)
def rkI (ks:List (List Int)) (k:List Int):Nat:=ks.countP fun a=>zAT a k
theorem zGi {α:Type} {p q:α -> Bool}:∀ {l:List α} {x:α},x ∈ l -> p x = false -> q x = true -> (∀ y,p y = true -> q y = true) -> l.countP p < l.countP q
 | [],_,h,_,_,_=>by cases h
 | y :: l,x,h,h1,h2,h3=>by
  have hm:l.countP p <= l.countP q:=List.countP_mono_left fun z _ hz=>h3 z hz;rw [List.countP_cons,List.countP_cons];rcases zUE.mp h with rfl | h
  ·rw [h1,h2]; simp; omega
  ·have:=zGi h h1 h2 h3;cases hp:p y with
   | true=>rw [h3 y hp]; simp; omega
   | false=>cases q y <;> simp <;> omega
theorem zQH {ks:List (List Int)} {x y:List Int} (hx:x ∈ ks) (hy:y ∈ ks):zAT x y = decide (rkI ks x < rkI ks y):=by
 have go:∀ {x y:List Int},x ∈ ks -> zAT x y = true -> rkI ks x < rkI ks y:=fun {x y} hx h=>
  zGi hx (zFy x) h fun z hz=>zCU hz h
 cases e:zAT x y with
 | true=>exact (zVA (go hx e)).symm
 | false=>
  cases e2:zAT y x with
  | true=>have:=go hy e2; exact (zUb (by omega)).symm
  | false=>rw [zD1 e e2]; exact (zUb (by omega)).symm
section
variable {prog:Program} {w:World} {A:Around} {E:Value -> Shared -> Prop} {s:Shared} {κ:SortKind} {vs:List Value}
theorem zBs.uniq {h:Heap} {v:Value} {xs ys:List Int} (a:zBs h v xs) (b:zBs h v ys):xs = ys:=by
 obtain ⟨b1,o1,us,n1,rfl,h1,h2,h3,h4⟩:=a;obtain ⟨b2,o2,ws,n2,e,g1,g2,g3,g4⟩:=b;cases e;rw [h1] at g1; cases g1;rw [h3] at g3; cases g3;rw [<- h4.nums,<- g4.nums]
open Classical in
noncomputable def zDC (h:Heap) (v:Value):List Int:=if z:∃ xs,zBs h v xs then z.choose else []
theorem zBv {h:Heap} {v:Value} {xs:List Int} (t:zBs h v xs):zDC h v = xs:=by
 unfold zDC;rw [dif_pos ⟨xs,t⟩];exact zBs.uniq (Classical.choose_spec (⟨xs,t⟩:∃ xs,zBs h v xs)) t
def zQ1 (h:Heap) (vs:List Value):Prop:=∀ v ∈ vs,∃ x xs,zBs h v (x :: xs)
noncomputable def rkV (h:Heap) (vs:List Value) (v:Value):Nat:=rkI (vs.map (zDC h)) (zDC h v)
theorem zLv (h:zQ1 s.heap vs):zBw prog w s (tuples' true) vs (rkV s.heap vs):=by
 intro A E x y Q hx hy q;obtain ⟨a,as,ha⟩:=h x hx;obtain ⟨b,bs,hb⟩:=h y hy;refine zHc ha hb ?_;rw [<- zBv ha,<- zBv hb,zQH (ks:=vs.map (zDC s.heap)) (List.mem_map_of_mem hx) (List.mem_map_of_mem hy)];exact q
theorem zLm {F:Array Value -> Prop} {a:Addr} {n:Nat} {P:Fin -> Shared -> Prop} (ho:s.heap.get? a = some (seqObj "list" vs.toArray n)) (hz:vs.length <= sizeLine)
  (hF:∀ out,F out -> out.size = vs.length) (hs:vs.length < 2 -> F vs.toArray)
  (hr:2 <= vs.length -> ∀ h6:Heap,(∀ b o,b ≠ a -> s.heap.get? b = some o -> h6.get? b = some o) -> (∀ (A:Around) (E:Value -> Shared -> Prop) (Q:SortKind -> Shared -> Prop),Q κ { s with heap:=h6 } -> wpAny (model prog w) A (keyKind' vs.toArray) Q E { s with heap:=h6 }) /\
   ∀ (A:Around) (E:Value -> Shared -> Prop),wpS (model prog w) A E { s with heap:=h6 } sortRuns' (fun _ st=>failedOf st = none /\ F ((arrOf st).map (·.2))) (SortSt.mk' κ (pairsOf vs) #[] 7 none))
  (h:∀ out,F out -> P (.done (.ret .none)) { s with heap:=sortedHeap s.heap a vs out }):wpAny (model prog w) A (Builtin.«list.sort» ⟨[.ref a],[]⟩) P E s:=by
 have ha:a < s.heap.objs.size:=zUD ho;rw [list_sort_plain];refine zTx (listItems_at ho rfl (zTx (listUpdate_at ho rfl ?_ (hsz:=by simpa using hz))));obtain ⟨e1,o1⟩:∃ e,(s.heap.update a (Obj.mapSeq fun _=> #[])).get? a = some (seqObj "list" #[] e):=⟨_,get?_update_seq ho fun _=> #[]⟩;refine zTx (seqEpoch_at o1 rfl (zTx (wpAny_newTuple ?_ (by simpa using hz))));refine zTx (wpAny_newList (zUv ?_));generalize hH:((s.heap.update a (Obj.mapSeq fun _=> #[])).push (seqObj "tuple" vs.toArray 0)).push (seqObj "list" #[] 0) = h6;have k6:∀ b o,b ≠ a -> s.heap.get? b = some o -> h6.get? b = some o:=fun b o hb e=>by
  rw [<- hH]; exact zTy _ (zTy _ ((zUj _ _ (Ne.symm hb)).trans e))
 have o6:h6.get? a = some (seqObj "list" #[] e1):=by rw [<- hH]; exact zTy _ (zTy _ o1)
 have fin:∀ st:SortSt,failedOf st = none -> F ((arrOf st).map (·.2)) -> wpAny (model prog w) A (do
   let t:=(<- seqEpoch a) != e1;Builtin.List.listUpdate (.ref a) fun _=>(arrOf st).map (·.2);if let some e:=failedOf st then rule "list.sort.comparison-raised"; throw e
   if t then rule "list.sort.modified"; raiseError "ValueError" "list modified during sort"
   ret .none) P E { s with heap:=h6 }:=by
  intro st h1 h2;refine zTx (seqEpoch_at o6 rfl (zTx (listUpdate_at o6 rfl ?_ (hsz2:=by show (Array.map _ _).size <= _; rw [hF _ h2]; omega))));rw [h1];simp only [bne_self_eq_false,zU3,if_false];refine zTz ?_;have:=h _ h2;unfold sortedHeap at this;rw [hH] at this;exact this
 dsimp only;by_cases h2:vs.toArray.size < 2
 ·rw [zUH h2,zUH h2];refine zTx (zTz ?_);rw [StateT.run_pure];refine zTx (zTz ?_);refine fin (SortSt.mk' general' (vs.toArray.zip vs.toArray) #[] 7 none) rfl ?_;have e:((vs.toArray.zip vs.toArray).map (·.2)) = vs.toArray:=by
   apply Array.toList_inj.mp;rw [Array.toList_map,Array.toList_zip,List.map_snd_zip (zT8 _)]
  show F ((vs.toArray.zip vs.toArray).map (·.2));rw [e]; exact hs (by simpa using h2)
 ·rw [zUK h2,zUK h2];obtain ⟨g1,g2⟩:=hr (by simp at h2; omega) h6 k6;refine zTx (g1 _ _ _ ?_);refine zTx (zUY (g2 _ _) ?_ fun _ _ e=>e);rintro ⟨⟨⟩,st⟩ s' ⟨rfl,h3,h4⟩;exact fin st h3 h4
theorem zON {T:String} {r d S:Addr} {n:Nat} {P:Nat -> Value -> Prop} {OK:Heap -> Prop} {R:Result -> Shared -> Prop} (K:PySem.W.KdlSrc prog w T r d n P OK) (hh:A.handled = none) (hok:OK s.heap) (hSr:S ≠ r) (hSd:S ≠ d) (hS:s.heap.get? S = some { cls:=.type "list", data:=.seq #[] })
  (hR:∀ h' tk acc c',(∀ b u,b ≠ S -> s.heap.get? b = some u -> h'.get? b = some u) -> h'.get? S = some { cls:=.type "list", dict:=none,data:=.seq acc c',slots:=#[] } -> ItemsOf P acc n -> R (.ok (.ret (.ref S))) { s with heap:=h',toks:=tk }) (hn:n <= sizeLine):codeAny (model prog w) A (.builtin "list.__iadd__" ⟨[.ref S,.ref r],[]⟩) R s:=by
 refine zU7 F.entry_list_iadd ?_;rw [zUx F.plain_list_iadd _];exact PySem.W.kdl_extend K hh hok S hSr hSd (.ref S) 0 hS hR hn
theorem zIo {T:String} {r d:Addr} {n:Nat} {P:Nat -> Value -> Prop} {OK:Heap -> Prop} {Q:List Value -> Shared -> Prop} (K:PySem.W.KdlSrc prog w T r d n P OK) (hh:A.handled = none) (hok:OK s.heap) (hn:n <= sizeLine)
  (hQ:∀ h' tk acc,(∀ b u,s.heap.get? b = some u -> h'.get? b = some u) -> s.heap.objs.size <= h'.objs.size -> ItemsOf P acc n -> Q acc.toList { s with heap:=h',toks:=tk }):wpAny (model prog w) A (collect (.ref r)) Q E s:=by
 unfold collect;refine zTx (wpAny_runValue (zU7 F.entry_proto_collect ?_));rw [zUx F.plain_proto_collect _];show wpAny _ A.in1 (newList [] >>= fun l=>again (.builtin "list.__iadd__" ⟨[l,.ref r],[]⟩)) _ _ s;have hlt:=K.there _ hok;refine zTx (zUV (zTz ⟨plainId_quiet F.plain_list_iadd _,zON (s:={ s with heap:=s.heap.push { cls:=.type "list", data:=.seq ([]:List Value).toArray } }) K hh (K.keep _ _ hok fun b _ o e=>zTy _ e) (zVX hlt.1) (zVX hlt.2) (zUC _ rfl) (fun h' tk acc c' hk hS' hacc=>?_) hn⟩));show wpAny _ A (load s.heap.objs.size >>= _) _ _ { s with heap:=h',toks:=tk };exact zTx (wpAny_load (s:={ s with heap:=h',toks:=tk }) hS' (zTz (hQ h' tk acc (fun b u e=>hk b u (zUN (zUD e)) (zTy _ e)) (zWy (zUD hS')) hacc)))
end
end ST
namespace L3
open PySem PySem.Spec PyProof.Rows L2 ST
def kkI (xs:List Int):List Key:=xs.map .inl
def zTN:D -> Option (List Int)
 | .tup ds=>zAB ds
 | _=>none
def zGK:List D -> Option (List (List Int))
 | []=>some []
 | d :: r=>match zTN d,zGK r with
  | some x,some xs=>some (x :: xs)
  | _,_=>none
theorem zFd:∀ {ds:List D} {xs:List Int},zAB ds = some xs -> zCE ds = some (kkI xs)
 | [],_,h=>by cases h; rfl
 | .int i :: r,xs,h=>by
  unfold zAB at h;split at h
  ·rename_i bs e;cases h;unfold zCE;rw [zFd e]; rfl
  ·cases h
 | .non :: _,_,h=>by cases h
 | .bl _ :: _,_,h=>by cases h
 | .str _ :: _,_,h=>by cases h
 | .tup _ :: _,_,h=>by cases h
 | .ref _ :: _,_,h=>by cases h
 | .fn _ _ :: _,_,h=>by cases h
theorem zLN {L:List Addr} {H:Hp}:∀ {ps:List (D × D)} {ts:List (List Int)} {kvs:List (List Key × V)},zGK (ps.map (·.1)) = some ts -> zAD tkD L H ps kvs -> kvs.map (·.1) = ts.map kkI
 | [],_,_,h,r=>by cases h; unfold zAD at r; subst r; rfl
 | (d,e) :: ps,ts,kvs,h,r=>by
  rw [zUL] at h;unfold zGK at h;split at h
  ·rename_i x xs h1 h2;cases h;obtain ⟨k,v,r',rfl,e1,_,r2⟩:=r;rw [zUL,zUL,zLN h2 r2];cases d with
   | tup ds=>
    have e1':zCE ds = some k:=e1;rw [zFd h1] at e1';cases e1'; rfl
   | _=>cases h1
  ·cases h
theorem zF8:∀ {xs:List Int} {its:List Value},zU ((kkI xs).map kV) its -> IntsAre its xs
 | [],_,h=>by cases h; exact .nil
 | x :: xs,_,h=>by
  cases h with
  | cons r1 r2=>obtain ⟨t,rfl⟩:=r1; exact .cons _ _ (zF8 r2)
section
variable {X:Cx}
theorem zIV {P:Program} {w:World} {H:Hp} {h:Heap} {b:Addr} {xs:List Int} (o:zk P w H h b (.tup ((kkI xs).map kV))):zBs h (.ref b) xs:=by
 obtain ⟨_,its,r,o,e,c,⟨n,d⟩,_⟩:=o;exact ⟨b,o,its.toArray,n,rfl,e,c,d,by simpa using zF8 r⟩
end
end L3
namespace ST
open PySem PySem.Spec PyProof.Rows
def zKt:Bool -> Keyed -> Array Keyed -> Nat -> Nat -> Nat -> StateT SortSt Sem (Option Nat):=sortPriv% PySem.Builtin.gallop
def zN1:Array Keyed -> Array Keyed -> StateT SortSt Sem (Array Keyed):=sortPriv% PySem.Builtin.mergeLo
def zNq:Array Keyed -> Array Keyed -> StateT SortSt Sem (Array Keyed):=sortPriv% PySem.Builtin.mergeHi
section
variable {prog:Program} {w:World} {A:Around} {E:Value -> Shared -> Prop} {s:Shared} {κ:SortKind} {vs:List Value} {r:Value -> Nat}
theorem zZ {arr:Array Keyed} {i:Nat} {p:Keyed} {st:SortSt} {Q:Keyed -> SortSt -> Prop} (h:arr[i]? = some p) (q:Q p st):wpS (model prog w) A E s (elem' arr i) Q st:=by
 rw [elem'_eq,h]; exact wpS_pure q
def zR1 (bey:Nat -> StateT SortSt Sem (Option Bool)) (n a0 b0:Nat):StateT SortSt Sem (Option Nat):=do
 let mut a:=a0
 let mut b:=b0
 for _ in [0:n] do
  if a ≥ b then break
  let m:=a + (b - a) / 2
  let some up <- bey m | return none
  if up then a:=m + 1 else b:=m
 return some b
theorem zRl {bey:Nat -> StateT SortSt Sem (Option Bool)} {b:Nat -> Bool} {n lo hi:Nat} {st:SortSt} {Q:Option Nat -> SortSt -> Prop} (hb:∀ i,i < n -> ∀ Q':Option Bool -> SortSt -> Prop,Q' (some (b i)) st -> wpS (model prog w) A E s (bey i) Q' st)
  (mono:∀ i j,i <= j -> j < n -> b j = true -> b i = true) (hlo:lo <= hi) (hhi:hi <= n) (h1:∀ i,i < lo -> b i = true) (h2:∀ i,hi <= i -> i < n -> b i = false)
  (h:∀ k,k <= n -> (∀ i,i < k -> b i = true) -> (∀ i,k <= i -> i < n -> b i = false) -> Q (some k) st):wpS (model prog w) A E s (zR1 bey n lo hi) Q st:=by
 unfold zR1;refine wpS_bind (wpS_mono (wpS_forRange (I:=fun x c st'=>st' = st /\ ∃ lo hi,c = (none,lo,hi) /\ lo <= hi /\ hi <= n /\ hi - lo <= n - x /\ (∀ i,i < lo -> b i = true) /\ (∀ i,hi <= i -> i < n -> b i = false)) (Q:=fun c st'=>st' = st /\ ∃ k,c = (none,k,k) /\ k <= n /\ (∀ i,i < k -> b i = true) /\ (∀ i,k <= i -> i < n -> b i = false)) ?step ?fin ⟨rfl,lo,hi,rfl,hlo,hhi,by omega,h1,h2⟩) ?post)
 case step=>
  rintro x c st' _ hx ⟨rfl,lo,hi,rfl,q1,q2,q3,q4,q5⟩;dsimp only;by_cases hge:lo ≥ hi
  ·rw [zUH hge];have:lo = hi:=by omega
   subst this;exact wpS_pure ⟨rfl,lo,rfl,q2,q4,q5⟩
  ·rw [zUK hge];refine wpS_bind (hb _ (by omega) _ ?_);dsimp only;cases e:b (lo + (hi - lo) / 2) with
   | true=>
    rw [zUH rfl];exact wpS_pure ⟨rfl,_,_,rfl,by omega,q2,by omega,fun i hi'=>mono i _ (by omega) (by omega) e,q5⟩
   | false=>
    rw [zUK (by decide)];refine wpS_pure ⟨rfl,_,_,rfl,by omega,by omega,by omega,q4,fun i h3 h4=>?_⟩;cases e2:b i with
    | false=>rfl
    | true=>rw [mono _ i h3 h4 e2] at e; cases e
 case fin=>
  rintro c st' ⟨rfl,lo,hi,rfl,q1,q2,q3,q4,q5⟩;have:lo = hi:=by omega
  subst this;exact ⟨rfl,lo,rfl,q2,q4,q5⟩
 case post=>
  rintro c st' ⟨rfl,k,rfl,q2,q4,q5⟩;exact wpS_pure (h k q2 q4 q5)
theorem zL5 {left:Bool} {key:Keyed} {arr:Array Keyed} {base n hint:Nat} {b:Nat -> Bool} {st:SortSt} {Q:Option Nat -> SortSt -> Prop} (hh:hint < n)
  (hb:∀ i,i < n -> ∀ Q':Option Bool -> SortSt -> Prop,Q' (some (b i)) st -> wpS (model prog w) A E s (do let x <- elem' arr (base + i); if left = true then lt' x key else do let y <- lt' key x; pure (y.map (!·))) Q' st)
  (mono:∀ i j,i <= j -> j < n -> b j = true -> b i = true)
  (h:∀ k,k <= n -> (∀ i,i < k -> b i = true) -> (∀ i,k <= i -> i < n -> b i = false) -> Q (some k) st):wpS (model prog w) A E s (zKt left key arr base n hint) Q st:=by
 have no:∀ {i j},i <= j -> j < n -> b i = false -> b j = false:=fun {i j} h1 h2 e=>by
  cases e2:b j with
  | false=>rfl
  | true=>rw [mono i j h1 h2 e2] at e; cases e
 have go:∀ lo hi,lo <= hi -> hi <= n -> (∀ i,i < lo -> b i = true) -> (∀ i,hi <= i -> i < n -> b i = false) -> wpS (model prog w) A E s (zR1 (fun i=>do let x <- elem' arr (base + i); if left = true then lt' x key else do let y <- lt' key x; pure (y.map (!·))) n lo hi) Q st :=
  fun lo hi a1 a2 a3 a4=>zRl hb mono a1 a2 a3 a4 h
 refine wpS_bind (hb hint hh _ ?_);cases e:b hint with
 | true=>
  refine wpS_bind (wpS_mono (wpS_forRange (I:=fun x c st'=>st' = st /\ ∃ la of,c = (none,la,of) /\ la < of /\ x + 1 <= of /\ la < n - hint /\ b (hint + la) = true) (Q:=fun c st'=>st' = st /\ ∃ la of,c = (none,la,of) /\ la < of /\ la < n - hint /\ b (hint + la) = true /\ (n - hint <= of \/ b (hint + of) = false)) ?step ?fin ⟨rfl,0,1,rfl,by omega,by omega,by omega,e⟩) ?post)
  case step=>
   rintro x c st' _ hx ⟨rfl,la,of,rfl,q1,q2,q3,q4⟩;dsimp only;by_cases hge:of ≥ n - hint
   ·rw [zUH hge];exact wpS_pure ⟨rfl,la,of,rfl,q1,q3,q4,.inl hge⟩
   ·rw [zUK hge];refine wpS_bind (hb _ (by omega) _ ?_);dsimp only;cases e2:b (hint + of) with
    | true=>
     rw [zUK (by decide)];exact wpS_pure ⟨rfl,of,2 * of + 1,rfl,by omega,by omega,by omega,e2⟩
    | false=>
     rw [zUH (by decide)];exact wpS_pure ⟨rfl,la,of,rfl,q1,q3,q4,.inr e2⟩
  case fin=>
   rintro c st' ⟨rfl,la,of,rfl,q1,q2,q3,q4⟩;exact ⟨rfl,la,of,rfl,q1,q3,q4,.inl (by omega)⟩
  case post=>
   rintro c st' ⟨rfl,la,of,rfl,q1,q3,q4,q5⟩;refine go (hint + la + 1) (hint + min of (n - hint)) (by omega) (by omega) (fun i hi=>mono i (hint + la) (by omega) (by omega) q4) (fun i h1 h2=>?_);rcases q5 with q5 | q5
   ·omega
   ·by_cases hc:n - hint <= of
    ·omega
    ·exact no (i:=hint + of) (by omega) h2 q5
 | false=>
  refine wpS_bind (wpS_mono (wpS_forRange (I:=fun x c st'=>st' = st /\ ∃ la of,c = (none,la,of) /\ la < of /\ x + 1 <= of /\ la < hint + 1 /\ b (hint - la) = false) (Q:=fun c st'=>st' = st /\ ∃ la of,c = (none,la,of) /\ la < of /\ la < hint + 1 /\ b (hint - la) = false /\ (hint + 1 <= of \/ b (hint - of) = true)) ?step ?fin ⟨rfl,0,1,rfl,by omega,by omega,by omega,e⟩) ?post)
  case step=>
   rintro x c st' _ hx ⟨rfl,la,of,rfl,q1,q2,q3,q4⟩;dsimp only;by_cases hge:of ≥ hint + 1
   ·rw [zUH hge];exact wpS_pure ⟨rfl,la,of,rfl,q1,q3,q4,.inl hge⟩
   ·rw [zUK hge];refine wpS_bind (hb _ (by omega) _ ?_);dsimp only;cases e2:b (hint - of) with
    | true=>
     rw [zUH rfl];exact wpS_pure ⟨rfl,la,of,rfl,q1,q3,q4,.inr e2⟩
    | false=>
     rw [zUK (by decide)];exact wpS_pure ⟨rfl,of,2 * of + 1,rfl,by omega,by omega,by omega,e2⟩
  case fin=>
   rintro c st' ⟨rfl,la,of,rfl,q1,q2,q3,q4⟩;exact ⟨rfl,la,of,rfl,q1,q3,q4,.inl (by omega)⟩
  case post=>
   rintro c st' ⟨rfl,la,of,rfl,q1,q3,q4,q5⟩;refine go (hint + 1 - min of (hint + 1)) (hint - la) (by omega) (by omega) (fun i hi=>?_) (fun i h1 h2=>no (i:=hint - la) (by omega) h2 q4);rcases q5 with q5 | q5
   ·omega
   ·by_cases hc:hint + 1 <= of
    ·omega
    ·exact mono i (hint - of) (by omega) (by omega) q5
end
structure MI (le:Keyed -> Keyed -> Prop) (C out l m:List Keyed):Prop where
 perm:(out ++ (l ++ m)).Perm C
 so:out.Pairwise le
 sl:l.Pairwise le
 sm:m.Pairwise le
 ol:∀ x ∈ out,∀ y ∈ l,le x y
 om:∀ x ∈ out,∀ y ∈ m,le x y
section
variable {le:Keyed -> Keyed -> Prop} {C out l m p:List Keyed}
theorem MI.takeL (h:MI le C out (p ++ l) m) (hp:∀ x ∈ p,∀ y ∈ m,le x y):MI le C (out ++ p) l m:=by
 have sl:=List.pairwise_append.mp h.sl;refine ⟨by have:=h.perm; simpa using this,List.pairwise_append.mpr ⟨h.so,sl.1,fun x hx y hy=>h.ol x hx y (zVH _ hy)⟩,sl.2.1,h.sm,fun x hx y hy=>?_,fun x hx y hy=>?_⟩
 ·rcases zUS.mp hx with z | z
  ·exact h.ol x z y (zUM _ hy)
  ·exact sl.2.2 x z y hy
 ·rcases zUS.mp hx with z | z
  ·exact h.om x z y hy
  ·exact hp x z y hy
theorem MI.takeR (h:MI le C out l (p ++ m)) (hp:∀ x ∈ p,∀ y ∈ l,le x y):MI le C (out ++ p) l m:=by
 have sm:=List.pairwise_append.mp h.sm;refine ⟨?_,List.pairwise_append.mpr ⟨h.so,sm.1,fun x hx y hy=>h.om x hx y (zVH _ hy)⟩,h.sl,sm.2.1,fun x hx y hy=>?_,fun x hx y hy=>?_⟩
 ·refine List.Perm.trans ?_ h.perm;rw [zU8];refine List.Perm.append_left _ ?_;rw [<- zU8,<- zU8];exact List.Perm.append_right _ List.perm_append_comm
 ·rcases zUS.mp hx with z | z
  ·exact h.ol x z y hy
  ·exact hp x z y hy
 ·rcases zUS.mp hx with z | z
  ·exact h.om x z y (zUM _ hy)
  ·exact sm.2.2 x z y hy
def Mgd (le:Keyed -> Keyed -> Prop) (C:List Keyed) (out:List Keyed):Prop:=out.Perm C /\ out.Pairwise le
theorem MI.endL (h:MI le C out l []):Mgd le C (out ++ l):=⟨by have:=h.perm; simpa using this,List.pairwise_append.mpr ⟨h.so,h.sl,h.ol⟩⟩
theorem MI.endR (h:MI le C out [] m):Mgd le C (out ++ m):=⟨by have:=h.perm; simpa using this,List.pairwise_append.mpr ⟨h.so,h.sm,h.om⟩⟩
theorem MI.last (h:MI le C out l m) (hl:∀ y ∈ m,∀ x ∈ l,le y x):Mgd le C (out ++ m ++ l):=by
 have h2:MI le C (out ++ m) l []:=MI.takeR (p:=m) (m:=[]) (by simpa using h) hl;exact h2.endL
end
section
variable {prog:Program} {w:World} {A:Around} {E:Value -> Shared -> Prop} {s:Shared} {κ:SortKind} {vs:List Value} {r:Value -> Nat}
abbrev leR (r:Value -> Nat) (x y:Keyed):Prop:=r x.1 <= r y.1
abbrev geR (r:Value -> Nat) (x y:Keyed):Prop:=r y.1 <= r x.1
structure SameS (st st':SortSt):Prop where
 k:kindOf st' = kindOf st
 a:arrOf st' = arrOf st
 p:pendingOf st' = pendingOf st
 f:failedOf st' = failedOf st
theorem SameS.refl (st:SortSt):SameS st st:=⟨rfl,rfl,rfl,rfl⟩
theorem zEf (R:zBw prog w s κ vs r) {left:Bool} {key:Keyed} {arr:Array Keyed} {base n hint:Nat} {st:SortSt} {Q:Option Nat -> SortSt -> Prop} (hk:kindOf st = κ) (hkey:key.1 ∈ vs) (harr:∀ i,i < n -> ∃ x,arr[base + i]? = some x /\ x.1 ∈ vs)
  (srt:∀ i j x y,i <= j -> j < n -> arr[base + i]? = some x -> arr[base + j]? = some y -> r x.1 <= r y.1) (hh:hint < n)
  (h:∀ k,k <= n -> (∀ i x,i < k -> arr[base + i]? = some x -> if left then r x.1 < r key.1 else r x.1 <= r key.1) -> (∀ i x,k <= i -> i < n -> arr[base + i]? = some x -> if left then r key.1 <= r x.1 else r key.1 < r x.1) -> Q (some k) st) :
  wpS (model prog w) A E s (zKt left key arr base n hint) Q st:=by
 let b:Nat -> Bool:=fun i=>match arr[base + i]? with
  | some x=>if left then decide (r x.1 < r key.1) else decide (r x.1 <= r key.1)
  | none=>false
 have bx:∀ {i x},arr[base + i]? = some x -> b i = if left then decide (r x.1 < r key.1) else decide (r x.1 <= r key.1):=fun {i x} e=>by
  show (match arr[base + i]? with | some x=>_ | none=>_) = _;rw [e]
 refine zL5 (b:=b) hh (fun i hi Q' q=>?_) (fun i j hij hj e=>?_) fun k hk h1 h2=>h k hk (fun i x hi e=>?_) (fun i x hi hn e=>?_)
 ·obtain ⟨x,ex,hx⟩:=harr i hi;rw [bx ex] at q;refine wpS_bind (zZ ex ?_);cases left with
  | true=>
   rw [zUH rfl] at q ⊢;exact zEA R hk hx hkey q
  | false=>
   rw [zUK (by decide)] at q ⊢;refine wpS_bind (zEA R hk hkey hx (wpS_pure ?_));have:(!decide (r key.1 < r x.1)) = decide (r x.1 <= r key.1):=by
    by_cases z:r key.1 < r x.1
    ·rw [zVA z,zUb (by omega)]; rfl
    ·rw [zUb z,zVA (by omega)]; rfl
   show Q' (some (!decide (r key.1 < r x.1))) st;rw [this]; exact q
 ·obtain ⟨x,ex,_⟩:=harr i (by omega);obtain ⟨y,ey,_⟩:=harr j hj;have:=srt i j x y hij hj ex ey;rw [bx ex]; rw [bx ey] at e;cases left with
  | true=>rw [zUH rfl] at e ⊢; have:=zUy e; exact zVA (by omega)
  | false=>rw [zUK (by decide)] at e ⊢; have:=zUy e; exact zVA (by omega)
 ·have q:=h1 i hi;rw [bx e] at q;cases left with
  | true=>rw [zUH rfl] at q ⊢; exact zUy q
  | false=>rw [zUK (by decide)] at q ⊢; exact zUy q
 ·have q:=h2 i hi hn;rw [bx e] at q;cases left with
  | true=>rw [zUH rfl] at q ⊢; have:=of_decide_eq_false q; omega
  | false=>rw [zUK (by decide)] at q ⊢; have:=of_decide_eq_false q; omega
def ML (r:Value -> Nat) (a b out:Array Keyed) (ia ib:Nat):Prop:=MI (leR r) (a.toList ++ b.toList) out.toList (a.toList.drop ia) (b.toList.drop ib)
variable {a b out:Array Keyed} {ia ib:Nat}
theorem zE5 {a:Array Keyed} {i:Nat} {x:Keyed} (e:a[i]? = some x):a.toList.drop i = x :: a.toList.drop (i + 1):=by
 obtain ⟨hi,rfl⟩:=Array.getElem?_eq_some_iff.mp e;rw [List.drop_eq_getElem_cons (by simpa using hi)];simp
theorem zFu {a:Array Keyed} {i:Nat} {x:Keyed} (h:x ∈ a.toList.drop i):∃ j,i <= j /\ a[j]? = some x:=by
 obtain ⟨j,e⟩:=List.mem_iff_getElem?.mp h;rw [List.getElem?_drop,zVh] at e;exact ⟨i + j,by omega,e⟩
theorem ML.pushB (h:ML r a b out ia ib) {y:Keyed} (e:b[ib]? = some y) (hy:∀ x ∈ a.toList.drop ia,r y.1 <= r x.1):ML r a b (out.push y) ia (ib + 1):=by
 unfold ML at h ⊢;rw [zE5 e] at h;rw [Array.toList_push];exact MI.takeR (p:=[y]) h fun x hx z hz=>by rw [zUU.mp hx]; exact hy z hz
theorem ML.pushA (h:ML r a b out ia ib) {x:Keyed} (e:a[ia]? = some x) (hx:∀ y ∈ b.toList.drop ib,r x.1 <= r y.1):ML r a b (out.push x) (ia + 1) ib:=by
 unfold ML at h ⊢;rw [zE5 e] at h;rw [Array.toList_push];exact MI.takeL (p:=[x]) h fun y hy z hz=>by rw [zUU.mp hy]; exact hx z hz
theorem zFn (a:Array Keyed) (i k:Nat):(a.extract i (i + k)).toList = (a.toList.drop i).take k:=by
 rw [Array.toList_extract,List.extract_eq_take_drop];simp
theorem ML.blockA (h:ML r a b out ia ib) (k:Nat) (hx:∀ x ∈ (a.toList.drop ia).take k,∀ y ∈ b.toList.drop ib,r x.1 <= r y.1):ML r a b (out ++ a.extract ia (ia + k)) (ia + k) ib:=by
 unfold ML at h ⊢;rw [Array.toList_append,zFn];rw [<- zWp k (a.toList.drop ia),List.drop_drop] at h;exact MI.takeL h hx
theorem ML.blockB (h:ML r a b out ia ib) (k:Nat) (hx:∀ x ∈ (b.toList.drop ib).take k,∀ y ∈ a.toList.drop ia,r x.1 <= r y.1):ML r a b (out ++ b.extract ib (ib + k)) ia (ib + k):=by
 unfold ML at h ⊢;rw [Array.toList_append,zFn];rw [<- zWp k (b.toList.drop ib),List.drop_drop] at h;exact MI.takeR h hx
theorem zE9 (a:Array Keyed) (i:Nat):(a.extract i a.size).toList = a.toList.drop i:=by
 rw [Array.toList_extract,List.extract_eq_take_drop,List.take_of_length_le (by simp)]
theorem ML.done (h:ML r a b out ia ib) (e:a.size <= ia \/ b.size <= ib):Mgd (leR r) (a.toList ++ b.toList) (out ++ a.extract ia a.size ++ b.extract ib b.size).toList:=by
 unfold ML at h;rw [Array.toList_append,Array.toList_append,zE9,zE9];rcases e with e | e
 ·rw [List.drop_eq_nil_of_le (by simpa using e)] at h ⊢;simpa using h.endR
 ·rw [List.drop_eq_nil_of_le (as:=b.toList) (by simpa using e)] at h ⊢;simpa using h.endL
theorem ML.lastA (h:ML r a b out ia ib) (hl:∀ y ∈ b.toList.drop ib,∀ x ∈ a.toList.drop ia,r y.1 <= r x.1):Mgd (leR r) (a.toList ++ b.toList) (out ++ b.extract ib b.size ++ a.extract ia a.size).toList:=by
 unfold ML at h;rw [Array.toList_append,Array.toList_append,zE9,zE9];exact h.last hl
theorem ML.headA (h:ML r a b out ia ib) {x:Keyed} (e:a[ia]? = some x):∀ z ∈ a.toList.drop ia,r x.1 <= r z.1:=by
 have:=h.sl;rw [zE5 e] at this ⊢;intro z hz;rcases zUE.mp hz with q | q
 ·rw [q]; exact zT8 _
 ·exact (zWC.mp this).1 z q
theorem ML.headB (h:ML r a b out ia ib) {y:Keyed} (e:b[ib]? = some y):∀ z ∈ b.toList.drop ib,r y.1 <= r z.1:=by
 have:=h.sm;rw [zE5 e] at this ⊢;intro z hz;rcases zUE.mp hz with q | q
 ·rw [q]; exact zT8 _
 ·exact (zWC.mp this).1 z q
end
section
variable {prog:Program} {w:World} {A:Around} {E:Value -> Shared -> Prop} {s:Shared} {κ:SortKind} {vs:List Value} {r:Value -> Nat} {a b:Array Keyed}
structure Fr1 (r:Value -> Nat) (a b:Array Keyed) (st st':SortSt) (out:Array Keyed) (ia ib:Nat):Prop where
 m:ML r a b out ia ib
 s:SameS st st'
 ha:ia + 1 < a.size
 hb:ib < b.size
theorem zA2 {a:Array Keyed} {i:Nat} {x:Keyed} (e:a[i]? = some x):x ∈ a.toList:=by
 obtain ⟨hi,rfl⟩:=Array.getElem?_eq_some_iff.mp e; simp
theorem zV {α:Type} {c:Prop} [Decidable c] {m1 m2:StateT SortSt Sem α} {Q:α -> SortSt -> Prop} {st:SortSt} (h1:c -> wpS (model prog w) A E s m1 Q st) (h2:¬ c -> wpS (model prog w) A E s m2 Q st):wpS (model prog w) A E s (if c then m1 else m2) Q st:=by
 split
 ·exact h1 (by assumption)
 ·exact h2 (by assumption)
theorem zB3 {a:Array Keyed} (sa:a.toList.Pairwise (leR r)) {i j:Nat} {x y:Keyed} (hij:i <= j) (ex:a[i]? = some x) (ey:a[j]? = some y):r x.1 <= r y.1:=by
 by_cases e:i = j
 ·subst e; rw [ex] at ey; cases ey; exact zT8 _
 ·obtain ⟨hi,rfl⟩:=Array.getElem?_eq_some_iff.mp ex;obtain ⟨hj,rfl⟩:=Array.getElem?_eq_some_iff.mp ey;have:=List.pairwise_iff_getElem.mp sa i j (by simpa using hi) (by simpa using hj) (by omega);simpa using this
theorem zD3 {a:Array Keyed} {i k:Nat} {x:Keyed} (h:x ∈ (a.toList.drop i).take k):∃ j,j < k /\ a[i + j]? = some x:=by
 obtain ⟨j,e⟩:=List.mem_iff_getElem?.mp h;rw [List.getElem?_take] at e;split at e
 ·rw [List.getElem?_drop,zVh] at e;exact ⟨j,by assumption,e⟩
 ·cases e
theorem zAI {a:Array Keyed} {i:Nat} (h:i < a.size):a[i]? = some a[i]:=zUn h
set_option maxHeartbeats 4000000 in
theorem zJw (R:zBw prog w s κ vs r) (ha:∀ x ∈ a.toList,x.1 ∈ vs) (hb:∀ x ∈ b.toList,x.1 ∈ vs) (sa:a.toList.Pairwise (leR r)) (sb:b.toList.Pairwise (leR r)) (h0:0 < a.size) (h1:0 < b.size)
  (hf:∀ y,b[0]? = some y -> ∀ x ∈ a.toList,r y.1 <= r x.1) (hl:∀ y ∈ b.toList,∀ x,a[a.size - 1]? = some x -> r y.1 <= r x.1) {st:SortSt} (hk:kindOf st = κ) {Q:Array Keyed -> SortSt -> Prop}
  (h:∀ out st',SameS st st' -> Mgd (leR r) (a.toList ++ b.toList) out.toList -> Q out st'):wpS (model prog w) A E s (zN1 a b) Q st:=by
 have lastA:∀ {out ia ib},ML r a b out ia ib -> ia + 1 = a.size -> Mgd (leR r) (a.toList ++ b.toList) (out ++ b.extract ib b.size ++ a.extract ia a.size).toList:=fun {out ia ib} m e=>m.lastA fun y hy x hx=>by
  obtain ⟨j,hj,ej⟩:=zFu hx;have hj2:=(Array.getElem?_eq_some_iff.mp ej).1;exact hl y (List.mem_of_mem_drop hy) x (by rw [show a.size - 1 = j by omega]; exact ej)
 refine wpS_bind (wpS_lift (zVP ⟨rfl,?_⟩));refine wpS_bind (zZ (zAI h1) ?_);have m0:ML r a b #[] 0 0:=⟨List.Perm.refl _,.nil,sa,sb,(fun x hx=>absurd hx (by simp)),(fun x hx=>absurd hx (by simp))⟩;have m1:ML r a b #[b[0]] 0 1:=m0.pushB (zAI h1) (hf _ (zAI h1));dsimp only;by_cases c1:1 = b.size
 ·rw [zUH (by simpa using c1)];exact wpS_pure (h _ _ (.refl _) (m1.done (.inr (by omega))))
 rw [zUK (by simpa using c1)];by_cases c2:0 + 1 = a.size
 ·rw [zUH (by simpa using c2)];exact wpS_pure (h _ _ (.refl _) (lastA m1 c2))
 rw [zUK (by simpa using c2)];refine wpS_bind (wpS_get ?_);refine wpS_bind (wpS_mono (wpS_forRange (I:=fun x c st'=>∃ out ia ib g,c = (none,out,ia,ib,g) /\ Fr1 r a b st st' out ia ib /\ x + 1 <= ia + ib) (Q:=fun c st'=>∃ res,c.1 = some res /\ SameS st st' /\ Mgd (leR r) (a.toList ++ b.toList) res.toList) ?step ?fin ⟨_,_,_,_,rfl,⟨m1,.refl _,by omega,by omega⟩,by omega⟩) ?post)
 case fin=>
  rintro c st' ⟨out,ia,ib,g,rfl,f,hx⟩;have:=f.ha; have:=f.hb;omega
 case post=>
  rintro ⟨c1,c2⟩ st' ⟨res,e,hs,hm⟩;dsimp only at e;subst e;exact wpS_pure (h _ _ hs hm)
 case step=>
  rintro x c st' _ hx ⟨out,ia,ib,g,rfl,f,hx2⟩;dsimp only;refine wpS_bind (wpS_mono (wpS_forRange (I:=fun y c st'=>∃ out2 ia2 ib2 ca cb,c = (none,out2,ia2,ib2,ca,cb) /\ Fr1 r a b st st' out2 ia2 ib2 /\ ia + ib + y <= ia2 + ib2) (Q:=fun c st'=>(∃ res,c.1 = some res /\ SameS st st' /\ Mgd (leR r) (a.toList ++ b.toList) res.toList) \/ ∃ out2 ia2 ib2 ca cb,c = (none,out2,ia2,ib2,ca,cb) /\ Fr1 r a b st st' out2 ia2 ib2 /\ ia + ib + 1 <= ia2 + ib2) ?step1 ?fin1 ⟨_,_,_,_,_,rfl,f,by omega⟩) ?post1)
  case fin1=>
   rintro c st' ⟨out2,ia,ib,ca,cb,rfl,f,hy⟩;exact .inr ⟨_,_,_,_,_,rfl,f,by omega⟩
  case step1=>
   rintro y c st' _ hy ⟨out2,ia,ib,ca,cb,rfl,f,hy2⟩;dsimp only;have hia:ia < a.size:=by have:=f.ha; omega
   have hib:=f.hb;have eb:b[ib]? = some b[ib]:=zAI hib;have ea:a[ia]? = some a[ia]:=zAI hia;have hkk:kindOf st' = κ:=f.s.k.trans hk;refine wpS_bind (zZ eb (wpS_bind (zZ ea (wpS_bind (zEA R hkk (hb _ (zA2 eb)) (ha _ (zA2 ea)) ?_)))));dsimp only;by_cases hlt:r b[ib].1 < r a[ia].1
   ·rw [zVA hlt,zUH rfl];refine wpS_bind (zZ eb ?_);have m2:ML r a b (out2.push b[ib]) ia (ib + 1):=f.m.pushB eb fun z hz=>by have:=f.m.headA ea z hz; omega
    by_cases c3:ib + 1 = b.size
    ·rw [zUH (by simpa using c3)];exact wpS_pure (.inl ⟨_,rfl,f.s,m2.done (.inr (by omega))⟩)
    ·rw [zUK (by simpa using c3)];have f2:Fr1 r a b st st' (out2.push b[ib]) ia (ib + 1):=⟨m2,f.s,f.ha,by have:=f.hb; omega⟩;split
     ·exact wpS_pure (.inr ⟨_,_,_,_,_,rfl,f2,by omega⟩)
     ·exact wpS_pure ⟨_,_,_,_,_,rfl,f2,by omega⟩
   ·rw [zUb hlt,zUK (by decide)];refine wpS_bind (zZ ea ?_);have m2:ML r a b (out2.push a[ia]) (ia + 1) ib:=f.m.pushA ea fun z hz=>by have:=f.m.headB eb z hz; omega
    by_cases c3:ia + 1 + 1 = a.size
    ·rw [zUH (by simpa using c3)];exact wpS_pure (.inl ⟨_,rfl,f.s,lastA m2 c3⟩)
    ·rw [zUK (by simpa using c3)];have f2:Fr1 r a b st st' (out2.push a[ia]) (ia + 1) ib:=⟨m2,f.s,by have:=f.ha; omega,f.hb⟩;split
     ·exact wpS_pure (.inr ⟨_,_,_,_,_,rfl,f2,by omega⟩)
     ·exact wpS_pure ⟨_,_,_,_,_,rfl,f2,by omega⟩
  case post1=>
   rintro ⟨c1,c2⟩ st' (⟨res,e,hs,hm⟩ | ⟨out2,ia,ib,ca,cb,e,f,hy⟩)
   ·dsimp only at e;subst e;exact wpS_pure ⟨res,rfl,hs,hm⟩
   ·cases e;dsimp only;refine wpS_bind (wpS_lift (zVP ⟨rfl,?_⟩));refine wpS_bind (wpS_mono (wpS_forRange (I:=fun y c st'=>∃ out3 ia3 ib3 g ca cb,c = (none,out3,ia3,ib3,g,ca,cb) /\ Fr1 r a b st st' out3 ia3 ib3 /\ ia + ib <= ia3 + ib3) (Q:=fun c st'=>(∃ res,c.1 = some res /\ SameS st st' /\ Mgd (leR r) (a.toList ++ b.toList) res.toList) \/ ∃ out3 ia3 ib3 g ca cb,c = (none,out3,ia3,ib3,g,ca,cb) /\ Fr1 r a b st st' out3 ia3 ib3 /\ ia + ib <= ia3 + ib3) ?step2 ?fin2 ⟨_,_,_,_,_,_,rfl,f,by omega⟩) ?post2)
    case fin2=>
     rintro c st' ⟨out3,ia,ib,g,ca,cb,rfl,f,hy⟩;exact .inr ⟨_,_,_,_,_,_,rfl,f,hy⟩
    case post2=>
     rintro ⟨c1,c2⟩ st' (⟨res,e,hs,hm⟩ | ⟨out3,ia,ib,g,ca,cb,e,f,hz⟩)
     ·dsimp only at e;subst e;exact wpS_pure ⟨res,rfl,hs,hm⟩
     ·cases e;dsimp only;refine wpS_bind (wpS_modify (wpS_pure ⟨_,_,_,_,rfl,⟨f.m,⟨f.s.k,f.s.a,f.s.p,f.s.f⟩,f.ha,f.hb⟩,by omega⟩))
    case step2=>
     rintro y c st' _ hy ⟨out3,ia,ib,g,ca,cb,rfl,f,hy2⟩;have hia:ia < a.size:=by have:=f.ha; omega
     have hib:=f.hb;have eb:b[ib]? = some b[ib]:=zAI hib;refine zV (fun _=>?_) (fun _=>?_)
     all_goals
      refine wpS_bind (wpS_modify ?_);refine wpS_bind (zZ eb ?_);have hs2:=f.s;refine wpS_bind (zEf (left:=false) (key:=b[ib]) (arr:=a) (base:=ia) (n:=a.size - ia) (hint:=0) R (hs2.k.trans hk) (hb _ (zA2 eb)) (fun i hi=>⟨_,zAI (by omega),ha _ (zA2 (zAI (by omega)))⟩) (fun i j x y hij hj ex ey=>zB3 sa (by omega) ex ey) (by omega) fun k hk1 g1 g2=>?_);have blk:∀ x ∈ (a.toList.drop ia).take k,∀ z ∈ b.toList.drop ib,r x.1 <= r z.1:=fun x hx z hz=>by
       obtain ⟨i,hi,ei⟩:=zD3 hx;have:r x.1 <= r b[ib].1:=g1 i x hi ei;have:=f.m.headB eb z hz;omega
      have aft:∀ x ∈ a.toList.drop (ia + k),r b[ib].1 <= r x.1:=fun x hx=>by
       obtain ⟨j,hj,ej⟩:=zFu hx;have hj2:=(Array.getElem?_eq_some_iff.mp ej).1;have:=g2 (j - ia) x (by omega) (by omega) (by rw [show ia + (j - ia) = j by omega]; exact ej);exact zWy this
      refine zV (fun hk0=>?_) (fun hk0=>?_)
      case' refine_1=>
       have m4:=f.m.blockA k blk;refine zV (fun c4=>wpS_pure (.inl ⟨_,rfl,⟨hs2.k,hs2.a,hs2.p,hs2.f⟩,lastA m4 (show ia + k + 1 = a.size by simpa using c4)⟩)) (fun c4=>zV (fun c5=>wpS_pure (.inl ⟨_,rfl,⟨hs2.k,hs2.a,hs2.p,hs2.f⟩,m4.done (.inl (Nat.le_of_eq (show a.size = ia + k by simpa using (by simpa using c5:ia + k = a.size).symm)))⟩)) (fun c5=>?_));have a4:ia + k + 1 < a.size:=by simp at c4 c5; omega
      case' refine_2=>
       have hk00:k = 0:=by omega
       subst hk00;have m4:=f.m;have a4:ia + 0 + 1 < a.size:=f.ha
      all_goals
       refine wpS_bind (zZ eb ?_);have m5:=m4.pushB eb aft;refine zV (fun c6=>wpS_pure (.inl ⟨_,rfl,⟨hs2.k,hs2.a,hs2.p,hs2.f⟩,m5.done (.inr (Nat.le_of_eq (show ib + 1 = b.size by simpa using c6).symm))⟩)) (fun c6=>?_);have c6':ib + 1 < b.size:=by simp at c6; omega
       have ea4:=zAI (Nat.lt_of_succ_lt a4);refine wpS_bind (zZ ea4 ?_);refine wpS_bind (zEf (left:=true) (arr:=b) (base:=ib + 1) (n:=b.size - (ib + 1)) (hint:=0) R (hs2.k.trans hk) (ha _ (zA2 ea4)) (fun i hi=>⟨_,zAI (by omega),hb _ (zA2 (zAI (by omega)))⟩) (fun i j x y hij hj ex ey=>zB3 sb (by omega) ex ey) (by omega) fun k2 hk2 g3 g4=>?_);have aft2:∀ y ∈ b.toList.drop (ib + 1 + k2),_ <= r y.1:=fun y hy=>by
        obtain ⟨j,hj,ej⟩:=zFu hy;have hj2:=(Array.getElem?_eq_some_iff.mp ej).1;exact g4 (j - (ib + 1)) y (by omega) (by omega) (by rw [show ib + 1 + (j - (ib + 1)) = j by omega]; exact ej)
       have m6:=m5.blockB k2 fun x hx z hz=>by
        obtain ⟨i,hi,ei⟩:=zD3 hx;exact zWy (zUR (g3 i x hi ei) (m5.headA ea4 z hz))
       refine zV (fun hk3=>?_) (fun hk3=>?_)
       case' refine_1=>
        refine zV (fun c7=>wpS_pure (.inl ⟨_,rfl,⟨hs2.k,hs2.a,hs2.p,hs2.f⟩,m6.done (.inr (Nat.le_of_eq (show ib + 1 + k2 = b.size by simpa using c7).symm))⟩)) (fun c7=>?_);have b6:ib + 1 + k2 < b.size:=by simp at c7; omega
       case' refine_2=>
        have hk00:k2 = 0:=by omega
        subst hk00;have b6:ib + 1 + 0 < b.size:=c6';replace m6:=m5
       all_goals
        refine wpS_bind (zZ ea4 ?_);have m7:=m6.pushA ea4 aft2;refine zV (fun c8=>wpS_pure (.inl ⟨_,rfl,⟨hs2.k,hs2.a,hs2.p,hs2.f⟩,lastA m7 (by simpa using c8)⟩)) (fun c8=>?_);refine zV (fun _=>wpS_pure (.inr ⟨_,_,_,_,_,_,rfl,⟨m7,⟨hs2.k,hs2.a,hs2.p,hs2.f⟩,?_,b6⟩,?_⟩)) (fun _=>wpS_pure ⟨_,_,_,_,_,_,rfl,⟨m7,⟨hs2.k,hs2.a,hs2.p,hs2.f⟩,?_,b6⟩,?_⟩);all_goals (simp at c8 ⊢; omega)
end
section
variable {prog:Program} {w:World} {A:Around} {E:Value -> Shared -> Prop} {s:Shared} {κ:SortKind} {vs:List Value} {r:Value -> Nat} {a b out:Array Keyed} {na nb:Nat}
def MH (r:Value -> Nat) (a b out:Array Keyed) (na nb:Nat):Prop:=MI (geR r) (a.toList ++ b.toList) out.toList (a.toList.take na).reverse (b.toList.take nb).reverse
theorem zK8 {a:Array Keyed} {i:Nat} {x:Keyed} (e:a[i]? = some x):(a.toList.take (i + 1)).reverse = x :: (a.toList.take i).reverse:=by
 rw [List.take_add_one,zVh,e]; simp
theorem zBC {a:Array Keyed} {n:Nat} {x:Keyed} (h:x ∈ a.toList.take n):∃ j,j < n /\ a[j]? = some x:=by
 obtain ⟨j,e⟩:=List.mem_iff_getElem?.mp h;rw [List.getElem?_take] at e;split at e
 ·rw [zVh] at e;exact ⟨j,by assumption,e⟩
 ·cases e
theorem MH.pushA (h:MH r a b out (na + 1) nb) {x:Keyed} (e:a[na]? = some x) (hx:∀ y ∈ b.toList.take nb,r y.1 <= r x.1):MH r a b (out.push x) na nb:=by
 unfold MH at h ⊢;rw [zK8 e] at h;rw [Array.toList_push];exact MI.takeL (p:=[x]) h fun y hy z hz=>by rw [zUU.mp hy]; exact hx z (by simpa using hz)
theorem MH.pushB (h:MH r a b out na (nb + 1)) {y:Keyed} (e:b[nb]? = some y) (hy:∀ x ∈ a.toList.take na,r x.1 <= r y.1):MH r a b (out.push y) na nb:=by
 unfold MH at h ⊢;rw [zK8 e] at h;rw [Array.toList_push];exact MI.takeR (p:=[y]) h fun x hx z hz=>by rw [zUU.mp hx]; exact hy z (by simpa using hz)
theorem zKz (a:Array Keyed) {i n:Nat} (h:i <= n):(a.toList.take n).reverse = (a.extract i n).reverse.toList ++ (a.toList.take i).reverse:=by
 rw [Array.toList_reverse,Array.toList_extract,List.extract_eq_take_drop,<- List.reverse_append];congr 1;rw [<- List.drop_take];conv=>lhs; rw [<- zWp i (a.toList.take n),List.take_take,Nat.min_eq_left h]
theorem MH.blockA (h:MH r a b out na nb) {i:Nat} (hi:i <= na) (hx:∀ j x,i <= j -> j < na -> a[j]? = some x -> ∀ y ∈ b.toList.take nb,r y.1 <= r x.1):MH r a b (out ++ (a.extract i na).reverse) i nb:=by
 unfold MH at h ⊢;rw [zKz a hi] at h;rw [Array.toList_append];refine MI.takeL h fun x hx' y hy=>?_;rw [Array.toList_reverse,List.mem_reverse,Array.toList_extract,List.extract_eq_take_drop] at hx';obtain ⟨j,hj,ej⟩:=zD3 hx';exact hx (i + j) x (by omega) (by omega) ej y (by simpa using hy)
theorem MH.blockB (h:MH r a b out na nb) {i:Nat} (hi:i <= nb) (hx:∀ j x,i <= j -> j < nb -> b[j]? = some x -> ∀ y ∈ a.toList.take na,r y.1 <= r x.1):MH r a b (out ++ (b.extract i nb).reverse) na i:=by
 unfold MH at h ⊢;rw [zKz b hi] at h;rw [Array.toList_append];refine MI.takeR h fun x hx' y hy=>?_;rw [Array.toList_reverse,List.mem_reverse,Array.toList_extract,List.extract_eq_take_drop] at hx';obtain ⟨j,hj,ej⟩:=zD3 hx';exact hx (i + j) x (by omega) (by omega) ej y (by simpa using hy)
theorem zEH (a:Array Keyed) (n:Nat):(a.extract 0 n).toList = a.toList.take n:=by
 rw [Array.toList_extract,List.extract_eq_take_drop]; simp
theorem Mgd.rev {C xs:List Keyed} (h:Mgd (geR r) C xs):Mgd (leR r) C xs.reverse:=⟨(List.reverse_perm _).trans h.1,List.pairwise_reverse.mpr h.2⟩
theorem MH.done (h:MH r a b out na nb) (e:na = 0 \/ nb = 0):Mgd (leR r) (a.toList ++ b.toList) (a.extract 0 na ++ b.extract 0 nb ++ out.reverse).toList:=by
 unfold MH at h;rw [Array.toList_append,Array.toList_append,zEH,zEH,Array.toList_reverse];rcases e with rfl | rfl
 ·have:=h.endR.rev;simpa using this
 ·have:=(MI.endL (l:=(a.toList.take na).reverse) (by simpa using h)).rev;simpa using this
theorem MH.firstB (h:MH r a b out na nb) (hl:∀ x ∈ a.toList.take na,∀ y ∈ b.toList.take nb,r y.1 <= r x.1):Mgd (leR r) (a.toList ++ b.toList) (b.extract 0 nb ++ a.extract 0 na ++ out.reverse).toList:=by
 unfold MH at h;have h2:=MI.endR (MI.takeL (p:=(a.toList.take na).reverse) (l:=[]) (by simpa using h) fun x hx y hy=>hl x (by simpa using hx) y (by simpa using hy));rw [Array.toList_append,Array.toList_append,zEH,zEH,Array.toList_reverse];simpa using h2.rev
structure Fr2 (r:Value -> Nat) (a b:Array Keyed) (st st':SortSt) (out:Array Keyed) (na nb:Nat):Prop where
 m:MH r a b out na nb
 s:SameS st st'
 a0:0 < na
 b0:1 < nb
 al:na < a.size
 bl:nb <= b.size
set_option maxHeartbeats 4000000 in
theorem zKX (R:zBw prog w s κ vs r) (ha:∀ x ∈ a.toList,x.1 ∈ vs) (hb:∀ x ∈ b.toList,x.1 ∈ vs) (sa:a.toList.Pairwise (leR r)) (sb:b.toList.Pairwise (leR r)) (h0:0 < a.size) (h1:0 < b.size)
  (hf:∀ y,b[0]? = some y -> ∀ x ∈ a.toList,r y.1 <= r x.1) (hl:∀ y ∈ b.toList,∀ x,a[a.size - 1]? = some x -> r y.1 <= r x.1) {st:SortSt} (hk:kindOf st = κ) {Q:Array Keyed -> SortSt -> Prop}
  (h:∀ out st',SameS st st' -> Mgd (leR r) (a.toList ++ b.toList) out.toList -> Q out st'):wpS (model prog w) A E s (zNq a b) Q st:=by
 have firstB:∀ {out na nb},MH r a b out na nb -> nb = 1 -> Mgd (leR r) (a.toList ++ b.toList) (b.extract 0 nb ++ a.extract 0 na ++ out.reverse).toList:=fun {out na nb} m e=>m.firstB fun x hx y hy=>by
  obtain ⟨j,hj,ej⟩:=zBC hy;have:j = 0:=by omega
  subst this;exact hf y ej x (List.mem_of_mem_take hx)
 have e0:a[a.size - 1]? = some a[a.size - 1]:=zAI (by omega);refine wpS_bind (wpS_lift (zVP ⟨rfl,?_⟩));refine wpS_bind (zZ e0 ?_);have m0:MH r a b #[] (a.size - 1 + 1) b.size:=by
  refine ⟨?_,.nil,?_,?_,(fun x hx=>absurd hx (by simp)),(fun x hx=>absurd hx (by simp))⟩
  ·show ([] ++ ((a.toList.take (a.size - 1 + 1)).reverse ++ (b.toList.take b.size).reverse)).Perm _;rw [zWK,show a.size - 1 + 1 = a.toList.length by simp; omega,show b.size = b.toList.length by simp,List.take_length,List.take_length];exact List.Perm.append (List.reverse_perm _) (List.reverse_perm _)
  ·exact List.pairwise_reverse.mpr (sa.sublist (List.take_sublist _ _))
  ·exact List.pairwise_reverse.mpr (sb.sublist (List.take_sublist _ _))
 have m1:MH r a b #[a[a.size - 1]] (a.size - 1) b.size:=m0.pushA e0 fun y hy=>hl y (List.mem_of_mem_take hy) _ e0;refine zV (fun c1=>wpS_pure (h _ _ (.refl _) (m1.done (.inl (by simpa using c1))))) (fun c1=>?_);refine zV (fun c2=>wpS_pure (h _ _ (.refl _) (firstB m1 (by simpa using c2)))) (fun c2=>?_);have c1':¬ a.size - 1 = 0:=by simpa using c1
 have c2':¬ b.size = 1:=by simpa using c2
 refine wpS_bind (wpS_get ?_);refine wpS_bind (wpS_mono (wpS_forRange (I:=fun x c st'=>∃ out na nb g,c = (none,na,nb,out,g) /\ Fr2 r a b st st' out na nb /\ x + 1 + (na + nb) <= a.size + b.size) (Q:=fun c st'=>∃ res,c.1 = some res /\ SameS st st' /\ Mgd (leR r) (a.toList ++ b.toList) res.toList) ?step ?fin ⟨_,_,_,_,rfl,⟨m1,.refl _,by omega,by omega,by omega,by omega⟩,by omega⟩) ?post)
 case fin=>
  rintro c st' ⟨out,na,nb,g,rfl,f,hx⟩;have:=f.a0; have:=f.b0;omega
 case post=>
  rintro ⟨c1,c2⟩ st' ⟨res,e,hs,hm⟩;dsimp only at e;subst e;exact wpS_pure (h _ _ hs hm)
 case step=>
  rintro x c st' _ hx ⟨out,na,nb,g,rfl,f,hx2⟩;refine wpS_bind (wpS_mono (wpS_forRange (I:=fun y c st'=>∃ out2 na2 nb2 ca cb,c = (none,na2,nb2,out2,ca,cb) /\ Fr2 r a b st st' out2 na2 nb2 /\ na2 + nb2 + y <= na + nb) (Q:=fun c st'=>(∃ res,c.1 = some res /\ SameS st st' /\ Mgd (leR r) (a.toList ++ b.toList) res.toList) \/ ∃ out2 na2 nb2 ca cb,c = (none,na2,nb2,out2,ca,cb) /\ Fr2 r a b st st' out2 na2 nb2 /\ na2 + nb2 + 1 <= na + nb) ?step1 ?fin1 ⟨out,na,nb,_,_,rfl,f,by omega⟩) ?post1)
  case fin1=>
   rintro c st' ⟨out2,na,nb,ca,cb,rfl,f,hy⟩;exact .inr ⟨_,_,_,_,_,rfl,f,by omega⟩
  case step1=>
   rintro y c st' _ hy ⟨out2,na2,nb2,ca,cb,rfl,f,hy2⟩;obtain ⟨p,rfl⟩:∃ p,na2 = p + 1:=⟨na2 - 1,by have:=f.a0; omega⟩;obtain ⟨q,rfl⟩:∃ q,nb2 = q + 1:=⟨nb2 - 1,by have:=f.b0; omega⟩;have hp:p < a.size:=by have:=f.al; omega
   have hq:q < b.size:=by have:=f.bl; omega
   have eb:b[q]? = some b[q]:=zAI hq;have ea:a[p]? = some a[p]:=zAI hp;refine wpS_bind (zZ eb (wpS_bind (zZ ea (wpS_bind (zEA R (f.s.k.trans hk) (hb _ (zA2 eb)) (ha _ (zA2 ea)) ?_)))));dsimp only;by_cases hlt:r b[q].1 < r a[p].1
   ·rw [zVA hlt,zUH rfl];refine wpS_bind (zZ ea ?_);have m2:MH r a b (out2.push a[p]) p (q + 1):=f.m.pushA ea fun z hz=>by
     obtain ⟨j,hj,ej⟩:=zBC hz;have:=zB3 sb (show j <= q by omega) ej eb;omega
    refine zV (fun c3=>wpS_pure (.inl ⟨_,rfl,f.s,m2.done (.inl (by simpa using c3))⟩)) (fun c3=>?_);have f2:Fr2 r a b st st' (out2.push a[p]) p (q + 1):=⟨m2,f.s,by simp at c3; omega,f.b0,by omega,f.bl⟩;exact zV (fun _=>wpS_pure (.inr ⟨_,_,_,_,_,rfl,f2,by omega⟩)) (fun _=>wpS_pure ⟨_,_,_,_,_,rfl,f2,by omega⟩)
   ·rw [zUb hlt,zUK (by decide)];refine wpS_bind (zZ eb ?_);have m2:MH r a b (out2.push b[q]) (p + 1) q:=f.m.pushB eb fun z hz=>by
     obtain ⟨j,hj,ej⟩:=zBC hz;have:=zB3 sa (show j <= p by omega) ej ea;omega
    refine zV (fun c3=>wpS_pure (.inl ⟨_,rfl,f.s,firstB m2 (by simpa using c3)⟩)) (fun c3=>?_);have f2:Fr2 r a b st st' (out2.push b[q]) (p + 1) q:=⟨m2,f.s,f.a0,by have:=f.b0; simp at c3; omega,f.al,by omega⟩;exact zV (fun _=>wpS_pure (.inr ⟨_,_,_,_,_,rfl,f2,by omega⟩)) (fun _=>wpS_pure ⟨_,_,_,_,_,rfl,f2,by omega⟩)
  case post1=>
   rintro ⟨c1,c2⟩ st' (⟨res,e,hs,hm⟩ | ⟨out2,na2,nb2,ca,cb,e,f,hy⟩)
   ·dsimp only at e;subst e;exact wpS_pure ⟨res,rfl,hs,hm⟩
   ·cases e;refine wpS_bind (wpS_lift (zVP ⟨rfl,?_⟩));refine wpS_bind (wpS_mono (wpS_forRange (I:=fun y c st'=>∃ out3 na3 nb3 g ca cb,c = (none,na3,nb3,out3,g,ca,cb) /\ Fr2 r a b st st' out3 na3 nb3 /\ na3 + nb3 <= na2 + nb2) (Q:=fun c st'=>(∃ res,c.1 = some res /\ SameS st st' /\ Mgd (leR r) (a.toList ++ b.toList) res.toList) \/ ∃ out3 na3 nb3 g ca cb,c = (none,na3,nb3,out3,g,ca,cb) /\ Fr2 r a b st st' out3 na3 nb3 /\ na3 + nb3 <= na2 + nb2) ?step2 ?fin2 ⟨out2,na2,nb2,_,_,_,rfl,f,by omega⟩) ?post2)
    case fin2=>
     rintro c st' ⟨out3,na,nb,g,ca,cb,rfl,f,hy⟩;exact .inr ⟨_,_,_,_,_,_,rfl,f,hy⟩
    case post2=>
     rintro ⟨c1,c2⟩ st' (⟨res,e,hs,hm⟩ | ⟨out3,na3,nb3,g,ca,cb,e,f,hz⟩)
     ·dsimp only at e;subst e;exact wpS_pure ⟨res,rfl,hs,hm⟩
     ·cases e;exact wpS_bind (wpS_modify (wpS_pure ⟨out3,na3,nb3,_,rfl,⟨f.m,⟨f.s.k,f.s.a,f.s.p,f.s.f⟩,f.a0,f.b0,f.al,f.bl⟩,by omega⟩))
    case step2=>
     rintro y c st' _ hy ⟨out3,na3,nb3,g,ca,cb,rfl,f,hy2⟩;obtain ⟨q,rfl⟩:∃ q,nb3 = q + 1:=⟨nb3 - 1,by have:=f.b0; omega⟩;have hq:q < b.size:=by have:=f.bl; omega
     have hq0:0 < q:=by have:=f.b0; omega
     have hn0:=f.a0;have hnl:=f.al;have eb:b[q]? = some b[q]:=zAI hq;refine zV (fun _=>?_) (fun _=>?_)
     all_goals
      refine wpS_bind (wpS_modify ?_);refine wpS_bind (zZ eb ?_);have hs2:=f.s;refine wpS_bind (zEf (left:=false) (key:=b[q]) (arr:=a) (base:=0) (n:=na3) (hint:=na3 - 1) R (hs2.k.trans hk) (hb _ (zA2 eb)) (fun i hi=>⟨_,zAI (by omega),ha _ (zA2 (zAI (by omega)))⟩) (fun i j x y hij hj ex ey=>zB3 sa (by omega) ex ey) (by omega) fun k hk1 g1 g2=>?_);have aft:∀ x ∈ a.toList.take k,r x.1 <= r b[q].1:=fun x hx=>by
       obtain ⟨j,hj,ej⟩:=zBC hx;exact g1 j x hj (by rw [Nat.zero_add]; exact ej)
      have m4:=f.m.blockA hk1 fun j x h1 h2 ej y hy=>by
       obtain ⟨i,hi,ei⟩:=zBC hy;have z1:=zB3 sb (show i <= q by omega) ei eb;have z2:r b[q].1 < r x.1:=g2 j x h1 h2 (by rw [Nat.zero_add]; exact ej);omega
      refine zV (fun hk0=>?_) (fun hk0=>?_)
      case' refine_1=>
       refine zV (fun c4=>wpS_pure (.inl ⟨_,rfl,⟨hs2.k,hs2.a,hs2.p,hs2.f⟩,m4.done (.inl (by simpa using c4))⟩)) (fun c4=>?_);have a4:0 < k:=by simp at c4; omega
      case' refine_2=>
       have hk00:k = na3:=by simp at hk0; omega
       subst hk00;replace m4:=f.m;have a4:=hn0
      all_goals
       refine wpS_bind (zZ eb ?_);have m5:=m4.pushB eb aft;refine zV (fun c6=>wpS_pure (.inl ⟨_,rfl,⟨hs2.k,hs2.a,hs2.p,hs2.f⟩,firstB m5 (by simpa using c6)⟩)) (fun c6=>?_);have c6':1 < q:=by simp at c6; omega
       obtain ⟨p,rfl⟩:∃ p,k = p + 1:=⟨k - 1,by omega⟩;have hp:p < a.size:=by omega
       have ea4:a[p]? = some a[p]:=zAI hp;refine wpS_bind (zZ ea4 ?_);refine wpS_bind (zEf (left:=true) (key:=a[p]) (arr:=b) (base:=0) (n:=q) (hint:=q - 1) R (hs2.k.trans hk) (ha _ (zA2 ea4)) (fun i hi=>⟨_,zAI (by omega),hb _ (zA2 (zAI (by omega)))⟩) (fun i j x y hij hj ex ey=>zB3 sb (by omega) ex ey) (by omega) fun k2 hk2 g3 g4=>?_);have aft2:∀ y ∈ b.toList.take k2,r y.1 <= r a[p].1:=fun y hy=>by
        obtain ⟨j,hj,ej⟩:=zBC hy;exact zWy (g3 j y hj (by rw [Nat.zero_add]; exact ej))
       have m6:=m5.blockB hk2 fun j x h1 h2 ej y hy=>by
        obtain ⟨i,hi,ei⟩:=zBC hy;have z1:=zB3 sa (show i <= p by omega) ei ea4;have z2:r a[p].1 <= r x.1:=g4 j x h1 h2 (by rw [Nat.zero_add]; exact ej);omega
       refine zV (fun hk3=>?_) (fun hk3=>?_)
       case' refine_1=>
        refine zV (fun c7=>wpS_pure (.inl ⟨_,rfl,⟨hs2.k,hs2.a,hs2.p,hs2.f⟩,firstB m6 (by simpa using c7)⟩)) (fun c7=>zV (fun c8=>wpS_pure (.inl ⟨_,rfl,⟨hs2.k,hs2.a,hs2.p,hs2.f⟩,m6.done (.inr (by simpa using c8))⟩)) (fun c8=>?_));have b6:1 < k2:=by simp at c7 c8; omega
       case' refine_2=>
        have hk00:k2 = q:=by simp at hk3; omega
        subst hk00;replace m6:=m5;have b6:=c6'
       all_goals
        refine wpS_bind (zZ ea4 ?_);have m7:=m6.pushA ea4 aft2;refine zV (fun c9=>wpS_pure (.inl ⟨_,rfl,⟨hs2.k,hs2.a,hs2.p,hs2.f⟩,m7.done (.inl (by simpa using c9))⟩)) (fun c9=>?_);have a7:0 < p:=by simp at c9; omega
        exact zV (fun _=>wpS_pure (.inr ⟨_,p,k2,_,_,_,rfl,⟨m7,⟨hs2.k,hs2.a,hs2.p,hs2.f⟩,a7,b6,by omega,by omega⟩,by omega⟩)) (fun _=>wpS_pure ⟨_,p,k2,_,_,_,rfl,⟨m7,⟨hs2.k,hs2.a,hs2.p,hs2.f⟩,a7,b6,by omega,by omega⟩,by omega⟩)
end
section
variable {prog:Program} {w:World} {A:Around} {E:Value -> Shared -> Prop} {s:Shared} {κ:SortKind} {vs:List Value} {r:Value -> Nat}
theorem zJD:∀ (m:List Keyed) (k sa:Nat) (arr:Array Keyed),sa + k + m.length <= arr.size -> ((m.zipIdx k).foldl (fun a x=>match x with | (p,j)=>a.setIfInBounds (sa + j) p) arr).toList = arr.toList.take (sa + k) ++ m ++ arr.toList.drop (sa + k + m.length)
 | [],k,sa,arr,h=>by simp
 | x :: m,k,sa,arr,h=>by
  rw [List.zipIdx_cons,List.foldl_cons];simp only [zUZ] at h;rw [zJD m (k + 1) sa _ (by rw [Array.size_setIfInBounds]; omega)];rw [Array.toList_setIfInBounds];have hl:arr.toList.length = arr.size:=by simp
  have e1:(arr.toList.set (sa + k) x).take (sa + (k + 1)) = arr.toList.take (sa + k) ++ [x]:=by
   rw [show sa + (k + 1) = (sa + k) + 1 by omega,List.take_add_one,List.take_set,zUw (by omega)];rw [List.set_eq_of_length_le (by simp; omega)];simp
  have e2:(arr.toList.set (sa + k) x).drop (sa + (k + 1) + m.length) = arr.toList.drop (sa + k + (m.length + 1)):=by
   rw [List.drop_set_of_lt (by omega)];congr 1; omega
  rw [e1,e2];simp
theorem zNN {T R1 U:List Keyed} {i:Nat} (h:i < R1.length):(T ++ (R1 ++ U))[T.length + i]? = R1[i]?:=by
 rw [zVC (by omega),zT9 (by omega)];congr 1; omega
theorem zM3 {l:List Keyed} {k:Nat} {x:Keyed} (h:x ∈ l.take k):∃ j,j < k /\ l[j]? = some x:=by
 obtain ⟨j,e⟩:=List.mem_iff_getElem?.mp h;rw [List.getElem?_take] at e;split at e
 ·exact ⟨j,by assumption,e⟩
 ·cases e
theorem zOi {l:List Keyed} {k:Nat} {x:Keyed} (h:x ∈ l.drop k):∃ j,k <= j /\ l[j]? = some x:=by
 obtain ⟨j,e⟩:=List.mem_iff_getElem?.mp h;rw [List.getElem?_drop] at e;exact ⟨k + j,by omega,e⟩
theorem zJb (R:zBw prog w s κ vs r) {st:SortSt} (hk:kindOf st = κ) (hfl:failedOf st = none) {i sa na pw sb nb pw2:Nat} {T R1 R2 U:List Keyed} (ha:(arrOf st).toList = T ++ (R1 ++ (R2 ++ U))) (hv:∀ x ∈ (arrOf st).toList,x.1 ∈ vs) (hT:T.length = sa) (h1:R1.length = na) (hsb:sb = sa + na) (h2:R2.length = nb) (n1:0 < na) (n2:0 < nb)
  (s1:R1.Pairwise (leR r)) (s2:R2.Pairwise (leR r)) (e1:(pendingOf st)[i]? = some (sa,na,pw)) (e2:(pendingOf st)[i + 1]? = some (sb,nb,pw2)) {Q:Bool -> SortSt -> Prop}
  (h:∀ m st',kindOf st' = κ -> failedOf st' = none -> pendingOf st' = ((pendingOf st).setIfInBounds i (sa,na + nb,pw)).eraseIdxIfInBounds (i + 1) -> (arrOf st').toList = T ++ (m ++ U) -> m.Perm (R1 ++ R2) -> m.Pairwise (leR r) -> Q true st') :
  wpS (model prog w) A E s (mergeAt' i) Q st:=by
 subst hT h1 h2 hsb;have at1:∀ j,j < R1.length -> (arrOf st)[T.length + j]? = R1[j]?:=fun j hj=>by rw [<- zVh,ha]; exact zNN hj
 have at2:∀ j,j < R2.length -> (arrOf st)[T.length + R1.length + j]? = R2[j]?:=fun j hj=>by
  rw [<- zVh,ha,<- zU8,show T.length + R1.length = (T ++ R1).length by simp]; exact zNN hj
 have srt1:∀ {i j:Nat} {x y:Keyed},i <= j -> R1[i]? = some x -> R1[j]? = some y -> r x.1 <= r y.1:=fun {i j x y} hij ex ey=>zB3 (a:=R1.toArray) (by simpa using s1) hij (by simpa using ex) (by simpa using ey);have srt2:∀ {i j:Nat} {x y:Keyed},i <= j -> R2[i]? = some x -> R2[j]? = some y -> r x.1 <= r y.1:=fun {i j x y} hij ex ey=>zB3 (a:=R2.toArray) (by simpa using s2) hij (by simpa using ex) (by simpa using ey);have v1:∀ x ∈ R1,x.1 ∈ vs:=fun x hx=>hv x (by rw [ha]; simp [hx]);have v2:∀ x ∈ R2,x.1 ∈ vs:=fun x hx=>hv x (by rw [ha]; simp [hx]);have g1:∀ {j} (hj:j < R1.length),R1[j]? = some R1[j]:=fun hj=>zT6 hj;have g2:∀ {j} (hj:j < R2.length),R2[j]? = some R2[j]:=fun hj=>zT6 hj;refine wpS_bind (wpS_get ?_);rw [e1,e2];have eb0:(arrOf st)[T.length + R1.length]? = some R2[0]:=(at2 0 n2).trans (g2 n2);refine wpS_bind (wpS_modify ?_);refine wpS_bind (zZ eb0 ?_);refine wpS_bind (zEf (left:=false) (key:=R2[0]) (arr:=arrOf st) (base:=T.length) (n:=R1.length) (hint:=0) R hk (v2 _ (zUa n2)) (fun j hj=>⟨_,(at1 j hj).trans (g1 hj),v1 _ (zUa hj)⟩) (fun i j x y hij hj ex ey=>srt1 hij ((at1 i (by omega)).symm.trans ex) ((at1 j hj).symm.trans ey)) n1 fun k hk1 q1 q2=>?_);have hP:∀ x ∈ R1.take k,r x.1 <= r R2[0].1:=fun x hx=>by
  obtain ⟨j,hj,ej⟩:=zM3 hx;exact q1 j x hj ((at1 j (by omega)).trans ej)
 have hX:∀ x ∈ R1.drop k,r R2[0].1 <= r x.1:=fun x hx=>by
  obtain ⟨j,hj,ej⟩:=zOi hx;have hl:=(zT0.mp ej).1;exact zWy (q2 j x hj hl ((at1 j hl).trans ej))
 have h0:∀ y ∈ R2,r R2[0].1 <= r y.1:=fun y hy=>by
  obtain ⟨j,ej⟩:=List.mem_iff_getElem?.mp hy;exact srt2 (zUo _) (g2 n2) ej
 refine zV (fun c1=>?_) (fun c1=>?_)
 ·have hk2:R1.length <= k:=by simp at c1; omega
  rw [List.take_of_length_le hk2] at hP;exact wpS_pure (h (R1 ++ R2) _ hk hfl rfl (by rw [ha]; simp) (.refl _) (List.pairwise_append.mpr ⟨s1,s2,fun x hx y hy=>zUT (hP x hx) (h0 y hy)⟩))
 have hkl:k < R1.length:=by simp at c1; omega
 have nl:R1.length - 1 < R1.length:=by omega
 have eL:(arrOf st)[T.length + k + (R1.length - k) - 1]? = some R1[R1.length - 1]:=by
  rw [show T.length + k + (R1.length - k) - 1 = T.length + (R1.length - 1) by omega];exact (at1 _ nl).trans (g1 nl)
 refine wpS_bind (zZ eL ?_);refine wpS_bind (zEf (left:=true) (key:=R1[R1.length - 1]) (arr:=arrOf st) (base:=T.length + R1.length) (n:=R2.length) (hint:=R2.length - 1) R hk (v1 _ (zUa nl)) (fun j hj=>⟨_,(at2 j hj).trans (g2 hj),v2 _ (zUa hj)⟩) (fun i j x y hij hj ex ey=>srt2 hij ((at2 i (by omega)).symm.trans ex) ((at2 j hj).symm.trans ey)) (by omega) fun k2 hk2 q3 q4=>?_);have hXl:∀ x ∈ R1,r x.1 <= r R1[R1.length - 1].1:=fun x hx=>by
  obtain ⟨j,ej⟩:=List.mem_iff_getElem?.mp hx;have hl:=(zT0.mp ej).1;exact srt1 (by omega) ej (g1 nl)
 have hY:∀ y ∈ R2.take k2,r y.1 <= r R1[R1.length - 1].1:=fun y hy=>by
  obtain ⟨j,hj,ej⟩:=zM3 hy;exact zWy (q3 j y hj ((at2 j (by omega)).trans ej))
 have hS:∀ y ∈ R2.drop k2,r R1[R1.length - 1].1 <= r y.1:=fun y hy=>by
  obtain ⟨j,hj,ej⟩:=zOi hy;have hl:=(zT0.mp ej).1;exact q4 j y hj hl ((at2 j hl).trans ej)
 refine zV (fun c2=>?_) (fun c2=>?_)
 ·have:k2 = 0:=by simpa using c2
  subst this;exact wpS_pure (h (R1 ++ R2) _ hk hfl rfl (by rw [ha]; simp) (.refl _) (List.pairwise_append.mpr ⟨s1,s2,fun x hx y hy=>zUT (hXl x hx) (hS y (by simpa using hy))⟩))
 have hk20:0 < k2:=by simp at c2; omega
 have eX:((arrOf st).extract (T.length + k) (T.length + R1.length)).toList = R1.drop k:=by
  rw [Array.toList_extract,List.extract_eq_take_drop,ha,List.drop_append,List.drop_of_length_le (by omega),zWK,show T.length + k - T.length = k by omega,List.drop_append_of_le_length (by omega),show T.length + R1.length - (T.length + k) = (R1.drop k).length by simp; omega,List.take_left'];rfl
 have eY:((arrOf st).extract (T.length + R1.length) (T.length + R1.length + k2)).toList = R2.take k2:=by
  rw [zFn,ha,<- zU8,show T.length + R1.length = (T ++ R1).length by simp,List.drop_left',List.take_append_of_le_length hk2];rfl
 generalize hx0:(arrOf st).extract (T.length + k) (T.length + R1.length) = x0 at eX;generalize hy0:(arrOf st).extract (T.length + R1.length) (T.length + R1.length + k2) = y0 at eY;have zx:x0.size = R1.length - k:=by rw [<- zUl,eX,List.length_drop]
 have zy:y0.size = k2:=by rw [<- zUl,eY,zVQ]; omega
 have w1:∀ y,y0[0]? = some y -> ∀ x ∈ x0.toList,r y.1 <= r x.1:=fun y ey x hx=>by
  rw [<- zVh,eY,List.getElem?_take,zUH hk20,g2 n2] at ey;cases ey;rw [eX] at hx;exact hX x hx
 have w2:∀ y ∈ y0.toList,∀ x,x0[x0.size - 1]? = some x -> r y.1 <= r x.1:=fun y hy x ex=>by
  rw [<- zVh,eX,List.getElem?_drop,zx,show k + (R1.length - k - 1) = R1.length - 1 by omega,g1 nl] at ex;cases ex;rw [eY] at hy;exact hY y hy
 have fin:∀ (out:Array Keyed) (st':SortSt),SameS (SortSt.mk' (kindOf st) (arrOf st) (((pendingOf st).setIfInBounds i (T.length,R1.length + R2.length,pw)).eraseIdxIfInBounds (i + 1)) (gallopOf st) (failedOf st)) st' -> Mgd (leR r) (x0.toList ++ y0.toList) out.toList ->
   wpS (model prog w) A E s (do
    modify fun s=>setArr s (out.toList.zipIdx.foldl (fun a x=>match x with | (p,j)=>a.setIfInBounds (T.length + k + j) p) (arrOf s));let s <- get;pure (failedOf s).isNone) Q st':=by
  intro out st' sm mg;refine wpS_bind (wpS_modify (wpS_bind (wpS_get ?_)));have hf:failedOf st' = none:=sm.f.trans hfl;show wpS _ _ _ _ (pure (failedOf st').isNone) _ _;rw [hf];rw [eX,eY] at mg;have hlen:out.toList.length = (R1.length - k) + k2:=by
   rw [mg.1.length_eq,zUI,List.length_drop,zVQ]; omega
  have ea:arrOf st' = arrOf st:=sm.a;have e3:((out.toList.zipIdx).foldl (fun a x=>match x with | (p,j)=>a.setIfInBounds (T.length + k + j) p) (arrOf st')).toList = T ++ ((R1.take k ++ (out.toList ++ R2.drop k2)) ++ U):=by
   have hsz:(arrOf st').size = T.length + (R1.length + (R2.length + U.length)):=by rw [ea,<- zUl,ha]; simp
   rw [zJD out.toList 0 (T.length + k) (arrOf st') (by omega),ea,ha];have t1:List.take (T.length + k + 0) (T ++ (R1 ++ (R2 ++ U))) = T ++ R1.take k:=by
    rw [Nat.add_zero,List.take_append,List.take_of_length_le (by omega),show T.length + k - T.length = k by omega,List.take_append_of_le_length (by omega)]
   have t2:List.drop (T.length + k + 0 + out.toList.length) (T ++ (R1 ++ (R2 ++ U))) = R2.drop k2 ++ U:=by
    rw [show T.length + k + 0 + out.toList.length = (T ++ R1).length + k2 by rw [hlen]; simp; omega,<- zU8,List.drop_append,List.drop_of_length_le (by omega),zWK,show (T ++ R1).length + k2 - (T ++ R1).length = k2 by omega,List.drop_append_of_le_length hk2]
   rw [t1,t2];simp
  have p1:=List.pairwise_append.mp (show (R1.take k ++ R1.drop k).Pairwise (leR r) by rw [zWp]; exact s1);have p2:=List.pairwise_append.mp (show (R2.take k2 ++ R2.drop k2).Pairwise (leR r) by rw [zWp]; exact s2);have mo:∀ x,x ∈ out.toList -> x ∈ R1.drop k \/ x ∈ R2.take k2:=fun x hx=>zUS.mp (mg.1.mem_iff.mp hx);refine wpS_pure (h (R1.take k ++ (out.toList ++ R2.drop k2)) _ (sm.k.trans hk) hf sm.p e3 ?_ ?_)
  ·refine ((mg.1.append_right (R2.drop k2)).append_left (R1.take k)).trans ?_;rw [zU8,zWp,<- zU8,zWp]
  ·refine List.pairwise_append.mpr ⟨p1.1,List.pairwise_append.mpr ⟨mg.2,p2.2.1,fun x hx y hy=>?_⟩,fun x hx y hy=>?_⟩
   ·rcases mo x hx with z | z
    ·exact zUT (hXl x (List.mem_of_mem_drop z)) (hS y hy)
    ·exact p2.2.2 x z y hy
   ·rcases zUS.mp hy with z | z
    ·rcases mo y z with z | z
     ·exact p1.2.2 x hx y z
     ·exact zUT (hP x hx) (h0 y (List.mem_of_mem_take z))
    ·exact zUT (hP x hx) (h0 y (List.mem_of_mem_drop z))
 have x1:∀ x ∈ x0.toList,x.1 ∈ vs:=fun x hx=>v1 x (List.mem_of_mem_drop (eX ▸ hx));have y1:∀ x ∈ y0.toList,x.1 ∈ vs:=fun x hx=>v2 x (List.mem_of_mem_take (eY ▸ hx));have x2:x0.toList.Pairwise (leR r):=eX ▸ s1.sublist (List.drop_sublist _ _);have y2:y0.toList.Pairwise (leR r):=eY ▸ s2.sublist (List.take_sublist _ _);refine zV (fun c3=>?_) (fun c3=>?_)
 ·subst hx0 hy0;refine wpS_bind (zJw R x1 y1 x2 y2 (by omega) (by omega) w1 w2 ?_ fin);exact hk
 ·subst hx0 hy0;refine wpS_bind (zKX R x1 y1 x2 y2 (by omega) (by omega) w1 w2 ?_ fin);exact hk
end
def KR (r:Value -> Nat) (xs:Array Keyed) (i:Nat):Nat:=match xs[i]? with
 | some p=>r p.1
 | none=>0
def RUp (r:Value -> Nat) (xs:Array Keyed) (lo hi:Nat):Prop:=∀ i j,lo <= i -> i <= j -> j < hi -> KR r xs i <= KR r xs j
def RDn (r:Value -> Nat) (xs:Array Keyed) (lo hi:Nat):Prop:=∀ i j,lo <= i -> i <= j -> j < hi -> KR r xs j <= KR r xs i
section
variable {prog:Program} {w:World} {A:Around} {E:Value -> Shared -> Prop} {s:Shared} {κ:SortKind} {vs:List Value} {r:Value -> Nat}
theorem zCn {xs ys:Array Keyed} {i j:Nat} (h:xs[i]? = ys[j]?):KR r xs i = KR r ys j:=by unfold KR; rw [h]
theorem zEi {xs:Array Keyed} {i j:Nat} (hj:j <= xs.size) (k:Nat):KR r (mirror xs i j ((j - i) / 2)) k = if i <= k /\ k < j then KR r xs (i + j - 1 - k) else KR r xs k:=by
 have e:=getElem?_mirror_all (i:=i) hj k;split at e
 ·rw [zUH (by assumption)]; exact zCn e
 ·rw [zUK (by assumption)]; exact zCn e
theorem zGf {xs:Array Keyed} {src d:Nat} (hs:src < xs.size) (hd:d <= src) (k:Nat):KR r (bubble xs src d) k = if k = src - d then KR r xs src else if src - d < k /\ k <= src then KR r xs (k - 1) else KR r xs k:=by
 have e:=getElem?_bubble hs d hd k;split at e
 ·rw [zUH (by assumption)]; exact zCn e
 ·rw [zUK (by assumption)];split at e
  ·rw [zUH (by assumption)]; exact zCn e
  ·rw [zUK (by assumption)]; exact zCn e
theorem zEB {xs:Array Keyed} {i j:Nat} (hj:j <= xs.size) (he:∀ k,i <= k -> k < j -> KR r xs k = KR r xs (j - 1)) (k:Nat):KR r (mirror xs i j ((j - i) / 2)) k = KR r xs k:=by
 rw [zEi hj];split
 ·rw [he _ (by omega) (by omega),he k (by omega) (by omega)]
 ·rfl
structure CB (lo:Nat) (st0 st:SortSt):Prop where
 k:kindOf st = kindOf st0
 p:pendingOf st = pendingOf st0
 f:failedOf st = failedOf st0
 perm:(arrOf st).Perm (arrOf st0)
 pre:∀ j,j < lo -> (arrOf st)[j]? = (arrOf st0)[j]?
theorem CB.refl (lo:Nat) (st:SortSt):CB lo st st:=⟨rfl,rfl,rfl,.refl _,fun _ _=>rfl⟩
theorem CB.size {lo:Nat} {st0 st:SortSt} (h:CB lo st0 st):(arrOf st).size = (arrOf st0).size:=h.perm.size_eq
theorem CB.mir {lo i j:Nat} {st0 st:SortSt} (h:CB lo st0 st) (hi:lo <= i) (hj:j <= (arrOf st0).size):CB lo st0 (setArr st (mirror (arrOf st) i j ((j - i) / 2))) :=
 ⟨h.k,h.p,h.f,(mirror_perm _ _ _ _).trans h.perm,fun k hk=>by
  show (mirror (arrOf st) i j ((j - i) / 2))[k]? = _;rw [getElem?_mirror_all (by rw [h.size]; exact hj),zUK (by omega)]; exact h.pre k hk⟩
theorem CB.bub {lo src d:Nat} {st0 st:SortSt} (h:CB lo st0 st) (hs:src < (arrOf st0).size) (hd:d <= src) (hl:lo <= src - d):CB lo st0 (setArr st (bubble (arrOf st) src d)) :=
 ⟨h.k,h.p,h.f,(bubble_perm _ _ _).trans h.perm,fun k hk=>by
  show (bubble (arrOf st) src d)[k]? = _;rw [getElem?_bubble (by rw [h.size]; exact hs) d hd,zUK (by omega),zUK (by omega)]; exact h.pre k hk⟩
variable {st0 st:SortSt} {lo nrem n:Nat}
theorem zIU (R:zBw prog w s κ vs r) (hk:kindOf st0 = κ) (hv:∀ x ∈ (arrOf st0).toList,x.1 ∈ vs) (c:CB lo st0 st) {i j:Nat} (hi:i < (arrOf st0).size) (hj:j < (arrOf st0).size) {Q:Option Bool -> SortSt -> Prop} (h:Q (some (decide (KR r (arrOf st) i < KR r (arrOf st) j))) st) :
  wpS (model prog w) A E s (ltAt' i j) Q st:=by
 have ei:(arrOf st)[i]? = some ((arrOf st)[i]'(by rw [c.size]; exact hi)):=zAI _;have ej:(arrOf st)[j]? = some ((arrOf st)[j]'(by rw [c.size]; exact hj)):=zAI _;have pm:=Array.perm_iff_toList_perm.mp c.perm;refine zLe R (c.k.trans hk) ei ej (hv _ (pm.mem_iff.mp (zA2 ei))) (hv _ (pm.mem_iff.mp (zA2 ej))) ?_;unfold KR at h;rw [ei,ej] at h;exact h
def zSx (lo a nrem:Nat):StateT SortSt Sem (Option (Option Nat) × Nat):=forIn [a:nrem] ((none,a):Option (Option Nat) × Nat) fun _ c=>do
 let x <- ltAt' (lo + c.2) (lo + c.2 - 1)
 match x with
 | some smaller=>if smaller = true then pure (ForInStep.done (none,c.2)) else pure (ForInStep.yield (none,c.2 + 1))
 | _=>pure (ForInStep.done (some none,c.2))
theorem zNU (R:zBw prog w s κ vs r) (hk:kindOf st0 = κ) (hv:∀ x ∈ (arrOf st0).toList,x.1 ∈ vs) (c:CB lo st0 st) (hz:lo + nrem <= (arrOf st0).size) (h1:1 <= n) (h2:n <= nrem) (hu:RUp r (arrOf st) lo (lo + n)) {Q:Option (Option Nat) × Nat -> SortSt -> Prop}
  (h:∀ m,n <= m -> m <= nrem -> RUp r (arrOf st) lo (lo + m) -> (m = nrem \/ KR r (arrOf st) (lo + m) < KR r (arrOf st) (lo + m - 1)) -> Q (none,m) st):wpS (model prog w) A E s (zSx lo n nrem) Q st:=by
 unfold zSx;refine wpS_forRange (I:=fun x c st'=>st' = st /\ c = (none,x) /\ RUp r (arrOf st) lo (lo + x)) ?step ?fin ⟨rfl,rfl,hu⟩
 case fin=>
  rintro c' st' ⟨rfl,rfl,hs⟩;rw [show max n nrem = nrem by omega] at hs ⊢;exact h nrem h2 (zT8 _) hs (.inl rfl)
 case step=>
  rintro x c' st' hax hxn ⟨rfl,rfl,hs⟩;refine wpS_bind (zIU R hk hv c (by omega) (by omega) ?_);dsimp only;by_cases hl:KR r (arrOf st') (lo + x) < KR r (arrOf st') (lo + x - 1)
  ·rw [zVA hl,zUH rfl];exact wpS_pure (h x hax (by omega) hs (.inr hl))
  ·rw [zUb hl,zUK (by decide)];refine wpS_pure ⟨rfl,rfl,fun i j h3 h4 h5=>?_⟩;by_cases hj:j < lo + x
   ·exact hs i j h3 h4 hj
   ·have hj':j = lo + x:=by omega
    by_cases hij:i = j
    ·rw [hij]; exact zT8 _
    ·have:=hs i (lo + x - 1) h3 (by omega) (by omega);rw [hj']; omega
theorem zIm (R:zBw prog w s κ vs r) (hk:kindOf st0 = κ) (hv:∀ x ∈ (arrOf st0).toList,x.1 ∈ vs) (hz:lo + nrem <= (arrOf st0).size) (h1:1 <= nrem) {Q:Option Nat -> SortSt -> Prop}
  (h:∀ m st,CB lo st0 st -> 1 <= m -> m <= nrem -> RUp r (arrOf st) lo (lo + m) -> Q (some m) st):wpS (model prog w) A E s (countRun' lo nrem) Q st0:=by
 have one:∀ xs,RUp r xs lo (lo + 1):=fun xs i j a b c=>by rw [show i = j by omega]; exact zT8 _
 refine wpS_bind (zNU R hk hv (.refl lo st0) hz (zT8 1) h1 (one _) fun n n1 n2 hu hor=>?_);refine zV (fun c1=>wpS_pure (h n st0 (.refl lo st0) n1 n2 hu)) (fun c1=>?_);have hn:n < nrem:=by simp at c1; omega
 have hlt:=hor.resolve_left (by omega);have mirU:∀ {st:SortSt} {n m neq:Nat},CB lo st0 st -> m <= nrem -> RDn r (arrOf st) lo (lo + m) -> RUp r (mirror (arrOf st) lo (lo + m) ((lo + m - lo) / 2)) lo (lo + m):=fun {st n m neq} c hm hd i j a1 a2 a3=>by
  rw [zEi (by rw [c.size]; omega),zEi (by rw [c.size]; omega),zUH (by omega),zUH (by omega)];exact hd _ _ (by omega) (by omega) (by omega)
 refine zV (fun c2=>?_) (fun c2=>?_)
 case' refine_1=>
  refine wpS_bind (zIU R hk hv (.refl lo st0) (by omega) (by dsimp only; omega) ?_);dsimp only;by_cases hrose:KR r (arrOf st0) lo < KR r (arrOf st0) (lo + n - 1)
  case pos=>
   rw [zVA hrose,zUH rfl];exact wpS_pure (h n st0 (.refl lo st0) n1 n2 hu)
  case' neg=>
   rw [zUb hrose,zUK (by decide)];have hall:∀ k,lo <= k -> k < lo + n -> KR r (arrOf st0) k = KR r (arrOf st0) (lo + n - 1):=fun k k1 k2=>by
    have a1:=hu lo k (zT8 _) k1 k2;have a2:=hu k (lo + n - 1) k1 (by omega) (by omega);omega
   refine wpS_bind (wpS_modify ?_);have cb:CB lo st0 (setArr st0 (mirror (arrOf st0) lo (lo + n) ((lo + n - lo) / 2))):=(CB.refl lo st0).mir (zT8 _) (by omega);have dn:RDn r (mirror (arrOf st0) lo (lo + n) ((lo + n - lo) / 2)) lo (lo + (n + 1)):=fun i j a1 a2 a3=>by
    rw [zEB (by omega) hall,zEB (by omega) hall];by_cases hj:j < lo + n
    ·rw [hall i a1 (by omega),hall j (by omega) hj]; exact zT8 _
    ·by_cases hi:i < lo + n
     ·rw [hall i a1 hi,show j = lo + n by omega]; omega
     ·rw [show i = j by omega]; exact zT8 _
 case' refine_2=>
  have cb:CB lo st0 st0:=.refl lo st0;have dn:RDn r (arrOf st0) lo (lo + (n + 1)):=fun i j a1 a2 a3=>by
   have hn1:n = 1:=by dsimp only at c2; omega
   subst hn1;by_cases hij:i = j
   ·rw [hij]; exact zT8 _
   ·rw [show i = lo by omega,show j = lo + 1 by omega];rw [show lo + 1 - 1 = lo by omega] at hlt;omega
 all_goals
  refine wpS_bind (wpS_lift (zVP ⟨rfl,?_⟩));refine wpS_bind (wpS_mono (wpS_forRange (I:=fun x c st'=>∃ neq,c = (none,x,neq) /\ CB lo st0 st' /\ RDn r (arrOf st') lo (lo + x) /\ neq + 1 <= x /\ ∀ i,lo + x - (neq + 1) <= i -> i < lo + x -> KR r (arrOf st') i = KR r (arrOf st') (lo + x - 1)) (Q:=fun c st'=>∃ x neq,c = (none,x,neq) /\ CB lo st0 st' /\ 1 <= x /\ x <= nrem /\ RDn r (arrOf st') lo (lo + x) /\ neq + 1 <= x /\ ∀ i,lo + x - (neq + 1) <= i -> i < lo + x -> KR r (arrOf st') i = KR r (arrOf st') (lo + x - 1)) ?step ?fin ⟨0,rfl,cb,dn,by omega,fun i a1 a2=>by congr 1; omega⟩) ?post)
  case fin=>
   rintro c st' ⟨neq,rfl,cb,dn,q1,q2⟩;rw [show max (n + 1) nrem = nrem by omega] at dn q1 q2 ⊢;exact ⟨nrem,neq,rfl,cb,h1,zT8 _,dn,q1,q2⟩
  case step=>
   rintro x c st' hx1 hx2 ⟨neq,rfl,cb,dn,q1,q2⟩;have hx1':n + 1 <= x:=hx1;refine wpS_bind (zIU R hk hv cb (by dsimp only; omega) (by dsimp only; omega) ?_);dsimp only;have step1:∀ ys:Array Keyed,(∀ k,KR r ys k = KR r (arrOf st') k) -> KR r (arrOf st') (lo + x) <= KR r (arrOf st') (lo + x - 1) -> RDn r ys lo (lo + (x + 1)):=fun ys hy hle i j a1 a2 a3=>by
    rw [hy,hy];by_cases hj:j < lo + x
    ·exact dn i j a1 a2 hj
    ·by_cases hij:i = j
     ·rw [hij]; exact zT8 _
     ·have:=dn i (lo + x - 1) a1 (by omega) (by omega);rw [show j = lo + x by omega]; omega
   by_cases hl:KR r (arrOf st') (lo + x) < KR r (arrOf st') (lo + x - 1)
   ·rw [zVA hl,zUH rfl];refine zV (fun c3=>wpS_bind (wpS_modify (wpS_pure ⟨0,rfl,cb.mir (by omega) (by omega),step1 _ (zEB (by rw [cb.size]; omega) q2) (by omega),by omega,fun i a1 a2=>by congr 1; omega⟩))) (fun c3=>wpS_pure ⟨0,rfl,cb,step1 _ (fun _=>rfl) (by omega),by omega,fun i a1 a2=>by congr 1; omega⟩)
   ·rw [zUb hl,zUK (by decide)];refine wpS_bind (zIU R hk hv cb (by omega) (by omega) ?_);dsimp only;by_cases hg:KR r (arrOf st') (lo + x - 1) < KR r (arrOf st') (lo + x)
    ·rw [zVA hg,zUH rfl];exact wpS_pure ⟨x,neq,rfl,cb,by omega,by omega,dn,q1,q2⟩
    ·rw [zUb hg,zUK (by decide)];refine wpS_pure ⟨neq + 1,rfl,cb,step1 _ (fun _=>rfl) (by omega),by omega,fun i a1 a2=>?_⟩;rw [show lo + (x + 1) - 1 = lo + x by omega];by_cases hi:i = lo + x
     ·rw [hi]
     ·rw [q2 i (by omega) (by omega)]; omega
  case post=>
   rintro c st' ⟨x,neq,rfl,cb,x1,x2,dn,q1,q2⟩;refine zV (fun c3=>?_) (fun c3=>?_)
   case' refine_1=>
    refine wpS_bind (wpS_modify ?_);replace dn:RDn r (mirror (arrOf st') (lo + x - (neq + 1)) (lo + x) ((lo + x - (lo + x - (neq + 1))) / 2)) lo (lo + x):=fun i j a1 a2 a3=>by
     rw [zEB (by rw [cb.size]; omega) q2,zEB (by rw [cb.size]; omega) q2]; exact dn i j a1 a2 a3
    replace cb:=cb.mir (i:=lo + x - (neq + 1)) (j:=lo + x) (by omega) (by omega)
   all_goals
    refine wpS_bind (wpS_modify ?_);have cb2:=cb.mir (i:=lo) (j:=lo + x) (zT8 _) (by omega);refine wpS_bind (zNU R hk hv cb2 hz x1 x2 (mirU (n:=0) (neq:=0) cb x2 dn) fun m m1 m2 hu2 _=>wpS_pure (h m _ cb2 (by omega) m2 hu2))
end
section
variable {prog:Program} {w:World} {A:Around} {E:Value -> Shared -> Prop} {s:Shared} {κ:SortKind} {vs:List Value} {r:Value -> Nat} {st0 st:SortSt} {lo n ok:Nat}
theorem zJ9 (R:zBw prog w s κ vs r) (hk:kindOf st0 = κ) (hv:∀ x ∈ (arrOf st0).toList,x.1 ∈ vs) (c0:CB lo st0 st) (hz:lo + n <= (arrOf st0).size) (h1:1 <= ok) (h2:ok <= n) (hu:RUp r (arrOf st) lo (lo + ok)) {Q:Bool -> SortSt -> Prop}
  (h:∀ st',CB lo st0 st' -> RUp r (arrOf st') lo (lo + n) -> Q true st'):wpS (model prog w) A E s (binarySort' lo n ok) Q st:=by
 refine wpS_bind (wpS_mono (wpS_forRange (I:=fun k c st'=>c = (none,()) /\ CB lo st0 st' /\ RUp r (arrOf st') lo (lo + k)) (Q:=fun c st'=>c = (none,()) /\ CB lo st0 st' /\ RUp r (arrOf st') lo (lo + n)) ?step ?fin ⟨rfl,c0,by rw [show max ok 1 = ok by omega]; exact hu⟩) ?post)
 case fin=>
  rintro c st' ⟨rfl,cb,hu⟩;rw [show max (max ok 1) n = n by omega] at hu;exact ⟨rfl,cb,hu⟩
 case post=>
  rintro c st' ⟨rfl,cb,hu⟩;exact wpS_pure (h st' cb hu)
 case step=>
  rintro k c st' hk1 hk2 ⟨rfl,cb,hu⟩;have hk0:1 <= k:=by omega
  refine wpS_bind (wpS_mono (wpS_forRange (I:=fun x c st''=>st'' = st' /\ ∃ a b,c = (none,a,b) /\ a <= b /\ b <= k /\ b - a <= k - x /\ (∀ i,i < a -> KR r (arrOf st') (lo + i) <= KR r (arrOf st') (lo + k)) /\ (∀ i,b <= i -> i < k -> KR r (arrOf st') (lo + k) <= KR r (arrOf st') (lo + i))) (Q:=fun c st''=>st'' = st' /\ ∃ a b,c = (none,a,b) /\ a <= k /\ (∀ i,i < a -> KR r (arrOf st') (lo + i) <= KR r (arrOf st') (lo + k)) /\ (∀ i,a <= i -> i < k -> KR r (arrOf st') (lo + k) <= KR r (arrOf st') (lo + i))) ?step1 ?fin1 ⟨rfl,0,k,rfl,by omega,by omega,by omega,fun i hi=>by omega,fun i a1 a2=>by omega⟩) ?post1)
  case fin1=>
   rintro c st'' ⟨rfl,a,b,rfl,q1,q2,q3,q4,q5⟩;exact ⟨rfl,a,b,rfl,by omega,q4,fun i a1 a2=>q5 i (by omega) a2⟩
  case step1=>
   rintro x c st'' _ hx ⟨rfl,a,b,rfl,q1,q2,q3,q4,q5⟩;refine zV (fun c1=>wpS_pure ⟨rfl,a,b,rfl,by omega,q4,fun i a1 a2=>q5 i (by dsimp only at c1; omega) a2⟩) (fun c1=>?_);have c1':a < b:=by dsimp only at c1; omega
   refine wpS_bind (zIU R hk hv cb (by omega) (by dsimp only; omega) ?_);dsimp only;by_cases hl:KR r (arrOf st'') (lo + k) < KR r (arrOf st'') (lo + (a + b) / 2)
   ·rw [zVA hl,zUH rfl];refine wpS_pure ⟨rfl,a,(a + b) / 2,rfl,by omega,by omega,by omega,q4,fun i a1 a2=>?_⟩;have:=hu (lo + (a + b) / 2) (lo + i) (by omega) (by omega) (by omega);omega
   ·rw [zUb hl,zUK (by decide)];refine wpS_pure ⟨rfl,(a + b) / 2 + 1,b,rfl,by omega,by omega,by omega,fun i a1=>?_,q5⟩;have:=hu (lo + i) (lo + (a + b) / 2) (by omega) (by omega) (by omega);omega
  case post1=>
   rintro c st'' ⟨rfl,a,b,rfl,q1,q4,q5⟩;refine wpS_bind (wpS_modify (wpS_pure ⟨rfl,cb.bub (by omega) (by dsimp only; omega) (by dsimp only; omega),fun i j a1 a2 a3=>?_⟩));have hs:lo + k < (arrOf st'').size:=by rw [cb.size]; omega
   show KR r (bubble (arrOf st'') (lo + k) (lo + k - (lo + a))) i <= KR r (bubble (arrOf st'') (lo + k) (lo + k - (lo + a))) j;rw [zGf hs (by omega),zGf hs (by omega)];rw [show lo + k - (lo + k - (lo + a)) = lo + a by omega];by_cases i1:i = lo + a
   ·rw [zUH i1];by_cases j1:j = lo + a
    ·rw [zUH j1]; exact zT8 _
    ·rw [zUK j1,zUH (by omega)];have:=q5 (j - 1 - lo) (by omega) (by omega);rw [show lo + (j - 1 - lo) = j - 1 by omega] at this; exact this
   ·rw [zUK i1];by_cases i2:lo + a < i /\ i <= lo + k
    ·rw [zUH i2,zUK (by omega),zUH (by omega)];exact hu _ _ (by omega) (by omega) (by omega)
    ·rw [zUK i2];by_cases j1:j = lo + a
     ·rw [zUH j1];have:=q4 (i - lo) (by omega);rw [show lo + (i - lo) = i by omega] at this; exact this
     ·rw [zUK j1];by_cases j2:lo + a < j /\ j <= lo + k
      ·rw [zUH j2];exact hu _ _ a1 (by omega) (by omega)
      ·rw [zUK j2];exact hu _ _ a1 a2 (by omega)
end
def zA4:Nat -> List (List Keyed) -> List (Nat × Nat)
 | _,[]=>[]
 | o,R :: Rs=>(o,R.length) :: zA4 (o + R.length) Rs
theorem zCV:∀ (o:Nat) (As Bs:List (List Keyed)),zA4 o (As ++ Bs) = zA4 o As ++ zA4 (o + As.flatten.length) Bs
 | o,[],Bs=>by simp [zA4]
 | o,R :: As,Bs=>by
  rw [List.cons_append,zA4,zA4,zCV];simp only [List.cons_append,List.flatten_cons,zUI];rw [Nat.add_assoc]
theorem zDO:∀ (o:Nat) (As:List (List Keyed)),(zA4 o As).length = As.length
 | _,[]=>rfl
 | o,R :: As=>by rw [zA4,zUZ,zDO,zUZ]
abbrev two (p:Nat × Nat × Nat):Nat × Nat:=(p.1,p.2.1)
structure Run (κ:SortKind) (r:Value -> Nat) (a₀:List Keyed) (st:SortSt) (Rs:List (List Keyed)) (rest:List Keyed):Prop where
 k:kindOf st = κ
 f:failedOf st = none
 arr:(arrOf st).toList = Rs.flatten ++ rest
 perm:(arrOf st).toList.Perm a₀
 srt:∀ X ∈ Rs,X ≠ [] /\ X.Pairwise (leR r)
 pd:(pendingOf st).toList.map two = zA4 0 Rs
section
variable {prog:Program} {w:World} {A:Around} {E:Value -> Shared -> Prop} {s:Shared} {κ:SortKind} {vs:List Value} {r:Value -> Nat} {a₀:List Keyed} {st:SortSt} {Rs:List (List Keyed)} {rest:List Keyed}
theorem Run.plen (h:Run κ r a₀ st Rs rest):(pendingOf st).size = Rs.length:=by
 have:=zVp List.length h.pd;rw [zUB,zDO] at this;simpa using this
theorem zMK {Rs:List (List Keyed)} {i:Nat} (h:i + 1 < Rs.length):∃ As R1 R2 Bs,Rs = As ++ R1 :: R2 :: Bs /\ As.length = i:=by
 refine ⟨Rs.take i,Rs[i],Rs[i + 1],Rs.drop (i + 2),?_,by rw [zVQ]; omega⟩;conv=>lhs; rw [<- zWp i Rs,List.drop_eq_getElem_cons (by omega:i < Rs.length),List.drop_eq_getElem_cons h]
theorem zFM (R:zBw prog w s κ vs r) (hv:∀ x ∈ a₀,x.1 ∈ vs) (h:Run κ r a₀ st Rs rest) {i:Nat} (hi:i + 1 < Rs.length) {Q:Bool -> SortSt -> Prop}
  (q:∀ st' Rs',Run κ r a₀ st' Rs' rest -> Rs'.length + 1 = Rs.length -> Rs'.flatten.length = Rs.flatten.length -> Q true st'):wpS (model prog w) A E s (mergeAt' i) Q st:=by
 obtain ⟨As,R1,R2,Bs,rfl,rfl⟩:=zMK hi;have pd:=h.pd;rw [zCV,zA4,zA4] at pd;obtain ⟨PA,P1,e1,e2,e3⟩:=List.map_eq_append_iff.mp pd;obtain ⟨p1,P2,e4,e5,e6⟩:=List.map_eq_cons_iff.mp e3;obtain ⟨p2,PB,e7,e8,e9⟩:=List.map_eq_cons_iff.mp e6;subst e4 e7;obtain ⟨x1,x2,pw⟩:=p1;obtain ⟨y1,y2,pw2⟩:=p2;have hPA:PA.length = As.length:=by have:=zVp List.length e2; rw [zUB,zDO] at this; exact this
 obtain ⟨rfl,rfl⟩:x1 = 0 + As.flatten.length /\ x2 = R1.length:=by have:=e5; simp only [two,Prod.mk.injEq] at this; exact this
 obtain ⟨rfl,rfl⟩:y1 = 0 + As.flatten.length + R1.length /\ y2 = R2.length:=by have:=e8; simp only [two,Prod.mk.injEq] at this; exact this
 have a1:(pendingOf st)[As.length]? = some (0 + As.flatten.length,R1.length,pw):=by
  rw [<- zVh,e1,zVC (by omega),hPA]; simp
 have a2:(pendingOf st)[As.length + 1]? = some (0 + As.flatten.length + R1.length,R2.length,pw2):=by
  rw [<- zVh,e1,zVC (by omega),show As.length + 1 - PA.length = 1 by omega]; rfl
 have s1:=h.srt R1 (by simp);have s2:=h.srt R2 (by simp);have harr:(arrOf st).toList = As.flatten ++ (R1 ++ (R2 ++ (Bs.flatten ++ rest))):=by rw [h.arr]; simp
 refine zJb R h.k h.f harr (fun x hx=>hv x (h.perm.mem_iff.mp hx)) (by omega) rfl rfl rfl (List.length_pos_iff.mpr s1.1) (List.length_pos_iff.mpr s2.1) s1.2 s2.2 a1 a2 fun m st' hk hf hp ha hpm hs=>?_;have hml:m.length = R1.length + R2.length:=by rw [hpm.length_eq,zUI]
 refine q st' (As ++ m :: Bs) ⟨hk,hf,by rw [ha]; simp,?_,fun X hX=>?_,?_⟩ (by simp; omega) (by simp; omega)
 ·refine List.Perm.trans ?_ h.perm;rw [ha,harr];refine List.Perm.append_left _ ?_;rw [<- zU8 R1];exact List.Perm.append_right _ hpm
 ·rcases zUS.mp hX with z | z
  ·exact h.srt X (by simp [z])
  ·rcases zUE.mp z with z | z
   ·subst z;refine ⟨fun e=>?_,hs⟩;rw [e] at hml;have:=List.length_pos_iff.mpr s1.1;simp at hml; omega
   ·exact h.srt X (by simp [z])
 ·rw [hp];have hz:As.length + 1 < (pendingOf st).size:=(Array.getElem?_eq_some_iff.mp a2).1;have e10:(((pendingOf st).setIfInBounds As.length (0 + As.flatten.length,R1.length + R2.length,pw)).eraseIdxIfInBounds (As.length + 1)).toList = PA ++ (0 + As.flatten.length,R1.length + R2.length,pw) :: PB:=by
   rw [Array.toList_eraseIdxIfInBounds,Array.toList_setIfInBounds,e1,<- hPA,List.set_append_right _ _ (zT8 _),List.eraseIdx_append_of_length_le (by omega)];simp
  rw [e10,zUu,zUL,zCV,zA4,e2,hml,e9,Nat.add_assoc (0 + As.flatten.length)]
end
section
variable {prog:Program} {w:World} {A:Around} {E:Value -> Shared -> Prop} {s:Shared} {κ:SortKind} {vs:List Value} {r:Value -> Nat} {a₀:List Keyed} {st st1:SortSt} {Rs:List (List Keyed)} {rest W:List Keyed} {lo n:Nat}
theorem Run.total (h:Run κ r a₀ st Rs rest):Rs.flatten.length + rest.length = a₀.length:=by
 have:=h.perm.length_eq;rw [h.arr,zUI] at this; exact this
theorem Run.size (h:Run κ r a₀ st Rs rest):(arrOf st).size = a₀.length:=by rw [<- zUl]; exact h.perm.length_eq
theorem zNC (h:Run κ r a₀ st Rs rest) (c:CB lo st st1) (hl:lo = Rs.flatten.length):∃ W,Run κ r a₀ st1 Rs W /\ W.length = rest.length:=by
 have ht:=h.total;have hz:(arrOf st1).toList.length = a₀.length:=by rw [zUl,c.size,h.size]
 have e:(arrOf st1).toList.take lo = Rs.flatten:=by
  apply List.ext_getElem?;intro i;rw [List.getElem?_take];by_cases hi:i < lo
  ·rw [zUH hi,zVh,c.pre i hi,<- zVh,h.arr,zT9 (by omega)]
  ·rw [zUK hi,zVB (by omega)]
 refine ⟨(arrOf st1).toList.drop lo,⟨c.k.trans h.k,c.f.trans h.f,?_,(Array.perm_iff_toList_perm.mp c.perm).trans h.perm,h.srt,by rw [c.p]; exact h.pd⟩,by rw [List.length_drop]; omega⟩;rw [<- e,zWp]
theorem zOz (h:Run κ r a₀ st Rs W) (hl:lo = Rs.flatten.length) (hn:n <= W.length) (hu:RUp r (arrOf st) lo (lo + n)):(W.take n).Pairwise (leR r):=by
 rw [List.pairwise_iff_getElem];intro i j hi hj hij;rw [zVQ] at hi hj;have at_:∀ (k:Nat) (hk:k < W.length),KR r (arrOf st) (lo + k) = r (W[k]).1:=fun k hk=>by
  unfold KR;rw [<- zVh,h.arr,zVC (by omega),show lo + k - Rs.flatten.length = k by omega,zT6 hk]
 have:=hu (lo + i) (lo + j) (by omega) (by omega) (by omega);rw [at_ i (by omega),at_ j (by omega)] at this;rw [List.getElem_take,List.getElem_take];exact this
theorem zNM (h:Run κ r a₀ st Rs W) (hl:lo = Rs.flatten.length) (n1:1 <= n) (hn:n <= W.length) (hs:(W.take n).Pairwise (leR r)):Run κ r a₀ (setPending st ((pendingOf st).push (lo,n,0))) (Rs ++ [W.take n]) (W.drop n):=by
 refine ⟨h.k,h.f,?_,h.perm,fun X hX=>?_,?_⟩
 ·show (arrOf st).toList = _;rw [h.arr]; simp
 ·rcases zUS.mp hX with z | z
  ·exact h.srt X z
  ·rw [zUU.mp z];exact ⟨fun e=>by have:=zVp List.length e; rw [zVQ,zVW] at this; omega,hs⟩
 ·show ((pendingOf st).push (lo,n,0)).toList.map two = _;rw [Array.toList_push,zUu,h.pd,zCV,hl];simp [zA4,zVQ];omega
theorem zNv (hn:n <= W.length):(Rs ++ [W.take n]).flatten.length = Rs.flatten.length + n:=by
 simp [zVQ]; omega
theorem zLK {x:Nat} (h:Run κ r a₀ st Rs W) (hl:lo = Rs.flatten.length) (n1:1 <= n) (hn:n <= W.length) (hs:(W.take n).Pairwise (leR r)) (hx:x <= lo) (hz:Rs.length <= lo) :
  ∃ lo2 Rs2 rest2,((none:Option Unit),lo + n) = (none,lo2) /\ Run κ r a₀ (setPending st ((pendingOf st).push (lo,n,0))) Rs2 rest2 /\ lo2 = Rs2.flatten.length /\ x + 1 <= lo2 /\ Rs2.length <= lo2 :=
 ⟨_,_,_,rfl,zNM h hl n1 hn hs,by rw [zNv hn,hl],by omega,by rw [zUI]; simp only [zUZ,zVW]; omega⟩
theorem zPY {c:Prop} [Decidable c] {n m:Nat} (h:1 < n) (e:n = m):(if c then n - 2 - 1 else n - 2) + 1 < m:=by
 split <;> omega
theorem zOc (h:Run κ r a₀ st Rs W) (f:Nat × Nat × Nat -> Nat × Nat × Nat) (hf:∀ p,two (f p) = two p) (i:Nat):Run κ r a₀ (setPending st ((pendingOf st).modify i f)) Rs W:=by
 refine ⟨h.k,h.f,h.arr,h.perm,h.srt,?_⟩;show ((pendingOf st).modify i f).toList.map two = _;rw [Array.toList_modify,<- h.pd];apply List.ext_getElem?;intro j;rw [zUP,zUP,List.getElem?_modify];cases (pendingOf st).toList[j]? with
 | none=>rfl
 | some p=>
  by_cases z:i = j
  ·simp [z,hf]
  ·simp [z]
set_option maxHeartbeats 4000000 in
theorem zJA (R:zBw prog w s κ vs r) (hv:∀ x ∈ a₀,x.1 ∈ vs) (h:Run κ r a₀ st [] a₀) {Q:Unit -> SortSt -> Prop}
  (q:∀ st',failedOf st' = none -> Mgd (leR r) a₀ (arrOf st').toList -> Q () st'):wpS (model prog w) A E s sortRuns' Q st:=by
 have hN:=h.size;refine wpS_bind (wpS_get ?_);refine wpS_bind (wpS_mono (wpS_forRange (I:=fun x c st'=>∃ lo Rs rest,c = (none,lo) /\ Run κ r a₀ st' Rs rest /\ lo = Rs.flatten.length /\ x <= lo /\ Rs.length <= lo) (Q:=fun c st'=>∃ lo Rs,c = (none,lo) /\ Run κ r a₀ st' Rs [] /\ Rs.length <= lo /\ lo <= a₀.length) ?step ?fin ⟨0,[],a₀,rfl,h,rfl,zT8 _,zT8 _⟩) ?post)
 case fin=>
  rintro c st' ⟨lo,Rs,rest,rfl,h,hlo,hp,hz⟩;have ht:=h.total;have:rest = []:=zV4.mp (by have:max 0 (arrOf st).size <= lo:=hp; omega);subst this;exact ⟨lo,Rs,rfl,h,hz,by omega⟩
 case post=>
  rintro c st' ⟨lo,Rs,rfl,h,hz,hz2⟩;refine wpS_bind (wpS_mono (wpS_forRange (I:=fun x c st'=>c = (none,()) /\ ∃ Rs,Run κ r a₀ st' Rs [] /\ Rs.length + x <= max (a₀.length) (x + 1)) (Q:=fun c st'=>c = (none,()) /\ ∃ Rs,Run κ r a₀ st' Rs [] /\ Rs.length <= 1) ?step2 ?fin2 ⟨rfl,Rs,h,by omega⟩) ?post2)
  case fin2=>
   rintro c st' ⟨rfl,Rs,h,hx⟩;have hx':Rs.length + max 0 (arrOf st).size <= max a₀.length (max 0 (arrOf st).size + 1):=hx;exact ⟨rfl,Rs,h,by omega⟩
  case post2=>
   rintro c st' ⟨rfl,Rs,h,hx⟩;refine wpS_pure (q st' h.f ⟨h.perm,?_⟩);rw [h.arr,zUm];match Rs,hx,h with
   | [],_,_=>exact .nil
   | [X],_,h=>simpa using (h.srt X (by simp)).2
   | _ :: _ :: _,hx,_=>simp at hx
  case step2=>
   rintro x c st' _ hx ⟨rfl,Rs,h,hr⟩;refine wpS_bind (wpS_get ?_);have hpl:=h.plen;refine zV (fun c1=>wpS_pure ⟨rfl,Rs,h,zUT (Nat.le_of_eq hpl.symm) c1⟩) (fun c1=>?_);have c1':1 < (pendingOf st').size:=by have:¬ (pendingOf st').size <= 1:=c1; omega
   refine wpS_bind (zFM R hv h ?_ fun st2 Rs2 h2 l1 l2=>?_)
   ·exact zPY c1' hpl
   ·exact zV (fun z=>absurd z (by decide)) (fun _=>wpS_pure ⟨rfl,Rs2,h2,by omega⟩)
 case step=>
  rintro x c st' _ hx ⟨lo,Rs,rest,rfl,h,hlo,hp,hz⟩;have ht:=h.total;refine zV (fun c1=>?_) (fun c1=>?_)
  ·have c1':(arrOf st).size <= lo:=c1;have:rest = []:=zV4.mp (by omega);subst this;exact wpS_pure ⟨lo,Rs,rfl,h,hz,by omega⟩
  have c1':lo < (arrOf st).size:=Nat.lt_of_not_le c1;have hv':∀ x ∈ (arrOf st').toList,x.1 ∈ vs:=fun x hx=>hv x (h.perm.mem_iff.mp hx);refine wpS_bind (zIm (lo:=lo) (nrem:=(arrOf st).size - lo) R h.k hv' (by rw [h.size]; omega) (by omega) fun n st1 cb n1 n2 hu=>?_);refine zV (fun c2=>?_) (fun c2=>?_)
  case' refine_1=>
   refine wpS_bind (wpS_lift (zVP ⟨rfl,?_⟩));have c2':n < minRun' (arrOf st).size (arrOf st).size 0:=c2;refine wpS_bind (zJ9 (n:=min ((arrOf st).size - lo) (minRun' (arrOf st).size (arrOf st).size 0)) R h.k hv' cb (by rw [h.size]; omega) n1 (by omega) hu fun st2 cb2 hu2=>?_);replace n1:1 <= min ((arrOf st).size - lo) (minRun' (arrOf st).size (arrOf st).size 0):=by omega
   replace n2:min ((arrOf st).size - lo) (minRun' (arrOf st).size (arrOf st).size 0) <= (arrOf st).size - lo:=by omega
   refine zV (fun z=>absurd z (by decide)) (fun _=>?_);replace hu:=hu2;replace cb:=cb2
  all_goals
   obtain ⟨W,hW,hWl⟩:=zNC h cb hlo;have n3:=zUT n2 (show (arrOf st).size - lo <= W.length by omega);have hs:=zOz hW hlo n3 hu;refine wpS_bind (wpS_get ?_);split
   ·refine wpS_bind (wpS_mono (wpS_forRange (I:=fun y c st3=>c = (none,()) /\ ∃ Rs3,Run κ r a₀ st3 Rs3 W /\ Rs3.flatten.length = Rs.flatten.length /\ Rs3.length <= lo) (Q:=fun c st3=>c = (none,()) /\ ∃ Rs3,Run κ r a₀ st3 Rs3 W /\ Rs3.flatten.length = Rs.flatten.length /\ Rs3.length <= lo) ?step3 (fun _ _ z=>z) ⟨rfl,Rs,hW,rfl,hz⟩) ?post3)
    case step3=>
     rintro y c st3 _ _ ⟨rfl,Rs3,h3,l3,z3⟩;refine wpS_bind (wpS_get ?_);have hpl:=h3.plen;dsimp only;by_cases hp1:(pendingOf st3).size > 1
     ·obtain ⟨p,ep⟩:∃ p,(pendingOf st3)[(pendingOf st3).size - 2]? = some p:=⟨_,zUn (by omega)⟩;rw [zUH hp1,ep];refine zV (fun _=>wpS_pure ⟨rfl,Rs3,h3,l3,z3⟩) (fun _=>?_);refine wpS_bind (zFM R hv h3 (i:=(pendingOf st3).size - 2) (by omega) fun st4 Rs4 h4 l4 z4=>?_);exact zV (fun z=>absurd z (by decide)) (fun _=>wpS_pure ⟨rfl,Rs4,h4,by omega,by omega⟩)
     ·rw [zUK hp1];exact wpS_pure ⟨rfl,Rs3,h3,l3,z3⟩
    case post3=>
     rintro c st3 ⟨rfl,Rs3,h3,l3,z3⟩;refine wpS_bind (wpS_modify (wpS_bind (wpS_modify (wpS_pure ?_))));refine zLK (zOc h3 _ ?_ _) (hlo.trans l3.symm) n1 n3 hs hp z3;rintro ⟨a,b,c⟩; rfl
   ·exact wpS_bind (wpS_modify (wpS_pure (zLK hW hlo n1 n3 hs hp hz)))
end
section
variable {prog:Program} {w:World} {A:Around} {E:Value -> Shared -> Prop} {s:Shared} {κ:SortKind} {vs:List Value} {r:Value -> Nat}
theorem zNp (R:zBw prog w s κ vs r):wpS (model prog w) A E s sortRuns' (fun _ st=>failedOf st = none /\ ((arrOf st).map (·.2)).toList.Perm vs /\ ((arrOf st).map (·.2)).toList.Pairwise fun x y=>r x <= r y) (SortSt.mk' κ (pairsOf vs) #[] 7 none):=by
 have hz:(pairsOf vs).toList = vs.zip vs:=pairsOf_toList vs;have hv:∀ p ∈ (pairsOf vs).toList,p.1 ∈ vs:=fun p hp=>by rw [hz] at hp; exact (mem_zip_self hp).2
 refine zJA R hv ⟨rfl,rfl,rfl,.refl _,(fun X hX=>absurd hX (by simp)),rfl⟩ fun st hf hm=>⟨hf,?_,?_⟩
 ·rw [Array.toList_map];have:=hm.1.map (·.2);rw [hz,List.map_snd_zip (zT8 _)] at this;exact this
 ·rw [Array.toList_map];refine List.pairwise_map.mpr ((List.Pairwise.and_mem.mp hm.2).imp fun {x y} h=>?_);have hx:=(mem_zip_self (hz ▸ hm.1.mem_iff.mp h.1)).1;have hy:=(mem_zip_self (hz ▸ hm.1.mem_iff.mp h.2.1)).1;rw [<- hx,<- hy]; exact h.2.2
theorem zFq {v:Value} {Q:Value -> Shared -> Prop}
  (hc:wpAny (model prog w) A.in1 (collect v) (fun vs s1=>vs.length <= sizeLine /\ zQ1 s1.heap vs /\
   ∀ (h':Heap) (out:List Value) (n:Nat),(∀ b u,s1.heap.get? b = some u -> h'.get? b = some u) -> h'.get? s1.heap.objs.size = some (seqObj "list" out.toArray n) -> out.Perm vs -> out.Pairwise (fun x y=>zAT (zDC s1.heap y) (zDC s1.heap x) = false) -> Q (.ref s1.heap.objs.size) { s1 with heap:=h' }) E s) :
  wpAny (model prog w) A (call (.builtin "sorted") [v]) Q E s:=by
 refine Calls.call_function_entry kind_sorted plain_sorted entry_sorted (args_sorted1 _) ?_;unfold Builtin.«sorted»;refine zTx (m:=checkCount "sorted" 1 1 _) (zTz ?_);refine zTx (zUY hc (fun vs s1 z=>?_) fun _ _ e=>e);obtain ⟨hz,ht,h⟩:=z;refine zTx (wpAny_newList ?_ hz);have hoL:(s1.heap.push (seqObj "list" vs.toArray 0)).get? s1.heap.objs.size = some (seqObj "list" vs.toArray 0):=zUC _ rfl;refine zTx (zUv (zUf slot_list_sort ⟨_,hoL,rfl⟩ entry_list_sort (zLm (κ:=tuples' true) (F:=fun out=>out.toList.Perm vs /\ out.toList.Pairwise (fun x y=>zAT (zDC s1.heap y) (zDC s1.heap x) = false)) (s:={ s1 with heap:=s1.heap.push (seqObj "list" vs.toArray 0) }) hoL hz (fun out e=>by rw [<- zUl]; exact e.1.length_eq) (fun h2=>⟨by simp,?_⟩) ?_ fun out e=>⟨_,rfl,?_⟩) (args_list_sort _)))
 ·match vs,h2 with
  | [],_=>exact .nil
  | [x],_=>simp
  | _ :: _ :: _,h2=>simp at h2; omega
 ·intro h2 h6 k6;have kT:∀ {v xs},zBs s1.heap v xs -> zBs h6 v xs:=fun {v xs} t=>t.keep fun b o _ e=>k6 b o (fun z=>zUk _ (z ▸ zUD e)) (zTy _ e);have ht6:zQ1 h6 vs:=fun v hv=>let ⟨x,xs,t⟩:=ht v hv; ⟨x,xs,kT t⟩;refine ⟨fun A E Q q=>?_,fun A E=>wpS_mono (zNp (zLv (s:={ s1 with heap:=h6 }) ht6)) ?_⟩
  ·match vs,h2,ht6 with
   | v :: vs,_,ht6=>exact zNd (s:={ s1 with heap:=h6 }) ht6 q
  ·rintro _ st ⟨e1,e2,e3⟩;refine ⟨e1,e2,(List.Pairwise.and_mem.mp e3).imp fun {x y} z=>?_⟩;have mx:=e2.mem_iff.mp z.1;have my:=e2.mem_iff.mp z.2.1;obtain ⟨a,as,tx⟩:=ht x mx;obtain ⟨b,bs,ty⟩:=ht y my;rw [zBv tx,zBv ty,<- zBv (kT tx),<- zBv (kT ty),zQH (ks:=vs.map (zDC h6)) (List.mem_map_of_mem my) (List.mem_map_of_mem mx)];have:rkV h6 vs x <= rkV h6 vs y:=z.2.2;unfold rkV at this;exact zUb (by omega)
 ·refine zTz ⟨_,rfl,?_⟩;have g1:=get?_update_seq hoL (fun _=> #[]);have g4:=get?_update_seq (zTy (seqObj "list" #[] 0) (zTy (seqObj "tuple" vs.toArray 0) g1)) (fun _=>out);refine h _ out.toList _ (fun b u e=>?_) (by rw [Array.toArray_toList]; exact g4) e.1 e.2;have hb:s1.heap.objs.size ≠ b:=fun z=>zUk _ (z ▸ zUD e);exact (zUj _ _ hb).trans (zTy _ (zTy _ ((zUj _ _ hb).trans (zTy _ e))))
def leL (a b:List Int):Bool:=!zAT b a
def zBx (ts:List (List Int)):List (List Int):=ts.mergeSort leL
theorem zL9 (a b c:List Int) (h1:leL a b = true) (h2:leL b c = true):leL a c = true:=by
 unfold leL at *;rw [Bool.not_eq_true'] at *;cases e:zAT c a with
 | false=>rfl
 | true=>
  cases e2:zAT b a with
  | true=>rw [e2] at h1; cases h1
  | false=>
   cases e3:zAT a b with
   | true=>rw [zCU e e3] at h2; cases h2
   | false=>rw [zD1 e2 e3] at h2; rw [h2] at e; cases e
theorem zME (a b:List Int):(leL a b || leL b a) = true:=by
 unfold leL;cases e:zAT b a with
 | false=>rfl
 | true=>
  cases e2:zAT a b with
  | false=>rfl
  | true=>have:=zCU e e2; rw [zFy] at this; cases this
theorem zBm (ts:List (List Int)):(zBx ts).Perm ts:=List.mergeSort_perm ts leL
theorem zMo (ts:List (List Int)):(zBx ts).Pairwise fun a b=>zAT b a = false:=(List.pairwise_mergeSort zL9 zME ts).imp fun {a b} h=>by unfold leL at h; simpa using h
theorem zFz:∀ {xs ys:List (List Int)},xs.Perm ys -> xs.Pairwise (fun a b=>zAT b a = false) -> ys.Pairwise (fun a b=>zAT b a = false) -> xs = ys
 | [],ys,h,_,_=>by rw [List.nil_perm.mp h]
 | x :: xs,[],h,_,_=>by have:=h.length_eq; simp at this
 | x :: xs,y :: ys,h,hx,hy=>by
  have px:=zWC.mp hx;have py:=zWC.mp hy;have e:x = y:=by
   have m1:x ∈ y :: ys:=h.mem_iff.mp zUG;have m2:y ∈ x :: xs:=h.mem_iff.mpr zUG;rcases zUE.mp m1 with z | z
   ·exact z
   ·rcases zUE.mp m2 with z' | z'
    ·exact z'.symm
    ·exact zD1 (py.1 x z) (px.1 y z')
  subst e;rw [zFz (List.Perm.cons_inv h) px.2 py.2]
theorem zMF {xs ts:List (List Int)} (h:xs.Perm ts) (hp:xs.Pairwise fun a b=>zAT b a = false):xs = zBx ts:=zFz (h.trans (zBm ts).symm) hp (zMo ts)
end
end ST
namespace L3
open PySem PySem.Spec PyProof.Rows L2 ST
def zHV (H:Hp) (ys:List V) (ts:List (List Int)):Prop:=ys.length = ts.length /\ ∀ (i:Nat) t,ts[i]? = some t -> ∃ b,ys[i]? = some (.ref b) /\ H b = some (.tup ((kkI t).map kV))
theorem zK6 {H:Hp} {h1:Heap} {its out:List Value} {ts:List (List Int)} (hl:its.length = ts.length) (ha:∀ (i:Nat) u,its[i]? = some u -> ∃ t b,ts[i]? = some t /\ u = .ref b /\ H b = some (.tup ((kkI t).map kV)) /\ zBs h1 (.ref b) t)
  (hp:out.Perm its) (hs:out.Pairwise fun x y=>zAT (zDC h1 y) (zDC h1 x) = false):∃ ys,zU ys out /\ zHV H ys (zBx ts):=by
 have key:∀ u ∈ its,∃ t b,u = .ref b /\ H b = some (.tup ((kkI t).map kV)) /\ zDC h1 u = t:=fun u hu=>by
  obtain ⟨i,hi⟩:=List.mem_iff_getElem?.mp hu;obtain ⟨t,b,_,rfl,e1,e2⟩:=ha i u hi;exact ⟨t,b,rfl,e1,zBv e2⟩
 have e0:its.map (zDC h1) = ts:=by
  apply List.ext_getElem?;intro i;rw [zUP];by_cases hi:i < its.length
  ·rw [zT6 hi];obtain ⟨t,b,e1,e2,_,e4⟩:=ha i _ (zT6 hi);rw [e1,e2]; exact zVp some (zBv e4)
  ·rw [zVB (by omega),zVB (by omega)]; rfl
 have e1:out.map (zDC h1) = zBx ts:=zMF (by rw [<- e0]; exact hp.map _) (List.pairwise_map.mpr hs);refine ⟨out.map fun u=>match u with | .ref b=> .ref b | _=> .non,?_,?_,fun i t et=>?_⟩
 ·refine zKs (by simp) fun i y u ey eu=>?_;rw [zUP,eu] at ey;obtain ⟨t,b,rfl,_⟩:=key u (hp.mem_iff.mp (zUt eu));cases ey; rfl
 ·rw [zUB,<- e1,zUB]
 ·rw [<- e1,zUP] at et;cases eu:out[i]? with
  | none=>rw [eu] at et; cases et
  | some u=>
   rw [eu] at et;obtain ⟨t',b,rfl,e2,e3⟩:=key u (hp.mem_iff.mp (zUt eu));have et':zDC h1 (.ref b) = t:=zU2 et;rw [e3] at et';subst et';exact ⟨b,by rw [zUP,eu]; rfl,e2⟩
theorem zER {L:List Addr} {H:Hp}:∀ {ts:List (List Int)} {ys:List V},zHV H ys ts -> zH L H (ts.map fun t=>D.tup (t.map D.int)) ys
 | [],ys,h=>by
  have:ys = []:=zV4.mp h.1;subst this; exact .nil
 | t :: ts,[],h=>by have:=h.1; cases this
 | t :: ts,y :: ys,h=>by
  obtain ⟨b,e1,e2⟩:=h.2 0 t rfl;cases e1;refine .cons (zOH (k:=kkI t) ?_ e2) (zER ⟨Nat.succ.inj h.1,fun i u e=>by obtain ⟨b,q1,q2⟩:=h.2 (i + 1) u (by simpa using e); exact ⟨b,by simpa using q1,q2⟩⟩);exact zFd (zBF t)
theorem zGe {L:List Addr} {H:Hp}:∀ {ds:List D} {ts:List (List Int)} {vs:List V},zGK ds = some ts -> zH L H ds vs -> zHV H vs ts
 | [],ts,vs,h,r=>by cases h; unfold zH at r; subst r; exact ⟨rfl,fun i t e=>by simp at e⟩
 | d :: ds,ts,vs,h,r=>by
  unfold zGK at h;split at h
  ·rename_i x xs h1 h2;cases h;unfold zH at r;obtain ⟨v,r',rfl,r1,r2⟩:=r;obtain ⟨l2,q2⟩:=zGe h2 r2;refine ⟨by simp [l2],fun i t e=>?_⟩;cases i with
   | succ i=>obtain ⟨b,z1,z2⟩:=q2 i t (by simpa using e); exact ⟨b,by simpa using z1,z2⟩
   | zero=>
    cases e;cases d with
    | tup es=>
     unfold Rep at r1;obtain ⟨a,ws,rfl,e1,r3⟩:=r1;have:=zCJ h1 r3;subst this;refine ⟨a,rfl,?_⟩;rw [e1]; unfold kkI; rw [List.map_map]; rfl
    | _=>cases h1
  ·cases h
section
variable {X:Cx}
theorem zJz:zBa X (.builtin "sorted") (fun xs H Q=>∃ a vs ts,xs = [.ref a] /\ (SqL X.K H a vs \/ SqT X.K H a vs) /\ zHV H vs ts /\ (∀ t ∈ ts,t ≠ []) /\ ts.length <= 90000 /\ ∀ ys l,zHV H ys (zBx ts) -> H l = none -> Q (.ref l) (upd H l (.lst ys))):=by
 intro zB s σ H xs us Q I r h;obtain ⟨a,vs,ts,rfl,hq,hv,hne,hz,q⟩:=h;obtain ⟨u,rfl,rx⟩:=zDM r;cases rx;have key:∃ (ty:String) (its:List Value),(ty = "list" \/ ty = "tuple") /\ (∃ ol,s.heap.get? a = some ol /\ ol.cls = .type ty /\ ∃ nl,ol.data = .seq its.toArray nl) /\ zU vs its:=by
  rcases hq with hq | hq
  ·obtain ⟨its,rv,⟨ol,nl,e1,e2,_,e3⟩,_⟩:=I.list hq;exact ⟨"list", its,.inl rfl,⟨ol,e1,e2,nl,e3⟩,rv⟩
  ·obtain ⟨its,rv,⟨ol,e1,e2,nl,e3⟩,_⟩:=I.tuple hq;exact ⟨"tuple", its,.inr rfl,⟨ol,e1,e2,nl,e3⟩,rv⟩
 obtain ⟨ty,its,hty,hl,rv⟩:=key;have hlen:its.length = ts.length:=by rw [<- rv.length]; exact hv.1
 have hsl:its.length <= sizeLine:=by rw [sizeLine_eq]; omega
 have ait:∀ (i:Nat) u,its[i]? = some u -> ∃ t b,ts[i]? = some t /\ u = .ref b /\ H b = some (.tup ((kkI t).map kV)):=by
  intro i u e;have hi:i < ts.length:=by rw [<- hlen]; exact (zT0.mp e).1
  obtain ⟨b,e1,e2⟩:=hv.2 i _ (zT6 hi);refine ⟨_,b,zT6 hi,?_,e2⟩;obtain ⟨u',e3,rfl⟩:=rv.get e1;rw [e] at e3;exact zU2 e3
 refine zFq (zEo hty hl ?_ hsl);generalize hH1:(s.heap.push (seqObj "list" #[] 0)).update s.heap.objs.size (Obj.mapSeq (· ++ its.toArray)) = h1;have k1:∀ b u,s.heap.get? b = some u -> h1.get? b = some u:=fun b u e=>by
  have hb:s.heap.objs.size ≠ b:=fun z=>zUk _ (z ▸ zUD e);rw [<- hH1]; exact (zUj _ _ hb).trans (zTy _ e)
 have a2:∀ (i:Nat) u,its[i]? = some u -> ∃ t b,ts[i]? = some t /\ u = .ref b /\ H b = some (.tup ((kkI t).map kV)) /\ zBs h1 (.ref b) t:=fun i u e=>by
  obtain ⟨t,b,e1,e2,e3⟩:=ait i u e;exact ⟨t,b,e1,e2,e3,(zIV (I.hok b _ e3)).keep fun c o _ eo=>k1 c o eo⟩
 refine ⟨hsl,fun v hv'=>?_,fun h' out n hk hL hp hs=>?_⟩
 ·obtain ⟨i,hi⟩:=List.mem_iff_getElem?.mp hv';obtain ⟨t,b,e1,rfl,_,tt⟩:=a2 i v hi;cases t with
  | nil=>exact absurd rfl (hne _ (zUt e1))
  | cons x t=>exact ⟨x,t,tt⟩
 ·obtain ⟨ys,rvy,tv⟩:=zK6 hlen a2 hp hs;have I2:Inv X zB σ H { s with heap:=h1 }:=I.kept (t':=s.toks) k1;have hf:H h1.objs.size = none:=I2.hok.fresh (zT8 _);exact ⟨.ref h1.objs.size,upd H h1.objs.size (.lst ys),I2.laid (t':=s.toks) hk (zT8 _) ⟨by rw [tv.1,(zBm ts).length_eq,sizeLine_eq]; omega,out,n,rvy,hL⟩,rfl,q ys _ tv hf⟩
def zKC (ts:List (List Int)):Bool:=ts.all fun t=> !t.isEmpty
theorem zH5 {ts:List (List Int)} (h:zKC ts = true):∀ t ∈ ts,t ≠ []:=fun t ht e=>by
 unfold zKC at h;rw [zUd] at h;have:=h t ht;rw [e] at this; cases this
def zEO:KB:=fun xs M=>match xs with
 | [x]=>match zAf M x with
  | some ds=>match zGK ds with
   | some ts=>if zKC ts = true /\ ts.length <= 90000 then some (.fl ((zBx ts).map fun t=>D.tup (t.map D.int)),M) else none
   | none=>none
  | none=>none
 | _=>none
theorem zMZ:zEy X.K (fun xs H Q=>∃ a vs ts,xs = [.ref a] /\ (SqL X.K H a vs \/ SqT X.K H a vs) /\ zHV H vs ts /\ (∀ t ∈ ts,t ≠ []) /\ ts.length <= 90000 /\ ∀ ys l,zHV H ys (zBx ts) -> H l = none -> Q (.ref l) (upd H l (.lst ys))) zEO:=by
 intro L M M' H H0 xs d vs Q cc r hk q;unfold zEO at hk;split at hk
 ·rename_i x;split at hk
  ·rename_i ds e1;split at hk
   ·rename_i ts e2;split at hk
    ·rename_i hb;cases hk;obtain ⟨v,rfl,r1⟩:=r.one;obtain ⟨a,ws,rfl,hs,r2⟩:=zC3 cc r1 e1;exact ⟨a,ws,ts,rfl,hs,zGe e2 r2,zH5 hb.1,hb.2,fun ys l tv hl=>q L _ _ (.upd hl) (cc.upd hl) (zS.newLst' cc hl (zER tv))⟩
    ·cases hk
   ·cases hk
  ·cases hk
 ·cases hk
theorem zO7 {e:Expr} {p pos:Pos} {fa:FAE} (hg:Gl X "sorted") (hm:X.mg "sorted" = none) (ha:QAE X [e] fa) (he:starEach [e] X.env = (false,eval e X.env) :: starEach [] X.env:=by rfl) (hpl:(backTo pos (starEach [] X.env)).any (·.1) = false:=by rfl):QE X (.Call (.Name "sorted" p) [e] [] pos) (fB zEO fa) :=
 zC7 zMZ zJz (by rfl) hg hm ha (by decide) (by decide) he hpl
end
section
variable {X:Cx} {a b a2 b2 a3 b3:Expr} {pos:Pos}
def zHv (k1:Str) (fv:FE) (k2:Str) (fw:FE) (k3:Str) (fz:FE):FE:=fun σ M=>match toD fv σ (M ++ [.dict []]) with
 | some (v,M1)=>match toD fw σ M1 with
  | some (w,M2)=>match toD fz σ M2 with
   | some (z,M3)=>match M3[M.length]? with
    | some (.dict [])=>if k1 = k2 \/ k1 = k3 \/ k2 = k3 then none else some (.dat (.ref M.length),M3.set M.length (.dict [(.str k1,v),(.str k2,w),(.str k3,z)]))
    | _=>none
   | none=>none
  | none=>none
 | none=>none
theorem zPh {fv fw fz:FE} {k1 k2 k3:Str} (h1:QE X a (fC (.str k1))) (h2:QE X b fv) (h3:QE X a2 (fC (.str k2))) (h4:QE X b2 fw) (h5:QE X a3 (fC (.str k3))) (h6:QE X b3 fz):QE X (.Dict [some a,some a2,some a3] [b,b2,b3] pos) (zHv k1 fv k2 fw k3 fz):=.mk <| PE.imp (zPw (zDr (zAb h1).un (zAb h2).un (zDr (zAb h3).un (zAb h4).un (zDr (zAb h5).un (zAb h6).un zLF))) rfl rfl (by simp) (by simp)) fun τ H Q ⟨L,σ,M,d,M',c,rs,hf,q⟩ p hp=>by
 unfold zHv at hf;split at hf
 ·rename_i v M1 e2;split at hf
  ·rename_i w M2 e4;split at hf
   ·rename_i z M3 e6;split at hf
    ·rename_i e5;split at hf
     ·cases hf
     ·rename_i hne;cases hf;obtain ⟨c0,s0⟩:=c.pushO (m:=.dict []) (o:=.dK []) hp ⟨[],zg,rfl⟩;refine ⟨L ++ [p],σ,_,_,_,c0,rs.stp s0,(rfl:toD (fC (.str k1)) σ (M ++ [.dict []]) = some (.str k1,_)),fun L1 H1 x st1 c1 r1=>⟨L1,σ,_,_,_,c1,(rs.stp s0).stp st1,e2,fun L2 H2 y st2 c2 r2=>?_⟩⟩;refine ⟨L2,σ,_,_,_,c2,((rs.stp s0).stp st1).stp st2,(rfl:toD (fC (.str k2)) σ M1 = some (.str k2,_)),fun L3 H3 x' st3 c3 r3=>⟨L3,σ,_,_,_,c3,(((rs.stp s0).stp st1).stp st2).stp st3,e4,fun L4 H4 y' st4 c4 r4=>?_⟩⟩;refine ⟨L4,σ,_,_,_,c4,((((rs.stp s0).stp st1).stp st2).stp st3).stp st4,(rfl:toD (fC (.str k3)) σ M2 = some (.str k3,_)),fun L5 H5 x'' st5 c5 r5=>⟨L5,σ,_,_,_,c5,(((((rs.stp s0).stp st1).stp st2).stp st3).stp st4).stp st5,e6,fun L6 H6 y'' st6 c6 r6=>?_⟩⟩;have st:=(((((s0.trans st1).trans st2).trans st3).trans st4).trans st5).trans st6;have hx:x = .str k1:=by unfold Rep at r1; exact r1
      have hx':x' = .str k2:=by unfold Rep at r3; exact r3
      have hx'':x'' = .str k3:=by unfold Rep at r5; exact r5
      have lp:L6[M.length]? = some p:=by
       obtain ⟨N,hN⟩:=(((((st1.trans st2).trans st3).trans st4).trans st5).trans st6).pre;rw [hN,<- c.len]; simp
      obtain ⟨vs,ev,dv⟩:=c6.obj _ p _ lp e5;unfold zAD at dv;subst dv;have hm:zDQ [] [((Sum.inr k1:Key),y),(Sum.inr k2,y'),(Sum.inr k3,y'')] = [((Sum.inr k1:Key),y),(Sum.inr k2,y'),(Sum.inr k3,y'')]:=by
       unfold zDQ zBe;have h12:¬ ((Sum.inr k1:Key) = Sum.inr k2):=fun z=>hne (.inl (Sum.inr.inj z));have h13:¬ ((Sum.inr k1:Key) = Sum.inr k3):=fun z=>hne (.inr (.inl (Sum.inr.inj z)));have h23:¬ ((Sum.inr k2:Key) = Sum.inr k3):=fun z=>hne (.inr (.inr (Sum.inr.inj z)));simp [h12,h13,h23,zBe]
      refine ⟨ev,[(Sum.inr k1,y),(Sum.inr k2,y'),(Sum.inr k3,y'')],by rw [hx,hx',hx'']; rfl,by simp,?_⟩;rw [hm];obtain ⟨c7,s7⟩:=c6.put (m:=.dict [(.str k1,v),(.str k2,w),(.str k3,z)]) (o':=.dK [(Sum.inr k1,y),(Sum.inr k2,y'),(Sum.inr k3,y'')]) lp ev (fun _ z=>by cases z) (fun _ _ z=>by cases z) fun s7=>⟨_,zg,_,y,[(Sum.inr k2,y'),(Sum.inr k3,y'')],rfl,rfl,(r2.stp (((st3.trans st4).trans st5).trans st6)).stp s7,_,y',[(Sum.inr k3,y'')],rfl,rfl,(r4.stp (st5.trans st6)).stp s7,_,y'',[],rfl,rfl,r6.stp s7,rfl⟩;refine q _ _ _ (st.trans s7) c7 ?_;unfold zS Rep;exact ⟨p,rfl,lp⟩
    ·cases hf
   ·cases hf
  ·cases hf
 ·cases hf
end
section
variable {prog:Program} {w:World} {A:Around} {E:Value -> Shared -> Prop} {s:Shared} {d:Addr} {ep:Nat} {o:Obj} {es:Array DictEntry}
theorem zOE {Q:Bool -> Shared -> Prop} (hd:(d == sysModules) = false) (hT:s.TypeIs (.ref d) "dict") (ho:s.heap.get? d = some o) (hdat:o.data = .dict es ep) (hfit:(es.size:Int) < 2 ^ 63)
  (h:Q (!es.isEmpty) { s with toks:=s.toks + 1 + 1 }):wpAny (model prog w) A (truthy (.ref d)) Q E s:=by
 have hne:((es.size:Int) != 0) = !es.isEmpty:=by
  rw [Array.isEmpty];by_cases z:es.size = 0
  ·simp [z]
  ·simp [z]
 have key:wpAny (model prog w) A (runValue (.builtin "len" ⟨[.ref d],[]⟩)) (fun r s'=>r = .int es.size (s.toks + 1) /\ Q (!es.isEmpty) s') E s:=by
  refine wpAny_runValue (zU7 entry_len ?_);rw [zUx plain_len _];unfold Builtin.«len»;refine zTx (m:=oneArg "len" _) (zTz ?_);refine zTx (m:=callSpecial? (.ref d) (Str.ofString "__len__")) (zUe (name:=Str.ofString "__len__") hT F.slot_dict_len (call_meetsIn F.slot_dict_len hT F.entry_dict_len (F.args_dict_len_1 _) (zKF hd) ⟨o,es,ep,ho,hdat,?_⟩));show wpAny _ _ _ _ _ { s with toks:=s.toks + 1 };refine zTx (zUv (zTz (zTx (wpAny_letGo ?_))));show wpAny _ _ (if ((es.size:Nat):Int) < 0 then _ else _) _ _ _;rw [zUK (by omega)];show wpAny _ _ (if ((es.size:Nat):Int) ≥ 2 ^ 63 then _ else _) _ _ _;rw [zUK (by omega)];exact zTx (wpAny_mkInt (zTz ⟨rfl,h⟩))
 unfold truthy
 first
  | refine zTx (wpAny_callSpecial?_none (name:=Str.ofString "__bool__") hT noBool_dict ?_)
  | refine zTx (zTz (zTx (wpAny_callSpecial?_none (name:=Str.ofString "__bool__") hT noBool_dict ?_)))
 first
  | refine zTx (wpAny_specialOf (name:=Str.ofString "__len__") hT F.slot_dict_len.lookup ?_)
  | refine zTx (zTz (zTx (wpAny_specialOf (name:=Str.ofString "__len__") hT F.slot_dict_len.lookup ?_)))
 first
  | exact zTx (zUY key (fun r s' h'=>by obtain ⟨rfl,hq⟩:=h'; exact zTz (hne ▸ hq)) fun _ _ e=>e)
  | exact zTx (zTz (zTx (zUY key (fun r s' h'=>by obtain ⟨rfl,hq⟩:=h'; exact zTz (hne ▸ hq)) fun _ _ e=>e)))
end
def zJh (M:Mem) (x:EV):Option (List (D × D)):=match x with
 | .dat (.ref n)=>match M[n]? with
  | some (.dicT ps)=>some ps
  | some (.froT ps)=>some ps
  | _=>none
 | _=>none
theorem zN5 {K:PySem.W.Frag} {L:List Addr} {M:Mem} {H H0:Hp} {x:EV} {v:V} {ps:List (D × D)} (c:Cor K L M H) (r:zS H0 L H x v) (h:zJh M x = some ps):∃ a vs,v = .ref a /\ Rd H a (.dT vs) /\ zAD tkD L H ps vs:=by
 unfold zJh at h;split at h
 ·rename_i n;unfold zS Rep at r;obtain ⟨a,rfl,ea⟩:=r;split at h
  ·rename_i ps' e; cases h;obtain ⟨vs,e3,r3⟩:=c.obj n a _ ea e;exact ⟨a,vs,rfl,.inl e3,r3⟩
  ·rename_i ps' e; cases h;obtain ⟨o,vs,e3,r3⟩:=c.obj n a _ ea e;exact ⟨a,vs,rfl,.inr ⟨o,e3⟩,r3⟩
  ·cases h
 ·cases h
section
variable {X:Cx} {a:Expr} {f:FE}
def zI9 (f:FE):FT:=fun σ M=>match f σ M with
 | some (x,M1)=>match zJh M1 x with
  | some ps=>some (!ps.isEmpty,M1)
  | none=>none
 | none=>none
theorem zOa (h:QE X a f) (he:∀ whole,isTrue a X.env whole = (do let v <- whole; standAt a.pos; holding [v] (truthy v)):=by intro _; rfl):QT X a (zI9 f):=.mk <| by
 intro zB s τ H Q I ⟨L,σ,M,d,M',c,rs,hf,q⟩;unfold zI9 at hf;split at hf
 ·rename_i x M1 e1;split at hf
  ·rename_i ps e2;cases hf;refine isTrue_plain (thn (h.un zB s τ H (fun v H1=>∃ L1,Stp L H L1 H1 /\ Cor X.K L1 M' H1 /\ zS H L1 H1 x v) I ⟨L,σ,M,_,_,c,rs,e1,fun L1 H1 v s1 c1 r1=>⟨L1,s1,c1,r1⟩⟩) fun u s1 ⟨v,H1,I1,rv,L1,st,c1,r1⟩=>?_) (he _);obtain ⟨p,vs,rfl,rd,r3⟩:=zN5 c1 r1 e2;cases rv;have hn:=zEV;obtain ⟨z1,z2,xs,r,o,es,en,h1,h2,h3,h4,h5⟩:=(show zk X.prog X.w H1 s1.heap p (.dT vs) from rd.ok I1.hok);have hsz:es.size = vs.length:=by rw [Paired.length r,<- zUl,h4,zUB]
   refine zOE z2 ⟨o,h1,h2.1⟩ h1 h3 (by omega) ⟨H1,I1.tok _,?_⟩;have hl:=r3.length;have:(!es.isEmpty) = !ps.isEmpty:=by
    rw [Array.isEmpty,hsz,hl];cases ps <;> simp
   rw [this];exact q L1 H1 st c1
  ·cases hf
 ·cases hf
end
section
variable {X:Cx} {e:Expr} {es:List Expr} {ek:Nat} {ep apos cpos:Pos} {f:FE}
theorem zL6 {td:TE} (ho:PE X e td) (hbase:attributeBase e "items" X.env (eval e X.env) = eval e X.env:=by rfl) (hline:(apos.endLine == cpos.line) = true:=by rfl) :
  PI X (.Tuple es ek ep) (.Call (.Attribute e "items" apos) [] [] cpos) (fun σ H R=>td σ H fun x H1=>∃ d kvs,x = .ref d /\ ((H1 d = some (.dT kvs) /\ ∀ o,R (zNu d o kvs) (upd H1 d (.frz o (.dT kvs)))) \/ ∃ o,H1 d = some (.frz o (.dT kvs)) /\ R (zNu d o kvs) H1)):=by
 intro zB s σ H R I h;refine wpAny_Call_method0_late hbase hline (thn (ho zB s σ H _ I h) fun v s1 ⟨x,H1,I1,r1,d,kvs,ex,q⟩=>?_);subst ex;cases r1;rcases q with ⟨ed,q⟩ | ⟨o,ed,q⟩
 ·obtain ⟨t1,t2,t3⟩:=zNg I1 (.inr ⟨kvs,.inl ed⟩);refine ⟨"dict", "dict.items", PySem.F.plainAttrs_dict,PySem.F.slot_dict_items,PySem.F.type_dict_items,t1,t2,Calls.callWith_builtin rfl (PySem.evalArgs_none ?_)⟩;refine call_meetsIn PySem.F.slot_dict_items t1 PySem.F.entry_dict_items (PySem.F.args_dict_items_1 _) (zDm d t3) ⟨t1,?_⟩;obtain ⟨o,es',en,h1,h3,I0⟩:=zQe I1 ed;refine zGr (d:=d) (o:=o) (es:=es') (ep:=en) ⟨_,zUC _ rfl,rfl,rfl⟩ (zTy _ h1) h3 ?_;have ge:s1.heap.objs.size <= (s1.heap.push { cls:=.type "dict_items", data:=.fields #[.ref d] }).objs.size:=by rw [zUi]; exact Nat.le_succ _
  refine ⟨_,[_],_,_,_,rfl,I0.kept (t':=s1.toks) fun b q z=>zTy _ (zTy _ z),zFk h3,⟨_,_,zUC _ rfl⟩,fun c hc=>?_,q o⟩;cases zUU.mp hc;exact I0.fpOk ge (I0.hok.fresh ge)
 ·obtain ⟨t1,t2,t3⟩:=zNg I1 (.inr ⟨kvs,.inr ⟨o,ed⟩⟩);refine ⟨"dict", "dict.items", PySem.F.plainAttrs_dict,PySem.F.slot_dict_items,PySem.F.type_dict_items,t1,t2,Calls.callWith_builtin rfl (PySem.evalArgs_none ?_)⟩;refine call_meetsIn PySem.F.slot_dict_items t1 PySem.F.entry_dict_items (PySem.F.args_dict_items_1 _) (zDm d t3) ⟨t1,?_⟩;obtain ⟨h1,_,_,xs,r,o',es',en,h1',h2,h3,h4,h5⟩:=(show zk X.prog X.w H1 s1.heap d (.frz o (.dT kvs)) from I1.hok d _ ed);rw [h1] at h1'; cases h1';refine zGr (d:=d) (o:=o) (es:=es') (ep:=en) ⟨_,zUC _ rfl,rfl,rfl⟩ (zTy _ h1) h3 ?_;have ge:s1.heap.objs.size <= (s1.heap.push { cls:=.type "dict_items", data:=.fields #[.ref d] }).objs.size:=by rw [zUi]; exact Nat.le_succ _
  refine ⟨_,[_],_,_,_,rfl,I1.kept (t':=s1.toks) fun b q z=>zTy _ (zTy _ z),zFk h3,⟨_,_,zUC _ rfl⟩,fun c hc=>?_,q⟩;cases zUU.mp hc;exact I1.fpOk ge (I1.hok.fresh ge)
def zBg (f:FE):FI:=fun σ M=>match f σ M with
 | some (.dat (.ref n),M1)=>match M1[n]? with
  | some (.dicT ps)=>some (ps.map fun p=>D.tup [p.1,p.2],none,M1.set n (.froT ps))
  | some (.froT ps)=>some (ps.map fun p=>D.tup [p.1,p.2],none,M1)
  | _=>none
 | _=>none
theorem zMf (h:QE X e f) (hbase:attributeBase e "items" X.env (eval e X.env) = eval e X.env:=by rfl) (hline:(apos.endLine == cpos.line) = true:=by rfl) :
  QI X (.Tuple es ek ep) (.Call (.Attribute e "items" apos) [] [] cpos) (zBg f):=.mk <| PI.imp (zL6 h.un hbase hline) fun τ H R zz=>by
 obtain ⟨L,σ,M,xs,gd,M',c,rs,hf,q⟩:=zz;have fin:∀ {L2:List Addr} {H2:Hp} {ps:List (D × D)} {a:Addr} {o:Obj} {vs:List (List Key × V)},H2 a = some (.frz o (.dT vs)) -> zAD tkD L2 H2 ps vs -> ∀ (i:Nat) (d:D),(ps.map fun p=>D.tup [p.1,p.2])[i]? = some d -> (zNu a o vs).go i H2 /\ ∀ v H3,(zNu a o vs).yld i H2 v H3 -> (∀ a o,H2 a = some o -> H3 a = some o) /\ Rep L2 H3 d v:=by
  intro L2 H2 ps a o vs hz r4 i d hd;rw [zUP] at hd;cases hp:ps[i]? with
  | none=>rw [hp] at hd; cases hd
  | some p=>
   rw [hp] at hd;cases hd;obtain ⟨k,x,hk,ek,rx⟩:=zK2 r4 hp;refine ⟨⟨hz,(zT0.mp hk).1⟩,fun v H3 hy=>?_⟩;obtain ⟨T,b,k',x',hk',rfl,hT,hb,rfl⟩:=hy;rw [hk] at hk'; cases hk';exact ⟨fun a o e=>by rw [zQ (zX e hT)]; exact e,Rep.newTup hT (.cons (zOH ek hb) (.cons rx .nil))⟩
 unfold zBg at hf;split at hf
 ·rename_i n M1 e1;split at hf
  ·rename_i ps e2;cases hf;refine ⟨L,σ,M,_,_,c,rs,e1,fun L1 H1 v s1 c1 r1=>?_⟩;unfold zS Rep at r1;obtain ⟨a,rfl,ea⟩:=r1;obtain ⟨vs,e3,r3⟩:=c1.obj n a _ ea e2;refine ⟨a,vs,rfl,.inl ⟨e3,fun o=>?_⟩⟩;obtain ⟨c2,s2⟩:=c1.put (m:=.froT ps) (o':=.frz o (.dT vs)) ea e3 (fun _ z=>by cases z) (fun _ _ z=>by cases z) fun s2=>⟨o,_,zg,r3.stp s2⟩;refine q L1 _ _ (s1.trans s2) c2 fun L2 H2 M2 s3 c3 _=>?_;have hz:H2 a = some (.frz o (.dT vs)):=s3.frz _ _ _ zg;have r4:=r3.stp (s2.trans s3);exact ⟨fun i d hd=>fin hz r4 i d hd,hz,by rw [zUB,r4.length]; exact zT8 _⟩
  ·rename_i ps e2;cases hf;refine ⟨L,σ,M,_,_,c,rs,e1,fun L1 H1 v s1 c1 r1=>?_⟩;unfold zS Rep at r1;obtain ⟨a,rfl,ea⟩:=r1;obtain ⟨o,vs,e3,r3⟩:=c1.obj n a _ ea e2;refine ⟨a,vs,rfl,.inr ⟨o,e3,?_⟩⟩;refine q L1 _ _ s1 c1 fun L2 H2 M2 s3 c3 _=>?_;have hz:H2 a = some (.frz o (.dT vs)):=s3.frz _ _ _ e3;have r4:=r3.stp s3;exact ⟨fun i d hd=>fin hz r4 i d hd,hz,by rw [zUB,r4.length]; exact zT8 _⟩
  ·cases hf
 ·cases hf
end
section
variable {X:Cx}
theorem zKW (hc:X.calm = true):zBa X (.builtin "sorted") (fun xs H Q=>∃ (d:Addr) (kvs:List (List Key × V)) (ts:List (List Int)),xs = [.ref d] /\ Rd H d (.dT kvs) /\ kvs.map (·.1) = ts.map kkI /\ (∀ t ∈ ts,t ≠ []) /\ ∀ ys l,zHV H ys (zBx ts) -> H l = none -> Q (.ref l) (upd H l (.lst ys))):=by
 intro zB s σ H xs us Q I r h;obtain ⟨d,kvs,ts,rfl,ed,ets,hne,q⟩:=h;obtain ⟨u,rfl,rx⟩:=zDM r;cases rx;obtain ⟨z1,z2,xs,r,o,es,en,h1,h2,h3,h4,h5⟩:=(show zk X.prog X.w H s.heap d (.dT kvs) from ed.ok I.hok);have hsz:es.size = kvs.length:=by rw [Paired.length r,<- zUl,h4,zUB]
 have htl:ts.length = kvs.length:=by have:=zVp List.length ets; simpa using this.symm
 have kat:∀ (i:Nat) t,ts[i]? = some t -> ∃ b u,es[i]? = some (entryOfKey (tupleKind (zv X.prog X.w)) (kkI t,b,u)) /\ H b = some (.tup ((kkI t).map kV)):=by
  intro i t e;have hi:i < kvs.length:=by rw [<- htl]; exact (zT0.mp e).1
  have e1:(kvs.map (·.1))[i]? = some (kkI t):=by rw [ets,zUP,e]; rfl
  rw [zUP,zT6 hi] at e1;have e2:kvs[i]? = some (kkI t,kvs[i].2):=by rw [zT6 hi]; have:=zU2 e1; rw [<- this]
  obtain ⟨b,u,h6,h7,_⟩:=zQQ r e2;exact ⟨b,u,by rw [<- zVh,h4,zUP,h6]; rfl,h7⟩
 refine zFq (zIo (zOL z2 h2.1 h3) (I.ok.hd hc) h1 (by omega) fun h' tk acc hk hle hacc=>?_);have hal:acc.toList.length = ts.length:=by rw [zUl,hacc.1,hsz,htl]
 have aat:∀ (i:Nat) u,acc.toList[i]? = some u -> ∃ t b,ts[i]? = some t /\ u = .ref b /\ H b = some (.tup ((kkI t).map kV)) /\ zBs h' (.ref b) t:=by
  intro i u e;have hi:i < ts.length:=by rw [<- hal]; exact (zT0.mp e).1
  have e0:ts[i]? = some ts[i]:=zT6 hi;obtain ⟨b,u',k2,k3⟩:=kat i _ e0;rw [zVh] at e;obtain ⟨e',he',hv⟩:=hacc.2 i u e;rw [k2] at he'; cases he';exact ⟨_,b,e0,hv,k3,(zIV (I.hok b _ k3)).keep fun c o _ eo=>hk c o eo⟩
 refine ⟨by rw [hal,htl]; exact z1,fun v hv'=>?_,fun h2' out n hk2 hL hp hs=>?_⟩
 ·obtain ⟨i,hi⟩:=List.mem_iff_getElem?.mp hv';obtain ⟨t,b,e1,rfl,_,tt⟩:=aat i v hi;cases t with
  | nil=>exact absurd rfl (hne _ (zUt e1))
  | cons x t=>exact ⟨x,t,tt⟩
 ·obtain ⟨ys,rvy,tv⟩:=zK6 hal aat hp hs;exact ⟨.ref h'.objs.size,_,I.laid (t':=tk) (fun b o e=>hk2 b o (hk b o e)) hle (show zk X.prog X.w _ h2' _ (.lst ys) from ⟨by rw [tv.1,(zBm ts).length_eq,htl]; exact z1,out,n,rvy,hL⟩),rfl,q ys _ tv (I.hok.fresh hle)⟩
def zCT:KB:=fun xs M=>match xs with
 | [x]=>match zJh M x with
  | some ps=>match zGK (ps.map (·.1)) with
   | some ts=>if zKC ts = true then some (.fl ((zBx ts).map fun t=>D.tup (t.map D.int)),M) else none
   | none=>none
  | _=>none
 | _=>none
theorem zLZ:zEy X.K (fun xs H Q=>∃ (d:Addr) (kvs:List (List Key × V)) (ts:List (List Int)),xs = [.ref d] /\ Rd H d (.dT kvs) /\ kvs.map (·.1) = ts.map kkI /\ (∀ t ∈ ts,t ≠ []) /\ ∀ ys l,zHV H ys (zBx ts) -> H l = none -> Q (.ref l) (upd H l (.lst ys))) zCT:=by
 intro L M M' H H0 xs d vs Q cc r hk q;unfold zCT at hk;split at hk
 ·rename_i x;split at hk
  ·rename_i ps e1;split at hk
   ·rename_i ts e2;split at hk
    ·rename_i e3;cases hk;obtain ⟨v,rfl,r1⟩:=r.one;obtain ⟨a,ws,rfl,e4,r3⟩:=zN5 cc r1 e1;exact ⟨a,ws,ts,rfl,e4,zLN e2 r3,zH5 e3,fun ys l tv hl=>q L _ _ (.upd hl) (cc.upd hl) (zS.newLst' cc hl (zER tv))⟩
    ·cases hk
   ·cases hk
  ·cases hk
 ·cases hk
theorem zPy {e:Expr} {p pos:Pos} {fa:FAE} (hc:X.calm = true) (hg:Gl X "sorted") (hm:X.mg "sorted" = none) (ha:QAE X [e] fa) (he:starEach [e] X.env = (false,eval e X.env) :: starEach [] X.env:=by rfl) (hpl:(backTo pos (starEach [] X.env)).any (·.1) = false:=by rfl):QE X (.Call (.Name "sorted" p) [e] [] pos) (fB zCT fa) :=
 zC7 zLZ (zKW hc) (by rfl) hg hm ha (by decide) (by decide) he hpl
end
open PySem.Calls
structure LamAt (base:Heap) (l:Lm) (pr:Arguments) (bd:Expr) (sc:Scope) (fs:List Str):Prop where
 len:l.us.length = fs.length
 ex:∃ qual cl pm ctv,base.get? l.f = some { cls:=.type "function", data:=.func (PySem.W.kla_fn "<lambda>" qual pr bd sc cl pm l.c ctv) } /\
  (∀ x y d,cl.lookup x = some d -> cl.lookup y = some d -> x = y) /\ (∀ y ∈ sc.names,y.2 = .free -> (cl.lookup y.1).isSome = true) /\ (∀ x d,cl.lookup x = some d -> ∃ v,base.IsCell d v) /\
  ∀ (i:Nat) x v,fs[i]? = some x -> l.us[i]? = some v -> ∃ d u,cl.lookup x = some d /\ za v u /\ base.IsCell d (some u)
def spC (K:PySem.W.Frag) (n:Nat) (l:Lm) (g:List D -> FF):Sp:=fun vs H Q _=>∃ L ds cs M d M',Cor K L M H /\ zH L H ds vs /\ ds.length = n /\ zCv H l.c /\ zH L H cs l.us /\ g cs ds M = some (d,M') /\
 ∀ L' H' v,Stp L H L' H' -> Cor K L' M' H' -> Rep L' H' d v -> Q v H'
structure LamOk (P:Program) (w:World) (K:PySem.W.Frag) (mg:Str -> Option Value) (base:Heap) (k:Nat) (l:Lm) (n:Nat) (g:List D -> FF):Prop where
 ex:∃ fd ps,zDD K fd ps [] /\ PySem.W.FnAt l.f base /\ FnOk P w K mg base CX0 k l.f fd ps (spC K n l g)
structure LamScope (N ps fs:List Str) (pr:Arguments) (bd:Expr) (sc:Scope):Prop where
 kind:sc.kind = .function
 co:sc.isCoroutine = false
 gen:sc.isGenerator = false
 nd:N.Nodup
 pre:N = ps ++ fs
 par:∀ x ∈ ps,sc.names.lookup x = some .local
 fre:∀ x ∈ fs,sc.names.lookup x = some .free
 noc:∀ y ∈ sc.names,y.2 ≠ .cell
 bind:∀ (qual:Str) cl pm c ctv (us:List Value),us.length = ps.length -> bindArgs (PySem.W.kla_fn "<lambda>" qual pr bd sc cl pm c ctv) ⟨us,[]⟩ = pure (ps.zip us)
def zTG (b:FD):List D -> FF:=fun cs ds M=>b ((ds ++ cs).map some) M
def zNH (P:Program) (w:World) (K:PySem.W.Frag) (mg:Str -> Option Value) (base:Heap) (N:List Str) (q:Str) (sc:Scope) (f:Addr) (cd:Value) (cl:List (Str × Addr)) (A:Around) (outer:List Env) (s:Shared) (H:Hp):Cx where
 prog:=P
 w:=w
 K:=K
 mg:=mg
 base:=base
 A:=A.deeper (PySem.W.envX q sc s.heap.objs.size f cd cl)
 N:=N
 s₀:=s
 H₀:=H
 env:=PySem.W.envX q sc s.heap.objs.size f cd cl
 outer:=outer
 stack:=PySem.W.envX q sc s.heap.objs.size f cd cl :: outer
 ex:=[]
 calm:=true
 fn:=fun _=>false
 pn:=[]
 xe:=fun _ _=>False
section
variable {P:Program} {w:World} {K:PySem.W.Frag} {mg:Str -> Option Value} {base:Heap} {A:Around} {s:Shared} {R:Result -> Shared -> Prop}
theorem zOZ {a c:Addr} {args:Args} {o oc:Obj} {fd:FuncData} {body:Expr} {vs:Array Value} {q:Str} {t:Tok} (hroom:A.depth < recursionLimit) (ho:s.heap.get? a = some o)
  (hd':o.data = .func fd) (hco:fd.scope.isCoroutine = false) (hgen:fd.scope.isGenerator = false) (hbody:fd.body = .expr body) (hc:fd.code = .ref c) (hoc:s.heap.get? c = some oc) (hdc:oc.data = .fields vs) (hq:vs[1]? = some (.str q t))
  (h:wpAny (model P w) A.in1 (bindArgs fd args) (fun binds s₁=>
   wpAny (model P w) A.in1 (newFunctionEnv fd.scope fd.globals fd.closure binds (q ++ ".<locals>.") (some a) (.ref c) none fd.builtins)
    (fun env s₂=>s₂.heap.NoLimit /\ codeAny (model P w) A (.expr body env) R s₂) (fun e s'=>R (.error e) s') s₁) (fun e s'=>R (.error e) s') s) :
  codeAny (model P w) A (.call (.ref a) args) R s:=by
 refine codeAny_of_tree ?_;show wpAny _ A.in1 (callAny (.ref a) args) _ _ s;simp only [callAny];refine zTx (wpAny_load ho ?_);simp only [hd',callFunction,hco,hgen,hbody,hc];refine zTx (m:=field (.ref c) 1) (zUh hoc hdc hq (zTx (zTz ?_)))
 exact zTx (zUY h (fun binds s₁ h₁=>zTx (zUY h₁ (fun env s₂ h₂=>zTx (wpAny_enterFrame h₂.1 hroom
  (zTz (And.intro rfl h₂.2)))) fun _ _ h'=>h')) fun _ _ h'=>h')
theorem zOB:∀ {ps:List Str} {us:List Value} {i:Nat} {x:Str} {u:Value},ps.Nodup -> ps[i]? = some x -> us[i]? = some u -> (ps.zip us).reverse.lookup x = some u:=by
 intro ps us i x u nd h1 h2;have hm:(x,u) ∈ (ps.zip us).reverse:=by
  rw [List.mem_reverse];exact zUt (i:=i) (by rw [List.getElem?_zip_eq_some]; exact ⟨h1,h2⟩)
 have hu:∀ v,(x,v) ∈ (ps.zip us).reverse -> v = u:=fun v hv=>by
  rw [List.mem_reverse] at hv;obtain ⟨j,hj⟩:=List.getElem?_of_mem hv;rw [List.getElem?_zip_eq_some] at hj;have:j = i:=(List.getElem?_inj (zT0.mp hj.1).1 nd).mp (hj.1.trans h1.symm);subst this;exact zU2 (hj.2.symm.trans h2)
 generalize (ps.zip us).reverse = l at hm hu;induction l with
 | nil=>cases hm
 | cons p r ih=>
  obtain ⟨y,v⟩:=p;rw [zV7];cases hb:x == y with
  | true=>
   have:=beq_iff_eq.mp hb;subst this;exact zVp some (hu v zUG)
  | false=>
   refine ih ?_ fun v hv=>hu v (zUF _ hv);rcases zUE.mp hm with z | z
   ·cases z; simp at hb
   ·exact z
theorem zQf {N ps fs:List Str} {pr:Arguments} {bd:Expr} {sc:Scope} {l:Lm} {k:Nat} {b:FD} (h:LamAt base l pr bd sc fs) (S:LamScope N ps fs pr bd sc)
  (hb:∀ (q:Str) (cd:Value) (cl:List (Str × Addr)) (A:Around) (outer:List Env) (s:Shared) (H:Hp),Room k (A.deeper (PySem.W.envX q sc s.heap.objs.size l.f cd cl)) -> QD (zNH P w K mg base N q sc l.f cd cl A outer s H) bd b) :
  LamOk P w K mg base (k + 1) l ps.length (zTG b):=by
 obtain ⟨qual,cl,pm,ctv,ho,inj,has,cel,cap⟩:=h.ex;refine ⟨_,ps,.all (S.bind qual cl pm l.c ctv),⟨_,_,_,_,ho⟩,fun vs H Q E z=>?_,fun A outer s H args us vs Q E hr e0 hbd r hsp=>?_⟩
 ·obtain ⟨L,ds,cs,M,d,M',c,r,hl,_⟩:=z;rw [r.length,hl]
 obtain ⟨L,ds,cs,M,d,M',c,rd,hl,⟨ca,oc,cvs,q,t,ec,eh,ed,e1⟩,rc,hf,hq⟩:=hsp;have lim:s.heap.NoLimit:=e0.mod.nolimit.keeps fun b o e=>(e0.bs b o e).1;obtain ⟨hoc,_⟩:=e0.hok ca _ eh;have hul:us.length = ps.length:=by rw [<- r.length,rd.length,hl]
 refine zOZ hr.depth (e0.bs _ _ ho).1 rfl S.co S.gen rfl (by exact ec) hoc ed e1 (hbd _ _ _ _ ?_);refine wpAny_newFunctionEnv S.noc (fun y hy=>S.par _ (List.of_mem_zip hy).1) (fun h' hns hsb=>⟨lim.fresh _ hsb,?_⟩) S.kind;have hk:∀ b o,s.heap.get? b = some o -> h'.get? b = some o:=fun b o e=>hsb.extBut b o (zUN (zUD e)) (zTy _ e);show codeAny _ _ (.expr bd (PySem.W.envX q sc s.heap.objs.size l.f (.ref ca) cl)) _ _;have cellS:∀ d v,base.IsCell d v -> h'.IsCell d v /\ H d = none:=fun d v ⟨o,e,z⟩=>⟨⟨o,hk _ _ (e0.bs _ _ e).1,z⟩,(e0.bs _ _ e).2⟩;have hN:N.length = (vs ++ l.us).length:=by rw [S.pre,zUI,zUI,h.len,r.length,hul]
 have I:Inv (zNH P w K mg base N q sc l.f (.ref ca) cl A outer s H) [] ((vs ++ l.us).map some) H { s with heap:=h',toks:=s.toks + (ps.zip us).length }:=by
  have noA:∀ b:Addr,b ∉ (zNH P w K mg base N q sc l.f (.ref ca) cl A outer s H).ex:=fun b z=>absurd (show b ∈ ([]:List Addr) from z) (by simp)
  refine ⟨⟨e0.mod,S.kind,rfl,rfl,zT8 _,inj,fun y hy=>?_,fun y c z _=>Bool.noConfusion z,fun _=>hr.hd,Around.frames_deeper e0.frames,.inr ⟨rfl,rfl⟩,fun b z=>absurd z (noA b),e0.bs,e0.bsz,fun b _ _=>noA b,fun b z=>absurd z (noA b),e0.funs,e0.frf⟩,
   rfl,e0.bare,Un.kept hk,⟨_,hns,fun i y v h1 h2 h3=>?_⟩,fun y c z=>?_,e0.hok.fresh (zT8 _),fun y c z=>?_,fun p hp=>absurd (show p ∈ ([]:List (Addr × Obj)) from hp) (by simp),e0.hok.kept hk,?_⟩
  ·have hy:sc.names.lookup y = some .cell \/ sc.names.lookup y = some .free:=hy;rcases hy with hy | hy
   ·exact absurd rfl (S.noc _ (zU4 hy))
   ·exact Option.isSome_iff_exists.mp (has _ (zU4 hy) rfl)
  ·have h1':(ps ++ fs)[i]? = some y:=by rw [<- S.pre]; exact h1
   rw [zUP] at h2;have h2':(vs ++ l.us)[i]? = some v:=by
    cases e:(vs ++ l.us)[i]? with
    | none=>rw [e] at h2; cases h2
    | some z=>rw [e] at h2; cases h2; rfl
   by_cases hi:i < ps.length
   ·rw [zT9 hi] at h1';rw [zT9 (by rw [r.length,hul]; exact hi)] at h2';obtain ⟨u,hu,rv⟩:=r.get h2';have ndP:ps.Nodup:=by have:=S.nd; rw [S.pre] at this; exact (zVG.mp this).1
    exact ⟨u,rv,.inl ⟨S.par y (zUt h1'),zOB ndP h1' hu⟩⟩
   ·rw [zVC (by omega)] at h1';have hv:vs.length = ps.length:=by rw [r.length,hul]
    rw [zVC (by omega),hv] at h2';obtain ⟨d,u,e2,rv,ce⟩:=cap _ y v h1' h2';exact ⟨u,rv,.inr ⟨.inr (S.fre y (zUt h1')),d,e2,(cellS d _ ce).1⟩⟩
  ·obtain ⟨v,z2⟩:=cel y c z;exact ⟨v,(cellS c v z2).1⟩
  ·obtain ⟨v,z2⟩:=cel y c z;exact (cellS c v z2).2
  ·rw [zUB]; exact hN.symm
 refine PySem.W.kla_codeExpr (zUY ((hb q (.ref ca) cl A outer s H (hr.deeper _)).un [] _ _ H (fun v H'=>Q v H') I ⟨L,(ds ++ cs).map some,M,d,M',c,?_,hf,fun L' H' v s1 c1 r1=>hq L' H' v s1 c1 r1⟩) (fun u s' ⟨v,H',J,rv,z⟩=>⟨v,H',J.os,J.bare,J.base,J.hok,rv,z⟩) fun _ _ z=>False.elim z);have rr:=rd.app rc;refine ⟨by rw [zUB,zUB,rr.length],fun i d' e=>?_⟩;rw [zUP] at e ⊢;cases e2:(ds ++ cs)[i]? with
 | none=>rw [e2] at e; cases e
 | some d2=>
  rw [e2] at e; cases e;obtain ⟨v,e3,r3⟩:=rr.get e2;exact ⟨v,by rw [e3]; rfl,r3⟩
end
def zJt (X:Cx) (pr:Arguments) (bd:Expr) (sc:Scope) (H:Hp) (f:Addr) (c:Value):Prop:=zCv H c /\ ∃ qual cl pm ctv,
 H f = some (.ext fun h=>h.get? f = some { cls:=.type "function", data:=.func (PySem.W.kla_fn "<lambda>" qual pr bd sc cl pm c ctv) }) /\
 (∀ x d,cl.lookup x = some d -> X.env.cells.lookup x = some d) /\ ∀ y ∈ sc.names,y.2 = .free -> (cl.lookup y.1).isSome = true
def zTk (X:Cx) (P:Addr) (pr:Arguments) (bd:Expr) (sc:Scope):TE:=fun _ H Q=>(∃ ps,H P = some (.tbl ps) /\ zEF H ps) /\ ∀ f c H',H f = none -> Stp [] H [] H' -> zJt X pr bd sc H' f c -> Q (.ref f) H'
theorem zFs {pos p:Pos} {c v:Value}:∀ {l:List Value},TriplesOk l -> codeAmong p (l ++ [rawInt pos.line,rawInt pos.col,c]) = some v -> codeAmong p l = some v \/ v = c
 | [],_,h=>by
  unfold codeAmong at h;simp only [zWK] at h;split at h
  ·rename_i h2; cases h2;split at h
   ·exact .inr (zU2 h).symm
   ·unfold codeAmong at h; cases h
  ·cases h
 | .int a _ :: .int b _ :: x :: r,ht,h=>by
  simp only [List.cons_append,codeAmong] at h ⊢;split at h
  ·rename_i hc; rw [zUH hc]; exact .inl h
  ·rename_i hc; rw [zUK hc]; exact zFs (l:=r) ht h
theorem zDq {pos:Pos} {c:Value}:∀ {l:List Value},TriplesOk l -> TriplesOk (l ++ [rawInt pos.line,rawInt pos.col,c])
 | [],_=>trivial
 | .int a _ :: .int b _ :: x :: r,ht=>zDq (l:=r) ht
section
variable {X:Cx} {pr:Arguments} {bd:Expr} {sc:Scope} {pos:Pos} {c P:Addr}
theorem zQm (hcode:X.env.code = .ref c) (hC:PySem.W.codeHdIn X.K c P = true) (hS:∀ y ∈ sc.names,y.2 = .free -> (X.env.kindOf y.1 = some .cell \/ X.env.kindOf y.1 = some .free))
  (hd:pr.defaults = []:=by rfl) (hkd:pr.kw_defaults = []:=by rfl):PE X (.Lambda pr bd sc pos) (zTk X P pr bd sc):=by
 intro zB s σ H Q I h;obtain ⟨⟨ps,hP,gT⟩,h⟩:=h;have hPo:s.heap.get? P = some (PySem.W.tabObj ps):=I.hok P _ hP;have C:PySem.W.CodeHd s.heap c P:=PySem.W.codeHd_of_K I.kIn hC;obtain ⟨cl,hcl,h1,h2⟩:=zDF (env:=X.env) (scope:=sc) fun y hy hk=>I.ok.has y.1 (hS y hy hk);have hgl:=I.mod.glob.keeps I.bk;have hgP:mainGlobals ≠ P:=fun q=>by
  obtain ⟨o,es,ep,e,hd,_⟩:=hgl;rw [q,hPo] at e; cases e; cases hd
 obtain ⟨bm,ob,b1,b2,b3,b4,b5,b6⟩:=I.mod.bmn;have b3':=I.bk _ _ b3;have hbG:bm ≠ mainGlobals:=fun q=>by
  obtain ⟨o,es,ep,e,hd,_⟩:=hgl;rw [q,e] at b3'; cases b3'; rw [hd] at b6; cases b6
 have hbP:bm ≠ P:=fun q=>by
  rw [q,hPo] at b3'; cases b3'; cases b4
 have hbA:s.heap.BuiltinsAt X.mg P:=⟨bm,ob,b1,b2,hbG,hbP,b3',b4,b5,b6⟩;refine PySem.W.kla_eval (by rw [defaultsOf_eq,hd,hkd]; rfl) ?_;cases hf:codeAmong pos ps.toList with
 | some cv=>
  refine PySem.W.kla_makeFunctionHit hcl I.ok.glob hgl hcode C hPo gT.1 hf hbA fun ctv h' tk hk hsz=>?_;have hn:H h'.objs.size = none:=I.hok.fresh hsz;have hk2:∀ b o,s.heap.get? b = some o -> (h'.push { cls:=.type "function", data:=.func (PySem.W.kla_fn "<lambda>" (X.env.qual ++ "<lambda>") pr bd sc cl ((X.mg "__name__").getD .none) cv ctv) }).get? b = some o:=fun b o e=>zTy _ (hk b o e)
  refine ⟨.ref h'.objs.size,upd H h'.objs.size (.ext fun h=>h.get? h'.objs.size = some { cls:=.type "function", data:=.func (PySem.W.kla_fn "<lambda>" (X.env.qual ++ "<lambda>") pr bd sc cl ((X.mg "__name__").getD .none) cv ctv) }),
   I.laid hk2 hsz ⟨zUC _ rfl,⟨_,zUC _ rfl⟩,fun h1 h2 e k=>k _ e⟩,rfl,h _ cv _ hn (.upd hn) ⟨?_,_,_,_,_,zg,h1,h2⟩⟩
  exact (gT.2 pos cv hf).keep fun a o u e=>by rw [zQ (zX e hn)]; exact e
 | none=>
  refine PySem.W.kla_makeFunction hcl I.ok.glob hgl hcode C hPo gT.1 hf hgP hbA fun c' ctv h' tk hx hge hlt hrec htb=>?_;obtain ⟨c₂,oc,vs,t,e2,hoc,hdc,hv⟩:=hrec;cases e2;have hPc:P ≠ c':=fun z=>absurd (zUR (zUD hPo) (by rw [z]; exact hge)) (zUk _);have hnc:H c' = none:=I.hok.fresh hge;have hnf:H h'.objs.size = none:=I.hok.fresh (zUT hge (zWy hlt));have hPf:P ≠ h'.objs.size:=fun z=>by rw [<- z,hP] at hnf; cases hnf
  have hcf:c' ≠ h'.objs.size:=zUN hlt;generalize hfo:({ cls:=.type "function", data:=.func (PySem.W.kla_fn "<lambda>" (X.env.qual ++ "<lambda>") pr bd sc cl ((X.mg "__name__").getD .none) (.ref c') ctv) }:Obj) = fo;have hpu:(h'.push fo).get? h'.objs.size = some fo:=zUC _ (by rw [<- hfo]; rfl);generalize hH':upd (upd (upd H P (.tbl (ps ++ #[rawInt pos.line,rawInt pos.col,.ref c']))) c' (.frz oc (.ext fun _=>True))) h'.objs.size (.ext fun h=>h.get? h'.objs.size = some fo) = H';have e3:H' h'.objs.size = some (.ext fun h=>h.get? h'.objs.size = some fo):=by rw [<- hH']; exact zg
  have e4:H' c' = some (.frz oc (.ext fun _=>True)):=by rw [<- hH',zQ hcf]; exact zg
  have e5:H' P = some (.tbl (ps ++ #[rawInt pos.line,rawInt pos.col,.ref c'])):=by rw [<- hH',zQ hPf,zQ hPc]; exact zg
  have e6:∀ b,b ≠ P -> b ≠ c' -> b ≠ h'.objs.size -> H' b = H b:=fun b z1 z2 z3=>by rw [<- hH',zQ z3,zQ z2,zQ z1]
  have e7:∀ b o,H b = some o -> b ≠ P -> H' b = some o:=fun b o e z=>by rw [e6 b z (zX e hnc) (zX e hnf)]; exact e
  have hk:∀ b o,b ≠ P -> s.heap.get? b = some o -> (h'.push fo).get? b = some o:=fun b o z e=>zTy _ (hx b o z e);have st:Stp [] H [] H':=by
   have hfz:∀ a o u,H a = some (.frz o u) -> H' a = some (.frz o u):=fun a o u e=>e7 a _ e (zCb e hP (by intro z; cases z));refine ⟨⟨[],by simp⟩,fun a ha=> .inl ha,fun a o e _ nt=>e7 a o e fun z=>?_,fun a xs e=>e7 a _ e (zCb e hP (by intro z; cases z)),hfz,fun a ps' e=>?_⟩
   ·subst z; rw [hP] at e; cases e; exact nt _ rfl
   ·by_cases z:a = P
    ·subst z;rw [hP] at e; cases e;refine ⟨_,e5,fun g=>⟨?_,fun p v ev=>?_⟩⟩
     ·rw [show (ps ++ #[rawInt pos.line,rawInt pos.col,Value.ref c']).toList = ps.toList ++ [rawInt pos.line,rawInt pos.col,.ref c'] by simp];exact zDq g.1
     ·rw [show (ps ++ #[rawInt pos.line,rawInt pos.col,Value.ref c']).toList = ps.toList ++ [rawInt pos.line,rawInt pos.col,.ref c'] by simp] at ev;rcases zFs g.1 ev with z | z
      ·exact (g.2 p v z).keep hfz
      ·exact ⟨c',oc,vs,_,t,z,e4,hdc,hv⟩
    ·exact ⟨ps',e7 a _ e z,.keep hfz⟩
  subst hfo;refine ⟨.ref h'.objs.size,H',I.un (t':=tk) ⟨fun b o e n _ _=>?_,fun b o e n _ _=>⟨o.slots,?_⟩,fun b o e n _=>?_,fun b o e _=>?_,st.tup,st.frz,fun b ps' e=>?_⟩ fun a o e=>?_,rfl,h _ (.ref c') H' hnf st ⟨⟨c',oc,vs,_,t,rfl,e4,hdc,hv⟩,_,_,_,_,e3,h1,h2⟩⟩
  ·exact hk b o (fun z=>by rw [z,hP] at n; cases n) e
  ·exact hk b o (fun z=>by rw [z,hP] at n; cases n) e
  ·rw [e6 b (fun z=>by rw [z,hP] at n; cases n) (zUN (zUR (zUD e) hge)) (zUN (zUR (zUD e) (zUT hge (zWy hlt))))]; exact n
  ·by_cases z:b = P
   ·subst z; exact ⟨_,zTy _ htb⟩
   ·exact ⟨o,hk b o z e⟩
  ·by_cases z:b = P
   ·subst z; rw [hP] at e; cases e; exact ⟨_,e5⟩
   ·exact ⟨#[],by rw [e7 b _ e z]; simp⟩
  ·by_cases z1:a = h'.objs.size
   ·subst z1;rw [e3] at e; cases e;exact ⟨hpu,⟨_,hpu⟩,fun h1 h2 e k=>k _ e⟩
   ·by_cases z2:a = c'
    ·subst z2;rw [e4] at e; cases e;exact ⟨zTy _ hoc,trivial,⟨_,zTy _ hoc⟩,fun _ _ _ _=>trivial⟩
    ·by_cases z3:a = P
     ·subst z3;rw [e5] at e; cases e;exact zTy _ htb
     ·rw [e6 a z3 z2 z1] at e;refine (I.hok a o e).stay (fun b u hb q=>hk b u (fun z=>?_) q) (fun b q=>e7 b _ q (zCb q hP (by intro z; cases z))) st.tup;rcases hb with z4 | z4
      ·exact z3 (z4.symm.trans z)
      ·rw [z,hP] at z4; cases z4
end
def drp (H:Hp) (f:Addr):Hp:=fun b=>if b = f then none else H b
theorem zHJ {H:Hp} {f b:Addr} (h:b ≠ f):drp H f b = H b:=zUK h
theorem zFQ {H:Hp} {f:Addr}:drp H f f = none:=zUH rfl
section
variable {H:Hp} {f:Addr} {φ:Heap -> Prop} {L:List Addr}
theorem zAM {b:Addr} {o:HO} (e:H b = some o) (hf:H f = some (.ext φ)) (n:∀ ψ,o ≠ .ext ψ):drp H f b = some o:=by
 rw [zHJ (zCb e hf (n φ))]; exact e
mutual
theorem Rep.drp (hf:H f = some (.ext φ)):∀ {d:D} {v:V},Rep L H d v -> Rep L (drp H f) d v
 | .non,_,h=>by unfold Rep at h ⊢; exact h
 | .bl _,_,h=>by unfold Rep at h ⊢; exact h
 | .int _,_,h=>by unfold Rep at h ⊢; exact h
 | .str _,_,h=>by unfold Rep at h ⊢; exact h
 | .tup ds,_,h=>by
  unfold Rep at h ⊢;obtain ⟨a,vs,rfl,e,r⟩:=h;exact ⟨a,vs,rfl,zAM e hf (by intro _ z; cases z),zH.drp hf r⟩
 | .ref n,_,h=>by unfold Rep at h ⊢; exact h
 | .fn _ ds,_,h=>by
  unfold Rep at h ⊢;obtain ⟨h1,⟨a,oc,vs,q,t,e1,e2,r⟩,h2⟩:=h;exact ⟨h1,⟨a,oc,vs,q,t,e1,zAM e2 hf (by intro _ z; cases z),r⟩,zH.drp hf h2⟩
theorem zH.drp (hf:H f = some (.ext φ)):∀ {ds:List D} {vs:List V},zH L H ds vs -> zH L (drp H f) ds vs
 | [],_,h=>by unfold zH at h ⊢; exact h
 | d :: ds,_,h=>by
  unfold zH at h ⊢;obtain ⟨v,r,rfl,h1,h2⟩:=h;exact ⟨v,r,rfl,Rep.drp hf h1,zH.drp hf h2⟩
end
theorem zAD.drp {κ:Type} {kf:D -> Option κ} (hf:H f = some (.ext φ)):∀ {ps:List (D × D)} {vs:List (κ × V)},zAD kf L H ps vs -> zAD kf L (drp H f) ps vs
 | [],_,h=>h
 | p :: r,_,h=>by
  obtain ⟨k,v,r',rfl,e,h1,h2⟩:=h;exact ⟨k,v,r',rfl,e,h1.drp hf,zAD.drp hf h2⟩
theorem zDB.drp {K:PySem.W.Frag} {a:Addr} {m:MO} (hf:H f = some (.ext φ)) (h:zDB K L H a m):zDB K L (L3.drp H f) a m:=by
 cases m with
 | lst xs=>obtain ⟨vs,e,r⟩:=h; exact ⟨vs,zAM e hf (by intro _ z; cases z),r.drp hf⟩
 | fro xs=>obtain ⟨o,vs,e,r⟩:=h; exact ⟨o,vs,zAM e hf (by intro _ z; cases z),r.drp hf⟩
 | dict ps=>obtain ⟨vs,e,r⟩:=h; exact ⟨vs,zAM e hf (by intro _ z; cases z),r.drp hf⟩
 | dicT ps=>obtain ⟨vs,e,r⟩:=h; exact ⟨vs,zAM e hf (by intro _ z; cases z),r.drp hf⟩
 | set _=>obtain ⟨o,u,e⟩:=h; exact ⟨o,u,zAM e hf (by intro _ z; cases z)⟩
 | froT ps=>obtain ⟨o,vs,e,r⟩:=h; exact ⟨o,vs,zAM e hf (by intro _ z; cases z),r.drp hf⟩
 | froK ps=>obtain ⟨o,vs,e,r⟩:=h; exact ⟨o,vs,zAM e hf (by intro _ z; cases z),r.drp hf⟩
theorem zCv.drp {v:Value} (hf:H f = some (.ext φ)) (x:zCv H v):zCv (L3.drp H f) v:=x.keep fun _ _ _ e=>zAM e hf (by intro _ z; cases z)
theorem Cor.drp {K:PySem.W.Frag} {M:Mem} (hf:H f = some (.ext φ)) (c:Cor K L M H):Cor K L M (L3.drp H f) :=
 ⟨c.len,c.nd,fun n a m e1 e2=>(c.obj n a m e1 e2).drp hf,fun x hx d P e=>
  let ⟨ps,e1,g⟩:=c.tab x hx d P e
  ⟨ps,zAM e1 hf (by intro _ z; cases z),g.keep fun _ _ _ e=>zAM e hf (by intro _ z; cases z)⟩⟩
theorem Stp.drp {H0:Hp} {L0:List Addr} (hf:H f = some (.ext φ)) (h0:H0 f = none) (s:Stp L0 H0 L H):Stp L0 H0 L (L3.drp H f):=by
 refine ⟨s.pre,s.new,fun a o e hl nt=>?_,fun a xs e=>zAM (s.tup a xs e) hf (by intro _ z; cases z),fun a o u e=>zAM (s.frz a o u e) hf (by intro _ z; cases z),fun a ps e=>?_⟩
 ·rw [zHJ (zX e h0)]; exact s.old a o e hl nt
 ·obtain ⟨p,e1,g⟩:=s.tbl a ps e;exact ⟨p,zAM e1 hf (by intro _ z; cases z),fun q=>(g q).keep fun _ _ _ e=>zAM e hf (by intro _ z; cases z)⟩
end
section
variable {X:Cx} {pr:Arguments} {bd:Expr} {sc:Scope} {pos p lp:Pos} {e:Expr} {es:List Expr} {c P f:Addr} {g1 g2:FA}
def only (h:Heap) (base:Heap) (S:List Addr):Heap:=PySem.W.hideAll h ((List.range h.objs.size).filter fun b=> !((base.get? b).isSome || S.contains b))
theorem zFo {h base:Heap} {S:List Addr} {b:Addr} {o:Obj} (e:h.get? b = some o) (hb:(∃ u,base.get? b = some u) \/ b ∈ S):(only h base S).get? b = some o:=by
 refine PySem.W.hideAll_get _ e fun hm=>?_;have q:=(List.mem_filter.mp hm).2;rcases hb with ⟨u,z⟩ | z
 ·rw [z] at q; simp at q
 ·rw [List.contains_iff_mem.mpr z] at q; simp at q
theorem zLS {h base:Heap} {S:List Addr} {b:Addr} {o:Obj} (e:(only h base S).get? b = some o):h.get? b = some o /\ ((∃ u,base.get? b = some u) \/ b ∈ S):=by
 have e1:=PySem.W.of_hideAll _ e;refine ⟨e1,?_⟩;cases q:base.get? b with
 | some u=>exact .inl ⟨u,rfl⟩
 | none=>
  by_cases z:b ∈ S
  ·exact .inr z
  ·have:(only h base S).get? b = none:=PySem.W.hideAll_none _ (List.mem_filter.mpr ⟨List.mem_range.mpr (zUD e1),by rw [q]; simpa using z⟩);rw [this] at e; cases e
theorem zOq {k:Nat} {g:Addr} {gd:FuncData} {ps fs:List Str} {sp:Sp} {zB:List (Addr × Obj)} {σ:L2.St} {H:Hp} {s:Shared} {Q:VK} {us:List Value} {vs cvs:List V} {cv:Value}
  (F:∀ base',LamAt base' ⟨f,cv,cvs⟩ pr bd sc fs -> FnOk X.prog X.w X.K X.mg base' CX0 k g gd ps sp) (hfn:∀ x,X.fn x = true) (hr:Room k X.A) (hb:zDD X.K gd ps []) (I:Inv X zB σ H s) (V:zJt X pr bd sc H f cv)
  (hl:cvs.length = fs.length) (hcap:∀ (i:Nat) x v,fs[i]? = some x -> cvs[i]? = some v -> ∃ j:Nat,X.N[j]? = some x /\ σ[j]? = some (some v) /\ X.env.scope.names.lookup x = some .cell /\ (x,NameKind.free) ∈ sc.names)
  (r:zU vs us) (h:sp vs (drp H f) Q E0):wpAny (model X.prog X.w) X.A (call (.ref g) us) (EP X zB σ Q) X.xe s:=by
 obtain ⟨cf,qual,cl,pm,ctv,hf,h1,h2⟩:=V;obtain ⟨ho,_⟩:=I.hok f _ hf;have fne:∀ b,H b = none -> drp H f b = none:=fun b n=>by
  by_cases z:b = f
  ·rw [z]; exact zFQ
  ·rw [zHJ z]; exact n
 have cells:∀ x d,cl.lookup x = some d -> d ∈ X.env.cells.map (·.2):=fun x d e=>zUJ.mpr ⟨(x,d),zU4 (h1 x d e),rfl⟩;generalize hS:f :: X.env.cells.filterMap (fun p=>if X.env.cells.lookup p.1 = some p.2 then some p.2 else none) = S;have inS:∀ x d,cl.lookup x = some d -> d ∈ S:=fun x d e=>by
  rw [<- hS];exact zUF _ (List.mem_filterMap.mpr ⟨(x,d),zU4 (h1 x d e),zUH (h1 x d e)⟩)
 have ofS:∀ b ∈ S,b = f \/ ∃ x,X.env.cells.lookup x = some b:=fun b hb=>by
  rw [<- hS] at hb;rcases zUE.mp hb with z | z
  ·exact .inl z
  ·obtain ⟨p,hp,e⟩:=List.mem_filterMap.mp z;split at e
   ·rename_i q; cases e; exact .inr ⟨_,q⟩
   ·cases e
 have bk:∀ b o,X.base.get? b = some o -> (only s.heap X.base S).get? b = some o:=fun b o e=>zFo (I.bk b o e) (.inl ⟨o,e⟩);have nsK:∀ {b:Addr} {m:Str -> Option Value},X.base.Ns b m -> (only s.heap X.base S).Ns b m:=fun {b m} ⟨o,es,ep,e,d,r⟩=>⟨o,es,ep,bk _ _ e,d,r⟩;have md:Mod X.K X.mg (only s.heap X.base S):=by
  have M:=I.mod;obtain ⟨mb,n1,n2⟩:=M.blt;obtain ⟨bm,ob,b1,b2,b3,b4⟩:=M.bmn;exact ⟨M.kin.keeps bk,M.glob.keeps bk,⟨mb,n1.keeps bk,n2⟩,M.nolimit.keeps bk,bm,ob,b1,b2,bk _ _ b3,b4⟩
 have la:LamAt (only s.heap X.base S) ⟨f,cv,cvs⟩ pr bd sc fs:=by
  have cel:∀ x d,cl.lookup x = some d -> ∀ v,s.heap.IsCell d v -> (only s.heap X.base S).IsCell d v:=fun x d e v ⟨o,e2,z⟩=>⟨o,zFo e2 (.inr (inS x d e)),z⟩;refine ⟨hl,qual,cl,pm,ctv,zFo ho (.inr (by rw [<- hS]; exact zUG)),fun x y d a b=>I.ok.inj x y d (h1 x d a) (h1 y d b),h2,fun x d e=>?_,fun i x v e1 e2=>?_⟩
  ·obtain ⟨v,z⟩:=I.cell x d (h1 x d e);exact ⟨v,cel x d e v z⟩
  ·obtain ⟨j,n1,n2,n3,n4⟩:=hcap i x v e1 e2;obtain ⟨m,hn,lk⟩:=I.loc;obtain ⟨u,ru,l⟩:=lk j x v n1 n2 (.inr (.inl n3));obtain ⟨d,hd⟩:=Option.isSome_iff_exists.mp (h2 (x,.free) n4 rfl);refine ⟨d,u,hd,ru,cel x d hd _ ?_⟩;rcases l with ⟨l,_⟩ | ⟨_,c2,l,z⟩
   ·exfalso;have l':X.env.scope.names.lookup x = some .local:=l;rw [n3] at l'; cases l'
   ·rw [h1 x d hd] at l; cases l; exact z
 have hok:HOk X.prog X.w (drp H f) s.heap:=fun a o e=>by
  by_cases z:a = f
  ·rw [z,zFQ] at e; cases e
  ·rw [zHJ z] at e;exact (I.hok a o e).stay (fun _ _ _ q=>q) (fun b q=>zAM q hf (by intro _ z; cases z)) fun b xs q=>zAM q hf (by intro _ z; cases z)
 have I2:Inv X zB σ (drp H f) s:=by
  refine ⟨I.ok,I.os,I.bare,⟨I.base.keep,I.base.slot,fun b o e n hx=>fne b (I.base.free b o e n hx),I.base.there,fun b xs e=>zAM (I.base.tups b xs e) hf (by intro _ z; cases z),fun b o xs e=>zAM (I.base.frzs b o xs e) hf (by intro _ z; cases z),fun b qs e=>?_⟩,I.loc,I.cell,fne _ I.free,fun x c e=>fne _ (I.freeC x c e),fun q hq=>?_,hok,I.len⟩
  ·obtain ⟨more,z⟩:=I.base.tbls b qs e;exact ⟨more,zAM z hf (by intro _ z; cases z)⟩
  ·obtain ⟨a1,a2,a3⟩:=I.pin q hq;exact ⟨a1,fne _ a2,a3⟩
 have E0':=I2.env0;have e1:Env0 X.prog X.w X.K X.mg (only s.heap X.base S) X.A X.stack s (drp H f):=by
  refine ⟨E0'.frames,md,fun b o e=>?_,Nat.le_of_eq (PySem.W.hideAll_size _ _),?_,E0'.frf,hok,E0'.bare⟩
  ·obtain ⟨q1,q2⟩:=zLS e;refine ⟨q1,?_⟩;rcases q2 with ⟨u,q2⟩ | q2
   ·exact fne b (I.bs b u q2).2
   ·rcases ofS b q2 with rfl | ⟨x,z⟩
    ·exact zFQ
    ·exact fne b (I.freeC x b z)
  ·have nofr:∀ L ∈ frs X.stack,X.base.get? L = none -> (only s.heap X.base S).get? L = none:=fun L hL eb=>by
    cases q:(only s.heap X.base S).get? L with
    | none=>rfl
    | some u=>
     obtain ⟨q1,q2⟩:=zLS q;rcases q2 with ⟨u,q2⟩ | q2
     ·rw [eb] at q2; cases q2
     ·rcases ofS L q2 with rfl | ⟨x,z⟩
      ·have:=I.stkFree L hL;rw [hf] at this; cases this
      ·rcases zUE.mp (I.stkSub L hL) with z2 | z2
       ·exact absurd z2 (I.cne x L z)
       ·obtain ⟨_,o,ho2,_⟩:=I.ok.funs.mem z2;exact absurd (zUR (zUD ho2) (I.ok.cab x L (hfn x) z)) (zUk _)
   have all:∀ l:List Env,(∀ b ∈ frs l,b ∈ frs X.stack) -> s.heap.FunFrames X.base l -> s.heap.FunFrames (only s.heap X.base S) l:=by
    intro l;induction l with
    | nil=>intro _ _; trivial
    | cons env r ih=>
     intro hs hh;obtain ⟨hk,⟨L,o,hf,hn,ho'⟩,hr⟩:=hh;exact ⟨hk,⟨L,o,hf,nofr L (hs L (by unfold frs; rw [List.filterMap_cons,hf]; exact zUG)) hn,ho'⟩,ih (fun b hb=>hs b (by unfold frs; rw [List.filterMap_cons,hf]; exact zUF _ hb)) hr⟩
   exact all _ (fun _ h=>h) E0'.funs
 have hl2:us.length = ps.length:=by rw [<- r.length]; exact (F _ la).len _ _ _ _ h
 refine wpAny_call (codeAny_mono ((F _ la).run X.A X.stack s (drp H f) ⟨us,[]⟩ us vs Q E0 hr e1 (by have:=hb s us I.kIn (by simpa using hl2); simpa using this) r h) fun r s' hq=>?_);cases r with
 | error e=>exact False.elim hq
 | ok fl=>
  cases fl with
  | ret u=>exact I2.after hq
  | next=>exact False.elim hq
  | brk=>exact False.elim hq
  | cont=>exact False.elim hq
end
def zTa (X:Cx) (pr:Arguments) (bd:Expr) (sc:Scope) (g1 g2:FA):TA:=fun τ H Q=>∃ L σ M ds1 M1 ds2 M2,Cor X.K L M H /\ zAs L H σ τ /\ g1 σ M = some (ds1,M1) /\ g2 σ M1 = some (ds2,M2) /\
 ∀ L' H' vs1 f c vs2,Stp L H L' H' -> Cor X.K L' M2 H' -> zH L' H' ds1 vs1 -> zH L' H' ds2 vs2 -> H f = none -> zJt X pr bd sc H' f c -> Q (vs1 ++ .ref f :: vs2) H'
structure QAL (X:Cx) (es:List Expr) (pr:Arguments) (bd:Expr) (sc:Scope) (g1 g2:FA):Prop where
 un:PA X es (zTa X pr bd sc g1 g2)
theorem zJt.stp {X:Cx} {pr:Arguments} {bd:Expr} {sc:Scope} {L L':List Addr} {M:Mem} {K:PySem.W.Frag} {H H':Hp} {f:Addr} {c:Value} (k:Cor K L M H) (s:Stp L H L' H') (v:zJt X pr bd sc H f c):zJt X pr bd sc H' f c:=by
 obtain ⟨cf,qual,cl,pm,ctv,hf,h1,h2⟩:=v;refine ⟨cf.keep s.frz,qual,cl,pm,ctv,s.old f _ hf (fun z=>?_) (by intro _ z; cases z),h1,h2⟩;obtain ⟨n,hn⟩:=List.getElem?_of_mem z;have hm:=k.obj n f _ hn (zT6 (by rw [<- k.len]; exact (zT0.mp hn).1));generalize M[n]'_ = m at hm;cases m with
 | lst xs=>obtain ⟨vs,e',_⟩:=hm; rw [hf] at e'; cases e'
 | fro xs=>obtain ⟨o,vs,e',_⟩:=hm; rw [hf] at e'; cases e'
 | dict ps=>obtain ⟨vs,e',_⟩:=hm; rw [hf] at e'; cases e'
 | dicT ps=>obtain ⟨vs,e',_⟩:=hm; rw [hf] at e'; cases e'
 | set _=>obtain ⟨o,u,e'⟩:=hm; rw [hf] at e'; cases e'
 | froT ps=>obtain ⟨o,vs,e',_⟩:=hm; rw [hf] at e'; cases e'
 | froK ps=>obtain ⟨o,vs,e',_⟩:=hm; rw [hf] at e'; cases e'
section
variable {X:Cx} {pr:Arguments} {bd:Expr} {sc:Scope} {pos p lp:Pos} {e:Expr} {es:List Expr} {c P:Addr} {g1 g2:FA} {x y:Str}
theorem zNj (hx:y ∈ zB8) (ht:PySem.W.tabIn X.K y = some (c,P)) (hcode:X.env.code = .ref c) (hC:PySem.W.codeHdIn X.K c P = true) {sc0:Scope} (hs0:X.env.scope = sc0) (hS:∀ y ∈ sc.names,y.2 = .free -> sc0.names.lookup y.1 = some .cell) (h2:QA X es g2)
  (hd:pr.defaults = []:=by rfl) (hkd:pr.kw_defaults = []:=by rfl) (hs:starEach (.Lambda pr bd sc lp :: es) X.env = (false,eval (.Lambda pr bd sc lp) X.env) :: starEach es X.env:=by rfl):QAL X (.Lambda pr bd sc lp :: es) pr bd sc zL g2 :=
 .mk <| PA.imp (zB2 (zQm hcode hC (fun y hy hf=> .inl (by show X.env.scope.names.lookup y.1 = _; rw [hs0]; exact hS y hy hf)) hd hkd) h2.un hs) fun τ H Q zz=>by
  obtain ⟨L,σ,M,ds1,M1,ds2,M2,k,rs,e1,e2,q⟩:=zz;unfold zL at e1;cases e1;refine ⟨k.tab y hx c P ht,fun f cv H1 hf s1 V=>?_⟩;have s1':Stp L H L H1:=s1.bare;refine ⟨L,σ,M,ds2,M2,k.bare s1,rs.stp s1',e2,fun L2 H2 vs s2 k2 r2=>?_⟩;exact q L2 H2 [] f cv vs (s1'.trans s2) k2 .nil r2 hf (V.stp (k.bare s1) s2)
theorem zH7 {f:FD} (h1:QD X e f) (h2:QAL X es pr bd sc g1 g2) (hs:starEach (e :: es) X.env = (false,eval e X.env) :: starEach es X.env:=by rfl):QAL X (e :: es) pr bd sc (zD f g1) g2 :=
 .mk <| PA.imp (zB2 h1.un h2.un hs) fun τ H Q zz=>by
  obtain ⟨L,σ,M,ds1,M1,ds2,M2,k,rs,e1,e2,q⟩:=zz;unfold zD at e1;split at e1
  ·rename_i d0 M0 e0;split at e1
   ·rename_i ds3 M3 e3;cases e1;refine ⟨L,σ,M,d0,M0,k,rs,e0,fun L0 H0 v s0 k0 r0=>⟨L0,σ,M0,ds3,M1,ds2,M2,k0,rs.stp s0,e3,e2,fun L' H' vs1 f c vs2 s' k' r1 r2 hf V=>?_⟩⟩;exact q L' H' (v :: vs1) f c vs2 (s0.trans s') k' (.cons (r0.stp s') r1) r2 (zG1 s0 k k0 hf).1 V
   ·cases e1
  ·cases e1
def zMz (σ:Sd):List Nat -> Option (List D)
 | []=>some []
 | i :: r=>match σ[i]?,zMz σ r with
  | some (some d),some ds=>some (d :: ds)
  | _,_=>none
noncomputable def zFi (idx:List Nat) (m:Lm -> FF) (g1 g2:FA):FE:=fun σ M=>match g1 σ M with
 | some (ds1,M1)=>match g2 σ M1 with
  | some (ds2,M2)=>match zMz σ idx with
   | some cs=>open Classical in if h:∃ r:D × Mem,∀ l,m l (ds1 ++ .fn l cs :: ds2) M2 = some r then some (.dat h.choose.1,h.choose.2) else none
   | none=>none
  | none=>none
 | none=>none
theorem zLH {L:List Addr} {H:Hp} {σ:Sd} {τ:Sv} (rs:zAs L H σ τ):∀ {idx:List Nat} {cs:List D},zMz σ idx = some cs -> ∃ vs,zH L H cs vs /\ vs.length = idx.length /\ ∀ (i:Nat) v,vs[i]? = some v -> ∃ j:Nat,idx[i]? = some j /\ τ[j]? = some (some v)
 | [],cs,h=>by cases h; exact ⟨[],.nil,rfl,fun i v e=>by simp at e⟩
 | j :: r,cs,h=>by
  unfold zMz at h;split at h
  ·rename_i d ds e1 e2;cases h;obtain ⟨v,e3,r3⟩:=rs.2 j d e1;obtain ⟨vs,r4,l4,h4⟩:=zLH rs e2;refine ⟨v :: vs,.cons r3 r4,by simp [l4],fun i u e=>?_⟩;cases i with
   | zero=>simp at e; subst e; exact ⟨j,rfl,e3⟩
   | succ i=>exact h4 i u (by simpa using e)
  ·cases h
theorem zJg {L:List Addr} {H:Hp} {d1 d2:List D} {v1 v2:List V} {l:Lm} {cs:List D} (h1:zH L H d1 v1) (h2:zH L H d2 v2) (hc:zCv H l.c) (h3:zH L H cs l.us):zH L H (d1 ++ .fn l cs :: d2) (v1 ++ .ref l.f :: v2) :=
 h1.app (.cons (by unfold Rep; exact ⟨rfl,hc,h3⟩) h2)
theorem zOn {k n:Nat} {g:Addr} {gd:FuncData} {ps fs:List Str} {m:Lm -> FF} {idx:List Nat}
  (F:∀ base' l,LamAt base' l pr bd sc fs -> FnOk X.prog X.w X.K X.mg base' CX0 k g gd ps (spF X.K n (m l))) (hfn:∀ x,X.fn x = true) (hr:Room k X.A) (hg:Gl X x) (hm:X.mg x = some (.ref g)) (hk:PySem.W.keepIn X.K (.ref g) = true) (hb:zDD X.K gd ps [])
  (ha:QAL X (e :: es) pr bd sc g1 g2) (hl:∀ σ M ds1 M1 ds2 M2,g1 σ M = some (ds1,M1) -> g2 σ M1 = some (ds2,M2) -> ds1.length + (ds2.length + 1) = n)
  (hi:idx.length = fs.length) (hcap:∀ (i:Nat) x j,fs[i]? = some x -> idx[i]? = some j -> X.N[j]? = some x /\ X.env.scope.names.lookup x = some .cell /\ (x,NameKind.free) ∈ sc.names)
  (hdb:(x == ("__debug__" : Str)) = false:=by decide) (he:starEach (e :: es) X.env = (false,eval e X.env) :: starEach es X.env:=by rfl) (hpl:(backTo pos (starEach es X.env)).any (·.1) = false:=by rfl) :
  QE X (.Call (.Name x p) (e :: es) [] pos) (zFi idx m g1 g2):=.mk <| by
 intro zB s τ H Q I ⟨L,σ,M,d,M',k0,rs,hf,q⟩;unfold zFi at hf;split at hf
 ·rename_i ds1 M1 e1;split at hf
  ·rename_i ds2 M2 e2;split at hf
   ·rename_i cs e3;split at hf
    ·rename_i hh;have hc:=hh.choose_spec;generalize hh.choose = r at hc hf;cases hf;refine wpAny_Call_Name_kw (zLI I hg hm ?_ hdb)
     refine PySem.W.callWith_K (h₀:=X.base) I.ok.mod.kin hk (thn (ha.un pos zB s τ H (fun vs H1=>∃ L' vs1 f c vs2,Stp L H L' H1 /\ Cor X.K L' M2 H1 /\ zH L' H1 ds1 vs1 /\ zH L' H1 ds2 vs2 /\ H f = none /\ zJt X pr bd sc H1 f c /\ vs = vs1 ++ .ref f :: vs2) I
      ⟨L,σ,M,ds1,M1,ds2,M2,k0,rs,e1,e2,fun L' H' vs1 f c vs2 a1 a2 a3 a4 a5 a6=>⟨L',vs1,f,c,vs2,a1,a2,a3,a4,a5,a6,rfl⟩⟩) fun us s1 ⟨vs,H1,I1,rv,L1,vs1,f,c,vs2,s1',k1,r1,r2,hfn0,V,ev⟩=>⟨I1.kIn,?_⟩) he hpl
     subst ev;obtain ⟨cvs,rc,lc,hcv⟩:=zLH (rs.stp s1') e3;have V':=V;obtain ⟨cf,qual,cl,pm,ctv,hfe,_⟩:=V';refine zOq (F:=fun base' la=>F base' ⟨f,c,cvs⟩ la) hfn hr hb I1 V (by rw [lc,hi]) (fun i y v q1 q2=>?_) rv ?_
     ·obtain ⟨j,z1,z2⟩:=hcv i v q2;obtain ⟨z3,z4,z5⟩:=hcap i y j q1 z1;exact ⟨j,z3,z2,z4,z5⟩
     ·refine ⟨L1,ds1 ++ .fn ⟨f,c,cvs⟩ cs :: ds2,M2,r.1,r.2,k1.drp hfe,zJg (l:=⟨f,c,cvs⟩) (r1.drp hfe) (r2.drp hfe) (cf.drp hfe) (rc.drp hfe),?_,hc _,fun L2 H2 v s2 k2 r3=>?_⟩
      ·rw [zUI,zUZ]; exact hl σ M ds1 M1 ds2 M2 e1 e2
      ·exact q L2 H2 v ((s1'.drp hfe hfn0).trans s2) k2 r3
    ·cases hf
   ·cases hf
  ·cases hf
 ·cases hf
noncomputable def zEW (i:Nat) (l:Lm) (g:List D -> FF) (fa:FA):FE:=fun σ M=>match σ[i]? with
 | some (some (.fn l' cs))=>open Classical in if l' = l then match fa σ M with
   | some (ds,M1)=>match g cs ds M1 with
    | some (d,M2)=>some (.dat d,M2)
    | none=>none
   | none=>none
  else none
 | _=>none
theorem zPb {i k n:Nat} {l:Lm} {g:List D -> FF} {fa:FA} (F:LamOk X.prog X.w X.K X.mg X.base k l n g) (hr:Room k X.A) (hN:X.N[i]? = some x) (ha:QA X (e :: es) fa) (hl:zKU fa n)
  (hv:Vis X.env.scope x:=by first | exact Or.inl rfl | exact Or.inr (Or.inl rfl) | exact Or.inr (Or.inr rfl)) (hdb:(x == ("__debug__" : Str)) = false:=by decide) (hcd:(x == ("__classdict__" : Str)) = false:=by decide)
  (he:starEach (e :: es) X.env = (false,eval e X.env) :: starEach es X.env:=by rfl) (hpl:(backTo pos (starEach es X.env)).any (·.1) = false:=by rfl) :
  QE X (.Call (.Name x p) (e :: es) [] pos) (zEW i l g fa):=.mk <| by
 intro zB s τ H Q I ⟨L,σ,M,d,M',k0,rs,hf,q⟩;unfold zEW at hf;split at hf
 ·rename_i l' cs e1;split at hf
  ·rename_i hl';subst hl';split at hf
   ·rename_i ds M1 e2;split at hf
    ·rename_i d' M2 e3;cases hf;obtain ⟨fd,ps,hb,⟨oc,od,fd',sl,fo⟩,FO⟩:=F.ex;obtain ⟨v,e4,r4⟩:=rs.2 i _ e1;unfold Rep at r4;obtain ⟨rfl,cf,rc⟩:=r4;refine wpAny_Call_Name_kw (thn (zOQ hN hv hdb hcd zB s τ H (fun v H'=>v = .ref l'.f /\ H' = H) I ⟨_,e4,rfl,rfl⟩) fun u s1 ⟨v,H1,I1,rv,ev,eH⟩=>?_);subst ev eH;obtain rfl:u = Value.ref l'.f:=rv;refine PySem.W.callWith_F ⟨_,_,_,_,I1.bk _ _ fo⟩ (thn (ha.un pos zB s1 τ H1 (fun vs H2=>∃ L2,Stp L H1 L2 H2 /\ Cor X.K L2 M1 H2 /\ zH L2 H2 ds vs) I1 ⟨L,σ,M,ds,M1,k0,rs,e2,fun L2 H2 vs a1 a2 a3=>⟨L2,a1,a2,a3⟩⟩) fun us s2 ⟨vs,H2,I2,rv2,L2,s2',k2,r2⟩=>⟨⟨_,_,_,_,I2.bk _ _ fo⟩,?_⟩) he hpl;have:=zOJ (dvs:=[]) (E:=E0) (Q:=Q) FO hr hb .nil zQL I2 rv2 (by
      rw [zUm];exact ⟨L2,ds,cs,M1,d',M',k2,r2,hl _ _ _ _ e2,cf.keep s2'.frz,rc.stp s2',e3,fun L3 H3 v s3 k3 r3=>q L3 H3 v (s2'.trans s3) k3 r3⟩)
     simpa using this
    ·cases hf
   ·cases hf
  ·cases hf
 ·cases hf
end
theorem zPq {P:Program} {w:World} {K:PySem.W.Frag} {mg:Str -> Option Value} {base:Heap} {qual x:Str} {st:Stmt} {f c:Addr} {fd:FuncData} {N ps:List Str} {b:FS} {n k:Nat} (F:Fun K x qual st f fd) (S:FnScope N ps (zP st)) (hn:ps.length = n) (hc:fd.code = .ref c)
  (hb:∀ (A:Around) (outer:List Env) (s:Shared) (H:Hp) (E:XK),Room k (A.deeper (envOfC qual (zP st) s.heap.objs.size f (.ref c))) -> QSs (zIA CX0 P w K mg base N qual (zP st) f (.ref c) A outer s H E).nox (zBM st) b) :
  FnOk P w K mg base CX0 (k + 1) f fd ps (spF K n (zBP N.length b)):=by
 have F':=F;obtain ⟨oc,od,kV,doc,pm,an,cdv,ct,osl,rfl,lk,hcd⟩:=F'.ex;have hc':cdv = .ref c:=hc;subst hc';refine zQG lk hcd S (fun vs H Q E h=>?_) (fun A outer s H vs Q E hr h=>⟨_,(hb A outer s H E hr).un.nox,?_⟩)
 ·obtain ⟨L,ds,M,d,M',c,r,hl,_⟩:=h;rw [r.length,hl,hn]
 ·obtain ⟨L,ds,M,d,M',c,r,hl,hf,q⟩:=h;unfold zBP at hf;split at hf
  ·rename_i d' σ' M1 e1;cases hf;exact ⟨L,_,M,_,_,_,c,zDA r,e1,fun L1 H1 s1 c1 v r1=>q L1 H1 v s1 c1 r1⟩
  ·rename_i σ' M1 e1;cases hf;exact ⟨L,_,M,_,_,_,c,zDA r,e1,fun L1 H1 s1 c1 τ' r1=>q L1 H1 .non s1 c1 (by unfold Rep; rfl)⟩
  ·cases hf
def zOA (ts:List Addr) (H:Hp):Prop:=(∀ b xs,H b ≠ some (.lst xs)) /\ ∀ P ∈ ts,H P = some (.tbl #[])
theorem zP7 {K:PySem.W.Frag} {ts:List Addr} {H:Hp} (h:∀ x ∈ zB8,∀ c P,PySem.W.tabIn K x = some (c,P) -> P ∈ ts) (hO:zOA ts H):zLt K H:=fun x hx c P e=>
 ⟨#[],hO.2 P (h x hx c P e),trivial,fun pos v q=>by
  have q':(none:Option Value) = some v:=q;cases q'⟩
theorem zLb {P:Program} {w:World} {K:PySem.W.Frag} {mg mb:Str -> Option Value} {k:Nat} {fa a:Addr} {fd:FuncData} {x:Str} {sp:Sp} {s₁:Shared} {vs:List Value} {ns:List Int} {ts:List Addr}
  (KX:K.In s₁.heap) (hns:s₁.heap.Ns mainGlobals mg) (hb:s₁.heap.Ns builtinsNs mb) (hbb:∀ x:Str,x ≠ "__name__" -> mb x = bootBuiltins x) (hlim:s₁.heap.NoLimit) (hbm:BMn mg s₁.heap) (hg:s₁.gens = #[])
  (ha:s₁.heap.get? a = some { cls:=.type "list", data:=.seq vs.toArray }) (hi:IntsAre vs ns) (hl:ns.length <= sizeLine) (hr:Room k callerA)
  (hnL:zEY K = true) (hnT:PySem.W.noTabs K = true) (hts:∀ P ∈ ts,s₁.heap.get? P = some (PySem.W.tabObj #[]) /\ ∃ c,PySem.W.codeHdIn K c P = true)
  (F:∀ base:Heap,K.In base -> base.Ns mainGlobals mg -> FnOk P w K mg base CX0 k fa fd [x] sp) (hbind:∀ (s:Shared) (u:Value),BindsTo s fd ⟨[u],[]⟩ [(x,u)])
  (hsp:∀ H:Hp,zOA ts H -> SqL K H a (ns.map V.int) -> sp [.ref a] H (fun v _=>v = .bl true) fun _ _ _=>False) :
  codeAny (model P w) callerA (.call (.ref fa) ⟨[.ref a],[]⟩) (fun r s'=>r = .ok (.ret (.bool true)) /\ OldK s₁.heap s'.heap /\ s'.os = s₁.os /\ AllBare s'.gens) s₁:=by
 have rv:=zGw hi;have lenV:=hi.length;have aT:a ∉ ts:=fun z=>by
  have:=(hts a z).1;rw [ha] at this; cases this
 have Ka:K.lookup a = none:=by
  cases q:K.lookup a with
  | none=>rfl
  | some o=>
   have e:=KX a o q;rw [ha] at e; cases e;exact (zG3 hnL q rfl).elim
 have KT:∀ P ∈ ts,K.lookup P = none:=fun P hP=>by
  cases q:K.lookup P with
  | none=>rfl
  | some o=>
   have e:=KX P o q;rw [(hts P hP).1] at e; cases e;have h2:=zUd.mp hnT (P,_) (zFj q);exact absurd (show false = true from h2) zUO
 generalize hH:(fun b=>if b = a then some (.frz { cls:=.type "list", data:=.seq vs.toArray } (.lst (ns.map V.int))) else if b ∈ ts then some (.tbl #[]) else none:Hp) = H;have Ha:H a = some (.frz { cls:=.type "list", data:=.seq vs.toArray } (.lst (ns.map V.int))):=by rw [<- hH]; exact zUH rfl
 have Ht:∀ P ∈ ts,H P = some (.tbl #[]):=fun P hP=>by
  rw [<- hH];show (if P = a then _ else if P ∈ ts then _ else _) = _;have hPa:P ≠ a:=fun z=>by subst z; exact aT hP
  rw [zUK hPa,zUH hP]
 have Hn:∀ b,b ≠ a -> b ∉ ts -> H b = none:=fun b h1 h2=>by
  rw [<- hH];show (if b = a then _ else if b ∈ ts then _ else _) = _;rw [zUK h1,zUK h2]
 have hO:zOA ts H:=by
  refine ⟨fun b xs z=>?_,Ht⟩;by_cases h1:b = a
  ·rw [h1,Ha] at z; cases z
  ·by_cases h2:b ∈ ts
   ·rw [Ht b h2] at z; cases z
   ·rw [Hn b h1 h2] at z; cases z
 have hok:HOk P w H s₁.heap:=fun b u z=>by
  by_cases h1:b = a
  ·subst h1; rw [Ha] at z; cases z;exact ⟨ha,by rw [zUB]; exact hl,vs,_,rv,ha⟩
  ·by_cases h2:b ∈ ts
   ·rw [Ht b h2] at z; cases z; exact (hts b h2).1
   ·rw [Hn b h1 h2] at z; cases z
 have base_of:∀ {b:Addr} {o:Obj},s₁.heap.get? b = some o -> H b = none -> (zGS s₁.heap H).get? b = some o:=fun e n=>zNL e n;have noA:∀ {b:Addr} {o:Obj},s₁.heap.get? b = some o -> (∀ xs n,o.data ≠ .seq xs n) -> (∀ xs,o.data ≠ .fields xs) -> H b = none:=fun {b o} e d1 d2=>by
  refine Hn b (fun z=>?_) fun z=>?_
  ·rw [z,ha] at e; cases e; exact d1 _ _ rfl
  ·rw [(hts b z).1] at e; cases e; exact d2 _ rfl
 have nsK:∀ {b:Addr} {m:Str -> Option Value},s₁.heap.Ns b m -> (zGS s₁.heap H).Ns b m:=fun {b m} ⟨o,es,ep,e,d,r⟩=>⟨o,es,ep,base_of e (noA e (fun _ _ z=>by rw [d] at z; cases z) fun _ z=>by rw [d] at z; cases z),d,r⟩;have hKb:K.In (zGS s₁.heap H):=fun b o e=>base_of (KX b o e) (Hn b (fun z=>by rw [z,Ka] at e; cases e) fun z=>by rw [KT b z] at e; cases e);have bmK:BMn mg (zGS s₁.heap H):=by
  obtain ⟨bm,ob,b1,b2,b3,b4,b5,b6⟩:=hbm;exact ⟨bm,ob,b1,b2,base_of b3 (noA b3 (fun _ _ z=>by rw [b6] at z; cases z) fun _ z=>by rw [b6] at z; cases z),b4,b5,b6⟩
 have hM:Mod K mg (zGS s₁.heap H):=⟨hKb,nsK hns,⟨mb,nsK hb,hbb⟩,let ⟨mc,h1,h2⟩:=hlim; ⟨mc,nsK h1,h2⟩,bmK⟩;have e0:Env0 P w K mg (zGS s₁.heap H) callerA [] s₁ H:=⟨rfl,hM,fun b o e=>zPF e,Nat.le_of_eq (zLh _ _),trivial,fun b hb=>absurd (show b ∈ ([]:List Addr) from hb) (by simp),hok,.of_eq hg⟩;refine codeAny_mono ((F _ hKb (nsK hns)).run callerA [] s₁ H ⟨[.ref a],[]⟩ [.ref a] [.ref a] _ _ hr e0 (hbind s₁ (.ref a)) (.cons rfl .nil) (hsp H hO (.inl (.inr ⟨_,Ha⟩)))) fun r s' h=>?_;cases r with
 | error e=>exact False.elim h
 | ok fl=>
  cases fl with
  | next=>exact False.elim h
  | brk=>exact False.elim h
  | cont=>exact False.elim h
  | ret u=>
   obtain ⟨v,H',os,bare,un,hok',r',q⟩:=h;have q':v = .bl true:=q;subst q';obtain rfl:u = Value.bool true:=r';have tb:∀ P ∈ ts,∃ more,s'.heap.get? P = some (PySem.W.tabObj (#[] ++ more)):=fun P hP=>by
    obtain ⟨more,z⟩:=un.tbls P _ (Ht P hP);exact ⟨more,hok' P _ z⟩
   refine ⟨rfl,⟨fun b o e=>?_,fun b o e=>un.there b o e (by simp)⟩,os,bare⟩;by_cases h2:b ∈ ts
   ·obtain ⟨more,z⟩:=tb b h2;obtain ⟨e1,c,hc⟩:=hts b h2;rw [e] at e1; cases e1;exact .inr (.inl ⟨((PySem.W.codeHd_of_K KX hc).tab e).isCodeTable,rfl,#[],more,rfl,z⟩)
   ·refine .inl ?_;by_cases h1:b = a
    ·subst h1;have z2:=un.frzs b _ _ Ha;obtain ⟨e2,_⟩:=hok' b _ z2;rw [ha] at e; cases e; exact e2
    ·exact un.keep b o e (Hn b h1 h2) (by intro z; exact absurd (show b ∈ ([]:List Addr) from z) (by simp)) (by simp)
def zAH (K:PySem.W.Frag) (ts:List Addr):Prop:=(∀ P ∈ ts,∃ c,PySem.W.codeHdIn K c P = true) /\ ∀ x ∈ zB8,∀ c P,PySem.W.tabIn K x = some (c,P) -> P ∈ ts
theorem zNx {l:PySem.W.OpenLaw} {n k:Nat} {q:Program} {loose:List Str} {XP:(Str -> Option Value) -> Heap -> Prop} {d:DefRec} {K:Params -> PySem.W.Frag} {as:List Addr} {ee:∀ P,as = (K P).map (·.1)} {ts:List Addr} {m:FF} {x:Str}
  (hn:l.most = some n) (hn2:n <= sizeLine) (hdf:d.params.defaults = []) (hr:Room k callerA)
  (hL:∀ w:World,zEY (K w.params) = true) (hT:∀ w:World,PySem.W.noTabs (K w.params) = true)
  (F:∀ (w:World) (mg:Str -> Option Value) (fa:Addr) (h:Heap),(K w.params).In h -> h.Ns mainGlobals mg -> mg d.name = some (.ref fa) ->
   zAH (K w.params) ts /\ ∃ fd:FuncData,(∀ (s:Shared) (u:Value),BindsTo s fd ⟨[u],[]⟩ [(x,u)]) /\
    ∀ base:Heap,(K w.params).In base -> base.Ns mainGlobals mg -> FnOk l.prog w (K w.params) mg base CX0 k fa fd [x] (spF (K w.params) 1 m))
  (hsp:∀ ns:List Int,ns.length <= n -> ∃ M',m [.ref 0] [.fro (ns.map D.int)] = some (.bl true,M')) :
  PySem.W.WalkO q loose XP (PySem.W.kmHook K as ee ts).says l.row.toRowW d [] (fun f vs=>PySem.call f vs):=by
 refine Att.zIN hn hdf fun w s₀ s₁ mg mb fa o pm cd doc a vs ns G Y ho hd hcd hmg hobj hints hlen hg=>?_;have KX:=PySem.W.km_in_of Y;obtain ⟨⟨c1,c2⟩,fd,hb,hF⟩:=F w mg fa _ KX G.T.g hmg;exact zLb KX G.T.g G.T.b G.T.builtins G.T.nolimit G.T.bmain hg hobj hints (zUT hlen hn2) hr (hL w) (hT w) (fun P hP=>⟨PySem.W.km_tabs_of Y P hP,c1 P hP⟩) hF hb fun H hO hS=>zLc (hL w) (zP7 c2 hO) hO.1 hS (hsp ns hlen)
structure Tb (K:PySem.W.Frag) (x:Str) {st:Stmt} (g:Dg K x st) where
 c:Addr
 P:Addr
 {od:Option Addr}
 {sl:Array (Option Value)}
 {vs:Array Value}
 e:g.cd = .ref c
 l:K.lookup c = some ⟨.type "code", od,.fields vs,sl⟩
 v:vs[11]? = some (.ref P)
 h:PySem.W.codeHdIn [(c,⟨.type "code", od,.fields vs,sl⟩)] c P = true
section
variable {K:PySem.W.Frag} {x:Str} {st:Stmt} {g:Dg K x st}
theorem Tb.tab (t:Tb K x g):PySem.W.tabIn K x = some (t.c,t.P):=by
 have h1:=g.a;have h2:=g.l;have h3:=t.e;have h4:=t.l;have h5:=t.v;generalize g.cd = cd at h2 h3;subst h3;unfold PySem.W.tabIn;simp only [h1,h2,h4,h5]
theorem Tb.hd (t:Tb K x g):PySem.W.codeHdIn K t.c t.P = true:=by
 have h4:=t.l;have h6:=t.h;have e:List.lookup t.c [(t.c,(⟨.type "code", t.od,.fields t.vs,t.sl⟩:Obj))] = K.lookup t.c:=by rw [h4,zV7]; simp
 unfold PySem.W.codeHdIn at h6 ⊢;rw [e] at h6;exact h6
theorem zQ2 (h:Zn K x):PySem.W.tabIn K x = none:=by
 unfold PySem.W.tabIn;rw [h]
theorem zRb {ts:List Addr} (xs:List (Str × Addr × Addr)) (h1:∀ p ∈ xs,PySem.W.tabIn K p.1 = some (p.2.1,p.2.2) /\ PySem.W.codeHdIn K p.2.1 p.2.2 = true) (h2:∀ x ∈ zB8,x ∉ xs.map (·.1) -> PySem.W.tabIn K x = none)
  (h3:(ts.all (fun P=>xs.any (·.2.2 == P)) && xs.all (fun p=>ts.contains p.2.2)) = true):zAH K ts:=by
 rw [zUc,zUd,zUd] at h3;refine ⟨fun P hP=>?_,fun x hx c P e=>?_⟩
 ·obtain ⟨p,hp,e⟩:=List.any_eq_true.mp (h3.1 P hP);rw [beq_iff_eq] at e;subst e;exact ⟨_,(h1 p hp).2⟩
 ·by_cases z:x ∈ xs.map (·.1)
  ·obtain ⟨p,hp,rfl⟩:=zUJ.mp z;rw [(h1 p hp).1] at e;cases e;exact List.contains_iff_mem.mp (h3.2 p hp)
  ·rw [h2 x hx z] at e; cases e
theorem LamOk.mono {P:Program} {w:World} {mg:Str -> Option Value} {base:Heap} {j k n:Nat} {l:Lm} {g:List D -> FF} (h:LamOk P w K mg base j l n g) (hk:j <= k):LamOk P w K mg base k l n g :=
 let ⟨fd,ps,a,b,c⟩:=h.ex; ⟨fd,ps,a,b,c.mono hk⟩
theorem zRo {g1 g2:FA} {a b n:Nat} (h1:zKU g1 a) (h2:zKU g2 b) (h:a + (b + 1) = n):∀ σ M ds1 M1 ds2 M2,g1 σ M = some (ds1,M1) -> g2 σ M1 = some (ds2,M2) -> ds1.length + (ds2.length + 1) = n:=fun σ M ds1 M1 ds2 M2 e1 e2=>by
 rw [h1 _ _ _ _ e1,h2 _ _ _ _ e2,h]
theorem zTX {X:Cx} {sc:Scope} {y:Str} {n:Nat} (h:X.N[n]? = some y /\ X.env.scope.names.lookup y = some .cell /\ (y,NameKind.free) ∈ sc.names):∀ (i:Nat) x j,[y][i]? = some x -> [n][i]? = some j -> X.N[j]? = some x /\ X.env.scope.names.lookup x = some .cell /\ (x,NameKind.free) ∈ sc.names:=fun i x j h1 h2=>by
 cases i with
 | zero=>simp at h1 h2; subst h1; subst h2; exact h
 | succ i=>simp at h1
end
def zQP:Expr -> Bool
 | .Lambda _ _ _ _=>true
 | _=>false
def zTH (e:Expr):Expr:=match e with
 | .Subscript (.Call _ args _ _) _ _=>(args.find? zQP).getD e
 | .Call _ args _ _=>(args.find? zQP).getD e
 | _=>e
def zQz (st:Stmt):Expr:=match zBM st with
 | [.Return (some e) _]=>zTH e
 | _=> .Constant .none 0 ⟨0,0,0,0⟩
def zTS (e:Expr):Arguments:=match e with
 | .Lambda p _ _ _=>p
 | _=>zCI (.Pass ⟨0,0,0,0⟩)
def zTv (e:Expr):Expr:=match e with
 | .Lambda _ b _ _=>b
 | _=>e
def zTs (e:Expr):Scope:=match e with
 | .Lambda _ _ s _=>s
 | _=>zP (.Pass ⟨0,0,0,0⟩)
abbrev zQU (base:Heap) (l:Lm) (st:Stmt) (fs:List Str):Prop:=LamAt base l (zTS (zQz st)) (zTv (zQz st)) (zTs (zQz st)) fs
end L3
namespace Law
open PySem PySem.Spec PyProof.Rows L2 L3
theorem zr (n:Nat):∀ c:List Int,D.unds n (c.map D.int) = true
 | []=>rfl
 | x :: r=>by
  show (D.und n (D.int x) && D.unds n (r.map D.int)) = true;rw [zr n r]; rfl
theorem zDK {c:List Int} {x:D} {r:List D} (h:x :: r = c.map D.int):∃ y c',c = y :: c' /\ x = .int y /\ r = c'.map D.int:=by
 cases c with
 | nil=>cases h
 | cons y c'=>rw [zUL] at h; exact ⟨y,c',rfl,(zU6 h).1,(zU6 h).2⟩
theorem zu {xs:List D} {M:Mem}:zCd none xs M:=trivial
theorem zT {n:Nat} (h:n <= 100000):n <= sizeLine:=zUT h (by decide)
mutual
theorem zFb {a b:Nat} (h:a <= b):∀ {d:D},D.und a d = true -> D.und b d = true
 | .non,_=>by unfold D.und; rfl
 | .bl _,_=>by unfold D.und; rfl
 | .int _,_=>by unfold D.und; rfl
 | .str _,_=>by unfold D.und; rfl
 | .tup ds,e=>by unfold D.und at e ⊢; exact zBB h e
 | .ref k,e=>by unfold D.und at e ⊢; simp at e ⊢; omega
 | .fn _ ds,e=>by unfold D.und at e ⊢; exact zBB h e
theorem zBB {a b:Nat} (h:a <= b):∀ {ds:List D},D.unds a ds = true -> D.unds b ds = true
 | [],_=>by unfold D.unds; rfl
 | d :: ds,e=>by
  unfold D.unds at e ⊢;rw [zUc] at e ⊢;exact ⟨zFb h e.1,zBB h e.2⟩
end
theorem zMQ {a b:Nat} (h:a <= b) {u:MO} (e:MO.und a u = true):MO.und b u = true:=by
 cases u with
 | lst xs=>exact zBB h e
 | fro xs=>exact zBB h e
 | set xs=>exact zBB h e
 | dict kvs | dicT kvs | froT kvs | froK kvs=>
  unfold MO.und at e ⊢;rw [zUd] at e ⊢;intro p hp;have:=e p hp;rw [zUc] at this ⊢;exact ⟨zFb h this.1,zFb h this.2⟩
theorem zF6 {n:Nat}:∀ {xs ys:List D},D.unds n (xs ++ ys) = (D.unds n xs && D.unds n ys)
 | [],ys=>by simp [D.unds]
 | x :: xs,ys=>by
  show (D.und n x && D.unds n (xs ++ ys)) = ((D.und n x && D.unds n xs) && D.unds n ys);rw [zF6,Bool.and_assoc]
theorem zCF {n:Nat}:∀ {xs:List D},(∀ x ∈ xs,D.und n x = true) -> D.unds n xs = true
 | [],_=>rfl
 | x :: xs,h=>by
  show (D.und n x && D.unds n xs) = true;rw [h x zUG,zCF fun y hy=>h y (zUF _ hy)]; rfl
theorem zCs {n:Nat} (c:List Int):D.und n (.tup (c.map D.int)) = true:=by unfold D.und; exact zr n c
def zBp (i:Nat):Nat -> List D
 | 0=>[]
 | n + 1=> .int i :: zBp (i + 1) n
theorem zHD (n:Nat):∀ i,((List.range' i n).map fun (k:Nat)=>D.int k) = zBp i n:=by
 induction n with
 | zero=>intro i; rfl
 | succ n ih=>intro i; rw [List.range'_succ,zUL,ih]; rfl
theorem zOX (n:Nat):((List.range n).map fun (k:Nat)=>D.int k) = zBp 0 n:=by rw [List.range_eq_range',zHD]
theorem zAu:∀ (n i:Nat),(zBp i n).length = n
 | 0,_=>rfl
 | n + 1,i=>by show (zBp (i + 1) n).length + 1 = _; rw [zAu n]
theorem zCw {g:FG} {b:FS} {all:List D} {P:Out -> Sd -> Mem -> Prop} (n:Nat) (I:Nat -> Sd -> Mem -> Prop)
  (hs:∀ i σ M,i < n -> I i σ M -> ∃ σ1,g (.int i) σ = some σ1 /\ OkS (b σ1 M) fun o σ2 M2=>match o with | .nx=>I (i + 1) σ2 M2 | .cnt=>I (i + 1) σ2 M2 | .brk=>P .nx σ2 M2 | .ret d=>P (.ret d) σ2 M2)
  (he:∀ σ M,I n σ M -> P .nx σ M) (σ:Sd) (M:Mem) (h0:I 0 σ M):OkS (zCZ g b all none (zBp 0 n) σ M) P:=by
 refine zA9 (I:=fun r σ M=>∃ i,i <= n /\ r = zBp i (n - i) /\ I i σ M) ?_ ?_ _ _ _ ⟨0,zUo _,by simp,h0⟩
 ·rintro x r σ M ⟨i,hi,e,hI⟩;have hlt:i < n:=by
   rcases Nat.lt_or_ge i n with z | z
   ·exact z
   ·rw [show n - i = 0 by omega] at e; cases e
  rw [show n - i = (n - (i + 1)) + 1 by omega] at e;obtain ⟨rfl,rfl⟩:=zU6 e;obtain ⟨σ1,e1,q⟩:=hs i σ M hlt hI;refine ⟨zu,σ1,e1,OkS.mono q ?_⟩;intro o σ2 M2 z;cases o with
  | nx=>exact ⟨i + 1,hlt,rfl,z⟩
  | cnt=>exact ⟨i + 1,hlt,rfl,z⟩
  | brk=>exact z
  | ret d=>exact z
 ·rintro σ M ⟨i,hi,e,hI⟩;have:i = n:=by
   rcases Nat.lt_or_ge i n with z | z
   ·rw [show n - i = (n - (i + 1)) + 1 by omega] at e; cases e
   ·omega
  subst this;exact ⟨zu,he σ M hI⟩
theorem zJP {g:FG} {te:FE} {all:List D} {σ:Sd} (n:Nat) (I:Nat -> List D -> Mem -> Prop)
  (hs:∀ i acc M,i < n -> I i acc M -> ∃ σ1,g (.int i) σ = some σ1 /\ Ok (te σ1 M) (zHj fun d M2=>I (i + 1) (acc ++ [d]) M2)) {M:Mem} (h0:I 0 [] M) :
  Ok (zBk g zAp te σ all none (zBp 0 n) M) fun ys M1=>I n ys M1:=by
 refine Ok.mono (zB6 (I:=fun r acc M=>∃ i,i <= n /\ r = zBp i (n - i) /\ I i acc M) (Q:=fun acc M=>I n acc M) ?_ ?_ _ [] _ ⟨0,zUo _,by simp,h0⟩) fun ys M1 q=>by simpa using q
 ·rintro x r acc M ⟨i,hi,e,hI⟩;have hlt:i < n:=by
   rcases Nat.lt_or_ge i n with z | z
   ·exact z
   ·rw [show n - i = 0 by omega] at e; cases e
  rw [show n - i = (n - (i + 1)) + 1 by omega] at e;obtain ⟨rfl,rfl⟩:=zU6 e;obtain ⟨σ1,e1,q⟩:=hs i acc M hlt hI;refine ⟨zu,σ1,e1,zFY.mpr ?_⟩;rw [zUH rfl];refine Ok.mono q ?_;intro x M2 z;cases x with
  | dat d=>exact ⟨i + 1,hlt,rfl,z⟩
  | fl xs=>exact ⟨i + 1,hlt,rfl,z⟩
 ·rintro acc M ⟨i,hi,e,hI⟩;have:i = n:=by
   rcases Nat.lt_or_ge i n with z | z
   ·rw [show n - i = (n - (i + 1)) + 1 by omega] at e; cases e
   ·omega
  subst this;exact ⟨zu,hI⟩
theorem zAS {σ:Sd} {M:Mem} {f:FE} {j:Int} (e:f σ M = some (.dat (.int j),M)) (h1:0 <= j) (h2:j < 2 ^ 62):zAC (zD (toD f) zL) σ M = some (zBp 0 j.toNat,none,M):=by
 have e':(zD (toD f) zL) σ M = some ([.int j],M):=by unfold zD toD zL; rw [e]
 rw [zJs e' h1 h2,zOX]
def mD (zA:List (List Int)):D:=.tup (zA.map fun r=> .tup (r.map D.int))
structure IsM (zA:List (List Int)) (l:Nat):Prop where
 r0:0 < zA.length
 l0:0 < l
 row:∀ r ∈ zA,r.length = l /\ ∀ g ∈ r,0 <= g /\ g < zA.length
theorem zDd {n:Nat} (zA:List (List Int)):D.und n (mD zA) = true:=by
 unfold mD D.und;refine zCF fun x hx=>?_;obtain ⟨r,_,rfl⟩:=zUJ.mp hx;exact zCs r
theorem zN {α:Type} {x:Option (α × Mem)} {a:α} {M:Mem} (h:Ok x fun b M'=>b = a /\ M' = M):x = some (a,M):=by
 obtain ⟨b,M',e,rfl,rfl⟩:=h; exact e
theorem zE {α:Type} {x:Option (α × Mem)} {a:α} {M:Mem} {P:α -> Mem -> Prop} (h:x = some (a,M)) (p:P a M):Ok x P:=⟨a,M,h,p⟩
theorem zFI {c:FT} {a g:FS} {σ:Sd} {M:Mem} {P:Out -> Sd -> Mem -> Prop} (hc:c σ M = some (false,M)) (h:OkS (g σ M) P):OkS (zK (sIf c a zAZ) g σ M) P:=by
 rw [zJ,zAE];refine zE hc ?_;rw [zUK (by decide),zj];exact h
theorem zN2 {c:FT} {a:FS} {σ:Sd} {M:Mem} {P:Out -> Sd -> Mem -> Prop} (hc:c σ M = some (false,M)) (h:P .nx σ M):OkS (sIf c a zAZ σ M) P:=by
 rw [zAE];refine zE hc ?_;rw [zUK (by decide),zj];exact h
theorem zo {f:FE} {σ:Sd} {M:Mem} {d:D} (h:f σ M = some (.dat d,M)):zD (toD f) zL σ M = some ([d],M):=by
 unfold zD toD zL; rw [h]
theorem zm {f:FE} {g:FA} {σ:Sd} {M:Mem} {d:D} {ds:List D} (h:f σ M = some (.dat d,M)) (hg:g σ M = some (ds,M)):zD (toD f) g σ M = some (d :: ds,M):=by
 unfold zD toD; rw [h]; dsimp only; rw [hg]
theorem zBO {m:FF} {a:FA} {σ:Sd} {M M':Mem} {ds:List D} {d:D} (h:a σ M = some (ds,M)) (hm:m ds M = some (d,M')):zY m a σ M = some (.dat d,M'):=by
 unfold zY; rw [h]; dsimp only; rw [hm]
theorem zI {k:K2} {f g:FE} {σ:Sd} {M:Mem} {x y:EV} {r:Option (EV × Mem)} (hf:f σ M = some (x,M)) (hg:g σ M = some (y,M)) (hk:k x y M = r):fOp k f g σ M = r:=by
 unfold fOp; rw [hf]; dsimp only; rw [hg]; exact hk
theorem zBl {x:EV} {xs:List D} {i:Int} {d:D} {M:Mem} (h:zAf M x = some xs) (hd:atI xs i = some d):kIx x (.dat (.int i)) M = some (.dat d,M):=zN (zTb h hd ⟨rfl,rfl⟩)
theorem zAm {f:FE} {x:EV} {xs:List D} {σ:Sd} {M:Mem} (hf:f σ M = some (x,M)) (h:zAf M x = some xs):fB zh (zF f zM) σ M = some (.dat (.int xs.length),M):=by
 unfold fB zF zM; rw [hf]; exact zN ((zSV h).mpr ⟨rfl,rfl⟩)
def zAR (zA:List (List Int)) (h g:Int):Int:=(zA.getD h.toNat []).getD g.toNat 0
theorem zHK {zA:List (List Int)} {h:Int} (h0:0 <= h) (h1:h < zA.length):atI (zA.map fun r=>D.tup (r.map D.int)) h = some (.tup ((zA.getD h.toNat []).map D.int)):=by
 refine zF5 h0 ?_;rw [zUP,zT7,zT6 (by omega)];rfl
theorem zRm {r:List Int} {g:Int} (h0:0 <= g) (h1:g < r.length):atI (r.map D.int) g = some (.int (r.getD g.toNat 0)):=by
 refine zF5 h0 ?_;rw [zUP,zT7,zT6 (by omega)];rfl
theorem IsM.get {zA:List (List Int)} {l:Nat} (m:IsM zA l) {h:Int} (h0:0 <= h) (h1:h < zA.length):(zA.getD h.toNat []).length = l /\ ∀ g ∈ zA.getD h.toNat [],0 <= g /\ g < zA.length:=by
 refine m.row _ ?_;rw [zT7,zT6 (by omega)];exact zUa _
theorem IsM.step {zA:List (List Int)} {l:Nat} (m:IsM zA l) {h g:Int} (h0:0 <= h) (h1:h < zA.length) (g0:0 <= g) (g1:g < l):0 <= zAR zA h g /\ zAR zA h g < zA.length:=by
 obtain ⟨q1,q2⟩:=m.get h0 h1;refine q2 _ ?_;unfold zAR;rw [zT7 (l:=zA.getD h.toNat []),zT6 (by omega)];exact zUa _
theorem IsM.ix {zA:List (List Int)} {l:Nat} (m:IsM zA l) {h g:Int} (h0:0 <= h) (h1:h < zA.length) (g0:0 <= g) (g1:g < l) {f1 f2 f3:FE} {σ:Sd} {M:Mem} (e1:f1 σ M = some (.dat (mD zA),M)) (e2:f2 σ M = some (.dat (.int h),M)) (e3:f3 σ M = some (.dat (.int g),M)) :
  fOp kIx (fOp kIx f1 f2) f3 σ M = some (.dat (.int (zAR zA h g)),M):=by
 obtain ⟨q1,_⟩:=m.get h0 h1;exact zI (zI e1 e2 (zBl zAG (zHK h0 h1))) e3 (zBl zAG (zRm g0 (by omega)))
theorem zJS {f:FE} {x:EV} {σ:Sd} {M:Mem} {T t:String} (hf:f σ M = some (x,M)) (ht:zJ1 M x = some t):zEM T f σ M = some (.dat (.bl (isT t T)),M):=by
 unfold zEM; rw [hf]; dsimp only; rw [ht]
theorem zAJ {f:FE} {σ:Sd} {M M':Mem} {k:Bool} (h:f σ M = some (.dat (.bl k),M')):tst f σ M = some (k,M'):=by unfold tst; rw [h]
theorem isV {f:FE} {x:EV} {σ:Sd} {M:Mem} {T t:String} {k:Bool} (hf:f σ M = some (x,M)) (ht:zJ1 M x = some t) (h:isT t T = k):zEM T f σ M = some (.dat (.bl k),M):=by
 rw [zJS hf ht,h]
theorem isF {f:FE} {x:EV} {σ:Sd} {M:Mem} {T t:String} (hf:f σ M = some (x,M)) (ht:zJ1 M x = some t) (h:isT t T = false):tst (zEM T f) σ M = some (false,M):=by
 rw [zAJ (zJS hf ht),h]
theorem zQv {f:FE} {x:EV} {σ:Sd} {M:Mem} {T t:String} (hf:f σ M = some (x,M)) (ht:zJ1 M x = some t) (h:isT t T = true):tst (zEM T f) σ M = some (true,M):=by
 rw [zAJ (zJS hf ht),h]
theorem zH1 {c:FT} {a b g:FS} {σ:Sd} {M:Mem} {P:Out -> Sd -> Mem -> Prop} (hc:c σ M = some (true,M)) (h:OkS (a σ M) (nxP (fun σ1 M1=>OkS (g σ1 M1) P) P)):OkS (zK (sIf c a b) g σ M) P:=by
 rw [zJ,zAE];refine zE hc ?_;rw [zUH rfl];exact h
theorem zn {f:FE} {σ:Sd} {M:Mem} {d:D} {P:Out -> Sd -> Mem -> Prop} (hf:f σ M = some (.dat d,M)) (h:P (.ret d) σ M):OkS (zAO f σ M) P:=by
 rw [zHa]; exact zE hf h
theorem zIi {d:D} {M:Mem} (h:(zG6 d).isSome = true):kEq (.dat d) (.dat d) M = some (.dat (.bl true),M):=by
 cases d with
 | tup _=>cases h
 | ref _=>cases h
 | fn _ _=>cases h
 | non=>rfl
 | bl k=>cases k <;> rfl
 | int i=>show some (EV.dat (.bl (decide (V.int i = V.int i))),M) = _; simp
 | str x=>show some (EV.dat (.bl (decide (V.str x = V.str x))),M) = _; simp
theorem zEU {f g:FE} {σ:Sd} {M:Mem} (hf:f σ M = some (.dat (.bl true),M)) (hg:g σ M = some (.dat (.bl true),M)):zE4 f g σ M = some (.dat (.bl true),M):=by
 unfold zE4; rw [hf]; exact hg
theorem zKf {f:FE} {σ:Sd} {M:Mem} (hf:f σ M = some (.dat (.bl false),M)):zND f σ M = some (.dat (.bl true),M):=by
 unfold zND; rw [hf]; rfl
theorem zGA {α:Type} {own:List Nat} {fi:FI} {g:FG} {te:FE} {σ:Sd} {M:Mem} {gd:Option (Mem -> Prop)} (as:List α) (enc out:α -> D) (hi:fi σ M = some (as.map enc,gd,M)) (hgd:zCd gd (as.map enc) M) (hz:as.length <= 100000)
  (he:∀ a ∈ as,∃ σ1,g (enc a) (zGW own σ) = some σ1 /\ te σ1 M = some (.dat (out a),M)):zAQ own fi g zAp te σ M = some (.fl (as.map out),M):=by
 refine zN (zCz.mpr ⟨_,_,_,hi,by rw [zUB]; exact zT hz,?_⟩);refine Ok.mono (zB6 (I:=fun r acc M'=>M' = M /\ ∃ ra rb:List α,as = rb ++ ra /\ r = ra.map enc /\ acc = rb.map out) (Q:=fun acc M'=>M' = M /\ acc = as.map out) ?_ ?_ _ [] _ ⟨rfl,as,[],rfl,rfl,rfl⟩) ?_
 ·rintro x r acc M' ⟨rfl,ra,rb,hab,hr,rfl⟩;cases ra with
  | nil=>cases hr
  | cons a ra=>
   rw [zUL] at hr;obtain ⟨rfl,rfl⟩:=zU6 hr;obtain ⟨σ1,e1,e2⟩:=he a (by rw [hab]; simp);refine ⟨hgd,σ1,e1,zFY.mpr ?_⟩;rw [zUH rfl];refine zE e2 ?_;rw [zR];exact ⟨rfl,ra,rb ++ [a],by rw [hab]; simp,rfl,by simp⟩
 ·rintro acc M' ⟨rfl,ra,rb,hab,hr,rfl⟩;cases ra with
  | nil=>rw [zUm] at hab; subst hab; exact ⟨hgd,rfl,rfl⟩
  | cons a ra=>cases hr
 ·rintro ys M' ⟨rfl,h⟩;rw [zWK] at h;subst h;exact ⟨rfl,rfl⟩
theorem zAe {f:FE} {x:EV} {xs:List D} {σ:Sd} {M:Mem} (hf:f σ M = some (x,M)) (h:zAf M x = some xs):fB zW (zF f zM) σ M = some (.dat (.tup xs),M):=by
 unfold fB zF zM; rw [hf]; exact zN ((zPT h).mpr ⟨rfl,rfl⟩)
theorem zPI {f:FE} {xs:List D} {σ:Sd} {M:Mem} (hf:f σ M = some (.dat (.tup xs),M)):zBt f σ M = some (xs,none,M):=zC1 hf zAG
theorem zBE {i:Nat} {f:FE} {g:FS} {σ:Sd} {M:Mem} {d:D} {P:Out -> Sd -> Mem -> Prop} (hf:f σ M = some (.dat d,M)) (h:OkS (g (σ.set i (some d)) M) P):OkS (zK (zi i f) g σ M) P:=by
 rw [zJ,zc]; exact zE hf h
open ST
def ris (xs:List Int):List Int:=zA0 (zAo xs)
theorem zHp (xs:List Int) (x:Int):x ∈ ris xs ↔ x ∈ xs:=by
 unfold ris; rw [(zAx _).mem_iff,zJd]
theorem zNO (xs:List Int):(ris xs).Pairwise (· < ·):=by
 have h1:=zDk (zAo xs);have h2:(ris xs).Nodup:=(zAx _).nodup_iff.mpr (zHu xs);unfold ris at h2 ⊢;exact (h1.and h2).imp fun {a b} h=>by have:=h.1; have:=h.2; omega
theorem zG7:∀ {xs ys:List Int},xs.Pairwise (· < ·) -> ys.Pairwise (· < ·) -> (∀ x,x ∈ xs ↔ x ∈ ys) -> xs = ys
 | [],[],_,_,_=>rfl
 | [],y :: ys,_,_,h=>by have:=(h y).mpr zUG; cases this
 | x :: xs,[],_,_,h=>by have:=(h x).mp zUG; cases this
 | x :: xs,y :: ys,h1,h2,h=>by
  have hx:=zWC.mp h1;have hy:=zWC.mp h2;have e:x = y:=by
   have a:=(h x).mp zUG;have b:=(h y).mpr zUG;rcases zUE.mp a with z | z
   ·exact z
   ·rcases zUE.mp b with q | q
    ·exact q.symm
    ·have:=hx.1 y q; have:=hy.1 x z; omega
  subst e;rw [zG7 hx.2 hy.2 fun z=>?_];constructor
  ·intro hz;rcases zUE.mp ((h z).mp (zUF _ hz)) with q | q
   ·subst q; have:=hx.1 _ hz; omega
   ·exact q
  ·intro hz;rcases zUE.mp ((h z).mpr (zUF _ hz)) with q | q
   ·subst q; have:=hy.1 _ hz; omega
   ·exact q
theorem zR2 {xs:List Int} (h:0 < xs.length):0 < (ris xs).length:=by
 cases xs with
 | nil=>cases h
 | cons x r=>exact List.length_pos_of_mem ((zHp (x :: r) x).mpr zUG)
theorem zPV {own:List Nat} {fi:FI} {g:FG} {tc:FT} {te:FE} {σ:Sd} {M:Mem} {ks:List Int} (h:zAQ own fi g tc te σ M = some (.fl (ks.map D.int),M)) (hz:ks.length <= 4000):zG8 own fi g tc te σ M = some (zAo ks,M):=by
 unfold zG8; rw [h]; dsimp only; rw [zBF]; dsimp only; rw [zUH (by unfold scanBound; omega)]
theorem zM2 {fz:FZ} {σ:Sd} {M:Mem} {ks:List Int} (h:fz σ M = some (zAo ks,M)) (hz:(zAo ks).length < 64):zFc fz σ M = some (.fl ((ris ks).map D.int),M):=by
 unfold zFc; rw [h]; dsimp only; rw [zUH hz]; rfl
noncomputable def zEd:FS:=(zAO (fB zW (zF (zFc (zG8 [3] (zBt (zC 1)) (gN 3) zAp (fOp kIx (fOp kIx (zC 0) (zC 3)) (zC 2)))) zM)))
noncomputable def zBh:FF:=zCm (zBP 4 zEd)
def setR (zA:List (List Int)) (S:List Int) (g:Int):List Int:=ris (S.map fun h=>zAR zA h g)
structure IsS (zA:List (List Int)) (S:List Int):Prop where
 pw:S.Pairwise (· < ·)
 n0:0 < S.length
 mem:∀ x ∈ S,0 <= x /\ x < (zA.length:Int)
theorem zNA:∀ {S:List Int} {a:Int} {n:Nat},S.Pairwise (· < ·) -> (∀ x ∈ S,a <= x /\ x < a + (n:Int)) -> S.length <= n
 | [],_,_,_,_=>zUo _
 | x :: S,a,n,h,hm=>by
  have hx:=zWC.mp h;obtain ⟨m0,m1⟩:=hm x zUG;have hn:0 < n:=by omega
  have:=zNA (S:=S) (a:=x + 1) (n:=(a + n - (x + 1)).toNat) hx.2 fun y hy=>by
   have:=hx.1 y hy;have:=(hm y (zUF _ hy)).2;omega
  simp only [zUZ]; omega
theorem IsS.len {zA:List (List Int)} {S:List Int} (h:IsS zA S):S.length <= zA.length:=zNA h.pw (a:=0) fun x hx=>by have:=h.mem x hx; omega
theorem IsM.setR {zA:List (List Int)} {l:Nat} (m:IsM zA l) {S:List Int} (s:IsS zA S) {g:Int} (g0:0 <= g) (g1:g < l):IsS zA (setR zA S g):=by
 refine ⟨zNO _,zR2 (by rw [zUB]; exact s.n0),fun x hx=>?_⟩;obtain ⟨y,hy,rfl⟩:=zUJ.mp ((zHp _ _).mp hx);obtain ⟨y0,y1⟩:=s.mem y hy;exact m.step y0 y1 g0 g1
def tI (xs:List Int):D:=.tup (xs.map D.int)
theorem zPm {zA:List (List Int)} {l:Nat} (m:IsM zA l) (hR:zA.length < 64) {S:List Int} (s:IsS zA S) {g:Int} (g0:0 <= g) (g1:g < l) {M:Mem}:zBh [mD zA,tI S,.int g] M = some (tI (setR zA S g),M):=by
 refine zN ?_;unfold zBh;refine zCM (by unfold D.unds D.unds D.unds D.unds; rw [zDd]; simp [tI,zCs,D.und,zr]) ?_;rw [zAW];unfold zEd;have hl:=s.len;have hz:(zAo (S.map fun h=>zAR zA h g)).length < 64:=by have:=zFg (S.map fun h=>zAR zA h g); rw [zUB] at this; omega
 refine zn (d:=tI (setR zA S g)) ?_ ⟨by unfold tI; exact zCs _,rfl,rfl⟩;refine zAe (zM2 (ks:=S.map fun h=>zAR zA h g) (zPV ?_ (by rw [zUB]; omega)) hz) zDT;refine (zGA S D.int (fun h=> .int (zAR zA h g)) (zPI rfl) trivial (by omega) fun h hh=>⟨_,rfl,?_⟩).trans ?_
 ·obtain ⟨h0,h1⟩:=s.mem h hh;exact m.ix h0 h1 g0 g1 rfl rfl rfl
 ·rw [List.map_map]; rfl
theorem zNm {α:Type} (xs:List α) (x:α):atI (xs ++ [x]) (-1) = some x:=by
 unfold atI ixN;rw [zUK (by decide),zUH (by simp; omega)];have:((-1:Int) + ((xs ++ [x]).length:Int)).toNat = xs.length:=by simp; omega
 simp only [Option.bind_some];rw [this]; simp
end Law
namespace Law
open PySem PySem.Spec PyProof.Rows L2 L3 ST
end Law
namespace Law
open PySem PySem.Spec PyProof.Rows L2 L3
theorem zPR {f g:FE} {σ:Sd} {M:Mem} {a b:Bool} (hf:f σ M = some (.dat (.bl a),M)) (hg:a = true -> g σ M = some (.dat (.bl b),M)):zE4 f g σ M = some (.dat (.bl (a && b)),M):=by
 unfold zE4; rw [hf];cases a with
 | true=>exact hg rfl
 | false=>rfl
open ST
end Law
namespace Law
open PySem PySem.Spec PyProof.Rows L2 L3 ST
abbrev gL (k:Nat) (s:Int):MO:=.lst [.ref k,.int s]
end Law
namespace Lac
open PySem PySem.Spec PyProof.Rows L2 L3 ST Law
end Lac
namespace Lac
open PySem PySem.Spec PyProof.Rows L2 L3 ST Law
def zHQ (g:List Int):List Key:=g.map Sum.inl
theorem zI2:∀ {a b:List Int},zHQ a = zHQ b -> a = b
 | [],[],_=>rfl
 | [],_ :: _,h=>by cases h
 | _ :: _,[],h=>by cases h
 | x :: a,y :: b,h=>by
  have h1:=(zU6 h).1;have h2:=zI2 (zU6 h).2;cases h1; rw [h2]
theorem zFf:∀ g:List Int,zCE (g.map D.int) = some (zHQ g)
 | []=>rfl
 | x :: r=>by
  rw [zUL];unfold zCE;rw [zFf r];rfl
theorem zF7 (g:List Int):tkD (tI g) = some (zHQ g):=zFf g
abbrev zDZ (T:List (List Int × D)):List (D × D):=T.map fun q=>(tI q.1,q.2)
abbrev dT (T:List (List Int × D)):MO:=.dicT (zDZ T)
def zBA:List (List Int × D) -> List Int -> Option D
 | [],_=>none
 | q :: r,g=>if q.1 = g then some q.2 else zBA r g
def zFU (T:List (List Int × D)) (g:List Int) (v:D):List (List Int × D):=match zBA T g with
 | some _=>T.map fun q=>if q.1 = g then (q.1,v) else q
 | none=>T ++ [(g,v)]
theorem zH3 (a g:List Int):decide (tkD (tI a) = some (zHQ g)) = decide (a = g):=by
 rw [zF7];by_cases h:a = g
 ·subst h; simp
 ·rw [zUb h,zUb];intro e;exact h (zI2 (zU2 e))
theorem zNs (g:List Int):∀ T:List (List Int × D),zCc tkD (zDZ T) (zHQ g) = zBA T g
 | []=>rfl
 | q :: r=>by
  have ih:=zNs g r;unfold zCc at ih ⊢;unfold zDZ at ih ⊢;rw [zUL,zVo];dsimp only;rw [zH3];unfold zBA;by_cases h:q.1 = g
  ·rw [zVA h,zUH h]; rfl
  ·rw [zUb h,zUK h]; exact ih
theorem zQI (g:List Int):∀ T:List (List Int × D),((zDZ T).any fun p=>decide (tkD p.1 = some (zHQ g))) = (zBA T g).isSome
 | []=>rfl
 | q :: r=>by
  have ih:=zQI g r;unfold zDZ at ih ⊢;rw [zUL,List.any_cons,zH3];unfold zBA;by_cases h:q.1 = g
  ·rw [zVA h,zUH h]; rfl
  ·rw [zUb h,zUK h,Bool.false_or]; exact ih
theorem zTM (T:List (List Int × D)) (g:List Int) (v:D):zJG tkD (zDZ T) (zHQ g) (tI g) v = zDZ (zFU T g v):=by
 unfold zJG zFU;rw [zQI];cases h:zBA T g with
 | none=>
  rw [zUK (by simp)];unfold zDZ; rw [zUu]; rfl
 | some d=>
  rw [zUH (by simp)];unfold zDZ;dsimp only;rw [List.map_map,List.map_map];apply List.map_congr_left;intro q _;show (if tkD (tI q.1) = some (zHQ g) then (tI q.1,v) else (tI q.1,q.2)) = (tI (if q.1 = g then (q.1,v) else q).1,(if q.1 = g then (q.1,v) else q).2);have hd:=zH3 q.1 g;by_cases hq:q.1 = g
  ·rw [zVA hq] at hd;rw [zUH (zUy hd),zUH hq]
  ·rw [zUb hq] at hd;rw [zUK (of_decide_eq_false hd),zUK hq]
section
variable {M:Mem} {n:Nat} {T:List (List Int × D)} {g:List Int}
theorem dgT (h:M[n]? = some (dT T)):zFP M (.dat (.ref n)) (tI g) = some (zBA T g):=by
 unfold zFP; dsimp only; rw [h]; dsimp only; rw [zF7]; dsimp only; rw [zNs]
theorem zJc {neg:Bool} (h:M[n]? = some (dT T)):zEK neg (.dat (tI g)) (.dat (.ref n)) M = some (.dat (.bl (if neg then !(zBA T g).isSome else (zBA T g).isSome)),M):=by
 unfold zEK; dsimp only; rw [dgT h]
theorem zEI {v:D} (h:M[n]? = some (dT T)) (hz:T.length < 90000):zCq M n (tI g) v = some (M.set n (dT (zFU T g v))):=by
 unfold zCq; rw [h]; dsimp only; rw [zF7]; dsimp only; rw [zUH (by rw [zUB]; exact zUR hz (zT (by omega))),zTM]
end
end Lac
namespace Lae
open PySem PySem.Spec PyProof.Rows L2 L3 ST Law
abbrev Lvl:=List (List Int × List Int)
def zAa (zA:List (List Int)) (S w:List Int) (p:List (List Int) × Lvl) (g:Int):List (List Int) × Lvl :=
 if setR zA S g ∈ p.1 then p else (p.1 ++ [setR zA S g],p.2 ++ [(setR zA S g,w ++ [g])])
def zCO (l:Nat):List Int:=(List.range l).map fun (g:Nat)=>(g:Int)
def zAz (zA:List (List Int)) (l:Nat) (p:List (List Int) × Lvl) (s:List Int × List Int):List (List Int) × Lvl:=(zCO l).foldl (zAa zA s.1 s.2) p
def zAN (zA:List (List Int)) (l:Nat) (seen:List (List Int)) (level:Lvl):List (List Int) × Lvl:=level.foldl (zAz zA l) (seen,[])
def run (zA:List (List Int)) (l:Nat) (due:List Int -> Bool):Nat -> List (List Int) -> Lvl -> List (List (List Int)) -> Option (Option (List Int) × List (List (List Int)))
 | 0,_,_,_=>none
 | n + 1,seen,level,acc=>if level.isEmpty then some (none,acc) else match level.find? fun p=>due p.1 with
  | some p=>some (some p.2,acc)
  | none=>run zA l due n (zAN zA l seen level).1 (zAN zA l seen level).2 (acc ++ [level.map (·.1)])
structure Met (zA:List (List Int)) (seen:List (List Int)) (level:Lvl):Prop where
 nd:seen.Nodup
 st:∀ S ∈ seen,IsS zA S
 lv:∀ p ∈ level,IsS zA p.1
structure Gr (zA:List (List Int)) (seen:List (List Int)) (p:List (List Int) × Lvl):Prop where
 nd:p.1.Nodup
 st:∀ S ∈ p.1,IsS zA S
 eq:p.1 = seen ++ p.2.map (·.1)
theorem Gr.lv {zA:List (List Int)} {seen:List (List Int)} {p:List (List Int) × Lvl} (h:Gr zA seen p):∀ s ∈ p.2,IsS zA s.1:=fun s hs=>h.st _ (by rw [h.eq]; exact zUM _ (zUJ.mpr ⟨s,hs,rfl⟩))
theorem zFA {zA:List (List Int)} {l:Nat} (m:IsM zA l) {seen:List (List Int)} {p:List (List Int) × Lvl} (h:Gr zA seen p) {S w:List Int} (s:IsS zA S) {g:Int} (g0:0 <= g) (g1:g < l):Gr zA seen (zAa zA S w p g):=by
 unfold zAa;split
 ·exact h
 ·rename_i hn;refine ⟨?_,fun T hT=>?_,by rw [h.eq]; simp⟩
  ·rw [zVG];exact ⟨h.nd,by simp,fun a ha b hb z=>hn (by rw [<- (show b = setR zA S g by simpa using hb),<- z]; exact ha)⟩
  ·rcases zUS.mp hT with z | z
   ·exact h.st T z
   ·have:T = setR zA S g:=by simpa using z
    rw [this]; exact m.setR s g0 g1
theorem zNo {l:Nat} {g:Int} (h:g ∈ zCO l):0 <= g /\ g < l:=by
 obtain ⟨i,hi,rfl⟩:=zUJ.mp h;have:=List.mem_range.mp hi;omega
theorem zLG {zA:List (List Int)} {l:Nat} (m:IsM zA l) {seen:List (List Int)} {S w:List Int} (s:IsS zA S):∀ (gs:List Int) {p:List (List Int) × Lvl},(∀ g ∈ gs,0 <= g /\ g < (l:Int)) -> Gr zA seen p -> Gr zA seen (gs.foldl (zAa zA S w) p)
 | [],_,_,h=>h
 | g :: r,p,hg,h=>zLG m s r (fun x hx=>hg x (zUF _ hx)) (zFA m h s (hg g zUG).1 (hg g zUG).2)
theorem zKk {zA:List (List Int)} {l:Nat} (m:IsM zA l) {seen:List (List Int)} {p:List (List Int) × Lvl} (h:Gr zA seen p) {s:List Int × List Int} (hs:IsS zA s.1):Gr zA seen (zAz zA l p s):=zLG m hs _ (fun g hg=>zNo hg) h
theorem zFD {zA:List (List Int)} {l:Nat} (m:IsM zA l) {seen:List (List Int)}:∀ {level:Lvl} {p:List (List Int) × Lvl},(∀ s ∈ level,IsS zA s.1) -> Gr zA seen p -> Gr zA seen (level.foldl (zAz zA l) p)
 | [],_,_,h=>h
 | s :: r,p,hs,h=>zFD m (level:=r) (fun x hx=>hs x (zUF _ hx)) (zKk m h (hs s zUG))
theorem Met.next {zA:List (List Int)} {l:Nat} (m:IsM zA l) {seen:List (List Int)} {level:Lvl} (h:Met zA seen level):Gr zA seen (zAN zA l seen level):=zFD m h.lv ⟨h.nd,h.st,by simp⟩
theorem Gr.met {zA:List (List Int)} {seen:List (List Int)} {p:List (List Int) × Lvl} (h:Gr zA seen p):Met zA p.1 p.2:=⟨h.nd,h.st,h.lv⟩
def zIs:Nat -> List (List Int)
 | 0=>[[]]
 | n + 1=>zIs n ++ (zIs n).map (· ++ [(n:Int)])
theorem zI6:∀ n,(zIs n).length = 2 ^ n
 | 0=>rfl
 | n + 1=>by unfold zIs; rw [zUI,zUB,zI6 n,Nat.pow_succ]; omega
theorem zGE:∀ (n:Nat) (S:List Int),S.Pairwise (· < ·) -> (∀ x ∈ S,0 <= x /\ x < (n:Int)) -> S ∈ zIs n
 | 0,S,_,h=>by
  cases S with
  | nil=>unfold zIs; simp
  | cons x r=>have:=h x zUG; omega
 | n + 1,S,hp,h=>by
  unfold zIs;rw [zUS];by_cases hn:(n:Int) ∈ S
  ·right;obtain ⟨a,b,rfl⟩:=List.append_of_mem hn;rw [List.pairwise_append,zWC] at hp;have hb:b = []:=by
    cases b with
    | nil=>rfl
    | cons y b=>
     have h1:=hp.2.1.1 y zUG;have h2:=h y (by simp);omega
   subst hb;refine zUJ.mpr ⟨a,zGE n a hp.1 fun x hx=>?_,rfl⟩;have h1:=hp.2.2 x hx (n:Int) zUG;have h2:=h x (zVH _ hx);omega
  ·left;refine zGE n S hp fun x hx=>?_;have h2:=h x hx;have:x ≠ n:=fun z=>hn (z ▸ hx);omega
theorem zMp {α:Type} [DecidableEq α]:∀ {xs ys:List α},xs.Nodup -> (∀ x ∈ xs,x ∈ ys) -> xs.length <= ys.length
 | [],_,_,_=>zUo _
 | x :: r,ys,hn,h=>by
  have hn':=List.nodup_cons.mp hn;have h1:=h x zUG;have ih:=zMp (xs:=r) (ys:=ys.erase x) hn'.2 fun y hy=>by
   have:y ≠ x:=fun z=>hn'.1 (z ▸ hy);exact (List.mem_erase_of_ne this).mpr (h y (zUF _ hy))
  rw [List.length_erase_of_mem h1] at ih;have:=List.length_pos_of_mem h1;rw [zUZ]; omega
theorem zBL {zA:List (List Int)} {seen:List (List Int)} (nd:seen.Nodup) (st:∀ S ∈ seen,IsS zA S) (h9:zA.length <= 9):seen.length <= 512:=by
 have h1:seen.length <= (zIs zA.length).length:=zMp nd fun S hS=>zGE _ S (st S hS).pw (st S hS).mem;rw [zI6] at h1;have:2 ^ zA.length <= 2 ^ 9:=Nat.pow_le_pow_right (by decide) h9;omega
theorem zJI {zA:List (List Int)} {l:Nat} (m:IsM zA l) (h9:zA.length <= 9) {due:List Int -> Bool}:∀ (n:Nat) {seen:List (List Int)} {level:Lvl} {acc:List (List (List Int))},Met zA seen level -> 514 <= n + seen.length -> ∃ r,run zA l due n seen level acc = some r
 | 0,seen,level,acc,h,hn=>by have:=zBL h.nd h.st h9; omega
 | n + 1,seen,level,acc,h,hn=>by
  unfold run;split
  ·exact ⟨_,rfl⟩
  ·split
   ·exact ⟨_,rfl⟩
   ·have g:=h.next m;by_cases he:(zAN zA l seen level).2 = []
    ·cases n with
     | zero=>have:=zBL h.nd h.st h9; omega
     | succ n=>
      unfold run;rw [he];exact ⟨_,rfl⟩
    ·refine zJI m h9 n g.met ?_;rw [g.eq,zUI,zUB];have:=List.length_pos_iff.mpr he;omega
theorem zNy {zA:List (List Int)} {l:Nat} {due:List Int -> Bool} (hd:∀ S,due S = false):∀ (n:Nat) {seen:List (List Int)} {level:Lvl} {acc:List (List (List Int))} {r},run zA l due n seen level acc = some r -> r.1 = none
 | 0,_,_,_,_,h=>by cases h
 | n + 1,seen,level,acc,r,h=>by
  unfold run at h;split at h
  ·cases h; rfl
  ·split at h
   ·rename_i p hp;have:=List.find?_some hp;rw [hd] at this; cases this
   ·exact zNy hd n h
theorem zE8 {zA:List (List Int)} {l:Nat} {due:List Int -> Bool}:∀ (n:Nat) {seen:List (List Int)} {level:Lvl} {acc:List (List (List Int))} {r:Option (List Int) × List (List (List Int))},run zA l due n seen level acc = some r -> r.2.length <= acc.length + n
 | 0,_,_,_,_,h=>by cases h
 | n + 1,seen,level,acc,r,h=>by
  unfold run at h;split at h
  ·cases h; show acc.length <= _; omega
  ·split at h
   ·cases h; show acc.length <= _; omega
   ·have:=zE8 n h;rw [zUI,zXH] at this;omega
noncomputable def zCo:FS:=(zAO (zHv "cells" (fOp zDL (fB zEs (zF (zC 0) zM)) (fOp zHs (zA1 (zD (toD (fC (.int 0))) zL)) (fB zGM (zF (fOp kEq (fB zh (zF (zC 0) zM)) (fC (.int 0))) zM)))) "at" (fC (.int 0)) "number" (fC (.int 0))))
noncomputable def zBS:FF:=zBP 1 zCo
noncomputable def zDU:FS:=(zK (sIf (tst (fOp kEq (fOp zAg (zC 0) (fC (.str "number"))) (fC (.int 0)))) (zK (zi 2 (fOp kIx (fOp zAg (zC 0) (fC (.str "cells"))) (fOp zDX (fOp zAg (zC 0) (fC (.str "at"))) (fB zh (zF (fOp zAg (zC 0) (fC (.str "cells"))) zM)))))
  (zK (zA8 (fOp zAc (fOp zAg (zC 0) (fC (.str "at"))) (fC (.int 1))) (zC 0) (fC (.str "at")))
  (zK (sIf (zIx (tst (fOp kLt (zC 2) (fOp zLY (fC (.int 10)) (fC (.int 18))))) (tst (fOp kGt (fOp zAg (zC 0) (fC (.str "at"))) (fB zh (zF (fOp zAg (zC 0) (fC (.str "cells"))) zM))))) (zK (zi 3 (fOp zAg (zC 0) (fC (.str "at"))))
  (zK (zi 4 (fOp zDX (fOp zAc (fOp zAc (fOp zHk (fOp zDX (zC 2) (fC (.int 2147483629))) (fC (.int 48271))) (fOp zHk (fOp zHk (zC 3) (zC 3)) (fC (.int 69621)))) (fC (.int 11))) (fC (.int 2147483647))))
  (zAO (fOp zDX (fOp zKY (fOp zDX (fOp zHk (zC 4) (zC 4)) (fC (.int 1999999973))) (fC (.int 7))) (zC 1))))) zAZ)
  (zA8 (zC 2) (zC 0) (fC (.str "number")))))) zAZ)
  (zK (zi 5 (fOp zDX (fOp zAg (zC 0) (fC (.str "number"))) (zC 1)))
  (zK (zA8 (fOp zKY (fOp zAg (zC 0) (fC (.str "number"))) (zC 1)) (zC 0) (fC (.str "number")))
  (zAO (zC 5)))))
noncomputable def ze:FF:=zBP 6 zDU
abbrev gS (k:Nat) (a x:Int):MO:=.dict [(.str "cells", .ref k),(.str "at", .int a),(.str "number", .int x)]
structure Gen (M:Mem) (n k:Nat) (q:Nat):Prop where
 ex:∃ (c:List Int) (a x:Int),M[n]? = some (gS k a x) /\ M[k]? = some (.lst (c.map D.int)) /\ 0 < c.length /\ c.length <= 63 /\ 0 <= a /\ a <= q
 ne:n ≠ k
 wf:∀ (j:Nat) u,M[j]? = some u -> MO.und M.length u = true
theorem Gen.mono {M:Mem} {n k q q':Nat} (h:Gen M n k q) (hq:q <= q'):Gen M n k q' :=
 let ⟨c,a,x,e1,e2,e3,e4,e5,e6⟩:=h.ex; ⟨⟨c,a,x,e1,e2,e3,e4,e5,by omega⟩,h.ne,h.wf⟩
structure Nw (M M':Mem) (n k q:Nat):Prop where
 gen:Gen M' n k q
 len:M.length <= M'.length
 fr:∀ j,j < M.length -> j ≠ n -> j ≠ k -> M'[j]? = M[j]?
theorem Nw.mono {M M':Mem} {n k q q':Nat} (h:Nw M M' n k q) (hq:q <= q'):Nw M M' n k q':=⟨h.gen.mono hq,h.len,h.fr⟩
theorem Nw.refl {M:Mem} {n k q:Nat} (h:Gen M n k q):Nw M M n k q:=⟨h,zT8 _,fun _ _ _ _=>rfl⟩
theorem Nw.trans {M M1 M2:Mem} {n k q q':Nat} (a:Nw M M1 n k q) (b:Nw M1 M2 n k q'):Nw M M2 n k q' :=
 ⟨b.gen,zUT a.len b.len,fun j h h1 h2=>(b.fr j (zUR h a.len) h1 h2).trans (a.fr j h h1 h2)⟩
theorem Gen.lt {M:Mem} {n k q:Nat} (h:Gen M n k q):n < M.length /\ k < M.length:=by
 obtain ⟨c,a,x,e1,e2,_⟩:=h.ex;exact ⟨(zT0.mp e1).1,(zT0.mp e2).1⟩
theorem zNF {k N:Nat} {a x:Int} (hk:k < N):MO.und N (gS k a x) = true:=by
 unfold MO.und;simp [D.und,hk]
theorem Gen.put {M:Mem} {n k q q':Nat} (h:Gen M n k q) {a x:Int} (h0:0 <= a) (h1:a <= q'):Nw M (M.set n (gS k a x)) n k q':=by
 obtain ⟨hn,hk⟩:=h.lt;obtain ⟨c,_,_,e1,e2,e3,e4,_⟩:=h.ex;refine ⟨⟨⟨c,a,x,zUw hn,by rw [zUW h.ne]; exact e2,e3,e4,h0,h1⟩,h.ne,fun j u e=>?_⟩,by simp,fun j _ h1 h2=>zUW (Ne.symm h1)⟩;rw [zWL];rw [zVb] at e;split at e
 ·cases e; exact zNF hk
 ·exact h.wf j u e
theorem Gen.app {A us:Mem} {n k q:Nat} (h:Gen A n k q) (hu:∀ u ∈ us,MO.und (A.length + us.length) u = true):Nw A (A ++ us) n k q:=by
 obtain ⟨c,a,x,e1,e2,r⟩:=h.ex;obtain ⟨hn,hk⟩:=h.lt;refine ⟨⟨⟨c,a,x,by rw [zT9 hn]; exact e1,by rw [zT9 hk]; exact e2,r⟩,h.ne,fun j u e=>?_⟩,by simp,fun j hj _ _=>zT9 hj⟩;rw [zUI];by_cases hj:j < A.length
 ·rw [zT9 hj] at e;exact zMQ (by omega) (h.wf j u e)
 ·rw [zVC (by omega)] at e;exact hu u (zUt e)
theorem Gen.lst {A:Mem} {n k q:Nat} (h:Gen A n k q) (xs:List D) (hx:D.unds A.length xs = true):Nw A (A ++ [.lst xs]) n k q:=h.app fun u hu=>by
 have:u = .lst xs:=by simpa using hu
 subst this; exact zBB (by simp) hx
theorem Nw.setB {M A:Mem} {n k q q0 j:Nat} {u:MO} (h:Nw M A n k q) (g:Gen M n k q0) (hj:M.length <= j) (hu:MO.und A.length u = true):Nw M (A.set j u) n k q:=by
 obtain ⟨hn,hk⟩:=g.lt;obtain ⟨c,a,x,e1,e2,r⟩:=h.gen.ex;refine ⟨⟨⟨c,a,x,by rw [zUW (by omega)]; exact e1,by rw [zUW (by omega)]; exact e2,r⟩,g.ne,fun i v e=>?_⟩,by rw [zWL]; exact h.len,fun i hi h1 h2=>by rw [zUW (by omega)]; exact h.fr i hi h1 h2⟩;rw [zWL];rw [zVb] at e;split at e
 ·split at e
  ·cases e; exact hu
  ·cases e
 ·exact h.gen.wf i v e
theorem Nw.wf0 {M M':Mem} {n k q q0:Nat} (h:Nw M M' n k q) (g:Gen M n k q0):∀ (j:Nat) u,j < M.length -> M'[j]? = some u -> MO.und M.length u = true:=fun j u hj e=>by
 obtain ⟨hn,hk⟩:=g.lt;obtain ⟨c,a,x,e1,e2,r⟩:=h.gen.ex;by_cases q1:j = n
 ·subst q1; rw [e1] at e; cases e; exact zNF hk
 ·by_cases q2:j = k
  ·subst q2; rw [e2] at e; cases e; exact zr _ _
  ·rw [h.fr j hj q1 q2] at e; exact g.wf j u e
theorem Nw.trim {M M':Mem} {n k q q0:Nat} (h:Nw M M' n k q) (g:Gen M n k q0):Nw M (M'.take M.length) n k q:=by
 obtain ⟨hn,hk⟩:=g.lt;have tk:∀ j,j < M.length -> (M'.take M.length)[j]? = M'[j]?:=fun j hj=>List.getElem?_take_of_lt hj;have tl:(M'.take M.length).length = M.length:=by have:=h.len; rw [zVQ]; omega
 obtain ⟨c,a,x,e1,e2,r⟩:=h.gen.ex;refine ⟨⟨⟨c,a,x,(tk n hn).trans e1,(tk k hk).trans e2,r⟩,g.ne,fun j u e=>?_⟩,by omega,fun j hj h1 h2=>(tk j hj).trans (h.fr j hj h1 h2)⟩;have hj:j < M.length:=by have:=(zT0.mp e).1; omega
 rw [tk j hj] at e;rw [tl];exact h.wf0 g j u hj e
theorem Nw.get {M M':Mem} {n k q j:Nat} {u:MO} (h:Nw M M' n k q) (e:M[j]? = some u) (h1:j ≠ n) (h2:j ≠ k):M'[j]? = some u :=
 (h.fr j (zT0.mp e).1 h1 h2).trans e
theorem zDE {M:Mem} {n k:Nat} {a x:Int} {σ:Sd} {f:FE} (hf:f σ M = some (.dat (.ref n),M)) (hM:M[n]? = some (gS k a x)):fOp zAg f (fC (.str "cells")) σ M = some (.dat (.ref k),M) /\ fOp zAg f (fC (.str "at")) σ M = some (.dat (.int a),M) /\ fOp zAg f (fC (.str "number")) σ M = some (.dat (.int x),M):=by
 refine ⟨?_,?_,?_⟩ <;>
 ·refine zI hf rfl ?_;unfold zAg zFP;dsimp only;rw [hM];rfl
theorem zTr {M:Mem} {n k:Nat} {a x a':Int} (hM:M[n]? = some (gS k a x)):zCq M n (.str "at") (.int a') = some (M.set n (gS k a' x)):=by
 unfold zCq;rw [hM];dsimp only [zCY];rw [zUH (show [(D.str (Str.ofString "cells"),D.ref k),(D.str (Str.ofString "at"),D.int a),(D.str (Str.ofString "number"),D.int x)].length < sizeLine from zT (n:=4) (by omega))];rfl
theorem zSu {M:Mem} {n k:Nat} {a x x':Int} (hM:M[n]? = some (gS k a x)):zCq M n (.str "number") (.int x') = some (M.set n (gS k a x')):=by
 unfold zCq;rw [hM];dsimp only [zCY];rw [zUH (show [(D.str (Str.ofString "cells"),D.ref k),(D.str (Str.ofString "at"),D.int a),(D.str (Str.ofString "number"),D.int x)].length < sizeLine from zT (n:=4) (by omega))];rfl
theorem zBq {fv fo fi:FE} {σ:Sd} {M M4:Mem} {P:Out -> Sd -> Mem -> Prop} {v k:D} {n:Nat} (h1:fv σ M = some (.dat v,M)) (h2:fo σ M = some (.dat (.ref n),M)) (h3:fi σ M = some (.dat k,M)) (h4:zCq M n k v = some M4) (q:P .nx σ M4):OkS (zA8 fv fo fi σ M) P:=by
 refine ⟨.nx,σ,M4,?_,q⟩;unfold zA8 toD;rw [h1]; dsimp only; rw [h2]; dsimp only; rw [h3]; dsimp only; rw [h4]
theorem zB4 {a b:Int} {M:Mem} (h:0 < b):zDX (.dat (.int a)) (.dat (.int b)) M = some (.dat (.int (a % b)),M):=zN (zSC.mpr ⟨h,rfl,rfl⟩)
theorem zNa {a b:Int} {M:Mem} (h:0 < b /\ b < 1073741824):zKY (.dat (.int a)) (.dat (.int b)) M = some (.dat (.int (a / b)),M):=zN (zSw.mpr ⟨h,rfl,rfl⟩)
theorem zRC {a b:Int} {M:Mem} (h:zNI a b = true):zHk (.dat (.int a)) (.dat (.int b)) M = some (.dat (.int (a * b)),M):=zN (zTK.mpr ⟨h,rfl,rfl⟩)
theorem zRq {M:Mem} {j:Nat} {c:List Int} {f:FE} {σ:Sd} (hf:f σ M = some (.dat (.ref j),M)) (h:M[j]? = some (.lst (c.map D.int))):fB zh (zF f zM) σ M = some (.dat (.int c.length),M):=by
 have:=zAm (f:=f) (xs:=c.map D.int) hf (zd h);rw [zUB] at this; exact this
theorem zFB {a b:Int} {M:Mem} (h : -(2 ^ 64) < b /\ b < 2 ^ 64):zHk (.dat (.int a)) (.dat (.int b)) M = some (.dat (.int (a * b)),M):=zRC (by unfold zNI; simp only [Bool.or_eq_true,zUc,zVF]; exact .inr h)
theorem zIw {M:Mem} {n k q:Nat} {m:Int} {a x:Int} {y2 y3 y4:Option D} (h:Gen M n k q) (e1:M[n]? = some (gS k a x)) (ha:0 <= a) (hb:a <= q) (h0:0 < m) (h1:m < 1073741824) {P:Out -> Sd -> Mem -> Prop} (hP:∀ σ i x',0 <= i -> i < m -> P (.ret (.int i)) σ (M.set n (gS k a x'))) :
  OkS (zK (zi 5 (fOp zDX (fOp zAg (zC 0) (fC (.str "number"))) (zC 1))) (zK (zA8 (fOp zKY (fOp zAg (zC 0) (fC (.str "number"))) (zC 1)) (zC 0) (fC (.str "number"))) (zAO (zC 5))) [some (.ref n),some (.int m),y2,y3,y4,none] M) P:=by
 refine zBE (zI (zDE rfl e1).2.2 rfl (zB4 h0)) ?_;show OkS (zK _ _ [some (.ref n),some (.int m),y2,y3,y4,some (.int (x % m))] M) _;rw [zJ];refine zBq (zI (zDE rfl e1).2.2 rfl (zNa ⟨h0,h1⟩)) rfl rfl (zSu e1) ?_;rw [zO];exact zn rfl (hP _ _ _ (Int.emod_nonneg _ (by omega)) (zVu _ h0))
theorem zPt {M:Mem} {n k q:Nat} {m:Int} (h:Gen M n k q) (hq:q < 1000000000) (h0:0 < m) (h1:m < 1073741824) :
  Ok (ze [.ref n,.int m] M) fun d M'=>(∃ i,d = .int i /\ 0 <= i /\ i < m) /\ Nw M M' n k (q + 1) /\ M'.length = M.length:=by
 unfold ze;rw [zAW];unfold zDU;show OkS (zK _ _ [some (.ref n),some (.int m),none,none,none,none] M) _;obtain ⟨c,a,x,e1,e2,e3,e4,e5,e6⟩:=h.ex;obtain ⟨hn,hk⟩:=h.lt;rw [zJ,zAE];refine zE (zAJ (zI (zDE rfl e1).2.2 rfl (zN (zF3.mpr ⟨rfl,rfl⟩)))) ?_;by_cases hx:x = 0
 ·rw [zUH (by simpa using hx)];have hl:(0:Int) < (c.length:Int):=by omega
  have hi0:0 <= a % (c.length:Int):=Int.emod_nonneg _ (by omega);have hi1:a % (c.length:Int) < c.length:=zVu _ hl;obtain ⟨y,hy⟩:∃ y:Int,atI (c.map D.int) (a % (c.length:Int)) = some (.int y):=by
   obtain ⟨i,hi⟩:=Int.eq_ofNat_of_zero_le hi0;rw [hi] at hi1 ⊢;refine ⟨c[i]'(by omega),?_⟩;exact zH2 (by rw [zUP,zT6 (by omega)]; rfl)
  refine zBE (d:=.int y) (zI (zDE rfl e1).1 (zI (zDE rfl e1).2.1 (zRq (zDE rfl e1).1 e2) (zB4 hl)) (zBl (zd e2) hy)) ?_;show OkS (zK _ _ [some (.ref n),some (.int m),some (.int y),none,none,none] M) _;rw [zJ];refine zBq (v:=.int (a + 1)) (zI (zDE rfl e1).2.1 rfl rfl) rfl rfl (zTr e1) ?_;rw [zO];have P:=h.put (a:=a + 1) (x:=x) (q':=q + 1) (by omega) (by omega);have f1:(M.set n (gS k (a + 1) x))[n]? = some (gS k (a + 1) x):=zUw hn;have f2:(M.set n (gS k (a + 1) x))[k]? = some (.lst (c.map D.int)):=by rw [zUW h.ne]; exact e2
  have fl:(M.set n (gS k (a + 1) x)).length = M.length:=by simp
  generalize M.set n (gS k (a + 1) x) = M1 at P f1 f2 fl;rw [zJ,zAE];have hor:∃ b,zIx (tst (fOp kLt (zC 2) (fOp zLY (fC (.int 10)) (fC (.int 18))))) (tst (fOp kGt (fOp zAg (zC 0) (fC (.str "at"))) (fB zh (zF (fOp zAg (zC 0) (fC (.str "cells"))) zM)))) [some (.ref n),some (.int m),some (.int y),none,none,none] M1 = some (b,M1):=by
   have t1:tst (fOp kLt (zC 2) (fOp zLY (fC (.int 10)) (fC (.int 18)))) [some (.ref n),some (.int m),some (.int y),none,none,none] M1 = some (decide (y < 10 ^ (18:Int).toNat),M1) :=
    zAJ (zI rfl (zI rfl rfl (zN (zTA.mpr ⟨by decide,rfl,rfl⟩))) (zN (zQp.mpr ⟨rfl,rfl⟩)))
   have t2:∃ b,tst (fOp kGt (fOp zAg (zC 0) (fC (.str "at"))) (fB zh (zF (fOp zAg (zC 0) (fC (.str "cells"))) zM))) [some (.ref n),some (.int m),some (.int y),none,none,none] M1 = some (b,M1) :=
    ⟨_,zAJ (zI (zDE rfl f1).2.1 (zRq (zDE rfl f1).1 f2) (zN (zRT.mpr ⟨rfl,rfl⟩)))⟩
   obtain ⟨b2,t2⟩:=t2;unfold zIx;rw [t1];cases decide (y < 10 ^ (18:Int).toNat) with
   | true=>exact ⟨true,rfl⟩
   | false=>exact ⟨b2,t2⟩
  obtain ⟨b,hor⟩:=hor;refine zE hor ?_;cases b with
  | true=>
   rw [zUH rfl];refine zBE (zDE rfl f1).2.1 ?_;show OkS (zK _ _ [some (.ref n),some (.int m),some (.int y),some (.int (a + 1)),none,none] M1) _;have hs0:0 <= (y % 2147483629 * 48271 + (a + 1) * (a + 1) * 69621 + 11) % 2147483647:=Int.emod_nonneg _ (by decide);have hs1:(y % 2147483629 * 48271 + (a + 1) * (a + 1) * 69621 + 11) % 2147483647 < 2147483647:=zVu _ (by decide);refine zBE (d:=.int ((y % 2147483629 * 48271 + (a + 1) * (a + 1) * 69621 + 11) % 2147483647)) (zI (zI (zI (zI (zI rfl rfl (zB4 (by decide))) rfl (zFB (by decide))) (zI (zI rfl rfl (zFB ⟨by omega,by omega⟩)) rfl (zFB (by decide))) rfl) rfl rfl) rfl (zB4 (by decide))) ?_;generalize (y % 2147483629 * 48271 + (a + 1) * (a + 1) * 69621 + 11) % 2147483647 = s at hs0 hs1;show OkS (zAO _ [some (.ref n),some (.int m),some (.int y),some (.int (a + 1)),some (.int s),none] M1) _;refine zn (zI (zI (zI (zI (x:=.dat (.int s)) (y:=.dat (.int s)) rfl rfl (zFB ⟨by omega,by omega⟩)) rfl (zB4 (by decide))) rfl (zNa ⟨by decide,by decide⟩)) rfl (zB4 h0)) ?_;rw [zA6];exact ⟨⟨_,rfl,Int.emod_nonneg _ (by omega),zVu _ h0⟩,P,fl⟩
  | false=>
   rw [zUK zUO,zj,zO];refine zBq rfl rfl rfl (zSu f1) ?_;rw [zO];have P2:=P.gen.put (a:=a + 1) (x:=y) (q':=q + 1) (by omega) (by omega);have g1:(M1.set n (gS k (a + 1) y))[n]? = some (gS k (a + 1) y):=zUw (by omega);have gl:(M1.set n (gS k (a + 1) y)).length = M.length:=by rw [zWL,fl]
   have PP:=P.trans P2;generalize M1.set n (gS k (a + 1) y) = M2 at PP g1 gl;refine zIw PP.gen g1 (by omega) (by omega) h0 h1 fun σ i x' i0 i1=>⟨⟨i,rfl,i0,i1⟩,PP.trans (PP.gen.put (by omega) (by omega)),by rw [zWL,gl]⟩
 ·rw [zUK (by simpa using hx),zj,zO];exact zIw h e1 e5 e6 h0 h1 fun σ i x' i0 i1=>⟨⟨i,rfl,i0,i1⟩,h.put e5 (by omega),by simp⟩
theorem zAh {M:Mem} {n k q:Nat} {m:Int} {σ:Sd} {fa fb:FE} {P:EV -> Mem -> Prop} (h:Gen M n k q) (hq:q < 1000000000) (ha:fa σ M = some (.dat (.ref n),M)) (hb:fb σ M = some (.dat (.int m),M)) (h0:0 < m) (h1:m < 1073741824)
  (p:∀ i M',0 <= i -> i < m -> Nw M M' n k (q + 1) -> M'.length = M.length -> P (.dat (.int i)) M'):Ok (zY ze (zD (toD fa) (zD (toD fb) zL)) σ M) P:=by
 rw [zC5,zA5,zAy];refine ⟨_,_,ha,?_⟩;rw [zR,zA5,zAy];refine ⟨_,_,hb,?_⟩;rw [zR,zBd];refine Ok.mono (zPt h hq h0 h1) ?_;rintro d M' ⟨⟨i,rfl,i0,i1⟩,nx,hl⟩;exact p i M' i0 i1 nx hl
open Lac (dT zDZ zBA zFU zJc zEI)
noncomputable def zCK:FS:=(zK (zi 3 zKj)
  (zK (zBH (zBg (zC 1)) (zDy 4 5) (zBH (zAC (zD (toD (fB zh (zF (fOp kIx (zC 0) (fC (.int 0))) zM))) zL)) (gN 6) (zK (zi 7 (zY zBh (zD (toD (zC 0)) (zD (toD (zC 4)) (zD (toD (zC 6)) zL)))))
  (sIf (tst (fOp (zEK true) (zC 7) (zC 2))) (zK (zA8 (fC (.bl true)) (zC 2) (zC 7))
  (zA8 (fOp zAc (zC 5) (zAd (zD (toD (zC 6)) zL))) (zC 3) (zC 7))) zAZ))))
  (zAO (zC 3))))
noncomputable def zAk:FF:=zBP 8 zCK
def sE (ss:List (List Int)):List (List Int × D):=ss.map fun s=>(s,.bl true)
def wE (lv:Lvl):List (List Int × D):=lv.map fun p=>(p.1,tI p.2)
theorem zDu (x:D):∀ (T:List (List Int × D)) (g:List Int),(zBA T g).isSome = decide (g ∈ T.map (·.1))
 | [],g=>by simp [zBA]
 | q :: r,g=>by
  unfold zBA;by_cases h:q.1 = g
  ·rw [zUH h]; simp [h]
  ·rw [zUK h,zDu x r g];have:g ≠ q.1:=fun z=>h z.symm;simp [this]
theorem zE7 (ss:List (List Int)):(sE ss).map (·.1) = ss:=by unfold sE; rw [List.map_map]; exact List.map_id' ss
theorem zPg (lv:Lvl):(wE lv).map (·.1) = lv.map (·.1):=by unfold wE; rw [List.map_map]; rfl
theorem zIn {T:List (List Int × D)} {g:List Int} {v:D} (h:g ∉ T.map (·.1)):zFU T g v = T ++ [(g,v)]:=by
 unfold zFU;have:=zDu .non T g;rw [zUb h] at this;cases e:zBA T g with
 | none=>rfl
 | some d=>rw [e] at this; cases this
theorem zJa {ss:List (List Int)} {g:List Int} (h:g ∉ ss):zFU (sE ss) g (.bl true) = sE (ss ++ [g]):=by
 rw [zIn (by rw [zE7]; exact h)]; unfold sE; simp
theorem zQj {lv:Lvl} {g w:List Int} (h:g ∉ lv.map (·.1)):zFU (wE lv) g (tI w) = wE (lv ++ [(g,w)]):=by
 rw [zIn (by rw [zPg]; exact h)]; unfold wE; simp
structure Nl (M0 M:Mem) (a b c:Nat) (lev:MO) (seen:List (List Int)) (beh:Lvl):Prop where
 len:M.length = M0.length + 1
 ea:M[a]? = some lev
 eb:M[b]? = some (dT (sE seen))
 ec:M[c]? = some (dT (wE beh))
 fr:∀ j,j < M0.length -> j ≠ a -> j ≠ b -> M[j]? = M0[j]?
theorem zKo {w:List Int} {g:Int} {M:Mem} (hz:w.length <= 5000):zAc (.dat (tI w)) (.dat (.tup [.int g])) M = some (.dat (tI (w ++ [g])),M):=by
 have e:zRk (.dat (tI w)) (.dat (.tup [.int g])) M = none:=rfl;show kOr zRk zG5 _ _ M = _;unfold kOr;rw [e];show zG5 (.dat (.tup (w.map D.int))) (.dat (.tup [.int g])) M = _;unfold zG5;dsimp only [zBn];rw [zUH (zT (by simp; omega))];unfold tI;rw [zUu]; rfl
theorem zLX {zA:List (List Int)} {l:Nat} (m:IsM zA l) (h9:zA.length <= 9) {M0 M:Mem} {a b c:Nat} (hac:a ≠ c) (hbc:b ≠ c) (hab:a ≠ b) (hc:c = M0.length) (hb:b < M0.length) {lev:MO} {seen0:List (List Int)} {p:List (List Int) × Lvl} (gr:Gr zA seen0 p) (nl:Nl M0 M a b c lev p.1 p.2) {S w:List Int} (s:IsS zA S) (hw:w.length <= 5000) {g:Int} (g0:0 <= g) (g1:g < l) {y7:Option D} :
  OkS (zK (zi 7 (zY zBh (zD (toD (zC 0)) (zD (toD (zC 4)) (zD (toD (zC 6)) zL)))))
  (sIf (tst (fOp (zEK true) (zC 7) (zC 2))) (zK (zA8 (fC (.bl true)) (zC 2) (zC 7))
  (zA8 (fOp zAc (zC 5) (zAd (zD (toD (zC 6)) zL))) (zC 3) (zC 7))) zAZ) [some (mD zA),some (.ref a),some (.ref b),some (.ref c),some (tI S),some (tI w),some (.int g),y7] M)
   fun o σ M'=>o = .nx /\ (∃ y7,σ = [some (mD zA),some (.ref a),some (.ref b),some (.ref c),some (tI S),some (tI w),some (.int g),y7]) /\ Nl M0 M' a b c lev (zAa zA S w p g).1 (zAa zA S w p g).2:=by
 refine zBE (zBO (zm rfl (zm rfl (zo rfl))) (zPm m (by omega) s g0 g1)) ?_;show OkS (sIf _ _ _ [some (mD zA),some (.ref a),some (.ref b),some (.ref c),some (tI S),some (tI w),some (.int g),some (tI (setR zA S g))] M) _;rw [zAE];refine zE (zAJ (zI (x:=.dat (tI (setR zA S g))) (y:=.dat (.ref b)) rfl rfl (zJc nl.eb))) ?_;rw [zDu .non,zE7];unfold zAa;by_cases hm:setR zA S g ∈ p.1
 ·rw [zUH hm,zUK (by simp [hm]),zj];exact ⟨rfl,⟨_,rfl⟩,nl⟩
 ·rw [zUK hm,zUH (by simp [hm]),zJ];have hl:=zBL gr.nd gr.st h9;have hk:p.2.length <= p.1.length:=by rw [gr.eq,zUI,zUB]; omega
  have hm2:setR zA S g ∉ p.2.map (·.1):=fun z=>hm (by rw [gr.eq]; exact zUM _ z);refine zBq rfl rfl rfl (zEI nl.eb (by unfold sE; rw [zUB]; omega)) ?_;rw [zO,zJa hm];have hbl:b < M.length:=by rw [nl.len]; omega
  have hcl:c < M.length:=by rw [nl.len]; omega
  have ec':(M.set b (dT (sE (p.1 ++ [setR zA S g]))))[c]? = some (dT (wE p.2)):=by rw [zUW hbc]; exact nl.ec
  have tp:∀ {σ:Sd} {M:Mem},σ[6]? = some (some (.int g)) -> zAd (zD (toD (zC 6)) zL) σ M = some (.dat (.tup [.int g]),M):=fun {σ M} e=>by
   have e1:zC 6 σ M = some (.dat (.int g),M):=by unfold zC; rw [e]
   unfold zAd; rw [zo e1]; dsimp only; rw [zUH (zT (by simp))]
  refine zBq (v:=tI (w ++ [g])) (zI (x:=.dat (tI w)) rfl (tp rfl) (zKo hw)) rfl rfl (zEI ec' (by unfold wE; rw [zUB]; omega)) ?_;rw [zQj hm2];refine ⟨rfl,⟨_,rfl⟩,by simp [nl.len],?_,?_,?_,fun j hj h1 h2=>?_⟩
  ·rw [zUW (Ne.symm hac),zUW (Ne.symm hab)]; exact nl.ea
  ·rw [zUW (Ne.symm hbc),zUw hbl]
  ·rw [zUw (by simpa using hcl)]
  ·rw [zUW (by omega),zUW (Ne.symm h2)]; exact nl.fr j hj h1 h2
theorem zPK {zA:List (List Int)} {S w:List Int} {p:List (List Int) × Lvl} {g:Int} {n:Nat} (h:∀ s ∈ p.2,s.2.length <= n) (hw:w.length + 1 <= n):∀ s ∈ (zAa zA S w p g).2,s.2.length <= n:=by
 unfold zAa;split
 ·exact h
 ·intro s hs;rcases zUS.mp hs with z | z
  ·exact h s z
  ·have:s = (setR zA S g,w ++ [g]):=by simpa using z
   rw [this]; simpa using hw
theorem zHS {zA:List (List Int)} {S w:List Int} {n:Nat} (hw:w.length + 1 <= n):∀ (gs:List Int) {p:List (List Int) × Lvl},(∀ s ∈ p.2,s.2.length <= n) -> ∀ s ∈ (gs.foldl (zAa zA S w) p).2,s.2.length <= n
 | [],_,h=>h
 | g :: r,p,h=>zHS hw r (zPK h hw)
theorem zKv {zA:List (List Int)} {l n:Nat}:∀ {level:Lvl} {p:List (List Int) × Lvl},(∀ s ∈ level,s.2.length + 1 <= n) -> (∀ s ∈ p.2,s.2.length <= n) -> ∀ s ∈ (level.foldl (zAz zA l) p).2,s.2.length <= n
 | [],_,_,h=>h
 | s :: r,p,hs,h=>zKv (level:=r) (fun x hx=>hs x (zUF _ hx)) (zHS (hs s zUG) _ h)
abbrev lE (lv:Lvl):List (D × D):=zDZ (wE lv)
theorem zGF {zA:List (List Int)} {l:Nat} (m:IsM zA l) (h9:zA.length <= 9) (hl9:l <= 1000) {M0:Mem} {a b:Nat} (hab:a ≠ b) {level:Lvl} {seen:List (List Int)} (mt:Met zA seen level) (ea:M0[a]? = some (.dicT (lE level)) \/ M0[a]? = some (.froT (lE level))) (eb:M0[b]? = some (dT (sE seen))) (hw:∀ s ∈ level,s.2.length <= 5000) :
  Ok (zAk [mD zA,.ref a,.ref b] M0) fun d M'=>d = .ref M0.length /\ Nl M0 M' a b M0.length (.froT (lE level)) (zAN zA l seen level).1 (zAN zA l seen level).2:=by
 have ha:a < M0.length:=by rcases ea with e | e <;> exact (zT0.mp e).1
 have hb:b < M0.length:=(zT0.mp eb).1;unfold zAk;rw [zAW];unfold zCK;show OkS (zK _ _ [some (mD zA),some (.ref a),some (.ref b),none,none,none,none,none] M0) _;rw [zJ,zc];refine zE (a:=.dat (.ref M0.length)) (M:=M0 ++ [.dicT []]) rfl ?_;rw [zR,zO];show OkS (zK _ _ [some (mD zA),some (.ref a),some (.ref b),some (.ref M0.length),none,none,none,none] (M0 ++ [.dicT []])) _;obtain ⟨M1,ei,nl1⟩:∃ M1,zBg (zC 1) [some (mD zA),some (.ref a),some (.ref b),some (.ref M0.length),none,none,none,none] (M0 ++ [.dicT []]) = some ((lE level).map fun p=>D.tup [p.1,p.2],none,M1) /\ Nl M0 M1 a b M0.length (.froT (lE level)) seen []:=by
  have ga:(M0 ++ [.dicT []])[a]? = M0[a]?:=zT9 ha;have gb:(M0 ++ [.dicT []])[b]? = some (dT (sE seen)):=by rw [zT9 hb]; exact eb
  have gc:(M0 ++ [.dicT []])[M0.length]? = some (dT (wE [])):=by simp; rfl
  unfold zBg zC;dsimp only [List.getElem?_cons_succ,List.getElem?_cons_zero];rw [ga];rcases ea with e | e
  ·rw [e];refine ⟨_,rfl,by simp,zUw (by simp; omega),?_,?_,fun j hj h1 h2=>?_⟩
   ·rw [zUW hab]; exact gb
   ·rw [zUW (by omega)]; exact gc
   ·rw [zUW (Ne.symm h1),zT9 hj]
  ·rw [e];exact ⟨_,rfl,by simp,ga.trans e,gb,gc,fun j hj h1 h2=>zT9 hj⟩
 rw [zJ,zAY];refine ⟨_,_,_,ei,?_⟩;refine zA9 (I:=fun r σ M'=>(∃ y4 y5 y6 y7,σ = [some (mD zA),some (.ref a),some (.ref b),some (.ref M0.length),y4,y5,y6,y7]) /\ ∃ (done rest:Lvl),r = (lE rest).map (fun p=>D.tup [p.1,p.2]) /\ done ++ rest = level /\ Nl M0 M' a b M0.length (.froT (lE level)) (done.foldl (zAz zA l) (seen,[])).1 (done.foldl (zAz zA l) (seen,[])).2) ?_ ?_ _ _ _ ⟨⟨_,_,_,_,rfl⟩,[],level,rfl,rfl,nl1⟩
 ·rintro x r σ M' ⟨⟨y4,y5,y6,y7,rfl⟩,done,rest,er,hd,nl⟩;cases rest with
  | nil=>cases er
  | cons sw rest=>
   obtain ⟨rfl,rfl⟩:=zU6 er;have hs:sw ∈ level:=by rw [<- hd]; simp
   have sS:=mt.lv sw hs;have gr0:Gr zA seen (done.foldl (zAz zA l) (seen,[])):=zFD m (fun s z=>mt.lv s (by rw [<- hd]; simp [z])) ⟨mt.nd,mt.st,by simp⟩;generalize hp:done.foldl (zAz zA l) (seen,[]) = p0 at nl gr0;refine ⟨zu,_,rfl,?_⟩;show OkS (zBH _ _ _ [some (mD zA),some (.ref a),some (.ref b),some (.ref M0.length),some (tI sw.1),some (tI sw.2),y6,y7] M') _;rw [zAY];have el:fB zh (zF (fOp kIx (zC 0) (fC (.int 0))) zM) [some (mD zA),some (.ref a),some (.ref b),some (.ref M0.length),some (tI sw.1),some (tI sw.2),y6,y7] M' = some (.dat (.int l),M'):=by
    have hr:=m.get (h:=0) (by decide) (by have:=m.r0; omega);have:=zAm (f:=fOp kIx (zC 0) (fC (.int 0))) (σ:=[some (mD zA),some (.ref a),some (.ref b),some (.ref M0.length),some (tI sw.1),some (tI sw.2),y6,y7]) (M:=M') (zI (x:=.dat (mD zA)) rfl rfl (zBl zAG (zHK (by decide) (by have:=m.r0; omega)))) zAG;rw [this,zUB,hr.1]
   refine ⟨_,_,_,zAS el (by omega) (by omega),?_⟩;rw [zWm];refine zCw (n:=l) (I:=fun i σ M2=>(∃ y6 y7,σ = [some (mD zA),some (.ref a),some (.ref b),some (.ref M0.length),some (tI sw.1),some (tI sw.2),y6,y7]) /\ Gr zA seen ((zCO i).foldl (zAa zA sw.1 sw.2) p0) /\ Nl M0 M2 a b M0.length (.froT (lE level)) ((zCO i).foldl (zAa zA sw.1 sw.2) p0).1 ((zCO i).foldl (zAa zA sw.1 sw.2) p0).2) ?_ ?_ _ _ ⟨⟨_,_,rfl⟩,gr0,nl⟩
   ·rintro i σ M2 hi ⟨⟨y6,y7,rfl⟩,gr,nl2⟩;refine ⟨_,rfl,?_⟩;refine OkS.mono (zLX m h9 (by omega) (by omega) hab rfl hb gr nl2 sS (hw sw hs) (g:=(i:Nat)) (by omega) (by omega)) ?_;rintro o σ M3 ⟨rfl,⟨y7,rfl⟩,nl3⟩;have e:(zCO (i + 1)).foldl (zAa zA sw.1 sw.2) p0 = zAa zA sw.1 sw.2 ((zCO i).foldl (zAa zA sw.1 sw.2) p0) (i:Nat):=by
     unfold zCO; rw [List.range_succ,zUu,List.foldl_append]; rfl
    show (∃ y6 y7,_) /\ _;rw [e];exact ⟨⟨_,_,rfl⟩,zFA m gr sS (by omega) (by omega),nl3⟩
   ·rintro σ M2 ⟨⟨y6,y7,rfl⟩,gr,nl2⟩;refine ⟨⟨_,_,_,_,rfl⟩,done ++ [sw],rest,rfl,by rw [<- hd]; simp,?_⟩;rw [List.foldl_append,hp];exact nl2
 ·rintro σ M' ⟨⟨y4,y5,y6,y7,rfl⟩,done,rest,er,hd,nl⟩;have:rest = []:=by cases rest with | nil=>rfl | cons _ _=>cases er
  subst this;rw [zUm] at hd;subst hd;refine ⟨zu,?_⟩;rw [zO];exact zn rfl ⟨rfl,nl⟩
noncomputable def zBX:FS:=(zK (zBH (zAC (zD (toD (fB zh (zF (fOp kIx (zC 0) (fC (.int 0))) zM))) zL)) (gN 2) (zK (zi 3 (zA1 zL))
  (zK (zBH (zAC (zD (toD (fB zh (zF (zC 0) zM))) zL)) (gN 4) (zAv (fM zC0 (zC 3) (zD (toD (fOp zDX (fOp kIx (fOp kIx (zC 0) (zC 4)) (zC 2)) (fOp zAc (zC 4) (fC (.int 1))))) (zD (toD (zC 4)) zL)))))
  (zBH (zAC (zD (toD (fB zh (zF (zC 0) zM))) zL)) (gN 4) (zI3 (fOp kIx (zC 3) (zC 4)) (fOp kIx (zC 0) (zC 4)) (zC 2))))))
  (sIf (tst (zC 1)) (zK (zi 5 (fOp zEx (fB zh (zF (fOp kIx (zC 0) (fC (.int 0))) zM)) (fC (.int 1))))
  (zI3 (fOp kIx (fOp kIx (zC 0) (fOp zEx (fB zh (zF (zC 0) zM)) (fC (.int 1)))) (zC 5)) (fOp kIx (zC 0) (fC (.int 0))) (zC 5))) zAZ))
noncomputable def zAU:FF:=zBP 6 zBX
noncomputable def zDg:FS:=(zK (zi 4 (fB zh (zF (zC 0) zM)))
  (zK (zi 5 (fOp kIx (fOp kIx (zC 0) (fC (.int 0))) (fC (.int 0))))
  (zK (sIf (zHC (tst (fOp kEq (zC 3) (fC (.int 4)))) (tst (fOp kLt (zC 1) (zC 5)))) (zAO (fOp zDX (fOp kIx (fOp kIx (zC 0) (zC 1)) (zC 2)) (zC 5))) zAZ)
  (zK (sIf (tst (fOp kEq (zC 3) (fC (.int 4)))) (zAO (fOp zAc (zC 5) (fOp zDX (fOp kIx (fOp kIx (zC 0) (zC 1)) (zC 2)) (fOp zEx (zC 4) (zC 5))))) zAZ)
  (zK (sIf (zHC (tst (fOp kEq (zC 3) (fC (.int 5)))) (tst (fOp kEq (zC 2) (fC (.int 0))))) (zAO (fOp zDX (fOp zAc (zC 1) (fC (.int 1))) (zC 4))) zAZ)
  (zK (sIf (tst (fOp kEq (zC 3) (fC (.int 5)))) (zAO (fOp kIx (zA1 (zD (toD (zC 1)) (zD (toD (fC (.int 0))) zL))) (fB zGM (zF (zE4 (fOp kEq (zC 2) (fC (.int 1))) (fOp kEq (zC 1) (fOp zEx (zC 4) (fC (.int 1))))) zM)))) zAZ)
  (zK (sIf (tst (fOp kEq (zC 3) (fC (.int 6)))) (zAO (fOp kIx (fOp kIx (zC 0) (fC (.int 0))) (zC 2))) zAZ)
  (zAO (fOp kIx (fOp kIx (zC 0) (zC 1)) (fC (.int 0)))))))))))
noncomputable def zAw:FF:=zBP 6 zDg
noncomputable def zBN:FS:=(zK (zi 3 (fOp zAc (fC (.int 1)) (zY ze (zD (toD (zC 0)) (zD (toD (zC 1)) zL)))))
  (zK (zi 4 (fOp zAc (fC (.int 1)) (zY ze (zD (toD (zC 0)) (zD (toD (zC 2)) zL)))))
  (zK (zi 5 (zY ze (zD (toD (zC 0)) (zD (toD (fC (.int 8))) zL))))
  (zK (zi 6 (zA1 zL))
  (zK (zBH (zAC (zD (toD (zC 3)) zL)) (gN 7) (zAv (fM zw (zC 6) (zD (toD (zAQ [8] (zAC (zD (toD (zC 4)) zL)) (gN 8) zAp (zY ze (zD (toD (zC 0)) (zD (toD (zC 3)) zL))))) zL))))
  (zK (sIf (tst (fOp kEq (zC 5) (fC (.int 3)))) (zAv (zY zAU (zD (toD (zC 6)) (zD (toD (fOp kEq (zY ze (zD (toD (zC 0)) (zD (toD (fC (.int 2))) zL))) (fC (.int 1)))) zL)))) zAZ)
  (zK (sIf (tst (fOp kGt (zC 5) (fC (.int 3)))) (zi 6 (zAQ [7] (zAC (zD (toD (zC 3)) zL)) (gN 7) zAp (zAQ [8] (zAC (zD (toD (zC 4)) zL)) (gN 8) zAp (zY zAw (zD (toD (zC 6)) (zD (toD (zC 7)) (zD (toD (zC 8)) (zD (toD (zC 5)) zL)))))))) zAZ)
  (zAO (fB zW (zF (zAQ [9] (zBt (zC 6)) (gN 9) zAp (fB zW (zF (zC 9) zM))) zM))))))))))
noncomputable def zAq:FF:=zGy (zBP 10 zBN)
theorem zAP {P:D -> Mem -> Prop} {xs:List D} {M:Mem} (h:P (.ref M.length) (M ++ [.lst xs])):zHj P (.fl xs) M:=h
theorem zBj (A:Mem) (u:MO):(A ++ [u])[A.length]? = some u:=by simp
theorem zMY {M:Mem} {n:Nat} {xs:List D} {i:Int} {d:D} (h:M[n]? = some (.lst xs)) (h0:0 <= i) (h1:i.toNat <= xs.length) (hz:xs.length < 90000):zC0 (.dat (.ref n)) [.int i,d] M = some (.non,M.set n (.lst (xs.take i.toNat ++ [d] ++ xs.drop i.toNat))):=by
 unfold zC0; dsimp only; rw [h]; dsimp only; rw [zUH ⟨h0,h1,zUR hz (zT (by omega))⟩]
theorem zSO {f:FE} {σ:Sd} {M M1:Mem} {xs:List D} (h:f σ M = some (.fl xs,M1)):toD f σ M = some (.ref M1.length,M1 ++ [.lst xs]):=by unfold toD; rw [h]
theorem fB1 {k:KB} {f:FE} {x:EV} {σ:Sd} {M:Mem} (hf:f σ M = some (x,M)):fB k (zF f zM) σ M = k [x] M:=by unfold fB zF zM; rw [hf]
theorem zOM {ns:List Int} (h:ns.length <= 63):Ok (zBS [.ref 0] [.fro (ns.map D.int)]) fun d M'=>d = .ref 1 /\ Gen M' 1 2 0 /\ M'[0]? = some (.fro (ns.map D.int)):=by
 unfold zBS;rw [zAW];unfold zCo;have e0:([.fro (ns.map D.int),.dict []]:Mem)[0]? = some (.fro (ns.map D.int)):=rfl;have l1:fB zEs (zF (zC 0) zM) [some (.ref 0)] [.fro (ns.map D.int),.dict []] = some (.fl (ns.map D.int),[.fro (ns.map D.int),.dict []]):=by
  rw [fB1 (x:=.dat (.ref 0)) rfl];unfold zEs;dsimp only;rw [zK1 e0]
 have l2:fB zh (zF (zC 0) zM) [some (.ref 0)] [.fro (ns.map D.int),.dict []] = some (.dat (.int (ns.map D.int).length),[.fro (ns.map D.int),.dict []]):=zAm (x:=.dat (.ref 0)) rfl (zK1 e0);obtain ⟨zs,ez,hz⟩:∃ zs:List Int,fOp zHs (zA1 (zD (toD (fC (.int 0))) zL)) (fB zGM (zF (fOp kEq (fB zh (zF (zC 0) zM)) (fC (.int 0))) zM)) [some (.ref 0)] [.fro (ns.map D.int),.dict []] = some (.fl (zs.map D.int),[.fro (ns.map D.int),.dict []]) /\ 0 < (ns ++ zs).length /\ (ns ++ zs).length <= 63:=by
  have l3:fB zGM (zF (fOp kEq (fB zh (zF (zC 0) zM)) (fC (.int 0))) zM) [some (.ref 0)] [.fro (ns.map D.int),.dict []] = some (.dat (.int (if decide (((ns.map D.int).length:Int) = 0) then 1 else 0)),[.fro (ns.map D.int),.dict []]):=by
   have l4:fOp kEq (fB zh (zF (zC 0) zM)) (fC (.int 0)) [some (.ref 0)] [.fro (ns.map D.int),.dict []] = some (.dat (.bl (decide (((ns.map D.int).length:Int) = 0))),[.fro (ns.map D.int),.dict []]):=zI l2 rfl (zN (zF3.mpr ⟨rfl,rfl⟩));rw [fB1 l4]; rfl
  have l5:zA1 (zD (toD (fC (.int 0))) zL) [some (.ref 0)] [.fro (ns.map D.int),.dict []] = some (.fl [.int 0],[.fro (ns.map D.int),.dict []]):=by
   unfold zA1; rw [zo (d:=.int 0) rfl]; dsimp only; rw [zUH (zT (by simp))]
  cases ns with
  | nil=>exact ⟨[0],zI l5 l3 (by unfold zHs; dsimp only [zBn,zHo]; rw [zUH ⟨by decide,by decide,zT (by decide)⟩]; rfl),by simp,by simp⟩
  | cons x r=>
   refine ⟨[],zI l5 l3 ?_,by simp,by simpa using h⟩;have:decide (((List.map D.int (x :: r)).length:Int) = 0) = false:=by simp; omega
   rw [this];unfold zHs; dsimp only [zBn,zHo]; rw [zUH ⟨by decide,by decide,zT (by decide)⟩]; rfl
 show OkS (zAO _ [some (.ref 0)] [.fro (ns.map D.int)]) _;rw [zHa];have ec:toD (fOp zDL (fB zEs (zF (zC 0) zM)) (fOp zHs (zA1 (zD (toD (fC (.int 0))) zL)) (fB zGM (zF (fOp kEq (fB zh (zF (zC 0) zM)) (fC (.int 0))) zM)))) [some (.ref 0)] ([.fro (ns.map D.int)] ++ [.dict []]) = some (.ref 2,[.fro (ns.map D.int),.dict [],.lst ((ns ++ zs).map D.int)]):=by
  have:fOp zDL (fB zEs (zF (zC 0) zM)) (fOp zHs (zA1 (zD (toD (fC (.int 0))) zL)) (fB zGM (zF (fOp kEq (fB zh (zF (zC 0) zM)) (fC (.int 0))) zM))) [some (.ref 0)] [.fro (ns.map D.int),.dict []] = some (.fl ((ns ++ zs).map D.int),[.fro (ns.map D.int),.dict []]):=by
   refine zI l1 ez ?_;unfold zDL;dsimp only [zHo];rw [zUH (zT (by have:=hz.2; simp at this ⊢; omega)),zUu]
  exact zSO this
 refine zE (M:=[.fro (ns.map D.int),gS 2 0 0,.lst ((ns ++ zs).map D.int)]) (a:=.dat (.ref 1)) ?_ ?_
 ·unfold zHv;rw [ec];dsimp only;rfl
 ·rw [zR];refine ⟨rfl,⟨⟨ns ++ zs,0,0,rfl,rfl,hz.1,hz.2,by decide,by decide⟩,by decide,?_⟩,rfl⟩;intro j u e;match j,e with
  | 0,e=>cases e; exact zr _ _
  | 1,e=>cases e; rfl
  | 2,e=>cases e; exact zr _ _
  | j + 3,e=>simp at e
structure Rw (M:Mem) (j:Nat) (rs:List Nat) (zA:List (List Int)) (n l:Nat):Prop where
 at_:M[j]? = some (.lst (rs.map D.ref))
 len:rs.length = zA.length
 row:∀ (i r:Nat),rs[i]? = some r -> ∃ w,zA[i]? = some w /\ M[r]? = some (.lst (w.map D.int))
 nd:rs.Nodup
 hj:j ∉ rs
 ok:∀ w ∈ zA,w.length = l /\ ∀ x ∈ w,0 <= x /\ x < (n:Int)
section
variable {M M':Mem} {j n l:Nat} {rs:List Nat} {zA:List (List Int)}
theorem Rw.keep (h:Rw M j rs zA n l) (k:∀ i,i < M.length -> M'[i]? = M[i]?):Rw M' j rs zA n l:=by
 have kp:∀ {i:Nat} {u:MO},M[i]? = some u -> M'[i]? = some u:=fun {i u} e=>(k i (zT0.mp e).1).trans e;exact ⟨kp h.at_,h.len,fun i r e=>let ⟨w,e1,e2⟩:=h.row i r e; ⟨w,e1,kp e2⟩,h.nd,h.hj,h.ok⟩
theorem Rw.ix (h:Rw M j rs zA n l) {σ:Sd} {f1 f2 f3:FE} {i g:Int} (h1:f1 σ M = some (.dat (.ref j),M)) (h2:f2 σ M = some (.dat (.int i),M)) (h3:f3 σ M = some (.dat (.int g),M)) (i0:0 <= i) (i1:i < zA.length) (g0:0 <= g) (g1:g < l) :
  fOp kIx (fOp kIx f1 f2) f3 σ M = some (.dat (.int (zAR zA i g)),M) /\ 0 <= zAR zA i g /\ zAR zA i g < n:=by
 have hi:i.toNat < rs.length:=by rw [h.len]; omega
 obtain ⟨w,e1,e2⟩:=h.row i.toNat rs[i.toNat] (zT6 hi);obtain ⟨hl,hx⟩:=h.ok w (zUt e1);have es:zAR zA i g = w[g.toNat]'(by omega):=by
  unfold zAR;rw [zT7 (l:=zA),e1,Option.getD_some,zT7,zT6 (by omega)]; rfl
 refine ⟨zI (zI h1 h2 (zBl (d:=.ref rs[i.toNat]) (zd h.at_) (zF5 i0 (by rw [zUP,zT6 hi]; rfl)))) h3 (zBl (zd e2) (zF5 g0 (by rw [zUP,zT6 (by omega),es]; rfl))),?_⟩;rw [es]; exact hx _ (zUa _)
theorem Rw.len0 (h:Rw M j rs zA n l) {σ:Sd} {f1:FE} (h1:f1 σ M = some (.dat (.ref j),M)):fB zh (zF f1 zM) σ M = some (.dat (.int zA.length),M):=by
 rw [zAm h1 (zd h.at_),zUB,h.len]
theorem Rw.row0 (h:Rw M j rs zA n l) (hr:0 < zA.length) {σ:Sd} {f1:FE} (h1:f1 σ M = some (.dat (.ref j),M)):fB zh (zF (fOp kIx f1 (fC (.int 0))) zM) σ M = some (.dat (.int l),M):=by
 have hi:0 < rs.length:=by rw [h.len]; omega
 obtain ⟨w,e1,e2⟩:=h.row 0 rs[0] (zT6 hi);obtain ⟨hl,hx⟩:=h.ok w (zUt e1);have e3:=zAm (x:=.dat (.ref rs[0])) (zI (g:=fC (.int 0)) h1 rfl (zBl (d:=.ref rs[0]) (zd h.at_) (zF5 (by decide) (by rw [zUP]; show Option.map _ rs[0]? = _; rw [zT6 hi]; rfl)))) (zd e2);rw [e3,zUB,hl]
theorem Rw.put (h:Rw M j rs zA n l) {i g r:Nat} {x:Int} (hr:rs[i]? = some r) (x0:0 <= x) (x1:x < n):∃ w,zA[i]? = some w /\ M[r]? = some (.lst (w.map D.int)) /\ Rw (M.set r (.lst ((w.set g x).map D.int))) j rs (zA.set i (w.set g x)) n l:=by
 obtain ⟨w,e1,e2⟩:=h.row i r hr;have hrl:=(zT0.mp e2).1;have hil:=(zT0.mp e1).1;have hrj:j ≠ r:=fun z=>h.hj (by rw [z]; exact zUt hr);refine ⟨w,e1,e2,by rw [zUW (Ne.symm hrj)]; exact h.at_,by rw [zWL]; exact h.len,fun i' r' e=>?_,h.nd,h.hj,fun w' hw'=>?_⟩
 ·by_cases hi:i' = i
  ·subst hi;rw [hr] at e; cases e;exact ⟨w.set g x,zUw hil,zUw hrl⟩
  ·obtain ⟨w2,e3,e4⟩:=h.row i' r' e;have:r' ≠ r:=fun z=>hi (by subst z; exact (List.getElem?_inj (zT0.mp e).1 h.nd).mp (e.trans hr.symm));exact ⟨w2,by rw [zUW (Ne.symm hi)]; exact e3,by rw [zUW (Ne.symm this)]; exact e4⟩
 ·obtain ⟨hl,hx⟩:=h.ok w (zUt e1);rcases List.mem_or_eq_of_mem_set hw' with q | q
  ·exact h.ok w' q
  ·subst q;refine ⟨by rw [zWL]; exact hl,fun y hy=>?_⟩;rcases List.mem_or_eq_of_mem_set hy with q | q
   ·exact hx y q
   ·subst q; exact ⟨x0,x1⟩
end
open Lac (dT zDZ zBA zFU zJc zEI)
noncomputable def zCS (gL:List D -> FF) (lL:Lm):FS:=(zK (zi 3 (zCy (zC 1) (fC (.bl true))))
  (zK (zi 4 (zCy (zC 1) (zAd zL)))
  (zK (zi 5 (zA1 zL))
  (zK (zt (zI9 (zC 4)) (zK (zBH (zBg (zC 4)) (zDy 6 7) (sIf (tst (zEW 2 lL gL (zD (toD (zC 6)) zL))) (zAO (zAd (zD (toD (fC (.str "word"))) (zD (toD (zC 7)) (zD (toD (fB zW (zF (zC 5) zM))) zL))))) zAZ))
  (zK (zAv (fM zw (zC 5) (zD (toD (fB zW (zF (fB zCT (zF (zC 4) zM)) zM))) zL)))
  (zi 4 (zY zAk (zD (toD (zC 0)) (zD (toD (zC 4)) (zD (toD (zC 3)) zL))))))) 1000)
  (zAO (zAd (zD (toD (fC (.str "none"))) (zD (toD (fB zW (zF (zC 5) zM))) zL))))))))
noncomputable def zBJ (gL:List D -> FF) (lL:Lm):FF:=zCm (zBP 8 (zCS gL lL))
theorem zDt:∀ ts:List (List Int),zGK (ts.map tI) = some ts
 | []=>rfl
 | t :: r=>by
  rw [zUL];unfold zGK;rw [zDt r];show (match zAB (t.map D.int),some r with | some x,some xs=>some (x :: xs) | _,_=>none) = _;rw [zBF]
def lvD (L:List (List Int)):D:=.tup ((zBx L).map tI)
def shD (acc:List (List (List Int))):D:=.tup (acc.map lvD)
theorem zP3 (lv:Lvl):(lE lv).map (·.1) = (lv.map (·.1)).map tI:=by
 unfold lE zDZ wE;rw [List.map_map,List.map_map,List.map_map]; rfl
theorem zQR {zA:List (List Int)} {lv:Lvl} (h:∀ p ∈ lv,IsS zA p.1):zKC (lv.map (·.1)) = true:=by
 unfold zKC;rw [zUd];intro t ht;obtain ⟨p,hp,rfl⟩:=zUJ.mp ht;have:=(h p hp).n0;cases e:p.1 with
 | nil=>rw [e] at this; cases this
 | cons x r=>rfl
theorem zN6 {zA:List (List Int)} {lv:Lvl} (h:∀ p ∈ lv,IsS zA p.1) {f:FE} {σ:Sd} {M:Mem} {x:EV} (hf:f σ M = some (x,M)) (hx:zJh M x = some (lE lv)):fB zW (zF (fB zCT (zF f zM)) zM) σ M = some (.dat (lvD (lv.map (·.1))),M):=by
 refine zAe (x:=.fl ((zBx (lv.map (·.1))).map fun t=>D.tup (t.map D.int))) ?_ zDT;have e1:fB zCT (zF f zM) σ M = zCT [x] M:=by unfold fB zF zM; rw [hf]
 rw [e1];unfold zCT;dsimp only;rw [hx];dsimp only;rw [zP3,zDt];dsimp only;rw [zUH (zQR h)]
theorem zNK {i:Nat} {l:Lm} {g:List D -> FF} {f:FE} {σ:Sd} {M:Mem} {cs:List D} {a d:D} (hs:σ[i]? = some (some (.fn l cs))) (hf:f σ M = some (.dat a,M)) (hg:g cs [a] M = some (d,M)):zEW i l g (zD (toD f) zL) σ M = some (.dat d,M):=by
 unfold zEW;rw [hs];dsimp only;rw [zUH rfl,zo hf];dsimp only;rw [hg]
def Wh (zA:List (List Int)) (R:List Int) (lL:Lm) (cs:List D) (s h:Nat) (r:Option (List Int) × List (List (List Int))) (o:Out) (σ:Sd) (M':Mem):Prop:=match r.1 with
 | some w=>o = .ret (.tup [.str "word", tI w,shD r.2])
 | none=>o = .nx /\ (∃ v y6 y7,σ = [some (mD zA),some (tI R),some (.fn lL cs),some (.ref s),some (.ref v),some (.ref h),y6,y7]) /\ M'[h]? = some (.lst (r.2.map lvD))
abbrev srC:FT:=zI9 (zC 4)
noncomputable abbrev srB (gL:List D -> FF) (lL:Lm):FS:=(zK (zBH (zBg (zC 4)) (zDy 6 7) (sIf (tst (zEW 2 lL gL (zD (toD (zC 6)) zL))) (zAO (zAd (zD (toD (fC (.str "word"))) (zD (toD (zC 7)) (zD (toD (fB zW (zF (zC 5) zM))) zL))))) zAZ))
  (zK (zAv (fM zw (zC 5) (zD (toD (fB zW (zF (fB zCT (zF (zC 4) zM)) zM))) zL)))
  (zi 4 (zY zAk (zD (toD (zC 0)) (zD (toD (zC 4)) (zD (toD (zC 3)) zL)))))))
section
variable {zA:List (List Int)} {l:Nat} {R:List Int} {gL:List D -> FF} {lL:Lm} {cs:List D} {due:List Int -> Bool}
theorem zPD (m:IsM zA l) (h9:zA.length <= 9) (hl9:l <= 1000) (hG:∀ S M',IsS zA S -> gL cs [tI S] M' = some (.bl (due S),M')) {seen:List (List Int)} {level:Lvl} {acc:List (List (List Int))} (mt:Met zA seen level) (hw:∀ s ∈ level,s.2.length <= 4000) (hacc:acc.length <= 4000)
  {M:Mem} {s v h:Nat} (hsv:s ≠ v) (hhv:h ≠ v) (hsh:s ≠ h) (es:M[s]? = some (dT (sE seen))) (ev:M[v]? = some (.dicT (lE level))) (eh:M[h]? = some (.lst (acc.map lvD))) {y6 y7:Option D} :
  OkS (srB gL lL [some (mD zA),some (tI R),some (.fn lL cs),some (.ref s),some (.ref v),some (.ref h),y6,y7] M) fun o σ M'=>match level.find? (fun p=>due p.1) with
   | some p=>o = .ret (.tup [.str "word", tI p.2,shD acc])
   | none=>o = .nx /\ (∃ v' y6 y7,σ = [some (mD zA),some (tI R),some (.fn lL cs),some (.ref s),some (.ref v'),some (.ref h),y6,y7] /\ s ≠ v' /\ h ≠ v' /\ M'[v']? = some (.dicT (lE (zAN zA l seen level).2))) /\ M'[s]? = some (dT (sE (zAN zA l seen level).1)) /\ M'[h]? = some (.lst ((acc ++ [level.map (·.1)]).map lvD)):=by
 have hvl:v < M.length:=(zT0.mp ev).1;have hhl:h < M.length:=(zT0.mp eh).1;rw [zJ,zAY];have ei:zBg (zC 4) [some (mD zA),some (tI R),some (.fn lL cs),some (.ref s),some (.ref v),some (.ref h),y6,y7] M = some ((lE level).map (fun p=>D.tup [p.1,p.2]),none,M.set v (.froT (lE level))):=by
  unfold zBg zC;dsimp only [List.getElem?_cons_succ,List.getElem?_cons_zero];rw [ev]
 refine ⟨_,_,_,ei,?_⟩;have es1:(M.set v (.froT (lE level)))[s]? = some (dT (sE seen)):=by rw [zUW (Ne.symm hsv)]; exact es
 have ev1:(M.set v (.froT (lE level)))[v]? = some (.froT (lE level)):=zUw hvl;have eh1:(M.set v (.froT (lE level)))[h]? = some (.lst (acc.map lvD)):=by rw [zUW (Ne.symm hhv)]; exact eh
 have ln1:(M.set v (.froT (lE level))).length = M.length:=by simp
 generalize M.set v (.froT (lE level)) = M1 at es1 ev1 eh1 ln1;refine zA9 (I:=fun r σ M'=>M' = M1 /\ (∃ y6 y7,σ = [some (mD zA),some (tI R),some (.fn lL cs),some (.ref s),some (.ref v),some (.ref h),y6,y7]) /\ ∃ (done rest:Lvl),r = (lE rest).map (fun p=>D.tup [p.1,p.2]) /\ done ++ rest = level /\ ∀ p ∈ done,due p.1 = false) ?_ ?_ _ _ _ ⟨rfl,⟨_,_,rfl⟩,[],level,rfl,rfl,fun _ h=>by cases h⟩
 ·rintro x r σ M' ⟨rfl,⟨y6,y7,rfl⟩,done,rest,er,hd,nd⟩;cases rest with
  | nil=>cases er
  | cons sw rest=>
   obtain ⟨rfl,rfl⟩:=zU6 er;have hs:sw ∈ level:=by rw [<- hd]; simp
   refine ⟨zu,_,rfl,?_⟩;show OkS (sIf _ _ _ [some (mD zA),some (tI R),some (.fn lL cs),some (.ref s),some (.ref v),some (.ref h),some (tI sw.1),some (tI sw.2)] M') _;rw [zAE];refine zE (zAJ (zNK (cs:=cs) (a:=tI sw.1) rfl rfl (hG _ _ (mt.lv sw hs)))) ?_;cases hdue:due sw.1 with
   | true=>
    rw [zUH rfl];have e5:fB zW (zF (zC 5) zM) [some (mD zA),some (tI R),some (.fn lL cs),some (.ref s),some (.ref v),some (.ref h),some (tI sw.1),some (tI sw.2)] M' = some (.dat (shD acc),M'):=zAe (x:=.dat (.ref h)) rfl (zd eh1);have e6:zAd (zD (toD (fC (.str "word"))) (zD (toD (zC 7)) (zD (toD (fB zW (zF (zC 5) zM))) zL))) [some (mD zA),some (tI R),some (.fn lL cs),some (.ref s),some (.ref v),some (.ref h),some (tI sw.1),some (tI sw.2)] M' = some (.dat (.tup [.str "word", tI sw.2,shD acc]),M'):=by
     unfold zAd; rw [zm (d:=.str "word") rfl (zm (d:=tI sw.2) rfl (zo e5))]; dsimp only; rw [zUH (zT (by simp))]
    refine zn e6 ?_;show nxP _ _ (.ret _) _ _;rw [zA6];have hf:level.find? (fun p=>due p.1) = some sw:=by
     rw [<- hd,List.find?_append,List.find?_eq_none.mpr (fun p hp=>by rw [nd p hp]; simp)];simp [hdue]
    rw [hf]
   | false=>
    rw [zUK zUO,zj];refine ⟨rfl,⟨_,_,rfl⟩,done ++ [sw],rest,rfl,by rw [<- hd]; simp,fun p hp=>?_⟩;rcases zUS.mp hp with z | z
    ·exact nd p z
    ·have:p = sw:=by simpa using z
     rw [this]; exact hdue
 ·rintro σ M' ⟨rfl,⟨y6,y7,rfl⟩,done,rest,er,hd,nd⟩;have:rest = []:=by cases rest with | nil=>rfl | cons _ _=>cases er
  subst this;rw [zUm] at hd;subst hd;refine ⟨zu,?_⟩;have hf:done.find? (fun p=>due p.1) = none:=List.find?_eq_none.mpr fun p hp=>by rw [nd p hp]; simp
  rw [hf,zO,zJ,zBT];refine zJl.mpr (zBG.mpr ⟨_,rfl,⟨_,zBf eh1⟩,?_⟩);refine zE (zo (zN6 mt.lv (x:=.dat (.ref v)) rfl (by unfold zJh; dsimp only; rw [ev1]))) ?_;rw [zCB eh1 (by rw [zUB]; exact zUR (m:=4001) (by omega) (zT (by omega))),zO];have es2:(M'.set h (.lst (acc.map lvD ++ [lvD (done.map (·.1))])))[s]? = some (dT (sE seen)):=by rw [zUW (Ne.symm hsh)]; exact es1
  have ev2:(M'.set h (.lst (acc.map lvD ++ [lvD (done.map (·.1))])))[v]? = some (.froT (lE done)):=by rw [zUW hhv]; exact ev1
  have eh2:(M'.set h (.lst (acc.map lvD ++ [lvD (done.map (·.1))])))[h]? = some (.lst ((acc ++ [done.map (·.1)]).map lvD)):=by rw [zUw (by omega),zUu]; rfl
  generalize M'.set h (.lst (acc.map lvD ++ [lvD (done.map (·.1))])) = M2 at es2 ev2 eh2;have hh2:h < M2.length:=(zT0.mp eh2).1;have hs2:s < M2.length:=(zT0.mp es2).1;rw [zc];refine zC5.mpr (zE (zm (d:=mD zA) rfl (zm (d:=.ref v) rfl (zo (d:=.ref s) rfl))) ?_);refine Ok.mono (zGF m h9 hl9 (Ne.symm hsv) mt (.inr ev2) es2 fun p hp=>zUT (hw p hp) (by omega)) ?_;rintro d M3 ⟨rfl,nl⟩;rw [zR];exact ⟨rfl,⟨M2.length,_,_,rfl,by omega,by omega,nl.ec⟩,nl.eb,by rw [nl.fr h hh2 hhv (Ne.symm hsh)]; exact eh2⟩
theorem zGc (m:IsM zA l) (h9:zA.length <= 9) (hl9:l <= 1000) (hG:∀ S M',IsS zA S -> gL cs [tI S] M' = some (.bl (due S),M')):∀ (n:Nat) {seen:List (List Int)} {level:Lvl} {acc:List (List (List Int))} {r:Option (List Int) × List (List (List Int))} {k:Nat},Met zA seen level -> (∀ p ∈ level,p.2.length <= k) -> acc.length <= k -> k + n <= 4000 -> run zA l due n seen level acc = some r ->
  ∀ (M:Mem) (s v h:Nat) (y6 y7:Option D),s ≠ v -> h ≠ v -> s ≠ h -> M[s]? = some (dT (sE seen)) -> M[v]? = some (.dicT (lE level)) -> M[h]? = some (.lst (acc.map lvD)) ->
  OkS (zt srC (srB gL lL) n [some (mD zA),some (tI R),some (.fn lL cs),some (.ref s),some (.ref v),some (.ref h),y6,y7] M) (Wh zA R lL cs s h r)
 | 0,_,_,_,_,_,_,_,_,_,hr=>by cases hr
 | n + 1,seen,level,acc,r,k,mt,hw,hacc,hk,hr=>by
  intro M s v h y6 y7 hsv hhv hsh es ev eh;have ec:srC [some (mD zA),some (tI R),some (.fn lL cs),some (.ref s),some (.ref v),some (.ref h),y6,y7] M = some (!(lE level).isEmpty,M):=by
   unfold srC zI9 zC zJh;dsimp only [List.getElem?_cons_succ,List.getElem?_cons_zero];rw [ev]
  have hem:(lE level).isEmpty = level.isEmpty:=by cases level <;> rfl
  unfold run at hr;unfold zt;rw [ec,hem];cases hl:level.isEmpty with
  | true=>
   rw [hl,zUH rfl] at hr;cases hr;exact ⟨_,_,_,rfl,rfl,⟨_,_,_,rfl⟩,eh⟩
  | false=>
   rw [hl,zUK zUO] at hr;obtain ⟨o,σ1,M1,eb,hb⟩:=zPD (y6:=y6) (y7:=y7) (R:=R) (lL:=lL) m h9 hl9 hG mt (fun p hp=>zUT (hw p hp) (by omega)) (zUT hacc (by omega)) hsv hhv hsh es ev eh
   show OkS (match srB gL lL [some (mD zA),some (tI R),some (.fn lL cs),some (.ref s),some (.ref v),some (.ref h),y6,y7] M with
    | some (.nx,σ2,M2)=>zt srC (srB gL lL) n σ2 M2
    | some (.cnt,σ2,M2)=>zt srC (srB gL lL) n σ2 M2
    | some (.brk,σ2,M2)=>some (.nx,σ2,M2)
    | some (.ret d,σ2,M2)=>some (.ret d,σ2,M2)
    | none=>none) _
   rw [eb];cases hf:level.find? (fun p=>due p.1) with
   | some p=>
    rw [hf] at hr hb;cases hr;have hb':o = .ret (.tup [.str "word", tI p.2,shD acc]):=hb;subst hb';exact ⟨_,_,_,rfl,rfl⟩
   | none=>
    rw [hf] at hr hb;obtain ⟨rfl,⟨v',y6',y7',rfl,n1,n2,ev'⟩,es',eh'⟩:=hb;have g:=mt.next m;exact zGc m h9 hl9 hG n (k:=k + 1) g.met (zKv (n:=k + 1) (fun p hp=>Nat.succ_le_succ (hw p hp)) fun _ h=>by cases h) (by rw [zUI,zXH]; omega) (by omega) hr _ _ _ _ _ _ n1 n2 hsh es' ev' eh'
def zET (r:Option (List Int) × List (List (List Int))):D:=match r.1 with
 | some w=> .tup [.str "word", tI w,shD r.2]
 | none=> .tup [.str "none", shD r.2]
theorem zDn {f g:FE} {σ:Sd} {M:Mem} {S:List Int} {v:D} (hf:f σ (M ++ [.dicT []]) = some (.dat (tI S),M ++ [.dicT []])) (hg:g σ (M ++ [.dicT []]) = some (.dat v,M ++ [.dicT []])):zCy f g σ M = some (.dat (.ref M.length),M ++ [dT [(S,v)]]):=by
 have t1:toD f σ (M ++ [.dicT []]) = some (tI S,M ++ [.dicT []]):=by unfold toD; rw [hf]
 have t2:toD g σ (M ++ [.dicT []]) = some (v,M ++ [.dicT []]):=by unfold toD; rw [hg]
 unfold zCy;rw [t1]; dsimp only; rw [t2]; dsimp only;have e:(M ++ [MO.dicT []])[M.length]? = some (dT []):=by simp
 rw [zEI e (by simp)];dsimp only;refine zVp (fun z=>some (EV.dat (D.ref M.length),z)) ?_;show (M ++ [MO.dicT []]).set M.length (dT [(S,v)]) = M ++ [dT [(S,v)]];rw [List.set_append_right _ _ (zT8 _)];simp
theorem zIE (m:IsM zA l) (h9:zA.length <= 9) (hl9:l <= 1000) (hG:∀ S M',IsS zA S -> gL cs [tI S] M' = some (.bl (due S),M')) (sR:IsS zA R) {r:Option (List Int) × List (List (List Int))} (hr:run zA l due 1000 [R] [(R,[])] [] = some r) (M:Mem) :
  Ok (zBP 8 (zCS gL lL) [mD zA,tI R,.fn lL cs] M) fun d _=>d = zET r:=by
 rw [zAW];unfold zCS;show OkS (zK _ _ [some (mD zA),some (tI R),some (.fn lL cs),none,none,none,none,none] M) _;rw [zJ,zc];refine zE (zDn (S:=R) (v:=.bl true) rfl rfl) ?_;rw [zR,zO];have e1:(M ++ [dT [(R,.bl true)]])[M.length]? = some (dT (sE [R])):=by simp; rfl
 have l1:(M ++ [dT [(R,.bl true)]]).length = M.length + 1:=by simp
 generalize M ++ [dT [(R,.bl true)]] = M1 at e1 l1;show OkS (zK _ _ [some (mD zA),some (tI R),some (.fn lL cs),some (.ref M.length),none,none,none,none] M1) _;have et:∀ (σ:Sd) (M:Mem),zAd zL σ M = some (.dat (tI []),M):=fun σ M=>by unfold zAd zL; dsimp only; rw [zUH (zT (by simp))]; rfl
 rw [zJ,zc];refine zE (zDn (S:=R) (v:=tI []) rfl (et _ _)) ?_;rw [zR,zO];have e2:(M1 ++ [dT [(R,tI [])]])[M1.length]? = some (.dicT (lE [(R,[])])):=by simp; rfl
 have e1':(M1 ++ [dT [(R,tI [])]])[M.length]? = some (dT (sE [R])):=by rw [zT9 (by omega)]; exact e1
 have l2:(M1 ++ [dT [(R,tI [])]]).length = M.length + 2:=by simp [l1]
 rw [l1] at e2;rw [l1];generalize M1 ++ [dT [(R,tI [])]] = M2 at e2 e1' l2;show OkS (zK _ _ [some (mD zA),some (tI R),some (.fn lL cs),some (.ref M.length),some (.ref (M.length + 1)),none,none,none] M2) _;rw [zJ,zc];refine zDP.mpr (zBd.mpr ⟨zT (by simp),zAP ?_⟩);rw [zO,l2];have e3:(M2 ++ [MO.lst ([]:List D)])[M.length + 2]? = some (.lst (([]:List (List (List Int))).map lvD)):=by rw [<- l2]; simp
 have e2':(M2 ++ [MO.lst ([]:List D)])[M.length + 1]? = some (.dicT (lE [(R,[])])):=by rw [zT9 (by omega)]; exact e2
 have e1'':(M2 ++ [MO.lst ([]:List D)])[M.length]? = some (dT (sE [R])):=by rw [zT9 (by omega)]; exact e1'
 generalize M2 ++ [MO.lst ([]:List D)] = M3 at e3 e2' e1'';show OkS (zK _ _ [some (mD zA),some (tI R),some (.fn lL cs),some (.ref M.length),some (.ref (M.length + 1)),some (.ref (M.length + 2)),none,none] M3) _;rw [zJ];have mt:Met zA [R] [(R,[])]:=⟨by simp,fun S hS=>by rw [zUU.mp hS]; exact sR,fun p hp=>by rw [zUU.mp hp]; exact sR⟩;refine OkS.mono (zGc (R:=R) m h9 hl9 hG 1000 (k:=0) (acc:=[]) mt (fun p hp=>by rw [zUU.mp hp]; exact zT8 0) (zT8 0) (by omega) hr _ _ _ _ _ _ (by omega) (by omega) (by omega) e1'' e2' e3) ?_;intro o σ M4 hW;unfold Wh at hW;unfold zET;split at hW
 ·rename_i w hw;subst hW;rw [zA6]
 ·rename_i hw;obtain ⟨rfl,⟨v,y6,y7,rfl⟩,eh⟩:=hW;rw [zO];have e5:fB zW (zF (zC 5) zM) [some (mD zA),some (tI R),some (.fn lL cs),some (.ref M.length),some (.ref v),some (.ref (M.length + 2)),y6,y7] M4 = some (.dat (shD r.2),M4):=zAe (x:=.dat (.ref (M.length + 2))) rfl (zd eh);have e6:zAd (zD (toD (fC (.str "none"))) (zD (toD (fB zW (zF (zC 5) zM))) zL)) [some (mD zA),some (tI R),some (.fn lL cs),some (.ref M.length),some (.ref v),some (.ref (M.length + 2)),y6,y7] M4 = some (.dat (.tup [.str "none", shD r.2]),M4):=by
   unfold zAd; rw [zm (d:=.str "none") rfl (zo e5)]; dsimp only; rw [zUH (zT (by simp))]
  exact zn e6 rfl
theorem zCG {n:Nat} (xs:List Int):D.und n (tI xs) = true:=zCs xs
theorem zHq {n:Nat} (acc:List (List (List Int))):D.und n (shD acc) = true:=by
 unfold shD D.und;refine zCF fun x hx=>?_;obtain ⟨L,_,rfl⟩:=zUJ.mp hx;unfold lvD D.und;refine zCF fun x hx=>?_;obtain ⟨t,_,rfl⟩:=zUJ.mp hx;exact zCG t
theorem zD8 {n:Nat} (r:Option (List Int) × List (List (List Int))):D.und n (zET r) = true:=by
 unfold zET;split
 ·unfold D.und D.unds D.unds D.unds D.unds;rw [zCG,zHq]; rfl
 ·unfold D.und D.unds D.unds D.unds;rw [zHq]; rfl
theorem zIP (m:IsM zA l) (h9:zA.length <= 9) (hl9:l <= 1000) (hG:∀ S M',IsS zA S -> gL cs [tI S] M' = some (.bl (due S),M')) (hcs:D.unds 0 cs = true) (sR:IsS zA R) {r:Option (List Int) × List (List (List Int))} (hr:run zA l due 1000 [R] [(R,[])] [] = some r) {M:Mem} :
  zBJ gL lL [mD zA,tI R,.fn lL cs] M = some (zET r,M):=by
 refine zN ?_;unfold zBJ;refine zCM ?_ (Ok.mono (zIE m h9 hl9 hG sR hr []) ?_)
 ·unfold D.unds D.unds D.unds D.unds;rw [zDd,zCG];show (true && (true && (D.und 0 (.fn lL cs) && true))) = true;unfold D.und;rw [hcs]; rfl
 ·rintro d M1 rfl;exact ⟨zD8 r,rfl,rfl⟩
theorem zNk {idx:List Nat} {mm:Lm -> FF} {g1 g2:FA} {σ:Sd} {M M1 M2:Mem} {ds1 ds2:List D} {d:D} (h1:g1 σ M = some (ds1,M1)) (h2:g2 σ M1 = some (ds2,M2)) (hc:zMz σ idx = some cs) (h:∀ l,mm l (ds1 ++ .fn l cs :: ds2) M2 = some (d,M2)):zFi idx mm g1 g2 σ M = some (.dat d,M2):=by
 have hx:∃ r:D × Mem,∀ l,mm l (ds1 ++ .fn l cs :: ds2) M2 = some r:=⟨(d,M2),h⟩;have hs:=hx.choose_spec ⟨0,.none,[]⟩;rw [h] at hs;unfold zFi;rw [h1]; dsimp only; rw [h2]; dsimp only; rw [hc]; dsimp only; rw [dif_pos hx];rw [<- zU2 hs]
end
open Lac (dT zDZ zBA zFU zJc zEI)
noncomputable def zDf:FS:=(zK (zi 3 (zA1 zL))
  (zK (zBH (zBt (zC 1)) (gN 4) (sIf (tst (fOp (kIn true) (fOp kIx (fOp kIx (zC 0) (zC 4)) (zC 2)) (zC 3))) (zAv (fM zw (zC 3) (zD (toD (fOp kIx (fOp kIx (zC 0) (zC 4)) (zC 2))) zL))) zAZ))
  (zAO (fB zW (zF (fB zC4 (zF (zC 3) zM)) zM)))))
noncomputable def zAF:FF:=zCm (zBP 5 zDf)
noncomputable def zCP:FS:=(zK (zi 2 (zCy (zC 1) (fC (.bl true))))
  (zK (zi 3 (zA1 (zD (toD (zA1 (zD (toD (zC 1)) zL))) zL)))
  (zK (zt (tst (fOp kGt (fB zh (zF (fOp kIx (zC 3) (zF2 (fC (.int 1)))) zM)) (fC (.int 0)))) (zK (zi 4 (zA1 zL))
  (zK (zBH (zBt (fOp kIx (zC 3) (zF2 (fC (.int 1))))) (gN 5) (zBH (zAC (zD (toD (fB zh (zF (fOp kIx (zC 0) (fC (.int 0))) zM))) zL)) (gN 6) (zK (zi 7 (zY zAF (zD (toD (zC 0)) (zD (toD (zC 5)) (zD (toD (zC 6)) zL)))))
  (sIf (tst (fOp (zEK true) (zC 7) (zC 2))) (zK (zA8 (fC (.bl true)) (zC 2) (zC 7))
  (zAv (fM zw (zC 4) (zD (toD (zC 7)) zL)))) zAZ))))
  (zAv (fM zw (zC 3) (zD (toD (zC 4)) zL))))) 1000)
  (zAO (fB zW (zF (zAQ [8] (zBt (fSl (zC 3) zD6 (zDJ (zF2 (fC (.int 1)))))) (gN 8) zAp (fB zW (zF (fB zEO (zF (zC 8) zM)) zM))) zM))))))
noncomputable def zA7:FF:=zCm (zBP 9 zCP)
theorem zRR {M:Mem} {n:Nat} {c:List Int} {x:Int} (h:M[n]? = some (.lst (c.map D.int))):kIn true (.dat (.int x)) (.dat (.ref n)) M = some (.dat (.bl (!decide (x ∈ c))),M):=by
 unfold kIn; dsimp only; rw [zd h]; dsimp only; rw [zBF];have:(c.any fun y=>decide (y = x)) = decide (x ∈ c):=by
  by_cases hm:x ∈ c
  ·rw [zVA hm];exact List.any_eq_true.mpr ⟨x,hm,by simp⟩
  ·rw [zUb hm];exact List.any_eq_false.mpr fun y hy=>by simp; intro e; exact hm (e ▸ hy)
 show some (EV.dat (.bl (!(c.any fun y=>decide (y = x)))),M) = _;rw [this]
theorem zMJ {c:List Int} {n:Nat} {M:Mem} {f:FE} {σ:Sd} (hf:f σ M = some (.dat (.ref n),M)) (h:M[n]? = some (.lst (c.map D.int))) (hz:c.length < 64):fB zC4 (zF f zM) σ M = some (.fl ((zA0 c).map D.int),M):=by
 rw [fB1 hf];unfold zC4; dsimp only; rw [zd h]; dsimp only; rw [zBF]; dsimp only; rw [zUH hz]
theorem zEv {zA:List (List Int)} {l:Nat} (m:IsM zA l) (h9:zA.length <= 9) {S:List Int} (s:IsS zA S) {g:Int} (g0:0 <= g) (g1:g < l) {M:Mem}:zAF [mD zA,tI S,.int g] M = some (tI (setR zA S g),M):=by
 refine zN ?_;unfold zAF;refine zCM (by unfold D.unds D.unds D.unds D.unds; rw [zDd,zCG]; rfl) ?_;rw [zAW];unfold zDf;show OkS (zK _ _ [some (mD zA),some (tI S),some (.int g),none,none] []) _;rw [zJ,zc];refine zDP.mpr (zBd.mpr ⟨zT (by simp),zAP ?_⟩);rw [zO,zJ,zAY];show ∃ xs gd M2,zBt (zC 1) [some (mD zA),some (tI S),some (.int g),some (.ref 0),none] [.lst []] = some (xs,gd,M2) /\ _;refine ⟨_,_,_,zC1 (x:=.dat (tI S)) rfl zAG,?_⟩;have hl:=s.len;refine zA9 (I:=fun r σ M'=>∃ (y:Option D) (done rest c:List Int),σ = [some (mD zA),some (tI S),some (.int g),some (.ref 0),y] /\ r = rest.map D.int /\ done ++ rest = S /\ M' = [.lst (c.map D.int)] /\ c.Nodup /\ (∀ x,x ∈ c ↔ x ∈ done.map fun h=>zAR zA h g) /\ c.length <= done.length) ?_ ?_ _ _ _ ⟨none,[],S,[],rfl,rfl,rfl,rfl,List.nodup_nil,fun x=>by simp,zT8 _⟩
 ·rintro x r σ M' ⟨y,done,rest,c,rfl,hr,hd,rfl,nd,hc,hcl⟩;obtain ⟨z,rest',rfl,rfl,rfl⟩:=zDK hr;refine ⟨zu,_,rfl,?_⟩;obtain ⟨z0,z1⟩:=s.mem z (by rw [<- hd]; simp);have ix:∀ {σ:Sd} {M:Mem},σ[0]? = some (some (mD zA)) -> σ[4]? = some (some (.int z)) -> σ[2]? = some (some (.int g)) -> fOp kIx (fOp kIx (zC 0) (zC 4)) (zC 2) σ M = some (.dat (.int (zAR zA z g)),M):=fun {σ M} q0 q1 q2=>
   m.ix z0 z1 g0 g1 (by unfold zC; rw [q0]) (by unfold zC; rw [q1]) (by unfold zC; rw [q2])
  have e0:([MO.lst (c.map D.int)]:Mem)[0]? = some (.lst (c.map D.int)):=rfl;show OkS (sIf _ _ _ [some (mD zA),some (tI S),some (.int g),some (.ref 0),some (.int z)] [.lst (c.map D.int)]) _;rw [zAE];refine zE (zAJ (zI (y:=.dat (.ref 0)) (ix rfl rfl rfl) rfl (zRR e0))) ?_;by_cases hm:zAR zA z g ∈ c
  ·rw [zUK (by simp [hm]),zj];refine ⟨_,done ++ [z],rest',c,rfl,rfl,by rw [<- hd]; simp,rfl,nd,fun x=>?_,by simp; omega⟩;rw [hc x];simp only [zUu,zUS,zUL,List.map_nil,zUU];exact ⟨.inl,fun h=>h.elim id fun e=>by rw [e]; exact (hc _).mp hm⟩
  ·rw [zUH (by simp [hm]),zBT];refine zJl.mpr (zBG.mpr ⟨_,rfl,⟨_,zBf e0⟩,?_⟩);refine zE (zo (ix rfl rfl rfl)) ?_;rw [zCB e0 (by rw [zUB]; exact zUR (m:=100) (by have:=zVp List.length hd; simp at this; omega) (zT (by omega)))];refine ⟨_,done ++ [z],rest',c ++ [zAR zA z g],rfl,rfl,by rw [<- hd]; simp,by simp,?_,fun x=>?_,by simp; omega⟩
   ·rw [zVG];exact ⟨nd,by simp,fun a ha b hb q=>hm (by rw [<- (show b = zAR zA z g by simpa using hb),<- q]; exact ha)⟩
   ·simp only [zUu,zUS,zUL,List.map_nil,zUU,hc x]
 ·rintro σ M' ⟨y,done,rest,c,rfl,hr,hd,rfl,nd,hc,hcl⟩;have:rest = []:=by cases rest with | nil=>rfl | cons _ _=>cases hr
  subst this;rw [zUm] at hd;subst hd;refine ⟨zu,?_⟩;rw [zO];have e0:([MO.lst (c.map D.int)]:Mem)[0]? = some (.lst (c.map D.int)):=rfl;refine zn (zAe (zMJ (n:=0) rfl e0 (by omega)) zDT) ?_;have:zA0 c = setR zA done g:=by
   unfold setR;refine zG7 ?_ (zNO _) fun x=>?_
   ·have h1:=zDk c;have h2:(zA0 c).Nodup:=(zAx _).nodup_iff.mpr nd;exact (h1.and h2).imp fun {a b} h=>by have:=h.1; have:=h.2; omega
   ·rw [(zAx _).mem_iff,hc x,zHp]
  rw [this];exact ⟨zCG _,rfl,rfl⟩
abbrev zGH (lv:Lvl):List D:=(lv.map (·.1)).map tI
structure Lw (M1 M:Mem) (b:Nat) (p:List (List Int) × Lvl):Prop where
 len:M.length = M1.length
 e0:M[0]? = some (dT (sE p.1))
 eb:M[b]? = some (.lst (zGH p.2))
 fr:∀ j,j ≠ 0 -> j ≠ b -> M[j]? = M1[j]?
theorem zHN {zA:List (List Int)} {l:Nat} (m:IsM zA l) (h9:zA.length <= 9) {M1 M:Mem} {b:Nat} (hb0:b ≠ 0) {seen0:List (List Int)} {p:List (List Int) × Lvl} (gr:Gr zA seen0 p) (nl:Lw M1 M b p) {R S w:List Int} (s:IsS zA S) {g:Int} (g0:0 <= g) (g1:g < l) {y7:Option D} :
  OkS (zK (zi 7 (zY zAF (zD (toD (zC 0)) (zD (toD (zC 5)) (zD (toD (zC 6)) zL)))))
  (sIf (tst (fOp (zEK true) (zC 7) (zC 2))) (zK (zA8 (fC (.bl true)) (zC 2) (zC 7))
  (zAv (fM zw (zC 4) (zD (toD (zC 7)) zL)))) zAZ) [some (mD zA),some (tI R),some (.ref 0),some (.ref 2),some (.ref b),some (tI S),some (.int g),y7,none] M)
   fun o σ M'=>o = .nx /\ (∃ y7,σ = [some (mD zA),some (tI R),some (.ref 0),some (.ref 2),some (.ref b),some (tI S),some (.int g),y7,none]) /\ Lw M1 M' b (zAa zA S w p g):=by
 refine zBE (zBO (zm rfl (zm rfl (zo rfl))) (zEv m h9 s g0 g1)) ?_;show OkS (sIf _ _ _ [some (mD zA),some (tI R),some (.ref 0),some (.ref 2),some (.ref b),some (tI S),some (.int g),some (tI (setR zA S g)),none] M) _;rw [zAE];refine zE (zAJ (zI (x:=.dat (tI (setR zA S g))) (y:=.dat (.ref 0)) rfl rfl (zJc nl.e0))) ?_;rw [zDu .non,zE7];unfold zAa;by_cases hm:setR zA S g ∈ p.1
 ·rw [zUH hm,zUK (by simp [hm]),zj];exact ⟨rfl,⟨_,rfl⟩,nl⟩
 ·rw [zUK hm,zUH (by simp [hm]),zJ];have hl:=zBL gr.nd gr.st h9;have hk:p.2.length <= p.1.length:=by rw [gr.eq,zUI,zUB]; omega
  refine zBq rfl rfl rfl (zEI nl.e0 (by unfold sE; rw [zUB]; omega)) ?_;rw [zO,zJa hm,zBT];have h0l:0 < M.length:=(zT0.mp nl.e0).1;have hbl:b < M.length:=(zT0.mp nl.eb).1;have eb':(M.set 0 (dT (sE (p.1 ++ [setR zA S g]))))[b]? = some (.lst (zGH p.2)):=by rw [zUW (Ne.symm hb0)]; exact nl.eb
  refine zJl.mpr (zBG.mpr ⟨_,rfl,⟨_,zBf eb'⟩,?_⟩);refine zE (zo (d:=tI (setR zA S g)) rfl) ?_;rw [zCB eb' (by unfold zGH; rw [zUB,zUB]; exact zUR (m:=600) (by omega) (zT (by omega)))];refine ⟨rfl,⟨_,rfl⟩,by simp [nl.len],?_,?_,fun j h1 h2=>?_⟩
  ·rw [zUW hb0,zUw h0l]
  ·rw [zUw (by simpa using hbl)]; simp
  ·rw [zUW (Ne.symm h2),zUW (Ne.symm h1)]; exact nl.fr j h1 h2
structure Tl (M:Mem) (ts:List Nat) (acc:List (List (List Int))):Prop where
 len:ts.length = acc.length
 at_:∀ (i t:Nat),ts[i]? = some t -> ∃ L:List (List Int),acc[i]? = some L /\ M[t]? = some (.lst (L.map tI)) /\ t ≠ 0 /\ t ≠ 2
 ne:∀ L ∈ acc,zKC L = true /\ L.length <= 600
abbrev lwC:FT:=(tst (fOp kGt (fB zh (zF (fOp kIx (zC 3) (zF2 (fC (.int 1)))) zM)) (fC (.int 0))))
noncomputable abbrev lwB:FS:=(zK (zi 4 (zA1 zL))
  (zK (zBH (zBt (fOp kIx (zC 3) (zF2 (fC (.int 1))))) (gN 5) (zBH (zAC (zD (toD (fB zh (zF (fOp kIx (zC 0) (fC (.int 0))) zM))) zL)) (gN 6) (zK (zi 7 (zY zAF (zD (toD (zC 0)) (zD (toD (zC 5)) (zD (toD (zC 6)) zL)))))
  (sIf (tst (fOp (zEK true) (zC 7) (zC 2))) (zK (zA8 (fC (.bl true)) (zC 2) (zC 7))
  (zAv (fM zw (zC 4) (zD (toD (zC 7)) zL)))) zAZ))))
  (zAv (fM zw (zC 3) (zD (toD (zC 4)) zL)))))
section
variable {zA:List (List Int)} {l:Nat} {R:List Int}
theorem zP9 {M:Mem} {ts:List Nat} {v:Nat} {f:FE} {σ:Sd} (hf:f σ M = some (.dat (.ref 2),M)) (e2:M[2]? = some (.lst ((ts ++ [v]).map D.ref))):fOp kIx f (zF2 (fC (.int 1))) σ M = some (.dat (.ref v),M) :=
 zI (g:=zF2 (fC (.int 1))) (y:=.dat (.int (-1))) hf rfl (zBl (zd e2) (by rw [zUu]; exact Law.zNm _ _))
theorem zJq (m:IsM zA l) (h9:zA.length <= 9) (hl9:l <= 1000) {seen:List (List Int)} {level:Lvl} {acc:List (List (List Int))} (mt:Met zA seen level) (hz:level.length <= 600) (hacc:acc.length <= 4000) {M:Mem} {ts:List Nat} {v:Nat} (v0:v ≠ 0) (v2:v ≠ 2)
  (e0:M[0]? = some (dT (sE seen))) (e2:M[2]? = some (.lst ((ts ++ [v]).map D.ref))) (ev:M[v]? = some (.lst (zGH level))) (tl:Tl M ts acc) {y4 y5 y6 y7:Option D} :
  OkS (lwB [some (mD zA),some (tI R),some (.ref 0),some (.ref 2),y4,y5,y6,y7,none] M) fun o σ M'=>o = .nx /\ ∃ v',(∃ y4 y5 y6 y7,σ = [some (mD zA),some (tI R),some (.ref 0),some (.ref 2),y4,y5,y6,y7,none]) /\ v' ≠ 0 /\ v' ≠ 2 /\ M'[0]? = some (dT (sE (zAN zA l seen level).1)) /\ M'[2]? = some (.lst (((ts ++ [v]) ++ [v']).map D.ref)) /\ M'[v']? = some (.lst (zGH (zAN zA l seen level).2)) /\ Tl M' (ts ++ [v]) (acc ++ [level.map (·.1)]):=by
 have h2l:2 < M.length:=(zT0.mp e2).1;have hvl:v < M.length:=(zT0.mp ev).1;rw [zJ,zc];refine zDP.mpr (zBd.mpr ⟨zT (by simp),zAP ?_⟩);rw [zO];have lw1:Lw (M ++ [MO.lst ([]:List D)]) (M ++ [MO.lst ([]:List D)]) M.length (seen,[]):=⟨rfl,by rw [zT9 (by omega)]; exact e0,by simp,fun j _ _=>rfl⟩;have k1:∀ j,j < M.length -> (M ++ [MO.lst ([]:List D)])[j]? = M[j]?:=fun j hj=>zT9 hj;have ln1:(M ++ [MO.lst ([]:List D)]).length = M.length + 1:=by simp
 generalize M ++ [MO.lst ([]:List D)] = M1 at lw1 k1 ln1;have hb0:M.length ≠ 0:=by omega
 generalize hb:M.length = b at lw1 hb0 k1 ln1;show OkS (zK _ _ [some (mD zA),some (tI R),some (.ref 0),some (.ref 2),some (.ref b),y5,y6,y7,none] M1) _;rw [zJ,zAY];have ev1:M1[v]? = some (.lst (zGH level)):=by rw [k1 v (by omega)]; exact ev
 have e21:M1[2]? = some (.lst ((ts ++ [v]).map D.ref)):=by rw [k1 2 (by omega)]; exact e2
 refine ⟨_,_,_,zC1 (zP9 rfl e21) (zd ev1),?_⟩;refine zA9 (I:=fun r σ M'=>(∃ y5 y6 y7,σ = [some (mD zA),some (tI R),some (.ref 0),some (.ref 2),some (.ref b),y5,y6,y7,none]) /\ ∃ (done rest:Lvl),r = zGH rest /\ done ++ rest = level /\ Lw M1 M' b (done.foldl (zAz zA l) (seen,[]))) ?_ ?_ _ _ _ ⟨⟨_,_,_,rfl⟩,[],level,rfl,rfl,lw1⟩
 ·rintro x r σ M' ⟨⟨y5,y6,y7,rfl⟩,done,rest,er,hd,nl⟩;cases rest with
  | nil=>cases er
  | cons sw rest=>
   obtain ⟨rfl,rfl⟩:=zU6 er;have hs:sw ∈ level:=by rw [<- hd]; simp
   have sS:=mt.lv sw hs;have gr0:Gr zA seen (done.foldl (zAz zA l) (seen,[])):=zFD m (fun s z=>mt.lv s (by rw [<- hd]; simp [z])) ⟨mt.nd,mt.st,by simp⟩;generalize hp:done.foldl (zAz zA l) (seen,[]) = p0 at nl gr0;have gd:∀ {M2:Mem} {q:List (List Int) × Lvl},Lw M1 M2 b q -> M2[v]? = some (.lst (zGH level)):=fun {M2 q} h=>by rw [h.fr v v0 (by omega)]; exact ev1
   refine ⟨.inl (gd nl),_,rfl,?_⟩;show OkS (zBH _ _ _ [some (mD zA),some (tI R),some (.ref 0),some (.ref 2),some (.ref b),some (tI sw.1),y6,y7,none] M') _;rw [zAY];have el:fB zh (zF (fOp kIx (zC 0) (fC (.int 0))) zM) [some (mD zA),some (tI R),some (.ref 0),some (.ref 2),some (.ref b),some (tI sw.1),y6,y7,none] M' = some (.dat (.int l),M'):=by
    have hr:=m.get (h:=0) (by decide) (by have:=m.r0; omega);have:=zAm (f:=fOp kIx (zC 0) (fC (.int 0))) (σ:=[some (mD zA),some (tI R),some (.ref 0),some (.ref 2),some (.ref b),some (tI sw.1),y6,y7,none]) (M:=M') (zI (x:=.dat (mD zA)) rfl rfl (zBl zAG (zHK (by decide) (by have:=m.r0; omega)))) zAG;rw [this,zUB,hr.1]
   refine ⟨_,_,_,zAS el (by omega) (by omega),?_⟩;rw [zWm];refine zCw (n:=l) (I:=fun i σ M2=>(∃ y6 y7,σ = [some (mD zA),some (tI R),some (.ref 0),some (.ref 2),some (.ref b),some (tI sw.1),y6,y7,none]) /\ Gr zA seen ((zCO i).foldl (zAa zA sw.1 sw.2) p0) /\ Lw M1 M2 b ((zCO i).foldl (zAa zA sw.1 sw.2) p0)) ?_ ?_ _ _ ⟨⟨_,_,rfl⟩,gr0,nl⟩
   ·rintro i σ M2 hi ⟨⟨y6,y7,rfl⟩,gr,nl2⟩;refine ⟨_,rfl,?_⟩;refine OkS.mono (zHN (w:=sw.2) m h9 hb0 gr nl2 sS (g:=(i:Nat)) (by omega) (by omega)) ?_;rintro o σ M3 ⟨rfl,⟨y7,rfl⟩,nl3⟩;have e:(zCO (i + 1)).foldl (zAa zA sw.1 sw.2) p0 = zAa zA sw.1 sw.2 ((zCO i).foldl (zAa zA sw.1 sw.2) p0) (i:Nat):=by
     unfold zCO; rw [List.range_succ,zUu,List.foldl_append]; rfl
    show (∃ y6 y7,_) /\ _;rw [e];exact ⟨⟨_,_,rfl⟩,zFA m gr sS (by omega) (by omega),nl3⟩
   ·rintro σ M2 ⟨⟨y6,y7,rfl⟩,gr,nl2⟩;refine ⟨⟨_,_,_,rfl⟩,done ++ [sw],rest,rfl,by rw [<- hd]; simp,?_⟩;rw [List.foldl_append,hp];exact nl2
 ·rintro σ M' ⟨⟨y5,y6,y7,rfl⟩,done,rest,er,hd,nl⟩;have:rest = []:=by cases rest with | nil=>rfl | cons _ _=>cases er
  subst this;rw [zUm] at hd;subst hd;have nl':Lw M1 M' b (zAN zA l seen done):=nl;have gN:=mt.next m;generalize zAN zA l seen done = pN at nl' gN;refine ⟨.inl (by rw [nl'.fr v v0 (by omega)]; exact ev1),?_⟩;have e2':M'[2]? = some (.lst ((ts ++ [v]).map D.ref)):=by rw [nl'.fr 2 (by decide) (by omega)]; exact e21
  rw [zO,zBT];refine zJl.mpr (zBG.mpr ⟨_,rfl,⟨_,zBf e2'⟩,?_⟩);refine zE (zo (d:=.ref b) rfl) ?_;rw [zCB e2' (by rw [zUB,zUI,tl.len]; exact zUR (m:=4002) (by simp; omega) (zT (by omega)))];have hl':=nl'.len;refine ⟨rfl,b,⟨_,_,_,_,rfl⟩,hb0,by omega,?_,?_,?_,?_⟩
  ·rw [zUW (by decide)]; exact nl'.e0
  ·rw [zUw (by omega)]; simp
  ·rw [zUW (by omega)]; exact nl'.eb
  ·refine ⟨by simp [tl.len],fun i t e=>?_,fun L hL=>?_⟩
   ·by_cases hi:i < ts.length
    ·rw [zT9 hi] at e;obtain ⟨L,q1,q2,q3,q4⟩:=tl.at_ i t e;have htl:t < M.length:=(zT0.mp q2).1;exact ⟨L,by rw [zT9 (by rw [<- tl.len]; exact hi)]; exact q1,by rw [zUW (Ne.symm q4),nl'.fr t q3 (by omega),k1 t (by omega)]; exact q2,q3,q4⟩
    ·have hi2:i = ts.length:=by
      have:=(zT0.mp e).1;rw [zUI] at this;simp at this; omega
     subst hi2;simp at e;subst e;exact ⟨done.map (·.1),by rw [tl.len]; simp,by rw [zUW (Ne.symm v2),nl'.fr v v0 (by omega)]; exact ev1,v0,v2⟩
   ·rcases zUS.mp hL with z | z
    ·exact tl.ne L z
    ·have:L = done.map (·.1):=by simpa using z
     rw [this];exact ⟨zQR mt.lv,by rw [zUB]; exact hz⟩
theorem zEJ (m:IsM zA l) (h9:zA.length <= 9) (hl9:l <= 1000):∀ (n:Nat) {seen:List (List Int)} {level:Lvl} {acc:List (List (List Int))} {r:Option (List Int) × List (List (List Int))},Met zA seen level -> level.length <= 600 -> acc.length + n <= 4000 -> run zA l (fun _=>false) n seen level acc = some r ->
  ∀ (M:Mem) (ts:List Nat) (v:Nat) (y4 y5 y6 y7:Option D),v ≠ 0 -> v ≠ 2 -> M[0]? = some (dT (sE seen)) -> M[2]? = some (.lst ((ts ++ [v]).map D.ref)) -> M[v]? = some (.lst (zGH level)) -> Tl M ts acc ->
  OkS (zt lwC lwB n [some (mD zA),some (tI R),some (.ref 0),some (.ref 2),y4,y5,y6,y7,none] M) fun o σ M'=>o = .nx /\ ∃ ts v,(∃ y4 y5 y6 y7,σ = [some (mD zA),some (tI R),some (.ref 0),some (.ref 2),y4,y5,y6,y7,none]) /\ M'[2]? = some (.lst ((ts ++ [v]).map D.ref)) /\ Tl M' ts r.2
 | 0,_,_,_,_,_,_,_,hr=>by cases hr
 | n + 1,seen,level,acc,r,mt,hz,hacc,hr=>by
  intro M ts v y4 y5 y6 y7 v0 v2 e0 e2 ev tl;have ec:lwC [some (mD zA),some (tI R),some (.ref 0),some (.ref 2),y4,y5,y6,y7,none] M = some (!level.isEmpty,M):=by
   have h1:=zAJ (zI (zAm (zP9 (f:=zC 3) (σ:=[some (mD zA),some (tI R),some (.ref 0),some (.ref 2),y4,y5,y6,y7,none]) rfl e2) (zd ev)) (show fC (.int 0) _ M = _ from rfl) (zN (zRT.mpr ⟨rfl,rfl⟩)));refine h1.trans (zVp (fun z=>some (z,M)) ?_);unfold zGH;rw [zUB,zUB];cases level with
   | nil=>rfl
   | cons a b=>simp
  unfold run at hr;unfold zt;rw [ec];cases hl:level.isEmpty with
  | true=>
   rw [hl,zUH rfl] at hr;cases hr;exact ⟨_,_,_,rfl,rfl,ts,v,⟨_,_,_,_,rfl⟩,e2,tl⟩
  | false=>
   rw [hl,zUK zUO] at hr;obtain ⟨o,σ1,M1,eb,rfl,v',⟨z4,z5,z6,z7,rfl⟩,w0,w2,f0,f2,fv,tl'⟩:=zJq (R:=R) (y4:=y4) (y5:=y5) (y6:=y6) (y7:=y7) m h9 hl9 mt hz (by omega) v0 v2 e0 e2 ev tl
   show OkS (match lwB [some (mD zA),some (tI R),some (.ref 0),some (.ref 2),y4,y5,y6,y7,none] M with
    | some (.nx,σ2,M2)=>zt lwC lwB n σ2 M2
    | some (.cnt,σ2,M2)=>zt lwC lwB n σ2 M2
    | some (.brk,σ2,M2)=>some (.nx,σ2,M2)
    | some (.ret d,σ2,M2)=>some (.ret d,σ2,M2)
    | none=>none) _
   rw [eb];have hf:level.find? (fun p=>(fun _=>false:List Int -> Bool) p.1) = none:=List.find?_eq_none.mpr fun p hp=>by simp
   rw [hf] at hr;have g:=mt.next m;have hzz:(zAN zA l seen level).2.length <= 600:=by
    have h1:=zBL g.nd g.st h9;rw [g.eq,zUI,zUB] at h1;omega
   exact zEJ m h9 hl9 n g.met hzz (by rw [zUI,zXH]; omega) hr _ _ _ _ _ _ _ w0 w2 f0 f2 fv tl'
theorem aCl {f:FE} {g:FA} {σ:Sd} {M M1 M2:Mem} {xs ds:List D} (h:f σ M = some (.fl xs,M1)) (hg:g σ (M1 ++ [.lst xs]) = some (ds,M2)):zD (toD f) g σ M = some (.ref M1.length :: ds,M2):=by
 unfold zD; rw [zSO h]; dsimp only; rw [hg]
theorem zPr {g:FA} {σ:Sd} {M M1:Mem} {ds:List D} (h:g σ M = some (ds,M1)) (hz:ds.length <= 100000):zA1 g σ M = some (.fl ds,M1):=by
 unfold zA1; rw [h]; dsimp only; rw [zUH (zT hz)]
theorem zL0 {xs:List D} (hx:0 < xs.length):L3.zE1 xs none (some (-1)) = xs.take (xs.length - 1):=by
 unfold L3.zE1;have h0:HT.sIx xs.length 0 none = 0:=rfl;have h1:HT.sIx xs.length xs.length (some (-1)) = xs.length - 1:=by
  unfold HT.sIx; simp; omega
 rw [h0,h1,List.drop_zero,Nat.sub_zero]
def zJW (M:Mem) (t:Nat):List (List Int):=match M[t]? with
 | some (.lst xs)=>(zGK xs).getD []
 | _=>[]
theorem zGG (m:IsM zA l) (h9:zA.length <= 9) (hl9:l <= 1000) (sR:IsS zA R) {r:Option (List Int) × List (List (List Int))} (hr:run zA l (fun _=>false) 1000 [R] [(R,[])] [] = some r) {M:Mem}:zA7 [mD zA,tI R] M = some (shD r.2,M):=by
 refine zN ?_;unfold zA7;refine zCM (by unfold D.unds D.unds D.unds; rw [zDd,zCG]; rfl) ?_;rw [zAW];unfold zCP;show OkS (zK _ _ [some (mD zA),some (tI R),none,none,none,none,none,none,none] []) _;rw [zJ,zc];refine zE (zDn (S:=R) (v:=.bl true) rfl rfl) ?_;rw [zR,zO];show OkS (zK _ _ [some (mD zA),some (tI R),some (.ref 0),none,none,none,none,none,none] [dT [(R,.bl true)]]) _;rw [zJ,zc];have e3:zA1 (zD (toD (zA1 (zD (toD (zC 1)) zL))) zL) [some (mD zA),some (tI R),some (.ref 0),none,none,none,none,none,none] [dT [(R,.bl true)]] = some (.fl [.ref 1],[dT [(R,.bl true)],.lst [tI R]]) :=
  zPr (aCl (zPr (zo (d:=tI R) rfl) (by simp)) rfl) (by simp)
 refine zE e3 (zAP ?_);rw [zO];show OkS (zK _ _ [some (mD zA),some (tI R),some (.ref 0),some (.ref 2),none,none,none,none,none] [dT [(R,.bl true)],.lst [tI R],.lst [.ref 1]]) _;rw [zJ];have mt:Met zA [R] [(R,[])]:=⟨by simp,fun S hS=>by rw [zUU.mp hS]; exact sR,fun p hp=>by rw [zUU.mp hp]; exact sR⟩;refine OkS.mono (zEJ (R:=R) m h9 hl9 1000 (acc:=[]) mt (by simp) (by simp) hr [dT [(R,.bl true)],.lst [tI R],.lst [.ref 1]] [] 1 none none none none (by decide) (by decide) rfl rfl rfl ⟨rfl,fun i t e=>by simp at e,fun _ h=>by cases h⟩) ?_;rintro o σ M1 ⟨rfl,ts,v,⟨y4,y5,y6,y7,rfl⟩,e2,tl⟩;rw [zO];have es:fSl (zC 3) zD6 (zDJ (zF2 (fC (.int 1)))) [some (mD zA),some (tI R),some (.ref 0),some (.ref 2),y4,y5,y6,y7,none] M1 = some (.fl (ts.map D.ref),M1):=by
  refine zN (zQJ.mpr (zBG.mpr ⟨_,rfl,zH9.mpr (zIy.mpr ?_)⟩));refine zE (a:=.dat (.int (-1))) (M:=M1) rfl (zIO.mpr ?_);rw [zRp (zBf e2) rfl,zL0 (by simp)];exact ⟨by simp,rfl⟩
 have hz:ts.length <= 100000:=by rw [tl.len]; exact zUT (zE8 1000 hr) (by simp)
 have ec:zAQ [8] (zBt (fSl (zC 3) zD6 (zDJ (zF2 (fC (.int 1)))))) (gN 8) zAp (fB zW (zF (fB zEO (zF (zC 8) zM)) zM)) [some (mD zA),some (tI R),some (.ref 0),some (.ref 2),y4,y5,y6,y7,none] M1 = some (.fl (ts.map fun t=>lvD (zJW M1 t)),M1):=by
  refine zGA ts D.ref _ (gd:=none) (by unfold zBt; rw [es]; rfl) trivial hz fun t ht=>?_;obtain ⟨i,hi⟩:=List.getElem?_of_mem ht;obtain ⟨L,q1,q2,_,_⟩:=tl.at_ i t hi;obtain ⟨ne,nz⟩:=tl.ne L (zUt q1);refine ⟨_,rfl,?_⟩;have ea:zJW M1 t = L:=by unfold zJW; rw [q2]; dsimp only; rw [zDt]; rfl
  rw [ea];refine zAe (x:=.fl ((zBx L).map fun t=>D.tup (t.map D.int))) ?_ zDT;rw [fB1 (x:=.dat (.ref t)) rfl];unfold zEO;dsimp only;rw [zd q2];dsimp only;rw [zDt];dsimp only;rw [zUH ⟨ne,by omega⟩]
 refine zn (zAe ec zDT) ?_;have:(ts.map fun t=>lvD (zJW M1 t)) = r.2.map lvD:=by
  apply List.ext_getElem?;intro i;rw [zUP,zUP];by_cases hi:i < ts.length
  ·obtain ⟨L,q1,q2,_,_⟩:=tl.at_ i ts[i] (zT6 hi);rw [zT6 hi,q1];have ea:zJW M1 ts[i] = L:=by unfold zJW; rw [q2]; dsimp only; rw [zDt]; rfl
   show some (lvD (zJW M1 ts[i])) = some (lvD L);rw [ea]
  ·rw [zVB (by omega),zVB (by rw [<- tl.len]; omega)]; rfl
 rw [this];exact ⟨zHq _,rfl,rfl⟩
end
open Lac (dT zDZ zBA zFU zJc zEI)
noncomputable def zCl:FS:=(zK (zi 2 (zCy (zC 1) (fC (.bl true))))
  (zK (zi 3 (zA1 (zD (toD (zAd (zD (toD (zC 1)) (zD (toD (zAd zL)) zL)))) zL)))
  (zK (zi 4 (fC (.int 0)))
  (zK (zt (tst (fOp kLt (zC 4) (fB zh (zF (zC 3) zM)))) (zK (zBH (zAC (zD (toD (fB zh (zF (fOp kIx (zC 0) (fC (.int 0))) zM))) zL)) (gN 5) (zK (zi 6 (zY zAF (zD (toD (zC 0)) (zD (toD (fOp kIx (fOp kIx (zC 3) (zC 4)) (fC (.int 0)))) (zD (toD (zC 5)) zL)))))
  (sIf (tst (fOp (zEK true) (zC 6) (zC 2))) (zK (zA8 (fC (.bl true)) (zC 2) (zC 6))
  (zAv (fM zw (zC 3) (zD (toD (zAd (zD (toD (zC 6)) (zD (toD (fOp zAc (fOp kIx (fOp kIx (zC 3) (zC 4)) (fC (.int 1))) (zAd (zD (toD (zC 5)) zL)))) zL)))) zL)))) zAZ)))
  (zi 4 (fOp zAc (zC 4) (fC (.int 1))))) 1000)
  (zAO (zC 3))))))
noncomputable def zBQ:FF:=zBP 7 zCl
def zBV (zA:List (List Int)) (l:Nat):Nat -> List (List Int) -> Lvl -> Lvl
 | 0,_,_=>[]
 | n + 1,seen,level=>if level.isEmpty then [] else level ++ zBV zA l n (zAN zA l seen level).1 (zAN zA l seen level).2
theorem zOr {zA:List (List Int)} {S w:List Int} {p:List (List Int) × Lvl} {g:Int} {n:Nat} (h:∀ s ∈ p.2,s.2.length = n) (hw:w.length + 1 = n):∀ s ∈ (zAa zA S w p g).2,s.2.length = n:=by
 unfold zAa;split
 ·exact h
 ·intro s hs;rcases zUS.mp hs with z | z
  ·exact h s z
  ·rw [zUU.mp z]; simpa using hw
theorem zLP {zA:List (List Int)} {S w:List Int} {n:Nat} (hw:w.length + 1 = n):∀ (gs:List Int) {p:List (List Int) × Lvl},(∀ s ∈ p.2,s.2.length = n) -> ∀ s ∈ (gs.foldl (zAa zA S w) p).2,s.2.length = n
 | [],_,h=>h
 | g :: r,p,h=>zLP hw r (zOr h hw)
theorem zHl {zA:List (List Int)} {l n:Nat}:∀ {level:Lvl} {p:List (List Int) × Lvl},(∀ s ∈ level,s.2.length + 1 = n) -> (∀ s ∈ p.2,s.2.length = n) -> ∀ s ∈ (level.foldl (zAz zA l) p).2,s.2.length = n
 | [],_,_,h=>h
 | s :: r,p,hs,h=>zHl (level:=r) (fun x hx=>hs x (zUF _ hx)) (zLP (hs s zUG) _ h)
theorem zK9 {zA:List (List Int)} {l:Nat} {due:List Int -> Bool}:∀ (n:Nat) {seen:List (List Int)} {level:Lvl} {acc:List (List (List Int))} {r:Option (List Int) × List (List (List Int))},run zA l due n seen level acc = some r -> ∃ more,r.2 = acc ++ more
 | 0,_,_,_,_,h=>by cases h
 | n + 1,seen,level,acc,r,h=>by
  unfold run at h;split at h
  ·cases h; exact ⟨[],by simp⟩
  ·split at h
   ·cases h; exact ⟨[],by simp⟩
   ·obtain ⟨more,e⟩:=zK9 n h;exact ⟨_,by rw [e,zU8]⟩
theorem zGa {zA:List (List Int)} {l:Nat} {due:List Int -> Bool}:∀ (n:Nat) {seen:List (List Int)} {level:Lvl} {acc:List (List (List Int))} {r:Option (List Int) × List (List (List Int))} {w:List Int},(∀ s ∈ level,s.2.length = acc.length) -> run zA l due n seen level acc = some r -> r.1 = some w -> w.length = r.2.length
 | 0,_,_,_,_,_,_,h,_=>by cases h
 | n + 1,seen,level,acc,r,w,hw,h,h1=>by
  unfold run at h;split at h
  ·cases h; cases h1
  ·split at h
   ·rename_i p hp;cases h;cases h1;exact hw p (List.mem_of_find?_eq_some hp)
   ·exact zGa n (zHl (fun s hs=>by rw [hw s hs]; simp) fun _ h=>by cases h) h h1
theorem zIp {zA:List (List Int)} {l:Nat} {due:List Int -> Bool} {R:List Int} (n:Nat) {r:Option (List Int) × List (List (List Int))} {w:List Int} (h:run zA l due n [R] [(R,[])] [] = some r) (h1:r.1 = some w):w.length = r.2.length :=
 zGa n (fun s hs=>by rw [zUU.mp hs]; rfl) h h1
theorem zGB {zA:List (List Int)} {l:Nat} {due:List Int -> Bool}:∀ (n:Nat) {seen:List (List Int)} {level:Lvl} {acc:List (List (List Int))} {r0:Option (List Int) × List (List (List Int))},(∀ s ∈ level,s.2.length = acc.length) -> run zA l (fun _=>false) n seen level acc = some r0 ->
  run zA l due n seen level acc = some (match (zBV zA l n seen level).find? fun p=>due p.1 with | some p=>(some p.2,r0.2.take p.2.length) | none=>(none,r0.2))
 | 0,_,_,_,_,_,h=>by cases h
 | n + 1,seen,level,acc,r0,hw,h=>by
  have hf:level.find? (fun p=>(fun _=>false:List Int -> Bool) p.1) = none:=List.find?_eq_none.mpr fun p hp=>by simp
  unfold run at h;unfold run zBV;rw [hf] at h;cases hl:level.isEmpty with
  | true=>
   rw [hl,zUH rfl] at h;cases h;rw [zUH rfl,zUH rfl];rfl
  | false=>
   rw [hl,zUK zUO] at h;rw [zUK zUO,zUK zUO,List.find?_append];cases hd:level.find? (fun p=>due p.1) with
   | some p=>
    obtain ⟨more,e⟩:=zK9 n h;show some (some p.2,acc) = some (some p.2,r0.2.take p.2.length);rw [hw p (List.mem_of_find?_eq_some hd),e,zU8,List.take_left]
   | none=>
    rw [Option.none_or];exact zGB n (zHl (fun s hs=>by rw [hw s hs]; simp) fun _ h=>by cases h) h
theorem zIh {zA:List (List Int)} {l:Nat} (m:IsM zA l) (h9:zA.length <= 9):∀ (n:Nat) {seen:List (List Int)} {level:Lvl},Met zA seen level -> (zBV zA l n seen level).length + seen.length <= 512 + level.length
 | 0,seen,level,h=>by have:=zBL h.nd h.st h9; show 0 + _ <= _; omega
 | n + 1,seen,level,h=>by
  unfold zBV;split
  ·have:=zBL h.nd h.st h9; show 0 + _ <= _; omega
  ·have g:=h.next m;have h1:=zIh m h9 n g.met;have h2:=zVp List.length g.eq;rw [zUI,zUB] at h2;rw [zUI]; omega
theorem zK3 {zA:List (List Int)} {l:Nat} (m:IsM zA l):∀ (n:Nat) {seen:List (List Int)} {level:Lvl},Met zA seen level -> ∀ p ∈ zBV zA l n seen level,IsS zA p.1
 | 0,_,_,_,p,hp=>by cases hp
 | n + 1,seen,level,h,p,hp=>by
  unfold zBV at hp;split at hp
  ·cases hp
  ·rcases zUS.mp hp with z | z
   ·exact h.lv p z
   ·exact zK3 m n (h.next m).met p z
theorem zMH {g:FA} {σ:Sd} {M M1:Mem} {ds:List D} (h:g σ M = some (ds,M1)) (hz:ds.length <= 100000):zAd g σ M = some (.dat (.tup ds),M1):=by
 unfold zAd; rw [h]; dsimp only; rw [zUH (zT hz)]
def wD (p:List Int × List Int):D:=.tup [tI p.1,tI p.2]
structure Lq (M:Mem) (t j:Nat) (seen:List (List Int)) (told:Lvl):Prop where
 et:M[t]? = some (dT (sE seen))
 ej:M[j]? = some (.lst (told.map wD))
section
variable {zA:List (List Int)} {l:Nat} {R:List Int}
theorem zKE (m:IsM zA l) (h9:zA.length <= 9) {M:Mem} {t j:Nat} (htj:t ≠ j) {seen0:List (List Int)} {p:List (List Int) × Lvl} (gr:Gr zA seen0 p) {pre:Lvl} (hz:pre.length <= 2000) (lq:Lq M t j p.1 (pre ++ p.2)) {a:Nat} {S w:List Int} (ha:pre[a]? = some (S,w)) (s:IsS zA S) (hw:w.length <= 5000) {g:Int} (g0:0 <= g) (g1:g < l) {y6:Option D} :
  OkS (zK (zi 6 (zY zAF (zD (toD (zC 0)) (zD (toD (fOp kIx (fOp kIx (zC 3) (zC 4)) (fC (.int 0)))) (zD (toD (zC 5)) zL)))))
  (sIf (tst (fOp (zEK true) (zC 6) (zC 2))) (zK (zA8 (fC (.bl true)) (zC 2) (zC 6))
  (zAv (fM zw (zC 3) (zD (toD (zAd (zD (toD (zC 6)) (zD (toD (fOp zAc (fOp kIx (fOp kIx (zC 3) (zC 4)) (fC (.int 1))) (zAd (zD (toD (zC 5)) zL)))) zL)))) zL)))) zAZ) [some (mD zA),some (tI R),some (.ref t),some (.ref j),some (.int a),some (.int g),y6] M)
   fun o σ M'=>o = .nx /\ (∃ y6,σ = [some (mD zA),some (tI R),some (.ref t),some (.ref j),some (.int a),some (.int g),y6]) /\ Lq M' t j (zAa zA S w p g).1 (pre ++ (zAa zA S w p g).2):=by
 have at_:∀ {M:Mem} {told:Lvl} {i:Int} {d:D} {σ:Sd},M[j]? = some (.lst ((pre ++ told).map wD)) -> σ[3]? = some (some (.ref j)) -> σ[4]? = some (some (.int a)) -> atI [tI S,tI w] i = some d -> fOp kIx (fOp kIx (zC 3) (zC 4)) (fC (.int i)) σ M = some (.dat d,M):=fun {M told i d σ} ej e3 e4 hd=>by
  have v3:zC 3 σ M = some (.dat (.ref j),M):=by unfold zC; rw [e3]
  have v4:zC 4 σ M = some (.dat (.int a),M):=by unfold zC; rw [e4]
  have hal:=(zT0.mp ha).1;exact zI (zI v3 v4 (zBl (zd ej) (zHf (by rw [zUP,zT9 hal,ha]; rfl)))) rfl (zBl zAG hd)
 refine zBE (zBO (zm rfl (zm (at_ (i:=0) lq.ej rfl rfl (d:=tI S) rfl) (zo rfl))) (zEv m h9 s g0 g1)) ?_;show OkS (sIf _ _ _ [some (mD zA),some (tI R),some (.ref t),some (.ref j),some (.int a),some (.int g),some (tI (setR zA S g))] M) _;rw [zAE];refine zE (zAJ (zI (x:=.dat (tI (setR zA S g))) (y:=.dat (.ref t)) rfl rfl (zJc lq.et))) ?_;rw [zDu .non,zE7];unfold zAa;by_cases hm:setR zA S g ∈ p.1
 ·rw [zUH hm,zUK (by simp [hm]),zj];exact ⟨rfl,⟨_,rfl⟩,lq⟩
 ·rw [zUK hm,zUH (by simp [hm]),zJ];have hl:=zBL gr.nd gr.st h9;have hk:p.2.length <= p.1.length:=by rw [gr.eq,zUI,zUB]; omega
  refine zBq rfl rfl rfl (zEI lq.et (by unfold sE; rw [zUB]; omega)) ?_;rw [zO,zJa hm,zBT];have htl:t < M.length:=(zT0.mp lq.et).1;have hjl:j < M.length:=(zT0.mp lq.ej).1;have ej':(M.set t (dT (sE (p.1 ++ [setR zA S g]))))[j]? = some (.lst ((pre ++ p.2).map wD)):=by rw [zUW htj]; exact lq.ej
  have et':(M.set t (dT (sE (p.1 ++ [setR zA S g]))))[t]? = some (dT (sE (p.1 ++ [setR zA S g]))):=zUw htl;have ln':(M.set t (dT (sE (p.1 ++ [setR zA S g])))).length = M.length:=by simp
  generalize M.set t (dT (sE (p.1 ++ [setR zA S g]))) = M1 at ej' et' ln';refine zJl.mpr (zBG.mpr ⟨_,rfl,⟨_,zBf ej'⟩,?_⟩);have tp:zAd (zD (toD (zC 5)) zL) [some (mD zA),some (tI R),some (.ref t),some (.ref j),some (.int a),some (.int g),some (tI (setR zA S g))] M1 = some (.dat (.tup [.int g]),M1):=by
   exact zMH (zo (d:=.int g) rfl) (by simp)
  have tw:zAd (zD (toD (zC 6)) (zD (toD (fOp zAc (fOp kIx (fOp kIx (zC 3) (zC 4)) (fC (.int 1))) (zAd (zD (toD (zC 5)) zL)))) zL)) [some (mD zA),some (tI R),some (.ref t),some (.ref j),some (.int a),some (.int g),some (tI (setR zA S g))] M1 = some (.dat (wD (setR zA S g,w ++ [g])),M1):=by
   exact zMH (zm (d:=tI (setR zA S g)) rfl (zo (zI (at_ (i:=1) ej' rfl rfl (d:=tI w) rfl) tp (zKo hw)))) (by simp)
  refine zE (zo tw) ?_;rw [zCB ej' (by rw [zUB,zUI]; exact zUR (m:=5000) (by omega) (zT (by omega)))];refine ⟨rfl,⟨_,rfl⟩,?_,?_⟩
  ·rw [zUW (Ne.symm htj)]; exact et'
  ·rw [zUw (by omega)]; simp
theorem zPU (m:IsM zA l) (h9:zA.length <= 9) (hl9:l <= 1000) {M:Mem} {t j:Nat} (htj:t ≠ j) {seen0:List (List Int)} {p:List (List Int) × Lvl} (gr:Gr zA seen0 p) {pre:Lvl} (hz:pre.length <= 2000) (lq:Lq M t j p.1 (pre ++ p.2)) {a:Nat} {S w:List Int} (ha:pre[a]? = some (S,w)) (s:IsS zA S) (hw:w.length <= 5000) {y5 y6:Option D} :
  OkS (zK (zBH (zAC (zD (toD (fB zh (zF (fOp kIx (zC 0) (fC (.int 0))) zM))) zL)) (gN 5) (zK (zi 6 (zY zAF (zD (toD (zC 0)) (zD (toD (fOp kIx (fOp kIx (zC 3) (zC 4)) (fC (.int 0)))) (zD (toD (zC 5)) zL)))))
  (sIf (tst (fOp (zEK true) (zC 6) (zC 2))) (zK (zA8 (fC (.bl true)) (zC 2) (zC 6))
  (zAv (fM zw (zC 3) (zD (toD (zAd (zD (toD (zC 6)) (zD (toD (fOp zAc (fOp kIx (fOp kIx (zC 3) (zC 4)) (fC (.int 1))) (zAd (zD (toD (zC 5)) zL)))) zL)))) zL)))) zAZ)))
  (zi 4 (fOp zAc (zC 4) (fC (.int 1)))) [some (mD zA),some (tI R),some (.ref t),some (.ref j),some (.int a),y5,y6] M)
   fun o σ M'=>o = .nx /\ (∃ y5 y6,σ = [some (mD zA),some (tI R),some (.ref t),some (.ref j),some (.int ((a + 1:Nat):Int)),y5,y6]) /\ Lq M' t j (zAz zA l p (S,w)).1 (pre ++ (zAz zA l p (S,w)).2):=by
 rw [zJ,zAY];have el:fB zh (zF (fOp kIx (zC 0) (fC (.int 0))) zM) [some (mD zA),some (tI R),some (.ref t),some (.ref j),some (.int a),y5,y6] M = some (.dat (.int l),M):=by
  have hr:=m.get (h:=0) (by decide) (by have:=m.r0; omega);have:=zAm (f:=fOp kIx (zC 0) (fC (.int 0))) (σ:=[some (mD zA),some (tI R),some (.ref t),some (.ref j),some (.int a),y5,y6]) (M:=M) (zI (x:=.dat (mD zA)) rfl rfl (zBl zAG (zHK (by decide) (by have:=m.r0; omega)))) zAG;rw [this,zUB,hr.1]
 refine ⟨_,_,_,zAS el (by omega) (by omega),?_⟩;rw [zWm];refine zCw (n:=l) (I:=fun i σ M2=>(∃ y5 y6,σ = [some (mD zA),some (tI R),some (.ref t),some (.ref j),some (.int a),y5,y6]) /\ Gr zA seen0 ((zCO i).foldl (zAa zA S w) p) /\ Lq M2 t j ((zCO i).foldl (zAa zA S w) p).1 (pre ++ ((zCO i).foldl (zAa zA S w) p).2)) ?_ ?_ _ _ ⟨⟨_,_,rfl⟩,gr,lq⟩
 ·rintro i σ M2 hi ⟨⟨y5,y6,rfl⟩,gr2,lq2⟩;refine ⟨_,rfl,?_⟩;refine OkS.mono (zKE m h9 htj gr2 hz lq2 ha s hw (g:=(i:Nat)) (by omega) (by omega)) ?_;rintro o σ M3 ⟨rfl,⟨y6,rfl⟩,lq3⟩;have e:(zCO (i + 1)).foldl (zAa zA S w) p = zAa zA S w ((zCO i).foldl (zAa zA S w) p) (i:Nat):=by
   unfold zCO; rw [List.range_succ,zUu,List.foldl_append]; rfl
  show (∃ y5 y6,_) /\ _;rw [e];exact ⟨⟨_,_,rfl⟩,zFA m gr2 s (by omega) (by omega),lq3⟩
 ·rintro σ M2 ⟨⟨y5,y6,rfl⟩,gr2,lq2⟩;rw [zO,zc];refine zE (a:=.dat (.int ((a:Int) + 1))) (zI (x:=.dat (.int a)) rfl rfl rfl) ?_;rw [zR];exact ⟨rfl,⟨_,_,rfl⟩,lq2⟩
abbrev qC:FT:=(tst (fOp kLt (zC 4) (fB zh (zF (zC 3) zM))))
noncomputable abbrev qB:FS:=(zK (zBH (zAC (zD (toD (fB zh (zF (fOp kIx (zC 0) (fC (.int 0))) zM))) zL)) (gN 5) (zK (zi 6 (zY zAF (zD (toD (zC 0)) (zD (toD (fOp kIx (fOp kIx (zC 3) (zC 4)) (fC (.int 0)))) (zD (toD (zC 5)) zL)))))
  (sIf (tst (fOp (zEK true) (zC 6) (zC 2))) (zK (zA8 (fC (.bl true)) (zC 2) (zC 6))
  (zAv (fM zw (zC 3) (zD (toD (zAd (zD (toD (zC 6)) (zD (toD (fOp zAc (fOp kIx (fOp kIx (zC 3) (zC 4)) (fC (.int 1))) (zAd (zD (toD (zC 5)) zL)))) zL)))) zL)))) zAZ)))
  (zi 4 (fOp zAc (zC 4) (fC (.int 1)))))
theorem zNi (m:IsM zA l) (h9:zA.length <= 9) (hl9:l <= 1000):∀ (f n k:Nat) (upto rest:Lvl) (seen0:List (List Int)) (p:List (List Int) × Lvl),Gr zA seen0 p -> (∀ s ∈ rest,IsS zA s.1) -> (∀ s ∈ rest,s.2.length <= k) -> (∀ s ∈ p.2,s.2.length <= k + 1) -> k + f <= 4000 ->
  ((rest.foldl (zAz zA l) p).2 = [] \/ 514 <= n + (rest.foldl (zAz zA l) p).1.length) -> upto.length + (rest ++ zBV zA l n (rest.foldl (zAz zA l) p).1 (rest.foldl (zAz zA l) p).2).length <= 1500 -> (rest ++ zBV zA l n (rest.foldl (zAz zA l) p).1 (rest.foldl (zAz zA l) p).2).length < f ->
  ∀ (M:Mem) (t j:Nat) (y5 y6:Option D),t ≠ j -> Lq M t j p.1 ((upto ++ rest) ++ p.2) ->
  OkS (zt qC qB f [some (mD zA),some (tI R),some (.ref t),some (.ref j),some (.int upto.length),y5,y6] M) fun o σ M'=>o = .nx /\ (∃ a y5 y6,σ = [some (mD zA),some (tI R),some (.ref t),some (.ref j),a,y5,y6]) /\ M'[j]? = some (.lst ((upto ++ (rest ++ zBV zA l n (rest.foldl (zAz zA l) p).1 (rest.foldl (zAz zA l) p).2)).map wD))
 | 0,_,_,_,_,_,_,_,_,_,_,_,_,_,hf=>absurd hf (Nat.not_lt_zero _)
 | f + 1,n,k,upto,rest,seen0,p,gr,hs,hk1,hk2,hk,hc,hz,hf=>by
  intro M t j y5 y6 htj lq;have ec:∀ {told:Lvl},M[j]? = some (.lst (told.map wD)) -> qC [some (mD zA),some (tI R),some (.ref t),some (.ref j),some (.int upto.length),y5,y6] M = some (decide ((upto.length:Int) < told.length),M):=fun {told} e=>by
   have h1:=zAm (f:=zC 3) (σ:=[some (mD zA),some (tI R),some (.ref t),some (.ref j),some (.int upto.length),y5,y6]) (M:=M) (x:=.dat (.ref j)) rfl (zd e);rw [zUB] at h1;exact zAJ (zI (x:=.dat (.int upto.length)) rfl h1 (zN (zQp.mpr ⟨rfl,rfl⟩)))
  have one:∀ (n k:Nat) (sw:List Int × List Int) (rest:Lvl) (seen0:List (List Int)) (p:List (List Int) × Lvl),Gr zA seen0 p -> (∀ s ∈ sw :: rest,IsS zA s.1) -> (∀ s ∈ sw :: rest,s.2.length <= k) -> (∀ s ∈ p.2,s.2.length <= k + 1) -> k + f <= 4000 ->
    (((sw :: rest).foldl (zAz zA l) p).2 = [] \/ 514 <= n + ((sw :: rest).foldl (zAz zA l) p).1.length) -> upto.length + ((sw :: rest) ++ zBV zA l n ((sw :: rest).foldl (zAz zA l) p).1 ((sw :: rest).foldl (zAz zA l) p).2).length <= 1500 -> ((sw :: rest) ++ zBV zA l n ((sw :: rest).foldl (zAz zA l) p).1 ((sw :: rest).foldl (zAz zA l) p).2).length < f + 1 -> Lq M t j p.1 ((upto ++ (sw :: rest)) ++ p.2) ->
    OkS (zt qC qB (f + 1) [some (mD zA),some (tI R),some (.ref t),some (.ref j),some (.int upto.length),y5,y6] M) fun o σ M'=>o = .nx /\ (∃ a y5 y6,σ = [some (mD zA),some (tI R),some (.ref t),some (.ref j),a,y5,y6]) /\ M'[j]? = some (.lst ((upto ++ ((sw :: rest) ++ zBV zA l n ((sw :: rest).foldl (zAz zA l) p).1 ((sw :: rest).foldl (zAz zA l) p).2)).map wD)):=by
   intro n k sw rest seen0 p gr hs hk1 hk2 hk hc hz hf lq;unfold zt;rw [ec lq.ej,zVA (by simp only [zUI,zUZ]; omega)];have hz':(upto ++ sw :: rest).length <= 2000:=by
    simp only [zUI,zUZ] at hz ⊢; omega
   obtain ⟨o,σ1,M1,eb,rfl,⟨z5,z6,rfl⟩,lq1⟩:=zPU (R:=R) (y5:=y5) (y6:=y6) m h9 hl9 htj gr (pre:=upto ++ sw :: rest) hz' lq (a:=upto.length) (S:=sw.1) (w:=sw.2) (by rw [zVC (zT8 _)]; simp) (hs sw zUG) (by have:=hk1 sw zUG; omega)
   show OkS (match qB [some (mD zA),some (tI R),some (.ref t),some (.ref j),some (.int upto.length),y5,y6] M with
    | some (.nx,σ2,M2)=>zt qC qB f σ2 M2
    | some (.cnt,σ2,M2)=>zt qC qB f σ2 M2
    | some (.brk,σ2,M2)=>some (.nx,σ2,M2)
    | some (.ret d,σ2,M2)=>some (.ret d,σ2,M2)
    | none=>none) _
   have eb':qB [some (mD zA),some (tI R),some (.ref t),some (.ref j),some (.int upto.length),y5,y6] M = _:=eb;rw [eb'];have hlen:((upto ++ [sw]).length:Int) = ((upto.length + 1:Nat):Int):=by simp
   have ih:=zNi m h9 hl9 f n k (upto ++ [sw]) rest seen0 (zAz zA l p sw) (zKk m gr (hs sw zUG)) (fun s h=>hs s (zUF _ h)) (fun s h=>hk1 s (zUF _ h)) (zHS (Nat.succ_le_succ (hk1 sw zUG)) _ hk2) hk hc (by simp only [zUI,zUZ,zVW] at hz ⊢; simp only [List.foldl_cons] at hz; omega) (by simp only [zUI,zUZ,List.foldl_cons] at hf ⊢; omega) M1 t j z5 z6 htj (by simpa using lq1);rw [hlen] at ih;refine OkS.mono ih ?_;rintro o σ M' ⟨rfl,h1,h2⟩;exact ⟨rfl,h1,by simpa using h2⟩
  cases rest with
  | cons sw rest=>exact one n k sw rest seen0 p gr hs hk1 hk2 (by omega) hc hz hf lq
  | nil=>
   rw [zUm] at lq;have lq':Lq M t j p.1 ((upto ++ p.2) ++ []):=by rw [zUm]; exact lq
   show OkS _ fun o σ M'=>o = .nx /\ (∃ a y5 y6,σ = [some (mD zA),some (tI R),some (.ref t),some (.ref j),a,y5,y6]) /\ M'[j]? = some (.lst ((upto ++ ([] ++ zBV zA l n p.1 p.2)).map wD));rw [zWK];cases e2:p.2 with
   | nil=>
    have ef:zBV zA l n p.1 [] = []:=by cases n <;> rfl
    rw [e2] at lq;unfold zt;rw [ec lq.ej,zUb (by simp),ef,zUm];refine ⟨_,_,_,rfl,rfl,⟨_,_,_,rfl⟩,?_⟩;have:=lq.ej;rwa [zUm] at this
   | cons sw rest=>
    have hc':514 <= n + p.1.length:=by
     rcases hc with z | z
     ·have z':p.2 = []:=z;rw [e2] at z'; cases z'
     ·exact z
    have hml:=zBL gr.nd gr.st h9;cases n with
    | zero=>omega
    | succ n=>
     have g2:Gr zA p.1 (p.1,[]):=⟨gr.nd,gr.st,by simp⟩;have gN:Gr zA p.1 (zAN zA l p.1 p.2):=gr.met.next m;have ef:zBV zA l (n + 1) p.1 (sw :: rest) = (sw :: rest) ++ zBV zA l n (zAN zA l p.1 (sw :: rest)).1 (zAN zA l p.1 (sw :: rest)).2:=rfl;rw [e2] at gN lq';have hz2:upto.length + (zBV zA l (n + 1) p.1 p.2).length <= 1500:=by simpa using hz
     have hf2:(zBV zA l (n + 1) p.1 p.2).length < f + 1:=by simpa using hf
     rw [e2,ef] at hz2 hf2;rw [ef];refine one n (k + 1) sw rest p.1 (p.1,[]) g2 (fun s h=>gr.lv s (by rw [e2]; exact h)) (fun s h=>hk2 s (by rw [e2]; exact h)) (fun _ h=>by cases h) (by omega) ?_ hz2 hf2 lq';have h2:=zVp List.length gN.eq;rw [zUI,zUB] at h2;by_cases hn:(zAN zA l p.1 (sw :: rest)).2 = []
     ·exact .inl hn
     ·right;have:=List.length_pos_iff.mpr hn;show 514 <= n + (zAN zA l p.1 (sw :: rest)).1.length;omega
theorem zHI (m:IsM zA l) (h9:zA.length <= 9) (hl9:l <= 1000) (sR:IsS zA R) (M:Mem) :
  Ok (zBQ [mD zA,tI R] M) fun d M'=>∃ j,d = .ref j /\ M'[j]? = some (.lst ((zBV zA l 1000 [R] [(R,[])]).map wD)):=by
 unfold zBQ;rw [zAW];unfold zCl;show OkS (zK _ _ [some (mD zA),some (tI R),none,none,none,none,none] M) _;rw [zJ,zc];refine zE (zDn (S:=R) (v:=.bl true) rfl rfl) ?_;rw [zR,zO];have e1:(M ++ [dT [(R,.bl true)]])[M.length]? = some (dT (sE [R])):=by simp; rfl
 have l1:(M ++ [dT [(R,.bl true)]]).length = M.length + 1:=by simp
 generalize M ++ [dT [(R,.bl true)]] = M1 at e1 l1;generalize M.length = t at e1 l1;show OkS (zK _ _ [some (mD zA),some (tI R),some (.ref t),none,none,none,none] M1) _;rw [zJ,zc];have et:∀ (σ:Sd) (M:Mem),zAd zL σ M = some (.dat (tI []),M):=fun σ M=>zMH (ds:=[]) rfl (by simp);refine zE (zPr (ds:=[wD (R,[])]) (zo (zMH (ds:=[tI R,tI []]) (zm rfl (zo (et _ _))) (by simp))) (by simp)) (zAP ?_);rw [zO];have e2:(M1 ++ [MO.lst [wD (R,[])]])[M1.length]? = some (.lst (([(R,[])]:Lvl).map wD)):=zBj _ _;have e1':(M1 ++ [MO.lst [wD (R,[])]])[t]? = some (dT (sE [R])):=by rw [zT9 (by omega)]; exact e1
 generalize M1 ++ [MO.lst [wD (R,[])]] = M2 at e2 e1';have htj:t ≠ M1.length:=by omega
 generalize M1.length = j at e2 htj;show OkS (zK _ _ [some (mD zA),some (tI R),some (.ref t),some (.ref j),none,none,none] M2) _;refine zBE (d:=.int 0) rfl ?_;show OkS (zK _ _ [some (mD zA),some (tI R),some (.ref t),some (.ref j),some (.int ((([]:Lvl).length:Nat):Int)),none,none] M2) _;rw [zJ];have mt:Met zA [R] [(R,[])]:=⟨by simp,fun S hS=>by rw [zUU.mp hS]; exact sR,fun p hp=>by rw [zUU.mp hp]; exact sR⟩;have gN:=mt.next m;have h2:=zVp List.length gN.eq;rw [zUI,zUB] at h2;have ef:zBV zA l 1000 [R] [(R,[])] = [(R,[])] ++ zBV zA l 999 (zAN zA l [R] [(R,[])]).1 (zAN zA l [R] [(R,[])]).2:=rfl;have fl:=zIh m h9 1000 mt;rw [ef] at fl;refine OkS.mono (zNi (R:=R) m h9 hl9 1000 999 0 [] [(R,[])] [R] ([R],[]) ⟨by simp,mt.st,by simp⟩ mt.lv (fun s hs=>by rw [zUU.mp hs]; exact zT8 0) (fun _ h=>by cases h) (by omega) (.inr ?_) ?_ ?_ M2 t j none none htj ⟨e1',by simpa using e2⟩) ?_
 ·show 514 <= 999 + (zAN zA l [R] [(R,[])]).1.length;omega
 ·show 0 + ([(R,[])] ++ zBV zA l 999 (zAN zA l [R] [(R,[])]).1 (zAN zA l [R] [(R,[])]).2).length <= 1500;simp only [zXH] at fl; omega
 ·show ([(R,[])] ++ zBV zA l 999 (zAN zA l [R] [(R,[])]).1 (zAN zA l [R] [(R,[])]).2).length < 1000;simp only [zXH] at fl; omega
 ·rintro o σ M3 ⟨rfl,⟨a,y5,y6,rfl⟩,e3⟩;rw [zO];exact zn rfl ⟨j,rfl,e3⟩
end
noncomputable def zB1 (g_rec:FF):FS:=(zK (sIf (tst (zEM "tuple" (zC 1))) (zK (sIf (zIx (zHB (tst (zEM "tuple" (zC 0)))) (tst (fOp kNe (fB zh (zF (zC 0) zM)) (fB zh (zF (zC 1) zM))))) (zAO (fC (.bl false))) zAZ)
  (zAO (fB zQg (zF (zAQ [2,3] (zQ7 (zD (toD (zC 0)) (zD (toD (zC 1)) zL))) (zDy 2 3) zAp (zY g_rec (zD (toD (zC 2)) (zD (toD (zC 3)) zL)))) zM)))) zAZ)
  (zK (sIf (tst (zEM "str" (zC 1))) (zAO (zE4 (zEM "str" (zC 0)) (fOp kEq (zC 0) (zC 1)))) zAZ)
  (zAO (zE4 (zEM "int" (zC 0)) (zE4 (zND (zEM "bool" (zC 0))) (fOp kEq (zC 0) (zC 1)))))))
noncomputable def zAA:Nat -> FF
 | 0=>fun _ _=>none
 | n + 1=>zBP 4 (zB1 (zAA n))
noncomputable def zCg:FF:=zAA 5
def Pa:Nat -> D -> Prop
 | 0,d=>(∃ i,d = .int i) \/ ∃ x,d = .str x
 | n + 1,d=>((∃ i,d = .int i) \/ ∃ x,d = .str x) \/ ∃ ds,d = .tup ds /\ ds.length <= sizeLine /\ ∀ x ∈ ds,Pa n x
theorem Pa.int (n:Nat) (i:Int):Pa n (.int i):=by cases n; exact .inl ⟨i,rfl⟩; exact .inl (.inl ⟨i,rfl⟩)
theorem Pa.str (n:Nat) (x:Str):Pa n (.str x):=by cases n; exact .inr ⟨x,rfl⟩; exact .inl (.inr ⟨x,rfl⟩)
theorem Pa.tup {n:Nat} {ds:List D} (hz:ds.length <= 100000) (h:∀ x ∈ ds,Pa n x):Pa (n + 1) (.tup ds):=.inr ⟨ds,rfl,zT hz,h⟩
theorem Pa.mono {n:Nat}:∀ {k:Nat} {d:D},Pa n d -> n <= k -> Pa k d:=by
 induction n with
 | zero=>
  intro k d h hk;rcases h with ⟨i,rfl⟩ | ⟨x,rfl⟩
  ·exact Pa.int k i
  ·exact Pa.str k x
 | succ n ih=>
  intro k d h hk;cases k with
  | zero=>omega
  | succ k=>
   rcases h with h | ⟨ds,rfl,hz,h⟩
   ·exact .inl h
   ·exact .inr ⟨ds,rfl,hz,fun x hx=>ih (h x hx) (by omega)⟩
theorem zJ3:∀ (n:Nat) (d:D) (M:Mem),Pa n d -> zAA (n + 1) [d,d] M = some (.bl true,M):=by
 intro n;have sc:∀ (n:Nat) (d:D) (M:Mem),((∃ i,d = .int i) \/ ∃ x,d = .str x) -> zAA (n + 1) [d,d] M = some (.bl true,M):=by
  intro n d M hs;refine zN ?_;unfold zAA;rw [zAW];unfold zB1;show OkS (zK _ _ [some d,some d,none,none] M) _;rcases hs with ⟨i,rfl⟩ | ⟨x,rfl⟩
  ·refine zFI (isF rfl rfl (by decide)) (zFI (isF rfl rfl (by decide)) ?_);exact zn (zEU (isV rfl rfl (by decide)) (zEU (zKf (isV rfl rfl (by decide))) (zI rfl rfl (zIi rfl)))) ⟨rfl,rfl⟩
  ·refine zFI (isF rfl rfl (by decide)) ?_;refine zH1 (zQv rfl rfl (by decide)) (zn (zEU (isV rfl rfl (by decide)) (zI rfl rfl (zIi rfl))) ⟨rfl,rfl⟩)
 induction n with
 | zero=>exact fun d M h=>sc 0 d M h
 | succ n ih=>
  intro d M h;rcases h with h | ⟨ds,rfl,hz,h⟩
  ·exact sc (n + 1) d M h
  refine zN ?_;unfold zAA;rw [zAW];unfold zB1;show OkS (zK _ _ [some (.tup ds),some (.tup ds),none,none] M) _;refine zH1 (zQv rfl rfl (by decide)) (zFI ?_ ?_)
  ·refine zN (zRt.mpr (zLC.mpr (zE (zQv rfl rfl (by decide)) ?_)));rw [zUK (by decide)];refine zJr.mpr (zE (zI (zAm rfl zAG) (zAm rfl zAG) (zN (zTZ.mpr ⟨rfl,rfl⟩))) ?_);rw [zJf]; simp
  ·rw [zHa];refine zTp.mpr (zNG.mpr (zCz.mpr ⟨(ds.zip ds).map fun q=>D.tup [q.1,q.2],none,M,rfl,?_,?_⟩))
   ·rw [zUB,List.length_zip]; omega
   ·refine Ok.mono (zB6 (I:=fun r acc M'=>M' = M /\ (∃ rest:List D,r = (rest.zip rest).map (fun q=>D.tup [q.1,q.2]) /\ ∀ x ∈ rest,Pa n x) /\ ∃ k:Nat,acc = (List.replicate k true).map D.bl) (Q:=fun acc M'=>M' = M /\ ∃ k:Nat,acc = (List.replicate k true).map D.bl) ?_ ?_ _ [] _ ⟨rfl,⟨ds,rfl,h⟩,0,rfl⟩) ?_
    ·rintro x r acc M' ⟨rfl,⟨rest,hr,hp⟩,k,rfl⟩;cases rest with
     | nil=>cases hr
     | cons y rest=>
      rw [List.zip_cons_cons,zUL] at hr;obtain ⟨rfl,rfl⟩:=zU6 hr;refine ⟨zu,_,rfl,zFY.mpr ?_⟩;rw [zUH rfl];refine zE (zBO (zm rfl (zo rfl)) (ih y M' (hp y zUG))) ?_;rw [zR];exact ⟨rfl,⟨rest,rfl,fun z hz=>hp z (zUF _ hz)⟩,k + 1,by rw [List.replicate_succ',zUu]; rfl⟩
    ·rintro acc M' ⟨rfl,_,hk⟩;exact ⟨zu,rfl,hk⟩
    ·rintro ys M' ⟨rfl,k,hk⟩;rw [zWK] at hk;subst hk;refine zPk.mpr ((zSE zQl (zGY _)).mpr ?_);rw [zR];refine ⟨?_,rfl⟩;simp
section
variable {M M':Mem} {j n l:Nat} {rs:List Nat} {zA:List (List Int)}
theorem Rw.other (h:Rw M j rs zA n l) {p:Nat} {u:MO} (h1:p ≠ j) (h2:p ∉ rs):Rw (M.set p u) j rs zA n l:=by
 refine ⟨by rw [zUW h1]; exact h.at_,h.len,fun i r e=>?_,h.nd,h.hj,h.ok⟩;obtain ⟨w,e1,e2⟩:=h.row i r e;exact ⟨w,e1,by rw [zUW (fun z=>h2 (by rw [z]; exact zUt e))]; exact e2⟩
theorem Rw.out (h:Rw M j rs zA n l) {p:Nat} (hp:M.length <= p):p ≠ j /\ p ∉ rs:=by
 refine ⟨fun z=>?_,fun z=>?_⟩
 ·have:=(zT0.mp h.at_).1;omega
 ·obtain ⟨i,hi⟩:=List.getElem?_of_mem z;obtain ⟨w,_,e2⟩:=h.row i p hi;have:=(zT0.mp e2).1;omega
theorem Rw.push (h:Rw M j rs zA n l) (us:Mem):Rw (M ++ us) j rs zA n l:=h.keep fun i hi=>zT9 hi
theorem Rw.refs (h:Rw M j rs zA n l):∀ r ∈ rs,r < M.length:=fun r hr=>by
 obtain ⟨i,hi⟩:=List.getElem?_of_mem hr;obtain ⟨w,_,e2⟩:=h.row i r hi;exact (zT0.mp e2).1
end
theorem zHR {M0 M:Mem} {n k q q0 j N l:Nat} {rs:List Nat} {zA:List (List Int)} (g:Gen M0 n k q0) (nw:Nw M0 M n k q) (rw_:Rw M j rs zA N l) (hN:zA.length = N) (h0:0 < N) (h1:N <= 1000) (hl0:0 < l) (hl:l <= 1000) (lo:M0.length <= j) (lr:∀ r ∈ rs,M0.length <= r) {b:Bool} :
  Ok (zAU [.ref j,.bl b] M) fun d M'=>d = .non /\ Nw M0 M' n k q /\ M.length <= M'.length /\ ∃ rows',Rw M' j rs rows' N l /\ rows'.length = N:=by
 unfold zAU;rw [zAW];unfold zBX;show OkS (zK _ _ [some (.ref j),some (.bl b),none,none,none,none] M) _;rw [zJ,zAY];refine ⟨_,_,_,zAS (rw_.row0 (by omega) rfl) (by omega) (by omega),?_⟩;rw [zWm];refine zCw (n:=l) (I:=fun i σ M'=>(∃ y2 y3 y4,σ = [some (.ref j),some (.bl b),y2,y3,y4,none]) /\ Nw M0 M' n k q /\ M.length <= M'.length /\ ∃ rows',Rw M' j rs rows' N l /\ rows'.length = N) ?_ ?_ _ _ ⟨⟨_,_,_,rfl⟩,nw,zT8 _,zA,rw_,hN⟩
 ·rintro i σ M1 hi ⟨⟨y2,y3,y4,rfl⟩,nw1,hM1,rows1,rw1,hr1⟩;refine ⟨_,rfl,?_⟩;show OkS (zK _ _ [some (.ref j),some (.bl b),some (.int (i:Nat)),y3,y4,none] M1) _;rw [zJ,zc];refine zDP.mpr (zBd.mpr ⟨zT (by simp),zAP ?_⟩);rw [zO];have nw2:=nw1.trans (nw1.gen.lst [] rfl);have rw2:=rw1.push [MO.lst ([]:List D)];obtain ⟨p1,p2⟩:=rw1.out (zT8 M1.length);have hp0:M0.length <= M1.length:=nw1.len;have e2:(M1 ++ [MO.lst ([]:List D)])[M1.length]? = some (.lst []):=zBj _ _;have hM2:M.length <= (M1 ++ [MO.lst ([]:List D)]).length:=by rw [zUI]; omega
  generalize M1 ++ [MO.lst ([]:List D)] = M2 at nw2 rw2 e2 hM2;generalize M1.length = p at p1 p2 hp0 e2;show OkS (zK _ _ [some (.ref j),some (.bl b),some (.int (i:Nat)),some (.ref p),y4,none] M2) _;rw [zJ,zAY];refine ⟨_,_,_,zAS (rw2.len0 rfl) (by omega) (by omega),?_⟩;rw [zWm,hr1];refine zCw (n:=N) (I:=fun t σ M'=>(∃ y4,σ = [some (.ref j),some (.bl b),some (.int (i:Nat)),some (.ref p),y4,none]) /\ Nw M0 M' n k q /\ M.length <= M'.length /\ Rw M' j rs rows1 N l /\ ∃ c:List Int,M'[p]? = some (.lst (c.map D.int)) /\ c.length = t /\ ∀ x ∈ c,0 <= x /\ x < (N:Int)) ?_ ?_ _ _ ⟨⟨_,rfl⟩,nw2,hM2,rw2,[],e2,rfl,fun _ h=>by cases h⟩
  ·rintro t σ M3 ht ⟨⟨y4,rfl⟩,nw3,hM3,rw3,c,e3,hc,hx⟩;refine ⟨_,rfl,?_⟩;show OkS (zAv _ [some (.ref j),some (.bl b),some (.int (i:Nat)),some (.ref p),some (.int (t:Nat)),none] M3) _;rw [zBT];obtain ⟨ev,v0,v1⟩:=rw3.ix (σ:=[some (.ref j),some (.bl b),some (.int (i:Nat)),some (.ref p),some (.int (t:Nat)),none]) (f1:=zC 0) (f2:=zC 4) (f3:=zC 2) (i:=t) (g:=i) rfl rfl rfl (by omega) (by omega) (by omega) (by omega);generalize zAR rows1 t i = v at ev v0 v1;have m0:0 <= v % ((t:Int) + 1):=Int.emod_nonneg _ (by omega);have m1:v % ((t:Int) + 1) < (t:Int) + 1:=zVu _ (by omega);refine zJl.mpr (zBG.mpr ⟨_,rfl,⟨_,zBf e3⟩,?_⟩);refine zE (zm (d:=.int (v % ((t:Int) + 1))) (zI ev (zI (x:=.dat (.int (t:Nat))) rfl rfl rfl) (zB4 (by omega))) (zo (d:=.int (t:Nat)) rfl)) ?_;refine zE (zMY e3 m0 (by rw [zUB]; omega) (by rw [zUB]; omega)) ?_;have hpl:p < M3.length:=(zT0.mp e3).1;refine ⟨⟨_,rfl⟩,nw3.setB g hp0 ?_,by rw [zWL]; exact hM3,rw3.other p1 p2,c.take (v % ((t:Int) + 1)).toNat ++ [(t:Int)] ++ c.drop (v % ((t:Int) + 1)).toNat,?_,by simp; omega,fun x hx'=>?_⟩
   ·show D.unds _ _ = true;rw [<- List.map_take,<- List.map_drop,zF6,zF6,zr,zr]; rfl
   ·rw [zUw hpl];simp
   ·simp only [zUS,zUU] at hx';rcases hx' with (w | w) | w
    ·exact hx x (List.mem_of_mem_take w)
    ·omega
    ·exact hx x (List.mem_of_mem_drop w)
  ·rintro σ M3 ⟨⟨y4,rfl⟩,nw3,hM3,rw3,c,e3,hc,hx⟩;rw [zO,zAY];refine ⟨_,_,_,zAS (rw3.len0 rfl) (by omega) (by omega),?_⟩;rw [zWm,hr1];refine zCw (n:=N) (I:=fun t σ M'=>(∃ y4,σ = [some (.ref j),some (.bl b),some (.int (i:Nat)),some (.ref p),y4,none]) /\ Nw M0 M' n k q /\ M.length <= M'.length /\ (∃ rows',Rw M' j rs rows' N l /\ rows'.length = N) /\ M'[p]? = some (.lst (c.map D.int))) ?_ ?_ _ _ ⟨⟨_,rfl⟩,nw3,hM3,⟨rows1,rw3,hr1⟩,e3⟩
   ·rintro t σ M4 ht ⟨⟨y4,rfl⟩,nw4,hM4,⟨rows4,rw4,hr4⟩,e4⟩;refine ⟨_,rfl,?_⟩;show OkS (zI3 _ _ _ [some (.ref j),some (.bl b),some (.int (i:Nat)),some (.ref p),some (.int (t:Nat)),none] M4) _;rw [zLM];have hct:t < c.length:=by omega
    refine zE (a:=.dat (.int c[t])) (zI (x:=.dat (.ref p)) (y:=.dat (.int (t:Nat))) rfl rfl (zBl (zd e4) (zHf (by rw [zUP,zT6 hct]; rfl)))) ?_;rw [zR];have hrs:t < rs.length:=by rw [rw4.len]; omega
    refine zE (a:=.dat (.ref rs[t])) (zI (x:=.dat (.ref j)) (y:=.dat (.int (t:Nat))) rfl rfl (zBl (zd rw4.at_) (zHf (by rw [zUP,zT6 hrs]; rfl)))) ?_;refine zBG.mpr ⟨.int (i:Nat),rfl,?_⟩;rw [zR];obtain ⟨x0,x1⟩:=hx c[t] (zUa hct);obtain ⟨w,f1,f2,rw5⟩:=rw4.put (g:=i) (zT6 hrs) x0 x1;have hwl:=(rw4.ok w (zUt f1)).1;refine ⟨_,zI7 f2 (by rw [zUB]; omega),?_⟩;rw [<- List.map_set];have hrt:rs[t] ∈ rs:=zUa hrs;refine ⟨⟨_,rfl⟩,nw4.setB g (lr _ hrt) (zr _ _),by rw [zWL]; exact hM4,⟨_,rw5,by rw [zWL]; exact hr4⟩,?_⟩;rw [zUW (fun z=>p2 (by rw [<- z]; exact hrt))]; exact e4
   ·rintro σ M4 ⟨⟨y4,rfl⟩,nw4,hM4,h4,e4⟩;exact ⟨⟨_,_,_,rfl⟩,nw4,hM4,h4⟩
 ·rintro σ M1 ⟨⟨y2,y3,y4,rfl⟩,nw1,hM1,rows1,rw1,hr1⟩;rw [zO,zAE];refine zE (a:=b) (zAJ rfl) ?_;cases b with
  | false=>
   rw [zUK zUO,zj];exact ⟨rfl,nw1,hM1,rows1,rw1,hr1⟩
  | true=>
   rw [zUH rfl];refine zBE (d:=.int ((l:Int) - 1)) (zI (rw1.row0 (by omega) rfl) rfl rfl) ?_;show OkS (zI3 _ _ _ [some (.ref j),some (.bl true),y2,y3,y4,some (.int ((l:Int) - 1))] M1) _;rw [zLM];obtain ⟨ev,v0,v1⟩:=rw1.ix (σ:=[some (.ref j),some (.bl true),y2,y3,y4,some (.int ((l:Int) - 1))]) (f1:=zC 0) (f2:=fOp zEx (fB zh (zF (zC 0) zM)) (fC (.int 1))) (f3:=zC 5) (i:=(rows1.length:Int) - 1) (g:=(l:Int) - 1) rfl (zI (rw1.len0 rfl) rfl rfl) rfl (by omega) (by omega) (by omega) (by omega);generalize zAR rows1 ((rows1.length:Int) - 1) ((l:Int) - 1) = v at ev v0 v1;refine zE ev ?_;rw [zR];have hrs:0 < rs.length:=by rw [rw1.len]; omega
   refine zE (a:=.dat (.ref rs[0])) (zI (x:=.dat (.ref j)) (y:=.dat (.int 0)) rfl rfl (zBl (zd rw1.at_) (zHf (k:=0) (by rw [zUP,zT6 hrs]; rfl)))) ?_;refine zBG.mpr ⟨.int ((l:Int) - 1),rfl,?_⟩;rw [zR];obtain ⟨w,f1,f2,rw5⟩:=rw1.put (g:=l - 1) (zT6 hrs) v0 v1;have hwl:=(rw1.ok w (zUt f1)).1;rw [show (l:Int) - 1 = ((l - 1:Nat):Int) by omega];refine ⟨_,zI7 f2 (by rw [zUB]; omega),?_⟩;rw [<- List.map_set];refine ⟨rfl,nw1.setB g (lr _ (zUa hrs)) (zr _ _),by rw [zWL]; exact hM1,_,rw5,by rw [zWL]; exact hr1⟩
theorem zPX {M:Mem} {j N l:Nat} {rs:List Nat} {zA:List (List Int)} (rw_:Rw M j rs zA N l) (hN:zA.length = N) (hl0:0 < l) {room letter style:Int} (r0:0 <= room) (r1:room < N) (a0:0 <= letter) (a1:letter < l) :
  ∃ v,zAw [.ref j,.int room,.int letter,.int style] M = some (.int v,M) /\ 0 <= v /\ v < N:=by
 suffices h:Ok (zAw [.ref j,.int room,.int letter,.int style] M) fun d M'=>∃ v,d = .int v /\ M' = M /\ 0 <= v /\ v < N by
  obtain ⟨d,M',e,v,rfl,rfl,v0,v1⟩:=h;exact ⟨v,e,v0,v1⟩
 unfold zAw;rw [zAW];unfold zDg;show OkS (zK _ _ [some (.ref j),some (.int room),some (.int letter),some (.int style),none,none] M) _;refine zBE (rw_.len0 rfl) ?_;show OkS (zK _ _ [some (.ref j),some (.int room),some (.int letter),some (.int style),some (.int zA.length),none] M) _;obtain ⟨ec,c0,c1⟩:=rw_.ix (σ:=[some (.ref j),some (.int room),some (.int letter),some (.int style),some (.int zA.length),none]) (f1:=zC 0) (f2:=fC (.int 0)) (f3:=fC (.int 0)) (i:=0) (g:=0) rfl rfl rfl (by omega) (by omega) (by omega) (by omega);refine zBE ec ?_;generalize zAR zA 0 0 = cut at c0 c1;show OkS (zK _ _ [some (.ref j),some (.int room),some (.int letter),some (.int style),some (.int zA.length),some (.int cut)] M) _;generalize hσ:([some (.ref j),some (.int room),some (.int letter),some (.int style),some (.int zA.length),some (.int cut)]:Sd) = σ;have s0:zC 0 σ M = some (.dat (.ref j),M):=by rw [<- hσ]; rfl
 have s1:zC 1 σ M = some (.dat (.int room),M):=by rw [<- hσ]; rfl
 have s2:zC 2 σ M = some (.dat (.int letter),M):=by rw [<- hσ]; rfl
 have s3:zC 3 σ M = some (.dat (.int style),M):=by rw [<- hσ]; rfl
 have s4:zC 4 σ M = some (.dat (.int zA.length),M):=by rw [<- hσ]; rfl
 have s5:zC 5 σ M = some (.dat (.int cut),M):=by rw [<- hσ]; rfl
 have st:∀ i:Int,tst (fOp kEq (zC 3) (fC (.int i))) σ M = some (decide (style = i),M):=fun i=>zAJ (zI s3 rfl (zN (zF3.mpr ⟨rfl,rfl⟩)));have andE:∀ {a b:FT} {x y:Bool},a σ M = some (x,M) -> b σ M = some (y,M) -> zHC a b σ M = some (x && y,M):=fun {a b x y} ha hb=>by
  unfold zHC; rw [ha]; cases x <;> first | exact hb | rfl
 have lt5:tst (fOp kLt (zC 1) (zC 5)) σ M = some (decide (room < cut),M):=zAJ (zI s1 s5 (zN (zQp.mpr ⟨rfl,rfl⟩)));have el:tst (fOp kEq (zC 2) (fC (.int 0))) σ M = some (decide (letter = 0),M):=zAJ (zI s2 rfl (zN (zF3.mpr ⟨rfl,rfl⟩)));obtain ⟨eg,g0,g1⟩:=rw_.ix (σ:=σ) s0 s1 s2 r0 (by omega) a0 a1;rw [zJ,zAE];refine zE (andE (st 4) lt5) ?_;by_cases w4:style = 4
 ·by_cases wc:room < cut
  ·rw [zUH (by simp [w4,wc])];refine zn (zI eg s5 (zB4 (by omega))) ?_;rw [zA6];have:=Int.emod_nonneg (zAR zA room letter) (show cut ≠ 0 by omega);have:=zVu (zAR zA room letter) (show 0 < cut by omega);exact ⟨_,rfl,rfl,by omega,by omega⟩
  ·rw [zUK (by simp [wc]),zj,zO,zJ,zAE];refine zE (st 4) ?_;rw [zUH (by simp [w4])];refine zn (zI s5 (zI eg (zI s4 s5 rfl) (zB4 (by omega))) rfl) ?_;rw [zA6];have:=Int.emod_nonneg (zAR zA room letter) (show (zA.length:Int) - cut ≠ 0 by omega);have:=zVu (zAR zA room letter) (show 0 < (zA.length:Int) - cut by omega);exact ⟨_,rfl,rfl,by omega,by omega⟩
 ·rw [zUK (by simp [w4]),zj,zO,zJ,zAE];refine zE (st 4) ?_;rw [zUK (by simp [w4]),zj,zO,zJ,zAE];refine zE (andE (st 5) el) ?_;by_cases w5:style = 5
  ·by_cases wl:letter = 0
   ·rw [zUH (by simp [w5,wl])];refine zn (zI (zI s1 rfl rfl) s4 (zB4 (by omega))) ?_;rw [zA6];have:=Int.emod_nonneg (room + 1) (show (zA.length:Int) ≠ 0 by omega);have:=zVu (room + 1) (show 0 < (zA.length:Int) by omega);exact ⟨_,rfl,rfl,by omega,by omega⟩
   ·rw [zUK (by simp [wl]),zj,zO,zJ,zAE];refine zE (st 5) ?_;rw [zUH (by simp [w5])];obtain ⟨bb,eb⟩:∃ bb,zE4 (fOp kEq (zC 2) (fC (.int 1))) (fOp kEq (zC 1) (fOp zEx (zC 4) (fC (.int 1)))) σ M = some (.dat (.bl bb),M):=by
     have e1:fOp kEq (zC 2) (fC (.int 1)) σ M = some (.dat (.bl (decide (letter = 1))),M):=zI s2 rfl (zN (zF3.mpr ⟨rfl,rfl⟩));have e2:fOp kEq (zC 1) (fOp zEx (zC 4) (fC (.int 1))) σ M = some (.dat (.bl (decide (room = (zA.length:Int) - 1))),M):=zI s1 (zI s4 rfl rfl) (zN (zF3.mpr ⟨rfl,rfl⟩));exact ⟨_,zPR e1 fun _=>e2⟩
    have e3:zA1 (zD (toD (zC 1)) (zD (toD (fC (.int 0))) zL)) σ M = some (.fl [.int room,.int 0],M):=by
     unfold zA1; rw [zm s1 (zo (d:=.int 0) rfl)]; dsimp only; rw [zUH (zT (by simp))]
    have e4:fB zGM (zF (zE4 (fOp kEq (zC 2) (fC (.int 1))) (fOp kEq (zC 1) (fOp zEx (zC 4) (fC (.int 1))))) zM) σ M = some (.dat (.int (if bb then 1 else 0)),M):=by rw [fB1 eb]; rfl
    cases bb with
    | true=>exact zn (zI (r:=some (.dat (.int 0),M)) e3 e4 rfl) (by rw [zA6]; exact ⟨_,rfl,rfl,by omega,by omega⟩)
    | false=>exact zn (zI (r:=some (.dat (.int room),M)) e3 e4 rfl) (by rw [zA6]; exact ⟨_,rfl,rfl,by omega,by omega⟩)
  ·rw [zUK (by simp [w5]),zj,zO,zJ,zAE];refine zE (st 5) ?_;rw [zUK (by simp [w5]),zj,zO,zJ,zAE];refine zE (st 6) ?_;by_cases w6:style = 6
   ·rw [zUH (by simp [w6])];obtain ⟨eg,g0,g1⟩:=rw_.ix (σ:=σ) (f2:=fC (.int 0)) (i:=0) s0 rfl s2 (by omega) (by omega) a0 a1;exact zn eg (by rw [zA6]; exact ⟨_,rfl,rfl,g0,g1⟩)
   ·rw [zUK (by simp [w6]),zj,zO];obtain ⟨eg,g0,g1⟩:=rw_.ix (σ:=σ) (f3:=fC (.int 0)) (g:=0) s0 s1 rfl r0 (by omega) (by omega) (by omega);exact zn eg ⟨_,rfl,rfl,g0,g1⟩
theorem zS7 {M:Mem} {n k q:Nat} (h:Gen M n k q) {own:List Nat} {i:Nat} {f te:FE} {σ:Sd} {cnt:Nat} {lo hi:Int} (c1:cnt <= 90000) (hf:f σ M = some (.dat (.int cnt),M))
  (ht:∀ (r:Nat) (M':Mem),r < cnt -> Nw M M' n k (q + r) -> M'.length = M.length -> Ok (te ((zGW own σ).set i (some (.int r))) M') fun x M''=>∃ v:Int,x = .dat (.int v) /\ lo <= v /\ v < hi /\ Nw M' M'' n k (q + r + 1) /\ M''.length = M'.length) :
  Ok (zAQ own (zAC (zD (toD f) zL)) (gN i) zAp te σ M) fun x M'=>(∃ c:List Int,x = .fl (c.map D.int) /\ c.length = cnt /\ ∀ y ∈ c,lo <= y /\ y < hi) /\ Nw M M' n k (q + cnt) /\ M'.length = M.length:=by
 refine zCz.mpr ⟨_,_,_,zAS hf (by omega) (by omega),by rw [zAu]; exact zT (by omega),?_⟩;rw [zWm];refine Ok.mono (zJP (n:=cnt) (I:=fun j acc M2=>(∃ c:List Int,acc = c.map D.int /\ c.length = j /\ ∀ y ∈ c,lo <= y /\ y < hi) /\ Nw M M2 n k (q + j) /\ M2.length = M.length) ?_ ⟨⟨[],rfl,rfl,fun _ h=>by cases h⟩,Nw.refl h,rfl⟩) ?_
 ·rintro j acc M2 hj ⟨⟨c,rfl,hcl,hc⟩,nx,hl⟩;refine ⟨_,rfl,?_⟩;refine Ok.mono (ht j M2 hj nx hl) ?_;rintro x M3 ⟨v,rfl,v0,v1,nx3,hl3⟩;rw [zR];refine ⟨⟨c ++ [v],by simp,by simp [hcl],fun z hz=>?_⟩,nx.trans nx3,hl3.trans hl⟩;rcases zUS.mp hz with q | q
  ·exact hc z q
  ·have:z = v:=by simpa using q
   subst this; exact ⟨v0,v1⟩
 ·rintro ys M2 ⟨⟨c,rfl,hcl,hc⟩,nx,hl⟩;exact ⟨⟨c,rfl,hcl,hc⟩,nx,hl⟩
theorem Rw.add {M:Mem} {j n l:Nat} {rs:List Nat} {zA:List (List Int)} (h:Rw M j rs zA n l) {w:List Int} (hw:w.length = l /\ ∀ x ∈ w,0 <= x /\ x < (n:Int)) :
  Rw ((M ++ [MO.lst (w.map D.int)]).set j (.lst ((rs ++ [M.length]).map D.ref))) j (rs ++ [M.length]) (zA ++ [w]) n l:=by
 have hj:=(zT0.mp h.at_).1;have hr:=h.refs;refine ⟨by rw [zUw (by rw [zUI]; omega)],by simp [h.len],fun i r e=>?_,?_,fun z=>?_,fun v hv=>?_⟩
 ·have hne:j ≠ r:=fun z=>by
   subst z;rcases zUS.mp (zUt e) with z | z
   ·exact h.hj z
   ·have:j = M.length:=by simpa using z
    omega
  rw [zUW hne];by_cases hi:i < rs.length
  ·rw [zT9 hi] at e;obtain ⟨v,e1,e2⟩:=h.row i r e;exact ⟨v,by rw [zT9 (by rw [<- h.len]; exact hi)]; exact e1,by rw [zT9 (hr r (zUt e))]; exact e2⟩
  ·have hi2:i = rs.length:=by
    have:=(zT0.mp e).1;rw [zUI] at this;simp at this; omega
   subst hi2;simp at e;subst e;exact ⟨w,by rw [h.len]; simp,by simp⟩
 ·rw [zVG];refine ⟨h.nd,by simp,fun a ha b hb z=>?_⟩;have:b = M.length:=by simpa using hb
  have:=hr a ha;omega
 ·rcases zUS.mp z with z | z
  ·exact h.hj z
  ·have:j = M.length:=by simpa using z
   omega
 ·rcases zUS.mp hv with z | z
  ·exact h.ok v z
  ·have:v = w:=by simpa using z
   subst this; exact hw
theorem Rw.out_eq {M:Mem} {j n l:Nat} {rs:List Nat} {zA:List (List Int)} (h:Rw M j rs zA n l) (hz:zA.length <= 100000) {σ:Sd} (hσ:(zGW [9] σ).length = 10) (h6:zC 6 σ M = some (.dat (.ref j),M)) :
  fB zW (zF (zAQ [9] (zBt (zC 6)) (gN 9) zAp (fB zW (zF (zC 9) zM))) zM) σ M = some (.dat (mD zA),M):=by
 have hrl:∀ (i:Nat) (hi:i < rs.length),∃ w,zA[i]? = some w /\ M[rs[i]]? = some (.lst (w.map D.int)):=fun i hi=>h.row i rs[i] (zT6 hi);refine zAe (x:=.fl (zA.map fun w=>D.tup (w.map D.int))) ?_ zDT;have:=zGA (own:=[9]) (fi:=zBt (zC 6)) (g:=gN 9) (te:=fB zW (zF (zC 9) zM)) (σ:=σ) (M:=M) (gd:=zPA (.dat (.ref j)) (rs.map D.ref)) rs D.ref (fun r=> .tup ((match M[r]? with | some (.lst xs)=>xs | _=>[]))) (zC1 h6 (zd h.at_)) (by unfold zCd zPA; exact .inl h.at_) (by rw [h.len]; exact hz) fun r hr=>?_
 ·rw [this];refine zVp (fun z=>some (EV.fl z,M)) ?_;apply List.ext_getElem?;intro i;rw [zUP,zUP];by_cases hi:i < rs.length
  ·obtain ⟨w,e1,e2⟩:=hrl i hi;rw [zT6 hi,e1];show some (D.tup _) = some (D.tup _);rw [e2]
  ·rw [zVB (by omega),zVB (by rw [<- h.len]; omega)]; rfl
 ·obtain ⟨i,hi⟩:=List.getElem?_of_mem hr;obtain ⟨w,e1,e2⟩:=h.row i r hi;refine ⟨(zGW [9] σ).set 9 (some (.ref r)),rfl,zAe (x:=.dat (.ref r)) ?_ ?_⟩
  ·unfold zC;rw [zUw (by omega)]
  ·rw [zd e2,e2]
theorem zKR {M:Mem} {n k q:Nat} {most upto:Int} (h:Gen M n k q) (hq:q < 900000000) (m0:0 < most) (m1:most <= 30) (u0:0 < upto) (u1:upto <= 30) :
  Ok (zAq [.ref n,.int most,.int upto] M) fun d M'=>(∃ zA l,d = mD zA /\ IsM zA l /\ (zA.length:Int) <= most /\ (l:Int) <= upto) /\ Nw M M' n k (q + 1000) /\ M'.length = M.length:=by
 obtain ⟨hn,hk⟩:=h.lt;unfold zAq;suffices hh:Ok (zBP 10 zBN [.ref n,.int most,.int upto] M) fun d M'=>(∃ zA l,d = mD zA /\ IsM zA l /\ (zA.length:Int) <= most /\ (l:Int) <= upto) /\ Nw M M' n k (q + 1000) by
  refine zKq (Ok.mono hh ?_);rintro d M1 ⟨⟨zA,l,rfl,r⟩,nw⟩;exact ⟨⟨zDd _,nw.len,nw.wf0 h⟩,⟨zA,l,rfl,r⟩,nw.trim h,by rw [zVQ]; have:=nw.len; omega⟩
 rw [zAW];unfold zBN;show OkS (zK _ _ [some (.ref n),some (.int most),some (.int upto),none,none,none,none,none,none,none] M) _;rw [zJ,zc];refine zG9.mpr (zKe.mpr (zAh h (by omega) rfl rfl m0 (by omega) fun i1 M1 a0 a1 nw1 hl1=>zKg.mpr ?_));rw [zR,zO];obtain ⟨N,eN⟩:=Int.eq_ofNat_of_zero_le (show 0 <= 1 + i1 by omega);rw [eN];have hN0:0 < N:=by omega
 have hN1:(N:Int) <= most:=by omega
 show OkS (zK _ _ [some (.ref n),some (.int most),some (.int upto),some (.int (N:Nat)),none,none,none,none,none,none] M1) _;rw [zJ,zc];refine zG9.mpr (zKe.mpr (zAh nw1.gen (by omega) rfl rfl u0 (by omega) fun i2 M2 b0 b1 nw2 hl2=>zKg.mpr ?_));rw [zR,zO];obtain ⟨l,el⟩:=Int.eq_ofNat_of_zero_le (show 0 <= 1 + i2 by omega);rw [el];have hl0:0 < l:=by omega
 have hl9:(l:Int) <= upto:=by omega
 show OkS (zK _ _ [some (.ref n),some (.int most),some (.int upto),some (.int (N:Nat)),some (.int (l:Nat)),none,none,none,none,none] M2) _;rw [zJ,zc];refine zAh nw2.gen (by omega) rfl rfl (by decide) (by decide) fun s M3 s0 s1 nw3 hl3=>?_;rw [zR,zO];show OkS (zK _ _ [some (.ref n),some (.int most),some (.int upto),some (.int (N:Nat)),some (.int (l:Nat)),some (.int s),none,none,none,none] M3) _;rw [zJ,zc];refine zDP.mpr (zBd.mpr ⟨zT (by simp),zAP ?_⟩);rw [zO];have nwA:=(nw1.trans nw2).trans nw3;have nw4:=nwA.trans (nw3.gen.lst [] rfl);have lj:M.length <= M3.length:=nwA.len;have rw4:Rw (M3 ++ [MO.lst ([]:List D)]) M3.length [] [] N l:=⟨zBj _ _,rfl,fun i r e=>by simp at e,List.nodup_nil,by simp,fun _ h=>by cases h⟩;generalize M3 ++ [MO.lst ([]:List D)] = M4 at nw4 rw4;generalize M3.length = j at lj rw4;show OkS (zK _ _ [some (.ref n),some (.int most),some (.int upto),some (.int (N:Nat)),some (.int (l:Nat)),some (.int s),some (.ref j),none,none,none] M4) _;rw [zJ,zAY];refine ⟨_,_,_,zAS (j:=(N:Nat)) rfl (by omega) (by omega),?_⟩;rw [zWm];refine zCw (n:=N) (I:=fun i σ M'=>(∃ y7,σ = [some (.ref n),some (.int most),some (.int upto),some (.int (N:Nat)),some (.int (l:Nat)),some (.int s),some (.ref j),y7,none,none]) /\ Nw M M' n k (q + 3 + 30 * i) /\ ∃ rs zA,Rw M' j rs zA N l /\ zA.length = i /\ ∀ r ∈ rs,M.length <= r) ?_ ?_ _ _ ⟨⟨_,rfl⟩,nw4.mono (by omega),[],[],rw4,rfl,fun _ h=>by cases h⟩
 ·rintro i σ M5 hi ⟨⟨y7,rfl⟩,nw5,rs,zA,rw5,hr5,lr⟩;refine ⟨_,rfl,?_⟩;show OkS (zAv _ [some (.ref n),some (.int most),some (.int upto),some (.int (N:Nat)),some (.int (l:Nat)),some (.int s),some (.ref j),some (.int (i:Nat)),none,none] M5) _;rw [zBT];refine zJl.mpr (zBG.mpr ⟨_,rfl,⟨_,zBf rw5.at_⟩,zA5.mpr (zAy.mpr ?_)⟩);refine Ok.mono (zS7 nw5.gen (cnt:=l) (lo:=0) (hi:=N) (by omega) rfl fun r M' hr nwr hlr=>zAh nwr.gen (by omega) rfl rfl (by omega) (by omega) fun v M2 v0 v1 nx hl=>⟨v,rfl,v0,v1,nx,hl⟩) ?_;rintro x M6 ⟨⟨c,rfl,hcl,hc⟩,nw6,hl6⟩;refine zAP ?_;have jn:j ≠ n:=by omega
  have jk:j ≠ k:=by omega
  have rw6:Rw M6 j rs zA N l:=by
   have kp:∀ {i:Nat} {u:MO},M.length <= i -> M5[i]? = some u -> M6[i]? = some u:=fun {i u} hi e=>nw6.get e (by omega) (by omega);exact ⟨kp lj rw5.at_,rw5.len,fun i r e=>let ⟨w,e1,e2⟩:=rw5.row i r e; ⟨w,e1,kp (lr r (zUt e)) e2⟩,rw5.nd,rw5.hj,rw5.ok⟩
  have rw7:=rw6.add (w:=c) ⟨hcl,hc⟩;have e7:(M6 ++ [MO.lst (c.map D.int)])[j]? = some (.lst (rs.map D.ref)):=by rw [zT9 (zT0.mp rw6.at_).1]; exact rw6.at_
  refine zE (a:=[]) (M:=M6 ++ [MO.lst (c.map D.int)]) rfl ?_;rw [zCB e7 (by rw [zUB,rw6.len,hr5]; exact zUR (m:=100) (by omega) (zT (by omega)))];have nw8:=(nw5.trans nw6).trans (nw6.gen.lst (c.map D.int) (zr _ _));have lM:M.length <= M6.length:=(nw5.trans nw6).len;rw [show rs.map D.ref ++ [D.ref M6.length] = (rs ++ [M6.length]).map D.ref by rw [zUu]; rfl];refine ⟨⟨_,rfl⟩,(nw8.setB h lj ?_).mono (by omega),_,_,rw7,by simp [hr5],fun r hr=>?_⟩
  ·show D.unds _ _ = true;refine zCF fun x hx=>?_;obtain ⟨r,hr,rfl⟩:=zUJ.mp hx;unfold D.und;rw [zVF,zUI,zXH];rcases zUS.mp hr with z | z
   ·have:=rw6.refs r z; omega
   ·have:r = M6.length:=by simpa using z
    omega
  ·rcases zUS.mp hr with z | z
   ·exact lr r z
   ·have:r = M6.length:=by simpa using z
    omega
 ·rintro σ M5 ⟨⟨y7,rfl⟩,nw5,rs,zA,rw5,hr5,lr⟩;rw [zO,zJ,zAE];have fin:∀ (M7:Mem) (j:Nat) (rs:List Nat) (zA:List (List Int)) (y7:Option D),Rw M7 j rs zA N l -> zA.length = N -> Nw M M7 n k (q + 1000) -> OkS (zAO (fB zW (zF (zAQ [9] (zBt (zC 6)) (gN 9) zAp (fB zW (zF (zC 9) zM))) zM)) [some (.ref n),some (.int most),some (.int upto),some (.int (N:Nat)),some (.int (l:Nat)),some (.int s),some (.ref j),y7,none,none] M7) (fun o σ M'=>match o with | .ret d=>(∃ zA l,d = mD zA /\ IsM zA l /\ (zA.length:Int) <= most /\ (l:Int) <= upto) /\ Nw M M' n k (q + 1000) | _=>False):=fun M7 j rs zA y7 rw7 hr7 nw7=>
   zn (rw7.out_eq (by omega) rfl rfl) ⟨⟨zA,l,rfl,⟨by omega,hl0,fun w hw=>⟨(rw7.ok w hw).1,fun x hx=>by have:=(rw7.ok w hw).2 x hx; omega⟩⟩,by omega,hl9⟩,nw7⟩
  have last:∀ (M7:Mem) (j:Nat) (rs:List Nat) (zA:List (List Int)) (y7:Option D) (P:Out -> Sd -> Mem -> Prop),(∀ d σ M',((∃ zA l,d = mD zA /\ IsM zA l /\ (zA.length:Int) <= most /\ (l:Int) <= upto) /\ Nw M M' n k (q + 1000)) -> P (.ret d) σ M') -> Rw M7 j rs zA N l -> zA.length = N -> Nw M M7 n k (q + 1000) -> OkS (zAO (fB zW (zF (zAQ [9] (zBt (zC 6)) (gN 9) zAp (fB zW (zF (zC 9) zM))) zM)) [some (.ref n),some (.int most),some (.int upto),some (.int (N:Nat)),some (.int (l:Nat)),some (.int s),some (.ref j),y7,none,none] M7) P:=fun M7 j rs zA y7 P hP rw7 hr7 nw7=>by
   refine OkS.mono (fin M7 j rs zA y7 rw7 hr7 nw7) ?_;rintro o σ M' z;cases o with
   | ret d=>exact hP d σ M' z
   | nx=>exact z.elim
   | cnt=>exact z.elim
   | brk=>exact z.elim
  have mid:∀ (M6:Mem) (zA:List (List Int)) (P:Out -> Sd -> Mem -> Prop),(∀ d σ M',((∃ zA l,d = mD zA /\ IsM zA l /\ (zA.length:Int) <= most /\ (l:Int) <= upto) /\ Nw M M' n k (q + 1000)) -> P (.ret d) σ M') -> Rw M6 j rs zA N l -> zA.length = N -> Nw M M6 n k (q + 1000) -> OkS (zK (sIf (tst (fOp kGt (zC 5) (fC (.int 3)))) (zi 6 (zAQ [7] (zAC (zD (toD (zC 3)) zL)) (gN 7) zAp (zAQ [8] (zAC (zD (toD (zC 4)) zL)) (gN 8) zAp (zY zAw (zD (toD (zC 6)) (zD (toD (zC 7)) (zD (toD (zC 8)) (zD (toD (zC 5)) zL)))))))) zAZ)
    (zAO (fB zW (zF (zAQ [9] (zBt (zC 6)) (gN 9) zAp (fB zW (zF (zC 9) zM))) zM))) [some (.ref n),some (.int most),some (.int upto),some (.int (N:Nat)),some (.int (l:Nat)),some (.int s),some (.ref j),y7,none,none] M6) P:=fun M6 zA P hP rw6 hr6 nw6=>by
   rw [zJ,zAE];refine zE (zAJ (zI (x:=.dat (.int s)) (y:=.dat (.int 3)) rfl rfl (zN (zRT.mpr ⟨rfl,rfl⟩)))) ?_;by_cases ws:(3:Int) < s
   ·rw [zUH (by simpa using ws),zc];refine zCz.mpr ⟨_,_,_,zAS (j:=(N:Nat)) rfl (by omega) (by omega),by rw [zAu]; exact zT (by omega),?_⟩;rw [zWm];refine Ok.mono (zJP (n:=N) (I:=fun t acc M2=>∃ rs2 rows2,acc = List.map D.ref rs2 /\ rs2.length = t /\ rows2.length = t /\ (∀ (i r:Nat),rs2[i]? = some r -> ∃ w:List Int,rows2[i]? = some w /\ M2[r]? = some (.lst (w.map D.int))) /\ rs2.Nodup /\ (∀ r ∈ rs2,r < M2.length) /\ (∀ w ∈ rows2,w.length = l /\ ∀ x ∈ w,0 <= x /\ x < (N:Int)) /\ Nw M M2 n k (q + 1000) /\ Rw M2 j rs zA N l) ?_ ⟨[],[],rfl,rfl,rfl,fun i r e=>by simp at e,List.nodup_nil,fun _ h=>(by cases h),fun _ h=>(by cases h),nw6,rw6⟩) ?_
    ·rintro t acc M2 ht ⟨rs2,rows2,rfl,h1,h2,h3,h4,h5,h6,nwt,rwt⟩;refine ⟨_,rfl,?_⟩;show Ok (zAQ _ _ _ _ _ [some (.ref n),some (.int most),some (.int upto),some (.int (N:Nat)),some (.int (l:Nat)),some (.int s),some (.ref j),some (.int (t:Nat)),none,none] M2) _;refine zCz.mpr ⟨_,_,_,zAS (j:=(l:Nat)) rfl (by omega) (by omega),by rw [zAu]; exact zT (by omega),?_⟩;rw [zWm];refine Ok.mono (zJP (n:=l) (I:=fun a acc M3=>M3 = M2 /\ ∃ c:List Int,acc = c.map D.int /\ c.length = a /\ ∀ x ∈ c,0 <= x /\ x < (N:Int)) ?_ ⟨rfl,[],rfl,rfl,fun _ h=>(by cases h)⟩) ?_
     ·rintro a acc M3 ha ⟨rfl,c,rfl,hc1,hc2⟩;refine ⟨_,rfl,?_⟩;show Ok (zY _ _ [some (.ref n),some (.int most),some (.int upto),some (.int (N:Nat)),some (.int (l:Nat)),some (.int s),some (.ref j),some (.int (t:Nat)),some (.int (a:Nat)),none] M3) _;obtain ⟨v,ev,v0,v1⟩:=zPX rwt hr6 hl0 (room:=(t:Nat)) (letter:=(a:Nat)) (style:=s) (by omega) (by omega) (by omega) (by omega);refine zE (zBO (zm rfl (zm rfl (zm rfl (zo rfl)))) ev) ?_;rw [zR];refine ⟨rfl,c ++ [v],by simp,by simp [hc1],fun x hx=>?_⟩;rcases zUS.mp hx with z | z
      ·exact hc2 x z
      ·have:x = v:=by simpa using z
       subst this; exact ⟨v0,v1⟩
     ·rintro ys M3 ⟨rfl,c,rfl,hc1,hc2⟩;refine zAP ?_;refine ⟨rs2 ++ [M3.length],rows2 ++ [c],by simp,by simp [h1],by simp [h2],fun i r e=>?_,?_,fun r hr=>?_,fun w hw=>?_,nwt.trans (nwt.gen.lst _ (zr _ _)),rwt.push _⟩
      ·by_cases hi:i < rs2.length
       ·rw [zT9 hi] at e;obtain ⟨v,e1,e2⟩:=h3 i r e;exact ⟨v,by rw [zT9 (by omega)]; exact e1,by rw [zT9 (h5 r (zUt e))]; exact e2⟩
       ·have hi2:i = rs2.length:=by
         have:=(zT0.mp e).1;rw [zUI] at this;simp at this; omega
        subst hi2;simp at e;subst e;exact ⟨c,by rw [h1,<- h2]; simp,by simp⟩
      ·rw [zVG];refine ⟨h4,by simp,fun a ha b hb z=>?_⟩;have:b = M3.length:=by simpa using hb
       have:=h5 a ha;omega
      ·rw [zUI,zXH];rcases zUS.mp hr with z | z
       ·have:=h5 r z; omega
       ·have:r = M3.length:=by simpa using z
        omega
      ·rcases zUS.mp hw with z | z
       ·exact h6 w z
       ·have:w = c:=by simpa using z
        subst this; exact ⟨hc1,hc2⟩
    ·rintro ys M2 ⟨rs2,rows2,rfl,h1,h2,h3,h4,h5,h6,nwt,rwt⟩;refine zAP ?_;rw [zO];refine last _ M2.length rs2 rows2 y7 P hP ⟨zBj _ _,by omega,fun i r e=>?_,h4,fun z=>absurd (h5 _ z) (zUk _),h6⟩ h2 (nwt.trans (nwt.gen.lst _ ?_))
     ·obtain ⟨w,e1,e2⟩:=h3 i r e;exact ⟨w,e1,by rw [zT9 (h5 r (zUt e))]; exact e2⟩
     ·refine zCF fun x hx=>?_;obtain ⟨r,hr,rfl⟩:=zUJ.mp hx;unfold D.und;rw [zVF];exact h5 r hr
   ·rw [zUK (by simpa using ws),zj,zO];exact last M6 j rs zA y7 P hP rw6 hr6 nw6
  refine zE (zAJ (zI (x:=.dat (.int s)) (y:=.dat (.int 3)) rfl rfl (zN (zF3.mpr ⟨rfl,rfl⟩)))) ?_;have hP:∀ (d:D) (σ:Sd) (M':Mem),((∃ zA l,d = mD zA /\ IsM zA l /\ (zA.length:Int) <= most /\ (l:Int) <= upto) /\ Nw M M' n k (q + 1000)) -> (∃ zA l,d = mD zA /\ IsM zA l /\ (zA.length:Int) <= most /\ (l:Int) <= upto) /\ Nw M M' n k (q + 1000):=fun _ _ _ h=>h;by_cases w3:s = 3
  ·rw [zUH (by simpa using w3),zBT];have eqv:Ok (fOp kEq (zY ze (zD (toD (zC 0)) (zD (toD (fC (.int 2))) zL))) (fC (.int 1)) [some (.ref n),some (.int most),some (.int upto),some (.int (N:Nat)),some (.int (l:Nat)),some (.int s),some (.ref j),y7,none,none] M5) fun x M6=>(∃ b,x = .dat (.bl b)) /\ Nw M5 M6 n k (q + 3 + 30 * N + 1) /\ M6.length = M5.length :=
    zG9.mpr (zAh nw5.gen (by omega) rfl rfl (by decide) (by decide) fun v M6 v0 v1 nx hl=>zKe.mpr (zF3.mpr ⟨⟨_,rfl⟩,nx,hl⟩))
   obtain ⟨x,M6,ex,⟨b,rfl⟩,nx6,hl6⟩:=eqv;have jn:j ≠ n:=by omega
   have rw6:Rw M6 j rs zA N l:=by
    have kp:∀ {i:Nat} {u:MO},M.length <= i -> M5[i]? = some u -> M6[i]? = some u:=fun {i u} hi e=>nx6.get e (by omega) (by omega);exact ⟨kp lj rw5.at_,rw5.len,fun i r e=>let ⟨w,e1,e2⟩:=rw5.row i r e; ⟨w,e1,kp (lr r (zUt e)) e2⟩,rw5.nd,rw5.hj,rw5.ok⟩
   have nw6:=nw5.trans nx6;refine zC5.mpr (zA5.mpr (zAy.mpr (zBG.mpr ⟨_,rfl,?_⟩)));rw [zR,zA5,zAy];refine zE ex ?_;rw [zR,zBd];refine Ok.mono (zHR h nw6 rw6 hr5 hN0 (by omega) hl0 (by omega) lj lr) ?_;rintro d M7 ⟨rfl,nw7,_,rows7,rw7,hr7⟩;rw [zO];exact mid M7 rows7 _ hP rw7 hr7 (nw7.mono (by omega))
  ·rw [zUK (by simpa using w3),zj,zO];exact mid M5 zA _ hP rw5 hr5 (nw5.mono (by omega))
noncomputable def zC2:FS:=(zK (sIf (tst (fOp kEq (zY ze (zD (toD (zC 0)) (zD (toD (fC (.int 3))) zL))) (fC (.int 0)))) (zAO (zLE (zC 1))) zAZ)
  (zK (zi 2 (zAQ [3] (zAC (zD (toD (zC 1)) zL)) (gN 3) (tst (fOp kEq (zY ze (zD (toD (zC 0)) (zD (toD (fC (.int 2))) zL))) (fC (.int 1)))) (zC 3)))
  (zK (sIf (tst (fOp kEq (fB zh (zF (zC 2) zM)) (fC (.int 0)))) (zi 2 (zA1 (zD (toD (zY ze (zD (toD (zC 0)) (zD (toD (zC 1)) zL)))) zL))) zAZ)
  (zAO (fB zW (zF (zC 2) zM))))))
noncomputable def zB7:FF:=zGy (zBP 4 zC2)
theorem zRM (R:Nat):upD R = ((List.range R).map fun (k:Nat)=>(k:Int)).map D.int:=by
 unfold upD; rw [List.map_map]; rfl
theorem zRe {M:Mem} {n k q:Nat} {R:Nat} (h:Gen M n k q) (hq:q < 900000000) (r0:0 < R) (r1:R <= 1000) :
  Ok (zB7 [.ref n,.int R] M) fun d M'=>(∃ S,d = tI S /\ S.Pairwise (· < ·) /\ 0 < S.length /\ ∀ x ∈ S,0 <= x /\ x < (R:Int)) /\ Nw M M' n k (q + 1002) /\ M'.length = M.length:=by
 obtain ⟨hn,hk⟩:=h.lt;unfold zB7;suffices hh:Ok (zBP 4 zC2 [.ref n,.int R] M) fun d M'=>(∃ S,d = tI S /\ S.Pairwise (· < ·) /\ 0 < S.length /\ ∀ x ∈ S,0 <= x /\ x < (R:Int)) /\ Nw M M' n k (q + 1002) by
  refine zKq (Ok.mono hh ?_);rintro d M1 ⟨⟨S,rfl,r⟩,nw⟩;exact ⟨⟨zCs S,nw.len,nw.wf0 h⟩,⟨S,rfl,r⟩,nw.trim h,by rw [zVQ]; have:=nw.len; omega⟩
 rw [zAW];unfold zC2;show OkS (zK _ _ [some (.ref n),some (.int R),none,none] M) _;rw [zJ,zAE];refine zJr.mpr (zG9.mpr (zAh h (by omega) rfl rfl (by decide) (by decide) fun i M1 i0 i1 nw1 hl1=>zKe.mpr (zF3.mpr (zJf.mpr ?_))));by_cases hi:i = 0
 ·rw [zUH (by simpa using hi)];refine zn (d:=tI ((List.range R).map fun (k:Nat)=>(k:Int))) ?_ ?_
  ·unfold zLE zC;dsimp only [List.getElem?_cons_succ,List.getElem?_cons_zero];rw [zUH ⟨by omega,by omega⟩,zWm,zRM]; rfl
  ·rw [zA6];refine ⟨⟨_,rfl,?_,by simp; omega,fun x hx=>?_⟩,nw1.mono (by omega)⟩
   ·rw [List.pairwise_map];exact List.pairwise_lt_range.imp fun {a b} h=>by omega
   ·obtain ⟨y,hy,rfl⟩:=zUJ.mp hx;have:=List.mem_range.mp hy;omega
 ·rw [zUK (by simpa using hi),zj,zO,zJ,zc];refine zCz.mpr ⟨_,_,_,zAS (j:=(R:Nat)) rfl (by omega) (by omega),by rw [zAu]; exact zT (by omega),?_⟩;rw [zWm];refine Ok.mono (zB6 (I:=fun r acc M2=>∃ t,t <= R /\ r = zBp t (R - t) /\ (∃ c:List Int,acc = c.map D.int /\ c.Pairwise (· < ·) /\ ∀ x ∈ c,0 <= x /\ x < (t:Int)) /\ Nw M M2 n k (q + 1 + t) /\ M2.length = M.length) (Q:=fun acc M2=>(∃ c:List Int,acc = c.map D.int /\ c.Pairwise (· < ·) /\ ∀ x ∈ c,0 <= x /\ x < (R:Int)) /\ Nw M M2 n k (q + 1 + R) /\ M2.length = M.length) ?_ ?_ _ [] _ ⟨0,zUo _,by simp,⟨[],rfl,List.Pairwise.nil,fun _ h=>by cases h⟩,nw1,hl1⟩) ?_
  ·rintro x r acc M2 ⟨t,ht,e,⟨c,rfl,hp,hx⟩,nw2,hl2⟩;have hlt:t < R:=by
    rcases Nat.lt_or_ge t R with z | z
    ·exact z
    ·rw [show R - t = 0 by omega] at e; cases e
   rw [show R - t = (R - (t + 1)) + 1 by omega] at e;obtain ⟨rfl,rfl⟩:=zU6 e;refine ⟨zu,_,rfl,?_⟩;refine zJr.mpr (zG9.mpr (zAh nw2.gen (by omega) rfl rfl (by decide) (by decide) fun i M3 i0 i1 nw3 hl3=>zKe.mpr (zF3.mpr (zJf.mpr ?_))));have nwt:=nw2.trans nw3;by_cases h1:i = 1
   ·rw [zUH (by simpa using h1)];refine zBG.mpr ⟨.int (t:Nat),rfl,?_⟩;rw [zR];refine ⟨t + 1,hlt,rfl,⟨c ++ [(t:Int)],by simp,?_,fun x hx'=>?_⟩,nwt.mono (by omega),hl3.trans hl2⟩
    ·rw [List.pairwise_append];refine ⟨hp,by simp,fun a ha b hb=>?_⟩;have h1:=hx a ha;have h2:b = (t:Int):=by simpa using hb
     omega
    ·rcases zUS.mp hx' with z | z
     ·have:=hx x z; omega
     ·have:x = (t:Int):=by simpa using z
      omega
   ·rw [zUK (by simpa using h1)];exact ⟨t + 1,hlt,rfl,⟨c,rfl,hp,fun x hx'=>by have:=hx x hx'; omega⟩,nwt.mono (by omega),hl3.trans hl2⟩
  ·rintro acc M2 ⟨t,ht,e,⟨c,rfl,hp,hx⟩,nw2,hl2⟩;have:t = R:=by
    rcases Nat.lt_or_ge t R with z | z
    ·rw [show R - t = (R - (t + 1)) + 1 by omega] at e; cases e
    ·omega
   subst this;exact ⟨zu,⟨c,rfl,hp,hx⟩,nw2,hl2⟩
  ·rintro ys M2 ⟨⟨c,hc,hp,hx⟩,nw2,hl2⟩;rw [zWK] at hc;subst hc;refine zAP ?_;rw [zO];have nw3:=nw2.trans (nw2.gen.lst (c.map D.int) (zr _ _));have e3:(M2 ++ [MO.lst (c.map D.int)])[M2.length]? = some (.lst (c.map D.int)):=zBj _ _;have hj:M.length <= M2.length:=nw2.len;generalize M2 ++ [MO.lst (c.map D.int)] = M3 at nw3 e3;generalize M2.length = j at e3 hj;show OkS (zK _ _ [some (.ref n),some (.int R),some (.ref j),none] M3) _;rw [zJ,zAE];refine zE (zAJ (zI (zRq (c:=c) (j:=j) rfl e3) rfl (zN (zF3.mpr ⟨rfl,rfl⟩)))) ?_;by_cases hz:c = []
   ·subst hz;rw [zUH (by simp),zc];refine zDP.mpr (zA5.mpr (zAy.mpr (zAh nw3.gen (by omega) rfl rfl (by omega) (by omega) fun i M4 i0 i1 nw4 hl4=>?_)));rw [zR];refine zBd.mpr ⟨zT (by simp),zAP ?_⟩;rw [zO];have e4:(M4 ++ [MO.lst [D.int i]])[M4.length]? = some (.lst ([i].map D.int)):=zBj _ _;refine zn (zAe (x:=.dat (.ref M4.length)) rfl (zd e4)) ⟨⟨[i],rfl,by simp,by simp,fun x hx=>?_⟩,((nw3.trans nw4).trans (nw4.gen.lst _ rfl)).mono (by omega)⟩;have:x = i:=by simpa using hx
    omega
   ·have hl:0 < c.length:=List.length_pos_iff.mpr hz;rw [zUK (by simp; exact hz),zj,zO];exact zn (zAe (x:=.dat (.ref j)) rfl (zd e3)) ⟨⟨c,rfl,hp,hl,hx⟩,nw3.mono (by omega)⟩
noncomputable def zDe:FS:=(zK (sIf (tst (fOp (kIs false) (zC 2) (fC .non))) (zAO (fOp kLe (fB zh (zF (zC 0) zM)) (zC 1))) zAZ)
  (zAO (fB zQg (zF (zAQ [3] (zBt (zC 0)) (gN 3) zAp (fOp (kIn false) (zC 3) (zC 2))) zM))))
noncomputable def zBI:FF:=zCm (zBP 4 zDe)
noncomputable def zEl:FS:=(zK (zi 4 (zY zA7 (zD (toD (zC 0)) (zD (toD (zC 1)) zL))))
  (zK (zBH (zBt (zY zBQ (zD (toD (zC 0)) (zD (toD (zC 1)) zL)))) (zDy 5 6) (sIf (tst (zY zBI (zD (toD (zC 5)) (zD (toD (zC 2)) (zD (toD (zC 3)) zL))))) (zAO (zAd (zD (toD (fC (.str "word"))) (zD (toD (zC 6)) (zD (toD (fSl (zC 4) zD6 (zDJ (fB zh (zF (zC 6) zM))))) zL))))) zAZ))
  (zAO (zAd (zD (toD (fC (.str "none"))) (zD (toD (zC 4)) zL))))))
noncomputable def zBi:FF:=zCm (zBP 7 zEl)
theorem zOm {zA:List (List Int)} {l:Nat} (m:IsM zA l) (h9:zA.length <= 9) {R:List Int} (sR:IsS zA R):∃ r,run zA l (fun _=>false) 1000 [R] [(R,[])] [] = some r /\ r.1 = none:=by
 obtain ⟨r,hr⟩:=zJI (due:=fun _=>false) m h9 1000 (seen:=[R]) (level:=[(R,[])]) (acc:=[]) ⟨by simp,fun S hS=>by rw [zUU.mp hS]; exact sR,fun p hp=>by rw [zUU.mp hp]; exact sR⟩ (by simp);exact ⟨r,hr,zNy (fun _=>rfl) 1000 hr⟩
theorem zIb {zA:List (List Int)} {l:Nat} (m:IsM zA l) (h9:zA.length <= 9) {due:List Int -> Bool}:∀ (n:Nat) {seen:List (List Int)} {level:Lvl} {acc:List (List (List Int))} {r:Option (List Int) × List (List (List Int))},Met zA seen level -> level.length <= 600 -> (∀ L ∈ acc,L.length <= 600 /\ ∀ t ∈ L,IsS zA t) -> run zA l due n seen level acc = some r -> ∀ L ∈ r.2,L.length <= 600 /\ ∀ t ∈ L,IsS zA t
 | 0,_,_,_,_,_,_,_,h=>by cases h
 | n + 1,seen,level,acc,r,mt,hz,ha,h=>by
  unfold run at h;split at h
  ·cases h; exact ha
  ·split at h
   ·cases h; exact ha
   ·have g:=mt.next m;have hzz:(zAN zA l seen level).2.length <= 600:=by
     have h1:=zBL g.nd g.st h9;rw [g.eq,zUI,zUB] at h1;omega
    refine zIb m h9 n g.met hzz (fun L hL=>?_) h;rcases zUS.mp hL with z | z
    ·exact ha L z
    ·rw [zUU.mp z];refine ⟨by rw [zUB]; exact hz,fun t ht=>?_⟩;obtain ⟨p,hp,rfl⟩:=zUJ.mp ht;exact mt.lv p hp
theorem zN7 {acc:List (List (List Int))} (h1:acc.length <= 100000) (h2:∀ L ∈ acc,L.length <= 100000 /\ ∀ t ∈ L,t.length <= 100000):Pa 3 (shD acc):=by
 refine Pa.tup (by rw [zUB]; exact h1) fun x hx=>?_;obtain ⟨L,hL,rfl⟩:=zUJ.mp hx;refine Pa.tup (by rw [zUB,(zBm L).length_eq]; exact (h2 L hL).1) fun x hx=>?_;obtain ⟨t,ht,rfl⟩:=zUJ.mp hx;refine Pa.tup (by rw [zUB]; exact (h2 L hL).2 t ((zBm L).mem_iff.mp ht)) fun x hx=>?_;obtain ⟨i,_,rfl⟩:=zUJ.mp hx;exact Pa.int 0 i
theorem zTE {w:List Int} (h:w.length <= 100000):Pa 1 (tI w):=Pa.tup (by rw [zUB]; exact h) fun x hx=>by
 obtain ⟨i,_,rfl⟩:=zUJ.mp hx;exact Pa.int 0 i
theorem zPZ {f g:FE} {σ:Sd} {M:Mem} {i j:Int} (hf:f σ M = some (.dat (.int i),M)) (hg:g σ M = some (.dat (.int j),M)):fB zFJ (zF f (zF g zM)) σ M = some (.dat (.int (if j > i then j else i)),M):=by
 unfold fB zF zM; rw [hf]; dsimp only; rw [hg]; rfl
def zKA (zA:List (List Int)) (l:Nat) (R:List Int) (r0:Option (List Int) × List (List (List Int))) (due:List Int -> Bool):Option (List Int) × List (List (List Int)) :=
 match (zBV zA l 1000 [R] [(R,[])]).find? fun p=>due p.1 with | some p=>(some p.2,r0.2.take p.2.length) | none=>(none,r0.2)
section
variable {zA:List (List Int)} {l:Nat} {R:List Int}
theorem zPx {S:List Int} {many:Int} {M:Mem}:zBI [tI S,.int many,.non] M = some (.bl (decide ((S.length:Int) <= many)),M):=by
 refine zN ?_;unfold zBI;refine zCM (by unfold D.unds D.unds D.unds D.unds; rw [zCG]; rfl) ?_;rw [zAW];unfold zDe;show OkS (zK _ _ [some (tI S),some (.int many),some .non,none] []) _;refine zH1 (zAJ (zI (x:=.dat .non) (y:=.dat .non) rfl rfl rfl)) ?_;have e:=zAm (f:=zC 0) (σ:=[some (tI S),some (.int many),some .non,none]) (M:=[]) (x:=.dat (tI S)) rfl zAG;rw [zUB] at e;exact zn (zI e rfl (zN (zSB.mpr ⟨rfl,rfl⟩))) ⟨rfl,rfl,rfl⟩
theorem zLU {xs:List D} {q:Nat} (h:q <= xs.length):L3.zE1 xs none (some (q:Int)) = xs.take q:=by
 have s:HT.sIx xs.length xs.length (some (q:Int)) = min q xs.length:=HT.zPj xs.length xs.length q;have z:HT.sIx xs.length 0 none = 0:=rfl;unfold L3.zE1;rw [s,z];simp only [List.drop_zero,Nat.sub_zero];rw [Nat.min_eq_left h]
theorem zJk (m:IsM zA l) (h9:zA.length <= 9) (hl9:l <= 1000) (sR:IsS zA R) {many:Int} {goal:D} {due:List Int -> Bool} (hg:D.und 0 goal = true) (hfit:∀ S M,IsS zA S -> zBI [tI S,.int many,goal] M = some (.bl (due S),M)) {r0:Option (List Int) × List (List (List Int))} (hr:run zA l (fun _=>false) 1000 [R] [(R,[])] [] = some r0) {M:Mem} :
  zBi [mD zA,tI R,.int many,goal] M = some (zET (zKA zA l R r0 due),M):=by
 have mt:Met zA [R] [(R,[])]:=⟨by simp,fun S hS=>by rw [zUU.mp hS]; exact sR,fun p hp=>by rw [zUU.mp hp]; exact sR⟩;have hf:=zGB (due:=due) 1000 (fun s hs=>by rw [zUU.mp hs]; rfl) hr;refine zN ?_;unfold zBi;refine zCM (by unfold D.unds D.unds D.unds D.unds D.unds; rw [zDd,zCG,hg]; rfl) ?_;rw [zAW];unfold zEl;show OkS (zK _ _ [some (mD zA),some (tI R),some (.int many),some goal,none,none,none] []) _;refine zBE (zBO (zm rfl (zo rfl)) (zGG m h9 hl9 sR hr)) ?_;show OkS (zK _ _ [some (mD zA),some (tI R),some (.int many),some goal,some (shD r0.2),none,none] []) _;rw [zJ,zAY];obtain ⟨d,M1,ew,j,rfl,ej⟩:=zHI m h9 hl9 sR [];refine ⟨_,_,_,zC1 (x:=.dat (.ref j)) (by unfold zY; rw [zm (d:=mD zA) rfl (zo (d:=tI R) rfl)]; dsimp only; rw [ew]) (zd ej),?_⟩;generalize hF:zBV zA l 1000 [R] [(R,[])] = F at ej hf;have hFs:∀ p ∈ F,IsS zA p.1:=fun p hp=>zK3 m 1000 mt p (by rw [hF]; exact hp);refine zA9 (I:=fun r σ M'=>M' = M1 /\ (∃ y5 y6,σ = [some (mD zA),some (tI R),some (.int many),some goal,some (shD r0.2),y5,y6]) /\ ∃ (done rest:Lvl),r = rest.map wD /\ done ++ rest = F /\ ∀ p ∈ done,due p.1 = false) ?_ ?_ _ _ _ ⟨rfl,⟨_,_,rfl⟩,[],F,rfl,rfl,fun _ h=>by cases h⟩
 ·rintro x r σ M' ⟨rfl,⟨y5,y6,rfl⟩,done,rest,er,hd,nd⟩;cases rest with
  | nil=>cases er
  | cons sw rest=>
   obtain ⟨rfl,rfl⟩:=zU6 er;have hs:sw ∈ F:=by rw [<- hd]; simp
   refine ⟨.inl ej,_,rfl,?_⟩;show OkS (sIf _ _ _ [some (mD zA),some (tI R),some (.int many),some goal,some (shD r0.2),some (tI sw.1),some (tI sw.2)] M') _;rw [zAE];refine zE (zAJ (zBO (zm (d:=tI sw.1) rfl (zm (d:=.int many) rfl (zo (d:=goal) rfl))) (hfit _ _ (hFs sw hs)))) ?_;cases hdue:due sw.1 with
   | true=>
    rw [zUH rfl];have hfind:F.find? (fun p=>due p.1) = some sw:=by
     rw [<- hd,List.find?_append,List.find?_eq_none.mpr (fun p hp=>by rw [nd p hp]; simp)];simp [hdue]
    rw [hfind] at hf;have hlen:sw.2.length <= r0.2.length:=by
     have h1:=zIp 1000 hf rfl;rw [zVQ] at h1;omega
    have el:=zAm (f:=zC 6) (σ:=[some (mD zA),some (tI R),some (.int many),some goal,some (shD r0.2),some (tI sw.1),some (tI sw.2)]) (M:=M') (x:=.dat (tI sw.2)) rfl zAG;rw [zUB] at el;have esl:fSl (zC 4) zD6 (zDJ (fB zh (zF (zC 6) zM))) [some (mD zA),some (tI R),some (.int many),some goal,some (shD r0.2),some (tI sw.1),some (tI sw.2)] M' = some (.dat (shD (r0.2.take sw.2.length)),M'):=by
     refine zN (zQJ.mpr (zBG.mpr ⟨shD r0.2,rfl,zH9.mpr (zIy.mpr (zE el (zIO.mpr ?_)))⟩));refine zE (a:=.dat (shD (r0.2.take sw.2.length))) (M:=M') ?_ ⟨rfl,rfl⟩;unfold kSl shD;dsimp only [zBn];rw [zLU (by rw [zUB]; exact hlen),List.map_take]
    have e6:zAd (zD (toD (fC (.str "word"))) (zD (toD (zC 6)) (zD (toD (fSl (zC 4) zD6 (zDJ (fB zh (zF (zC 6) zM))))) zL))) [some (mD zA),some (tI R),some (.int many),some goal,some (shD r0.2),some (tI sw.1),some (tI sw.2)] M' = some (.dat (.tup [.str "word", tI sw.2,shD (r0.2.take sw.2.length)]),M') :=
     zMH (zm (d:=.str "word") rfl (zm (d:=tI sw.2) rfl (zo esl))) (by simp)
    refine zn e6 ?_;show nxP _ _ (.ret _) _ _;rw [zA6];have e7:zET (zKA zA l R r0 due) = .tup [.str "word", tI sw.2,shD (r0.2.take sw.2.length)]:=by
     unfold zKA; rw [hF,hfind]; rfl
    exact ⟨by rw [<- e7]; exact zD8 _,e7.symm,rfl⟩
   | false=>
    rw [zUK zUO,zj];refine ⟨rfl,⟨_,_,rfl⟩,done ++ [sw],rest,rfl,by rw [<- hd]; simp,fun p hp=>?_⟩;rcases zUS.mp hp with z | z
    ·exact nd p z
    ·rw [zUU.mp z]; exact hdue
 ·rintro σ M' ⟨rfl,⟨y5,y6,rfl⟩,done,rest,er,hd,nd⟩;have:rest = []:=by cases rest with | nil=>rfl | cons _ _=>cases er
  subst this;rw [zUm] at hd;subst hd;refine ⟨.inl ej,?_⟩;rw [zO];have hfind:done.find? (fun p=>due p.1) = none:=List.find?_eq_none.mpr fun p hp=>by rw [nd p hp]; simp
  have e7:zET (zKA zA l R r0 due) = .tup [.str "none", shD r0.2]:=by
   unfold zKA; rw [hF,hfind]; rfl
  refine zn (zMH (zm (d:=.str "none") rfl (zo (d:=shD r0.2) rfl)) (by simp)) ⟨by rw [<- e7]; exact zD8 _,e7.symm,rfl⟩
theorem zPc {r:Option (List Int) × List (List (List Int))} (h0:∀ w,r.1 = some w -> w.length <= 100000) (h1:r.2.length <= 100000) (h2:∀ L ∈ r.2,L.length <= 100000 /\ ∀ t ∈ L,t.length <= 100000):Pa 4 (zET r):=by
 unfold zET;split
 ·rename_i w hw;refine Pa.tup (by simp) fun x hx=>?_;simp only [zUE,zUX,or_false] at hx;rcases hx with rfl | rfl | rfl
  ·exact Pa.str 3 _
  ·exact (zTE (h0 w hw)).mono (by decide)
  ·exact zN7 h1 h2
 ·refine Pa.tup (by simp) fun x hx=>?_;simp only [zUE,zUX,or_false] at hx;rcases hx with rfl | rfl
  ·exact Pa.str 3 _
  ·exact zN7 h1 h2
theorem zPa (m:IsM zA l) (h9:zA.length <= 9) (sR:IsS zA R) {due:List Int -> Bool}:∃ r0,run zA l (fun _=>false) 1000 [R] [(R,[])] [] = some r0 /\ run zA l due 1000 [R] [(R,[])] [] = some (zKA zA l R r0 due) /\ Pa 4 (zET (zKA zA l R r0 due)):=by
 obtain ⟨r0,hr,_⟩:=zOm m h9 sR;have mt:Met zA [R] [(R,[])]:=⟨by simp,fun S hS=>by rw [zUU.mp hS]; exact sR,fun p hp=>by rw [zUU.mp hp]; exact sR⟩;have hf:=zGB (due:=due) 1000 (fun s hs=>by rw [zUU.mp hs]; rfl) hr;refine ⟨r0,hr,hf,zPc (fun w hw=>?_) (zUT (zE8 1000 hf) (by simp)) fun L hL=>?_⟩
 ·have h1:=zIp 1000 hf hw;have h2:=zE8 1000 hf;simp only [zVW] at h2;omega
 ·have h1:=zIb m h9 1000 mt (by simp) (fun _ h=>by cases h) hf L hL;exact ⟨by have:=h1.1; omega,fun t ht=>by have:=(h1.2 t ht).len; omega⟩
end
noncomputable def zBc:List D -> FF:=zTG (toD (fOp kLe (fB zh (zF (zC 0) zM)) (zC 1)))
noncomputable def zCX:FS:=(zAO (zFi [2] (zBJ zBc) (zD (toD (zC 0)) (zD (toD (zC 1)) zL)) zL))
noncomputable def zAi:FF:=zCm (zBP 3 zCX)
noncomputable def zMq:FS:=(zK (zi 1 (zY zBS (zD (toD (zC 0)) zL)))
  (zK (zBH (zAC (zD (toD (fC (.int 2))) zL)) (gN 2) (zK (zi 3 (zY zAq (zD (toD (zC 1)) (zD (toD (fC (.int 9))) (zD (toD (fC (.int 4))) zL)))))
  (zK (zi 4 (zY zB7 (zD (toD (zC 1)) (zD (toD (fB zh (zF (zC 3) zM))) zL))))
  (zK (zi 5 (zA1 (zD (toD (fC (.int 1))) (zD (toD (fOp zAc (fC (.int 1)) (zY ze (zD (toD (zC 1)) (zD (toD (fOp zAc (fB zh (zF (zC 3) zM)) (fC (.int 2)))) zL))))) (zD (toD (fB zh (zF (zC 4) zM))) zL)))))
  (zBH (zBt (fOp zDL (zC 5) (zA1 (zD (toD (fB zFJ (zF (fC (.int 1)) (zF (fOp zEx (fB zh (zF (zC 4) zM)) (fC (.int 1))) zM)))) (zD (toD (fC (.int 1))) zL))))) (gN 6) (zK (zi 7 (zY zBi (zD (toD (zC 3)) (zD (toD (zC 4)) (zD (toD (zC 6)) (zD (toD (fC .non)) zL))))))
  (sIf (zHB (tst (zY zCg (zD (toD (zY zAi (zD (toD (zC 3)) (zD (toD (zC 4)) (zD (toD (zC 6)) zL))))) (zD (toD (zC 7)) zL))))) (zAO (fC (.bl false))) zAZ)))))))
  (zAO (fC (.bl true)))))
noncomputable def zEt:FF:=zBP 8 zMq
section
variable {zA:List (List Int)} {l:Nat} {R:List Int}
theorem zGN (m:IsM zA l) (h9:zA.length <= 9) (hl9:l <= 1000) (sR:IsS zA R) {many:Int} {r:Option (List Int) × List (List (List Int))} (hr:run zA l (fun S=>decide ((S.length:Int) <= many)) 1000 [R] [(R,[])] [] = some r) {M:Mem}:zAi [mD zA,tI R,.int many] M = some (zET r,M):=by
 refine zN ?_;unfold zAi;refine zCM (by unfold D.unds D.unds D.unds D.unds; rw [zDd,zCG]; rfl) ?_;rw [zAW];unfold zCX;have hG:∀ S M',IsS zA S -> zBc [.int many] [tI S] M' = some (.bl (decide ((S.length:Int) <= many)),M'):=fun S M' _=>by
  have e:=zAm (f:=zC 0) (σ:=[some (tI S),some (.int many)]) (M:=M') (x:=.dat (tI S)) rfl zAG;rw [zUB] at e;have e2:fOp kLe (fB zh (zF (zC 0) zM)) (zC 1) [some (tI S),some (.int many)] M' = some (.dat (.bl (decide ((S.length:Int) <= many))),M'):=zI e rfl (zN (zSB.mpr ⟨rfl,rfl⟩));show toD (fOp kLe (fB zh (zF (zC 0) zM)) (zC 1)) [some (tI S),some (.int many)] M' = _;generalize fOp kLe (fB zh (zF (zC 0) zM)) (zC 1) = ff at e2;unfold toD; rw [e2]
 have e:=zNk (idx:=[2]) (mm:=zBJ zBc) (cs:=[.int many]) (g1:=zD (toD (zC 0)) (zD (toD (zC 1)) zL)) (g2:=zL) (σ:=[some (mD zA),some (tI R),some (.int many)]) (M:=[]) (M1:=[]) (M2:=[]) (ds1:=[mD zA,tI R]) (ds2:=[]) (d:=zET r) (zm rfl (zo rfl)) rfl rfl fun lm=>zIP (due:=fun S=>decide ((S.length:Int) <= many)) m h9 hl9 hG rfl sR hr;exact zn e ⟨zD8 _,rfl,rfl⟩
theorem zQS (m:IsM zA l) (h9:zA.length <= 9) (hl9:l <= 1000) (sR:IsS zA R) {many:Int} {M:Mem}:∃ d,zBi [mD zA,tI R,.int many,.non] M = some (d,M) /\ zAi [mD zA,tI R,.int many] M = some (d,M) /\ zCg [d,d] M = some (.bl true,M):=by
 obtain ⟨r0,hr,hf,hp⟩:=zPa (due:=fun S=>decide ((S.length:Int) <= many)) m h9 sR;exact ⟨_,zJk m h9 hl9 sR rfl (fun S M _=>zPx) hr,zGN m h9 hl9 sR hf,zJ3 4 _ M hp⟩
end
theorem zOI (ns:List Int) (h:ns.length <= 63):∃ M',zEt [.ref 0] [.fro (ns.map D.int)] = some (.bl true,M'):=by
 suffices hh:Ok (zEt [.ref 0] [.fro (ns.map D.int)]) fun d _=>d = .bl true by
  obtain ⟨d,M',e,rfl⟩:=hh; exact ⟨M',e⟩
 unfold zEt;rw [zAW];unfold zMq;show OkS (zK _ _ [some (.ref 0),none,none,none,none,none,none,none] [.fro (ns.map D.int)]) _;rw [zJ,zc];refine zC5.mpr (zE (zo (d:=.ref 0) rfl) ?_);refine Ok.mono (zOM h) ?_;rintro d M1 ⟨rfl,gen1,_⟩;rw [zR,zO];show OkS (zK _ _ [some (.ref 0),some (.ref 1),none,none,none,none,none,none] M1) _;rw [zJ,zAY];refine ⟨_,_,_,zAS (j:=2) rfl (by decide) (by decide),?_⟩;refine zCw (n:=2) (I:=fun i σ M=>(∃ y2 y3 y4 y5 y6 y7,σ = [some (.ref 0),some (.ref 1),y2,y3,y4,y5,y6,y7]) /\ Gen M 1 2 (5000 * i)) ?_ ?_ _ _ ⟨⟨_,_,_,_,_,_,rfl⟩,gen1⟩
 ·rintro i σ M hi ⟨⟨y2,y3,y4,y5,y6,y7,rfl⟩,gen⟩;refine ⟨_,rfl,?_⟩;show OkS (zK _ _ [some (.ref 0),some (.ref 1),some (.int (i:Nat)),y3,y4,y5,y6,y7] M) _;rw [zJ,zc];refine zC5.mpr (zE (zm (d:=.ref 1) rfl (zm (d:=.int 9) rfl (zo (d:=.int 4) rfl))) ?_);refine Ok.mono (zKR gen (by omega) (by decide) (by decide) (by decide) (by decide)) ?_;rintro d M3 ⟨⟨zA,l,rfl,mm,hr,hl⟩,nw3,hl3⟩;rw [zR,zO];show OkS (zK _ _ [some (.ref 0),some (.ref 1),some (.int (i:Nat)),some (mD zA),y4,y5,y6,y7] M3) _;have lenE:∀ {σ:Sd} {M:Mem},σ[3]? = some (some (mD zA)) -> fB zh (zF (zC 3) zM) σ M = some (.dat (.int zA.length),M):=fun {σ M} e=>by
   have:=zAm (f:=zC 3) (σ:=σ) (M:=M) (x:=.dat (mD zA)) (by unfold zC; rw [e]) zAG;rw [this,zUB]
  have r0:=mm.r0;rw [zJ,zc,zC5];refine zE (zm (d:=.ref 1) rfl (zo (lenE rfl))) ?_;refine Ok.mono (zRe nw3.gen (by omega) (by omega) (by omega)) ?_;rintro d M4 ⟨⟨S,rfl,sp,s0,sm⟩,nw4,hl4⟩;have sS:IsS zA S:=⟨sp,s0,sm⟩;have hSl:=sS.len;rw [zR,zO];show OkS (zK _ _ [some (.ref 0),some (.ref 1),some (.int (i:Nat)),some (mD zA),some (tI S),y5,y6,y7] M4) _;have lenS:∀ {σ:Sd} {M:Mem},σ[4]? = some (some (tI S)) -> fB zh (zF (zC 4) zM) σ M = some (.dat (.int S.length),M):=fun {σ M} e=>by
   have:=zAm (f:=zC 4) (σ:=σ) (M:=M) (x:=.dat (tI S)) (by unfold zC; rw [e]) zAG;rw [this,zUB]
  rw [zJ,zc];refine zDP.mpr (zA5.mpr (zAy.mpr (zKe.mpr ?_)));rw [zR,zA5,zAy];refine zG9.mpr (zKe.mpr (zAh nw4.gen (by omega) rfl (zI (lenE rfl) rfl rfl) (by omega) (by omega) fun v M5 v0 v1 nw5 hl5=>zKg.mpr ?_));rw [zR,zA5,zAy];refine zE (lenS rfl) ?_;rw [zR,zBd];refine ⟨zT (by simp),zAP ?_⟩;rw [zO];have nw6:=nw5.trans (nw5.gen.lst ([1,1 + v,(S.length:Int)].map D.int) (zr _ _));have e6:(M5 ++ [MO.lst ([1,1 + v,(S.length:Int)].map D.int)])[M5.length]? = some (.lst ([1,1 + v,(S.length:Int)].map D.int)):=zBj _ _;show OkS (zBH _ _ _ [some (.ref 0),some (.ref 1),some (.int (i:Nat)),some (mD zA),some (tI S),some (.ref M5.length),y6,y7] (M5 ++ [MO.lst ([1,1 + v,(S.length:Int)].map D.int)])) _;generalize M5 ++ [MO.lst ([1,1 + v,(S.length:Int)].map D.int)] = M6 at nw6 e6;generalize M5.length = j at e6;rw [zAY];have emx:fB zFJ (zF (fC (.int 1)) (zF (fOp zEx (fB zh (zF (zC 4) zM)) (fC (.int 1))) zM)) [some (.ref 0),some (.ref 1),some (.int (i:Nat)),some (mD zA),some (tI S),some (.ref j),y6,y7] M6 = some (.dat (.int (if (S.length:Int) - 1 > 1 then (S.length:Int) - 1 else 1)),M6) :=
   zPZ rfl (zI (lenS rfl) rfl rfl)
  generalize (if (S.length:Int) - 1 > 1 then (S.length:Int) - 1 else 1) = mx at emx;have ect:fOp zDL (zC 5) (zA1 (zD (toD (fB zFJ (zF (fC (.int 1)) (zF (fOp zEx (fB zh (zF (zC 4) zM)) (fC (.int 1))) zM)))) (zD (toD (fC (.int 1))) zL))) [some (.ref 0),some (.ref 1),some (.int (i:Nat)),some (mD zA),some (tI S),some (.ref j),y6,y7] M6 = some (.fl ([1,1 + v,(S.length:Int),mx,1].map D.int),M6):=by
   refine zI (x:=.dat (.ref j)) rfl (zPr (ds:=[.int mx,.int 1]) (zm emx (zo (d:=.int 1) rfl)) (by simp)) ?_;unfold zDL zHo;dsimp only;rw [e6];dsimp only;rw [zUH (zT (by simp))];rfl
  refine ⟨_,_,_,zC1 ect zDT,?_⟩;refine zA9 (I:=fun r σ M'=>M' = M6 /\ (∃ y6 y7,σ = [some (.ref 0),some (.ref 1),some (.int (i:Nat)),some (mD zA),some (tI S),some (.ref j),y6,y7]) /\ ∃ c:List Int,r = c.map D.int) ?_ ?_ _ _ _ ⟨rfl,⟨_,_,rfl⟩,_,rfl⟩
  ·rintro x r σ M' ⟨rfl,⟨y6,y7,rfl⟩,c,hc⟩;obtain ⟨z,c',rfl,rfl,rfl⟩:=zDK hc;refine ⟨zu,_,rfl,?_⟩;show OkS (zK _ _ [some (.ref 0),some (.ref 1),some (.int (i:Nat)),some (mD zA),some (tI S),some (.ref j),some (.int z),y7] M') _;obtain ⟨d,q1,q2,q3⟩:=zQS mm (by omega) (by omega) sS (many:=z) (M:=M');refine zBE (zBO (zm rfl (zm rfl (zm rfl (zo rfl)))) q1) ?_;show OkS (sIf _ _ _ [some (.ref 0),some (.ref 1),some (.int (i:Nat)),some (mD zA),some (tI S),some (.ref j),some (.int z),some d] M') _;refine zN2 (zN (zLC.mpr (zE (zAJ (zBO (zm (zBO (zm rfl (zm rfl (zo rfl))) q2) (zo (d:=d) rfl)) q3)) ⟨rfl,rfl⟩))) ?_;exact ⟨rfl,⟨_,_,rfl⟩,c',rfl⟩
  ·rintro σ M' ⟨rfl,⟨y6,y7,rfl⟩,c,hc⟩;exact ⟨zu,⟨_,_,_,_,_,_,rfl⟩,((nw3.trans nw4).trans nw6).gen.mono (by omega)⟩
 ·rintro σ M ⟨⟨y2,y3,y4,y5,y6,y7,rfl⟩,gen⟩;rw [zO];exact zn rfl rfl
end Lae
set_option maxHeartbeats 4000000
namespace Lae
open PySem PySem.Spec PyProof.Rows L2 L3 Law
-- the text by places
def top (i:Nat):Stmt:=PySem.Challenge.pw_bringhome_k12_least_words.main.body.getD i (.Pass ⟨0,0,0,0⟩)
abbrev zEX:Stmt:=top 1
abbrev zCW:Stmt:=top 3
abbrev zDW:Stmt:=top 4
abbrev zA3:Stmt:=top 5
abbrev zCx:Stmt:=top 7
abbrev zDj:Stmt:=top 8
abbrev zBY:Stmt:=top 9
abbrev zDa:Stmt:=top 10
abbrev zB5:Stmt:=top 11
abbrev zEj:Stmt:=top 12
abbrev zDV:Stmt:=top 13
abbrev zCR:Stmt:=top 14
abbrev zCr:Stmt:=top 15
abbrev zDY:Stmt:=top 16
abbrev zEh:Stmt:=top 17
abbrev zBu:Stmt:=top 18
abbrev zNP:Stmt:=top 19
structure Txt (K:PySem.W.Frag) (mg:Str -> Option Value) where
  d_stepped:Df K mg "stepped" zEX ["machine", "rooms", "letter"]
  d_next_level:Df K mg "next_level" zCW ["machine", "level", "seen"]
  d_searched:Df K mg "searched" zDW ["machine", "rooms", "is_due"]
  d_least_word:Df K mg "least_word" zA3 ["machine", "rooms", "many"]
  d_law_begin:Df K mg "_law_begin" zCx ["_law_script"]
  d_law_next:Df K mg "_law_next" zDj ["_law_state", "_law_many"]
  d_law_exchanged:Df K mg "_law_exchanged" zBY ["_law_rows", "_law_joins"]
  d_law_goal:Df K mg "_law_goal" zDa ["_law_rows", "_law_room", "_law_letter", "_law_style"]
  d_law_machine:Df K mg "_law_machine" zB5 ["_law_state", "_law_most", "_law_upto"]
  d_law_set:Df K mg "_law_set" zEj ["_law_state", "_law_rooms"]
  d_law_step:Df K mg "_law_step" zDV ["_law_machine_here", "_law_rooms", "_law_letter"]
  d_law_levels:Df K mg "_law_levels" zCR ["_law_machine_here", "_law_rooms"]
  d_law_words:Df K mg "_law_words" zCr ["_law_machine_here", "_law_rooms"]
  d_law_fits:Df K mg "_law_fits" zDY ["_law_found", "_law_many", "_law_goal_set"]
  d_law_due:Df K mg "_law_due" zEh ["_law_machine_here", "_law_rooms", "_law_many", "_law_goal_set"]
  d_law_alike:Df K mg "_law_alike" zBu ["_law_found", "_law_due_here"]
  d_law:Df K mg "law" zNP ["_law_script"]
  z_tuple:mg "tuple" = none
  z_sorted:mg "sorted" = none
  z_range:mg "range" = none
  z_len:mg "len" = none
  z_list:mg "list" = none
  z_int:mg "int" = none
  z_all:mg "all" = none
  z_isinstance:mg "isinstance" = none
  z_str:mg "str" = none
  z_bool:mg "bool" = none
  z_zip:mg "zip" = none
  z_max:mg "max" = none
  tc_least_word:Addr
  tp_least_word:Addr
  t_least_word:PySem.W.tabIn K "least_word" = some (tc_least_word,tp_least_word)
  h_least_word:PySem.W.codeHdIn K tc_least_word tp_least_word = true
  c_least_word:d_least_word.fd.code = .ref tc_least_word
  kinds:Kinds K
section
variable {P:Program} {w:World} {K:PySem.W.Frag} {mg:Str -> Option Value} {base:Heap}
theorem zEQ {X:Cx} {scope sc:Scope} {own:List Nat} {N ps:List Str} (_:FnScope N ps sc) (hk:scope.kind = .function) (hs:X.env.scope = sc) (hN:X.N = N) (h1:zED sc scope = true) (h2:zFH N scope own = true):CompIn X scope own:=zEa hk hs hN h1 h2
theorem zMX {X:Cx} {scope sc sd:Scope} {own:List Nat} {N ps:List Str} (_:FnScope N ps sd) (hk:scope.kind = .function) (hs:X.env.scope = sc) (hN:X.N = N) (h1:zED sc scope = true) (h2:zFH N scope own = true):CompIn X scope own:=zEa hk hs hN h1 h2
set_option hygiene false in
local macro_rules | `(tactic| decreasing_trivial)=> `(tactic| repeat' first
  | refine zAt (pv _)
  | refine zAb ?_
  | refine zD5 ?_ ?_ (zG rfl)
  | refine zB9 ?_
  | refine zS4
  | refine zHz
  | refine zFE ?_ ?_
  | refine zEg ?_
  | refine zDp ?_ ?_ (zG rfl)
  | refine zFO
  | refine zEC
  | refine zTu ?_ ?_
  | refine zOR sc.nd rfl
  | refine zG0 ?_
  | refine zSl (by first | exact zJL T | exact zIk T | exact zKN T | exact zEP T | exact zIR T | exact zGL T | exact zGI T | exact zHM T | exact zIW T | exact zHy T | exact zFR T | exact zJj T | exact zJR T | exact zHZ T | exact zGO T) (hr.mono (by omega)) rfl ?_ ?_ (by decide) (zG rfl) (zAV rfl)
  | refine zKl rfl T.z_len ?_ (zG rfl) rfl
  | refine zS3
  | refine zHd
  | refine zP0 ?_ ?_ ?_
  | refine zTB ?_
  | refine zRn ?_ ?_
  | refine zL8 rfl T.z_range ?_ ?_ (zF1 rfl)
  | refine zSX hr.units0 ?_ ?_
  | refine zQC zOh PassesOwn.never rfl ?_ ?_ ?_
  | refine zOk rfl T.z_tuple ?_ (zG rfl) rfl
  | refine zQh (zLD hr) ?_ ?_
  | refine zSd ?_ ?_
  | refine zSN ?_
  | refine zRw ?_
  | refine zQ0 ?_
  | refine zSq
  | refine zNV
  | refine zR3 (zLD hr) ?_ ?_ ?_
  | refine zOb ?_ ?_
  | refine zGC ?_ ?_
  | refine zSU ?_ ?_
  | refine zKD (zC9 (by decide)) (zEQ sc rfl rfl rfl (by decide +kernel) (by decide +kernel)) rfl ?_ ⟨fun _ _ _ _ _=>?_,fun _ _ _ _ _=>?_,fun _ _ _ _ _=>?_⟩
  | refine zRO hr.units0 ?_ ?_
  | refine zSc ?_ ?_
  | refine zPs (zLD hr) ?_ ?_
  | refine zSp ?_ ?_
  | refine zTO ?_ ?_
  | refine zKr
  | refine zMr rfl ?_
  | refine zLd (zLD hr) ?_ ?_
  | refine zQC (zN3 (K:=K)) PassesOwn.never rfl ?_ ?_ ?_
  | refine zS6 ?_
  | refine zO0 _ PassesOwn.never ?_ ?_
  | refine zRU rfl T.z_int ?_ (zG rfl) rfl
  | refine zQo ?_ ?_
  | refine zSo ?_ ?_
  | refine zNR ?_ ?_ ?_
  | refine zPf ?_
  | refine zSF
  | refine zMf ?_
  | refine zOt
  | refine zPH ?_
  | refine zP6 ?_ ?_ ?_
  | refine zR4 (zC9 (by decide)) (zEQ sc rfl rfl rfl (by decide +kernel) (by decide +kernel)) rfl ?_ ⟨fun _ _ _ _ _=>?_,fun _ _ _ _ _=>?_,fun _ _ _ _ _=>?_⟩
  | refine zOp rfl rfl T.z_sorted ?_ (zG rfl) rfl
  | refine zRQ rfl T.z_list ?_ (zG rfl) rfl
  | refine zTD ?_ ?_
  | refine zPh ?_ ?_ ?_ ?_ ?_ ?_
  | refine zSM ?_ ?_
  | refine zMs ?_
  | refine zOG ?_ ?_
  | refine zJi ?_
  | refine zHU ?_ ?_
  | refine zNW ?_ ?_
  | refine zN0 rfl T.z_sorted ?_ (zG rfl) rfl
  | refine zTP ?_ ?_
  | refine zS8 ?_ ?_
  | refine zTi ?_ ?_
  | refine zQF rfl rfl T.z_all ?_ (zG rfl) rfl
  | refine zO8
  | refine zKD (zC9 (by decide)) (zMX sc rfl rfl rfl (by rfl) (by decide +kernel)) rfl ?_ ⟨fun _ _ _ _ _=>?_,fun _ _ _ _ _=>?_,fun _ _ _ _ _=>?_⟩
  | refine zRD rfl rfl T.z_tuple rfl T.z_range ?_ (zG rfl) rfl (zG rfl) rfl
  | refine zQV ?_
  | refine zL3 sc.nd rfl (by first | exact Or.inl rfl | exact Or.inr rfl) (by first | exact .inl rfl | exact .inr rfl) rfl (zC9 (by decide)) (zEQ sc rfl rfl rfl (by decide +kernel) (by decide +kernel)) rfl ?_ ⟨fun _ _ _ _ _=>?_,fun _ _ _ _ _=>?_,fun _ _ _ _ _=>?_⟩
  | refine zO7 rfl T.z_sorted ?_ (zG rfl) rfl
  | refine zOa ?_
  | refine zPb hL (hr.mono (by omega)) rfl ?_ ?_ (by first | exact Or.inl rfl | exact Or.inr (Or.inl rfl) | exact Or.inr (Or.inr rfl)) (by decide) (by decide) (zG rfl) (zAV rfl)
  | refine zPy rfl rfl T.z_sorted ?_ (zG rfl) rfl
  | refine zRc rfl rfl T.z_max ?_ (zG rfl) (zAV rfl)
  | refine zNZ ?_
  | refine zTQ sc.nd rfl ?_
  | refine zQw (zRX ?_ ?_)
  | refine zQw (zQE ?_ ?_)
  | refine zH4 ?_)
abbrev zMO:List Str:=["machine", "rooms", "letter", "room"]
theorem zKG:FnScope zMO ["machine", "rooms", "letter"] (zP zEX):=⟨rfl,rfl,rfl,by decide +kernel,rfl,by decide +kernel,by decide +kernel⟩
theorem zKN (T:Txt K mg):Od P w base 1 T.d_stepped zBh:=by
  unfold zBh;have sc:=zKG;exact zCN (zAn (n:=3) T.d_stepped.F sc rfl (fun cdv A outer s H E hr=>by
    unfold zEd;decreasing_trivial))
abbrev zIc:List Str:=["_law_script"]
theorem zHt:FnScope zIc ["_law_script"] (zP zCx):=⟨rfl,rfl,rfl,by decide +kernel,rfl,by decide +kernel,by decide +kernel⟩
theorem zHy (T:Txt K mg):Od P w base 1 T.d_law_begin zBS:=by
  unfold zBS;have sc:=zHt;exact zAn (n:=1) T.d_law_begin.F sc rfl (fun cdv A outer s H E hr=>by
    unfold zCo;decreasing_trivial)
abbrev zKQ:List Str:=["_law_state", "_law_many", "_law_cell", "_law_at", "_law_mixed", "_law_digit"]
theorem zI0:FnScope zKQ ["_law_state", "_law_many"] (zP zDj):=⟨rfl,rfl,rfl,by decide +kernel,rfl,by decide +kernel,by decide +kernel⟩
theorem zJL (T:Txt K mg):Od P w base 1 T.d_law_next ze:=by
  unfold ze;have sc:=zI0;exact zAn (n:=2) T.d_law_next.F sc rfl (fun cdv A outer s H E hr=>by
    unfold zDU;decreasing_trivial)
abbrev zEw:List Str:=["_law_rows", "_law_joins", "_law_letter", "_law_order", "_law_room", "_law_last"]
theorem zEZ:FnScope zEw ["_law_rows", "_law_joins"] (zP zBY):=⟨rfl,rfl,rfl,by decide +kernel,rfl,by decide +kernel,by decide +kernel⟩
theorem zEP (T:Txt K mg):Od P w base 1 T.d_law_exchanged zAU:=by
  unfold zAU;have sc:=zEZ;exact zAn (n:=2) T.d_law_exchanged.F sc rfl (fun cdv A outer s H E hr=>by
    unfold zBX;decreasing_trivial)
abbrev zJU:List Str:=["_law_rows", "_law_room", "_law_letter", "_law_style", "_law_rooms", "_law_cut"]
theorem zIu:FnScope zJU ["_law_rows", "_law_room", "_law_letter", "_law_style"] (zP zDa):=⟨rfl,rfl,rfl,by decide +kernel,rfl,by decide +kernel,by decide +kernel⟩
theorem zIR (T:Txt K mg):Od P w base 1 T.d_law_goal zAw:=by
  unfold zAw;have sc:=zIu;exact zAn (n:=4) T.d_law_goal.F sc rfl (fun cdv A outer s H E hr=>by
    unfold zDg;decreasing_trivial)
abbrev zJ0:List Str:=["_law_machine_here", "_law_rooms", "_law_letter", "_law_found", "_law_room"]
theorem zJH:FnScope zJ0 ["_law_machine_here", "_law_rooms", "_law_letter"] (zP zDV):=⟨rfl,rfl,rfl,by decide +kernel,rfl,by decide +kernel,by decide +kernel⟩
theorem zIk (T:Txt K mg):Od P w base 1 T.d_law_step zAF:=by
  unfold zAF;have sc:=zJH;exact zCN (zAn (n:=3) T.d_law_step.F sc rfl (fun cdv A outer s H E hr=>by
    unfold zDf;decreasing_trivial))
abbrev zJV:List Str:=["_law_found", "_law_many", "_law_goal_set", "_law_room"]
theorem zIe:FnScope zJV ["_law_found", "_law_many", "_law_goal_set"] (zP zDY):=⟨rfl,rfl,rfl,by decide +kernel,rfl,by decide +kernel,by decide +kernel⟩
theorem zIW (T:Txt K mg):Od P w base 1 T.d_law_fits zBI:=by
  unfold zBI;have sc:=zIe;exact zCN (zAn (n:=3) T.d_law_fits.F sc rfl (fun cdv A outer s H E hr=>by
    unfold zDe;decreasing_trivial))
abbrev zHm:List Str:=["machine", "level", "seen", "behind", "some", "word", "letter", "goal"]
theorem zGP:FnScope zHm ["machine", "level", "seen"] (zP zCW):=⟨rfl,rfl,rfl,by decide +kernel,rfl,by decide +kernel,by decide +kernel⟩
theorem zGL (T:Txt K mg):Od P w base 2 T.d_next_level zAk:=by
  unfold zAk;have sc:=zGP;exact zAn (n:=3) T.d_next_level.F sc rfl (fun cdv A outer s H E hr=>by
    unfold zCK;decreasing_trivial)
abbrev zGU:List Str:=["_law_state", "_law_most", "_law_upto", "_law_rooms", "_law_letters", "_law_style", "_law_rows", "_law_room", "_law_letter", "_law_row"]
theorem zFv:FnScope zGU ["_law_state", "_law_most", "_law_upto"] (zP zB5):=⟨rfl,rfl,rfl,by decide +kernel,rfl,by decide +kernel,by decide +kernel⟩
theorem zFR (T:Txt K mg):Od P w base 2 T.d_law_machine zAq:=by
  unfold zAq;have sc:=zFv;exact zKx (zAn (n:=3) T.d_law_machine.F sc rfl (fun cdv A outer s H E hr=>by
    unfold zBN;decreasing_trivial))
abbrev zLn:List Str:=["_law_state", "_law_rooms", "_law_some", "_law_room"]
theorem zJQ:FnScope zLn ["_law_state", "_law_rooms"] (zP zEj):=⟨rfl,rfl,rfl,by decide +kernel,rfl,by decide +kernel,by decide +kernel⟩
theorem zJj (T:Txt K mg):Od P w base 2 T.d_law_set zB7:=by
  unfold zB7;have sc:=zJQ;exact zKx (zAn (n:=2) T.d_law_set.F sc rfl (fun cdv A outer s H E hr=>by
    unfold zC2;decreasing_trivial))
abbrev zHG:List Str:=["_law_machine_here", "_law_rooms", "_law_met", "_law_told", "_law_behind", "_law_one", "_law_letter", "_law_goal_here", "_law_level"]
theorem zGQ:FnScope zHG ["_law_machine_here", "_law_rooms"] (zP zCR):=⟨rfl,rfl,rfl,by decide +kernel,rfl,by decide +kernel,by decide +kernel⟩
theorem zGI (T:Txt K mg):Od P w base 2 T.d_law_levels zA7:=by
  unfold zA7;have sc:=zGQ;exact zCN (zAn (n:=2) T.d_law_levels.F sc rfl (fun cdv A outer s H E hr=>by
    unfold zCP;decreasing_trivial))
abbrev zIX:List Str:=["_law_machine_here", "_law_rooms", "_law_met", "_law_told", "_law_at", "_law_letter", "_law_goal_here"]
theorem zHP:FnScope zIX ["_law_machine_here", "_law_rooms"] (zP zCr):=⟨rfl,rfl,rfl,by decide +kernel,rfl,by decide +kernel,by decide +kernel⟩
theorem zHM (T:Txt K mg):Od P w base 2 T.d_law_words zBQ:=by
  unfold zBQ;have sc:=zHP;exact zAn (n:=2) T.d_law_words.F sc rfl (fun cdv A outer s H E hr=>by
    unfold zCl;decreasing_trivial)
abbrev zJ8:List Str:=["machine", "rooms", "is_due", "seen", "level", "shown", "some", "word"]
theorem zI1:FnScope zJ8 ["machine", "rooms", "is_due"] (zP zDW):=⟨rfl,rfl,rfl,by decide +kernel,rfl,by decide +kernel,by decide +kernel⟩
theorem zIr (T:Txt K mg) {gL:List D -> FF} {lL:Lm} (hL:LamOk P w K mg base 1 lL 1 gL):Od P w base 3 T.d_searched (zBJ gL lL):=by
  unfold zBJ;have sc:=zI1;exact zCN (zAn (n:=3) T.d_searched.F sc rfl (fun cdv A outer s H E hr=>by
    unfold zCS;decreasing_trivial))
abbrev zMd:List Str:=["_law_machine_here", "_law_rooms", "_law_many", "_law_goal_set", "_law_all_levels", "_law_found", "_law_word"]
theorem zKH:FnScope zMd ["_law_machine_here", "_law_rooms", "_law_many", "_law_goal_set"] (zP zEh):=⟨rfl,rfl,rfl,by decide +kernel,rfl,by decide +kernel,by decide +kernel⟩
theorem zJR (T:Txt K mg):Od P w base 3 T.d_law_due zBi:=by
  unfold zBi;have sc:=zKH;exact zCN (zAn (n:=4) T.d_law_due.F sc rfl (fun cdv A outer s H E hr=>by
    unfold zEl;decreasing_trivial))
abbrev zHh:List Str:=["machine", "rooms", "many"]
theorem zGX:FnScope zHh ["machine", "rooms", "many"] (zP zA3):=⟨rfl,rfl,rfl,by decide +kernel,rfl,by decide +kernel,by decide +kernel⟩
theorem zFr (T:Txt K mg) {l:Lm} (h:zQU base l zA3 ["many"]):LamOk P w K mg base 1 l 1 zBc :=
  (zQf (k:=0) (N:=["some", "many"]) (ps:=["some"]) h ⟨rfl,rfl,rfl,by decide +kernel,rfl,by decide +kernel,by decide +kernel,by decide +kernel,fun _ _ _ _ _=>zRG fun _=>rfl⟩ (fun q cd cl A outer s H hr=>zAb (zS8 (zKl rfl T.z_len (zDp (zAt (pv 0)) zFO (zG rfl)) (zG rfl) rfl) (zAt (pv 1))))).mono (by omega)
theorem zGO (T:Txt K mg):Od P w base 4 T.d_least_word zAi:=by
  unfold zAi;exact zCN (zPq (n:=3) T.d_least_word.F zGX rfl T.c_least_word (fun A outer s H E hr=>by
    unfold zCX;exact (zEg (zG0 (zOn (fs:=["many"]) (idx:=[2]) (fun base' l hA=>zIr T (zFr T hA)) (fun _=>rfl) (hr.mono (by omega)) rfl T.d_searched.m T.d_searched.F.kp T.d_searched.b (zH7 (zAb (zAt (pv 0))) (zH7 (zAb (zAt (pv 1))) (zNj (y := "least_word") (sc0:=zP zA3) (by decide) T.t_least_word rfl T.h_least_word rfl (by decide +kernel) zHz rfl rfl (zG rfl)) (zG rfl)) (zG rfl)) (zRo (zB9 (zB9 zEC)) zEC rfl) rfl (zTX ⟨rfl,rfl,by decide +kernel⟩) (by decide) (zG rfl) (zAV rfl))))))
abbrev zEn:List Str:=["_law_found", "_law_due_here", "_law_one", "_law_other"]
theorem zCQ:FnScope zEn ["_law_found", "_law_due_here"] (zP zBu):=⟨rfl,rfl,rfl,by decide +kernel,rfl,by decide +kernel,by decide +kernel⟩
theorem zDH (T:Txt K mg):∀ n:Nat,FnOk P w K mg base CX0 (n + 0) T.d_law_alike.f T.d_law_alike.fd ["_law_found", "_law_due_here"] (spF K 2 (zAA n))
  | 0=>zPu
  | n + 1=>by
    have hrec:=zDH T n;unfold zAA;rw [show n + 1 + 0 = (n + 0) + 1 by omega];exact zAn (n:=2) T.d_law_alike.F zCQ rfl (fun cdv A outer s H E hr=>by
      unfold zB1;exact (zFE (zP0 (zH4 (zGj T.kinds (by decide) rfl T.z_isinstance rfl T.z_tuple (by rfl) (by decide) (by decide) (zAt (pv 1)) (zG rfl) (zG rfl) (zAV rfl))) (zFE (zP0 (zQw (zQE (zNZ (zH4 (zGj T.kinds (by decide) rfl T.z_isinstance rfl T.z_tuple (by rfl) (by decide) (by decide) (zAt (pv 0)) (zG rfl) (zG rfl) (zAV rfl)))) (zMs (zSG hr.units0 (zKl rfl T.z_len (zDp (zAt (pv 0)) zFO (zG rfl)) (zG rfl) rfl) (zKl rfl T.z_len (zDp (zAt (pv 1)) zFO (zG rfl)) (zG rfl) rfl))))) (zEg (zG0 zSq)) zHd)
    (zEg (zG0 (zQF rfl rfl T.z_all (zDp (zKD (zMI (i:=2) (j:=3) (by decide) (by decide)) (zEa (sc:=zP zBu) (N:=zEn) rfl rfl rfl (by decide +kernel) (by decide +kernel)) rfl (zQ3 rfl T.z_zip (zD5 (zAb (zAt (pv 0))) (zD5 (zAb (zAt (pv 1))) zHz (zG rfl)) (zG rfl)) (zOV rfl rfl) (zF1 rfl)) ⟨fun _ _ _ _ _=>(zMr rfl (zGC (zOR (i:=2) zCQ.nd rfl) (zGC (zOR (i:=3) zCQ.nd rfl) zKr))),fun _ _ _ _ _=>zNV,fun _ _ _ _ _=>(zSl hrec (hr.mono (by omega)) rfl (zD5 (zAb (zAt (pv 2))) (zD5 (zAb (zAt (pv 3))) zHz (zG rfl)) (zG rfl)) (zB9 (zB9 zEC)) (by decide) (zG rfl) (zAV rfl))⟩) zFO (zG rfl)) (zG rfl) rfl)))) zHd)
    (zFE (zP0 (zH4 (zGj T.kinds (by decide) rfl T.z_isinstance rfl T.z_str (by rfl) (by decide) (by decide) (zAt (pv 1)) (zG rfl) (zG rfl) (zAV rfl))) (zEg (zG0 (zHU (zGj T.kinds (by decide) rfl T.z_isinstance rfl T.z_str (by rfl) (by decide) (by decide) (zAt (pv 0)) (zG rfl) (zG rfl) (zAV rfl)) (zJi (zRO hr.units0 (zAt (pv 0)) (zAt (pv 1))))))) zHd)
    (zEg (zG0 (zHU (zGj T.kinds (by decide) rfl T.z_isinstance rfl T.z_int (by rfl) (by decide) (by decide) (zAt (pv 0)) (zG rfl) (zG rfl) (zAV rfl)) (zHU (zRV (zGj T.kinds (by decide) rfl T.z_isinstance rfl T.z_bool (by rfl) (by decide) (by decide) (zAt (pv 0)) (zG rfl) (zG rfl) (zAV rfl))) (zJi (zRO hr.units0 (zAt (pv 0)) (zAt (pv 1)))))))))))
theorem zHZ (T:Txt K mg):Od P w base 5 T.d_law_alike zCg:=zDH T 5
abbrev zSi:List Str:=["_law_script", "_law_state", "_law_turn", "_law_machine_here", "_law_rooms", "_law_some", "_law_many", "_law_due_here"]
theorem zR7:FnScope zSi ["_law_script"] (zP zNP):=⟨rfl,rfl,rfl,by decide +kernel,rfl,by decide +kernel,by decide +kernel⟩
theorem zQu (T:Txt K mg):Od P w base 6 T.d_law zEt:=by
  unfold zEt;have sc:=zR7;exact zAn (n:=1) T.d_law.F sc rfl (fun cdv A outer s H E hr=>by
    unfold zMq;decreasing_trivial)
end
theorem zQ6 {l:PySem.W.OpenLaw} {w:World} {K:PySem.W.Frag} {h:Heap} {mg:Str -> Option Value} {fa:Addr} (X:K.In h) (G:h.Ns mainGlobals mg) (hfa:mg "law" = some (.ref fa))
    {ts:List Addr}(g1:Dg K "stepped" zEX) (g2:Dg K "next_level" zCW) (g3:Dg K "searched" zDW) (g4:Dg K "least_word" zA3) (g5:Dg K "_law_begin" zCx) (g6:Dg K "_law_next" zDj) (g7:Dg K "_law_exchanged" zBY) (g8:Dg K "_law_goal" zDa) (g9:Dg K "_law_machine" zB5) (g10:Dg K "_law_set" zEj) (g11:Dg K "_law_step" zDV) (g12:Dg K "_law_levels" zCR) (g13:Dg K "_law_words" zCr) (g14:Dg K "_law_fits" zDY) (g15:Dg K "_law_due" zEh) (g16:Dg K "_law_alike" zBu) (g17:Dg K "law" zNP) (z1:Zn K "tuple") (z2:Zn K "sorted") (z3:Zn K "range") (z4:Zn K "len") (z5:Zn K "list") (z6:Zn K "int") (z7:Zn K "all") (z8:Zn K "isinstance") (z9:Zn K "str") (z10:Zn K "bool") (z11:Zn K "zip") (z12:Zn K "max") (y1:Ki K "NoneType" "int" false) (y2:Ki K "NoneType" "bool" false) (y3:Ki K "NoneType" "str" false) (y4:Ki K "NoneType" "tuple" false) (y5:Ki K "bool" "int" true) (y6:Ki K "bool" "bool" true) (y7:Ki K "bool" "str" false) (y8:Ki K "bool" "tuple" false) (y9:Ki K "int" "int" true) (y10:Ki K "int" "bool" false) (y11:Ki K "int" "str" false) (y12:Ki K "int" "tuple" false) (y13:Ki K "str" "int" false) (y14:Ki K "str" "bool" false) (y15:Ki K "str" "str" true) (y16:Ki K "str" "tuple" false) (y17:Ki K "list" "int" false) (y18:Ki K "list" "bool" false) (y19:Ki K "list" "str" false) (y20:Ki K "list" "tuple" false) (y21:Ki K "tuple" "int" false) (y22:Ki K "tuple" "bool" false) (y23:Ki K "tuple" "str" false) (y24:Ki K "tuple" "tuple" true) (y25:Ki K "dict" "int" false) (y26:Ki K "dict" "bool" false) (y27:Ki K "dict" "str" false) (y28:Ki K "dict" "tuple" false) (u4:Tb K "least_word" g4) (n0:Zn K "levels") (n1:Zn K "word_into") (n2:Zn K "shows_least") (n3:Zn K "shows_into") (ht:(ts.all (fun P=>([("least_word", u4.c,u4.P)]:List (Str × Addr × Addr)).any (·.2.2 == P)) && ([("least_word", u4.c,u4.P)]:List (Str × Addr × Addr)).all (fun p=>ts.contains p.2.2)) = true) :
    zAH K ts /\ ∃ fd:FuncData,(∀ (s:Shared) (v:Value),BindsTo s fd ⟨[v],[]⟩ [("_law_script", v)]) /\ ∀ base:Heap,K.In base -> base.Ns mainGlobals mg -> FnOk l.prog w K mg base CX0 6 fa fd ["_law_script"] (spF K 1 zEt):=by
  have e:=hfa.symm.trans (PySem.W.mg_of X G g17.a);cases e;have kinds:Kinds K:=⟨by
    intro t T ht hT;simp only [zUE,zUX,or_false] at ht hT;rcases ht with rfl | rfl | rfl | rfl | rfl | rfl | rfl <;> rcases hT with rfl | rfl | rfl | rfl <;> assumption⟩
  let T:Txt K mg:=⟨g1.df X G fun _ _ _ _ _ _=>zKM fun _ _ _=>rfl,g2.df X G fun _ _ _ _ _ _=>zKM fun _ _ _=>rfl,g3.df X G fun _ _ _ _ _ _=>zKM fun _ _ _=>rfl,g4.df X G fun _ _ _ _ _ _=>zKM fun _ _ _=>rfl,g5.df X G fun _ _ _ _ _ _=>zRG fun _=>rfl,g6.df X G fun _ _ _ _ _ _=>zMW fun _ _=>rfl,g7.df X G fun _ _ _ _ _ _=>zMW fun _ _=>rfl,g8.df X G fun _ _ _ _ _ _=>zTJ fun _ _ _ _=>rfl,g9.df X G fun _ _ _ _ _ _=>zKM fun _ _ _=>rfl,g10.df X G fun _ _ _ _ _ _=>zMW fun _ _=>rfl,g11.df X G fun _ _ _ _ _ _=>zKM fun _ _ _=>rfl,g12.df X G fun _ _ _ _ _ _=>zMW fun _ _=>rfl,g13.df X G fun _ _ _ _ _ _=>zMW fun _ _=>rfl,g14.df X G fun _ _ _ _ _ _=>zKM fun _ _ _=>rfl,g15.df X G fun _ _ _ _ _ _=>zTJ fun _ _ _ _=>rfl,g16.df X G fun _ _ _ _ _ _=>zMW fun _ _=>rfl,g17.df X G fun _ _ _ _ _ _=>zRG fun _=>rfl,zU1 X G z1,zU1 X G z2,zU1 X G z3,zU1 X G z4,zU1 X G z5,zU1 X G z6,zU1 X G z7,zU1 X G z8,zU1 X G z9,zU1 X G z10,zU1 X G z11,zU1 X G z12,u4.c,u4.P,u4.tab,u4.hd,u4.e,kinds⟩;refine ⟨zRb [("least_word", u4.c,u4.P)] (fun p hp=>by
    rcases zUE.mp hp with rfl | hp
    · exact ⟨u4.tab,u4.hd⟩
    cases hp) (fun x hx hn=>by
    simp only [zB8,zUE,zUX,or_false] at hx;rcases hx with rfl | rfl | rfl | rfl | rfl;all_goals first | exact zQ2 (by assumption) | exact absurd (by simp) hn) ht,T.d_law.fd,fun s v=> .of_eq rfl,fun base _ _=>?_⟩
  exact zQu (P:=l.prog) (w:=w) (base:=base) T
theorem zTW {l:PySem.W.OpenLaw} {q:Program} {loose:List Str} {XP:(Str -> Option Value) -> Heap -> Prop} {d:DefRec} {K:Params -> PySem.W.Frag} {as:List Addr} {ee:∀ P,as = (K P).map (·.1)} {ts:List Addr} (hn:l.most = some 63) (hdf:d.params.defaults = [])
    (hL:∀ w:World,zEY (K w.params) = true) (hT:∀ w:World,PySem.W.noTabs (K w.params) = true)
    (F:∀ (w:World) (mg:Str -> Option Value) (fa:Addr) (h:Heap),(K w.params).In h -> h.Ns mainGlobals mg -> mg d.name = some (.ref fa) ->
      zAH (K w.params) ts /\ ∃ fd:FuncData,(∀ (s:Shared) (u:Value),BindsTo s fd ⟨[u],[]⟩ [("_law_script", u)]) /\ ∀ base:Heap,(K w.params).In base -> base.Ns mainGlobals mg -> FnOk l.prog w (K w.params) mg base CX0 6 fa fd ["_law_script"] (spF (K w.params) 1 zEt)) :
    PySem.W.WalkO q loose XP (PySem.W.kmHook K as ee ts).says l.row.toRowW d [] (fun f vs=>PySem.call f vs) :=
  zNx (n:=63) (k:=6) (x := "_law_script") (m:=zEt) hn (by decide) hdf ⟨rfl,by decide,by decide⟩ hL hT F zOI
end Lae
open PySem PySem.W PyProof.Rows
set_option maxRecDepth 100000 in
set_option maxHeartbeats 0 in
theorem PySem.Challenge.cw_bringhome_k12_least_words_holds : PySem.Challenge.rw_bringhome_k12_least_words.Holds := by
  w_on; o_law; k_head; (case hw=>w_witness2);k_fill;refine Lae.zTW (l:=PySem.Challenge.rw_bringhome_k12_least_words) rfl rfl (fun w=>by rfl) (fun w=>by rfl) ?F
  case F=>
    intro w mg fa h KX G hmg;refine' Lae.zQ6 KX G hmg ?_ ?_ ?_ ?_ ?_ ?_ ?_ ?_ ?_ ?_ ?_ ?_ ?_ ?_ ?_ ?_ ?_ ?_ ?_ ?_ ?_ ?_ ?_ ?_ ?_ ?_ ?_ ?_ ?_ ?_ ?_ ?_ ?_ ?_ ?_ ?_ ?_ ?_ ?_ ?_ ?_ ?_ ?_ ?_ ?_ ?_ ?_ ?_ ?_ ?_ ?_ ?_ ?_ ?_ ?_ ?_ ?_ ?_ ?_ ?_ ?_ ?_ ?_;all_goals first | exact ⟨_,by k_is,by k_is,by k_is,by k_is⟩ | exact ⟨_,_,rfl,by k_is,by rfl,by rfl⟩ | (unfold L3.Zn; k_is) | (unfold L3.Ki; kit_is) | k_is | rfl
