import PyProof.Rows.All
import Wide.All
import OpenK.AllK
import Wide.FinOn
import Lean
import PyProof.EqAt
import PyProof.EqKinds
import PyProof.TupleCall
import PyProof.NeKinds
import PyProof.ZipIter
import PyProof.ListRange
import PyProof.TupleOfSeq
import PyProof.ConsumeWalk
import PyProof.IsRules
import PyProof.SetKind
import PyProof.SetRoads
import PyProof.Rows.SetFrom
import PyProof.Draws
import PyProof.EnumMake
import PyProof.DictCompW
import PyProof.ListMulRoad
import PyProof.Rows.SeqMore2
import PyProof.WalkInts
import PyProof.DictRoadsH
import PyProof.DictItems
import KE.KDictList
import PySem.Challenge.RW_bringhome_k13_words_into_a_set
namespace PySem.W.Fast
def tw5276841710066009612:=0
def tw1763301910290388958:=0
def tw17012488521448761329:=0
def tw18046313356725661552:=0
def tw3366471249820981837:=0
def tw14803935373766817887:=0
def tw16783020584303226189:=0
def tw17245016938754167810:=0
def tw3095444061020576520:=0
def tw1555219632047100687:=0
def tw3338198493669300048:=0
def tw14883680348141846245:=0
def tw10231498903802404154:=0
def tw6760158420458367768:=0
def tw16818511211910215191:=0
def tw5944269309711550083:=0
def tw17316469930238994328:=0
def tw11809962415673788837:=0
def tw16600887720935839074:=0
def tw14882167493588743177:=0
def tw1128308170796430568:=0
def tw11534719207775458051:=0
def tw5416145053268359984:=0
def tw11840958343008232409:=0
def tw1923464916936027988:=0
def tw8187554699014247207:=0
def tw15200470654171724755:=0
def tw15459829634347605598:=0
def tw17036679292318488321:=0
def tw15364787715123576725:=0
def tw12593922148972218336:=0
def tw6413730763115109165:=0
def tw14436506850375354009:=0
def tw7892363269396719130:=0
def tw17100790173857084983:=0
def tw3857868268720448238:=0
def tw12966273999807486172:=0
def tw18007699315325872615:=0
def tw10299323702914495579:=0
def tw7187277605458187404:=0
def tw9796315677527016801:=0
def tw5510300256390175719:=0
def tw5034901973362813205:=0
def tw4574015828318405112:=0
def tw9844784197996310820:=0
def tw18431232339594734648:=0
def tw972718614183666752:=0
def tw9111302814715955750:=0
def tw11735250671537118084:=0
def tw7565297698331107329:=0
def tw5240143284624125888:=0
def tw13012349971951872377:=0
def tw9390426951820639256:=0
def tw1155731467993145680:=0
def tw7242367059685486503:=0
def tw9620851972078116886:=0
def tw18254361942209577129:=0
def tw13707265050728070841:=0
def tw9983886210672005735:=0
def tw17462033394546508019:=0
def tw14671003887768653030:=0
def tw14323806119700607416:=0
def tw4230359202405401202:=0
def tw4738639291557268692:=0
def tw17541843793430597057:=0
def tw13966116489884651452:=0
def tw3560194052065862641:=0
def tw1648466865223509585:=0
def tw9203363142091965513:=0
def tw11095741614815853113:=0
def tw3028870213256019154:=0
def tw5885801427640805114:=0
def tw1825537130342742067:=0
def tw15548473049899664462:=0
def tw3680233669416035529:=0
def tw7914970154743126510:=0
def tw5669433464182083152:=0
def tw5932432058751282980:=0
def tw10344742135928846459:=0
def tw338327814397633498:=0
def tw14091436608135804940:=0
def tw14567473175919354252:=0
def tw5207138719851800228:=0
end PySem.W.Fast
section
open PySem PySem.Spec PyProof.Rows
theorem zTz:type_of% @wpAny_bind:=@wpAny_bind
theorem zT0:type_of% @Heap.get?_push_of_some:=@Heap.get?_push_of_some
theorem zT6:type_of% @wpAny_pure:=@wpAny_pure
theorem zT7:type_of% @List.getElem?_eq_some_iff:=@List.getElem?_eq_some_iff
theorem zT8:type_of% @List.getElem?_eq_getElem:=@List.getElem?_eq_getElem
theorem zT9:type_of% @List.getD_eq_getElem?_getD:=@List.getD_eq_getElem?_getD
theorem zUA:type_of% @Nat.le_refl:=@Nat.le_refl
theorem zUB:type_of% @List.getElem?_append_left:=@List.getElem?_append_left
theorem zUC:type_of% @List.size_toArray:=@List.size_toArray
theorem zUD:type_of% @List.length_map:=@List.length_map
theorem zUE:type_of% @Heap.get?_push_size:=@Heap.get?_push_size
theorem zUF:type_of% @Heap.lt_size:=@Heap.lt_size
theorem zUG:type_of% @List.mem_cons:=@List.mem_cons
theorem zUH:type_of% @List.mem_cons_of_mem:=@List.mem_cons_of_mem
theorem zUI:type_of% @List.mem_cons_self:=@List.mem_cons_self
theorem zUJ:type_of% @if_pos:=@if_pos
theorem zUK:type_of% @List.length_append:=@List.length_append
theorem zUL:type_of% @List.mem_map:=@List.mem_map
theorem zUM:type_of% @if_neg:=@if_neg
theorem zUN:type_of% @List.map_cons:=@List.map_cons
theorem zUO:type_of% @List.mem_append_right:=@List.mem_append_right
theorem zUP:type_of% @Nat.ne_of_lt:=@Nat.ne_of_lt
theorem zUQ:type_of% @Bool.false_ne_true:=@Bool.false_ne_true
theorem zUR:type_of% @List.getElem?_map:=@List.getElem?_map
theorem zUS:type_of% @List.map_map:=@List.map_map
theorem zUT:type_of% @Nat.lt_of_lt_of_le:=@Nat.lt_of_lt_of_le
theorem zUU:type_of% @List.mem_append:=@List.mem_append
theorem zUV:type_of% @Nat.le_trans:=@Nat.le_trans
theorem zUW:type_of% @List.mem_singleton:=@List.mem_singleton
theorem zUX:type_of% @wpAny_newObj_type:=@wpAny_newObj_type
theorem zUY:type_of% @List.getElem?_set_ne:=@List.getElem?_set_ne
theorem zUZ:type_of% @List.not_mem_nil:=@List.not_mem_nil
theorem zUa:type_of% @wpAny_mono:=@wpAny_mono
theorem zUb:type_of% @List.length_cons:=@List.length_cons
theorem zUc:type_of% @List.getElem_mem:=@List.getElem_mem
theorem zUd:type_of% @decide_eq_false:=@decide_eq_false
theorem zUe:type_of% @Bool.and_eq_true:=@Bool.and_eq_true
theorem zUf:type_of% @List.all_eq_true:=@List.all_eq_true
theorem zUg:type_of% @wpAny_callSpecial?_slot:=@wpAny_callSpecial?_slot
theorem zUh:type_of% @wpAny_call_entry:=@wpAny_call_entry
theorem zUj:type_of% @wpAny_field:=@wpAny_field
theorem zUk:type_of% @Heap.size_push:=@Heap.size_push
theorem zUl:type_of% @Heap.get?_update_other:=@Heap.get?_update_other
theorem zUm:type_of% @Nat.lt_irrefl:=@Nat.lt_irrefl
theorem zUn:type_of% @Array.length_toList:=@Array.length_toList
theorem zUo:type_of% @List.append_nil:=@List.append_nil
theorem zUp:type_of% @Array.getElem?_eq_getElem:=@Array.getElem?_eq_getElem
theorem zUq:type_of% @Nat.zero_le:=@Nat.zero_le
theorem zUr:type_of% @Heap.get?_update_self:=@Heap.get?_update_self
theorem zUt:type_of% @Nat.lt_succ_of_lt:=@Nat.lt_succ_of_lt
theorem zUu:type_of% @wpAny_seqItems:=@wpAny_seqItems
theorem zUv:type_of% @List.mem_of_getElem?:=@List.mem_of_getElem?
theorem zUw:type_of% @List.map_append:=@List.map_append
theorem zUx:type_of% @wpAny_holding:=@wpAny_holding
theorem zUy:type_of% @List.getElem?_set_self:=@List.getElem?_set_self
theorem zUz:type_of% @Around.under_plainId:=@Around.under_plainId
theorem zU0:type_of% @of_decide_eq_true:=@of_decide_eq_true
theorem zU1:type_of% @Nat.lt_succ_self:=@Nat.lt_succ_self
theorem zU3:type_of% @PySem.W.mg_none_of:=@PySem.W.mg_none_of
theorem zU4:type_of% @Option.some.inj:=@Option.some.inj
theorem zU5:type_of% @Bool.false_eq_true:=@Bool.false_eq_true
theorem zU6:type_of% @PySem.mem_of_lookup:=@PySem.mem_of_lookup
theorem zU7:type_of% @Heap.SameBut.update:=@Heap.SameBut.update
theorem zU8:type_of% @List.cons.inj:=@List.cons.inj
theorem zU9:type_of% @codeAny_builtin:=@codeAny_builtin
theorem zVA:type_of% @List.append_assoc:=@List.append_assoc
theorem zVC:type_of% @decide_eq_true:=@decide_eq_true
theorem zVD:type_of% @List.getElem?_eq_none:=@List.getElem?_eq_none
theorem zVE:type_of% @List.getElem?_append_right:=@List.getElem?_append_right
theorem zVH:type_of% @decide_eq_true_eq:=@decide_eq_true_eq
theorem zVI:type_of% @List.nodup_append:=@List.nodup_append
theorem zVJ:type_of% @List.mem_append_left:=@List.mem_append_left
theorem zVK:type_of% @wpAny_setField_rec:=@wpAny_setField_rec
theorem zVL:type_of% @Obj.data_mapFields:=@Obj.data_mapFields
theorem zVN:type_of% @List.replicate_succ:=@List.replicate_succ
theorem zVR:type_of% @wpAny_rule:=@wpAny_rule
theorem zVS:type_of% @List.length_take:=@List.length_take
theorem zVY:type_of% @List.length_nil:=@List.length_nil
theorem zVZ:type_of% @Nat.ne_of_gt:=@Nat.ne_of_gt
theorem zVc:type_of% @PyProof.Rows.slot_tuple_getitem:=@PyProof.Rows.slot_tuple_getitem
theorem zVd:type_of% @List.getElem?_set:=@List.getElem?_set
theorem zVf:type_of% @wpAny_attempt:=@wpAny_attempt
theorem zVh:type_of% @PySem.W.kia_one:=@PySem.W.kia_one
theorem zVj:type_of% @Array.getElem?_toList:=@Array.getElem?_toList
theorem zVp:type_of% @wpAny_setField:=@wpAny_setField
theorem zVq:type_of% @List.find?_cons:=@List.find?_cons
theorem zVr:type_of% @congrArg:=@congrArg
theorem zVw:type_of% @Int.emod_lt_of_pos:=@Int.emod_lt_of_pos
theorem zV6:type_of% @List.length_eq_zero_iff:=@List.length_eq_zero_iff
theorem zV9:type_of% @List.lookup_cons:=@List.lookup_cons
theorem zWE:type_of% @List.pairwise_cons:=@List.pairwise_cons
theorem zWM:type_of% @List.nil_append:=@List.nil_append
theorem zWN:type_of% @List.length_set:=@List.length_set
theorem zWo:type_of% @Int.toNat_natCast:=@Int.toNat_natCast
theorem zWr:type_of% @List.take_append_drop:=@List.take_append_drop
theorem zW0:type_of% @Nat.le_of_lt:=@Nat.le_of_lt
theorem zXJ:type_of% @List.length_singleton:=@List.length_singleton
end
set_option Elab.async false
set_option linter.all false
set_option maxRecDepth 100000
set_option genSizeOf false
set_option genInjectivity false
noncomputable section
namespace L2
open PySem PySem.Spec PyProof.Rows
abbrev Key:=Sum Int Str
def zGs:Key -> Value -> Bool
 | .inl k,v=>Value.isInt k v
 | .inr x,v=>Value.isStrOf x v
def zTg (w:World):Key -> Int
 | .inl k=>hashInt k
 | .inr x=>hashStr w x
theorem zAL:∀ {k:Key} {v:Value},zGs k v = true -> (∃ i t,k = Sum.inl i /\ v = Value.int i t) \/ (∃ x t,k = Sum.inr x /\ v = Value.str x t)
 | .inl i,v,h=>by
  obtain ⟨t,e⟩:=Value.isInt_shape (k:=i) (v:=v) h;exact .inl ⟨i,t,rfl,e⟩
 | .inr x,v,h=>by
  obtain ⟨t,e⟩:=Value.isStrOf_shape (x:=x) (v:=v) h;exact .inr ⟨x,t,rfl,e⟩
theorem zLr (i:Int) (t:Tok):zGs (.inl i) (.int i t) = true:=by simp [zGs,Value.isInt]
theorem zLm (x:Str) (t:Tok):zGs (.inr x) (.str x t) = true:=by simp [zGs,Value.isStrOf]
theorem zRW (a b:Int):decide ((Sum.inl a:Key) = Sum.inl b) = (a == b):=by
 by_cases e:a = b
 ·subst e; simp
 ·have h:¬ (Sum.inl a:Key) = Sum.inl b:=fun q=>e (Sum.inl.inj q);rw [zUd h];exact (beq_eq_false_iff_ne.mpr e).symm
theorem zRp (a b:Str):decide ((Sum.inr a:Key) = Sum.inr b) = decide (a = b):=by
 by_cases e:a = b
 ·subst e; simp
 ·have h:¬ (Sum.inr a:Key) = Sum.inr b:=fun q=>e (Sum.inr.inj q);rw [zUd h,zUd e]
theorem zQl (a:Int) (b:Str):decide ((Sum.inl a:Key) = Sum.inr b) = false:=zUd (fun q=>nomatch q)
theorem zQj (a:Str) (b:Int):decide ((Sum.inr a:Key) = Sum.inl b) = false:=zUd (fun q=>nomatch q)
def zu (prog:Program) (w:World):PySem.KeyKind prog w Key where
 is:=zGs
 hash:=zTg w
 inj:=fun v a b ha hb=>by
  rcases zAL ha with ⟨i,t,rfl,rfl⟩ | ⟨x,t,rfl,rfl⟩
  ·rcases zAL hb with ⟨j,u,rfl,e⟩ | ⟨y,u,rfl,e⟩
   ·injection e with e1 _; rw [e1]
   ·exact nomatch e
  ·rcases zAL hb with ⟨j,u,rfl,e⟩ | ⟨y,u,rfl,e⟩
   ·exact nomatch e
   ·injection e with e1 _; rw [e1]
 byValue:=fun k v h=>by
  rcases zAL h with ⟨i,t,rfl,rfl⟩ | ⟨x,t,rfl,rfl⟩ <;> rfl
 pyHash:=fun hv h=>by
  rcases zAL hv with ⟨i,t,rfl,rfl⟩ | ⟨x,t,rfl,rfl⟩
  ·exact wpAny_pyHash_int h
  ·exact wpAny_pyHash_str h
 eqBool:=fun hu hv h=>by
  rcases zAL hu with ⟨i,t,rfl,rfl⟩ | ⟨x,t,rfl,rfl⟩
  ·rcases zAL hv with ⟨j,u,rfl,rfl⟩ | ⟨y,u,rfl,rfl⟩
   ·rw [zRW] at h; exact wpAny_eqBool_int h
   ·rw [zQl] at h; exact SeqAt.EqAt.int_str i t y u _ _ _ _ h
  ·rcases zAL hv with ⟨j,u,rfl,rfl⟩ | ⟨y,u,rfl,rfl⟩
   ·rw [zQj] at h; exact SeqAt.EqAt.str_int x t j u _ _ _ _ h
   ·rw [zRp] at h; exact wpAny_eqBool_str h
 «strs»:=fun k x t v h=>by
  rcases zAL h with ⟨i,u,rfl,e⟩ | ⟨y,u,rfl,e⟩
  ·exact nomatch e
  ·injection e with e1 _
   subst e1
   cases v <;> rfl
theorem zJS (prog:Program) (w:World) (i:Int) (t:Tok):(zu prog w).is (.inl i) (.int i t) = true:=zLr i t
theorem zI6 (prog:Program) (w:World) (x:Str) (t:Tok):(zu prog w).is (.inr x) (.str x t) = true:=zLm x t
set_option genInjectivity true in
inductive V where
 | non | bl (b:Bool) | int (i:Int) | str (x:Str) | byt (b:Array UInt8) | flt (b:UInt64) | ref (a:Addr) | ty (n:String)
 deriving DecidableEq
def ze:V -> Value -> Prop
 | .non,u=>u = Value.none
 | .bl b,u=>u = Value.bool b
 | .int i,u=>∃ t,u = Value.int i t
 | .str x,u=>∃ t,u = Value.str x t
 | .byt b,u=>∃ t,u = Value.bytes b t
 | .flt b,u=>∃ t,u = Value.float b t
 | .ref a,u=>u = Value.ref a
 | .ty n,u=>u = Value.type n
abbrev zU:List V -> List Value -> Prop:=Paired ze
theorem zU.length {xs:List V} {us:List Value} (r:zU xs us):xs.length = us.length:=Paired.length r
theorem zU.get:∀ {xs:List V} {us:List Value} {i:Nat} {x:V},zU xs us -> xs[i]? = some x -> ∃ u,us[i]? = some u /\ ze x u
 | _,_,_,_,.nil,e=>by simp at e
 | _,_,0,_,.cons r _,e=>by simp at e; subst e; exact ⟨_,rfl,r⟩
 | _,_,i + 1,x,.cons _ t,e=>by
  obtain ⟨u,h1,h2⟩:=zU.get (i:=i) (x:=x) t (by simpa using e);exact ⟨u,by simpa using h1,h2⟩
theorem zU.set {x:V} {u:Value} (r:ze x u):∀ {xs:List V} {us:List Value} (i:Nat),zU xs us -> zU (xs.set i x) (us.set i u)
 | _,_,_,.nil=> .nil
 | _,_,0,.cons _ t=> .cons r t
 | _,_,i + 1,.cons q t=> .cons q (zU.set r i t)
theorem zU.append:∀ {xs ys:List V} {us ws:List Value},zU xs us -> zU ys ws -> zU (xs ++ ys) (us ++ ws)
 | _,_,_,_,.nil,s=>s
 | _,_,_,_,.cons r t,s=> .cons r (zU.append t s)
theorem zU.take:∀ {xs:List V} {us:List Value} (n:Nat),zU xs us -> zU (xs.take n) (us.take n)
 | _,_,0,_=> .nil
 | _,_,_ + 1,.nil=> .nil
 | _,_,n + 1,.cons r t=> .cons r (zU.take n t)
theorem zU.drop:∀ {xs:List V} {us:List Value} (n:Nat),zU xs us -> zU (xs.drop n) (us.drop n)
 | _,_,0,r=>r
 | _,_,_ + 1,.nil=> .nil
 | _,_,n + 1,.cons _ t=>zU.drop n t
def zFl:Option V -> Option Value -> Prop
 | some v,some u=>ze v u
 | none,none=>True
 | _,_=>False
def KV {κ:Type}:List (κ × V) -> List (κ × Value) -> Prop:=Paired fun (p:κ × V) (q:κ × Value)=>p.1 = q.1 /\ ze p.2 q.2
def kV:Key -> V
 | .inl i=> .int i
 | .inr x=> .str x
set_option genInjectivity true in
inductive HO where
 | lst (xs:List V)
 | tup (xs:List V)
 | dK (kvs:List (Key × V)) | dT (kvs:List (List Key × V))
 | set (S:Int -> Bool) (n:Nat)
 | ins (C dx:Addr) (fs:List (Str × V))
 | own (x:Addr)
 | xd (fs:List (Str × V))
 | met (f x:Addr)
 | rng (lo hi:Int)
 | frz (o:Obj) (u:HO)
 | tbl (ps:Array Value)
 | ext (φ:Heap -> Prop)
abbrev Hp:=Addr -> Option HO
def upd (H:Hp) (a:Addr) (o:HO):Hp:=fun b=>if b = a then some o else H b
theorem zg {H:Hp} {a:Addr} {o:HO}:upd H a o a = some o:=by unfold upd; rw [zUJ rfl]
theorem zP {H:Hp} {a b:Addr} {o:HO} (h:b ≠ a):upd H a o b = H b:=by unfold upd; rw [zUM h]
theorem zCj {H:Hp} {a b:Addr} {o u:HO} (h:H a = some o) (h':H b = some u) (d:o ≠ u):a ≠ b:=by
 intro e; subst e; rw [h] at h'; exact d (zU4 h')
theorem zY {H:Hp} {a b:Addr} {o:HO} (h:H a = some o) (h':H b = none):a ≠ b:=by
 intro e; subst e; rw [h] at h'; cases h'
def zBb (h:Heap) (a:Addr) (items:Array Value):Prop:=∃ o,h.get? a = some o /\ o.cls = .type "tuple" /\ (∃ n,o.data = .seq items n) /\ o.dict = none
theorem zBb.tup {h:Heap} {a:Addr} {items:Array Value} (x:zBb h a items):IsTup h a items:=let ⟨o,e,c,d,_⟩:=x; ⟨o,e,c,d⟩
theorem zBb.lt {h:Heap} {a:Addr} {items:Array Value} (x:zBb h a items):a < h.objs.size:=let ⟨_,e,_⟩:=x; zUF e
theorem zBb.new (h:Heap) (items:Array Value):zBb (h.push { cls:=.type "tuple", data:=.seq items }) h.objs.size items:=⟨_,zUE _ rfl,rfl,⟨_,rfl⟩,rfl⟩
section
variable (P:Program) (w:World)
def zn (H:Hp) (h:Heap) (a:Addr):HO -> Prop
 | .lst xs=>xs.length <= sizeLine /\ ∃ (its:List Value) (n:Nat),zU xs its /\ h.get? a = some { cls:=.type "list", data:=.seq its.toArray n }
 | .tup xs=>xs.length <= sizeLine /\ ∃ its:List Value,zU xs its /\ zBb h a its.toArray
 | .dK kvs=>kvs.length <= sizeLine /\ (a == sysModules) = false /\ ∃ vs,KV kvs vs /\ h.DictOf (zu P w) a vs
 | .dT kvs=>kvs.length <= sizeLine /\ (a == sysModules) = false /\ ∃ xs:List (List Key × Addr × Value),
   Paired (fun (p:List Key × V) (q:List Key × Addr × Value)=>p.1 = q.1 /\ H q.2.1 = some (.tup (p.1.map kV)) /\ ze p.2 q.2.2) kvs xs /\
   ∃ o es ep,h.get? a = some o /\ o.ExactDict /\ o.data = .dict es ep /\ es.toList = xs.map (entryOfKey (tupleKind (zu P w))) /\ (xs.map (·.1)).Nodup
 | .set S n=>h.SetOf (intKind P w) a S n
 | .ins C dx fs=>H dx = some (.own a) /\ fs.length <= 1000 /\ dx ≠ a /\ h.get? a = some (PySem.W.instObj C dx) /\
   ∃ mA,h.Ns1 dx mA /\ (∀ f,zFl (fs.lookup f) (mA f)) /\ PySem.Within mA (fs.map (·.1))
 | .own _=>∃ o,h.get? a = some o
 | .xd fs=>∃ mA,h.Ns1 a mA /\ ∀ f,zFl (fs.lookup f) (mA f)
 | .rng lo hi=>∃ t u v,h.get? a = some { cls:=.type "range", data:=.fields #[.int lo t,.int hi u,.int 1 v] }
 | .frz o u=>h.get? a = some o /\ zn H h a u
 | .tbl ps=>h.get? a = some { cls:=.none,data:=.fields ps }
 | .met f x=>h.get? a = some (PySem.W.methodObj (.ref f) (.ref x))
 | .ext φ=>φ h /\ (∃ o,h.get? a = some o) /\ ∀ h1 h2:Heap,φ h1 -> (∀ o,h1.get? a = some o -> h2.get? a = some o) -> φ h2
def HOk (H:Hp) (h:Heap):Prop:=∀ a o,H a = some o -> zn P w H h a o
end
section
variable {P:Program} {w:World} {H H':Hp} {h h':Heap} {a:Addr} {o:HO}
theorem zn.lt (x:zn P w H h a o):a < h.objs.size:=by
 cases o with
 | lst xs=>obtain ⟨_,_,_,_,e⟩:=x; exact zUF e
 | tup xs=>obtain ⟨_,_,_,p⟩:=x; exact p.lt
 | dK kvs=>obtain ⟨_,_,_,_,o,_,_,e,_⟩:=x; exact zUF e
 | dT kvs=>obtain ⟨_,_,_,_,o,_,_,e,_⟩:=x; exact zUF e
 | set S n=>obtain ⟨o,_,_,_,e,_⟩:=x; exact zUF e
 | ins C dx fs=>obtain ⟨_,_,_,e,_⟩:=x; exact zUF e
 | own y=>obtain ⟨_,e⟩:=x; exact zUF e
 | xd fs=>obtain ⟨_,⟨_,_,_,e,_⟩,_⟩:=x; exact zUF e
 | rng lo hi=>obtain ⟨_,_,_,e⟩:=x; exact zUF e
 | frz ob u=>obtain ⟨e,_⟩:=x; exact zUF e
 | tbl ps=>exact zUF (show h.get? a = some _ from x)
 | met f y=>exact zUF (show h.get? a = some _ from x)
 | ext φ=>obtain ⟨_,⟨_,e⟩,_⟩:=x; exact zUF e
theorem Paired.mapP {α β:Type} {F G:α -> β -> Prop}:∀ {l₁:List α} {l₂:List β},Paired F l₁ l₂ -> (∀ a b,F a b -> G a b) -> Paired G l₁ l₂
 | _,_,.nil,_=> .nil
 | _,_,.cons r t,f=> .cons (f _ _ r) (Paired.mapP t f)
theorem zn.stay (x:zn P w H h a o) (k:∀ b u,(b = a \/ H b = some (.own a)) -> h.get? b = some u -> h'.get? b = some u)
  (ho:∀ b,H b = some (.own a) -> H' b = some (.own a)) (ht:∀ b xs,H b = some (.tup xs) -> H' b = some (.tup xs)):zn P w H' h' a o:=by
 induction o with
 | lst xs=>obtain ⟨z,its,n,r,e⟩:=x; exact ⟨z,its,n,r,k _ _ (.inl rfl) e⟩
 | tup xs=>obtain ⟨z,its,r,ob,e,c⟩:=x; exact ⟨z,its,r,ob,k _ _ (.inl rfl) e,c⟩
 | dK kvs=>obtain ⟨z,y,vs,r,ob,es,ep,e,c⟩:=x; exact ⟨z,y,vs,r,ob,es,ep,k _ _ (.inl rfl) e,c⟩
 | dT kvs=>
  obtain ⟨z,y,xs,r,ob,es,ep,e,c⟩:=x;exact ⟨z,y,xs,Paired.mapP r fun p q z=>⟨z.1,ht _ _ z.2.1,z.2.2⟩,ob,es,ep,k _ _ (.inl rfl) e,c⟩
 | set S n=>obtain ⟨ob,es,ep,t,e,c⟩:=x; exact ⟨ob,es,ep,t,k _ _ (.inl rfl) e,c⟩
 | ins C dx fs=>
  obtain ⟨d,z,ne,e,mA,⟨od,es,ep,e2,c⟩,r⟩:=x;exact ⟨ho _ d,z,ne,k _ _ (.inl rfl) e,mA,⟨od,es,ep,k _ _ (.inr d) e2,c⟩,r⟩
 | own y=>obtain ⟨ob,e⟩:=x; exact ⟨ob,k _ _ (.inl rfl) e⟩
 | xd fs=>obtain ⟨mA,⟨od,es,ep,e,c⟩,r⟩:=x; exact ⟨mA,⟨od,es,ep,k _ _ (.inl rfl) e,c⟩,r⟩
 | rng lo hi=>obtain ⟨t,u,v,e⟩:=x; exact ⟨t,u,v,k _ _ (.inl rfl) e⟩
 | frz ob u ih=>obtain ⟨e,q⟩:=x; exact ⟨k _ _ (.inl rfl) e,ih q⟩
 | tbl ps=>
  have e:h.get? a = some { cls:=.none,data:=.fields ps }:=x;show h'.get? a = some { cls:=.none,data:=.fields ps };exact k a _ (.inl rfl) e
 | met f y=>
  have e:h.get? a = some (PySem.W.methodObj (.ref f) (.ref y)):=x;show h'.get? a = some (PySem.W.methodObj (.ref f) (.ref y));exact k a _ (.inl rfl) e
 | ext φ=>obtain ⟨p,⟨o,e⟩,st⟩:=x; exact ⟨st _ _ p fun o q=>k _ _ (.inl rfl) q,⟨o,k _ _ (.inl rfl) e⟩,st⟩
theorem HOk.lt (x:HOk P w H h) (e:H a = some o):a < h.objs.size:=(x a o e).lt
theorem HOk.fresh (x:HOk P w H h) (e:h.objs.size <= a):H a = none:=by
 cases q:H a with
 | none=>rfl
 | some u=>exact absurd (zUT (x.lt q) e) (zUm _)
theorem HOk.kept (x:HOk P w H h) (k:∀ b u,h.get? b = some u -> h'.get? b = some u):HOk P w H h':=fun a o e=>
 (x a o e).stay (fun b u _ q=>k b u q) (fun _ q=>q) fun _ _ q=>q
theorem HOk.laid (x:HOk P w H h) (k:∀ b u,h.get? b = some u -> h'.get? b = some u) (hp:h.objs.size <= a) (new:zn P w (upd H a o) h' a o):HOk P w (upd H a o) h':=fun b u e=>by
 have hn:=x.fresh hp;by_cases hb:b = a
 ·subst hb; rw [zg] at e; cases e; exact new
 ·rw [zP hb] at e;exact (x b u e).stay (fun c v _ q=>k c v q) (fun c q=>by rw [zP (zY q hn)]; exact q) fun c xs q=>by rw [zP (zY q hn)]; exact q
end
def Rd (H:Hp) (a:Addr) (u:HO):Prop:=H a = some u \/ ∃ o,H a = some (.frz o u)
theorem Rd.ok {P:Program} {w:World} {H:Hp} {h:Heap} {a:Addr} {u:HO} (r:Rd H a u) (x:HOk P w H h):zn P w H h a u:=by
 rcases r with r | ⟨o,r⟩
 ·exact x a u r
 ·obtain ⟨_,q⟩:=x a _ r;exact q
def Mut:Option HO -> Prop
 | some (.lst _)=>True
 | some (.dK _)=>True
 | some (.dT _)=>True
 | some (.set _ _)=>True
 | some (.ins _ _ _)=>True
 | some (.ext _)=>True
 | _=>False
section
variable {P:Program} {w:World} {H:Hp} {h h':Heap} {x e:Addr} {o':HO}
theorem HOk.write (ok:HOk P w H h) (mu:Mut (H x)) (he:e = x \/ H e = some (.own x)) (k:∀ b u,b ≠ e -> h.get? b = some u -> h'.get? b = some u) (heo:∃ u,h'.get? e = some u)
  (new:zn P w (upd H x o') h' x o'):HOk P w (upd H x o') h':=fun b u q=>by
 have nown:∀ c y,H c = some (.own y) -> c ≠ x:=fun c y r z=>by subst z; rw [r] at mu; exact mu
 have ntup:∀ c xs,H c = some (.tup xs) -> c ≠ x:=fun c xs r z=>by subst z; rw [r] at mu; exact mu
 by_cases hb:b = x
 ·subst hb; rw [zg] at q; cases q; exact new
 ·rw [zP hb] at q;by_cases hbe:b = e
  ·have q':H b = some (.own x):=by
    rcases he with z | z
    ·exact absurd (hbe.trans z) hb
    ·rw [hbe]; exact z
   rw [q] at q'; cases q';obtain ⟨v,hv⟩:=heo;exact ⟨v,by rw [hbe]; exact hv⟩
  ·refine (ok b u q).stay (fun c v hc r=>k c v ?_ r) (fun c r=>by rw [zP (nown c b r)]; exact r) fun c xs r=>by rw [zP (ntup c xs r)]; exact r
   rcases hc with rfl | hc
   ·exact hbe
   ·rintro rfl;rcases he with z | z
    ·exact nown c b hc z
    ·rw [hc] at z; cases z; exact hb rfl
end
structure Un (fs ex:List Addr) (H H':Hp) (h h':Heap):Prop where
 keep:∀ b o,h.get? b = some o -> H b = none -> b ∉ fs -> b ∉ ex -> h'.get? b = some o
 slot:∀ b o,h.get? b = some o -> H b = none -> b ∈ fs -> b ∉ ex -> ∃ sl,h'.get? b = some { o with slots:=sl }
 free:∀ b o,h.get? b = some o -> H b = none -> b ∉ ex -> H' b = none
 there:∀ b o,h.get? b = some o -> b ∉ ex -> ∃ o',h'.get? b = some o'
 tups:∀ b xs,H b = some (.tup xs) -> H' b = some (.tup xs)
 frzs:∀ b o u,H b = some (.frz o u) -> H' b = some (.frz o u)
 tbls:∀ b ps,H b = some (.tbl ps) -> ∃ more,H' b = some (.tbl (ps ++ more))
section
variable {fs fs' ex ex':List Addr} {H H1 H2:Hp} {h h1 h2 h':Heap} {a x e:Addr} {o:HO}
theorem Un.any (u:Un fs ex H H1 h h1) {b:Addr} {ob:Obj} (q:h.get? b = some ob) (n:H b = none) (hx:b ∉ ex):∃ sl,h1.get? b = some { ob with slots:=sl }:=by
 by_cases hb:b ∈ fs
 ·exact u.slot b ob q n hb hx
 ·exact ⟨ob.slots,u.keep b ob q n hb hx⟩
theorem Un.kept (k:∀ b u,h.get? b = some u -> h'.get? b = some u):Un fs ex H H h h' :=
 ⟨fun b ob q _ _ _=>k b ob q,fun b ob q _ _ _=>⟨ob.slots,k b ob q⟩,fun _ _ _ n _=>n,fun b ob q _=>⟨ob,k b ob q⟩,fun _ _ q=>q,fun _ _ _ q=>q,fun _ ps q=>⟨#[],by rw [q]; simp⟩⟩
theorem Un.refl:Un fs ex H H h h:=Un.kept fun _ _ q=>q
theorem Un.laid (k:∀ b u,h.get? b = some u -> h'.get? b = some u) (hp:h.objs.size <= a) (hn:H a = none):Un fs ex H (upd H a o) h h' where
 keep:=fun b u q _ _ _=>k b u q;slot:=fun b u q _ _ _=>⟨u.slots,k b u q⟩;free:=fun b u q n _=>by rw [zP (zUP (zUT (zUF q) hp))]; exact n
 there:=fun b u q _=>⟨u,k b u q⟩;tups:=fun b xs q=>by rw [zP (zY q hn)]; exact q
 frzs:=fun b u xs q=>by rw [zP (zY q hn)]; exact q
 tbls:=fun b ps q=>⟨#[],by rw [zP (zY q hn),q]; simp⟩
theorem Un.write (mu:Mut (H x)) (he:e = x \/ H e = some (.own x)) (k:∀ b u,b ≠ e -> h.get? b = some u -> h'.get? b = some u) (heo:∃ u,h'.get? e = some u):Un fs ex H (upd H x o) h h':=by
 have hx:∀ b,H b = none -> b ≠ x:=fun b n z=>by subst z; rw [n] at mu; exact mu
 have hb:∀ b,H b = none -> b ≠ e:=fun b n z=>by
  subst z;rcases he with r | r
  ·exact hx b n r
  ·rw [n] at r; cases r
 have hm:∀ b u,H b = some u -> ¬ Mut (some u) -> b ≠ x:=fun b u q nm z=>by subst z; rw [q] at mu; exact nm mu
 refine ⟨fun b u q n _ _=>k b u (hb b n) q,fun b u q n _ _=>⟨u.slots,k b u (hb b n) q⟩,fun b u q n _=>by rw [zP (hx b n)]; exact n,fun b u q _=>?_,
  fun b xs q=>by rw [zP (hm b _ q fun z=>z)]; exact q,fun b u xs q=>by rw [zP (hm b _ q fun z=>z)]; exact q,fun b ps q=>⟨#[],by rw [zP (hm b _ q fun z=>z),q]; simp⟩⟩
 by_cases hbe:b = e
 ·subst hbe; exact heo
 ·exact ⟨u,k b u hbe q⟩
end
def trk (h:Heap) (H:Hp):List Addr:=(List.range h.objs.size).filter fun a=>(H a).isSome
def zGa (h:Heap) (H:Hp):Heap:=PySem.W.hideAll h (trk h H)
theorem zMC (h:Heap) (H:Hp):(zGa h H).objs.size = h.objs.size:=PySem.W.hideAll_size _ _
theorem zNF {h:Heap} {H:Hp} {b:Addr} {o:Obj} (e:h.get? b = some o) (n:H b = none):(zGa h H).get? b = some o :=
 PySem.W.hideAll_get _ e fun hm=>by
  have q:(H b).isSome = true:=(List.mem_filter.mp hm).2;rw [n] at q; simp at q
theorem zO6 {h:Heap} {H:Hp} {b:Addr} {o:Obj} (e:(zGa h H).get? b = some o):h.get? b = some o /\ H b = none:=by
 have e':h.get? b = some o:=PySem.W.of_hideAll (trk h H) e;refine ⟨e',?_⟩;cases q:H b with
 | none=>rfl
 | some x=>
  have hm:b ∈ trk h H:=List.mem_filter.mpr ⟨List.mem_range.mpr (zUF e'),by simp [q]⟩;have z:(zGa h H).get? b = none:=PySem.W.hideAll_none (trk h H) hm;rw [z] at e; cases e
def BMn (mg:Str -> Option Value) (h:Heap):Prop:=∃ bm ob,mg "__builtins__" = some (.ref bm) /\ bm ≠ builtinsNs /\ h.get? bm = some ob /\ ob.cls = .type "module" /\ ob.dict = some builtinsNs /\ ob.data = .plain
structure Mod (K:PySem.W.Frag) (mg:Str -> Option Value) (base:Heap):Prop where
 kin:K.In base
 glob:base.Ns mainGlobals mg
 blt:∃ mb,base.Ns builtinsNs mb /\ ∀ x:Str,x ≠ "__name__" -> mb x = bootBuiltins x
 nolimit:base.NoLimit
 bmn:BMn mg base
structure Cx where
 prog:Program
 w:World
 K:PySem.W.Frag
 mg:Str -> Option Value
 base:Heap
 A:Around
 N:List Str
 s₀:Shared
 H₀:Hp
 env:Env
 outer:List Env
 stack:List Env
 ex:List Addr
 fn:Str -> Bool
 calm:Bool
 pn:List (Addr × Obj)
 xe:Value -> Shared -> Prop
def frs (l:List Env):List Addr:=l.filterMap (·.frame)
abbrev Cx.fs (X:Cx):List Addr:=frs X.outer
def Vis (sc:Scope) (x:Str):Prop:=sc.names.lookup x = some .local \/ sc.names.lookup x = some .cell \/ sc.names.lookup x = some .free
def Loc (sc:Scope) (x:Str):Prop:=sc.names.lookup x = some .local \/ sc.names.lookup x = some .cell
def zTm (env:Env) (h:Heap) (m:Str -> Option Value) (x:Str) (u:Value):Prop :=
 (env.kindOf x = some .local /\ m x = some u) \/ ((env.kindOf x = some .cell \/ env.kindOf x = some .free) /\ ∃ c,env.cells.lookup x = some c /\ h.IsCell c (some u))
structure Cx.Ok (X:Cx):Prop where
 mod:Mod X.K X.mg X.base
 kind:X.env.scope.kind = .function
 glob:X.env.globals = mainGlobals
 blt:X.env.builtins = builtinsNs
 above:X.s₀.heap.objs.size <= X.env.locals
 inj:∀ x y c,X.env.cells.lookup x = some c -> X.env.cells.lookup y = some c -> x = y
 has:∀ x,(X.env.kindOf x = some .cell \/ X.env.kindOf x = some .free) -> ∃ c,X.env.cells.lookup x = some c
 cab:∀ x c,X.fn x = true -> X.env.cells.lookup x = some c -> X.s₀.heap.objs.size <= c
 hd:X.calm = true -> X.A.handled = none
 frames:X.A.frames = some X.stack
 stk:X.stack = X.outer \/ (X.stack = X.env :: X.outer /\ X.env.frame = some X.env.locals)
 exf:∀ b ∈ X.ex,b ≠ X.env.locals /\ ∀ x c,X.env.cells.lookup x = some c -> c ≠ b
 bs:∀ b o,X.base.get? b = some o -> X.s₀.heap.get? b = some o /\ X.H₀ b = none
 bsz:X.base.objs.size <= X.s₀.heap.objs.size
 noex:∀ b o,X.base.get? b = some o -> b ∉ X.ex
 exfs:∀ b ∈ X.ex,b ∉ X.fs
 funs:X.s₀.heap.FunFrames X.base X.outer
 frf:∀ b ∈ X.fs,X.H₀ b = none
structure Inv (X:Cx) (zB:List (Addr × Obj)) (σ:List (Option V)) (H:Hp) (s:Shared):Prop where
 ok:X.Ok
 os:s.os = X.s₀.os
 bare:AllBare s.gens
 base:Un X.fs X.ex X.H₀ H X.s₀.heap s.heap
 loc:∃ m,s.heap.Ns X.env.locals m /\ ∀ (i:Nat) (x:Str) (v:V),X.N[i]? = some x -> σ[i]? = some (some v) -> Vis X.env.scope x -> ∃ u,ze v u /\ zTm X.env s.heap m x u
 cell:∀ x c,X.env.cells.lookup x = some c -> ∃ v,s.heap.IsCell c v
 free:H X.env.locals = none
 freeC:∀ x c,X.env.cells.lookup x = some c -> H c = none
 pin:∀ p ∈ X.pn ++ zB,s.heap.get? p.1 = some p.2 /\ H p.1 = none /\ p.1 ≠ X.env.locals /\ p.1 ∉ X.fs /\ ∀ v,p.2.data ≠ .cell v
 hok:HOk X.prog X.w H s.heap
 len:σ.length = X.N.length
section
variable {X:Cx} {zB:List (Addr × Obj)} {σ:List (Option V)} {H H':Hp} {s:Shared} {h':Heap}
theorem Cx.Ok.nofr (ok:X.Ok) {b:Addr} {o:Obj} (e:X.base.get? b = some o):b ∉ X.fs:=fun hb=>by
 have:=(ok.funs.mem hb).1;rw [e] at this; cases this
theorem Inv.bs (I:Inv X zB σ H s):∀ b o,X.base.get? b = some o -> s.heap.get? b = some o /\ H b = none:=fun b o e=>
 ⟨I.base.keep b o (I.ok.bs b o e).1 (I.ok.bs b o e).2 (I.ok.nofr e) (I.ok.noex b o e),I.base.free b o (I.ok.bs b o e).1 (I.ok.bs b o e).2 (I.ok.noex b o e)⟩
theorem Inv.bk (I:Inv X zB σ H s):∀ b o,X.base.get? b = some o -> s.heap.get? b = some o:=fun b o e=>(I.bs b o e).1
theorem Inv.mod (I:Inv X zB σ H s):Mod X.K X.mg X.base:=I.ok.mod
theorem Inv.kIn (I:Inv X zB σ H s):X.K.In s.heap:=I.ok.mod.kin.keeps I.bk
theorem Inv.lt (I:Inv X zB σ H s):X.env.locals < s.heap.objs.size:=let ⟨_,hn,_⟩:=I.loc; hn.lt
theorem Inv.sz (I:Inv X zB σ H s):X.s₀.heap.objs.size <= s.heap.objs.size:=zUV I.ok.above (zW0 I.lt)
theorem Inv.nofs (I:Inv X zB σ H s) {a:Addr} (h:s.heap.objs.size <= a):a ∉ X.fs:=fun hb=>by
 obtain ⟨_,o,ho,_⟩:=I.ok.funs.mem hb;exact absurd (zUT (zUF ho) (zUV I.sz h)) (zUm _)
theorem Inv.cne (I:Inv X zB σ H s):∀ x c,X.env.cells.lookup x = some c -> c ≠ X.env.locals:=fun x c e z=>by
 obtain ⟨v,o,ho,hd⟩:=I.cell x c e;obtain ⟨m,⟨o',es,ep,ho',hd',_⟩,_⟩:=I.loc;rw [z,ho'] at ho; cases ho; rw [hd'] at hd; cases hd
theorem Inv.funs (I:Inv X zB σ H s):s.heap.FunFrames X.base X.outer:=by
 have all:∀ (l:List Env),(∀ b ∈ frs l,b ∈ X.fs) -> X.s₀.heap.FunFrames X.base l -> s.heap.FunFrames X.base l:=by
  intro l;induction l with
  | nil=>intro _ _; trivial
  | cons env r ih=>
   intro hs hl;obtain ⟨hk,⟨L,o,hf,hn,ho,hd⟩,hr⟩:=hl;have hL:L ∈ X.fs:=hs L (by unfold frs; rw [List.filterMap_cons,hf]; exact zUI);obtain ⟨sl,e⟩:=I.base.slot L o ho (I.ok.frf L hL) hL fun z=>I.ok.exfs L z hL;exact ⟨hk,⟨L,_,hf,hn,e,hd⟩,ih (fun b hb=>hs b (by unfold frs; rw [List.filterMap_cons,hf]; exact zUH _ hb)) hr⟩
 exact all X.outer (fun _ hb=>hb) I.ok.funs
theorem Inv.stack (I:Inv X zB σ H s):s.heap.FunFrames X.base X.stack:=by
 rcases I.ok.stk with e | ⟨e,hf⟩
 ·rw [e]; exact I.funs
 ·rw [e];obtain ⟨m,hn,_⟩:=I.loc;refine .cons (by rw [I.ok.kind]; decide) hf hn ?_ I.funs;exact Heap.get?_none_of_le (zUV I.ok.bsz I.ok.above)
theorem Inv.stkSub (I:Inv X zB σ H s):∀ b ∈ frs X.stack,b ∈ X.env.locals :: X.fs:=fun b hb=>by
 rcases I.ok.stk with e | ⟨e,hf⟩
 ·rw [e] at hb; exact zUH _ hb
 ·rw [e] at hb;unfold frs at hb;rw [List.filterMap_cons,hf] at hb;exact hb
theorem Inv.stkFree (I:Inv X zB σ H s):∀ b ∈ frs X.stack,H b = none:=fun b hb=>by
 rcases zUG.mp (I.stkSub b hb) with e | hb
 ·rw [e]; exact I.free
 ·obtain ⟨_,o,ho,_⟩:=I.ok.funs.mem hb;exact I.base.free b o ho (I.ok.frf b hb) fun z=>I.ok.exfs b z hb
theorem Inv.step {g':Array GenState} {t':Nat} {d':Drawn} {ch:List Addr} (I:Inv X zB σ H s)
  (hch:∀ b ∈ ch,(b ∈ X.ex \/ X.s₀.heap.objs.size <= b) /\ b ≠ X.env.locals /\ (∀ x c,X.env.cells.lookup x = some c -> c ≠ b) /\ ∀ p ∈ X.pn ++ zB,p.1 ≠ b)
  (keep:∀ b o,b ≠ X.env.locals -> b ∉ X.fs -> b ∉ ch -> s.heap.get? b = some o -> H b = none -> h'.get? b = some o)
  (slot:∀ b o,b ≠ X.env.locals -> b ∈ X.fs -> b ∉ ch -> s.heap.get? b = some o -> H b = none -> ∃ sl,h'.get? b = some { o with slots:=sl }) (free:∀ b o,b ∉ ch -> s.heap.get? b = some o -> H b = none -> H' b = none)
  (there:∀ b o,b ∉ ch -> s.heap.get? b = some o -> ∃ o',h'.get? b = some o')
  (tups:∀ b xs,H b = some (.tup xs) -> H' b = some (.tup xs)) (frzs:∀ b o u,H b = some (.frz o u) -> H' b = some (.frz o u)) (tbls:∀ b ps,H b = some (.tbl ps) -> ∃ more,H' b = some (.tbl (ps ++ more)))
  (ns:∀ m,s.heap.Ns X.env.locals m -> h'.Ns X.env.locals m) (hok:HOk X.prog X.w H' h') (hg:AllBare g') :
  Inv X zB σ H' { s with heap:=h',gens:=g',drawn:=d',toks:=t' }:=by
 have neL:∀ b o,X.s₀.heap.get? b = some o -> b ≠ X.env.locals:=fun b o e=>zUP (zUT (zUF e) I.ok.above);have neC:∀ b o,X.s₀.heap.get? b = some o -> b ∉ X.ex -> b ∉ ch:=fun b o e hx hb=>by
  rcases (hch b hb).1 with z | z
  ·exact hx z
  ·exact absurd (zUT (zUF e) z) (zUm _)
 have cellK:∀ x c,X.env.cells.lookup x = some c -> ∀ v,s.heap.IsCell c v -> h'.IsCell c v:=fun x c e v ⟨o,ho,hd⟩=>by
  have nch:c ∉ ch:=fun z=>(hch c z).2.2.1 x c e rfl;by_cases hc:c ∈ X.fs
  ·obtain ⟨sl,q⟩:=slot c o (I.cne x c e) hc nch ho (I.freeC x c e);exact ⟨_,q,hd⟩
  ·exact ⟨o,keep c o (I.cne x c e) hc nch ho (I.freeC x c e),hd⟩
 refine ⟨I.ok,I.os,hg,⟨fun b o e n hb hx=>?_,fun b o e n hb hx=>?_,fun b o e n hx=>?_,fun b o e hx=>?_,fun b xs e=>tups b xs (I.base.tups b xs e),fun b o xs e=>frzs b o xs (I.base.frzs b o xs e),fun b ps e=>?_⟩,?_,fun x c e=>?_,?_,fun x c e=>?_,fun p hp=>?_,hok,I.len⟩
 ·exact keep b o (neL b o e) hb (neC b o e hx) (I.base.keep b o e n hb hx) (I.base.free b o e n hx)
 ·obtain ⟨sl,e1⟩:=I.base.slot b o e n hb hx;obtain ⟨sl',e2⟩:=slot b _ (neL b o e) hb (neC b o e hx) e1 (I.base.free b o e n hx);exact ⟨sl',e2⟩
 ·obtain ⟨o',e1⟩:=I.base.there b o e hx;exact free b o' (neC b o e hx) e1 (I.base.free b o e n hx)
 ·obtain ⟨o',e1⟩:=I.base.there b o e hx;exact there b o' (neC b o e hx) e1
 ·obtain ⟨m1,e1⟩:=I.base.tbls b ps e;obtain ⟨m2,e2⟩:=tbls b _ e1;exact ⟨m1 ++ m2,by rw [e2,Array.append_assoc]⟩
 ·obtain ⟨m,hn,hl⟩:=I.loc;refine ⟨m,ns m hn,fun i x v e1 e2 e3=>?_⟩;obtain ⟨u,r,l⟩:=hl i x v e1 e2 e3;refine ⟨u,r,?_⟩;rcases l with l | ⟨k,c,e,z⟩
  ·exact .inl l
  ·exact .inr ⟨k,c,e,cellK x c e _ z⟩
 ·obtain ⟨v,z⟩:=I.cell x c e;exact ⟨v,cellK x c e v z⟩
 ·obtain ⟨m,⟨o,_,_,ho,_⟩,_⟩:=I.loc;exact free _ o (fun z=>(hch _ z).2.1 rfl) ho I.free
 ·obtain ⟨v,o,ho,hd⟩:=I.cell x c e;exact free c o (fun z=>(hch c z).2.2.1 x c e rfl) ho (I.freeC x c e)
 ·obtain ⟨e,n,ne,nf,d⟩:=I.pin p hp;have nch:p.1 ∉ ch:=fun z=>(hch p.1 z).2.2.2 p hp rfl;exact ⟨keep p.1 p.2 ne nf nch e n,free p.1 p.2 nch e n,ne,nf,d⟩
theorem Inv.un {t':Nat} (I:Inv X zB σ H s) (u:Un X.fs [] H H' s.heap h') (hok:HOk X.prog X.w H' h'):Inv X zB σ H' { s with heap:=h',toks:=t' }:=by
 obtain ⟨m,⟨o,es,ep,ho,r⟩,_⟩:=id I.loc;obtain ⟨sl,hL⟩:=u.any ho I.free (by simp);exact I.step (g':=s.gens) (d':=s.drawn) (ch:=[]) (fun _ z=>nomatch z) (fun b o _ hb _ e n=>u.keep b o e n hb (by simp)) (fun b o _ hb _ e n=>u.slot b o e n hb (by simp)) (fun b o _ e n=>u.free b o e n (by simp)) (fun b o _ e=>u.there b o e (by simp)) u.tups u.frzs u.tbls (fun m' hm=>by
  obtain ⟨o',es',ep',ho',r'⟩:=hm;rw [ho] at ho'; cases ho';exact ⟨_,es',ep',hL,r'⟩) hok I.bare
theorem Inv.call {g':Array GenState} {t':Nat} {d':Drawn} {ch:List Addr} (I:Inv X zB σ H s) (u:Un (frs X.stack) ch H H' s.heap h') (hok:HOk X.prog X.w H' h') (hg:AllBare g')
  (hch:∀ b ∈ ch,(b ∈ X.ex \/ X.s₀.heap.objs.size <= b) /\ b ≠ X.env.locals /\ (∀ x c,X.env.cells.lookup x = some c -> c ≠ b) /\ ∀ p ∈ X.pn ++ zB,p.1 ≠ b) :
  Inv X zB σ H' { s with heap:=h',gens:=g',drawn:=d',toks:=t' }:=by
 obtain ⟨m,⟨o,es,ep,ho,r⟩,_⟩:=id I.loc;obtain ⟨sl,hL⟩:=u.any ho I.free fun z=>(hch _ z).2.1 rfl;exact I.step (ch:=ch) hch (fun b o hL hb hc e n=>u.keep b o e n (fun z=>(zUG.mp (I.stkSub b z)).elim hL hb) hc) (fun b o _ _ hc e n=>u.any e n hc) (fun b o hc e n=>u.free b o e n hc) (fun b o hc e=>u.there b o e hc) u.tups u.frzs u.tbls (fun m' hm=>by
  obtain ⟨o',es',ep',ho',r'⟩:=hm;rw [ho] at ho'; cases ho';exact ⟨_,es',ep',hL,r'⟩) hok hg
theorem Inv.turned {t':Nat} {it:Addr} (I:Inv X zB σ H s) (k:∀ b o,b ≠ it -> s.heap.get? b = some o -> h'.get? b = some o) (hn:H it = none) (hL:it ≠ X.env.locals)
  (h1:it ∈ X.ex \/ X.s₀.heap.objs.size <= it) (h2:∀ x c,X.env.cells.lookup x = some c -> c ≠ it) (h3:∀ p ∈ X.pn ++ zB,p.1 ≠ it):Inv X zB σ H { s with heap:=h',toks:=t' }:=by
 have nit:∀ b u,H b = some u -> b ≠ it:=fun b u e z=>by rw [z,hn] at e; cases e
 refine I.step (g':=s.gens) (d':=s.drawn) (ch:=[it]) (fun b hb=>?_) (fun b o _ _ hc e _=>k b o (fun z=>hc (by simp [z])) e) (fun b o _ _ hc e _=>⟨o.slots,k b o (fun z=>hc (by simp [z])) e⟩) (fun _ _ _ _ n=>n)
  (fun b o hc e=>⟨o,k b o (fun z=>hc (by simp [z])) e⟩) (fun _ _ e=>e) (fun _ _ _ e=>e) (fun b ps e=>⟨#[],by rw [e]; simp⟩) (fun m hm=>?_) (fun b u e=>?_) I.bare
 ·have e:b = it:=by simpa using hb
  subst e;exact ⟨h1,hL,h2,h3⟩
 ·obtain ⟨o,es,ep,ho,r⟩:=hm;exact ⟨o,es,ep,k _ o (Ne.symm hL) ho,r⟩
 ·refine (I.hok b u e).stay (fun c v hc q=>k c v ?_ q) (fun _ q=>q) fun _ _ q=>q;rcases hc with z | z
  ·rw [z]; exact nit b u e
  ·exact nit c _ z
theorem Inv.tok (I:Inv X zB σ H s) (t:Nat):Inv X zB σ H { s with toks:=t }:=I.un (h':=s.heap) (t':=t) Un.refl I.hok
theorem Inv.kept {t':Nat} (I:Inv X zB σ H s) (k:∀ b u,s.heap.get? b = some u -> h'.get? b = some u):Inv X zB σ H { s with heap:=h',toks:=t' }:=I.un (Un.kept k) (I.hok.kept k)
theorem Inv.laid {a:Addr} {o:HO} {t':Nat} (I:Inv X zB σ H s) (k:∀ b u,s.heap.get? b = some u -> h'.get? b = some u) (hp:s.heap.objs.size <= a) (new:zn X.prog X.w (upd H a o) h' a o) :
  Inv X zB σ (upd H a o) { s with heap:=h',toks:=t' }:=I.un (Un.laid k hp (I.hok.fresh hp)) (I.hok.laid k hp new)
theorem Inv.write {x e:Addr} {o:HO} {t':Nat} (I:Inv X zB σ H s) (mu:Mut (H x)) (he:e = x \/ H e = some (.own x)) (k:∀ b u,b ≠ e -> s.heap.get? b = some u -> h'.get? b = some u) (heo:∃ u,h'.get? e = some u)
  (new:zn X.prog X.w (upd H x o) h' x o):Inv X zB σ (upd H x o) { s with heap:=h',toks:=t' }:=I.un (Un.write mu he k heo) (I.hok.write mu he k heo new)
theorem Inv.weak {σ':List (Option V)} (I:Inv X zB σ H s) (hl:σ'.length = σ.length) (w:∀ (i:Nat) v,σ'[i]? = some (some v) -> σ[i]? = some (some v)):Inv X zB σ' H s :=
 ⟨I.ok,I.os,I.bare,I.base,let ⟨m,hn,hl'⟩:=I.loc; ⟨m,hn,fun i x v e1 e2 e3=>hl' i x v e1 (w i v e2) e3⟩,I.cell,I.free,I.freeC,I.pin,I.hok,hl.trans I.len⟩
theorem Inv.pins_of {pins':List (Addr × Obj)} (I:Inv X zB σ H s) (h:∀ p ∈ pins',s.heap.get? p.1 = some p.2 /\ H p.1 = none /\ p.1 ≠ X.env.locals /\ p.1 ∉ X.fs /\ ∀ v,p.2.data ≠ .cell v):Inv X pins' σ H s :=
 ⟨I.ok,I.os,I.bare,I.base,I.loc,I.cell,I.free,I.freeC,fun p hp=>(zUU.mp hp).elim (fun z=>I.pin p (zVJ _ z)) (h p),I.hok,I.len⟩
theorem zIN {N:List Str} (hN:N.Nodup) {i j:Nat} {x:Str} (a:N[i]? = some x) (b:N[j]? = some x):i = j:=by
 obtain ⟨h1,e1⟩:=zT7.mp a;obtain ⟨h2,e2⟩:=zT7.mp b;exact (List.getElem_inj hN).mp (e1.trans e2.symm)
theorem zL1 {M:Model} {A:Around} {E:Value -> Shared -> Prop} {i:Nat} {x:Str} {v:V} {u:Value} {Q:Unit -> Shared -> Prop} (I:Inv X zB σ H s) (hN:X.N.Nodup) (hi:X.N[i]? = some x) (hx:Loc X.env.scope x) (r:ze v u)
  (h:∀ s',Inv X zB (σ.set i (some v)) H s' -> (∃ a,Heap.SameBut a s.heap s'.heap /\ (a = X.env.locals \/ X.env.cells.lookup x = some a)) -> Q () s') (hf:X.fn x = true \/ X.env.scope.names.lookup x = some .local:=by first | exact .inl rfl | exact .inr rfl | assumption):wpAny M A (storeName X.env x u) Q E s:=by
 obtain ⟨m,hn,hl⟩:=id I.loc;have hcls:(X.env.scope.kind == .class || (X.env.scope.kind == .module && X.env.locals != X.env.globals)) = false:=by rw [I.ok.kind]; rfl
 have hiσ:i < σ.length:=by rw [I.len]; exact (zT7.mp hi).1
 have cne:=I.cne;have tracked:∀ {a:Addr} {h':Heap},(∃ o,s.heap.get? a = some o /\ H a = none) -> Heap.SameBut a s.heap h' -> HOk X.prog X.w H h':=fun {a h'} ha hs b ob e=>by
  obtain ⟨_,_,hfree⟩:=ha;refine (I.hok b ob e).stay (fun c w' hc q=>(hs.2 c ?_).trans q) (fun _ q=>q) fun _ _ q=>q;rintro rfl;rcases hc with rfl | hc
  ·rw [hfree] at e; cases e
  ·rw [hfree] at hc; cases hc
 rcases hx with hk | hk
 ·refine wpAny_storeName_local hk hn (fun h' hn' hs=>?_) hcls;obtain ⟨oL,_,_,hoL,_⟩:=id hn;refine h _ ⟨I.ok,I.os,I.bare,⟨fun b o e n hb hx=>?_,fun b o e n hb hx=>?_,I.base.free,fun b o e hx=>?_,I.base.tups,I.base.frzs,I.base.tbls⟩,⟨_,hn',fun j y v' e1 e2 e3=>?_⟩,fun y c e=>?_,I.free,I.freeC,fun p hp=>?_,tracked ⟨oL,hoL,I.free⟩ hs,by simpa using I.len⟩ ⟨_,hs,.inl rfl⟩
  ·exact (hs.2 b (zUP (zUT (zUF e) I.ok.above))).trans (I.base.keep b o e n hb hx)
  ·obtain ⟨sl,e1⟩:=I.base.slot b o e n hb hx;exact ⟨sl,(hs.2 b (zUP (zUT (zUF e) I.ok.above))).trans e1⟩
  ·obtain ⟨o',e1⟩:=I.base.there b o e hx;exact ⟨o',(hs.2 b (zUP (zUT (zUF e) I.ok.above))).trans e1⟩
  ·by_cases hj:j = i
   ·subst hj;rw [hi] at e1; cases e1;rw [zUy hiσ] at e2;cases e2;exact ⟨u,r,.inl ⟨hk,by simp⟩⟩
   ·rw [zUY (Ne.symm hj)] at e2;obtain ⟨u',r',q⟩:=hl j y v' e1 e2 e3;refine ⟨u',r',?_⟩;rcases q with ⟨k,e⟩ | ⟨k,c,e,z⟩
    ·refine .inl ⟨k,?_⟩;have:y ≠ x:=fun e=>hj (zIN hN e1 (e ▸ hi));simp [this,e]
    ·exact .inr ⟨k,c,e,z.sameBut hs (cne y c e)⟩
  ·obtain ⟨w',z⟩:=I.cell y c e;exact ⟨w',z.sameBut hs (cne y c e)⟩
  ·obtain ⟨e,n,ne,nf,d⟩:=I.pin p hp;exact ⟨(hs.2 p.1 ne).trans e,n,ne,nf,d⟩
 ·have hfn:X.fn x = true:=by
   rcases hf with z | z
   ·exact z
   ·rw [z] at hk; cases hk
  obtain ⟨c,hc⟩:=I.ok.has x (.inl hk);obtain ⟨w',z⟩:=I.cell x c hc;refine wpAny_storeName_cell I.ok.kind hk hc z (fun h' hc' hs=>?_);obtain ⟨oc,hoc,hocd⟩:=id z;refine h { s with heap:=h' } ⟨I.ok,I.os,I.bare,⟨fun b o e n hb hx=>?_,fun b o e n hb hx=>?_,I.base.free,fun b o e hx=>?_,I.base.tups,I.base.frzs,I.base.tbls⟩,⟨m,hn.sameBut hs (Ne.symm (cne x c hc)),fun j y v' e1 e2 e3=>?_⟩,fun y c' e=>?_,I.free,I.freeC,fun p hp=>?_,tracked ⟨oc,hoc,I.freeC x c hc⟩ hs,by simpa using I.len⟩ ⟨c,hs,.inr hc⟩
  ·exact (hs.2 b (zUP (zUT (zUF e) (I.ok.cab x c hfn hc)))).trans (I.base.keep b o e n hb hx)
  ·obtain ⟨sl,e1⟩:=I.base.slot b o e n hb hx;exact ⟨sl,(hs.2 b (zUP (zUT (zUF e) (I.ok.cab x c hfn hc)))).trans e1⟩
  ·obtain ⟨o',e1⟩:=I.base.there b o e hx;exact ⟨o',(hs.2 b (zUP (zUT (zUF e) (I.ok.cab x c hfn hc)))).trans e1⟩
  ·by_cases hj:j = i
   ·subst hj;rw [hi] at e1; cases e1;rw [zUy hiσ] at e2;cases e2;exact ⟨u,r,.inr ⟨.inl hk,c,hc,hc'⟩⟩
   ·rw [zUY (Ne.symm hj)] at e2;obtain ⟨u',r',q⟩:=hl j y v' e1 e2 e3;refine ⟨u',r',?_⟩;rcases q with q | ⟨k,c',e,z'⟩
    ·exact .inl q
    ·refine .inr ⟨k,c',e,z'.sameBut hs ?_⟩;rintro rfl;exact hj (zIN hN e1 (I.ok.inj _ _ _ e hc ▸ hi))
  ·by_cases hcc:c' = c
   ·subst hcc; exact ⟨_,hc'⟩
   ·obtain ⟨w2,z2⟩:=I.cell y c' e;exact ⟨w2,z2.sameBut hs hcc⟩
  ·obtain ⟨e,n,ne,nf,d⟩:=I.pin p hp;refine ⟨(hs.2 p.1 ?_).trans e,n,ne,nf,d⟩;intro q;rw [q,hoc] at e;have q':oc = p.2:=zU4 e;exact d w' (by rw [<- q']; exact hocd)
theorem zIT {M:Model} {A:Around} {E:Value -> Shared -> Prop} {i:Nat} {x:Str} {v:V} {u:Value} {Q:Unit -> Shared -> Prop} (I:Inv X zB σ H s) (hN:X.N.Nodup) (hi:X.N[i]? = some x) (hx:Loc X.env.scope x) (r:ze v u)
  (h:∀ s',Inv X zB (σ.set i (some v)) H s' -> Q () s') (hf:X.fn x = true \/ X.env.scope.names.lookup x = some .local:=by first | exact .inl rfl | exact .inr rfl | assumption):wpAny M A (storeName X.env x u) Q E s :=
 zL1 I hN hi hx r (fun s' I' _=>h s' I') hf
theorem Inv.call' {s':Shared} {ch:List Addr} (I:Inv X zB σ H s) (ho:s'.os = s.os) (u:Un (frs X.stack) ch H H' s.heap s'.heap) (hok:HOk X.prog X.w H' s'.heap) (hg:AllBare s'.gens)
  (hch:∀ b ∈ ch,(b ∈ X.ex \/ X.s₀.heap.objs.size <= b) /\ b ≠ X.env.locals /\ (∀ x c,X.env.cells.lookup x = some c -> c ≠ b) /\ ∀ p ∈ X.pn ++ zB,p.1 ≠ b):Inv X zB σ H' s':=by
 obtain ⟨h',g',d',t',o'⟩:=s';have e:o' = s.os:=ho;subst e;exact I.call (g':=g') (t':=t') (d':=d') u hok hg hch
end
abbrev XK:=Value -> Option Addr -> Hp -> Prop
abbrev St:=List (Option V)
abbrev VK:=V -> Hp -> Prop
abbrev TE:=St -> Hp -> VK -> Prop
abbrev TT:=St -> Hp -> (Bool -> Hp -> Prop) -> Prop
abbrev TA:=St -> Hp -> (List V -> Hp -> Prop) -> Prop
structure Ends where
 nx:St -> Hp -> Prop
 rt:VK
 bk:St -> Hp -> Prop:=fun _ _=>False
 ct:St -> Hp -> Prop:=fun _ _=>False
abbrev TS:=Ends -> St -> Hp -> Prop
def EP (X:Cx) (zB:List (Addr × Obj)) (σ:St) (Q:VK) (u:Value) (s':Shared):Prop:=∃ v H',Inv X zB σ H' s' /\ ze v u /\ Q v H'
def TP (X:Cx) (zB:List (Addr × Obj)) (σ:St) (Q:Bool -> Hp -> Prop) (b:Bool) (s':Shared):Prop:=∃ H',Inv X zB σ H' s' /\ Q b H'
def AP (X:Cx) (zB:List (Addr × Obj)) (σ:St) (Q:List V -> Hp -> Prop) (us:List Value) (s':Shared):Prop:=∃ vs H',Inv X zB σ H' s' /\ zU vs us /\ Q vs H'
def SP (X:Cx) (zB:List (Addr × Obj)) (D:Ends) (f:Flow) (s':Shared):Prop :=
 match f with
 | .next=>∃ σ' H',Inv X zB σ' H' s' /\ D.nx σ' H'
 | .brk=>∃ σ' H',Inv X zB σ' H' s' /\ D.bk σ' H'
 | .cont=>∃ σ' H',Inv X zB σ' H' s' /\ D.ct σ' H'
 | .ret u=>∃ v σ' H',Inv X zB σ' H' s' /\ ze v u /\ D.rt v H'
def PE (X:Cx) (e:Expr) (t:TE):Prop :=
 ∀ (zB:List (Addr × Obj)) (s:Shared) (σ:St) (H:Hp) (Q:VK),Inv X zB σ H s -> t σ H Q -> wpAny (model X.prog X.w) X.A (eval e X.env) (EP X zB σ Q) X.xe s
def PT (X:Cx) (e:Expr) (t:TT):Prop :=
 ∀ (zB:List (Addr × Obj)) (s:Shared) (σ:St) (H:Hp) (Q:Bool -> Hp -> Prop),Inv X zB σ H s -> t σ H Q -> wpAny (model X.prog X.w) X.A (isTrue e X.env (eval e X.env)) (TP X zB σ Q) X.xe s
def PW (X:Cx) (e:Expr) (t:TT):Prop :=
 ∀ (whole:Sem Value) (zB:List (Addr × Obj)) (s:Shared) (σ:St) (H:Hp) (Q:Bool -> Hp -> Prop),Inv X zB σ H s -> t σ H Q -> wpAny (model X.prog X.w) X.A (isTrue e X.env whole) (TP X zB σ Q) X.xe s
theorem PW.pt {X:Cx} {e:Expr} {t:TT} (h:PW X e t):PT X e t:=h _
def PA (X:Cx) (es:List Expr) (t:TA):Prop :=
 ∀ (pos:Pos) (zB:List (Addr × Obj)) (s:Shared) (σ:St) (H:Hp) (Q:List V -> Hp -> Prop),Inv X zB σ H s -> t σ H Q -> wpAny (model X.prog X.w) X.A (spliced (backTo pos (starEach es X.env))) (AP X zB σ Q) X.xe s
def PS (X:Cx) (st:Stmt) (t:TS):Prop :=
 ∀ (zB:List (Addr × Obj)) (s:Shared) (σ:St) (H:Hp) (D:Ends),Inv X zB σ H s -> t D σ H -> wpAny (model X.prog X.w) X.A (exec st X.env) (SP X zB D) X.xe s
def PSs (X:Cx) (st:List Stmt) (t:TS):Prop :=
 ∀ (zB:List (Addr × Obj)) (s:Shared) (σ:St) (H:Hp) (D:Ends),Inv X zB σ H s -> t D σ H -> wpAny (model X.prog X.w) X.A (execs st X.env) (SP X zB D) X.xe s
theorem thn {α:Type} {t:Sem α} {Q Q':α -> Shared -> Prop} {M:Model} {A:Around} {E:Value -> Shared -> Prop} {s:Shared} (h:wpAny M A t Q E s) (hQ:∀ a s,Q a s -> Q' a s):wpAny M A t Q' E s:=zUa h hQ fun _ _ x=>x
section
variable {X:Cx}
def zRq (i:Nat):TE:=fun σ H Q=>∃ v,σ[i]? = some (some v) /\ Q v H
def tC (v:V):TE:=fun _ H Q=>Q v H
theorem zN4 {i:Nat} {x:Str} {pos:Pos} (hN:X.N[i]? = some x) (hv:Vis X.env.scope x) (hd:(x == ("__debug__" : Str)) = false:=by decide) (hcd:(x == ("__classdict__" : Str)) = false:=by decide):PE X (.Name x pos) (zRq i):=by
 intro zB s σ H Q I h;obtain ⟨v,e,h⟩:=h;obtain ⟨m,hn,hl⟩:=I.loc;obtain ⟨u,r,l⟩:=hl i x v hN e hv;have fin:EP X zB σ Q u s:=⟨v,H,I,r,h⟩;rcases l with ⟨hk,hm⟩ | ⟨hk,c,hc,hcell⟩
 ·exact wpAny_Name (wpAny_loadName_local I.ok.kind hk hn hm fin) hd
 ·rcases hk with hk | hk
  ·exact wpAny_Name (wpAny_loadName_cell I.ok.kind hk hc hcell fin) hd
  ·exact wpAny_Name (wpAny_loadName_free I.ok.kind hk hc hcell fin hcd) hd
theorem zRa {i j pos}:PE X (.Constant (.int i) j pos) (tC (.int i)):=fun _ _ _ H _ I h=>wpAny_Constant_int ⟨.int i,H,I.tok _,⟨_,rfl⟩,h⟩
theorem zS8 {b j pos}:PE X (.Constant (.bool b) j pos) (tC (.bl b)):=fun _ _ _ H _ I h=>Constant_bool ⟨.bl b,H,I,rfl,h⟩
theorem zR0 {j pos}:PE X (.Constant .none j pos) (tC .non):=fun _ _ _ H _ I h=>Constant_none ⟨.non,H,I,rfl,h⟩
theorem zRt {x j pos}:PE X (.Constant (.str x) j pos) (tC (.str x)):=fun _ _ _ H _ I h=>Calls.Constant_str ⟨.str x,H,I.tok _,⟨_,rfl⟩,h⟩
def Gl (X:Cx) (x:Str):Prop:=X.env.kindOf x = some .globalImplicit
theorem zKw {E:Value -> Shared -> Prop} {zB:List (Addr × Obj)} {s:Shared} {σ:St} {H:Hp} {x:Str} {u:Value} {pos:Pos} {Q:Value -> Shared -> Prop} (I:Inv X zB σ H s) (hg:Gl X x) (hm:X.mg x = some u) (h:Q u s)
  (hd:(x == ("__debug__" : Str)) = false:=by decide):wpAny (model X.prog X.w) X.A (eval (.Name x pos) X.env) Q E s :=
 Calls.Name_function_global I.ok.kind hg (Calls.loadGlobal_global (by rw [I.ok.glob]; exact I.mod.glob.keeps I.bk) hm h) hd
theorem zEo {E:Value -> Shared -> Prop} {zB:List (Addr × Obj)} {s:Shared} {σ:St} {H:Hp} {x:Str} {u:Value} {pos:Pos} {Q:Value -> Shared -> Prop} (I:Inv X zB σ H s) (hg:Gl X x) (hm:X.mg x = none) (hv:bootBuiltins x = some u) (h:Q u s)
  (hn:x ≠ "__name__" := by decide) (hd:(x == ("__debug__" : Str)) = false:=by decide):wpAny (model X.prog X.w) X.A (eval (.Name x pos) X.env) Q E s:=by
 obtain ⟨mb,h1,h2⟩:=I.mod.blt;exact Calls.Name_function_global I.ok.kind hg (Calls.loadGlobal_builtin (by rw [I.ok.glob]; exact I.mod.glob.keeps I.bk) hm (by rw [I.ok.blt]; exact h1.keeps I.bk) ((h2 x hn).trans hv) h) hd
theorem zPG {x:Str} {v:V} {u:Value} {pos:Pos} (hg:Gl X x) (hm:X.mg x = none) (hv:bootBuiltins x = some u) (r:ze v u) (hn:x ≠ "__name__" := by decide) (hd:(x == ("__debug__" : Str)) = false:=by decide):PE X (.Name x pos) (tC v) :=
 fun _ _ _ H _ I h=>zEo I hg hm hv ⟨v,H,I,r,h⟩ hn hd
variable {a b:Expr} {ta tb:TE} {pos:Pos}
def PC (X:Cx) (op:CmpOp) (a b:Expr) (t:TE):Prop :=
 ∀ (zB:List (Addr × Obj)) (s:Shared) (σ:St) (H:Hp) (Q:VK),Inv X zB σ H s -> t σ H Q ->
  wpAny (model X.prog X.w) X.A (eval a X.env) (fun v s₁=>wpAny (model X.prog X.w) X.A (eval b X.env) (fun u s₂=>wpAny (model X.prog X.w) X.A (compareOp op v u) (EP X zB σ Q) X.xe s₂) X.xe s₁) X.xe s
def tB (t:TE):TT:=fun σ H Q=>t σ H fun x H1=>∃ c,x = .bl c /\ Q c H1
theorem zQq {op:CmpOp} {t:TE} (h:PC X op a b t) (h1:behindInMarks op b = false:=by first | exact nobehind _ (by decide) (by decide) | rfl):PT X (.Compare a [op] [b] pos) (tB t):=by
 intro zB s σ H Q I hw;refine wpAny_isTrue_Compare1 (thn (h zB s σ H _ I hw) fun v s1 h1=>thn h1 fun u s2 h2=>thn h2 fun c s3 ⟨x,H1,I1,r1,q1⟩=>?_) h1;obtain ⟨d,rfl,q⟩:=q1;cases r1;exact wpAny_truthy_bool ⟨H1,I1,q⟩
theorem zRl {e:Expr} {t:TE} (h:PE X e t) (he:∀ whole,isTrue e X.env whole = (do let v <- whole; standAt e.pos; holding [v] (truthy v)):=by intro _; rfl):PT X e (tB t):=by
 intro zB s σ H Q I hw;refine isTrue_plain (thn (h zB s σ H _ I hw) fun v s1 ⟨x,H1,I1,r1,q1⟩=>?_) (he _);obtain ⟨d,rfl,q⟩:=q1;cases r1;exact wpAny_truthy_bool ⟨H1,I1,q⟩
variable {tA tB':TT} {rest:List Expr}
def zTj (t u:TT):TT:=fun σ H Q=>t σ H fun c H1=>if c = true then u σ H1 Q else Q false H1
def tOr (t u:TT):TT:=fun σ H Q=>t σ H fun c H1=>if c = true then Q true H1 else u σ H1 Q
def zTq (t:TT):TT:=fun σ H Q=>t σ H fun c H1=>Q (!c) H1
theorem zPE (ha:PT X a tA):PW X (.BoolOp .And [a] pos) tA:=by
 intro wh zB s σ H Q I h;refine isTrue_and (thn (ha zB s σ H Q I h) fun c s1 e=>?_);cases c with
 | true=>exact isTrue_and_nil e
 | false=>exact e
theorem zRk (ha:PT X a tA):PW X (.BoolOp .Or [a] pos) tA:=by
 intro wh zB s σ H Q I h;refine isTrue_or (thn (ha zB s σ H Q I h) fun c s1 e=>?_);cases c with
 | false=>exact isTrue_or_nil e
 | true=>exact e
theorem zR9 (ha:PT X a tA) (hb:PW X (.BoolOp .And (b :: rest) pos) tB'):PW X (.BoolOp .And (a :: b :: rest) pos) (zTj tA tB'):=by
 intro wh zB s σ H Q I h;refine isTrue_and (thn (ha zB s σ H _ I h) fun c s1 ⟨H1,I1,q1⟩=>?_);cases c with
 | true=>exact hb wh zB s1 σ H1 Q I1 q1
 | false=>exact ⟨H1,I1,q1⟩
theorem zS7 (ha:PT X a tA) (hb:PW X (.BoolOp .Or (b :: rest) pos) tB'):PW X (.BoolOp .Or (a :: b :: rest) pos) (tOr tA tB'):=by
 intro wh zB s σ H Q I h;refine isTrue_or (thn (ha zB s σ H _ I h) fun c s1 ⟨H1,I1,q1⟩=>?_);cases c with
 | true=>exact ⟨H1,I1,q1⟩
 | false=>exact hb wh zB s1 σ H1 Q I1 q1
theorem zRv (ha:PT X a tA):PT X (.UnaryOp .Not a pos) (zTq tA):=by
 intro zB s σ H Q I h;exact isTrue_not (ha zB s σ H (fun c H1=>Q (!c) H1) I h)
def zTH (ta tb:TE):TE:=fun σ H Q=>ta σ H fun x H1=>∃ c,x = .bl c /\ if c = true then tb σ H1 Q else Q (.bl false) H1
def zSb (ta:TE):TE:=fun σ H Q=>ta σ H fun x H1=>∃ c,x = .bl c /\ Q (.bl (!c)) H1
theorem zRe {op} {t:TE} (h:PE X a t):PE X (.BoolOp op [a] pos) t:=fun zB s σ H Q I hw=>BoolOp_one (h zB s σ H Q I hw)
theorem zRN (ha:PE X a ta) (hb:PE X (.BoolOp .And (b :: rest) pos) tb):PE X (.BoolOp .And (a :: b :: rest) pos) (zTH ta tb):=by
 intro zB s σ H Q I h;refine BoolOp_and (thn (ha zB s σ H _ I h) fun v s1 ⟨x,H1,I1,r1,q1⟩=>?_);obtain ⟨c,rfl,q1⟩:=q1;cases r1;refine wpAny_truthy_bool ?_;cases c with
 | true=>exact hb zB s1 σ H1 Q I1 q1
 | false=>exact ⟨.bl false,H1,I1,rfl,q1⟩
theorem zRz (ha:PE X a ta):PE X (.UnaryOp .Not a pos) (zSb ta):=by
 intro zB s σ H Q I h;refine UnaryOp_ (thn (ha zB s σ H _ I h) fun v s1 ⟨x,H1,I1,r1,q1⟩=>?_);obtain ⟨c,rfl,q1⟩:=q1;cases r1;exact not_of (wpAny_truthy_bool ⟨.bl (!c),H1,I1,rfl,q1⟩)
end
def SqL (K:PySem.W.Frag) (H:Hp) (a:Addr) (xs:List V):Prop :=
 Rd H a (.lst xs) \/
  ∃ (o:Obj) (its:Array Value) (n:Nat),K.lookup a = some o /\ o.cls = .type "list" /\ o.dict = none /\ o.data = .seq its n /\ its.size <= sizeLine /\ zU xs its.toList
def SqT (K:PySem.W.Frag) (H:Hp) (a:Addr) (xs:List V):Prop :=
 Rd H a (.tup xs) \/
  ∃ (o:Obj) (its:Array Value) (n:Nat),K.lookup a = some o /\ o.cls = .type "tuple" /\ o.data = .seq its n /\ its.size <= sizeLine /\ zU xs its.toList
def zTv:Value -> Option V
 | .none=>some .non
 | .bool b=>some (.bl b)
 | .int i _=>some (.int i)
 | .str x _=>some (.str x)
 | .bytes b _=>some (.byt b)
 | .float b _=>some (.flt b)
 | .ref a=>some (.ref a)
 | .type n=>some (.ty n)
 | _=>none
theorem ze.abs {x:V} {u:Value} (r:ze x u):zTv u = some x:=by
 cases x with
 | non=>cases r; rfl
 | bl _=>cases r; rfl
 | int _=>obtain ⟨t,rfl⟩:=r; rfl
 | str _=>obtain ⟨t,rfl⟩:=r; rfl
 | byt _=>obtain ⟨t,rfl⟩:=r; rfl
 | flt _=>obtain ⟨t,rfl⟩:=r; rfl
 | ref _=>cases r; rfl
 | ty _=>cases r; rfl
theorem ze.inj {x y:V} {u:Value} (r:ze x u) (q:ze y u):x = y:=zU4 (r.abs.symm.trans q.abs)
theorem zU.inj:∀ {xs ys:List V} {us:List Value},zU xs us -> zU ys us -> xs = ys
 | _,_,_,.nil,.nil=>rfl
 | _,_,_,.cons r t,.cons r' t'=>by rw [r.inj r',zU.inj t t']
section
variable {X:Cx} {zB:List (Addr × Obj)} {σ:St} {H:Hp} {s:Shared} {a:Addr} {xs ys:List V}
theorem SqL.of {K:PySem.W.Frag} (h:H a = some (.lst xs)):SqL K H a xs:=.inl (.inl h)
theorem SqT.of {K:PySem.W.Frag} (h:H a = some (.tup xs)):SqT K H a xs:=.inl (.inl h)
theorem Inv.list (I:Inv X zB σ H s) (h:SqL X.K H a xs):∃ its:List Value,zU xs its /\ PlainL s.heap a its.toArray /\ xs.length <= sizeLine:=by
 rcases h with h | ⟨o,its,n,hk,hc,hd,hs,hz,r⟩
 ·obtain ⟨z,its,n,r,e⟩:=h.ok I.hok;exact ⟨its,r,⟨_,n,e,rfl,rfl,rfl⟩,z⟩
 ·refine ⟨its.toList,r,⟨o,n,I.kIn a o hk,hc,hd,by simpa using hs⟩,?_⟩;have e:=r.length;simp only [zUn] at e;omega
theorem Inv.tuple (I:Inv X zB σ H s) (h:SqT X.K H a xs):∃ its:List Value,zU xs its /\ IsTup s.heap a its.toArray /\ xs.length <= sizeLine:=by
 rcases h with h | ⟨o,its,n,hk,hc,hs,hz,r⟩
 ·obtain ⟨z,its,r,p⟩:=h.ok I.hok;exact ⟨its,r,p.tup,z⟩
 ·refine ⟨its.toList,r,⟨o,I.kIn a o hk,hc,n,by simpa using hs⟩,?_⟩;have e:=r.length;simp only [zUn] at e;omega
theorem Inv.list_inj (I:Inv X zB σ H s) (h:SqL X.K H a xs) (h':SqL X.K H a ys):xs = ys:=by
 obtain ⟨its,r,⟨o,n,e,_,_,d⟩,_⟩:=I.list h;obtain ⟨its',r',⟨o',n',e',_,_,d'⟩,_⟩:=I.list h';rw [e] at e'; cases e';rw [d] at d';injection d' with d1 _
 have:its = its':=by simpa using zVr Array.toList d1
 subst this;exact r.inj r'
theorem Inv.tuple_inj (I:Inv X zB σ H s) (h:SqT X.K H a xs) (h':SqT X.K H a ys):xs = ys:=by
 obtain ⟨its,r,⟨o,e,_,n,d⟩,_⟩:=I.tuple h;obtain ⟨its',r',⟨o',e',_,n',d'⟩,_⟩:=I.tuple h';rw [e] at e'; cases e';rw [d] at d';injection d' with d1 _
 have:its = its':=by simpa using zVr Array.toList d1
 subst this;exact r.inj r'
end
abbrev Cx.wish (X:Cx) (E:Value -> Shared -> Prop):Cx:={ X with xe:=E }
abbrev Cx.nox (X:Cx):Cx:=X.wish fun _ _=>False
theorem Cx.Ok.wish {X:Cx} (ok:X.Ok) (E:Value -> Shared -> Prop):(X.wish E).Ok :=
 ⟨ok.mod,ok.kind,ok.glob,ok.blt,ok.above,ok.inj,ok.has,ok.cab,ok.hd,ok.frames,ok.stk,ok.exf,ok.bs,ok.bsz,ok.noex,ok.exfs,ok.funs,ok.frf⟩
theorem Cx.Ok.unwish {X:Cx} {E:Value -> Shared -> Prop} (ok:(X.wish E).Ok):X.Ok :=
 ⟨ok.mod,ok.kind,ok.glob,ok.blt,ok.above,ok.inj,ok.has,ok.cab,ok.hd,ok.frames,ok.stk,ok.exf,ok.bs,ok.bsz,ok.noex,ok.exfs,ok.funs,ok.frf⟩
section
variable {X:Cx} {zB:List (Addr × Obj)} {σ:St} {H:Hp} {s:Shared} {E:Value -> Shared -> Prop}
theorem Inv.wish (I:Inv X zB σ H s) (E:Value -> Shared -> Prop):Inv (X.wish E) zB σ H s:=⟨I.ok.wish E,I.os,I.bare,I.base,I.loc,I.cell,I.free,I.freeC,I.pin,I.hok,I.len⟩
theorem Inv.unwish (I:Inv (X.wish E) zB σ H s):Inv X zB σ H s:=⟨I.ok.unwish,I.os,I.bare,I.base,I.loc,I.cell,I.free,I.freeC,I.pin,I.hok,I.len⟩
theorem SP.unwish {D:Ends} {f:Flow} {s':Shared} (h:SP (X.wish E) zB D f s'):SP X zB D f s':=by
 cases f with
 | next=>obtain ⟨σ',H',I,q⟩:=h; exact ⟨σ',H',I.unwish,q⟩
 | brk=>obtain ⟨σ',H',I,q⟩:=h; exact ⟨σ',H',I.unwish,q⟩
 | cont=>obtain ⟨σ',H',I,q⟩:=h; exact ⟨σ',H',I.unwish,q⟩
 | ret u=>obtain ⟨v,σ',H',I,r,q⟩:=h; exact ⟨v,σ',H',I.unwish,r,q⟩
theorem PSs.nox {st:List Stmt} {t:TS} (h:PSs X.nox st t):PSs X st t:=fun zB s σ H D I hw=>
 zUa (h zB s σ H D (I.wish _) hw) (fun _ _ q=>q.unwish) fun _ _ z=>False.elim z
end
section
variable {X:Cx} {st:Stmt} {rest:List Stmt} {t u:TS} {e:Expr} {te:TE} {pos:Pos}
def zSp:TS:=fun D σ H=>D.nx σ H
def zTx (t u:TS):TS:=fun D σ H=>t { D with nx:=u D } σ H
theorem zP7:PSs X [] zSp:=fun _ _ σ H _ I h=>wpAny_execs_nil ⟨σ,H,I,h⟩
theorem zOm (h1:PS X st t) (h2:PSs X rest u):PSs X (st :: rest) (zTx t u):=by
 intro zB s σ H D I h;refine wpAny_execs_cons (thn (h1 zB s σ H { D with nx:=u D } I h) fun f s1 q=>?_);cases f with
 | next=>
  obtain ⟨σ',H',I',q⟩:=q;exact h2 zB s1 σ' H' D I' q
 | ret v=>exact q
 | brk=>exact q
 | cont=>exact q
theorem zP0 (h1:PS X st t):PSs X [st] t:=by
 intro zB s σ H D I h;refine wpAny_execs_cons (thn (h1 zB s σ H D I h) fun f s1 q=>?_);cases f with
 | next=>exact wpAny_execs_nil q
 | ret v=>exact q
 | brk=>exact q
 | cont=>exact q
theorem Inv.quiet {zB:List (Addr × Obj)} {σ:St} {H:Hp} {s:Shared} (I:Inv X zB σ H s):interactive X.env = false:=by simp [interactive,I.ok.kind]
def zSJ (te:TE):TS:=fun D σ H=>te σ H fun _ H1=>D.nx σ H1
theorem zPy (he:PE X e te) (hs:swapsWith e none pos.line X.env = pure false:=by rfl):PS X (.Expr e pos) (zSJ te):=by
 intro zB s σ H D I h;exact wpAny_Expr_any (thn (he zB s σ H _ I h) fun v s1 ⟨x,H1,I1,r1,q1⟩=>⟨σ,H1,I1,q1⟩) I.quiet hs
def zTb (te:TE):TS:=fun D σ H=>te σ H D.rt
theorem zRB (he:PE X e te):PS X (.Return (some e) pos) (zTb te):=by
 intro zB s σ H D I h;exact wpAny_Return_some (thn (he zB s σ H _ I h) fun v s1 ⟨x,H1,I1,r1,q1⟩=>⟨x,σ,H1,I1,r1,q1⟩)
def zTT (c:TT) (t u:TS):TS:=fun D σ H=>c σ H fun b H1=>if b = true then t D σ H1 else u D σ H1
theorem zSw {c:Expr} {a b:List Stmt} {tc:TT} (hc:PT X c tc) (ha:PSs X a t) (hb:PSs X b u):PS X (.If c a b pos) (zTT tc t u):=by
 intro zB s σ H D I h;refine wpAny_If (thn (hc zB s σ H _ I h) fun d s1 ⟨H1,I1,q1⟩=>?_);cases d with
 | true=>exact ha zB s1 σ H1 D I1 q1
 | false=>exact hb zB s1 σ H1 D I1 q1
end
abbrev TG:=V -> St -> Hp -> (St -> Hp -> Prop) -> Prop
abbrev TGs:=List V -> St -> Hp -> (St -> Hp -> Prop) -> Prop
def PG (X:Cx) (target:Expr) (t:TG):Prop :=
 ∀ (zB:List (Addr × Obj)) (s:Shared) (σ:St) (H:Hp) (v:V) (u:Value) (Q:St -> Hp -> Prop),Inv X zB σ H s -> ze v u -> t v σ H Q ->
  wpAny (model X.prog X.w) X.A (assign target X.env u) (fun _ s'=>∃ σ' H',Inv X zB σ' H' s' /\ Q σ' H') X.xe s
def PGs (X:Cx) (ts:List Expr) (t:TGs):Prop :=
 ∀ (zB:List (Addr × Obj)) (s:Shared) (σ:St) (H:Hp) (vs:List V) (us:List Value) (Q:St -> Hp -> Prop),Inv X zB σ H s -> zU vs us -> t vs σ H Q ->
  wpAny (model X.prog X.w) X.A (assignInOrder ((assignEach ts X.env).map (·.2)) us) (fun _ s'=>∃ σ' H',Inv X zB σ' H' s' /\ Q σ' H') X.xe s
abbrev zQo:=V -> V -> V -> Hp -> (Hp -> Prop) -> Prop
def zSO (X:Cx) (t:zQo):Prop :=
 ∀ (zB:List (Addr × Obj)) (s:Shared) (σ:St) (H:Hp) (o i v:V) (ov iv u:Value) (Q:Hp -> Prop),Inv X zB σ H s -> ze o ov -> ze i iv -> ze v u -> t o i v H Q ->
  wpAny (model X.prog X.w) X.A (setItem ov iv u) (fun _ s'=>∃ H',Inv X zB σ H' s' /\ Q H') X.xe s
section
variable {X:Cx} {pos:Pos}
def zDJ (i:Nat):TG:=fun v σ H Q=>Q (σ.set i (some v)) H
theorem zLO {i:Nat} {x:Str} (hN:X.N.Nodup) (hi:X.N[i]? = some x) (hx:Loc X.env.scope x) (hf:X.fn x = true \/ X.env.scope.names.lookup x = some .local:=by first | exact .inl rfl | exact .inr rfl | assumption):PG X (.Name x pos) (zDJ i):=by
 intro zB s σ H v u Q I r h;exact wpAny_assign_Name (zIT I hN hi hx r (fun s' I'=>⟨_,H,I',h⟩) hf)
def zSe:TGs:=fun vs σ H Q=>vs = [] /\ Q σ H
def zMy (t:TG) (u:TGs):TGs:=fun vs σ H Q=>∃ v r,vs = v :: r /\ t v σ H fun σ' H'=>u r σ' H' Q
theorem zK8:PGs X [] zSe:=by
 intro zB s σ H vs us Q I r h;obtain ⟨e,h⟩:=h;subst e;cases r;exact assignInOrder_nil ⟨σ,H,I,h⟩
theorem zFs {e:Expr} {es:List Expr} {t:TG} {u:TGs} (h1:PG X e t) (h2:PGs X es u)
  (hs:(assignEach (e :: es) X.env).map (·.2) = assign e X.env :: (assignEach es X.env).map (·.2):=by rfl):PGs X (e :: es) (zMy t u):=by
 intro zB s σ H vs us Q I r h;obtain ⟨v,vr,e1,h⟩:=h;subst e1;cases r with
 | cons r rr=>
  rw [hs];refine assignInOrder_cons (thn (h1 zB s σ H _ _ _ I r h) fun _ s1 ⟨σ1,H1,I1,q1⟩=>?_);exact h2 zB s1 σ1 H1 _ _ Q I1 rr q1
def zTL (K:PySem.W.Frag) (n:Nat) (t:TGs):TG:=fun v σ H Q=>∃ a xs,v = .ref a /\ SqT K H a xs /\ xs.length = n /\ t xs σ H Q
theorem zNy {es:List Expr} {k:Nat} {t:TGs} {n:Nat} (hc:X.calm = true) (h:PGs X es t)
  (hn:(assignEach es X.env).length = n:=by rfl) (hst:(assignEach es X.env).findIdx? (·.1) = none:=by rfl):PG X (.Tuple es k pos) (zTL X.K n t):=by
 intro zB s σ H v u Q I r hw;obtain ⟨a,xs,e1,hq,hl,hw⟩:=hw;subst e1;cases r;obtain ⟨its,rv,ht,hz⟩:=I.tuple hq;refine assign_Tuple_tuple (I.ok.hd hc) ht (by simp [hn,<- hl,rv.length]) hst fun h' hx=>?_;have I1:Inv X zB σ H { s with heap:=h' }:=I.kept (t':=s.toks) fun b o e=>hx b o (zUP (zUF e)) e;exact h zB _ σ H xs _ Q I1 (by simpa using rv) hw
def zTt (to ti:TE) (t:zQo):TG:=fun v σ H Q=>to σ H fun o H1=>ti σ H1 fun i H2=>t o i v H2 fun H3=>Q σ H3
theorem zSD {o i:Expr} {to ti:TE} {t:zQo} (ho:PE X o to) (hi:PE X i ti) (hs:zSO X t)
  (ha:∀ v,assign (.Subscript o i pos) X.env v = (do
   let ov <- holding [v] (eval o X.env);let iv <- holding [v,ov] (eval i X.env);standAt pos;holding [v,ov,iv] (setItem ov iv v);release [v,ov,iv] []):=by intro _; rfl):PG X (.Subscript o i pos) (zTt to ti t):=by
 intro zB s σ H v u Q I r h;rw [ha];refine zTz (zUx (thn (ho zB s σ H _ I h) fun ov s1 ⟨x,H1,I1,r1,q1⟩=>?_));refine zTz (zUx (thn (hi zB s1 σ H1 _ I1 q1) fun iv s2 ⟨y,H2,I2,r2,q2⟩=>?_));refine zTz (wpAny_standAt (zTz (zUx (thn (hs zB s2 σ H2 x y v ov iv u _ I2 r1 r2 r q2) fun _ s3 ⟨H3,I3,q3⟩=>?_))));exact wpAny_release ⟨σ,H3,I3,q3⟩
def zPk (te:TE) (g:TG):TS:=fun D σ H=>te σ H fun x H1=>g x σ H1 D.nx
theorem zQr {tg e:Expr} {te:TE} {g:TG} (he:PE X e te) (hg:PG X tg g) (hs:swapsWithSole [tg] e pos.line X.env = pure false:=by rfl) (hw:swappedStores [tg] e X.env = pure none:=by rfl)
  (h1:(assignEach [tg] X.env).map (·.2) = [assign tg X.env]:=by rfl):PS X (.Assign [tg] e pos) (zPk te g):=by
 intro zB s σ H D I h;refine wpAny_Assign_stores (thn (he zB s σ H _ I h) fun v s1 ⟨x,H1,I1,r1,q1⟩=>?_) hs hw;rw [h1];exact thn (hg zB s1 σ H1 x v _ I1 r1 q1) fun _ s2 q=>q
theorem zR7 {i:Nat} {x:Str} {e:Expr} {te:TE} {pos':Pos} (hN:X.N.Nodup) (hi:X.N[i]? = some x) (hx:Loc X.env.scope x) (he:PE X e te) (hs:swapsWith e (some (.Name x pos')) pos.line X.env = pure false:=by rfl) (hf:X.fn x = true \/ X.env.scope.names.lookup x = some .local:=by first | exact .inl rfl | exact .inr rfl | assumption) :
  PS X (.Assign [.Name x pos'] e pos) (zPk te (zDJ i)):=by
 intro zB s σ H D I h;refine wpAny_Assign_Name (thn (he zB s σ H _ I h) fun v s1 ⟨y,H1,I1,r1,q1⟩=>?_) hs;exact zIT I1 hN hi hx r1 (fun s2 I2=>⟨_,H1,I2,q1⟩) hf
def zOa (c:TT) (tb:TS):TS:=fun D σ H=>∃ W:Nat -> St -> Hp -> Prop,(∃ m,W m σ H) /\ ∀ m σ H,W m σ H ->
 c σ H fun b H1=>if b = true then ∃ N:St -> Hp -> Prop,(∀ σ' H',N σ' H' -> ∃ m',m' < m /\ W m' σ' H') /\ tb { D with nx:=N,ct:=N,bk:=D.nx } σ H1 else D.nx σ H1
theorem zOZ {c:Expr} {body:List Stmt} {tc:TT} {tb:TS} (hp:PassesOwn (model X.prog X.w) X.A X.env X.xe) (hc:PT X c tc) (hb:PSs X body tb):PS X (.While c body [] pos) (zOa tc tb):=by
 intro zB s σ H D I h;obtain ⟨W,⟨m0,w0⟩,turn⟩:=h;refine wpAny_While (codeAny_whileLoop (fun n s'=>∃ σ' H',Inv X zB σ' H' s' /\ W n σ' H') ?_ m0 ⟨σ,H,I,w0⟩);rintro n s1 ⟨σ1,H1,I1,w1⟩;refine wpAny_passesOwn hp (thn (hc zB s1 σ1 H1 _ I1 (turn n σ1 H1 w1)) fun b s2 ⟨H2,I2,q2⟩=>?_);cases b with
 | true=>
  obtain ⟨N,hN,q2⟩:=q2;rw [zUJ rfl];refine wpAny_passesOwn hp (thn (hb zB s2 σ1 H2 _ I2 q2) fun f s3 q3=>?_);cases f with
  | next=>
   obtain ⟨σ3,H3,I3,n3⟩:=q3;obtain ⟨m',hm,w3⟩:=hN σ3 H3 n3;exact ⟨m',hm,σ3,H3,I3,w3⟩
  | cont=>
   obtain ⟨σ3,H3,I3,n3⟩:=q3;obtain ⟨m',hm,w3⟩:=hN σ3 H3 n3;exact ⟨m',hm,σ3,H3,I3,w3⟩
  | brk=>exact q3
  | ret v=>exact q3
 | false=>
  rw [zUM zUQ];exact wpAny_execs_nil ⟨σ1,H2,I2,q2⟩
end
structure It where
 go:Nat -> Hp -> Prop
 yld:Nat -> Hp -> V -> Hp -> Prop
 stop:Nat -> Hp -> Prop
def zCq (X:Cx) (zB:List (Addr × Obj)) (H:Hp) (b:Addr):Prop :=
 H b = none /\ b ≠ X.env.locals /\ b ∉ X.fs /\ (b ∈ X.ex \/ X.s₀.heap.objs.size <= b) /\ (∀ x c,X.env.cells.lookup x = some c -> c ≠ b) /\ ∀ p ∈ X.pn ++ zB,p.1 ≠ b
theorem Inv.fpOk {X:Cx} {zB:List (Addr × Obj)} {σ:St} {H H':Hp} {s:Shared} {b:Addr} (I:Inv X zB σ H s) (hb:s.heap.objs.size <= b) (hn:H' b = none):zCq X zB H' b:=by
 refine ⟨hn,zVZ (zUT I.lt hb),I.nofs hb,.inr (zUV I.sz hb),fun x c e z=>?_,fun p hp z=>?_⟩
 ·obtain ⟨v,q⟩:=I.cell x c e;exact absurd (zUT q.lt (by rw [z]; exact hb)) (zUm _)
 ·exact absurd (zUT (zUF (I.pin p hp).1) (by rw [z]; exact hb)) (zUm _)
structure Turn (P:Program) (w:World) (K:PySem.W.Frag) (tg:Expr) (J:It) (fp:List Addr) (it:Addr) (tn:Nat -> Heap -> Prop):Prop where
 mem:it ∈ fp
 obj:∀ i h,tn i h -> ∀ b ∈ fp,∃ o,h.get? b = some o /\ ∀ v,o.data ≠ .cell v
 keep:∀ i h h',tn i h -> (∀ b ∈ fp,∀ o,h.get? b = some o -> h'.get? b = some o) -> tn i h'
 item:∀ (X:Cx),X.prog = P -> X.w = w -> X.K = K -> X.calm = true -> ∀ (i:Nat) (zB:List (Addr × Obj)) (s:Shared) (σ:St) (H:Hp) (E:Value -> Shared -> Prop),Inv X zB σ H s -> (∀ b ∈ fp,zCq X zB H b) -> tn i s.heap -> J.go i H ->
  wpAny (model P w) X.A (pyNext (.ref it)) (fun r s1=>∃ u,r = some u /\
   wpAny (model P w) X.A (letOwnedTupleGo tg (.ref it) u) (fun _ s2=>∃ x H',Inv X zB σ H' s2 /\ ze x u /\ J.yld i H x H' /\ tn (i + 1) s2.heap /\ ∀ b ∈ fp,H' b = none) E s1) E s
 done:∀ (X:Cx),X.prog = P -> X.w = w -> X.K = K -> X.calm = true -> ∀ (i:Nat) (zB:List (Addr × Obj)) (s:Shared) (σ:St) (H:Hp) (E:Value -> Shared -> Prop),Inv X zB σ H s -> (∀ b ∈ fp,zCq X zB H b) -> tn i s.heap -> J.stop i H ->
  wpAny (model P w) X.A (pyNext (.ref it)) (fun r s1=>r = none /\ Inv X zB σ H s1) E s
 self:∀ (A:Around) (i:Nat) (s:Shared) (Q:Value -> Shared -> Prop) (E:Value -> Shared -> Prop),tn i s.heap -> Q (.ref it) s -> wpAny (model P w) A (pyIter (.ref it)) Q E s
abbrev TI:=St -> Hp -> (It -> Hp -> Prop) -> Prop
def PIE (X:Cx) (zB:List (Addr × Obj)) (σ:St) (tg:Expr) (R:It -> Hp -> Prop) (itv:Value) (s2:Shared):Prop :=
 ∃ (it:Addr) (fp:List Addr) (tn:Nat -> Heap -> Prop) (J:It) (H':Hp),itv = .ref it /\ Inv X zB σ H' s2 /\ Turn X.prog X.w X.K tg J fp it tn /\ tn 0 s2.heap /\ (∀ b ∈ fp,zCq X zB H' b) /\ R J H'
def PI (X:Cx) (tg iter:Expr) (wi:TI):Prop :=
  ∀ (zB:List (Addr × Obj)) (s:Shared) (σ:St) (H:Hp) (R:It -> Hp -> Prop),Inv X zB σ H s -> wi σ H R ->
    wpAny (model X.prog X.w) X.A (eval iter X.env) (fun v s1=>wpAny (model X.prog X.w) X.A (pyIter v) (PIE X zB σ tg R) X.xe s1) X.xe s
theorem zNv {M:Model} {A:Around} {E:Value -> Shared -> Prop} {s:Shared} {tg:Expr} {it:Addr} {u:Value} {o:Obj} {n:String} {vs:Array Value} {Q:Unit -> Shared -> Prop} (ho:s.heap.get? it = some o) (hc:o.cls = .type n) (hd:o.data = .fields vs)
    (hn:["enumerate", "zip", "dict_itemiterator", "dict_reverseitemiterator", "odict_iterator", "itertools.zip_longest", "itertools.pairwise"].contains n = false) (hQ:Q () s):wpAny M A (letOwnedTupleGo tg (.ref it) u) Q E s:=by
  unfold letOwnedTupleGo
  cases tg <;> first
    | exact zT6 hQ
    | (cases u <;> first
        | exact zT6 hQ
        | (refine zTz (wpAny_load ho ?_)
           rw [hc,hd];show wpAny M A (if (["enumerate", "zip", "dict_itemiterator", "dict_reverseitemiterator", "odict_iterator", "itertools.zip_longest", "itertools.pairwise"].contains n && vs[0]? == some (rawInt _)) = true then _ else _) Q E s;rw [zUM (by intro h; rw [hn,Bool.false_and] at h; cases h)];exact zT6 hQ))
def Itl (K:PySem.W.Frag) (a:Addr):It :=
 ⟨fun i H=>∃ xs x,SqL K H a xs /\ xs[i]? = some x,fun i H x H'=>H' = H /\ ∀ xs,SqL K H a xs -> xs[i]? = some x,fun i H=>∃ xs,SqL K H a xs /\ xs.length <= i⟩
def Itt (K:PySem.W.Frag) (a:Addr):It :=
 ⟨fun i H=>∃ xs x,SqT K H a xs /\ xs[i]? = some x,fun i H x H'=>H' = H /\ ∀ xs,SqT K H a xs -> xs[i]? = some x,fun i H=>∃ xs,SqT K H a xs /\ xs.length <= i⟩
def Itr (lo:Int) (n:Nat):It:=⟨fun i _=>i < n,fun i H x H'=>H' = H /\ x = .int (lo + i),fun i _=>n <= i⟩
theorem zMB {P:Program} {w:World} {K:PySem.W.Frag} {tg:Expr} (a it:Addr):Turn P w K tg (Itl K a) [it] it (fun i h=>h.IsListIter it a i) where
 mem:=by simp
 obj:=fun i h st b hb=>by
  have e:b = it:=by simpa using hb
  subst e;obtain ⟨o,e,c,d⟩:=st;exact ⟨o,e,fun v z=>by rw [d] at z; cases z⟩
 keep:=fun i h h' st k=>st.at fun o e=>k it (by simp) o e;item:=by
  intro X hP hw hK hc i zB s σ H E I hf st hg;subst hP hw hK;obtain ⟨xs,x,hq,hx⟩:=hg;obtain ⟨its,rv,p,hz⟩:=I.list hq;obtain ⟨u,hu,ru⟩:=rv.get hx;obtain ⟨f0,f1,f2,f3,f4,f5⟩:=hf it (by simp);refine wpAny_pyNext_list_item st p.isList (x:=u) (by simpa using hu) fun h' st' sb=>?_;have I1:Inv X zB σ H { s with heap:=h' }:=I.turned (t':=s.toks) (fun b o hb e=>(sb.2 b hb).trans e) f0 f1 f3 f4 f5;obtain ⟨o,e,c,d⟩:=id st';exact ⟨u,rfl,zNv (s:={ s with heap:=h' }) e c d (by decide) ⟨x,H,I1,ru,⟨rfl,fun ys hy=>by rw [I.list_inj hy hq]; exact hx⟩,st',fun b hb=>(hf b hb).1⟩⟩
 done:=by
  intro X hP hw hK hc i zB s σ H E I hf st hg;subst hP hw hK;obtain ⟨xs,hq,hx⟩:=hg;obtain ⟨its,rv,p,hz⟩:=I.list hq;obtain ⟨f0,f1,f2,f3,f4,f5⟩:=hf it (by simp);have hl:=rv.length;exact wpAny_pyNext_list_end (I.ok.hd hc) st p.isList (by simp; omega) fun h' eb=>⟨rfl,I.turned (t':=s.toks) (fun b o hb e=>eb b o hb e) f0 f1 f3 f4 f5⟩
 self:=fun _ _ _ _ _ st h=>wpAny_pyIter_listiter st h
theorem zKe {P:Program} {w:World} {K:PySem.W.Frag} {tg:Expr} (a it:Addr):Turn P w K tg (Itt K a) [it] it (fun i h=>h.IsTupleIter it a i) where
 mem:=by simp
 obj:=fun i h st b hb=>by
  have e:b = it:=by simpa using hb
  subst e;obtain ⟨o,e,c,d⟩:=st;exact ⟨o,e,fun v z=>by rw [d] at z; cases z⟩
 keep:=fun i h h' st k=>st.at fun o e=>k it (by simp) o e;item:=by
  intro X hP hw hK hc i zB s σ H E I hf st hg;subst hP hw hK;obtain ⟨xs,x,hq,hx⟩:=hg;obtain ⟨its,rv,p,hz⟩:=I.tuple hq;obtain ⟨u,hu,ru⟩:=rv.get hx;obtain ⟨f0,f1,f2,f3,f4,f5⟩:=hf it (by simp);refine wpAny_pyNext_tuple_item st (show s.heap.IsTuple a its.toArray from p) (x:=u) (by simpa using hu) fun h' st' sb=>?_;have I1:Inv X zB σ H { s with heap:=h' }:=I.turned (t':=s.toks) (fun b o hb e=>(sb.2 b hb).trans e) f0 f1 f3 f4 f5;obtain ⟨o,e,c,d⟩:=id st';exact ⟨u,rfl,zNv (s:={ s with heap:=h' }) e c d (by decide) ⟨x,H,I1,ru,⟨rfl,fun ys hy=>by rw [I.tuple_inj hy hq]; exact hx⟩,st',fun b hb=>(hf b hb).1⟩⟩
 done:=by
  intro X hP hw hK hc i zB s σ H E I hf st hg;subst hP hw hK;obtain ⟨xs,hq,hx⟩:=hg;obtain ⟨its,rv,p,hz⟩:=I.tuple hq;obtain ⟨f0,f1,f2,f3,f4,f5⟩:=hf it (by simp);have hl:=rv.length;exact wpAny_pyNext_tuple_end (I.ok.hd hc) st (show s.heap.IsTuple a its.toArray from p) (by simp; omega) fun h' eb=>⟨rfl,I.turned (t':=s.toks) (fun b o hb e=>eb b o hb e) f0 f1 f3 f4 f5⟩
 self:=fun _ _ _ _ _ st h=>wpAny_pyIter_tupleiter st h
theorem zKJ {P:Program} {w:World} {K:PySem.W.Frag} {tg:Expr} (it:Addr) (lo:Int) (n:Nat):Turn P w K tg (Itr lo n) [it] it (fun i h=>IsRangeIter h it (lo + (i:Nat) * 1) ((n:Int) - (i:Nat)) 1) where
 mem:=by simp
 obj:=fun i h st b hb=>by
  have e:b = it:=by simpa using hb
  subst e;exact ⟨_,st,fun v z=>by
   have z':Data.fields _ = Data.cell v:=z;cases z'⟩
 keep:=fun i h h' st k=>k it (by simp) _ st;item:=by
  intro X hP hw hK hc i zB s σ H E I hf st hg;subst hP hw hK;obtain ⟨f0,f1,f2,f3,f4,f5⟩:=hf it (by simp);have W:=Walks.range (prog:=X.prog) (w:=X.w) (I.ok.hd hc) it lo 1 n;refine W.item i s _ _ hg st fun v h' tk hv st' kk=>?_;obtain ⟨t,rfl⟩:=hv;have I1:Inv X zB σ H { s with heap:=h',toks:=tk }:=I.turned (fun b o hb e=>kk b o (by simpa using hb) e) f0 f1 f3 f4 f5;refine ⟨_,rfl,zNv (s:={ s with heap:=h',toks:=tk }) (n := "range_iterator") st' rfl rfl (by decide) ⟨.int (lo + i),H,I1,⟨t,?_⟩,⟨rfl,rfl⟩,st',fun b hb=>(hf b hb).1⟩⟩;rw [Int.mul_one]
 done:=by
  intro X hP hw hK hc i zB s σ H E I hf st hg;subst hP hw hK;obtain ⟨f0,f1,f2,f3,f4,f5⟩:=hf it (by simp);exact wpAny_pyNext_range_end (I.ok.hd hc) st (by have:n <= i:=hg; omega) fun h' eb=>⟨rfl,I.turned (t':=s.toks) (fun b o hb e=>eb b o hb e) f0 f1 f3 f4 f5⟩
 self:=fun _ _ _ _ _ st h=>wpAny_pyIter_rangeiter st h
section
variable {X:Cx} {tg:Expr}
theorem zNL {zB:List (Addr × Obj)} {σ:St} {H:Hp} {s:Shared} {R:It -> Hp -> Prop} {E:Value -> Shared -> Prop} {lo hi:Int} {t u v:Tok} {tk:Nat} (I:Inv X zB σ H s) (h1 : -(2 ^ 62) <= lo) (h2:lo < 2 ^ 62) (h3 : -(2 ^ 62) <= hi) (h4:hi < 2 ^ 62)
  (q:R (Itr lo (hi - lo).toNat) H):wpAny (model X.prog X.w) X.A (pyIter (.ref s.heap.objs.size)) (PIE X zB σ tg R) E { s with heap:=s.heap.push { cls:=.type "range", data:=.fields #[.int lo t,.int hi u,.int 1 v] },toks:=tk }:=by
 refine wpAny_pyIter_range (IsRange.new ..) (small_one h1 h2 h3 h4) ?_;have I1:Inv X zB σ H { s with heap:=s.heap.push { cls:=.type "range", data:=.fields #[.int lo t,.int hi u,.int 1 v] },toks:=tk }:=I.kept fun b o e=>zT0 _ e
 refine ⟨(s.heap.push { cls:=.type "range", data:=.fields #[.int lo t,.int hi u,.int 1 v] }).objs.size,[(s.heap.push { cls:=.type "range", data:=.fields #[.int lo t,.int hi u,.int 1 v] }).objs.size],_,_,H,rfl,
  I1.kept (t':=tk) fun b o e=>zT0 _ e,zKJ _ lo (hi - lo).toNat,?_,fun b hb=>?_,q⟩
 ·have e1:lo + ((0:Nat):Int) * 1 = lo:=by simp
  have e2:(((hi - lo).toNat:Nat):Int) - ((0:Nat):Int) = Builtin.Range.rangeSize lo hi 1:=by rw [rangeSize_one]; split <;> omega
  show IsRangeIter _ _ (lo + ((0:Nat):Int) * 1) ((((hi - lo).toNat:Nat):Int) - ((0:Nat):Int)) 1;rw [e1,e2];exact zUE _ rfl
 ·have e:b = (s.heap.push { cls:=.type "range", data:=.fields #[.int lo t,.int hi u,.int 1 v] }).objs.size:=by simpa using hb
  subst e;exact I1.fpOk (zUA _) (I1.hok.fresh (zUA _))
def zS9 (ta:TA):TI:=fun σ H R=>ta σ H fun vs H1=>∃ j:Int,vs = [.int j] /\ -(2 ^ 62) <= j /\ j < 2 ^ 62 /\ R (Itr 0 j.toNat) H1
theorem zMl {a:Expr} {ta:TA} {p pos:Pos} (hg:Gl X "range") (hm:X.mg "range" = none) (ha:PA X [a] ta) (hs:starEach [a] X.env = [(false,eval a X.env)]:=by rfl):PI X tg (.Call (.Name "range" p) [a] [] pos) (zS9 ta):=by
 intro zB s σ H R I h;refine Call_ (zEo I hg hm boot_range (PyProof.Rows.callWith_type1 (thn (ha pos zB s σ H _ I h) fun us s1 ⟨vs,H1,I1,r1,q1⟩=>?_) hs rfl));obtain ⟨j,e,q1,q2,q⟩:=q1;subst e;cases r1 with
 | cons r rr=>
  cases rr;obtain ⟨t,rfl⟩:=r;exact call_range_1 (zNL I1 (by omega) (by omega) q1 q2 (by simpa using q))
def zTN (wi:TI) (g:TG) (tb:TS):TS:=fun D σ H=>wi σ H fun J H1=>∃ W:Nat -> Nat -> St -> Hp -> Prop,(∃ m,W 0 m σ H1) /\ ∀ i m σ H,W i m σ H ->
 (J.stop i H /\ D.nx σ H) \/ (J.go i H /\ ∃ N:St -> Hp -> Prop,(∀ σ' H',N σ' H' -> ∃ m',m' < m /\ W (i + 1) m' σ' H') /\ ∀ x H',J.yld i H x H' -> g x σ H' fun σ2 H2=>tb { D with nx:=N,ct:=N,bk:=D.nx } σ2 H2)
def zEO (fp:List Addr) (h:Heap):List (Addr × Obj):=fp.filterMap fun b=>(h.get? b).map fun o=>(b,o)
theorem zBN {fp:List Addr} {h:Heap} {b:Addr} {o:Obj} (hb:b ∈ fp) (e:h.get? b = some o):(b,o) ∈ zEO fp h:=List.mem_filterMap.mpr ⟨b,hb,by rw [e]; rfl⟩
theorem zMO {fp:List Addr} {h:Heap} {p:Addr × Obj} (hp:p ∈ zEO fp h):p.1 ∈ fp /\ h.get? p.1 = some p.2:=by
 obtain ⟨b,hb,e⟩:=List.mem_filterMap.mp hp;cases q:h.get? b with
 | none=>rw [q] at e; cases e
 | some o=>
  rw [q] at e;have e':(b,o) = p:=zU4 e;subst e';exact ⟨hb,q⟩
theorem Inv.pinned {zB:List (Addr × Obj)} {σ:St} {H:Hp} {s:Shared} {fp:List Addr} (I:Inv X zB σ H s) (hf:∀ b ∈ fp,zCq X zB H b) (ho:∀ b ∈ fp,∃ o,s.heap.get? b = some o /\ ∀ v,o.data ≠ .cell v):Inv X (zB ++ zEO fp s.heap) σ H s :=
 I.pins_of fun p hp=>(zUU.mp hp).elim (fun z=>I.pin p (zUO _ z)) fun z=>by
  obtain ⟨hb,e⟩:=zMO z;obtain ⟨f0,f1,f2,_⟩:=hf p.1 hb;obtain ⟨o,e',d⟩:=ho p.1 hb;rw [e] at e'; cases e';exact ⟨e,f0,f1,f2,d⟩
theorem Inv.unpinned {zB pl:List (Addr × Obj)} {σ:St} {H:Hp} {s:Shared} (I:Inv X (zB ++ pl) σ H s):Inv X zB σ H s:=I.pins_of fun p hp=>I.pin p (zUO _ (zVJ _ hp))
theorem zRV {iter:Expr} {body:List Stmt} {wi:TI} {g:TG} {tb:TS} {pos:Pos} (hp:PassesOwn (model X.prog X.w) X.A X.env X.xe) (hc:X.calm = true) (hi:PI X tg iter wi) (hg:PG X tg g) (hb:PSs X body tb)
  (hs:∀ x,foldedSetIterable iter X.env x = pure x:=by intro _; rfl):PS X (.For tg iter body [] pos) (zTN wi g tb):=by
 intro zB s σ H D I h;refine wpAny_For (thn (hi zB s σ H _ I h) fun v s1 h1=>thn h1 fun itv s2 h2=>?_) hs;obtain ⟨it,fp,tn,J,H2,e,I2,T,st2,f2,W,⟨m0,w0⟩,turn⟩:=h2;subst e;have stat:∀ {H':Hp},(∀ b ∈ fp,H' b = none) -> ∀ b ∈ fp,zCq X zB H' b:=fun hn b hb=>⟨hn b hb,(f2 b hb).2⟩;refine codeAny_forLoop_any (fun n s'=>∃ i σ' H',Inv X zB σ' H' s' /\ tn i s'.heap /\ (∀ b ∈ fp,H' b = none) /\ W i n σ' H') ?_ m0 ⟨0,σ,H2,I2,st2,fun b hb=>(f2 b hb).1,w0⟩;rintro n s3 ⟨i,σ3,H3,I3,st3,fr3,w3⟩;rcases turn i n σ3 H3 w3 with ⟨stop,qn⟩ | ⟨go,N,hN,step⟩
 ·refine wpAny_passesOwn hp (thn (T.done X rfl rfl rfl hc i zB s3 σ3 H3 X.xe I3 (stat fr3) st3 stop) fun r s4 ⟨hr,I4⟩=>?_);subst hr;exact wpAny_execs_nil ⟨σ3,H3,I4,qn⟩
 ·refine wpAny_passesOwn hp (thn (T.item X rfl rfl rfl hc i zB s3 σ3 H3 X.xe I3 (stat fr3) st3 go) fun r s4 ⟨u,hr,h4⟩=>?_);subst hr;refine wpAny_passesOwn hp (thn h4 fun _ s5 ⟨x,H5,I5,r5,y5,st5,fr5⟩=>?_);have I5':=I5.pinned (stat fr5) (T.obj _ _ st5);refine wpAny_passesOwn hp (thn (hg _ s5 σ3 H5 x u _ I5' r5 (step x H5 y5)) fun _ s6 ⟨σ6,H6,I6,q6⟩=>?_);refine wpAny_passesOwn hp (thn (hb _ s6 σ6 H6 _ I6 q6) fun f s7 q7=>?_);have again:∀ {σ7:St} {H7:Hp},Inv X (zB ++ zEO fp s5.heap) σ7 H7 s7 -> N σ7 H7 -> ∃ m,m < n /\ ∃ i σ' H',Inv X zB σ' H' s7 /\ tn i s7.heap /\ (∀ b ∈ fp,H' b = none) /\ W i m σ' H':=fun {σ7 H7} I7 n7=>by
   obtain ⟨m',hm,w7⟩:=hN σ7 H7 n7;refine ⟨m',hm,i + 1,σ7,H7,I7.unpinned,T.keep _ _ _ st5 fun b hb o e=>(I7.pin (b,o) (zUO _ (zUO _ (zBN hb e)))).1,fun b hb=>?_,w7⟩;obtain ⟨o,e,d⟩:=T.obj _ _ st5 b hb;exact (I7.pin (b,o) (zUO _ (zUO _ (zBN hb e)))).2.1
  cases f with
  | next=>obtain ⟨σ7,H7,I7,n7⟩:=q7; exact again I7 n7
  | cont=>obtain ⟨σ7,H7,I7,n7⟩:=q7; exact again I7 n7
  | brk=>obtain ⟨σ7,H7,I7,q7⟩:=q7; exact ⟨σ7,H7,I7.unpinned,q7⟩
  | ret v=>obtain ⟨x7,σ7,H7,I7,r7,q7⟩:=q7; exact ⟨x7,σ7,H7,I7.unpinned,r7,q7⟩
end
abbrev R2:=V -> V -> Hp -> VK -> Prop
def OpR (X:Cx) (f:Value -> Value -> Sem Value) (r:R2):Prop :=
 ∀ (zB:List (Addr × Obj)) (s:Shared) (σ:St) (H:Hp) (x y:V) (v u:Value) (Q:VK),Inv X zB σ H s -> ze x v -> ze y u -> r x y H Q ->
  wpAny (model X.prog X.w) X.A (f v u) (EP X zB σ Q) X.xe s
def UnR (X:Cx) (f:Value -> Sem Value) (r:V -> Hp -> VK -> Prop):Prop :=
 ∀ (zB:List (Addr × Obj)) (s:Shared) (σ:St) (H:Hp) (x:V) (v:Value) (Q:VK),Inv X zB σ H s -> ze x v -> r x H Q ->
  wpAny (model X.prog X.w) X.A (f v) (EP X zB σ Q) X.xe s
def zBs (X:Cx) (f:Value) (r:List V -> Hp -> VK -> Prop):Prop :=
 ∀ (zB:List (Addr × Obj)) (s:Shared) (σ:St) (H:Hp) (xs:List V) (us:List Value) (Q:VK),Inv X zB σ H s -> zU xs us -> r xs H Q ->
  wpAny (model X.prog X.w) X.A (call f us) (EP X zB σ Q) X.xe s
def tOp (r:R2) (ta tb:TE):TE:=fun σ H Q=>ta σ H fun x H1=>tb σ H1 fun y H2=>r x y H2 Q
def tUn (r:V -> Hp -> VK -> Prop) (ta:TE):TE:=fun σ H Q=>ta σ H fun x H1=>r x H1 Q
def rI (C:Int -> Int -> Prop) (g:Int -> Int -> V):R2:=fun x y H Q=>∃ i j,x = .int i /\ y = .int j /\ C i j /\ Q (g i j) H
def rI0 (g:Int -> Int -> V):R2:=fun x y H Q=>∃ i j,x = .int i /\ y = .int j /\ Q (g i j) H
def rU (g:Int -> V):V -> Hp -> VK -> Prop:=fun x H Q=>∃ i,x = .int i /\ Q (g i) H
section
variable {X:Cx} {a b c:Expr} {ta tb tc:TE} {pos:Pos}
theorem zRM (ha:PE X a ta) (hb:PE X b tb) {zB:List (Addr × Obj)} {s:Shared} {σ:St} {H:Hp} {R:V -> V -> Hp -> Prop} (I:Inv X zB σ H s)
  (h:ta σ H fun x H1=>tb σ H1 fun y H2=>R x y H2) {Q:Value -> Shared -> Prop} {f:Value -> Value -> Sem Value}
  (hf:∀ v u s2 x y H2,Inv X zB σ H2 s2 -> ze x v -> ze y u -> R x y H2 -> wpAny (model X.prog X.w) X.A (f v u) Q X.xe s2) :
  wpAny (model X.prog X.w) X.A (eval a X.env) (fun v s₁=>wpAny (model X.prog X.w) X.A (eval b X.env) (fun u s₂=>wpAny (model X.prog X.w) X.A (f v u) Q X.xe s₂) X.xe s₁) X.xe s:=by
 refine thn (ha zB s σ H _ I h) fun v s1 ⟨x,H1,I1,r1,q1⟩=>?_;refine thn (hb zB s1 σ H1 _ I1 q1) fun u s2 ⟨y,H2,I2,r2,q2⟩=>?_;exact hf v u s2 x y H2 I2 r1 r2 q2
theorem zSa {op:Operator} {r:R2} (ho:OpR X (binaryOp op) r) (ha:PE X a ta) (hb:PE X b tb):PE X (.BinOp a op b pos) (tOp r ta tb):=by
 intro zB s σ H Q I h;exact wpAny_BinOp (zRM ha hb I h fun v u s2 x y H2 I2 rx ry q=>ho zB s2 σ H2 x y v u Q I2 rx ry q)
theorem zSm {op:UnaryOp} {r:V -> Hp -> VK -> Prop} (ho:UnR X (unaryOp op) r) (ha:PE X a ta):PE X (.UnaryOp op a pos) (tUn r ta):=by
 intro zB s σ H Q I h;exact UnaryOp_ (thn (ha zB s σ H _ I h) fun v s1 ⟨x,H1,I1,r1,q1⟩=>ho zB s1 σ H1 x v Q I1 r1 q1)
theorem opI {f:Value -> Value -> Sem Value} {C:Int -> Int -> Prop} {g:Int -> Int -> Int}
  (rule:∀ (i j:Int) (t u:Tok) (s:Shared) (Q:Value -> Shared -> Prop) (E:Value -> Shared -> Prop),C i j -> Q (.int (g i j) s.toks) { s with toks:=s.toks + 1 } -> wpAny (model X.prog X.w) X.A (f (.int i t) (.int j u)) Q E s) :
  OpR X f (rI C fun i j=> .int (g i j)):=by
 intro zB s σ H x y v u Q I rx ry h;obtain ⟨i,j,rfl,rfl,hc,q⟩:=h;obtain ⟨t,rfl⟩:=rx;obtain ⟨t',rfl⟩:=ry;exact rule i j t t' s _ _ hc ⟨.int (g i j),H,I.tok _,⟨_,rfl⟩,q⟩
theorem zSv {f:Value -> Value -> Sem Value} {g:Int -> Int -> Int}
  (rule:∀ (i j:Int) (t u:Tok) (s:Shared) (Q:Value -> Shared -> Prop) (E:Value -> Shared -> Prop),Q (.int (g i j) s.toks) { s with toks:=s.toks + 1 } -> wpAny (model X.prog X.w) X.A (f (.int i t) (.int j u)) Q E s) :
  OpR X f (rI0 fun i j=> .int (g i j)):=by
 intro zB s σ H x y v u Q I rx ry h;obtain ⟨i,j,rfl,rfl,q⟩:=h;obtain ⟨t,rfl⟩:=rx;obtain ⟨t',rfl⟩:=ry;exact rule i j t t' s _ _ ⟨.int (g i j),H,I.tok _,⟨_,rfl⟩,q⟩
theorem zQu {f:Value -> Value -> Sem Value} {g:Int -> Int -> Bool}
  (rule:∀ (i j:Int) (t u:Tok) (s:Shared) (Q:Value -> Shared -> Prop) (E:Value -> Shared -> Prop),Q (.bool (g i j)) s -> wpAny (model X.prog X.w) X.A (f (.int i t) (.int j u)) Q E s) :
  OpR X f (rI0 fun i j=> .bl (g i j)):=by
 intro zB s σ H x y v u Q I rx ry h;obtain ⟨i,j,rfl,rfl,q⟩:=h;obtain ⟨t,rfl⟩:=rx;obtain ⟨t',rfl⟩:=ry;exact rule i j t t' s _ _ ⟨.bl (g i j),H,I,rfl,q⟩
def zTo (i j:Int):Prop:=0 < j /\ j < 1073741824
def zTs (i j:Int):Prop:=0 <= j /\ j <= 1000000 /\ i.natAbs < 2 ^ 64
def zQb (i j:Int):Prop:=(-(2 ^ 64) < i /\ i < 2 ^ 64) \/ (-(2 ^ 64) < j /\ j < 2 ^ 64)
theorem zQb.ok {i j:Int} (h:zQb i j):IntMulOk i j:=by
 rcases h with ⟨h1,h2⟩ | ⟨h1,h2⟩
 ·exact .of_left (intBits_le_64 h1 h2)
 ·exact .of_right (intBits_le_64 h1 h2)
theorem zQa:OpR X (binaryOp .Add) (rI0 fun i j=> .int (i + j)):=zSv fun _ _ _ _ _ _ _ q=>add_int q
theorem zRT:OpR X (binaryOp .Sub) (rI0 fun i j=> .int (i - j)):=zSv fun _ _ _ _ _ _ _ q=>sub_int q
theorem zQ8:OpR X (binaryOp .Mult) (rI zQb fun i j=> .int (i * j)):=opI fun _ _ _ _ _ _ _ hc q=>mul_int q hc.ok
theorem zOx:OpR X (binaryOp .FloorDiv) (rI zTo fun i j=> .int (i / j)):=opI fun i j _ _ _ _ _ hc q=>by
 have h1:(0:Int) < j:=hc.1;have h2:j < 1073741824:=hc.2;exact floordiv_int (by omega) (by rw [Int.fdiv_eq_ediv_of_nonneg i (by omega)]; exact q) (.inl (PyProof.noPylong_small (by omega)))
theorem zQm:OpR X (binaryOp .Mod) (rI (fun _ j=>0 < j) fun i j=> .int (i % j)):=opI fun i j _ _ _ _ _ hc q=>by
 have h1:(0:Int) < j:=hc;exact mod_int' (by omega) (by rw [Int.fmod_eq_emod_of_nonneg i (by omega)]; exact q)
theorem zRU:OpR X (binaryOp .Pow) (rI zTs fun i j=> .int (i ^ j.toNat)):=opI fun _ _ _ _ _ _ _ hc q=>pow_int_small hc.1 hc.2.1 hc.2.2 q
theorem unI {f:Value -> Sem Value} {g:Int -> Int}
  (rule:∀ (i:Int) (t:Tok) (s:Shared) (Q:Value -> Shared -> Prop) (E:Value -> Shared -> Prop),Q (.int (g i) s.toks) { s with toks:=s.toks + 1 } -> wpAny (model X.prog X.w) X.A (f (.int i t)) Q E s) :
  UnR X f (rU fun i=> .int (g i)):=by
 intro zB s σ H x v Q I rx h;obtain ⟨i,rfl,q⟩:=h;obtain ⟨t,rfl⟩:=rx;exact rule i t s _ _ ⟨.int (g i),H,I.tok _,⟨_,rfl⟩,q⟩
theorem zQ1:UnR X (unaryOp .USub) (rU fun i=> .int (-i)):=unI fun _ _ _ _ _ q=>neg_int q
end
def zP1:V -> V -> Bool
 | .non,.non=>true | .non,.int _=>true | .int _,.non=>true | .non,.bl _=>true | .bl _,.non=>true | .non,.str _=>true | .str _,.non=>true
 | .int _,.int _=>true | .bl _,.bl _=>true | .str _,.str _=>true | .byt _,.byt _=>true
 | .int _,.str _=>true | .str _,.int _=>true | .bl _,.str _=>true | .str _,.bl _=>true
 | _,_=>false
def rEq:R2:=fun x y H Q=>zP1 x y = true /\ Q (.bl (decide (x = y))) H
def rNe:R2:=fun x y H Q=>zP1 x y = true /\ Q (.bl (!decide (x = y))) H
theorem zLV {i j:Int}:decide (V.int i = V.int j) = (i == j):=by
 rw [Bool.eq_iff_iff];simp
theorem zNu {i j:Bool}:decide (V.bl i = V.bl j) = (i == j):=by
 rw [Bool.eq_iff_iff];simp
theorem zLQ {i j:Str}:decide (V.str i = V.str j) = (i == j):=by
 rw [Bool.eq_iff_iff];simp
theorem zLP {i j:Array UInt8}:decide (V.byt i = V.byt j) = (i.toList == j.toList):=by
 rw [Bool.eq_iff_iff];cases i;cases j;simp
section
variable {X:Cx} {a b c:Expr} {ta tb tc:TE} {pos:Pos}
theorem za {zB:List (Addr × Obj)} {σ:St} {H:Hp} {s:Shared} {Q:VK} {k k':Bool} (I:Inv X zB σ H s) (q:Q (.bl k) H) (e:k = k'):EP X zB σ Q (.bool k') s:=by
 subst e;exact ⟨.bl k,H,I,rfl,q⟩
theorem zQV:OpR X (compareOp .Eq) rEq:=by
 intro zB s σ H x y v u Q I rx ry h;obtain ⟨hs,q⟩:=h;cases x with
 | non=>
  cases rx;cases y with
  | non=>cases ry; exact PySem.EqNone.eq_none_none (za I q (by simp))
  | bl j=>cases ry; exact PySem.EqNone.eq_none_bool (za I q (by simp))
  | int j=>obtain ⟨t',rfl⟩:=ry; exact PySem.EqNone.eq_none_int (za I q (by simp))
  | str j=>obtain ⟨t',rfl⟩:=ry; exact PySem.EqNone.eq_none_str (za I q (by simp))
  | _=>exact absurd (show false = true from hs) zUQ
 | bl i=>
  cases rx;cases y with
  | non=>cases ry; exact PySem.EqNone.eq_bool_none (za I q (by simp))
  | bl j=>cases ry; exact eq_bool (za I q zNu)
  | str j=>obtain ⟨t',rfl⟩:=ry; exact PySem.EqMixed.eq_bool_str (za I q (by simp))
  | _=>exact absurd (show false = true from hs) zUQ
 | int i=>
  obtain ⟨t,rfl⟩:=rx;cases y with
  | non=>cases ry; exact PySem.EqNone.eq_int_none (za I q (by simp))
  | int j=>obtain ⟨t',rfl⟩:=ry; exact eq_int (za I q zLV)
  | str j=>obtain ⟨t',rfl⟩:=ry; exact PySem.EqMixed.eq_int_str (za I q (by simp))
  | _=>exact absurd (show false = true from hs) zUQ
 | str i=>
  obtain ⟨t,rfl⟩:=rx;cases y with
  | non=>cases ry; exact PySem.EqNone.eq_str_none (za I q (by simp))
  | bl j=>cases ry; exact PySem.EqMixed.eq_str_bool (za I q (by simp))
  | int j=>obtain ⟨t',rfl⟩:=ry; exact PySem.EqMixed.eq_str_int (za I q (by simp))
  | str j=>obtain ⟨t',rfl⟩:=ry; exact eq_str (za I q zLQ)
  | _=>exact absurd (show false = true from hs) zUQ
 | byt i=>
  obtain ⟨t,rfl⟩:=rx;cases y with
  | byt j=>obtain ⟨t',rfl⟩:=ry; exact PySem.W.eq_bytes (za I q zLP)
  | _=>exact absurd (show false = true from hs) zUQ
 | _=>cases y <;> exact absurd (show false = true from hs) zUQ
theorem zSS:OpR X (compareOp .NotEq) rNe:=by
 intro zB s σ H x y v u Q I rx ry h;obtain ⟨hs,q⟩:=h;cases x with
 | non=>
  cases rx;cases y with
  | non=>cases ry; exact PySem.EqNone.ne_none_none (za I q (by simp))
  | bl j=>cases ry; exact PySem.EqNone.ne_none_bool (za I q (by simp))
  | int j=>obtain ⟨t',rfl⟩:=ry; exact PySem.EqNone.ne_none_int (za I q (by simp))
  | str j=>obtain ⟨t',rfl⟩:=ry; exact PySem.EqNone.ne_none_str (za I q (by simp))
  | _=>exact absurd (show false = true from hs) zUQ
 | bl i=>
  cases rx;cases y with
  | non=>cases ry; exact PySem.EqNone.ne_bool_none (za I q (by simp))
  | bl j=>cases ry; exact ne_bool (za I q (zVr not zNu))
  | str j=>obtain ⟨t',rfl⟩:=ry; exact PySem.EqMixed.ne_bool_str (za I q (by simp))
  | _=>exact absurd (show false = true from hs) zUQ
 | int i=>
  obtain ⟨t,rfl⟩:=rx;cases y with
  | non=>cases ry; exact PySem.EqNone.ne_int_none (za I q (by simp))
  | int j=>obtain ⟨t',rfl⟩:=ry; exact ne_int (za I q (zVr not zLV))
  | str j=>obtain ⟨t',rfl⟩:=ry; exact PySem.EqMixed.ne_int_str (za I q (by simp))
  | _=>exact absurd (show false = true from hs) zUQ
 | str i=>
  obtain ⟨t,rfl⟩:=rx;cases y with
  | non=>cases ry; exact PySem.EqNone.ne_str_none (za I q (by simp))
  | bl j=>cases ry; exact PySem.EqMixed.ne_str_bool (za I q (by simp))
  | int j=>obtain ⟨t',rfl⟩:=ry; exact PySem.EqMixed.ne_str_int (za I q (by simp))
  | str j=>obtain ⟨t',rfl⟩:=ry; exact ne_str (za I q (zVr not zLQ))
  | _=>exact absurd (show false = true from hs) zUQ
 | byt i=>
  obtain ⟨t,rfl⟩:=rx;cases y with
  | byt j=>obtain ⟨t',rfl⟩:=ry; exact PySem.W.ne_bytes (za I q (zVr not zLP))
  | _=>exact absurd (show false = true from hs) zUQ
 | _=>cases y <;> exact absurd (show false = true from hs) zUQ
theorem zS4:OpR X (compareOp .Lt) (rI0 fun i j=> .bl (decide (i < j))):=zQu fun _ _ _ _ _ _ _ q=>lt_int q
theorem zSs:OpR X (compareOp .LtE) (rI0 fun i j=> .bl (decide (i <= j))):=zQu fun _ _ _ _ _ _ _ q=>le_int q
theorem zSK:OpR X (compareOp .Gt) (rI0 fun i j=> .bl (decide (j < i))):=zQu fun _ _ _ _ _ _ _ q=>gt_int q
theorem OpR.or {f:Value -> Value -> Sem Value} {r r':R2} (h:OpR X f r) (h':OpR X f r'):OpR X f (fun x y H Q=>r x y H Q \/ r' x y H Q):=by
 intro zB s σ H x y v u Q I rx ry q;rcases q with q | q
 ·exact h zB s σ H x y v u Q I rx ry q
 ·exact h' zB s σ H x y v u Q I rx ry q
theorem zDY (b:Expr) {op:CmpOp} (h:op ≠ .In:=by decide) (h2:op ≠ .NotIn:=by decide):behindInMarks op b = false:=by
 have e1:(op == CmpOp.In) = false:=by cases op <;> first | rfl | exact absurd rfl h
 have e2:(op == CmpOp.NotIn) = false:=by cases op <;> first | rfl | exact absurd rfl h2
 cases b <;> simp [behindInMarks,e1,e2]
theorem zPD {op:CmpOp} {r:R2} (ho:OpR X (compareOp op) r) (ha:PE X a ta) (hb:PE X b tb) (hm:behindInMarks op b = false):PE X (.Compare a [op] [b] pos) (tOp r ta tb):=by
 intro zB s σ H Q I h;exact wpAny_Compare1 (zRM ha hb I h fun v u s2 x y H2 I2 rx ry q=>ho zB s2 σ H2 x y v u Q I2 rx ry q) hm
def zLJ (t:TE):TT:=fun σ H Q=>t σ H fun x H'=>∃ k,x = .bl k /\ Q k H'
theorem zPH {op:CmpOp} {r:R2} (ho:OpR X (compareOp op) r) (ha:PE X a ta) (hb:PE X b tb) (hm:behindInMarks op b = false):PT X (.Compare a [op] [b] pos) (zLJ (tOp r ta tb)):=by
 intro zB s σ H Q I h;refine wpAny_isTrue_Compare1 (thn (ha zB s σ H _ I h) fun v s1 ⟨x,H1,I1,r1,q1⟩=>thn (hb zB s1 σ H1 _ I1 q1) fun u s2 ⟨y,H2,I2,r2,q2⟩=>
  thn (ho zB s2 σ H2 x y v u _ I2 r1 r2 q2) fun c s3 ⟨z,H3,I3,r3,k,e,q3⟩=>?_) hm
 subst e;cases r3;exact wpAny_truthy_bool ⟨H3,I3,q3⟩
theorem zEc:(sizeLine:Nat) < 2 ^ 63:=by rw [sizeLine_eq]; decide
theorem zDO {x:V} {us:List Value} (r:zU [x] us):∃ u,us = [u] /\ ze x u:=by
 cases r with
 | cons r1 r2=>cases r2; exact ⟨_,rfl,r1⟩
theorem zMj:zBs X (.type "int") (fun xs H Q=>(∃ i,xs = [.int i] /\ Q (.int i) H) \/ ∃ k,xs = [.bl k] /\ Q (.int (if k then 1 else 0)) H):=by
 intro zB s σ H xs us Q I r h;rcases h with ⟨i,rfl,q⟩ | ⟨k,rfl,q⟩
 ·obtain ⟨u,rfl,t,rfl⟩:=zDO r;exact call_int_int ⟨.int i,H,I,⟨_,rfl⟩,q⟩
 ·obtain ⟨u,rfl,r1⟩:=zDO r;cases r1;exact call_int_bool ⟨.int (if k then 1 else 0),H,I.tok _,⟨_,rfl⟩,q⟩
end
structure ObjM (h:Heap) (x dx C:Addr) (mA:Str -> Option Value):Prop where
 obj:h.get? x = some (PySem.W.instObj C dx)
 ns:h.Ns1 dx mA
 ne:dx ≠ x
theorem zL4 {h:Heap} {dx:Addr} {mA:Str -> Option Value} (n:h.Ns1 dx mA):∃ od,h.get? dx = some od /\ ∀ name,PySem.W.lookIn name od = some (mA name):=by
 obtain ⟨o,es,ep,ho,hd,hk,_,hm⟩:=n;refine ⟨o,ho,fun name=>?_⟩;have e:=hm name;unfold nsFind findBy at e;rw [<- Array.find?_toList] at e;unfold PySem.W.lookIn;rw [hd];dsimp only;split
 ·rename_i y q;rw [q] at e;exact zVr some e
 ·rename_i q;rw [q] at e;have a:es.toList.any (·.refKey) = false:=by
   rw [List.any_eq_false];intro y hy;obtain ⟨z,t,hkey⟩:=hk y (Array.mem_toList_iff.mp hy);simp [DictEntry.refKey,hkey]
  have a':¬ es.toList.any (·.refKey) = true:=by rw [a]; exact zUQ
  rw [zUM a'];exact zVr some e
theorem ObjM.look {h:Heap} {x dx C:Addr} {mA:Str -> Option Value} (I:ObjM h x dx C mA):∃ od,PySem.W.InstAt h x (PySem.W.instObj C dx) C (some od) /\ ∀ name,PySem.W.lookIn name od = some (mA name) :=
 let ⟨od,ho,hl⟩:=zL4 I.ns
 ⟨od,⟨I.obj,rfl,rfl,ho⟩,hl⟩
theorem zFl.some_of {v:V} {o:Option Value} (r:zFl (some v) o):∃ u,o = some u /\ ze v u:=by
 cases o with
 | none=>exact (show False from r).elim
 | some u=>exact ⟨u,rfl,r⟩
section
variable {P:Program} {w:World} {H H':Hp} {h h':Heap} {a C dx:Addr} {fs fs':List (Str × V)}
theorem zPz (hok:HOk P w H h) (e:H a = some (.ins C dx fs)):∃ mA,ObjM h a dx C mA /\ (∀ f,zFl (fs.lookup f) (mA f)) /\ PySem.Within mA (fs.map (·.1)) /\ fs.length <= 1000 /\ H dx = some (.own a):=by
 obtain ⟨d,z,ne,ob,mA,n,r,q⟩:=(show zn P w H h a (.ins C dx fs) from hok a _ e);exact ⟨mA,⟨ob,n,ne⟩,r,q,z,d⟩
end
structure Cls (K:PySem.W.Frag) (C:Addr):Prop where
 pg:PySem.W.plainGet K C Str.empty = true
 hd:PySem.W.hasDictIn K C = true
 po:PySem.W.plainOver K C = true
 sa:PySem.W.findIn K (.ref C) "__setattr__" = some (some (.builtin "object.__setattr__"))
theorem Cls.get {K:PySem.W.Frag} {C:Addr} (c:Cls K C) (f:Str):PySem.W.plainGet K C f = true:=c.pg
section
variable {X:Cx} {zB:List (Addr × Obj)} {σ:St} {H:Hp} {s:Shared} {A:Around} {E:Value -> Shared -> Prop} {Q:Value -> Shared -> Prop} {c:Value} {b:Bool}
set_option genInjectivity true in
inductive TyOf (K:PySem.W.Frag) (H:Hp):V -> Value -> Prop where
 | non:TyOf K H .non (.type "NoneType")
 | bl (x:Bool):TyOf K H (.bl x) (.type "bool")
 | int (i:Int):TyOf K H (.int i) (.type "int")
 | str (x:Str):TyOf K H (.str x) (.type "str")
 | flt (x:UInt64):TyOf K H (.flt x) (.type "float")
 | lst {a:Addr} {xs:List V} (e:H a = some (.lst xs)):TyOf K H (.ref a) (.type "list")
 | frz {a:Addr} {o:Obj} {xs:List V} (e:H a = some (.frz o (.lst xs))):TyOf K H (.ref a) (.type "list")
 | tup {a:Addr} {xs:List V} (e:H a = some (.tup xs)):TyOf K H (.ref a) (.type "tuple")
 | dK {a:Addr} {kvs:List (Key × V)} (e:H a = some (.dK kvs)):TyOf K H (.ref a) (.type "dict")
 | dT {a:Addr} {kvs:List (List Key × V)} (e:H a = some (.dT kvs)):TyOf K H (.ref a) (.type "dict")
 | ins {a C dx:Addr} {fs:List (Str × V)} (e:H a = some (.ins C dx fs)) (cl:Cls K C) (ha:PySem.W.findIn K (.ref C) "__class__" = some (some (.builtin "object.__class__")))
   (hn:PySem.W.specialIn K (.builtin "object.__class__") "__get__" = some (some (.builtin "getset_descriptor.__get__"))) (htk:PySem.W.takesIn K (.builtin "object.__class__") = some true)
   (hm:PySem.W.mroIn K C (.type "object") = some true):TyOf K H (.ref a) (.ref C)
theorem zLe {x:V} {u t:Value} (I:Inv X zB σ H s) (rx:ze x u) (ty:TyOf X.K H x t) (e:PySem.W.kitOne X.K t c = some b) (h:∀ tk,Q (.bool b) { s with toks:=tk }) :
  wpAny (model X.prog X.w) A (call (.builtin "isinstance") [u,c]) Q E s:=by
 cases ty with
 | non=>cases (show u = Value.none from rx); exact zVh PySem.W.kitx_none I.kIn True.intro e (fun z=>nomatch z) h
 | bl y=>cases (show u = Value.bool y from rx); exact zVh PySem.W.kitx_bool I.kIn True.intro e (fun z=>nomatch z) h
 | int i=>obtain ⟨t,q⟩:=(show ∃ t,u = Value.int i t from rx); cases q; exact zVh PySem.W.kitx_int I.kIn True.intro e (fun z=>nomatch z) h
 | str y=>obtain ⟨t,q⟩:=(show ∃ t,u = Value.str y t from rx); cases q; exact zVh PySem.W.kitx_str I.kIn True.intro e (fun z=>nomatch z) h
 | flt y=>obtain ⟨t,q⟩:=(show ∃ t,u = Value.float y t from rx); cases q; exact zVh PySem.W.kitx_float I.kIn True.intro e (fun z=>nomatch z) h
 | @lst a xs ea=>
  cases (show u = Value.ref a from rx);obtain ⟨_,_,n,_,h1⟩:=(show zn X.prog X.w H s.heap a (.lst xs) from I.hok a _ ea);exact zVh PySem.W.kitx_list I.kIn ⟨_,h1,rfl⟩ e (fun z=>nomatch z) h
 | @frz a ob xs ea=>
  cases (show u = Value.ref a from rx);obtain ⟨_,_,_,n,_,h1⟩:=(show zn X.prog X.w H s.heap a (.frz ob (.lst xs)) from I.hok a _ ea);exact zVh PySem.W.kitx_list I.kIn ⟨_,h1,rfl⟩ e (fun z=>nomatch z) h
 | @tup a xs ea=>
  cases (show u = Value.ref a from rx);obtain ⟨_,_,_,p⟩:=(show zn X.prog X.w H s.heap a (.tup xs) from I.hok a _ ea);obtain ⟨o,h1,h2,_⟩:=p;exact zVh PySem.W.kitx_tuple I.kIn ⟨o,h1,h2⟩ e (fun z=>nomatch z) h
 | @dK a kvs ea=>
  cases (show u = Value.ref a from rx);obtain ⟨_,_,vs,_,p⟩:=(show zn X.prog X.w H s.heap a (.dK kvs) from I.hok a _ ea);obtain ⟨o,es,ep,h1,h2,_⟩:=p;exact zVh PySem.W.kitx_dict I.kIn ⟨o,h1,h2.1⟩ e (fun z=>nomatch z) h
 | @dT a kvs ea=>
  cases (show u = Value.ref a from rx);obtain ⟨_,_,xs,_,o,es,ep,h1,h2,_⟩:=(show zn X.prog X.w H s.heap a (.dT kvs) from I.hok a _ ea);exact zVh PySem.W.kitx_dict I.kIn ⟨o,h1,h2.1⟩ e (fun z=>nomatch z) h
 | @ins a C dx fs ea cl ha hn htk hm=>
  cases (show u = Value.ref a from rx);obtain ⟨mA,O,_⟩:=zPz I.hok ea;obtain ⟨od,J,_⟩:=O.look;exact zVh (PySem.W.kitx_own (cl.get _) cl.hd ha hn htk hm) I.kIn J e (fun z=>nomatch z) h
end
structure Room (k:Nat) (A:Around):Prop where
 hd:A.handled = none
 dp:A.depth + 3 * k + 5 < recursionLimit
 un:A.units + 16 * k + 200 < cLine
theorem Room.mono {j k:Nat} {A:Around} (r:Room k A) (h:j <= k):Room j A:=⟨r.hd,by have:=r.dp; omega,by have:=r.un; omega⟩
theorem Room.deeper {k:Nat} {A:Around} (r:Room (k + 1) A) (env:Env):Room k (A.deeper env) :=
 ⟨r.hd,by have:=r.dp; show A.depth + 1 + 3 * k + 5 < _; omega,by have:=r.un; show A.units + 3 + 16 * k + 200 < _; omega⟩
theorem Room.depth {k:Nat} {A:Around} (r:Room k A):A.depth < recursionLimit:=by have:=r.dp; omega
theorem Room.units {k:Nat} {A:Around} (r:Room k A):A.units + 64 < cLine:=by have:=r.un; omega
theorem Room.units0 {k:Nat} {A:Around} (r:Room k A):A.units < cLine:=by have:=r.un; omega
def zTY:TA:=fun _ H Q=>Q [] H
def zSM (ta:TE) (tr:TA):TA:=fun σ H Q=>ta σ H fun x H1=>tr σ H1 fun xs H2=>Q (x :: xs) H2
section
variable {X:Cx} {e:Expr} {es:List Expr} {te:TE} {t:TA} {pos:Pos}
theorem zGC:PA X [] zTY:=fun _ _ _ _ H Q I h=>Calls.spliced_nil ⟨[],H,I,.nil,h⟩
theorem zB5 (ha:PE X e te) (hr:PA X es t) (hs:starEach (e :: es) X.env = (false,eval e X.env) :: starEach es X.env:=by rfl):PA X (e :: es) (zSM te t):=by
 intro pos zB s σ H Q I h;rw [hs];show wpAny _ _ (spliced ((false,eval e X.env) :: backTo pos (starEach es X.env))) _ _ s;refine Calls.spliced_cons (thn (ha zB s σ H _ I h) fun u s1 ⟨x,H1,I1,r1,q1⟩=>?_);exact thn (hr pos zB s1 σ H1 _ I1 q1) fun us s2 ⟨xs,H2,I2,r2,q2⟩=>⟨x :: xs,H2,I2,.cons r1 r2,q2⟩
def zTy (t:TA):TE:=fun σ H Q=>t σ H fun xs H1=>xs.length <= sizeLine /\ ∀ p,H1 p = none -> Q (.ref p) (upd H1 p (.tup xs))
def zTX (t:TA):TE:=fun σ H Q=>t σ H fun xs H1=>xs.length <= sizeLine /\ ∀ p,H1 p = none -> Q (.ref p) (upd H1 p (.lst xs))
theorem zRX {x1} (h:PA X es t):PE X (.Tuple es x1 pos) (zTy t):=by
 intro zB s σ H Q I hq;refine wpAny_Tuple_spliced (thn (h pos zB s σ H _ I hq) fun us s1 ⟨xs,H1,I1,r,z,q⟩=>⟨by rw [<- r.length]; exact z,?_⟩);have hf:H1 s1.heap.objs.size = none:=I1.hok.fresh (zUA _);refine ⟨.ref s1.heap.objs.size,upd H1 s1.heap.objs.size (.tup xs),I1.laid (t':=s1.toks) (fun b u e=>zT0 _ e) (zUA _) ?_,rfl,q _ hf⟩;exact ⟨z,us,r,⟨_,zUE _ rfl,rfl,⟨_,rfl⟩,rfl⟩⟩
theorem zRs (h:PA X es t):PE X (.List es pos) (zTX t):=by
 intro zB s σ H Q I hq;refine wpAny_List_spliced (thn (h pos zB s σ H _ I hq) fun us s1 ⟨xs,H1,I1,r,z,q⟩=>⟨by rw [<- r.length]; exact z,?_⟩);have hf:H1 s1.heap.objs.size = none:=I1.hok.fresh (zUA _);refine ⟨.ref s1.heap.objs.size,upd H1 s1.heap.objs.size (.lst xs),I1.laid (t':=s1.toks) (fun b u e=>zT0 _ e) (zUA _) ?_,rfl,q _ hf⟩;exact ⟨z,us,0,r,zUE _ rfl⟩
end
abbrev Sp:=List V -> Hp -> VK -> XK -> Prop
abbrev CXT:=List Env -> Hp -> Shared -> XK -> Value -> Shared -> Prop
structure Env0 (P:Program) (w:World) (K:PySem.W.Frag) (mg:Str -> Option Value) (base:Heap) (A:Around) (outer:List Env) (s:Shared) (H:Hp):Prop where
 frames:A.frames = some outer
 mod:Mod K mg base
 bs:∀ b o,base.get? b = some o -> s.heap.get? b = some o /\ H b = none
 bsz:base.objs.size <= s.heap.objs.size
 funs:s.heap.FunFrames base outer
 frf:∀ b ∈ frs outer,H b = none
 hok:HOk P w H s.heap
 bare:AllBare s.gens
def CE (outer:List Env) (P:Program) (w:World) (H:Hp) (s:Shared) (Q:VK) (u:Value) (s':Shared):Prop :=
 ∃ v H',s'.os = s.os /\ AllBare s'.gens /\ Un (frs outer) [] H H' s.heap s'.heap /\ HOk P w H' s'.heap /\ ze v u /\ Q v H'
def CR (CX:CXT) (outer:List Env) (P:Program) (w:World) (H:Hp) (s:Shared) (Q:VK) (E:XK) (r:Result) (s':Shared):Prop :=
 match r with
 | .ok (.ret u)=>CE outer P w H s Q u s'
 | .ok _=>False
 | .error e=>CX outer H s E e s'
structure FnOk (P:Program) (w:World) (K:PySem.W.Frag) (mg:Str -> Option Value) (base:Heap) (CX:CXT) (k:Nat) (f:Addr) (fd:FuncData) (ps:List Str) (sp:Sp):Prop where
 len:∀ vs H Q E,sp vs H Q E -> vs.length = ps.length
 run:∀ (A:Around) (outer:List Env) (s:Shared) (H:Hp) (args:Args) (us:List Value) (vs:List V) (Q:VK) (E:XK),Room k A -> Env0 P w K mg base A outer s H -> BindsTo s fd args (ps.zip us) -> zU vs us -> sp vs H Q E ->
  codeAny (model P w) A (.call (.ref f) args) (CR CX outer P w H s Q E) s
theorem FnOk.mono {P:Program} {w:World} {K:PySem.W.Frag} {mg:Str -> Option Value} {base:Heap} {CX:CXT} {j k:Nat} {f:Addr} {fd:FuncData} {ps:List Str} {sp:Sp} (F:FnOk P w K mg base CX j f fd ps sp) (h:j <= k) :
  FnOk P w K mg base CX k f fd ps sp:=⟨F.len,fun A outer s H args us vs Q E hr=>F.run A outer s H args us vs Q E (hr.mono h)⟩
theorem FnOk.imp {P:Program} {w:World} {K:PySem.W.Frag} {mg:Str -> Option Value} {base:Heap} {CX:CXT} {k:Nat} {f:Addr} {fd:FuncData} {ps:List Str} {sp sp':Sp} (F:FnOk P w K mg base CX k f fd ps sp)
  (h:∀ vs H Q E,sp' vs H Q E -> sp vs H Q E):FnOk P w K mg base CX k f fd ps sp' :=
 ⟨fun vs H Q E q=>F.len vs H Q E (h _ _ _ _ q),fun A outer s H args us vs Q E hr he hb hv hs=>F.run A outer s H args us vs Q E hr he hb hv (h _ _ _ _ hs)⟩
section
variable {X:Cx} {zB:List (Addr × Obj)} {σ:St} {H:Hp} {s s':Shared}
theorem Inv.env0 (I:Inv X zB σ H s):Env0 X.prog X.w X.K X.mg X.base X.A X.stack s H :=
 ⟨I.ok.frames,I.ok.mod,I.bs,zUV I.ok.bsz I.sz,I.stack,I.stkFree,I.hok,I.bare⟩
theorem Inv.after {Q:VK} {u:Value} (I:Inv X zB σ H s) (h:CE X.stack X.prog X.w H s Q u s'):EP X zB σ Q u s':=by
 obtain ⟨v,H',os,bare,un,hok,r,q⟩:=h;obtain ⟨hh,g,d,t,os'⟩:=s';obtain rfl:os' = s.os:=os;exact ⟨v,H',I.call (h':=hh) (g':=g) (d':=d) (t':=t) (ch:=[]) un hok bare (fun b z=>absurd z (by simp)),r,q⟩
end
def zS0 (sp:Sp) (dvs:List V) (E:XK) (t:TA):TE:=fun σ H Q=>t σ H fun vs H1=>sp (vs ++ dvs) H1 Q E
def zDM (K:PySem.W.Frag) (fd:FuncData) (ps:List Str) (ds:List Value):Prop :=
 ∀ (s:Shared) (us:List Value),K.In s.heap -> (us ++ ds).length = ps.length -> BindsTo s fd ⟨us,[]⟩ (ps.zip (us ++ ds))
theorem zDM.all {K:PySem.W.Frag} {fd:FuncData} {ps:List Str} (h:∀ us:List Value,us.length = ps.length -> bindArgs fd ⟨us,[]⟩ = pure (ps.zip us)):zDM K fd ps []:=fun s us _ hl=>by
 rw [zUo] at hl ⊢;exact .of_eq (h us hl)
def zJd (CX:CXT) (X:Cx) (E:XK):Prop:=∀ (zB:List (Addr × Obj)) (σ:St) (H:Hp) (s:Shared) (e:Value) (s':Shared),Inv X zB σ H s -> CX X.stack H s E e s' -> X.xe e s'
section
variable {X:Cx} {CX:CXT} {k:Nat} {f C:Addr} {fd:FuncData} {ps:List Str} {sp:Sp} {dvs:List V} {ds:List Value} {E:XK} {x m:Str} {p pos apos:Pos} {e o:Expr} {es:List Expr} {ta:TE} {t:TA}
theorem zNj {zB:List (Addr × Obj)} {σ:St} {H:Hp} {s:Shared} {Q:VK} {us:List Value} {vs:List V} (F:FnOk X.prog X.w X.K X.mg X.base CX k f fd ps sp) (hr:Room k X.A) (hb:zDM X.K fd ps ds) (hd:zU dvs ds) (hx:zJd CX X E)
  (I:Inv X zB σ H s) (r:zU vs us) (h:sp (vs ++ dvs) H Q E):wpAny (model X.prog X.w) X.A (call (.ref f) us) (EP X zB σ Q) X.xe s:=by
 have r2:zU (vs ++ dvs) (us ++ ds):=r.append hd;have hl:(us ++ ds).length = ps.length:=by rw [<- r2.length]; exact F.len _ _ _ _ h
 refine wpAny_call (codeAny_mono (F.run X.A X.stack s H ⟨us,[]⟩ (us ++ ds) (vs ++ dvs) Q E hr I.env0 (hb s us I.kIn hl) r2 h) fun r s' hq=>?_);cases r with
 | error e=>exact hx zB σ H s e s' I hq
 | ok fl=>
  cases fl with
  | ret u=>exact I.after hq
  | next=>exact False.elim hq
  | brk=>exact False.elim hq
  | cont=>exact False.elim hq
theorem zPx (F:FnOk X.prog X.w X.K X.mg X.base CX k f fd ps sp) (hr:Room k X.A) (hg:Gl X x) (hm:X.mg x = some (.ref f)) (hk:PySem.W.keepIn X.K (.ref f) = true) (hb:zDM X.K fd ps ds) (hd:zU dvs ds) (hx:zJd CX X E)
  (ha:PA X (e :: es) t) (hdb:(x == ("__debug__" : Str)) = false:=by decide) (he:starEach (e :: es) X.env = (false,eval e X.env) :: starEach es X.env:=by rfl) (hpl:(backTo pos (starEach es X.env)).any (·.1) = false:=by rfl) :
  PE X (.Call (.Name x p) (e :: es) [] pos) (zS0 sp dvs E t):=by
 intro zB s σ H Q I h;refine wpAny_Call_Name_kw (zKw I hg hm ?_ hdb);refine PySem.W.callWith_K (h₀:=X.base) I.ok.mod.kin hk (thn (ha pos zB s σ H _ I h) fun us s1 ⟨vs,H1,I1,r,q⟩=>⟨I1.kIn,?_⟩) he hpl;exact zNj F hr hb hd hx I1 r q
end
structure FnScope (N P:List Str) (sc:Scope):Prop where
 kind:sc.kind = .function
 co:sc.isCoroutine = false
 gen:sc.isGenerator = false
 nd:N.Nodup
 pre:N.take P.length = P
 par:∀ x ∈ P,sc.names.lookup x = some .local \/ sc.names.lookup x = some .cell
 nofree:∀ y ∈ sc.names,y.2 ≠ .free
theorem zG1 {kindOf:Str -> Option NameKind} {x:Str}:∀ {binds:List (Str × Value)} {m:Str -> Option Value},(∀ v,(x,v) ∉ binds) -> bindL kindOf binds m x = m x
 | [],_,_=>rfl
 | (n,v) :: r,m,h=>by
  unfold bindL;rw [zG1 fun w hw=>h w (zUH _ hw)];split
  ·have:x ≠ n:=by rintro rfl; exact h v zUI
   simp [this]
  ·rfl
theorem zGr {kindOf:Str -> Option NameKind} {x:Str}:∀ {binds:List (Str × Value)} {m:Str -> Option Value},(∀ v,(x,v) ∉ binds) -> bindC kindOf binds m x = m x
 | [],_,_=>rfl
 | (n,v) :: r,m,h=>by
  unfold bindC;rw [zGr fun w hw=>h w (zUH _ hw)];split
  ·rfl
  ·have:x ≠ n:=by rintro rfl; exact h v zUI
   simp [this]
theorem zG4 {kindOf:Str -> Option NameKind} {x:Str} {v:Value}:∀ {P:List Str} {vs:List Value} {i:Nat} {m:Str -> Option Value},P.Nodup -> P[i]? = some x -> vs[i]? = some v -> kindOf x = some .local ->
  bindL kindOf (P.zip vs) m x = some v
 | [],_,_,_,_,h,_,_=>by simp at h
 | _ :: _,[],_,_,_,_,h,_=>by simp at h
 | p :: P,w :: vs,0,m,nd,h1,h2,hk=>by
  simp at h1 h2; subst h1; subst h2;show bindL kindOf ((p,w) :: P.zip vs) m p = _;unfold bindL;rw [zG1 fun v hv=>(List.nodup_cons.mp nd).1 (List.of_mem_zip hv).1,zUJ hk];simp
 | p :: P,w :: vs,i + 1,m,nd,h1,h2,hk=>by
  show bindL kindOf ((p,w) :: P.zip vs) m x = _;unfold bindL;exact zG4 (i:=i) (List.nodup_cons.mp nd).2 (by simpa using h1) (by simpa using h2) hk
theorem zGb {kindOf:Str -> Option NameKind} {x:Str} {v:Value}:∀ {P:List Str} {vs:List Value} {i:Nat} {m:Str -> Option Value},P.Nodup -> P[i]? = some x -> vs[i]? = some v -> kindOf x ≠ some .local ->
  bindC kindOf (P.zip vs) m x = some v
 | [],_,_,_,_,h,_,_=>by simp at h
 | _ :: _,[],_,_,_,_,h,_=>by simp at h
 | p :: P,w :: vs,0,m,nd,h1,h2,hk=>by
  simp at h1 h2; subst h1; subst h2;show bindC kindOf ((p,w) :: P.zip vs) m p = _;unfold bindC;rw [zGr fun v hv=>(List.nodup_cons.mp nd).1 (List.of_mem_zip hv).1,zUM hk];simp
 | p :: P,w :: vs,i + 1,m,nd,h1,h2,hk=>by
  show bindC kindOf ((p,w) :: P.zip vs) m x = _;unfold bindC;exact zGb (i:=i) (List.nodup_cons.mp nd).2 (by simpa using h1) (by simpa using h2) hk
def zDN (N:List Str) (vs:List V):St:=vs.map some ++ List.replicate (N.length - vs.length) none
def zIv (CX:CXT) (P:Program) (w:World) (K:PySem.W.Frag) (mg:Str -> Option Value) (base:Heap) (N:List Str) (qual:Str) (scope:Scope) (f:Addr) (cd:Value) (A:Around) (outer:List Env) (s:Shared) (H:Hp) (E:XK):Cx where
 prog:=P
 w:=w
 K:=K
 mg:=mg
 base:=base
 A:=A.deeper (envOfC qual scope s.heap.objs.size f cd)
 N:=N
 s₀:=s
 H₀:=H
 env:=envOfC qual scope s.heap.objs.size f cd
 outer:=outer
 stack:=envOfC qual scope s.heap.objs.size f cd :: outer
 ex:=[]
 calm:=true
 fn:=fun _=>true
 pn:=[]
 xe:=fun e s'=>wpAny (model P w) (A.deeper (envOfC qual scope s.heap.objs.size f cd)) (leaving (envOfC qual scope s.heap.objs.size f cd) e) (fun _ s''=>CX outer H s E e s'') (fun e' s''=>CX outer H s E e' s'') s'
theorem zFt {sc:Scope} {n:Nat} {x:Str} (h:sc.names.lookup x = some .cell):∃ c,(cellsFrom n sc.names []).lookup x = some c:=by
 have q:=PySem.W.cellsFrom_some sc.names n [] (.inl h);exact Option.isSome_iff_exists.mp q
theorem zL6 {CX:CXT} {P:Program} {w:World} {K:PySem.W.Frag} {mg:Str -> Option Value} {base:Heap} {N ps:List Str} {qual:Str} {scope:Scope} {f:Addr} {cd:Value} {A:Around} {outer:List Env} {s s1:Shared} {H:Hp} {E:XK} {us:List Value} {vs:List V}
  (S:FnScope N ps scope) (hd:A.handled = none) (e0:Env0 P w K mg base A outer s H) (hl:vs.length = ps.length) (r:zU vs us)
  (x:InCallC s s.heap.objs.size (bindL (envOfC qual scope s.heap.objs.size f cd).kindOf (ps.zip us) fun _=>none) (cellsFrom (s.heap.objs.size + 1) scope.names []) (bindC (envOfC qual scope s.heap.objs.size f cd).kindOf (ps.zip us) fun _=>none) s1) :
  Inv (zIv CX P w K mg base N qual scope f cd A outer s H E) [] (zDN N vs) H s1:=by
 have hpl:ps.length <= N.length:=by have:=zVr List.length S.pre; rw [zVS] at this; omega
 obtain ⟨h1,tk,rfl,hk⟩:=x.done;have noA:∀ b:Addr,b ∉ (zIv CX P w K mg base N qual scope f cd A outer s H E).ex:=fun b z=>absurd (show b ∈ ([]:List Addr) from z) (by simp)
 refine ⟨⟨e0.mod,S.kind,rfl,rfl,zUA _,fun y z c h1 h2=>?_,fun y hy=>?_,fun y c _ h=>?_,fun _=>hd,Around.frames_deeper e0.frames,.inr ⟨rfl,rfl⟩,fun b z=>absurd z (noA b),e0.bs,e0.bsz,fun b _ _=>noA b,fun b z=>absurd z (noA b),e0.funs,e0.frf⟩,
  rfl,e0.bare,Un.kept hk,⟨_,x.toInCall.ns,fun i y v h1 h2 h3=>?_⟩,fun y c h=>⟨_,x.cell y c h⟩,e0.hok.fresh (zUA _),fun y c h=>?_,fun p hp=>absurd (show p ∈ ([]:List (Addr × Obj)) from hp) (by simp),e0.hok.kept hk,?_⟩
 ·exact name_of_addr x.apart (zU6 h1) (zU6 h2)
 ·have hy:scope.names.lookup y = some .cell \/ scope.names.lookup y = some .free:=hy;rcases hy with hy | hy
  ·exact zFt hy
  ·exact absurd rfl (S.nofree _ (zU6 hy))
 ·exact zW0 (x.above y c (zU6 h))
 ·have hi:i < vs.length:=by
   unfold zDN at h2;by_cases hi:i < vs.length
   ·exact hi
   ·rw [zVE (by simpa using hi)] at h2;rw [List.getElem?_replicate] at h2;split at h2 <;> cases h2
  have ha:vs[i]? = some v:=by
   unfold zDN at h2;rw [zUB (by simpa using hi),zUR] at h2;cases e:vs[i]? with
   | none=>rw [e] at h2; cases h2
   | some a=>rw [e] at h2; cases h2; rfl
  obtain ⟨u,hu,rv⟩:=r.get ha;have hp:ps[i]? = some y:=by
   rw [<- S.pre,List.getElem?_take_of_lt (by omega)]; exact h1
  have ndP:ps.Nodup:=by rw [<- S.pre]; exact S.nd.sublist (List.take_sublist _ _)
  refine ⟨u,rv,?_⟩;rcases S.par y (zUv hp) with k | k
  ·exact .inl ⟨k,zG4 ndP hp hu k⟩
  ·obtain ⟨c,e⟩:=zFt (n:=s.heap.objs.size + 1) k;refine .inr ⟨.inl k,c,e,?_⟩;have q:=x.cell y c e;rw [zGb ndP hp hu (by show scope.names.lookup y ≠ _; rw [k]; decide)] at q;exact q
 ·exact e0.hok.fresh (zW0 (x.above y c (zU6 h)))
 ·unfold zDN;show _ = N.length;rw [zUK,zUD,List.length_replicate];omega
theorem zQY {CX:CXT} {P:Program} {w:World} {K:PySem.W.Frag} {mg:Str -> Option Value} {base:Heap} {k:Nat} {f:Addr} {name qual:Str} {params:Arguments} {body:List Stmt} {scope:Scope} {dV kV doc pm cdv ct oc:Value} {an od:Option Addr}
  {osl:Array (Option Value)} {N ps:List Str} {sp:Sp} (lk:K.lookup f = some ⟨oc,od,.func (PySem.W.fnOf name qual params body scope dV kV doc pm an cdv ct),osl⟩) (hcd:PySem.W.codeIn K cdv qual = true) (S:FnScope N ps scope)
  (len:∀ vs H Q E,sp vs H Q E -> vs.length = ps.length)
  (hbody:∀ (A:Around) (outer:List Env) (s:Shared) (H:Hp) (vs:List V) (Q:VK) (E:XK),Room k (A.deeper (envOfC qual scope s.heap.objs.size f cdv)) -> sp vs H Q E ->
   ∃ t,PSs (zIv CX P w K mg base N qual scope f cdv A outer s H E) body t /\ t { nx:=fun _ H'=>Q .non H',rt:=Q } (zDN N vs) H) :
  FnOk P w K mg base CX (k + 1) f (PySem.W.fnOf name qual params body scope dV kV doc pm an cdv ct) ps sp:=by
 refine ⟨len,fun A outer s H args us vs Q E hr e0 hb r hsp=>?_⟩;have hl:=len _ _ _ _ hsp;have KX:K.In s.heap:=e0.mod.kin.keeps fun b o e=>(e0.bs b o e).1;have lim:s.heap.NoLimit:=e0.mod.nolimit.keeps fun b o e=>(e0.bs b o e).1;have hkind:∀ y ∈ ps.zip us,scope.names.lookup y.1 = some .local \/ (scope.names.lookup y.1 = some .cell /\ ((cellsFrom (s.heap.objs.size + 1) scope.names []).lookup y.1).isSome = true):=fun ⟨n,v⟩ hy=>by
  rcases S.par n (List.of_mem_zip hy).1 with q | q
  ·exact .inl q
  ·exact .inr ⟨q,PySem.W.cellsFrom_some _ _ _ (.inl q)⟩
 refine codeAny_call_function hr.depth (KX _ _ lk) rfl S.co S.gen rfl (PySem.W.codeRec_of KX hcd) (hb _ _ _ _ ?_);refine wpAny_newFunctionEnv_cells S.kind hkind fun env he s1 x=>?_;subst he;refine ⟨lim.keeps x.toInCall.keep,codeAny_func ?_⟩;obtain ⟨t,ht,hq⟩:=hbody A outer s H vs Q E (hr.deeper _) hsp;have I:Inv (zIv CX P w K mg base N qual scope f cdv A outer s H E) [] (zDN N vs) H s1:=zL6 S hr.hd e0 hl r x;refine zUa (ht [] s1 (zDN N vs) H _ I hq) (fun fl s' hs=>?_) fun e s' hs=>hs;have fin:∀ {σ':St} {H':Hp} {v:V} {u:Value},Inv (zIv CX P w K mg base N qual scope f cdv A outer s H E) [] σ' H' s' -> ze v u -> Q v H' -> CE outer P w H s Q u s' :=
  fun {σ' H' v u} J rv q=>⟨v,H',J.os,J.bare,J.base,J.hok,rv,q⟩
 cases fl with
 | ret u=>
  obtain ⟨v,σ',H',J,rv,q⟩:=hs;exact fin J rv q
 | next=>
  obtain ⟨σ',H',J,q⟩:=hs;exact fin (v:=V.non) (u:=Value.none) J rfl q
 | brk=>
  obtain ⟨_,_,_,q⟩:=hs;exact False.elim q
 | cont=>
  obtain ⟨_,_,_,q⟩:=hs;exact False.elim q
section
variable {X:Cx} {x:Str} {p pos:Pos} {e:Expr} {es:List Expr} {t:TA} {id T:String} {r:List V -> Hp -> VK -> Prop}
def tCB (r:List V -> Hp -> VK -> Prop) (t:TA):TE:=fun σ H Q=>t σ H fun vs H1=>r vs H1 Q
theorem zIS (hc:zBs X (.builtin id) r) (hg:Gl X x) (hm:X.mg x = none) (hv:bootBuiltins x = some (.builtin id)) (ha:PA X (e :: es) t) (hn:x ≠ "__name__" := by decide) (hdb:(x == ("__debug__" : Str)) = false:=by decide)
  (he:starEach (e :: es) X.env = (false,eval e X.env) :: starEach es X.env:=by rfl) (hpl:(backTo pos (starEach es X.env)).any (·.1) = false:=by rfl):PE X (.Call (.Name x p) (e :: es) [] pos) (tCB r t):=by
 intro zB s σ H Q I h;refine wpAny_Call_Name_kw (zEo I hg hm hv ?_ hn hdb);exact PyProof.Rows.callWith_builtin1 (thn (ha pos zB s σ H _ I h) fun us s1 ⟨vs,H1,I1,r1,q1⟩=>hc zB s1 σ H1 vs us Q I1 r1 q1) he hpl
theorem zEW (hc:zBs X (.type T) r) (hg:Gl X x) (hm:X.mg x = none) (hv:bootBuiltins x = some (.type T)) (ha:PA X (e :: es) t) (hn:x ≠ "__name__" := by decide) (hdb:(x == ("__debug__" : Str)) = false:=by decide)
  (he:starEach (e :: es) X.env = (false,eval e X.env) :: starEach es X.env:=by rfl) (hpl:(backTo pos (starEach es X.env)).any (·.1) = false:=by rfl):PE X (.Call (.Name x p) (e :: es) [] pos) (tCB r t):=by
 intro zB s σ H Q I h;refine wpAny_Call_Name_kw (zEo I hg hm hv ?_ hn hdb);exact PyProof.Rows.callWith_type1 (thn (ha pos zB s σ H _ I h) fun us s1 ⟨vs,H1,I1,r1,q1⟩=>hc zB s1 σ H1 vs us Q I1 r1 q1) he hpl
end
end L2
namespace HT
open PySem PyProof.Rows
section
variable {prog:Program} {w:World} {A:Around} {E:Value -> Shared -> Prop} {s:Shared}
theorem zPg {t b:Addr} {vs ws:List Value} {Q:Value -> Shared -> Prop} (ht:IsTup s.heap t vs.toArray) (hb:IsTup s.heap b ws.toArray) (hv:vs ≠ [])
  (h1:ws = [] -> Q (.ref t) s) (h2:ws ≠ [] -> Q (.ref s.heap.objs.size) { s with heap:=s.heap.push { cls:=.type "tuple", data:=.seq (vs ++ ws).toArray } })
  (hsz:vs.length + ws.length <= sizeLine):wpAny (model prog w) A (binaryOp .Add (.ref t) (.ref b)) Q E s:=by
 obtain ⟨⟨cls,dd,data,sl⟩,ho,hc,n,hd⟩:=id ht;obtain ⟨⟨cls2,dd2,data2,sl2⟩,ho2,hc2,n2,hd2⟩:=id hb;simp only at hc hd hc2 hd2;subst hc hd hc2 hd2;have e:vs.toArray ++ ws.toArray = (vs ++ ws).toArray:=by simp
 by_cases hw:ws = []
 ·exact concat_meets ⟨_,ho,rfl⟩ ⟨_,ho2,rfl⟩ noFill_tuple_add seq_tuple_add PySem.F.slot_tuple_add PySem.F.entry_tuple_add (PySem.F.args_tuple_add_2 _ _)
   (tuple_addW1 t b vs.toArray ws.toArray n n2 dd dd2 sl sl2 (by simpa using hv) (by simp [hw])) ⟨ho,ho2,h1 hw⟩
 ·refine concat_meets ⟨_,ho,rfl⟩ ⟨_,ho2,rfl⟩ noFill_tuple_add seq_tuple_add PySem.F.slot_tuple_add PySem.F.entry_tuple_add (PySem.F.args_tuple_add_2 _ _)
   (tuple_addW2 t b vs.toArray ws.toArray n n2 dd dd2 sl sl2 (by simpa using hv) (by simpa using hw) (by rw [zUC,zUC]; exact hsz)) ⟨ho,ho2,?_⟩
  rw [e];exact h2 hw
def sIx (n d:Nat):Option Int -> Nat
 | none=>d
 | some v=>if v < 0 then (v + (n:Int)).toNat else min v.toNat n
theorem zQA (n d k:Nat):sIx n d (some (k:Int)) = min k n:=by
 show (if (k:Int) < 0 then ((k:Int) + (n:Int)).toNat else min (k:Int).toNat n) = min k n;rw [zUM (by omega),zWo]
theorem zQy (n d:Nat) (hd:d <= n) (o:Option Int):sIx n d o <= n:=by
 cases o with
 | none=>exact hd
 | some v=>
  show (if v < 0 then (v + (n:Int)).toNat else min v.toNat n) <= n;by_cases hv:v < 0
  ·rw [zUJ hv]; omega
  ·rw [zUM hv]; exact Nat.min_le_right _ _
theorem zKq (v:Int) (n d:Nat):(if v < 0 then max (v + (n:Int)) 0 else min v (n:Int)) = ((sIx n d (some v):Nat):Int):=by
 show (if v < 0 then max (v + (n:Int)) 0 else min v (n:Int)) = (((if v < 0 then (v + (n:Int)).toNat else min v.toNat n):Nat):Int);by_cases hv:v < 0
 ·simp only [zUJ hv]; omega
 ·simp only [zUM hv]; omega
theorem zJr (lo hi:Option Int) (n:Nat):Builtin.Slice.sliceAdjust lo hi 1 (n:Int) = (((sIx n 0 lo:Nat):Int),((sIx n n hi:Nat):Int)):=by
 have h1:¬ ((1:Int) < 0):=by omega
 unfold Builtin.Slice.sliceAdjust;simp only [h1,if_false];refine Prod.ext ?_ ?_
 ·cases lo with
  | none=>rfl
  | some v=>exact zKq v n 0
 ·cases hi with
  | none=>rfl
  | some v=>exact zKq v n n
theorem zJe (i j:Nat):Builtin.Slice.slicePlaces (i:Int) (j:Int) 1 = j - i:=by
 unfold Builtin.Slice.slicePlaces;have h1:(1:Int) > 0:=by omega
 simp only [h1,if_true,Int.ediv_one];split <;> omega
theorem zGF {v:Value} {o:Option Int} {Q:Option Int -> Shared -> Prop} (p:IsPart v o) (h:Q o s):wpAny (model prog w) A (Builtin.Slice.slicePartIndex v) Q E s:=by
 cases p with
 | none=>exact slicePart_none h
 | int i t=>exact slicePart_int h
theorem zCI {sl:Addr} {vl vu:Value} {lo hi:Option Int} {n:Nat} {Q:Int × Int × Nat -> Shared -> Prop} (hs:s.heap.IsSliceOf sl vl vu .none) (pl:IsPart vl lo) (pu:IsPart vu hi)
  (h:Q (((sIx n 0 lo:Nat):Int),1,sIx n n hi - sIx n 0 lo) s):wpAny (model prog w) A (Builtin.Slice.sliceApplied (.ref sl) (pure (n:Int))) Q E s:=by
 obtain ⟨os,hos,hcs,hds⟩:=id hs;unfold Builtin.Slice.sliceApplied Builtin.Slice.sliceFields;refine zTz (zTz (zUj hos hds (x:=vl) rfl (zTz (zUj hos hds (x:=vu) rfl (zTz (zUj hos hds (x:=.none) rfl (zT6 ?_)))))));refine zTz (slicePart_none ?_);show wpAny _ _ (if ((1:Int) == 0) = true then _ else _) _ _ s;rw [zUM (by decide)];refine zTz (zGF pl (zTz (zGF pu (zTz (zT6 ?_)))));show wpAny _ _ (match Builtin.Slice.sliceAdjust lo hi 1 (n:Int) with | (lo,hi)=>pure (lo,(1:Int),Builtin.Slice.slicePlaces lo hi 1)) _ _ s;rw [zJr lo hi n];show wpAny _ _ (pure (((sIx n 0 lo:Nat):Int),(1:Int),Builtin.Slice.slicePlaces ((sIx n 0 lo:Nat):Int) ((sIx n n hi:Nat):Int) 1)) _ _ s;rw [zJe];exact zT6 h
theorem zOI (xs:Array Value) (i k:Nat):((List.range k).filterMap fun (m:Nat)=>xs[((i:Int) + (m:Int) * 1).toNat]?).toArray = ((xs.toList.drop i).take k).toArray:=by
 have e:(fun (m:Nat)=>xs[((i:Int) + (m:Int) * 1).toNat]?) = fun m=>xs[i + m]?:=by
  funext m;have:((i:Int) + (m:Int) * 1).toNat = i + m:=by omega
  rw [this]
 rw [e];have:=pick_run xs i k;rw [List.filterMap_map] at this;have e2:((fun x=>xs[x]?) ∘ fun x=>i + x) = fun m=>xs[i + m]?:=rfl;rw [e2] at this;rw [this]
theorem zEA {t sl:Addr} {items:Array Value} {vl vu:Value} {lo hi:Option Int} {Q:Value -> Shared -> Prop} (ht:IsTup s.heap t items) (hs:s.heap.IsSliceOf sl vl vu .none) (pl:IsPart vl lo) (pu:IsPart vu hi)
  (hw:¬ (sIx items.size 0 lo = 0 /\ sIx items.size items.size hi = items.size))
  (h:Q (.ref s.heap.objs.size) { s with heap:=s.heap.push { cls:=.type "tuple", data:=.seq ((items.toList.drop (sIx items.size 0 lo)).take (sIx items.size items.size hi - sIx items.size 0 lo)).toArray } })
  (hsz:items.size <= sizeLine):wpAny (model prog w) A (getItem (.ref t) (.ref sl)) Q E s:=by
 have htake:sizeOk (.seq ((items.toList.drop (sIx items.size 0 lo)).take (sIx items.size items.size hi - sIx items.size 0 lo)).toArray):=by
  show ((items.toList.drop (sIx items.size 0 lo)).take (sIx items.size items.size hi - sIx items.size 0 lo)).toArray.size <= sizeLine;rw [zUC,zVS,List.length_drop,zUn];omega
 have hj:sIx items.size items.size hi <= items.size:=zQy _ _ (zUA _) hi;obtain ⟨os,hos,hcs,hds⟩:=id hs;have hTs:s.TypeIs (.ref sl) "slice" := ⟨os,hos,hcs⟩;unfold getItem;try with_reducible refine zUx ?_
 first | refine zTz (zT6 ?_) | skip
 refine zTz (wpAny_sequenceKey ht.typeIs (by decide) ?_)
 refine zTz (zUg (name:=Str.ofString "__getitem__") ht.typeIs zVc
  (zUh zVc ht.typeIs entry_tuple_getitem ?_ (args_tuple_getitem _ _)))
 show wpAny _ _ (Builtin.Tuple.tupleItemsOf (.ref t) >>= _) _ _ s;refine zTz (tupleItemsOf_ ht ?_);refine zTz (wpAny_typeOf hTs ?_);rw [zUJ (by decide)];refine zTz (zCI hs pl pu ?_);have hno:¬ ((((sIx items.size 0 lo:Nat):Int) == 0 && (1:Int) == 1 && (sIx items.size items.size hi - sIx items.size 0 lo) == items.size) = true):=by
  intro q;rw [zUe,zUe] at q;have q1:((sIx items.size 0 lo:Nat):Int) = 0:=eq_of_beq q.1.1;have q2:sIx items.size items.size hi - sIx items.size 0 lo = items.size:=eq_of_beq q.2;exact hw ⟨by omega,by omega⟩
 show wpAny _ _ (if (((sIx items.size 0 lo:Nat):Int) == 0 && (1:Int) == 1 && (sIx items.size items.size hi - sIx items.size 0 lo) == items.size) = true then _ else _) _ _ s;rw [zUM hno,zOI]
 first
  | exact zTz (m:=Builtin.Tuple.tupleExact _) (zUX (zT6 ⟨_,rfl,zT6 h⟩) htake)
  | exact zTz (m:=Builtin.Tuple.tupleExact _) (zUX (zTz (zT6 (zT6 ⟨_,rfl,zT6 h⟩))) htake)
  | exact zTz (zTz (m:=Builtin.Tuple.tupleExact _) (zUX (zT6 (zT6 ⟨_,rfl,zT6 h⟩)) htake))
  | exact zTz (zTz (m:=Builtin.Tuple.tupleExact _) (zUX (zT6 ⟨_,rfl,zT6 h⟩) htake))
end
end HT
namespace L2
open PySem PySem.Spec PyProof.Rows
abbrev TO:=St -> Hp -> (Option Int -> Hp -> Prop) -> Prop
def PO (X:Cx) (e:Option Expr) (t:TO):Prop :=
 ∀ (zB:List (Addr × Obj)) (s:Shared) (σ:St) (H:Hp) (Q:Option Int -> Hp -> Prop),Inv X zB σ H s -> t σ H Q ->
  wpAny (model X.prog X.w) X.A (evalPart e X.env) (fun u s'=>∃ o H',Inv X zB σ H' s' /\ IsPart u o /\ Q o H') X.xe s
def zPK:TO:=fun _ H Q=>Q none H
def zTD (t:TE):TO:=fun σ H Q=>t σ H fun x H1=>∃ i,x = .int i /\ Q (some i) H1
section
variable {X:Cx} {e:Expr} {te:TE} {lo hi:Option Expr} {tl th:TO} {pos p2:Pos}
theorem zPn:PO X none zPK:=by
 intro zB s σ H Q I h;rw [evalPart_none];exact zT6 ⟨none,H,I,.none,h⟩
theorem zQD (h:PE X e te):PO X (some e) (zTD te):=by
 intro zB s σ H Q I hw;rw [evalPart_some];refine thn (h zB s σ H _ I hw) fun u s1 ⟨x,H1,I1,r1,q1⟩=>?_;obtain ⟨i,rfl,q⟩:=q1;obtain ⟨t,rfl⟩:=r1;exact ⟨some i,H1,I1,.int i t,q⟩
def SlR (X:Cx) (r:V -> Option Int -> Option Int -> Hp -> VK -> Prop):Prop :=
 ∀ (zB:List (Addr × Obj)) (s:Shared) (σ:St) (H:Hp) (x:V) (v vl vu:Value) (lo hi:Option Int) (sl:Addr) (Q:VK),Inv X zB σ H s -> ze x v -> s.heap.IsSliceOf sl vl vu .none -> IsPart vl lo -> IsPart vu hi -> r x lo hi H Q ->
  ∃ T id,typeLookup (.type T) "__getitem__" = pure (some (.builtin id)) /\ s.TypeIs v T /\ wpAny (model X.prog X.w) X.A (getItem v (.ref sl)) (EP X zB σ Q) X.xe s
theorem SlR.or {r r':V -> Option Int -> Option Int -> Hp -> VK -> Prop} (h:SlR X r) (h':SlR X r'):SlR X (fun x lo hi H Q=>r x lo hi H Q \/ r' x lo hi H Q):=by
 intro zB s σ H x v vl vu lo hi sl Q I rx hs pl pu q;rcases q with q | q
 ·exact h zB s σ H x v vl vu lo hi sl Q I rx hs pl pu q
 ·exact h' zB s σ H x v vl vu lo hi sl Q I rx hs pl pu q
def tSl (r:V -> Option Int -> Option Int -> Hp -> VK -> Prop) (te:TE) (tl th:TO):TE:=fun σ H Q=>te σ H fun x H1=>tl σ H1 fun l H2=>th σ H2 fun u H3=>r x l u H3 Q
theorem zNm {r:V -> Option Int -> Option Int -> Hp -> VK -> Prop} (hr:SlR X r) (he:PE X e te) (hl:PO X lo tl) (hu:PO X hi th):PE X (.Subscript e (.Slice lo hi none p2) pos) (tSl r te tl th):=by
 intro zB s σ H Q I h;refine Subscript_ (thn (he zB s σ H _ I h) fun v s1 ⟨x,H1,I1,r1,q1⟩=>?_);refine wpAny_Slice (thn (hl zB s1 σ H1 _ I1 q1) fun vl s2 ⟨l,H2,I2,pl,q2⟩=>thn (hu zB s2 σ H2 _ I2 q2) fun vu s3 ⟨u,H3,I3,pu,q3⟩=>?_);rw [evalPart_none];refine zT6 ?_;have I4:Inv X zB σ H3 { s3 with heap:=s3.heap.push { cls:=.type "slice", data:=.fields #[vl,vu,.none] } }:=I3.kept (t':=s3.toks) fun b ob q=>zT0 _ q;obtain ⟨T,id,hT,ht,hg⟩:=hr zB { s3 with heap:=s3.heap.push { cls:=.type "slice", data:=.fields #[vl,vu,.none] } } σ H3 x v vl vu l u s3.heap.objs.size Q I4 r1 (Heap.IsSliceOf.new ..) pl pu q3;show wpAny (model X.prog X.w) X.A (subscriptTail e (.Slice lo hi none p2) v (.ref s3.heap.objs.size)) (EP X zB σ Q) X.xe { s3 with heap:=s3.heap.push { cls:=.type "slice", data:=.fields #[vl,vu,.none] } };exact tail_any (ops:=[.ref s3.heap.objs.size,v]) ht hT hg (by with_unfolding_all rfl)
def zIx (xs:List V) (lo hi:Option Int):List V:=(xs.drop (HT.sIx xs.length 0 lo)).take (HT.sIx xs.length xs.length hi - HT.sIx xs.length 0 lo)
theorem zEw (xs:List V) (lo hi:Option Int):(zIx xs lo hi).length <= xs.length:=by
 unfold zIx;rw [zVS,List.length_drop];omega
def zTR (K:PySem.W.Frag):V -> Option Int -> Option Int -> Hp -> VK -> Prop:=fun x lo hi H Q=>∃ a xs,x = .ref a /\ SqT K H a xs /\
 ¬ (HT.sIx xs.length 0 lo = 0 /\ HT.sIx xs.length xs.length hi = xs.length) /\ ∀ p,H p = none -> Q (.ref p) (upd H p (.tup (zIx xs lo hi)))
theorem zQh:SlR X (zTR X.K):=by
 intro zB s σ H x v vl vu lo hi sl Q I rx hs pl pu h;obtain ⟨a,xs,rfl,hx,hw,q⟩:=h;cases rx;obtain ⟨its,r,ht,hz⟩:=I.tuple hx;have hlen:its.toArray.size = xs.length:=by rw [zUC]; exact r.length.symm
 refine ⟨"tuple", _,zVc.lookup,ht.typeIs,?_⟩;refine HT.zEA ht hs pl pu (by rw [hlen]; exact hw) ?_ (by rw [hlen]; exact hz);rw [hlen];refine ⟨.ref s.heap.objs.size,_,I.laid (t':=s.toks) (o:=.tup (zIx xs lo hi)) (fun b ob q=>zT0 _ q) (zUA _) ?_,rfl,q _ (I.hok.fresh (zUA _))⟩;exact ⟨zUV (zEw xs lo hi) hz,_,(r.drop (HT.sIx xs.length 0 lo)).take (HT.sIx xs.length xs.length hi - HT.sIx xs.length 0 lo),zBb.new _ _⟩
def zQM (K:PySem.W.Frag):R2:=fun x y H Q=>∃ a b xs ys,x = .ref a /\ y = .ref b /\ SqT K H a xs /\ SqT K H b ys /\ xs ≠ [] /\ xs.length + ys.length <= sizeLine /\
 (ys = [] -> Q (.ref a) H) /\ (ys ≠ [] -> ∀ p,H p = none -> Q (.ref p) (upd H p (.tup (xs ++ ys))))
theorem zU.nil_iff {xs:List V} {us:List Value} (r:zU xs us):us = [] ↔ xs = []:=by
 cases r with
 | nil=>simp
 | cons _ _=>simp
theorem zP8:OpR X (binaryOp .Add) (zQM X.K):=by
 intro zB s σ H x y v u Q I rx ry h;obtain ⟨a,b,xs,ys,rfl,rfl,ha,hb,hx,hz,q1,q2⟩:=h;cases rx;cases ry;obtain ⟨its,r1,p1,_⟩:=I.tuple ha;obtain ⟨its2,r2,p2,_⟩:=I.tuple hb;refine HT.zPg p1 p2 (fun z=>hx (r1.nil_iff.mp z)) (fun z=>⟨.ref a,H,I,rfl,q1 (r2.nil_iff.mp z)⟩) (fun z=>?_) (by rw [<- r1.length,<- r2.length]; exact hz);refine ⟨.ref s.heap.objs.size,_,I.laid (t':=s.toks) (o:=.tup (xs ++ ys)) (fun b ob q=>zT0 _ q) (zUA _) ?_,rfl,q2 (fun w=>z (r2.nil_iff.mpr w)) _ (I.hok.fresh (zUA _))⟩;exact ⟨by rw [zUK]; exact hz,_,r1.append r2,zBb.new _ _⟩
end
def ixN (n:Nat) (i:Int):Option Nat:=if 0 <= i then (if i < n then some i.toNat else none) else if -(n:Int) <= i then some (i + n).toNat else none
def atI {α:Type} (xs:List α) (i:Int):Option α:=(ixN xs.length i).bind fun j=>xs[j]?
theorem zLI {n:Nat} {i:Int} {j:Nat} (h:ixN n i = some j):seqIndex? i n = some j /\ j < n /\ -(n:Int) <= i /\ i < n:=by
 unfold ixN at h;by_cases h0:0 <= i
 ·rw [zUJ h0] at h;by_cases h1:i < n
  ·rw [zUJ h1] at h;have e:i.toNat = j:=zU4 h;exact ⟨by rw [seqIndex_of h0 h1,e],by omega,by omega,h1⟩
  ·rw [zUM h1] at h; cases h
 ·rw [zUM h0] at h;by_cases h1 : -(n:Int) <= i
  ·rw [zUJ h1] at h;have e:(i + n).toNat = j:=zU4 h;exact ⟨by rw [seqIndex_neg (by omega) h1,e],by omega,h1,by omega⟩
  ·rw [zUM h1] at h; cases h
theorem zHd {α:Type} {xs:List α} {i:Int} {v:α} (h:atI xs i = some v):∃ j,seqIndex? i xs.length = some j /\ xs[j]? = some v /\ j < xs.length /\ -(xs.length:Int) <= i /\ i < xs.length:=by
 unfold atI at h;cases e:ixN xs.length i with
 | none=>rw [e] at h; cases h
 | some j=>
  rw [e] at h;obtain ⟨h1,h2,h3,h4⟩:=zLI e;exact ⟨j,h1,h,h2,h3,h4⟩
theorem zHh {α:Type} {xs:List α} {j:Nat} {v:α} (h:xs[j]? = some v):atI xs (j:Int) = some v:=by
 have hj:j < xs.length:=(zT7.mp h).1;have e:ixN xs.length (j:Int) = some j:=by
  unfold ixN;rw [zUJ (by omega),zUJ (by omega)]; simp
 unfold atI; rw [e]; exact h
def zK6 (b:Expr):Prop:=∀ o i,subscripted b false o i = operate [o,i] (getItem o i)
def IxR (X:Cx) (r:R2):Prop :=
 ∀ (value slice:Expr) (zB:List (Addr × Obj)) (s:Shared) (σ:St) (H:Hp) (x y:V) (v u:Value) (Q:VK),Inv X zB σ H s -> ze x v -> ze y u -> r x y H Q ->
  subscripted slice false v u = operate [v,u] (getItem v u) -> wpAny (model X.prog X.w) X.A (subscriptTail value slice v u) (EP X zB σ Q) X.xe s
def MtR (X:Cx) (id:String) (r:V -> List V -> Hp -> VK -> Prop):Prop :=
 ∀ (zB:List (Addr × Obj)) (s:Shared) (σ:St) (H:Hp) (x:V) (xs:List V) (v:Value) (us:List Value) (Q:VK),Inv X zB σ H s -> ze x v -> zU xs us -> r x xs H Q ->
  wpAny (model X.prog X.w) X.A (call (.builtin id) (v :: us)) (EP X zB σ Q) X.xe s
section
variable {X:Cx} {a b:Expr} {ta tb:TE} {pos:Pos}
theorem IxR.or {r r':R2} (h:IxR X r) (h':IxR X r'):IxR X (fun x y H Q=>r x y H Q \/ r' x y H Q):=by
 intro value slice zB s σ H x y v u Q I rx ry q hs;rcases q with q | q
 ·exact h value slice zB s σ H x y v u Q I rx ry q hs
 ·exact h' value slice zB s σ H x y v u Q I rx ry q hs
theorem zSr {r:R2} (hr:IxR X r) (ha:PE X a ta) (hb:PE X b tb) (hs:zK6 b):PE X (.Subscript a b pos) (tOp r ta tb):=by
 intro zB s σ H Q I h;exact Subscript_ (zRM ha hb I h fun v u s2 x y H2 I2 rx ry q=>hr a b zB s2 σ H2 x y v u Q I2 rx ry q (hs _ _))
def zTA (K:PySem.W.Frag):R2:=fun x y H Q=>∃ p xs i v,x = .ref p /\ y = .int i /\ SqL K H p xs /\ atI xs i = some v /\ Q v H
def zSj (K:PySem.W.Frag):R2:=fun x y H Q=>∃ p xs i v,x = .ref p /\ y = .int i /\ SqT K H p xs /\ atI xs i = some v /\ Q v H
def zSi:R2:=fun x y H Q=>∃ z i c,x = .str z /\ y = .int i /\ z.length <= sizeLine /\ atI z.cps.toList i = some c /\ Q (.str ⟨#[c]⟩) H
theorem zP9:IxR X (zTA X.K):=by
 intro value slice zB s σ H x y v u Q I rx ry h hs;obtain ⟨p,xs,i,z,rfl,rfl,hq,he,q⟩:=h;cases rx;obtain ⟨t,rfl⟩:=ry;obtain ⟨its,r,pl,hz⟩:=I.list hq;obtain ⟨j,h1,h2,h3,h4,h5⟩:=zHd he;obtain ⟨w,ew,rw'⟩:=r.get h2;have hl:=r.length;have hn:=zEc;have fin:EP X zB σ Q w s:=⟨z,H,I,rw',q⟩;by_cases h0:0 <= i
 ·have hj:i.toNat = j:=by
   rw [seqIndex_of h0 h5] at h1;exact zU4 h1
  exact item_listR pl.isList h0 (by omega) (by rw [hj]; simpa using ew) fin hs
 ·have hj:(i + (its.toArray.size:Int)).toNat = j:=by
   rw [seqIndex_neg (by omega) h4] at h1;rw [zUC,<- hl];exact zU4 h1
  exact subscriptTail_builtinR (x:=w) pl.isList.typeIs slot_list_getitem.lookup
   (wpAny_getItem_list_neg (Q:=fun r s'=>r = w /\ EP X zB σ Q r s') pl.isList (by omega) (by rw [zUC] <;> omega) (by omega) (by rw [hj]; simpa using ew) ⟨rfl,fin⟩) hs
theorem zRn:IxR X (zSj X.K):=by
 intro value slice zB s σ H x y v u Q I rx ry h hs;obtain ⟨p,xs,i,z,rfl,rfl,hq,he,q⟩:=h;cases rx;obtain ⟨t,rfl⟩:=ry;obtain ⟨its,r,pl,hz⟩:=I.tuple hq;obtain ⟨j,h1,h2,h3,h4,h5⟩:=zHd he;obtain ⟨w,ew,rw'⟩:=r.get h2;have hl:=r.length;have hn:=zEc;have fin:EP X zB σ Q w s:=⟨z,H,I,rw',q⟩
 exact subscriptTail_builtinR (x:=w) pl.typeIs slot_tuple_getitem.lookup
  (getItem_tuple (j:=j) (Q:=fun r s'=>r = w /\ EP X zB σ Q r s') pl (by omega) (by omega) (by rw [zUC,<- hl]; exact h1) (by simpa using ew) ⟨rfl,fin⟩) hs
theorem zRR:IxR X zSi:=by
 intro value slice zB s σ H x y v u Q I rx ry h hs;obtain ⟨z,i,c,rfl,rfl,hz,he,q⟩:=h;obtain ⟨t,rfl⟩:=rx;obtain ⟨t',rfl⟩:=ry;obtain ⟨j,h1,h2,h3,h4,h5⟩:=zHd he;have hl:z.cps.toList.length = z.length:=by simp [Str.length]
 rw [hl] at h1 h4 h5;have hn:=zEc;exact tail_any (typeIs_str s z t) slot_str_getitem.lookup (getItem_str (c:=c) (by
  have e1:decide (i < -(2 ^ 63:Int)) = false:=zUd (by omega);have e2:decide (i ≥ 2 ^ 63) = false:=zUd (by omega);rw [e1,e2,Bool.or_false]) (by rw [h1]; simpa using h2) ⟨.str ⟨#[c]⟩,H,I.tok _,⟨_,rfl⟩,q⟩) hs
def rIx (K:PySem.W.Frag):R2:=fun x y H Q=>zTA K x y H Q \/ zSj K x y H Q \/ zSi x y H Q
theorem zRY:IxR X (rIx X.K):=zP9.or (zRn.or zRR)
theorem zKl (its:List Value) (n j:Nat) (u:Value):Obj.mapSeq (·.setIfInBounds j u) { cls:=.type "list", data:=.seq its.toArray n } = { cls:=.type "list", data:=.seq (its.set j u).toArray n }:=by
 simp [Obj.mapSeq]
theorem Inv.lst {zB:List (Addr × Obj)} {σ:St} {H:Hp} {s:Shared} {p:Addr} {xs:List V} (I:Inv X zB σ H s) (h:H p = some (.lst xs)) :
  ∃ (its:List Value) (n:Nat),zU xs its /\ s.heap.get? p = some { cls:=.type "list", data:=.seq its.toArray n } /\ xs.length <= sizeLine:=by
 obtain ⟨z,its,n,r,e⟩:=I.hok p _ h;exact ⟨its,n,r,e,z⟩
theorem Inv.lstUpd {zB:List (Addr × Obj)} {σ:St} {H:Hp} {s:Shared} {p:Addr} {xs ys:List V} {its its':List Value} {n n':Nat} {f:Obj -> Obj} (I:Inv X zB σ H s) (h:H p = some (.lst xs))
  (ho:s.heap.get? p = some { cls:=.type "list", data:=.seq its.toArray n }) (hf:f { cls:=.type "list", data:=.seq its.toArray n } = { cls:=.type "list", data:=.seq its'.toArray n' }) (r:zU ys its') (hz:ys.length <= sizeLine) (t:Nat) :
  Inv X zB σ (upd H p (.lst ys)) { s with heap:=s.heap.update p f,toks:=t }:=by
 have e:(s.heap.update p f).get? p = some { cls:=.type "list", data:=.seq its'.toArray n' }:=by
  rw [zUr f ho (by rw [hf] <;> rfl),hf]
 refine I.write (x:=p) (e:=p) (by rw [h]; trivial) (.inl rfl) (fun b u hb q=>(zUl _ _ (Ne.symm hb)).trans q) ⟨_,e⟩ ?_;exact ⟨hz,its',n',r,e⟩
def zSt:V -> V -> V -> Hp -> (Hp -> Prop) -> Prop:=fun o i v H Q=>∃ p xs k j,o = .ref p /\ i = .int k /\ H p = some (.lst xs) /\ ixN xs.length k = some j /\ Q (upd H p (.lst (xs.set j v)))
theorem zNQ:zSO X zSt:=by
 intro zB s σ H o i v ov iv u Q I ro ri rv h;obtain ⟨p,xs,k,j,rfl,rfl,hp,hj,q⟩:=h;cases ro;obtain ⟨t,rfl⟩:=ri;obtain ⟨its,n,r,ho,hz⟩:=I.lst hp;obtain ⟨h1,h2,h3,h4⟩:=zLI hj;have hl:=r.length;have hn:=zEc;have I':Inv X zB σ (upd H p (.lst (xs.set j v))) { s with heap:=s.heap.update p (Obj.mapSeq (·.setIfInBounds j u)) } :=
  I.lstUpd hp ho (zKl its n j u) (r.set rv j) (by rw [zWN]; exact hz) s.toks
 by_cases h0:0 <= k
 ·have hk:k.toNat = j:=by
   rw [seqIndex_of h0 h4] at h1;exact zU4 h1
  exact PySem.W.ki_setAt ho h0 (by omega) (by rw [zUC,<- hl]; exact h4) (by rw [hk]; exact ⟨_,I',q⟩)
 ·have hk:(k + (its.toArray.size:Int)).toNat = j:=by
   rw [seqIndex_neg (by omega) h3] at h1;rw [zUC,<- hl];exact zU4 h1
  exact PySem.W.ki_setBack ho (by omega) (by rw [zUC,<- hl]; exact h3) (by omega) (by rw [hk]; exact ⟨_,I',q⟩)
theorem zHF (lo hi:Option Int) (n:Nat):(sliceBounds lo hi none n).1 = ((HT.sIx n 0 lo:Nat):Int) /\ (sliceBounds lo hi none n).2.1 = ((HT.sIx n n hi:Nat):Int) /\ (sliceBounds lo hi none n).2.2 = 1:=by
 refine ⟨?_,?_,rfl⟩
 ·cases lo with
  | none=>simp [sliceBounds,HT.sIx]
  | some i=>
   simp only [sliceBounds,HT.sIx,Option.getD_none,show (1:Int) > 0 by decide,if_true];by_cases h:i < 0
   ·simp only [h,if_true] <;> omega
   ·simp only [h,if_false] <;> omega
 ·cases hi with
  | none=>simp [sliceBounds,HT.sIx]
  | some i=>
   simp only [sliceBounds,HT.sIx,Option.getD_none,show (1:Int) > 0 by decide,if_true];by_cases h:i < 0
   ·simp only [h,if_true] <;> omega
   ·simp only [h,if_false] <;> omega
theorem zGS (its:List Value) (lo hi:Option Int):slicePick its.toArray lo hi none = ((its.drop (HT.sIx its.length 0 lo)).take (HT.sIx its.length its.length hi - HT.sIx its.length 0 lo)).toArray:=by
 obtain ⟨h1,h2,h3⟩:=zHF lo hi its.toArray.size;unfold slicePick;rw [h1,h2,h3];simp only [sliceRange_one,pick_run,zUC] <;> rfl
def zTk (K:PySem.W.Frag):V -> Option Int -> Option Int -> Hp -> VK -> Prop:=fun x lo hi H Q=>∃ a xs,x = .ref a /\ SqL K H a xs /\ ∀ p,H p = none -> Q (.ref p) (upd H p (.lst (zIx xs lo hi)))
theorem zPe:SlR X (zTk X.K):=by
 intro zB s σ H x v vl vu lo hi sl Q I rx hs pl pu h;obtain ⟨a,xs,rfl,hx,q⟩:=h;cases rx;obtain ⟨its,r,ht,hz⟩:=I.list hx;have hlen:=r.length;refine ⟨"list", _,slot_list_getitem.lookup,ht.isList.typeIs,?_⟩;refine wpAny_getItem_list_slice ht.isList hs pl pu .none (by simp) ?_ (by rw [zUC] <;> omega);rw [zGS,<- hlen];refine ⟨.ref s.heap.objs.size,_,I.laid (t':=s.toks) (o:=.lst (zIx xs lo hi)) (fun b ob q=>zT0 _ q) (zUA _) ?_,rfl,q _ (I.hok.fresh (zUA _))⟩;exact ⟨zUV (zEw xs lo hi) hz,_,0,(r.drop (HT.sIx xs.length 0 lo)).take (HT.sIx xs.length xs.length hi - HT.sIx xs.length 0 lo),zUE _ rfl⟩
def zD9:V -> Bool
 | .non=>true
 | .bl _=>true
 | .int _=>true
 | .str _=>true
 | _=>false
def eqV:V -> V -> Bool
 | .non,.non=>true
 | .bl a,.bl b=>a == b
 | .bl a,.int b=>(if a then 1 else 0) == b
 | .int a,.bl b=>a == (if b then 1 else 0)
 | .int a,.int b=>a == b
 | .str a,.str b=>a == b
 | _,_=>false
theorem zQ7 {A:Around} {s:Shared} {y x:V} {u v:Value} (ry:ze y u) (rx:ze x v) (fy:zD9 y = true) (fx:zD9 x = true):SeqAt.EqAt A s u v (eqV y x):=by
 cases y with
 | non=>
  cases ry;cases x with
  | non=>cases rx; exact SeqAt.EqAt.same _
  | bl b=>cases rx; exact SeqAt.EqAt.none_bool b
  | int b=>obtain ⟨t,rfl⟩:=rx; exact SeqAt.EqAt.none_int b t
  | str b=>obtain ⟨t,rfl⟩:=rx; exact SeqAt.EqAt.none_str b t
  | _=>exact absurd (show false = true from fx) zUQ
 | bl a=>
  cases ry;cases x with
  | non=>cases rx; exact SeqAt.EqAt.bool_none a
  | bl b=>cases rx; exact SeqAt.EqAt.bool_bool a b
  | int b=>obtain ⟨t,rfl⟩:=rx; exact SeqAt.EqAt.bool_int a b t
  | str b=>obtain ⟨t,rfl⟩:=rx; exact SeqAt.EqAt.bool_str a b t
  | _=>exact absurd (show false = true from fx) zUQ
 | int a=>
  obtain ⟨t',rfl⟩:=ry;cases x with
  | non=>cases rx; exact SeqAt.EqAt.int_none a t'
  | bl b=>cases rx; exact SeqAt.EqAt.int_bool a t' b
  | int b=>obtain ⟨t,rfl⟩:=rx; exact SeqAt.EqAt.int_int a t' b t
  | str b=>obtain ⟨t,rfl⟩:=rx; exact SeqAt.EqAt.int_str a t' b t
  | _=>exact absurd (show false = true from fx) zUQ
 | str a=>
  obtain ⟨t',rfl⟩:=ry;cases x with
  | non=>cases rx; exact SeqAt.EqAt.str_none a t'
  | bl b=>cases rx; exact SeqAt.EqAt.str_bool a t' b
  | int b=>obtain ⟨t,rfl⟩:=rx; exact SeqAt.EqAt.str_int a t' b t
  | str b=>obtain ⟨t,rfl⟩:=rx; exact SeqAt.EqAt.str_str a t' b t
  | _=>exact absurd (show false = true from fx) zUQ
 | _=>exact absurd (show false = true from fy) zUQ
def eqU (x:V) (u:Value):Bool:=match u with
 | .none=>eqV .non x
 | .bool b=>eqV (.bl b) x
 | .int i _=>eqV (.int i) x
 | .str z _=>eqV (.str z) x
 | _=>false
theorem zNz {x y:V} {u:Value} (r:ze y u) (f:zD9 y = true):eqU x u = eqV y x:=by
 cases y with
 | non=>cases r; rfl
 | bl b=>cases r; rfl
 | int i=>obtain ⟨t,rfl⟩:=r; rfl
 | str z=>obtain ⟨t,rfl⟩:=r; rfl
 | _=>exact absurd (show false = true from f) zUQ
theorem zDq {x:V}:∀ {xs:List V} {us:List Value},zU xs us -> xs.all zD9 = true -> us.any (eqU x) = xs.any fun y=>eqV y x
 | _,_,.nil,_=>rfl
 | y :: xs,u :: us,.cons r t,f=>by
  rw [List.all_cons,zUe] at f;rw [List.any_cons,List.any_cons,zNz r f.1,zDq t f.2]
theorem zC7 {A:Around} {s:Shared} {x:V} {v:Value} (rx:ze x v) (fx:zD9 x = true):∀ {xs:List V} {us:List Value},zU xs us -> xs.all zD9 = true -> ∀ u ∈ us,SeqAt.EqAt A s u v (eqU x u)
 | _,_,.nil,_=>fun u hu=>by cases hu
 | y :: xs,u :: us,.cons r t,f=>fun u' hu=>by
  rw [List.all_cons,zUe] at f;rcases zUG.mp hu with rfl | hu
  ·rw [zNz r f.1]; exact zQ7 r rx f.1 fx
  ·exact zC7 rx fx t f.2 u' hu
def inV (x:V) (xs:List V):Bool:=xs.any fun y=>eqV y x
def rIn (K:PySem.W.Frag) (neg:Bool):R2:=fun x y H Q=>∃ p xs,y = .ref p /\ (SqL K H p xs \/ SqT K H p xs) /\ zD9 x = true /\ xs.all zD9 = true /\ Q (.bl (if neg then !inV x xs else inV x xs)) H
theorem zMH:OpR X (compareOp .In) (rIn X.K false):=by
 intro zB s σ H x y v u Q I rx ry h;obtain ⟨p,xs,rfl,hq,fx,fs,q⟩:=h;cases ry;rcases hq with hq | hq
 ·obtain ⟨its,r,pl,hz⟩:=I.list hq;refine SeqAt.in_listAt (eqU x) pl.isList (fun w hw=>zC7 rx fx r fs w (by simpa using hw)) ⟨.bl _,H,I,rfl,?_⟩;rw [show its.toArray.any (eqU x) = its.any (eqU x) by simp,zDq r fs];exact q
 ·obtain ⟨its,r,pl,hz⟩:=I.tuple hq;refine SeqAt.in_tupleAt (eqU x) pl (fun w hw=>zC7 rx fx r fs w (by simpa using hw)) ⟨.bl _,H,I,rfl,?_⟩;rw [show its.toArray.any (eqU x) = its.any (eqU x) by simp,zDq r fs];exact q
theorem zHf:OpR X (compareOp .NotIn) (rIn X.K true):=by
 intro zB s σ H x y v u Q I rx ry h;obtain ⟨p,xs,rfl,hq,fx,fs,q⟩:=h;cases ry;rcases hq with hq | hq
 ·obtain ⟨its,r,pl,hz⟩:=I.list hq;refine SeqAt.notIn_listAt (eqU x) pl.isList (fun w hw=>zC7 rx fx r fs w (by simpa using hw)) ⟨.bl _,H,I,rfl,?_⟩;rw [show its.toArray.any (eqU x) = its.any (eqU x) by simp,zDq r fs];exact q
 ·obtain ⟨its,r,pl,hz⟩:=I.tuple hq;refine SeqAt.notIn_tupleAt (eqU x) pl (fun w hw=>zC7 rx fx r fs w (by simpa using hw)) ⟨.bl _,H,I,rfl,?_⟩;rw [show its.toArray.any (eqU x) = its.any (eqU x) by simp,zDq r fs];exact q
theorem zH4:zBs X (.builtin "len") (fun xs H Q=>∃ p ys,xs = [.ref p] /\ (SqL X.K H p ys \/ SqT X.K H p ys) /\ Q (.int ys.length) H):=by
 intro zB s σ H xs us Q I r h;obtain ⟨p,ys,rfl,hq,q⟩:=h;obtain ⟨u,rfl,rx⟩:=zDO r;cases rx;have hn:=zEc;rcases hq with hq | hq
 ·obtain ⟨its,r',pl,hz⟩:=I.list hq;have hlen:=r'.length;exact Calls.call_len_list pl.isList (by simp only [zUC] <;> omega) ⟨.int ys.length,H,I.tok _,⟨s.toks + 1,by rw [zUC,hlen]⟩,q⟩
 ·obtain ⟨its,r',pl,hz⟩:=I.tuple hq;have hlen:=r'.length;exact len_tuple pl (by simp only [zUC] <;> omega) ⟨.int ys.length,H,I.tok _,⟨s.toks + 1,by rw [zUC,hlen]⟩,q⟩
theorem zHk:zBs X (.type "list") (fun xs H Q=>∃ p ys,xs = [.ref p] /\ (SqL X.K H p ys \/ SqT X.K H p ys) /\ ∀ l,H l = none -> Q (.ref l) (upd H l (.lst ys))):=by
 intro zB s σ H xs us Q I r h;obtain ⟨p,ys,rfl,hq,q⟩:=h;obtain ⟨u,rfl,rx⟩:=zDO r;cases rx
 have fin:∀ (its:List Value),zU ys its -> ys.length <= sizeLine -> ∀ (h':Heap) (c':Nat),(∀ b o',s.heap.get? b = some o' -> h'.get? b = some o') ->
   h'.get? s.heap.objs.size = some { cls:=.type "list", dict:=none,data:=.seq its.toArray c',slots:=#[] } -> EP X zB σ Q (.ref s.heap.objs.size) { s with heap:=h' }:=fun its r' hz h' c' kp e=>
  ⟨.ref s.heap.objs.size,_,I.laid (t':=s.toks) kp (zUA _) (show zn X.prog X.w _ h' _ (.lst ys) from ⟨hz,its,c',r',e⟩),rfl,q _ (I.hok.fresh (zUA _))⟩
 rcases hq with hq | hq
 ·obtain ⟨its,r',pl,hz⟩:=I.list hq;have hlen:=r'.length;obtain ⟨o,ho,hc,n,hd⟩:=pl.isList;exact call_list_seq p (.inl rfl) ho hc hd (fun h' c' kp e=>fin its r' hz h' c' kp e) (by simp only [zUC] <;> omega)
 ·obtain ⟨its,r',pl,hz⟩:=I.tuple hq;have hlen:=r'.length;obtain ⟨o,ho,hc,n,hd⟩:=pl;exact call_list_seq p (.inr rfl) ho hc hd (fun h' c' kp e=>fin its r' hz h' c' kp e) (by simp only [zUC] <;> omega)
theorem zGT:zBs X (.type "tuple") (fun xs H Q=>∃ p ys,xs = [.ref p] /\ ((SqL X.K H p ys /\ ∀ l,H l = none -> Q (.ref l) (upd H l (.tup ys))) \/ (SqT X.K H p ys /\ Q (.ref p) H))):=by
 intro zB s σ H xs us Q I r h;obtain ⟨p,ys,rfl,h⟩:=h;obtain ⟨u,rfl,rx⟩:=zDO r;cases rx;rcases h with ⟨hq,q⟩ | ⟨hq,q⟩
 ·obtain ⟨its,r',pl,hz⟩:=I.list hq;have hlen:=r'.length;refine call_tuple_list pl.isList (fun h' kp=>?_) (by simp only [zUC] <;> omega);have I1:Inv X zB σ H { s with heap:=h' }:=I.kept (t':=s.toks) kp;have I2:Inv X zB σ (upd H h'.objs.size (.tup ys)) { s with heap:=h'.push { cls:=.type "tuple", data:=.seq its.toArray } } :=
   I1.laid (t':=s.toks) (fun b o e=>zT0 _ e) (zUA _) (show zn X.prog X.w _ _ _ (.tup ys) from ⟨hz,its,r',zBb.new _ _⟩)
  exact ⟨.ref h'.objs.size,_,I2,rfl,q _ (I1.hok.fresh (zUA _))⟩
 ·obtain ⟨its,r',pl,hz⟩:=I.tuple hq;exact call_tuple_same pl ⟨.ref p,H,I,rfl,q⟩
def tyV (K:PySem.W.Frag) (T:String) (x:V) (H:Hp):Prop:=match x with
 | .str _=>T = "str"
 | .int _=>T = "int"
 | .ref p=>(T = "list" /\ ∃ xs,SqL K H p xs) \/ (T = "tuple" /\ ((∃ o,K.lookup p = some o /\ o.cls = .type "tuple" /\ o.dict = none) \/ ∃ xs,H p = some (.tup xs))) \/
   (T = "dict" /\ ((∃ kvs,H p = some (.dK kvs)) \/ ∃ kvs,H p = some (.dT kvs))) \/ (T = "set" /\ ∃ S n,H p = some (.set S n))
 | _=>False
theorem zQd {zB:List (Addr × Obj)} {σ:St} {H:Hp} {s:Shared} {T:String} {x:V} {v:Value} (I:Inv X zB σ H s) (r:ze x v) (ty:tyV X.K T x H) :
  s.TypeIs v T /\ ∀ a,v = .ref a -> ∃ ob,s.heap.get? a = some ob /\ ob.dict = none:=by
 cases x with
 | str z=>
  obtain ⟨t,rfl⟩:=r;cases (show T = "str" from ty);exact ⟨typeIs_str s z t,fun _ e=>nomatch e⟩
 | int i=>
  obtain ⟨t,rfl⟩:=r;cases (show T = "int" from ty);exact ⟨typeIs_int s i t,fun _ e=>nomatch e⟩
 | ref p=>
  cases r;rcases ty with ⟨rfl,xs,hq⟩ | ⟨rfl,⟨o,hk,hc,hd⟩ | ⟨xs,hq⟩⟩ | ⟨rfl,hk⟩ | ⟨rfl,S,n,hk⟩
  ·obtain ⟨its,_,pl,_⟩:=I.list hq;refine ⟨pl.isList.typeIs,fun a e=>?_⟩;cases e;obtain ⟨o,n,e,c,hd,_⟩:=pl;exact ⟨o,e,hd⟩
  ·refine ⟨⟨o,I.kIn p o hk,hc⟩,fun a e=>?_⟩;cases e;exact ⟨o,I.kIn _ o hk,hd⟩
  ·obtain ⟨_,its,_,o,e,c,_,hd⟩:=I.hok p _ hq;refine ⟨⟨o,e,c⟩,fun a e2=>?_⟩;cases e2;exact ⟨o,e,hd⟩
  ·have z:∃ o,s.heap.get? p = some o /\ o.ExactDict:=by
    rcases hk with ⟨kvs,hk⟩ | ⟨kvs,hk⟩
    ·obtain ⟨_,_,_,_,o,_,_,e,ex,_⟩:=I.hok p _ hk;exact ⟨o,e,ex⟩
    ·obtain ⟨_,_,_,_,o,_,_,e,ex,_⟩:=I.hok p _ hk;exact ⟨o,e,ex⟩
   obtain ⟨o,e,ex⟩:=z;refine ⟨⟨o,e,ex.1⟩,fun a e2=>?_⟩;cases e2;exact ⟨o,e,ex.2.1⟩
  ·obtain ⟨o,_,_,_,e,ex,_⟩:=I.hok p _ hk;refine ⟨⟨o,e,ex.1⟩,fun a e2=>?_⟩;cases e2;exact ⟨o,e,ex.2.1⟩
 | _=>exact False.elim ty
def tBM (K:PySem.W.Frag) (T:String) (r:V -> List V -> Hp -> VK -> Prop) (to:TE) (t:TA):TE:=fun σ H Q=>to σ H fun x H1=>tyV K T x H1 /\ t σ H1 fun xs H2=>r x xs H2 Q
variable {o e:Expr} {es:List Expr} {to:TE} {t:TA} {name:Str} {apos cpos:Pos} {T id:String} {r:V -> List V -> Hp -> VK -> Prop}
theorem zQO (pa:PlainAttrs T) (slot:Slot T name id) (hty:typeOf (.builtin id) = pure (.type "method_descriptor")) (hm:MtR X id r) (ho:PE X o to) (ha:PA X (e :: es) t)
  (hbase:attributeBase o name X.env (eval o X.env) = eval o X.env:=by rfl)
  (hfew:((backTo cpos (starEach (e :: es) X.env)).all (fun x=> !x.1) && (backToKw cpos (keywordEach [] X.env)).all (fun x=>x.1.isSome)
   && decide ((e :: es).length + ([]:List Keyword).length + (if ([]:List Keyword).isEmpty then 0 else 1) < 30)) = true:=by rfl)
  (hline:(apos.endLine == cpos.line) = true:=by rfl) (hs:starEach (e :: es) X.env = (false,eval e X.env) :: starEach es X.env:=by rfl) (hplain:(backTo cpos (starEach es X.env)).any (·.1) = false:=by rfl) :
  PE X (.Call (.Attribute o name apos) (e :: es) [] cpos) (tBM X.K T r to t):=by
 intro zB s σ H Q I h;refine wpAny_Call_method_late hbase hfew hline rfl (thn (ho zB s σ H _ I h) fun v s1 ⟨x,H1,I1,r1,ty,q1⟩=>?_);obtain ⟨h1,h2⟩:=zQd I1 r1 ty;refine ⟨T,id,pa,slot,hty,h1,h2,?_⟩;have hA:=ha cpos zB s1 σ H1 _ I1 q1;rw [hs] at hA ⊢;refine Calls.callWith_builtin (by show (false || (backTo cpos (starEach es X.env)).any (·.1)) = false; rw [hplain] <;> rfl) (Calls.evalArgs_plain ?_);exact thn hA fun us s2 ⟨vs,H2,I2,r2,q2⟩=>hm zB s2 σ H2 x vs v us Q I2 r1 r2 q2
end
def MtM (X:Cx) (id:String) (r:V -> List V -> Hp -> VK -> Prop):Prop :=
 ∀ (zB:List (Addr × Obj)) (s:Shared) (σ:St) (H:Hp) (x:V) (xs:List V) (v:Value) (us:List Value) (Q:VK),Inv X zB σ H s -> ze x v -> zU xs us -> r x xs H Q ->
  wpAny (model X.prog X.w) X.A (call (.builtin id) (v :: us)) (EP X zB σ Q) X.xe s
theorem zU.one:∀ {x:V} {us:List Value},zU [x] us -> ∃ u,us = [u] /\ ze x u
 | _,_,.cons r .nil=>⟨_,rfl,r⟩
theorem zU.two:∀ {x y:V} {us:List Value},zU [x,y] us -> ∃ u v,us = [u,v] /\ ze x u /\ ze y v
 | _,_,_,.cons r (.cons q .nil)=>⟨_,_,rfl,r,q⟩
theorem zU.rep {xs:List V} {us:List Value} (h:zU xs us):∀ k:Nat,zU (List.replicate k xs).flatten (List.replicate k us).flatten
 | 0=> .nil
 | k + 1=>by
  rw [zVN,zVN,List.flatten_cons,List.flatten_cons];exact zU.append h (zU.rep h k)
theorem zEg (its:List Value):∀ (k:Nat) (acc:List Value),
  List.foldl (fun x1 x2=>x1 ++ x2) acc.toArray (List.replicate k its.toArray) = (acc ++ (List.replicate k its).flatten).toArray
 | 0,acc=>by simp
 | k + 1,acc=>by
  have e:acc.toArray ++ its.toArray = (acc ++ its).toArray:=by simp
  have e2:(acc ++ its) ++ (List.replicate k its).flatten = acc ++ (List.replicate (k + 1) its).flatten:=by
   rw [zVN,List.flatten_cons,zVA]
  rw [<- e2,<- zEg its k (acc ++ its),<- e,zVN,List.foldl_cons]
section
variable {X:Cx} {zB:List (Addr × Obj)} {σ:St} {H:Hp} {s:Shared} {l b:Addr} {xs ys zs:List V}
theorem Inv.lset {its its':List Value} {n:Nat} {f:Array Value -> Array Value} {t':Nat} (I:Inv X zB σ H s) (hH:H l = some (.lst xs))
  (e:s.heap.get? l = some { cls:=.type "list", data:=.seq its.toArray n }) (hf:f its.toArray = its'.toArray) (hv:zU ys its') (hz:ys.length <= sizeLine) :
  Inv X zB σ (upd H l (.lst ys)) { s with heap:=s.heap.update l (Obj.mapSeq f),toks:=t' }:=by
 have q:=PySem.IsL.update e f;rw [hf] at q;refine I.write (x:=l) (e:=l) (by rw [hH]; exact trivial) (.inl rfl) (fun b' u hb hu=>(zUl s.heap (Obj.mapSeq f) (Ne.symm hb)).trans hu) ⟨_,q⟩ ?_;exact ⟨hz,its',_,hv,q⟩
theorem Inv.lnew {its:List Value} {t':Nat} (I:Inv X zB σ H s) (hv:zU ys its) (hz:ys.length <= sizeLine) :
  Inv X zB σ (upd H s.heap.objs.size (.lst ys)) { s with heap:=s.heap.push { cls:=.type "list", data:=.seq its.toArray },toks:=t' } :=
 I.laid (fun _ _ q=>zT0 _ q) (zUA _) ⟨hz,its,0,hv,zUE _ rfl⟩
theorem Inv.fresh (I:Inv X zB σ H s):H s.heap.objs.size = none:=I.hok.fresh (zUA _)
theorem Inv.lstM (I:Inv X zB σ H s) (hH:H l = some (.lst xs)):xs.length <= sizeLine /\ ∃ (its:List Value) (n:Nat),zU xs its /\ xs.length = its.length /\ s.heap.get? l = some { cls:=.type "list", data:=.seq its.toArray n }:=by
 obtain ⟨z,its,n,r,e⟩:=I.hok l _ hH;exact ⟨z,its,n,r,r.length,e⟩
theorem zNp {n:Nat} (h:n <= sizeLine):Builtin.List.listTooLong n = false:=by
 unfold Builtin.List.listTooLong;exact zUd (by omega)
end
section
variable {X:Cx}
def zLR:V -> List V -> Hp -> VK -> Prop:=fun x vs H Q=>∃ l xs y,x = .ref l /\ vs = [y] /\ H l = some (.lst xs) /\ xs.length < sizeLine /\ Q .non (upd H l (.lst (xs ++ [y])))
theorem zLt:MtM X "list.append" zLR:=by
 intro zB s σ H x vs v us Q I rx rv h;obtain ⟨l,xs,y,rfl,rfl,hH,hz,q⟩:=h;cases rx;obtain ⟨u,rfl,ru⟩:=rv.one;obtain ⟨z,its,n,r,hl,e⟩:=I.lstM hH;refine call_meets F.slot_list_append ⟨_,e,rfl⟩ F.entry_list_append (F.args_list_append_2 _ _) (PySem.list_append l its.toArray n u (by rw [zUC]; omega)) ⟨e,?_⟩;refine ⟨.non,_,I.lset (its':=its ++ [u]) hH e (by simp) (r.append (.cons ru .nil)) ?_,rfl,q⟩;rw [zUK,zXJ];omega
def zSP:R2:=fun x y H Q=>∃ l b xs zs,x = .ref l /\ y = .ref b /\ H l = some (.lst xs) /\ H b = some (.lst zs) /\ xs.length + zs.length <= sizeLine /\ ∀ p,H p = none -> Q (.ref p) (upd H p (.lst (xs ++ zs)))
theorem zR3:OpR X (binaryOp .Add) zSP:=by
 intro zB s σ H x y v u Q I rx ry h;obtain ⟨l,b,xs,zs,rfl,rfl,hH,hB,hz,q⟩:=h;cases rx;cases ry;obtain ⟨z,its,n,r,hl,e⟩:=I.lstM hH;obtain ⟨z2,its2,n2,r2,hl2,e2⟩:=I.lstM hB;refine PySem.P.add_list e e2 ?_ (by rw [zUC,zUC]; omega);have ea:its.toArray ++ its2.toArray = (its ++ its2).toArray:=by simp
 rw [ea];exact ⟨.ref _,_,I.lnew (t':=s.toks) (r.append r2) (by rw [zUK]; omega),rfl,q _ I.fresh⟩
def zSd:R2:=fun x y H Q=>∃ l k xs,x = .ref l /\ y = .int k /\ H l = some (.lst xs) /\ -(2 ^ 63) <= k /\ k < 2 ^ 63 /\ xs.length * k.toNat <= sizeLine /\
 ∀ p,H p = none -> Q (.ref p) (upd H p (.lst (List.replicate k.toNat xs).flatten))
theorem zHO {α:Type} (xs:List α) (k:Nat):(List.replicate k xs).flatten.length = k * xs.length:=by
 induction k with
 | zero=>simp
 | succ k ih=>rw [zVN,List.flatten_cons,zUK,ih,Nat.succ_mul,Nat.add_comm]
theorem zRK:OpR X (binaryOp .Mult) zSd:=by
 intro zB s σ H x y v u Q I rx ry h;obtain ⟨l,k,xs,rfl,rfl,hH,h1,h2,hz,q⟩:=h;cases rx;obtain ⟨t,rfl⟩:=ry;obtain ⟨z,its,n,r,hl,e⟩:=I.lstM hH;have hlen:its.toArray.size * k.toNat <= sizeLine:=by rw [zUC,<- hl]; exact hz
 have hcap:¬ its.toArray.size * k.toNat > (2 ^ 63 - 1) / 8:=by
  have:(sizeLine:Nat) <= (2 ^ 63 - 1) / 8:=by decide
  omega
 have hfit:¬ (!Builtin.List.listFitsIndex k) = true:=by
  rw [fitsIndex_both h1 h2];exact zUQ
 have hlong:¬ Builtin.List.listTooLong (its.toArray.size * k.toNat) = true:=by
  rw [zNp hlen];exact zUQ
 have hnew:List.foldl (fun x1 x2=>x1 ++ x2) #[] (List.replicate (if its.toArray.isEmpty = true then 0 else k.toNat) its.toArray) = (List.replicate k.toNat its).flatten.toArray:=by
  have f0:∀ m:Nat,List.foldl (fun x1 x2=>x1 ++ x2) #[] (List.replicate m its.toArray) = (List.replicate m its).flatten.toArray:=fun m=>by
   have:=zEg its m [];rw [zWM] at this;exact this
  rw [f0];cases its with
  | nil=>simp
  | cons a r'=>rw [zUM (by simp)]
 refine wpAny_binaryOp_repeat_ref (T := "list") (U := "int") (by decide) ⟨_,e,rfl⟩ (fun s'=>typeIs_int s' k t) noFill_list_mul F.fills_int_mul F.slot_int_rmul repeat_list F.slot_int_index.lookup
  (call_meets F.slot_int_rmul (typeIs_int s k t) F.entry_int_rmul (F.args_int_rmul_2 _ _) (int___rmul___int_list k t l its.toArray n)
   ⟨e,rfl,⟨_,e,rfl⟩,call_meets F.slot_list_mul ⟨_,e,rfl⟩ F.entry_list_mul (F.args_list_mul_2 _ _) (AutoListH.list___mul___list_int_3 l its.toArray n k t hfit hcap hlong) ⟨e,?_⟩⟩)
 rw [hnew];exact ⟨.ref _,_,I.lnew (t':=s.toks) (r.rep k.toNat) (by rw [zHO,Nat.mul_comm]; exact hz),rfl,q _ I.fresh⟩
end
end L2
namespace Att
open PySem PySem.W PySem.Calls PyProof.Rows
theorem zE5 {P:Params} {h:Heap}:∀ (ns:List Int) (vs:List Value),WellAll P h vs (ns.map WData.int) -> IntsAre vs ns:=by
 intro ns;induction ns with
 | nil=>
  intro vs w;rw [List.map_nil] at w;cases w;exact .nil
 | cons n ns ih=>
  intro vs w;rw [zUN] at w;cases w with
  | cons a b=>
   cases a;exact .cons _ _ (ih _ b)
theorem zMS {l:OpenLaw} {n:Nat} (hn:l.most = some n) {P:Params} {h:Heap} {args:List WData} {vals:List Value}
  (hpre:l.row.toRowW.claim.pre args = true) (hwl:WellAll P h vals args) :
  ∃ a vs ns,vals = [Value.ref a] /\ args = [WData.list (ns.map WData.int)] /\ h.get? a = some { cls:=.type "list", data:=.seq vs.toArray } /\ IntsAre vs ns /\ ns.length <= n:=by
 have hsh:WShape.hasAll [] args [.list .int] = true:=(pre_splitW hpre).1;have hc:l.pre.holds [] { args:=args } = true:=(pre_splitW hpre).2;obtain ⟨d,r,rfl,h1,h2⟩:=hasAllW_cons hsh;obtain rfl:=hasAllW_nil h2;obtain ⟨xs,rfl,h3⟩:=hasW_list h1;obtain ⟨ns,rfl⟩:=items_int h3;have hlen:ns.length <= n:=by
  unfold OpenLaw.pre at hc;have h4:(WTm.not (.lt (.lit (.int (n:Int))) (.len (.arg 0)))).holds [] { args:=[.list (ns.map .int)] } = true:=by
   have h4:=(holds_andW hc).1;rw [hn] at h4;exact h4
  have h5:=condW_of h4 (w_not (w_lt w_lit (w_len_list (w_arg rfl))));rw [zUD] at h5;refine Nat.le_of_not_lt fun q=>?_;have q':(n:Int) < ((ns.length:Nat):Int):=by omega
  first
   | (rw [zVC q'] at h5; exact absurd h5 (by decide))
   | (simp at h5; omega)
 cases hwl with
 | cons w1 w2=>
  cases w2;cases w1 with
  | list ho hall=>exact ⟨_,_,ns,rfl,rfl,ho,zE5 ns _ hall,hlen⟩
theorem zMi (l:OpenLaw) (args:List WData):l.row.toRowW.claim.post args (.bool true) args = true :=
 postW_of (r:=l.row.toRowW) (X:=(true == true))
  (show WShape.has [] (.bool true) .bool = true by first | rfl | decide | simp [WShape.has,WShape.arms,WShape.armsAll])
  (show (WTm.eq .res (.lit (.bool true))).value [] { args:=args,res:=some (.bool true),after:=args } = some (.bool (true == true)) from w_eq_bool (w_res rfl) w_lit) rfl
theorem zIJ {l:OpenLaw} {n:Nat} {q:Program} {loose:List Str} {XP:(Str -> Option Value) -> Heap -> Prop} {YP:World -> Heap -> Prop} {d:DefRec}
  (hn:l.most = some n) (hdf:d.params.defaults = [])
  (call:∀ (w:World) (s₀ s₁:Shared) (mg mb:Str -> Option Value) (fa:Addr) (o:Obj) (pm cd doc:Value) (a:Addr) (vs:List Value) (ns:List Int),
   Ground q loose [] XP w s₀ mg mb s₁.heap -> YP w s₁.heap ->
   s₁.heap.get? fa = some o -> o.data = .func (docDef d.name d.params d.body d.scope pm cd doc) -> s₁.heap.CodeRec cd d.name -> mg d.name = some (.ref fa) ->
   s₁.heap.get? a = some { cls:=.type "list", data:=.seq vs.toArray } -> IntsAre vs ns -> ns.length <= n -> s₁.gens = #[] ->
   codeAny (model l.prog w) callerA (.call (.ref fa) ⟨[.ref a],[]⟩) (fun r s'=>r = .ok (.ret (.bool true)) /\ OldK s₁.heap s'.heap /\ s'.os = s₁.os /\ AllBare s'.gens) s₁) :
  WalkO q loose XP YP l.row.toRowW d [] (fun f vs=>PySem.call f vs):=by
 intro w s₀ s₁ mg mb G Y fa o pm cd doc dV kV ho hd hcd hD hmg hg args vals as hpre hlay hrd hwl hlo;obtain rfl:dV = .none:=Dflts.none hD hdf;obtain rfl:kV = .none:=Dflts.noKw hD;obtain ⟨a,vs,ns,rfl,rfl,hobj,hints,hlen⟩:=zMS hn hpre hwl;refine enter_call (codeAny_mono (call w s₀ s₁ mg mb fa o pm cd doc a vs ns G Y ho (fd_plain hd) hcd hmg hobj hints hlen hg) fun r s' hq=>?_);obtain ⟨rfl,h2,h3,h4⟩:=hq;exact ⟨.inl ⟨.bool true,.bool true,[],rfl,fun _=>rfl,.bool true,zMi l _,fun _=>⟨List.Pairwise.nil,fun _ hm=>(nomatch hm)⟩⟩,h2,h3,h4⟩
end Att
namespace L2
open PySem PySem.Spec PyProof.Rows
theorem zGo:∀ {vs:List Value} {ns:List Int},IntsAre vs ns -> zU (ns.map V.int) vs
 | _,_,.nil=> .nil
 | _,_,.cons n t h=> .cons ⟨t,rfl⟩ (zGo h)
end L2
namespace L2
open PySem PySem.Spec PyProof.Rows
def zCX (s:Stmt):Arguments:=match s with
 | .FunctionDef _ a _ _ _ _ _ _ _ _=>a
 | _=>{ posonlyargs:=[],args:=[],vararg:=none,kwonlyargs:=[],kw_defaults:=[],kwarg:=none,defaults:=[] }
def zBS (s:Stmt):List Stmt:=match s with
 | .FunctionDef _ _ b _ _ _ _ _ _ _=>b
 | _=>[]
def zO (s:Stmt):Scope:=match s with
 | .FunctionDef _ _ _ _ _ _ sc _ _ _=>sc
 | _=>{ kind:=.function,names:=[],isGenerator:=false,isCoroutine:=false }
abbrev CX0:CXT:=fun _ _ _ _ _ _=>False
abbrev E0:XK:=fun _ _ _=>False
theorem zQJ {X:Cx}:zJd CX0 X E0:=fun _ _ _ _ _ _ _ h=>h.elim
structure Fun (K:PySem.W.Frag) (x qual:Str) (st:Stmt) (f:Addr) (fd:FuncData):Prop where
 ex:∃ (oc:Value) (od:Option Addr) (kV doc pm:Value) (an:Option Addr) (cdv ct:Value) (osl:Array (Option Value)),
  fd = PySem.W.fnOf x qual (zCX st) (zBS st) (zO st) .none kV doc pm an cdv ct /\ K.lookup f = some ⟨oc,od,.func fd,osl⟩ /\ PySem.W.codeIn K cdv qual = true
 kp:PySem.W.keepIn K (.ref f) = true
section
variable {P:Program} {w:World} {K:PySem.W.Frag} {mg:Str -> Option Value} {base:Heap}
theorem Fun.ok {x qual:Str} {st:Stmt} {f:Addr} {fd:FuncData} {N ps:List Str} {k:Nat} {sp:Sp} (F:Fun K x qual st f fd) (S:FnScope N ps (zO st)) (len:∀ vs H Q E,sp vs H Q E -> vs.length = ps.length)
  (hbody:∀ (cdv:Value) (A:Around) (outer:List Env) (s:Shared) (H:Hp) (vs:List V) (Q:VK) (E:XK),Room k (A.deeper (envOfC qual (zO st) s.heap.objs.size f cdv)) -> sp vs H Q E ->
   ∃ t,PSs (zIv CX0 P w K mg base N qual (zO st) f cdv A outer s H E).nox (zBS st) t /\ t { nx:=fun _ H'=>Q .non H',rt:=Q } (zDN N vs) H):FnOk P w K mg base CX0 (k + 1) f fd ps sp:=by
 obtain ⟨oc,od,kV,doc,pm,an,cdv,ct,osl,rfl,lk,hcd⟩:=F.ex;refine zQY lk hcd S len fun A outer s H vs Q E hr hsp=>?_;obtain ⟨t,h,q⟩:=hbody cdv A outer s H vs Q E hr hsp;exact ⟨t,h.nox,q⟩
theorem Fun.binds {x qual:Str} {st:Stmt} {f:Addr} {fd:FuncData} {ps:List Str} (F:Fun K x qual st f fd)
  (h:∀ (kV doc pm:Value) (an:Option Addr) (cdv ct:Value) (us:List Value),us.length = ps.length -> bindArgs (PySem.W.fnOf x qual (zCX st) (zBS st) (zO st) .none kV doc pm an cdv ct) ⟨us,[]⟩ = pure (ps.zip us)):zDM K fd ps []:=by
 obtain ⟨oc,od,kV,doc,pm,an,cdv,ct,osl,rfl,lk,hcd⟩:=F.ex;exact .all (h kV doc pm an cdv ct)
theorem zOd {x qual:Str} {st:Stmt} {f:Addr} {oc:Value} {od an:Option Addr} {osl:Array (Option Value)} {kV doc pm cdv ct:Value} (l:K.lookup f = some ⟨oc,od,.func (PySem.W.fnOf x qual (zCX st) (zBS st) (zO st) .none kV doc pm an cdv ct),osl⟩)
  (c:PySem.W.codeIn K cdv qual = true) (k:PySem.W.keepIn K (.ref f) = true):Fun K x qual st f (PySem.W.fnOf x qual (zCX st) (zBS st) (zO st) .none kV doc pm an cdv ct):=⟨⟨oc,od,kV,doc,pm,an,cdv,ct,osl,rfl,l,c⟩,k⟩
end
theorem zKx {A:Around} {k:Nat} (hr:Room k A):A.units + 1 < cLine:=Nat.lt_of_le_of_lt (Nat.add_le_add_left (by decide:1 <= 64) _) hr.units
section
variable {X:Cx}
theorem pv (i:Nat) {x:Str} {pos:Pos} (hN:X.N[i]? = some x:=by rfl) (hv:Vis X.env.scope x:=by first | exact Or.inl rfl | exact Or.inr (Or.inl rfl) | exact Or.inr (Or.inr rfl)) (hd:(x == ("__debug__" : Str)) = false:=by decide)
  (hcd:(x == ("__classdict__" : Str)) = false:=by decide):PE X (.Name x pos) (zRq i):=zN4 hN hv hd hcd
end
theorem zKB {A B:Prop} (h:B):if false = true then A else B:=by
 rw [zUM zUQ];exact h
theorem zKh {A B:Prop} (h:A):if true = true then A else B:=by
 rw [zUJ rfl];exact h
section
variable {κ:Type} [DecidableEq κ]
def zCl (kvs:List (κ × V)) (k:κ):Option V:=(kvs.find? fun kv=>decide (kv.1 = k)).map (·.2)
def zBh (kvs:List (κ × V)) (k:κ) (v:V):List (κ × V) :=
 if (kvs.any fun kv=>decide (kv.1 = k)) = true then kvs.map (fun kv=>if kv.1 = k then (kv.1,v) else kv) else kvs ++ [(k,v)]
theorem zDy {p:κ × V} {r:List (κ × V)} {k:κ} (e:p.1 = k):zCl (p :: r) k = some p.2:=by simp [zCl,zVq,e]
theorem zDr {p:κ × V} {r:List (κ × V)} {k:κ} (e:¬ p.1 = k):zCl (p :: r) k = zCl r k:=by simp [zCl,zVq,e]
theorem zJK (k:κ):∀ kvs:List (κ × V),(kvs.any fun kv=>decide (kv.1 = k)) = (zCl kvs k).isSome
 | []=>rfl
 | p :: r=>by
  rw [List.any_cons];by_cases e:p.1 = k
  ·simp only [zDy e,zVC e,Bool.true_or,Option.isSome_some]
  ·rw [zDr e,zUd e,Bool.false_or]; exact zJK k r
theorem zBV (kvs:List (κ × V)) (k:κ) (v:V):(zBh kvs k v).length <= kvs.length + 1:=by
 unfold zBh;split
 ·rw [zUD]; omega
 ·rw [zUK,zUb,zVY]; omega
theorem zFl.isSome_eq {o:Option V} {u:Option Value} (r:zFl o u):o.isSome = u.isSome:=by
 cases o with
 | none=>cases u with
  | none=>rfl
  | some _=>exact (show False from r).elim
 | some _=>cases u with
  | none=>exact (show False from r).elim
  | some _=>rfl
theorem KV.val {kvs:List (κ × V)} {vs:List (κ × Value)} (r:KV kvs vs) (k:κ):zFl (zCl kvs k) (valueAt vs k):=by
 unfold KV at r;induction r with
 | nil=>exact True.intro
 | @cons p q ps qs h t ih=>
  obtain ⟨h1,h2⟩:=h;by_cases e:p.1 = k
  ·have e':q.1 = k:=h1.symm.trans e;have b:valueAt (q :: qs) k = some q.2:=by simp [valueAt,zVq,e']
   rw [zDy e,b]; exact h2
  ·have e':¬ q.1 = k:=fun z=>e (h1.trans z);have b:valueAt (q :: qs) k = valueAt qs k:=by simp [valueAt,zVq,e']
   rw [zDr e,b]; exact ih
theorem KV.any {kvs:List (κ × V)} {vs:List (κ × Value)} (r:KV kvs vs) (k:κ):(kvs.any fun kv=>decide (kv.1 = k)) = vs.any fun kv=>decide (kv.1 = k):=by
 unfold KV at r;induction r with
 | nil=>rfl
 | cons h t ih=>rw [List.any_cons,List.any_cons,ih,h.1]
theorem KV.repl {kvs:List (κ × V)} {vs:List (κ × Value)} (r:KV kvs vs) (k:κ) {y:V} {u:Value} (ry:ze y u) :
  KV (kvs.map fun kv=>if kv.1 = k then (kv.1,y) else kv) (vs.map fun kv=>if kv.1 = k then (kv.1,u) else kv):=by
 unfold KV at r ⊢;induction r with
 | nil=>exact .nil
 | @cons p q ps qs h t ih=>
  rw [zUN,zUN];refine .cons ?_ ih;obtain ⟨h1,h2⟩:=h;by_cases e:p.1 = k
  ·rw [zUJ e,zUJ (h1.symm.trans e)]; exact ⟨h1,ry⟩
  ·rw [zUM e,zUM (fun z=>e (h1.trans z))]; exact ⟨h1,h2⟩
theorem KV.put {kvs:List (κ × V)} {vs:List (κ × Value)} (r:KV kvs vs) (k:κ) {y:V} {u:Value} (ry:ze y u):KV (zBh kvs k y) (stored vs k u):=by
 unfold zBh stored;rw [r.any k];by_cases e:(vs.any fun kv=>decide (kv.1 = k)) = true
 ·rw [zUJ e,zUJ e]; exact r.repl k ry
 ·rw [zUM e,zUM e]; exact Paired.snoc r ⟨rfl,ry⟩
theorem KV.length {kvs:List (κ × V)} {vs:List (κ × Value)} (r:KV kvs vs):kvs.length = vs.length:=Paired.length r
end
theorem zGm {P:Program} {w:World} {k:Key} {u:Value} (r:ze (kV k) u):(zu P w).is k u = true:=by
 cases k with
 | inl i=>obtain ⟨t,e⟩:=(show ∃ t,u = Value.int i t from r); subst e; exact zJS P w i t
 | inr x=>obtain ⟨t,e⟩:=(show ∃ t,u = Value.str x t from r); subst e; exact zI6 P w x t
theorem zGc {P:Program} {w:World}:∀ {ks:List Key} {us:List Value},zU (ks.map kV) us -> ItemsAre (zu P w) ks us
 | [],_,r=>by rw [List.map_nil] at r; cases r; exact .nil
 | k :: ks,_,r=>by
  rw [zUN] at r;cases r with
  | cons h t=>exact .cons (zGm h) (zGc t)
abbrev KT (H:Hp):List (List Key × V) -> List (List Key × Addr × Value) -> Prop:=Paired fun p q=>p.1 = q.1 /\ H q.2.1 = some (.tup (p.1.map kV)) /\ ze p.2 q.2.2
theorem KT.val {H:Hp} {kvs:List (List Key × V)} {xs:List (List Key × Addr × Value)} (r:KT H kvs xs) (k:List Key):zFl (zCl kvs k) ((atKey xs k).map (·.2)):=by
 induction r with
 | nil=>exact True.intro
 | @cons p q ps qs h t ih=>
  obtain ⟨h1,_,h2⟩:=h;by_cases e:p.1 = k
  ·have e':q.1 = k:=h1.symm.trans e;have b:atKey (q :: qs) k = some q.2:=by simp [atKey,zVq,e']
   rw [zDy e,b]; exact h2
  ·have e':¬ q.1 = k:=fun z=>e (h1.trans z);have b:atKey (q :: qs) k = atKey qs k:=by simp [atKey,zVq,e']
   rw [zDr e,b]; exact ih
theorem KT.repl {H:Hp} {kvs:List (List Key × V)} {xs:List (List Key × Addr × Value)} (r:KT H kvs xs) (k:List Key) {y:V} {u:Value} (ry:ze y u) :
  KT H (kvs.map fun kv=>if kv.1 = k then (kv.1,y) else kv) (xs.map (putAt k u)):=by
 induction r with
 | nil=>exact .nil
 | @cons p q ps qs h t ih=>
  rw [zUN,zUN];refine .cons ?_ ih;obtain ⟨h1,h2,h3⟩:=h;unfold putAt;by_cases e:p.1 = k
  ·rw [zUJ e,zUJ (h1.symm.trans e)]; exact ⟨h1,h2,ry⟩
  ·rw [zUM e,zUM (fun z=>e (h1.trans z))]; exact ⟨h1,h2,h3⟩
theorem KT.put {H:Hp} {kvs:List (List Key × V)} {xs:List (List Key × Addr × Value)} (r:KT H kvs xs) (k:List Key) {b:Addr} {y:V} {u:Value} (hb:H b = some (.tup (k.map kV))) (ry:ze y u) :
  KT H (zBh kvs k y) (storedH xs k b u):=by
 have e:(kvs.any fun kv=>decide (kv.1 = k)) = (atKey xs k).isSome:=by
  rw [zJK,(r.val k).isSome_eq,Option.isSome_map]
 unfold zBh storedH;rw [e];by_cases q:(atKey xs k).isSome = true
 ·rw [zUJ q,zUJ q]; exact r.repl k ry
 ·rw [zUM q,zUM q]; exact Paired.snoc r ⟨rfl,hb,ry⟩
theorem KT.keeps {H H':Hp} {kvs:List (List Key × V)} {xs:List (List Key × Addr × Value)} (r:KT H kvs xs) (ht:∀ b ys,H b = some (.tup ys) -> H' b = some (.tup ys)):KT H' kvs xs :=
 Paired.mapP r fun _ _ z=>⟨z.1,ht _ _ z.2.1,z.2.2⟩
section
variable {P:Program} {w:World} {H:Hp} {h:Heap} {a:Addr}
theorem zQL {u:HO} (ok:HOk P w H h) (e:Rd H a u):zn P w H h a u:=e.ok ok
theorem zIs {kvs:List (Key × V)} (ok:HOk P w H h) (e:Rd H a (.dK kvs)):kvs.length <= sizeLine /\ (a == sysModules) = false /\ ∃ vs,KV kvs vs /\ h.DictOf (zu P w) a vs :=
 show zn P w H h a (.dK kvs) from zQL ok e
theorem zNG {kvs:List (Key × V)} (ok:HOk P w H h) (e:H a = some (.dK kvs)):kvs.length <= sizeLine /\ (a == sysModules) = false /\ ∃ vs,KV kvs vs /\ h.DictOf (zu P w) a vs:=zIs ok (.inl e)
theorem zFV {ks:List Key} (ok:HOk P w H h) (e:H a = some (.tup (ks.map kV))):(tupleKind (zu P w)).is h ks a:=by
 obtain ⟨_,its,r,o,h1,h2,⟨n,h3⟩,_⟩:=(show zn P w H h a (.tup (ks.map kV)) from ok a _ e);exact ⟨o,its.toArray,n,h1,h2,h3,by simpa using zGc r⟩
theorem zI0 {kvs:List (List Key × V)} (ok:HOk P w H h) (e:Rd H a (.dT kvs)):kvs.length <= sizeLine /\ (a == sysModules) = false /\
  ∃ xs,KT H kvs xs /\ h.DictOfH (tupleKind (zu P w)) a xs:=by
 obtain ⟨z,y,xs,r,o,es,ep,h1,h2,h3,h4,h5⟩:=(show zn P w H h a (.dT kvs) from zQL ok e);refine ⟨z,y,xs,r,o,es,ep,h1,h2,h3,h4,fun x hx=>?_,h5⟩;have all:∀ {l:List (List Key × V)} {m:List (List Key × Addr × Value)},KT H l m -> ∀ x ∈ m,(tupleKind (zu P w)).is h x.1 x.2.1:=by
  intro l m q;induction q with
  | nil=>intro x hx; exact nomatch hx
  | @cons p q ps qs hq t ih=>
   intro x hx;rcases zUG.mp hx with e | hx
   ·subst e;exact zFV ok (by rw [<- hq.1]; exact hq.2.1)
   ·exact ih x hx
 exact all r x hx
theorem zQX {kvs:List (List Key × V)} (ok:HOk P w H h) (e:H a = some (.dT kvs)):kvs.length <= sizeLine /\ (a == sysModules) = false /\
  ∃ xs,KT H kvs xs /\ h.DictOfH (tupleKind (zu P w)) a xs:=zI0 ok (.inl e)
end
def zD0 (H:Hp) (a:Addr) (y:V) (r:Option V):Prop :=
 (∃ kvs k,Rd H a (.dK kvs) /\ y = kV k /\ r = zCl kvs k) \/ ∃ kvs k b,Rd H a (.dT kvs) /\ y = .ref b /\ H b = some (.tup (k.map kV)) /\ r = zCl kvs k
def zE6 (H:Hp) (a:Addr) (y v:V) (H':Hp):Prop :=
 (∃ kvs k,H a = some (.dK kvs) /\ y = kV k /\ kvs.length < sizeLine /\ H' = upd H a (.dK (zBh kvs k v))) \/
 ∃ kvs k b,H a = some (.dT kvs) /\ y = .ref b /\ H b = some (.tup (k.map kV)) /\ kvs.length < sizeLine /\ H' = upd H a (.dT (zBh kvs k v))
theorem zD0.k {H:Hp} {a:Addr} {kvs:List (Key × V)} {k:Key} (e:H a = some (.dK kvs)):zD0 H a (kV k) (zCl kvs k):=.inl ⟨kvs,k,.inl e,rfl,rfl⟩
theorem zD0.t {H:Hp} {a b:Addr} {kvs:List (List Key × V)} {k:List Key} (e:H a = some (.dT kvs)) (eb:H b = some (.tup (k.map kV))):zD0 H a (.ref b) (zCl kvs k):=.inr ⟨kvs,k,b,.inl e,rfl,eb,rfl⟩
theorem zE6.k {H:Hp} {a:Addr} {kvs:List (Key × V)} {k:Key} {v:V} (e:H a = some (.dK kvs)) (hl:kvs.length < sizeLine):zE6 H a (kV k) v (upd H a (.dK (zBh kvs k v))):=.inl ⟨kvs,k,e,rfl,hl,rfl⟩
theorem zE6.t {H:Hp} {a b:Addr} {kvs:List (List Key × V)} {k:List Key} {v:V} (e:H a = some (.dT kvs)) (eb:H b = some (.tup (k.map kV))) (hl:kvs.length < sizeLine) :
  zE6 H a (.ref b) v (upd H a (.dT (zBh kvs k v))):=.inr ⟨kvs,k,b,e,rfl,eb,hl,rfl⟩
section
variable {X:Cx} {zB:List (Addr × Obj)} {σ:St} {H:Hp} {s:Shared} {a:Addr} {y v:V} {u r:Value} {o:Option V} {A:Around} {E:Value -> Shared -> Prop}
theorem Inv.big (I:Inv X zB σ H s):sysModules < s.heap.objs.size:=by
 have h:mainGlobals < s.heap.objs.size:=(I.mod.glob.keeps I.bk).lt;exact Nat.lt_trans (by decide) h
theorem zMc {Q:Value -> Shared -> Prop} (hu:A.units + 1 < cLine) (I:Inv X zB σ H s) (g:zD0 H a y (some v)) (ry:ze y u) (h:∀ w' s',Inv X zB σ H s' -> ze v w' -> Q w' s') :
  wpAny (model X.prog X.w) A (getItem (.ref a) u) Q E s:=by
 rcases g with ⟨kvs,k,e,ey,l⟩ | ⟨kvs,k,b,e,ey,eb,l⟩
 ·subst ey;obtain ⟨z,hd,vs,rel,dd⟩:=zIs I.hok e;obtain ⟨w',hw,rw'⟩:=zFl.some_of (v:=v) (o:=valueAt vs k) (by rw [l]; exact rel.val k);exact wpAny_getItem_of (zGm ry) dd.mapOf hw (h w' _ (I.tok _) rw')
 ·subst ey;cases (show u = Value.ref b from ry);obtain ⟨z,hd,xs,rel,dd⟩:=zI0 I.hok e;obtain ⟨w',hw,rw'⟩:=zFl.some_of (v:=v) (o:=(atKey xs k).map (·.2)) (by rw [l]; exact rel.val k);obtain ⟨p,hp,hp2⟩:=Option.map_eq_some_iff.mp hw;refine wpAny_getItem_heap (tupleKind_room_in1 hu) (zFV I.hok eb) dd hp ?_;rw [hp2];exact h w' _ (I.tok _) rw'
theorem zPv {Q:Value -> Shared -> Prop} (hu:A.units + 1 < cLine) (I:Inv X zB σ H s) (g:zD0 H a y o) (ry:ze y u) (h:∀ s',Inv X zB σ H s' -> Q (.bool (!o.isSome)) s') :
  wpAny (model X.prog X.w) A (compareOp .NotIn u (.ref a)) Q E s:=by
 rcases g with ⟨kvs,k,e,ey,l⟩ | ⟨kvs,k,b,e,ey,eb,l⟩
 ·subst ey;obtain ⟨z,hd,vs,rel,dd⟩:=zIs I.hok e;refine wpAny_notIn_of (zGm ry) hd dd.mapOf ?_;rw [<- (rel.val k).isSome_eq,<- l];exact h _ (I.tok _)
 ·subst ey;cases (show u = Value.ref b from ry);obtain ⟨z,hd,xs,rel,dd⟩:=zI0 I.hok e;refine wpAny_notIn_heap (tupleKind_room_in1 hu) (zFV I.hok eb) hd dd ?_;have q:=(rel.val k).isSome_eq;rw [Option.isSome_map] at q;rw [<- q,<- l];exact h _ (I.tok _)
theorem zDB {h':Heap} {t':Nat} {ob:HO} (I:Inv X zB σ H s) (mu:Mut (H a)) (hs:Heap.SameBut a s.heap h') (he:∃ q,h'.get? a = some q) (new:zn X.prog X.w (upd H a ob) h' a ob) :
  Inv X zB σ (upd H a ob) { s with heap:=h',toks:=t' } :=
 I.write (x:=a) (e:=a) mu (.inl rfl) (fun b q hb z=>(hs.2 b hb).trans z) he new
theorem zJT {P:Program} {w:World} {H':Hp} {h':Heap} {kvs:List (Key × V)} {vs:List (Key × Value)} (z:kvs.length <= sizeLine) (hd:(a == sysModules) = false) (rel:KV kvs vs) (dd:h'.DictOf (zu P w) a vs) :
  zn P w H' h' a (.dK kvs):=⟨z,hd,vs,rel,dd⟩
theorem zLw {H':Hp} {Q:Unit -> Shared -> Prop} (hu:A.units + 1 < cLine) (I:Inv X zB σ H s) (g:zE6 H a y v H') (ry:ze y u) (rv:ze v r) (h:∀ s',Inv X zB σ H' s' -> Q () s') :
  wpAny (model X.prog X.w) A (setItem (.ref a) u r) Q E s:=by
 rcases g with ⟨kvs,k,e,ey,l,eH⟩ | ⟨kvs,k,b,e,ey,eb,l,eH⟩
 ·subst ey eH;obtain ⟨z,hd,vs,rel,dd⟩:=zNG I.hok e;have hz:vs.length <= sizeLine:=by rw [<- rel.length]; exact z
  have hl:(zBh kvs k v).length <= sizeLine:=by have:=zBV kvs k v; omega
  refine wpAny_setItem_pairs (hsz:=hz) (zGm ry) dd fun h' dd' hs=>h _ ?_;have he:∃ q,h'.get? a = some q:=let ⟨q,_,_,hq,_⟩:=dd'; ⟨q,hq⟩;exact zDB I (by rw [e]; exact True.intro) hs he (zJT hl hd (rel.put k rv) dd')
 ·subst ey eH;cases (show u = Value.ref b from ry);obtain ⟨z,hd,xs,rel,dd⟩:=zQX I.hok e;have hz:xs.length <= sizeLine:=by rw [<- Paired.length rel]; exact z
  have hl:(zBh kvs k v).length <= sizeLine:=by have:=zBV kvs k v; omega
  refine wpAny_setItem_heap (hsz:=hz) (tupleKind_room_in1 hu) (zFV I.hok eb) dd fun h' dd' hs=>h _ ?_;obtain ⟨q,es,ep,hq,h2,h3,h4,_,h5⟩:=dd';refine zDB I (by rw [e]; exact True.intro) hs ⟨q,hq⟩ ⟨hl,hd,_,(rel.put k eb rv).keeps fun c ys ec=>?_,q,es,ep,hq,h2,h3,h4,h5⟩;rw [zP (zCj ec e (fun z=>nomatch z))];exact ec
end
def zRx (i:Expr):Prop:=∀ ov iv,subscripted i false ov iv = operate [ov,iv] (getItem ov iv)
theorem zPU {prog:Program} {w:World} {A:Around} {E:Value -> Shared -> Prop} {s:Shared} {env:Env} {value slice:Expr} {pos:Pos} {T id:String} {Q:Value -> Shared -> Prop}
  (hl:typeLookup (.type T) "__getitem__" = pure (some (.builtin id))) (hs:zRx slice)
  (h:wpAny (model prog w) A (eval value env) (fun o s₁=>wpAny (model prog w) A (eval slice env) (fun i s₂=>s₂.TypeIs o T /\ wpAny (model prog w) A (getItem o i) Q E s₂) E s₁) E s) :
  wpAny (model prog w) A (eval (.Subscript value slice pos) env) Q E s:=by
 refine Subscript_ (zUa h (fun o s₁ h₁=>zUa h₁ (fun i s₂ h₂=>?_) fun _ _ x=>x) fun _ _ x=>x);obtain ⟨hT,h₂⟩:=h₂;unfold subscriptTail;refine zTz ?_;rw [getitemInPython_of_ne hT.not_modules];refine zTz (wpAny_specialOf hT hl ?_);have fin:wpAny (model prog w) A (subscripted slice false o i) (fun r s₃=>wpAny (model prog w) A (letTemporaryGo value o r >>= fun _=>pure r) Q E s₃) E s₂:=by
  rw [hs o i];exact wpAny_operating (zUa h₂ (fun r s₃ h₃=>zTz (wpAny_letTemporaryGo (zT6 h₃))) fun _ _ x=>x)
 first
  | exact zT6 (zTz fin)
  | exact zTz (zT6 (zTz fin))
  | exact zTz fin
theorem zIO {X:Cx} {zB:List (Addr × Obj)} {σ:St} {H:Hp} {s:Shared} {a:Addr} {y:V} {o:Option V} (I:Inv X zB σ H s) (g:zD0 H a y o):s.TypeIs (.ref a) "dict" := by
 rcases g with ⟨kvs,k,e,_,_⟩ | ⟨kvs,k,b,e,_,_,_⟩
 ·obtain ⟨_,_,vs,_,dd⟩:=zIs I.hok e;exact dd.typeIs
 ·obtain ⟨_,_,xs,_,dd⟩:=zI0 I.hok e;exact dd.typeIs
def zSY (td ty:TE):TE:=fun σ H Q=>td σ H fun x H1=>ty σ H1 fun y H2=>∃ a v,x = .ref a /\ zD0 H2 a y (some v) /\ Q v H2
def zPf (ty td:TE):TE:=fun σ H Q=>ty σ H fun y H1=>td σ H1 fun x H2=>∃ a o,x = .ref a /\ zD0 H2 a y o /\ Q (.bl (!o.isSome)) H2
def zSz (td ty tv:TE):TS:=fun D σ H=>tv σ H fun v H1=>td σ H1 fun x H2=>ty σ H2 fun y H3=>∃ a H4,x = .ref a /\ zE6 H3 a y v H4 /\ D.nx σ H4
section
variable {X:Cx} {o i e value:Expr} {pos pos' tpos:Pos} {td ty tv:TE}
theorem zPW (hu:X.A.units + 1 < cLine) (ho:PE X o td) (hi:PE X i ty) (hs:zRx i):PE X (.Subscript o i pos) (zSY td ty):=by
 intro zB s σ H Q I h;refine zPU PySem.F.slot_dict_getitem.lookup hs (thn (ho zB s σ H _ I h) fun u s1 ⟨x,H1,I1,rx,q1⟩=>thn (hi zB s1 σ H1 _ I1 q1) fun iv s2 ⟨y,H2,I2,ry,a,v,ex,g,q2⟩=>?_);subst ex;obtain rfl:u = Value.ref a:=rx;exact ⟨zIO I2 g,zMc hu I2 g ry fun w' s3 I3 rw'=>⟨v,H2,I3,rw',q2⟩⟩
theorem zL8 (hu:X.A.units + 1 < cLine) (hi:PE X i ty) (ho:PE X o td):PC X .NotIn i o (zPf ty td):=by
 intro zB s σ H Q I h;refine thn (hi zB s σ H _ I h) fun iv s1 ⟨y,H1,I1,ry,q1⟩=>thn (ho zB s1 σ H1 _ I1 q1) fun u s2 ⟨x,H2,I2,rx,a,ov,ex,g,q2⟩=>?_;subst ex;obtain rfl:u = Value.ref a:=rx;exact zPv hu I2 g ry fun s3 I3=>⟨.bl (!ov.isSome),H2,I3,rfl,q2⟩
theorem zPT (hu:X.A.units + 1 < cLine) (ho:PE X o td) (hi:PE X i ty) (hv:PE X value tv) (hs:swapsWith value (some (.Subscript o i pos')) pos.line X.env = pure false) :
  PS X (.Assign [.Subscript o i pos'] value pos) (zSz td ty tv):=by
 intro zB s σ H D I h;refine wpAny_Assign_Subscript (thn (hv zB s σ H _ I h) fun r s1 ⟨v,H1,I1,rv,q1⟩=>thn (ho zB s1 σ H1 _ I1 q1) fun u s2 ⟨x,H2,I2,rx,q2⟩=>thn (hi zB s2 σ H2 _ I2 q2) fun iv s3 ⟨y,H3,I3,ry,a,H4,ex,g,q3⟩=>?_) hs;subst ex;obtain rfl:u = Value.ref a:=rx;exact zLw hu I3 g ry rv fun s4 I4=>⟨σ,H4,I4,q3⟩
end
theorem zOW {P:Program} {w:World} {H:Hp} (h:Heap) (hb:sysModules < h.objs.size):zn P w H (h.push { cls:=.type "dict", data:=.dict #[] }) h.objs.size (.dK []) :=
 ⟨zUq _,beq_eq_false_iff_ne.mpr (Ne.symm (zUP hb)),[],.nil,Heap.DictOf.new h⟩
theorem zJI {P:Program} {w:World} {H:Hp} (h:Heap) (hb:sysModules < h.objs.size):zn P w H (h.push { cls:=.type "dict", data:=.dict #[] }) h.objs.size (.dT []) :=
 ⟨zUq _,beq_eq_false_iff_ne.mpr (Ne.symm (zUP hb)),[],.nil,_,#[],0,zUE _ rfl,⟨rfl,rfl,rfl⟩,rfl,rfl,List.nodup_nil⟩
def zQ9:TE:=fun _ H Q=>∀ p,H p = none -> Q (.ref p) (upd H p (.dT []))
section
variable {X:Cx} {pos:Pos}
theorem zOK:PE X (.Dict [] [] pos) zQ9:=fun zB s σ H Q I h=>
 wpAny_Dict_empty ⟨.ref s.heap.objs.size,_,I.laid (a:=s.heap.objs.size) (o:=.dT []) (t':=s.toks) (fun _ _ q=>zT0 _ q) (zUA _) (zJI s.heap I.big),rfl,h _ (I.hok.fresh (zUA _))⟩
end
def zKN:List (TE × TE) -> St -> Hp -> (List (V × V) -> Hp -> Prop) -> Prop
 | [],_,H,Q=>Q [] H
 | (tk,tv) :: r,σ,H,Q=>tk σ H fun x H1=>tv σ H1 fun y H2=>zKN r σ H2 fun ps H3=>Q ((x,y) :: ps) H3
abbrev VV:List (V × V) -> List (Value × Value) -> Prop:=Paired fun p q=>ze p.1 q.1 /\ ze p.2 q.2
def PPs (X:Cx) (pos:Pos) (keys:List (Option Expr)) (values:List Expr) (trs:List (TE × TE)):Prop :=
 ∀ (zB:List (Addr × Obj)) (s:Shared) (σ:St) (H:Hp) (Q:List (V × V) -> Hp -> Prop),Inv X zB σ H s -> zKN trs σ H Q ->
  wpAny (model X.prog X.w) X.A (evalPairs (pairTrees keys values X.env pos)) (fun vs s'=>∃ ps H',Inv X zB σ H' s' /\ VV ps vs /\ Q ps H') X.xe s
theorem zLT {X:Cx} {pos:Pos}:PPs X pos [] [] []:=fun zB s σ H Q I h=>pairTrees_nil_walk ⟨[],H,I,.nil,h⟩
theorem zDz {X:Cx} {pos:Pos} {k v:Expr} {ks:List (Option Expr)} {vs:List Expr} {tk tv:TE} {trs:List (TE × TE)} (hk:PE X k tk) (hv:PE X v tv) (hr:PPs X pos ks vs trs) :
  PPs X pos (some k :: ks) (v :: vs) ((tk,tv) :: trs):=fun zB s σ H Q I h=>
 pairTrees_cons_walk (thn (hk zB s σ H _ I h) fun u s1 ⟨x,H1,I1,rx,q1⟩=>thn (hv zB s1 σ H1 _ I1 q1) fun w2 s2 ⟨y,H2,I2,ry,q2⟩=>
  thn (hr zB s2 σ H2 _ I2 q2) fun ws s3 ⟨ps,H3,I3,rel,q3⟩=>⟨(x,y) :: ps,H3,I3,.cons ⟨rx,ry⟩ rel,q3⟩)
def zDl (kvs more:List (Key × V)):List (Key × V):=more.foldl (fun acc kv=>zBh acc kv.1 kv.2) kvs
theorem KV.merge:∀ {more:List (Key × V)} {rs:List (Key × Value)} {kvs:List (Key × V)} {vs:List (Key × Value)},KV more rs -> KV kvs vs -> KV (zDl kvs more) (merged vs rs):=by
 intro more rs kvs vs r;unfold KV at r;induction r generalizing kvs vs with
 | nil=>intro q; exact q
 | @cons p q ps qs h t ih=>
  intro r0;have e:KV (zBh kvs p.1 p.2) (stored vs q.1 q.2):=by
   have:=r0.put p.1 h.2;rw [<- h.1]; exact this
  exact ih e
theorem zDK:∀ (more kvs:List (Key × V)),(zDl kvs more).length <= kvs.length + more.length
 | [],kvs=>by show kvs.length <= kvs.length + 0; omega
 | p :: r,kvs=>by
  have h1:=zDK r (zBh kvs p.1 p.2);have h2:=zBV kvs p.1 p.2;show (zDl (zBh kvs p.1 p.2) r).length <= _;rw [zUb]; omega
theorem zFg {P:Program} {w:World}:∀ {kvs:List (Key × V)} {ws:List (Value × Value)},VV (kvs.map fun kv=>(kV kv.1,kv.2)) ws -> ∃ rs,Carries (zu P w) ws rs /\ KV kvs rs
 | [],_,r=>by rw [List.map_nil] at r; cases r; exact ⟨[],True.intro,.nil⟩
 | p :: kvs,_,r=>by
  rw [zUN] at r;cases r with
  | @cons a b as bs h t=>
   obtain ⟨rs,c,q⟩:=zFg (P:=P) (w:=w) t;obtain ⟨b1,b2⟩:=b;exact ⟨(p.1,b2) :: rs,⟨zGm h.1,rfl,c⟩,.cons ⟨rfl,h.2⟩ q⟩
def zSV (trs:List (TE × TE)):TE:=fun σ H Q=>∀ p,H p = none -> zKN trs σ (upd H p (.dK [])) fun ps H2=>H2 p = some (.dK []) /\ ∃ kvs:List (Key × V),ps = kvs.map (fun kv=>(kV kv.1,kv.2)) /\ kvs.length <= 15 /\ Q (.ref p) (upd H2 p (.dK (zDl [] kvs)))
theorem zPl {X:Cx} {pos:Pos} {keys:List (Option Expr)} {values:List Expr} {trs:List (TE × TE)} (h:PPs X pos keys values trs) (hall:keys.all (·.isSome) = true) (hl:keys.length = values.length) (h0:keys ≠ [])
  (h15:keys.length <= 15):PE X (.Dict keys values pos) (zSV trs):=by
 intro zB s σ H Q I q;have hn:=I.hok.fresh (zUA s.heap.objs.size);have I1:=I.laid (a:=s.heap.objs.size) (o:=.dK []) (h':=s.heap.push { cls:=.type "dict", data:=.dict #[] }) (t':=s.toks) (fun _ _ q=>zT0 _ q) (zUA _) (zOW s.heap I.big);refine wpAny_Dict_walk (knd:=zu X.prog X.w) hall hl h0 h15 (thn (h zB _ σ _ _ I1 (q _ hn)) fun ws s2 ⟨ps,H2,I2,rel,e,kvs,ep,lk,q2⟩=>?_);subst ep;obtain ⟨rs,c,rk⟩:=zFg (P:=X.prog) (w:=X.w) rel;obtain ⟨z,hd,vs0,r0,dd⟩:=zNG I2.hok e;cases r0;refine ⟨rs,c,dd,fun h' dd' hs=>⟨.ref s.heap.objs.size,_,?_,rfl,q2⟩⟩;have hz:(zDl [] kvs).length <= sizeLine:=by
  have h1:=zDK kvs [];rw [zVY] at h1;rw [sizeLine_eq]; omega
 have he:∃ q,h'.get? s.heap.objs.size = some q:=let ⟨q,_,_,hq,_⟩:=dd'; ⟨q,hq⟩;exact zDB I2 (by rw [e]; exact True.intro) hs he (zJT hz hd (rk.merge .nil) dd')
def IsD (H:Hp) (a:Addr):Prop:=(∃ kvs,Rd H a (.dK kvs)) \/ ∃ kvs,Rd H a (.dT kvs)
theorem zOF {X:Cx} {zB:List (Addr × Obj)} {σ:St} {H:Hp} {s:Shared} {a:Addr} (I:Inv X zB σ H s) (d:IsD H a) :
  s.TypeIs (.ref a) "dict" /\ (∀ b,Value.ref a = .ref b -> ∃ ob,s.heap.get? b = some ob /\ ob.dict = none) /\ (a == sysModules) = false:=by
 rcases d with ⟨kvs,e⟩ | ⟨kvs,e⟩
 ·obtain ⟨_,hd,vs,_,dd⟩:=zIs I.hok e;refine ⟨dd.typeIs,fun b q=>?_,hd⟩;cases q;obtain ⟨ob,_,_,h1,h2,_⟩:=dd;exact ⟨ob,h1,h2.2.1⟩
 ·obtain ⟨_,hd,xs,_,dd⟩:=zI0 I.hok e;refine ⟨dd.typeIs,fun b q=>?_,hd⟩;cases q;obtain ⟨ob,_,_,h1,h2,_⟩:=dd;exact ⟨ob,h1,h2.2.1⟩
theorem zAN:∀ (names:List (Str × NameKind)) (n:Nat) (acc:List (Str × Addr)),cellsFrom n names acc = cellsFrom n names [] ++ acc
 | [],_,_=>rfl
 | (name,kind) :: r,n,acc=>by
  unfold cellsFrom;split
  ·rw [zAN r (n + 1) ((name,n) :: acc),zAN r (n + 1) [(name,n)],zVA];rfl
  ·exact zAN r n acc
theorem zBm {α:Type} (x:Str):∀ (l r:List (Str × α)),(l ++ r).lookup x = (match l.lookup x with | some c=>some c | none=>r.lookup x)
 | [],r=>rfl
 | (k,v) :: l,r=>by
  rw [List.cons_append,zV9,zV9];cases hb:x == k with
  | true=>rfl
  | false=>exact zBm x l r
theorem zDZ {env:Env}:∀ (names:List (Str × NameKind)) (acc:List (Str × Addr)),
  (∀ y ∈ names,y.2 = .free -> ∃ c,env.cells.lookup y.1 = some c) ->
  (∀ x c,acc.lookup x = some c -> env.cells.lookup x = some c) ->
  ∃ cl:List (Str × Addr),(forIn names acc (fun (p:Str × NameKind) (cs:List (Str × Addr))=>(do
    if p.2 == .free then
     let a <- cellOf env p.1;pure (ForInStep.yield ((p.1,a) :: cs))
    else pure (ForInStep.yield cs):Sem (ForInStep (List (Str × Addr)))))) = pure cl /\
   (∀ x c,cl.lookup x = some c -> env.cells.lookup x = some c) /\
   (∀ x,(acc.lookup x).isSome = true -> (cl.lookup x).isSome = true) /\ ∀ y ∈ names,y.2 = .free -> (cl.lookup y.1).isSome = true
 | [],acc,_,ha=>⟨acc,by rw [List.forIn_nil],ha,fun _ h=>h,fun _ h=>nomatch h⟩
 | (n,k) :: r,acc,hf,ha=>by
  rw [List.forIn_cons];by_cases hk:k = .free
  ·subst hk;obtain ⟨c,hc⟩:=hf (n,.free) zUI rfl;have hco:cellOf env n = pure c:=by unfold cellOf; rw [hc]
   obtain ⟨cl,e,h1,h2,h3⟩:=zDZ r ((n,c) :: acc) (fun y hy=>hf y (zUH _ hy)) (fun x d hx=>by
    rw [zV9] at hx;cases hb:x == n with
    | true=>rw [hb] at hx; cases hx; rw [beq_iff_eq.mp hb]; exact hc
    | false=>rw [hb] at hx; exact ha x d hx)
   refine ⟨cl,?_,h1,fun x hx=>h2 x ?_,fun y hy hk=>?_⟩
   ·rw [<- e];simp only [beq_self_eq_true,if_true,hco];rfl
   ·rw [zV9];cases hb:x == n with
    | true=>rfl
    | false=>exact hx
   ·rcases zUG.mp hy with z | z
    ·subst z;exact h2 n (by rw [zV9]; simp)
    ·exact h3 y z hk
  ·obtain ⟨cl,e,h1,h2,h3⟩:=zDZ r acc (fun y hy=>hf y (zUH _ hy)) ha;refine ⟨cl,?_,h1,h2,fun y hy hk'=>?_⟩
   ·rw [<- e];have:(k == NameKind.free) = false:=by simpa using hk
    simp only [this,zU5,if_false];rfl
   ·rcases zUG.mp hy with z | z
    ·subst z; exact absurd hk' hk
    ·exact h3 y z hk'
theorem zDP {env:Env} {scope:Scope} (hf:∀ y ∈ scope.names,y.2 = .free -> ∃ c,env.cells.lookup y.1 = some c) :
  ∃ cl,closureFor scope env = pure cl /\ (∀ x c,cl.lookup x = some c -> env.cells.lookup x = some c) /\ ∀ y ∈ scope.names,y.2 = .free -> (cl.lookup y.1).isSome = true:=by
 obtain ⟨cl,e,h1,_,h3⟩:=zDZ (env:=env) scope.names [] hf (fun x c h=>nomatch h);refine ⟨cl,?_,h1,h3⟩;unfold closureFor;rw [show (pure cl:Sem _) = pure cl >>= pure from rfl,<- e]
theorem zEr {M:Model} {A:Around} {E:Value -> Shared -> Prop} {s:Shared} {scope:Scope} {globals:Addr} {cl:List (Str × Addr)} {qual:Str} {env:Env} {Q:Env -> Shared -> Prop}
  (hQ:Q (newEnv scope s.heap.objs.size globals (cellsFrom (s.heap.objs.size + 1) scope.names cl) qual none .none (some env) builtinsNs)
   { s with heap:=pushCells (s.heap.push { cls:=.type "dict", data:=.dict #[] }) scope.names }) :
  wpAny M A (newFunctionEnv scope globals cl [] qual none .none (some env)) Q E s:=by
 simp only [newFunctionEnv,Option.isSome_some,if_true];refine zTz (wpAny_alloc ?_);refine zTz (wpAny_layCells _ (fun name kind cells=>by cases hkc:kind == NameKind.cell <;> simp [hkc]) _ _ _ _ ?_);rw [show ({ s with heap:=s.heap.push { cls:=.type "dict", data:=.dict #[] } }:Shared).heap.objs.size = s.heap.objs.size + 1 from zUk ..];exact zTz (zT6 (zT6 hQ))
def zd (X:Cx) (zB:List (Addr × Obj)) (scope:Scope) (cl:List (Str × Addr)) (s:Shared) (H:Hp) (fp:List Addr):Cx where
 prog:=X.prog
 w:=X.w
 K:=X.K
 mg:=X.mg
 base:=X.base
 A:=X.A
 N:=X.N
 s₀:=s
 H₀:=H
 env:={ scope:=relabel scope X.env,locals:=s.heap.objs.size + 1,globals:=X.env.globals,cells:=cellsFrom (s.heap.objs.size + 1 + 1) scope.names cl,qual:=X.env.qual,func:=none,code:=X.env.code,frame:=X.env.frame,builtins:=X.env.builtins }
 outer:=X.stack
 stack:=X.stack
 ex:=fp
 fn:=fun x=>decide (scope.names.lookup x = some .cell)
 calm:=X.calm
 pn:=X.pn ++ zB
 xe:=fun _ _=>False
theorem zAj {scope:Scope} {env:Env} (x:Str):∀ {names:List (Str × NameKind)} {k:NameKind},
  (names.map fun (n,k)=>if (k == NameKind.free && env.scope.kind == .function && env.kindOf n == some .cell) then (n,NameKind.cell) else (n,k)).lookup x = some k ->
  names.lookup x = some k \/ (names.lookup x = some .free /\ k = .cell)
 | [],_,h=>by simp at h
 | (n,k') :: r,k,h=>by
  rw [zUN] at h;by_cases hc:(k' == NameKind.free && env.scope.kind == .function && env.kindOf n == some .cell) = true
  ·simp only [hc,if_true] at h;rw [zV9] at h ⊢;cases hb:x == n with
   | true=>
    rw [hb] at h;simp only [zUe,beq_iff_eq] at hc;exact .inr ⟨by rw [hc.1.1],(zU4 h).symm⟩
   | false=>rw [hb] at h; exact zAj (scope:=scope) x h
  ·simp only [hc,zU5,if_false] at h;rw [zV9] at h ⊢;cases hb:x == n with
   | true=>rw [hb] at h; exact .inl h
   | false=>rw [hb] at h; exact zAj (scope:=scope) x h
theorem zF2:∀ (names:List (Str × NameKind)) (n:Nat) (acc:List (Str × Addr)) (x:Str) (c:Addr),(x,c) ∈ cellsFrom n names acc -> (x,c) ∉ acc -> (x,NameKind.cell) ∈ names
 | [],_,_,_,_,h,h'=>absurd h h'
 | (name,kind) :: r,n,acc,x,c,h,h'=>by
  unfold cellsFrom at h;split at h
  ·rename_i hk;by_cases e:(x,c) = (name,n)
   ·cases e;rw [beq_iff_eq] at hk;subst hk;exact zUI
   ·exact zUH _ (zF2 r _ _ x c h fun z=>(zUG.mp z).elim e h')
  ·exact zUH _ (zF2 r _ _ x c h h')
structure CompScope (X:Cx) (scope:Scope):Prop where
 kind:scope.kind = .function
 names:∀ y ∈ scope.names,y.2 = .local -> scope.names.lookup y.1 = some .local
 cells:∀ y ∈ scope.names,y.2 = .cell -> scope.names.lookup y.1 = some .cell
 free:∀ y ∈ scope.names,y.2 = .free -> X.env.kindOf y.1 = some .cell \/ X.env.kindOf y.1 = some .free
section
variable {X:Cx} {zB:List (Addr × Obj)} {σ σc:St} {H:Hp} {s s4:Shared} {scope:Scope} {cl:List (Str × Addr)} {fp:List Addr}
theorem zIb (S:CompScope X scope) (I:Inv X zB σ H s) (hf:∀ b ∈ fp,zCq X zB H b) (ho:∀ b:Nat,b ∈ fp -> b < s.heap.objs.size)
  (c1:∀ x c,cl.lookup x = some c -> X.env.cells.lookup x = some c) (c2:∀ y ∈ scope.names,y.2 = .free -> (cl.lookup y.1).isSome = true)
  (hl:σc.length = σ.length) (hσ:∀ (i:Nat) x v,X.N[i]? = some x -> σc[i]? = some (some v) -> (relabel scope X.env).names.lookup x ≠ none -> scope.names.lookup x = some .free /\ σ[i]? = some (some v))
  (lo:Obj) (hlo:∀ v,lo.data ≠ .cell v) (hfr:lo.isFreed = false)
  (h4:s4 = { s with heap:=pushCells ((s.heap.push lo).push { cls:=.type "dict", data:=.dict #[] }) scope.names }) :
  Inv (zd X zB scope cl s H fp) [(s.heap.objs.size,lo)] σc H s4:=by
 subst h4;have sz1:(s.heap.push lo).objs.size = s.heap.objs.size + 1:=zUk ..;have sz2:((s.heap.push lo).push { cls:=.type "dict", data:=.dict #[] }).objs.size = s.heap.objs.size + 1 + 1:=by rw [zUk,sz1]
 have hk:∀ b o,s.heap.get? b = some o -> (pushCells ((s.heap.push lo).push { cls:=.type "dict", data:=.dict #[] }) scope.names).get? b = some o:=fun b o e=>
  pushCells_keeps _ _ b o (zT0 _ (zT0 _ e))
 have ok:=cellsFrom_ok scope.names ((s.heap.push lo).push { cls:=.type "dict", data:=.dict #[] }) (s.heap.objs.size + 1 + 1) [] ⟨fun _ _ hm=>(nomatch hm),List.Pairwise.nil⟩ (by rw [sz2]; exact zUA _);rw [sz2] at ok;have look:∀ x c,(cellsFrom (s.heap.objs.size + 1 + 1) scope.names cl).lookup x = some c -> ((cellsFrom (s.heap.objs.size + 1 + 1) scope.names []).lookup x = some c) \/ ((cellsFrom (s.heap.objs.size + 1 + 1) scope.names []).lookup x = none /\ X.env.cells.lookup x = some c):=fun x c e=>by
  rw [zAN,zBm] at e;cases q:(cellsFrom (s.heap.objs.size + 1 + 1) scope.names []).lookup x with
  | some d=>rw [q] at e; exact .inl e
  | none=>rw [q] at e; exact .inr ⟨rfl,c1 x c e⟩
 have old:∀ x (c:Nat),X.env.cells.lookup x = some c -> c < s.heap.objs.size:=fun x c e=>let ⟨_,q⟩:=I.cell x c e; q.lt;have new:∀ x (c:Nat),(cellsFrom (s.heap.objs.size + 1 + 1) scope.names []).lookup x = some c -> s.heap.objs.size + 1 + 1 <= c:=fun x c e=>(ok.empty x c (zU6 e)).2;have own:∀ x,scope.names.lookup x = some .cell -> ∃ c,(cellsFrom (s.heap.objs.size + 1 + 1) scope.names []).lookup x = some c:=fun x e=>zFt e;have cne:∀ x (c:Nat),(cellsFrom (s.heap.objs.size + 1 + 1) scope.names cl).lookup x = some c -> c < s.heap.objs.size \/ s.heap.objs.size + 1 + 1 <= c:=fun x c e=>by
  rcases look x c e with q | ⟨_,q⟩
  ·exact .inr (new x c q)
  ·exact .inl (old x c q)
 refine ⟨⟨I.ok.mod,S.kind,I.ok.glob,I.ok.blt,Nat.le_succ _,fun x y c h1 h2=>?_,fun x hx=>?_,fun x c hx h=>?_,I.ok.hd,I.ok.frames,.inl rfl,fun b hb=>⟨?_,fun x c e z=>?_⟩,I.bs,zUV I.ok.bsz I.sz,fun b o e hb=>?_,fun b hb z=>?_,I.stack,I.stkFree⟩,
  rfl,I.bare,Un.kept hk,⟨fun _=>none,?_,fun i x v h1 h2 h3=>?_⟩,fun x c e=>?_,I.hok.fresh (Nat.le_succ _),fun x c e=>?_,fun p hp=>?_,I.hok.kept hk,hl.trans I.len⟩
 ·rcases look x c h1 with a | ⟨_,a⟩ <;> rcases look y c h2 with b | ⟨_,b⟩
  ·exact name_of_addr ok.apart (zU6 a) (zU6 b)
  ·exact absurd (Nat.lt_of_le_of_lt (new x c a) (old y c b)) (by omega)
  ·exact absurd (Nat.lt_of_le_of_lt (new y c b) (old x c a)) (by omega)
  ·exact I.ok.inj x y c a b
 ·have hx':(relabel scope X.env).names.lookup x = some .cell \/ (relabel scope X.env).names.lookup x = some .free:=hx;have go:scope.names.lookup x = some .cell \/ scope.names.lookup x = some .free:=by
   rcases hx' with q | q
   ·rcases zAj (scope:=scope) x q with z | z
    ·exact .inl z
    ·exact .inr z.1
   ·rcases zAj (scope:=scope) x q with z | z
    ·exact .inr z
    ·exact .inr z.1
  show ∃ c,(cellsFrom (s.heap.objs.size + 1 + 1) scope.names cl).lookup x = some c;rw [zAN,zBm];rcases go with q | q
  ·obtain ⟨c,e⟩:=own x q;exact ⟨c,by rw [e]⟩
  ·cases e:(cellsFrom (s.heap.objs.size + 1 + 1) scope.names []).lookup x with
   | some d=>exact ⟨d,rfl⟩
   | none=>exact Option.isSome_iff_exists.mp (c2 (x,.free) (zU6 q) rfl)
 ·obtain ⟨d,e⟩:=own x (zU0 hx);have h':(cellsFrom (s.heap.objs.size + 1 + 1) scope.names cl).lookup x = some c:=h;rw [zAN,zBm,e] at h';cases h';exact zUV (zUV (Nat.le_succ _) (Nat.le_succ _)) (new x _ e)
 ·exact zUP (zUt (ho b hb))
 ·rcases look x c e with q | ⟨_,q⟩
  ·have a:=new x c q;rw [z] at a;exact absurd (Nat.lt_of_le_of_lt a (ho b hb)) (by omega)
  ·exact (hf b hb).2.2.2.2.1 x c q z
 ·rcases (hf b hb).2.2.2.1 with z | z
  ·exact I.ok.noex b o e z
  ·exact absurd (zUT (zUF e) (zUV I.ok.bsz z)) (zUm _)
 ·rcases zUG.mp (I.stkSub b z) with q | q
  ·exact (hf b hb).2.1 q
  ·exact (hf b hb).2.2.1 q
 ·have q:((s.heap.push lo).push { cls:=.type "dict", data:=.dict #[] }).Ns (s.heap.push lo).objs.size (fun _=>none):=Heap.Ns.new ..;rw [sz1] at q;exact q.keeps (pushCells_keeps _ _)
 ·have h3':(relabel scope X.env).names.lookup x ≠ none:=by
   rcases h3 with z | z | z <;> (intro q; have z':(relabel scope X.env).names.lookup x = _:=z; rw [q] at z'; cases z')
  obtain ⟨fr,hv⟩:=hσ i x v h1 h2 h3';obtain ⟨m,hn,hlk⟩:=I.loc;have kx:=S.free (x,.free) (zU6 fr) rfl;obtain ⟨u,rv,lk⟩:=hlk i x v h1 hv (by rcases kx with z | z; exact .inr (.inl z); exact .inr (.inr z));refine ⟨u,rv,?_⟩;rcases lk with ⟨z,_⟩ | ⟨_,c,e,ic⟩
  ·rcases kx with k | k <;> (rw [k] at z; cases z)
  ·have kind:(relabel scope X.env).names.lookup x = some .cell \/ (relabel scope X.env).names.lookup x = some .free:=by
    cases q:(relabel scope X.env).names.lookup x with
    | none=>exact absurd q h3'
    | some k=>
     rcases zAj (scope:=scope) x q with z | z
     ·rw [fr] at z; cases z; exact .inr rfl
     ·rw [z.2]; exact .inl rfl
   refine .inr ⟨kind,c,?_,ic.keeps hk⟩;show (cellsFrom (s.heap.objs.size + 1 + 1) scope.names cl).lookup x = some c;rw [zAN,zBm];obtain ⟨d,hd⟩:=Option.isSome_iff_exists.mp (c2 (x,.free) (zU6 fr) rfl);have:=c1 x d hd;rw [e] at this; cases this;have nn:(cellsFrom (s.heap.objs.size + 1 + 1) scope.names []).lookup x = none:=by
    cases q:(cellsFrom (s.heap.objs.size + 1 + 1) scope.names []).lookup x with
    | none=>rfl
    | some d'=>
     have z:=S.cells (x,.cell) (zF2 scope.names _ [] x d' (zU6 q) fun z=>nomatch z) rfl;rw [fr] at z; cases z
   rw [nn]; exact hd
 ·rcases look x c e with q | ⟨_,q⟩
  ·exact ⟨none,(ok.empty x c (zU6 q)).1⟩
  ·obtain ⟨v,z⟩:=I.cell x c q;exact ⟨v,z.keeps hk⟩
 ·rcases look x c e with q | ⟨_,q⟩
  ·exact I.hok.fresh (by have:=new x c q; omega)
  ·exact I.freeC x c q
 ·have hp':p ∈ X.pn ++ zB \/ p = (s.heap.objs.size,lo):=by
   rcases zUU.mp hp with z | z
   ·exact .inl z
   ·exact .inr (by simpa using z)
  rcases hp' with z | z
  ·obtain ⟨e,n,ne,nf,d⟩:=I.pin p z;have lt:(p.1:Nat) < s.heap.objs.size:=zUF e;refine ⟨hk _ _ e,n,?_,fun q=>?_,d⟩
   ·exact zUP (zUt lt)
   ·rcases zUG.mp (I.stkSub _ q) with r | r
    ·exact ne r
    ·exact nf r
  ·subst z;refine ⟨pushCells_keeps _ _ _ _ (zT0 _ (zUE _ hfr)),I.hok.fresh (zUA _),?_,fun q=>?_,hlo⟩
   ·show s.heap.objs.size ≠ s.heap.objs.size + 1;omega
   ·rcases zUG.mp (I.stkSub _ q) with r | r
    ·exact absurd I.lt (by rw [<- r]; exact zUm _)
    ·exact I.nofs (zUA _) r
end
def clr (own:List Nat) (σ:St):St:=own.foldl (fun σ i=>σ.set i none) σ
theorem zDU:∀ (own:List Nat) (σ:St),(clr own σ).length = σ.length
 | [],_=>rfl
 | i :: r,σ=>by
  show (clr r (σ.set i none)).length = _;rw [zDU r,zWN]
theorem zFF:∀ (own:List Nat) (σ:St) (j:Nat) (v:V),(clr own σ)[j]? = some (some v) -> σ[j]? = some (some v) /\ j ∉ own
 | [],_,_,_,h=>⟨h,fun z=>nomatch z⟩
 | i :: r,σ,j,v,h=>by
  have h':(clr r (σ.set i none))[j]? = some (some v):=h;obtain ⟨a,b⟩:=zFF r _ j v h';rw [zVd] at a;split at a
  ·split at a <;> cases a
  ·rename_i hne;exact ⟨a,fun z=>(zUG.mp z).elim (fun e=>hne e.symm) b⟩
def Ext (a b:St):Prop:=b.length = a.length /\ ∀ (i:Nat) v,a[i]? = some (some v) -> b[i]? = some (some v)
theorem Ext.refl (a:St):Ext a a:=⟨rfl,fun _ _ h=>h⟩
theorem Ext.set {own:List Nat} {σ a:St} {i:Nat} {v:V} (e:Ext (clr own σ) a) (h:i ∈ own):Ext (clr own σ) (a.set i (some v)):=by
 refine ⟨by rw [zWN]; exact e.1,fun j u q=>?_⟩;rw [zVd];split
 ·rename_i z;exact absurd (z ▸ h) (zFF own σ j u q).2
 ·exact e.2 j u q
def zLa (X:Cx) (ifs:List Expr) (t:TT):Prop :=
 ∀ (zB:List (Addr × Obj)) (s:Shared) (σ:St) (H:Hp) (Q:Bool -> Hp -> Prop),Inv X zB σ H s -> t σ H Q ->
  wpAny (model X.prog X.w) X.A (forIn ifs true fun c r=>if r = true then do let ok <- isTrue c X.env (eval c X.env); pure (ForInStep.yield ok) else pure (ForInStep.yield r)) (TP X zB σ Q) X.xe s
def zTd:TT:=fun _ H Q=>Q true H
theorem zMt {X:Cx}:zLa X [] zTd:=fun _ _ _ H _ I h=>wpAny_tests_nil ⟨H,I,h⟩
theorem zN5 {X:Cx} {c:Expr} {t:TT} (h:PT X c t):zLa X [c] t:=fun zB s σ H Q I hq=>wpAny_tests_one (h zB s σ H Q I hq)
section
variable {prog:Program} {w:World} {A:Around} {E:Value -> Shared -> Prop} {R:Result -> Shared -> Prop} {s:Shared}
theorem zHs {elt target iter:Expr} {ifs:List Expr} {scope:Scope} {pos:Pos} {it acc:Value} {env:Env} (I:Nat -> Shared -> Prop)
  (turn:∀ n s,I n s -> wpAny (model prog w) A (pyNext it) (fun r s₁=>match r with
   | none=>R (.ok .next) s₁
   | some v=>wpAny (model prog w) A (letOwnedTupleGo target it v) (fun _ s₁'=>wpAny (model prog w) A (assign target env v) (fun _ s₂=>
     wpAny (model prog w) A (forIn ifs true fun c r=>if r = true then do let ok <- isTrue c env (eval c env); pure (ForInStep.yield ok) else pure (ForInStep.yield r)) (fun ok s₃=>
      if ok = true then wpAny (model prog w) A (eval elt env) (fun x s₄=>
       wpAny (model prog w) A (call (.builtin "list.append") [acc,x]) (fun _ s₅=>∃ m,m < n /\ I m s₅) (fun _ _=>False) s₄) (fun _ _=>False) s₃
      else ∃ m,m < n /\ I m s₃) (fun _ _=>False) s₂) (fun _ _=>False) s₁') (fun _ _=>False) s₁) (fun _ _=>False) s)
  (n:Nat) (h:I n s) :
  codeAny (model prog w) A (.compLoop (.ListComp elt [⟨target,iter,ifs,0⟩] scope pos) 0 it acc env) R s:=by
 refine codeAny_loop rfl I (fun n s hI=>?_) n h;show wpAny _ A ((compTurn (.ListComp elt [⟨target,iter,ifs,0⟩] scope pos) 0 it acc env).onRaise (fun x=>do noteFrame x env; theTreesLotGoes x)) _ _ s;refine wpAny_noted ?_;rw [compTurn_list];refine zTz (wpAny_standAt (zTz (zUa (turn n s hI) (fun r s₁ h₁=>?_) fun _ _ h'=>h'.elim)));cases r with
 | none=>exact zT6 h₁
 | some v=>
  refine zTz (zUa h₁ (fun _ s₁' h₁'=>?_) fun _ _ h'=>h'.elim);refine zTz (zUa h₁' (fun _ s₂ h₂=>zTz (zUa h₂ (fun ok s₃ h₃=>?_) fun _ _ h'=>h'.elim)) fun _ _ h'=>h'.elim);cases ok with
  | false=>exact zT6 ⟨rfl,h₃⟩
  | true=>
   exact zTz (zTz (zUa h₃ (fun x s₄ h₄=>zTz (zUa h₄ (fun _ s₅ h₅=>zT6 (zT6 ⟨rfl,h₅⟩)) fun _ _ h'=>h'.elim)) fun _ _ h'=>h'.elim))
end
def zOJ (own:List Nat) (wi:TI) (g:TG) (tc:TT) (te:TE):TE:=fun σ H Q=>wi σ H fun J H1=>∃ W:Nat -> Nat -> List V -> Hp -> Prop,(∃ m,W 0 m [] H1) /\ ∀ i m ys H,W i m ys H ->
 (J.stop i H /\ ys.length <= sizeLine /\ ∀ D,H D = none -> Q (.ref D) (upd H D (.lst ys))) \/
 (J.go i H /\ ∀ x H',J.yld i H x H' -> g x (clr own σ) H' fun σ2 H2=>Ext (clr own σ) σ2 /\ tc σ2 H2 fun b H3=>
  if b = true then te σ2 H3 fun v H4=>ys.length < sizeLine /\ ∃ m',m' < m /\ W (i + 1) m' (ys ++ [v]) H4 else ∃ m',m' < m /\ W (i + 1) m' ys H3)
abbrev zAn (its:List Value) (n:Nat):Obj:={ cls:=.type "list", data:=.seq its.toArray n }
section
variable {X:Cx} {zB:List (Addr × Obj)} {σ:St} {H:Hp} {s:Shared}
theorem Inv.repin {pl:List (Addr × Obj)} {D:Addr} {o o':Obj} {h':Heap} (I:Inv X (pl ++ [(D,o)]) σ H s) (hpl:∀ p ∈ X.pn ++ pl,p.1 ≠ D) (hs:Heap.SameBut D s.heap h') (hD:X.s₀.heap.objs.size <= D) (hc:∀ x c,X.env.cells.lookup x = some c -> c ≠ D)
  (e:h'.get? D = some o') (hn:∀ v,o'.data ≠ .cell v):Inv X (pl ++ [(D,o')]) σ H { s with heap:=h' }:=by
 obtain ⟨e0,n0,ne0,nf0,d0⟩:=I.pin (D,o) (by simp);have I1:Inv X pl σ H s:=I.pins_of fun p hp=>I.pin p (by simp [hp]);have I2:Inv X pl σ H { s with heap:=h' }:=I1.turned (t':=s.toks) (it:=D) (fun b u hb q=>hs.extBut b u hb q) n0 ne0 (.inr hD) hc hpl;exact I2.pins_of fun p hp=>by
  rcases zUU.mp hp with z | z
  ·exact I2.pin p (zUO _ z)
  ·have:p = (D,o'):=by simpa using z
   subst this;exact ⟨e,n0,ne0,nf0,hn⟩
end
section
variable {X:Cx} {zB:List (Addr × Obj)} {σ:St} {H:Hp} {s:Shared} {scope:Scope} {cl:List (Str × Addr)} {fp:List Addr} {it:Addr} {tn:Nat -> Heap -> Prop} {J:It} {tg elt iter:Expr} {ifs:List Expr} {pos:Pos}
 {own:List Nat} {g:TG} {tc:TT} {te:TE} {E:Value -> Shared -> Prop}
structure CompIn (X:Cx) (scope:Scope) (own:List Nat):Prop where
 sc:CompScope X scope
 nm:∀ (i:Nat) x,X.N[i]? = some x -> i ∈ own \/ scope.names.lookup x = none \/ scope.names.lookup x = some .free
theorem zDw {scope:Scope} {env:Env} (x:Str) (h:scope.names.lookup x = none):(relabel scope env).names.lookup x = none:=by
 cases q:(relabel scope env).names.lookup x with
 | none=>rfl
 | some k=>
  rcases zAj (scope:=scope) x q with z | z
  ·rw [h] at z; cases z
  ·rw [h] at z; cases z.1
theorem zFo (C:CompIn X scope own) (hcalm:X.calm = true) (I:Inv X zB σ H s) (T:Turn X.prog X.w X.K tg J fp it tn) (st:tn 0 s.heap) (hf:∀ b ∈ fp,zCq X zB H b)
  (c1:∀ x c,cl.lookup x = some c -> X.env.cells.lookup x = some c) (c2:∀ y ∈ scope.names,y.2 = .free -> (cl.lookup y.1).isSome = true)
  (hg:PG (zd X zB scope cl s H fp) tg g) (hi:zLa (zd X zB scope cl s H fp) ifs tc) (he:PE (zd X zB scope cl s H fp) elt te)
  {RR:Value -> Addr -> Result -> Shared -> Prop} {QQ:List V -> Hp -> Prop} {W:Nat -> Nat -> List V -> Hp -> Prop} {m0:Nat} (w0:W 0 m0 [] H)
  (turn:∀ i m ys H,W i m ys H -> (J.stop i H /\ ys.length <= sizeLine /\ QQ ys H) \/
   (J.go i H /\ ∀ x H',J.yld i H x H' -> g x (clr own σ) H' fun σ2 H2=>Ext (clr own σ) σ2 /\ tc σ2 H2 fun b H3=>
    if b = true then te σ2 H3 fun v H4=>ys.length < sizeLine /\ ∃ m',m' < m /\ W (i + 1) m' (ys ++ [v]) H4 else ∃ m',m' < m /\ W (i + 1) m' ys H3))
  (fin:∀ σc H' s' its n ys,Inv (zd X zB scope cl s H fp) [(s.heap.objs.size,zAn its n)] σc H' s' -> zU ys its -> ys.length <= sizeLine -> QQ ys H' -> RR (.ref s.heap.objs.size) (s.heap.objs.size + 1) (.ok .next) s') :
  wpAny (model X.prog X.w) X.A (newList []) (fun acc s₃=>wpAny (model X.prog X.w) X.A (newFunctionEnv scope X.env.globals cl [] X.env.qual none .none (some X.env)) (fun cenv s₄=>
   codeAny (model X.prog X.w) X.A (.compStart (.ListComp elt [⟨tg,iter,ifs,0⟩] scope pos) 0 (.ref it) acc { cenv with scope:=relabel scope X.env }) (RR acc cenv.locals) s₄) E s₃) E s:=by
 have ob:∀ b:Nat,b ∈ fp -> b < s.heap.objs.size:=fun b hb=>let ⟨_,e,_⟩:=T.obj 0 _ st b hb; zUF e;refine zUX (zEr ?_);have sz1:(s.heap.push (zAn [] 0)).objs.size = s.heap.objs.size + 1:=zUk ..;have I4:=zIb (X:=X) (zB:=zB) (σ:=σ) (σc:=clr own σ) (H:=H) (s:=s) (scope:=scope) (cl:=cl) (fp:=fp) C.sc I hf ob c1 c2 (zDU own σ) (fun i x v h1 h2 h3=>by
  obtain ⟨a,b⟩:=zFF own σ i v h2;rcases C.nm i x h1 with z | z | z
  ·exact absurd z b
  ·exact absurd (zDw x z) h3
  ·exact ⟨z,a⟩) (zAn [] 0) (by intro v z; cases z) rfl rfl
 have st4:tn 0 (pushCells ((s.heap.push (zAn [] 0)).push { cls:=.type "dict", data:=.dict #[] }) scope.names):=T.keep 0 _ _ st fun b _ o e=>pushCells_keeps _ _ b o (zT0 _ (zT0 _ e));dsimp only;unfold newEnv;dsimp only;rw [sz1];have hDfp:s.heap.objs.size ∉ fp:=fun z=>zUm _ (ob _ z);have hcD:∀ x c,(zd X zB scope cl s H fp).env.cells.lookup x = some c -> c ≠ s.heap.objs.size:=fun x c e z=>by
  obtain ⟨v,o,ho,hd⟩:=I4.cell x c e;obtain ⟨q,_⟩:=I4.pin (s.heap.objs.size,zAn [] 0) (by simp);rw [z,q] at ho;cases ho; cases hd
 have fpk:∀ {H':Hp} {pl:List (Addr × Obj)},(∀ b ∈ fp,H' b = none) -> (∀ p ∈ pl,p.1 = s.heap.objs.size) -> ∀ b ∈ fp,zCq (zd X zB scope cl s H fp) pl H' b:=fun {H' pl} hn hp b hb=>
  ⟨hn b hb,(I4.ok.exf b hb).1,I4.ok.exfs b hb,.inl hb,(I4.ok.exf b hb).2,fun p hq=>by
   rcases zUU.mp hq with z | z
   ·exact (hf b hb).2.2.2.2.2 p z
   ·intro e;have e2:=hp p z;rw [e] at e2;exact hDfp (e2 ▸ hb)⟩
 have loop:codeAny (model X.prog X.w) X.A (.compLoop (.ListComp elt [⟨tg,iter,ifs,0⟩] scope pos) 0 (.ref it) (.ref s.heap.objs.size) (zd X zB scope cl s H fp).env) (RR (.ref s.heap.objs.size) (s.heap.objs.size + 1))
   { s with heap:=pushCells ((s.heap.push (zAn [] 0)).push { cls:=.type "dict", data:=.dict #[] }) scope.names }:=by
  refine zHs (fun n s'=>∃ i H' ys its k,Inv (zd X zB scope cl s H fp) [(s.heap.objs.size,zAn its k)] (clr own σ) H' s' /\ zU ys its /\ tn i s'.heap /\ (∀ b ∈ fp,H' b = none) /\ W i n ys H') ?_ m0
   ⟨0,H,[],[],0,I4,.nil,st4,fun b hb=>(hf b hb).1,w0⟩
  rintro n s5 ⟨i,H5,ys,its,k,I5,r5,st5,f5,w5⟩;have pinD:∀ p ∈ [(s.heap.objs.size,zAn its k)],p.1 = s.heap.objs.size:=fun p hp=>by
   have:p = (s.heap.objs.size,zAn its k):=by simpa using hp
   rw [this]
  rcases turn i n ys H5 w5 with ⟨stop,hz,qq⟩ | ⟨go,step⟩
  ·refine thn (T.done (zd X zB scope cl s H fp) rfl rfl rfl hcalm i _ s5 _ H5 _ I5 (fpk f5 pinD) st5 stop) fun r s6 ⟨hr,I6⟩=>?_;subst hr;exact fin _ H5 s6 its k ys I6 r5 hz qq
  ·refine thn (T.item (zd X zB scope cl s H fp) rfl rfl rfl hcalm i _ s5 _ H5 _ I5 (fpk f5 pinD) st5 go) fun r s6 ⟨u,hr,h6⟩=>?_;subst hr;refine thn h6 fun _ s7 ⟨x,H7,I7,r7,y7,st7,f7⟩=>?_;have I7':=I7.pinned (fpk f7 pinD) (T.obj _ _ st7);refine thn (hg _ s7 _ H7 x u _ I7' r7 (step x H7 y7)) fun _ s8 ⟨σ8,H8,I8,x8,q8⟩=>?_;refine thn (hi _ s8 σ8 H8 _ I8 q8) fun ok s9 ⟨H9,I9,q9⟩=>?_;have back:∀ {s':Shared} {Hx:Hp},Inv (zd X zB scope cl s H fp) ([(s.heap.objs.size,zAn its k)] ++ zEO fp s7.heap) σ8 Hx s' -> tn (i + 1) s'.heap /\ ∀ b ∈ fp,Hx b = none:=fun {s' Hx} Ix=>
    ⟨T.keep _ _ _ st7 fun b hb o e=>(Ix.pin (b,o) (zUO _ (zUO _ (zBN hb e)))).1,fun b hb=>by
     obtain ⟨o,e,d⟩:=T.obj _ _ st7 b hb;exact (Ix.pin (b,o) (zUO _ (zUO _ (zBN hb e)))).2.1⟩
   cases ok with
   | false=>
    obtain ⟨m',hm,w'⟩:=q9;obtain ⟨b1,b2⟩:=back I9;exact ⟨m',hm,i + 1,H9,ys,its,k,(I9.weak (by rw [x8.1]) x8.2).unpinned,r5,b1,b2,w'⟩
   | true=>
    refine thn (he _ s9 σ8 H9 _ I9 q9) fun v s10 ⟨y,H10,I10,r10,hlt,m',hm,w'⟩=>?_;obtain ⟨b1,b2⟩:=back I10;have J10:=(I10.weak (by rw [x8.1]) x8.2).unpinned;obtain ⟨e10,n10,ne10,nf10,d10⟩:=J10.pin (s.heap.objs.size,zAn its k) (by simp);have hlen:its.toArray.size <= sizeLine:=by
     have:=r5.length;rw [zUC,<- this];exact zW0 hlt
    refine wpAny_list_append_plain (hsz:=hlen) (show s10.heap.PlainList s.heap.objs.size its.toArray from ⟨k,e10⟩) fun h' hl' hs'=>?_;obtain ⟨k',e'⟩:=hl';have e'':h'.get? s.heap.objs.size = some (zAn (its ++ [v]) k'):=by rw [e']; simp [zAn]
    refine ⟨m',hm,i + 1,H10,ys ++ [y],its ++ [v],k',?_,r5.append (.cons r10 .nil),T.keep _ _ _ b1 fun b hb o e=>hs'.extBut b o (fun z=>hDfp (z ▸ hb)) e,b2,w'⟩;refine Inv.repin (pl:=[]) J10 (fun p hp=>?_) hs' (zUA _) hcD e'' (by intro v z; cases z);rw [zUo] at hp;have hp':p ∈ X.pn ++ zB:=hp;exact zUP (zUF (I.pin p hp').1)
 exact codeAny_compStart_list loop (T.self _ 0 _ _ _ st4 loop)
end
section
variable {X:Cx} {zB:List (Addr × Obj)} {σ:St} {H:Hp} {s:Shared} {scope:Scope} {cl:List (Str × Addr)} {fp:List Addr}
theorem zIm {σc:St} {H':Hp} {s':Shared} {h':Heap} {its:List Value} {n:Nat} {ys:List V} (I:Inv X zB σ H s) (hf:∀ b ∈ fp,zCq X zB H b)
  (Ic:Inv (zd X zB scope cl s H fp) [(s.heap.objs.size,zAn its n)] σc H' s') (rv:zU ys its) (hz:ys.length <= sizeLine) (hs:Heap.SameBut (s.heap.objs.size + 1) s'.heap h') :
  Inv X zB σ (upd H' s.heap.objs.size (.lst ys)) { s' with heap:=h' } /\ H' s.heap.objs.size = none:=by
 obtain ⟨eD,nD,_⟩:=Ic.pin (s.heap.objs.size,zAn its n) (by simp);have nC:H' (s.heap.objs.size + 1) = none:=Ic.free;have eD':h'.get? s.heap.objs.size = some (zAn its n):=hs.extBut _ _ (zUP (zU1 _)) eD;have lt1:∀ {b:Addr} {o:Obj},s.heap.get? b = some o -> b ≠ s.heap.objs.size + 1 /\ b ≠ s.heap.objs.size:=fun e=>⟨zUP (zUt (zUF e)),zUP (zUF e)⟩;have tr:∀ b u,H' b = some u -> b ≠ s.heap.objs.size + 1 /\ b ≠ s.heap.objs.size:=fun b u e=>⟨fun z=>(by rw [z,nC] at e; cases e),fun z=>(by rw [z,nD] at e; cases e)⟩;refine ⟨?_,nD⟩;have B:=Ic.base;have un:Un (frs X.stack) fp H (upd H' s.heap.objs.size (.lst ys)) s.heap h':=by
  refine ⟨fun b o e q hb hx=>hs.extBut b o (lt1 e).1 (B.keep b o e q hb hx),fun b o e q hb hx=>?_,fun b o e q hx=>?_,fun b o e hx=>?_,fun b xs e=>?_,fun b o xs e=>?_,fun b ps e=>?_⟩
  ·obtain ⟨sl,e1⟩:=B.slot b o e q hb hx;exact ⟨sl,hs.extBut b _ (lt1 e).1 e1⟩
  ·rw [zP (lt1 e).2]; exact B.free b o e q hx
  ·obtain ⟨o',e1⟩:=B.there b o e hx;exact ⟨o',hs.extBut b _ (lt1 e).1 e1⟩
  ·have q:=B.tups b xs e;rw [zP (tr b _ q).2]; exact q
  ·have q:=B.frzs b o xs e;rw [zP (tr b _ q).2]; exact q
  ·obtain ⟨more,q⟩:=B.tbls b ps e;exact ⟨more,by rw [zP (tr b _ q).2]; exact q⟩
 have hok:HOk X.prog X.w (upd H' s.heap.objs.size (.lst ys)) h':=fun b u e=>by
  by_cases hb:b = s.heap.objs.size
  ·subst hb;rw [zg] at e; cases e;exact ⟨hz,its,n,rv,eD'⟩
  ·rw [zP hb] at e;refine (Ic.hok b u e).stay (fun c v hc q=>hs.extBut c v ?_ q) (fun c q=>by rw [zP (tr c _ q).2]; exact q) fun c xs q=>by rw [zP (tr c _ q).2]; exact q
   rcases hc with z | z
   ·rw [z]; exact (tr b u e).1
   ·exact (tr c _ z).1
 exact I.call' (s':={ s' with heap:=h' }) (ch:=fp) Ic.os un hok Ic.bare fun b hb=>⟨(hf b hb).2.2.2.1,(hf b hb).2.1,(hf b hb).2.2.2.2.1,(hf b hb).2.2.2.2.2⟩
end
section
variable {X:Cx} {scope:Scope} {tg elt iter:Expr} {ifs:List Expr} {pos:Pos} {own:List Nat} {wi:TI} {g:TG} {tc:TT} {te:TE}
structure CompParts (X:Cx) (scope:Scope) (tg:Expr) (ifs:List Expr) (elt:Expr) (g:TG) (tc:TT) (te:TE):Prop where
 g:∀ zB cl s H fp,PG (zd X zB scope cl s H fp) tg g
 c:∀ zB cl s H fp,zLa (zd X zB scope cl s H fp) ifs tc
 e:∀ zB cl s H fp,PE (zd X zB scope cl s H fp) elt te
theorem CompScope.closure {zB:List (Addr × Obj)} {σ:St} {H:Hp} {s:Shared} (S:CompScope X scope) (I:Inv X zB σ H s) :
  ∃ cl,closureFor scope X.env = pure cl /\ (∀ x c,cl.lookup x = some c -> X.env.cells.lookup x = some c) /\ ∀ y ∈ scope.names,y.2 = .free -> (cl.lookup y.1).isSome = true :=
 zDP fun y hy hk=>I.ok.has y.1 (S.free y hy hk)
theorem zPV (C:CompIn X scope own) (hcalm:X.calm = true) (hi:PI X tg iter wi) (p:CompParts X scope tg ifs elt g tc te) (hs:∀ x,foldedSetIterable iter X.env x = pure x:=by intro _; rfl) :
  PE X (.ListComp elt [⟨tg,iter,ifs,0⟩] scope pos) (zOJ own wi g tc te):=by
 intro zB s σ H Q I h;obtain ⟨cl,hcl,c1,c2⟩:=C.sc.closure I;rw [eval_ListComp];refine wpAny_comprehension_free (use:=none) rfl hs hcl C.sc.kind C.sc.names (thn (hi zB s σ H _ I h) fun v s1 h1=>thn h1 fun itv s2 h2=>?_);obtain ⟨it,fp,tn,J,H2,e,I2,T,st2,f2,W,⟨m0,w0⟩,turn⟩:=h2;subst e;refine zFo C hcalm I2 T st2 f2 c1 c2 (p.g _ _ _ _ _) (p.c _ _ _ _ _) (p.e _ _ _ _ _) (RR:=fun acc C r s'=>compPost (model X.prog X.w) X.A X.xe none (EP X zB σ Q) acc C r s') (QQ:=fun ys H=>∀ D,H D = none -> Q (.ref D) (upd H D (.lst ys))) w0 turn ?_;intro σc H' s' its n ys Ic rv hz qq;obtain ⟨m,hn,_⟩:=Ic.loc;refine ⟨m,hn,fun h' hs'=>?_⟩;obtain ⟨J',nD⟩:=zIm I2 f2 Ic rv hz hs';exact ⟨.ref s2.heap.objs.size,_,J',rfl,qq _ nD⟩
theorem zKD {i:Nat} {x:Str} {pos' pos'':Pos} (hN:X.N.Nodup) (hi':X.N[i]? = some x) (hx:Loc X.env.scope x) (hfn:X.fn x = true \/ X.env.scope.names.lookup x = some .local)
  (C:CompIn X scope own) (hcalm:X.calm = true) (hi:PI X tg iter wi) (p:CompParts X scope tg ifs elt g tc te)
  (hsw:swapsWith (.ListComp elt [⟨tg,iter,ifs,0⟩] scope pos) (some (.Name x pos')) pos''.line X.env = pure true) (hs:∀ x,foldedSetIterable iter X.env x = pure x:=by intro _; rfl) :
  PS X (.Assign [.Name x pos'] (.ListComp elt [⟨tg,iter,ifs,0⟩] scope pos) pos'') (zPk (zOJ own wi g tc te) (zDJ i)):=by
 intro zB s σ H D I h;obtain ⟨cl,hcl,c1,c2⟩:=C.sc.closure I;rw [exec_Assign_Name_used _ _ _ _ hsw];refine zTz (wpAny_standAt (zTz ?_));show wpAny _ X.A (do let _ <- comprehension (.ListComp elt [⟨tg,iter,ifs,0⟩] scope pos) scope X.env _ (newList []) false (eval iter X.env) (some (assign (.Name x pos') X.env))) _ _ s
 refine zTz (zUa (wpAny_comprehension_free (use:=some (assign (.Name x pos') X.env)) (Q:=fun _ s'=>SP X zB D .next s') rfl hs hcl C.sc.kind C.sc.names
  (thn (hi zB s σ H _ I h) fun v s1 h1=>thn h1 fun itv s2 h2=>?_)) (fun _ s' hq=>zT6 (zT6 hq)) fun _ _ e=>e)
 obtain ⟨it,fp,tn,J,H2,e,I2,T,st2,f2,W,⟨m0,w0⟩,turn⟩:=h2;subst e
 refine zFo C hcalm I2 T st2 f2 c1 c2 (p.g _ _ _ _ _) (p.c _ _ _ _ _) (p.e _ _ _ _ _) (RR:=fun acc C r s'=>compPost (model X.prog X.w) X.A X.xe (some (assign (.Name x pos') X.env)) (fun _ s'=>SP X zB D .next s') acc C r s')
  (QQ:=fun ys H=>∀ E,H E = none -> zDJ i (.ref E) σ (upd H E (.lst ys)) D.nx) w0 turn ?_
 intro σc H' s' its n ys Ic rv hz qq;obtain ⟨m,hn,_⟩:=Ic.loc;obtain ⟨J',nD⟩:=zIm (h':=s'.heap) I2 f2 Ic rv hz (.refl ..);obtain ⟨oC,es,ep,hoC,hdC,r1,r2⟩:=id hn;have nC:upd H' s2.heap.objs.size (.lst ys) (s2.heap.objs.size + 1) = none:=by rw [zP (zVZ (zU1 _))]; exact Ic.free
 have K':Inv X (zB ++ [(s2.heap.objs.size + 1,oC)]) σ (upd H' s2.heap.objs.size (.lst ys)) s':=J'.pins_of fun q hq=>by
  rcases zUU.mp hq with z | z
  ·exact J'.pin q (zUO _ z)
  ·have e:q = (s2.heap.objs.size + 1,oC):=by simpa using z
   subst e;refine ⟨hoC,nC,zVZ (zUt I2.lt),I2.nofs (Nat.le_succ _),fun v z=>?_⟩;have z':oC.data = .cell v:=z;rw [hdC] at z'; cases z'
 show wpAny _ X.A (assign (.Name x pos') X.env (.ref s2.heap.objs.size)) _ _ _;refine thn (zLO hN hi' hx hfn _ s' σ _ (.ref s2.heap.objs.size) (.ref s2.heap.objs.size) _ K' rfl (qq _ nD)) fun _ s'' ⟨σ'',H'',I'',q''⟩=>?_;obtain ⟨eC,_⟩:=I''.pin (s2.heap.objs.size + 1,oC) (by simp);refine ⟨m,⟨oC,es,ep,eC,hdC,r1,r2⟩,fun h' hs'=>⟨σ'',H'',?_,q''⟩⟩;have I3:Inv X zB σ'' H'' s'':=I''.unpinned;obtain ⟨_,nC'',neC,_,_⟩:=I''.pin (s2.heap.objs.size + 1,oC) (by simp);refine I3.turned (t':=s''.toks) (it:=s2.heap.objs.size + 1) (fun b o hb e=>hs'.extBut b o hb e) nC'' neC (.inr (zUV I2.sz (Nat.le_succ _))) (fun x c e z=>?_) (fun q hq z=>?_)
 ·obtain ⟨v,o,ho,hd⟩:=I3.cell x c e;rw [z,eC] at ho; cases ho;rw [hdC] at hd; cases hd
 ·obtain ⟨e,_⟩:=I2.pin q hq;exact zUP (zUt (zUF e)) z
end
end L2
namespace L3
open PySem PySem.Spec PyProof.Rows L2
abbrev Sv:=List (Option V)
def zCp (H:Hp) (v:Value):Prop:=∃ a oc vs q t,v = .ref a /\ H a = some (.frz oc (.ext fun _=>True)) /\ oc.data = .fields vs /\ vs[1]? = some (.str q t)
structure Lm where
 f:Addr
 c:Value
 us:List V
set_option genInjectivity true in
inductive D where
 | non | bl (b:Bool) | int (i:Int) | str (x:Str) | tup (xs:List D) | ref (n:Nat) | fn (l:Lm) (ds:List D)
set_option genInjectivity true in
inductive MO where
 | lst (xs:List D) | fro (xs:List D) | dict (kvs:List (D × D)) | dicT (kvs:List (D × D)) | set (xs:List D) | froT (kvs:List (D × D)) | froK (kvs:List (D × D))
mutual
def Rep (L:List Addr) (H:Hp):D -> V -> Prop
 | .non,v=>v = .non
 | .bl b,v=>v = .bl b
 | .int i,v=>v = .int i
 | .str x,v=>v = .str x
 | .tup ds,v=>∃ a vs,v = .ref a /\ H a = some (.tup vs) /\ zH L H ds vs
 | .ref n,v=>∃ a,v = .ref a /\ L[n]? = some a
 | .fn l ds,v=>v = .ref l.f /\ zCp H l.c /\ zH L H ds l.us
def zH (L:List Addr) (H:Hp):List D -> List V -> Prop
 | [],vs=>vs = []
 | d :: ds,vs=>∃ v r,vs = v :: r /\ Rep L H d v /\ zH L H ds r
end
theorem zH.length {L:List Addr} {H:Hp}:∀ {ds:List D} {vs:List V},zH L H ds vs -> vs.length = ds.length
 | [],_,h=>by unfold zH at h; subst h; rfl
 | d :: ds,_,h=>by
  unfold zH at h;obtain ⟨v,r,rfl,_,h2⟩:=h;simp [zH.length h2]
theorem zH.nil {L:List Addr} {H:Hp}:zH L H [] []:=by unfold zH; rfl
theorem zH.cons {L:List Addr} {H:Hp} {d:D} {ds:List D} {v:V} {vs:List V} (h:Rep L H d v) (t:zH L H ds vs):zH L H (d :: ds) (v :: vs):=by
 unfold zH; exact ⟨v,vs,rfl,h,t⟩
theorem zH.get {L:List Addr} {H:Hp}:∀ {ds:List D} {vs:List V} {i:Nat} {d:D},zH L H ds vs -> ds[i]? = some d -> ∃ v,vs[i]? = some v /\ Rep L H d v
 | [],_,_,_,_,e=>by simp at e
 | d :: ds,_,0,d',h,e=>by
  unfold zH at h;obtain ⟨v,r,rfl,h1,h2⟩:=h;simp at e; subst e;exact ⟨v,rfl,h1⟩
 | d :: ds,_,i + 1,d',h,e=>by
  unfold zH at h;obtain ⟨v,r,rfl,h1,h2⟩:=h;obtain ⟨u,e1,e2⟩:=zH.get (i:=i) h2 (by simpa using e);exact ⟨u,by simpa using e1,e2⟩
theorem zH.app {L:List Addr} {H:Hp}:∀ {ds es:List D} {vs ws:List V},zH L H ds vs -> zH L H es ws -> zH L H (ds ++ es) (vs ++ ws)
 | [],_,_,_,h,t=>by unfold zH at h; subst h; exact t
 | d :: ds,_,_,_,h,t=>by
  unfold zH at h;obtain ⟨v,r,rfl,h1,h2⟩:=h;exact .cons h1 (zH.app h2 t)
theorem zH.set {L:List Addr} {H:Hp} {d:D} {v:V} (h:Rep L H d v):∀ {ds:List D} {vs:List V} (i:Nat),zH L H ds vs -> zH L H (ds.set i d) (vs.set i v)
 | [],_,_,t=>by unfold zH at t; subst t; exact .nil
 | _ :: _,_,0,t=>by
  unfold zH at t;obtain ⟨v',r,rfl,h1,h2⟩:=t;exact .cons h h2
 | _ :: _,_,i + 1,t=>by
  unfold zH at t;obtain ⟨v',r,rfl,h1,h2⟩:=t;exact .cons h1 (zH.set h i h2)
theorem zH.drop {L:List Addr} {H:Hp}:∀ {ds:List D} {vs:List V} (n:Nat),zH L H ds vs -> zH L H (ds.drop n) (vs.drop n)
 | _,_,0,t=>t
 | [],_,n + 1,t=>by unfold zH at t; subst t; exact .nil
 | _ :: _,_,n + 1,t=>by
  unfold zH at t;obtain ⟨v',r,rfl,h1,h2⟩:=t;exact zH.drop n h2
theorem zH.take {L:List Addr} {H:Hp}:∀ {ds:List D} {vs:List V} (n:Nat),zH L H ds vs -> zH L H (ds.take n) (vs.take n)
 | _,_,0,t=> .nil
 | [],_,n + 1,t=>by unfold zH at t; subst t; exact .nil
 | _ :: _,_,n + 1,t=>by
  unfold zH at t;obtain ⟨v',r,rfl,h1,h2⟩:=t;exact .cons h1 (zH.take n h2)
theorem zCp.keep {H H':Hp} {v:Value} (h:∀ a o u,H a = some (.frz o u) -> H' a = some (.frz o u)) (x:zCp H v):zCp H' v :=
 let ⟨a,oc,vs,q,t,e1,e2,r⟩:=x; ⟨a,oc,vs,q,t,e1,h _ _ _ e2,r⟩
def zEM (H:Hp) (ps:Array Value):Prop:=PySem.TriplesOk ps.toList /\ ∀ pos v,codeAmong pos ps.toList = some v -> zCp H v
theorem zEM.keep {H H':Hp} {ps:Array Value} (h:∀ a o u,H a = some (.frz o u) -> H' a = some (.frz o u)) (g:zEM H ps):zEM H' ps :=
 ⟨g.1,fun pos v e=>(g.2 pos v e).keep h⟩
abbrev NT (o:HO):Prop:=∀ ps,o ≠ .tbl ps
structure Stp (L:List Addr) (H:Hp) (L':List Addr) (H':Hp):Prop where
 pre:∃ N,L' = L ++ N
 new:∀ a ∈ L',a ∈ L \/ H a = none
 old:∀ a o,H a = some o -> a ∉ L -> NT o -> H' a = some o
 tup:∀ a xs,H a = some (.tup xs) -> H' a = some (.tup xs)
 frz:∀ a o u,H a = some (.frz o u) -> H' a = some (.frz o u)
 tbl:∀ a ps,H a = some (.tbl ps) -> ∃ ps',H' a = some (.tbl ps') /\ (zEM H ps -> zEM H' ps')
theorem Stp.refl (L:List Addr) (H:Hp):Stp L H L H:=⟨⟨[],by simp⟩,fun _ h=> .inl h,fun _ _ h _ _=>h,fun _ _ h=>h,fun _ _ _ h=>h,fun _ ps h=>⟨ps,h,id⟩⟩
theorem zDu {H H':Hp} (hf:∀ a o u,H a = some (.frz o u) -> H' a = some (.frz o u)) (h:∀ a ps,H a = some (.tbl ps) -> H' a = some (.tbl ps)) :
  ∀ a ps,H a = some (.tbl ps) -> ∃ ps',H' a = some (.tbl ps') /\ (zEM H ps -> zEM H' ps'):=fun a ps e=>⟨ps,h a ps e,.keep hf⟩
theorem Stp.trans {L L1 L2:List Addr} {H H1 H2:Hp} (a:Stp L H L1 H1) (b:Stp L1 H1 L2 H2):Stp L H L2 H2:=by
 obtain ⟨N,rfl⟩:=a.pre;obtain ⟨N',rfl⟩:=b.pre;have back:∀ c,c ∉ L -> H1 c = none -> H c = none:=fun c hc h1=>by
  cases q:H c with
  | none=>rfl
  | some o=>
   by_cases z:NT o
   ·rw [a.old c o q hc z] at h1; cases h1
   ·obtain ⟨ps,z⟩:=Classical.not_forall.mp z;rw [Classical.not_not.mp z] at q;obtain ⟨ps',e,_⟩:=a.tbl c ps q;rw [e] at h1; cases h1
 refine ⟨⟨N ++ N',by simp⟩,fun c hc=>?_,fun c o e hc nt=>?_,fun c xs e=>b.tup c xs (a.tup c xs e),fun c o u e=>b.frz c o u (a.frz c o u e),fun c ps e=>?_⟩
 ·by_cases hL:c ∈ L
  ·exact .inl hL
  ·rcases b.new c hc with z | z
   ·exact a.new c z
   ·exact .inr (back c hL z)
 ·refine b.old c o (a.old c o e hc nt) (fun z=>?_) nt;rcases a.new c z with q | q
  ·exact hc q
  ·rw [q] at e; cases e
 ·obtain ⟨p1,e1,g1⟩:=a.tbl c ps e;obtain ⟨p2,e2,g2⟩:=b.tbl c p1 e1;exact ⟨p2,e2,fun g=>g2 (g1 g)⟩
theorem Stp.grow {L:List Addr} {H H':Hp} (h:∀ a o,H a = some o -> H' a = some o):Stp L H L H':=⟨⟨[],by simp⟩,fun _ h=> .inl h,fun a o e _ _=>h a o e,fun a _ e=>h a _ e,fun a _ _ e=>h a _ e,zDu (fun a _ _ e=>h a _ e) fun a _ e=>h a _ e⟩
theorem Stp.bare {L N:List Addr} {H H':Hp} (s:Stp [] H N H'):Stp L H L H':=⟨⟨[],by simp⟩,fun _ h=> .inl h,fun a o e _ nt=>s.old a o e (by simp) nt,s.tup,s.frz,s.tbl⟩
theorem Stp.upd {L:List Addr} {H:Hp} {p:Addr} {o:HO} (h:H p = none):Stp L H L (upd H p o):=.grow fun a u e=>by rw [zP (zY e h)]; exact e
theorem zEF {L N:List Addr} {n:Nat} {a:Addr} (h:L[n]? = some a):(L ++ N)[n]? = some a:=by
 rw [zUB (zT7.mp h).1]; exact h
mutual
theorem Rep.stp {L L':List Addr} {H H':Hp} (s:Stp L H L' H'):∀ {d:D} {v:V},Rep L H d v -> Rep L' H' d v
 | .non,_,h=>by unfold Rep at h ⊢; exact h
 | .bl _,_,h=>by unfold Rep at h ⊢; exact h
 | .int _,_,h=>by unfold Rep at h ⊢; exact h
 | .str _,_,h=>by unfold Rep at h ⊢; exact h
 | .tup ds,_,h=>by
  unfold Rep at h ⊢;obtain ⟨a,vs,rfl,e,r⟩:=h;exact ⟨a,vs,rfl,s.tup a vs e,zH.stp s r⟩
 | .ref n,_,h=>by
  unfold Rep at h ⊢;obtain ⟨a,rfl,e⟩:=h;obtain ⟨N,rfl⟩:=s.pre;exact ⟨a,rfl,zEF e⟩
 | .fn _ ds,_,h=>by
  unfold Rep at h ⊢;exact ⟨h.1,h.2.1.keep s.frz,zH.stp s h.2.2⟩
theorem zH.stp {L L':List Addr} {H H':Hp} (s:Stp L H L' H'):∀ {ds:List D} {vs:List V},zH L H ds vs -> zH L' H' ds vs
 | [],_,h=>by unfold zH at h ⊢; exact h
 | d :: ds,_,h=>by
  unfold zH at h ⊢;obtain ⟨v,r,rfl,h1,h2⟩:=h;exact ⟨v,r,rfl,Rep.stp s h1,zH.stp s h2⟩
end
def zCb:D -> Option Key
 | .int i=>some (.inl i)
 | .str x=>some (.inr x)
 | _=>none
def zCD:List D -> Option (List Key)
 | []=>some []
 | d :: r=>match zCb d,zCD r with
  | some k,some ks=>some (k :: ks)
  | _,_=>none
def tkD:D -> Option (List Key)
 | .tup ds=>zCD ds
 | _=>none
def zAB {κ:Type} (kf:D -> Option κ) (L:List Addr) (H:Hp):List (D × D) -> List (κ × V) -> Prop
 | [],vs=>vs = []
 | p :: r,vs=>∃ k v r',vs = (k,v) :: r' /\ kf p.1 = some k /\ Rep L H p.2 v /\ zAB kf L H r r'
theorem zAB.stp {κ:Type} {kf:D -> Option κ} {L L':List Addr} {H H':Hp} (s:Stp L H L' H'):∀ {ps:List (D × D)} {vs:List (κ × V)},zAB kf L H ps vs -> zAB kf L' H' ps vs
 | [],_,h=>h
 | p :: r,_,h=>by
  obtain ⟨k,v,r',rfl,e,h1,h2⟩:=h;exact ⟨k,v,r',rfl,e,h1.stp s,zAB.stp s h2⟩
theorem zAB.length {κ:Type} {kf:D -> Option κ} {L:List Addr} {H:Hp}:∀ {ps:List (D × D)} {vs:List (κ × V)},zAB kf L H ps vs -> vs.length = ps.length
 | [],_,h=>by unfold zAB at h; subst h; rfl
 | p :: r,_,h=>by
  obtain ⟨k,v,r',rfl,e,h1,h2⟩:=h;simp [zAB.length h2]
def zDH (K:PySem.W.Frag) (L:List Addr) (H:Hp) (a:Addr):MO -> Prop
 | .lst xs=>∃ vs,H a = some (.lst vs) /\ zH L H xs vs
 | .fro xs=>∃ o vs,H a = some (.frz o (.lst vs)) /\ zH L H xs vs
 | .dict ps=>∃ vs,H a = some (.dK vs) /\ zAB zCb L H ps vs
 | .dicT ps=>∃ vs,H a = some (.dT vs) /\ zAB tkD L H ps vs
 | .set _=>∃ o u,H a = some (.frz o u)
 | .froT ps=>∃ o vs,H a = some (.frz o (.dT vs)) /\ zAB tkD L H ps vs
 | .froK ps=>∃ o vs,H a = some (.frz o (.dK vs)) /\ zAB zCb L H ps vs
theorem zDH.there {K:PySem.W.Frag} {L:List Addr} {H:Hp} {a:Addr} {m:MO} (h:zDH K L H a m):∃ o,H a = some o:=by
 cases m with
 | lst xs=>obtain ⟨vs,e,_⟩:=h; exact ⟨_,e⟩
 | fro xs=>obtain ⟨o,vs,e,_⟩:=h; exact ⟨_,e⟩
 | dict ps=>obtain ⟨vs,e,_⟩:=h; exact ⟨_,e⟩
 | dicT ps=>obtain ⟨vs,e,_⟩:=h; exact ⟨_,e⟩
 | set _=>obtain ⟨o,u,e⟩:=h; exact ⟨_,e⟩
 | froT ps=>obtain ⟨o,vs,e,_⟩:=h; exact ⟨_,e⟩
 | froK ps=>obtain ⟨o,vs,e,_⟩:=h; exact ⟨_,e⟩
theorem zDH.stp {K:PySem.W.Frag} {L L':List Addr} {H H':Hp} {a:Addr} {m:MO} (s:Stp L H L' H') (hk:∀ o,NT o -> H a = some o -> H' a = some o) (h:zDH K L H a m):zDH K L' H' a m:=by
 cases m with
 | lst xs=>obtain ⟨vs,e,r⟩:=h; exact ⟨vs,hk _ (by intro _ z; cases z) e,r.stp s⟩
 | fro xs=>obtain ⟨o,vs,e,r⟩:=h; exact ⟨o,vs,hk _ (by intro _ z; cases z) e,r.stp s⟩
 | dict ps=>obtain ⟨vs,e,r⟩:=h; exact ⟨vs,hk _ (by intro _ z; cases z) e,r.stp s⟩
 | dicT ps=>obtain ⟨vs,e,r⟩:=h; exact ⟨vs,hk _ (by intro _ z; cases z) e,r.stp s⟩
 | set _=>obtain ⟨o,u,e⟩:=h; exact ⟨o,u,hk _ (by intro _ z; cases z) e⟩
 | froT ps=>obtain ⟨o,vs,e,r⟩:=h; exact ⟨o,vs,hk _ (by intro _ z; cases z) e,r.stp s⟩
 | froK ps=>obtain ⟨o,vs,e,r⟩:=h; exact ⟨o,vs,hk _ (by intro _ z; cases z) e,r.stp s⟩
def zCJ:List Str:=["levels", "least_word", "word_into", "shows_least", "shows_into"]
def zMV (K:PySem.W.Frag) (H:Hp):Prop:=∀ x ∈ zCJ,∀ c P,PySem.W.tabIn K x = some (c,P) -> ∃ ps,H P = some (.tbl ps) /\ zEM H ps
theorem zMV.stp {K:PySem.W.Frag} {L L':List Addr} {H H':Hp} (s:Stp L H L' H') (t:zMV K H):zMV K H':=fun x hx c P e=>
 let ⟨ps,e1,g⟩:=t x hx c P e;let ⟨ps',e2,g2⟩:=s.tbl P ps e1
 ⟨ps',e2,g2 g⟩
structure Cor (K:PySem.W.Frag) (L:List Addr) (M:List MO) (H:Hp):Prop where
 len:L.length = M.length
 nd:L.Nodup
 obj:∀ (n:Nat) a m,L[n]? = some a -> M[n]? = some m -> zDH K L H a m
 tab:zMV K H
def zAr (L:List Addr) (H:Hp) (σ:List (Option D)) (τ:Sv):Prop:=τ.length = σ.length /\ ∀ (i:Nat) d,σ[i]? = some (some d) -> ∃ v,τ[i]? = some (some v) /\ Rep L H d v
theorem zAr.stp {L L':List Addr} {H H':Hp} (s:Stp L H L' H') {σ:List (Option D)} {τ:Sv} (h:zAr L H σ τ):zAr L' H' σ τ :=
 ⟨h.1,fun i d e=>let ⟨v,e1,r⟩:=h.2 i d e; ⟨v,e1,r.stp s⟩⟩
theorem Cor.tracked {K:PySem.W.Frag} {L:List Addr} {M:List MO} {H:Hp} (c:Cor K L M H) {a:Addr} (h:a ∈ L):∃ o,H a = some o:=by
 obtain ⟨n,hn⟩:=List.getElem?_of_mem h;have hl:n < M.length:=by rw [<- c.len]; exact (zT7.mp hn).1
 have m:=c.obj n a M[n] hn (zT8 hl);exact m.there
theorem Cor.grow {K:PySem.W.Frag} {L:List Addr} {M:List MO} {H H':Hp} (c:Cor K L M H) (h:∀ a o,H a = some o -> H' a = some o):Cor K L M H':=by
 exact ⟨c.len,c.nd,fun n a m e1 e2=>(c.obj n a m e1 e2).stp (.grow h) fun o _ e=>h a o e,c.tab.stp (Stp.grow (L:=L) h)⟩
theorem Cor.bare {K:PySem.W.Frag} {L N:List Addr} {M:List MO} {H H':Hp} (c:Cor K L M H) (s:Stp [] H N H'):Cor K L M H' :=
 ⟨c.len,c.nd,fun n a m e1 e2=>(c.obj n a m e1 e2).stp s.bare fun o nt e=>s.old a o e (by simp) nt,c.tab.stp s⟩
theorem Cor.upd {K:PySem.W.Frag} {L:List Addr} {M:List MO} {H:Hp} {p:Addr} {o:HO} (c:Cor K L M H) (h:H p = none):Cor K L M (upd H p o):=c.grow fun a u e=>by rw [zP (zY e h)]; exact e
theorem Cor.write {K:PySem.W.Frag} {L:List Addr} {M:List MO} {H:Hp} {n:Nat} {p:Addr} {xs xs':List D} {vs':List V} (c:Cor K L M H) (h1:L[n]? = some p) (h2:M[n]? = some (.lst xs)) (r:zH L H xs' vs') :
  Cor K L (M.set n (.lst xs')) (L2.upd H p (.lst vs')) /\ Stp L H L (L2.upd H p (.lst vs')):=by
 obtain ⟨vs,hp,_⟩:=c.obj n p _ h1 h2;have st:Stp L H L (L2.upd H p (.lst vs')):=by
  refine ⟨⟨[],by simp⟩,fun a ha=> .inl ha,fun a o e ha _=>?_,fun a o e=>?_,fun a o u e=>?_,zDu (fun a o u e=>?_) fun a ps e=>?_⟩
  ·rw [zP (show a ≠ p from fun z=>ha (by rw [z]; exact zUv h1))]; exact e
  all_goals (rw [zP (zCj e hp (by intro z; cases z))]; exact e)
 refine ⟨⟨by simp [c.len],c.nd,fun k a m e1 e2=>?_,c.tab.stp st⟩,st⟩;rw [zVd] at e2;split at e2
 ·rename_i hk;subst hk;rw [h1] at e1; cases e1;split at e2
  ·cases e2; exact ⟨vs',zg,r.stp st⟩
  ·cases e2
 ·rename_i hk;have hne:a ≠ p:=fun z=>hk (by
   subst z;exact (List.getElem?_inj (zT7.mp h1).1 c.nd).mp (h1.trans e1.symm))
  exact (c.obj k a m e1 e2).stp st fun o _ e=>by rw [zP hne]; exact e
set_option genInjectivity true in
inductive EV where
 | dat (d:D) | fl (xs:List D)
def zT (H0:Hp) (L:List Addr) (H:Hp):EV -> V -> Prop
 | .dat d,v=>Rep L H d v
 | .fl xs,v=>∃ p vs,v = .ref p /\ H0 p = none /\ H p = some (.lst vs) /\ p ∉ L /\ zH L H xs vs
abbrev Sd:=List (Option D)
abbrev Mem:=List MO
abbrev FE:=Sd -> Mem -> Option (EV × Mem)
abbrev FD:=Sd -> Mem -> Option (D × Mem)
abbrev FT:=Sd -> Mem -> Option (Bool × Mem)
abbrev FA:=Sd -> Mem -> Option (List D × Mem)
theorem Stp.there {L L':List Addr} {H H':Hp} (s:Stp L H L' H') {p:Addr} {o:HO} (h:H p = some o) (hp:p ∉ L):∃ o',H' p = some o':=by
 by_cases z:NT o
 ·exact ⟨o,s.old p o h hp z⟩
 ·obtain ⟨ps,z⟩:=Classical.not_forall.mp z;rw [Classical.not_not.mp z] at h;obtain ⟨ps',e,_⟩:=s.tbl p ps h;exact ⟨_,e⟩
theorem Stp.out {L L':List Addr} {H H':Hp} (s:Stp L H L' H') {p:Addr} {o:HO} (h:H p = some o) (hp:p ∉ L):p ∉ L':=fun z=>by
 rcases s.new p z with q | q
 ·exact hp q
 ·rw [h] at q; cases q
theorem zT.stp {H0:Hp} {L L':List Addr} {H H':Hp} (s:Stp L H L' H') {e:EV} {v:V} (h:zT H0 L H e v):zT H0 L' H' e v:=by
 cases e with
 | dat d=>exact Rep.stp s h
 | fl xs=>
  obtain ⟨p,vs,rfl,e0,e1,e2,r⟩:=h;exact ⟨p,vs,rfl,e0,s.old p _ e1 e2 (by intro _ z; cases z),s.out e1 e2,r.stp s⟩
theorem zT.back {H0 H1:Hp} {L0 L1 L:List Addr} {H:Hp} (s:Stp L0 H0 L1 H1) {M:List MO} {K:PySem.W.Frag} (c:Cor K L0 M H0) {e:EV} {v:V} (h:zT H1 L H e v) (hL:∀ a ∈ L1,a ∈ L):zT H0 L H e v:=by
 cases e with
 | dat d=>exact h
 | fl xs=>
  obtain ⟨p,vs,rfl,e0,e1,e2,r⟩:=h;refine ⟨p,vs,rfl,?_,e1,e2,r⟩;cases q:H0 p with
  | none=>rfl
  | some o=>
   by_cases hp:p ∈ L0
   ·obtain ⟨N,hN⟩:=s.pre;exact absurd (hL p (by rw [hN]; exact zVJ _ hp)) e2
   ·obtain ⟨o',z⟩:=s.there q hp;rw [z] at e0; cases e0
section
variable (K:PySem.W.Frag)
def trE (f:FE):TE:=fun τ H Q=>∃ L σ M d M',Cor K L M H /\ zAr L H σ τ /\ f σ M = some (d,M') /\ ∀ L' H' v,Stp L H L' H' -> Cor K L' M' H' -> zT H L' H' d v -> Q v H'
def trD (f:FD):TE:=fun τ H Q=>∃ L σ M d M',Cor K L M H /\ zAr L H σ τ /\ f σ M = some (d,M') /\ ∀ L' H' v,Stp L H L' H' -> Cor K L' M' H' -> Rep L' H' d v -> Q v H'
def trT (f:FT):TT:=fun τ H Q=>∃ L σ M d M',Cor K L M H /\ zAr L H σ τ /\ f σ M = some (d,M') /\ ∀ L' H',Stp L H L' H' -> Cor K L' M' H' -> Q d H'
def trA (f:FA):TA:=fun τ H Q=>∃ L σ M ds M',Cor K L M H /\ zAr L H σ τ /\ f σ M = some (ds,M') /\ ∀ L' H' vs,Stp L H L' H' -> Cor K L' M' H' -> zH L' H' ds vs -> Q vs H'
end
section
variable {X:Cx} {e:Expr}
theorem PE.imp {t t':TE} (h:PE X e t) (hi:∀ τ H Q,t' τ H Q -> t τ H Q):PE X e t':=fun zB s σ H Q I q=>h zB s σ H Q I (hi _ _ _ q)
theorem PT.imp {t t':TT} (h:PT X e t) (hi:∀ τ H Q,t' τ H Q -> t τ H Q):PT X e t':=fun zB s σ H Q I q=>h zB s σ H Q I (hi _ _ _ q)
theorem PS.imp {st:Stmt} {t t':TS} (h:PS X st t) (hi:∀ D τ H,t' D τ H -> t D τ H):PS X st t':=fun zB s σ H D I q=>h zB s σ H D I (hi _ _ _ q)
theorem PSs.imp {st:List Stmt} {t t':TS} (h:PSs X st t) (hi:∀ D τ H,t' D τ H -> t D τ H):PSs X st t':=fun zB s σ H D I q=>h zB s σ H D I (hi _ _ _ q)
structure QE (X:Cx) (e:Expr) (f:FE):Prop where
 un:PE X e (trE X.K f)
structure QD (X:Cx) (e:Expr) (f:FD):Prop where
 un:PE X e (trD X.K f)
structure QT (X:Cx) (e:Expr) (f:FT):Prop where
 un:PT X e (trT X.K f)
structure QA (X:Cx) (es:List Expr) (f:FA):Prop where
 un:PA X es (trA X.K f)
def toD (f:FE):FD:=fun σ M=>match f σ M with
 | some (.dat d,M')=>some (d,M')
 | some (.fl xs,M')=>some (.ref M'.length,M' ++ [.lst xs])
 | none=>none
mutual
theorem Rep.more {L:List Addr} {H:Hp} (N:List Addr):∀ {d:D} {v:V},Rep L H d v -> Rep (L ++ N) H d v
 | .non,_,h=>by unfold Rep at h ⊢; exact h
 | .bl _,_,h=>by unfold Rep at h ⊢; exact h
 | .int _,_,h=>by unfold Rep at h ⊢; exact h
 | .str _,_,h=>by unfold Rep at h ⊢; exact h
 | .tup ds,_,h=>by
  unfold Rep at h ⊢;obtain ⟨a,vs,rfl,e,r⟩:=h;exact ⟨a,vs,rfl,e,zH.more N r⟩
 | .ref n,_,h=>by
  unfold Rep at h ⊢;obtain ⟨a,rfl,e⟩:=h;exact ⟨a,rfl,zEF e⟩
 | .fn _ ds,_,h=>by
  unfold Rep at h ⊢;exact ⟨h.1,h.2.1,zH.more N h.2.2⟩
theorem zH.more {L:List Addr} {H:Hp} (N:List Addr):∀ {ds:List D} {vs:List V},zH L H ds vs -> zH (L ++ N) H ds vs
 | [],_,h=>by unfold zH at h ⊢; exact h
 | d :: ds,_,h=>by
  unfold zH at h ⊢;obtain ⟨v,r,rfl,h1,h2⟩:=h;exact ⟨v,r,rfl,Rep.more N h1,zH.more N h2⟩
end
theorem zAB.more {κ:Type} {kf:D -> Option κ} {L:List Addr} {H:Hp} (N:List Addr):∀ {ps:List (D × D)} {vs:List (κ × V)},zAB kf L H ps vs -> zAB kf (L ++ N) H ps vs
 | [],_,h=>h
 | p :: r,_,h=>by
  obtain ⟨k,v,r',rfl,e,h1,h2⟩:=h;exact ⟨k,v,r',rfl,e,h1.more N,zAB.more N h2⟩
theorem zDH.more {K:PySem.W.Frag} {L:List Addr} {H:Hp} {a:Addr} {m:MO} (N:List Addr) (h:zDH K L H a m):zDH K (L ++ N) H a m:=by
 cases m with
 | lst xs=>obtain ⟨vs,e,r⟩:=h; exact ⟨vs,e,r.more N⟩
 | fro xs=>obtain ⟨o,vs,e,r⟩:=h; exact ⟨o,vs,e,r.more N⟩
 | dict ps=>obtain ⟨vs,e,r⟩:=h; exact ⟨vs,e,r.more N⟩
 | dicT ps=>obtain ⟨vs,e,r⟩:=h; exact ⟨vs,e,r.more N⟩
 | set _=>exact h
 | froT ps=>obtain ⟨o,vs,e,r⟩:=h; exact ⟨o,vs,e,r.more N⟩
 | froK ps=>obtain ⟨o,vs,e,r⟩:=h; exact ⟨o,vs,e,r.more N⟩
theorem zQH {K:PySem.W.Frag} {L L':List Addr} {M':List MO} {H H':Hp} {p:Addr} {xs:List D} {vs:List V} (s:Stp L H L' H') (c:Cor K L' M' H') (h0:H p = none) (h1:H' p = some (.lst vs)) (h2:p ∉ L') (r:zH L' H' xs vs) :
  Cor K (L' ++ [p]) (M' ++ [.lst xs]) H' /\ Stp L H (L' ++ [p]) H':=by
 refine ⟨⟨by simp [c.len],?_,fun n a m e1 e2=>?_,c.tab⟩,?_⟩
 ·rw [zVI];exact ⟨c.nd,by simp,fun a ha b hb z=>by
   have:b = p:=by simpa using hb
   subst this; subst z; exact h2 ha⟩
 ·by_cases hn:n < L'.length
  ·rw [zUB hn] at e1;rw [zUB (by rw [<- c.len]; exact hn)] at e2;exact (c.obj n a m e1 e2).more [p]
  ·have hn':n = L'.length:=by
    have:=(zT7.mp e1).1;rw [zUK] at this;simp at this; omega
   subst hn';simp at e1;rw [c.len] at e2;simp at e2;subst e1; subst e2;exact ⟨vs,h1,r.more [p]⟩
 ·obtain ⟨N,hN⟩:=s.pre;refine ⟨⟨N ++ [p],by rw [hN]; simp⟩,fun a ha=>?_,s.old,s.tup,s.frz,s.tbl⟩;rcases zUU.mp ha with z | z
  ·exact s.new a z
  ·have:a = p:=by simpa using z
   subst this; exact .inr h0
theorem Rep.last {L:List Addr} {M:List MO} {H:Hp} {K:PySem.W.Frag} {p:Addr} (c:Cor K L M H):Rep (L ++ [p]) H (.ref M.length) (.ref p):=by
 unfold Rep;exact ⟨p,rfl,by rw [<- c.len]; simp⟩
theorem zAY {f:FE} (h:QE X e f):QD X e (toD f):=.mk <| PE.imp h.un fun τ H Q zz=>by
 obtain ⟨L,σ,M,d,M',c,rs,hf,q⟩:=zz;unfold toD at hf;split at hf
 ·rename_i d' M1 e1;cases hf;exact ⟨L,σ,M,_,_,c,rs,e1,fun L' H' v s c' r=>q L' H' v s c' r⟩
 ·rename_i xs M1 e1;cases hf;refine ⟨L,σ,M,_,_,c,rs,e1,fun L' H' v s c' r=>?_⟩;obtain ⟨p,vs,rfl,e0,e2,e3,r⟩:=r;obtain ⟨c2,s2⟩:=zQH s c' e0 e2 e3 r;exact q _ H' _ s2 c2 (Rep.last c')
 ·cases hf
def zC (i:Nat):FE:=fun σ M=>match σ[i]? with
 | some (some d)=>some (.dat d,M)
 | _=>none
theorem zAq {i:Nat} {x:Str} {pos:Pos} (h:PE X (.Name x pos) (zRq i)):QE X (.Name x pos) (zC i):=.mk <| PE.imp h fun τ H Q zz=>by
 obtain ⟨L,σ,M,d,M',c,rs,hf,q⟩:=zz;unfold zC at hf;split at hf
 ·rename_i d' e1;cases hf;obtain ⟨v,e2,r⟩:=rs.2 i d' e1;exact ⟨v,e2,q L H v (.refl L H) c r⟩
 ·cases hf
def fC (d:D):FE:=fun _ M=>some (.dat d,M)
theorem zE9 {v:V} {d:D} (hd:∀ L H,Rep L H d v) (h:PE X e (tC v)):QE X e (fC d):=.mk <| PE.imp h fun τ H Q zz=>by
 obtain ⟨L,σ,M,d',M',c,rs,hf,q⟩:=zz;unfold fC at hf;cases hf;exact q L H v (.refl L H) c (hd L H)
theorem zSk {i j pos}:QE X (.Constant (.int i) j pos) (fC (.int i)):=zE9 (fun _ _=>by unfold Rep; rfl) zRa
theorem zSZ {b j pos}:QE X (.Constant (.bool b) j pos) (fC (.bl b)):=zE9 (fun _ _=>by unfold Rep; rfl) zS8
theorem zSN {j pos}:QE X (.Constant .none j pos) (fC .non):=zE9 (fun _ _=>by unfold Rep; rfl) zR0
theorem zSq {x j pos}:QE X (.Constant (.str x) j pos) (fC (.str x)):=zE9 (fun _ _=>by unfold Rep; rfl) zRt
def zJ:FA:=fun _ M=>some ([],M)
def zD (f:FD) (g:FA):FA:=fun σ M=>match f σ M with
 | some (d,M1)=>match g σ M1 with
  | some (ds,M2)=>some (d :: ds,M2)
  | none=>none
 | none=>none
theorem PA.imp {es:List Expr} {t t':TA} (h:PA X es t) (hi:∀ τ H Q,t' τ H Q -> t τ H Q):PA X es t':=fun pos zB s σ H Q I q=>h pos zB s σ H Q I (hi _ _ _ q)
theorem zFZ:QA X [] zJ:=.mk <| PA.imp zGC fun τ H Q zz=>by
 obtain ⟨L,σ,M,d,M',c,rs,hf,q⟩:=zz;unfold zJ at hf;cases hf;exact q L H [] (.refl L H) c .nil
theorem zCc {es:List Expr} {f:FD} {g:FA} (h1:QD X e f) (h2:QA X es g) (hs:starEach (e :: es) X.env = (false,eval e X.env) :: starEach es X.env:=by rfl):QA X (e :: es) (zD f g) :=
 .mk <| PA.imp (zB5 h1.un h2.un hs) fun τ H Q zz=>by
  obtain ⟨L,σ,M,d,M',c,rs,hf,q⟩:=zz;unfold zD at hf;split at hf
  ·rename_i d1 M1 e1;split at hf
   ·rename_i ds M2 e2;cases hf;refine ⟨L,σ,M,_,_,c,rs,e1,fun L1 H1 v s1 c1 r1=>⟨L1,σ,M1,_,_,c1,rs.stp s1,e2,fun L2 H2 vs s2 c2 r2=>?_⟩⟩;exact q L2 H2 _ (s1.trans s2) c2 (.cons (r1.stp s2) r2)
   ·cases hf
  ·cases hf
def zAX (g:FA):FE:=fun σ M=>match g σ M with
 | some (ds,M1)=>if ds.length <= sizeLine then some (.dat (.tup ds),M1) else none
 | none=>none
def zA3 (g:FA):FE:=fun σ M=>match g σ M with
 | some (ds,M1)=>if ds.length <= sizeLine then some (.fl ds,M1) else none
 | none=>none
theorem Rep.newTup {L:List Addr} {H:Hp} {p:Addr} {ds:List D} {vs:List V} (h:H p = none) (r:zH L H ds vs):Rep L (upd H p (.tup vs)) (.tup ds) (.ref p):=by
 unfold Rep;exact ⟨p,vs,rfl,zg,r.stp (.upd h)⟩
theorem zSL {es:List Expr} {g:FA} {x1 pos} (h:QA X es g):QE X (.Tuple es x1 pos) (zAX g):=.mk <| PE.imp (zRX h.un) fun τ H Q zz=>by
 obtain ⟨L,σ,M,d,M',c,rs,hf,q⟩:=zz;unfold zAX at hf;split at hf
 ·rename_i ds M1 e1;split at hf
  ·rename_i hz;cases hf;refine ⟨L,σ,M,_,_,c,rs,e1,fun L1 H1 vs s1 c1 r1=>⟨by rw [r1.length]; exact hz,fun p hp=>?_⟩⟩;exact q L1 _ _ (s1.trans (.upd hp)) (c1.upd hp) (Rep.newTup hp r1)
  ·cases hf
 ·cases hf
theorem zG0 {L L1:List Addr} {H H1:Hp} {K:PySem.W.Frag} {M M1:List MO} (s:Stp L H L1 H1) (c:Cor K L M H) (c1:Cor K L1 M1 H1) {p:Addr} (hp:H1 p = none):H p = none /\ p ∉ L1:=by
 have hp1:p ∉ L1:=fun z=>by obtain ⟨o,e⟩:=c1.tracked z; rw [hp] at e; cases e
 refine ⟨?_,hp1⟩;cases q:H p with
 | none=>rfl
 | some o=>
  have:p ∉ L:=fun z=>hp1 (by obtain ⟨N,hN⟩:=s.pre; rw [hN]; exact zVJ _ z);obtain ⟨o',z⟩:=s.there q this;rw [z] at hp; cases hp
theorem zT.newLst {L L1:List Addr} {H H1:Hp} {K:PySem.W.Frag} {M M1:List MO} {p:Addr} {ds:List D} {vs:List V} (s:Stp L H L1 H1) (c:Cor K L M H) (c1:Cor K L1 M1 H1) (hp:H1 p = none) (r:zH L1 H1 ds vs) :
  zT H L1 (upd H1 p (.lst vs)) (.fl ds) (.ref p):=by
 obtain ⟨a,b⟩:=zG0 s c c1 hp;exact ⟨p,vs,rfl,a,zg,b,r.stp (.upd hp)⟩
theorem zSf {es:List Expr} {g:FA} {pos} (h:QA X es g):QE X (.List es pos) (zA3 g):=.mk <| PE.imp (zRs h.un) fun τ H Q zz=>by
 obtain ⟨L,σ,M,d,M',c,rs,hf,q⟩:=zz;unfold zA3 at hf;split at hf
 ·rename_i ds M1 e1;split at hf
  ·rename_i hz;cases hf;refine ⟨L,σ,M,_,_,c,rs,e1,fun L1 H1 vs s1 c1 r1=>⟨by rw [r1.length]; exact hz,fun p hp=>?_⟩⟩;exact q L1 _ _ (s1.trans (.upd hp)) (c1.upd hp) (zT.newLst s1 c c1 hp r1)
  ·cases hf
 ·cases hf
end
abbrev FAE:=Sd -> Mem -> Option (List EV × Mem)
def zDL (H0:Hp) (L:List Addr) (H:Hp):List EV -> List V -> Prop
 | [],vs=>vs = []
 | e :: es,vs=>∃ v r,vs = v :: r /\ zT H0 L H e v /\ zDL H0 L H es r
theorem Stp.sub {L L':List Addr} {H H':Hp} (s:Stp L H L' H'):∀ a ∈ L,a ∈ L':=fun a h=>by
 obtain ⟨N,hN⟩:=s.pre;rw [hN]; exact zVJ _ h
theorem zDL.back {H0 H1:Hp} {L0 L1 L:List Addr} {H:Hp} (s:Stp L0 H0 L1 H1) {M:List MO} {K:PySem.W.Frag} (c:Cor K L0 M H0) (hL:∀ a ∈ L1,a ∈ L):∀ {es:List EV} {vs:List V},zDL H1 L H es vs -> zDL H0 L H es vs
 | [],_,h=>h
 | e :: es,_,h=>by
  obtain ⟨v,r,rfl,h1,h2⟩:=h;exact ⟨v,r,rfl,h1.back s c hL,zDL.back s c hL h2⟩
def zSW (K:PySem.W.Frag) (f:FAE):TA:=fun τ H Q=>∃ L σ M ds M',Cor K L M H /\ zAr L H σ τ /\ f σ M = some (ds,M') /\ ∀ L' H' vs,Stp L H L' H' -> Cor K L' M' H' -> zDL H L' H' ds vs -> Q vs H'
structure QAE (X:Cx) (es:List Expr) (f:FAE):Prop where
 un:PA X es (zSW X.K f)
section
variable {X:Cx} {a b e:Expr} {es:List Expr} {pos:Pos}
def zQ:FAE:=fun _ M=>some ([],M)
def zG (f:FE) (g:FAE):FAE:=fun σ M=>match f σ M with
 | some (d,M1)=>match g σ M1 with
  | some (ds,M2)=>some (d :: ds,M2)
  | none=>none
 | none=>none
theorem zHJ:QAE X [] zQ:=.mk <| PA.imp zGC fun τ H Q zz=>by
 obtain ⟨L,σ,M,d,M',c,rs,hf,q⟩:=zz;unfold zQ at hf;cases hf;exact q L H [] (.refl L H) c rfl
theorem zFE {f:FE} {g:FAE} (h1:QE X e f) (h2:QAE X es g) (hs:starEach (e :: es) X.env = (false,eval e X.env) :: starEach es X.env:=by rfl):QAE X (e :: es) (zG f g) :=
 .mk <| PA.imp (zB5 h1.un h2.un hs) fun τ H Q zz=>by
  obtain ⟨L,σ,M,d,M',c,rs,hf,q⟩:=zz;unfold zG at hf;split at hf
  ·rename_i d1 M1 e1;split at hf
   ·rename_i ds M2 e2;cases hf;refine ⟨L,σ,M,_,_,c,rs,e1,fun L1 H1 v s1 c1 r1=>⟨L1,σ,M1,_,_,c1,rs.stp s1,e2,fun L2 H2 vs s2 c2 r2=>?_⟩⟩;exact q L2 H2 _ (s1.trans s2) c2 ⟨v,vs,rfl,r1.stp s2,r2.back s1 c s2.sub⟩
   ·cases hf
  ·cases hf
abbrev K2:=EV -> EV -> Mem -> Option (EV × Mem)
def zCB (K:PySem.W.Frag) (r:R2) (k:K2):Prop:=∀ {L:List Addr} {M M':Mem} {H H0:Hp} {x y d:EV} {v w:V} {Q:VK},Cor K L M H -> zT H0 L H x v -> zT H0 L H y w -> k x y M = some (d,M') ->
 (∀ L' H' u,Stp L H L' H' -> Cor K L' M' H' -> zT H L' H' d u -> Q u H') -> r v w H Q
def fOp (k:K2) (f g:FE):FE:=fun σ M=>match f σ M with
 | some (x,M1)=>match g σ M1 with
  | some (y,M2)=>k x y M2
  | none=>none
 | none=>none
theorem zDF {K:PySem.W.Frag} {r:R2} {k:K2} {f g:FE} (hk:zCB K r k) {τ:Sv} {H:Hp} {Q:VK} (h:trE K (fOp k f g) τ H Q):tOp r (trE K f) (trE K g) τ H Q:=by
 obtain ⟨L,σ,M,d,M',c,rs,hf,q⟩:=h;unfold fOp at hf;split at hf
 ·rename_i x M1 e1;split at hf
  ·rename_i y M2 e2;refine ⟨L,σ,M,_,_,c,rs,e1,fun L1 H1 v s1 c1 r1=>⟨L1,σ,M1,_,_,c1,rs.stp s1,e2,fun L2 H2 w s2 c2 r2=>?_⟩⟩;refine hk (H0:=H) c2 (r1.stp s2) (r2.back s1 c s2.sub) hf fun L3 H3 u s3 c3 r3=>?_;exact q L3 H3 u ((s1.trans s2).trans s3) c3 (r3.back (s1.trans s2) c s3.sub)
  ·cases hf
 ·cases hf
theorem zIY {op:Operator} {r:R2} {k:K2} {f g:FE} (hk:zCB X.K r k) (ho:OpR X (binaryOp op) r) (h1:QE X a f) (h2:QE X b g):QE X (.BinOp a op b pos) (fOp k f g):=.mk <| PE.imp (zSa ho h1.un h2.un) fun _ _ _ h=>zDF hk h
theorem zNn {op:CmpOp} {r:R2} {k:K2} {f g:FE} (hk:zCB X.K r k) (ho:OpR X (compareOp op) r) (h1:QE X a f) (h2:QE X b g) (hm:behindInMarks op b = false):QE X (.Compare a [op] [b] pos) (fOp k f g) :=
 .mk <| PE.imp (zPD ho h1.un h2.un hm) fun _ _ _ h=>zDF hk h
def tst (f:FE):FT:=fun σ M=>match f σ M with
 | some (.dat (.bl c),M')=>some (c,M')
 | _=>none
theorem zEP {K:PySem.W.Frag} {f:FE} {τ:Sv} {H:Hp} {Q:Bool -> Hp -> Prop} (h:trT K (tst f) τ H Q):zLJ (trE K f) τ H Q:=by
 obtain ⟨L,σ,M,d,M',c,rs,hf,q⟩:=h;unfold tst at hf;split at hf
 ·rename_i k M1 e1;cases hf;refine ⟨L,σ,M,_,_,c,rs,e1,fun L1 H1 v s1 c1 r1=>?_⟩;have:v = .bl d:=by unfold zT Rep at r1; exact r1
  exact ⟨d,this,q L1 H1 s1 c1⟩
 ·cases hf
theorem zFn {t t':TE} (h:∀ τ H Q,t τ H Q -> t' τ H Q) {τ:Sv} {H:Hp} {Q:Bool -> Hp -> Prop} (q:zLJ t τ H Q):zLJ t' τ H Q:=h _ _ _ q
theorem zEl {op:CmpOp} {r:R2} {k:K2} {f g:FE} (hk:zCB X.K r k) (ho:OpR X (compareOp op) r) (h1:QE X a f) (h2:QE X b g) (hm:behindInMarks op b = false):QT X (.Compare a [op] [b] pos) (tst (fOp k f g)) :=
 .mk <| PT.imp (zPH ho h1.un h2.un hm) fun _ _ _ h=>zFn (fun _ _ _ z=>zDF hk z) (zEP h)
theorem zHg {f:FE} (h:QE X e f) (he:∀ whole,isTrue e X.env whole = (do let v <- whole; standAt e.pos; holding [v] (truthy v)):=by intro _; rfl):QT X e (tst f) :=
 .mk <| PT.imp (zRl h.un he) fun _ _ _ h=>zEP h
def kI (C:Int -> Int -> Bool) (g:Int -> Int -> D):K2:=fun x y M=>match x,y with
 | .dat (.int i),.dat (.int j)=>if C i j then some (.dat (g i j),M) else none
 | _,_=>none
def kI0 (g:Int -> Int -> D):K2:=kI (fun _ _=>true) g
theorem zJF {K:PySem.W.Frag} {C:Int -> Int -> Bool} {C':Int -> Int -> Prop} {g:Int -> Int -> D} {g':Int -> Int -> V} (hC:∀ i j,C i j = true -> C' i j) (hg:∀ L H i j,Rep L H (g i j) (g' i j)):zCB K (rI C' g') (kI C g):=by
 intro L M M' H H0 x y d v w Q c rx ry hk q;unfold kI at hk;split at hk
 ·rename_i i j;split at hk
  ·rename_i hc;cases hk;refine ⟨i,j,by unfold zT Rep at rx; exact rx,by unfold zT Rep at ry; exact ry,hC i j hc,q L H _ (.refl L H) c (hg L H i j)⟩
  ·cases hk
 ·cases hk
theorem zFf {K:PySem.W.Frag} {g:Int -> Int -> D} {g':Int -> Int -> V} (hg:∀ L H i j,Rep L H (g i j) (g' i j)):zCB K (rI0 g') (kI0 g):=by
 intro L M M' H H0 x y d v w Q c rx ry hk q;obtain ⟨i,j,h1,h2,_,h4⟩:=zJF (C:=fun _ _=>true) (C':=fun _ _=>True) (fun _ _ _=>trivial) hg c rx ry hk q;exact ⟨i,j,h1,h2,h4⟩
theorem zAk {L:List Addr} {H:Hp} {i:Int}:Rep L H (.int i) (.int i):=by unfold Rep; rfl
theorem zBr {L:List Addr} {H:Hp} {i:Bool}:Rep L H (.bl i) (.bl i):=by unfold Rep; rfl
def zON (i j:Int):Bool:=(decide (-(2 ^ 64) < i) && decide (i < 2 ^ 64)) || (decide (-(2 ^ 64) < j) && decide (j < 2 ^ 64))
abbrev zRg:K2:=kI0 fun i j=> .int (i + j)
abbrev zHN:K2:=kI0 fun i j=> .int (i - j)
abbrev zHw:K2:=kI zON fun i j=> .int (i * j)
abbrev zDV:K2:=kI (fun _ j=>decide (0 < j)) fun i j=> .int (i % j)
abbrev zJk:K2:=kI (fun _ j=>decide (0 < j) && decide (j < 1073741824)) fun i j=> .int (i / j)
abbrev zLq:K2:=kI (fun i j=>decide (0 <= j) && decide (j <= 1000000) && decide (i.natAbs < 2 ^ 64)) fun i j=> .int (i ^ j.toNat)
abbrev kLt:K2:=kI0 fun i j=> .bl (decide (i < j))
abbrev kLe:K2:=kI0 fun i j=> .bl (decide (i <= j))
abbrev kGt:K2:=kI0 fun i j=> .bl (decide (j < i))
section
variable {f g:FE}
theorem zTO (h1:QE X a f) (h2:QE X b g):QE X (.BinOp a .Sub b pos) (fOp zHN f g):=zIY (zFf fun _ _ _ _=>zAk) zRT h1 h2
theorem zTM (h1:QE X a f) (h2:QE X b g):QE X (.BinOp a .Mult b pos) (fOp zHw f g):=zIY (zJF (fun i j h=>by
 unfold zON at h;simp only [Bool.or_eq_true,zUe,zVH] at h;exact h) fun _ _ _ _=>zAk) zQ8 h1 h2
theorem zSQ (h1:QE X a f) (h2:QE X b g):QE X (.BinOp a .Mod b pos) (fOp zDV f g):=zIY (zJF (fun i j h=>zU0 h) fun _ _ _ _=>zAk) zQm h1 h2
theorem zTG (h1:QE X a f) (h2:QE X b g):QE X (.BinOp a .FloorDiv b pos) (fOp zJk f g):=zIY (zJF (fun i j h=>by
 simp only [zUe,zVH] at h;exact h) fun _ _ _ _=>zAk) zOx h1 h2
theorem zS1 (h1:QE X a f) (h2:QE X b g):QE X (.BinOp a .Pow b pos) (fOp zLq f g):=zIY (zJF (fun i j h=>by
 simp only [zUe,zVH] at h;exact ⟨h.1.1,h.1.2,h.2⟩) fun _ _ _ _=>zAk) zRU h1 h2
theorem zTe (h1:QE X a f) (h2:QE X b g):QE X (.Compare a [.LtE] [b] pos) (fOp kLe f g):=zNn (zFf fun _ _ _ _=>zBr) zSs h1 h2 (zDY _)
theorem zSo (h1:QE X a f) (h2:QE X b g):QT X (.Compare a [.Lt] [b] pos) (tst (fOp kLt f g)):=zEl (zFf fun _ _ _ _=>zBr) zS4 h1 h2 (zDY _)
theorem zTJ (h1:QE X a f) (h2:QE X b g):QT X (.Compare a [.Gt] [b] pos) (tst (fOp kGt f g)):=zEl (zFf fun _ _ _ _=>zBr) zSK h1 h2 (zDY _)
end
end
def zBf (M:Mem):EV -> Option (List D)
 | .fl xs=>some xs
 | .dat (.ref n)=>match M[n]? with
  | some (.lst xs)=>some xs
  | some (.fro xs)=>some xs
  | _=>none
 | _=>none
def zBp:EV -> Option (List D)
 | .dat (.tup xs)=>some xs
 | _=>none
def zAa (M:Mem) (x:EV):Option (List D):=match zBp x with
 | some xs=>some xs
 | none=>zBf M x
theorem zB3 {K:PySem.W.Frag} {L:List Addr} {M:Mem} {H H0:Hp} {x:EV} {v:V} {xs:List D} (c:Cor K L M H) (r:zT H0 L H x v) (h:zBf M x = some xs):∃ a vs,v = .ref a /\ Rd H a (.lst vs) /\ zH L H xs vs:=by
 cases x with
 | fl ys=>
  cases h;obtain ⟨p,vs,rfl,_,e,_,r⟩:=r;exact ⟨p,vs,rfl,.inl e,r⟩
 | dat d=>
  cases d with
  | ref n=>
   unfold zT Rep at r;obtain ⟨a,rfl,e⟩:=r;unfold zBf at h;dsimp only at h;cases q:M[n]? with
   | none=>rw [q] at h; cases h
   | some m=>
    rw [q] at h;have z:=c.obj n a m e q;cases m with
    | lst ys=>cases h; obtain ⟨vs,e1,r1⟩:=z; exact ⟨a,vs,rfl,.inl e1,r1⟩
    | fro ys=>cases h; obtain ⟨o,vs,e1,r1⟩:=z; exact ⟨a,vs,rfl,.inr ⟨o,e1⟩,r1⟩
    | dict _=>cases h
    | dicT _=>cases h
    | set _=>cases h
    | froT _=>cases h
    | froK _=>cases h
  | _=>cases h
theorem zCN {L:List Addr} {H H0:Hp} {x:EV} {v:V} {xs:List D} (r:zT H0 L H x v) (h:zBp x = some xs):∃ a vs,v = .ref a /\ H a = some (.tup vs) /\ zH L H xs vs:=by
 cases x with
 | fl ys=>cases h
 | dat d=>
  cases d with
  | tup ys=>cases h; unfold zT Rep at r; exact r
  | _=>cases h
theorem zDA {K:PySem.W.Frag} {L:List Addr} {M:Mem} {H H0:Hp} {x:EV} {v:V} {xs:List D} (c:Cor K L M H) (r:zT H0 L H x v) (h:zAa M x = some xs):∃ a vs,v = .ref a /\ (SqL K H a vs \/ SqT K H a vs) /\ zH L H xs vs:=by
 unfold zAa at h;cases q:zBp x with
 | some ys=>
  rw [q] at h; cases h;obtain ⟨a,vs,e,h1,h2⟩:=zCN r q;exact ⟨a,vs,e,.inr (.of h1),h2⟩
 | none=>
  rw [q] at h;obtain ⟨a,vs,e,h1,h2⟩:=zB3 c r h;exact ⟨a,vs,e,.inl (.inl h1),h2⟩
theorem zQz {L:List Addr} {H:Hp} {xs:List D} {vs:List V} {i:Int} {d:D} (r:zH L H xs vs) (h:atI xs i = some d):∃ v,atI vs i = some v /\ Rep L H d v:=by
 unfold atI at h ⊢;rw [r.length];cases q:ixN xs.length i with
 | none=>rw [q] at h; cases h
 | some j=>rw [q] at h; exact r.get h
theorem zPq {L:List Addr} {H:Hp} {i:Str}:Rep L H (.str i) (.str i):=by unfold Rep; rfl
def kIx:K2:=fun x y M=>match y with
 | .dat (.int i)=>match zAa M x with
  | some xs=>match atI xs i with
   | some d=>some (.dat d,M)
   | none=>none
  | none=>match x with
   | .dat (.str z)=>if z.length <= sizeLine then match atI z.cps.toList i with
     | some c=>some (.dat (.str ⟨#[c]⟩),M)
     | none=>none
    else none
   | _=>none
 | _=>none
theorem zQc {K:PySem.W.Frag}:zCB K (rIx K) kIx:=by
 intro L M M' H H0 x y d v w Q c rx ry hk q;unfold kIx at hk;split at hk
 ·rename_i i;have ew:w = .int i:=by unfold zT Rep at ry; exact ry
  split at hk
  ·rename_i xs e1;split at hk
   ·rename_i d' e2;cases hk;obtain ⟨a,vs,rfl,hs,r⟩:=zDA c rx e1;obtain ⟨u,e3,r3⟩:=zQz r e2;rcases hs with hs | hs
    ·exact .inl ⟨a,vs,i,u,rfl,ew,hs,e3,q L H u (.refl L H) c r3⟩
    ·exact .inr (.inl ⟨a,vs,i,u,rfl,ew,hs,e3,q L H u (.refl L H) c r3⟩)
   ·cases hk
  ·split at hk
   ·rename_i z _;split at hk
    ·rename_i hz;split at hk
     ·rename_i ch e2;cases hk;have ev:v = .str z:=by unfold zT Rep at rx; exact rx
      exact .inr (.inr ⟨z,i,ch,ev,ew,hz,e2,q L H _ (.refl L H) c (zPq (L:=L) (H:=H))⟩)
     ·cases hk
    ·cases hk
   ·cases hk
 ·cases hk
section
variable {prog:Program} {w:World} {A:Around} {E:Value -> Shared -> Prop} {s:Shared}
theorem zKf {t sl:Addr} {items:Array Value} {vl vu:Value} {lo hi:Option Int} {Q:Value -> Shared -> Prop} (T:IsTup s.heap t items) (S:s.heap.IsSliceOf sl vl vu .none) (pl:IsPart vl lo) (pu:IsPart vu hi)
  (h1:HT.sIx items.size 0 lo = 0) (h2:HT.sIx items.size items.size hi = items.size) (h:Q (.ref t) s):wpAny (model prog w) A (getItem (.ref t) (.ref sl)) Q E s:=by
 obtain ⟨o,O,C,G⟩:=id S;have TS:s.TypeIs (.ref sl) "slice" := ⟨o,O,C⟩;unfold getItem;try with_reducible refine zUx ?_
 first | refine zTz (zT6 ?_) | skip
 refine zTz (wpAny_sequenceKey T.typeIs (by decide) ?_);refine zTz (zUg (name:=Str.ofString "__getitem__") T.typeIs zVc (zUh zVc T.typeIs entry_tuple_getitem ?_ (args_tuple_getitem _ _)));refine zTz (m:=Builtin.Tuple.tupleItemsOf (.ref t)) (tupleItemsOf_ T (zTz (wpAny_typeOf TS ?_)));rw [zUJ (by decide)];refine zTz (HT.zCI S pl pu ?_);rw [h1,h2];show wpAny _ _ (if ((((0:Nat):Int) == 0 && (1:Int) == 1 && (items.size - 0) == items.size)) = true then _ else _) _ _ s;rw [zUJ (by simp)];unfold Builtin.Tuple.tupleIsExact;refine zTz (zTz (wpAny_typeOf T.typeIs (zT6 ?_)));rw [zUJ (by decide)];exact zTz (zVR (zT6 ⟨_,rfl,zT6 h⟩))
end
def zTZ (K:PySem.W.Frag):V -> Option Int -> Option Int -> Hp -> VK -> Prop:=fun x lo hi H Q=>∃ a xs,x = .ref a /\ SqT K H a xs /\ (HT.sIx xs.length 0 lo = 0 /\ HT.sIx xs.length xs.length hi = xs.length) /\ Q (.ref a) H
theorem zQF {X:Cx}:SlR X (zTZ X.K):=by
 intro zB s σ H x v vl vu lo hi sl Q I rx hs pl pu h;obtain ⟨a,xs,rfl,hx,hw,q⟩:=h;cases rx;obtain ⟨its,r,ht,hz⟩:=I.tuple hx;have hlen:its.toArray.size = xs.length:=by rw [zUC]; exact r.length.symm
 exact ⟨"tuple", _,zVc.lookup,ht.typeIs,zKf ht hs pl pu (by rw [hlen]; exact hw.1) (by rw [hlen]; exact hw.2) ⟨.ref a,H,I,rfl,q⟩⟩
section
variable {X:Cx} {a b e:Expr} {es:List Expr} {pos:Pos} {f g:FE}
theorem zTr (h1:QE X a f) (h2:QE X b g) (hs:zK6 b:=by intro _ _; rfl):QE X (.Subscript a b pos) (fOp kIx f g):=.mk <| PE.imp (zSr zRY h1.un h2.un hs) fun _ _ _ h=>zDF zQc h
abbrev FO:=Sd -> Mem -> Option (Option Int × Mem)
def trO (K:PySem.W.Frag) (f:FO):TO:=fun τ H Q=>∃ L σ M d M',Cor K L M H /\ zAr L H σ τ /\ f σ M = some (d,M') /\ ∀ L' H',Stp L H L' H' -> Cor K L' M' H' -> Q d H'
structure QO (X:Cx) (e:Option Expr) (f:FO):Prop where
 un:PO X e (trO X.K f)
def zCd:FO:=fun _ M=>some (none,M)
def zCF (f:FE):FO:=fun σ M=>match f σ M with
 | some (.dat (.int i),M')=>some (some i,M')
 | _=>none
theorem PO.imp {e:Option Expr} {t t':TO} (h:PO X e t) (hi:∀ τ H Q,t' τ H Q -> t τ H Q):PO X e t':=fun zB s σ H Q I q=>h zB s σ H Q I (hi _ _ _ q)
theorem zPB:QO X none zCd:=.mk <| PO.imp zPn fun τ H Q zz=>by
 obtain ⟨L,σ,M,d,M',c,rs,hf,q⟩:=zz;unfold zCd at hf;cases hf;exact q L H (.refl L H) c
theorem zPI (h:QE X e f):QO X (some e) (zCF f):=.mk <| PO.imp (zQD h.un) fun τ H Q zz=>by
 obtain ⟨L,σ,M,d,M',c,rs,hf,q⟩:=zz;unfold zCF at hf;split at hf
 ·rename_i i M1 e1;cases hf;refine ⟨L,σ,M,_,_,c,rs,e1,fun L1 H1 v s1 c1 r1=>?_⟩;exact ⟨i,by unfold zT Rep at r1; exact r1,q L1 H1 s1 c1⟩
 ·cases hf
def zE2 (xs:List D) (lo hi:Option Int):List D:=(xs.drop (HT.sIx xs.length 0 lo)).take (HT.sIx xs.length xs.length hi - HT.sIx xs.length 0 lo)
theorem zKs {L:List Addr} {H:Hp} {xs:List D} {vs:List V} {lo hi:Option Int} (r:zH L H xs vs):zH L H (zE2 xs lo hi) (zIx vs lo hi):=by
 unfold zE2 zIx;rw [r.length];exact (r.drop _).take _
def kSl (x:EV) (lo hi:Option Int) (M:Mem):Option (EV × Mem):=match zBp x with
 | some xs=>some (.dat (.tup (zE2 xs lo hi)),M)
 | none=>match zBf M x with
  | some xs=>some (.fl (zE2 xs lo hi),M)
  | none=>none
def fSl (f:FE) (fl fh:FO):FE:=fun σ M=>match f σ M with
 | some (x,M1)=>match fl σ M1 with
  | some (lo,M2)=>match fh σ M2 with
   | some (hi,M3)=>kSl x lo hi M3
   | none=>none
  | none=>none
 | none=>none
theorem zOu {lo hi:Option Expr} {p2:Pos} {fl fh:FO} (h:QE X e f) (hl:QO X lo fl) (hh:QO X hi fh):QE X (.Subscript e (.Slice lo hi none p2) pos) (fSl f fl fh) :=
 .mk <| PE.imp (zNm (SlR.or zPe (SlR.or zQh zQF)) h.un hl.un hh.un) fun τ H Q zz=>by
  obtain ⟨L,σ,M,d,M',c,rs,hf,q⟩:=zz;unfold fSl at hf;split at hf
  ·rename_i x M1 e1;split at hf
   ·rename_i l M2 e2;split at hf
    ·rename_i u M3 e3;refine ⟨L,σ,M,_,_,c,rs,e1,fun L1 H1 v s1 c1 r1=>⟨L1,σ,M1,_,_,c1,rs.stp s1,e2,fun L2 H2 s2 c2=>⟨L2,σ,M2,_,_,c2,rs.stp (s1.trans s2),e3,fun L3 H3 s3 c3=>?_⟩⟩⟩;have s:=(s1.trans s2).trans s3;have r3:zT H L3 H3 x v:=(r1.stp s2).stp s3;unfold kSl at hf;cases t:zBp x with
     | some xs=>
      rw [t] at hf;dsimp only at hf;cases hf;obtain ⟨a,vs,rfl,e4,r4⟩:=zCN r3 t;by_cases hw:HT.sIx vs.length 0 l = 0 /\ HT.sIx vs.length vs.length u = vs.length
      ·refine .inr (.inr ⟨a,vs,rfl,.of e4,hw,?_⟩);have ec:zE2 xs l u = xs:=by
        unfold zE2;rw [<- r4.length,hw.1,hw.2,r4.length];simp
       rw [ec] at q;refine q L3 H3 _ s c3 ?_;unfold zT Rep;exact ⟨a,vs,rfl,e4,r4⟩
      ·refine .inr (.inl ⟨a,vs,rfl,.of e4,hw,fun p hp=>?_⟩);exact q L3 _ _ (s.trans (.upd hp)) (c3.upd hp) (Rep.newTup hp (zKs r4))
     | none=>
      rw [t] at hf;dsimp only at hf;split at hf
      ·rename_i xs e4;cases hf;obtain ⟨a,vs,rfl,e5,r5⟩:=zB3 c3 r3 e4;refine .inl ⟨a,vs,rfl,.inl e5,fun p hp=>?_⟩;exact q L3 _ _ (s.trans (.upd hp)) (c3.upd hp) (zT.newLst s c c3 hp (zKs r5))
      ·cases hf
    ·cases hf
   ·cases hf
  ·cases hf
abbrev KB:=List EV -> Mem -> Option (EV × Mem)
def zF1 (K:PySem.W.Frag) (r:List V -> Hp -> VK -> Prop) (k:KB):Prop:=∀ {L:List Addr} {M M':Mem} {H H0:Hp} {xs:List EV} {d:EV} {vs:List V} {Q:VK},Cor K L M H -> zDL H0 L H xs vs -> k xs M = some (d,M') ->
 (∀ L' H' u,Stp L H L' H' -> Cor K L' M' H' -> zT H L' H' d u -> Q u H') -> r vs H Q
def fB (k:KB) (f:FAE):FE:=fun σ M=>match f σ M with
 | some (xs,M1)=>k xs M1
 | none=>none
theorem zNf {K:PySem.W.Frag} {r:List V -> Hp -> VK -> Prop} {k:KB} {f:FAE} (hk:zF1 K r k) {τ:Sv} {H:Hp} {Q:VK} (h:trE K (fB k f) τ H Q):tCB r (zSW K f) τ H Q:=by
 obtain ⟨L,σ,M,d,M',c,rs,hf,q⟩:=h;unfold fB at hf;split at hf
 ·rename_i xs M1 e1;refine ⟨L,σ,M,_,_,c,rs,e1,fun L1 H1 vs s1 c1 r1=>?_⟩;refine hk c1 r1 hf fun L2 H2 u s2 c2 r2=>?_;exact q L2 H2 u (s1.trans s2) c2 (r2.back s1 c s2.sub)
 ·cases hf
theorem zDL.one {H0:Hp} {L:List Addr} {H:Hp} {x:EV} {vs:List V} (h:zDL H0 L H [x] vs):∃ v,vs = [v] /\ zT H0 L H x v:=by
 obtain ⟨v,r,rfl,h1,h2⟩:=h;unfold zDL at h2;subst h2;exact ⟨v,rfl,h1⟩
def zp:KB:=fun xs M=>match xs with
 | [x]=>match zAa M x with
  | some ys=>some (.dat (.int ys.length),M)
  | none=>none
 | _=>none
theorem zOz:zF1 X.K (fun xs H Q=>∃ p ys,xs = [.ref p] /\ (SqL X.K H p ys \/ SqT X.K H p ys) /\ Q (.int ys.length) H) zp:=by
 intro L M M' H H0 xs d vs Q c r hk q;unfold zp at hk;split at hk
 ·rename_i x;split at hk
  ·rename_i ys e1;cases hk;obtain ⟨v,rfl,r1⟩:=r.one;obtain ⟨a,ws,rfl,hs,r2⟩:=zDA c r1 e1;refine ⟨a,ws,rfl,hs,q L H _ (.refl L H) c ?_⟩;rw [r2.length]; exact (zAk (L:=L) (H:=H))
  ·cases hk
 ·cases hk
theorem zEI {x:Str} {p:Pos} {id:String} {r:List V -> Hp -> VK -> Prop} {k:KB} {f:FAE} (hk:zF1 X.K r k) (hc:zBs X (.builtin id) r) (hv:bootBuiltins x = some (.builtin id)) (hg:Gl X x) (hm:X.mg x = none) (ha:QAE X (e :: es) f) (hn:x ≠ "__name__" := by decide) (hdb:(x == ("__debug__" : Str)) = false:=by decide)
  (he:starEach (e :: es) X.env = (false,eval e X.env) :: starEach es X.env:=by rfl) (hpl:(backTo pos (starEach es X.env)).any (·.1) = false:=by rfl):QE X (.Call (.Name x p) (e :: es) [] pos) (fB k f) :=
 .mk <| PE.imp (zIS hc hg hm hv ha.un hn hdb he hpl) fun _ _ _ h=>zNf hk h
theorem zFU {x:Str} {p:Pos} {T:String} {r:List V -> Hp -> VK -> Prop} {k:KB} {f:FAE} (hk:zF1 X.K r k) (hc:zBs X (.type T) r) (hv:bootBuiltins x = some (.type T)) (hg:Gl X x) (hm:X.mg x = none) (ha:QAE X (e :: es) f) (hn:x ≠ "__name__" := by decide) (hdb:(x == ("__debug__" : Str)) = false:=by decide)
  (he:starEach (e :: es) X.env = (false,eval e X.env) :: starEach es X.env:=by rfl) (hpl:(backTo pos (starEach es X.env)).any (·.1) = false:=by rfl):QE X (.Call (.Name x p) (e :: es) [] pos) (fB k f) :=
 .mk <| PE.imp (zEW hc hg hm hv ha.un hn hdb he hpl) fun _ _ _ h=>zNf hk h
def zX:KB:=fun xs M=>match xs with
 | [x]=>match zAa M x with
  | some ys=>some (.dat (.tup ys),M)
  | none=>none
 | _=>none
theorem zMg:zF1 X.K (fun xs H Q=>∃ p ys,xs = [.ref p] /\ ((SqL X.K H p ys /\ ∀ l,H l = none -> Q (.ref l) (upd H l (.tup ys))) \/ (SqT X.K H p ys /\ Q (.ref p) H))) zX:=by
 intro L M M' H H0 xs d vs Q c r hk q;unfold zX at hk;split at hk
 ·rename_i x;split at hk
  ·rename_i ys e1;cases hk;obtain ⟨v,rfl,r1⟩:=r.one;unfold zAa at e1;cases t:zBp x with
   | some zs=>
    rw [t] at e1; cases e1;obtain ⟨a,ws,rfl,e2,r2⟩:=zCN r1 t;refine ⟨a,ws,rfl,.inr ⟨.of e2,q L H _ (.refl L H) c ?_⟩⟩;unfold zT Rep;exact ⟨a,ws,rfl,e2,r2⟩
   | none=>
    rw [t] at e1;obtain ⟨a,ws,rfl,e2,r2⟩:=zB3 c r1 e1;refine ⟨a,ws,rfl,.inl ⟨.inl e2,fun p hp=>?_⟩⟩;exact q L _ _ (.upd hp) (c.upd hp) (Rep.newTup hp r2)
  ·cases hk
 ·cases hk
end
set_option genInjectivity true in
inductive Out where
 | nx | ret (d:D) | brk | cnt
abbrev FS:=Sd -> Mem -> Option (Out × Sd × Mem)
def zS2 (E:Ends) (L:List Addr) (H:Hp) (σ:Sd):Out -> Prop
 | .nx=>∀ τ,zAr L H σ τ -> E.nx τ H
 | .ret d=>∀ v,Rep L H d v -> E.rt v H
 | .brk=>∀ τ,zAr L H σ τ -> E.bk τ H
 | .cnt=>∀ τ,zAr L H σ τ -> E.ct τ H
def trS (K:PySem.W.Frag) (f:FS):TS:=fun E τ H=>∃ L σ M o σ' M',Cor K L M H /\ zAr L H σ τ /\ f σ M = some (o,σ',M') /\ ∀ L' H',Stp L H L' H' -> Cor K L' M' H' -> zS2 E L' H' σ' o
structure QS (X:Cx) (st:Stmt) (f:FS):Prop where
 un:PS X st (trS X.K f)
structure QSs (X:Cx) (st:List Stmt) (f:FS):Prop where
 un:PSs X st (trS X.K f)
theorem zAr.set {L:List Addr} {H:Hp} {σ:Sd} {τ:Sv} {i:Nat} {d:D} {v:V} (h:zAr L H σ τ) (r:Rep L H d v):zAr L H (σ.set i (some d)) (τ.set i (some v)):=by
 refine ⟨by simp [h.1],fun j e q=>?_⟩;rw [zVd] at q ⊢;split at q
 ·rename_i z;subst z;split at q
  ·rename_i hl;cases q;rw [zUJ rfl,zUJ (by rw [h.1]; exact hl)];exact ⟨v,rfl,r⟩
  ·cases q
 ·rename_i z;rw [zUM z];exact h.2 j e q
theorem zOU {K:PySem.W.Frag} {f:FE} {τ:Sv} {H:Hp} {Q:VK} (h:trD K (toD f) τ H Q):trE K f τ H Q:=by
 obtain ⟨L,σ,M,d,M',c,rs,hf,q⟩:=h;unfold toD at hf;split at hf
 ·rename_i d' M1 e1;cases hf;exact ⟨L,σ,M,_,_,c,rs,e1,fun L' H' v s c' r=>q L' H' v s c' r⟩
 ·rename_i xs M1 e1;cases hf;refine ⟨L,σ,M,_,_,c,rs,e1,fun L' H' v s c' r=>?_⟩;obtain ⟨p,vs,rfl,e0,e2,e3,r⟩:=r;obtain ⟨c2,s2⟩:=zQH s c' e0 e2 e3 r;exact q _ H' _ s2 c2 (Rep.last c')
 ·cases hf
def zAc:FS:=fun σ M=>some (.nx,σ,M)
def zL (f g:FS):FS:=fun σ M=>match f σ M with
 | some (.nx,σ1,M1)=>g σ1 M1
 | r=>r
def sIf (c:FT) (f g:FS):FS:=fun σ M=>match c σ M with
 | some (true,M1)=>f σ M1
 | some (false,M1)=>g σ M1
 | none=>none
def zAO (f:FE):FS:=fun σ M=>match toD f σ M with
 | some (d,M1)=>some (.ret d,σ,M1)
 | none=>none
def zk (i:Nat) (f:FE):FS:=fun σ M=>match toD f σ M with
 | some (d,M1)=>some (.nx,σ.set i (some d),M1)
 | none=>none
def zAu (f:FE):FS:=fun σ M=>match f σ M with
 | some (_,M1)=>some (.nx,σ,M1)
 | none=>none
section
variable {X:Cx} {st:Stmt} {rest:List Stmt} {e c:Expr} {pos:Pos}
theorem zHl:QSs X [] zAc:=.mk <| PSs.imp zP7 fun E τ H zz=>by
 obtain ⟨L,σ,M,o,σ',M',c,rs,hf,q⟩:=zz;unfold zAc at hf;cases hf;exact q L H (.refl L H) c τ rs
theorem zFJ {f g:FS} (h1:QS X st f) (h2:QSs X rest g):QSs X (st :: rest) (zL f g):=.mk <| PSs.imp (zOm h1.un h2.un) fun E τ H zz=>by
 obtain ⟨L,σ,M,o,σ',M',c,rs,hf,q⟩:=zz;unfold zL at hf;split at hf
 ·rename_i σ1 M1 e1;refine ⟨L,σ,M,_,_,_,c,rs,e1,fun L1 H1 s1 c1 τ1 r1=>⟨L1,σ1,M1,_,_,_,c1,r1,hf,fun L2 H2 s2 c2=>q L2 H2 (s1.trans s2) c2⟩⟩
 ·rename_i hne;refine ⟨L,σ,M,_,_,_,c,rs,hf,fun L1 H1 s1 c1=>?_⟩;have z:=q L1 H1 s1 c1;cases o with
  | nx=>exact absurd hf (hne σ' M')
  | ret d=>exact z
  | brk=>exact z
  | cnt=>exact z
theorem zEf {f:FS} (h1:QS X st f):QSs X [st] f:=.mk <| PSs.imp (zP0 h1.un) fun _ _ _ h=>h
theorem zQB {a b:List Stmt} {fc:FT} {f g:FS} (hc:QT X c fc) (ha:QSs X a f) (hb:QSs X b g):QS X (.If c a b pos) (sIf fc f g):=.mk <| PS.imp (zSw hc.un ha.un hb.un) fun E τ H zz=>by
 obtain ⟨L,σ,M,o,σ',M',c,rs,hf,q⟩:=zz;unfold sIf at hf;split at hf
 ·rename_i M1 e1;refine ⟨L,σ,M,_,_,c,rs,e1,fun L1 H1 s1 c1=>?_⟩;exact zKh ⟨L1,σ,M1,_,_,_,c1,rs.stp s1,hf,fun L2 H2 s2 c2=>q L2 H2 (s1.trans s2) c2⟩
 ·rename_i M1 e1;refine ⟨L,σ,M,_,_,c,rs,e1,fun L1 H1 s1 c1=>?_⟩;exact zKB ⟨L1,σ,M1,_,_,_,c1,rs.stp s1,hf,fun L2 H2 s2 c2=>q L2 H2 (s1.trans s2) c2⟩
 ·cases hf
theorem zGh {f:FE} (h:QE X e f):QS X (.Return (some e) pos) (zAO f):=.mk <| PS.imp (zRB (zAY h).un) fun E τ H zz=>by
 obtain ⟨L,σ,M,o,σ',M',c,rs,hf,q⟩:=zz;unfold zAO at hf;split at hf
 ·rename_i d M1 e1;cases hf;exact ⟨L,σ,M,_,_,c,rs,e1,fun L1 H1 v s1 c1 r1=>q L1 H1 s1 c1 v r1⟩
 ·cases hf
theorem zIX {K:PySem.W.Frag} {i:Nat} {f:FE} {t:TE} (ht:∀ τ H Q,trE K f τ H Q -> t τ H Q) {E:Ends} {τ:Sv} {H:Hp} (h:trS K (zk i f) E τ H):zPk t (zDJ i) E τ H:=by
 obtain ⟨L,σ,M,o,σ',M',c,rs,hf,q⟩:=h;unfold zk at hf;split at hf
 ·rename_i d M1 e1;cases hf;exact ht _ _ _ (zOU ⟨L,σ,M,_,_,c,rs,e1,fun L1 H1 v s1 c1 r1=>q L1 H1 s1 c1 _ ((rs.stp s1).set r1)⟩)
 ·cases hf
theorem zSy {i:Nat} {x:Str} {f:FE} {pos':Pos} (hN:X.N.Nodup) (hi:X.N[i]? = some x) (hx:Loc X.env.scope x) (h:QE X e f) (hs:swapsWith e (some (.Name x pos')) pos.line X.env = pure false:=by rfl)
  (hf:X.fn x = true \/ X.env.scope.names.lookup x = some .local:=by first | exact .inl rfl | exact .inr rfl | assumption):QS X (.Assign [.Name x pos'] e pos) (zk i f) :=
 .mk <| PS.imp (zR7 hN hi hx h.un hs hf) fun _ _ _ z=>zIX (fun _ _ _ z=>z) z
theorem zQw {f:FE} (h:QE X e f) (hs:swapsWith e none pos.line X.env = pure false:=by rfl):QS X (.Expr e pos) (zAu f):=.mk <| PS.imp (zPy h.un hs) fun E τ H zz=>by
 obtain ⟨L,σ,M,o,σ',M',c,rs,hf,q⟩:=zz;unfold zAu at hf;split at hf
 ·rename_i d M1 e1;cases hf;exact ⟨L,σ,M,_,_,c,rs,e1,fun L1 H1 v s1 c1 r1=>q L1 H1 s1 c1 τ (rs.stp s1)⟩
 ·cases hf
abbrev FG:=D -> Sd -> Option Sd
def GOk (g:TG) (fg:FG):Prop:=∀ {L:List Addr} {H:Hp} {σ σ':Sd} {τ:Sv} {d:D} {v:V} {Q:Sv -> Hp -> Prop},zAr L H σ τ -> Rep L H d v -> fg d σ = some σ' -> (∀ τ',zAr L H σ' τ' -> Q τ' H) -> g v τ H Q
def gN (i:Nat):FG:=fun d σ=>some (σ.set i (some d))
theorem zNZ {i:Nat}:GOk (zDJ i) (gN i):=by
 intro L H σ σ' τ d v Q rs r hf q;unfold gN at hf;cases hf;exact q _ (rs.set r)
abbrev FI:=Sd -> Mem -> Option (List D × Option (Mem -> Prop) × Mem)
def zCh (g:Option (Mem -> Prop)) (xs:List D) (M:Mem):Prop:=match g with
 | none=>True
 | some p=>p M
def zTP (K:PySem.W.Frag) (J:It) (L:List Addr) (H:Hp) (xs:List D) (g:Option (Mem -> Prop)):Prop:=∀ L' H' M',Stp L H L' H' -> Cor K L' M' H' -> zCh g xs M' ->
 (∀ (i:Nat) d,xs[i]? = some d -> J.go i H' /\ ∀ v H'',J.yld i H' v H'' -> (∀ a o,H' a = some o -> H'' a = some o) /\ Rep L' H'' d v) /\ J.stop xs.length H'
def trI (K:PySem.W.Frag) (f:FI):TI:=fun τ H R=>∃ L σ M xs g M',Cor K L M H /\ zAr L H σ τ /\ f σ M = some (xs,g,M') /\ ∀ L' H' J,Stp L H L' H' -> Cor K L' M' H' -> zTP K J L' H' xs g -> R J H'
structure QI (X:Cx) (tg e:Expr) (f:FI):Prop where
 un:PI X tg e (trI X.K f)
theorem PI.imp {tg e:Expr} {t t':TI} (h:PI X tg e t) (hi:∀ τ H R,t' τ H R -> t τ H R):PI X tg e t':=fun zB s σ H R I q=>h zB s σ H R I (hi _ _ _ q)
noncomputable def zCf (g:FG) (b:FS) (all:List D) (gd:Option (Mem -> Prop)):List D -> Sd -> Mem -> Option (Out × Sd × Mem)
 | [],σ,M=>open Classical in if zCh gd all M then some (.nx,σ,M) else none
 | x :: r,σ,M=>open Classical in if zCh gd all M then match g x σ with
   | some σ1=>match b σ1 M with
    | some (.nx,σ2,M2)=>zCf g b all gd r σ2 M2
    | some (.cnt,σ2,M2)=>zCf g b all gd r σ2 M2
    | some (.brk,σ2,M2)=>some (.nx,σ2,M2)
    | some (.ret d,σ2,M2)=>some (.ret d,σ2,M2)
    | none=>none
   | none=>none
  else none
noncomputable def zBF (fi:FI) (g:FG) (b:FS):FS:=fun σ M=>match fi σ M with
 | some (xs,gd,M1)=>zCf g b xs gd xs σ M1
 | none=>none
theorem zEi {α:Type} {xs:List α} {i:Nat} (h:i < xs.length):xs.drop i = xs[i] :: xs.drop (i + 1):=List.drop_eq_getElem_cons h
theorem Stp.yld {L L':List Addr} {H H' H'':Hp} (s:Stp L H L' H') (h:∀ a o,H' a = some o -> H'' a = some o):Stp L H L' H'':=s.trans (.grow h)
theorem zN8 {K:PySem.W.Frag} {fi:FI} {g:TG} {fg:FG} {b:FS} (hg:GOk g fg) {E:Ends} {τ:Sv} {H:Hp} (h:trS K (zBF fi fg b) E τ H):zTN (trI K fi) g (trS K b) E τ H:=by
 obtain ⟨L,σ,M,o,σf,Mf,c,rs,hf,q⟩:=h;unfold zBF at hf;split at hf
 ·rename_i xs gd M1 e1;refine ⟨L,σ,M,_,_,_,c,rs,e1,fun L1 H1 J s1 c1 it=>?_⟩
  refine ⟨fun i m τ' H'=>m = xs.length - i /\ i <= xs.length /\ ∃ L' σ' M',Stp L1 H1 L' H' /\ Cor K L' M' H' /\ zAr L' H' σ' τ' /\ zCf fg b xs gd (xs.drop i) σ' M' = some (o,σf,Mf),
   ⟨xs.length,by simp,zUq _,L1,σ,M1,.refl _ _,c1,rs.stp s1,by simpa using hf⟩,?_⟩
  rintro i m τ' H' ⟨rfl,hi,L',σ',M',s',c',rs',e'⟩;by_cases hlt:i < xs.length
  ·rw [zEi hlt] at e';unfold zCf at e';split at e'
   ·rename_i hgd;obtain ⟨step,_⟩:=it L' H' M' s' c' hgd;obtain ⟨go,yl⟩:=step i xs[i] (zT8 hlt);cases eg:fg xs[i] σ' with
    | none=>rw [eg] at e'; cases e'
    | some σ1=>
     rw [eg] at e';dsimp only at e';refine .inr ⟨go,fun τ2 H2=>∃ L2 σ2 M2,Stp L1 H1 L2 H2 /\ Cor K L2 M2 H2 /\ zAr L2 H2 σ2 τ2 /\ zCf fg b xs gd (xs.drop (i + 1)) σ2 M2 = some (o,σf,Mf),fun τ2 H2 ⟨L2,σ2,M2,a1,a2,a3,a4⟩=>⟨xs.length - (i + 1),by omega,rfl,hlt,L2,σ2,M2,a1,a2,a3,a4⟩,fun v H2 hy=>?_⟩;obtain ⟨gr,rv⟩:=yl v H2 hy;refine hg (zAr.stp (.grow gr) rs') rv eg fun τ2 r2=>?_;cases eb:b σ1 M' with
     | none=>rw [eb] at e'; cases e'
     | some r=>
      obtain ⟨o2,σ2,M2⟩:=r;rw [eb] at e';refine ⟨L',σ1,M',_,_,_,c'.grow gr,r2,eb,fun L3 H3 s3 c3=>?_⟩;have s13:Stp L1 H1 L3 H3:=(s'.yld gr).trans s3;cases o2 with
      | nx=>exact fun τ3 r3=>⟨L3,σ2,M2,s13,c3,r3,e'⟩
      | cnt=>exact fun τ3 r3=>⟨L3,σ2,M2,s13,c3,r3,e'⟩
      | brk=>cases e'; exact q L3 H3 (s1.trans s13) c3
      | ret d=>cases e'; exact q L3 H3 (s1.trans s13) c3
   ·cases e'
  ·have hi':i = xs.length:=by omega
   subst hi';rw [List.drop_length] at e';unfold zCf at e';split at e'
   ·rename_i hgd;cases e';obtain ⟨_,stop⟩:=it L' H' _ s' c' hgd;exact .inl ⟨stop,q L' H' (s1.trans s') c' τ' rs'⟩
   ·cases e'
 ·cases hf
theorem zQK {tg iter:Expr} {body:List Stmt} {fi:FI} {g:TG} {fg:FG} {b:FS} (hg:GOk g fg) (hp:PassesOwn (model X.prog X.w) X.A X.env X.xe) (hc:X.calm = true) (hi:QI X tg iter fi) (ht:PG X tg g) (hb:QSs X body b)
  (hs:∀ x,foldedSetIterable iter X.env x = pure x:=by intro _; rfl):QS X (.For tg iter body [] pos) (zBF fi fg b):=.mk <| PS.imp (zRV hp hc hi.un ht hb.un hs) fun _ _ _ h=>zN8 hg h
end
section
variable {X:Cx} {e c iter tg elt:Expr} {pos:Pos} {scope:Scope} {ifs:List Expr}
def zr (c:FT) (b:FS):Nat -> Sd -> Mem -> Option (Out × Sd × Mem)
 | 0,_,_=>none
 | n + 1,σ,M=>match c σ M with
  | some (true,M1)=>match b σ M1 with
   | some (.nx,σ2,M2)=>zr c b n σ2 M2
   | some (.cnt,σ2,M2)=>zr c b n σ2 M2
   | some (.brk,σ2,M2)=>some (.nx,σ2,M2)
   | some (.ret d,σ2,M2)=>some (.ret d,σ2,M2)
   | none=>none
  | some (false,M1)=>some (.nx,σ,M1)
  | none=>none
theorem zJ9 {K:PySem.W.Frag} {fc:FT} {b:FS} {n:Nat} {E:Ends} {τ:Sv} {H:Hp} (h:trS K (zr fc b n) E τ H):zOa (trT K fc) (trS K b) E τ H:=by
 obtain ⟨L,σ,M,o,σf,Mf,c,rs,hf,q⟩:=h;refine ⟨fun m τ' H'=>∃ L' σ' M',Stp L H L' H' /\ Cor K L' M' H' /\ zAr L' H' σ' τ' /\ zr fc b m σ' M' = some (o,σf,Mf),⟨n,L,σ,M,.refl _ _,c,rs,hf⟩,?_⟩;rintro m τ' H' ⟨L',σ',M',s',c',rs',e'⟩;cases m with
 | zero=>unfold zr at e'; cases e'
 | succ m=>
  unfold zr at e';split at e'
  ·rename_i M1 e1;refine ⟨L',σ',M',_,_,c',rs',e1,fun L1 H1 s1 c1=>zKh ?_⟩;refine ⟨fun τ2 H2=>∃ L2 σ2 M2,Stp L H L2 H2 /\ Cor K L2 M2 H2 /\ zAr L2 H2 σ2 τ2 /\ zr fc b m σ2 M2 = some (o,σf,Mf),fun τ2 H2 h2=>⟨m,zU1 m,h2⟩,?_⟩;cases eb:b σ' M1 with
   | none=>rw [eb] at e'; cases e'
   | some r=>
    obtain ⟨o2,σ2,M2⟩:=r;rw [eb] at e';refine ⟨L1,σ',M1,_,_,_,c1,rs'.stp s1,eb,fun L3 H3 s3 c3=>?_⟩;have s13:Stp L H L3 H3:=(s'.trans s1).trans s3;cases o2 with
    | nx=>exact fun τ3 r3=>⟨L3,σ2,M2,s13,c3,r3,e'⟩
    | cnt=>exact fun τ3 r3=>⟨L3,σ2,M2,s13,c3,r3,e'⟩
    | brk=>cases e'; exact q L3 H3 s13 c3
    | ret d=>cases e'; exact q L3 H3 s13 c3
  ·rename_i M1 e1;cases e';exact ⟨L',_,M',_,_,c',rs',e1,fun L1 H1 s1 c1=>zKB (q L1 H1 (s'.trans s1) c1 τ' (rs'.stp s1))⟩
  ·cases e'
theorem zPL {body:List Stmt} {fc:FT} {b:FS} (n:Nat) (hp:PassesOwn (model X.prog X.w) X.A X.env X.xe) (hc:QT X c fc) (hb:QSs X body b):QS X (.While c body [] pos) (zr fc b n) :=
 .mk <| PS.imp (zOZ hp hc.un hb.un) fun _ _ _ h=>zJ9 h
def zE3 (own:List Nat) (σ:Sd):Sd:=own.foldl (fun σ i=>σ.set i none) σ
theorem zH3 {L:List Addr} {H:Hp}:∀ (own:List Nat) {σ:Sd} {τ:Sv},zAr L H σ τ -> zAr L H (zE3 own σ) (clr own τ)
 | [],_,_,h=>h
 | i :: r,σ,τ,h=>by
  refine zH3 r (σ:=σ.set i none) (τ:=τ.set i none) ⟨by simp [h.1],fun j d q=>?_⟩;rw [zVd] at q ⊢;split at q
  ·split at q <;> cases q
  ·rename_i z;rw [zUM z];exact h.2 j d q
noncomputable def zBu (g:FG) (tc:FT) (te:FE) (σ:Sd) (all:List D) (gd:Option (Mem -> Prop)):List D -> Mem -> Option (List D × Mem)
 | [],M=>open Classical in if zCh gd all M then some ([],M) else none
 | x :: r,M=>open Classical in if zCh gd all M then match g x σ with
   | some σ1=>match tc σ1 M with
    | some (true,M1)=>match toD te σ1 M1 with
     | some (d,M2)=>match zBu g tc te σ all gd r M2 with
      | some (ds,M3)=>some (d :: ds,M3)
      | none=>none
     | none=>none
    | some (false,M1)=>zBu g tc te σ all gd r M1
    | none=>none
   | none=>none
  else none
noncomputable def zAK (own:List Nat) (fi:FI) (g:FG) (tc:FT) (te:FE):FE:=fun σ M=>match fi σ M with
 | some (xs,gd,M1)=>if xs.length <= sizeLine then match zBu g tc te (zE3 own σ) xs gd xs M1 with
   | some (ys,M2)=>some (.fl ys,M2)
   | none=>none
  else none
 | none=>none
def zJZ (own:List Nat) (g:TG) (fg:FG):Prop:=∀ {L:List Addr} {H:Hp} {σ σ':Sd} {τ τ0:Sv} {d:D} {v:V} {Q:Sv -> Hp -> Prop},zAr L H σ τ -> Ext (clr own τ0) τ -> Rep L H d v -> fg d σ = some σ' -> (∀ τ',zAr L H σ' τ' -> Ext (clr own τ0) τ' -> Q τ' H) -> g v τ H Q
theorem zDG {own:List Nat} {i:Nat} (hi:i ∈ own):zJZ own (zDJ i) (gN i):=by
 intro L H σ σ' τ τ0 d v Q rs ex r hf q;unfold gN at hf;cases hf;exact q _ (rs.set r) (ex.set hi)
theorem zGw {K:PySem.W.Frag} {own:List Nat} {fi:FI} {g:TG} {fg:FG} {tc:FT} {te:FE} (hg:zJZ own g fg) {τ:Sv} {H:Hp} {Q:VK} (h:trE K (zAK own fi fg tc te) τ H Q):zOJ own (trI K fi) g (trT K tc) (trD K (toD te)) τ H Q:=by
 obtain ⟨L,σ,M,d,Mf,c,rs,hf,q⟩:=h;unfold zAK at hf;split at hf
 ·rename_i xs gd M1 e1;split at hf
  ·rename_i hz;split at hf
   ·rename_i zs M2 e2;cases hf;refine ⟨L,σ,M,_,_,_,c,rs,e1,fun L1 H1 J s1 c1 it=>?_⟩
    refine ⟨fun i m ys H'=>m = xs.length - i /\ i <= xs.length /\ ∃ L' M' as bs,Stp L1 H1 L' H' /\ Cor K L' M' H' /\ zH L' H' as ys /\ as.length <= i /\ zBu fg tc te (zE3 own σ) xs gd (xs.drop i) M' = some (bs,Mf) /\ as ++ bs = zs,
     ⟨xs.length,by simp,zUq _,L1,M1,[],zs,.refl _ _,c1,.nil,zUA _,by simpa using e2,rfl⟩,?_⟩
    rintro i m ys H' ⟨rfl,hi,L',M',as,bs,s',c',r',hl,e',hab⟩;have hys:ys.length <= i:=by rw [r'.length]; exact hl
    by_cases hlt:i < xs.length
    ·rw [zEi hlt] at e';unfold zBu at e';split at e'
     ·rename_i hgd;obtain ⟨step,_⟩:=it L' H' M' s' c' hgd;obtain ⟨go,yl⟩:=step i xs[i] (zT8 hlt);split at e'
      ·rename_i σ1 eg;refine .inr ⟨go,fun v H2 hy=>?_⟩;obtain ⟨gr,rv⟩:=yl v H2 hy;have s2:Stp L1 H1 L' H2:=s'.yld gr;refine hg (zH3 own ((rs.stp s1).stp s2)) (.refl _) rv eg fun τ2 r2 x2=>⟨x2,?_⟩;split at e'
       ·rename_i M3 e3;split at e'
        ·rename_i d M4 e4;split at e'
         ·rename_i ds M5 e5;cases e';refine ⟨L',σ1,M',_,_,c'.grow gr,r2,e3,fun L3 H3 s3 c3=>zKh ?_⟩;refine ⟨L3,σ1,M3,_,_,c3,r2.stp s3,e4,fun L4 H4 w s4 c4 r4=>?_⟩;have st:Stp L' H' L4 H4:=((Stp.grow gr).trans s3).trans s4;refine ⟨Nat.lt_of_le_of_lt hys (zUT hlt hz),xs.length - (i + 1),by omega,rfl,hlt,L4,M4,as ++ [d],ds,s'.trans st,c4,(r'.stp st).app (.cons r4 .nil),by simp; omega,e5,by rw [<- hab]; simp⟩
         ·cases e'
        ·cases e'
       ·rename_i M3 e3;refine ⟨L',σ1,M',_,_,c'.grow gr,r2,e3,fun L3 H3 s3 c3=>zKB ?_⟩;have st:Stp L' H' L3 H3:=(Stp.grow gr).trans s3;exact ⟨xs.length - (i + 1),by omega,rfl,hlt,L3,M3,as,bs,s'.trans st,c3,r'.stp st,by omega,e',hab⟩
       ·cases e'
      ·cases e'
     ·cases e'
    ·have hi':i = xs.length:=by omega
     subst hi';rw [List.drop_length] at e';unfold zBu at e';split at e'
     ·rename_i hgd;cases e';obtain ⟨_,stop⟩:=it L' H' _ s' c' hgd;refine .inl ⟨stop,zUV hys hz,fun p hp=>?_⟩;rw [zUo] at hab;subst hab;exact q L' _ _ ((s1.trans s').trans (.upd hp)) (c'.upd hp) (zT.newLst (s1.trans s') c c' hp r')
     ·cases e'
   ·cases hf
  ·cases hf
 ·cases hf
structure QIfs (X:Cx) (ifs:List Expr) (f:FT):Prop where
 un:zLa X ifs (trT X.K f)
def zAe:FT:=fun _ M=>some (true,M)
theorem zM7:QIfs X [] zAe:=.mk fun zB s σ H Q I h=>by
 obtain ⟨L,σ',M,d,M',c,rs,hf,q⟩:=h;unfold zAe at hf;cases hf;exact zMt zB s σ H Q I (q L H (.refl L H) c)
theorem zRF {f:FT} (h:QT X c f):QIfs X [c] f:=.mk (zN5 h.un)
structure QParts (X:Cx) (scope:Scope) (tg:Expr) (ifs:List Expr) (elt:Expr) (g:TG) (tc:FT) (te:FE):Prop where
 g:∀ zB cl s H fp,PG (zd X zB scope cl s H fp) tg g
 c:∀ zB cl s H fp,QIfs (zd X zB scope cl s H fp) ifs tc
 e:∀ zB cl s H fp,QE (zd X zB scope cl s H fp) elt te
theorem QParts.parts {g:TG} {tc:FT} {te:FE} (p:QParts X scope tg ifs elt g tc te):CompParts X scope tg ifs elt g (trT X.K tc) (trD X.K (toD te)) :=
 ⟨p.g,fun zB cl s H fp=>(p.c zB cl s H fp).un,fun zB cl s H fp=>(zAY (p.e zB cl s H fp)).un⟩
theorem zJW {own:List Nat} {fi:FI} {g:TG} {fg:FG} {tc:FT} {te:FE} (hg:zJZ own g fg) (C:CompIn X scope own) (hcalm:X.calm = true) (hi:QI X tg iter fi) (p:QParts X scope tg ifs elt g tc te) (hs:∀ x,foldedSetIterable iter X.env x = pure x:=by intro _; rfl) :
  QE X (.ListComp elt [⟨tg,iter,ifs,0⟩] scope pos) (zAK own fi fg tc te):=.mk <| PE.imp (zPV C hcalm hi.un p.parts hs) fun _ _ _ h=>zGw hg h
theorem zMX {i:Nat} {x:Str} {pos' pos'':Pos} {own:List Nat} {fi:FI} {g:TG} {fg:FG} {tc:FT} {te:FE} (hN:X.N.Nodup) (hi':X.N[i]? = some x) (hx:Loc X.env.scope x) (hfn:X.fn x = true \/ X.env.scope.names.lookup x = some .local)
  (hsw:swapsWith (.ListComp elt [⟨tg,iter,ifs,0⟩] scope pos) (some (.Name x pos')) pos''.line X.env = pure true)
  (hg:zJZ own g fg) (C:CompIn X scope own) (hcalm:X.calm = true) (hi:QI X tg iter fi) (p:QParts X scope tg ifs elt g tc te) (hs:∀ x,foldedSetIterable iter X.env x = pure x:=by intro _; rfl) :
  QS X (.Assign [.Name x pos'] (.ListComp elt [⟨tg,iter,ifs,0⟩] scope pos) pos'') (zk i (zAK own fi fg tc te)) :=
 .mk <| PS.imp (zKD hN hi' hx hfn C hcalm hi.un p.parts hsw hs) fun _ _ _ z=>zIX (fun _ _ _ z=>zGw hg z) z
end
abbrev FF:=List D -> Mem -> Option (D × Mem)
def spF (K:PySem.W.Frag) (n:Nat) (g:FF):Sp:=fun vs H Q _=>∃ L ds M d M',Cor K L M H /\ zH L H ds vs /\ ds.length = n /\ g ds M = some (d,M') /\ ∀ L' H' v,Stp L H L' H' -> Cor K L' M' H' -> Rep L' H' d v -> Q v H'
def zW (g:FF) (fa:FA):FE:=fun σ M=>match fa σ M with
 | some (ds,M1)=>match g ds M1 with
  | some (d,M2)=>some (.dat d,M2)
  | none=>none
 | none=>none
section
variable {X:Cx} {e:Expr} {es:List Expr} {pos p:Pos} {x:Str} {k:Nat} {f:Addr} {fd:FuncData} {ps:List Str}
theorem zQp {g:FF} {fa:FA} (F:FnOk X.prog X.w X.K X.mg X.base CX0 k f fd ps (spF X.K (e :: es).length g)) (hr:Room k X.A) (hg:Gl X x) (hm:X.mg x = some (.ref f)) (hk:PySem.W.keepIn X.K (.ref f) = true) (hb:zDM X.K fd ps [])
  (ha:QA X (e :: es) fa) (hl:∀ σ M ds M1,fa σ M = some (ds,M1) -> ds.length = (e :: es).length) (hdb:(x == ("__debug__" : Str)) = false:=by decide) (he:starEach (e :: es) X.env = (false,eval e X.env) :: starEach es X.env:=by rfl) (hpl:(backTo pos (starEach es X.env)).any (·.1) = false:=by rfl) :
  QE X (.Call (.Name x p) (e :: es) [] pos) (zW g fa) :=
 .mk <| PE.imp (zPx F hr hg hm hk hb .nil zQJ ha.un hdb he hpl) fun τ H Q zz=>by
  obtain ⟨L,σ,M,d,M',c,rs,hf,q⟩:=zz;unfold zW at hf;split at hf
  ·rename_i ds M1 e1;split at hf
   ·rename_i d' M2 e2;cases hf;refine ⟨L,σ,M,_,_,c,rs,e1,fun L1 H1 vs s1 c1 r1=>?_⟩;dsimp only;rw [zUo];exact ⟨L1,ds,M1,d',_,c1,r1,hl _ _ _ _ e1,e2,fun L2 H2 v s2 c2 r2=>q L2 H2 v (s1.trans s2) c2 r2⟩
   ·cases hf
  ·cases hf
def zJb (fa:FA) (n:Nat):Prop:=∀ σ M ds M1,fa σ M = some (ds,M1) -> ds.length = n
theorem zCm:zJb zJ 0:=fun σ M ds M1 h=>by unfold zJ at h; cases h; rfl
theorem zBG {f:FD} {g:FA} {n:Nat} (h:zJb g n):zJb (zD f g) (n + 1):=fun σ M ds M1 q=>by
 unfold zD at q;split at q
 ·split at q
  ·rename_i e2;cases q;simp [h _ _ _ _ e2]
  ·cases q
 ·cases q
def zBK (n:Nat) (b:FS):FF:=fun ds M=>match b (ds.map some ++ List.replicate (n - ds.length) none) M with
 | some (.ret d,_,M')=>some (d,M')
 | some (.nx,_,M')=>some (.non,M')
 | _=>none
theorem zC9 {L:List Addr} {H:Hp} {N:List Str}:∀ {ds:List D} {vs:List V},zH L H ds vs -> zAr L H (ds.map some ++ List.replicate (N.length - ds.length) none) (L2.zDN N vs):=fun {ds vs} r=>by
 unfold L2.zDN;have hl:=r.length;refine ⟨by simp [hl],fun i d q=>?_⟩;by_cases hi:i < ds.length
 ·rw [zUB (by simpa using hi),zUR] at q;rw [zUB (by simpa [hl] using hi),zUR];cases e1:ds[i]? with
  | none=>rw [e1] at q; cases q
  | some d'=>
   rw [e1] at q; cases q;obtain ⟨v,e2,r2⟩:=r.get e1;exact ⟨v,by rw [e2]; rfl,r2⟩
 ·rw [zVE (by simpa using hi),List.getElem?_replicate] at q;split at q <;> cases q
theorem zAh {P:Program} {w:World} {K:PySem.W.Frag} {mg:Str -> Option Value} {base:Heap} {qual:Str} {st:Stmt} {N:List Str} {b:FS} {n:Nat} (F:Fun K x qual st f fd) (S:FnScope N ps (zO st)) (hn:ps.length = n)
  (hb:∀ (cdv:Value) (A:Around) (outer:List Env) (s:Shared) (H:Hp) (E:XK),Room k (A.deeper (envOfC qual (zO st) s.heap.objs.size f cdv)) -> QSs (zIv CX0 P w K mg base N qual (zO st) f cdv A outer s H E).nox (zBS st) b) :
  FnOk P w K mg base CX0 (k + 1) f fd ps (spF K n (zBK N.length b)):=by
 refine F.ok S (fun vs H Q E h=>?_) (fun cdv A outer s H vs Q E hr h=>⟨_,(hb cdv A outer s H E hr).un,?_⟩)
 ·obtain ⟨L,ds,M,d,M',c,r,hl,_⟩:=h;rw [r.length,hl,hn]
 ·obtain ⟨L,ds,M,d,M',c,r,hl,hf,q⟩:=h;unfold zBK at hf;split at hf
  ·rename_i d' σ' M1 e1;cases hf;exact ⟨L,_,M,_,_,_,c,zC9 r,e1,fun L1 H1 s1 c1 v r1=>q L1 H1 v s1 c1 r1⟩
  ·rename_i σ' M1 e1;cases hf;exact ⟨L,_,M,_,_,_,c,zC9 r,e1,fun L1 H1 s1 c1 τ' r1=>q L1 H1 .non s1 c1 (by unfold Rep; rfl)⟩
  ·cases hf
mutual
def D.und (n:Nat):D -> Bool
 | .tup ds=>D.unds n ds
 | .ref k=>decide (k < n)
 | .fn _ ds=>D.unds n ds
 | _=>true
def D.unds (n:Nat):List D -> Bool
 | []=>true
 | d :: ds=>D.und n d && D.unds n ds
end
mutual
theorem Rep.less {L N:List Addr} {H:Hp}:∀ {d:D} {v:V},D.und L.length d = true -> Rep (L ++ N) H d v -> Rep L H d v
 | .non,_,_,h=>by unfold Rep at h ⊢; exact h
 | .bl _,_,_,h=>by unfold Rep at h ⊢; exact h
 | .int _,_,_,h=>by unfold Rep at h ⊢; exact h
 | .str _,_,_,h=>by unfold Rep at h ⊢; exact h
 | .tup ds,_,hb,h=>by
  unfold D.und at hb;unfold Rep at h ⊢;obtain ⟨a,vs,rfl,e,r⟩:=h;exact ⟨a,vs,rfl,e,zH.less hb r⟩
 | .ref n,_,hb,h=>by
  unfold D.und at hb;unfold Rep at h ⊢;obtain ⟨a,rfl,e⟩:=h;exact ⟨a,rfl,by rwa [zUB (zU0 hb)] at e⟩
 | .fn _ ds,_,hb,h=>by
  unfold D.und at hb;unfold Rep at h ⊢;exact ⟨h.1,h.2.1,zH.less hb h.2.2⟩
theorem zH.less {L N:List Addr} {H:Hp}:∀ {ds:List D} {vs:List V},D.unds L.length ds = true -> zH (L ++ N) H ds vs -> zH L H ds vs
 | [],_,_,h=>by unfold zH at h ⊢; exact h
 | d :: ds,_,hb,h=>by
  unfold D.unds at hb;rw [zUe] at hb;unfold zH at h ⊢;obtain ⟨v,r,rfl,h1,h2⟩:=h;exact ⟨v,r,rfl,Rep.less hb.1 h1,zH.less hb.2 h2⟩
end
theorem zAB.less {κ:Type} {kf:D -> Option κ} {L N:List Addr} {H:Hp}:∀ {ps:List (D × D)} {vs:List (κ × V)},(ps.all fun p=>D.und L.length p.1 && D.und L.length p.2) = true -> zAB kf (L ++ N) H ps vs -> zAB kf L H ps vs
 | [],_,_,h=>h
 | p :: r,_,hb,h=>by
  rw [List.all_cons,zUe,zUe] at hb;obtain ⟨k,v,r',rfl,e,h1,h2⟩:=h;exact ⟨k,v,r',rfl,e,Rep.less hb.1.2 h1,zAB.less hb.2 h2⟩
def MO.und (n:Nat):MO -> Bool
 | .lst xs=>D.unds n xs
 | .fro xs=>D.unds n xs
 | .dict kvs=>kvs.all fun p=>D.und n p.1 && D.und n p.2
 | .dicT kvs=>kvs.all fun p=>D.und n p.1 && D.und n p.2
 | .set xs=>D.unds n xs
 | .froT kvs=>kvs.all fun p=>D.und n p.1 && D.und n p.2
 | .froK kvs=>kvs.all fun p=>D.und n p.1 && D.und n p.2
def zGf (g:FF):FF:=fun ds M=>match g ds M with
 | some (d,M')=>if D.und M.length d && (M'.take M.length).all (MO.und M.length) && decide (M.length <= M'.length) then some (d,M'.take M.length) else none
 | none=>none
theorem zKu {P:Program} {w:World} {K:PySem.W.Frag} {mg:Str -> Option Value} {base:Heap} {n:Nat} {g:FF} (h:FnOk P w K mg base CX0 k f fd ps (spF K n g)):FnOk P w K mg base CX0 k f fd ps (spF K n (zGf g)) :=
 h.imp fun vs H Q E ⟨L,ds,M,d,M',c,r,hl,hf,q⟩=>by
  unfold zGf at hf;split at hf
  ·rename_i d' M1 e1;split at hf
   ·rename_i hb;cases hf;simp only [zUe,zVH,zUf] at hb;obtain ⟨⟨hb1,hb2⟩,hb3⟩:=hb;refine ⟨L,ds,M,_,_,c,r,hl,e1,fun L1 H1 v s1 c1 r1=>?_⟩;obtain ⟨N,rfl⟩:=s1.pre;rw [<- c.len] at hb1 hb2 hb3;refine q L H1 v ⟨⟨[],by simp⟩,fun a ha=> .inl ha,s1.old,s1.tup,s1.frz,s1.tbl⟩ ⟨?_,?_,fun i a m e2 e3=>?_,c1.tab⟩ (Rep.less hb1 r1)
    ·rw [zVS,<- c.len]; omega
    ·exact (zVI.mp c1.nd).1
    ·rw [<- c.len] at e3;have hi:i < L.length:=(zT7.mp e2).1;have hm:m ∈ M1.take L.length:=zUv e3;rw [List.getElem?_take_of_lt hi] at e3;have z:=c1.obj i a m (zEF e2) e3;have bl:=hb2 m hm;cases m with
     | lst xs=>obtain ⟨ws,e4,r4⟩:=z; exact ⟨ws,e4,zH.less bl r4⟩
     | fro xs=>obtain ⟨o,ws,e4,r4⟩:=z; exact ⟨o,ws,e4,zH.less bl r4⟩
     | dict ps=>obtain ⟨vs,e,r⟩:=z; exact ⟨vs,e,zAB.less bl r⟩
     | dicT ps=>obtain ⟨vs,e,r⟩:=z; exact ⟨vs,e,zAB.less bl r⟩
     | set _=>exact z
     | froT ps=>obtain ⟨o,vs,e,r⟩:=z; exact ⟨o,vs,e,zAB.less bl r⟩
     | froK ps=>obtain ⟨o,vs,e,r⟩:=z; exact ⟨o,vs,e,zAB.less bl r⟩
   ·cases hf
  ·cases hf
def zCg (g:FF):FF:=fun ds M=>if D.unds 0 ds then match g ds [] with
  | some (d,_)=>if D.und 0 d then some (d,M) else none
  | none=>none
 else none
theorem zB2 {P:Program} {w:World} {K:PySem.W.Frag} {mg:Str -> Option Value} {base:Heap} {n:Nat} {g:FF} (h:FnOk P w K mg base CX0 k f fd ps (spF K n g)):FnOk P w K mg base CX0 k f fd ps (spF K n (zCg g)) :=
 h.imp fun vs H Q E ⟨L,ds,M,d,M',c,r,hl,hf,q⟩=>by
  unfold zCg at hf;split at hf
  ·rename_i hb0;split at hf
   ·rename_i d' M1 e1;split at hf
    ·rename_i hb;cases hf;refine ⟨[],ds,[],_,_,⟨rfl,.nil,fun i a m e=>by simp at e,c.tab⟩,zH.less (L:=[]) (N:=L) hb0 (by simpa using r),hl,e1,fun L1 H1 v s1 c1 r1=>?_⟩;exact q L H1 v s1.bare (c.bare s1) ((Rep.less (L:=[]) (N:=L1) hb (by simpa using r1)).more L |> fun z=>by simpa using z)
    ·cases hf
   ·cases hf
  ·cases hf
theorem zQf {X:Cx} {tg l:Expr} {tl:TE} (hl:PE X l tl):PI X tg l (fun σ H R=>tl σ H fun x H1=>∃ a,x = .ref a /\ ((∃ xs,SqL X.K H1 a xs) /\ R (Itl X.K a) H1 \/ (∃ xs,SqT X.K H1 a xs) /\ R (Itt X.K a) H1)):=by
 intro zB s σ H R I h;refine thn (hl zB s σ H _ I h) fun v s1 ⟨y,H1,I1,r1,a,hy,h1⟩=>?_;subst hy;cases r1;have fpk:∀ b ∈ [s1.heap.objs.size],zCq X zB H1 b:=fun b hb=>by
  have e:b = s1.heap.objs.size:=by simpa using hb
  subst e;exact I1.fpOk (zUA _) (I1.hok.fresh (zUA _))
 rcases h1 with ⟨⟨xs,hq⟩,q⟩ | ⟨⟨xs,hq⟩,q⟩
 ·obtain ⟨its,rv,pl,hz⟩:=I1.list hq;exact wpAny_pyIter_list pl.isList ⟨s1.heap.objs.size,[s1.heap.objs.size],_,_,H1,rfl,I1.kept (t':=s1.toks) fun b o e=>zT0 _ e,zMB a _,⟨_,zUE _ rfl,rfl,rfl⟩,fpk,q⟩
 ·obtain ⟨its,rv,pl,hz⟩:=I1.tuple hq;exact wpAny_pyIter_tuple (show s1.heap.IsTuple a its.toArray from pl) ⟨s1.heap.objs.size,[s1.heap.objs.size],_,_,H1,rfl,I1.kept (t':=s1.toks) fun b o e=>zT0 _ e,zKe a _,⟨_,zUE _ rfl,rfl,rfl⟩,fpk,q⟩
def zPQ (x:EV) (xs:List D):Option (Mem -> Prop):=match x with
 | .dat (.ref n)=>some fun M=>M[n]? = some (.lst xs) \/ M[n]? = some (.fro xs)
 | _=>none
def zBd (f:FE):FI:=fun σ M=>match f σ M with
 | some (x,M1)=>match zAa M1 x with
  | some xs=>some (xs,zPQ x xs,M1)
  | none=>none
 | none=>none
def zAD (f:FA):FI:=fun σ M=>match f σ M with
 | some ([.int j],M1)=>if -(2 ^ 62) <= j /\ j < 2 ^ 62 then some ((List.range j.toNat).map fun (k:Nat)=>D.int k,none,M1) else none
 | some ([.int i,.int j],M1)=>if -(2 ^ 62) <= i /\ i < 2 ^ 62 /\ -(2 ^ 62) <= j /\ j < 2 ^ 62 then some ((List.range (j - i).toNat).map fun (k:Nat)=>D.int (i + k),none,M1) else none
 | _=>none
theorem zQk {tg:Expr} {g:FE} (h:QE X e g):QI X tg e (zBd g):=.mk <| PI.imp (zQf h.un) fun τ H R zz=>by
 obtain ⟨L,σ,M,xs,gd,M',c,rs,hf,q⟩:=zz;unfold zBd at hf;split at hf
 ·rename_i y M1 e1;split at hf
  ·rename_i zs e2;cases hf;refine ⟨L,σ,M,_,_,c,rs,e1,fun L1 H1 v s1 c1 r1=>?_⟩;unfold zAa at e2;cases t:zBp y with
   | some ws=>
    rw [t] at e2; cases e2;obtain ⟨a,vs,rfl,e3,r3⟩:=zCN r1 t;refine ⟨a,rfl,.inr ⟨⟨vs,.of e3⟩,q L1 H1 _ s1 c1 fun L2 H2 M2 s2 c2 _=>?_⟩⟩;have e4:=s2.tup a vs e3;have r4:=r3.stp s2;refine ⟨fun i d hd=>?_,⟨vs,.of e4,by rw [r4.length]; exact zUA _⟩⟩;obtain ⟨u,hu,ru⟩:=r4.get hd;refine ⟨⟨vs,u,.of e4,hu⟩,fun v H3 ⟨hH,hv⟩=>?_⟩;subst hH;have:=hv vs (.of e4);rw [hu] at this; cases this;exact ⟨fun _ _ z=>z,ru⟩
   | none=>
    rw [t] at e2;dsimp only at e2;obtain ⟨a,vs,rfl,e3,r3⟩:=zB3 c1 r1 e2;refine ⟨a,rfl,.inl ⟨⟨vs,.inl e3⟩,q L1 H1 _ s1 c1 fun L2 H2 M2 s2 c2 hgd=>?_⟩⟩;have key:∃ vs',SqL X.K H2 a vs' /\ zH L2 H2 xs vs':=by
     cases y with
     | fl ys=>
      cases e2;obtain ⟨p',vs',hp',_,e5,e6,r6⟩:=r1;cases hp';exact ⟨vs',.of (s2.old _ _ e5 e6 (by intro _ z; cases z)),r6.stp s2⟩
     | dat d=>
      cases d with
      | ref n=>
       unfold zT Rep at r1;obtain ⟨a',ha',e5⟩:=r1;cases ha';have e6:L2[n]? = some a:=by obtain ⟨N,hN⟩:=s2.pre; rw [hN]; exact zEF e5
       rcases hgd with z | z
       ·obtain ⟨vs',e7,r7⟩:=c2.obj n a _ e6 z; exact ⟨vs',.of e7,r7⟩
       ·obtain ⟨o,vs',e7,r7⟩:=c2.obj n a _ e6 z; exact ⟨vs',.inl (.inr ⟨o,e7⟩),r7⟩
      | _=>cases e2
    obtain ⟨vs',hq,r7⟩:=key;refine ⟨fun i d hd=>?_,⟨vs',hq,by rw [r7.length]; exact zUA _⟩⟩;obtain ⟨u,hu,ru⟩:=r7.get hd;refine ⟨⟨vs',u,hq,hu⟩,fun v H3 ⟨hH,hv⟩=>?_⟩;subst hH;have:=hv vs' hq;rw [hu] at this; cases this;exact ⟨fun _ _ z=>z,ru⟩
  ·cases hf
 ·cases hf
theorem zLl {L:List Addr} {H:Hp} {j:Int} {vs:List V} (h:zH L H [.int j] vs):vs = [.int j]:=by
 unfold zH at h;obtain ⟨v,r,rfl,h1,h2⟩:=h;unfold zH at h2;unfold Rep at h1;subst h1 h2; rfl
theorem zN6 {K:PySem.W.Frag} {L:List Addr} {H:Hp} {lo:Int} {n:Nat}:zTP K (Itr lo n) L H ((List.range n).map fun (k:Nat)=>D.int (lo + k)) none:=by
 intro L' H' M' s c _;refine ⟨fun i d hd=>?_,by simp [Itr]⟩;rw [zUR] at hd;cases q:(List.range n)[i]? with
 | none=>rw [q] at hd; cases hd
 | some k=>
  rw [q] at hd; cases hd;have hi:i < n:=by have:=(zT7.mp q).1; simpa using this
  rw [List.getElem?_range hi] at q; cases q;refine ⟨hi,fun v H'' ⟨hH,hv⟩=>?_⟩;subst hH hv;exact ⟨fun _ _ z=>z,zAk⟩
theorem zLy {tg a:Expr} {g:FA} (hg:Gl X "range") (hm:X.mg "range" = none) (ha:QA X [a] g) (hl:zJb g 1) (hs:starEach [a] X.env = [(false,eval a X.env)]:=by rfl):QI X tg (.Call (.Name "range" p) [a] [] pos) (zAD g) :=
 .mk <| PI.imp (zMl hg hm ha.un hs) fun τ H R zz=>by
  obtain ⟨L,σ,M,xs,gd,M',c,rs,hf,q⟩:=zz;unfold zAD at hf;split at hf
  ·rename_i j M1 e1;split at hf
   ·rename_i hb;cases hf;refine ⟨L,σ,M,_,_,c,rs,e1,fun L1 H1 vs s1 c1 r1=>⟨j,zLl r1,hb.1,hb.2,q L1 H1 _ s1 c1 ?_⟩⟩;have z:=zN6 (K:=X.K) (L:=L1) (H:=H1) (lo:=0) (n:=j.toNat);simpa using z
   ·cases hf
  ·rename_i e1;have:=hl _ _ _ _ e1;simp at this
  ·cases hf
end
section
variable {X:Cx} {a b c e:Expr} {es rest:List Expr} {pos p apos cpos:Pos}
def zGu (f g:FT):FT:=fun σ M=>match f σ M with
 | some (true,M1)=>g σ M1
 | r=>r
def zIF (f g:FT):FT:=fun σ M=>match f σ M with
 | some (false,M1)=>g σ M1
 | r=>r
def zGp (f:FT):FT:=fun σ M=>match f σ M with
 | some (k,M1)=>some (!k,M1)
 | none=>none
structure QW (X:Cx) (e:Expr) (f:FT):Prop where
 un:PW X e (trT X.K f)
theorem PW.imp {t t':TT} (h:PW X e t) (hi:∀ τ H Q,t' τ H Q -> t τ H Q):PW X e t':=fun wh zB s σ H Q I q=>h wh zB s σ H Q I (hi _ _ _ q)
theorem zPZ {f:FT} (h:QT X a f):QW X (.BoolOp .And [a] pos) f:=.mk (zPE h.un)
theorem zM3 {f:FT} (h:QT X a f):QW X (.BoolOp .Or [a] pos) f:=.mk (zRk h.un)
theorem zRf {f g:FT} (h1:QT X a f) (h2:QW X (.BoolOp .And (b :: rest) pos) g):QW X (.BoolOp .And (a :: b :: rest) pos) (zGu f g):=.mk <| PW.imp (zR9 h1.un h2.un) fun τ H Q zz=>by
 obtain ⟨L,σ,M,d,M',c,rs,hf,q⟩:=zz;unfold zGu at hf;split at hf
 ·rename_i M1 e1;exact ⟨L,σ,M,_,_,c,rs,e1,fun L1 H1 s1 c1=>zKh ⟨L1,σ,M1,_,_,c1,rs.stp s1,hf,fun L2 H2 s2 c2=>q L2 H2 (s1.trans s2) c2⟩⟩
 ·rename_i hne;cases d with
  | true=>exact absurd hf (hne M')
  | false=>exact ⟨L,σ,M,_,_,c,rs,hf,fun L1 H1 s1 c1=>zKB (q L1 H1 s1 c1)⟩
theorem zQI {f g:FT} (h1:QT X a f) (h2:QW X (.BoolOp .Or (b :: rest) pos) g):QW X (.BoolOp .Or (a :: b :: rest) pos) (zIF f g):=.mk <| PW.imp (zS7 h1.un h2.un) fun τ H Q zz=>by
 obtain ⟨L,σ,M,d,M',c,rs,hf,q⟩:=zz;unfold zIF at hf;split at hf
 ·rename_i M1 e1;exact ⟨L,σ,M,_,_,c,rs,e1,fun L1 H1 s1 c1=>zKB ⟨L1,σ,M1,_,_,c1,rs.stp s1,hf,fun L2 H2 s2 c2=>q L2 H2 (s1.trans s2) c2⟩⟩
 ·rename_i hne;cases d with
  | false=>exact absurd hf (hne M')
  | true=>exact ⟨L,σ,M,_,_,c,rs,hf,fun L1 H1 s1 c1=>zKh (q L1 H1 s1 c1)⟩
theorem zRC {f:FT} (h:QW X e f):QT X e f:=.mk (PW.pt h.un)
theorem zN0 {f:FT} (h:QT X a f):QT X (.UnaryOp .Not a pos) (zGp f):=.mk <| PT.imp (zRv h.un) fun τ H Q zz=>by
 obtain ⟨L,σ,M,d,M',c,rs,hf,q⟩:=zz;unfold zGp at hf;split at hf
 ·rename_i k M1 e1;cases hf;exact ⟨L,σ,M,_,_,c,rs,e1,fun L1 H1 s1 c1=>q L1 H1 s1 c1⟩
 ·cases hf
def zE4 (f g:FE):FE:=fun σ M=>match f σ M with
 | some (.dat (.bl true),M1)=>g σ M1
 | some (.dat (.bl false),M1)=>some (.dat (.bl false),M1)
 | _=>none
def zNe (f:FE):FE:=fun σ M=>match f σ M with
 | some (.dat (.bl k),M1)=>some (.dat (.bl (!k)),M1)
 | _=>none
theorem zCH {H0:Hp} {L:List Addr} {H:Hp} {k:Bool} {v:V} (h:zT H0 L H (.dat (.bl k)) v):v = .bl k:=by unfold zT Rep at h; exact h
theorem zKE {op} {f:FE} (h:QE X a f):QE X (.BoolOp op [a] pos) f:=.mk (zRe h.un)
theorem zHM {f g:FE} (h1:QE X a f) (h2:QE X (.BoolOp .And (b :: rest) pos) g):QE X (.BoolOp .And (a :: b :: rest) pos) (zE4 f g):=.mk <| PE.imp (zRN h1.un h2.un) fun τ H Q zz=>by
 obtain ⟨L,σ,M,d,M',c,rs,hf,q⟩:=zz;unfold zE4 at hf;split at hf
 ·rename_i M1 e1;exact ⟨L,σ,M,_,_,c,rs,e1,fun L1 H1 v s1 c1 r1=>⟨true,zCH r1,zKh ⟨L1,σ,M1,_,_,c1,rs.stp s1,hf,fun L2 H2 w s2 c2 r2=>q L2 H2 w (s1.trans s2) c2 (r2.back s1 c s2.sub)⟩⟩⟩
 ·rename_i M1 e1;cases hf;exact ⟨L,σ,M,_,_,c,rs,e1,fun L1 H1 v s1 c1 r1=>⟨false,zCH r1,zKB (q L1 H1 _ s1 c1 (by have:=zCH r1; subst this; exact r1))⟩⟩
 ·cases hf
theorem zRL {f:FE} (h:QE X a f):QE X (.UnaryOp .Not a pos) (zNe f):=.mk <| PE.imp (zRz h.un) fun τ H Q zz=>by
 obtain ⟨L,σ,M,d,M',c,rs,hf,q⟩:=zz;unfold zNe at hf;split at hf
 ·rename_i k M1 e1;cases hf;exact ⟨L,σ,M,_,_,c,rs,e1,fun L1 H1 v s1 c1 r1=>⟨k,zCH r1,q L1 H1 _ s1 c1 (by unfold zT Rep; rfl)⟩⟩
 ·cases hf
abbrev KM:=EV -> List D -> Mem -> Option (D × Mem)
def fM (k:KM) (f:FE) (g:FA):FE:=fun σ M=>match f σ M with
 | some (x,M1)=>match zBf M1 x with
  | some _=>match g σ M1 with
   | some (ds,M2)=>match k x ds M2 with
    | some (d,M3)=>some (.dat d,M3)
    | none=>none
   | none=>none
  | none=>none
 | none=>none
def zRi (K:PySem.W.Frag) (r:V -> List V -> Hp -> VK -> Prop) (k:KM):Prop:=∀ {L:List Addr} {M M':Mem} {H H0:Hp} {x:EV} {ds:List D} {d:D} {v:V} {vs:List V} {Q:VK},Cor K L M H -> zT H0 L H x v -> zH L H ds vs -> k x ds M = some (d,M') ->
 (∀ L' H' u,Stp L H L' H' -> Cor K L' M' H' -> Rep L' H' d u -> Q u H') -> r v vs H Q
theorem zNk {K:PySem.W.Frag} {r:V -> List V -> Hp -> VK -> Prop} {k:KM} {f:FE} {g:FA} (hk:zRi K r k) {τ:Sv} {H:Hp} {Q:VK} (h:trE K (fM k f g) τ H Q):tBM K "list" r (trE K f) (trA K g) τ H Q:=by
 obtain ⟨L,σ,M,d,M',c,rs,hf,q⟩:=h;unfold fM at hf;split at hf
 ·rename_i x M1 e1;split at hf
  ·rename_i xs e2;split at hf
   ·rename_i ds M2 e3;split at hf
    ·rename_i d' M3 e4;cases hf;refine ⟨L,σ,M,_,_,c,rs,e1,fun L1 H1 v s1 c1 r1=>?_⟩;obtain ⟨a,vs,rfl,e5,r5⟩:=zB3 c1 r1 e2;refine ⟨.inl ⟨rfl,vs,.inl e5⟩,L1,σ,M1,_,_,c1,rs.stp s1,e3,fun L2 H2 ws s2 c2 r2=>?_⟩;exact hk c2 (r1.stp s2) r2 e4 fun L3 H3 u s3 c3 r3=>q L3 H3 u ((s1.trans s2).trans s3) c3 r3
    ·cases hf
   ·cases hf
  ·cases hf
 ·cases hf
def zv:KM:=fun x ds M=>match x,ds with
 | .dat (.ref n),[d]=>match M[n]? with
  | some (.lst xs)=>if xs.length < sizeLine then some (.non,M.set n (.lst (xs ++ [d]))) else none
  | _=>none
 | _,_=>none
theorem zH.one {L:List Addr} {H:Hp} {d:D} {vs:List V} (h:zH L H [d] vs):∃ v,vs = [v] /\ Rep L H d v:=by
 unfold zH at h;obtain ⟨v,r,rfl,h1,h2⟩:=h;unfold zH at h2;subst h2;exact ⟨v,rfl,h1⟩
theorem zKK {K:PySem.W.Frag}:zRi K zLR zv:=by
 intro L M M' H H0 x ds d v vs Q c rx rd hk q;unfold zv at hk;split at hk
 ·rename_i n d';split at hk
  ·rename_i xs e1;split at hk
   ·rename_i hz;cases hk;unfold zT Rep at rx;obtain ⟨a,rfl,e2⟩:=rx;obtain ⟨ws,e3,r3⟩:=c.obj n a _ e2 e1;obtain ⟨w,rfl,r4⟩:=rd.one;obtain ⟨c5,s5⟩:=c.write e2 e1 (r3.app (.cons r4 .nil));exact ⟨a,ws,w,rfl,rfl,e3,by rw [r3.length]; exact hz,q L _ _ s5 c5 (by unfold Rep; rfl)⟩
   ·cases hk
  ·cases hk
 ·cases hk
theorem zND {f:FE} {g:FA} (h:QE X a f) (hg:QA X [e] g) (hbase:attributeBase a "append" X.env (eval a X.env) = eval a X.env:=by rfl)
  (hfew:((backTo cpos (starEach [e] X.env)).all (fun x=> !x.1) && (backToKw cpos (keywordEach [] X.env)).all (fun x=>x.1.isSome) && decide ([e].length + ([]:List Keyword).length + (if ([]:List Keyword).isEmpty then 0 else 1) < 30)) = true:=by rfl)
  (hline:(apos.endLine == cpos.line) = true:=by rfl) (hs:starEach [e] X.env = (false,eval e X.env) :: starEach [] X.env:=by rfl) (hplain:(backTo cpos (starEach [] X.env)).any (·.1) = false:=by rfl) :
  QE X (.Call (.Attribute a "append" apos) [e] [] cpos) (fM zv f g) :=
 .mk <| PE.imp (zQO PySem.F.plainAttrs_list PySem.F.slot_list_append PySem.F.type_list_append zLt h.un hg.un hbase hfew hline hs hplain) fun _ _ _ z=>zNk zKK z
def zI2 (x:EV) (i:D) (d:D) (M:Mem):Option Mem:=match x,i with
 | .dat (.ref n),.int i=>match M[n]? with
  | some (.lst xs)=>match ixN xs.length i with
   | some j=>some (M.set n (.lst (xs.set j d)))
   | none=>none
  | _=>none
 | _,_=>none
def zIo (fv fo fi:FE):FS:=fun σ M=>match toD fv σ M with
 | some (d,M1)=>match fo σ M1 with
  | some (x,M2)=>match toD fi σ M2 with
   | some (i,M3)=>match zI2 x i d M3 with
    | some M4=>some (.nx,σ,M4)
    | none=>none
   | none=>none
  | none=>none
 | none=>none
theorem zOq {o i v:Expr} {fv fo fi:FE} (hv:QE X v fv) (ho:QE X o fo) (hi:QE X i fi)
  (ha:∀ v,assign (.Subscript o i p) X.env v = (do
   let ov <- holding [v] (eval o X.env);let iv <- holding [v,ov] (eval i X.env);standAt p;holding [v,ov,iv] (setItem ov iv v);release [v,ov,iv] []):=by intro _; rfl)
  (hs:swapsWithSole [.Subscript o i p] v pos.line X.env = pure false:=by rfl) (hw:swappedStores [.Subscript o i p] v X.env = pure none:=by rfl) (h1:(assignEach [.Subscript o i p] X.env).map (·.2) = [assign (.Subscript o i p) X.env]:=by rfl) :
  QS X (.Assign [.Subscript o i p] v pos) (zIo fv fo fi):=.mk <| PS.imp (zQr (zAY hv).un (zSD ho.un (zAY hi).un zNQ ha) hs hw h1) fun E τ H zz=>by
 obtain ⟨L,σ,M,out,σ',M',c,rs,hf,q⟩:=zz;unfold zIo at hf;split at hf
 ·rename_i d M1 e1;split at hf
  ·rename_i x M2 e2;split at hf
   ·rename_i j M3 e3;split at hf
    ·rename_i M4 e4;cases hf;refine ⟨L,σ,M,_,_,c,rs,e1,fun L1 H1 u s1 c1 r1=>⟨L1,σ,M1,_,_,c1,rs.stp s1,e2,fun L2 H2 w s2 c2 r2=>⟨L2,σ,M2,_,_,c2,rs.stp (s1.trans s2),e3,fun L3 H3 z s3 c3 r3=>?_⟩⟩⟩;have st:=(s1.trans s2).trans s3;unfold zI2 at e4;split at e4
     ·rename_i n k;split at e4
      ·rename_i xs e5;split at e4
       ·rename_i m e6;cases e4;have r2':=r2.stp s3;unfold zT Rep at r2';obtain ⟨a,rfl,e7⟩:=r2';obtain ⟨ws,e8,r8⟩:=c3.obj n a _ e7 e5;obtain ⟨c9,s9⟩:=c3.write e7 e5 (zH.set ((r1.stp s2).stp s3) m r8);exact ⟨a,ws,k,m,rfl,by unfold Rep at r3; exact r3,e8,by rw [r8.length]; exact e6,q L3 _ (st.trans s9) c9 τ ((rs.stp st).stp s9)⟩
       ·cases e4
      ·cases e4
     ·cases e4
    ·cases hf
   ·cases hf
  ·cases hf
 ·cases hf
def zG7:D -> Option V
 | .non=>some .non
 | .bl k=>some (.bl k)
 | .int i=>some (.int i)
 | .str x=>some (.str x)
 | _=>none
theorem zEK {L:List Addr} {H:Hp} {d:D} {v u:V} (h:Rep L H d v) (e:zG7 d = some u):v = u:=by
 cases d with
 | non=>cases e; unfold Rep at h; exact h
 | bl _=>cases e; unfold Rep at h; exact h
 | int _=>cases e; unfold Rep at h; exact h
 | str _=>cases e; unfold Rep at h; exact h
 | tup _=>cases e
 | ref _=>cases e
 | fn _ _=>cases e
def zLb (neg:Bool):K2:=fun x y M=>match x,y with
 | .dat d,.dat d'=>match zG7 d,zG7 d' with
  | some u,some w=>if zP1 u w then some (.dat (.bl (if neg then !decide (u = w) else decide (u = w))),M) else none
  | _,_=>none
 | _,_=>none
theorem zHE {neg:Bool} {x y r:EV} {M M':Mem} (h:zLb neg x y M = some (r,M')):∃ d d' u w,x = .dat d /\ y = .dat d' /\ zG7 d = some u /\ zG7 d' = some w /\ zP1 u w = true /\ r = .dat (.bl (if neg then !decide (u = w) else decide (u = w))) /\ M' = M:=by
 unfold zLb at h;split at h
 ·rename_i d d';split at h
  ·rename_i u w e1 e2;split at h
   ·rename_i hs;cases h;exact ⟨d,d',u,w,rfl,rfl,e1,e2,hs,rfl,rfl⟩
   ·cases h
  ·cases h
 ·cases h
theorem zK5 {K:PySem.W.Frag}:zCB K rEq (zLb false):=by
 intro L M M' H H0 x y d v w Q c rx ry hk q;obtain ⟨d1,d2,u,z,rfl,rfl,e1,e2,hs,rfl,rfl⟩:=zHE hk;have a1:=zEK rx e1;have a2:=zEK ry e2;subst a1 a2;exact ⟨hs,q L H _ (.refl L H) c (zBr (L:=L) (H:=H))⟩
theorem zQC {K:PySem.W.Frag}:zCB K rNe (zLb true):=by
 intro L M M' H H0 x y d v w Q c rx ry hk q;obtain ⟨d1,d2,u,z,rfl,rfl,e1,e2,hs,rfl,rfl⟩:=zHE hk;have a1:=zEK rx e1;have a2:=zEK ry e2;subst a1 a2;exact ⟨hs,q L H _ (.refl L H) c (zBr (L:=L) (H:=H))⟩
def zQe (neg:Bool) (K:PySem.W.Frag):R2:=fun x y H Q=>∃ p q xs,x = .ref p /\ y = .ref q /\ SqL K H p xs /\ SqL K H q [] /\ Q (.bl (if neg then !xs.isEmpty else xs.isEmpty)) H
theorem zHI {its:List Value} (r:zU [] its):its = []:=by cases r; rfl
theorem zIp (hu:X.A.units < cLine):OpR X (compareOp .Eq) (zQe false X.K):=by
 intro zB s σ H x y v u Q I rx ry h;obtain ⟨p,q,xs,rfl,rfl,h1,h2,hq⟩:=h;cases rx;cases ry;obtain ⟨its,rv,pl,_⟩:=I.list h1;obtain ⟨its2,rv2,pl2,_⟩:=I.list h2;cases zHI rv2;cases rv with
 | nil=>exact SeqAt.eq_listAt (e:=fun _=>true) pl.isList pl2.isList rfl hu (fun j h1=>by simp at h1) ⟨.bl true,H,I,rfl,hq⟩
 | cons _ _=>exact SeqAt.eq_list_lengthsAt pl.isList pl2.isList (by simp) hu ⟨.bl false,H,I,rfl,hq⟩
theorem zMn (hu:X.A.units < cLine):OpR X (compareOp .NotEq) (zQe true X.K):=by
 intro zB s σ H x y v u Q I rx ry h;obtain ⟨p,q,xs,rfl,rfl,h1,h2,hq⟩:=h;cases rx;cases ry;obtain ⟨its,rv,pl,_⟩:=I.list h1;obtain ⟨its2,rv2,pl2,_⟩:=I.list h2;cases zHI rv2;cases rv with
 | nil=>exact SeqAt.RcNeAt.lists (e:=fun _=>true) pl.isList pl2.isList rfl hu (fun j h1=>by simp at h1) _ _ _ _ ⟨.bl false,H,I,rfl,hq⟩
 | cons _ _=>exact SeqAt.RcNeAt.lists_lengths pl.isList pl2.isList (by simp) hu _ _ _ _ ⟨.bl true,H,I,rfl,hq⟩
def zPY (neg:Bool):K2:=fun x y M=>match zBf M x,zBf M y with
 | some xs,some []=>some (.dat (.bl (if neg then !xs.isEmpty else xs.isEmpty)),M)
 | _,_=>none
theorem zHe {K:PySem.W.Frag} {neg:Bool}:zCB K (zQe neg K) (zPY neg):=by
 intro L M M' H H0 x y d v w Q c rx ry hk q;unfold zPY at hk;split at hk
 ·rename_i xs e1 e2;cases hk;obtain ⟨p1,vs,rfl,h1,r1⟩:=zB3 c rx e1;obtain ⟨p2,ws,rfl,h2,r2⟩:=zB3 c ry e2;unfold zH at r2;subst r2;refine ⟨p1,p2,vs,rfl,rfl,.inl h1,.inl h2,q L H _ (.refl L H) c ?_⟩;have:vs.isEmpty = xs.isEmpty:=by
   have:=r1.length;cases vs <;> cases xs <;> simp_all
  rw [this];exact (zBr (L:=L) (H:=H))
 ·cases hk
def kOr (k1 k2:K2):K2:=fun x y M=>match k1 x y M with
 | some r=>some r
 | none=>k2 x y M
theorem zHc {K:PySem.W.Frag} {r1 r2:R2} {k1 k2:K2} (h1:zCB K r1 k1) (h2:zCB K r2 k2):zCB K (fun x y H Q=>r1 x y H Q \/ r2 x y H Q) (kOr k1 k2):=by
 intro L M M' H H0 x y d v w Q c rx ry hk q;unfold kOr at hk;split at hk
 ·rename_i r e1;cases hk;exact .inl (h1 c rx ry e1 q)
 ·exact .inr (h2 c rx ry hk q)
abbrev kEq:K2:=kOr (zLb false) (zPY false)
abbrev kNe:K2:=kOr (zLb true) (zPY true)
variable {f g:FE}
theorem zRj (hu:X.A.units < cLine) (h1:QE X a f) (h2:QE X b g):QE X (.Compare a [.Eq] [b] pos) (fOp kEq f g):=zNn (zHc zK5 zHe) (zQV.or (zIp hu)) h1 h2 (zDY _)
theorem zTE (hu:X.A.units < cLine) (h1:QE X a f) (h2:QE X b g):QT X (.Compare a [.Eq] [b] pos) (tst (fOp kEq f g)):=zEl (zHc zK5 zHe) (zQV.or (zIp hu)) h1 h2 (zDY _)
theorem zSu (hu:X.A.units < cLine) (h1:QE X a f) (h2:QE X b g):QT X (.Compare a [.NotEq] [b] pos) (tst (fOp kNe f g)):=zEl (zHc zQC zHe) (zSS.or (zMn hu)) h1 h2 (zDY _)
def zGX:KB:=fun xs M=>match xs with
 | [.dat (.int i)]=>some (.dat (.int i),M)
 | [.dat (.bl k)]=>some (.dat (.int (if k then 1 else 0)),M)
 | _=>none
theorem zO3 {K:PySem.W.Frag}:zF1 K (fun xs H Q=>(∃ i,xs = [.int i] /\ Q (.int i) H) \/ ∃ k,xs = [.bl k] /\ Q (.int (if k then 1 else 0)) H) zGX:=by
 intro L M M' H H0 xs d vs Q c r hk q;unfold zGX at hk;split at hk
 ·rename_i i;cases hk;obtain ⟨v,rfl,r1⟩:=r.one;have:v = .int i:=by unfold zT Rep at r1; exact r1
  subst this;exact .inl ⟨i,rfl,q L H _ (.refl L H) c (zAk (L:=L) (H:=H))⟩
 ·rename_i k;cases hk;obtain ⟨v,rfl,r1⟩:=r.one;have:=zCH r1;subst this;exact .inr ⟨k,rfl,q L H _ (.refl L H) c (zAk (L:=L) (H:=H))⟩
 ·cases hk
end
section
variable {X:Cx} {a b c e:Expr} {es rest:List Expr} {pos p apos cpos:Pos}
theorem zNK {prog:Program} {w:World} {A:Around} {E:Value -> Shared -> Prop} {s:Shared} {t b:Addr} {ws:List Value} {Q:Value -> Shared -> Prop} (ht:IsTup s.heap t #[]) (hb:IsTup s.heap b ws.toArray) (h1:Q (.ref b) s) :
  wpAny (model prog w) A (binaryOp .Add (.ref t) (.ref b)) Q E s:=by
 obtain ⟨⟨cls,dd,data,sl⟩,ho,hc,n,hd⟩:=id ht;obtain ⟨⟨cls2,dd2,data2,sl2⟩,ho2,hc2,n2,hd2⟩:=id hb;simp only at hc hd hc2 hd2;subst hc hd hc2 hd2
 exact concat_meets ⟨_,ho,rfl⟩ ⟨_,ho2,rfl⟩ noFill_tuple_add seq_tuple_add PySem.F.slot_tuple_add PySem.F.entry_tuple_add (PySem.F.args_tuple_add_2 _ _)
   (tuple_addW0 t b #[] ws.toArray n n2 dd dd2 sl sl2 (by simp)) ⟨ho,ho2,h1⟩
def zNt (K:PySem.W.Frag):R2:=fun x y H Q=>∃ a b ys,x = .ref a /\ y = .ref b /\ SqT K H a [] /\ SqT K H b ys /\ Q (.ref b) H
theorem zMm:OpR X (binaryOp .Add) (zNt X.K):=by
 intro zB s σ H x y v u Q I rx ry h;obtain ⟨a,b,ys,rfl,rfl,ha,hb,q⟩:=h;cases rx;cases ry;obtain ⟨its,r1,p1,_⟩:=I.tuple ha;obtain ⟨its2,r2,p2,_⟩:=I.tuple hb;cases zHI r1;exact zNK p1 p2 ⟨.ref b,H,I,rfl,q⟩
def zG3:K2:=fun x y M=>match zBp x,zBp y with
 | some xs,some ys=>if xs.length + ys.length <= sizeLine then some (.dat (.tup (xs ++ ys)),M) else none
 | _,_=>none
theorem zNE {K:PySem.W.Frag}:zCB K (fun x y H Q=>zQM K x y H Q \/ zNt K x y H Q) zG3:=by
 intro L M M' H H0 x y d v w Q c rx ry hk q;unfold zG3 at hk;split at hk
 ·rename_i xs ys e1 e2;split at hk
  ·rename_i hz;cases hk;obtain ⟨p1,vs,rfl,h1,r1⟩:=zCN rx e1;obtain ⟨p2,ws,rfl,h2,r2⟩:=zCN ry e2;cases xs with
   | nil=>
    refine .inr ⟨p1,p2,ws,rfl,rfl,.of (by unfold zH at r1; subst r1; exact h1),.of h2,q L H _ (.refl L H) c ?_⟩;unfold zT Rep;exact ⟨p2,ws,rfl,h2,r2⟩
   | cons x0 xr=>
    have hv:vs ≠ []:=fun z=>by have:=r1.length; rw [z] at this; simp at this
    refine .inl ⟨p1,p2,vs,ws,rfl,rfl,.of h1,.of h2,hv,by rw [r1.length,r2.length]; exact hz,fun z=>?_,fun z pp hp=>?_⟩
    ·have:ys = []:=by
      have:=r2.length; rw [z] at this;cases ys with
      | nil=>rfl
      | cons _ _=>simp at this
     subst this;refine q L H _ (.refl L H) c ?_;unfold zT Rep;rw [zUo];exact ⟨p1,vs,rfl,h1,r1⟩
    ·exact q L _ _ (.upd hp) (c.upd hp) (Rep.newTup hp (r1.app r2))
  ·cases hk
 ·cases hk
abbrev zAt:K2:=kOr zRg zG3
variable {f g:FE}
theorem zRG (h1:QE X a f) (h2:QE X b g):QE X (.BinOp a .Add b pos) (fOp zAt f g):=zIY (zHc (zFf fun _ _ _ _=>zAk) zNE) (zQa.or (zP8.or zMm)) h1 h2
structure Kinds (K:PySem.W.Frag):Prop where
 k:∀ t T,t ∈ ["NoneType", "bool", "int", "str", "list", "tuple", "dict"] -> T ∈ ["int", "bool", "str", "tuple"] -> PySem.W.kitOne K (.type t) (.type T) = some (decide (t = T) || (decide (t = "bool") && decide (T = "int")))
def zJU (M:Mem):EV -> Option String
 | .dat .non=>some "NoneType"
 | .dat (.bl _)=>some "bool"
 | .dat (.int _)=>some "int"
 | .dat (.str _)=>some "str"
 | .dat (.tup _)=>some "tuple"
 | .fl _=>some "list"
 | .dat (.ref n)=>match M[n]? with
  | some (.lst _)=>some "list"
  | some (.fro _)=>some "list"
  | some (.dict _)=>some "dict"
  | some (.dicT _)=>some "dict"
  | _=>none
 | .dat (.fn _ _)=>none
theorem zQx {K:PySem.W.Frag} {L:List Addr} {M:Mem} {H H0:Hp} {x:EV} {v:V} {t:String} (c:Cor K L M H) (r:zT H0 L H x v) (h:zJU M x = some t):TyOf K H v (.type t) /\ t ∈ ["NoneType", "bool", "int", "str", "list", "tuple", "dict"]:=by
 unfold zJU at h;split at h
 ·cases h; unfold zT Rep at r; subst r; exact ⟨.non,by simp⟩
 ·cases h; unfold zT Rep at r; subst r; exact ⟨.bl _,by simp⟩
 ·cases h; unfold zT Rep at r; subst r; exact ⟨.int _,by simp⟩
 ·cases h; unfold zT Rep at r; subst r; exact ⟨.str _,by simp⟩
 ·cases h; unfold zT Rep at r; obtain ⟨a,vs,rfl,e,_⟩:=r; exact ⟨.tup e,by simp⟩
 ·cases h;obtain ⟨p,vs,rfl,_,e,_⟩:=r;exact ⟨.lst e,by simp⟩
 ·unfold zT Rep at r;obtain ⟨a,rfl,e⟩:=r;split at h
  ·rename_i e1; cases h; obtain ⟨vs,q,_⟩:=c.obj _ a _ e e1; exact ⟨.lst q,by simp⟩
  ·rename_i e1; cases h; obtain ⟨o,vs,q,_⟩:=c.obj _ a _ e e1; exact ⟨.frz q,by simp⟩
  ·rename_i e1; cases h; obtain ⟨vs,q,_⟩:=c.obj _ a _ e e1; exact ⟨.dK q,by simp⟩
  ·rename_i e1; cases h; obtain ⟨vs,q,_⟩:=c.obj _ a _ e e1; exact ⟨.dT q,by simp⟩
  ·cases h
 ·cases h
def isT (t T:String):Bool:=decide (t = T) || (decide (t = "bool") && decide (T = "int"))
def zEj (T:String) (f:FE):FE:=fun σ M=>match f σ M with
 | some (x,M1)=>match zJU M1 x with
  | some t=>some (.dat (.bl (isT t T)),M1)
  | none=>none
 | none=>none
def zTC (K:PySem.W.Frag) (T:String):List V -> Hp -> VK -> Prop:=fun xs H Q=>∃ x t b,xs = [x,.ty T] /\ TyOf K H x t /\ PySem.W.kitOne K t (.type T) = some b /\ Q (.bl b) H
theorem zNJ {T:String}:zBs X (.builtin "isinstance") (zTC X.K T):=by
 intro zB s σ H xs us Q I r h;obtain ⟨x,t,b,rfl,ty,e,q⟩:=h;cases r with
 | cons r1 r2=>
  cases r2 with
  | cons r3 r4=>
   cases r4;cases r3;exact zLe I r1 ty e fun tk=>⟨.bl b,H,I.tok _,rfl,q⟩
theorem zGt {T:String} {y:Str} {p1 p2:Pos} (hK:Kinds X.K) (hT:T ∈ ["int", "bool", "str", "tuple"]) (hg:Gl X "isinstance") (hm:X.mg "isinstance" = none) (hg2:Gl X y) (hm2:X.mg y = none) (hv2:bootBuiltins y = some (.type T)) (hn2:y ≠ "__name__") (hd2:(y == ("__debug__" : Str)) = false) (h:QE X e f)
  (he:starEach (e :: [.Name y p2]) X.env = (false,eval e X.env) :: starEach [.Name y p2] X.env:=by rfl) (he2:starEach [.Name y p2] X.env = (false,eval (.Name y p2) X.env) :: starEach [] X.env:=by rfl) (hpl:(backTo pos (starEach [.Name y p2] X.env)).any (·.1) = false:=by rfl) :
  QE X (.Call (.Name "isinstance" p1) [e,.Name y p2] [] pos) (zEj T f) :=
 .mk <| PE.imp (zIS (r:=zTC X.K T) zNJ hg hm (by rfl) (zB5 h.un (zB5 (zPG (v:=.ty T) hg2 hm2 hv2 rfl hn2 hd2) zGC he2) he) (by decide) (by decide) he hpl) fun τ H Q zz=>by
  obtain ⟨L,σ,M,d,M',c,rs,hf,q⟩:=zz;unfold zEj at hf;split at hf
  ·rename_i x M1 e1;split at hf
   ·rename_i t e2;cases hf;refine ⟨L,σ,M,_,_,c,rs,e1,fun L1 H1 v s1 c1 r1=>?_⟩;obtain ⟨ty,ht⟩:=zQx c1 r1 e2;exact ⟨v,_,_,rfl,ty,hK.k t T ht hT,q L1 H1 _ s1 c1 (zBr (L:=L1) (H:=H1))⟩
   ·cases hf
  ·cases hf
theorem zH.two {L:List Addr} {H:Hp} {d d':D} {vs:List V} (h:zH L H [d,d'] vs):∃ v v',vs = [v,v'] /\ Rep L H d v /\ Rep L H d' v':=by
 unfold zH at h;obtain ⟨v,r,rfl,h1,h2⟩:=h;obtain ⟨v',rfl,h3⟩:=h2.one;exact ⟨v,v',rfl,h1,h3⟩
section
variable {fa:FAE}
theorem zNN (hg:Gl X "len") (hm:X.mg "len" = none) (ha:QAE X [e] fa) (he:starEach [e] X.env = (false,eval e X.env) :: starEach [] X.env:=by rfl) (hpl:(backTo pos (starEach [] X.env)).any (·.1) = false:=by rfl):QE X (.Call (.Name "len" p) [e] [] pos) (fB zp fa) :=
 zEI zOz zH4 PySem.boot_len hg hm ha (by decide) (by decide) he hpl
theorem zO9 (hg:Gl X "tuple") (hm:X.mg "tuple" = none) (ha:QAE X [e] fa) (he:starEach [e] X.env = (false,eval e X.env) :: starEach [] X.env:=by rfl) (hpl:(backTo pos (starEach [] X.env)).any (·.1) = false:=by rfl):QE X (.Call (.Name "tuple" p) [e] [] pos) (fB zX fa) :=
 zFU zMg zGT (by rfl) hg hm ha (by decide) (by decide) he hpl
theorem zRd (hg:Gl X "int") (hm:X.mg "int" = none) (ha:QAE X [e] fa) (he:starEach [e] X.env = (false,eval e X.env) :: starEach [] X.env:=by rfl) (hpl:(backTo pos (starEach [] X.env)).any (·.1) = false:=by rfl):QE X (.Call (.Name "int" p) [e] [] pos) (fB zGX fa) :=
 zFU zO3 zMj (by rfl) hg hm ha (by decide) (by decide) he hpl
end
end
def zEE (sc scope:Scope):Bool:=scope.names.all fun y=>
 (y.2 != .local || scope.names.lookup y.1 == some .local) && (y.2 != .cell || scope.names.lookup y.1 == some .cell) && (y.2 != .free || (sc.names.lookup y.1 == some .cell || sc.names.lookup y.1 == some .free))
def zFI (N:List Str) (scope:Scope) (own:List Nat):Bool:=(List.range N.length).all fun i=>match N[i]? with
 | some x=>decide (i ∈ own) || (scope.names.lookup x == none) || (scope.names.lookup x == some .free)
 | none=>true
theorem zEn {X:Cx} {scope sc:Scope} {own:List Nat} {N:List Str} (hk:scope.kind = .function) (hs:X.env.scope = sc) (hN:X.N = N) (h1:zEE sc scope = true) (h2:zFI N scope own = true):CompIn X scope own:=by
 unfold zEE at h1;rw [zUf] at h1;refine ⟨⟨hk,fun y hy e=>?_,fun y hy e=>?_,fun y hy e=>?_⟩,fun i x e=>?_⟩
 ·have:=h1 y hy;simp [e] at this;exact this
 ·have:=h1 y hy;simp [e] at this;exact this
 ·have:=h1 y hy;simp [e] at this;show X.env.scope.names.lookup y.1 = _ \/ X.env.scope.names.lookup y.1 = _;rw [hs];exact this
 ·unfold zFI at h2;rw [zUf] at h2;rw [hN] at e;have hi:i < N.length:=(zT7.mp e).1;have:=h2 i (by simpa using hi);rw [e] at this;simp only [Bool.or_eq_true,zVH,beq_iff_eq,or_assoc] at this;exact this
def zEh (K:PySem.W.Frag):Bool:=K.all fun p=>match p.2.cls with
 | .type n=>n != "list"
 | _=>true
theorem zGE {a:Addr} {o:Obj}:∀ {K:PySem.W.Frag},K.lookup a = some o -> (a,o) ∈ K
 | [],h=>by cases h
 | (b,u) :: r,h=>by
  have h':List.lookup a ((b,u) :: r) = some o:=h;rw [zV9] at h';cases q:a == b with
  | true=>rw [q] at h'; cases h'; rw [beq_iff_eq.mp q]; exact zUI
  | false=>rw [q] at h'; exact zUH _ (zGE h')
theorem zGn {K:PySem.W.Frag} (h:zEh K = true) {a:Addr} {o:Obj} (e:K.lookup a = some o) (hc:o.cls = .type "list"):False:=by
 unfold zEh at h;rw [zUf] at h;have:=h (a,o) (zGE e);simp [hc] at this
theorem zHC {L:List Addr} {H:Hp}:∀ (ns:List Int),zH L H (ns.map D.int) (ns.map V.int)
 | []=> .nil
 | n :: r=> .cons (by unfold Rep; rfl) (zHC r)
theorem zL3 {K:PySem.W.Frag} {m:FF} {H:Hp} {a:Addr} {ns:List Int} {E:XK} (hL:zEh K = true) (hT:zMV K H) (hO:∀ b xs,H b ≠ some (.lst xs)) (hS:SqL K H a (ns.map V.int)) (h:∃ M',m [.ref 0] [.fro (ns.map D.int)] = some (.bl true,M')) :
  spF K 1 m [.ref a] H (fun v _=>v = .bl true) E:=by
 obtain ⟨M',e⟩:=h;have hf:∃ o,H a = some (.frz o (.lst (ns.map V.int))):=by
  rcases hS with (h1 | h1) | ⟨o,its,n,h1,h2,_⟩
  ·exact (hO _ _ h1).elim
  ·exact h1
  ·exact (zGn hL h1 h2).elim
 obtain ⟨o,hf⟩:=hf;refine ⟨[a],[.ref 0],[.fro (ns.map D.int)],_,_,⟨rfl,by simp,fun n b m e1 e2=>?_,hT⟩,.cons ?_ .nil,rfl,e,fun L' H' v s c r=>?_⟩
 ·cases n with
  | zero=>simp at e1 e2; subst e1; subst e2; exact ⟨o,_,hf,zHC ns⟩
  | succ n=>simp at e1
 ·unfold Rep; exact ⟨a,rfl,rfl⟩
 ·unfold Rep at r; exact r
def Ok {α:Type} (x:Option (α × Mem)) (P:α -> Mem -> Prop):Prop:=∃ a M,x = some (a,M) /\ P a M
def OkS (x:Option (Out × Sd × Mem)) (P:Out -> Sd -> Mem -> Prop):Prop:=∃ o σ M,x = some (o,σ,M) /\ P o σ M
theorem Ok.mono {α:Type} {x:Option (α × Mem)} {P Q:α -> Mem -> Prop} (h:Ok x P) (hq:∀ a M,P a M -> Q a M):Ok x Q:=let ⟨a,M,e,p⟩:=h; ⟨a,M,e,hq a M p⟩
theorem OkS.mono {x:Option (Out × Sd × Mem)} {P Q:Out -> Sd -> Mem -> Prop} (h:OkS x P) (hq:∀ o σ M,P o σ M -> Q o σ M):OkS x Q:=let ⟨a,σ,M,e,p⟩:=h; ⟨a,σ,M,e,hq a σ M p⟩
theorem zq {α:Type} {a:α} {M:Mem} {P:α -> Mem -> Prop}:Ok (some (a,M)) P ↔ P a M:=⟨fun ⟨_,_,e,p⟩=>by cases e; exact p,fun p=>⟨a,M,rfl,p⟩⟩
theorem zFB {α:Type} {P:α -> Mem -> Prop}:Ok (none:Option (α × Mem)) P ↔ False:=⟨(fun ⟨_,_,e,_⟩=>(nomatch e)),fun h=>h.elim⟩
theorem zMs {o:Out} {σ:Sd} {M:Mem} {P:Out -> Sd -> Mem -> Prop}:OkS (some (o,σ,M)) P ↔ P o σ M:=⟨fun ⟨_,_,_,e,p⟩=>by cases e; exact p,fun p=>⟨o,σ,M,rfl,p⟩⟩
section
variable {σ:Sd} {M:Mem} {f g:FE} {P:EV -> Mem -> Prop}
theorem zBB {i:Nat}:Ok (zC i σ M) P ↔ ∃ d,σ[i]? = some (some d) /\ P (.dat d) M:=by
 unfold zC;constructor
 ·rintro ⟨a,M1,e,p⟩;split at e
  ·rename_i d e1; cases e; exact ⟨d,e1,p⟩
  ·cases e
 ·rintro ⟨d,e1,p⟩;rw [e1]; exact ⟨_,_,rfl,p⟩
theorem zMk {d:D}:Ok (fC d σ M) P ↔ P (.dat d) M:=zq
theorem zJL {k:K2}:Ok (fOp k f g σ M) P ↔ Ok (f σ M) fun x M1=>Ok (g σ M1) fun y M2=>Ok (k x y M2) P:=by
 unfold fOp;constructor
 ·rintro ⟨a,M1,e,p⟩;split at e
  ·rename_i x M2 e1;split at e
   ·rename_i y M3 e2;exact ⟨x,M2,e1,y,M3,e2,a,M1,e,p⟩
   ·cases e
  ·cases e
 ·rintro ⟨x,M2,e1,y,M3,e2,a,M1,e,p⟩;rw [e1]; dsimp only; rw [e2]; exact ⟨a,M1,e,p⟩
def zHr (P:D -> Mem -> Prop):EV -> Mem -> Prop
 | .dat d,M=>P d M
 | .fl xs,M=>P (.ref M.length) (M ++ [.lst xs])
theorem zA0 {P:D -> Mem -> Prop}:Ok (toD f σ M) P ↔ Ok (f σ M) (zHr P):=by
 unfold toD;constructor
 ·rintro ⟨a,M1,e,p⟩;split at e
  ·rename_i d M2 e1; cases e; exact ⟨_,_,e1,p⟩
  ·rename_i xs M2 e1; cases e; exact ⟨_,_,e1,p⟩
  ·cases e
 ·rintro ⟨x,M2,e1,p⟩;rw [e1];cases x with
  | dat d=>exact ⟨d,M2,rfl,p⟩
  | fl xs=>exact ⟨_,_,rfl,p⟩
theorem zR {P:D -> Mem -> Prop} {d:D} {M:Mem}:zHr P (.dat d) M ↔ P d M:=Iff.rfl
section
variable {P:List D -> Mem -> Prop}
theorem zBO:Ok (zJ σ M) P ↔ P [] M:=zq
theorem zA7 {f:FD} {g:FA}:Ok (zD f g σ M) P ↔ Ok (f σ M) fun d M1=>Ok (g σ M1) fun ds M2=>P (d :: ds) M2:=by
 unfold zD;constructor
 ·rintro ⟨a,M1,e,p⟩;split at e
  ·rename_i x M2 e1;split at e
   ·rename_i y M3 e2;cases e;exact ⟨x,M2,e1,y,_,e2,p⟩
   ·cases e
  ·cases e
 ·rintro ⟨x,M2,e1,y,M3,e2,p⟩;rw [e1]; dsimp only; rw [e2]; exact ⟨_,_,rfl,p⟩
end
section
variable {P:List EV -> Mem -> Prop}
theorem zPt:Ok (zQ σ M) P ↔ P [] M:=zq
theorem zOs {f:FE} {g:FAE}:Ok (zG f g σ M) P ↔ Ok (f σ M) fun d M1=>Ok (g σ M1) fun ds M2=>P (d :: ds) M2:=by
 unfold zG;constructor
 ·rintro ⟨a,M1,e,p⟩;split at e
  ·rename_i x M2 e1;split at e
   ·rename_i y M3 e2;cases e;exact ⟨x,M2,e1,y,_,e2,p⟩
   ·cases e
  ·cases e
 ·rintro ⟨x,M2,e1,y,M3,e2,p⟩;rw [e1]; dsimp only; rw [e2]; exact ⟨_,_,rfl,p⟩
end
theorem zR5 {a:FA}:Ok (zAX a σ M) P ↔ Ok (a σ M) fun ds M1=>ds.length <= sizeLine /\ P (.dat (.tup ds)) M1:=by
 unfold zAX;constructor
 ·rintro ⟨x,M1,e,p⟩;split at e
  ·rename_i ds M2 e1;split at e
   ·rename_i hz; cases e; exact ⟨ds,_,e1,hz,p⟩
   ·cases e
  ·cases e
 ·rintro ⟨ds,M1,e1,hz,p⟩;rw [e1]; dsimp only; rw [zUJ hz]; exact ⟨_,_,rfl,p⟩
theorem zDa {a:FA}:Ok (zA3 a σ M) P ↔ Ok (a σ M) fun ds M1=>ds.length <= sizeLine /\ P (.fl ds) M1:=by
 unfold zA3;constructor
 ·rintro ⟨x,M1,e,p⟩;split at e
  ·rename_i ds M2 e1;split at e
   ·rename_i hz; cases e; exact ⟨ds,_,e1,hz,p⟩
   ·cases e
  ·cases e
 ·rintro ⟨ds,M1,e1,hz,p⟩;rw [e1]; dsimp only; rw [zUJ hz]; exact ⟨_,_,rfl,p⟩
theorem zTS {k:KB} {a:FAE}:Ok (fB k a σ M) P ↔ Ok (a σ M) fun xs M1=>Ok (k xs M1) P:=by
 unfold fB;constructor
 ·rintro ⟨x,M1,e,p⟩;split at e
  ·rename_i ds M2 e1; exact ⟨ds,_,e1,x,M1,e,p⟩
  ·cases e
 ·rintro ⟨ds,M1,e1,p⟩;rw [e1]; exact p
theorem zCU {m:FF} {a:FA}:Ok (zW m a σ M) P ↔ Ok (a σ M) fun ds M1=>Ok (m ds M1) fun d M2=>P (.dat d) M2:=by
 unfold zW;constructor
 ·rintro ⟨x,M1,e,p⟩;split at e
  ·rename_i ds M2 e1;split at e
   ·rename_i d M3 e2; cases e; exact ⟨ds,_,e1,d,_,e2,p⟩
   ·cases e
  ·cases e
 ·rintro ⟨ds,M1,e1,d,M2,e2,p⟩;rw [e1]; dsimp only; rw [e2]; exact ⟨_,_,rfl,p⟩
theorem zKI {k:KM} {a:FA}:Ok (fM k f a σ M) P ↔ Ok (f σ M) fun x M1=>(∃ xs,zBf M1 x = some xs) /\ Ok (a σ M1) fun ds M2=>Ok (k x ds M2) fun d M3=>P (.dat d) M3:=by
 unfold fM;constructor
 ·rintro ⟨x,M1,e,p⟩;split at e
  ·rename_i y M2 e1;split at e
   ·rename_i xs e2;split at e
    ·rename_i ds M3 e3;split at e
     ·rename_i d M4 e4; cases e; exact ⟨y,_,e1,⟨xs,e2⟩,ds,_,e3,d,_,e4,p⟩
     ·cases e
    ·cases e
   ·cases e
  ·cases e
 ·rintro ⟨y,M1,e1,⟨xs,e2⟩,ds,M2,e3,d,M3,e4,p⟩;rw [e1]; dsimp only; rw [e2]; dsimp only; rw [e3]; dsimp only; rw [e4]; exact ⟨_,_,rfl,p⟩
section
variable {P:Option Int -> Mem -> Prop}
theorem zGG:Ok (zCd σ M) P ↔ P none M:=zq
def zS5 (P:Option Int -> Mem -> Prop):EV -> Mem -> Prop
 | .dat (.int i),M=>P (some i) M
 | _,_=>False
theorem zFw {i:Int} {M:Mem}:zS5 P (.dat (.int i)) M ↔ P (some i) M:=Iff.rfl
theorem zF3:Ok (zCF f σ M) P ↔ Ok (f σ M) (zS5 P):=by
 unfold zCF;constructor
 ·rintro ⟨x,M1,e,p⟩;split at e
  ·rename_i i M2 e1; cases e; exact ⟨_,_,e1,p⟩
  ·cases e
 ·rintro ⟨x,M1,e1,p⟩;rw [e1];cases x with
  | fl xs=>exact p.elim
  | dat d=>
   cases d with
   | int i=>exact ⟨_,_,rfl,p⟩
   | _=>exact p.elim
end
theorem zNx {l h:FO}:Ok (fSl f l h σ M) P ↔ Ok (f σ M) fun x M1=>Ok (l σ M1) fun lo M2=>Ok (h σ M2) fun hi M3=>Ok (kSl x lo hi M3) P:=by
 unfold fSl;constructor
 ·rintro ⟨x,M1,e,p⟩;split at e
  ·rename_i y M2 e1;split at e
   ·rename_i lo M3 e2;split at e
    ·rename_i hi M4 e3; exact ⟨y,_,e1,lo,_,e2,hi,_,e3,x,M1,e,p⟩
    ·cases e
   ·cases e
  ·cases e
 ·rintro ⟨y,M1,e1,lo,M2,e2,hi,M3,e3,p⟩;rw [e1]; dsimp only; rw [e2]; dsimp only; rw [e3]; exact p
def blP (P:Bool -> Mem -> Prop):EV -> Mem -> Prop
 | .dat (.bl k),M=>P k M
 | _,_=>False
theorem zJo {P:Bool -> Mem -> Prop} {k:Bool} {M:Mem}:blP P (.dat (.bl k)) M ↔ P k M:=Iff.rfl
theorem zKC {P:Bool -> Mem -> Prop}:Ok (tst f σ M) P ↔ Ok (f σ M) (blP P):=by
 unfold tst;constructor
 ·rintro ⟨x,M1,e,p⟩;split at e
  ·rename_i i M2 e1; cases e; exact ⟨_,_,e1,p⟩
  ·cases e
 ·rintro ⟨x,M1,e1,p⟩;rw [e1];cases x with
  | fl xs=>exact p.elim
  | dat d=>
   cases d with
   | bl i=>exact ⟨_,_,rfl,p⟩
   | _=>exact p.elim
section
variable {P:Bool -> Mem -> Prop} {s t:FT}
theorem zFv:Ok (zAe σ M) P ↔ P true M:=zq
theorem zQi:Ok (zIF s t σ M) P ↔ Ok (s σ M) fun k M1=>if k then P true M1 else Ok (t σ M1) P:=by
 unfold zIF;constructor
 ·rintro ⟨x,M1,e,p⟩;split at e
  ·rename_i M2 e1; exact ⟨false,M2,e1,by simpa using ⟨x,M1,e,p⟩⟩
  ·rename_i hn;cases x with
   | false=>exact absurd e (hn M1)
   | true=>exact ⟨true,M1,e,by simpa using p⟩
 ·rintro ⟨x,M1,e1,p⟩;rw [e1];cases x with
  | false=>simpa using p
  | true=>exact ⟨true,M1,rfl,by simpa using p⟩
theorem zLN:Ok (zGp s σ M) P ↔ Ok (s σ M) fun k M1=>P (!k) M1:=by
 unfold zGp;constructor
 ·rintro ⟨x,M1,e,p⟩;split at e
  ·rename_i k M2 e1; cases e; exact ⟨k,_,e1,p⟩
  ·cases e
 ·rintro ⟨k,M1,e1,p⟩;rw [e1]; exact ⟨_,_,rfl,p⟩
end
end
section
variable {σ:Sd} {M:Mem} {f g:FS} {P:Out -> Sd -> Mem -> Prop}
def nxP (k:Sd -> Mem -> Prop) (P:Out -> Sd -> Mem -> Prop):Out -> Sd -> Mem -> Prop
 | .nx,σ,M=>k σ M
 | o,σ,M=>P o σ M
theorem zN {k:Sd -> Mem -> Prop}:nxP k P .nx σ M ↔ k σ M:=Iff.rfl
theorem zBC {k:Sd -> Mem -> Prop} {d:D}:nxP k P (.ret d) σ M ↔ P (.ret d) σ M:=Iff.rfl
theorem zm:OkS (zAc σ M) P ↔ P .nx σ M:=zMs
theorem zK:OkS (zL f g σ M) P ↔ OkS (f σ M) (nxP (fun σ1 M1=>OkS (g σ1 M1) P) P):=by
 unfold zL;constructor
 ·rintro ⟨o,σ1,M1,e,p⟩;split at e
  ·rename_i σ2 M2 e1; exact ⟨_,_,_,e1,o,σ1,M1,e,p⟩
  ·rename_i hn;refine ⟨o,σ1,M1,e,?_⟩;cases o with
   | nx=>exact absurd e (hn σ1 M1)
   | _=>exact p
 ·rintro ⟨o,σ1,M1,e1,p⟩;rw [e1];cases o with
  | nx=>exact p
  | _=>exact ⟨_,_,_,rfl,p⟩
theorem zAF {c:FT}:OkS (sIf c f g σ M) P ↔ Ok (c σ M) fun k M1=>if k then OkS (f σ M1) P else OkS (g σ M1) P:=by
 unfold sIf;constructor
 ·rintro ⟨o,σ1,M1,e,p⟩;split at e
  ·rename_i M2 e1; exact ⟨_,_,e1,by dsimp only; rw [zUJ rfl]; exact ⟨o,σ1,M1,e,p⟩⟩
  ·rename_i M2 e1; exact ⟨_,_,e1,by simpa using ⟨o,σ1,M1,e,p⟩⟩
  ·cases e
 ·rintro ⟨x,M1,e1,p⟩;rw [e1];cases x with
  | true=>simpa using p
  | false=>simpa using p
theorem zH7 {h:FE}:OkS (zAO h σ M) P ↔ Ok (h σ M) (zHr fun d M1=>P (.ret d) σ M1):=by
 rw [<- zA0];unfold zAO;constructor
 ·rintro ⟨o,σ1,M1,e,p⟩;split at e
  ·rename_i d M2 e1; cases e; exact ⟨_,_,e1,p⟩
  ·cases e
 ·rintro ⟨x,M1,e1,p⟩;rw [e1]; exact ⟨_,_,_,rfl,p⟩
theorem zb {i:Nat} {h:FE}:OkS (zk i h σ M) P ↔ Ok (h σ M) (zHr fun d M1=>P .nx (σ.set i (some d)) M1):=by
 rw [<- zA0];unfold zk;constructor
 ·rintro ⟨o,σ1,M1,e,p⟩;split at e
  ·rename_i d M2 e1; cases e; exact ⟨_,_,e1,p⟩
  ·cases e
 ·rintro ⟨x,M1,e1,p⟩;rw [e1]; exact ⟨_,_,_,rfl,p⟩
theorem zBZ {h:FE}:OkS (zAu h σ M) P ↔ Ok (h σ M) fun _ M1=>P .nx σ M1:=by
 unfold zAu;constructor
 ·rintro ⟨o,σ1,M1,e,p⟩;split at e
  ·rename_i d M2 e1; cases e; exact ⟨_,_,e1,p⟩
  ·cases e
 ·rintro ⟨x,M1,e1,p⟩;rw [e1]; exact ⟨_,_,_,rfl,p⟩
theorem zLH {v o i:FE}:OkS (zIo v o i σ M) P ↔ Ok (v σ M) (zHr fun d M1=>Ok (o σ M1) fun x M2=>Ok (i σ M2) (zHr fun j M3=>∃ M4,zI2 x j d M3 = some M4 /\ P .nx σ M4)):=by
 rw [<- zA0];unfold zIo;constructor
 ·rintro ⟨o,σ1,M1,e,p⟩;split at e
  ·rename_i d M2 e1;split at e
   ·rename_i x M3 e2;split at e
    ·rename_i j M4 e3;split at e
     ·rename_i M5 e4;cases e;refine ⟨_,_,e1,_,_,e2,?_⟩;dsimp only; rw [<- zA0];exact ⟨_,_,e3,_,e4,p⟩
     ·cases e
    ·cases e
   ·cases e
  ·cases e
 ·rintro ⟨d,M1,e1,x,M2,e2,p⟩;rw [<- zA0] at p;obtain ⟨j,M3,e3,M4,e4,p⟩:=p;rw [e1]; dsimp only; rw [e2]; dsimp only; rw [e3]; dsimp only; rw [e4]; exact ⟨_,_,_,rfl,p⟩
theorem zAT {n:Nat} {ds:List D} {Q:D -> Mem -> Prop}:Ok (zBK n f ds M) Q ↔ OkS (f (ds.map some ++ List.replicate (n - ds.length) none) M) fun o _ M1=>match o with | .ret d=>Q d M1 | .nx=>Q .non M1 | _=>False:=by
 unfold zBK;constructor
 ·rintro ⟨o,M1,e,p⟩;split at e
  ·rename_i d σ1 M2 e1; cases e; exact ⟨_,_,_,e1,p⟩
  ·rename_i σ1 M2 e1; cases e; exact ⟨_,_,_,e1,p⟩
  ·cases e
 ·rintro ⟨o,σ1,M1,e1,p⟩;rw [e1];cases o with
  | ret d=>exact ⟨_,_,rfl,p⟩
  | nx=>exact ⟨_,_,rfl,p⟩
  | brk=>exact p.elim
  | cnt=>exact p.elim
theorem zA5 {g:FG} {b:FS} {all:List D} {gd:Option (Mem -> Prop)} (I:List D -> Sd -> Mem -> Prop)
  (hs:∀ x r σ M,I (x :: r) σ M -> zCh gd all M /\ ∃ σ1,g x σ = some σ1 /\ OkS (b σ1 M) fun o σ2 M2=>match o with | .nx=>I r σ2 M2 | .cnt=>I r σ2 M2 | .brk=>P .nx σ2 M2 | .ret d=>P (.ret d) σ2 M2)
  (he:∀ σ M,I [] σ M -> zCh gd all M /\ P .nx σ M):∀ (xs:List D) (σ:Sd) (M:Mem),I xs σ M -> OkS (zCf g b all gd xs σ M) P
 | [],σ,M,hi=>by
  unfold zCf;obtain ⟨h1,h2⟩:=he σ M hi;rw [zUJ h1];exact ⟨_,_,_,rfl,h2⟩
 | x :: r,σ,M,hi=>by
  unfold zCf;obtain ⟨h1,σ1,e1,o,σ2,M2,e2,q⟩:=hs x r σ M hi;rw [zUJ h1,e1];dsimp only;rw [e2];cases o with
  | nx=>exact zA5 I hs he r σ2 M2 q
  | cnt=>exact zA5 I hs he r σ2 M2 q
  | brk=>exact ⟨_,_,_,rfl,q⟩
  | ret d=>exact ⟨_,_,_,rfl,q⟩
theorem zAb {i:FI} {g:FG} {b:FS}:OkS (zBF i g b σ M) P ↔ ∃ xs gd M1,i σ M = some (xs,gd,M1) /\ OkS (zCf g b xs gd xs σ M1) P:=by
 unfold zBF;constructor
 ·rintro ⟨o,σ1,M1,e,p⟩;split at e
  ·rename_i xs gd M2 e1; exact ⟨_,_,_,e1,_,_,_,e,p⟩
  ·cases e
 ·rintro ⟨xs,gd,M1,e1,p⟩;rw [e1]; exact p
theorem zCC {g:FG} {tc:FT} {te:FE} {all:List D} {gd:Option (Mem -> Prop)} (I:List D -> List D -> Mem -> Prop)
  (hs:∀ x r acc M,I (x :: r) acc M -> zCh gd all M /\ ∃ σ1,g x σ = some σ1 /\ Ok (tc σ1 M) fun k M1=>if k then Ok (te σ1 M1) (zHr fun d M2=>I r (acc ++ [d]) M2) else I r acc M1)
  {Q:List D -> Mem -> Prop} (he:∀ acc M,I [] acc M -> zCh gd all M /\ Q acc M):∀ (xs acc:List D) (M:Mem),I xs acc M -> Ok (zBu g tc te σ all gd xs M) fun ys M1=>Q (acc ++ ys) M1
 | [],acc,M,hi=>by
  unfold zBu;obtain ⟨h1,h2⟩:=he acc M hi;rw [zUJ h1];exact ⟨_,_,rfl,by simpa using h2⟩
 | x :: r,acc,M,hi=>by
  unfold zBu;obtain ⟨h1,σ1,e1,k,M1,e2,q⟩:=hs x r acc M hi;rw [zUJ h1,e1];dsimp only;rw [e2];cases k with
  | false=>exact zCC I hs he r acc M1 (by simpa using q)
  | true=>
   rw [zUJ rfl,<- zA0] at q;obtain ⟨d,M2,e3,q⟩:=q;dsimp only;rw [e3];obtain ⟨ys,M3,e4,p⟩:=zCC I hs he r (acc ++ [d]) M2 q;dsimp only;rw [e4];exact ⟨_,_,rfl,by simpa using p⟩
theorem zDD {own:List Nat} {i:FI} {g:FG} {tc:FT} {te:FE} {Q:EV -> Mem -> Prop}:Ok (zAK own i g tc te σ M) Q ↔ ∃ xs gd M1,i σ M = some (xs,gd,M1) /\ xs.length <= sizeLine /\ Ok (zBu g tc te (zE3 own σ) xs gd xs M1) fun ys M2=>Q (.fl ys) M2:=by
 unfold zAK;constructor
 ·rintro ⟨o,M1,e,p⟩;split at e
  ·rename_i xs gd M2 e1;split at e
   ·rename_i hz;split at e
    ·rename_i ys M3 e2; cases e; exact ⟨_,_,_,e1,hz,_,_,e2,p⟩
    ·cases e
   ·cases e
  ·cases e
 ·rintro ⟨xs,gd,M1,e1,hz,ys,M2,e2,p⟩;rw [e1]; dsimp only; rw [zUJ hz,e2]; exact ⟨_,_,rfl,p⟩
theorem zCQ {h:FE} {x:EV} {M1:Mem} {xs:List D} (e:h σ M = some (x,M1)) (e2:zAa M1 x = some xs):zBd h σ M = some (xs,zPQ x xs,M1):=by
 unfold zBd; rw [e]; dsimp only; rw [e2]
theorem zJm {a:FA} {M1:Mem} {j:Int} (e:a σ M = some ([.int j],M1)) (h1:0 <= j) (h2:j < 2 ^ 62):zAD a σ M = some ((List.range j.toNat).map fun (k:Nat)=>D.int k,none,M1):=by
 unfold zAD; rw [e]; dsimp only; rw [zUJ ⟨by omega,h2⟩]
end
section
variable {M:Mem} {P:EV -> Mem -> Prop} {i j:Int}
theorem zN1:Ok (zAt (.dat (.int i)) (.dat (.int j)) M) P ↔ P (.dat (.int (i + j))) M:=zq
theorem zSH:Ok (zHw (.dat (.int i)) (.dat (.int j)) M) P ↔ zON i j = true /\ P (.dat (.int (i * j))) M:=by
 unfold zHw kI; dsimp only; split
 ·rename_i h; rw [zq]; simp [h]
 ·rename_i h; rw [zFB]; simp [h]
theorem zTK:Ok (zDV (.dat (.int i)) (.dat (.int j)) M) P ↔ 0 < j /\ P (.dat (.int (i % j))) M:=by
 unfold zDV kI; dsimp only; split
 ·rename_i h; rw [zq]; simp at h; simp [h]
 ·rename_i h; rw [zFB]; simp at h; simp; intro h'; omega
theorem zSI:Ok (zJk (.dat (.int i)) (.dat (.int j)) M) P ↔ (0 < j /\ j < 1073741824) /\ P (.dat (.int (i / j))) M:=by
 unfold zJk kI; dsimp only; split
 ·rename_i h; rw [zq]; simp at h; simp [h]
 ·rename_i h; rw [zFB]; simp at h; simp; intro h' h2; have:=h h'; omega
theorem zSg:Ok (zLq (.dat (.int i)) (.dat (.int j)) M) P ↔ (0 <= j /\ j <= 1000000 /\ i.natAbs < 2 ^ 64) /\ P (.dat (.int (i ^ j.toNat))) M:=by
 unfold zLq kI; dsimp only; split
 ·rename_i h; rw [zq]; simp only [zUe,zVH] at h; simp [h]
 ·rename_i h; rw [zFB]; simp only [zUe,zVH,not_and] at h; simp only [false_iff,not_and]; intro ⟨a,b,c⟩; exact absurd c (h ⟨a,b⟩)
theorem zRP:Ok (kLt (.dat (.int i)) (.dat (.int j)) M) P ↔ P (.dat (.bl (decide (i < j)))) M:=zq
theorem zRE:Ok (kGt (.dat (.int i)) (.dat (.int j)) M) P ↔ P (.dat (.bl (decide (j < i)))) M:=zq
theorem zF0:Ok (kEq (.dat (.int i)) (.dat (.int j)) M) P ↔ P (.dat (.bl (decide (i = j)))) M:=by
 have:kEq (.dat (.int i)) (.dat (.int j)) M = some (.dat (.bl (decide (V.int i = V.int j))),M):=rfl;rw [this,zq]; simp
theorem zTa:Ok (kNe (.dat (.int i)) (.dat (.int j)) M) P ↔ P (.dat (.bl (decide (i ≠ j)))) M:=by
 have:kNe (.dat (.int i)) (.dat (.int j)) M = some (.dat (.bl (!decide (V.int i = V.int j))),M):=rfl;rw [this,zq]; simp
theorem zTU {x:EV} {xs:List D} {d:D} (h:zAa M x = some xs) (hd:atI xs i = some d) (p:P (.dat d) M):Ok (kIx x (.dat (.int i)) M) P:=by
 have:kIx x (.dat (.int i)) M = some (.dat d,M):=by unfold kIx; dsimp only; rw [h]; dsimp only; rw [hd]
 rw [this,zq]; exact p
theorem zHX {xs:List D} {k:Nat} {d:D} (h:xs[k]? = some d):atI xs (k:Int) = some d:=zHh h
theorem zFy {xs:List D} {i:Int} {d:D} (h0:0 <= i) (h:xs[i.toNat]? = some d):atI xs i = some d:=by
 have:i = ((i.toNat:Nat):Int):=by omega
 rw [this]; exact zHh h
theorem zTF {x:EV} {xs:List D} (h:zAa M x = some xs):Ok (zp [x] M) P ↔ P (.dat (.int xs.length)) M:=by
 have:zp [x] M = some (.dat (.int xs.length),M):=by unfold zp; dsimp only; rw [h]
 rw [this,zq]
theorem zPb {x:EV} {xs:List D} (h:zAa M x = some xs):Ok (zX [x] M) P ↔ P (.dat (.tup xs)) M:=by
 have:zX [x] M = some (.dat (.tup xs),M):=by unfold zX; dsimp only; rw [h]
 rw [this,zq]
theorem zMp {x:EV} {xs:List D} {lo hi:Option Int} (h:zBf M x = some xs) (ht:zBp x = none):Ok (kSl x lo hi M) P ↔ P (.fl (zE2 xs lo hi)) M:=by
 have:kSl x lo hi M = some (.fl (zE2 xs lo hi),M):=by unfold kSl; rw [ht]; dsimp only; rw [h]
 rw [this,zq]
theorem zAJ {xs:List D}:zAa M (.dat (.tup xs)) = some xs:=rfl
theorem zDe {xs:List D}:zAa M (.fl xs) = some xs:=rfl
theorem zN7 {xs:List D}:zBf M (.fl xs) = some xs:=rfl
theorem zBR {n:Nat} {xs:List D} (h:M[n]? = some (.lst xs)):zBf M (.dat (.ref n)) = some xs:=by unfold zBf; dsimp only; rw [h]
theorem zPc {n:Nat} {xs:List D} (h:M[n]? = some (.fro xs)):zBf M (.dat (.ref n)) = some xs:=by unfold zBf; dsimp only; rw [h]
theorem zc {n:Nat} {xs:List D} (h:M[n]? = some (.lst xs)):zAa M (.dat (.ref n)) = some xs:=zBR h
theorem zK9 {n:Nat} {xs:List D} (h:M[n]? = some (.fro xs)):zAa M (.dat (.ref n)) = some xs:=zPc h
theorem zCK {n:Nat} {xs:List D} {d:D} {Q:D -> Mem -> Prop} (h:M[n]? = some (.lst xs)) (hz:xs.length < sizeLine):Ok (zv (.dat (.ref n)) [d] M) Q ↔ Q .non (M.set n (.lst (xs ++ [d]))):=by
 have:zv (.dat (.ref n)) [d] M = some (.non,M.set n (.lst (xs ++ [d]))):=by unfold zv; dsimp only; rw [h]; dsimp only; rw [zUJ hz]
 rw [this,zq]
theorem zIf {n k:Nat} {xs:List D} {d:D} (h:M[n]? = some (.lst xs)) (hk:k < xs.length):zI2 (.dat (.ref n)) (.int k) d M = some (M.set n (.lst (xs.set k d))):=by
 unfold zI2; dsimp only; rw [h]; dsimp only;have e:ixN xs.length (k:Int) = some k:=by unfold ixN; rw [zUJ (by omega),zUJ (by omega)]; simp
 rw [e]
end
theorem zKo {m:FF} {ds:List D} {M:Mem} {Q:D -> Mem -> Prop} (h:Ok (m ds M) fun d M1=>(D.und M.length d = true /\ M.length <= M1.length /\ ∀ (j:Nat) u,j < M.length -> M1[j]? = some u -> MO.und M.length u = true) /\ Q d (M1.take M.length)):Ok (zGf m ds M) Q:=by
 obtain ⟨d,M1,e,⟨h1,h2,h3⟩,q⟩:=h;unfold zGf;rw [e];dsimp only;rw [zUJ]
 ·exact ⟨_,_,rfl,q⟩
 ·simp only [zUe,zVH,zUf];refine ⟨⟨h1,fun u hu=>?_⟩,h2⟩;obtain ⟨j,hj⟩:=List.getElem?_of_mem hu;have hlt:j < M.length:=by
   have:=(zT7.mp hj).1;rw [zVS] at this; omega
  rw [List.getElem?_take_of_lt hlt] at hj;exact h3 j u hlt hj
theorem zB6 {m:FF} {ds:List D} {M:Mem} {Q:D -> Mem -> Prop} (h0:D.unds 0 ds = true) (h:Ok (m ds []) fun d _=>D.und 0 d = true /\ Q d M):Ok (zCg m ds M) Q:=by
 obtain ⟨d,M1,e,h1,q⟩:=h;unfold zCg;rw [zUJ h0,e];dsimp only;rw [zUJ h1];exact ⟨_,_,rfl,q⟩
section
variable {prog:Program} {w:World} {A:Around} {E:Value -> Shared -> Prop} {s:Shared}
theorem TIt.but {h h':Heap} {a b t:Addr} {i:Nat} (x:h.IsTupleIter a t i) (hs:Heap.ExtBut b h h') (n:a ≠ b):h'.IsTupleIter a t i:=x.extBut hs n
theorem Tup.but {h h':Heap} {a b:Addr} {its:Array Value} (x:h.IsTuple a its) (hs:Heap.ExtBut b h h') (n:a ≠ b):h'.IsTuple a its:=x.extBut hs n
theorem zDf {it t:Addr} {i:Nat} {its:Array Value} {x:Value} {Q:Value -> Shared -> Prop} (I:s.heap.IsTupleIter it t i) (T:s.heap.IsTuple t its) (hx:its[i]? = some x)
  (q:∀ h',h'.IsTupleIter it t (i + 1) -> Heap.SameBut it s.heap h' -> Q x { s with heap:=h' }):wpAny (model prog w) A (Builtin.SmallTypes.nextOf (.ref it)) Q E s:=by
 obtain ⟨o,O,C,FD⟩:=id I;obtain ⟨u,U,_,m,G⟩:=T;unfold Builtin.SmallTypes.nextOf;refine zTz (zUg (name:=Str.ofString "__next__") I.typeIs PySem.F.slot_tuple_iterator_next (zUh PySem.F.slot_tuple_iterator_next I.typeIs PySem.F.entry_tuple_iterator_next ?_ (PySem.F.args_tuple_iterator_next_1 _)));refine zTz (m:=field (.ref it) 0) (zUj O FD (x:=.ref t) rfl ?_);rw [zUM (show ¬ ((Value.ref t == Value.none) = true) by exact zUQ)];refine zTz (m:=field (.ref it) 1) (zUj O FD (x:=.int i 0) rfl ?_);refine zTz (m:=seqItems? (.ref t)) (zUu U G ?_);simp only [hx,zWo];refine zTz (zVp O FD (by simp) (zT6 ⟨x,rfl,zT6 (q _ ⟨_,zUr _ O (Obj.isFreed_of_fields (zVL FD _)),(Obj.cls_mapFields ..).trans C,?_⟩ (zU7 ..))⟩));rw [zVL FD];simp [rawInt]
theorem zGk {it t:Addr} {i:Nat} {its:Array Value} {Q:Value -> Shared -> Prop} (hh:A.handled = none) (I:s.heap.IsTupleIter it t i) (T:s.heap.IsTuple t its) (hx:its[i]? = none)
  (q:∀ h' e,Heap.ExtBut it s.heap h' -> (∃ o,h'.get? e = some o /\ o.cls = .type "StopIteration") -> E (.ref e) { s with heap:=h' }):wpAny (model prog w) A (Builtin.SmallTypes.nextOf (.ref it)) Q E s:=by
 obtain ⟨o,O,C,FD⟩:=id I;obtain ⟨u,U,_,m,G⟩:=T;unfold Builtin.SmallTypes.nextOf;refine zTz (zUg (name:=Str.ofString "__next__") I.typeIs PySem.F.slot_tuple_iterator_next (zUh PySem.F.slot_tuple_iterator_next I.typeIs PySem.F.entry_tuple_iterator_next ?_ (PySem.F.args_tuple_iterator_next_1 _)));refine zTz (m:=field (.ref it) 0) (zUj O FD (x:=.ref t) rfl ?_);rw [zUM (show ¬ ((Value.ref t == Value.none) = true) by exact zUQ)];refine zTz (m:=field (.ref it) 1) (zUj O FD (x:=.int i 0) rfl ?_);refine zTz (m:=seqItems? (.ref t)) (zUu U G ?_);simp only [hx,zWo];refine zTz (zVR (zTz (zVp O FD (by simp) ?_)));refine zTz (m:=newExc (.type "StopIteration") []) ?_;simp only [newTuple,newExc];refine zTz (zUX (zTz (m:=firstArgMember _ _) (wpAny_of_eq (a:=Value.none) (by first | rfl | (simp only [firstArgMember]; rfl)) (zUX ?_ (by size_fits)))) (by size_fits));simp only [raiseNew];refine zTz (wpAny_handled ?_);first | rw [hh] | rw [show A.in1.handled = none from hh]
 exact zTz (zT6 (wpAny_throw (q _ _ (((zU7 ..).extBut.push _).push _) ⟨_,zUE _ rfl,rfl⟩)))
structure ZipT (h:Heap) (z TI TO i1 i2 t1 t2:Addr) (f:Value) (k1 k2:Nat):Prop where
 z:IsZip h z TI TO f
 ti:IsPair h TI (.ref i1) (.ref i2)
 to:∃ a b,IsPair h TO a b
 a:h.IsTupleIter i1 t1 k1
 b:h.IsTupleIter i2 t2 k2
theorem zMJ {z TI TO i1 i2 t1 t2:Addr} {k:Nat} {xs ys:Array Value} {x y:Value} {Q:Option Value -> Shared -> Prop} (D:ZipApart z TI TO i1 i2 t1 t2) (Z:ZipT s.heap z TI TO i1 i2 t1 t2 .none k k)
  (T1:s.heap.IsTuple t1 xs) (T2:s.heap.IsTuple t2 ys) (hx:xs[k]? = some x) (hy:ys[k]? = some y)
  (q:∀ h',ZipT h' z TI TO i1 i2 t1 t2 (rawInt s.heap.objs.size) (k + 1) (k + 1) -> IsPair h' s.heap.objs.size x y ->
   (∀ c o,c ∉ [z,TO,i1,i2] -> s.heap.get? c = some o -> h'.get? c = some o) -> Q (some (.ref s.heap.objs.size)) { s with heap:=h' }):wpAny (model prog w) A (pyNext (.ref z)) Q E s:=by
 obtain ⟨Z0,P0,⟨a,b,O0⟩,I1,I2⟩:=Z;have ty:s.TypeIs (.ref z) "zip" := ⟨_,Z0,rfl⟩;unfold pyNext;refine zTz (zVf (zUg (name:=Str.ofString "__next__") ty PySem.F.slot_zip_next (zUh PySem.F.slot_zip_next ty PySem.F.entry_zip_next ?_ (PySem.F.args_zip_next_1 _))));refine zTz (m:=field (.ref z) 2) (zUj Z0 rfl (x:=.bool false) rfl ?_);refine zTz (m:=field (.ref z) 3) (zUj Z0 rfl (x:=.ref TI) rfl ?_);refine zTz (zUu P0 rfl ?_);refine zTz (m:=Builtin.SmallTypes.ownedTupleIsFree (.ref z)) ?_;unfold Builtin.SmallTypes.ownedTupleIsFree;refine zTz (zUj Z0 rfl (x:=.none) rfl (zT6 ?_));simp only [if_true];refine zTz (zVR (zTz (zUj Z0 rfl (x:=.ref TO) rfl (zTz (zVK Z0 (by simp) fun h1 Z1 e1=>?_)))));replace Z1:IsZip h1 z TI TO .ellipsis:=Z1;refine zTz ?_;simp only [List.forIn_cons,List.forIn_nil,List.zipIdx_cons,List.zipIdx_nil];refine zTz (zTz (wpAny_onRaise (zTz (m:=Builtin.SmallTypes.nextOf (.ref i1)) (zDf (TIt.but I1 e1.extBut D.i1z) (Tup.but T1 e1.extBut D.l1z) hx fun h2 J1 e2=>zT6 ?_))));have O2:IsPair h2 TO a b:=e2.extBut _ _ D.TOi1 (e1.extBut _ _ D.TOz O0);refine zTz (zUu O2 rfl (zTz (wpAny_updateSeq_pair O2 fun h3 O3 e3=>zTz (wpAny_letGo (zT6 ?_)))));replace O3:IsPair h3 TO x b:=O3
 refine zTz (zTz (wpAny_onRaise (zTz (m:=Builtin.SmallTypes.nextOf (.ref i2)) (zDf (TIt.but (TIt.but (TIt.but I2 e1.extBut D.i2z) e2.extBut D.i12.symm) e3.extBut D.TOi2.symm)
  (Tup.but (Tup.but (Tup.but T2 e1.extBut D.l2z) e2.extBut D.l2i1) e3.extBut D.l2TO) hy fun h4 J2 e4=>zT6 ?_))))
 have O4:IsPair h4 TO x b:=e4.extBut _ _ D.TOi2 O3;refine zTz (zUu O4 rfl (zTz (wpAny_updateSeq_pair O4 fun h5 O5 e5=>zTz (wpAny_letGo (zT6 (zT6 ?_))))));replace O5:IsPair h5 TO x y:=O5;refine zTz (zUu O5 rfl (zTz (wpAny_newTuple ?_)));have sz:h5.objs.size = s.heap.objs.size:=by rw [e5.1,e4.1,e3.1,e2.1,e1.1]
 have Z5:IsZip h5 z TI TO .ellipsis:=e5.extBut _ _ D.TOz.symm (e4.extBut _ _ D.i2z.symm (e3.extBut _ _ D.TOz.symm (e2.extBut _ _ D.i1z.symm Z1)));have kp:∀ c o,c ∉ [z,TO,i1,i2] -> s.heap.get? c = some o -> h5.get? c = some o:=fun c o n e=>by
  simp only [zUG,zUZ,or_false,not_or] at n;obtain ⟨n1,n2,n3,n4⟩:=n;exact e5.extBut _ _ n2 (e4.extBut _ _ n4 (e3.extBut _ _ n2 (e2.extBut _ _ n3 (e1.extBut _ _ n1 e))))
 have A5:h5.IsTupleIter i1 t1 (k + 1):=TIt.but (TIt.but (TIt.but J1 e3.extBut D.TOi1.symm) e4.extBut D.i12) e5.extBut D.TOi1.symm;have B5:h5.IsTupleIter i2 t2 (k + 1):=TIt.but J2 e5.extBut D.TOi2.symm;have zl:z < h5.objs.size:=zUF Z5;refine zTz (m:=Builtin.SmallTypes.ownedTupleHandOut (.ref z) (.ref h5.objs.size)) ?_;unfold Builtin.SmallTypes.ownedTupleHandOut;have Z6:IsZip (h5.push { cls:=.type "tuple", data:=.seq #[x,y] }) z TI TO .ellipsis:=zT0 _ Z5;refine zTz (zVK Z6 (by simp) fun h7 Z7 e7=>?_);replace Z7:IsZip h7 z TI TO (rawInt h5.objs.size):=Z7;refine zVK Z7 (by simp) fun h8 Z8 e8=>?_;replace Z8:IsZip h8 z TI TO (rawInt h5.objs.size):=Z8;have up:∀ c o,c ≠ z -> h5.get? c = some o -> h8.get? c = some o:=fun c o n e=>e8.extBut _ _ n (e7.extBut _ _ n (zT0 _ e));have N8:IsPair h8 h5.objs.size x y:=e8.extBut _ _ (zVZ zl) (e7.extBut _ _ (zVZ zl) (zUE _ rfl));rw [sz] at Z8 N8;refine zT6 ⟨_,rfl,?_⟩;rw [sz];refine zT6 (q h8 ⟨Z8,up _ _ D.TIz (kp _ _ (by simp [D.TIz,D.TITO,D.TIi1,D.TIi2]) P0),⟨_,_,up _ _ D.TOz O5⟩,?_,?_⟩ N8 fun c o n e=>up c o (fun m=>n (by simp [m])) (kp c o n e))
 ·obtain ⟨o,e,r⟩:=A5; exact ⟨o,up _ _ D.i1z e,r⟩
 ·obtain ⟨o,e,r⟩:=B5; exact ⟨o,up _ _ D.i2z e,r⟩
theorem zNI {z TI TO i1 i2 t1 t2:Addr} {k:Nat} {xs ys:Array Value} {Q:Option Value -> Shared -> Prop} (hh:A.handled = none) (D:ZipApart z TI TO i1 i2 t1 t2) (Z:ZipT s.heap z TI TO i1 i2 t1 t2 .none k k)
  (T1:s.heap.IsTuple t1 xs) (T2:s.heap.IsTuple t2 ys) (he:xs[k]? = none \/ ys[k]? = none)
  (q:∀ h',(∀ c o,c ∉ [z,TO,i1,i2] -> s.heap.get? c = some o -> h'.get? c = some o) -> Q none { s with heap:=h' }):wpAny (model prog w) A (pyNext (.ref z)) Q E s:=by
 obtain ⟨Z0,P0,⟨a,b,O0⟩,I1,I2⟩:=Z;have ty:s.TypeIs (.ref z) "zip" := ⟨_,Z0,rfl⟩
 have stop:∀ (e:Addr) (h':Heap),(∀ c o,c ∉ [z,TO,i1,i2] -> s.heap.get? c = some o -> h'.get? c = some o) -> (∃ o,h'.get? e = some o /\ o.cls = .type "StopIteration") ->
   wpAny (model prog w) A (do if (<- isInstance (.ref e) (.type "StopIteration")) then pure none else throw (.ref e):Sem (Option Value)) Q E { s with heap:=h' }:=fun e h' k1 ⟨o,e1,e2⟩=>
  zTz (wpAny_isInstance (T := "StopIteration") (b:=true) ⟨o,e1,e2⟩ isSubtype_stop (zT6 (q h' k1)))
 unfold pyNext;refine zTz (zVf (zUg (name:=Str.ofString "__next__") ty PySem.F.slot_zip_next (zUh PySem.F.slot_zip_next ty PySem.F.entry_zip_next ?_ (PySem.F.args_zip_next_1 _))));refine zTz (m:=field (.ref z) 2) (zUj Z0 rfl (x:=.bool false) rfl ?_);refine zTz (m:=field (.ref z) 3) (zUj Z0 rfl (x:=.ref TI) rfl ?_);refine zTz (zUu P0 rfl ?_);refine zTz (m:=Builtin.SmallTypes.ownedTupleIsFree (.ref z)) ?_;unfold Builtin.SmallTypes.ownedTupleIsFree;refine zTz (zUj Z0 rfl (x:=.none) rfl (zT6 ?_));simp only [if_true];refine zTz (zVR (zTz (zUj Z0 rfl (x:=.ref TO) rfl (zTz (zVK Z0 (by simp) fun h1 Z1 e1=>?_)))));replace Z1:IsZip h1 z TI TO .ellipsis:=Z1;refine zTz ?_;simp only [List.forIn_cons,List.forIn_nil,List.zipIdx_cons,List.zipIdx_nil];cases hx:xs[k]? with
 | none=>
  refine zTz (zTz (wpAny_onRaise (zTz (m:=Builtin.SmallTypes.nextOf (.ref i1)) (zGk hh (TIt.but I1 e1.extBut D.i1z) (Tup.but T1 e1.extBut D.l1z) hx fun h2 e e2 he=>?_))));obtain ⟨oe,o1,o2⟩:=he;have Z2:IsZip h2 z TI TO .ellipsis:=e2 _ _ D.i1z.symm Z1;have ne:e ≠ z:=fun m=>by subst m; rw [Z2] at o1; cases o1; simp at o2
  refine zVK Z2 (by simp) fun h3 _ e3=>stop e h3 (fun c o n x=>?_) ⟨oe,e3.extBut _ _ ne o1,o2⟩;simp only [zUG,zUZ,or_false,not_or] at n;exact e3.extBut _ _ n.1 (e2 _ _ n.2.2.1 (e1.extBut _ _ n.1 x))
 | some x=>
  have hy:ys[k]? = none:=by
   rcases he with m | m
   ·rw [hx] at m; cases m
   ·exact m
  refine zTz (zTz (wpAny_onRaise (zTz (m:=Builtin.SmallTypes.nextOf (.ref i1)) (zDf (TIt.but I1 e1.extBut D.i1z) (Tup.but T1 e1.extBut D.l1z) hx fun h2 J1 e2=>zT6 ?_))));have O2:IsPair h2 TO a b:=e2.extBut _ _ D.TOi1 (e1.extBut _ _ D.TOz O0);refine zTz (zUu O2 rfl (zTz (wpAny_updateSeq_pair O2 fun h3 O3 e3=>zTz (wpAny_letGo (zT6 ?_)))))
  refine zTz (zTz (wpAny_onRaise (zTz (m:=Builtin.SmallTypes.nextOf (.ref i2)) (zGk hh (TIt.but (TIt.but (TIt.but I2 e1.extBut D.i2z) e2.extBut D.i12.symm) e3.extBut D.TOi2.symm)
   (Tup.but (Tup.but (Tup.but T2 e1.extBut D.l2z) e2.extBut D.l2i1) e3.extBut D.l2TO) hy fun h4 e e4 he=>?_))))
  obtain ⟨oe,o1,o2⟩:=he;have Z4:IsZip h4 z TI TO .ellipsis:=e4 _ _ D.i2z.symm (e3.extBut _ _ D.TOz.symm (e2.extBut _ _ D.i1z.symm Z1));have ne:e ≠ z:=fun m=>by subst m; rw [Z4] at o1; cases o1; simp at o2
  refine zVK Z4 (by simp) fun h5 _ e5=>stop e h5 (fun c o n x=>?_) ⟨oe,e5.extBut _ _ ne o1,o2⟩;simp only [zUG,zUZ,or_false,not_or] at n;exact e5.extBut _ _ n.1 (e4 _ _ n.2.2.2 (e3.extBut _ _ n.2.1 (e2.extBut _ _ n.2.2.1 (e1.extBut _ _ n.1 x))))
abbrev zT1 (h:Heap) (a:Addr):Heap:=h.push { cls:=.type "tuple_iterator", data:=.fields #[.ref a,.int 0 0] }
abbrev zT2 (h:Heap) (a b:Addr):Heap:=zT1 (zT1 h a) b
abbrev zT3 (h:Heap) (a b:Addr):Heap:=(zT2 h a b).push { cls:=.type "tuple", data:=.seq #[.ref h.objs.size,.ref (zT1 h a).objs.size] }
abbrev zT4 (h:Heap) (a b:Addr):Heap:=(zT3 h a b).push { cls:=.type "tuple", data:=.seq #[.none,.none] }
abbrev zT5 (h:Heap) (a b:Addr):Heap:=(zT4 h a b).push { cls:=.type "zip", data:=.fields #[.none,.bool false,.bool false,.ref (zT2 h a b).objs.size,.ref (zT3 h a b).objs.size] }
theorem zKH (a b:Addr) (xs ys:Array Value):Meets (Builtin.«zip.__new__» ⟨[.type "zip", .ref a,.ref b],[]⟩) (fun _ R s=>s.heap.IsTuple a xs /\ s.heap.IsTuple b ys /\ R (.ok (.ret (.ref (zT4 s.heap a b).objs.size))) { s with heap:=zT5 s.heap a b }) :=
 .of_wp fun prog w A R s h=>by
  obtain ⟨hp,g,d,tk,os⟩:=s;obtain ⟨Ta,Tb,h⟩:=h;have sz:=sub_zip;have U1:Heap.IsTuple (Shared.heap ⟨hp,g,d,tk,os⟩) a xs:=Ta;have U2:Heap.IsTuple (Shared.heap ⟨hp.push { cls:=.type "tuple_iterator", data:=.fields #[.ref a,.int 0 0] },g,d,tk,os⟩) b ys:=Heap.IsTuple.push Tb _;wp_walk using wpAny_pyIter_tuple U1,wpAny_pyIter_tuple U2;exact ⟨_,rfl,h⟩
theorem zNh {a b:Addr} {xs ys:Array Value} {Q:Value -> Shared -> Prop} (Ta:s.heap.IsTuple a xs) (Tb:s.heap.IsTuple b ys)
  (h:∀ h',ZipT h' (s.heap.objs.size + 4) (s.heap.objs.size + 2) (s.heap.objs.size + 3) s.heap.objs.size (s.heap.objs.size + 1) a b .none 0 0 -> (∀ c o,s.heap.get? c = some o -> h'.get? c = some o) -> Q (.ref (s.heap.objs.size + 4)) { s with heap:=h' }) :
  wpAny (model prog w) A (call (.type "zip") [.ref a,.ref b]) Q E s:=by
 refine callType_new PySem.F.called_zip (by decide) (PySem.F.typeCall_zip_2 _ _) (PySem.F.newCall_zip_2 _ _) (fun obj=>PySem.F.args_object_init_3 obj _ _) PySem.F.entry_zip_new (zKH a b xs ys) ⟨Ta,Tb,?_⟩;have q1:(zT1 s.heap a).objs.size = s.heap.objs.size + 1:=zUk ..;have q2:(zT2 s.heap a b).objs.size = s.heap.objs.size + 2:=by rw [zUk,q1]
 have q3:(zT3 s.heap a b).objs.size = s.heap.objs.size + 3:=by rw [zUk,q2]
 have q4:(zT4 s.heap a b).objs.size = s.heap.objs.size + 4:=by rw [zUk,q3]
 have u:∀ {h:Heap} {c:Addr} {o p:Obj},h.get? c = some o -> (h.push p).get? c = some o:=fun e=>zT0 _ e;have p5:(zT5 s.heap a b).get? (zT4 s.heap a b).objs.size = some _:=zUE _ rfl;have p4:(zT5 s.heap a b).get? (zT3 s.heap a b).objs.size = some _:=u (zUE _ rfl);have p3:(zT5 s.heap a b).get? (zT2 s.heap a b).objs.size = some _:=u (u (zUE _ rfl));have p2:(zT5 s.heap a b).get? (zT1 s.heap a).objs.size = some _:=u (u (u (zUE _ rfl)));have p1:(zT5 s.heap a b).get? s.heap.objs.size = some _:=u (u (u (u (zUE _ rfl))));show _ /\ _;rw [q2,q3,q4] at p5;rw [q1,q2] at p3;rw [q3] at p4;rw [q1] at p2;rw [q4];exact ⟨⟨_,p5,rfl⟩,h _ ⟨p5,p3,⟨_,_,p4⟩,⟨_,p1,rfl,rfl⟩,⟨_,p2,rfl,rfl⟩⟩ fun c o x=>u (u (u (u (u x))))⟩
end
theorem zEs {X:Cx} {zB:List (Addr × Obj)} {σ:L2.St} {H:Hp} {s:Shared} {h':Heap} {t':Nat} {ch:List Addr} {T:Addr} {o:HO} (I:Inv X zB σ H s) (hf:∀ b ∈ ch,zCq X zB H b)
  (k:∀ b u,b ∉ ch -> s.heap.get? b = some u -> h'.get? b = some u) (hT:s.heap.objs.size <= T) (new:zn X.prog X.w (upd H T o) h' T o):Inv X zB σ (upd H T o) { s with heap:=h',toks:=t' }:=by
 have hn:H T = none:=I.hok.fresh hT;have nch:∀ b u,H b = some u -> b ∉ ch:=fun b u e z=>by rw [(hf b z).1] at e; cases e
 have un:∀ b u,H b = some u -> upd H T o b = some u:=fun b u e=>by rw [zP (zY e hn)]; exact e
 refine I.step (g':=s.gens) (d':=s.drawn) (ch:=ch) (fun b hb=>⟨(hf b hb).2.2.2.1,(hf b hb).2.1,(hf b hb).2.2.2.2.1,(hf b hb).2.2.2.2.2⟩) (fun b u _ _ hc e _=>k b u hc e) (fun b u _ _ hc e _=>⟨u.slots,k b u hc e⟩)
  (fun b u _ e n=>by rw [zP (fun z=>by rw [z] at e; exact absurd (zUF e) (Nat.not_lt.mpr hT))]; exact n) (fun b u hc e=>⟨u,k b u hc e⟩) (fun b xs e=>un b _ e) (fun b p u e=>un b _ e) (fun b ps e=>⟨#[],by rw [un b _ e]; simp⟩) (fun m hm=>?_) (fun b u e=>?_) I.bare
 ·obtain ⟨p,es,ep,ho,r⟩:=hm;exact ⟨p,es,ep,k _ p (fun z=>(hf _ z).2.1 rfl) ho,r⟩
 ·by_cases hb:b = T
  ·subst hb; rw [zg] at e; cases e; exact new
  ·rw [zP hb] at e;refine (I.hok b u e).stay (fun c v hc q=>k c v ?_ q) (fun c q=>un c _ q) fun c xs q=>un c _ q;rcases hc with z | z
   ·rw [z]; exact nch b u e
   ·exact nch c _ z
theorem zGd {X:Cx} {zB:List (Addr × Obj)} {σ:L2.St} {H:Hp} {s:Shared} {h':Heap} {t':Nat} {ch:List Addr} (I:Inv X zB σ H s) (hf:∀ b ∈ ch,zCq X zB H b)
  (k:∀ b u,b ∉ ch -> s.heap.get? b = some u -> h'.get? b = some u):Inv X zB σ H { s with heap:=h',toks:=t' }:=by
 have nch:∀ b u,H b = some u -> b ∉ ch:=fun b u e z=>by rw [(hf b z).1] at e; cases e
 refine I.step (g':=s.gens) (d':=s.drawn) (ch:=ch) (fun b hb=>⟨(hf b hb).2.2.2.1,(hf b hb).2.1,(hf b hb).2.2.2.2.1,(hf b hb).2.2.2.2.2⟩) (fun b u _ _ hc e _=>k b u hc e) (fun b u _ _ hc e _=>⟨u.slots,k b u hc e⟩)
  (fun b u _ e n=>n) (fun b u hc e=>⟨u,k b u hc e⟩) (fun b xs e=>e) (fun b p u e=>e) (fun b ps e=>⟨#[],by rw [e]; simp⟩) (fun m hm=>?_) (fun b u e=>?_) I.bare
 ·obtain ⟨p,es,ep,ho,r⟩:=hm;exact ⟨p,es,ep,k _ p (fun z=>(hf _ z).2.1 rfl) ho,r⟩
 ·refine (I.hok b u e).stay (fun c v hc q=>k c v ?_ q) (fun c q=>q) fun c xs q=>q;rcases hc with z | z
  ·rw [z]; exact nch b u e
  ·exact nch c _ z
def Itz (K:PySem.W.Frag) (a b:Addr):It :=
 ⟨fun i H=>∃ xs ys x y,SqT K H a xs /\ SqT K H b ys /\ xs[i]? = some x /\ ys[i]? = some y,
  fun i H v H'=>∃ T x y,v = .ref T /\ H T = none /\ H' = upd H T (.tup [x,y]) /\ (∀ xs,SqT K H a xs -> xs[i]? = some x) /\ ∀ ys,SqT K H b ys -> ys[i]? = some y,
  fun i H=>∃ xs ys,SqT K H a xs /\ SqT K H b ys /\ (xs.length <= i \/ ys.length <= i)⟩
theorem zML {P:Program} {w:World} {K:PySem.W.Frag} {es:List Expr} {ek:Nat} {ep:Pos} {z TI TO i1 i2 a b:Addr} (D:ZipApart z TI TO i1 i2 a b) :
  Turn P w K (.Tuple es ek ep) (Itz K a b) [z,TI,TO,i1,i2] z (fun i h=>ZipT h z TI TO i1 i2 a b .none i i) where
 mem:=by simp
 obj:=fun i h Z c hc=>by
  obtain ⟨Z0,P0,⟨x,y,O0⟩,⟨o1,e1,_,d1⟩,⟨o2,e2,_,d2⟩⟩:=Z;simp only [zUG,zUZ,or_false] at hc;rcases hc with rfl | rfl | rfl | rfl | rfl
  ·exact ⟨_,Z0,fun v m=>by cases m⟩
  ·exact ⟨_,P0,fun v m=>by cases m⟩
  ·exact ⟨_,O0,fun v m=>by cases m⟩
  ·exact ⟨_,e1,fun v m=>by rw [d1] at m; cases m⟩
  ·exact ⟨_,e2,fun v m=>by rw [d2] at m; cases m⟩
 keep:=fun i h h' Z k=>by
  obtain ⟨Z0,P0,⟨x,y,O0⟩,⟨o1,e1,r1⟩,⟨o2,e2,r2⟩⟩:=Z;exact ⟨k z (by simp) _ Z0,k TI (by simp) _ P0,⟨x,y,k TO (by simp) _ O0⟩,⟨o1,k i1 (by simp) _ e1,r1⟩,⟨o2,k i2 (by simp) _ e2,r2⟩⟩
 item:=by
  intro X hP hw hK hc i zB s σ H E I hf Z hg;subst hP hw hK;obtain ⟨xs,ys,x,y,sa,sb,hx,hy⟩:=hg;obtain ⟨its,rv,p1,z1⟩:=I.tuple sa;obtain ⟨its2,rv2,p2,z2⟩:=I.tuple sb;obtain ⟨u,hu,ru⟩:=rv.get hx;obtain ⟨u2,hu2,ru2⟩:=rv2.get hy;refine zMJ D Z (show s.heap.IsTuple a its.toArray from p1) (show s.heap.IsTuple b its2.toArray from p2) (x:=u) (y:=u2) (by simpa using hu) (by simpa using hu2) fun h' Z' N' kp=>⟨_,rfl,?_⟩;refine wpAny_letOwnedTupleGo_zip Z'.z fun h2 Z2 e2=>?_;have hch:∀ c ∈ [z,TO,i1,i2],zCq X zB H c:=fun c hm=>hf c (by
   simp only [zUG,zUZ,or_false] at hm ⊢;rcases hm with q | q | q | q <;> simp [q])
  have kk:∀ c o,c ∉ [z,TO,i1,i2] -> s.heap.get? c = some o -> h2.get? c = some o:=fun c o n e=>e2.extBut _ _ (fun m=>n (by simp [m])) (kp c o n e);have zlt:z < s.heap.objs.size:=zUF Z.z;have NT:IsPair h2 s.heap.objs.size u u2:=e2.extBut _ _ (zVZ zlt) N';have hfr:H s.heap.objs.size = none:=I.hok.fresh (zUA _);refine ⟨.ref s.heap.objs.size,upd H s.heap.objs.size (.tup [x,y]),zEs (s:=s) (h':=h2) (t':=s.toks) I hch kk (zUA _) ?_,rfl,⟨_,x,y,rfl,hfr,rfl,fun ws hw=>?_,fun ws hw=>?_⟩,?_,fun c hm=>?_⟩
  ·exact ⟨by show 2 <= sizeLine; decide,[u,u2],.cons ru (.cons ru2 .nil),⟨_,NT,rfl,⟨_,rfl⟩,rfl⟩⟩
  ·rw [I.tuple_inj hw sa]; exact hx
  ·rw [I.tuple_inj hw sb]; exact hy
  ·obtain ⟨_,P1,⟨q1,q2,O1⟩,⟨o1,f1,r1⟩,⟨o2,f2,r2⟩⟩:=Z';exact ⟨Z2,e2.extBut _ _ D.TIz P1,⟨q1,q2,e2.extBut _ _ D.TOz O1⟩,⟨o1,e2.extBut _ _ D.i1z f1,r1⟩,⟨o2,e2.extBut _ _ D.i2z f2,r2⟩⟩
  ·have lt:c < s.heap.objs.size:=by
    obtain ⟨Z0,P0,⟨q1,q2,O0⟩,⟨o1,f1,_⟩,⟨o2,f2,_⟩⟩:=Z;simp only [zUG,zUZ,or_false] at hm;rcases hm with rfl | rfl | rfl | rfl | rfl
    ·exact zUF Z0
    ·exact zUF P0
    ·exact zUF O0
    ·exact zUF f1
    ·exact zUF f2
   rw [zP (zUP lt)];exact (hf c hm).1
 done:=by
  intro X hP hw hK hc i zB s σ H E I hf Z hg;subst hP hw hK;obtain ⟨xs,ys,sa,sb,hz⟩:=hg;obtain ⟨its,rv,p1,z1⟩:=I.tuple sa;obtain ⟨its2,rv2,p2,z2⟩:=I.tuple sb;have l1:=rv.length;have l2:=rv2.length;refine zNI (I.ok.hd hc) D Z (show s.heap.IsTuple a its.toArray from p1) (show s.heap.IsTuple b its2.toArray from p2) ?_ fun h' kp=>⟨rfl,zGd (s:=s) (h':=h') (t':=s.toks) I (fun c hm=>hf c (by
   simp only [zUG,zUZ,or_false] at hm ⊢;rcases hm with q | q | q | q <;> simp [q])) kp⟩
  rcases hz with q | q
  ·exact .inl (by simp; omega)
  ·exact .inr (by simp; omega)
 self:=fun _ _ _ _ _ Z h=>wpAny_pyIter_zip Z.z h
section
variable {X:Cx} {a b:Expr} {es:List Expr} {ek:Nat} {ep p pos:Pos}
theorem zRQ {ta:TA} (hg:Gl X "zip") (hm:X.mg "zip" = none) (ha:PA X [a,b] ta) (hs:starEach [a,b] X.env = [(false,eval a X.env),(false,eval b X.env)]:=by rfl) (hs2:starEach [b] X.env = [(false,eval b X.env)]:=by rfl) :
  PI X (.Tuple es ek ep) (.Call (.Name "zip" p) [a,b] [] pos) (fun σ H R=>ta σ H fun vs H1=>∃ l1 l2 xs ys,vs = [.ref l1,.ref l2] /\ SqT X.K H1 l1 xs /\ SqT X.K H1 l2 ys /\ R (Itz X.K l1 l2) H1):=by
 intro zB s σ H R I h;refine Call_ (zEo I hg hm (by rfl) (PyProof.Rows.callWith_type1 (thn (ha pos zB s σ H _ I h) fun us s1 ⟨vs,H1,I1,r1,q1⟩=>?_) (by rw [hs,hs2]) (by rw [hs2]; rfl)));obtain ⟨l1,l2,xs,ys,rfl,s1',s2',q⟩:=q1;cases r1 with
 | cons r rr=>
  cases rr with
  | cons r' rr=>
   cases rr;cases r;cases r';obtain ⟨its,rv,p1,_⟩:=I1.tuple s1';obtain ⟨its2,rv2,p2,_⟩:=I1.tuple s2';have d1:l1 < s1.heap.objs.size:=by obtain ⟨_,e,_⟩:=p1; exact zUF e
   have d2:l2 < s1.heap.objs.size:=by obtain ⟨_,e,_⟩:=p2; exact zUF e
   refine zNh (show s1.heap.IsTuple l1 its.toArray from p1) (show s1.heap.IsTuple l2 its2.toArray from p2) fun h' Z kp=>wpAny_pyIter_zip Z.z ?_;refine ⟨s1.heap.objs.size + 4,[s1.heap.objs.size + 4,s1.heap.objs.size + 2,s1.heap.objs.size + 3,s1.heap.objs.size,s1.heap.objs.size + 1],_,_,H1,rfl,I1.kept (t':=s1.toks) kp,zML (zipApart_new d1 d2),Z,fun c hc=>?_,q⟩;have ge:s1.heap.objs.size <= c:=by
    simp only [zUG,zUZ,or_false] at hc;rcases hc with rfl | rfl | rfl | rfl | rfl
    ·exact Nat.le_add_right _ 4
    ·exact Nat.le_add_right _ 2
    ·exact Nat.le_add_right _ 3
    ·exact zUA _
    ·exact Nat.le_add_right _ 1
   exact I1.fpOk ge (I1.hok.fresh ge)
def zRJ (g:FA):FI:=fun σ M=>match g σ M with
 | some ([.tup xs,.tup ys],M1)=>some ((xs.zip ys).map fun q=>D.tup [q.1,q.2],none,M1)
 | _=>none
theorem zRH {g:FA} (hg:Gl X "zip") (hm:X.mg "zip" = none) (ha:QA X [a,b] g) (hs:starEach [a,b] X.env = [(false,eval a X.env),(false,eval b X.env)]:=by rfl) (hs2:starEach [b] X.env = [(false,eval b X.env)]:=by rfl) :
  QI X (.Tuple es ek ep) (.Call (.Name "zip" p) [a,b] [] pos) (zRJ g):=.mk <| PI.imp (zRQ hg hm ha.un hs hs2) fun τ H R zz=>by
 obtain ⟨L,σ,M,xs,gd,M',c,rs,hf,q⟩:=zz;unfold zRJ at hf;split at hf
 ·rename_i ds es' M1 e1;cases hf;refine ⟨L,σ,M,_,_,c,rs,e1,fun L1 H1 vs s1 c1 r1=>?_⟩;obtain ⟨v,v',rfl,r2,r3⟩:=r1.two;unfold Rep at r2 r3;obtain ⟨l1,ws1,rfl,h1,q1⟩:=r2;obtain ⟨l2,ws2,rfl,h2,q2⟩:=r3;refine ⟨l1,l2,ws1,ws2,rfl,.of h1,.of h2,q L1 H1 _ s1 c1 fun L2 H2 M2 s2 c2 _=>?_⟩;have k1:=s2.tup l1 ws1 h1;have k2:=s2.tup l2 ws2 h2;have p1:=q1.stp s2;have p2:=q2.stp s2;refine ⟨fun i d hd=>?_,⟨ws1,ws2,.of k1,.of k2,?_⟩⟩
  ·rw [zUR] at hd;cases e2:(ds.zip es')[i]? with
   | none=>rw [e2] at hd; cases hd
   | some pr=>
    rw [e2] at hd;cases hd;obtain ⟨f1,f2⟩:=List.getElem?_zip_eq_some.mp e2;obtain ⟨u,hu,ru⟩:=p1.get f1;obtain ⟨u2,hu2,ru2⟩:=p2.get f2;refine ⟨⟨ws1,ws2,u,u2,.of k1,.of k2,hu,hu2⟩,fun v H3 hy=>?_⟩;obtain ⟨T,x,y,rfl,hT,rfl,hxx,hyy⟩:=hy;have ex:=hxx ws1 (.of k1);have ey:=hyy ws2 (.of k2);rw [hu] at ex; cases ex;rw [hu2] at ey; cases ey;exact ⟨fun a o e=>by rw [zP (zY e hT)]; exact e,Rep.newTup hT (.cons ru (.cons ru2 .nil))⟩
  ·rw [zUD,List.length_zip,p1.length,p2.length];omega
 ·cases hf
def zEJ (i j:Nat):FG:=fun d σ=>match d with
 | .tup [x,y]=>some ((σ.set i (some x)).set j (some y))
 | _=>none
abbrev gP2 (K:PySem.W.Frag) (i j:Nat):TG:=zTL K 2 (zMy (zDJ i) (zMy (zDJ j) zSe))
theorem zOj {K:PySem.W.Frag} {i j:Nat}:GOk (gP2 K i j) (zEJ i j):=by
 intro L H σ σ' τ d v Q rs r hf q;unfold zEJ at hf;split at hf
 ·rename_i x y;cases hf;unfold Rep at r;obtain ⟨a,vs,rfl,e,r⟩:=r;obtain ⟨v1,v2,rfl,r1,r2⟩:=r.two;exact ⟨a,_,rfl,.of e,rfl,v1,[v2],rfl,v2,[],rfl,rfl,q _ ((rs.set r1).set r2)⟩
 ·cases hf
theorem zMU {K:PySem.W.Frag} {own:List Nat} {i j:Nat} (hi:i ∈ own) (hj:j ∈ own):zJZ own (gP2 K i j) (zEJ i j):=by
 intro L H σ σ' τ τ0 d v Q rs ex r hf q;unfold zEJ at hf;split at hf
 ·rename_i x y;cases hf;unfold Rep at r;obtain ⟨a,vs,rfl,e,r⟩:=r;obtain ⟨v1,v2,rfl,r1,r2⟩:=r.two;exact ⟨a,_,rfl,.of e,rfl,v1,[v2],rfl,v2,[],rfl,rfl,q _ ((rs.set r1).set r2) ((ex.set hi).set hj)⟩
 ·cases hf
end
section
variable {X:Cx} {a b c e:Expr} {es:List Expr} {pos p p2 pos2:Pos} {f g h:FE}
theorem zLF:∀ {bs:List Bool} {its:List Value},zU (bs.map V.bl) its -> ∀ (i:Nat) v,its[i]? = some v -> ∃ k,bs[i]? = some k /\ v = .bool k
 | [],_,.nil,_,_,h=>by simp at h
 | k :: bs,_,.cons r t,0,v,h=>by
  simp at h; subst h;exact ⟨k,rfl,r⟩
 | k :: bs,_,.cons r t,i + 1,v,h=>by
  obtain ⟨k',e1,e2⟩:=zLF t i v (by simpa using h);exact ⟨k',by simpa using e1,e2⟩
theorem zJw (bs:List Bool):((List.range bs.length).all fun i=>(bs[i]?).getD true) = bs.all id:=by
 rw [Bool.eq_iff_iff,zUf,zUf];constructor
 ·intro q k hk;obtain ⟨i,hi,rfl⟩:=List.getElem_of_mem hk;have:=q i (List.mem_range.mpr hi);rw [zT8 hi] at this;exact this
 ·intro q i hi;rw [zT8 (List.mem_range.mp hi)];exact q _ (zUc _)
def zS6 (K:PySem.W.Frag) (F:List Bool -> Bool):List V -> Hp -> VK -> Prop:=fun xs H Q=>∃ q bs,xs = [.ref q] /\ SqL K H q (bs.map V.bl) /\ Q (.bl (F bs)) H
theorem zLp (hc:X.calm = true):zBs X (.builtin "all") (zS6 X.K fun bs=>bs.all id):=by
 intro zB s σ H xs us Q I r h;obtain ⟨l,bs,rfl,hq,q⟩:=h;obtain ⟨u,rfl,rx⟩:=zDO r;cases rx;obtain ⟨its,rv,pl,_⟩:=I.list hq;have hlt:l < s.heap.objs.size:=by obtain ⟨_,z,_⟩:=pl.isList; exact zUF z
 refine call_all_walk (wpAny_pyIter_list pl.isList ⟨s.heap.objs.size,[s.heap.objs.size,l],[s.heap.objs.size],its.toArray.size,_,_,fun i=>(bs[i]?).getD true,rfl,Walks.list (A:=X.A.in1) (I.ok.hd hc) _ l (zUP hlt) its.toArray,
  ⟨⟨_,zUE _ rfl,rfl,rfl⟩,pl.isList.push _⟩,fun i v s' Q' E' hP hQ=>?_,fun h' tk hk=>?_⟩)
 ·obtain ⟨k,z,rfl⟩:=zLF rv i v (by simpa using hP);dsimp only at hQ; rw [z] at hQ;exact wpAny_truthy_bool hQ
 ·have hl:=rv.length;rw [zUD] at hl;rw [zUC,<- hl,zJw];exact ⟨.bl _,H,I.kept (t':=tk) fun b o z=>hk b o (fun m=>by rw [zUW.mp m] at z; exact zUm _ (zUF z)) (zT0 _ z),rfl,q⟩
def zEt:List D -> Option (List Bool)
 | []=>some []
 | .bl k :: r=>match zEt r with
  | some bs=>some (k :: bs)
  | none=>none
 | _=>none
theorem zLA {L:List Addr} {H:Hp}:∀ {ds:List D} {bs:List Bool} {vs:List V},zEt ds = some bs -> zH L H ds vs -> vs = bs.map V.bl
 | [],bs,vs,e,r=>by cases e; unfold zH at r; exact r
 | d :: ds,bs,vs,e,r=>by
  unfold zH at r;obtain ⟨v,r',rfl,r1,r2⟩:=r;cases d with
  | bl k=>
   unfold zEt at e;cases q:zEt ds with
   | none=>rw [q] at e; cases e
   | some bs'=>
    rw [q] at e; cases e;unfold Rep at r1;rw [r1,zLA q r2]; rfl
  | _=>cases e
def zL7 (F:List Bool -> Bool):KB:=fun xs M=>match xs with
 | [x]=>match zBf M x with
  | some ds=>match zEt ds with
   | some bs=>some (.dat (.bl (F bs)),M)
   | none=>none
  | none=>none
 | _=>none
theorem zQG {K:PySem.W.Frag} {F:List Bool -> Bool}:zF1 K (zS6 K F) (zL7 F):=by
 intro L M M' H H0 xs d vs Q c r hk q;unfold zL7 at hk;split at hk
 ·rename_i x;split at hk
  ·rename_i ds e1;split at hk
   ·rename_i bs e2;cases hk;obtain ⟨v,rfl,r1⟩:=r.one;obtain ⟨l,ws,rfl,h1,r2⟩:=zB3 c r1 e1;have:=zLA e2 r2;subst this;exact ⟨l,bs,rfl,.inl h1,q L H _ (.refl L H) c (zBr (L:=L) (H:=H))⟩
   ·cases hk
  ·cases hk
 ·cases hk
abbrev zNM:KB:=zL7 fun bs=>bs.all id
section
variable {fa:FAE}
theorem zQN (hc:X.calm = true) (hg:Gl X "all") (hm:X.mg "all" = none) (ha:QAE X [e] fa) (he:starEach [e] X.env = (false,eval e X.env) :: starEach [] X.env:=by rfl) (hpl:(backTo pos (starEach [] X.env)).any (·.1) = false:=by rfl):QE X (.Call (.Name "all" p) [e] [] pos) (fB zNM fa) :=
 zEI zQG (zLp hc) (by rfl) hg hm ha (by decide) (by decide) he hpl
end
theorem zQR {M:Mem} {P:EV -> Mem -> Prop} {F:List Bool -> Bool} {x:EV} {ds:List D} {bs:List Bool} (h:zBf M x = some ds) (hb:zEt ds = some bs):Ok (zL7 F [x] M) P ↔ P (.dat (.bl (F bs))) M:=by
 have:zL7 F [x] M = some (.dat (.bl (F bs)),M):=by unfold zL7; dsimp only; rw [h]; dsimp only; rw [hb]
 rw [this,zq]
theorem zEq:∀ bs:List Bool,zEt (bs.map D.bl) = some bs
 | []=>rfl
 | k :: bs=>by rw [zUN]; unfold zEt; rw [zEq bs]
def zKd:V -> Bool
 | .non=>true
 | .bl _=>true
 | _=>false
theorem zRS:OpR X (compareOp .Is) (fun x y H Q=>zKd y = true /\ Q (.bl (decide (x = y))) H):=by
 intro zB s σ H x y v u Q I rx ry h;obtain ⟨hp,q⟩:=h;cases y with
 | non=>
  cases ry;refine wpAny_is_plain (by cases x <;> first | (cases rx; rfl) | (obtain ⟨t,rfl⟩:=rx; rfl)) (za I q ?_);cases x <;> first | (cases rx; rfl) | (obtain ⟨t,rfl⟩:=rx; rfl)
 | bl k=>
  cases ry;refine wpAny_is_plain (by cases x <;> first | (cases rx; rfl) | (obtain ⟨t,rfl⟩:=rx; rfl)) (za I q ?_);cases x with
  | bl k'=>cases rx; cases k <;> cases k' <;> rfl
  | _=>first | (cases rx; rfl) | (obtain ⟨t,rfl⟩:=rx; rfl)
 | _=>cases hp
def isD:EV -> D -> Option Bool
 | x,.non=>match x with
  | .dat .non=>some true
  | _=>some false
 | x,.bl k=>match x with
  | .dat (.bl k')=>some (decide (k' = k))
  | _=>some false
 | _,_=>none
def kIs (neg:Bool):K2:=fun x y M=>match y with
 | .dat d=>match isD x d with
  | some k=>some (.dat (.bl (if neg then !k else k)),M)
  | none=>none
 | _=>none
theorem zPp {L:List Addr} {H H0:Hp} {x:EV} {d:D} {v w:V} {k:Bool} (rx:zT H0 L H x v) (ry:Rep L H d w) (e:isD x d = some k):zKd w = true /\ decide (v = w) = k:=by
 cases d with
 | non=>
  unfold Rep at ry; subst ry;refine ⟨rfl,?_⟩;cases x with
  | fl xs=>obtain ⟨q,vs,rfl,_⟩:=rx; cases e; rfl
  | dat d'=>
   cases d' with
   | non=>unfold zT Rep at rx; subst rx; cases e; rfl
   | bl _=>unfold zT Rep at rx; subst rx; cases e; rfl
   | int _=>unfold zT Rep at rx; subst rx; cases e; rfl
   | str _=>unfold zT Rep at rx; subst rx; cases e; rfl
   | tup _=>unfold zT Rep at rx; obtain ⟨q,vs,rfl,_⟩:=rx; cases e; rfl
   | ref _=>unfold zT Rep at rx; obtain ⟨q,rfl,_⟩:=rx; cases e; rfl
   | fn _ _=>unfold zT Rep at rx; obtain ⟨rfl,_⟩:=rx; cases e; rfl
 | bl k'=>
  unfold Rep at ry; subst ry;refine ⟨rfl,?_⟩;cases x with
  | fl xs=>obtain ⟨q,vs,rfl,_⟩:=rx; cases e; rfl
  | dat d'=>
   cases d' with
   | non=>unfold zT Rep at rx; subst rx; cases e; rfl
   | bl j=>unfold zT Rep at rx; subst rx; cases e; cases j <;> cases k' <;> rfl
   | int _=>unfold zT Rep at rx; subst rx; cases e; rfl
   | str _=>unfold zT Rep at rx; subst rx; cases e; rfl
   | tup _=>unfold zT Rep at rx; obtain ⟨q,vs,rfl,_⟩:=rx; cases e; rfl
   | ref _=>unfold zT Rep at rx; obtain ⟨q,rfl,_⟩:=rx; cases e; rfl
   | fn _ _=>unfold zT Rep at rx; obtain ⟨rfl,_⟩:=rx; cases e; rfl
 | _=>cases e
theorem zMo {neg:Bool} {x y r:EV} {M M':Mem} (h:kIs neg x y M = some (r,M')):∃ d k,y = .dat d /\ isD x d = some k /\ r = .dat (.bl (if neg then !k else k)) /\ M' = M:=by
 unfold kIs at h;split at h
 ·rename_i d;split at h
  ·rename_i k e1; cases h; exact ⟨d,k,rfl,e1,rfl,rfl⟩
  ·cases h
 ·cases h
theorem zQ4 {K:PySem.W.Frag}:zCB K (fun x y H Q=>zKd y = true /\ Q (.bl (decide (x = y))) H) (kIs false):=by
 intro L M M' H H0 x y d v w Q cc rx ry hk q;obtain ⟨d',k,rfl,e,rfl,rfl⟩:=zMo hk;obtain ⟨h1,h2⟩:=zPp rx ry e;refine ⟨h1,?_⟩;rw [h2];exact q L H _ (.refl L H) cc (zBr (L:=L) (H:=H))
theorem zSG (h1:QE X a f) (h2:QE X b g):QT X (.Compare a [.Is] [b] pos) (tst (fOp (kIs false) f g)):=zEl zQ4 zRS h1 h2 (zDY _)
def zFR (f:FE):FE:=fun σ M=>match f σ M with
 | some (.dat (.int i),M1)=>some (.dat (.int (-i)),M1)
 | _=>none
theorem zST (h1:QE X a f):QE X (.UnaryOp .USub a pos) (zFR f):=.mk <| PE.imp (zSm zQ1 h1.un) fun τ H Q zz=>by
 obtain ⟨L,σ,M,d,M',cc,rs,hf,q⟩:=zz;unfold zFR at hf;split at hf
 ·rename_i i M1 e1;cases hf;refine ⟨L,σ,M,_,_,cc,rs,e1,fun L1 H1 v s1 c1 r1=>?_⟩;exact ⟨i,by unfold zT Rep at r1; exact r1,q L1 H1 _ s1 c1 (zAk (L:=L1) (H:=H1))⟩
 ·cases hf
def zEz:KB:=fun xs M=>match xs with
 | [x]=>match zAa M x with
  | some ys=>some (.fl ys,M)
  | none=>none
 | _=>none
theorem zNT:zF1 X.K (fun xs H Q=>∃ q ys,xs = [.ref q] /\ (SqL X.K H q ys \/ SqT X.K H q ys) /\ ∀ l,H l = none -> Q (.ref l) (upd H l (.lst ys))) zEz:=by
 intro L M M' H H0 xs d vs Q cc r hk q;unfold zEz at hk;split at hk
 ·rename_i x;split at hk
  ·rename_i ys e1;cases hk;obtain ⟨v,rfl,r1⟩:=r.one;obtain ⟨l,ws,rfl,hs,r2⟩:=zDA cc r1 e1;refine ⟨l,ws,rfl,hs,fun k hk=>?_⟩;exact q L _ _ (.upd hk) (cc.upd hk) (zT.newLst (.refl L H) cc cc hk r2)
  ·cases hk
 ·cases hk
theorem zRh {fa:FAE} (hg:Gl X "list") (hm:X.mg "list" = none) (ha:QAE X [e] fa) (he:starEach [e] X.env = (false,eval e X.env) :: starEach [] X.env:=by rfl) (hpl:(backTo pos (starEach [] X.env)).any (·.1) = false:=by rfl):QE X (.Call (.Name "list" p) [e] [] pos) (fB zEz fa) :=
 zFU zNT zHk (by rfl) hg hm ha (by decide) (by decide) he hpl
end
open AutoSeq1 (wpAny_loadPart')
section
variable {prog:Program} {w:World} {A:Around} {E:Value -> Shared -> Prop} {s:Shared}
theorem zNs {r:Addr} {lo hi:Int} {t u v:Tok} {n:Nat} {Q:List Value -> Shared -> Prop} (hh:A.handled = none) (R:IsRange s.heap r lo hi 1 t u v) (sm:Builtin.Range.small lo hi 1 = true) (hn:Builtin.Range.rangeSize lo hi 1 = n) (hz:n <= 2 ^ 24)
  (q:∀ h' tk (acc:Array Value),(∀ b o,s.heap.get? b = some o -> h'.get? b = some o) -> ItemsOf (fun i v=>∃ t,v = .int (lo + i * 1) t) acc n -> Q acc.toList { s with heap:=h',toks:=tk }):wpAny (model prog w) A (collect (.ref r)) Q E s:=by
 unfold collect;refine zTz (wpAny_runValue (zU9 PySem.F.entry_proto_collect ?_));rw [zUz PySem.F.plain_proto_collect _];refine zTz (m:=newList []) (zUX (zT6 ⟨plainId_quiet PySem.F.plain_list_iadd _,zU9 PySem.F.entry_list_iadd ?_⟩));rw [zUz PySem.F.plain_list_iadd _];have S0:(s.heap.push { cls:=.type "list", data:=.seq ([]:List Value).toArray }).get? s.heap.objs.size = some { cls:=.type "list", data:=.seq #[] 0 }:=zUE _ rfl
 have fin:∀ (h':Heap) (tk:Nat) (acc:Array Value) (k:Nat),(∀ b o,b ≠ s.heap.objs.size -> (s.heap.push { cls:=.type "list", data:=.seq ([]:List Value).toArray }).get? b = some o -> h'.get? b = some o) ->
   h'.get? s.heap.objs.size = some { cls:=.type "list", dict:=none,data:=.seq acc k,slots:=#[] } -> ItemsOf (fun i v=>∃ t,v = .int (lo + i * 1) t) acc n ->
   wpAny (model prog w) A (match Value.ref s.heap.objs.size with
    | Value.ref a=>do
     match (<- load a).data with
      | Data.seq xs _=>pure xs.toList
      | _=>unsupported "internal:collect"
    | _=>unsupported "internal:collect") Q E { s with heap:=h',toks:=tk }:=fun h' tk acc k kp e it=>by
  refine zTz (m:=load s.heap.objs.size) (wpAny_load e (zT6 (q h' tk acc (fun b o m=>kp b o (zUP (zUF m)) (zT0 _ m)) it)))
 refine zUa (wpAny_extend_range (A:=A) (s:={ s with heap:=s.heap.push { cls:=.type "list", data:=.seq ([]:List Value).toArray } })
  (R:=fun r s'=>r = .ok (.ret (.ref s.heap.objs.size)) /\ ∃ h' tk acc k,s' = { s with heap:=h',toks:=tk } /\ (∀ b o,b ≠ s.heap.objs.size -> (s.heap.push { cls:=.type "list", data:=.seq ([]:List Value).toArray }).get? b = some o -> h'.get? b = some o) /\
   h'.get? s.heap.objs.size = some { cls:=.type "list", dict:=none,data:=.seq acc k,slots:=#[] } /\ ItemsOf (fun i v=>∃ t,v = .int (lo + i * 1) t) acc n)
  hh (zT0 _ R) sm hn hz s.heap.objs.size (.ref s.heap.objs.size) 0 S0 fun h' tk acc k kp e it=>⟨rfl,h',tk,acc,k,rfl,kp,e,it⟩) (fun f s' z=>?_) (fun e s' z=>?_)
 ·cases f with
  | done f=>
   obtain ⟨e,h',tk,acc,k,rfl,z1,z2,z3⟩:=z;cases e;exact fin h' tk acc k z1 z2 z3
  | again c'=>exact ⟨z.1,codeAny_mono z.2 fun r s'' z=>by obtain ⟨rfl,h',tk,acc,k,rfl,z1,z2,z3⟩:=z; exact fin h' tk acc k z1 z2 z3⟩
 ·exact absurd z.1 (by simp)
end
theorem zHp (r:Addr) (lo hi:Int) (t u v:Tok) (n:Nat) (sm:Builtin.Range.small lo hi 1 = true) (hn:Builtin.Range.rangeSize lo hi 1 = n) (hz:n <= 2 ^ 24) :
  Meets (Builtin.«tuple.__new__» ⟨[.type "tuple", .ref r],[]⟩) (fun A R s=>A.handled = none /\ IsRange s.heap r lo hi 1 t u v /\
   ∀ (h':Heap) (tk:Nat) (acc:Array Value),(∀ b o,s.heap.get? b = some o -> h'.get? b = some o) -> ItemsOf (fun i v=>∃ t,v = .int (lo + i * 1) t) acc n -> R (.ok (.ret (.ref h'.objs.size))) { s with heap:=h'.push { cls:=.type "tuple", data:=.seq acc },toks:=tk }) :=
 .of_wp fun prog w A R s h=>by
  obtain ⟨hp,g,d,tk,os⟩:=s;obtain ⟨hh,Ra,h⟩:=h;have h1:=sub_tuple_self;have h2:=init_tuple_lookup;have h3:=madeHere_tuple;have T:Shared.TypeIs ⟨hp,g,d,tk,os⟩ (.ref r) "range" := ⟨_,Ra,rfl⟩;wp_walk using wpAny_loadPart' Ra,wpAny_typeOf T,zNs (show A.in1.handled = none from hh) Ra sm hn hz;intro h' tk' acc kp it;refine zTz (m:=Builtin.Tuple.tupleExact acc.toList.toArray) ?_;unfold Builtin.Tuple.tupleExact;have sz:acc.toList.toArray.size <= sizeLine:=by rw [zUC,zUn,it.1,sizeLine_eq]; omega
  refine zUX (zT6 ⟨_,rfl,?_⟩) sz;have e:acc.toList.toArray = acc:=by simp
  rw [e];exact h h' tk' acc kp it
section
variable {X:Cx} {a e:Expr} {es:List Expr} {pos p p2 pos2:Pos} {f:FE}
theorem zOX:zBs X (.type "range") (fun xs H Q=>∃ j,xs = [.int j] /\ ∀ l,H l = none -> Q (.ref l) (upd H l (.rng 0 j))):=by
 intro zB s σ H xs us Q I r h;obtain ⟨j,rfl,q⟩:=h;obtain ⟨u,rfl,rx⟩:=zDO r;obtain ⟨t,rfl⟩:=rx;refine call_range_1 ⟨.ref s.heap.objs.size,_,I.laid (fun b o z=>zT0 _ z) (zUA _) ?_,rfl,q _ (I.hok.fresh (zUA _))⟩;exact ⟨_,_,_,zUE _ rfl⟩
def upV (n:Nat):List V:=(List.range n).map fun (k:Nat)=>V.int k
theorem zOr {acc:Array Value} {n:Nat} (h:ItemsOf (fun i v=>∃ t,v = .int ((0:Int) + i * 1) t) acc n):zU (upV n) acc.toList:=by
 obtain ⟨hz,hi⟩:=h;have:∀ (xs:List Value) (k:Nat),(∀ j v,xs[j]? = some v -> ∃ t,v = Value.int ((k + j:Nat):Int) t) -> zU ((List.range' k xs.length).map fun (k:Nat)=>V.int k) xs:=by
  intro xs;induction xs with
  | nil=>intro k _; exact .nil
  | cons x xs ih=>
   intro k hk;rw [zUb,List.range'_succ,zUN];refine .cons ?_ (ih (k + 1) fun j v e=>?_)
   ·obtain ⟨t,e⟩:=hk 0 x rfl;exact ⟨t,by simpa using e⟩
   ·obtain ⟨t,e'⟩:=hk (j + 1) v (by simpa using e);exact ⟨t,by rw [e']; congr 2; omega⟩
 have q:=this acc.toList 0 (fun j v e=>by
  obtain ⟨t,e'⟩:=hi j v (by simpa using e);exact ⟨t,by rw [e']; congr 1; omega⟩)
 unfold upV;rw [List.range_eq_range'];rw [zUn,hz] at q;exact q
theorem zLh {j:Int} (h0:0 <= j) (h1:j <= 16777216):Builtin.Range.small 0 j 1 = true /\ Builtin.Range.rangeSize 0 j 1 = (j.toNat:Int):=by
 refine ⟨small_one (by omega) (by omega) (by omega) (by omega),?_⟩;rw [rangeSize_one]; split <;> omega
def zTl (mk:List V -> HO):List V -> Hp -> VK -> Prop:=fun xs H Q=>∃ r j,xs = [.ref r] /\ H r = some (.rng 0 j) /\ 0 <= j /\ j <= 16777216 /\ ∀ l,H l = none -> Q (.ref l) (upd H l (mk (upV j.toNat)))
theorem zKV (n:Nat):(upV n).length = n:=by unfold upV; simp
theorem zMQ (hc:X.calm = true):zBs X (.type "tuple") (zTl HO.tup):=by
 intro zB s σ H xs us Q I r h;obtain ⟨l,j,rfl,hr,h0,h1,q⟩:=h;obtain ⟨u,rfl,rx⟩:=zDO r;cases rx;obtain ⟨t,u,v,er⟩:=(show zn X.prog X.w H s.heap l (.rng 0 j) from I.hok l _ hr);obtain ⟨sm,sz⟩:=zLh h0 h1
 refine callType_new PySem.F.called_tuple (by decide) (PySem.F.typeCall_tuple_1 _) (PySem.F.newCall_tuple_1 _) (fun obj=>PySem.F.args_object_init_2 obj _) PySem.F.entry_tuple_new (zHp l 0 j t u v j.toNat sm sz (by omega))
  ⟨I.ok.hd hc,er,fun h' tk acc kp it=>⟨⟨_,zUE _ rfl,rfl⟩,?_⟩⟩
 have I1:Inv X zB σ H { s with heap:=h',toks:=tk }:=I.kept kp;refine ⟨.ref h'.objs.size,_,I1.laid (t':=tk) (fun b o z=>zT0 _ z) (zUA _) ?_,rfl,q _ (I1.hok.fresh (zUA _))⟩;exact ⟨by rw [zKV,sizeLine_eq]; omega,acc.toList,zOr it,by simpa using zBb.new h' acc⟩
def upD (n:Nat):List D:=(List.range n).map fun (k:Nat)=>D.int k
theorem zPu {L:List Addr} {H:Hp} (n:Nat):zH L H (upD n) (upV n):=by
 have:∀ xs:List Nat,zH L H (xs.map fun (k:Nat)=>D.int k) (xs.map fun (k:Nat)=>V.int k):=by
  intro xs;induction xs with
  | nil=>exact .nil
  | cons x xs ih=>exact .cons zAk ih
 exact this _
def zLK (f:FE):FE:=fun σ M=>match f σ M with
 | some (.dat (.int j),M1)=>if 0 <= j /\ j <= 16777216 then some (.dat (.tup (upD j.toNat)),M1) else none
 | _=>none
theorem zSB (hc:X.calm = true) (hg:Gl X "tuple") (hm:X.mg "tuple" = none) (hg2:Gl X "range") (hm2:X.mg "range" = none) (ha:QE X a f)
  (he:starEach [Expr.Call (.Name "range" p2) [a] [] pos2] X.env = (false,eval (Expr.Call (.Name "range" p2) [a] [] pos2) X.env) :: starEach [] X.env:=by rfl) (hpl:(backTo pos (starEach [] X.env)).any (·.1) = false:=by rfl)
  (he2:starEach [a] X.env = (false,eval a X.env) :: starEach [] X.env:=by rfl) (hpl2:(backTo pos2 (starEach [] X.env)).any (·.1) = false:=by rfl) :
  QE X (.Call (.Name "tuple" p) [.Call (.Name "range" p2) [a] [] pos2] [] pos) (zLK f) :=
 .mk <| PE.imp (zEW (zMQ hc) hg hm (by rfl) (zB5 (zEW zOX hg2 hm2 boot_range (zB5 ha.un zGC he2) (by decide) (by decide) he2 hpl2) zGC he) (by decide) (by decide) he hpl) fun τ H Q zz=>by
  obtain ⟨L,σ,M,d,M',c,rs,hf,q⟩:=zz;unfold zLK at hf;split at hf
  ·rename_i j M1 e1;split at hf
   ·rename_i hb;cases hf;refine ⟨L,σ,M,_,_,c,rs,e1,fun L1 H1 v s1 c1 r1=>⟨j,by unfold zT Rep at r1; rw [r1],fun l hl=>⟨l,j,rfl,zg,hb.1,hb.2,fun k hk=>?_⟩⟩⟩;exact q L1 _ _ ((s1.trans (.upd hl)).trans (.upd hk)) ((c1.upd hl).upd hk) (Rep.newTup hk (zPu _))
   ·cases hf
  ·cases hf
end
theorem zPm {P:Program} {w:World} {K:PySem.W.Frag} {mg:Str -> Option Value} {base:Heap} {k:Nat} {f:Addr} {fd:FuncData} {ps:List Str} {n:Nat}:FnOk P w K mg base CX0 k f fd ps (spF K n fun _ _=>none):=by
 have no:∀ vs H Q E,¬ spF K n (fun _ _=>none) vs H Q E:=fun vs H Q E ⟨_,_,_,_,_,_,_,_,h,_⟩=>by cases h
 exact ⟨fun vs H Q E h=>absurd h (no vs H Q E),fun A outer s H args us vs Q E _ _ _ _ h=>absurd h (no vs H Q E)⟩
def zD8:Expr -> Bool
 | .Starred .. =>false
 | _=>true
theorem zF {e:Expr} {es:List Expr} {env:Env} (h:zD8 e = true):starEach (e :: es) env = (false,eval e env) :: starEach es env:=by
 cases e <;> first | rfl | cases h
theorem zFp {e:Expr} {env:Env} (h:zD8 e = true):starEach [e] env = [(false,eval e env)]:=zF h
theorem zMq {e e':Expr} {env:Env} (h:zD8 e = true) (h':zD8 e' = true):starEach [e,e'] env = [(false,eval e env),(false,eval e' env)]:=by rw [zF h,zFp h']
theorem zAW {pos:Pos} {env:Env}:∀ {es:List Expr},es.all zD8 = true -> (backTo pos (starEach es env)).any (·.1) = false
 | [],_=>rfl
 | e :: es,h=>by
  rw [List.all_cons,zUe] at h;rw [zF h.1];have:=zAW (pos:=pos) (env:=env) h.2;simpa [backTo] using this
theorem Cor.pushO {K:PySem.W.Frag} {L:List Addr} {M:List MO} {H:Hp} {p:Addr} {o:HO} {m:MO} (c:Cor K L M H) (h:H p = none) (new:zDH K (L ++ [p]) (L2.upd H p o) p m) :
  Cor K (L ++ [p]) (M ++ [m]) (L2.upd H p o) /\ Stp L H (L ++ [p]) (L2.upd H p o):=by
 have hp:p ∉ L:=fun z=>by obtain ⟨o,e⟩:=c.tracked z; rw [h] at e; cases e
 have st:Stp L H (L ++ [p]) (L2.upd H p o):=by
  refine ⟨⟨[p],rfl⟩,fun a ha=>?_,fun a o e _ _=>?_,fun a o e=>?_,fun a o u e=>?_,zDu (fun a o u e=>?_) fun a ps e=>?_⟩
  ·rcases zUU.mp ha with z | z
   ·exact .inl z
   ·have:a = p:=by simpa using z
    subst this; exact .inr h
  all_goals (rw [zP (zY e h)]; exact e)
 refine ⟨⟨by simp [c.len],?_,fun n a m e1 e2=>?_,c.tab.stp st⟩,st⟩
 ·rw [zVI];exact ⟨c.nd,by simp,fun a ha b hb z=>by
   have:b = p:=by simpa using hb
   subst this; subst z; exact hp ha⟩
 ·by_cases hn:n < L.length
  ·rw [zUB hn] at e1;rw [zUB (by rw [<- c.len]; exact hn)] at e2;exact (c.obj n a m e1 e2).stp st fun o _ e=>by rw [zP (zY e h)]; exact e
  ·have hn':n = L.length:=by
    have:=(zT7.mp e1).1;rw [zUK] at this;simp at this; omega
   subst hn';simp at e1;rw [c.len] at e2;simp at e2;subst e1; subst e2;exact new
theorem zDH.nt {K:PySem.W.Frag} {L:List Addr} {H:Hp} {a:Addr} {m:MO} (h:zDH K L H a m) {o:HO} (e:H a = some o):NT o:=fun ps z=>by
 subst z;cases m with
 | lst xs=>obtain ⟨vs,e',_⟩:=h; rw [e] at e'; cases e'
 | fro xs=>obtain ⟨o,vs,e',_⟩:=h; rw [e] at e'; cases e'
 | dict ps=>obtain ⟨vs,e',_⟩:=h; rw [e] at e'; cases e'
 | dicT ps=>obtain ⟨vs,e',_⟩:=h; rw [e] at e'; cases e'
 | set _=>obtain ⟨o,u,e'⟩:=h; rw [e] at e'; cases e'
 | froT ps=>obtain ⟨o,vs,e',_⟩:=h; rw [e] at e'; cases e'
 | froK ps=>obtain ⟨o,vs,e',_⟩:=h; rw [e] at e'; cases e'
theorem Cor.nt {K:PySem.W.Frag} {L:List Addr} {M:List MO} {H:Hp} {n:Nat} {p:Addr} {o:HO} (c:Cor K L M H) (h1:L[n]? = some p) (ho:H p = some o):NT o :=
 (c.obj n p _ h1 (zT8 (by rw [<- c.len]; exact (zT7.mp h1).1))).nt ho
theorem Cor.put {K:PySem.W.Frag} {L:List Addr} {M:List MO} {H:Hp} {n:Nat} {p:Addr} {o o':HO} {m:MO} (c:Cor K L M H) (h1:L[n]? = some p) (ho:H p = some o) (ht:∀ xs,o ≠ .tup xs) (hf:∀ a u,o ≠ .frz a u)
  (new:Stp L H L (L2.upd H p o') -> zDH K L (L2.upd H p o') p m):Cor K L (M.set n m) (L2.upd H p o') /\ Stp L H L (L2.upd H p o'):=by
 have st:Stp L H L (L2.upd H p o'):=by
  have nt:=c.nt h1 ho;refine ⟨⟨[],by simp⟩,fun a ha=> .inl ha,fun a o e ha _=>?_,fun a xs e=>?_,fun a b u e=>?_,zDu (fun a b u e=>?_) fun a ps e=>?_⟩
  ·rw [zP (show a ≠ p from fun z=>ha (by rw [z]; exact zUv h1))]; exact e
  ·rw [zP (zCj e ho (fun z=>ht xs z.symm))]; exact e
  ·rw [zP (zCj e ho (fun z=>hf b u z.symm))]; exact e
  ·rw [zP (zCj e ho (fun z=>hf b u z.symm))]; exact e
  ·rw [zP (zCj e ho (fun z=>nt ps z.symm))]; exact e
 refine ⟨⟨by simp [c.len],c.nd,fun k a m' e1 e2=>?_,c.tab.stp st⟩,st⟩;rw [zVd] at e2;split at e2
 ·rename_i hk;subst hk;rw [h1] at e1; cases e1;split at e2
  ·cases e2; exact new st
  ·cases e2
 ·rename_i hk;have hne:a ≠ p:=fun z=>hk (by
   subst z;exact (List.getElem?_inj (zT7.mp h1).1 c.nd).mp (h1.trans e1.symm))
  exact (c.obj k a m' e1 e2).stp st fun o _ e=>by rw [zP hne]; exact e
section
variable {X:Cx} {a b e:Expr} {pos:Pos} {f g:FE}
def zKc:FE:=fun _ M=>some (.dat (.ref M.length),M ++ [.dicT []])
theorem zPF:QE X (.Dict [] [] pos) zKc:=.mk <| PE.imp zOK fun τ H Q ⟨L,σ,M,d,M',c,rs,hf,q⟩ p hp=>by
 unfold zKc at hf;cases hf;obtain ⟨c2,s2⟩:=c.pushO (m:=.dicT []) hp ⟨[],zg,rfl⟩;refine q _ _ _ s2 c2 ?_;unfold zT Rep;exact ⟨p,rfl,by rw [<- c.len]; simp⟩
theorem zFC {L:List Addr} {H:Hp} {d:D} {v:V} {k:Key} (h:Rep L H d v) (e:zCb d = some k):v = kV k:=by
 cases d with
 | int i=>cases e; unfold Rep at h; exact h
 | str x=>cases e; unfold Rep at h; exact h
 | _=>cases e
def zGL (M:Mem):EV -> Option (List D)
 | .fl xs=>some xs
 | .dat (.ref n)=>match M[n]? with
  | some (.lst xs)=>some xs
  | _=>none
 | _=>none
theorem zKi {K:PySem.W.Frag} {L:List Addr} {M:Mem} {H H0:Hp} {x:EV} {v:V} {xs:List D} (c:Cor K L M H) (r:zT H0 L H x v) (h:zGL M x = some xs):∃ a vs,v = .ref a /\ H a = some (.lst vs) /\ zH L H xs vs:=by
 cases x with
 | fl ys=>
  cases h;obtain ⟨p,vs,rfl,_,e,_,r⟩:=r;exact ⟨p,vs,rfl,e,r⟩
 | dat d=>
  cases d with
  | ref n=>
   unfold zT Rep at r;obtain ⟨a,rfl,e⟩:=r;unfold zGL at h;dsimp only at h;split at h
   ·rename_i ys q;cases h;obtain ⟨vs,e1,r1⟩:=c.obj n a _ e q;exact ⟨a,vs,rfl,e1,r1⟩
   ·cases h
  | _=>cases h
def zCE:K2:=fun x y M=>match zGL M x,zGL M y with
 | some xs,some ys=>if xs.length + ys.length <= sizeLine then some (.fl (xs ++ ys),M) else none
 | _,_=>none
theorem zNc {K:PySem.W.Frag}:zCB K zSP zCE:=by
 intro L M M' H H0 x y d v w Q c rx ry hk q;unfold zCE at hk;split at hk
 ·rename_i xs ys e1 e2;split at hk
  ·rename_i hz;cases hk;obtain ⟨l,vs,rfl,h1,r1⟩:=zKi c rx e1;obtain ⟨l2,ws,rfl,h2,r2⟩:=zKi c ry e2;refine ⟨l,l2,vs,ws,rfl,rfl,h1,h2,by rw [r1.length,r2.length]; exact hz,fun p hp=>?_⟩;exact q L _ _ (.upd hp) (c.upd hp) (zT.newLst (.refl L H) c c hp (r1.app r2))
  ·cases hk
 ·cases hk
theorem zRy (h1:QE X a f) (h2:QE X b g):QE X (.BinOp a .Add b pos) (fOp zCE f g):=zIY zNc zR3 h1 h2
end
end L3
namespace LR
open PySem PySem.Spec PyProof.Rows
open Sem (wp)
open Sem (wp)
open AutoSeq1 (wpAny_loadPart')
open Sem (wp)
open AutoSeq1 (wpAny_loadPart')
end LR
namespace L3
open PySem PySem.Spec PyProof.Rows L2
section
variable {X:Cx} {a b e o:Expr} {pos p apos cpos:Pos} {f g:FE}
def zAC:List D -> Option (List Int)
 | []=>some []
 | .int i :: r=>match zAC r with
  | some bs=>some (i :: bs)
  | none=>none
 | _=>none
theorem zCL {L:List Addr} {H:Hp}:∀ {ds:List D} {bs:List Int} {vs:List V},zAC ds = some bs -> zH L H ds vs -> vs = bs.map V.int
 | [],bs,vs,e,r=>by cases e; unfold zH at r; exact r
 | d :: ds,bs,vs,e,r=>by
  unfold zH at r;obtain ⟨v,r',rfl,r1,r2⟩:=r;cases d with
  | int k=>
   unfold zAC at e;cases q:zAC ds with
   | none=>rw [q] at e; cases e
   | some bs'=>
    rw [q] at e; cases e;unfold Rep at r1;rw [r1,zCL q r2]; rfl
  | _=>cases e
theorem zAx:∀ xs:List Int,zAC (xs.map D.int) = some xs
 | []=>rfl
 | x :: r=>by rw [zUN]; unfold zAC; rw [zAx r]
theorem zME (xs:List Int):(xs.map V.int).all zD9 = true:=by
 rw [zUf]; intro x hx; obtain ⟨i,_,rfl⟩:=zUL.mp hx; rfl
theorem zPS (i:Int) (xs:List Int):inV (.int i) (xs.map V.int) = xs.any fun y=>decide (y = i):=by
 unfold inV;rw [List.any_map];congr 1
def kIn (neg:Bool):K2:=fun x y M=>match x with
 | .dat (.int i)=>match zAa M y with
  | some ds=>match zAC ds with
   | some xs=>some (.dat (.bl (if neg then !(xs.any fun y=>decide (y = i)) else xs.any fun y=>decide (y = i))),M)
   | none=>none
  | none=>none
 | _=>none
theorem zN9 {K:PySem.W.Frag} {neg:Bool}:zCB K (rIn K neg) (kIn neg):=by
 intro L M M' H H0 x y d v w Q cc rx ry hk q;unfold kIn at hk;split at hk
 ·rename_i i;split at hk
  ·rename_i ds e1;split at hk
   ·rename_i xs e2;cases hk;have ev:v = .int i:=by unfold zT Rep at rx; exact rx
    obtain ⟨p,vs,rfl,hs,r⟩:=zDA cc ry e1;have:=zCL e2 r;subst this;refine ⟨p,_,rfl,hs,by rw [ev]; rfl,zME xs,?_⟩;rw [ev,zPS];exact q L H _ (.refl L H) cc (zBr (L:=L) (H:=H))
   ·cases hk
  ·cases hk
 ·cases hk
theorem zTV (h1:QE X a f) (h2:QE X b g) (hm:behindInMarks .In b = false:=by rfl):QE X (.Compare a [.In] [b] pos) (fOp (kIn false) f g):=zNn zN9 zMH h1 h2 hm
theorem zNo (h1:QE X a f) (h2:QE X b g) (hm:behindInMarks .NotIn b = false:=by rfl):QT X (.Compare a [.NotIn] [b] pos) (tst (fOp (kIn true) f g)):=zEl zN9 zHf h1 h2 hm
end
end L3
namespace L2
open PySem PySem.Spec PyProof.Rows
section
variable {prog:Program} {w:World} {A:Around} {E:Value -> Shared -> Prop} {R:Result -> Shared -> Prop} {s:Shared}
theorem zHZ (elt target iter:Expr) (ifs:List Expr) (scope:Scope) (pos:Pos) (it acc:Value) (env:Env) :
  compTurn (.SetComp elt [⟨target,iter,ifs,0⟩] scope pos) 0 it acc env = (do
   standAt iter.pos;match <- pyNext it with
   | none=>pure (.done .next)
   | some v=>
    letOwnedTupleGo target it v;assign target env v;let mut ok:=true
    for c in ifs do
     if ok then ok <- isTrue c env (eval c env)
    if ok then (do let v <- eval elt env; standAt elt.pos; let _ <- call (.builtin "set.add") [acc,v])
    again (.compLoop (.SetComp elt [⟨target,iter,ifs,0⟩] scope pos) 0 it acc env)):=by rfl
theorem zHU {elt target iter:Expr} {ifs:List Expr} {scope:Scope} {pos:Pos} {it acc:Value} {env:Env} (I:Nat -> Shared -> Prop)
  (turn:∀ n s,I n s -> wpAny (model prog w) A (pyNext it) (fun r s₁=>match r with
   | none=>R (.ok .next) s₁
   | some v=>wpAny (model prog w) A (letOwnedTupleGo target it v) (fun _ s₁'=>wpAny (model prog w) A (assign target env v) (fun _ s₂=>
     wpAny (model prog w) A (forIn ifs true fun c r=>if r = true then do let ok <- isTrue c env (eval c env); pure (ForInStep.yield ok) else pure (ForInStep.yield r)) (fun ok s₃=>
      if ok = true then wpAny (model prog w) A (eval elt env) (fun x s₄=>
       wpAny (model prog w) A (call (.builtin "set.add") [acc,x]) (fun _ s₅=>∃ m,m < n /\ I m s₅) (fun _ _=>False) s₄) (fun _ _=>False) s₃
      else ∃ m,m < n /\ I m s₃) (fun _ _=>False) s₂) (fun _ _=>False) s₁') (fun _ _=>False) s₁) (fun _ _=>False) s)
  (n:Nat) (h:I n s) :
  codeAny (model prog w) A (.compLoop (.SetComp elt [⟨target,iter,ifs,0⟩] scope pos) 0 it acc env) R s:=by
 refine codeAny_loop rfl I (fun n s hI=>?_) n h;show wpAny _ A ((compTurn (.SetComp elt [⟨target,iter,ifs,0⟩] scope pos) 0 it acc env).onRaise (fun x=>do noteFrame x env; theTreesLotGoes x)) _ _ s;refine wpAny_noted ?_;rw [zHZ];refine zTz (wpAny_standAt (zTz (zUa (turn n s hI) (fun r s₁ h₁=>?_) fun _ _ h'=>h'.elim)));cases r with
 | none=>exact zT6 h₁
 | some v=>
  refine zTz (zUa h₁ (fun _ s₁' h₁'=>?_) fun _ _ h'=>h'.elim);refine zTz (zUa h₁' (fun _ s₂ h₂=>zTz (zUa h₂ (fun ok s₃ h₃=>?_) fun _ _ h'=>h'.elim)) fun _ _ h'=>h'.elim);cases ok with
  | false=>exact zT6 ⟨rfl,h₃⟩
  | true=>
   exact zTz (zTz (zUa h₃ (fun x s₄ h₄=>zTz (wpAny_standAt (zTz (zUa h₄ (fun _ s₅ h₅=>zT6 (zT6 ⟨rfl,h₅⟩)) fun _ _ h'=>h'.elim)))) fun _ _ h'=>h'.elim))
end
end L2
namespace LR
open PySem PySem.Spec PyProof.Rows
open Sem (wp)
end LR
namespace L3
open PySem PySem.Spec PyProof.Rows L2
end L3
namespace ST
open PySem
abbrev Up (xs:Array Nat):Prop:=xs.toList.Pairwise (· < ·)
theorem Up.get {xs:Array Nat} (h:Up xs) {i k:Nat} (hik:i < k) (hk:k < xs.size):xs[i]'(by omega) < xs[k]:=by
 have:=List.pairwise_iff_getElem.mp h i k (by simpa using (show i < xs.size by omega)) (by simpa using hk) hik;simpa using this
theorem zHq {xs:Array Nat} (h:Up xs) (j:Nat):∀ (fuel lo hi:Nat),lo <= hi -> hi <= xs.size -> hi - lo <= fuel -> (∀ i (hi':i < xs.size),i < lo -> xs[i] < j) -> (∀ i (hi':i < xs.size),hi <= i -> j <= xs[i]) ->
  (SetTable.below.go xs j fuel lo hi <= xs.size) /\ (∀ i (hi':i < xs.size),i < SetTable.below.go xs j fuel lo hi -> xs[i] < j) /\ (∀ i (hi':i < xs.size),SetTable.below.go xs j fuel lo hi <= i -> j <= xs[i])
 | 0,lo,hi,h1,h2,h3,a,b=>by
  have:lo = hi:=by omega
  subst this;unfold SetTable.below.go;exact ⟨h2,a,b⟩
 | fuel + 1,lo,hi,h1,h2,h3,a,b=>by
  unfold SetTable.below.go;by_cases hl:lo < hi
  ·rw [zUJ hl];dsimp only;have hm:(lo + hi) / 2 < xs.size:=by omega
   have eg:xs.getD ((lo + hi) / 2) j = xs[(lo + hi) / 2]:=by simp [Array.getD,hm]
   rw [eg];by_cases hc:xs[(lo + hi) / 2] < j
   ·rw [zUJ hc];refine zHq h j fuel _ _ (by omega) h2 (by omega) (fun i hi' hlt=>?_) b;rcases Nat.lt_or_ge i ((lo + hi) / 2) with z | z
    ·exact Nat.lt_trans (h.get z hm) hc
    ·have:i = (lo + hi) / 2:=by omega
     subst this; exact hc
   ·rw [zUM hc];refine zHq h j fuel _ _ (by omega) (by omega) (by omega) a (fun i hi' hge=>?_);rcases Nat.lt_or_ge ((lo + hi) / 2) i with z | z
    ·have:=h.get z hi'; omega
    ·have:i = (lo + hi) / 2:=by omega
     subst this; omega
  ·rw [zUM hl];have:lo = hi:=by omega
   subst this;exact ⟨h2,a,b⟩
theorem zCM {xs:Array Nat} (h:Up xs) (j:Nat):SetTable.below xs j <= xs.size /\ (∀ i (hi':i < xs.size),i < SetTable.below xs j -> xs[i] < j) /\ (∀ i (hi':i < xs.size),SetTable.below xs j <= i -> j <= xs[i]):=by
 unfold SetTable.below;exact zHq h j xs.size 0 xs.size (zUq _) (zUA _) (by omega) (fun i _ z=>by omega) (fun i hi' z=>by omega)
theorem zKT {xs:Array Nat} (h:Up xs):SetTable.below xs 0 = 0:=by
 obtain ⟨a,b,c⟩:=zCM h 0;rcases Nat.eq_zero_or_pos (SetTable.below xs 0) with z | z
 ·exact z
 ·have:=b 0 (by omega) z; omega
theorem zKa {xs:Array Nat} (h:Up xs) {k:Nat} (hk:k < xs.size):SetTable.below xs (xs[k] + 1) = k + 1:=by
 obtain ⟨a,b,c⟩:=zCM h (xs[k] + 1);rcases Nat.lt_trichotomy (SetTable.below xs (xs[k] + 1)) (k + 1) with z | z | z
 ·have:=c k hk (by omega); omega
 ·exact z
 ·have h1:k + 1 < xs.size:=by omega
  have:=b (k + 1) h1 z;have:=h.get (show k < k + 1 by omega) h1;omega
theorem zE0 {α:Type} (xs:Array α) (p:Nat) (x:α):(SetTable.insertAt xs p x).toList = xs.toList.take p ++ x :: xs.toList.drop p:=by
  unfold SetTable.insertAt;simp;have:xs.toList.length <= xs.size:=by simp
  rw [List.take_of_length_le (by simp)]
theorem zMf {xs : Array Nat} (h : Up xs) {j : Nat} (hj : j ∉ xs.toList) : Up (SetTable.insertAt xs (SetTable.below xs j) j) := by
  obtain ⟨a, b, c⟩ := zCM h j;unfold Up;rw [zE0];rw [List.pairwise_append];have hT : ∀ x ∈ xs.toList.take (SetTable.below xs j), x < j := fun x hx => by
    obtain ⟨i,hi,e⟩:=List.getElem_of_mem hx;rw [List.getElem_take] at e;rw [zVS] at hi
    have h1 : i < xs.size := by have : xs.toList.length = xs.size := by simp
                                omega
    have:=b i h1 (by omega);rw [<- e]; simpa using this
  have hD : ∀ x ∈ xs.toList.drop (SetTable.below xs j), j < x := fun x hx => by
    obtain ⟨i,hi,e⟩:=List.getElem_of_mem hx;rw [List.getElem_drop] at e;rw [List.length_drop] at hi
    have h1 : SetTable.below xs j + i < xs.size := by have : xs.toList.length = xs.size := by simp
                                                      omega
    have h2:=c _ h1 (by omega);have h3:x ≠ j:=fun z=>hj (z ▸ List.mem_of_mem_drop hx);have e':xs[SetTable.below xs j + i] = x:=by simpa using e
    omega
  refine ⟨h.sublist (List.take_sublist _ _),zWE.mpr ⟨hD,h.sublist (List.drop_sublist _ _)⟩,fun x hx y hy=>?_⟩;rcases zUG.mp hy with z | z
  · rw [z]; exact hT x hx
  · exact Nat.lt_trans (hT x hx) (hD y z)
theorem zG9 (j:Nat):SetTable.has #[] j = false:=by
 unfold SetTable.has; simp
theorem zKQ {t:SetTable} (h:Up t.place) {j:Nat} (he:t.slot j = .empty):j ∉ t.place.toList:=fun hm=>by
 obtain ⟨a,b,c⟩:=zCM h j;obtain ⟨k,hk,e⟩:=List.getElem_of_mem hm;have hk':k < t.place.size:=by simpa using hk
 have e':t.place[k] = j:=by simpa using e
 have eb:SetTable.below t.place j = k:=by
  rcases Nat.lt_trichotomy (SetTable.below t.place j) k with z | z | z
  ·have h1:SetTable.below t.place j < t.place.size:=by omega
   have:=c _ h1 (zUA _);have:=h.get z hk';omega
  ·exact z
  ·have:=b k hk' z; omega
 unfold SetTable.slot at he;dsimp only at he;rw [eb,zUJ (by simp [hk',e'])] at he;cases he
theorem zIl {t:SetTable} (hd:t.dummies = #[]) {hashAt:Nat -> Int} {h:Int}:∀ (fuel:Nat) (p:SetTable.Probe) {j:Nat} {d:Option Nat},p.dummy = none -> SetTable.probe.go t hashAt h fuel p = some (.empty j d) -> d = none /\ t.slot j = .empty
 | 0,_,_,_,_,e=>by unfold SetTable.probe.go at e; cases e
 | fuel + 1,p,j,d,hp,e=>by
  unfold SetTable.probe.go at e;split at e
  ·rename_i hs;cases e;exact ⟨hp,hs⟩
  ·rename_i hs;unfold SetTable.slot at hs;dsimp only at hs;rw [hd,zG9] at hs;split at hs <;> first | cases hs | simp at hs
  ·split at e
   ·cases e
   ·refine zIl hd fuel _ ?_ e;unfold SetTable.advance;split <;> simp [hp]
theorem zLo {t:SetTable} (hu:Up t.place) (hd:t.dummies = #[]) {h:Int} {j:Nat} {b:Bool} (e:t.freeSlot h = some (j,b)):b = false /\ j ∉ t.place.toList:=by
 unfold SetTable.freeSlot at e;split at e
 ·rename_i j' d hp;unfold SetTable.probe at hp;obtain ⟨h1,h2⟩:=zIl hd _ _ (by rfl) hp;subst h1;simp at e;obtain ⟨rfl,rfl⟩:=e;exact ⟨rfl,zKQ hu h2⟩
 ·cases e
structure zAG (w:World) (t:SetTable):Prop where
 led:t.led = !w.params.followText "set-order"
 up:Up t.place
 nod:t.dummies = #[]
theorem zOA (n:Nat):Up (Array.range n):=by
 unfold Up;rw [Array.toList_range];exact List.pairwise_lt_range
theorem zAG.standIn {w:World} {t:SetTable} (h:zAG w t) (n:Nat):zAG w (t.standIn n):=⟨h.led,zOA n,rfl⟩
theorem zAG.orStandIn {w:World} {t:SetTable} (h:zAG w t) (n:Nat):zAG w (t.orStandIn n):=by
 unfold SetTable.orStandIn;split
 ·exact h
 ·exact h.standIn n
theorem zAG.put {w:World} {t:SetTable} (h:zAG w t) {j:Nat} (hj:j ∉ t.place.toList):zAG w (t.put j).1:=by
 unfold SetTable.put;refine ⟨h.led,zMf h.up hj,?_⟩;show (if SetTable.has t.dummies j = true then _ else t.dummies) = #[];rw [h.nod,zG9]; rfl
theorem zAG.layNew {w:World} {t:SetTable} (h:zAG w t) (es:Array (Int × Value)) (hh:Int) (x:Value):zAG w (layNew t es hh x).2.1:=by
 unfold PySem.layNew;split
 ·rename_i j b e;exact (h.put (zLo h.up h.nod e).2).orStandIn _
 ·exact h.standIn _
theorem zAG.relaid {w:World} {t t':SetTable} {hs:Array Int} {wanted:Nat} {order:Array Nat} (h:zAG w t) (e:t.relaid hs wanted = some (t',order)):zAG w t':=by
 unfold SetTable.relaid SetTable.laid at e;cases q:SetTable.layClean (SetTable.sizeAbove wanted - 1) hs with
 | none=>rw [q] at e; cases e
 | some owner=>
  rw [q] at e;simp only [Option.bind_eq_bind,Option.bind_some,Option.pure_def,Option.some.injEq,Prod.mk.injEq] at e;obtain ⟨rfl,_⟩:=e;refine ⟨h.led,?_,rfl⟩;unfold Up;dsimp only;rw [List.pairwise_map,List.pairwise_filterMap];refine List.pairwise_lt_range.imp fun {a b} hab x hx y hy=>?_;cases o1:owner.getD a none with
  | none=>rw [o1] at hx; cases hx
  | some u=>
   cases o2:owner.getD b none with
   | none=>rw [o2] at hy; cases hy
   | some v=>
    rw [o1] at hx; rw [o2] at hy;cases hx; cases hy;exact hab
theorem zAG.relayAll {w:World} {t:SetTable} (h:zAG w t) (es:Array (Int × Value)) (wanted:Nat):zAG w (relayAll t es wanted).2.1:=by
 unfold PySem.relayAll;split
 ·rename_i t' order e;dsimp only;split
  ·exact h.relaid e
  ·exact h.standIn _
 ·exact h.standIn _
theorem zAG.plain {w:World} {t:SetTable} (h:zAG w t) (b:Bool):zAG w { t with plain:=b }:=⟨h.led,h.up,h.nod⟩
theorem zAG.fresh {w:World}:zAG w (SetTable.fresh 0 0 (!w.params.followText "set-order")):=⟨rfl,List.Pairwise.nil,rfl⟩
open Sem (wp)
set_option genInjectivity true in
inductive F2 {α β:Type} (R:α -> β -> Prop):List α -> List β -> Prop
 | nil:F2 R [] []
 | cons {x y xs ys}:R x y -> F2 R xs ys -> F2 R (x :: xs) (y :: ys)
section
variable {prog:Program} {w:World} {K:Type} [DecidableEq K]
def zR8 (knd:KeyKind prog w K) (e:Int × Value) (k:K):Prop:=(knd.is k e.2 = true /\ e.1 = knd.hash k) /\ e.2.scannable = true
structure SetK (knd:KeyKind prog w K) (o:Obj) (es:Array (Int × Value)) (ep:Nat) (t:SetTable) (ks:List K):Prop where
 ex:o.ExactSet
 data:o.data = .set es ep t
 tab:zAG w t
 fits:t.fits es.size = true
 bound:es.size < scanBound
 ent:∃ ks',ks'.Perm ks /\ F2 (zR8 knd) es.toList ks'
def ins (ks:List K) (k:K):List K:=if k ∈ ks then ks else ks ++ [k]
variable {knd:KeyKind prog w K} {o:Obj} {es:Array (Int × Value)} {ep:Nat} {t:SetTable} {ks:List K}
theorem zC1 {α β:Type} {R:α -> β -> Prop}:∀ {xs:List α} {ys:List β},F2 R xs ys -> xs.length = ys.length
 | _,_,.nil=>rfl
 | _,_,.cons _ h=>by simp [zC1 h]
theorem zCy {α β:Type} {R:α -> β -> Prop}:∀ {xs:List α} {ys:List β},F2 R xs ys -> ∀ x ∈ xs,∃ y ∈ ys,R x y
 | _,_,.nil,x,hx=>by cases hx
 | _,_,.cons h r,x,hx=>by
  rcases zUG.mp hx with z | z
  ·subst z; exact ⟨_,zUI,h⟩
  ·obtain ⟨y,hy,q⟩:=zCy r x z; exact ⟨y,zUH _ hy,q⟩
theorem zDx {α β:Type} {R:α -> β -> Prop}:∀ {xs:List α} {ys:List β},F2 R xs ys -> ∀ y ∈ ys,∃ x ∈ xs,R x y
 | _,_,.nil,x,hx=>by cases hx
 | _,_,.cons h r,x,hx=>by
  rcases zUG.mp hx with z | z
  ·subst z; exact ⟨_,zUI,h⟩
  ·obtain ⟨y,hy,q⟩:=zDx r x z; exact ⟨y,zUH _ hy,q⟩
theorem zC3 {α β:Type} {R:α -> β -> Prop}:∀ {xs:List α} {ys:List β} {us:List α} {vs:List β},F2 R xs ys -> F2 R us vs -> F2 R (xs ++ us) (ys ++ vs)
 | _,_,_,_,.nil,h=>h
 | _,_,_,_,.cons h r,q=> .cons h (zC3 r q)
theorem zEH {α β:Type} {R:α -> β -> Prop} {xs xs':List α} (p:xs'.Perm xs):∀ {ys:List β},F2 R xs ys -> ∃ ys',ys'.Perm ys /\ F2 R xs' ys':=by
 have p':=p.symm;clear p;induction p' with
 | nil=>intro ys h; exact ⟨ys,.refl _,h⟩
 | cons x _ ih=>
  intro ys h;cases h with
  | cons h r=>
   obtain ⟨ys',q1,q2⟩:=ih r;exact ⟨_,q1.cons _,.cons h q2⟩
 | swap x y l=>
  intro ys h;cases h with
  | cons h r=>
   cases r with
   | cons h2 r=>
    exact ⟨_,List.Perm.swap _ _ _,.cons h2 (.cons h r)⟩
 | trans _ _ ih1 ih2=>
  intro ys h;obtain ⟨ys',q1,q2⟩:=ih1 h;obtain ⟨ys'',r1,r2⟩:=ih2 q2;exact ⟨ys'',r1.trans q1,r2⟩
theorem SetK.size (h:SetK knd o es ep t ks):es.size = ks.length:=by
 obtain ⟨ks',p,f⟩:=h.ent;rw [<- p.length_eq,<- zC1 f,zUn]
theorem SetK.elems (h:SetK knd o es ep t ks):ElemsOf knd es.toList:=fun e he=>by
 obtain ⟨ks',p,f⟩:=h.ent;obtain ⟨k,_,q⟩:=zCy f e he;exact ⟨⟨k,q.1⟩,q.2⟩
theorem SetK.mem (h:SetK knd o es ep t ks) (k:K):k ∈ ks ↔ ∃ e ∈ es.toList,knd.is k e.2 = true:=by
 obtain ⟨ks',p,f⟩:=h.ent;rw [<- p.mem_iff];constructor
 ·intro hk;obtain ⟨e,he,q⟩:=zDx f k hk;exact ⟨e,he,q.1.1⟩
 ·rintro ⟨e,he,q⟩;obtain ⟨k',hk',q'⟩:=zCy f e he;rw [knd.inj e.2 k k' q q'.1.1]; exact hk'
variable {A:Around} {E:Value -> Shared -> Prop} {s:Shared} {a:Addr} {k:K} {x:Value}
theorem SetK.typeIs (h:SetK knd o es ep t ks) (ho:s.heap.get? a = some o):s.TypeIs (.ref a) "set" := ⟨o,ho,h.ex.1⟩
theorem zG8 {h:Heap} {es':Array (Int × Value)} {t':SetTable} (ho:h.get? a = some o) (hd:o.data = .set es ep t) :
  (h.update a (Obj.putSet es' t')).get? a = some { o with data:=.set es' (ep + 1) t' }:=by
 have:=zUr (Obj.putSet es' t') ho (by rw [putSet_of es' t' hd]; rfl);rw [putSet_of es' t' hd] at this; exact this
theorem zE1 {Q:Bool -> Shared -> Prop} (hkey:knd.is k x = true) (hsc:x.scannable = true) (ho:s.heap.get? a = some o) (hS:SetK knd o es ep t ks) (hroom:ks.length + 1 < scanBound)
  (h:∀ h' o' es' ep' t' b,Heap.SameBut a s.heap h' -> h'.get? a = some o' -> SetK knd o' es' ep' t' (ins ks k) -> Q b { s with heap:=h' }) :
  wpAny (model prog w) A (setAddHashed a x (knd.hash k)) Q E s:=by
 have hd:=hS.data;have hf:=hS.fits;have hel:=hS.elems;have hb:=hS.bound;have hb1:es.size + 1 < scanBound:=by rw [hS.size]; exact hroom
 unfold setAddHashed setAddHashedIn;refine zUx (zTz (wpAny_setState_of ho hd hf ?_));dsimp only;rw [byScan_of hsc hb hel];simp only [↓reduceIte];unfold setAddByScan;refine zTz ?_;refine zTz (zVR ?_);refine zTz (wpAny_setScan_of hkey ho hd hf hel ?_);cases hr:List.findIdx? (fun e=>knd.is k e.2) es.toList with
 | some j=>
  dsimp only;obtain ⟨hj,hpj,_⟩:=List.findIdx?_eq_some_iff_getElem.mp hr;have hSk:k ∈ ks:=(hS.mem k).mpr ⟨es.toList[j],zUc hj,hpj⟩;refine zT6 (zT6 ?_);have e:s = { s with heap:=s.heap }:=by cases s; rfl
  rw [e];refine h s.heap o es ep t _ (Heap.SameBut.refl a s.heap) ho ?_;unfold ins;rw [zUJ hSk]; exact hS
 | none=>
  dsimp only;have hSk:k ∉ ks:=fun hk=>by
   obtain ⟨e,he,hp⟩:=(hS.mem k).mp hk; have:=List.findIdx?_eq_none_iff.mp hr e he; rw [hp] at this; exact Bool.noConfusion this
  have hgw:∀ (b:Bool) {s₁:Shared} {Q':Unit -> Shared -> Prop},Q' () s₁ -> wpAny (model prog w) A (match b with | true=>rule "set.scan.the-table-gave-way" | false=>pure ()) Q' E s₁ :=
   fun b s₁ Q' hq=>by cases b <;> first | exact zT6 hq | exact zVR hq
  have hperm:=layNew_perm t es (knd.hash k) x;have hfits:=layNew_fits t es (knd.hash k) x;have htab:=hS.tab.layNew es (knd.hash k) x;generalize hL:layNew t es (knd.hash k) x = L at hperm hfits htab ⊢;obtain ⟨es1,t1,wasDummy,gave⟩:=L;dsimp only at hperm hfits htab ⊢;rw [Array.toList_push] at hperm;have hb1':es1.size < scanBound:=by rw [<- zUn,hperm.length_eq,zUK,zUn]; simpa using hb1
  obtain ⟨ks',p,f⟩:=hS.ent;have f1:F2 (zR8 knd) (es.toList ++ [(knd.hash k,x)]) (ks' ++ [k]):=zC3 f (.cons ⟨⟨hkey,rfl⟩,hsc⟩ .nil);obtain ⟨ks1,p1,f2⟩:=zEH hperm f1;have pI:ks1.Perm (ins ks k):=by
   unfold ins;rw [zUM hSk];exact p1.trans (p.append_right _)
  refine zTz (hgw _ ?_)
  have tail:∀ t2:SetTable,zAG w t2 -> t2.fits es1.size = true -> wpAny (model prog w) A (do
    storeSet a es1 t2
    if (!wasDummy && t2.tooFull) = true then do
      (match (relayAll t2 es1 (SetTable.grown es1.size)).2.2 with | true=>rule "set.scan.the-table-gave-way" | false=>pure ())
      storeSet a (relayAll t2 es1 (SetTable.grown es1.size)).1 (relayAll t2 es1 (SetTable.grown es1.size)).2.1;pure (some true)
     else pure (some true)) (fun r s'=>wpAny (model prog w) A (match r with | some added=>pure added | none=>setAddHashedIn a x (knd.hash k) 99999) Q E s') E s:=by
   intro t2 T2 F2;refine zTz (wpAny_storeSet_of ho hd ?_ (fits_of_scanBound hb1'));have g1:=zG8 (es':=es1) (t':=t2) ho hd;have sb1:=zU7 s.heap a (Obj.putSet es1 t2);have S1:SetK knd { o with data:=.set es1 (ep + 1) t2 } es1 (ep + 1) t2 (ins ks k):=⟨hS.ex,rfl,T2,F2,hb1',ks1,pI,f2⟩;split
   ·have hp:=relayAll_perm t2 es1 (SetTable.grown es1.size);have hfr:=relayAll_fits t2 es1 (SetTable.grown es1.size);have htr:=T2.relayAll es1 (SetTable.grown es1.size);generalize hRl:relayAll t2 es1 (SetTable.grown es1.size) = Rl at hp hfr htr ⊢;obtain ⟨es2,t3,gave2⟩:=Rl;dsimp only at hp hfr htr ⊢;have hsz:es2.size = es1.size:=by rw [<- zUn,hp.length_eq,zUn]
    have hb2:es2.size < scanBound:=by rw [hsz]; exact hb1'
    obtain ⟨ks2,p2,f3⟩:=zEH hp f2;refine zTz (hgw _ ?_);refine zTz (wpAny_storeSet_of g1 rfl ?_ (fits_of_scanBound hb2));have g2:=zG8 (es':=es2) (t':=t3) g1 rfl;exact zT6 (zT6 (h _ _ _ _ _ _ (sb1.trans (zU7 _ a _)) g2 ⟨hS.ex,rfl,htr,hfr,hb2,ks2,p2.trans pI,f3⟩))
   ·exact zT6 (zT6 (h _ _ _ _ _ _ sb1 g1 S1))
  split
  ·refine zTz ?_;rw [hashByValue_scannable 8 hsc];refine zT6 ?_;refine tail _ ?_ ?_
   ·split
    ·exact htab
    ·exact htab.plain _
   ·split
    ·exact hfits
    ·exact SetTable.fits_plain_off hfits
  ·refine zTz (zT6 ?_);simp only [↓reduceIte];exact tail _ htab hfits
theorem zNC {Q:Value -> Shared -> Prop} (hkey:knd.is k x = true) (hsc:x.scannable = true) (ho:s.heap.get? a = some o) (hS:SetK knd o es ep t ks) (hroom:ks.length + 1 < scanBound)
  (h:∀ h' o' es' ep' t',Heap.SameBut a s.heap h' -> h'.get? a = some o' -> SetK knd o' es' ep' t' (ins ks k) -> Q .none { s with heap:=h',toks:=s.toks + 1 }) :
  wpAny (model prog w) A (call (.builtin "set.add") [.ref a,x]) Q E s:=by
 refine zUh F.slot_set_add (hS.typeIs ho) F.entry_set_add ?_ (F.args_set_add_2 _ _);unfold Builtin.«set.add» Builtin.Frozenset.oneOther;simp only [List.isEmpty_nil,bind_assoc];unfold Builtin.Frozenset.addrOf setAdd;refine zTz (zT6 ?_);try dsimp only
 refine zTz (zT6 ?_);try dsimp only
 refine zTz ?_;refine zUx ?_;refine zTz (knd.pyHash hkey ?_);refine zE1 (s:={ s with toks:=s.toks + 1 }) hkey hsc ho hS hroom fun h' o' es' ep' t' b hsb ho' hS'=>?_;show wpAny _ _ (ret Value.none) _ _ _;exact zT6 ⟨_,rfl,h h' o' es' ep' t' hsb ho' hS'⟩
def zBW (w:World):Obj:={ cls:=.type "set", dict:=none,data:=.set #[] 0 (.fresh 0 0 (!w.params.followText "set-order")) }
theorem SetK.fresh:SetK knd (zBW w) #[] 0 (.fresh 0 0 (!w.params.followText "set-order")) []:=⟨⟨rfl,rfl,rfl⟩,rfl,.fresh,by rfl,by decide,[],.refl _,.nil⟩
theorem zLY {Q:Value -> Shared -> Prop} (h:Q (.ref s.heap.objs.size) { s with heap:=s.heap.push (zBW w) }) :
  wpAny (model prog w) A (newSet (.type "set")) Q E s:=by
 unfold newSet setsByText;refine zTz (zTz (wpAny_askSetting (zT6 ?_)));dsimp only;simp only [newObj];exact zTz (wpAny_alloc (zT6 h))
end
open PySem.Spec PyProof.Rows
open Sem (wp)
theorem zI1:Manifest.owners.lookup (String.ofList ['r','o','t','a','r','e','t','i','_','t','e','s'].reverse) = some Manifest.sig_set_iterator:=by kernel_rfl
theorem zo:Slot "set_iterator" "__next__" "set_iterator.__next__" := .of (owner := "set_iterator") (n := "__next__") (by rw [typeLookup_type,builtinLookup_eq_fast]; kernel_rfl) (by decide +kernel) (by decide +kernel) (by decide +kernel) (by first | exact .inl (by decide +kernel) | exact .inr (by decide +kernel)) (by rw [isSubtype_type]; kernel_rfl)
theorem zD7:Slot "set_iterator" "__iter__" "set_iterator.__iter__" := .of (owner := "set_iterator") (n := "__iter__") (by rw [typeLookup_type,builtinLookup_eq_fast]; kernel_rfl) (by decide +kernel) (by decide +kernel) (by decide +kernel) (by first | exact .inl (by decide +kernel) | exact .inr (by decide +kernel)) (by rw [isSubtype_type]; kernel_rfl)
theorem zBi (a:Value):argsOk "set_iterator.__next__" ⟨[a],[]⟩:=by
 unfold argsOk; rw [signature?_of (id := "set_iterator.__next__") (n:=['_','_','t','x','e','n','_','_']) (o:=['r','o','t','a','r','e','t','i','_','t','e','s']) (by kernel_rfl) zI1]; kernel_rfl
theorem zHy (a:Value):argsOk "set_iterator.__iter__" ⟨[a],[]⟩:=by
 unfold argsOk; rw [signature?_of (id := "set_iterator.__iter__") (n:=['_','_','r','e','t','i','_','_']) (o:=['r','o','t','a','r','e','t','i','_','t','e','s']) (by kernel_rfl) zI1]; kernel_rfl
theorem zBT:entryFor table "set_iterator.__next__" = some Builtin.«set_iterator.__next__»:=entryFor_of_tree (by kernel_rfl)
theorem zGR:entryFor table "set_iterator.__iter__" = some Builtin.«dict_keyiterator.__iter__» :=
 entryFor_alias (id' := "dict_keyiterator.__iter__") (by kernel_rfl) (by first | rfl | decide +kernel | (unfold String.splitOn; simp +decide [String.splitOnAux])) (by decide +kernel) (by kernel_rfl)
theorem zF9:entryFor table "set.__iter__" = some Builtin.«frozenset.__iter__» :=
 entryFor_alias (id' := "frozenset.__iter__") (by kernel_rfl) rfl (by decide +kernel) (by kernel_rfl)
def zAp (f:Value) (i:Nat) (a:Addr) (n ep:Nat):Obj:={ cls:=.type "set_iterator", data:=.fields #[f,rawInt i,.ref a,rawInt n,rawInt ep] }
theorem zDi {α:Type}:∀ {l:List α} {i:Nat} (h:i < l.length),(l[i] :: l.eraseIdx i).Perm l
 | [],i,h=>by simp at h
 | x :: l,0,h=>by simp
 | x :: l,i + 1,h=>by
  have:=zDi (l:=l) (i:=i) (by simpa using h);rw [List.getElem_cons_succ,List.eraseIdx_cons_succ];exact (List.Perm.swap _ _ _).trans (this.cons x)
theorem zGq {α:Type} {l:List α} {i n:Nat} (h:i < l.length) (e:n + 1 = l.length):n = (l.eraseIdx i).length:=by
 rw [List.length_eraseIdx,zUJ h]; omega
theorem zHB {α:Type} (next:Nat -> Nat):∀ (fuel k:Nat) (left:List α) (out:Array α),fuel = left.length -> (pickOrder.go next fuel k left out).toList.Perm (out.toList ++ left)
 | 0,k,left,out,h=>by
  have:left = []:=zV6.mp h.symm;subst this;unfold pickOrder.go;simp
 | fuel + 1,k,left,out,h=>by
  unfold pickOrder.go;have hl:0 < left.length:=by omega
  have hm:next k % left.length < left.length:=Nat.mod_lt _ hl
  rw [zT8 hm];dsimp only;refine (zHB next fuel (k + 1) _ _ (zGq hm h)).trans ?_;rw [Array.toList_push,zVA];exact (zDi hm).append_left _
theorem zCt {α:Type} (next:Nat -> Nat) (xs:Array α):(pickOrder next xs).toList.Perm xs.toList:=by
 unfold pickOrder;simpa using zHB next xs.size 0 xs.toList #[] (by simp)
section
variable {prog:Program} {w:World} {A:Around} {E:Value -> Shared -> Prop} {s:Shared}
theorem zHT {src:Source} {n:Nat} {Q:Nat -> Shared -> Prop} (h0:n ≠ 0) (h:∀ r d,r < n -> Q r { s with drawn:=d }):wpAny (model prog w) A (choose src n) Q E s :=
 fun Γ p hΓ=>⟨h0,h _ _ (Nat.mod_lt _ (by omega))⟩
theorem zCe {α:Type}:∀ (n:Nat) (xs:List α) {s:Shared} {Q:List α -> Shared -> Prop},n = xs.length -> (∀ ys d,ys.Perm xs -> Q ys { s with drawn:=d }) -> wpAny (model prog w) A (drawOrder n xs) Q E s
 | 0,xs,s,Q,h,q=>by
  have:xs = []:=zV6.mp h.symm;subst this;have e:s = { s with drawn:=s.drawn }:=by cases s; rfl
  rw [e];exact zT6 (q [] s.drawn (.refl _))
 | n + 1,[],s,Q,h,q=>by cases h
 | n + 1,x :: xs,s,Q,h,q=>by
  unfold drawOrder;refine zTz (zHT (by simp) fun r d hr=>?_);rw [zT8 hr];dsimp only;refine zTz (zCe n _ (zGq hr h) fun ys d' hp=>zT6 ?_);exact q _ d' ((hp.cons _).trans (zDi hr))
variable {K:Type} [DecidableEq K] {knd:KeyKind prog w K} {o:Obj} {es:Array (Int × Value)} {ep:Nat} {t:SetTable} {ks:List K} {a I:Addr}
theorem zFi {f:Value} {i n:Nat} (h:s.heap.get? I = some (zAp f i a n ep)):s.TypeIs (.ref I) "set_iterator" := ⟨_,h,rfl⟩
theorem zLE {f:Value} {i n:Nat} {Q:Value -> Shared -> Prop} (hI:s.heap.get? I = some (zAp f i a n ep)) (h:Q (.ref I) s):wpAny (model prog w) A (pyIter (.ref I)) Q E s:=by
 refine wpAny_pyIter_slot (zFi hI) zD7 (zUh zD7 (zFi hI) zGR ?_ (zHy _));show wpAny _ _ (ret (.ref I)) _ _ s;exact zT6 ⟨_,rfl, "set_iterator", _,zFi hI,zo.lookup,h⟩
structure Nexts (prog:Program) (w:World) (o:Obj) (a:Addr) (ep:Nat) (n:Nat) (at_:Nat -> Nat) (ord:List Value):Prop where
 len:ord.length = n
 nx:∀ (A:Around) (E:Value -> Shared -> Prop) (i:Nat) (s:Shared) (Q:Option (Value × Nat) -> Shared -> Prop),i <= n -> s.heap.get? a = some o -> Q ((ord[i]?).map fun x=>(x,at_ (i + 1))) s -> wpAny (model prog w) A (setNext a (at_ i) i ep) Q E s
theorem zLv {at_:Nat -> Nat} {ord:List Value} {i:Nat} {x:Value} {Q:Option Value -> Shared -> Prop} (N:Nexts prog w o a ep ks.length at_ ord) (hS:SetK knd o es ep t ks) (hI:s.heap.get? I = some (zAp (rawInt (at_ i)) i a ks.length ep)) (ho:s.heap.get? a = some o)
  (hx:ord[i]? = some x) (hQ:∀ h',h'.get? I = some (zAp (rawInt (at_ (i + 1))) (i + 1) a ks.length ep) -> Heap.SameBut I s.heap h' -> Q (some x) { s with heap:=h' }):wpAny (model prog w) A (pyNext (.ref I)) Q E s:=by
 have hT:=zFi hI;have hi:i < ks.length:=by have:=(zT7.mp hx).1; rw [N.len] at this; exact this
 unfold pyNext;refine zTz (zVf (zUg (name:=Str.ofString "__next__") hT zo (zUh zo hT zBT ?_ (zBi _))));unfold Builtin.«set_iterator.__next__» slotArgs;simp only [List.isEmpty_nil,Bool.not_true,zU5,↓reduceIte,zVY,bne_self_eq_false,pure_bind,bind_assoc];refine zTz (wpAny_fieldsOf hI rfl ?_);dsimp only [rawInt];refine zTz (wpAny_setEntries_of ho hS.data hS.fits ?_);rw [zUM (by rw [hS.size]; simp)];refine zTz (N.nx _ _ i s _ (by omega) ho ?_);rw [hx];dsimp only [Option.map];refine zTz (zVp hI rfl (by simp) ?_);have e1:=zUr (Obj.mapFields fun vs=>vs.set! 0 (rawInt (at_ (i + 1)))) hI (Obj.isFreed_of_fields (zVL rfl _));refine zTz (zVp e1 (zVL rfl _) (by simp) ?_);have e2:=zUr (Obj.mapFields fun vs=>vs.set! 1 (rawInt ((i:Int) + 1))) e1 (Obj.isFreed_of_fields (zVL (zVL rfl _) _));refine zT6 ⟨x,rfl,zT6 (hQ _ ?_ ((zU7 ..).trans (zU7 ..)))⟩;refine e2.trans ?_;simp [Obj.mapFields,zAp,rawInt]
end
open Sem (wp)
section
variable {prog:Program} {w:World} {A:Around} {E:Value -> Shared -> Prop} {s:Shared}
variable {K:Type} [DecidableEq K] {knd:KeyKind prog w K} {o:Obj} {es:Array (Int × Value)} {ep:Nat} {t:SetTable} {ks:List K} {a I:Addr}
theorem zFT {at_:Nat -> Nat} {ord:List Value} {Q:Option Value -> Shared -> Prop} (hh:A.handled = none) (N:Nexts prog w o a ep ks.length at_ ord) (hS:SetK knd o es ep t ks) (hI:s.heap.get? I = some (zAp (rawInt (at_ ks.length)) ks.length a ks.length ep)) (ho:s.heap.get? a = some o)
  (hQ:∀ h',Heap.ExtBut I s.heap h' -> Q none { s with heap:=h' }):wpAny (model prog w) A (pyNext (.ref I)) Q E s:=by
 have hT:=zFi hI;unfold pyNext;refine zTz (zVf (zUg (name:=Str.ofString "__next__") hT zo (zUh zo hT zBT ?_ (zBi _))));unfold Builtin.«set_iterator.__next__» slotArgs;simp only [List.isEmpty_nil,Bool.not_true,zU5,↓reduceIte,zVY,bne_self_eq_false,pure_bind,bind_assoc];refine zTz (wpAny_fieldsOf hI rfl ?_);dsimp only [rawInt];refine zTz (wpAny_setEntries_of ho hS.data hS.fits ?_);rw [zUM (by rw [hS.size]; simp)];refine zTz (N.nx _ _ ks.length s _ (zUA _) ho ?_);rw [zVD (by rw [N.len]; exact zUA _)];dsimp only [Option.map];refine zTz (zVp hI rfl (by simp) ?_);simp only [newExc,newTuple,bind_assoc,pure_bind];refine zTz (zUX (zTz (m:=firstArgMember _ _) (wpAny_of_eq (a:=Value.none) (by first | rfl | (simp only [firstArgMember]; rfl)) (zTz (zUX ?_ (by size_fits))))) (by size_fits));simp only [raiseNew];refine zTz (wpAny_handled ?_);rw [show A.in1.handled = none from hh];refine zTz (zT6 (wpAny_throw ?_));refine zTz (wpAny_isInstance (T := "StopIteration") (b:=true) ⟨_,zUE _ rfl,rfl⟩ isSubtype_stop (zT6 ?_));exact hQ _ (((zU7 ..).extBut.push _).push _)
theorem zIK {at_:Nat -> Nat} {ord:List Value} (hh:A.handled = none) (hne:a ≠ I) (N:Nexts prog w o a ep ks.length at_ ord) (hS:SetK knd o es ep t ks) :
  Walks prog w A I [I,a] [I] ks.length (fun i v=>ord[i]? = some v) (fun i h=>h.get? I = some (zAp (rawInt (at_ i)) i a ks.length ep) /\ h.get? a = some o) where
 sub:=fun b hb=>by simp at hb; simp [hb]
 frame:=fun _ _ _ st hk=>⟨hk I (by simp) _ st.1,hk a (by simp) _ st.2⟩;item:=fun i s Q E hi st hQ=>by
  have hx:ord[i]? = some (ord[i]'(by rw [N.len]; exact hi)):=zT8 _;refine zLv N hS st.1 st.2 hx fun h' hI' hs'=>?_;exact hQ _ h' s.toks hx ⟨hI',hs'.extBut a o hne st.2⟩ fun b u hb ee=>hs'.extBut b u (fun h=>hb (by simp [h])) ee
 done:=fun s Q E st hQ=>zFT hh N hS st.1 st.2 fun h' he'=>hQ h' s.toks fun b u hb ee=>he' b u (fun h=>hb (by simp [h])) ee;self:=fun _ _ _ _ st hQ=>zLE st.1 hQ
theorem zKR {T:Addr} {pl:List Nat} {i:Nat} {x:Value} {Q:Option Value -> Shared -> Prop} (hS:SetK knd o es ep t ks) (hl:pl.length = ks.length) (hI:s.heap.get? I = some (zAp (.ref T) i a ks.length ep)) (ho:s.heap.get? a = some o)
  (hT:IsTup s.heap T (pl.map fun (k:Nat)=>rawInt k).toArray)
  (hx:(pl[i]?).bind (fun k=>(es[k]?).map (·.2)) = some x) (hQ:∀ h',h'.get? I = some (zAp (.ref T) (i + 1) a ks.length ep) -> Heap.SameBut I s.heap h' -> Q (some x) { s with heap:=h' }):wpAny (model prog w) A (pyNext (.ref I)) Q E s:=by
 have hTy:=zFi hI;obtain ⟨oT,hoT,hcT,nT,hdT⟩:=id hT;cases hp:pl[i]? with
 | none=>rw [hp] at hx; cases hx
 | some k=>
  rw [hp] at hx;cases he:es[k]? with
  | none=>simp only [Option.bind_some] at hx; rw [he] at hx; cases hx
  | some e=>
   simp only [Option.bind_some] at hx;rw [he] at hx;cases hx;unfold pyNext;refine zTz (zVf (zUg (name:=Str.ofString "__next__") hTy zo (zUh zo hTy zBT ?_ (zBi _))));unfold Builtin.«set_iterator.__next__» slotArgs;simp only [List.isEmpty_nil,Bool.not_true,zU5,↓reduceIte,zVY,bne_self_eq_false,pure_bind,bind_assoc];refine zTz (wpAny_fieldsOf hI rfl ?_);dsimp only [rawInt];refine zTz (wpAny_setEntries_of ho hS.data hS.fits ?_);rw [zUM (by rw [hS.size]; simp)];refine zTz (zUu hoT hdT ?_);dsimp only;have e5:(List.map (fun (k:Nat)=>rawInt k) pl).toArray[(i:Int).toNat]? = some (rawInt k):=by simp [hp]
   rw [e5];dsimp only [rawInt];unfold setNextDrawn;simp only [bind_assoc];refine zTz (wpAny_setState_of ho hS.data hS.fits ?_);dsimp only;rw [zUM (by simp)];have e6:es[(k:Int).toNat]? = some e:=by simpa using he
   rw [e6];obtain ⟨e1,e2⟩:=e;dsimp only;simp only [pure_bind];refine zTz (zVp hI rfl (by simp) ?_);refine zT6 ⟨e2,rfl,zT6 (hQ _ ?_ (zU7 ..))⟩;refine (zUr _ hI (Obj.isFreed_of_fields (zVL rfl _))).trans ?_;simp [Obj.mapFields,zAp,rawInt]
theorem zMP {T:Addr} {pl:List Nat} {Q:Option Value -> Shared -> Prop} (hh:A.handled = none) (hS:SetK knd o es ep t ks) (hl:pl.length = ks.length) (hI:s.heap.get? I = some (zAp (.ref T) ks.length a ks.length ep)) (ho:s.heap.get? a = some o)
  (hT:IsTup s.heap T (pl.map fun (k:Nat)=>rawInt k).toArray) (hQ:∀ h',Heap.ExtBut I s.heap h' -> Q none { s with heap:=h' }):wpAny (model prog w) A (pyNext (.ref I)) Q E s:=by
 have hTy:=zFi hI;obtain ⟨oT,hoT,hcT,nT,hdT⟩:=id hT;unfold pyNext;refine zTz (zVf (zUg (name:=Str.ofString "__next__") hTy zo (zUh zo hTy zBT ?_ (zBi _))));unfold Builtin.«set_iterator.__next__» slotArgs;simp only [List.isEmpty_nil,Bool.not_true,zU5,↓reduceIte,zVY,bne_self_eq_false,pure_bind,bind_assoc];refine zTz (wpAny_fieldsOf hI rfl ?_);dsimp only [rawInt];refine zTz (wpAny_setEntries_of ho hS.data hS.fits ?_);rw [zUM (by rw [hS.size]; simp)];refine zTz (zUu hoT hdT ?_);dsimp only;have e5:(List.map (fun (k:Nat)=>rawInt k) pl).toArray[(ks.length:Int).toNat]? = none:=by simp [hl]
 rw [e5];dsimp only [rawInt];refine zTz (zVp hI rfl (by simp) ?_);have e1:=zUr (Obj.mapFields fun vs=>vs.set! 0 (rawInt 0)) hI (Obj.isFreed_of_fields (zVL rfl _));refine zTz (zVp e1 (zVL rfl _) (by simp) ?_);simp only [newExc,newTuple,bind_assoc,pure_bind];refine zTz (zUX (zTz (m:=firstArgMember _ _) (wpAny_of_eq (a:=Value.none) (by first | rfl | (simp only [firstArgMember]; rfl)) (zTz (zUX ?_ (by size_fits))))) (by size_fits));simp only [raiseNew];refine zTz (wpAny_handled ?_);rw [show A.in1.handled = none from hh];refine zTz (zT6 (wpAny_throw ?_));refine zTz (wpAny_isInstance (T := "StopIteration") (b:=true) ⟨_,zUE _ rfl,rfl⟩ isSubtype_stop (zT6 ?_));exact hQ _ ((((zU7 ..).trans (zU7 ..)).extBut.push _).push _)
theorem zJB {T:Addr} {pl:List Nat} (hh:A.handled = none) (hne:a ≠ I) (hneT:T ≠ I) (hS:SetK knd o es ep t ks) (hl:pl.length = ks.length) (hb:∀ k ∈ pl,k < es.size) :
  Walks prog w A I [I,a,T] [I] ks.length (fun i v=>(pl[i]?).bind (fun k=>(es[k]?).map (·.2)) = some v) (fun i h=>h.get? I = some (zAp (.ref T) i a ks.length ep) /\ h.get? a = some o /\ IsTup h T (pl.map fun (k:Nat)=>rawInt k).toArray) where
 sub:=fun b hb=>by simp at hb; simp [hb]
 frame:=fun _ _ _ st hk=>⟨hk I (by simp) _ st.1,hk a (by simp) _ st.2.1,let ⟨oT,ho,r⟩:=st.2.2; ⟨oT,hk T (by simp) oT ho,r⟩⟩;item:=fun i s Q E hi st hQ=>by
  have hi':i < pl.length:=by rw [hl]; exact hi
  have hk:pl[i] < es.size:=hb _ (zUc hi');have hx:(pl[i]?).bind (fun k=>(es[k]?).map (·.2)) = some (es[pl[i]].2):=by
   rw [zT8 hi']; simp [hk]
  refine zKR hS hl st.1 st.2.1 st.2.2 hx fun h' hI' hs'=>?_;exact hQ _ h' s.toks hx ⟨hI',hs'.extBut a o hne st.2.1,st.2.2.extBut hs'.extBut hneT⟩ fun b u hb ee=>hs'.extBut b u (fun h=>hb (by simp [h])) ee
 done:=fun s Q E st hQ=>zMP hh hS hl st.1 st.2.1 st.2.2 fun h' he'=>hQ h' s.toks fun b u hb ee=>he' b u (fun h=>hb (by simp [h])) ee;self:=fun _ _ _ _ st hQ=>zLE st.1 hQ
end
open Sem (wp)
theorem zL5 {prog:Program} {w:World} {A:Around} {I:Addr} {fp wr:List Addr} {n:Nat} {P P':Nat -> Value -> Prop} {St:Nat -> Heap -> Prop} (W:Walks prog w A I fp wr n P St) (h:∀ i v,P i v -> P' i v):Walks prog w A I fp wr n P' St where
 sub:=W.sub;frame:=W.frame;item:=fun i s Q E hi st hQ=>W.item i s Q E hi st fun v h' tk hP=>hQ v h' tk (h i v hP);done:=W.done;self:=W.self
section
variable {prog:Program} {w:World} {A:Around} {E:Value -> Shared -> Prop} {s:Shared}
variable {K:Type} [DecidableEq K] {knd:KeyKind prog w K} {o:Obj} {es:Array (Int × Value)} {ep:Nat} {t:SetTable} {ks:List K} {a I:Addr}
theorem zBx {Q:Bool -> Shared -> Prop} (h:Q (w.params.followText "set-order") s):wpAny (model prog w) A setsByText Q E s:=by
 unfold setsByText;exact zTz (wpAny_askSetting (zT6 h))
theorem zKF (hS:SetK knd o es ep t ks) (hT:w.params.followText "set-order" = true):Nexts prog w o a ep ks.length (fun _=>0) ((pickOrder (w.params.setOrder a ep) es).toList.map (·.2)) where
 len:=by rw [zUD,(zCt _ es).length_eq,zUn,hS.size]
 nx:=fun A E i s Q hi ho hQ=>by
  unfold setNext;refine zTz (wpAny_setState_of ho hS.data hS.fits ?_);dsimp only;refine zTz (zBx ?_);rw [hT,zUJ rfl,zUM (by simp)];refine zTz ?_;unfold setWalk;refine zTz (wpAny_setState_of ho hS.data hS.fits ?_);dsimp only;refine zTz (zBx ?_);rw [hT,zUJ rfl];refine zTz (wpAny_askSetting (zT6 ?_));refine zT6 ?_;have e:(Option.map (fun (e:Int × Value)=>(e.2,0)) (pickOrder (w.params.setOrder a ep) es)[i]?) = Option.map (fun x=>(x,0)) ((pickOrder (w.params.setOrder a ep) es).toList.map (·.2))[i]?:=by
   rw [zUR,zVj];cases (pickOrder (w.params.setOrder a ep) es)[i]? <;> rfl
  show Q (Option.map (fun (e:Int × Value)=>(e.2,0)) (pickOrder (w.params.setOrder a ep) es)[i]?) s;rw [e]; exact hQ
def zJi (t:SetTable):Nat -> Nat
 | 0=>0
 | i + 1=>t.place.getD i 0 + 1
theorem zNw {t:SetTable} (h:Up t.place) {i:Nat} (hi:i <= t.place.size):SetTable.below t.place (zJi t i) = i:=by
 cases i with
 | zero=>exact zKT h
 | succ i=>
  show SetTable.below t.place (t.place.getD i 0 + 1) = i + 1;have hl:i < t.place.size:=by omega
  have e:t.place.getD i 0 = t.place[i]:=by simp [Array.getD,hl]
  rw [e]; exact zKa h hl
theorem zLx (hS:SetK knd o es ep t ks):t.place.size = es.size:=by
 have:=hS.fits;simp only [SetTable.fits,zUe,beq_iff_eq] at this;exact this.1
theorem zJD (hS:SetK knd o es ep t ks) (hT:w.params.followText "set-order" = false) (hd:(!t.plain && decide (es.size > 1)) = false):Nexts prog w o a ep ks.length (zJi t) (es.toList.map (·.2)) where
 len:=by rw [zUD,zUn,hS.size]
 nx:=fun A E i s Q hi ho hQ=>by
  have hz:=zLx hS;unfold setNext;refine zTz (wpAny_setState_of ho hS.data hS.fits ?_);dsimp only;refine zTz (zBx ?_);rw [hT,zUM (by decide)];show wpAny _ _ (if (!t.plain && decide (es.size > 1)) = true then _ else _) _ _ _;rw [zUM (by rw [hd]; decide)];have hl:t.led = true:=by rw [hS.tab.led,hT]; rfl
  refine zTz ?_;show wpAny _ _ (if (!t.led && !es.isEmpty) = true then unsupported "set:maker-not-led" else pure ()) _ _ _;rw [zUM (by rw [hl]; simp)];refine zT6 ?_;rw [zNw hS.tab.up (by rw [hz,hS.size]; exact hi)];refine zT6 ?_;rw [zUR,zVj] at hQ;by_cases q:i < es.size
  ·have q2:i < t.place.size:=by rw [hz]; exact q
   rw [zUp q,zUp q2];rw [zUp q] at hQ;have e:zJi t (i + 1) = t.place[i] + 1:=by
    show t.place.getD i 0 + 1 = _;simp [Array.getD,q2]
   simp only [Option.map] at hQ;rw [e] at hQ;exact hQ
  ·have:i = es.size:=by rw [hS.size] at q ⊢; omega
   rw [Array.getElem?_eq_none (by omega)] at hQ ⊢;exact hQ
theorem zOM {Q:Value -> Shared -> Prop} (ho:s.heap.get? a = some o) (hS:SetK knd o es ep t ks)
  (h:∀ (h':Heap) (d:Drawn) (I:Addr) (fp:List Addr) (ord:List Value) (St:Nat -> Heap -> Prop),(∀ b u,s.heap.get? b = some u -> h'.get? b = some u) -> s.heap.objs.size <= I -> (∀ b ∈ fp,b < h'.objs.size /\ (b = a \/ s.heap.objs.size <= b)) ->
   (∀ A:Around,A.handled = none -> Walks prog w A I fp [I] ks.length (fun i v=>ord[i]? = some v) St) -> St 0 h' -> ord.Perm (es.toList.map (·.2)) -> Q (.ref I) { s with heap:=h',drawn:=d }) :
  wpAny (model prog w) A (pyIter (.ref a)) Q E s:=by
 have hT:=hS.typeIs ho;have hal:a < s.heap.objs.size:=zUF ho;refine wpAny_pyIter_slot hT F.slot_set_iter (zUh F.slot_set_iter hT zF9 ?_ (F.args_set_iter_1 _));unfold Builtin.«frozenset.__iter__» Builtin.Frozenset.slot0 slotArgs Builtin.Frozenset.addrOf Builtin.Frozenset.sizeOf;simp only [List.isEmpty_nil,Bool.not_true,zU5,↓reduceIte,zVY,bne_self_eq_false,pure_bind,bind_assoc];refine zTz (wpAny_setEntries_of ho hS.data hS.fits ?_);unfold setDrawn;simp only [bind_assoc];refine zTz (wpAny_setState_of ho hS.data hS.fits ?_);dsimp only;refine zTz (zBx ?_);simp only [pure_bind];have hsz:=hS.size;have plain:∀ (at_:Nat -> Nat) (ord:List Value),at_ 0 = 0 -> Nexts prog w o a ep ks.length at_ ord -> ord.Perm (es.toList.map (·.2)) -> Q (.ref s.heap.objs.size) { s with heap:=s.heap.push (zAp (rawInt 0) 0 a ks.length ep) }:=by
  intro at_ ord h0 N hp;have e:s.heap.push (zAp (rawInt 0) 0 a ks.length ep) = s.heap.push (zAp (rawInt 0) 0 a ks.length ep):=rfl
  have:=h (s.heap.push (zAp (rawInt 0) 0 a ks.length ep)) s.drawn s.heap.objs.size [s.heap.objs.size,a] ord (fun i h=>h.get? s.heap.objs.size = some (zAp (rawInt (at_ i)) i a ks.length ep) /\ h.get? a = some o)
   (fun b u e=>zT0 _ e) (zUA _) (fun b hb=>by
    rw [zUk];rcases zUG.mp hb with z | z
    ·rw [z]; exact ⟨zU1 _,.inr (zUA _)⟩
    ·rw [zUW.mp z]; exact ⟨zUt hal,.inl rfl⟩)
   (fun A hh=>zIK hh (zUP hal) N hS) ⟨by rw [h0]; exact zUE _ rfl,zT0 _ ho⟩ hp
  exact this
 have mk:∀ (s1:Shared) (f:Value) (hv:s1.heap.get? a = some o) {Q':Fin -> Shared -> Prop},Q' (.done (.ret (.ref s1.heap.objs.size))) { s1 with heap:=s1.heap.push (zAp f 0 a ks.length ep) } -> wpAny (model prog w) A.in1 (do
   let e <- setEpoch a;let r <- newFields "set_iterator" [f,rawInt 0,Value.ref a,rawInt es.size,rawInt e];ret r) Q' E s1:=by
  intro s1 f hv Q' hq;refine zTz (wpAny_setEpoch_of hv hS.data hS.fits ?_);unfold newFields;refine zTz (zUX (zT6 ?_));rw [hsz]; exact hq
 have ty:∀ (s1:Shared) (f:Value),(∃ T' r,Shared.TypeIs { s1 with heap:=s1.heap.push (zAp f 0 a ks.length ep) } (.ref s1.heap.objs.size) T' /\ typeLookup (Value.type T') (Str.ofString "__next__") = pure (some r) /\ True):=fun s1 f=>⟨"set_iterator", _,⟨_,zUE _ rfl,rfl⟩,zo.lookup,trivial⟩;show wpAny _ _ (if (!w.params.followText "set-order" && (!t.plain && decide (es.size > 1))) = true then _ else _) _ _ _;by_cases hc:(!w.params.followText "set-order" && (!t.plain && decide (es.size > 1))) = true
 ·rw [zUJ hc];refine zTz (zCe _ _ (by simp) fun pl d hp=>?_);refine zTz ?_;unfold newTuple;have hpl:pl.length = ks.length:=by rw [hp.length_eq,List.length_range,hsz]
  refine zUX ?_ (by
   show (List.map (fun (i:Nat)=>rawInt i) pl).toArray.size <= sizeLine;rw [zUC,zUD,hpl,<- hsz]; exact fits_of_scanBound hS.bound)
  generalize hH:s.heap.push { cls:=.type "tuple", data:=.seq (List.map (fun (i:Nat)=>rawInt i) pl).toArray } = H;have kH:∀ b u,s.heap.get? b = some u -> H.get? b = some u:=fun b u e=>by rw [<- hH]; exact zT0 _ e
  have hT1:IsTup H s.heap.objs.size (pl.map fun (k:Nat)=>rawInt k).toArray:=⟨_,by rw [<- hH]; exact zUE _ rfl,rfl,0,rfl⟩;have szH:H.objs.size = s.heap.objs.size + 1:=by rw [<- hH]; exact zUk ..
  have szlt:s.heap.objs.size < H.objs.size:=by rw [szH]; exact zU1 _
  have alt:a < H.objs.size:=Nat.lt_trans hal szlt;refine mk { s with heap:=H,drawn:=d } (.ref s.heap.objs.size) (kH _ _ ho) ?_;obtain ⟨T',r,e1,e2,_⟩:=ty { s with heap:=H,drawn:=d } (.ref s.heap.objs.size);refine ⟨_,rfl,T',r,e1,e2,?_⟩;have kH2:∀ b u,s.heap.get? b = some u -> (H.push (zAp (.ref s.heap.objs.size) 0 a ks.length ep)).get? b = some u:=fun b u e=>zT0 _ (kH b u e);refine h _ d H.objs.size [H.objs.size,a,s.heap.objs.size] (pl.map fun k=>((es[k]?).map (·.2)).getD .none) (fun i h=>h.get? H.objs.size = some (zAp (.ref s.heap.objs.size) i a ks.length ep) /\ h.get? a = some o /\ IsTup h s.heap.objs.size (pl.map fun (k:Nat)=>rawInt k).toArray) kH2 (by rw [szH]; exact Nat.le_succ _) (fun b hb=>?_) (fun A hh=>?_) ⟨zUE _ rfl,kH2 a o ho,?_⟩ ?_
  ·rw [zUk];simp only [zUG,zUZ,or_false] at hb;rcases hb with z | z | z
   ·rw [z]; exact ⟨zU1 _,.inr (zW0 szlt)⟩
   ·rw [z]; exact ⟨zUt alt,.inl rfl⟩
   ·rw [z]; exact ⟨zUt szlt,.inr (zUA _)⟩
  ·have hb:∀ k ∈ pl,k < es.size:=fun k hk=>by have:=hp.mem_iff.mp hk; simpa using this
   refine zL5 (zJB hh (a:=a) (I:=H.objs.size) (T:=s.heap.objs.size) (zUP alt) (zUP szlt) hS hpl hb) fun i v hv=>?_;rw [zUR];cases q:pl[i]? with
   | none=>rw [q] at hv; cases hv
   | some k=>
    rw [q] at hv;simp only [Option.bind_some] at hv;rw [Option.map_some,hv]; rfl
  ·exact hT1.push _
  ·have e:es.toList.map (·.2) = (List.range es.size).map fun k=>((es[k]?).map (·.2)).getD .none:=by
    apply List.ext_getElem?;intro i;rw [zUR,zUR,zVj];by_cases q:i < es.size
    ·rw [List.getElem?_range q,zUp q]; simp [q]
    ·rw [Array.getElem?_eq_none (by omega),zVD (by simp; omega)]; rfl
   rw [e];exact hp.map _
 ·rw [zUM hc];refine mk s (rawInt 0) ho ?_;obtain ⟨T',r,e1,e2,_⟩:=ty s (rawInt 0);refine ⟨_,rfl,T',r,e1,e2,?_⟩;cases hX:w.params.followText "set-order" with
  | true=>exact plain _ _ rfl (zKF hS hX) ((zCt _ es).map _)
  | false=>
   rw [hX] at hc;exact plain _ _ rfl (zJD hS hX (by simpa using hc)) (.refl _)
end
open Sem (wp)
section
variable {prog:Program} {w:World} {A:Around} {E:Value -> Shared -> Prop} {s:Shared}
variable {K:Type} [DecidableEq K] {knd:KeyKind prog w K} {o:Obj} {es:Array (Int × Value)} {ep:Nat} {t:SetTable} {ks:List K} {a I:Addr}
theorem zM0:isSubtype (.type "set") (.type "set") = pure true:=sub_set_self
theorem zMA {Q:Bool -> Shared -> Prop} (hT:s.TypeIs (.ref a) "set") (h:Q false s):wpAny (model prog w) A (Builtin.List.listLengthHint (.ref a)) Q E s:=by
 unfold Builtin.List.listLengthHint;refine zTz (wpAny_specialOf hT F.slot_set_len.lookup ?_);have hsp:splitId "set.__len__" = some ("set", "__len__"):=by decide +kernel
 dsimp only;rw [hsp];dsimp only;refine zTz (wpAny_isInstance hT zM0 ?_);rw [zUM (by decide),zUJ (by decide +kernel)];refine zTz (wpAny_typeOf hT ?_);exact zT6 h
theorem zIQ {Q:List Value -> Shared -> Prop} (hh:A.handled = none) (ho:s.heap.get? a = some o) (hS:SetK knd o es ep t ks)
  (hQ:∀ (s':Shared) (acc:List Value),(∀ b u,s.heap.get? b = some u -> s'.heap.get? b = some u) -> s'.os = s.os -> s'.gens = s.gens -> acc.Perm (es.toList.map (·.2)) -> Q acc s'):wpAny (model prog w) A (collect (.ref a)) Q E s:=by
 have hal:a < s.heap.objs.size:=zUF ho;have hn:ks.length <= sizeLine:=by rw [<- hS.size]; exact fits_of_scanBound hS.bound
 unfold collect;refine zTz (wpAny_runValue (zU9 F.entry_proto_collect ?_));rw [zUz F.plain_proto_collect _];show wpAny _ A.in1 (newList [] >>= fun l=>again (.builtin "list.__iadd__" ⟨[l,.ref a],[]⟩)) _ _ s;refine zTz (zUX (zT6 ⟨plainId_quiet F.plain_list_iadd _,zU9 F.entry_list_iadd ?_⟩));rw [zUz F.plain_list_iadd _];generalize hH:s.heap.push { cls:=.type "list", data:=.seq ([]:List Value).toArray } = H;have kH:∀ b u,s.heap.get? b = some u -> H.get? b = some u:=fun b u e=>by rw [<- hH]; exact zT0 _ e
 have szH:H.objs.size = s.heap.objs.size + 1:=by rw [<- hH]; exact zUk ..
 have hL1:H.get? s.heap.objs.size = some { cls:=.type "list", data:=.seq ([]:List Value).toArray }:=by rw [<- hH]; exact zUE _ rfl
 have ho1:=kH a o ho;show wpAny _ A.in1 (Builtin.List.listExtendWith (.ref s.heap.objs.size) (.ref a) (.ref s.heap.objs.size)) _ _ { s with heap:=H };unfold Builtin.List.listExtendWith;have hT1:Shared.TypeIs { s with heap:=H } (.ref a) "set" := ⟨o,ho1,hS.ex.1⟩;refine zTz (wpAny_typeOf hT1 ?_);have hneL:s.heap.objs.size ≠ a:=zVZ hal;have h1:Builtin.List.listSameRef (.ref s.heap.objs.size) (.ref a) = false:=by simp [Builtin.List.listSameRef,hneL]
 have h2:(Value.type "set" == Value.type "list") = false:=by decide
 have h3:(Value.type "set" == Value.type "tuple") = false:=by decide
 simp only [h1,h2,h3,Bool.or_false,zU5,if_false];refine zTz (zOM (s:={ s with heap:=H }) ho1 hS fun h2 d I fp ord St k2 hI2 hfp W st0 hp=>?_);have ho2:=k2 a o ho1;refine zTz (zUx (zMA (s:={ s with heap:=h2,drawn:=d }) ⟨o,ho2,hS.ex.1⟩ ?_));rw [zUJ (by decide +kernel)];refine zTz (zVR (zTz ?_));show wpAny _ A.in1 (updateSeq s.heap.objs.size (·.push .none) >>= fun _=>updateSeq s.heap.objs.size (·.pop)) _ _ _;have hL2:=k2 _ _ hL1;refine zTz (wpAny_updateSeq (s:={ s with heap:=h2,drawn:=d }) hL2 rfl ?_);have hS2:=zUr (Obj.mapSeq (·.push Value.none)) hL2 rfl;refine wpAny_updateSeq hS2 rfl ?_;have hS3:=zUr (Obj.mapSeq (·.pop)) hS2 rfl;generalize hH3:(h2.update s.heap.objs.size (Obj.mapSeq (·.push Value.none))).update s.heap.objs.size (Obj.mapSeq (·.pop)) = H3 at hS3;have oth:∀ b u,b ≠ s.heap.objs.size -> h2.get? b = some u -> H3.get? b = some u:=fun b u hb e=>by
  rw [<- hH3]; exact (zUl _ _ (Ne.symm hb)).trans ((zUl _ _ (Ne.symm hb)).trans e)
 have hSf:s.heap.objs.size ∉ fp:=fun hm=>by
  rcases (hfp _ hm).2 with z | z
  ·exact hneL z
  ·have z':H.objs.size <= s.heap.objs.size:=z;rw [szH] at z'; exact absurd z' (Nat.not_succ_le_self _)
 have WS:=(W A.in1.in1 hh).toS;have st3:St 0 H3:=(W A.in1.in1 hh).frame 0 _ _ st0 fun b hb u e=>oth b u (fun z=>hSf (z ▸ hb)) e;have hI3:I ≠ s.heap.objs.size:=fun z=>by
  have z':H.objs.size <= I:=hI2;rw [szH,z] at z'; exact absurd z' (Nat.not_succ_le_self _)
 refine zT6 ⟨plainId_quiet F.plain_extend_loop _,codeAny_extend_loopS (A:=A) (WalksS.of_in1 WS) hn _ hSf _ ks.length 0 { s with heap:=H3,drawn:=d } _ _ rfl (zUq _) st3 hS3 (ItemsOf.nil _) fun s' acc' c' hm hS' hacc=>?_⟩;show wpAny _ A (load s.heap.objs.size >>= _) _ _ s';refine zTz (wpAny_load hS' (zT6 (hQ s' _ (fun b u e=>hm.heap b u (fun q=>?_) (oth b u (fun z=>zUm _ (z ▸ zUF e)) (k2 b u (kH b u e)))) hm.os hm.gens ?_)))
 ·rcases zUG.mp q with z | z
  ·exact zUm _ (z ▸ zUF e)
  ·have z':H.objs.size <= I:=hI2;rw [<- zUW.mp z,szH] at z';exact zUm _ (Nat.lt_trans (zUT (zU1 _) z') (zUF e))
 ·have e:acc'.toList = ord:=by
   have hl:ord.length = ks.length:=by rw [hp.length_eq,zUD,zUn,hS.size]
   apply List.ext_getElem?;intro i;rw [zVj];by_cases q:i < ks.length
   ·have q':i < acc'.size:=by rw [hacc.1]; exact q
    rw [zUp q'];exact (hacc.2 i _ (zUp q')).symm
   ·rw [Array.getElem?_eq_none (by rw [hacc.1]; omega),zVD (by omega)]
  rw [e]; exact hp
end
end ST
namespace L2
open PySem PySem.Spec PyProof.Rows ST
section
variable {prog:Program} {w:World} {A:Around} {R:Result -> Shared -> Prop} {s:Shared}
theorem zCk {elt target iter ifs rest scope pos it acc env}
  (h0:codeAny (model prog w) A (.compLoop (.SetComp elt (⟨target,iter,ifs,0⟩ :: rest) scope pos) 0 it acc env) R s)
  (h:wpAny (model prog w) A (pyIter it) (fun it' s'=>codeAny (model prog w) A (.compLoop (.SetComp elt (⟨target,iter,ifs,0⟩ :: rest) scope pos) 0 it' acc env) R s')
   (notedBy (model prog w) A env fun x s'=>R (.error x) s') s) :
  codeAny (model prog w) A (.compStart (.SetComp elt (⟨target,iter,ifs,0⟩ :: rest) scope pos) 0 it acc env) R s:=by
 refine codeAny_of_tree ?_;show wpAny _ _ ((compStart (.SetComp elt (⟨target,iter,ifs,0⟩ :: rest) scope pos) 0 it acc env).onRaise (fun x=>do noteFrame x env; standAt theWindowsPlace)) _ _ s;refine wpAny_notedAt ?_;unfold compStart;show wpAny _ _ (ask >>= _) _ _ s;refine zTz (wpAny_askSetting (wpAny_ite ?_));split
 ·first
   | exact zTz (zT6 (zT6 (And.intro rfl h0)))
   | exact zT6 (And.intro rfl h0)
 ·first
   | exact zTz (zVR (zTz (wpAny_standAt (zTz (zUa h (fun it' s' h'=>zT6 (And.intro rfl h')) fun _ _ x=>x)))))
   | (refine zTz (zVR ?_); show wpAny _ _ (standAt iter.pos >>= _) _ _ s; exact zTz (wpAny_standAt (zTz (zUa h (fun it' s' h'=>zT6 (And.intro rfl h')) fun _ _ x=>x))))
end
section
variable {X:Cx} {zB:List (Addr × Obj)} {σ:St} {H:Hp} {s:Shared} {scope:Scope} {cl:List (Str × Addr)} {fp:List Addr} {it:Addr} {tn:Nat -> Heap -> Prop} {J:It} {tg elt iter:Expr} {ifs:List Expr} {pos:Pos}
 {own:List Nat} {g:TG} {tc:TT} {te:TE} {E:Value -> Shared -> Prop}
theorem zJf {prog:Program} {w:World} {o:Obj} {es:Array (Int × Value)} {ep:Nat} {t:SetTable} {ks:List Int} (h:SetK (intKind prog w) o es ep t ks):∀ v,o.data ≠ .cell v:=fun v z=>by rw [h.data] at z; cases z
theorem zFu (C:CompIn X scope own) (hcalm:X.calm = true) (I:Inv X zB σ H s) (T:Turn X.prog X.w X.K tg J fp it tn) (st:tn 0 s.heap) (hf:∀ b ∈ fp,zCq X zB H b)
  (c1:∀ x c,cl.lookup x = some c -> X.env.cells.lookup x = some c) (c2:∀ y ∈ scope.names,y.2 = .free -> (cl.lookup y.1).isSome = true)
  (hg:PG (zd X zB scope cl s H fp) tg g) (hi:zLa (zd X zB scope cl s H fp) ifs tc) (he:PE (zd X zB scope cl s H fp) elt te)
  {RR:Value -> Addr -> Result -> Shared -> Prop} {QQ:List Int -> Hp -> Prop} {W:Nat -> Nat -> List Int -> Hp -> Prop} {m0:Nat} (w0:W 0 m0 [] H)
  (turn:∀ i m ys H,W i m ys H -> (J.stop i H /\ QQ ys H) \/
   (J.go i H /\ ∀ x H',J.yld i H x H' -> g x (clr own σ) H' fun σ2 H2=>Ext (clr own σ) σ2 /\ tc σ2 H2 fun b H3=>
    if b = true then te σ2 H3 fun v H4=>∃ k,v = .int k /\ ys.length + 1 < scanBound /\ ∃ m',m' < m /\ W (i + 1) m' (ins ys k) H4 else ∃ m',m' < m /\ W (i + 1) m' ys H3))
  (fin:∀ σc H' s' o es ep t ys,Inv (zd X zB scope cl s H fp) [(s.heap.objs.size,o)] σc H' s' -> SetK (intKind X.prog X.w) o es ep t ys -> QQ ys H' -> RR (.ref s.heap.objs.size) (s.heap.objs.size + 1) (.ok .next) s') :
  wpAny (model X.prog X.w) X.A (newSet (.type "set")) (fun acc s₃=>wpAny (model X.prog X.w) X.A (newFunctionEnv scope X.env.globals cl [] X.env.qual none .none (some X.env)) (fun cenv s₄=>
   codeAny (model X.prog X.w) X.A (.compStart (.SetComp elt [⟨tg,iter,ifs,0⟩] scope pos) 0 (.ref it) acc { cenv with scope:=relabel scope X.env }) (RR acc cenv.locals) s₄) E s₃) E s:=by
 have ob:∀ b:Nat,b ∈ fp -> b < s.heap.objs.size:=fun b hb=>let ⟨_,e,_⟩:=T.obj 0 _ st b hb; zUF e;refine zLY (zEr ?_);have sz1:(s.heap.push (zBW X.w)).objs.size = s.heap.objs.size + 1:=zUk ..;have I4:=zIb (X:=X) (zB:=zB) (σ:=σ) (σc:=clr own σ) (H:=H) (s:=s) (scope:=scope) (cl:=cl) (fp:=fp) C.sc I hf ob c1 c2 (zDU own σ) (fun i x v h1 h2 h3=>by
  obtain ⟨a,b⟩:=zFF own σ i v h2;rcases C.nm i x h1 with z | z | z
  ·exact absurd z b
  ·exact absurd (zDw x z) h3
  ·exact ⟨z,a⟩) (zBW X.w) (by intro v z; cases z) rfl rfl
 have st4:tn 0 (pushCells ((s.heap.push (zBW X.w)).push { cls:=.type "dict", data:=.dict #[] }) scope.names):=T.keep 0 _ _ st fun b _ o e=>pushCells_keeps _ _ b o (zT0 _ (zT0 _ e));dsimp only;unfold newEnv;dsimp only;rw [sz1];have hDfp:s.heap.objs.size ∉ fp:=fun z=>zUm _ (ob _ z);have hcD:∀ x c,(zd X zB scope cl s H fp).env.cells.lookup x = some c -> c ≠ s.heap.objs.size:=fun x c e z=>by
  obtain ⟨v,o,ho,hd⟩:=I4.cell x c e;obtain ⟨q,_⟩:=I4.pin (s.heap.objs.size,zBW X.w) (by simp);rw [z,q] at ho;cases ho; cases hd
 have fpk:∀ {H':Hp} {pl:List (Addr × Obj)},(∀ b ∈ fp,H' b = none) -> (∀ p ∈ pl,p.1 = s.heap.objs.size) -> ∀ b ∈ fp,zCq (zd X zB scope cl s H fp) pl H' b:=fun {H' pl} hn hp b hb=>
  ⟨hn b hb,(I4.ok.exf b hb).1,I4.ok.exfs b hb,.inl hb,(I4.ok.exf b hb).2,fun p hq=>by
   rcases zUU.mp hq with z | z
   ·exact (hf b hb).2.2.2.2.2 p z
   ·intro e;have e2:=hp p z;rw [e] at e2;exact hDfp (e2 ▸ hb)⟩
 have loop:codeAny (model X.prog X.w) X.A (.compLoop (.SetComp elt [⟨tg,iter,ifs,0⟩] scope pos) 0 (.ref it) (.ref s.heap.objs.size) (zd X zB scope cl s H fp).env) (RR (.ref s.heap.objs.size) (s.heap.objs.size + 1))
   { s with heap:=pushCells ((s.heap.push (zBW X.w)).push { cls:=.type "dict", data:=.dict #[] }) scope.names }:=by
  refine zHU (fun n s'=>∃ i H' ys o es ep t,Inv (zd X zB scope cl s H fp) [(s.heap.objs.size,o)] (clr own σ) H' s' /\ SetK (intKind X.prog X.w) o es ep t ys /\ tn i s'.heap /\ (∀ b ∈ fp,H' b = none) /\ W i n ys H') ?_ m0
   ⟨0,H,[],zBW X.w,_,_,_,I4,.fresh,st4,fun b hb=>(hf b hb).1,w0⟩
  rintro n s5 ⟨i,H5,ys,o,es,ep,t,I5,r5,st5,f5,w5⟩;have pinD:∀ p ∈ [(s.heap.objs.size,o)],p.1 = s.heap.objs.size:=fun p hp=>by
   have:p = (s.heap.objs.size,o):=by simpa using hp
   rw [this]
  rcases turn i n ys H5 w5 with ⟨stop,qq⟩ | ⟨go,step⟩
  ·refine thn (T.done (zd X zB scope cl s H fp) rfl rfl rfl hcalm i _ s5 _ H5 _ I5 (fpk f5 pinD) st5 stop) fun r s6 ⟨hr,I6⟩=>?_;subst hr;exact fin _ H5 s6 o es ep t ys I6 r5 qq
  ·refine thn (T.item (zd X zB scope cl s H fp) rfl rfl rfl hcalm i _ s5 _ H5 _ I5 (fpk f5 pinD) st5 go) fun r s6 ⟨u,hr,h6⟩=>?_;subst hr;refine thn h6 fun _ s7 ⟨x,H7,I7,r7,y7,st7,f7⟩=>?_;have I7':=I7.pinned (fpk f7 pinD) (T.obj _ _ st7);refine thn (hg _ s7 _ H7 x u _ I7' r7 (step x H7 y7)) fun _ s8 ⟨σ8,H8,I8,x8,q8⟩=>?_;refine thn (hi _ s8 σ8 H8 _ I8 q8) fun ok s9 ⟨H9,I9,q9⟩=>?_;have back:∀ {s':Shared} {Hx:Hp},Inv (zd X zB scope cl s H fp) ([(s.heap.objs.size,o)] ++ zEO fp s7.heap) σ8 Hx s' -> tn (i + 1) s'.heap /\ ∀ b ∈ fp,Hx b = none:=fun {s' Hx} Ix=>
    ⟨T.keep _ _ _ st7 fun b hb o e=>(Ix.pin (b,o) (zUO _ (zUO _ (zBN hb e)))).1,fun b hb=>by
     obtain ⟨o,e,d⟩:=T.obj _ _ st7 b hb;exact (Ix.pin (b,o) (zUO _ (zUO _ (zBN hb e)))).2.1⟩
   cases ok with
   | false=>
    obtain ⟨m',hm,w'⟩:=q9;obtain ⟨b1,b2⟩:=back I9;exact ⟨m',hm,i + 1,H9,ys,o,es,ep,t,(I9.weak (by rw [x8.1]) x8.2).unpinned,r5,b1,b2,w'⟩
   | true=>
    refine thn (he _ s9 σ8 H9 _ I9 q9) fun v s10 ⟨y,H10,I10,r10,k,hk,hlt,m',hm,w'⟩=>?_;subst hk;obtain ⟨b1,b2⟩:=back I10;have J10:=(I10.weak (by rw [x8.1]) x8.2).unpinned;obtain ⟨e10,n10,ne10,nf10,d10⟩:=J10.pin (s.heap.objs.size,o) (by simp);obtain ⟨tk,hv⟩:∃ tk,v = .int k tk:=r10;subst hv;refine zNC (knd:=intKind X.prog X.w) (intKind_is _ _ _ _) rfl e10 r5 hlt fun h' o' es' ep' t' hs' e' S'=>?_;refine ⟨m',hm,i + 1,H10,ins ys k,o',es',ep',t',?_,S',T.keep _ _ _ b1 fun b hb o e=>hs'.extBut b o (fun z=>hDfp (z ▸ hb)) e,b2,w'⟩;refine (Inv.repin (pl:=[]) J10 (fun p hp=>?_) hs' (zUA _) hcD e' (zJf S')).tok _;rw [zUo] at hp;have hp':p ∈ X.pn ++ zB:=hp;exact zUP (zUF (I.pin p hp').1)
 exact zCk loop (T.self _ 0 _ _ _ st4 loop)
theorem zHL {σc:St} {H':Hp} {s':Shared} {h':Heap} {oD:Obj} (I:Inv X zB σ H s) (hf:∀ b ∈ fp,zCq X zB H b)
  (Ic:Inv (zd X zB scope cl s H fp) [(s.heap.objs.size,oD)] σc H' s') (hs:Heap.SameBut (s.heap.objs.size + 1) s'.heap h') :
  Inv X zB σ H' { s' with heap:=h' } /\ h'.get? s.heap.objs.size = some oD:=by
 obtain ⟨eD,nD,_⟩:=Ic.pin (s.heap.objs.size,oD) (by simp);have nC:H' (s.heap.objs.size + 1) = none:=Ic.free;have eD':h'.get? s.heap.objs.size = some oD:=hs.extBut _ _ (zUP (zU1 _)) eD;have lt1:∀ {b:Addr} {o:Obj},s.heap.get? b = some o -> b ≠ s.heap.objs.size + 1:=fun e=>zUP (zUt (zUF e));have tr:∀ b u,H' b = some u -> b ≠ s.heap.objs.size + 1:=fun b u e z=>by rw [z,nC] at e; cases e
 refine ⟨?_,eD'⟩;have B:=Ic.base;have un:Un (frs X.stack) fp H H' s.heap h':=by
  refine ⟨fun b o e q hb hx=>hs.extBut b o (lt1 e) (B.keep b o e q hb hx),fun b o e q hb hx=>?_,fun b o e q hx=>B.free b o e q hx,fun b o e hx=>?_,fun b xs e=>B.tups b xs e,fun b o xs e=>B.frzs b o xs e,fun b ps e=>B.tbls b ps e⟩
  ·obtain ⟨sl,e1⟩:=B.slot b o e q hb hx;exact ⟨sl,hs.extBut b _ (lt1 e) e1⟩
  ·obtain ⟨o',e1⟩:=B.there b o e hx;exact ⟨o',hs.extBut b _ (lt1 e) e1⟩
 have hok:HOk X.prog X.w H' h':=fun b u e=>by
  refine (Ic.hok b u e).stay (fun c v hc q=>hs.extBut c v ?_ q) (fun c q=>q) fun c xs q=>q;rcases hc with z | z
  ·rw [z]; exact tr b u e
  ·exact tr c _ z
 exact I.call' (s':={ s' with heap:=h' }) (ch:=fp) Ic.os un hok Ic.bare fun b hb=>⟨(hf b hb).2.2.2.1,(hf b hb).2.1,(hf b hb).2.2.2.2.1,(hf b hb).2.2.2.2.2⟩
end
abbrev TZ:=St -> Hp -> (List Int -> Hp -> Prop) -> Prop
def PZ (X:Cx) (e:Expr) (t:TZ):Prop:=∀ (zB:List (Addr × Obj)) (s:Shared) (σ:St) (H:Hp) (Q:List Int -> Hp -> Prop),Inv X zB σ H s -> t σ H Q ->
 wpAny (model X.prog X.w) X.A (eval e X.env) (fun v s'=>∃ a o es ep tb ks H',v = .ref a /\ s'.heap.get? a = some o /\ SetK (intKind X.prog X.w) o es ep tb ks /\ Inv X zB σ H' s' /\ Q ks H') X.xe s
def zIq (own:List Nat) (wi:TI) (g:TG) (tc:TT) (te:TE):TZ:=fun σ H Q=>wi σ H fun J H1=>∃ W:Nat -> Nat -> List Int -> Hp -> Prop,(∃ m,W 0 m [] H1) /\ ∀ i m ys H,W i m ys H ->
 (J.stop i H /\ Q ys H) \/
 (J.go i H /\ ∀ x H',J.yld i H x H' -> g x (clr own σ) H' fun σ2 H2=>Ext (clr own σ) σ2 /\ tc σ2 H2 fun b H3=>
  if b = true then te σ2 H3 fun v H4=>∃ k,v = .int k /\ ys.length + 1 < scanBound /\ ∃ m',m' < m /\ W (i + 1) m' (ins ys k) H4 else ∃ m',m' < m /\ W (i + 1) m' ys H3)
section
variable {X:Cx} {scope:Scope} {tg elt iter:Expr} {ifs:List Expr} {pos:Pos} {own:List Nat} {wi:TI} {g:TG} {tc:TT} {te:TE}
theorem zO4 (C:CompIn X scope own) (hcalm:X.calm = true) (hi:PI X tg iter wi) (p:CompParts X scope tg ifs elt g tc te) (hs:∀ x,foldedSetIterable iter X.env x = pure x:=by intro _; rfl) :
  PZ X (.SetComp elt [⟨tg,iter,ifs,0⟩] scope pos) (zIq own wi g tc te):=by
 intro zB s σ H Q I h;obtain ⟨cl,hcl,c1,c2⟩:=C.sc.closure I;rw [arm_eval_SetComp];refine wpAny_comprehension_free (use:=none) rfl hs hcl C.sc.kind C.sc.names (thn (hi zB s σ H _ I h) fun v s1 h1=>thn h1 fun itv s2 h2=>?_);obtain ⟨it,fp,tn,J,H2,e,I2,T,st2,f2,W,⟨m0,w0⟩,turn⟩:=h2;subst e;refine zFu C hcalm I2 T st2 f2 c1 c2 (p.g _ _ _ _ _) (p.c _ _ _ _ _) (p.e _ _ _ _ _) (RR:=fun acc C r s'=>compPost (model X.prog X.w) X.A X.xe none (fun v s'=>∃ a o es ep tb ks H',v = .ref a /\ s'.heap.get? a = some o /\ SetK (intKind X.prog X.w) o es ep tb ks /\ Inv X zB σ H' s' /\ Q ks H') acc C r s') (QQ:=Q) w0 turn ?_;intro σc H' s' o es ep t ys Ic rv qq;obtain ⟨m,hn,_⟩:=Ic.loc;refine ⟨m,hn,fun h' hs'=>?_⟩;obtain ⟨J',eD⟩:=zHL I2 f2 Ic hs';exact ⟨_,o,es,ep,t,ys,H',rfl,eD,rv,J',qq⟩
end
end L2
namespace ST
open PySem PySem.Spec PyProof.Rows
open Sem (wp)
section
variable {prog:Program} {w:World} {A:Around} {E:Value -> Shared -> Prop} {s:Shared}
variable {K:Type} [DecidableEq K] {knd:KeyKind prog w K}
def zAm (ks:List K):List K:=ks.foldl ins []
theorem zIL (ks:List K) (k:K):zAm (ks ++ [k]) = ins (zAm ks) k:=by unfold zAm; rw [List.foldl_append]; rfl
theorem zO1 (ks:List K) (k:K):(ins ks k).length <= ks.length + 1:=by unfold ins; split <;> simp
theorem zFQ (ks:List K):(zAm ks).length <= ks.length:=by
 have:∀ (l acc:List K),(l.foldl ins acc).length <= acc.length + l.length:=by
  intro l;induction l with
  | nil=>intro acc; simp
  | cons x r ih=>intro acc; have:=ih (ins acc x); have:=zO1 acc x; simp only [List.foldl_cons,zUb]; omega
 simpa [zAm] using this ks []
theorem zO2 (ks:List K) (k x:K):x ∈ ins ks k ↔ x ∈ ks \/ x = k:=by
 unfold ins;split
 ·rename_i h; constructor
  ·exact .inl
  ·rintro (z | z)
   ·exact z
   ·rw [z]; exact h
 ·simp
theorem zKO (ks:List K) (x:K):x ∈ zAm ks ↔ x ∈ ks:=by
  have:∀ (l acc:List K),x ∈ l.foldl ins acc ↔ x ∈ acc \/ x ∈ l:=by
    intro l;induction l with
    | nil=>intro acc; simp
    | cons y r ih=>intro acc; rw [List.foldl_cons,ih,zO2,zUG]; simp [or_assoc]
  simpa [zAm] using this ks []
theorem zL9 {ks : List K} (h : ks.Nodup) (k : K) : (ins ks k).Nodup := by
  unfold ins;split
  · exact h
  · rename_i q
    rw [zVI]
    exact ⟨h, by simp, fun a ha b hb z => by have : b = k := by simpa using hb
                                             subst this; subst z; exact q ha⟩
theorem zH1 (ks:List K):(zAm ks).Nodup:=by
 have:∀ (l acc:List K),acc.Nodup -> (l.foldl ins acc).Nodup:=by
  intro l;induction l with
  | nil=>intro acc h; exact h
  | cons y r ih=>intro acc h; exact ih _ (zL9 h y)
 exact this ks [] (by simp)
variable {R:Result -> Shared -> Prop} {I:Addr} {fp wr:List Addr} {G:Array GenState -> Array GenState -> Prop} {n:Nat} {P:Nat -> Value -> Prop} {St:Nat -> Shared -> Prop}
end
def zA1 (ks:List Int):List Int:=ks.mergeSort fun a b=>decide (a <= b)
theorem zAz (ks:List Int):(zA1 ks).Perm ks:=List.mergeSort_perm _ _
theorem zDp (ks:List Int):(zA1 ks).Pairwise (· <= ·):=by
 have:=List.pairwise_mergeSort (le:=fun (a b:Int)=>decide (a <= b)) (fun a b c h1 h2=>by simp at h1 h2 ⊢; omega) (fun a b=>by simp; omega) ks;exact this.imp fun h=>by simpa using h
theorem zGv:∀ {xs ys:List Int},xs.Perm ys -> xs.Pairwise (· <= ·) -> ys.Pairwise (· <= ·) -> xs = ys
 | [],ys,p,_,_=>by have:=p.length_eq; simp at this; rw [zV6.mp this.symm]
 | x :: xs,[],p,_,_=>by have:=p.length_eq; simp at this
 | x :: xs,y :: ys,p,h1,h2=>by
  have hx:=zWE.mp h1;have hy:=zWE.mp h2;have e:x = y:=by
   have a:x ∈ y :: ys:=p.mem_iff.mp zUI;have b:y ∈ x :: xs:=p.mem_iff.mpr zUI;rcases zUG.mp a with z | z
   ·exact z
   ·rcases zUG.mp b with q | q
    ·exact q.symm
    ·exact Int.le_antisymm (hx.1 y q) (hy.1 x z)
  subst e;rw [zGv (p.cons_inv) hx.2 hy.2]
theorem zIj {xs ys:List Int} (p:xs.Perm ys) (h:xs.Pairwise (· <= ·)):xs = zA1 ys:=zGv (p.trans (zAz ys).symm) h (zDp ys)
section
variable {prog:Program} {w:World} {A:Around} {E:Value -> Shared -> Prop} {s:Shared}
theorem zFb {v:Value} {Q:Value -> Shared -> Prop}
  (hc:wpAny (model prog w) A.in1 (collect v) (fun vs s1=>∃ ns,IntsAre vs ns /\ vs.length < 64 /\ ∀ (h':Heap) (out:List Value) (n:Nat),(∀ b u,s1.heap.get? b = some u -> h'.get? b = some u) -> h'.get? s1.heap.objs.size = some (seqObj "list" out.toArray n) -> IntsAre out (zA1 ns) -> Q (.ref s1.heap.objs.size) { s1 with heap:=h' }) E s) :
  wpAny (model prog w) A (call (.builtin "sorted") [v]) Q E s:=by
 refine Calls.call_function_entry kind_sorted plain_sorted entry_sorted (args_sorted1 _) ?_;unfold Builtin.«sorted»;refine zTz (m:=checkCount "sorted" 1 1 _) (zT6 ?_);refine zTz (zUa hc (fun vs s1 h1=>?_) fun _ _ h'=>h');obtain ⟨ns,hI,h64,h⟩:=h1;refine zTz (wpAny_newList ?_ (by rw [sizeLine_eq]; omega));have hoL:(s1.heap.push (seqObj "list" vs.toArray 0)).get? s1.heap.objs.size = some (seqObj "list" vs.toArray 0):=zUE _ rfl;refine zTz (zUx (zUh slot_list_sort ⟨_,hoL,rfl⟩ entry_list_sort (list_sort_tree (s:={ s1 with heap:=s1.heap.push (seqObj "list" vs.toArray 0) }) hoL hI h64 fun out ns' a1 a2 a3=>⟨_,rfl,?_⟩) (args_list_sort _)));refine zT6 ⟨_,rfl,?_⟩;have g1:=get?_update_seq hoL (fun _=> #[]);have g2:(((s1.heap.push (seqObj "list" vs.toArray 0)).update s1.heap.objs.size (Obj.mapSeq fun _=> #[])).push (seqObj "tuple" vs.toArray 0)).get? s1.heap.objs.size = _:=zT0 _ g1;have g3:=zT0 (seqObj "list" #[] 0) g2;have g4:=get?_update_seq g3 (fun _=>out);have eS:=zIj a2 a3;subst eS;refine h _ out.toList _ (fun b u e=>?_) (by rw [Array.toArray_toList]; exact g4) a1;have hb:s1.heap.objs.size ≠ b:=fun z=>zUm _ (z ▸ zUF e);exact (zUl _ _ hb).trans (zT0 _ (zT0 _ ((zUl _ _ hb).trans (zT0 _ e))))
theorem zLk {es:List (Int × Value)} {ks:List Int} (h:F2 (zR8 (intKind prog w)) es ks):IntsAre (es.map (·.2)) ks:=by
 induction h with
 | nil=>exact .nil
 | cons h _ ih=>
  obtain ⟨⟨h1,_⟩,_⟩:=h;obtain ⟨t,e⟩:=Value.isInt_shape h1;rw [zUN,e];exact .cons _ _ ih
theorem zLn {us:List Value} {vs:List Value} (p:us.Perm vs):∀ {ks:List Int},IntsAre vs ks -> ∃ ks',ks'.Perm ks /\ IntsAre us ks':=by
 have p':=p.symm;clear p;induction p' with
 | nil=>intro ks h; exact ⟨ks,.refl _,h⟩
 | cons x _ ih=>
  intro ks h;cases h with
  | cons n t r=>
   obtain ⟨ys',q1,q2⟩:=ih r;exact ⟨_,q1.cons _,.cons _ _ q2⟩
 | swap x y l=>
  intro ks h;cases h with
  | cons n t r=>
   cases r with
   | cons n2 t2 r=>exact ⟨_,List.Perm.swap _ _ _,.cons _ _ (.cons _ _ r)⟩
 | trans _ _ ih1 ih2=>
  intro ks h;obtain ⟨ys',q1,q2⟩:=ih1 h;obtain ⟨ys'',r1,r2⟩:=ih2 q2;exact ⟨ys'',r1.trans q1,r2⟩
theorem zI5 {xs ys:List Int} (p:xs.Perm ys):zA1 xs = zA1 ys:=zIj ((zAz xs).trans p) (zDp xs)
theorem zJ2 {o:Obj} {es:Array (Int × Value)} {ep:Nat} {t:SetTable} {ks:List Int} {a:Addr} {Q:Value -> Shared -> Prop} (hh:A.handled = none) (ho:s.heap.get? a = some o) (hS:SetK (intKind prog w) o es ep t ks) (h64:ks.length < 64)
  (h:∀ (s1:Shared) (h':Heap) (out:List Value) (n:Nat),(∀ b u,s.heap.get? b = some u -> s1.heap.get? b = some u) -> s1.os = s.os -> s1.gens = s.gens -> (∀ b u,s1.heap.get? b = some u -> h'.get? b = some u) -> h'.get? s1.heap.objs.size = some (seqObj "list" out.toArray n) -> IntsAre out (zA1 ks) -> Q (.ref s1.heap.objs.size) { s1 with heap:=h' }) :
  wpAny (model prog w) A (call (.builtin "sorted") [.ref a]) Q E s:=by
 refine zFb (zIQ (A:=A.in1) hh ho hS fun s' acc k1 k2 k3 hp=>?_);obtain ⟨ks',p,f⟩:=hS.ent;obtain ⟨ks2,p2,f2⟩:=zLn hp (zLk f);refine ⟨ks2,f2,?_,fun h' out n e1 e2 e3=>?_⟩
 ·rw [hp.length_eq,zUD,zUn,hS.size]; exact h64
 ·rw [zI5 (p2.trans p)] at e3;exact h s' h' out n k1 k2 k3 e1 e2 e3
theorem zEy {ty:String} {l:Addr} {vs:List Value} {Q:List Value -> Shared -> Prop} (hty:ty = "list" \/ ty = "tuple") (hl:∃ ol,s.heap.get? l = some ol /\ ol.cls = .type ty /\ ∃ nl,ol.data = .seq vs.toArray nl)
  (h:Q vs { s with heap:=(s.heap.push (seqObj "list" #[] 0)).update s.heap.objs.size (Obj.mapSeq (· ++ vs.toArray)) }) (hsz:vs.length <= sizeLine) :
  wpAny (model prog w) A (collect (.ref l)) Q E s:=by
 obtain ⟨o,ho,hc,n,hd⟩:=id hl;unfold collect;refine zTz (wpAny_runValue (zU9 entry_proto_collect' ?_));show wpAny _ _ (do again (.builtin "list.__iadd__" ⟨[<- newList [],.ref l],[]⟩)) _ _ s;refine zTz (wpAny_newList (zT6 ⟨Code.quiet_builtin _ (by decide +kernel),zU9 entry_list_iadd' ?_⟩));show wpAny _ _ (Builtin.List.listExtendWith (.ref s.heap.objs.size) (.ref l) (.ref s.heap.objs.size)) _ _ { s with heap:=s.heap.push (seqObj "list" #[] 0) };unfold Builtin.List.listExtendWith;have ho':(s.heap.push (seqObj "list" #[] 0)).get? l = some o:=zT0 _ ho;refine zTz (wpAny_typeOf (T:=ty) ⟨o,ho',hc⟩ ?_);have ht:(Value.type ty == Value.type "list" || Value.type ty == Value.type "tuple") = true:=by rcases hty with rfl | rfl <;> decide
 rw [zUJ (by rw [Bool.or_assoc,ht]; simp)];refine zTz (listItems_at ho' hd ?_);refine zTz (listItems_at (xs:=#[]) (n:=0) (zUE _ rfl) rfl ?_);rw [zUM (by simp)];refine zTz (listUpdate_at (xs:=#[]) (n:=0) (zUE _ rfl) rfl ?_ (zUq _) (by show (#[] ++ vs.toArray).size <= sizeLine + 1; simp only [Array.size_append,zUC,zVY]; omega));refine zT6 ?_
 show wpAny (model prog w) A (do
   let o <- load s.heap.objs.size;match o.data with
   | .seq xs _=>pure xs.toList
   | _=>unsupported "internal:collect") Q E { s with heap:=(s.heap.push (seqObj "list" #[] 0)).update s.heap.objs.size (Obj.mapSeq (· ++ vs.toArray)) }
 refine zTz (wpAny_load (get?_update_seq (zUE _ rfl) _) ?_);show wpAny _ _ (pure ((#[]:Array Value) ++ vs.toArray).toList) Q E _;rw [show ((#[]:Array Value) ++ vs.toArray).toList = vs by simp];exact zT6 h
theorem zJY {ty:String} {l:Addr} {vs:List Value} {ns:List Int} {Q:Value -> Shared -> Prop} (hty:ty = "list" \/ ty = "tuple") (hl:∃ ol,s.heap.get? l = some ol /\ ol.cls = .type ty /\ ∃ nl,ol.data = .seq vs.toArray nl) (hI:IntsAre vs ns) (h64:vs.length < 64)
  (h:∀ (h1 h':Heap) (out:List Value) (n:Nat),(∀ b u,s.heap.get? b = some u -> h1.get? b = some u) -> (∀ b u,h1.get? b = some u -> h'.get? b = some u) -> h'.get? h1.objs.size = some (seqObj "list" out.toArray n) -> IntsAre out (zA1 ns) -> Q (.ref h1.objs.size) { s with heap:=h' }) :
  wpAny (model prog w) A (call (.builtin "sorted") [.ref l]) Q E s:=by
 refine zFb (zEy hty hl ⟨ns,hI,h64,fun h' out n e1 e2 e3=>h _ h' out n (fun b u e=>?_) e1 e2 e3⟩ (by rw [sizeLine_eq]; omega));have hb:s.heap.objs.size ≠ b:=fun z=>zUm _ (z ▸ zUF e);exact (zUl _ _ hb).trans (zT0 _ e)
end
end ST
namespace L2
open PySem PySem.Spec PyProof.Rows ST
section
variable {X:Cx} {e:Expr} {p pos:Pos} {zB:List (Addr × Obj)} {σ:St} {H:Hp} {s:Shared}
theorem Inv.kept' {s1:Shared} (I:Inv X zB σ H s) (k:∀ b u,s.heap.get? b = some u -> s1.heap.get? b = some u) (ho:s1.os = s.os) (hg:s1.gens = s.gens):Inv X zB σ H s1 :=
 I.call' (ch:=[]) ho (Un.kept k) (I.hok.kept k) (by rw [hg]; exact I.bare) fun b hb=>nomatch hb
theorem zDd:∀ {ns:List Int} {us:List Value},IntsAre us ns -> zU (ns.map V.int) us
 | _,_,.nil=> .nil
 | _,_,.cons n t h=> .cons ⟨t,rfl⟩ (zDd h)
theorem zFO:∀ {ns:List Int} {us:List Value},zU (ns.map V.int) us -> IntsAre us ns
 | [],_,.nil=> .nil
 | n :: ns,_,.cons r h=>by obtain ⟨t,rfl⟩:=r; exact .cons n t (zFO h)
theorem zJA (ks:List Int):(zA1 ks).length = ks.length:=(zAz ks).length_eq
theorem zOE {t:TZ} (hc:X.calm = true) (hg:Gl X "sorted") (hm:X.mg "sorted" = none) (ha:PZ X e t) (hs:starEach [e] X.env = (false,eval e X.env) :: starEach [] X.env:=by rfl) (hpl:(backTo pos (starEach [] X.env)).any (·.1) = false:=by rfl) :
  PE X (.Call (.Name "sorted" p) [e] [] pos) (fun σ H Q=>t σ H fun ks H1=>ks.length < 64 /\ ∀ q,H1 q = none -> Q (.ref q) (upd H1 q (.lst ((zA1 ks).map V.int)))):=by
 intro zB s σ H Q I h;refine wpAny_Call_Name_kw (zEo I hg hm (by rfl) ?_ (by decide) (by decide));refine callWith_builtin1 ?_ hs hpl;rw [hs];show wpAny _ _ (spliced ((false,eval e X.env) :: backTo pos (starEach [] X.env))) _ _ s;refine Calls.spliced_cons (thn (ha zB s σ H _ I h) fun u s1 ⟨a,o,es,ep,tb,ks,H1,hv,ho,hS,I1,h64,q⟩=>Calls.spliced_nil ?_);subst hv;refine zJ2 (I1.ok.hd hc) ho hS h64 fun s2 h' out n k1 k2 k3 k4 e4 i4=>?_;have I2:Inv X zB σ H1 s2:=I1.kept' k1 k2 k3;have hf:H1 s2.heap.objs.size = none:=I2.hok.fresh (zUA _);refine ⟨.ref s2.heap.objs.size,upd H1 s2.heap.objs.size (.lst ((zA1 ks).map V.int)),I2.laid (t':=s2.toks) k4 (zUA _) ⟨by rw [zUD,zJA,sizeLine_eq]; omega,out,n,zDd i4,e4⟩,rfl,q _ hf⟩
theorem zIy:zBs X (.builtin "sorted") (fun xs H Q=>∃ a ns,xs = [.ref a] /\ (SqL X.K H a (ns.map V.int) \/ SqT X.K H a (ns.map V.int)) /\ ns.length < 64 /\ ∀ q,H q = none -> Q (.ref q) (upd H q (.lst ((zA1 ns).map V.int)))):=by
 intro zB s σ H xs us Q I r h;obtain ⟨a,ns,rfl,hq,h64,q⟩:=h;obtain ⟨u,rfl,rfl⟩:∃ u,us = [u] /\ u = .ref a:=by
  cases r with
  | cons r1 r2=>cases r2; exact ⟨_,rfl,r1⟩
 have key:∃ (ty:String) (its:List Value),(ty = "list" \/ ty = "tuple") /\ (∃ ol,s.heap.get? a = some ol /\ ol.cls = .type ty /\ ∃ nl,ol.data = .seq its.toArray nl) /\ zU (ns.map V.int) its:=by
  rcases hq with hq | hq
  ·obtain ⟨its,rv,⟨ol,nl,e1,e2,_,e3⟩,_⟩:=I.list hq;exact ⟨"list", its,.inl rfl,⟨ol,e1,e2,nl,e3⟩,rv⟩
  ·obtain ⟨its,rv,⟨ol,e1,e2,nl,e3⟩,_⟩:=I.tuple hq;exact ⟨"tuple", its,.inr rfl,⟨ol,e1,e2,nl,e3⟩,rv⟩
 obtain ⟨ty,its,hty,hl,rv⟩:=key;refine zJY hty hl (zFO rv) (by rw [<- rv.length,zUD]; exact h64) fun h1 h' out n k1 k4 e4 i4=>?_;have I2:Inv X zB σ H { s with heap:=h1 }:=I.kept (t':=s.toks) k1;have hf:H h1.objs.size = none:=I2.hok.fresh (zUA _);exact ⟨.ref h1.objs.size,upd H h1.objs.size (.lst ((zA1 ns).map V.int)),I2.laid (t':=s.toks) k4 (zUA _) ⟨by rw [zUD,zJA,sizeLine_eq]; omega,out,n,zDd i4,e4⟩,rfl,q _ hf⟩
end
end L2
namespace L3
open PySem PySem.Spec PyProof.Rows L2 ST
abbrev FZ:=Sd -> Mem -> Option (List Int × Mem)
def trZ (K:PySem.W.Frag) (f:FZ):TZ:=fun τ H Q=>∃ L σ M ks M',Cor K L M H /\ zAr L H σ τ /\ f σ M = some (ks,M') /\ ∀ L' H',Stp L H L' H' -> Cor K L' M' H' -> Q ks H'
structure QZ (X:Cx) (e:Expr) (f:FZ):Prop where
 un:PZ X e (trZ X.K f)
theorem PZ.imp {X:Cx} {e:Expr} {t t':TZ} (h:PZ X e t) (hi:∀ τ H Q,t' τ H Q -> t τ H Q):PZ X e t':=fun zB s σ H Q I q=>h zB s σ H Q I (hi _ _ _ q)
noncomputable def zGz (own:List Nat) (fi:FI) (g:FG) (tc:FT) (te:FE):FZ:=fun σ M=>match zAK own fi g tc te σ M with
 | some (.fl ys,M2)=>match zAC ys with
  | some ks=>if ks.length + 1 < scanBound then some (zAm ks,M2) else none
  | none=>none
 | _=>none
theorem zF6:∀ {as bs:List D} {zs:List Int},zAC (as ++ bs) = some zs -> ∃ xs ys,zAC as = some xs /\ zAC bs = some ys /\ zs = xs ++ ys
 | [],bs,zs,h=>⟨[],zs,rfl,h,rfl⟩
 | a :: as,bs,zs,h=>by
  cases a with
  | int i=>
   rw [List.cons_append] at h;unfold zAC at h;split at h
   ·rename_i us e;cases h;obtain ⟨xs,ys,e1,e2,e3⟩:=zF6 e;refine ⟨i :: xs,ys,?_,e2,by rw [e3]; rfl⟩;unfold zAC; rw [e1]
   ·cases h
  | _=>cases h
theorem zID {as:List D} {xs:List Int} {i:Int} (h:zAC as = some xs):zAC (as ++ [.int i]) = some (xs ++ [i]):=by
 induction as generalizing xs with
 | nil=>cases h; rfl
 | cons a as ih=>
  cases a with
  | int j=>
   unfold zAC at h;split at h
   ·rename_i us e; cases h;rw [List.cons_append]; unfold zAC; rw [ih e]; rfl
   ·cases h
  | _=>cases h
theorem zLj {K:PySem.W.Frag} {own:List Nat} {fi:FI} {g:TG} {fg:FG} {tc:FT} {te:FE} (hg:zJZ own g fg) {τ:Sv} {H:Hp} {Q:List Int -> Hp -> Prop} (h:trZ K (zGz own fi fg tc te) τ H Q):zIq own (trI K fi) g (trT K tc) (trD K (toD te)) τ H Q:=by
 obtain ⟨L,σ,M,d,Mf,c,rs,hf,q⟩:=h;unfold zGz zAK at hf;cases e1:fi σ M with
 | none=>rw [e1] at hf; cases hf
 | some r=>
  obtain ⟨xs,gd,M1⟩:=r;rw [e1] at hf;dsimp only at hf;by_cases hz:xs.length <= sizeLine
  ·rw [zUJ hz] at hf;cases e2:zBu fg tc te (zE3 own σ) xs gd xs M1 with
   | none=>rw [e2] at hf; cases hf
   | some r=>
    obtain ⟨zs,M2⟩:=r;rw [e2] at hf;dsimp only at hf;split at hf
    ·rename_i kz ez;split at hf
     ·rename_i hb;cases hf;refine ⟨L,σ,M,_,_,_,c,rs,e1,fun L1 H1 J s1 c1 it=>?_⟩
      refine ⟨fun i m ys H'=>m = xs.length - i /\ i <= xs.length /\ ∃ L' M' as bs ka,Stp L1 H1 L' H' /\ Cor K L' M' H' /\ zAC as = some ka /\ ys = zAm ka /\ zBu fg tc te (zE3 own σ) xs gd (xs.drop i) M' = some (bs,Mf) /\ as ++ bs = zs,
       ⟨xs.length,by simp,zUq _,L1,M1,[],zs,[],.refl _ _,c1,rfl,rfl,by simpa using e2,rfl⟩,?_⟩
      rintro i m ys H' ⟨rfl,hi,L',M',as,bs,ka,s',c',r',hl,e',hab⟩;by_cases hlt:i < xs.length
      ·rw [zEi hlt] at e';unfold zBu at e';split at e'
       ·rename_i hgd;obtain ⟨step,_⟩:=it L' H' M' s' c' hgd;obtain ⟨go,yl⟩:=step i xs[i] (zT8 hlt);split at e'
        ·rename_i σ1 eg;refine .inr ⟨go,fun v H2 hy=>?_⟩;obtain ⟨gr,rv⟩:=yl v H2 hy;have s2:Stp L1 H1 L' H2:=s'.yld gr;refine hg (zH3 own ((rs.stp s1).stp s2)) (.refl _) rv eg fun τ2 r2 x2=>⟨x2,?_⟩;split at e'
         ·rename_i M3 e3;split at e'
          ·rename_i d M4 e4;split at e'
           ·rename_i ds M5 e5;cases e';refine ⟨L',σ1,M',_,_,c'.grow gr,r2,e3,fun L3 H3 s3 c3=>zKh ?_⟩;refine ⟨L3,σ1,M3,_,_,c3,r2.stp s3,e4,fun L4 H4 w s4 c4 r4=>?_⟩;have st:Stp L' H' L4 H4:=((Stp.grow gr).trans s3).trans s4;have ez':=ez;rw [<- hab] at ez';obtain ⟨x1,y1,g1,g2,g3⟩:=zF6 ez';obtain ⟨k,hk⟩:∃ k,d = .int k:=by
             cases d with
             | int k=>exact ⟨k,rfl⟩
             | _=>cases g2
            subst hk;have ew:w = .int k:=by unfold Rep at r4; exact r4
            have hka:ka.length <= kz.length:=by
             rw [r'] at g1; cases g1;rw [g3,zUK]; omega
            refine ⟨k,ew,?_,xs.length - (i + 1),by omega,rfl,hlt,L4,M4,as ++ [.int k],ds,ka ++ [k],s'.trans st,c4,zID r',by rw [hl,zIL],e5,by rw [<- hab]; simp⟩;rw [hl];have:=zFQ ka;omega
           ·cases e'
          ·cases e'
         ·rename_i M3 e3;refine ⟨L',σ1,M',_,_,c'.grow gr,r2,e3,fun L3 H3 s3 c3=>zKB ?_⟩;have st:Stp L' H' L3 H3:=(Stp.grow gr).trans s3;exact ⟨xs.length - (i + 1),by omega,rfl,hlt,L3,M3,as,bs,ka,s'.trans st,c3,r',hl,e',hab⟩
         ·cases e'
        ·cases e'
       ·cases e'
      ·have hi':i = xs.length:=by omega
       subst hi';rw [List.drop_length] at e';unfold zBu at e';split at e'
       ·rename_i hgd;cases e';obtain ⟨_,stop⟩:=it L' H' _ s' c' hgd;rw [zUo] at hab;subst hab;rw [r'] at ez; cases ez;refine .inl ⟨stop,?_⟩;rw [hl];exact q L' H' (s1.trans s') c'
       ·cases e'
     ·cases hf
    ·cases hf
  ·rw [zUM hz] at hf; cases hf
section
variable {X:Cx} {scope:Scope} {tg elt iter:Expr} {ifs:List Expr} {pos p:Pos} {own:List Nat} {e:Expr} {f:FE}
theorem zRu {fi:FI} {g:TG} {fg:FG} {tc:FT} {te:FE} (hg:zJZ own g fg) (C:CompIn X scope own) (hcalm:X.calm = true) (hi:QI X tg iter fi) (p:QParts X scope tg ifs elt g tc te) (hs:∀ x,foldedSetIterable iter X.env x = pure x:=by intro _; rfl) :
  QZ X (.SetComp elt [⟨tg,iter,ifs,0⟩] scope pos) (zGz own fi fg tc te) :=
 .mk <| PZ.imp (zO4 C hcalm hi.un p.parts hs) fun _ _ _ h=>zLj hg h
def zGD (f:FZ):FE:=fun σ M=>match f σ M with
 | some (ks,M1)=>if ks.length < 64 then some (.fl ((zA1 ks).map D.int),M1) else none
 | none=>none
theorem zEX {L:List Addr} {H:Hp}:∀ (ns:List Int),zH L H (ns.map D.int) (ns.map V.int)
 | []=> .nil
 | n :: ns=> .cons zAk (zEX ns)
theorem zP3 {fz:FZ} (hc:X.calm = true) (hg:Gl X "sorted") (hm:X.mg "sorted" = none) (h:QZ X e fz) (hs:starEach [e] X.env = (false,eval e X.env) :: starEach [] X.env:=by rfl) (hpl:(backTo pos (starEach [] X.env)).any (·.1) = false:=by rfl) :
  QE X (.Call (.Name "sorted" p) [e] [] pos) (zGD fz):=.mk <| PE.imp (zOE hc hg hm h.un hs hpl) fun τ H Q zz=>by
 obtain ⟨L,σ,M,d,M',c,rs,hf,q⟩:=zz;unfold zGD at hf;split at hf
 ·rename_i ks M1 e1;split at hf
  ·rename_i hb;cases hf;refine ⟨L,σ,M,_,_,c,rs,e1,fun L1 H1 s1 c1=>⟨hb,fun p hp=>?_⟩⟩;exact q L1 _ _ (s1.trans (.upd hp)) (c1.upd hp) (zT.newLst s1 c c1 hp (zEX _))
  ·cases hf
 ·cases hf
def zDE:KB:=fun xs M=>match xs with
 | [x]=>match zAa M x with
  | some ds=>match zAC ds with
   | some ks=>if ks.length < 64 then some (.fl ((zA1 ks).map D.int),M) else none
   | none=>none
  | none=>none
 | _=>none
theorem zT.newLst' {L:List Addr} {H:Hp} {K:PySem.W.Frag} {M:List MO} {p:Addr} {ds:List D} {vs:List V} (c:Cor K L M H) (hp:H p = none) (r:zH L H ds vs):zT H L (upd H p (.lst vs)) (.fl ds) (.ref p):=zT.newLst (.refl L H) c c hp r
theorem zJ1:zF1 X.K (fun xs H Q=>∃ a ns,xs = [.ref a] /\ (SqL X.K H a (ns.map V.int) \/ SqT X.K H a (ns.map V.int)) /\ ns.length < 64 /\ ∀ q,H q = none -> Q (.ref q) (upd H q (.lst ((zA1 ns).map V.int)))) zDE:=by
 intro L M M' H H0 xs d vs Q c r hk q;unfold zDE at hk;split at hk
 ·rename_i x;split at hk
  ·rename_i ys e1;split at hk
   ·rename_i ks e2;split at hk
    ·rename_i hb;cases hk;obtain ⟨v,rfl,r1⟩:=r.one;obtain ⟨a,ws,rfl,hs,r2⟩:=zDA c r1 e1;have:=zCL e2 r2;subst this;exact ⟨a,ks,rfl,hs,hb,fun p hp=>q L _ _ (.upd hp) (c.upd hp) (zT.newLst' c hp (zEX _))⟩
    ·cases hk
   ·cases hk
  ·cases hk
 ·cases hk
theorem zM5 {fa:FAE} (hg:Gl X "sorted") (hm:X.mg "sorted" = none) (ha:QAE X [e] fa) (he:starEach [e] X.env = (false,eval e X.env) :: starEach [] X.env:=by rfl) (hpl:(backTo pos (starEach [] X.env)).any (·.1) = false:=by rfl):QE X (.Call (.Name "sorted" p) [e] [] pos) (fB zDE fa) :=
 zEI zJ1 zIy (by rfl) hg hm ha (by decide) (by decide) he hpl
end
open AutoSeq1 (wpAny_loadPart')
section
variable {κ:Type} [DecidableEq κ]
def zCi (kf:D -> Option κ) (kvs:List (D × D)) (k:κ):Option D:=(kvs.find? fun p=>decide (kf p.1 = some k)).map (·.2)
def zIa (kf:D -> Option κ) (kvs:List (D × D)) (k:κ) (kd v:D):List (D × D) :=
 if (kvs.any fun p=>decide (kf p.1 = some k)) = true then kvs.map fun p=>if kf p.1 = some k then (p.1,v) else p else kvs ++ [(kd,v)]
theorem zC2 {kf:D -> Option κ} {L:List Addr} {H:Hp} (k:κ):∀ {kvs:List (D × D)} {vs:List (κ × V)},zAB kf L H kvs vs -> (zCi kf kvs k = none /\ zCl vs k = none) \/ ∃ d v,zCi kf kvs k = some d /\ zCl vs k = some v /\ Rep L H d v
 | [],vs,h=>by unfold zAB at h; subst h; exact .inl ⟨rfl,rfl⟩
 | p :: r,vs,h=>by
  obtain ⟨k',v,r',rfl,e,h1,h2⟩:=h;by_cases q:k' = k
  ·subst q;exact .inr ⟨p.2,v,by unfold zCi; rw [zVq,e]; simp,by rw [zDy rfl],h1⟩
  ·have e1:zCi kf (p :: r) k = zCi kf r k:=by unfold zCi; rw [zVq,e]; simp [q]
   rw [e1,zDr q];exact zC2 k h2
theorem zIU {kf:D -> Option κ} {L:List Addr} {H:Hp} (k:κ):∀ {kvs:List (D × D)} {vs:List (κ × V)},zAB kf L H kvs vs -> (kvs.any fun p=>decide (kf p.1 = some k)) = (vs.any fun kv=>decide (kv.1 = k))
 | [],vs,h=>by unfold zAB at h; subst h; rfl
 | p :: r,vs,h=>by
  obtain ⟨k',v,r',rfl,e,h1,h2⟩:=h;rw [List.any_cons,List.any_cons,zIU k h2,e];simp
theorem zFm {kf:D -> Option κ} {L:List Addr} {H:Hp} (k:κ) {d:D} {u:V} (hd:Rep L H d u):∀ {kvs:List (D × D)} {vs:List (κ × V)},zAB kf L H kvs vs -> zAB kf L H (kvs.map fun p=>if kf p.1 = some k then (p.1,d) else p) (vs.map fun kv=>if kv.1 = k then (kv.1,u) else kv)
 | [],vs,h=>by unfold zAB at h; subst h; rfl
 | p :: r,vs,h=>by
  obtain ⟨k',v,r',rfl,e,h1,h2⟩:=h;rw [zUN,zUN];by_cases q:k' = k
  ·subst q;rw [zUJ e,zUJ rfl];exact ⟨k',u,_,rfl,e,hd,zFm k' hd h2⟩
  ·rw [zUM (by rw [e]; simpa using q),zUM q];exact ⟨k',v,_,rfl,e,h1,zFm k hd h2⟩
theorem zGe {kf:D -> Option κ} {L:List Addr} {H:Hp} {k:κ} {kd d:D} {u:V} (hk:kf kd = some k) (hd:Rep L H d u):∀ {kvs:List (D × D)} {vs:List (κ × V)},zAB kf L H kvs vs -> zAB kf L H (kvs ++ [(kd,d)]) (vs ++ [(k,u)])
 | [],vs,h=>by unfold zAB at h; subst h; exact ⟨k,u,[],rfl,hk,hd,rfl⟩
 | p :: r,vs,h=>by
  obtain ⟨k',v,r',rfl,e,h1,h2⟩:=h;exact ⟨k',v,_,rfl,e,h1,zGe hk hd h2⟩
theorem zKz {kf:D -> Option κ} {L:List Addr} {H:Hp} {k:κ} {kd d:D} {u:V} (hk:kf kd = some k) (hd:Rep L H d u) {kvs:List (D × D)} {vs:List (κ × V)} (h:zAB kf L H kvs vs):zAB kf L H (zIa kf kvs k kd d) (zBh vs k u):=by
 unfold zIa zBh;rw [zIU k h];split
 ·exact zFm k hd h
 ·exact zGe hk hd h
end
theorem zIn {L:List Addr} {H:Hp}:∀ {ds:List D} {vs:List V} {ks:List Key},zH L H ds vs -> zCD ds = some ks -> vs = ks.map kV
 | [],vs,ks,h,e=>by cases e; unfold zH at h; exact h
 | d :: ds,vs,ks,h,e=>by
  unfold zH at h;obtain ⟨v,r,rfl,h1,h2⟩:=h;unfold zCD at e;cases e1:zCb d with
  | none=>rw [e1] at e; cases e
  | some k=>
   cases e2:zCD ds with
   | none=>rw [e1,e2] at e; cases e
   | some ks'=>
    rw [e1,e2] at e; cases e;rw [zFC h1 e1,zIn h2 e2]; rfl
theorem zJq {L:List Addr} {H:Hp} {d:D} {v:V} {ks:List Key} (h:Rep L H d v) (e:tkD d = some ks):∃ b,v = .ref b /\ H b = some (.tup (ks.map kV)):=by
 cases d with
 | tup ds=>
  unfold Rep at h;obtain ⟨a,vs,rfl,e1,r⟩:=h;exact ⟨a,rfl,by rw [e1,zIn r e]⟩
 | _=>cases e
def zF7 (M:Mem) (x:EV) (k:D):Option (Option D):=match x with
 | .dat (.ref n)=>match M[n]? with
  | some (.dict kvs)=>match zCb k with
   | some kk=>some (zCi zCb kvs kk)
   | none=>none
  | some (.dicT kvs)=>match tkD k with
   | some kk=>some (zCi tkD kvs kk)
   | none=>none
  | some (.froK kvs)=>match zCb k with
   | some kk=>some (zCi zCb kvs kk)
   | none=>none
  | some (.froT kvs)=>match tkD k with
   | some kk=>some (zCi tkD kvs kk)
   | none=>none
  | _=>none
 | _=>none
def zSc (L:List Addr) (H:Hp):Option D -> Option V -> Prop
 | none,o=>o = none
 | some d,o=>∃ v,o = some v /\ Rep L H d v
theorem zIg {K:PySem.W.Frag} {L:List Addr} {M:Mem} {H H0:Hp} {x:EV} {v w:V} {k:D} {o:Option D} (c:Cor K L M H) (rx:zT H0 L H x v) (rk:Rep L H k w) (e:zF7 M x k = some o):∃ a ov,v = .ref a /\ zD0 H a w ov /\ zSc L H o ov:=by
 cases x with
 | fl xs=>cases e
 | dat d=>
  cases d with
  | ref n=>
   unfold zT Rep at rx;obtain ⟨a,rfl,ea⟩:=rx;unfold zF7 at e;dsimp only at e;cases q:M[n]? with
   | none=>rw [q] at e; cases e
   | some m=>
    rw [q] at e;have z:=c.obj n a m ea q;cases m with
    | dict kvs=>
     dsimp only at e;cases e2:zCb k with
     | none=>rw [e2] at e; cases e
     | some kk=>
      rw [e2] at e;cases e;obtain ⟨vs,e3,r⟩:=z;refine ⟨a,zCl vs kk,rfl,?_,?_⟩
      ·rw [zFC rk e2]; exact zD0.k e3
      ·rcases zC2 kk r with ⟨h1,h2⟩ | ⟨d,v,h1,h2,h3⟩
       ·rw [h1,h2]; rfl
       ·rw [h1,h2]; exact ⟨v,rfl,h3⟩
    | dicT kvs=>
     dsimp only at e;cases e2:tkD k with
     | none=>rw [e2] at e; cases e
     | some kk=>
      rw [e2] at e;cases e;obtain ⟨vs,e3,r⟩:=z;obtain ⟨b,rfl,eb⟩:=zJq rk e2;refine ⟨a,zCl vs kk,rfl,zD0.t e3 eb,?_⟩;rcases zC2 kk r with ⟨h1,h2⟩ | ⟨d,v,h1,h2,h3⟩
      ·rw [h1,h2]; rfl
      ·rw [h1,h2]; exact ⟨v,rfl,h3⟩
    | froK kvs=>
     dsimp only at e;cases e2:zCb k with
     | none=>rw [e2] at e; cases e
     | some kk=>
      rw [e2] at e;cases e;obtain ⟨ob,vs,e3,r⟩:=z;refine ⟨a,zCl vs kk,rfl,.inl ⟨vs,kk,.inr ⟨ob,e3⟩,zFC rk e2,rfl⟩,?_⟩;rcases zC2 kk r with ⟨h1,h2⟩ | ⟨d,v,h1,h2,h3⟩
      ·rw [h1,h2]; rfl
      ·rw [h1,h2]; exact ⟨v,rfl,h3⟩
    | froT kvs=>
     dsimp only at e;cases e2:tkD k with
     | none=>rw [e2] at e; cases e
     | some kk=>
      rw [e2] at e;cases e;obtain ⟨ob,vs,e3,r⟩:=z;obtain ⟨b,rfl,eb⟩:=zJq rk e2;refine ⟨a,zCl vs kk,rfl,.inr ⟨vs,kk,b,.inr ⟨ob,e3⟩,rfl,eb,rfl⟩,?_⟩;rcases zC2 kk r with ⟨h1,h2⟩ | ⟨d,v,h1,h2,h3⟩
      ·rw [h1,h2]; rfl
      ·rw [h1,h2]; exact ⟨v,rfl,h3⟩
    | _=>cases e
  | _=>cases e
def zCr (M:Mem) (n:Nat) (k v:D):Option Mem:=match M[n]? with
 | some (.dict kvs)=>match zCb k with
  | some kk=>if kvs.length < sizeLine then some (M.set n (.dict (zIa zCb kvs kk k v))) else none
  | none=>none
 | some (.dicT kvs)=>match tkD k with
  | some kk=>if kvs.length < sizeLine then some (M.set n (.dicT (zIa tkD kvs kk k v))) else none
  | none=>none
 | _=>none
theorem zIc {K:PySem.W.Frag} {L:List Addr} {M M':Mem} {H:Hp} {n:Nat} {a:Addr} {k v:D} {w u:V} (c:Cor K L M H) (ea:L[n]? = some a) (rk:Rep L H k w) (rv:Rep L H v u) (e:zCr M n k v = some M'):∃ H',zE6 H a w u H' /\ Cor K L M' H' /\ Stp L H L H':=by
 unfold zCr at e;cases q:M[n]? with
 | none=>rw [q] at e; cases e
 | some m=>
  rw [q] at e;have z:=c.obj n a m ea q;cases m with
  | dict kvs=>
   dsimp only at e;cases e2:zCb k with
   | none=>rw [e2] at e; cases e
   | some kk=>
    rw [e2] at e;dsimp only at e;split at e
    ·rename_i hl;cases e;obtain ⟨vs,e3,r⟩:=z;obtain ⟨c3,s3⟩:=c.put (m:=.dict (zIa zCb kvs kk k v)) (o':=.dK (zBh vs kk u)) ea e3 (fun _ z=>by cases z) (fun _ _ z=>by cases z) fun s3=>⟨_,zg,(zKz e2 rv r).stp s3⟩;refine ⟨_,?_,c3,s3⟩;rw [zFC rk e2]; exact zE6.k e3 (by rw [r.length]; exact hl)
    ·cases e
  | dicT kvs=>
   dsimp only at e;cases e2:tkD k with
   | none=>rw [e2] at e; cases e
   | some kk=>
    rw [e2] at e;dsimp only at e;split at e
    ·rename_i hl;cases e;obtain ⟨vs,e3,r⟩:=z;obtain ⟨b,rfl,eb⟩:=zJq rk e2;obtain ⟨c3,s3⟩:=c.put (m:=.dicT (zIa tkD kvs kk k v)) (o':=.dT (zBh vs kk u)) ea e3 (fun _ z=>by cases z) (fun _ _ z=>by cases z) fun s3=>⟨_,zg,(zKz e2 rv r).stp s3⟩;exact ⟨_,zE6.t e3 eb (by rw [r.length]; exact hl),c3,s3⟩
    ·cases e
  | _=>cases e
section
variable {X:Cx} {a b e o i value:Expr} {pos pos' apos cpos:Pos} {f g h:FE}
def zAg:K2:=fun x y M=>match y with
 | .dat k=>match zF7 M x k with
  | some (some d)=>some (.dat d,M)
  | _=>none
 | _=>none
theorem zOg {K:PySem.W.Frag}:zCB K (fun x y H Q=>∃ a v,x = .ref a /\ zD0 H a y (some v) /\ Q v H) zAg:=by
 intro L M M' H H0 x y d v w Q c rx ry hk q;unfold zAg at hk;split at hk
 ·rename_i k;split at hk
  ·rename_i d' e1;cases hk;obtain ⟨a,ov,rfl,h1,h2⟩:=zIg c rx ry e1;obtain ⟨u,rfl,r⟩:=h2;exact ⟨a,u,rfl,h1,q L H u (.refl L H) c r⟩
  ·cases hk
 ·cases hk
theorem zRb (hu:X.A.units + 1 < cLine) (h1:QE X o f) (h2:QE X i g) (hs:zRx i:=by intro _ _; rfl):QE X (.Subscript o i pos) (fOp zAg f g):=.mk <| PE.imp (zPW hu h1.un h2.un hs) fun _ _ _ h=>zDF zOg h
def zEG (neg:Bool):K2:=fun x y M=>match x with
  | .dat k=>match zF7 M y k with
    | some o=>some (.dat (.bl (if neg then !o.isSome else o.isSome)),M)
    | none=>none
  | _=>none
theorem zOP {L:List Addr} {H:Hp} {o:Option D} {ov:Option V} (h:zSc L H o ov):ov.isSome = o.isSome:=by
  cases o with
  | none => have h' : ov = none := h
            rw [h']; rfl
  | some d=>obtain ⟨v,rfl,_⟩:=h; rfl
theorem zKm {K:PySem.W.Frag}:zCB K (fun y x H Q=>∃ a o,x = .ref a /\ zD0 H a y o /\ Q (.bl (!o.isSome)) H) (zEG true):=by
 intro L M M' H H0 x y d v w Q c rx ry hk q;unfold zEG at hk;split at hk
 ·rename_i k;split at hk
  ·rename_i o e1;cases hk;obtain ⟨a,ov,rfl,h1,h2⟩:=zIg c ry rx e1;refine ⟨a,ov,rfl,h1,?_⟩;rw [zOP h2];exact q L H _ (.refl L H) c (zBr (L:=L) (H:=H))
  ·cases hk
 ·cases hk
theorem zMD (hu:X.A.units + 1 < cLine) (h1:QE X a f) (h2:QE X b g) (hm:behindInMarks .NotIn b = false:=by rfl):QT X (.Compare a [.NotIn] [b] pos) (tst (fOp (zEG true) f g)):=.mk <| PT.imp (zQq (zL8 hu h1.un h2.un) hm) fun _ _ _ h=>zFn (fun _ _ _ z=>zDF zKm z) (zEP h)
def zA4 (fv fo fi:FE):FS:=fun σ M=>match toD fv σ M with
 | some (v,M1)=>match toD fo σ M1 with
  | some (.ref n,M2)=>match toD fi σ M2 with
   | some (k,M3)=>match zCr M3 n k v with
    | some M4=>some (.nx,σ,M4)
    | none=>none
   | none=>none
  | _=>none
 | none=>none
theorem zRA (hu:X.A.units + 1 < cLine) (hv:QE X value f) (ho:QE X o g) (hi:QE X i h) (hs:swapsWith value (some (.Subscript o i pos')) pos.line X.env = pure false:=by rfl):QS X (.Assign [.Subscript o i pos'] value pos) (zA4 f g h) :=
 .mk <| PS.imp (zPT hu (zAY ho).un (zAY hi).un (zAY hv).un hs) fun E τ H zz=>by
  obtain ⟨L,σ,M,out,σ',M',c,rs,hf,q⟩:=zz;unfold zA4 at hf;split at hf
  ·rename_i v M1 e1;split at hf
   ·rename_i n M2 e2;split at hf
    ·rename_i k M3 e3;split at hf
     ·rename_i M4 e4;cases hf;refine ⟨L,σ,M,_,_,c,rs,e1,fun L1 H1 u s1 c1 r1=>⟨L1,σ,M1,_,_,c1,rs.stp s1,e2,fun L2 H2 y s2 c2 r2=>⟨L2,σ,M2,_,_,c2,(rs.stp s1).stp s2,e3,fun L3 H3 z s3 c3 r3=>?_⟩⟩⟩;unfold Rep at r2;obtain ⟨a,rfl,ea⟩:=r2;have ea3:L3[n]? = some a:=by obtain ⟨N,hN⟩:=s3.pre; rw [hN]; exact zEF ea
      obtain ⟨H4,h1,h2,h3⟩:=zIc c3 ea3 r3 ((r1.stp s2).stp s3) e4;exact ⟨a,H4,rfl,h1,q L3 H4 (((s1.trans s2).trans s3).trans h3) h2 τ ((((rs.stp s1).stp s2).stp s3).stp h3)⟩
     ·cases hf
    ·cases hf
   ·cases hf
  ·cases hf
end
end L3
namespace L2
open PySem PySem.Spec PyProof.Rows
section
variable {X:Cx} {zB:List (Addr × Obj)} {σ:St} {H:Hp} {s:Shared}
theorem zMb {a:Addr} {y v:V} {u r:Value} {H':Hp} {A:Around} {E:Value -> Shared -> Prop} {Q:Unit -> Shared -> Prop} (hu:A.units + 1 < cLine) (I:Inv X zB σ H s) (g:zE6 H a y v H') (ry:ze y u) (rv:ze v r) (h:∀ s',Inv X zB σ H' s' -> Heap.SameBut a s.heap s'.heap -> Q () s') :
  wpAny (model X.prog X.w) A (dictSet a u r) Q E s:=by
 rcases g with ⟨kvs,k,e,ey,l,eH⟩ | ⟨kvs,k,b,e,ey,eb,l,eH⟩
 ·subst ey eH;obtain ⟨z,hd,vs,rel,dd⟩:=zNG I.hok e;have hz:vs.length <= sizeLine:=by rw [<- rel.length]; exact z
  have hl:(zBh kvs k v).length <= sizeLine:=by have:=zBV kvs k v; omega
  refine wpAny_dictSet_pairs (hsz:=hz) (zGm ry) dd fun h' dd' hs=>h _ ?_ hs;have he:∃ q,h'.get? a = some q:=let ⟨q,_,_,hq,_⟩:=dd'; ⟨q,hq⟩;exact zDB I (by rw [e]; exact True.intro) hs he (zJT hl hd (rel.put k rv) dd')
 ·subst ey eH;cases (show u = Value.ref b from ry);obtain ⟨z,hd,xs,rel,dd⟩:=zQX I.hok e;have hz:xs.length <= sizeLine:=by rw [<- Paired.length rel]; exact z
  have hl:(zBh kvs k v).length <= sizeLine:=by have:=zBV kvs k v; omega
  refine wpAny_dictSet_heap (hsz:=hz) (show (tupleKind (zu X.prog X.w)).room A from Nat.lt_of_succ_lt hu) (zFV I.hok eb) dd fun h' dd' hs=>h _ ?_ hs;obtain ⟨q,es,ep,hq,h2,h3,h4,_,h5⟩:=dd';refine zDB I (by rw [e]; exact True.intro) hs ⟨q,hq⟩ ⟨hl,hd,_,(rel.put k eb rv).keeps fun c ys ec=>?_,q,es,ep,hq,h2,h3,h4,h5⟩;rw [zP (zCj ec e (fun z=>nomatch z))];exact ec
end
end L2
namespace L3
open PySem PySem.Spec PyProof.Rows L2
open Builtin
theorem zFd:fillsNumberSlot (.type "tuple") "mul" = pure false :=
 PySem.fillsNumberSlot_seq (id := "tuple.__mul__") (r:=some (.builtin "tuple.__rmul__")) F.slot_tuple_mul.lookup (by decide +kernel) F.slot_tuple_rmul.lookup (by decide +kernel)
theorem zKS:seqRepeat? (.type "tuple") = pure (some (.builtin "tuple.__mul__")):=by
 unfold seqRepeat?;rw [PySem.seqSlot_of (T := "tuple") (name := "__mul__") (id := "tuple.__mul__") F.slot_tuple_mul.lookup (by decide +kernel),PySem.seqSlot_of (T := "tuple") (name := "__rmul__") (id := "tuple.__rmul__") F.slot_tuple_rmul.lookup (by decide +kernel)];rfl
theorem zOL (a:Int) (t:Tok) (l:Addr) (items:Array Value) (n:Nat) (dd:Option Addr) (sl:Array (Option Value)) :
  Meets (Builtin.«int.__rmul__» ⟨[.int a t,.ref l],[]⟩) (fun _ R s=>s.heap.get? l = some { cls:=.type "tuple", dict:=dd,data:=.seq items n,slots:=sl } /\ R (.ok (.ret Value.notImplemented)) s) :=
 .of_wp fun prog w A R s h=>by obtain ⟨hp,g,d,tk,os⟩:=s; obtain ⟨hl,h⟩:=h; wp_walk using wpAny_loadPart' hl; exact ⟨_,rfl,h⟩
theorem zIP (l:Addr) (items:Array Value) (n:Nat) (dd:Option Addr) (sl:Array (Option Value)) (u:Tok) :
  Meets (Builtin.«tuple.__mul__» ⟨[.ref l,.int 1 u],[]⟩) (fun _ R s=>s.heap.get? l = some { cls:=.type "tuple", dict:=dd,data:=.seq items n,slots:=sl } /\ R (.ok (.ret (.ref l))) s) :=
 .of_wp fun prog w A R s h=>by
  obtain ⟨hp,g,d,tk,os⟩:=s; obtain ⟨hl,h⟩:=h;have f1:=AutoSeq1.idx_int;wp_walk using wpAny_loadPart' hl;exact ⟨_,rfl,h⟩
theorem zId (l:Addr) (items:Array Value) (n:Nat) (dd:Option Addr) (sl:Array (Option Value)) (x:Int) (u:Tok) (h0:¬ (decide (x < -(2 ^ 63)) || decide (x ≥ 2 ^ 63)) = true) (h1:¬ (items.isEmpty || x == 1) = true) (h2:¬ (decide (x <= 0) || items.isEmpty) = true) (h3:¬ (items.size:Int) * x > (2 ^ 63 - 1) / 8) (h4:¬ Builtin.Tuple.tupleTooMany (items.size * x) = true)
  (hsz:(List.foldl (fun x1 x2=>x1 ++ x2) #[] (List.replicate x.toNat items)).size <= sizeLine) :
  Meets (Builtin.«tuple.__mul__» ⟨[.ref l,.int x u],[]⟩) (fun _ R s=>s.heap.get? l = some { cls:=.type "tuple", dict:=dd,data:=.seq items n,slots:=sl } /\ R (.ok (.ret (Value.ref s.heap.objs.size))) { s with heap:=s.heap.push { cls:=Value.type "tuple", data:=Data.seq (List.foldl (fun x1 x2=>x1 ++ x2) #[] (List.replicate x.toNat items)) },toks:=s.toks }) :=
 .of_wp fun prog w A R s h=>by
  obtain ⟨hp,g,d,tk,os⟩:=s; obtain ⟨hl,h⟩:=h;have f1:=AutoSeq1.idx_int;wp_walk using wpAny_loadPart' hl;rw [zUM h0];wp_walk using wpAny_loadPart' hl;rw [zUM h3];wp_walk using wpAny_loadPart' hl;all_goals first | exact ⟨_,rfl,h⟩ | skip
section
variable {X:Cx} {a b o e e2:Expr} {pos p apos cpos:Pos} {f g:FE}
def zQT (K:PySem.W.Frag):R2:=fun x y H Q=>∃ a k xs,x = .ref a /\ y = .int k /\ SqT K H a xs /\ xs ≠ [] /\ 1 <= k /\ xs.length * k.toNat <= sizeLine /\
 (k = 1 -> Q (.ref a) H) /\ (k ≠ 1 -> ∀ p,H p = none -> Q (.ref p) (upd H p (.tup (List.replicate k.toNat xs).flatten)))
theorem zQE:OpR X (binaryOp .Mult) (zQT X.K):=by
 intro zB s σ H x y v u Q I rx ry h;obtain ⟨a,k,xs,rfl,rfl,ha,hx,hk,hz,q1,q2⟩:=h;cases rx;obtain ⟨t,rfl⟩:=ry;obtain ⟨its,r,p1,_⟩:=I.tuple ha;obtain ⟨⟨cls,dd,data,sl⟩,ho,hc,n,hd⟩:=id p1;simp only at hc hd;subst hc hd;have hl:its.toArray.size = xs.length:=by rw [zUC]; exact r.length.symm
 have hx0:0 < xs.length:=List.length_pos_iff.mpr hx;have hkz:k.toNat <= sizeLine:=zUV (Nat.le_mul_of_pos_left _ hx0) hz;have hk63:k < 2 ^ 63:=by
  have:(sizeLine:Nat) < 2 ^ 62:=by decide
  omega
 refine wpAny_binaryOp_repeat_ref (T := "tuple") (U := "int") (by decide) ⟨_,ho,rfl⟩ (fun s'=>typeIs_int s' k t) zFd F.fills_int_mul F.slot_int_rmul zKS F.slot_int_index.lookup
  (call_meets F.slot_int_rmul (typeIs_int s k t) F.entry_int_rmul (F.args_int_rmul_2 _ _) (zOL k t a its.toArray n dd sl)
   ⟨ho,rfl,⟨_,ho,rfl⟩,?_⟩)
 by_cases h1:k = 1
 ·subst h1;exact call_meets F.slot_tuple_mul ⟨_,ho,rfl⟩ F.entry_tuple_mul (F.args_tuple_mul_2 _ _) (zIP a its.toArray n dd sl t) ⟨ho,⟨.ref a,H,I,rfl,q1 rfl⟩⟩
 ·have hnew:List.foldl (fun x1 x2=>x1 ++ x2) #[] (List.replicate k.toNat its.toArray) = (List.replicate k.toNat its).flatten.toArray:=by
   have:=zEg its k.toNat [];rw [zWM] at this;exact this
  have hlr:(List.replicate k.toNat its).flatten.length <= sizeLine:=by
   rw [zHO,<- r.length,Nat.mul_comm]; exact hz
  have hem:its.toArray.isEmpty = false:=by
   rw [Array.isEmpty_eq_false_iff]; intro z; rw [z] at hl; simp at hl; omega
  have hprod:((its.toArray.size:Int)) * k = ((xs.length * k.toNat:Nat):Int):=by
   rw [hl]; rw [Int.natCast_mul,show ((k.toNat:Nat):Int) = k by omega]
  refine call_meets F.slot_tuple_mul ⟨_,ho,rfl⟩ F.entry_tuple_mul (F.args_tuple_mul_2 _ _) (zId a its.toArray n dd sl k t ?_ ?_ ?_ ?_ ?_ ?_) ⟨ho,?_⟩
  ·rw [zUd (by omega),zUd (by omega)]; decide
  ·rw [hem,Bool.false_or]; intro z; exact h1 (eq_of_beq z)
  ·rw [hem,Bool.or_false,zUd (by omega)]; decide
  ·rw [hprod];have:(sizeLine:Nat) <= (2 ^ 63 - 1) / 8:=by decide
   omega
  ·rw [hprod];unfold Builtin.Tuple.tupleTooMany;rw [zUd (by omega)]; decide
  ·rw [hnew,zUC]; exact hlr
  ·rw [hnew];refine ⟨.ref s.heap.objs.size,_,I.laid (t':=s.toks) (o:=.tup (List.replicate k.toNat xs).flatten) (fun b ob q=>zT0 _ q) (zUA _) ?_,rfl,q2 h1 _ (I.hok.fresh (zUA _))⟩;exact ⟨by rw [zHO,Nat.mul_comm]; exact hz,_,r.rep k.toNat,zBb.new _ _⟩
theorem zH.rep {L:List Addr} {H:Hp} {ds:List D} {vs:List V} (h:zH L H ds vs):∀ k:Nat,zH L H (List.replicate k ds).flatten (List.replicate k vs).flatten
 | 0=> .nil
 | k + 1=>by
  rw [zVN,zVN,List.flatten_cons,List.flatten_cons];exact zH.app h (zH.rep h k)
def zHm:K2:=fun x y M=>match y with
 | .dat (.int k)=>match zBp x with
  | some xs=>if 0 < xs.length /\ 1 <= k /\ xs.length * k.toNat <= sizeLine then some (.dat (.tup (List.replicate k.toNat xs).flatten),M) else none
  | none=>match zGL M x with
   | some xs=>if -(2 ^ 63) <= k /\ k < 2 ^ 63 /\ xs.length * k.toNat <= sizeLine then some (.fl (List.replicate k.toNat xs).flatten,M) else none
   | none=>none
 | _=>none
theorem zO7 {K:PySem.W.Frag}:zCB K (fun x y H Q=>zSd x y H Q \/ zQT K x y H Q) zHm:=by
 intro L M M' H H0 x y d v w Q c rx ry hk q;unfold zHm at hk;split at hk
 ·rename_i k;have hw:w = .int k:=by unfold zT Rep at ry; exact ry
  subst hw;split at hk
  ·rename_i xs e1;split at hk
   ·rename_i hz;cases hk;obtain ⟨p1,vs,rfl,h1,r1⟩:=zCN rx e1;refine .inr ⟨p1,k,vs,rfl,rfl,.of h1,?_,hz.2.1,by rw [r1.length]; exact hz.2.2,fun z=>?_,fun z pp hp=>?_⟩
    ·intro z; have:=r1.length; rw [z] at this; simp at this; omega
    ·subst z;refine q L H _ (.refl L H) c ?_;have:(List.replicate (1:Int).toNat xs).flatten = xs:=by simp
     rw [this];unfold zT Rep;exact ⟨p1,vs,rfl,h1,r1⟩
    ·exact q L _ _ (.upd hp) (c.upd hp) (Rep.newTup hp (r1.rep k.toNat))
   ·cases hk
  ·split at hk
   ·rename_i xs e1;split at hk
    ·rename_i hz;cases hk;obtain ⟨l,vs,rfl,h1,r1⟩:=zKi c rx e1;refine .inl ⟨l,k,vs,rfl,rfl,h1,hz.1,hz.2.1,by rw [r1.length]; exact hz.2.2,fun p hp=>?_⟩;exact q L _ _ (.upd hp) (c.upd hp) (zT.newLst (.refl L H) c c hp (r1.rep k.toNat))
    ·cases hk
   ·cases hk
 ·cases hk
theorem zS3 (h1:QE X a f) (h2:QE X b g):QE X (.BinOp a .Mult b pos) (fOp zHm f g):=zIY zO7 (zRK.or zQE) h1 h2
end
end L3
namespace HT
open PySem PySem.Spec PyProof.Rows
end HT
namespace L3
open PySem PySem.Spec PyProof.Rows L2
section
variable {prog:Program} {w:World} {A:Around} {E:Value -> Shared -> Prop} {s:Shared}
theorem zM6 {l:Addr} {its:List Value} {n:Nat} {i:Int} {t:Tok} {u2:Value} {Q:Value -> Shared -> Prop} (e:s.heap.get? l = some { cls:=.type "list", data:=.seq its.toArray n }) (hfit:¬ (!Builtin.List.listFitsIndex i) = true) (h0:¬ (i < 0)) (hz:its.toArray.size <= sizeLine)
  (h:∀ g:Array Value -> Array Value,g its.toArray = (its.take (min i.toNat its.length) ++ [u2] ++ its.drop (min i.toNat its.length)).toArray -> Q .none { s with heap:=s.heap.update l (Obj.mapSeq g),toks:=s.toks }) :
  wpAny (model prog w) A (call (.builtin "list.insert") [.ref l,.int i t,u2]) Q E s:=by
 have hm:=@AutoSeq1.list_insert_list_int_val_1 l its.toArray n i t u2 hfit hz;have h1:s.TypeIs (.ref l) "list" := ⟨_,e,rfl⟩;refine call_meets (B:=Builtin.«list.insert») (self:=.ref l) (rest:=[.int i t,u2]) F.slot_list_insert h1 F.entry_list_insert (F.args_list_insert_3 _ _ _) hm ⟨e,?_⟩;refine h _ ?_;simp only [h0,if_false,zUC];simp;exact List.take_of_length_le (by simp)
end
section
variable {X:Cx} {a o x1 x2:Expr} {pos p apos cpos:Pos} {f:FE}
def zKr:V -> List V -> Hp -> VK -> Prop:=fun x vs H Q=>∃ (l:Addr) (i:Int) (y:V) (xs:List V),x = .ref l /\ vs = [.int i,y] /\ H l = some (.lst xs) /\ 0 <= i /\ i.toNat <= xs.length /\ xs.length < sizeLine /\ Q .non (upd H l (.lst (xs.take i.toNat ++ [y] ++ xs.drop i.toNat)))
theorem zMI:MtM X "list.insert" zKr:=by
 intro zB s σ H x vs v us Q I rx rv h;obtain ⟨l,i,y,xs,rfl,rfl,hH,h0,hi,hz,q⟩:=h;cases rx;obtain ⟨u,u2,rfl,⟨t,rfl⟩,ru2⟩:=rv.two;obtain ⟨z,its,n,r,hl,e⟩:=I.lstM hH;have hs:(sizeLine:Nat) < 2 ^ 62:=by decide
 have hi1 : -(2 ^ 63) <= i:=by omega
 have hi2:i < 2 ^ 63:=by omega
 refine zM6 (its:=its) e (by rw [fitsIndex_both hi1 hi2]; exact zUQ) (by omega) (by rw [zUC,<- hl]; exact zW0 hz) fun g hg=>?_;rw [Nat.min_eq_left (by omega)] at hg;exact ⟨.non,_,I.lset (its':=its.take i.toNat ++ [u2] ++ its.drop i.toNat) (ys:=xs.take i.toNat ++ [y] ++ xs.drop i.toNat) hH e hg (((r.take i.toNat).append (.cons ru2 .nil)).append (r.drop i.toNat)) (by simp; omega),rfl,q⟩
def zC8:KM:=fun x ds M=>match x,ds with
 | .dat (.ref n),[.int i,d]=>match M[n]? with
  | some (.lst xs)=>if 0 <= i /\ i.toNat <= xs.length /\ xs.length < sizeLine then some (.non,M.set n (.lst (xs.take i.toNat ++ [d] ++ xs.drop i.toNat))) else none
  | _=>none
 | _,_=>none
theorem zGg {L:List Addr} {H:Hp}:∀ (k:Nat) {ds:List D} {vs:List V},zH L H ds vs -> zH L H (ds.take k) (vs.take k)
 | 0,_,_,_=> .nil
 | k + 1,[],vs,h=>by unfold zH at h; subst h; exact .nil
 | k + 1,d :: ds,vs,h=>by
  unfold zH at h;obtain ⟨v,r,rfl,h1,h2⟩:=h;exact .cons h1 (zGg k h2)
theorem zG2 {L:List Addr} {H:Hp}:∀ (k:Nat) {ds:List D} {vs:List V},zH L H ds vs -> zH L H (ds.drop k) (vs.drop k)
 | 0,_,_,h=>h
 | k + 1,[],vs,h=>by unfold zH at h; subst h; exact .nil
 | k + 1,d :: ds,vs,h=>by
  unfold zH at h;obtain ⟨v,r,rfl,h1,h2⟩:=h;exact zG2 k h2
theorem zKX {K:PySem.W.Frag}:zRi K zKr zC8:=by
 intro L M M' H H0 x ds d v vs Q c rx rd hk q;unfold zC8 at hk;split at hk
 ·rename_i n i d';split at hk
  ·rename_i xs e1;split at hk
   ·rename_i hz;cases hk;unfold zT Rep at rx;obtain ⟨a,rfl,e2⟩:=rx;obtain ⟨ws,e3,r3⟩:=c.obj n a _ e2 e1;obtain ⟨w1,w2,rfl,r4,r5⟩:=rd.two;have hw:w1 = .int i:=by unfold Rep at r4; exact r4
    subst hw;obtain ⟨c5,s5⟩:=c.write e2 e1 (((zGg i.toNat r3).app (.cons r5 .nil)).app (zG2 i.toNat r3));exact ⟨a,i,w2,ws,rfl,rfl,e3,hz.1,by rw [r3.length]; exact hz.2.1,by rw [r3.length]; exact hz.2.2,q L _ _ s5 c5 (by unfold Rep; rfl)⟩
   ·cases hk
  ·cases hk
 ·cases hk
theorem zNO {fg:FA} (h:QE X a f) (hg:QA X [x1,x2] fg) (hbase:attributeBase a "insert" X.env (eval a X.env) = eval a X.env:=by rfl)
  (hfew:((backTo cpos (starEach [x1,x2] X.env)).all (fun x=> !x.1) && (backToKw cpos (keywordEach [] X.env)).all (fun x=>x.1.isSome) && decide ([x1,x2].length + ([]:List Keyword).length + (if ([]:List Keyword).isEmpty then 0 else 1) < 30)) = true:=by rfl)
  (hline:(apos.endLine == cpos.line) = true:=by rfl) (hs:starEach [x1,x2] X.env = (false,eval x1 X.env) :: starEach [x2] X.env:=by rfl) (hplain:(backTo cpos (starEach [x2] X.env)).any (·.1) = false:=by rfl) :
  QE X (.Call (.Attribute a "insert" apos) [x1,x2] [] cpos) (fM zC8 f fg) :=
 .mk <| PE.imp (zQO PySem.F.plainAttrs_list PySem.F.slot_list_insert PySem.F.type_list_insert zMI h.un hg.un hbase hfew hline hs hplain) fun _ _ _ z=>zNk zKX z
end
end L3
namespace L2
open PySem PySem.Spec PyProof.Rows
end L2
namespace L3
open PySem PySem.Spec PyProof.Rows L2
end L3
namespace L2
open PySem PySem.Spec PyProof.Rows
section
variable {X:Cx} {pos:Pos} {k v:Expr} {tk tv:TE}
theorem zLz (hu:X.A.units + 1 < cLine) (hk:PE X k tk) (hv:PE X v tv) :
  PE X (.Dict [some k] [v] pos) (fun σ H Q=>∀ p,H p = none -> tk σ (upd H p (.dT [])) fun x H1=>tv σ H1 fun y H2=>∃ H3,zE6 H2 p x y H3 /\ Q (.ref p) H3):=by
 intro zB s σ H Q I q;have hn:=I.hok.fresh (zUA s.heap.objs.size);have I1:=I.laid (a:=s.heap.objs.size) (o:=.dT []) (h':=s.heap.push { cls:=.type "dict", data:=.dict #[] }) (t':=s.toks) (fun _ _ q=>zT0 _ q) (zUA _) (zJI s.heap I.big);rw [arm_eval_Dict,zip_pairTrees [some k] [v] X.env pos rfl rfl,dictDisplay_pairs _ (by simp [pairTrees]) (by simp [pairTrees])];refine zTz (wpAny_standAt (zTz ?_));unfold subDict;refine zTz (wpAny_alloc ?_);refine zTz (zUx ?_);rw [zUJ (by simp [pairTrees])];refine zTz (thn (zDz hk hv zLT zB _ σ _ (fun ps H2=>match ps with | [(x,y)]=>∃ H3,zE6 H2 s.heap.objs.size x y H3 /\ Q (.ref s.heap.objs.size) H3 | _=>False) I1 (q _ hn)) fun vs s1 ⟨ps,H2,I2,rel,hq⟩=>?_);cases rel with
 | nil=>exact hq.elim
 | @cons a b as bs hab t=>
  cases t with
  | cons _ _=>exact hq.elim
  | nil=>
   obtain ⟨x,y⟩:=a;obtain ⟨H3,hp,q3⟩:=hq;obtain ⟨u,r⟩:=b;refine zUx ?_;rw [List.forIn_cons];refine zTz (zTz ?_);show wpAny _ _ (dictSet s.heap.objs.size u r >>= fun _=>pure (ForInStep.yield PUnit.unit)) _ _ s1;refine zTz (zMb hu I2 hp hab.1 hab.2 fun s' I' hs=>zT6 ?_);show wpAny _ _ (forIn [] PUnit.unit _) _ _ s';rw [List.forIn_nil];exact zT6 (zT6 (zT6 (zT6 ⟨.ref s.heap.objs.size,H3,I',rfl,q3⟩)))
end
end L2
namespace L3
open PySem PySem.Spec PyProof.Rows L2
section
variable {X:Cx} {a b:Expr} {pos:Pos}
def zCu (fk fv:FE):FE:=fun σ M=>match toD fk σ (M ++ [.dicT []]) with
 | some (k,M1)=>match toD fv σ M1 with
  | some (v,M2)=>match zCr M2 M.length k v with
   | some M3=>some (.dat (.ref M.length),M3)
   | none=>none
  | none=>none
 | none=>none
theorem zPA {fk fv:FE} (hu:X.A.units + 1 < cLine) (h1:QE X a fk) (h2:QE X b fv):QE X (.Dict [some a] [b] pos) (zCu fk fv):=.mk <| PE.imp (zLz hu (zAY h1).un (zAY h2).un) fun τ H Q ⟨L,σ,M,d,M',c,rs,hf,q⟩ p hp=>by
 unfold zCu at hf;split at hf
 ·rename_i k M1 e1;split at hf
  ·rename_i v M2 e2;split at hf
   ·rename_i M3 e3;cases hf;obtain ⟨c0,s0⟩:=c.pushO (m:=.dicT []) (o:=.dT []) hp ⟨[],zg,rfl⟩;refine ⟨L ++ [p],σ,_,_,_,c0,rs.stp s0,e1,fun L1 H1 x st1 c1 r1=>⟨L1,σ,M1,_,_,c1,(rs.stp s0).stp st1,e2,fun L2 H2 y st2 c2 r2=>?_⟩⟩;have st:=(s0.trans st1).trans st2;have lp:L2[M.length]? = some p:=by
     obtain ⟨N,hN⟩:=(st1.trans st2).pre;rw [hN,<- c.len]; simp
    obtain ⟨H3,hd,c3,s3⟩:=zIc c2 lp (r1.stp st2) r2 e3;refine ⟨H3,hd,q _ _ _ (st.trans s3) c3 ?_⟩;unfold zT Rep;exact ⟨p,rfl,lp⟩
   ·cases hf
  ·cases hf
 ·cases hf
end
open SeqAt
structure Df (K:PySem.W.Frag) (mg:Str -> Option Value) (x:Str) (st:Stmt) (ps:List Str) where
 f:Addr
 fd:FuncData
 F:Fun K x x st f fd
 b:zDM K fd ps []
 m:mg x = some (.ref f)
structure Dg (K:PySem.W.Frag) (x:Str) (st:Stmt) where
 f:Addr
 {od an:Option Addr}
 {sl:Array (Option Value)}
 {oc kV dc pm cd ct:Value}
 a:PySem.W.nsIn K mainGlobals x = some (some (.ref f))
 l:K.lookup f = some ⟨oc,od,.func (PySem.W.fnOf x x (zCX st) (zBS st) (zO st) .none kV dc pm an cd ct),sl⟩
 c:PySem.W.codeIn K cd x = true
 k:PySem.W.keepIn K (.ref f) = true
abbrev Dg.df {K:PySem.W.Frag} {x:Str} {st:Stmt} {ps:List Str} {h:Heap} {mg:Str -> Option Value} (g:Dg K x st) (X:K.In h) (G:h.Ns mainGlobals mg)
  (hb:∀ (kV doc pm:Value) (an:Option Addr) (cdv ct:Value) (us:List Value),us.length = ps.length -> bindArgs (PySem.W.fnOf x x (zCX st) (zBS st) (zO st) .none kV doc pm an cdv ct) ⟨us,[]⟩ = pure (ps.zip us)):Df K mg x st ps :=
 ⟨g.f,_,zOd g.l g.c g.k,(zOd g.l g.c g.k).binds hb,PySem.W.mg_of X G g.a⟩
abbrev Od (P:Program) (w:World) (base:Heap) (k:Nat) {K:PySem.W.Frag} {mg:Str -> Option Value} {x:Str} {st:Stmt} {ps:List Str} (d:Df K mg x st ps) (m:FF):Prop:=FnOk P w K mg base CX0 k d.f d.fd ps (spF K ps.length m)
abbrev Zn (K:PySem.W.Frag) (x:Str):Prop:=PySem.W.nsIn K mainGlobals x = some none
abbrev Ki (K:PySem.W.Frag) (t T:String) (b:Bool):Prop:=PySem.W.kitOne K (.type t) (.type T) = some b
theorem zR4 {P:List Value -> Prop} (h:∀ a,P [a]):∀ us:List Value,us.length = 1 -> P us
 | [a],_=>h a
theorem zJ0 {P:List Value -> Prop} (h:∀ a b,P [a,b]):∀ us:List Value,us.length = 2 -> P us
 | [a,b],_=>h a b
theorem zJu {P:List Value -> Prop} (h:∀ a b c,P [a,b,c]):∀ us:List Value,us.length = 3 -> P us
 | [a,b,c],_=>h a b c
theorem zSh {P:List Value -> Prop} (h:∀ a b c d,P [a,b,c,d]):∀ us:List Value,us.length = 4 -> P us
 | [a,b,c,d],_=>h a b c d
section
variable {X:Cx} {e:Expr} {es:List Expr} {pos p:Pos} {x:Str} {k:Nat} {st:Stmt} {ps:List Str}
theorem zRZ {g:FF} {fa:FA} {d:Df X.K X.mg x st ps} (F:FnOk X.prog X.w X.K X.mg X.base CX0 k d.f d.fd ps (spF X.K (e :: es).length g)) (hr:Room k X.A) (hg:Gl X x)
  (ha:QA X (e :: es) fa) (hl:∀ σ M ds M1,fa σ M = some (ds,M1) -> ds.length = (e :: es).length) (hdb:(x == ("__debug__" : Str)) = false) (he:starEach (e :: es) X.env = (false,eval e X.env) :: starEach es X.env) (hpl:(backTo pos (starEach es X.env)).any (·.1) = false) :
  QE X (.Call (.Name x p) (e :: es) [] pos) (zW g fa):=zQp F hr hg d.m d.F.kp d.b ha hl hdb he hpl
theorem zTn {i:Nat} {f:FE} {pos':Pos} (hN:X.N.Nodup) (hi:X.N[i]? = some x) (h:QE X e f) (hx:Loc X.env.scope x:=by first | exact Or.inl rfl | exact Or.inr rfl) (hs:swapsWith e (some (.Name x pos')) pos.line X.env = pure false:=by rfl)
  (hf:X.fn x = true \/ X.env.scope.names.lookup x = some .local:=by first | exact .inl rfl | exact .inr rfl | assumption):QS X (.Assign [.Name x pos'] e pos) (zk i f):=zSy hN hi hx h hs hf
theorem zOO {i:Nat} (hN:X.N.Nodup) (hi:X.N[i]? = some x) (hx:Loc X.env.scope x:=by first | exact Or.inl rfl | exact Or.inr rfl) (hf:X.fn x = true \/ X.env.scope.names.lookup x = some .local:=by first | exact .inl rfl | exact .inr rfl | assumption):PG X (.Name x pos) (zDJ i):=zLO hN hi hx hf
end
section
variable {prog:Program} {w:World} {A:Around} {E:Value -> Shared -> Prop} {s:Shared} {it d v:Addr} {i ep:Nat} {ok ov:Value} {o:Obj} {es:Array DictEntry}
theorem zG6 {Q:Value -> Shared -> Prop} (hv:s.heap.IsItemsView v d) (ho:s.heap.get? d = some o) (hdat:o.data = .dict es ep)
  (hQ:Q (.ref s.heap.objs.size) { s with heap:=s.heap.push { cls:=.type "dict_itemiterator", data:=.fields #[.none,.bool false,.ref d,.int 0 0,.int es.size 0,.int ep 0,.none,.none] } }):wpAny (model prog w) A (pyIter (.ref v)) Q E s:=by
 obtain ⟨q,hq,_,hd⟩:=id hv;refine wpAny_pyIter_slot hv.typeIs F.slot_dict_items_iter (zUh F.slot_dict_items_iter hv.typeIs F.entry_dict_items_iter ?_ (F.args_dict_items_iter_1 _));unfold Builtin.«dict_items.__iter__»;refine zTz (zT6 (zTz ?_));unfold Builtin.Dict_items.dictOf;refine zTz (zUj hq hd (x:=.ref d) rfl (zT6 (zTz ?_)));unfold Builtin.Dict_items.newIterator;refine zTz (wpAny_dictEntries ho hdat (zTz (wpAny_dictEpoch ho hdat ?_)));simp only [show Builtin.Dict_items.ownsTuple "dict_itemiterator" = true by decide,if_true];refine zUX (zT6 ⟨_,rfl, "dict_itemiterator", _,⟨_,zUE _ rfl,rfl⟩,F.slot_dict_itemiterator_next.lookup,?_⟩) (by simp only [sizeOk,Builtin.Dict_items.ownedTupleFields,zUC,zUK,zUb,zVY,sizeLine_eq]; omega);simpa [rawInt,Builtin.Dict_items.ownedTupleFields] using hQ
theorem zFT {Q:Option Value -> Shared -> Prop} (hh:A.handled = none) (hit:IsItemIter s.heap it d i es.size ep ok ov) (hod:s.heap.get? d = some o) (hdd:o.data = .dict es ep) (hge:es.size <= i)
  (hQ:∀ h',Heap.ExtBut it s.heap h' -> Q none { s with heap:=h' }):wpAny (model prog w) A (pyNext (.ref it)) Q E s:=by
 have hT:s.TypeIs (.ref it) "dict_itemiterator" := ⟨_,hit,rfl⟩;unfold pyNext;refine zTz (zVf (zUg (name:=Str.ofString "__next__") hT F.slot_dict_itemiterator_next (zUh F.slot_dict_itemiterator_next hT F.entry_dict_itemiterator_next ?_ (F.args_dict_itemiterator_next_1 _))));refine zTz (zT6 (zTz (zTz ?_)));first | refine zTz (wpAny_typeNameOfWhole_itemiter hT (zT6 ?_)) | refine zTz (wpAny_typeNameOf_itemiter hT (zT6 ?_))
 refine zTz (wpAny_fieldsOf hit rfl ?_);simp only [show Builtin.Dict_items.ownsTuple "dict_itemiterator" = true by decide,if_true];show wpAny _ _ (if (Value.ref d == Value.none) = true then _ else _) _ _ s;rw [zUM (show ¬ ((Value.ref d == Value.none) = true) from zUQ)];refine zTz (zT6 (zTz (wpAny_dictEntries hod hdd ?_)));rw [zUM (by simp)];refine zTz (zT6 (zTz (wpAny_dictEpoch hod hdd ?_)));rw [zUM (by simp)];refine zT6 ?_;simp only [show ¬ ((i:Int) < 0) from by omega,if_false,zWo,Array.getElem?_eq_none hge];refine zTz ?_;first | refine zTz (wpAny_typeNameOfWhole_itemiter hT (zT6 ?_)) | refine zTz (wpAny_typeNameOf_itemiter hT (zT6 ?_))
 show wpAny _ _ (setField (.ref it) 2 .none >>= _) _ _ s;refine zTz (zVp hit rfl (by simp) ?_);show wpAny _ _ (newExc (.type "StopIteration") [] >>= _) _ _ _;refine zTz ?_;simp only [newExc,newTuple];refine zTz (zUX ?_ (by size_fits));refine zTz (m:=firstArgMember _ _) (wpAny_of_eq (a:=Value.none) (by first | rfl | (simp only [firstArgMember]; rfl)) ?_);refine zUX ?_ (by size_fits);simp only [raiseNew];refine zTz (wpAny_handled ?_);rw [show A.in1.handled = none from hh];refine zTz (zT6 (wpAny_throw ?_));refine zTz (wpAny_isInstance (T := "StopIteration") (b:=true) ⟨_,zUE _ rfl,rfl⟩ isSubtype_stop ?_);exact zT6 (hQ _ (((zU7 ..).extBut.push _).push _))
theorem zJp {e:DictEntry} {Q:Option Value -> Shared -> Prop} (hit:IsItemIter s.heap it d i es.size ep ok ov) (hod:s.heap.get? d = some o) (hdd:o.data = .dict es ep) (hx:es[i]? = some e)
  (hQ:∀ h',IsItemIterOut h' it d (i + 1) es.size ep e.key e.val s.heap.objs.size -> h'.get? s.heap.objs.size = some { cls:=.type "tuple", data:=.seq #[e.key,e.val] } -> (∀ b o,b ≠ it -> s.heap.get? b = some o -> h'.get? b = some o) -> Q (some (.ref s.heap.objs.size)) { s with heap:=h' }) :
  wpAny (model prog w) A (pyNext (.ref it)) Q E s:=by
 obtain ⟨hp,g,dr,tk,os⟩:=s;have hT:Shared.TypeIs ⟨hp,g,dr,tk,os⟩ (.ref it) "dict_itemiterator" := ⟨_,hit,rfl⟩;obtain ⟨hlt,hxe⟩:=Array.getElem?_eq_some_iff.mp hx;unfold pyNext;refine zTz (zVf (zUg (name:=Str.ofString "__next__") hT F.slot_dict_itemiterator_next (zUh F.slot_dict_itemiterator_next hT F.entry_dict_itemiterator_next ?_ (F.args_dict_itemiterator_next_1 _))));refine zTz (zT6 (zTz (zTz ?_)));first | refine zTz (wpAny_typeNameOfWhole_itemiter hT (zT6 ?_)) | refine zTz (wpAny_typeNameOf_itemiter hT (zT6 ?_))
 refine zTz (wpAny_fieldsOf hit rfl ?_);simp only [show Builtin.Dict_items.ownsTuple "dict_itemiterator" = true by decide,if_true];show wpAny _ _ (if (Value.ref d == Value.none) = true then _ else _) _ _ _;rw [zUM (show ¬ ((Value.ref d == Value.none) = true) from zUQ)];refine zTz (zT6 (zTz (wpAny_dictEntries hod hdd ?_)));rw [zUM (by simp)];refine zTz (zT6 (zTz (wpAny_dictEpoch hod hdd ?_)));rw [zUM (by simp)];refine zT6 ?_;simp only [show ¬ ((i:Int) < 0) from by omega,if_false,zWo,zUp hlt,hxe];refine zTz ?_;first | refine zTz (wpAny_typeNameOfWhole_itemiter hT (zT6 ?_)) | refine zTz (wpAny_typeNameOf_itemiter hT (zT6 ?_))
 refine zTz (wpAny_isOneOf_itemiter hT ?_);show wpAny _ _ (setField (.ref it) 3 (rawInt ((i:Int) + 1)) >>= _) _ _ ⟨hp,g,dr,tk,os⟩;refine zTz (zVK hit (by simp) fun h1 he1 hs1=>?_);replace hs1:Heap.SameBut it hp h1:=hs1;replace he1:IsItemIter h1 it d (i + 1) es.size ep ok ov:=by
  have q:((i + 1:Nat):Int) = (i:Int) + 1:=by omega
  unfold IsItemIter; rw [q]; simpa [rawInt] using he1
 have hT1:Shared.TypeIs ⟨h1,g,dr,tk,os⟩ (.ref it) "dict_itemiterator" := ⟨_,he1,rfl⟩;refine zTz (zUx (zTz (wpAny_isOneOf_itemiter hT1 (zTz (wpAny_isOneOf_itemiter hT1 ?_)))));show wpAny _ _ (Builtin.Dict_items.pairFromOwner (.ref it) 6 e.key e.val) _ _ ⟨h1,g,dr,tk,os⟩;unfold Builtin.Dict_items.pairFromOwner;refine zTz (wpAny_newTuple ?_);have he2:IsItemIter (h1.push { cls:=.type "tuple", data:=.seq #[e.key,e.val] }) it d (i + 1) es.size ep ok ov:=zT0 _ he1;generalize hh2:h1.push { cls:=.type "tuple", data:=.seq #[e.key,e.val] } = h2 at he2;have z1:h1.objs.size = hp.objs.size:=hs1.1;have hil:it < hp.objs.size:=zUF hit;have t2:h2.get? hp.objs.size = some { cls:=.type "tuple", data:=.seq #[e.key,e.val] }:=by rw [<- hh2,<- z1]; exact zUE _ rfl
 have k2:∀ b o,b ≠ it -> hp.get? b = some o -> h2.get? b = some o:=fun b o hb q=>by rw [<- hh2]; exact zT0 _ (hs1.extBut b o hb q)
 show wpAny _ _ (Builtin.Dict_items.ownedTupleIsFree (.ref it) >>= _) _ _ ⟨h2,g,dr,tk,os⟩;rw [z1];clear hh2 he1 hs1 hT1 z1 h1;refine zTz ?_;unfold Builtin.Dict_items.ownedTupleIsFree;refine zTz (zUj he2 rfl (x:=.none) rfl (zT6 ?_));simp only [if_true];refine zTz (zUj he2 rfl (x:=ok) rfl (zTz (zUj he2 rfl (x:=ov) rfl ?_)));refine zTz (zVK he2 (by simp) fun h3 he3 hs3=>?_);replace he3:IsItemIter h3 it d (i + 1) es.size ep e.key ov:=he3;replace hs3:Heap.SameBut it h2 h3:=hs3;refine zTz (zVK he3 (by simp) fun h4 he4 hs4=>?_);replace he4:IsItemIter h4 it d (i + 1) es.size ep e.key e.val:=he4;replace hs4:Heap.SameBut it h3 h4:=hs4;refine zTz (zVK he4 (by simp) fun h5 he5 hs5=>?_);replace he5:IsItemIterOut h5 it d (i + 1) es.size ep e.key e.val hp.objs.size:=he5;replace hs5:Heap.SameBut it h4 h5:=hs5;refine zTz (zVK he5 (by simp) fun h6 he6 hs6=>?_);replace he6:IsItemIterOut h6 it d (i + 1) es.size ep e.key e.val hp.objs.size:=he6;replace hs6:Heap.SameBut it h5 h6:=hs6;have up:∀ b o,b ≠ it -> h2.get? b = some o -> h6.get? b = some o:=fun b o hb q=>hs6.extBut b o hb (hs5.extBut b o hb (hs4.extBut b o hb (hs3.extBut b o hb q)));exact zTz (wpAny_letGo (zT6 (zT6 ⟨_,rfl,zT6 (hQ h6 he6 (up _ _ (zVZ hil) t2) fun b o hb q=>up b o hb (k2 b o hb q))⟩)))
theorem zD5 (d:Addr) (hd:(d == sysModules) = false) :
  MeetsIn prog w (Builtin.«dict.items» ⟨[.ref d],[]⟩) (fun _ R s=>s.TypeIs (.ref d) "dict" /\ R (.ok (.ret (.ref s.heap.objs.size))) { s with heap:=s.heap.push { cls:=.type "dict_items", data:=.fields #[.ref d] } }) :=
 .of_wp fun A R s ⟨hT,h⟩=>by
  unfold Builtin.«dict.items»;refine zTz ?_;unfold Builtin.Dict.noArgs;refine zTz (wpAny_notOrdered_dict hT ?_);show wpAny _ _ (pure d) _ _ s;refine zT6 ?_;show wpAny _ _ (Builtin.Dict.showsAll d >>= _) _ _ s;unfold Builtin.Dict.showsAll;rw [zUM (by rw [hd]; exact zUQ)];exact zTz (zT6 (zTz (zUX (zT6 ⟨_,rfl,h⟩))))
end
theorem zFP:entryFor table "dict_itemiterator.__iter__" = some Builtin.«dict_keyiterator.__iter__»:=entryFor_alias (id' := "dict_keyiterator.__iter__") (by kernel_rfl) rfl (by decide +kernel) (by kernel_rfl)
theorem zGJ {prog:Program} {w:World} {A:Around} {E:Value -> Shared -> Prop} {s:Shared} {it d:Addr} {i n ep:Nat} {ok ov:Value} {Q:Value -> Shared -> Prop} (he:IsItemIter s.heap it d i n ep ok ov) (h:Q (.ref it) s):wpAny (model prog w) A (pyIter (.ref it)) Q E s:=by
 have hT:s.TypeIs (.ref it) "dict_itemiterator" := ⟨_,he,rfl⟩;refine wpAny_pyIter_slot hT F.slot_dict_itemiterator_iter (zUh F.slot_dict_itemiterator_iter hT zFP ?_ (F.args_dict_itemiterator_iter_1 _));show wpAny _ _ (ret (.ref it)) _ _ s;exact zT6 ⟨_,rfl, "dict_itemiterator", _,hT,F.slot_dict_itemiterator_next.lookup,h⟩
def zM1 (d:Addr) (o:Obj) (kvs:List (List Key × V)):It :=
 ⟨fun i H=>H d = some (.frz o (.dT kvs)) /\ i < kvs.length,
  fun i H v H'=>∃ T b k x,kvs[i]? = some (k,x) /\ v = .ref T /\ H T = none /\ H b = some (.tup (k.map kV)) /\ H' = upd H T (.tup [.ref b,x]),
  fun i H=>H d = some (.frz o (.dT kvs)) /\ kvs.length <= i⟩
theorem zNg {X:Cx} {zB:List (Addr × Obj)} {σ:L2.St} {H:Hp} {s:Shared} {d:Addr} {o:Obj} {kvs:List (List Key × V)} {es:Array DictEntry} {ep:Nat} (I:Inv X zB σ H s) (hd:o.data = .dict es ep) (e:H d = some (.frz o (.dT kvs))) :
  s.heap.get? d = some o /\ ∃ xs,KT H kvs xs /\ es.toList = xs.map (entryOfKey (tupleKind (zu X.prog X.w))) /\ kvs.length = es.size:=by
 obtain ⟨h0,_,_,xs,r,o',es',ep',h1,_,h3,h4,_⟩:=(show zn X.prog X.w H s.heap d (.frz o (.dT kvs)) from I.hok d _ e);rw [h0] at h1; cases h1;rw [hd] at h3; cases h3;refine ⟨h0,xs,r,h4,?_⟩;have h5:es.toList.length = xs.length:=by rw [h4,zUD]
 rw [Paired.length r,<- h5,zUn]
theorem zQW {H:Hp}:∀ {kvs:List (List Key × V)} {xs:List (List Key × Addr × Value)} {i:Nat} {k:List Key} {x:V},KT H kvs xs -> kvs[i]? = some (k,x) -> ∃ b u,xs[i]? = some (k,b,u) /\ H b = some (.tup (k.map kV)) /\ ze x u:=by
 intro kvs xs i k x r;induction r generalizing i with
 | nil=>intro e; cases e
 | @cons p q ps qs hq t ih=>
  intro e;cases i with
  | zero=>
   cases e;obtain ⟨q1,q2,q3⟩:=q;exact ⟨q2,q3,by rw [show k = q1 from hq.1]; rfl,hq.2.1,hq.2.2⟩
  | succ j=>exact ih e
theorem zFe {P:Program} {w:World} {K:PySem.W.Frag} {tes:List Expr} {ek:Nat} {ep:Pos} {it d:Addr} {o:Obj} {kvs:List (List Key × V)} {es:Array DictEntry} {en:Nat} (hd:o.data = .dict es en) :
  Turn P w K (.Tuple tes ek ep) (zM1 d o kvs) [it] it (fun i h=>∃ ok ov,IsItemIter h it d i es.size en ok ov) where
 mem:=zUW.mpr rfl;obj:=fun i h ⟨ok,ov,he⟩ c hc=>by
  cases zUW.mp hc;exact ⟨_,he,fun v m=>by cases m⟩
 keep:=fun i h h' ⟨ok,ov,he⟩ k=>⟨ok,ov,k it (zUW.mpr rfl) _ he⟩;item:=by
  intro X hP hw hK hc i zB s σ H E I hf Z hg;subst hP hw hK;obtain ⟨ok,ov,he⟩:=Z;obtain ⟨hg,hi⟩:=hg;obtain ⟨h0,xs,r,h4,hl⟩:=zNg I hd hg;rcases hkx:kvs[i] with ⟨k,x⟩;have hk:kvs[i]? = some (k,x):=by rw [zT8 hi,hkx]
  obtain ⟨b,u,h5,h6,h7⟩:=zQW r hk;have hx:es[i]? = some (entryOfKey (tupleKind (zu X.prog X.w)) (k,b,u)):=by
   rw [<- zVj,h4,zUR,h5]; rfl
  have ilt:it < s.heap.objs.size:=zUF he;refine zJp he h0 hd hx fun h' ho hT kp=>⟨_,rfl,wpAny_letOwnedTupleGo_items ho fun h2 he2 e2=>?_⟩;have kk:∀ c q,c ∉ [it] -> s.heap.get? c = some q -> h2.get? c = some q:=fun c q n z=>e2.extBut _ _ (fun y=>n (zUW.mpr y)) (kp c q (fun y=>n (zUW.mpr y)) z);have NT:=e2.extBut _ _ (zVZ ilt) hT;have hfr:H s.heap.objs.size = none:=I.hok.fresh (zUA _);refine ⟨.ref s.heap.objs.size,upd H s.heap.objs.size (.tup [.ref b,x]),zEs (s:=s) (h':=h2) (t':=s.toks) I hf kk (zUA _) ?_,rfl,⟨_,b,k,x,hk,rfl,hfr,h6,rfl⟩,⟨_,_,he2⟩,fun c hm=>?_⟩
  ·exact ⟨by show 2 <= sizeLine; decide,[.ref b,u],.cons rfl (.cons h7 .nil),⟨_,NT,rfl,⟨_,rfl⟩,rfl⟩⟩
  ·cases zUW.mp hm;rw [zP (zUP ilt)];exact (hf it hm).1
 done:=by
  intro X hP hw hK hc i zB s σ H E I hf Z hg;subst hP hw hK;obtain ⟨ok,ov,he⟩:=Z;obtain ⟨hg,hi⟩:=hg;obtain ⟨h0,xs,r,h4,hl⟩:=zNg I hd hg;exact zFT (I.ok.hd hc) he h0 hd (by omega) fun h' x=>⟨rfl,zGd (s:=s) (h':=h') (t':=s.toks) I hf fun c q n z=>x c q (fun y=>n (zUW.mpr y)) z⟩
 self:=fun A i s Q E Z h=>by
  obtain ⟨ok,ov,he⟩:=Z;exact zGJ he h
theorem zRo {X:Cx} {zB:List (Addr × Obj)} {σ:L2.St} {H:Hp} {s:Shared} {d:Addr} {kvs:List (List Key × V)} (I:Inv X zB σ H s) (ed:H d = some (.dT kvs)):∃ o es en,s.heap.get? d = some o /\ o.data = .dict es en /\ Inv X zB σ (upd H d (.frz o (.dT kvs))) s:=by
 obtain ⟨z1,z2,xs,r,o,es',en,h1,h2,h3,h4,h5⟩:=(show zn X.prog X.w H s.heap d (.dT kvs) from I.hok d _ ed);refine ⟨o,es',en,h1,h3,zDB (s:=s) (h':=s.heap) (t':=s.toks) (ob:=.frz o (.dT kvs)) I (by rw [ed]; exact True.intro) (Heap.SameBut.refl _ _) ⟨o,h1⟩ ⟨h1,z1,z2,xs,KT.keeps r fun c ys ec=>?_,o,es',en,h1,h2,h3,h4,h5⟩⟩;rw [zP (zCj ec ed (fun z=>nomatch z))];exact ec
theorem zPd {L:List Addr} {H:Hp} {d:D} {k:Key} (h:zCb d = some k):Rep L H d (kV k):=by
 cases d with
 | int i=>cases h; unfold Rep; rfl
 | str x=>cases h; unfold Rep; rfl
 | _=>cases h
theorem zIZ {L:List Addr} {H:Hp}:∀ {ds:List D} {ks:List Key},zCD ds = some ks -> zH L H ds (ks.map kV)
 | [],ks,h=>by cases h; exact .nil
 | d :: ds,ks,h=>by
  unfold zCD at h;cases e1:zCb d with
  | none=>rw [e1] at h; cases h
  | some k=>
   cases e2:zCD ds with
   | none=>rw [e1,e2] at h; cases h
   | some ks'=>rw [e1,e2] at h; cases h; exact .cons (zPd e1) (zIZ e2)
theorem zOh {L:List Addr} {H:Hp} {d:D} {k:List Key} {b:Addr} (h:tkD d = some k) (e:H b = some (.tup (k.map kV))):Rep L H d (.ref b):=by
 cases d with
 | tup ds=>unfold Rep; exact ⟨b,_,rfl,e,zIZ h⟩
 | _=>cases h
theorem zK7 {L:List Addr} {H:Hp}:∀ {ps:List (D × D)} {vs:List (List Key × V)} {i:Nat} {p:D × D},zAB tkD L H ps vs -> ps[i]? = some p -> ∃ k x,vs[i]? = some (k,x) /\ tkD p.1 = some k /\ Rep L H p.2 x
 | [],_,i,p,_,e=>by cases e
 | q :: ps,vs,i,p,h,e=>by
  obtain ⟨k,v,r',rfl,e1,h1,h2⟩:=h;cases i with
  | zero=>cases e; exact ⟨k,v,rfl,e1,h1⟩
  | succ j=>exact zK7 (ps:=ps) (i:=j) h2 (by rw [List.getElem?_cons_succ] at e; exact e)
section
variable {prog:Program} {w:World} {A:Around} {E:Value -> Shared -> Prop} {s:Shared} {it d:Addr} {i ep:Nat} {o:Obj} {es:Array DictEntry}
theorem zOb {Q:Value -> Shared -> Prop} (hd:(d == sysModules) = false) (hT:s.TypeIs (.ref d) "dict") (ho:s.heap.get? d = some o) (hdat:o.data = .dict es ep)
  (hQ:Q (.ref s.heap.objs.size) { s with heap:=s.heap.push { cls:=.type "dict_keyiterator", data:=.fields #[.ref d,.int 0 0,.int es.size 0,.int ep 0] } }):wpAny (model prog w) A (pyIter (.ref d)) Q E s:=by
 refine wpAny_pyIter_slot hT F.slot_dict_iter (zUh F.slot_dict_iter hT F.entry_dict_iter ?_ (F.args_dict_iter_1 _));unfold Builtin.«dict.__iter__»;refine zTz ?_;unfold Builtin.Dict.dictSlotNone;refine zTz (wpAny_notOrdered_dict hT ?_);show wpAny _ _ (pure (Value.ref d)) _ _ s;refine zT6 ?_;show wpAny _ _ (Builtin.Dict.showsAll d >>= _) _ _ s;unfold Builtin.Dict.showsAll;rw [zUM (by rw [hd]; exact zUQ)];refine zTz (zT6 (zTz (wpAny_dictEntries ho hdat (zTz (wpAny_dictEpoch ho hdat ?_)))));refine zTz (zUX (zT6 ⟨_,rfl, "dict_keyiterator", _,⟨_,zUE _ rfl,rfl⟩,F.slot_dict_keyiterator_next.lookup,?_⟩));simpa [rawInt] using hQ
theorem zM4 {e:DictEntry} {Q:Option Value -> Shared -> Prop} (hit:s.heap.IsKeyIter it d i es.size ep) (hod:s.heap.get? d = some o) (hdd:o.data = .dict es ep) (hx:es[i]? = some e)
  (hQ:∀ h',h'.IsKeyIter it d (i + 1) es.size ep -> Heap.SameBut it s.heap h' -> Q (some e.key) { s with heap:=h' }):wpAny (model prog w) A (pyNext (.ref it)) Q E s:=by
 obtain ⟨q,ho,hc,hd⟩:=id hit;obtain ⟨hlt,hxe⟩:=Array.getElem?_eq_some_iff.mp hx;unfold pyNext;refine zTz (zVf (zUg (name:=Str.ofString "__next__") hit.typeIs F.slot_dict_keyiterator_next (zUh F.slot_dict_keyiterator_next hit.typeIs F.entry_dict_keyiterator_next ?_ (F.args_dict_keyiterator_next_1 _))));refine zTz (zT6 (zTz (zTz ?_)));first | refine zTz (wpAny_typeNameOfWhole_keyiter hit.typeIs (zT6 ?_)) | refine zTz (wpAny_typeNameOf_keyiter hit.typeIs (zT6 ?_))
 refine zTz (wpAny_fieldsOf ho hd ?_);simp only [show Builtin.Dict_items.ownsTuple "dict_keyiterator" = false by decide,zU5,if_false];show wpAny _ _ (if (Value.ref d == Value.none) = true then _ else _) _ _ s;rw [zUM (show ¬ ((Value.ref d == Value.none) = true) from zUQ)];refine zTz (zT6 (zTz (wpAny_dictEntries hod hdd ?_)));rw [zUM (by simp)];refine zTz (zT6 (zTz (wpAny_dictEpoch hod hdd ?_)));rw [zUM (by simp)];refine zT6 ?_;simp only [show ¬ ((i:Int) < 0) from by omega,if_false,zWo,zUp hlt,hxe];refine zTz ?_;first | refine zTz (wpAny_typeNameOfWhole_keyiter hit.typeIs (zT6 ?_)) | refine zTz (wpAny_typeNameOf_keyiter hit.typeIs (zT6 ?_))
 refine zTz (wpAny_isOneOf_keyiter hit.typeIs ?_);show wpAny _ _ (setField (.ref it) 1 (rawInt ((i:Int) + 1)) >>= _) _ _ s;refine zTz (zVp ho hd (by simp) ?_);have hit':(s.heap.update it (Obj.mapFields (·.setIfInBounds 1 (rawInt ((i:Int) + 1))))).IsKeyIter it d (i + 1) es.size ep :=
  ⟨_,zUr _ ho (Obj.isFreed_of_fields (zVL hd _)),(Obj.cls_mapFields ..).trans hc,by rw [zVL hd]; simp [rawInt]⟩
 refine zTz (zUx (zTz (wpAny_isOneOf_keyiter (s:={ s with heap:=s.heap.update it (Obj.mapFields (·.setIfInBounds 1 (rawInt ((i:Int) + 1)))) }) hit'.typeIs ?_)));show wpAny _ _ (pure e.key) _ _ _;exact zT6 (zT6 ⟨_,rfl,zT6 (hQ _ hit' (zU7 ..))⟩)
theorem zPR {Q:Option Value -> Shared -> Prop} (hh:A.handled = none) (hit:s.heap.IsKeyIter it d i es.size ep) (hod:s.heap.get? d = some o) (hdd:o.data = .dict es ep) (hge:es.size <= i)
  (hQ:∀ h',Heap.ExtBut it s.heap h' -> Q none { s with heap:=h' }):wpAny (model prog w) A (pyNext (.ref it)) Q E s:=by
 obtain ⟨q,ho,hc,hd⟩:=id hit;unfold pyNext;refine zTz (zVf (zUg (name:=Str.ofString "__next__") hit.typeIs F.slot_dict_keyiterator_next (zUh F.slot_dict_keyiterator_next hit.typeIs F.entry_dict_keyiterator_next ?_ (F.args_dict_keyiterator_next_1 _))));refine zTz (zT6 (zTz (zTz ?_)));first | refine zTz (wpAny_typeNameOfWhole_keyiter hit.typeIs (zT6 ?_)) | refine zTz (wpAny_typeNameOf_keyiter hit.typeIs (zT6 ?_))
 refine zTz (wpAny_fieldsOf ho hd ?_);simp only [show Builtin.Dict_items.ownsTuple "dict_keyiterator" = false by decide,zU5,if_false];show wpAny _ _ (if (Value.ref d == Value.none) = true then _ else _) _ _ s;rw [zUM (show ¬ ((Value.ref d == Value.none) = true) from zUQ)];refine zTz (zT6 (zTz (wpAny_dictEntries hod hdd ?_)));rw [zUM (by simp)];refine zTz (zT6 (zTz (wpAny_dictEpoch hod hdd ?_)));rw [zUM (by simp)];refine zT6 ?_;simp only [show ¬ ((i:Int) < 0) from by omega,if_false,zWo,Array.getElem?_eq_none hge];refine zTz ?_;first | refine zTz (wpAny_typeNameOfWhole_keyiter hit.typeIs (zT6 ?_)) | refine zTz (wpAny_typeNameOf_keyiter hit.typeIs (zT6 ?_))
 show wpAny _ _ (setField (.ref it) 0 .none >>= _) _ _ s;refine zTz (zVp ho hd (by simp) ?_);show wpAny _ _ (newExc (.type "StopIteration") [] >>= _) _ _ _;refine zTz ?_;simp only [newExc,newTuple];refine zTz (zUX ?_ (by size_fits));refine zTz (m:=firstArgMember _ _) (wpAny_of_eq (a:=Value.none) (by first | rfl | (simp only [firstArgMember]; rfl)) ?_);refine zUX ?_ (by size_fits);simp only [raiseNew];refine zTz (wpAny_handled ?_);rw [show A.in1.handled = none from hh];refine zTz (zT6 (wpAny_throw ?_));refine zTz (wpAny_isInstance (T := "StopIteration") (b:=true) ⟨_,zUE _ rfl,rfl⟩ isSubtype_stop ?_);exact zT6 (hQ _ (((zU7 ..).extBut.push _).push _))
theorem zNP (lo:(d == sysModules) = false) (hc:o.cls = .type "dict") (hdd:o.data = .dict es ep):PySem.W.KdlSrc prog w "dict" d d es.size (fun i v=>∃ e,es[i]? = some e /\ v = e.key) (fun h=>h.get? d = some o) where
 type:=fun _ h=>⟨o,h,hc⟩;there:=fun _ h=>⟨zUF h,zUF h⟩;keep:=fun _ _ h k=>k d (.inl rfl) o h;notList:=by decide
 notTuple:=by decide
 hint:=fun _ _ _ _ h hq=>PySem.W.kdl_hint_dict ⟨o,h,hc⟩ hq
 iter:=fun A s hh h=>⟨_,fun i h'=>h'.IsKeyIter s.heap.objs.size d i es.size ep /\ h'.get? d = some o,(fun _ _ hq=>zOb lo ⟨o,h,hc⟩ h hdd hq),⟨fun b hb=>by simp at hb; simp [hb],
  fun _ _ _ st hk=>⟨st.1.at fun o e=>hk _ (by simp) o e,hk d (by simp) o st.2⟩,
  fun i s2 Q E hi st hQ=>zM4 (e:=es[i]) st.1 st.2 hdd (by simp [hi]) fun h' hit' hs'=>hQ _ h' s2.toks ⟨es[i],by simp [hi],rfl⟩ ⟨hit',hs'.extBut _ _ (zUP (zUF h)) st.2⟩ fun b q hb e=>hs'.extBut b q (fun z=>hb (by simp [z])) e,
  fun s2 Q E st hQ=>zPR hh st.1 st.2 hdd (zUA _) fun h' he'=>hQ h' s2.toks fun b q hb e=>he' b q (fun z=>hb (by simp [z])) e,
  fun _ _ _ _ st hQ=>wpAny_pyIter_keyiter st.1 hQ⟩,⟨⟨_,zUE _ rfl,rfl,rfl⟩,zT0 _ h⟩⟩
end
theorem zLD:∀ {ys:List V} {us:List Value},ys.length = us.length -> (∀ (i:Nat) y u,ys[i]? = some y -> us[i]? = some u -> ze y u) -> zU ys us
 | [],[],_,_=> .nil
 | [],_ :: _,h,_=>by cases h
 | _ :: _,[],h,_=>by cases h
 | y :: ys,u :: us,h,q=> .cons (q 0 y u rfl rfl) (zLD (Nat.succ.inj h) fun i y' u' e1 e2=>q (i + 1) y' u' (by simpa using e1) (by simpa using e2))
section
variable {prog:Program} {w:World} {A:Around} {E:Value -> Shared -> Prop} {s:Shared} {d:Addr} {ep:Nat} {o:Obj} {es:Array DictEntry}
theorem zKg (hd:(d == sysModules) = false):MeetsIn prog w (Builtin.«dict.__len__» ⟨[.ref d],[]⟩) (fun _ R s=>∃ o es ep,s.heap.get? d = some o /\ o.data = .dict es ep /\ R (.ok (.ret (.int es.size s.toks))) { s with toks:=s.toks + 1 }) :=
 .of_wp fun A R s ⟨o,es,ep,ho,hdat,h⟩=>by
  show wpAny _ _ (dictSize d >>= _) _ _ s;unfold dictSize;refine zTz (zTz (wpAny_dictEntries ho hdat (zT6 ?_)));show wpAny _ _ (Builtin.Dict.pendingCount d >>= _) _ _ s;refine zTz (wpAny_pendingCount_other hd (wpAny_ret_mkInt ?_));rw [Nat.add_zero]; exact h
end
end L3
namespace ST
open PySem PySem.Spec PyProof.Rows
section
variable {prog:Program} {w:World} {A:Around} {E:Value -> Shared -> Prop} {s:Shared} {κ:SortKind} {vs:List Value} {r:Value -> Nat}
def zB7 (prog:Program) (w:World) (s:Shared) (κ:SortKind) (vs:List Value) (r:Value -> Nat):Prop :=
 ∀ (A:Around) (E:Value -> Shared -> Prop) (x y:Value) (Q:Bool -> Shared -> Prop),x ∈ vs -> y ∈ vs -> Q (decide (r x < r y)) s -> wpAny (model prog w) A (keyLt' κ x y) Q E s
theorem zEB (R:zB7 prog w s κ vs r) {st:SortSt} {x y:Keyed} {Q:Option Bool -> SortSt -> Prop} (hk:kindOf st = κ) (hx:x.1 ∈ vs) (hy:y.1 ∈ vs) (h:Q (some (decide (r x.1 < r y.1))) st) :
  wpS (model prog w) A E s (lt' x y) Q st:=by
 rw [lt'_eq];refine wpS_bind (wpS_get ?_);rw [hk];exact wpS_bind (wpS_lift (zVf (R _ _ _ _ _ hx hy ⟨rfl,wpS_pure h⟩)))
theorem zLZ (R:zB7 prog w s κ vs r) {st:SortSt} {i j:Nat} {x y:Keyed} {Q:Option Bool -> SortSt -> Prop} (hk:kindOf st = κ) (ei:(arrOf st)[i]? = some x) (ej:(arrOf st)[j]? = some y) (hx:x.1 ∈ vs) (hy:y.1 ∈ vs)
  (h:Q (some (decide (r x.1 < r y.1))) st):wpS (model prog w) A E s (ltAt' i j) Q st:=by
 rw [ltAt'_eq];refine wpS_bind (wpS_get ?_);show wpS _ _ _ _ (elem' (arrOf st) i >>= fun x=>elem' (arrOf st) j >>= fun y=>lt' x y) Q st;rw [elem'_eq,elem'_eq,ei,ej];exact wpS_bind (wpS_pure (wpS_bind (wpS_pure (zEB R hk hx hy h))))
def zBw (h:Heap) (v:Value) (xs:List Int):Prop:=∃ b o us n,v = .ref b /\ h.get? b = some o /\ o.cls = .type "tuple" /\ o.data = .seq us n /\ IntsAre us.toList xs
theorem zBw.keep {h h':Heap} {v:Value} {xs:List Int} (t:zBw h v xs) (k:∀ b o,v = .ref b -> h.get? b = some o -> h'.get? b = some o):zBw h' v xs:=by
 obtain ⟨b,o,us,n,rfl,h1,h2,h3,h4⟩:=t;exact ⟨b,o,us,n,rfl,k b o rfl h1,h2,h3,h4⟩
def zAZ:List Int -> List Int -> Bool
 | [],[]=>false
 | [],_ :: _=>true
 | _ :: _,[]=>false
 | x :: xs,y :: ys=>if x = y then zAZ xs ys else decide (x < y)
theorem zI3 {a b:Int} {t u:Tok} {Q:Bool -> Shared -> Prop} (h:Q (decide (a < b)) s):wpAny (model prog w) A (oneLt' false (.int a t) (.int b u)) Q E s:=by
 rw [oneLt'_eq];simp only [zU5,if_false];refine zTz (richCompare_gives (op:=.Lt) (typeIs_int s a t) (typeIs_int s b u) F.slot_int_lt F.entry_int_lt (F.args_int_lt_2 _ _) (gives_int_lt a b t u) (fun x=>nomatch x) ?_);exact wpAny_truthy_bool h
theorem zLi {c:Bool} {a b:Int} {t u:Tok} {Q:Bool -> Shared -> Prop} (h:Q (decide (a < b)) s):wpAny (model prog w) A (oneLt' c (.int a t) (.int b u)) Q E s:=by
 cases c
 ·exact zI3 h
 ·exact oneLt_int h
theorem zHi {c:Bool} {x y:Value} {xs ys:List Int} {Q:Bool -> Shared -> Prop} (hx:zBw s.heap x xs) (hy:zBw s.heap y ys) (h:Q (zAZ xs ys) s):wpAny (model prog w) A (keyLt' (tuples' c) x y) Q E s:=by
 obtain ⟨a,o1,us,n1,rfl,h1,h2,h3,h4⟩:=hx;obtain ⟨b,o2,ws,n2,rfl,g1,g2,g3,g4⟩:=hy;refine zTz (listItems_at h1 h3 (zTz (listItems_at g1 g3 ?_)));refine zTz (wpAny_forIn_list _ (fun rest c s'=>c = (none,()) /\ s' = s /\ ∃ us' ws' xs' ys' k,rest = (us'.zip ws').zipIdx k /\ IntsAre us' xs' /\ IntsAre ws' ys' /\ zAZ xs ys = zAZ xs' ys' /\ us.size + ws'.length = ws.size + us'.length) (fun c s'=>s' = s /\ Q (match c.1 with | some b=>b | none=>decide (us.size < ws.size)) s) ?turn ?fin _ _ ⟨rfl,rfl,_,_,_,_,0,rfl,h4,g4,rfl,by simp; omega⟩ |> fun z=>zUa z ?post fun _ _ e=>e)
 case turn=>
  rintro ⟨⟨p,q⟩,i⟩ rest c s' ⟨rfl,rfl,us',ws',xs',ys',k,e,i1,i2,e2,e3⟩;cases i1 with
  | nil=>simp at e
  | @cons n t us1 xs1 i1=>
   cases i2 with
   | nil=>simp at e
   | @cons m u ws1 ys1 i2=>
    simp only [List.zip_cons_cons,List.zipIdx_cons] at e;injection e with ea eb
    cases ea;refine zTz (wpAny_eqBool_int ?_);rw [show zAZ (n :: xs1) (m :: ys1) = if n = m then zAZ xs1 ys1 else decide (n < m) from rfl] at e2;by_cases hnm:n = m
    ·subst hnm;simp only [beq_self_eq_true,Bool.not_true,zU5,if_false];rw [zUJ rfl] at e2;simp only [zUb] at e3;exact zT6 ⟨rfl,rfl,_,_,_,_,_,eb,i1,i2,e2,by omega⟩
    ·rw [zUM hnm] at e2;have:(n == m) = false:=by simpa using hnm
     rw [this];simp only [Bool.not_false,if_true];refine zTz ?_;refine zLi (zT6 ⟨rfl,?_⟩);rw [<- e2]; exact h
 case fin=>
  rintro c s' ⟨rfl,rfl,us',ws',xs',ys',k,e,i1,i2,e2,e3⟩;refine ⟨rfl,?_⟩;dsimp only;have key:zAZ xs ys = decide (us.size < ws.size):=by
   rw [e2];cases i1 with
   | nil=>
    cases i2 with
    | nil=>simp at e3; simp [zAZ,e3]
    | cons m u i2=>simp at e3; simp [zAZ]; omega
   | cons n t i1=>
    cases i2 with
    | nil=>simp at e3; simp [zAZ]; omega
    | cons m u i2=>simp at e
  rw [<- key]; exact h
 case post=>
  rintro ⟨c1,c2⟩ s' ⟨rfl,q⟩;dsimp only at q ⊢;cases c1 with
  | some b=>exact zT6 q
  | none=>exact zT6 q
theorem zLM:∀ ds:List (Int × Tok),IntsAre (ds.map fun p=> .int p.1 p.2) (ds.map (·.1))
 | []=> .nil
 | p :: ds=> .cons p.1 p.2 (zLM ds)
theorem zMT {v:Value} {x:Int} {xs:List Int} {Q:Option Value -> Shared -> Prop} (hv:zBw s.heap v (x :: xs)) (h:∀ t,Q (some (.int x t)) s):wpAny (model prog w) A (firstOfTuple' v) Q E s:=by
 obtain ⟨a,o1,us,n1,rfl,h1,h2,h3,h4⟩:=hv;refine zTz (wpAny_typeOf (T := "tuple") ⟨o1,h1,h2⟩ ?_);rw [zUM (by decide)];refine zTz (listItems_at h1 h3 (zT6 ?_));obtain ⟨us⟩:=us;cases h4 with
 | cons n t i=>exact h t
theorem zFS:∀ {vs:List Value} {Q:List (Option Value) -> Shared -> Prop},(∀ v ∈ vs,∃ x xs,zBw s.heap v (x :: xs)) -> (∀ ds:List (Int × Tok),ds.length = vs.length -> Q (ds.map fun p=>some (.int p.1 p.2)) s) -> wpAny (model prog w) A (vs.mapM firstOfTuple') Q E s
 | [],Q,_,q=>by rw [List.mapM_nil]; exact zT6 (q [] rfl)
 | v :: vs,Q,h,q=>by
  rw [List.mapM_cons];obtain ⟨x,xs,hv⟩:=h v (zUI ..);refine zTz (zMT hv fun t=>zTz (zFS (fun u hu=>h u (zUH _ hu)) fun ds hl=>zT6 ?_));exact q ((x,t) :: ds) (by simp [hl])
theorem zMx {v:Value} (h:∀ u ∈ v :: vs,∃ x xs,zBw s.heap u (x :: xs)) {Q:SortKind -> Shared -> Prop} (q:Q (tuples' true) s):wpAny (model prog w) A (keyKind' (v :: vs).toArray) Q E s:=by
 rw [keyKind'_eq,List.mapM_toArray];refine zTz ?_;show wpAny _ _ (List.toArray <$> (v :: vs).mapM firstOfTuple') _ _ _;rw [map_eq_pure_bind];refine zTz (zFS h fun ds hl=>zT6 ?_);rw [zUJ (by simp)];refine zTz (zVR ?_);have e:Array.filterMap id (List.map (fun p=>some (Value.int p.1 p.2)) ds).toArray = (ds.map fun p=>Value.int p.1 p.2).toArray:=by
  rw [List.filterMap_toArray,List.filterMap_map];exact zVr List.toArray (List.filterMap_eq_map' (f:=fun p:Int × Tok=>Value.int p.1 p.2) ▸ rfl)
 rw [e,oneTypeOnly'_eq,List.mapM_toArray,mapM_typeOf_ints (zLM ds)];cases ds with
 | nil=>cases hl
 | cons d ds=>
  have hall:((List.map (fun _=>Value.type "int") (List.map (fun p:Int × Tok=>Value.int p.1 p.2) (d :: ds))).toArray.all fun x=>x == Value.type "int") = true:=by
   simp only [List.all_toArray,List.all_map,zUf];intro _ _; rfl
  have h0:(List.map (fun _=>Value.type "int") (List.map (fun p:Int × Tok=>Value.int p.1 p.2) (d :: ds))).toArray[0]? = some (Value.type "int"):=by simp
  simp only [map_pure,pure_bind];rw [h0];simp only [hall,if_true,pure_bind];exact zT6 q
end
theorem zF8:∀ x:List Int,zAZ x x = false
 | []=>rfl
 | a :: x=>by rw [show zAZ (a :: x) (a :: x) = if a = a then zAZ x x else decide (a < a) from rfl,zUJ rfl]; exact zF8 x
theorem zHA (a b:Int) (x y:List Int):zAZ (a :: x) (b :: y) = if a = b then zAZ x y else decide (a < b):=rfl
theorem zD2:∀ {x y:List Int},zAZ x y = false -> zAZ y x = false -> x = y
 | [],[],_,_=>rfl
 | [],_ :: _,h,_=>by cases h
 | _ :: _,[],_,h=>by cases h
 | a :: x,b :: y,h1,h2=>by
  rw [zHA] at h1 h2;by_cases e:a = b
  ·subst e;rw [zUJ rfl] at h1 h2;rw [zD2 h1 h2]
  ·rw [zUM e] at h1; rw [zUM (Ne.symm e)] at h2;have:=of_decide_eq_false h1; have:=of_decide_eq_false h2;omega
theorem zCZ:∀ {x y z:List Int},zAZ x y = true -> zAZ y z = true -> zAZ x z = true
 | [],[],_,h,_=>by cases h
 | _ :: _,[],_,h,_=>by cases h
 | _,_ :: _,[],_,h=>by cases h
 | [],_ :: _,_ :: _,_,_=>rfl
 | a :: x,b :: y,c :: z,h1,h2=>by
  rw [zHA] at h1 h2 ⊢;by_cases e:a = b
  ·subst e;rw [zUJ rfl] at h1;by_cases e2:a = c
   ·rw [zUJ e2] at h2 ⊢; exact zCZ h1 h2
   ·rw [zUM e2] at h2 ⊢; exact h2
  ·rw [zUM e] at h1;have l1:=zU0 h1;by_cases e2:b = c
   ·subst e2; rw [zUM e]; exact h1
   ·rw [zUM e2] at h2;have l2:=zU0 h2;rw [zUM (by omega)]; exact zVC (by omega)
def rkI (ks:List (List Int)) (k:List Int):Nat:=ks.countP fun a=>zAZ a k
theorem zGl {α:Type} {p q:α -> Bool}:∀ {l:List α} {x:α},x ∈ l -> p x = false -> q x = true -> (∀ y,p y = true -> q y = true) -> l.countP p < l.countP q
 | [],_,h,_,_,_=>by cases h
 | y :: l,x,h,h1,h2,h3=>by
  have hm:l.countP p <= l.countP q:=List.countP_mono_left fun z _ hz=>h3 z hz;rw [List.countP_cons,List.countP_cons];rcases zUG.mp h with rfl | h
  ·rw [h1,h2]; simp; omega
  ·have:=zGl h h1 h2 h3;cases hp:p y with
   | true=>rw [h3 y hp]; simp; omega
   | false=>cases q y <;> simp <;> omega
theorem zQS {ks:List (List Int)} {x y:List Int} (hx:x ∈ ks) (hy:y ∈ ks):zAZ x y = decide (rkI ks x < rkI ks y):=by
 have go:∀ {x y:List Int},x ∈ ks -> zAZ x y = true -> rkI ks x < rkI ks y:=fun {x y} hx h=>
  zGl hx (zF8 x) h fun z hz=>zCZ hz h
 cases e:zAZ x y with
 | true=>exact (zVC (go hx e)).symm
 | false=>
  cases e2:zAZ y x with
  | true=>have:=go hy e2; exact (zUd (by omega)).symm
  | false=>rw [zD2 e e2]; exact (zUd (by omega)).symm
section
variable {prog:Program} {w:World} {A:Around} {E:Value -> Shared -> Prop} {s:Shared} {κ:SortKind} {vs:List Value}
theorem zBw.uniq {h:Heap} {v:Value} {xs ys:List Int} (a:zBw h v xs) (b:zBw h v ys):xs = ys:=by
 obtain ⟨b1,o1,us,n1,rfl,h1,h2,h3,h4⟩:=a;obtain ⟨b2,o2,ws,n2,e,g1,g2,g3,g4⟩:=b;cases e;rw [h1] at g1; cases g1;rw [h3] at g3; cases g3;rw [<- h4.nums,<- g4.nums]
open Classical in
noncomputable def zDI (h:Heap) (v:Value):List Int:=if z:∃ xs,zBw h v xs then z.choose else []
theorem zB0 {h:Heap} {v:Value} {xs:List Int} (t:zBw h v xs):zDI h v = xs:=by
 unfold zDI;rw [dif_pos ⟨xs,t⟩];exact zBw.uniq (Classical.choose_spec (⟨xs,t⟩:∃ xs,zBw h v xs)) t
def zRO (h:Heap) (vs:List Value):Prop:=∀ v ∈ vs,∃ x xs,zBw h v (x :: xs)
noncomputable def rkV (h:Heap) (vs:List Value) (v:Value):Nat:=rkI (vs.map (zDI h)) (zDI h v)
theorem zL0 (h:zRO s.heap vs):zB7 prog w s (tuples' true) vs (rkV s.heap vs):=by
 intro A E x y Q hx hy q;obtain ⟨a,as,ha⟩:=h x hx;obtain ⟨b,bs,hb⟩:=h y hy;refine zHi ha hb ?_;rw [<- zB0 ha,<- zB0 hb,zQS (ks:=vs.map (zDI s.heap)) (List.mem_map_of_mem hx) (List.mem_map_of_mem hy)];exact q
theorem zMa {F:Array Value -> Prop} {a:Addr} {n:Nat} {P:Fin -> Shared -> Prop} (ho:s.heap.get? a = some (seqObj "list" vs.toArray n)) (hz:vs.length <= sizeLine)
  (hF:∀ out,F out -> out.size = vs.length) (hs:vs.length < 2 -> F vs.toArray)
  (hr:2 <= vs.length -> ∀ h6:Heap,(∀ b o,b ≠ a -> s.heap.get? b = some o -> h6.get? b = some o) -> (∀ (A:Around) (E:Value -> Shared -> Prop) (Q:SortKind -> Shared -> Prop),Q κ { s with heap:=h6 } -> wpAny (model prog w) A (keyKind' vs.toArray) Q E { s with heap:=h6 }) /\
   ∀ (A:Around) (E:Value -> Shared -> Prop),wpS (model prog w) A E { s with heap:=h6 } sortRuns' (fun _ st=>failedOf st = none /\ F ((arrOf st).map (·.2))) (SortSt.mk' κ (pairsOf vs) #[] 7 none))
  (h:∀ out,F out -> P (.done (.ret .none)) { s with heap:=sortedHeap s.heap a vs out }):wpAny (model prog w) A (Builtin.«list.sort» ⟨[.ref a],[]⟩) P E s:=by
 have ha:a < s.heap.objs.size:=zUF ho;rw [list_sort_plain];refine zTz (listItems_at ho rfl (zTz (listUpdate_at ho rfl ?_ (hsz:=by simpa using hz))));obtain ⟨e1,o1⟩:∃ e,(s.heap.update a (Obj.mapSeq fun _=> #[])).get? a = some (seqObj "list" #[] e):=⟨_,get?_update_seq ho fun _=> #[]⟩;refine zTz (seqEpoch_at o1 rfl (zTz (wpAny_newTuple ?_ (by simpa using hz))));refine zTz (wpAny_newList (zUx ?_));generalize hH:((s.heap.update a (Obj.mapSeq fun _=> #[])).push (seqObj "tuple" vs.toArray 0)).push (seqObj "list" #[] 0) = h6;have k6:∀ b o,b ≠ a -> s.heap.get? b = some o -> h6.get? b = some o:=fun b o hb e=>by
  rw [<- hH]; exact zT0 _ (zT0 _ ((zUl _ _ (Ne.symm hb)).trans e))
 have o6:h6.get? a = some (seqObj "list" #[] e1):=by rw [<- hH]; exact zT0 _ (zT0 _ o1)
 have fin:∀ st:SortSt,failedOf st = none -> F ((arrOf st).map (·.2)) -> wpAny (model prog w) A (do
   let t:=(<- seqEpoch a) != e1;Builtin.List.listUpdate (.ref a) fun _=>(arrOf st).map (·.2);if let some e:=failedOf st then rule "list.sort.comparison-raised"; throw e
   if t then rule "list.sort.modified"; raiseError "ValueError" "list modified during sort"
   ret .none) P E { s with heap:=h6 }:=by
  intro st h1 h2;refine zTz (seqEpoch_at o6 rfl (zTz (listUpdate_at o6 rfl ?_ (hsz2:=by show (Array.map _ _).size <= _; rw [hF _ h2]; omega))));rw [h1];simp only [bne_self_eq_false,zU5,if_false];refine zT6 ?_;have:=h _ h2;unfold sortedHeap at this;rw [hH] at this;exact this
 dsimp only;by_cases h2:vs.toArray.size < 2
 ·rw [zUJ h2,zUJ h2];refine zTz (zT6 ?_);rw [StateT.run_pure];refine zTz (zT6 ?_);refine fin (SortSt.mk' general' (vs.toArray.zip vs.toArray) #[] 7 none) rfl ?_;have e:((vs.toArray.zip vs.toArray).map (·.2)) = vs.toArray:=by
   apply Array.toList_inj.mp;rw [Array.toList_map,Array.toList_zip,List.map_snd_zip (zUA _)]
  show F ((vs.toArray.zip vs.toArray).map (·.2));rw [e]; exact hs (by simpa using h2)
 ·rw [zUM h2,zUM h2];obtain ⟨g1,g2⟩:=hr (by simp at h2; omega) h6 k6;refine zTz (g1 _ _ _ ?_);refine zTz (zUa (g2 _ _) ?_ fun _ _ e=>e);rintro ⟨⟨⟩,st⟩ s' ⟨rfl,h3,h4⟩;exact fin st h3 h4
theorem zM2 {T:String} {r d S:Addr} {n:Nat} {P:Nat -> Value -> Prop} {OK:Heap -> Prop} {R:Result -> Shared -> Prop} (K:PySem.W.KdlSrc prog w T r d n P OK) (hh:A.handled = none) (hok:OK s.heap) (hSr:S ≠ r) (hSd:S ≠ d) (hS:s.heap.get? S = some { cls:=.type "list", data:=.seq #[] })
  (hR:∀ h' tk acc c',(∀ b u,b ≠ S -> s.heap.get? b = some u -> h'.get? b = some u) -> h'.get? S = some { cls:=.type "list", dict:=none,data:=.seq acc c',slots:=#[] } -> ItemsOf P acc n -> R (.ok (.ret (.ref S))) { s with heap:=h',toks:=tk }) (hn:n <= sizeLine):codeAny (model prog w) A (.builtin "list.__iadd__" ⟨[.ref S,.ref r],[]⟩) R s:=by
 refine zU9 F.entry_list_iadd ?_;rw [zUz F.plain_list_iadd _];exact PySem.W.kdl_extend K hh hok S hSr hSd (.ref S) 0 hS hR hn
theorem zIH {T:String} {r d:Addr} {n:Nat} {P:Nat -> Value -> Prop} {OK:Heap -> Prop} {Q:List Value -> Shared -> Prop} (K:PySem.W.KdlSrc prog w T r d n P OK) (hh:A.handled = none) (hok:OK s.heap) (hn:n <= sizeLine)
  (hQ:∀ h' tk acc,(∀ b u,s.heap.get? b = some u -> h'.get? b = some u) -> s.heap.objs.size <= h'.objs.size -> ItemsOf P acc n -> Q acc.toList { s with heap:=h',toks:=tk }):wpAny (model prog w) A (collect (.ref r)) Q E s:=by
 unfold collect;refine zTz (wpAny_runValue (zU9 F.entry_proto_collect ?_));rw [zUz F.plain_proto_collect _];show wpAny _ A.in1 (newList [] >>= fun l=>again (.builtin "list.__iadd__" ⟨[l,.ref r],[]⟩)) _ _ s;have hlt:=K.there _ hok;refine zTz (zUX (zT6 ⟨plainId_quiet F.plain_list_iadd _,zM2 (s:={ s with heap:=s.heap.push { cls:=.type "list", data:=.seq ([]:List Value).toArray } }) K hh (K.keep _ _ hok fun b _ o e=>zT0 _ e) (zVZ hlt.1) (zVZ hlt.2) (zUE _ rfl) (fun h' tk acc c' hk hS' hacc=>?_) hn⟩));show wpAny _ A (load s.heap.objs.size >>= _) _ _ { s with heap:=h',toks:=tk };exact zTz (wpAny_load (s:={ s with heap:=h',toks:=tk }) hS' (zT6 (hQ h' tk acc (fun b u e=>hk b u (zUP (zUF e)) (zT0 _ e)) (zW0 (zUF hS')) hacc)))
end
end ST
namespace L3
open PySem PySem.Spec PyProof.Rows L2 ST
def kkI (xs:List Int):List Key:=xs.map .inl
def zSn:D -> Option (List Int)
 | .tup ds=>zAC ds
 | _=>none
def zGO:List D -> Option (List (List Int))
 | []=>some []
 | d :: r=>match zSn d,zGO r with
  | some x,some xs=>some (x :: xs)
  | _,_=>none
theorem zFq:∀ {ds:List D} {xs:List Int},zAC ds = some xs -> zCD ds = some (kkI xs)
 | [],_,h=>by cases h; rfl
 | .int i :: r,xs,h=>by
  unfold zAC at h;split at h
  ·rename_i bs e;cases h;unfold zCD;rw [zFq e]; rfl
  ·cases h
 | .non :: _,_,h=>by cases h
 | .bl _ :: _,_,h=>by cases h
 | .str _ :: _,_,h=>by cases h
 | .tup _ :: _,_,h=>by cases h
 | .ref _ :: _,_,h=>by cases h
 | .fn _ _ :: _,_,h=>by cases h
theorem zKv {L:List Addr} {H:Hp}:∀ {ps:List (D × D)} {ts:List (List Int)} {kvs:List (List Key × V)},zGO (ps.map (·.1)) = some ts -> zAB tkD L H ps kvs -> kvs.map (·.1) = ts.map kkI
 | [],_,_,h,r=>by cases h; unfold zAB at r; subst r; rfl
 | (d,e) :: ps,ts,kvs,h,r=>by
  rw [zUN] at h;unfold zGO at h;split at h
  ·rename_i x xs h1 h2;cases h;obtain ⟨k,v,r',rfl,e1,_,r2⟩:=r;rw [zUN,zUN,zKv h2 r2];cases d with
   | tup ds=>
    have e1':zCD ds = some k:=e1;rw [zFq h1] at e1';cases e1'; rfl
   | _=>cases h1
  ·cases h
theorem zFc:∀ {xs:List Int} {its:List Value},zU ((kkI xs).map kV) its -> IntsAre its xs
 | [],_,h=>by cases h; exact .nil
 | x :: xs,_,h=>by
  cases h with
  | cons r1 r2=>obtain ⟨t,rfl⟩:=r1; exact .cons _ _ (zFc r2)
section
variable {X:Cx}
theorem zIG {P:Program} {w:World} {H:Hp} {h:Heap} {b:Addr} {xs:List Int} (o:zn P w H h b (.tup ((kkI xs).map kV))):zBw h (.ref b) xs:=by
 obtain ⟨_,its,r,o,e,c,⟨n,d⟩,_⟩:=o;exact ⟨b,o,its.toArray,n,rfl,e,c,d,by simpa using zFc r⟩
end
end L3
namespace ST
open PySem PySem.Spec PyProof.Rows
def zLU:Bool -> Keyed -> Array Keyed -> Nat -> Nat -> Nat -> StateT SortSt Sem (Option Nat):=sortPriv% PySem.Builtin.gallop
def zNd:Array Keyed -> Array Keyed -> StateT SortSt Sem (Array Keyed):=sortPriv% PySem.Builtin.mergeLo
def zMu:Array Keyed -> Array Keyed -> StateT SortSt Sem (Array Keyed):=sortPriv% PySem.Builtin.mergeHi
section
variable {prog:Program} {w:World} {A:Around} {E:Value -> Shared -> Prop} {s:Shared} {κ:SortKind} {vs:List Value} {r:Value -> Nat}
theorem zZ {arr:Array Keyed} {i:Nat} {p:Keyed} {st:SortSt} {Q:Keyed -> SortSt -> Prop} (h:arr[i]? = some p) (q:Q p st):wpS (model prog w) A E s (elem' arr i) Q st:=by
 rw [elem'_eq,h]; exact wpS_pure q
def zR2 (bey:Nat -> StateT SortSt Sem (Option Bool)) (n a0 b0:Nat):StateT SortSt Sem (Option Nat):=do
 let mut a:=a0
 let mut b:=b0
 for _ in [0:n] do
  if a ≥ b then break
  let m:=a + (b - a) / 2
  let some up <- bey m | return none
  if up then a:=m + 1 else b:=m
 return some b
theorem zQg {bey:Nat -> StateT SortSt Sem (Option Bool)} {b:Nat -> Bool} {n lo hi:Nat} {st:SortSt} {Q:Option Nat -> SortSt -> Prop} (hb:∀ i,i < n -> ∀ Q':Option Bool -> SortSt -> Prop,Q' (some (b i)) st -> wpS (model prog w) A E s (bey i) Q' st)
  (mono:∀ i j,i <= j -> j < n -> b j = true -> b i = true) (hlo:lo <= hi) (hhi:hi <= n) (h1:∀ i,i < lo -> b i = true) (h2:∀ i,hi <= i -> i < n -> b i = false)
  (h:∀ k,k <= n -> (∀ i,i < k -> b i = true) -> (∀ i,k <= i -> i < n -> b i = false) -> Q (some k) st):wpS (model prog w) A E s (zR2 bey n lo hi) Q st:=by
 unfold zR2;refine wpS_bind (wpS_mono (wpS_forRange (I:=fun x c st'=>st' = st /\ ∃ lo hi,c = (none,lo,hi) /\ lo <= hi /\ hi <= n /\ hi - lo <= n - x /\ (∀ i,i < lo -> b i = true) /\ (∀ i,hi <= i -> i < n -> b i = false)) (Q:=fun c st'=>st' = st /\ ∃ k,c = (none,k,k) /\ k <= n /\ (∀ i,i < k -> b i = true) /\ (∀ i,k <= i -> i < n -> b i = false)) ?step ?fin ⟨rfl,lo,hi,rfl,hlo,hhi,by omega,h1,h2⟩) ?post)
 case step=>
  rintro x c st' _ hx ⟨rfl,lo,hi,rfl,q1,q2,q3,q4,q5⟩;dsimp only;by_cases hge:lo ≥ hi
  ·rw [zUJ hge];have:lo = hi:=by omega
   subst this;exact wpS_pure ⟨rfl,lo,rfl,q2,q4,q5⟩
  ·rw [zUM hge];refine wpS_bind (hb _ (by omega) _ ?_);dsimp only;cases e:b (lo + (hi - lo) / 2) with
   | true=>
    rw [zUJ rfl];exact wpS_pure ⟨rfl,_,_,rfl,by omega,q2,by omega,fun i hi'=>mono i _ (by omega) (by omega) e,q5⟩
   | false=>
    rw [zUM (by decide)];refine wpS_pure ⟨rfl,_,_,rfl,by omega,by omega,by omega,q4,fun i h3 h4=>?_⟩;cases e2:b i with
    | false=>rfl
    | true=>rw [mono _ i h3 h4 e2] at e; cases e
 case fin=>
  rintro c st' ⟨rfl,lo,hi,rfl,q1,q2,q3,q4,q5⟩;have:lo = hi:=by omega
  subst this;exact ⟨rfl,lo,rfl,q2,q4,q5⟩
 case post=>
  rintro c st' ⟨rfl,k,rfl,q2,q4,q5⟩;exact wpS_pure (h k q2 q4 q5)
theorem zMh {left:Bool} {key:Keyed} {arr:Array Keyed} {base n hint:Nat} {b:Nat -> Bool} {st:SortSt} {Q:Option Nat -> SortSt -> Prop} (hh:hint < n)
  (hb:∀ i,i < n -> ∀ Q':Option Bool -> SortSt -> Prop,Q' (some (b i)) st -> wpS (model prog w) A E s (do let x <- elem' arr (base + i); if left = true then lt' x key else do let y <- lt' key x; pure (y.map (!·))) Q' st)
  (mono:∀ i j,i <= j -> j < n -> b j = true -> b i = true)
  (h:∀ k,k <= n -> (∀ i,i < k -> b i = true) -> (∀ i,k <= i -> i < n -> b i = false) -> Q (some k) st):wpS (model prog w) A E s (zLU left key arr base n hint) Q st:=by
 have no:∀ {i j},i <= j -> j < n -> b i = false -> b j = false:=fun {i j} h1 h2 e=>by
  cases e2:b j with
  | false=>rfl
  | true=>rw [mono i j h1 h2 e2] at e; cases e
 have go:∀ lo hi,lo <= hi -> hi <= n -> (∀ i,i < lo -> b i = true) -> (∀ i,hi <= i -> i < n -> b i = false) -> wpS (model prog w) A E s (zR2 (fun i=>do let x <- elem' arr (base + i); if left = true then lt' x key else do let y <- lt' key x; pure (y.map (!·))) n lo hi) Q st :=
  fun lo hi a1 a2 a3 a4=>zQg hb mono a1 a2 a3 a4 h
 refine wpS_bind (hb hint hh _ ?_);cases e:b hint with
 | true=>
  refine wpS_bind (wpS_mono (wpS_forRange (I:=fun x c st'=>st' = st /\ ∃ la of,c = (none,la,of) /\ la < of /\ x + 1 <= of /\ la < n - hint /\ b (hint + la) = true) (Q:=fun c st'=>st' = st /\ ∃ la of,c = (none,la,of) /\ la < of /\ la < n - hint /\ b (hint + la) = true /\ (n - hint <= of \/ b (hint + of) = false)) ?step ?fin ⟨rfl,0,1,rfl,by omega,by omega,by omega,e⟩) ?post)
  case step=>
   rintro x c st' _ hx ⟨rfl,la,of,rfl,q1,q2,q3,q4⟩;dsimp only;by_cases hge:of ≥ n - hint
   ·rw [zUJ hge];exact wpS_pure ⟨rfl,la,of,rfl,q1,q3,q4,.inl hge⟩
   ·rw [zUM hge];refine wpS_bind (hb _ (by omega) _ ?_);dsimp only;cases e2:b (hint + of) with
    | true=>
     rw [zUM (by decide)];exact wpS_pure ⟨rfl,of,2 * of + 1,rfl,by omega,by omega,by omega,e2⟩
    | false=>
     rw [zUJ (by decide)];exact wpS_pure ⟨rfl,la,of,rfl,q1,q3,q4,.inr e2⟩
  case fin=>
   rintro c st' ⟨rfl,la,of,rfl,q1,q2,q3,q4⟩;exact ⟨rfl,la,of,rfl,q1,q3,q4,.inl (by omega)⟩
  case post=>
   rintro c st' ⟨rfl,la,of,rfl,q1,q3,q4,q5⟩;refine go (hint + la + 1) (hint + min of (n - hint)) (by omega) (by omega) (fun i hi=>mono i (hint + la) (by omega) (by omega) q4) (fun i h1 h2=>?_);rcases q5 with q5 | q5
   ·omega
   ·by_cases hc:n - hint <= of
    ·omega
    ·exact no (i:=hint + of) (by omega) h2 q5
 | false=>
  refine wpS_bind (wpS_mono (wpS_forRange (I:=fun x c st'=>st' = st /\ ∃ la of,c = (none,la,of) /\ la < of /\ x + 1 <= of /\ la < hint + 1 /\ b (hint - la) = false) (Q:=fun c st'=>st' = st /\ ∃ la of,c = (none,la,of) /\ la < of /\ la < hint + 1 /\ b (hint - la) = false /\ (hint + 1 <= of \/ b (hint - of) = true)) ?step ?fin ⟨rfl,0,1,rfl,by omega,by omega,by omega,e⟩) ?post)
  case step=>
   rintro x c st' _ hx ⟨rfl,la,of,rfl,q1,q2,q3,q4⟩;dsimp only;by_cases hge:of ≥ hint + 1
   ·rw [zUJ hge];exact wpS_pure ⟨rfl,la,of,rfl,q1,q3,q4,.inl hge⟩
   ·rw [zUM hge];refine wpS_bind (hb _ (by omega) _ ?_);dsimp only;cases e2:b (hint - of) with
    | true=>
     rw [zUJ rfl];exact wpS_pure ⟨rfl,la,of,rfl,q1,q3,q4,.inr e2⟩
    | false=>
     rw [zUM (by decide)];exact wpS_pure ⟨rfl,of,2 * of + 1,rfl,by omega,by omega,by omega,e2⟩
  case fin=>
   rintro c st' ⟨rfl,la,of,rfl,q1,q2,q3,q4⟩;exact ⟨rfl,la,of,rfl,q1,q3,q4,.inl (by omega)⟩
  case post=>
   rintro c st' ⟨rfl,la,of,rfl,q1,q3,q4,q5⟩;refine go (hint + 1 - min of (hint + 1)) (hint - la) (by omega) (by omega) (fun i hi=>?_) (fun i h1 h2=>no (i:=hint - la) (by omega) h2 q4);rcases q5 with q5 | q5
   ·omega
   ·by_cases hc:hint + 1 <= of
    ·omega
    ·exact mono i (hint - of) (by omega) (by omega) q5
end
structure MI (le:Keyed -> Keyed -> Prop) (C out l m:List Keyed):Prop where
 perm:(out ++ (l ++ m)).Perm C
 so:out.Pairwise le
 sl:l.Pairwise le
 sm:m.Pairwise le
 ol:∀ x ∈ out,∀ y ∈ l,le x y
 om:∀ x ∈ out,∀ y ∈ m,le x y
section
variable {le:Keyed -> Keyed -> Prop} {C out l m p:List Keyed}
theorem MI.takeL (h:MI le C out (p ++ l) m) (hp:∀ x ∈ p,∀ y ∈ m,le x y):MI le C (out ++ p) l m:=by
 have sl:=List.pairwise_append.mp h.sl;refine ⟨by have:=h.perm; simpa using this,List.pairwise_append.mpr ⟨h.so,sl.1,fun x hx y hy=>h.ol x hx y (zVJ _ hy)⟩,sl.2.1,h.sm,fun x hx y hy=>?_,fun x hx y hy=>?_⟩
 ·rcases zUU.mp hx with z | z
  ·exact h.ol x z y (zUO _ hy)
  ·exact sl.2.2 x z y hy
 ·rcases zUU.mp hx with z | z
  ·exact h.om x z y hy
  ·exact hp x z y hy
theorem MI.takeR (h:MI le C out l (p ++ m)) (hp:∀ x ∈ p,∀ y ∈ l,le x y):MI le C (out ++ p) l m:=by
 have sm:=List.pairwise_append.mp h.sm;refine ⟨?_,List.pairwise_append.mpr ⟨h.so,sm.1,fun x hx y hy=>h.om x hx y (zVJ _ hy)⟩,h.sl,sm.2.1,fun x hx y hy=>?_,fun x hx y hy=>?_⟩
 ·refine List.Perm.trans ?_ h.perm;rw [zVA];refine List.Perm.append_left _ ?_;rw [<- zVA,<- zVA];exact List.Perm.append_right _ List.perm_append_comm
 ·rcases zUU.mp hx with z | z
  ·exact h.ol x z y hy
  ·exact hp x z y hy
 ·rcases zUU.mp hx with z | z
  ·exact h.om x z y (zUO _ hy)
  ·exact sm.2.2 x z y hy
def Mgd (le:Keyed -> Keyed -> Prop) (C:List Keyed) (out:List Keyed):Prop:=out.Perm C /\ out.Pairwise le
theorem MI.endL (h:MI le C out l []):Mgd le C (out ++ l):=⟨by have:=h.perm; simpa using this,List.pairwise_append.mpr ⟨h.so,h.sl,h.ol⟩⟩
theorem MI.endR (h:MI le C out [] m):Mgd le C (out ++ m):=⟨by have:=h.perm; simpa using this,List.pairwise_append.mpr ⟨h.so,h.sm,h.om⟩⟩
theorem MI.last (h:MI le C out l m) (hl:∀ y ∈ m,∀ x ∈ l,le y x):Mgd le C (out ++ m ++ l):=by
 have h2:MI le C (out ++ m) l []:=MI.takeR (p:=m) (m:=[]) (by simpa using h) hl;exact h2.endL
end
section
variable {prog:Program} {w:World} {A:Around} {E:Value -> Shared -> Prop} {s:Shared} {κ:SortKind} {vs:List Value} {r:Value -> Nat}
abbrev leR (r:Value -> Nat) (x y:Keyed):Prop:=r x.1 <= r y.1
abbrev geR (r:Value -> Nat) (x y:Keyed):Prop:=r y.1 <= r x.1
structure SameS (st st':SortSt):Prop where
 k:kindOf st' = kindOf st
 a:arrOf st' = arrOf st
 p:pendingOf st' = pendingOf st
 f:failedOf st' = failedOf st
theorem SameS.refl (st:SortSt):SameS st st:=⟨rfl,rfl,rfl,rfl⟩
theorem zEm (R:zB7 prog w s κ vs r) {left:Bool} {key:Keyed} {arr:Array Keyed} {base n hint:Nat} {st:SortSt} {Q:Option Nat -> SortSt -> Prop} (hk:kindOf st = κ) (hkey:key.1 ∈ vs) (harr:∀ i,i < n -> ∃ x,arr[base + i]? = some x /\ x.1 ∈ vs)
  (srt:∀ i j x y,i <= j -> j < n -> arr[base + i]? = some x -> arr[base + j]? = some y -> r x.1 <= r y.1) (hh:hint < n)
  (h:∀ k,k <= n -> (∀ i x,i < k -> arr[base + i]? = some x -> if left then r x.1 < r key.1 else r x.1 <= r key.1) -> (∀ i x,k <= i -> i < n -> arr[base + i]? = some x -> if left then r key.1 <= r x.1 else r key.1 < r x.1) -> Q (some k) st) :
  wpS (model prog w) A E s (zLU left key arr base n hint) Q st:=by
 let b:Nat -> Bool:=fun i=>match arr[base + i]? with
  | some x=>if left then decide (r x.1 < r key.1) else decide (r x.1 <= r key.1)
  | none=>false
 have bx:∀ {i x},arr[base + i]? = some x -> b i = if left then decide (r x.1 < r key.1) else decide (r x.1 <= r key.1):=fun {i x} e=>by
  show (match arr[base + i]? with | some x=>_ | none=>_) = _;rw [e]
 refine zMh (b:=b) hh (fun i hi Q' q=>?_) (fun i j hij hj e=>?_) fun k hk h1 h2=>h k hk (fun i x hi e=>?_) (fun i x hi hn e=>?_)
 ·obtain ⟨x,ex,hx⟩:=harr i hi;rw [bx ex] at q;refine wpS_bind (zZ ex ?_);cases left with
  | true=>
   rw [zUJ rfl] at q ⊢;exact zEB R hk hx hkey q
  | false=>
   rw [zUM (by decide)] at q ⊢;refine wpS_bind (zEB R hk hkey hx (wpS_pure ?_));have:(!decide (r key.1 < r x.1)) = decide (r x.1 <= r key.1):=by
    by_cases z:r key.1 < r x.1
    ·rw [zVC z,zUd (by omega)]; rfl
    ·rw [zUd z,zVC (by omega)]; rfl
   show Q' (some (!decide (r key.1 < r x.1))) st;rw [this]; exact q
 ·obtain ⟨x,ex,_⟩:=harr i (by omega);obtain ⟨y,ey,_⟩:=harr j hj;have:=srt i j x y hij hj ex ey;rw [bx ex]; rw [bx ey] at e;cases left with
  | true=>rw [zUJ rfl] at e ⊢; have:=zU0 e; exact zVC (by omega)
  | false=>rw [zUM (by decide)] at e ⊢; have:=zU0 e; exact zVC (by omega)
 ·have q:=h1 i hi;rw [bx e] at q;cases left with
  | true=>rw [zUJ rfl] at q ⊢; exact zU0 q
  | false=>rw [zUM (by decide)] at q ⊢; exact zU0 q
 ·have q:=h2 i hi hn;rw [bx e] at q;cases left with
  | true=>rw [zUJ rfl] at q ⊢; have:=of_decide_eq_false q; omega
  | false=>rw [zUM (by decide)] at q ⊢; have:=of_decide_eq_false q; omega
def ML (r:Value -> Nat) (a b out:Array Keyed) (ia ib:Nat):Prop:=MI (leR r) (a.toList ++ b.toList) out.toList (a.toList.drop ia) (b.toList.drop ib)
variable {a b out:Array Keyed} {ia ib:Nat}
theorem zFH {a:Array Keyed} {i:Nat} {x:Keyed} (e:a[i]? = some x):a.toList.drop i = x :: a.toList.drop (i + 1):=by
 obtain ⟨hi,rfl⟩:=Array.getElem?_eq_some_iff.mp e;rw [List.drop_eq_getElem_cons (by simpa using hi)];simp
theorem zGA {a:Array Keyed} {i:Nat} {x:Keyed} (h:x ∈ a.toList.drop i):∃ j,i <= j /\ a[j]? = some x:=by
 obtain ⟨j,e⟩:=List.mem_iff_getElem?.mp h;rw [List.getElem?_drop,zVj] at e;exact ⟨i + j,by omega,e⟩
theorem ML.pushB (h:ML r a b out ia ib) {y:Keyed} (e:b[ib]? = some y) (hy:∀ x ∈ a.toList.drop ia,r y.1 <= r x.1):ML r a b (out.push y) ia (ib + 1):=by
 unfold ML at h ⊢;rw [zFH e] at h;rw [Array.toList_push];exact MI.takeR (p:=[y]) h fun x hx z hz=>by rw [zUW.mp hx]; exact hy z hz
theorem ML.pushA (h:ML r a b out ia ib) {x:Keyed} (e:a[ia]? = some x) (hx:∀ y ∈ b.toList.drop ib,r x.1 <= r y.1):ML r a b (out.push x) (ia + 1) ib:=by
 unfold ML at h ⊢;rw [zFH e] at h;rw [Array.toList_push];exact MI.takeL (p:=[x]) h fun y hy z hz=>by rw [zUW.mp hy]; exact hx z hz
theorem zFj (a:Array Keyed) (i k:Nat):(a.extract i (i + k)).toList = (a.toList.drop i).take k:=by
 rw [Array.toList_extract,List.extract_eq_take_drop];simp
theorem ML.blockA (h:ML r a b out ia ib) (k:Nat) (hx:∀ x ∈ (a.toList.drop ia).take k,∀ y ∈ b.toList.drop ib,r x.1 <= r y.1):ML r a b (out ++ a.extract ia (ia + k)) (ia + k) ib:=by
 unfold ML at h ⊢;rw [Array.toList_append,zFj];rw [<- zWr k (a.toList.drop ia),List.drop_drop] at h;exact MI.takeL h hx
theorem ML.blockB (h:ML r a b out ia ib) (k:Nat) (hx:∀ x ∈ (b.toList.drop ib).take k,∀ y ∈ a.toList.drop ia,r x.1 <= r y.1):ML r a b (out ++ b.extract ib (ib + k)) ia (ib + k):=by
 unfold ML at h ⊢;rw [Array.toList_append,zFj];rw [<- zWr k (b.toList.drop ib),List.drop_drop] at h;exact MI.takeR h hx
theorem zFK (a:Array Keyed) (i:Nat):(a.extract i a.size).toList = a.toList.drop i:=by
 rw [Array.toList_extract,List.extract_eq_take_drop,List.take_of_length_le (by simp)]
theorem ML.done (h:ML r a b out ia ib) (e:a.size <= ia \/ b.size <= ib):Mgd (leR r) (a.toList ++ b.toList) (out ++ a.extract ia a.size ++ b.extract ib b.size).toList:=by
 unfold ML at h;rw [Array.toList_append,Array.toList_append,zFK,zFK];rcases e with e | e
 ·rw [List.drop_eq_nil_of_le (by simpa using e)] at h ⊢;simpa using h.endR
 ·rw [List.drop_eq_nil_of_le (as:=b.toList) (by simpa using e)] at h ⊢;simpa using h.endL
theorem ML.lastA (h:ML r a b out ia ib) (hl:∀ y ∈ b.toList.drop ib,∀ x ∈ a.toList.drop ia,r y.1 <= r x.1):Mgd (leR r) (a.toList ++ b.toList) (out ++ b.extract ib b.size ++ a.extract ia a.size).toList:=by
 unfold ML at h;rw [Array.toList_append,Array.toList_append,zFK,zFK];exact h.last hl
theorem ML.headA (h:ML r a b out ia ib) {x:Keyed} (e:a[ia]? = some x):∀ z ∈ a.toList.drop ia,r x.1 <= r z.1:=by
 have:=h.sl;rw [zFH e] at this ⊢;intro z hz;rcases zUG.mp hz with q | q
 ·rw [q]; exact zUA _
 ·exact (zWE.mp this).1 z q
theorem ML.headB (h:ML r a b out ia ib) {y:Keyed} (e:b[ib]? = some y):∀ z ∈ b.toList.drop ib,r y.1 <= r z.1:=by
 have:=h.sm;rw [zFH e] at this ⊢;intro z hz;rcases zUG.mp hz with q | q
 ·rw [q]; exact zUA _
 ·exact (zWE.mp this).1 z q
end
section
variable {prog:Program} {w:World} {A:Around} {E:Value -> Shared -> Prop} {s:Shared} {κ:SortKind} {vs:List Value} {r:Value -> Nat} {a b:Array Keyed}
structure Fr1 (r:Value -> Nat) (a b:Array Keyed) (st st':SortSt) (out:Array Keyed) (ia ib:Nat):Prop where
 m:ML r a b out ia ib
 s:SameS st st'
 ha:ia + 1 < a.size
 hb:ib < b.size
theorem zA8 {a:Array Keyed} {i:Nat} {x:Keyed} (e:a[i]? = some x):x ∈ a.toList:=by
 obtain ⟨hi,rfl⟩:=Array.getElem?_eq_some_iff.mp e; simp
theorem zV {α:Type} {c:Prop} [Decidable c] {m1 m2:StateT SortSt Sem α} {Q:α -> SortSt -> Prop} {st:SortSt} (h1:c -> wpS (model prog w) A E s m1 Q st) (h2:¬ c -> wpS (model prog w) A E s m2 Q st):wpS (model prog w) A E s (if c then m1 else m2) Q st:=by
 split
 ·exact h1 (by assumption)
 ·exact h2 (by assumption)
theorem zB9 {a:Array Keyed} (sa:a.toList.Pairwise (leR r)) {i j:Nat} {x y:Keyed} (hij:i <= j) (ex:a[i]? = some x) (ey:a[j]? = some y):r x.1 <= r y.1:=by
 by_cases e:i = j
 ·subst e; rw [ex] at ey; cases ey; exact zUA _
 ·obtain ⟨hi,rfl⟩:=Array.getElem?_eq_some_iff.mp ex;obtain ⟨hj,rfl⟩:=Array.getElem?_eq_some_iff.mp ey;have:=List.pairwise_iff_getElem.mp sa i j (by simpa using hi) (by simpa using hj) (by omega);simpa using this
theorem zEN {a:Array Keyed} {i k:Nat} {x:Keyed} (h:x ∈ (a.toList.drop i).take k):∃ j,j < k /\ a[i + j]? = some x:=by
 obtain ⟨j,e⟩:=List.mem_iff_getElem?.mp h;rw [List.getElem?_take] at e;split at e
 ·rw [List.getElem?_drop,zVj] at e;exact ⟨j,by assumption,e⟩
 ·cases e
theorem zAH {a:Array Keyed} {i:Nat} (h:i < a.size):a[i]? = some a[i]:=zUp h
set_option maxHeartbeats 4000000 in
theorem zJ7 (R:zB7 prog w s κ vs r) (ha:∀ x ∈ a.toList,x.1 ∈ vs) (hb:∀ x ∈ b.toList,x.1 ∈ vs) (sa:a.toList.Pairwise (leR r)) (sb:b.toList.Pairwise (leR r)) (h0:0 < a.size) (h1:0 < b.size)
  (hf:∀ y,b[0]? = some y -> ∀ x ∈ a.toList,r y.1 <= r x.1) (hl:∀ y ∈ b.toList,∀ x,a[a.size - 1]? = some x -> r y.1 <= r x.1) {st:SortSt} (hk:kindOf st = κ) {Q:Array Keyed -> SortSt -> Prop}
  (h:∀ out st',SameS st st' -> Mgd (leR r) (a.toList ++ b.toList) out.toList -> Q out st'):wpS (model prog w) A E s (zNd a b) Q st:=by
 have lastA:∀ {out ia ib},ML r a b out ia ib -> ia + 1 = a.size -> Mgd (leR r) (a.toList ++ b.toList) (out ++ b.extract ib b.size ++ a.extract ia a.size).toList:=fun {out ia ib} m e=>m.lastA fun y hy x hx=>by
  obtain ⟨j,hj,ej⟩:=zGA hx;have hj2:=(Array.getElem?_eq_some_iff.mp ej).1;exact hl y (List.mem_of_mem_drop hy) x (by rw [show a.size - 1 = j by omega]; exact ej)
 refine wpS_bind (wpS_lift (zVR ⟨rfl,?_⟩));refine wpS_bind (zZ (zAH h1) ?_);have m0:ML r a b #[] 0 0:=⟨List.Perm.refl _,.nil,sa,sb,(fun x hx=>absurd hx (by simp)),(fun x hx=>absurd hx (by simp))⟩;have m1:ML r a b #[b[0]] 0 1:=m0.pushB (zAH h1) (hf _ (zAH h1));dsimp only;by_cases c1:1 = b.size
 ·rw [zUJ (by simpa using c1)];exact wpS_pure (h _ _ (.refl _) (m1.done (.inr (by omega))))
 rw [zUM (by simpa using c1)];by_cases c2:0 + 1 = a.size
 ·rw [zUJ (by simpa using c2)];exact wpS_pure (h _ _ (.refl _) (lastA m1 c2))
 rw [zUM (by simpa using c2)];refine wpS_bind (wpS_get ?_);refine wpS_bind (wpS_mono (wpS_forRange (I:=fun x c st'=>∃ out ia ib g,c = (none,out,ia,ib,g) /\ Fr1 r a b st st' out ia ib /\ x + 1 <= ia + ib) (Q:=fun c st'=>∃ res,c.1 = some res /\ SameS st st' /\ Mgd (leR r) (a.toList ++ b.toList) res.toList) ?step ?fin ⟨_,_,_,_,rfl,⟨m1,.refl _,by omega,by omega⟩,by omega⟩) ?post)
 case fin=>
  rintro c st' ⟨out,ia,ib,g,rfl,f,hx⟩;have:=f.ha; have:=f.hb;omega
 case post=>
  rintro ⟨c1,c2⟩ st' ⟨res,e,hs,hm⟩;dsimp only at e;subst e;exact wpS_pure (h _ _ hs hm)
 case step=>
  rintro x c st' _ hx ⟨out,ia,ib,g,rfl,f,hx2⟩;dsimp only;refine wpS_bind (wpS_mono (wpS_forRange (I:=fun y c st'=>∃ out2 ia2 ib2 ca cb,c = (none,out2,ia2,ib2,ca,cb) /\ Fr1 r a b st st' out2 ia2 ib2 /\ ia + ib + y <= ia2 + ib2) (Q:=fun c st'=>(∃ res,c.1 = some res /\ SameS st st' /\ Mgd (leR r) (a.toList ++ b.toList) res.toList) \/ ∃ out2 ia2 ib2 ca cb,c = (none,out2,ia2,ib2,ca,cb) /\ Fr1 r a b st st' out2 ia2 ib2 /\ ia + ib + 1 <= ia2 + ib2) ?step1 ?fin1 ⟨_,_,_,_,_,rfl,f,by omega⟩) ?post1)
  case fin1=>
   rintro c st' ⟨out2,ia,ib,ca,cb,rfl,f,hy⟩;exact .inr ⟨_,_,_,_,_,rfl,f,by omega⟩
  case step1=>
   rintro y c st' _ hy ⟨out2,ia,ib,ca,cb,rfl,f,hy2⟩;dsimp only;have hia:ia < a.size:=by have:=f.ha; omega
   have hib:=f.hb;have eb:b[ib]? = some b[ib]:=zAH hib;have ea:a[ia]? = some a[ia]:=zAH hia;have hkk:kindOf st' = κ:=f.s.k.trans hk;refine wpS_bind (zZ eb (wpS_bind (zZ ea (wpS_bind (zEB R hkk (hb _ (zA8 eb)) (ha _ (zA8 ea)) ?_)))));dsimp only;by_cases hlt:r b[ib].1 < r a[ia].1
   ·rw [zVC hlt,zUJ rfl];refine wpS_bind (zZ eb ?_);have m2:ML r a b (out2.push b[ib]) ia (ib + 1):=f.m.pushB eb fun z hz=>by have:=f.m.headA ea z hz; omega
    by_cases c3:ib + 1 = b.size
    ·rw [zUJ (by simpa using c3)];exact wpS_pure (.inl ⟨_,rfl,f.s,m2.done (.inr (by omega))⟩)
    ·rw [zUM (by simpa using c3)];have f2:Fr1 r a b st st' (out2.push b[ib]) ia (ib + 1):=⟨m2,f.s,f.ha,by have:=f.hb; omega⟩;split
     ·exact wpS_pure (.inr ⟨_,_,_,_,_,rfl,f2,by omega⟩)
     ·exact wpS_pure ⟨_,_,_,_,_,rfl,f2,by omega⟩
   ·rw [zUd hlt,zUM (by decide)];refine wpS_bind (zZ ea ?_);have m2:ML r a b (out2.push a[ia]) (ia + 1) ib:=f.m.pushA ea fun z hz=>by have:=f.m.headB eb z hz; omega
    by_cases c3:ia + 1 + 1 = a.size
    ·rw [zUJ (by simpa using c3)];exact wpS_pure (.inl ⟨_,rfl,f.s,lastA m2 c3⟩)
    ·rw [zUM (by simpa using c3)];have f2:Fr1 r a b st st' (out2.push a[ia]) (ia + 1) ib:=⟨m2,f.s,by have:=f.ha; omega,f.hb⟩;split
     ·exact wpS_pure (.inr ⟨_,_,_,_,_,rfl,f2,by omega⟩)
     ·exact wpS_pure ⟨_,_,_,_,_,rfl,f2,by omega⟩
  case post1=>
   rintro ⟨c1,c2⟩ st' (⟨res,e,hs,hm⟩ | ⟨out2,ia,ib,ca,cb,e,f,hy⟩)
   ·dsimp only at e;subst e;exact wpS_pure ⟨res,rfl,hs,hm⟩
   ·cases e;dsimp only;refine wpS_bind (wpS_lift (zVR ⟨rfl,?_⟩));refine wpS_bind (wpS_mono (wpS_forRange (I:=fun y c st'=>∃ out3 ia3 ib3 g ca cb,c = (none,out3,ia3,ib3,g,ca,cb) /\ Fr1 r a b st st' out3 ia3 ib3 /\ ia + ib <= ia3 + ib3) (Q:=fun c st'=>(∃ res,c.1 = some res /\ SameS st st' /\ Mgd (leR r) (a.toList ++ b.toList) res.toList) \/ ∃ out3 ia3 ib3 g ca cb,c = (none,out3,ia3,ib3,g,ca,cb) /\ Fr1 r a b st st' out3 ia3 ib3 /\ ia + ib <= ia3 + ib3) ?step2 ?fin2 ⟨_,_,_,_,_,_,rfl,f,by omega⟩) ?post2)
    case fin2=>
     rintro c st' ⟨out3,ia,ib,g,ca,cb,rfl,f,hy⟩;exact .inr ⟨_,_,_,_,_,_,rfl,f,hy⟩
    case post2=>
     rintro ⟨c1,c2⟩ st' (⟨res,e,hs,hm⟩ | ⟨out3,ia,ib,g,ca,cb,e,f,hz⟩)
     ·dsimp only at e;subst e;exact wpS_pure ⟨res,rfl,hs,hm⟩
     ·cases e;dsimp only;refine wpS_bind (wpS_modify (wpS_pure ⟨_,_,_,_,rfl,⟨f.m,⟨f.s.k,f.s.a,f.s.p,f.s.f⟩,f.ha,f.hb⟩,by omega⟩))
    case step2=>
     rintro y c st' _ hy ⟨out3,ia,ib,g,ca,cb,rfl,f,hy2⟩;have hia:ia < a.size:=by have:=f.ha; omega
     have hib:=f.hb;have eb:b[ib]? = some b[ib]:=zAH hib;refine zV (fun _=>?_) (fun _=>?_)
     all_goals
      refine wpS_bind (wpS_modify ?_);refine wpS_bind (zZ eb ?_);have hs2:=f.s;refine wpS_bind (zEm (left:=false) (key:=b[ib]) (arr:=a) (base:=ia) (n:=a.size - ia) (hint:=0) R (hs2.k.trans hk) (hb _ (zA8 eb)) (fun i hi=>⟨_,zAH (by omega),ha _ (zA8 (zAH (by omega)))⟩) (fun i j x y hij hj ex ey=>zB9 sa (by omega) ex ey) (by omega) fun k hk1 g1 g2=>?_);have blk:∀ x ∈ (a.toList.drop ia).take k,∀ z ∈ b.toList.drop ib,r x.1 <= r z.1:=fun x hx z hz=>by
       obtain ⟨i,hi,ei⟩:=zEN hx;have:r x.1 <= r b[ib].1:=g1 i x hi ei;have:=f.m.headB eb z hz;omega
      have aft:∀ x ∈ a.toList.drop (ia + k),r b[ib].1 <= r x.1:=fun x hx=>by
       obtain ⟨j,hj,ej⟩:=zGA hx;have hj2:=(Array.getElem?_eq_some_iff.mp ej).1;have:=g2 (j - ia) x (by omega) (by omega) (by rw [show ia + (j - ia) = j by omega]; exact ej);exact zW0 this
      refine zV (fun hk0=>?_) (fun hk0=>?_)
      case' refine_1=>
       have m4:=f.m.blockA k blk;refine zV (fun c4=>wpS_pure (.inl ⟨_,rfl,⟨hs2.k,hs2.a,hs2.p,hs2.f⟩,lastA m4 (show ia + k + 1 = a.size by simpa using c4)⟩)) (fun c4=>zV (fun c5=>wpS_pure (.inl ⟨_,rfl,⟨hs2.k,hs2.a,hs2.p,hs2.f⟩,m4.done (.inl (Nat.le_of_eq (show a.size = ia + k by simpa using (by simpa using c5:ia + k = a.size).symm)))⟩)) (fun c5=>?_));have a4:ia + k + 1 < a.size:=by simp at c4 c5; omega
      case' refine_2=>
       have hk00:k = 0:=by omega
       subst hk00;have m4:=f.m;have a4:ia + 0 + 1 < a.size:=f.ha
      all_goals
       refine wpS_bind (zZ eb ?_);have m5:=m4.pushB eb aft;refine zV (fun c6=>wpS_pure (.inl ⟨_,rfl,⟨hs2.k,hs2.a,hs2.p,hs2.f⟩,m5.done (.inr (Nat.le_of_eq (show ib + 1 = b.size by simpa using c6).symm))⟩)) (fun c6=>?_);have c6':ib + 1 < b.size:=by simp at c6; omega
       have ea4:=zAH (Nat.lt_of_succ_lt a4);refine wpS_bind (zZ ea4 ?_);refine wpS_bind (zEm (left:=true) (arr:=b) (base:=ib + 1) (n:=b.size - (ib + 1)) (hint:=0) R (hs2.k.trans hk) (ha _ (zA8 ea4)) (fun i hi=>⟨_,zAH (by omega),hb _ (zA8 (zAH (by omega)))⟩) (fun i j x y hij hj ex ey=>zB9 sb (by omega) ex ey) (by omega) fun k2 hk2 g3 g4=>?_);have aft2:∀ y ∈ b.toList.drop (ib + 1 + k2),_ <= r y.1:=fun y hy=>by
        obtain ⟨j,hj,ej⟩:=zGA hy;have hj2:=(Array.getElem?_eq_some_iff.mp ej).1;exact g4 (j - (ib + 1)) y (by omega) (by omega) (by rw [show ib + 1 + (j - (ib + 1)) = j by omega]; exact ej)
       have m6:=m5.blockB k2 fun x hx z hz=>by
        obtain ⟨i,hi,ei⟩:=zEN hx;exact zW0 (zUT (g3 i x hi ei) (m5.headA ea4 z hz))
       refine zV (fun hk3=>?_) (fun hk3=>?_)
       case' refine_1=>
        refine zV (fun c7=>wpS_pure (.inl ⟨_,rfl,⟨hs2.k,hs2.a,hs2.p,hs2.f⟩,m6.done (.inr (Nat.le_of_eq (show ib + 1 + k2 = b.size by simpa using c7).symm))⟩)) (fun c7=>?_);have b6:ib + 1 + k2 < b.size:=by simp at c7; omega
       case' refine_2=>
        have hk00:k2 = 0:=by omega
        subst hk00;have b6:ib + 1 + 0 < b.size:=c6';replace m6:=m5
       all_goals
        refine wpS_bind (zZ ea4 ?_);have m7:=m6.pushA ea4 aft2;refine zV (fun c8=>wpS_pure (.inl ⟨_,rfl,⟨hs2.k,hs2.a,hs2.p,hs2.f⟩,lastA m7 (by simpa using c8)⟩)) (fun c8=>?_);refine zV (fun _=>wpS_pure (.inr ⟨_,_,_,_,_,_,rfl,⟨m7,⟨hs2.k,hs2.a,hs2.p,hs2.f⟩,?_,b6⟩,?_⟩)) (fun _=>wpS_pure ⟨_,_,_,_,_,_,rfl,⟨m7,⟨hs2.k,hs2.a,hs2.p,hs2.f⟩,?_,b6⟩,?_⟩);all_goals (simp at c8 ⊢; omega)
end
section
variable {prog:Program} {w:World} {A:Around} {E:Value -> Shared -> Prop} {s:Shared} {κ:SortKind} {vs:List Value} {r:Value -> Nat} {a b out:Array Keyed} {na nb:Nat}
def MH (r:Value -> Nat) (a b out:Array Keyed) (na nb:Nat):Prop:=MI (geR r) (a.toList ++ b.toList) out.toList (a.toList.take na).reverse (b.toList.take nb).reverse
theorem zKn {a:Array Keyed} {i:Nat} {x:Keyed} (e:a[i]? = some x):(a.toList.take (i + 1)).reverse = x :: (a.toList.take i).reverse:=by
 rw [List.take_add_one,zVj,e]; simp
theorem zBL {a:Array Keyed} {n:Nat} {x:Keyed} (h:x ∈ a.toList.take n):∃ j,j < n /\ a[j]? = some x:=by
 obtain ⟨j,e⟩:=List.mem_iff_getElem?.mp h;rw [List.getElem?_take] at e;split at e
 ·rw [zVj] at e;exact ⟨j,by assumption,e⟩
 ·cases e
theorem MH.pushA (h:MH r a b out (na + 1) nb) {x:Keyed} (e:a[na]? = some x) (hx:∀ y ∈ b.toList.take nb,r y.1 <= r x.1):MH r a b (out.push x) na nb:=by
 unfold MH at h ⊢;rw [zKn e] at h;rw [Array.toList_push];exact MI.takeL (p:=[x]) h fun y hy z hz=>by rw [zUW.mp hy]; exact hx z (by simpa using hz)
theorem MH.pushB (h:MH r a b out na (nb + 1)) {y:Keyed} (e:b[nb]? = some y) (hy:∀ x ∈ a.toList.take na,r x.1 <= r y.1):MH r a b (out.push y) na nb:=by
 unfold MH at h ⊢;rw [zKn e] at h;rw [Array.toList_push];exact MI.takeR (p:=[y]) h fun x hx z hz=>by rw [zUW.mp hx]; exact hy z (by simpa using hz)
theorem zLL (a:Array Keyed) {i n:Nat} (h:i <= n):(a.toList.take n).reverse = (a.extract i n).reverse.toList ++ (a.toList.take i).reverse:=by
 rw [Array.toList_reverse,Array.toList_extract,List.extract_eq_take_drop,<- List.reverse_append];congr 1;rw [<- List.drop_take];conv=>lhs; rw [<- zWr i (a.toList.take n),List.take_take,Nat.min_eq_left h]
theorem MH.blockA (h:MH r a b out na nb) {i:Nat} (hi:i <= na) (hx:∀ j x,i <= j -> j < na -> a[j]? = some x -> ∀ y ∈ b.toList.take nb,r y.1 <= r x.1):MH r a b (out ++ (a.extract i na).reverse) i nb:=by
 unfold MH at h ⊢;rw [zLL a hi] at h;rw [Array.toList_append];refine MI.takeL h fun x hx' y hy=>?_;rw [Array.toList_reverse,List.mem_reverse,Array.toList_extract,List.extract_eq_take_drop] at hx';obtain ⟨j,hj,ej⟩:=zEN hx';exact hx (i + j) x (by omega) (by omega) ej y (by simpa using hy)
theorem MH.blockB (h:MH r a b out na nb) {i:Nat} (hi:i <= nb) (hx:∀ j x,i <= j -> j < nb -> b[j]? = some x -> ∀ y ∈ a.toList.take na,r y.1 <= r x.1):MH r a b (out ++ (b.extract i nb).reverse) na i:=by
 unfold MH at h ⊢;rw [zLL b hi] at h;rw [Array.toList_append];refine MI.takeR h fun x hx' y hy=>?_;rw [Array.toList_reverse,List.mem_reverse,Array.toList_extract,List.extract_eq_take_drop] at hx';obtain ⟨j,hj,ej⟩:=zEN hx';exact hx (i + j) x (by omega) (by omega) ej y (by simpa using hy)
theorem zD4 (a:Array Keyed) (n:Nat):(a.extract 0 n).toList = a.toList.take n:=by
 rw [Array.toList_extract,List.extract_eq_take_drop]; simp
theorem Mgd.rev {C xs:List Keyed} (h:Mgd (geR r) C xs):Mgd (leR r) C xs.reverse:=⟨(List.reverse_perm _).trans h.1,List.pairwise_reverse.mpr h.2⟩
theorem MH.done (h:MH r a b out na nb) (e:na = 0 \/ nb = 0):Mgd (leR r) (a.toList ++ b.toList) (a.extract 0 na ++ b.extract 0 nb ++ out.reverse).toList:=by
 unfold MH at h;rw [Array.toList_append,Array.toList_append,zD4,zD4,Array.toList_reverse];rcases e with rfl | rfl
 ·have:=h.endR.rev;simpa using this
 ·have:=(MI.endL (l:=(a.toList.take na).reverse) (by simpa using h)).rev;simpa using this
theorem MH.firstB (h:MH r a b out na nb) (hl:∀ x ∈ a.toList.take na,∀ y ∈ b.toList.take nb,r y.1 <= r x.1):Mgd (leR r) (a.toList ++ b.toList) (b.extract 0 nb ++ a.extract 0 na ++ out.reverse).toList:=by
 unfold MH at h;have h2:=MI.endR (MI.takeL (p:=(a.toList.take na).reverse) (l:=[]) (by simpa using h) fun x hx y hy=>hl x (by simpa using hx) y (by simpa using hy));rw [Array.toList_append,Array.toList_append,zD4,zD4,Array.toList_reverse];simpa using h2.rev
structure Fr2 (r:Value -> Nat) (a b:Array Keyed) (st st':SortSt) (out:Array Keyed) (na nb:Nat):Prop where
 m:MH r a b out na nb
 s:SameS st st'
 a0:0 < na
 b0:1 < nb
 al:na < a.size
 bl:nb <= b.size
set_option maxHeartbeats 4000000 in
theorem zKP (R:zB7 prog w s κ vs r) (ha:∀ x ∈ a.toList,x.1 ∈ vs) (hb:∀ x ∈ b.toList,x.1 ∈ vs) (sa:a.toList.Pairwise (leR r)) (sb:b.toList.Pairwise (leR r)) (h0:0 < a.size) (h1:0 < b.size)
  (hf:∀ y,b[0]? = some y -> ∀ x ∈ a.toList,r y.1 <= r x.1) (hl:∀ y ∈ b.toList,∀ x,a[a.size - 1]? = some x -> r y.1 <= r x.1) {st:SortSt} (hk:kindOf st = κ) {Q:Array Keyed -> SortSt -> Prop}
  (h:∀ out st',SameS st st' -> Mgd (leR r) (a.toList ++ b.toList) out.toList -> Q out st'):wpS (model prog w) A E s (zMu a b) Q st:=by
 have firstB:∀ {out na nb},MH r a b out na nb -> nb = 1 -> Mgd (leR r) (a.toList ++ b.toList) (b.extract 0 nb ++ a.extract 0 na ++ out.reverse).toList:=fun {out na nb} m e=>m.firstB fun x hx y hy=>by
  obtain ⟨j,hj,ej⟩:=zBL hy;have:j = 0:=by omega
  subst this;exact hf y ej x (List.mem_of_mem_take hx)
 have e0:a[a.size - 1]? = some a[a.size - 1]:=zAH (by omega);refine wpS_bind (wpS_lift (zVR ⟨rfl,?_⟩));refine wpS_bind (zZ e0 ?_);have m0:MH r a b #[] (a.size - 1 + 1) b.size:=by
  refine ⟨?_,.nil,?_,?_,(fun x hx=>absurd hx (by simp)),(fun x hx=>absurd hx (by simp))⟩
  ·show ([] ++ ((a.toList.take (a.size - 1 + 1)).reverse ++ (b.toList.take b.size).reverse)).Perm _;rw [zWM,show a.size - 1 + 1 = a.toList.length by simp; omega,show b.size = b.toList.length by simp,List.take_length,List.take_length];exact List.Perm.append (List.reverse_perm _) (List.reverse_perm _)
  ·exact List.pairwise_reverse.mpr (sa.sublist (List.take_sublist _ _))
  ·exact List.pairwise_reverse.mpr (sb.sublist (List.take_sublist _ _))
 have m1:MH r a b #[a[a.size - 1]] (a.size - 1) b.size:=m0.pushA e0 fun y hy=>hl y (List.mem_of_mem_take hy) _ e0;refine zV (fun c1=>wpS_pure (h _ _ (.refl _) (m1.done (.inl (by simpa using c1))))) (fun c1=>?_);refine zV (fun c2=>wpS_pure (h _ _ (.refl _) (firstB m1 (by simpa using c2)))) (fun c2=>?_);have c1':¬ a.size - 1 = 0:=by simpa using c1
 have c2':¬ b.size = 1:=by simpa using c2
 refine wpS_bind (wpS_get ?_);refine wpS_bind (wpS_mono (wpS_forRange (I:=fun x c st'=>∃ out na nb g,c = (none,na,nb,out,g) /\ Fr2 r a b st st' out na nb /\ x + 1 + (na + nb) <= a.size + b.size) (Q:=fun c st'=>∃ res,c.1 = some res /\ SameS st st' /\ Mgd (leR r) (a.toList ++ b.toList) res.toList) ?step ?fin ⟨_,_,_,_,rfl,⟨m1,.refl _,by omega,by omega,by omega,by omega⟩,by omega⟩) ?post)
 case fin=>
  rintro c st' ⟨out,na,nb,g,rfl,f,hx⟩;have:=f.a0; have:=f.b0;omega
 case post=>
  rintro ⟨c1,c2⟩ st' ⟨res,e,hs,hm⟩;dsimp only at e;subst e;exact wpS_pure (h _ _ hs hm)
 case step=>
  rintro x c st' _ hx ⟨out,na,nb,g,rfl,f,hx2⟩;refine wpS_bind (wpS_mono (wpS_forRange (I:=fun y c st'=>∃ out2 na2 nb2 ca cb,c = (none,na2,nb2,out2,ca,cb) /\ Fr2 r a b st st' out2 na2 nb2 /\ na2 + nb2 + y <= na + nb) (Q:=fun c st'=>(∃ res,c.1 = some res /\ SameS st st' /\ Mgd (leR r) (a.toList ++ b.toList) res.toList) \/ ∃ out2 na2 nb2 ca cb,c = (none,na2,nb2,out2,ca,cb) /\ Fr2 r a b st st' out2 na2 nb2 /\ na2 + nb2 + 1 <= na + nb) ?step1 ?fin1 ⟨out,na,nb,_,_,rfl,f,by omega⟩) ?post1)
  case fin1=>
   rintro c st' ⟨out2,na,nb,ca,cb,rfl,f,hy⟩;exact .inr ⟨_,_,_,_,_,rfl,f,by omega⟩
  case step1=>
   rintro y c st' _ hy ⟨out2,na2,nb2,ca,cb,rfl,f,hy2⟩;obtain ⟨p,rfl⟩:∃ p,na2 = p + 1:=⟨na2 - 1,by have:=f.a0; omega⟩;obtain ⟨q,rfl⟩:∃ q,nb2 = q + 1:=⟨nb2 - 1,by have:=f.b0; omega⟩;have hp:p < a.size:=by have:=f.al; omega
   have hq:q < b.size:=by have:=f.bl; omega
   have eb:b[q]? = some b[q]:=zAH hq;have ea:a[p]? = some a[p]:=zAH hp;refine wpS_bind (zZ eb (wpS_bind (zZ ea (wpS_bind (zEB R (f.s.k.trans hk) (hb _ (zA8 eb)) (ha _ (zA8 ea)) ?_)))));dsimp only;by_cases hlt:r b[q].1 < r a[p].1
   ·rw [zVC hlt,zUJ rfl];refine wpS_bind (zZ ea ?_);have m2:MH r a b (out2.push a[p]) p (q + 1):=f.m.pushA ea fun z hz=>by
     obtain ⟨j,hj,ej⟩:=zBL hz;have:=zB9 sb (show j <= q by omega) ej eb;omega
    refine zV (fun c3=>wpS_pure (.inl ⟨_,rfl,f.s,m2.done (.inl (by simpa using c3))⟩)) (fun c3=>?_);have f2:Fr2 r a b st st' (out2.push a[p]) p (q + 1):=⟨m2,f.s,by simp at c3; omega,f.b0,by omega,f.bl⟩;exact zV (fun _=>wpS_pure (.inr ⟨_,_,_,_,_,rfl,f2,by omega⟩)) (fun _=>wpS_pure ⟨_,_,_,_,_,rfl,f2,by omega⟩)
   ·rw [zUd hlt,zUM (by decide)];refine wpS_bind (zZ eb ?_);have m2:MH r a b (out2.push b[q]) (p + 1) q:=f.m.pushB eb fun z hz=>by
     obtain ⟨j,hj,ej⟩:=zBL hz;have:=zB9 sa (show j <= p by omega) ej ea;omega
    refine zV (fun c3=>wpS_pure (.inl ⟨_,rfl,f.s,firstB m2 (by simpa using c3)⟩)) (fun c3=>?_);have f2:Fr2 r a b st st' (out2.push b[q]) (p + 1) q:=⟨m2,f.s,f.a0,by have:=f.b0; simp at c3; omega,f.al,by omega⟩;exact zV (fun _=>wpS_pure (.inr ⟨_,_,_,_,_,rfl,f2,by omega⟩)) (fun _=>wpS_pure ⟨_,_,_,_,_,rfl,f2,by omega⟩)
  case post1=>
   rintro ⟨c1,c2⟩ st' (⟨res,e,hs,hm⟩ | ⟨out2,na2,nb2,ca,cb,e,f,hy⟩)
   ·dsimp only at e;subst e;exact wpS_pure ⟨res,rfl,hs,hm⟩
   ·cases e;refine wpS_bind (wpS_lift (zVR ⟨rfl,?_⟩));refine wpS_bind (wpS_mono (wpS_forRange (I:=fun y c st'=>∃ out3 na3 nb3 g ca cb,c = (none,na3,nb3,out3,g,ca,cb) /\ Fr2 r a b st st' out3 na3 nb3 /\ na3 + nb3 <= na2 + nb2) (Q:=fun c st'=>(∃ res,c.1 = some res /\ SameS st st' /\ Mgd (leR r) (a.toList ++ b.toList) res.toList) \/ ∃ out3 na3 nb3 g ca cb,c = (none,na3,nb3,out3,g,ca,cb) /\ Fr2 r a b st st' out3 na3 nb3 /\ na3 + nb3 <= na2 + nb2) ?step2 ?fin2 ⟨out2,na2,nb2,_,_,_,rfl,f,by omega⟩) ?post2)
    case fin2=>
     rintro c st' ⟨out3,na,nb,g,ca,cb,rfl,f,hy⟩;exact .inr ⟨_,_,_,_,_,_,rfl,f,hy⟩
    case post2=>
     rintro ⟨c1,c2⟩ st' (⟨res,e,hs,hm⟩ | ⟨out3,na3,nb3,g,ca,cb,e,f,hz⟩)
     ·dsimp only at e;subst e;exact wpS_pure ⟨res,rfl,hs,hm⟩
     ·cases e;exact wpS_bind (wpS_modify (wpS_pure ⟨out3,na3,nb3,_,rfl,⟨f.m,⟨f.s.k,f.s.a,f.s.p,f.s.f⟩,f.a0,f.b0,f.al,f.bl⟩,by omega⟩))
    case step2=>
     rintro y c st' _ hy ⟨out3,na3,nb3,g,ca,cb,rfl,f,hy2⟩;obtain ⟨q,rfl⟩:∃ q,nb3 = q + 1:=⟨nb3 - 1,by have:=f.b0; omega⟩;have hq:q < b.size:=by have:=f.bl; omega
     have hq0:0 < q:=by have:=f.b0; omega
     have hn0:=f.a0;have hnl:=f.al;have eb:b[q]? = some b[q]:=zAH hq;refine zV (fun _=>?_) (fun _=>?_)
     all_goals
      refine wpS_bind (wpS_modify ?_);refine wpS_bind (zZ eb ?_);have hs2:=f.s;refine wpS_bind (zEm (left:=false) (key:=b[q]) (arr:=a) (base:=0) (n:=na3) (hint:=na3 - 1) R (hs2.k.trans hk) (hb _ (zA8 eb)) (fun i hi=>⟨_,zAH (by omega),ha _ (zA8 (zAH (by omega)))⟩) (fun i j x y hij hj ex ey=>zB9 sa (by omega) ex ey) (by omega) fun k hk1 g1 g2=>?_);have aft:∀ x ∈ a.toList.take k,r x.1 <= r b[q].1:=fun x hx=>by
       obtain ⟨j,hj,ej⟩:=zBL hx;exact g1 j x hj (by rw [Nat.zero_add]; exact ej)
      have m4:=f.m.blockA hk1 fun j x h1 h2 ej y hy=>by
       obtain ⟨i,hi,ei⟩:=zBL hy;have z1:=zB9 sb (show i <= q by omega) ei eb;have z2:r b[q].1 < r x.1:=g2 j x h1 h2 (by rw [Nat.zero_add]; exact ej);omega
      refine zV (fun hk0=>?_) (fun hk0=>?_)
      case' refine_1=>
       refine zV (fun c4=>wpS_pure (.inl ⟨_,rfl,⟨hs2.k,hs2.a,hs2.p,hs2.f⟩,m4.done (.inl (by simpa using c4))⟩)) (fun c4=>?_);have a4:0 < k:=by simp at c4; omega
      case' refine_2=>
       have hk00:k = na3:=by simp at hk0; omega
       subst hk00;replace m4:=f.m;have a4:=hn0
      all_goals
       refine wpS_bind (zZ eb ?_);have m5:=m4.pushB eb aft;refine zV (fun c6=>wpS_pure (.inl ⟨_,rfl,⟨hs2.k,hs2.a,hs2.p,hs2.f⟩,firstB m5 (by simpa using c6)⟩)) (fun c6=>?_);have c6':1 < q:=by simp at c6; omega
       obtain ⟨p,rfl⟩:∃ p,k = p + 1:=⟨k - 1,by omega⟩;have hp:p < a.size:=by omega
       have ea4:a[p]? = some a[p]:=zAH hp;refine wpS_bind (zZ ea4 ?_);refine wpS_bind (zEm (left:=true) (key:=a[p]) (arr:=b) (base:=0) (n:=q) (hint:=q - 1) R (hs2.k.trans hk) (ha _ (zA8 ea4)) (fun i hi=>⟨_,zAH (by omega),hb _ (zA8 (zAH (by omega)))⟩) (fun i j x y hij hj ex ey=>zB9 sb (by omega) ex ey) (by omega) fun k2 hk2 g3 g4=>?_);have aft2:∀ y ∈ b.toList.take k2,r y.1 <= r a[p].1:=fun y hy=>by
        obtain ⟨j,hj,ej⟩:=zBL hy;exact zW0 (g3 j y hj (by rw [Nat.zero_add]; exact ej))
       have m6:=m5.blockB hk2 fun j x h1 h2 ej y hy=>by
        obtain ⟨i,hi,ei⟩:=zBL hy;have z1:=zB9 sa (show i <= p by omega) ei ea4;have z2:r a[p].1 <= r x.1:=g4 j x h1 h2 (by rw [Nat.zero_add]; exact ej);omega
       refine zV (fun hk3=>?_) (fun hk3=>?_)
       case' refine_1=>
        refine zV (fun c7=>wpS_pure (.inl ⟨_,rfl,⟨hs2.k,hs2.a,hs2.p,hs2.f⟩,firstB m6 (by simpa using c7)⟩)) (fun c7=>zV (fun c8=>wpS_pure (.inl ⟨_,rfl,⟨hs2.k,hs2.a,hs2.p,hs2.f⟩,m6.done (.inr (by simpa using c8))⟩)) (fun c8=>?_));have b6:1 < k2:=by simp at c7 c8; omega
       case' refine_2=>
        have hk00:k2 = q:=by simp at hk3; omega
        subst hk00;replace m6:=m5;have b6:=c6'
       all_goals
        refine wpS_bind (zZ ea4 ?_);have m7:=m6.pushA ea4 aft2;refine zV (fun c9=>wpS_pure (.inl ⟨_,rfl,⟨hs2.k,hs2.a,hs2.p,hs2.f⟩,m7.done (.inl (by simpa using c9))⟩)) (fun c9=>?_);have a7:0 < p:=by simp at c9; omega
        exact zV (fun _=>wpS_pure (.inr ⟨_,p,k2,_,_,_,rfl,⟨m7,⟨hs2.k,hs2.a,hs2.p,hs2.f⟩,a7,b6,by omega,by omega⟩,by omega⟩)) (fun _=>wpS_pure ⟨_,p,k2,_,_,_,rfl,⟨m7,⟨hs2.k,hs2.a,hs2.p,hs2.f⟩,a7,b6,by omega,by omega⟩,by omega⟩)
end
section
variable {prog:Program} {w:World} {A:Around} {E:Value -> Shared -> Prop} {s:Shared} {κ:SortKind} {vs:List Value} {r:Value -> Nat}
theorem zJJ:∀ (m:List Keyed) (k sa:Nat) (arr:Array Keyed),sa + k + m.length <= arr.size -> ((m.zipIdx k).foldl (fun a x=>match x with | (p,j)=>a.setIfInBounds (sa + j) p) arr).toList = arr.toList.take (sa + k) ++ m ++ arr.toList.drop (sa + k + m.length)
 | [],k,sa,arr,h=>by simp
 | x :: m,k,sa,arr,h=>by
  rw [List.zipIdx_cons,List.foldl_cons];simp only [zUb] at h;rw [zJJ m (k + 1) sa _ (by rw [Array.size_setIfInBounds]; omega)];rw [Array.toList_setIfInBounds];have hl:arr.toList.length = arr.size:=by simp
  have e1:(arr.toList.set (sa + k) x).take (sa + (k + 1)) = arr.toList.take (sa + k) ++ [x]:=by
   rw [show sa + (k + 1) = (sa + k) + 1 by omega,List.take_add_one,List.take_set,zUy (by omega)];rw [List.set_eq_of_length_le (by simp; omega)];simp
  have e2:(arr.toList.set (sa + k) x).drop (sa + (k + 1) + m.length) = arr.toList.drop (sa + k + (m.length + 1)):=by
   rw [List.drop_set_of_lt (by omega)];congr 1; omega
  rw [e1,e2];simp
theorem zNA {T R1 U:List Keyed} {i:Nat} (h:i < R1.length):(T ++ (R1 ++ U))[T.length + i]? = R1[i]?:=by
 rw [zVE (by omega),zUB (by omega)];congr 1; omega
theorem zNH {l:List Keyed} {k:Nat} {x:Keyed} (h:x ∈ l.take k):∃ j,j < k /\ l[j]? = some x:=by
 obtain ⟨j,e⟩:=List.mem_iff_getElem?.mp h;rw [List.getElem?_take] at e;split at e
 ·exact ⟨j,by assumption,e⟩
 ·cases e
theorem zOn {l:List Keyed} {k:Nat} {x:Keyed} (h:x ∈ l.drop k):∃ j,k <= j /\ l[j]? = some x:=by
 obtain ⟨j,e⟩:=List.mem_iff_getElem?.mp h;rw [List.getElem?_drop] at e;exact ⟨k + j,by omega,e⟩
theorem zJ8 (R:zB7 prog w s κ vs r) {st:SortSt} (hk:kindOf st = κ) (hfl:failedOf st = none) {i sa na pw sb nb pw2:Nat} {T R1 R2 U:List Keyed} (ha:(arrOf st).toList = T ++ (R1 ++ (R2 ++ U))) (hv:∀ x ∈ (arrOf st).toList,x.1 ∈ vs) (hT:T.length = sa) (h1:R1.length = na) (hsb:sb = sa + na) (h2:R2.length = nb) (n1:0 < na) (n2:0 < nb)
  (s1:R1.Pairwise (leR r)) (s2:R2.Pairwise (leR r)) (e1:(pendingOf st)[i]? = some (sa,na,pw)) (e2:(pendingOf st)[i + 1]? = some (sb,nb,pw2)) {Q:Bool -> SortSt -> Prop}
  (h:∀ m st',kindOf st' = κ -> failedOf st' = none -> pendingOf st' = ((pendingOf st).setIfInBounds i (sa,na + nb,pw)).eraseIdxIfInBounds (i + 1) -> (arrOf st').toList = T ++ (m ++ U) -> m.Perm (R1 ++ R2) -> m.Pairwise (leR r) -> Q true st') :
  wpS (model prog w) A E s (mergeAt' i) Q st:=by
 subst hT h1 h2 hsb;have at1:∀ j,j < R1.length -> (arrOf st)[T.length + j]? = R1[j]?:=fun j hj=>by rw [<- zVj,ha]; exact zNA hj
 have at2:∀ j,j < R2.length -> (arrOf st)[T.length + R1.length + j]? = R2[j]?:=fun j hj=>by
  rw [<- zVj,ha,<- zVA,show T.length + R1.length = (T ++ R1).length by simp]; exact zNA hj
 have srt1:∀ {i j:Nat} {x y:Keyed},i <= j -> R1[i]? = some x -> R1[j]? = some y -> r x.1 <= r y.1:=fun {i j x y} hij ex ey=>zB9 (a:=R1.toArray) (by simpa using s1) hij (by simpa using ex) (by simpa using ey);have srt2:∀ {i j:Nat} {x y:Keyed},i <= j -> R2[i]? = some x -> R2[j]? = some y -> r x.1 <= r y.1:=fun {i j x y} hij ex ey=>zB9 (a:=R2.toArray) (by simpa using s2) hij (by simpa using ex) (by simpa using ey);have v1:∀ x ∈ R1,x.1 ∈ vs:=fun x hx=>hv x (by rw [ha]; simp [hx]);have v2:∀ x ∈ R2,x.1 ∈ vs:=fun x hx=>hv x (by rw [ha]; simp [hx]);have g1:∀ {j} (hj:j < R1.length),R1[j]? = some R1[j]:=fun hj=>zT8 hj;have g2:∀ {j} (hj:j < R2.length),R2[j]? = some R2[j]:=fun hj=>zT8 hj;refine wpS_bind (wpS_get ?_);rw [e1,e2];have eb0:(arrOf st)[T.length + R1.length]? = some R2[0]:=(at2 0 n2).trans (g2 n2);refine wpS_bind (wpS_modify ?_);refine wpS_bind (zZ eb0 ?_);refine wpS_bind (zEm (left:=false) (key:=R2[0]) (arr:=arrOf st) (base:=T.length) (n:=R1.length) (hint:=0) R hk (v2 _ (zUc n2)) (fun j hj=>⟨_,(at1 j hj).trans (g1 hj),v1 _ (zUc hj)⟩) (fun i j x y hij hj ex ey=>srt1 hij ((at1 i (by omega)).symm.trans ex) ((at1 j hj).symm.trans ey)) n1 fun k hk1 q1 q2=>?_);have hP:∀ x ∈ R1.take k,r x.1 <= r R2[0].1:=fun x hx=>by
  obtain ⟨j,hj,ej⟩:=zNH hx;exact q1 j x hj ((at1 j (by omega)).trans ej)
 have hX:∀ x ∈ R1.drop k,r R2[0].1 <= r x.1:=fun x hx=>by
  obtain ⟨j,hj,ej⟩:=zOn hx;have hl:=(zT7.mp ej).1;exact zW0 (q2 j x hj hl ((at1 j hl).trans ej))
 have h0:∀ y ∈ R2,r R2[0].1 <= r y.1:=fun y hy=>by
  obtain ⟨j,ej⟩:=List.mem_iff_getElem?.mp hy;exact srt2 (zUq _) (g2 n2) ej
 refine zV (fun c1=>?_) (fun c1=>?_)
 ·have hk2:R1.length <= k:=by simp at c1; omega
  rw [List.take_of_length_le hk2] at hP;exact wpS_pure (h (R1 ++ R2) _ hk hfl rfl (by rw [ha]; simp) (.refl _) (List.pairwise_append.mpr ⟨s1,s2,fun x hx y hy=>zUV (hP x hx) (h0 y hy)⟩))
 have hkl:k < R1.length:=by simp at c1; omega
 have nl:R1.length - 1 < R1.length:=by omega
 have eL:(arrOf st)[T.length + k + (R1.length - k) - 1]? = some R1[R1.length - 1]:=by
  rw [show T.length + k + (R1.length - k) - 1 = T.length + (R1.length - 1) by omega];exact (at1 _ nl).trans (g1 nl)
 refine wpS_bind (zZ eL ?_);refine wpS_bind (zEm (left:=true) (key:=R1[R1.length - 1]) (arr:=arrOf st) (base:=T.length + R1.length) (n:=R2.length) (hint:=R2.length - 1) R hk (v1 _ (zUc nl)) (fun j hj=>⟨_,(at2 j hj).trans (g2 hj),v2 _ (zUc hj)⟩) (fun i j x y hij hj ex ey=>srt2 hij ((at2 i (by omega)).symm.trans ex) ((at2 j hj).symm.trans ey)) (by omega) fun k2 hk2 q3 q4=>?_);have hXl:∀ x ∈ R1,r x.1 <= r R1[R1.length - 1].1:=fun x hx=>by
  obtain ⟨j,ej⟩:=List.mem_iff_getElem?.mp hx;have hl:=(zT7.mp ej).1;exact srt1 (by omega) ej (g1 nl)
 have hY:∀ y ∈ R2.take k2,r y.1 <= r R1[R1.length - 1].1:=fun y hy=>by
  obtain ⟨j,hj,ej⟩:=zNH hy;exact zW0 (q3 j y hj ((at2 j (by omega)).trans ej))
 have hS:∀ y ∈ R2.drop k2,r R1[R1.length - 1].1 <= r y.1:=fun y hy=>by
  obtain ⟨j,hj,ej⟩:=zOn hy;have hl:=(zT7.mp ej).1;exact q4 j y hj hl ((at2 j hl).trans ej)
 refine zV (fun c2=>?_) (fun c2=>?_)
 ·have:k2 = 0:=by simpa using c2
  subst this;exact wpS_pure (h (R1 ++ R2) _ hk hfl rfl (by rw [ha]; simp) (.refl _) (List.pairwise_append.mpr ⟨s1,s2,fun x hx y hy=>zUV (hXl x hx) (hS y (by simpa using hy))⟩))
 have hk20:0 < k2:=by simp at c2; omega
 have eX:((arrOf st).extract (T.length + k) (T.length + R1.length)).toList = R1.drop k:=by
  rw [Array.toList_extract,List.extract_eq_take_drop,ha,List.drop_append,List.drop_of_length_le (by omega),zWM,show T.length + k - T.length = k by omega,List.drop_append_of_le_length (by omega),show T.length + R1.length - (T.length + k) = (R1.drop k).length by simp; omega,List.take_left'];rfl
 have eY:((arrOf st).extract (T.length + R1.length) (T.length + R1.length + k2)).toList = R2.take k2:=by
  rw [zFj,ha,<- zVA,show T.length + R1.length = (T ++ R1).length by simp,List.drop_left',List.take_append_of_le_length hk2];rfl
 generalize hx0:(arrOf st).extract (T.length + k) (T.length + R1.length) = x0 at eX;generalize hy0:(arrOf st).extract (T.length + R1.length) (T.length + R1.length + k2) = y0 at eY;have zx:x0.size = R1.length - k:=by rw [<- zUn,eX,List.length_drop]
 have zy:y0.size = k2:=by rw [<- zUn,eY,zVS]; omega
 have w1:∀ y,y0[0]? = some y -> ∀ x ∈ x0.toList,r y.1 <= r x.1:=fun y ey x hx=>by
  rw [<- zVj,eY,List.getElem?_take,zUJ hk20,g2 n2] at ey;cases ey;rw [eX] at hx;exact hX x hx
 have w2:∀ y ∈ y0.toList,∀ x,x0[x0.size - 1]? = some x -> r y.1 <= r x.1:=fun y hy x ex=>by
  rw [<- zVj,eX,List.getElem?_drop,zx,show k + (R1.length - k - 1) = R1.length - 1 by omega,g1 nl] at ex;cases ex;rw [eY] at hy;exact hY y hy
 have fin:∀ (out:Array Keyed) (st':SortSt),SameS (SortSt.mk' (kindOf st) (arrOf st) (((pendingOf st).setIfInBounds i (T.length,R1.length + R2.length,pw)).eraseIdxIfInBounds (i + 1)) (gallopOf st) (failedOf st)) st' -> Mgd (leR r) (x0.toList ++ y0.toList) out.toList ->
   wpS (model prog w) A E s (do
    modify fun s=>setArr s (out.toList.zipIdx.foldl (fun a x=>match x with | (p,j)=>a.setIfInBounds (T.length + k + j) p) (arrOf s));let s <- get;pure (failedOf s).isNone) Q st':=by
  intro out st' sm mg;refine wpS_bind (wpS_modify (wpS_bind (wpS_get ?_)));have hf:failedOf st' = none:=sm.f.trans hfl;show wpS _ _ _ _ (pure (failedOf st').isNone) _ _;rw [hf];rw [eX,eY] at mg;have hlen:out.toList.length = (R1.length - k) + k2:=by
   rw [mg.1.length_eq,zUK,List.length_drop,zVS]; omega
  have ea:arrOf st' = arrOf st:=sm.a;have e3:((out.toList.zipIdx).foldl (fun a x=>match x with | (p,j)=>a.setIfInBounds (T.length + k + j) p) (arrOf st')).toList = T ++ ((R1.take k ++ (out.toList ++ R2.drop k2)) ++ U):=by
   have hsz:(arrOf st').size = T.length + (R1.length + (R2.length + U.length)):=by rw [ea,<- zUn,ha]; simp
   rw [zJJ out.toList 0 (T.length + k) (arrOf st') (by omega),ea,ha];have t1:List.take (T.length + k + 0) (T ++ (R1 ++ (R2 ++ U))) = T ++ R1.take k:=by
    rw [Nat.add_zero,List.take_append,List.take_of_length_le (by omega),show T.length + k - T.length = k by omega,List.take_append_of_le_length (by omega)]
   have t2:List.drop (T.length + k + 0 + out.toList.length) (T ++ (R1 ++ (R2 ++ U))) = R2.drop k2 ++ U:=by
    rw [show T.length + k + 0 + out.toList.length = (T ++ R1).length + k2 by rw [hlen]; simp; omega,<- zVA,List.drop_append,List.drop_of_length_le (by omega),zWM,show (T ++ R1).length + k2 - (T ++ R1).length = k2 by omega,List.drop_append_of_le_length hk2]
   rw [t1,t2];simp
  have p1:=List.pairwise_append.mp (show (R1.take k ++ R1.drop k).Pairwise (leR r) by rw [zWr]; exact s1);have p2:=List.pairwise_append.mp (show (R2.take k2 ++ R2.drop k2).Pairwise (leR r) by rw [zWr]; exact s2);have mo:∀ x,x ∈ out.toList -> x ∈ R1.drop k \/ x ∈ R2.take k2:=fun x hx=>zUU.mp (mg.1.mem_iff.mp hx);refine wpS_pure (h (R1.take k ++ (out.toList ++ R2.drop k2)) _ (sm.k.trans hk) hf sm.p e3 ?_ ?_)
  ·refine ((mg.1.append_right (R2.drop k2)).append_left (R1.take k)).trans ?_;rw [zVA,zWr,<- zVA,zWr]
  ·refine List.pairwise_append.mpr ⟨p1.1,List.pairwise_append.mpr ⟨mg.2,p2.2.1,fun x hx y hy=>?_⟩,fun x hx y hy=>?_⟩
   ·rcases mo x hx with z | z
    ·exact zUV (hXl x (List.mem_of_mem_drop z)) (hS y hy)
    ·exact p2.2.2 x z y hy
   ·rcases zUU.mp hy with z | z
    ·rcases mo y z with z | z
     ·exact p1.2.2 x hx y z
     ·exact zUV (hP x hx) (h0 y (List.mem_of_mem_take z))
    ·exact zUV (hP x hx) (h0 y (List.mem_of_mem_drop z))
 have x1:∀ x ∈ x0.toList,x.1 ∈ vs:=fun x hx=>v1 x (List.mem_of_mem_drop (eX ▸ hx));have y1:∀ x ∈ y0.toList,x.1 ∈ vs:=fun x hx=>v2 x (List.mem_of_mem_take (eY ▸ hx));have x2:x0.toList.Pairwise (leR r):=eX ▸ s1.sublist (List.drop_sublist _ _);have y2:y0.toList.Pairwise (leR r):=eY ▸ s2.sublist (List.take_sublist _ _);refine zV (fun c3=>?_) (fun c3=>?_)
 ·subst hx0 hy0;refine wpS_bind (zJ7 R x1 y1 x2 y2 (by omega) (by omega) w1 w2 ?_ fin);exact hk
 ·subst hx0 hy0;refine wpS_bind (zKP R x1 y1 x2 y2 (by omega) (by omega) w1 w2 ?_ fin);exact hk
end
def KR (r:Value -> Nat) (xs:Array Keyed) (i:Nat):Nat:=match xs[i]? with
 | some p=>r p.1
 | none=>0
def RUp (r:Value -> Nat) (xs:Array Keyed) (lo hi:Nat):Prop:=∀ i j,lo <= i -> i <= j -> j < hi -> KR r xs i <= KR r xs j
def RDn (r:Value -> Nat) (xs:Array Keyed) (lo hi:Nat):Prop:=∀ i j,lo <= i -> i <= j -> j < hi -> KR r xs j <= KR r xs i
section
variable {prog:Program} {w:World} {A:Around} {E:Value -> Shared -> Prop} {s:Shared} {κ:SortKind} {vs:List Value} {r:Value -> Nat}
theorem zCn {xs ys:Array Keyed} {i j:Nat} (h:xs[i]? = ys[j]?):KR r xs i = KR r ys j:=by unfold KR; rw [h]
theorem zES {xs:Array Keyed} {i j:Nat} (hj:j <= xs.size) (k:Nat):KR r (mirror xs i j ((j - i) / 2)) k = if i <= k /\ k < j then KR r xs (i + j - 1 - k) else KR r xs k:=by
 have e:=getElem?_mirror_all (i:=i) hj k;split at e
 ·rw [zUJ (by assumption)]; exact zCn e
 ·rw [zUM (by assumption)]; exact zCn e
theorem zHD {xs:Array Keyed} {src d:Nat} (hs:src < xs.size) (hd:d <= src) (k:Nat):KR r (bubble xs src d) k = if k = src - d then KR r xs src else if src - d < k /\ k <= src then KR r xs (k - 1) else KR r xs k:=by
 have e:=getElem?_bubble hs d hd k;split at e
 ·rw [zUJ (by assumption)]; exact zCn e
 ·rw [zUM (by assumption)];split at e
  ·rw [zUJ (by assumption)]; exact zCn e
  ·rw [zUM (by assumption)]; exact zCn e
theorem zD6 {xs:Array Keyed} {i j:Nat} (hj:j <= xs.size) (he:∀ k,i <= k -> k < j -> KR r xs k = KR r xs (j - 1)) (k:Nat):KR r (mirror xs i j ((j - i) / 2)) k = KR r xs k:=by
 rw [zES hj];split
 ·rw [he _ (by omega) (by omega),he k (by omega) (by omega)]
 ·rfl
structure CB (lo:Nat) (st0 st:SortSt):Prop where
 k:kindOf st = kindOf st0
 p:pendingOf st = pendingOf st0
 f:failedOf st = failedOf st0
 perm:(arrOf st).Perm (arrOf st0)
 pre:∀ j,j < lo -> (arrOf st)[j]? = (arrOf st0)[j]?
theorem CB.refl (lo:Nat) (st:SortSt):CB lo st st:=⟨rfl,rfl,rfl,.refl _,fun _ _=>rfl⟩
theorem CB.size {lo:Nat} {st0 st:SortSt} (h:CB lo st0 st):(arrOf st).size = (arrOf st0).size:=h.perm.size_eq
theorem CB.mir {lo i j:Nat} {st0 st:SortSt} (h:CB lo st0 st) (hi:lo <= i) (hj:j <= (arrOf st0).size):CB lo st0 (setArr st (mirror (arrOf st) i j ((j - i) / 2))) :=
 ⟨h.k,h.p,h.f,(mirror_perm _ _ _ _).trans h.perm,fun k hk=>by
  show (mirror (arrOf st) i j ((j - i) / 2))[k]? = _;rw [getElem?_mirror_all (by rw [h.size]; exact hj),zUM (by omega)]; exact h.pre k hk⟩
theorem CB.bub {lo src d:Nat} {st0 st:SortSt} (h:CB lo st0 st) (hs:src < (arrOf st0).size) (hd:d <= src) (hl:lo <= src - d):CB lo st0 (setArr st (bubble (arrOf st) src d)) :=
 ⟨h.k,h.p,h.f,(bubble_perm _ _ _).trans h.perm,fun k hk=>by
  show (bubble (arrOf st) src d)[k]? = _;rw [getElem?_bubble (by rw [h.size]; exact hs) d hd,zUM (by omega),zUM (by omega)]; exact h.pre k hk⟩
variable {st0 st:SortSt} {lo nrem n:Nat}
theorem zIk (R:zB7 prog w s κ vs r) (hk:kindOf st0 = κ) (hv:∀ x ∈ (arrOf st0).toList,x.1 ∈ vs) (c:CB lo st0 st) {i j:Nat} (hi:i < (arrOf st0).size) (hj:j < (arrOf st0).size) {Q:Option Bool -> SortSt -> Prop} (h:Q (some (decide (KR r (arrOf st) i < KR r (arrOf st) j))) st) :
  wpS (model prog w) A E s (ltAt' i j) Q st:=by
 have ei:(arrOf st)[i]? = some ((arrOf st)[i]'(by rw [c.size]; exact hi)):=zAH _;have ej:(arrOf st)[j]? = some ((arrOf st)[j]'(by rw [c.size]; exact hj)):=zAH _;have pm:=Array.perm_iff_toList_perm.mp c.perm;refine zLZ R (c.k.trans hk) ei ej (hv _ (pm.mem_iff.mp (zA8 ei))) (hv _ (pm.mem_iff.mp (zA8 ej))) ?_;unfold KR at h;rw [ei,ej] at h;exact h
def zSE (lo a nrem:Nat):StateT SortSt Sem (Option (Option Nat) × Nat):=forIn [a:nrem] ((none,a):Option (Option Nat) × Nat) fun _ c=>do
 let x <- ltAt' (lo + c.2) (lo + c.2 - 1)
 match x with
 | some smaller=>if smaller = true then pure (ForInStep.done (none,c.2)) else pure (ForInStep.yield (none,c.2 + 1))
 | _=>pure (ForInStep.done (some none,c.2))
theorem zOG (R:zB7 prog w s κ vs r) (hk:kindOf st0 = κ) (hv:∀ x ∈ (arrOf st0).toList,x.1 ∈ vs) (c:CB lo st0 st) (hz:lo + nrem <= (arrOf st0).size) (h1:1 <= n) (h2:n <= nrem) (hu:RUp r (arrOf st) lo (lo + n)) {Q:Option (Option Nat) × Nat -> SortSt -> Prop}
  (h:∀ m,n <= m -> m <= nrem -> RUp r (arrOf st) lo (lo + m) -> (m = nrem \/ KR r (arrOf st) (lo + m) < KR r (arrOf st) (lo + m - 1)) -> Q (none,m) st):wpS (model prog w) A E s (zSE lo n nrem) Q st:=by
 unfold zSE;refine wpS_forRange (I:=fun x c st'=>st' = st /\ c = (none,x) /\ RUp r (arrOf st) lo (lo + x)) ?step ?fin ⟨rfl,rfl,hu⟩
 case fin=>
  rintro c' st' ⟨rfl,rfl,hs⟩;rw [show max n nrem = nrem by omega] at hs ⊢;exact h nrem h2 (zUA _) hs (.inl rfl)
 case step=>
  rintro x c' st' hax hxn ⟨rfl,rfl,hs⟩;refine wpS_bind (zIk R hk hv c (by omega) (by omega) ?_);dsimp only;by_cases hl:KR r (arrOf st') (lo + x) < KR r (arrOf st') (lo + x - 1)
  ·rw [zVC hl,zUJ rfl];exact wpS_pure (h x hax (by omega) hs (.inr hl))
  ·rw [zUd hl,zUM (by decide)];refine wpS_pure ⟨rfl,rfl,fun i j h3 h4 h5=>?_⟩;by_cases hj:j < lo + x
   ·exact hs i j h3 h4 hj
   ·have hj':j = lo + x:=by omega
    by_cases hij:i = j
    ·rw [hij]; exact zUA _
    ·have:=hs i (lo + x - 1) h3 (by omega) (by omega);rw [hj']; omega
theorem zI7 (R:zB7 prog w s κ vs r) (hk:kindOf st0 = κ) (hv:∀ x ∈ (arrOf st0).toList,x.1 ∈ vs) (hz:lo + nrem <= (arrOf st0).size) (h1:1 <= nrem) {Q:Option Nat -> SortSt -> Prop}
  (h:∀ m st,CB lo st0 st -> 1 <= m -> m <= nrem -> RUp r (arrOf st) lo (lo + m) -> Q (some m) st):wpS (model prog w) A E s (countRun' lo nrem) Q st0:=by
 have one:∀ xs,RUp r xs lo (lo + 1):=fun xs i j a b c=>by rw [show i = j by omega]; exact zUA _
 refine wpS_bind (zOG R hk hv (.refl lo st0) hz (zUA 1) h1 (one _) fun n n1 n2 hu hor=>?_);refine zV (fun c1=>wpS_pure (h n st0 (.refl lo st0) n1 n2 hu)) (fun c1=>?_);have hn:n < nrem:=by simp at c1; omega
 have hlt:=hor.resolve_left (by omega);have mirU:∀ {st:SortSt} {n m neq:Nat},CB lo st0 st -> m <= nrem -> RDn r (arrOf st) lo (lo + m) -> RUp r (mirror (arrOf st) lo (lo + m) ((lo + m - lo) / 2)) lo (lo + m):=fun {st n m neq} c hm hd i j a1 a2 a3=>by
  rw [zES (by rw [c.size]; omega),zES (by rw [c.size]; omega),zUJ (by omega),zUJ (by omega)];exact hd _ _ (by omega) (by omega) (by omega)
 refine zV (fun c2=>?_) (fun c2=>?_)
 case' refine_1=>
  refine wpS_bind (zIk R hk hv (.refl lo st0) (by omega) (by dsimp only; omega) ?_);dsimp only;by_cases hrose:KR r (arrOf st0) lo < KR r (arrOf st0) (lo + n - 1)
  case pos=>
   rw [zVC hrose,zUJ rfl];exact wpS_pure (h n st0 (.refl lo st0) n1 n2 hu)
  case' neg=>
   rw [zUd hrose,zUM (by decide)];have hall:∀ k,lo <= k -> k < lo + n -> KR r (arrOf st0) k = KR r (arrOf st0) (lo + n - 1):=fun k k1 k2=>by
    have a1:=hu lo k (zUA _) k1 k2;have a2:=hu k (lo + n - 1) k1 (by omega) (by omega);omega
   refine wpS_bind (wpS_modify ?_);have cb:CB lo st0 (setArr st0 (mirror (arrOf st0) lo (lo + n) ((lo + n - lo) / 2))):=(CB.refl lo st0).mir (zUA _) (by omega);have dn:RDn r (mirror (arrOf st0) lo (lo + n) ((lo + n - lo) / 2)) lo (lo + (n + 1)):=fun i j a1 a2 a3=>by
    rw [zD6 (by omega) hall,zD6 (by omega) hall];by_cases hj:j < lo + n
    ·rw [hall i a1 (by omega),hall j (by omega) hj]; exact zUA _
    ·by_cases hi:i < lo + n
     ·rw [hall i a1 hi,show j = lo + n by omega]; omega
     ·rw [show i = j by omega]; exact zUA _
 case' refine_2=>
  have cb:CB lo st0 st0:=.refl lo st0;have dn:RDn r (arrOf st0) lo (lo + (n + 1)):=fun i j a1 a2 a3=>by
   have hn1:n = 1:=by dsimp only at c2; omega
   subst hn1;by_cases hij:i = j
   ·rw [hij]; exact zUA _
   ·rw [show i = lo by omega,show j = lo + 1 by omega];rw [show lo + 1 - 1 = lo by omega] at hlt;omega
 all_goals
  refine wpS_bind (wpS_lift (zVR ⟨rfl,?_⟩));refine wpS_bind (wpS_mono (wpS_forRange (I:=fun x c st'=>∃ neq,c = (none,x,neq) /\ CB lo st0 st' /\ RDn r (arrOf st') lo (lo + x) /\ neq + 1 <= x /\ ∀ i,lo + x - (neq + 1) <= i -> i < lo + x -> KR r (arrOf st') i = KR r (arrOf st') (lo + x - 1)) (Q:=fun c st'=>∃ x neq,c = (none,x,neq) /\ CB lo st0 st' /\ 1 <= x /\ x <= nrem /\ RDn r (arrOf st') lo (lo + x) /\ neq + 1 <= x /\ ∀ i,lo + x - (neq + 1) <= i -> i < lo + x -> KR r (arrOf st') i = KR r (arrOf st') (lo + x - 1)) ?step ?fin ⟨0,rfl,cb,dn,by omega,fun i a1 a2=>by congr 1; omega⟩) ?post)
  case fin=>
   rintro c st' ⟨neq,rfl,cb,dn,q1,q2⟩;rw [show max (n + 1) nrem = nrem by omega] at dn q1 q2 ⊢;exact ⟨nrem,neq,rfl,cb,h1,zUA _,dn,q1,q2⟩
  case step=>
   rintro x c st' hx1 hx2 ⟨neq,rfl,cb,dn,q1,q2⟩;have hx1':n + 1 <= x:=hx1;refine wpS_bind (zIk R hk hv cb (by dsimp only; omega) (by dsimp only; omega) ?_);dsimp only;have step1:∀ ys:Array Keyed,(∀ k,KR r ys k = KR r (arrOf st') k) -> KR r (arrOf st') (lo + x) <= KR r (arrOf st') (lo + x - 1) -> RDn r ys lo (lo + (x + 1)):=fun ys hy hle i j a1 a2 a3=>by
    rw [hy,hy];by_cases hj:j < lo + x
    ·exact dn i j a1 a2 hj
    ·by_cases hij:i = j
     ·rw [hij]; exact zUA _
     ·have:=dn i (lo + x - 1) a1 (by omega) (by omega);rw [show j = lo + x by omega]; omega
   by_cases hl:KR r (arrOf st') (lo + x) < KR r (arrOf st') (lo + x - 1)
   ·rw [zVC hl,zUJ rfl];refine zV (fun c3=>wpS_bind (wpS_modify (wpS_pure ⟨0,rfl,cb.mir (by omega) (by omega),step1 _ (zD6 (by rw [cb.size]; omega) q2) (by omega),by omega,fun i a1 a2=>by congr 1; omega⟩))) (fun c3=>wpS_pure ⟨0,rfl,cb,step1 _ (fun _=>rfl) (by omega),by omega,fun i a1 a2=>by congr 1; omega⟩)
   ·rw [zUd hl,zUM (by decide)];refine wpS_bind (zIk R hk hv cb (by omega) (by omega) ?_);dsimp only;by_cases hg:KR r (arrOf st') (lo + x - 1) < KR r (arrOf st') (lo + x)
    ·rw [zVC hg,zUJ rfl];exact wpS_pure ⟨x,neq,rfl,cb,by omega,by omega,dn,q1,q2⟩
    ·rw [zUd hg,zUM (by decide)];refine wpS_pure ⟨neq + 1,rfl,cb,step1 _ (fun _=>rfl) (by omega),by omega,fun i a1 a2=>?_⟩;rw [show lo + (x + 1) - 1 = lo + x by omega];by_cases hi:i = lo + x
     ·rw [hi]
     ·rw [q2 i (by omega) (by omega)]; omega
  case post=>
   rintro c st' ⟨x,neq,rfl,cb,x1,x2,dn,q1,q2⟩;refine zV (fun c3=>?_) (fun c3=>?_)
   case' refine_1=>
    refine wpS_bind (wpS_modify ?_);replace dn:RDn r (mirror (arrOf st') (lo + x - (neq + 1)) (lo + x) ((lo + x - (lo + x - (neq + 1))) / 2)) lo (lo + x):=fun i j a1 a2 a3=>by
     rw [zD6 (by rw [cb.size]; omega) q2,zD6 (by rw [cb.size]; omega) q2]; exact dn i j a1 a2 a3
    replace cb:=cb.mir (i:=lo + x - (neq + 1)) (j:=lo + x) (by omega) (by omega)
   all_goals
    refine wpS_bind (wpS_modify ?_);have cb2:=cb.mir (i:=lo) (j:=lo + x) (zUA _) (by omega);refine wpS_bind (zOG R hk hv cb2 hz x1 x2 (mirU (n:=0) (neq:=0) cb x2 dn) fun m m1 m2 hu2 _=>wpS_pure (h m _ cb2 (by omega) m2 hu2))
end
section
variable {prog:Program} {w:World} {A:Around} {E:Value -> Shared -> Prop} {s:Shared} {κ:SortKind} {vs:List Value} {r:Value -> Nat} {st0 st:SortSt} {lo n ok:Nat}
theorem zJX (R:zB7 prog w s κ vs r) (hk:kindOf st0 = κ) (hv:∀ x ∈ (arrOf st0).toList,x.1 ∈ vs) (c0:CB lo st0 st) (hz:lo + n <= (arrOf st0).size) (h1:1 <= ok) (h2:ok <= n) (hu:RUp r (arrOf st) lo (lo + ok)) {Q:Bool -> SortSt -> Prop}
  (h:∀ st',CB lo st0 st' -> RUp r (arrOf st') lo (lo + n) -> Q true st'):wpS (model prog w) A E s (binarySort' lo n ok) Q st:=by
 refine wpS_bind (wpS_mono (wpS_forRange (I:=fun k c st'=>c = (none,()) /\ CB lo st0 st' /\ RUp r (arrOf st') lo (lo + k)) (Q:=fun c st'=>c = (none,()) /\ CB lo st0 st' /\ RUp r (arrOf st') lo (lo + n)) ?step ?fin ⟨rfl,c0,by rw [show max ok 1 = ok by omega]; exact hu⟩) ?post)
 case fin=>
  rintro c st' ⟨rfl,cb,hu⟩;rw [show max (max ok 1) n = n by omega] at hu;exact ⟨rfl,cb,hu⟩
 case post=>
  rintro c st' ⟨rfl,cb,hu⟩;exact wpS_pure (h st' cb hu)
 case step=>
  rintro k c st' hk1 hk2 ⟨rfl,cb,hu⟩;have hk0:1 <= k:=by omega
  refine wpS_bind (wpS_mono (wpS_forRange (I:=fun x c st''=>st'' = st' /\ ∃ a b,c = (none,a,b) /\ a <= b /\ b <= k /\ b - a <= k - x /\ (∀ i,i < a -> KR r (arrOf st') (lo + i) <= KR r (arrOf st') (lo + k)) /\ (∀ i,b <= i -> i < k -> KR r (arrOf st') (lo + k) <= KR r (arrOf st') (lo + i))) (Q:=fun c st''=>st'' = st' /\ ∃ a b,c = (none,a,b) /\ a <= k /\ (∀ i,i < a -> KR r (arrOf st') (lo + i) <= KR r (arrOf st') (lo + k)) /\ (∀ i,a <= i -> i < k -> KR r (arrOf st') (lo + k) <= KR r (arrOf st') (lo + i))) ?step1 ?fin1 ⟨rfl,0,k,rfl,by omega,by omega,by omega,fun i hi=>by omega,fun i a1 a2=>by omega⟩) ?post1)
  case fin1=>
   rintro c st'' ⟨rfl,a,b,rfl,q1,q2,q3,q4,q5⟩;exact ⟨rfl,a,b,rfl,by omega,q4,fun i a1 a2=>q5 i (by omega) a2⟩
  case step1=>
   rintro x c st'' _ hx ⟨rfl,a,b,rfl,q1,q2,q3,q4,q5⟩;refine zV (fun c1=>wpS_pure ⟨rfl,a,b,rfl,by omega,q4,fun i a1 a2=>q5 i (by dsimp only at c1; omega) a2⟩) (fun c1=>?_);have c1':a < b:=by dsimp only at c1; omega
   refine wpS_bind (zIk R hk hv cb (by omega) (by dsimp only; omega) ?_);dsimp only;by_cases hl:KR r (arrOf st'') (lo + k) < KR r (arrOf st'') (lo + (a + b) / 2)
   ·rw [zVC hl,zUJ rfl];refine wpS_pure ⟨rfl,a,(a + b) / 2,rfl,by omega,by omega,by omega,q4,fun i a1 a2=>?_⟩;have:=hu (lo + (a + b) / 2) (lo + i) (by omega) (by omega) (by omega);omega
   ·rw [zUd hl,zUM (by decide)];refine wpS_pure ⟨rfl,(a + b) / 2 + 1,b,rfl,by omega,by omega,by omega,fun i a1=>?_,q5⟩;have:=hu (lo + i) (lo + (a + b) / 2) (by omega) (by omega) (by omega);omega
  case post1=>
   rintro c st'' ⟨rfl,a,b,rfl,q1,q4,q5⟩;refine wpS_bind (wpS_modify (wpS_pure ⟨rfl,cb.bub (by omega) (by dsimp only; omega) (by dsimp only; omega),fun i j a1 a2 a3=>?_⟩));have hs:lo + k < (arrOf st'').size:=by rw [cb.size]; omega
   show KR r (bubble (arrOf st'') (lo + k) (lo + k - (lo + a))) i <= KR r (bubble (arrOf st'') (lo + k) (lo + k - (lo + a))) j;rw [zHD hs (by omega),zHD hs (by omega)];rw [show lo + k - (lo + k - (lo + a)) = lo + a by omega];by_cases i1:i = lo + a
   ·rw [zUJ i1];by_cases j1:j = lo + a
    ·rw [zUJ j1]; exact zUA _
    ·rw [zUM j1,zUJ (by omega)];have:=q5 (j - 1 - lo) (by omega) (by omega);rw [show lo + (j - 1 - lo) = j - 1 by omega] at this; exact this
   ·rw [zUM i1];by_cases i2:lo + a < i /\ i <= lo + k
    ·rw [zUJ i2,zUM (by omega),zUJ (by omega)];exact hu _ _ (by omega) (by omega) (by omega)
    ·rw [zUM i2];by_cases j1:j = lo + a
     ·rw [zUJ j1];have:=q4 (i - lo) (by omega);rw [show lo + (i - lo) = i by omega] at this; exact this
     ·rw [zUM j1];by_cases j2:lo + a < j /\ j <= lo + k
      ·rw [zUJ j2];exact hu _ _ a1 (by omega) (by omega)
      ·rw [zUM j2];exact hu _ _ a1 a2 (by omega)
end
def zA9:Nat -> List (List Keyed) -> List (Nat × Nat)
 | _,[]=>[]
 | o,R :: Rs=>(o,R.length) :: zA9 (o + R.length) Rs
theorem zCV:∀ (o:Nat) (As Bs:List (List Keyed)),zA9 o (As ++ Bs) = zA9 o As ++ zA9 (o + As.flatten.length) Bs
 | o,[],Bs=>by simp [zA9]
 | o,R :: As,Bs=>by
  rw [List.cons_append,zA9,zA9,zCV];simp only [List.cons_append,List.flatten_cons,zUK];rw [Nat.add_assoc]
theorem zDb:∀ (o:Nat) (As:List (List Keyed)),(zA9 o As).length = As.length
 | _,[]=>rfl
 | o,R :: As=>by rw [zA9,zUb,zDb,zUb]
abbrev two (p:Nat × Nat × Nat):Nat × Nat:=(p.1,p.2.1)
structure Run (κ:SortKind) (r:Value -> Nat) (a₀:List Keyed) (st:SortSt) (Rs:List (List Keyed)) (rest:List Keyed):Prop where
 k:kindOf st = κ
 f:failedOf st = none
 arr:(arrOf st).toList = Rs.flatten ++ rest
 perm:(arrOf st).toList.Perm a₀
 srt:∀ X ∈ Rs,X ≠ [] /\ X.Pairwise (leR r)
 pd:(pendingOf st).toList.map two = zA9 0 Rs
section
variable {prog:Program} {w:World} {A:Around} {E:Value -> Shared -> Prop} {s:Shared} {κ:SortKind} {vs:List Value} {r:Value -> Nat} {a₀:List Keyed} {st:SortSt} {Rs:List (List Keyed)} {rest:List Keyed}
theorem Run.plen (h:Run κ r a₀ st Rs rest):(pendingOf st).size = Rs.length:=by
 have:=zVr List.length h.pd;rw [zUD,zDb] at this;simpa using this
theorem zMW {Rs:List (List Keyed)} {i:Nat} (h:i + 1 < Rs.length):∃ As R1 R2 Bs,Rs = As ++ R1 :: R2 :: Bs /\ As.length = i:=by
 refine ⟨Rs.take i,Rs[i],Rs[i + 1],Rs.drop (i + 2),?_,by rw [zVS]; omega⟩;conv=>lhs; rw [<- zWr i Rs,List.drop_eq_getElem_cons (by omega:i < Rs.length),List.drop_eq_getElem_cons h]
theorem zF4 (R:zB7 prog w s κ vs r) (hv:∀ x ∈ a₀,x.1 ∈ vs) (h:Run κ r a₀ st Rs rest) {i:Nat} (hi:i + 1 < Rs.length) {Q:Bool -> SortSt -> Prop}
  (q:∀ st' Rs',Run κ r a₀ st' Rs' rest -> Rs'.length + 1 = Rs.length -> Rs'.flatten.length = Rs.flatten.length -> Q true st'):wpS (model prog w) A E s (mergeAt' i) Q st:=by
 obtain ⟨As,R1,R2,Bs,rfl,rfl⟩:=zMW hi;have pd:=h.pd;rw [zCV,zA9,zA9] at pd;obtain ⟨PA,P1,e1,e2,e3⟩:=List.map_eq_append_iff.mp pd;obtain ⟨p1,P2,e4,e5,e6⟩:=List.map_eq_cons_iff.mp e3;obtain ⟨p2,PB,e7,e8,e9⟩:=List.map_eq_cons_iff.mp e6;subst e4 e7;obtain ⟨x1,x2,pw⟩:=p1;obtain ⟨y1,y2,pw2⟩:=p2;have hPA:PA.length = As.length:=by have:=zVr List.length e2; rw [zUD,zDb] at this; exact this
 obtain ⟨rfl,rfl⟩:x1 = 0 + As.flatten.length /\ x2 = R1.length:=by have:=e5; simp only [two,Prod.mk.injEq] at this; exact this
 obtain ⟨rfl,rfl⟩:y1 = 0 + As.flatten.length + R1.length /\ y2 = R2.length:=by have:=e8; simp only [two,Prod.mk.injEq] at this; exact this
 have a1:(pendingOf st)[As.length]? = some (0 + As.flatten.length,R1.length,pw):=by
  rw [<- zVj,e1,zVE (by omega),hPA]; simp
 have a2:(pendingOf st)[As.length + 1]? = some (0 + As.flatten.length + R1.length,R2.length,pw2):=by
  rw [<- zVj,e1,zVE (by omega),show As.length + 1 - PA.length = 1 by omega]; rfl
 have s1:=h.srt R1 (by simp);have s2:=h.srt R2 (by simp);have harr:(arrOf st).toList = As.flatten ++ (R1 ++ (R2 ++ (Bs.flatten ++ rest))):=by rw [h.arr]; simp
 refine zJ8 R h.k h.f harr (fun x hx=>hv x (h.perm.mem_iff.mp hx)) (by omega) rfl rfl rfl (List.length_pos_iff.mpr s1.1) (List.length_pos_iff.mpr s2.1) s1.2 s2.2 a1 a2 fun m st' hk hf hp ha hpm hs=>?_;have hml:m.length = R1.length + R2.length:=by rw [hpm.length_eq,zUK]
 refine q st' (As ++ m :: Bs) ⟨hk,hf,by rw [ha]; simp,?_,fun X hX=>?_,?_⟩ (by simp; omega) (by simp; omega)
 ·refine List.Perm.trans ?_ h.perm;rw [ha,harr];refine List.Perm.append_left _ ?_;rw [<- zVA R1];exact List.Perm.append_right _ hpm
 ·rcases zUU.mp hX with z | z
  ·exact h.srt X (by simp [z])
  ·rcases zUG.mp z with z | z
   ·subst z;refine ⟨fun e=>?_,hs⟩;rw [e] at hml;have:=List.length_pos_iff.mpr s1.1;simp at hml; omega
   ·exact h.srt X (by simp [z])
 ·rw [hp];have hz:As.length + 1 < (pendingOf st).size:=(Array.getElem?_eq_some_iff.mp a2).1;have e10:(((pendingOf st).setIfInBounds As.length (0 + As.flatten.length,R1.length + R2.length,pw)).eraseIdxIfInBounds (As.length + 1)).toList = PA ++ (0 + As.flatten.length,R1.length + R2.length,pw) :: PB:=by
   rw [Array.toList_eraseIdxIfInBounds,Array.toList_setIfInBounds,e1,<- hPA,List.set_append_right _ _ (zUA _),List.eraseIdx_append_of_length_le (by omega)];simp
  rw [e10,zUw,zUN,zCV,zA9,e2,hml,e9,Nat.add_assoc (0 + As.flatten.length)]
end
section
variable {prog:Program} {w:World} {A:Around} {E:Value -> Shared -> Prop} {s:Shared} {κ:SortKind} {vs:List Value} {r:Value -> Nat} {a₀:List Keyed} {st st1:SortSt} {Rs:List (List Keyed)} {rest W:List Keyed} {lo n:Nat}
theorem Run.total (h:Run κ r a₀ st Rs rest):Rs.flatten.length + rest.length = a₀.length:=by
 have:=h.perm.length_eq;rw [h.arr,zUK] at this; exact this
theorem Run.size (h:Run κ r a₀ st Rs rest):(arrOf st).size = a₀.length:=by rw [<- zUn]; exact h.perm.length_eq
theorem zOf (h:Run κ r a₀ st Rs rest) (c:CB lo st st1) (hl:lo = Rs.flatten.length):∃ W,Run κ r a₀ st1 Rs W /\ W.length = rest.length:=by
 have ht:=h.total;have hz:(arrOf st1).toList.length = a₀.length:=by rw [zUn,c.size,h.size]
 have e:(arrOf st1).toList.take lo = Rs.flatten:=by
  apply List.ext_getElem?;intro i;rw [List.getElem?_take];by_cases hi:i < lo
  ·rw [zUJ hi,zVj,c.pre i hi,<- zVj,h.arr,zUB (by omega)]
  ·rw [zUM hi,zVD (by omega)]
 refine ⟨(arrOf st1).toList.drop lo,⟨c.k.trans h.k,c.f.trans h.f,?_,(Array.perm_iff_toList_perm.mp c.perm).trans h.perm,h.srt,by rw [c.p]; exact h.pd⟩,by rw [List.length_drop]; omega⟩;rw [<- e,zWr]
theorem zP6 (h:Run κ r a₀ st Rs W) (hl:lo = Rs.flatten.length) (hn:n <= W.length) (hu:RUp r (arrOf st) lo (lo + n)):(W.take n).Pairwise (leR r):=by
 rw [List.pairwise_iff_getElem];intro i j hi hj hij;rw [zVS] at hi hj;have at_:∀ (k:Nat) (hk:k < W.length),KR r (arrOf st) (lo + k) = r (W[k]).1:=fun k hk=>by
  unfold KR;rw [<- zVj,h.arr,zVE (by omega),show lo + k - Rs.flatten.length = k by omega,zT8 hk]
 have:=hu (lo + i) (lo + j) (by omega) (by omega) (by omega);rw [at_ i (by omega),at_ j (by omega)] at this;rw [List.getElem_take,List.getElem_take];exact this
theorem zOe (h:Run κ r a₀ st Rs W) (hl:lo = Rs.flatten.length) (n1:1 <= n) (hn:n <= W.length) (hs:(W.take n).Pairwise (leR r)):Run κ r a₀ (setPending st ((pendingOf st).push (lo,n,0))) (Rs ++ [W.take n]) (W.drop n):=by
 refine ⟨h.k,h.f,?_,h.perm,fun X hX=>?_,?_⟩
 ·show (arrOf st).toList = _;rw [h.arr]; simp
 ·rcases zUU.mp hX with z | z
  ·exact h.srt X z
  ·rw [zUW.mp z];exact ⟨fun e=>by have:=zVr List.length e; rw [zVS,zVY] at this; omega,hs⟩
 ·show ((pendingOf st).push (lo,n,0)).toList.map two = _;rw [Array.toList_push,zUw,h.pd,zCV,hl];simp [zA9,zVS];omega
theorem zOT (hn:n <= W.length):(Rs ++ [W.take n]).flatten.length = Rs.flatten.length + n:=by
 simp [zVS]; omega
theorem zLS {x:Nat} (h:Run κ r a₀ st Rs W) (hl:lo = Rs.flatten.length) (n1:1 <= n) (hn:n <= W.length) (hs:(W.take n).Pairwise (leR r)) (hx:x <= lo) (hz:Rs.length <= lo) :
  ∃ lo2 Rs2 rest2,((none:Option Unit),lo + n) = (none,lo2) /\ Run κ r a₀ (setPending st ((pendingOf st).push (lo,n,0))) Rs2 rest2 /\ lo2 = Rs2.flatten.length /\ x + 1 <= lo2 /\ Rs2.length <= lo2 :=
 ⟨_,_,_,rfl,zOe h hl n1 hn hs,by rw [zOT hn,hl],by omega,by rw [zUK]; simp only [zUb,zVY]; omega⟩
theorem zPO {c:Prop} [Decidable c] {n m:Nat} (h:1 < n) (e:n = m):(if c then n - 2 - 1 else n - 2) + 1 < m:=by
 split <;> omega
theorem zOS (h:Run κ r a₀ st Rs W) (f:Nat × Nat × Nat -> Nat × Nat × Nat) (hf:∀ p,two (f p) = two p) (i:Nat):Run κ r a₀ (setPending st ((pendingOf st).modify i f)) Rs W:=by
 refine ⟨h.k,h.f,h.arr,h.perm,h.srt,?_⟩;show ((pendingOf st).modify i f).toList.map two = _;rw [Array.toList_modify,<- h.pd];apply List.ext_getElem?;intro j;rw [zUR,zUR,List.getElem?_modify];cases (pendingOf st).toList[j]? with
 | none=>rfl
 | some p=>
  by_cases z:i = j
  ·simp [z,hf]
  ·simp [z]
set_option maxHeartbeats 4000000 in
theorem zIr (R:zB7 prog w s κ vs r) (hv:∀ x ∈ a₀,x.1 ∈ vs) (h:Run κ r a₀ st [] a₀) {Q:Unit -> SortSt -> Prop}
  (q:∀ st',failedOf st' = none -> Mgd (leR r) a₀ (arrOf st').toList -> Q () st'):wpS (model prog w) A E s sortRuns' Q st:=by
 have hN:=h.size;refine wpS_bind (wpS_get ?_);refine wpS_bind (wpS_mono (wpS_forRange (I:=fun x c st'=>∃ lo Rs rest,c = (none,lo) /\ Run κ r a₀ st' Rs rest /\ lo = Rs.flatten.length /\ x <= lo /\ Rs.length <= lo) (Q:=fun c st'=>∃ lo Rs,c = (none,lo) /\ Run κ r a₀ st' Rs [] /\ Rs.length <= lo /\ lo <= a₀.length) ?step ?fin ⟨0,[],a₀,rfl,h,rfl,zUA _,zUA _⟩) ?post)
 case fin=>
  rintro c st' ⟨lo,Rs,rest,rfl,h,hlo,hp,hz⟩;have ht:=h.total;have:rest = []:=zV6.mp (by have:max 0 (arrOf st).size <= lo:=hp; omega);subst this;exact ⟨lo,Rs,rfl,h,hz,by omega⟩
 case post=>
  rintro c st' ⟨lo,Rs,rfl,h,hz,hz2⟩;refine wpS_bind (wpS_mono (wpS_forRange (I:=fun x c st'=>c = (none,()) /\ ∃ Rs,Run κ r a₀ st' Rs [] /\ Rs.length + x <= max (a₀.length) (x + 1)) (Q:=fun c st'=>c = (none,()) /\ ∃ Rs,Run κ r a₀ st' Rs [] /\ Rs.length <= 1) ?step2 ?fin2 ⟨rfl,Rs,h,by omega⟩) ?post2)
  case fin2=>
   rintro c st' ⟨rfl,Rs,h,hx⟩;have hx':Rs.length + max 0 (arrOf st).size <= max a₀.length (max 0 (arrOf st).size + 1):=hx;exact ⟨rfl,Rs,h,by omega⟩
  case post2=>
   rintro c st' ⟨rfl,Rs,h,hx⟩;refine wpS_pure (q st' h.f ⟨h.perm,?_⟩);rw [h.arr,zUo];match Rs,hx,h with
   | [],_,_=>exact .nil
   | [X],_,h=>simpa using (h.srt X (by simp)).2
   | _ :: _ :: _,hx,_=>simp at hx
  case step2=>
   rintro x c st' _ hx ⟨rfl,Rs,h,hr⟩;refine wpS_bind (wpS_get ?_);have hpl:=h.plen;refine zV (fun c1=>wpS_pure ⟨rfl,Rs,h,zUV (Nat.le_of_eq hpl.symm) c1⟩) (fun c1=>?_);have c1':1 < (pendingOf st').size:=by have:¬ (pendingOf st').size <= 1:=c1; omega
   refine wpS_bind (zF4 R hv h ?_ fun st2 Rs2 h2 l1 l2=>?_)
   ·exact zPO c1' hpl
   ·exact zV (fun z=>absurd z (by decide)) (fun _=>wpS_pure ⟨rfl,Rs2,h2,by omega⟩)
 case step=>
  rintro x c st' _ hx ⟨lo,Rs,rest,rfl,h,hlo,hp,hz⟩;have ht:=h.total;refine zV (fun c1=>?_) (fun c1=>?_)
  ·have c1':(arrOf st).size <= lo:=c1;have:rest = []:=zV6.mp (by omega);subst this;exact wpS_pure ⟨lo,Rs,rfl,h,hz,by omega⟩
  have c1':lo < (arrOf st).size:=Nat.lt_of_not_le c1;have hv':∀ x ∈ (arrOf st').toList,x.1 ∈ vs:=fun x hx=>hv x (h.perm.mem_iff.mp hx);refine wpS_bind (zI7 (lo:=lo) (nrem:=(arrOf st).size - lo) R h.k hv' (by rw [h.size]; omega) (by omega) fun n st1 cb n1 n2 hu=>?_);refine zV (fun c2=>?_) (fun c2=>?_)
  case' refine_1=>
   refine wpS_bind (wpS_lift (zVR ⟨rfl,?_⟩));have c2':n < minRun' (arrOf st).size (arrOf st).size 0:=c2;refine wpS_bind (zJX (n:=min ((arrOf st).size - lo) (minRun' (arrOf st).size (arrOf st).size 0)) R h.k hv' cb (by rw [h.size]; omega) n1 (by omega) hu fun st2 cb2 hu2=>?_);replace n1:1 <= min ((arrOf st).size - lo) (minRun' (arrOf st).size (arrOf st).size 0):=by omega
   replace n2:min ((arrOf st).size - lo) (minRun' (arrOf st).size (arrOf st).size 0) <= (arrOf st).size - lo:=by omega
   refine zV (fun z=>absurd z (by decide)) (fun _=>?_);replace hu:=hu2;replace cb:=cb2
  all_goals
   obtain ⟨W,hW,hWl⟩:=zOf h cb hlo;have n3:=zUV n2 (show (arrOf st).size - lo <= W.length by omega);have hs:=zP6 hW hlo n3 hu;refine wpS_bind (wpS_get ?_);split
   ·refine wpS_bind (wpS_mono (wpS_forRange (I:=fun y c st3=>c = (none,()) /\ ∃ Rs3,Run κ r a₀ st3 Rs3 W /\ Rs3.flatten.length = Rs.flatten.length /\ Rs3.length <= lo) (Q:=fun c st3=>c = (none,()) /\ ∃ Rs3,Run κ r a₀ st3 Rs3 W /\ Rs3.flatten.length = Rs.flatten.length /\ Rs3.length <= lo) ?step3 (fun _ _ z=>z) ⟨rfl,Rs,hW,rfl,hz⟩) ?post3)
    case step3=>
     rintro y c st3 _ _ ⟨rfl,Rs3,h3,l3,z3⟩;refine wpS_bind (wpS_get ?_);have hpl:=h3.plen;dsimp only;by_cases hp1:(pendingOf st3).size > 1
     ·obtain ⟨p,ep⟩:∃ p,(pendingOf st3)[(pendingOf st3).size - 2]? = some p:=⟨_,zUp (by omega)⟩;rw [zUJ hp1,ep];refine zV (fun _=>wpS_pure ⟨rfl,Rs3,h3,l3,z3⟩) (fun _=>?_);refine wpS_bind (zF4 R hv h3 (i:=(pendingOf st3).size - 2) (by omega) fun st4 Rs4 h4 l4 z4=>?_);exact zV (fun z=>absurd z (by decide)) (fun _=>wpS_pure ⟨rfl,Rs4,h4,by omega,by omega⟩)
     ·rw [zUM hp1];exact wpS_pure ⟨rfl,Rs3,h3,l3,z3⟩
    case post3=>
     rintro c st3 ⟨rfl,Rs3,h3,l3,z3⟩;refine wpS_bind (wpS_modify (wpS_bind (wpS_modify (wpS_pure ?_))));refine zLS (zOS h3 _ ?_ _) (hlo.trans l3.symm) n1 n3 hs hp z3;rintro ⟨a,b,c⟩; rfl
   ·exact wpS_bind (wpS_modify (wpS_pure (zLS hW hlo n1 n3 hs hp hz)))
end
section
variable {prog:Program} {w:World} {A:Around} {E:Value -> Shared -> Prop} {s:Shared} {κ:SortKind} {vs:List Value} {r:Value -> Nat}
theorem zNq (R:zB7 prog w s κ vs r):wpS (model prog w) A E s sortRuns' (fun _ st=>failedOf st = none /\ ((arrOf st).map (·.2)).toList.Perm vs /\ ((arrOf st).map (·.2)).toList.Pairwise fun x y=>r x <= r y) (SortSt.mk' κ (pairsOf vs) #[] 7 none):=by
 have hz:(pairsOf vs).toList = vs.zip vs:=pairsOf_toList vs;have hv:∀ p ∈ (pairsOf vs).toList,p.1 ∈ vs:=fun p hp=>by rw [hz] at hp; exact (mem_zip_self hp).2
 refine zIr R hv ⟨rfl,rfl,rfl,.refl _,(fun X hX=>absurd hX (by simp)),rfl⟩ fun st hf hm=>⟨hf,?_,?_⟩
 ·rw [Array.toList_map];have:=hm.1.map (·.2);rw [hz,List.map_snd_zip (zUA _)] at this;exact this
 ·rw [Array.toList_map];refine List.pairwise_map.mpr ((List.Pairwise.and_mem.mp hm.2).imp fun {x y} h=>?_);have hx:=(mem_zip_self (hz ▸ hm.1.mem_iff.mp h.1)).1;have hy:=(mem_zip_self (hz ▸ hm.1.mem_iff.mp h.2.1)).1;rw [<- hx,<- hy]; exact h.2.2
theorem zF5 {v:Value} {Q:Value -> Shared -> Prop}
  (hc:wpAny (model prog w) A.in1 (collect v) (fun vs s1=>vs.length <= sizeLine /\ zRO s1.heap vs /\
   ∀ (h':Heap) (out:List Value) (n:Nat),(∀ b u,s1.heap.get? b = some u -> h'.get? b = some u) -> h'.get? s1.heap.objs.size = some (seqObj "list" out.toArray n) -> out.Perm vs -> out.Pairwise (fun x y=>zAZ (zDI s1.heap y) (zDI s1.heap x) = false) -> Q (.ref s1.heap.objs.size) { s1 with heap:=h' }) E s) :
  wpAny (model prog w) A (call (.builtin "sorted") [v]) Q E s:=by
 refine Calls.call_function_entry kind_sorted plain_sorted entry_sorted (args_sorted1 _) ?_;unfold Builtin.«sorted»;refine zTz (m:=checkCount "sorted" 1 1 _) (zT6 ?_);refine zTz (zUa hc (fun vs s1 z=>?_) fun _ _ e=>e);obtain ⟨hz,ht,h⟩:=z;refine zTz (wpAny_newList ?_ hz);have hoL:(s1.heap.push (seqObj "list" vs.toArray 0)).get? s1.heap.objs.size = some (seqObj "list" vs.toArray 0):=zUE _ rfl;refine zTz (zUx (zUh slot_list_sort ⟨_,hoL,rfl⟩ entry_list_sort (zMa (κ:=tuples' true) (F:=fun out=>out.toList.Perm vs /\ out.toList.Pairwise (fun x y=>zAZ (zDI s1.heap y) (zDI s1.heap x) = false)) (s:={ s1 with heap:=s1.heap.push (seqObj "list" vs.toArray 0) }) hoL hz (fun out e=>by rw [<- zUn]; exact e.1.length_eq) (fun h2=>⟨by simp,?_⟩) ?_ fun out e=>⟨_,rfl,?_⟩) (args_list_sort _)))
 ·match vs,h2 with
  | [],_=>exact .nil
  | [x],_=>simp
  | _ :: _ :: _,h2=>simp at h2; omega
 ·intro h2 h6 k6;have kT:∀ {v xs},zBw s1.heap v xs -> zBw h6 v xs:=fun {v xs} t=>t.keep fun b o _ e=>k6 b o (fun z=>zUm _ (z ▸ zUF e)) (zT0 _ e);have ht6:zRO h6 vs:=fun v hv=>let ⟨x,xs,t⟩:=ht v hv; ⟨x,xs,kT t⟩;refine ⟨fun A E Q q=>?_,fun A E=>wpS_mono (zNq (zL0 (s:={ s1 with heap:=h6 }) ht6)) ?_⟩
  ·match vs,h2,ht6 with
   | v :: vs,_,ht6=>exact zMx (s:={ s1 with heap:=h6 }) ht6 q
  ·rintro _ st ⟨e1,e2,e3⟩;refine ⟨e1,e2,(List.Pairwise.and_mem.mp e3).imp fun {x y} z=>?_⟩;have mx:=e2.mem_iff.mp z.1;have my:=e2.mem_iff.mp z.2.1;obtain ⟨a,as,tx⟩:=ht x mx;obtain ⟨b,bs,ty⟩:=ht y my;rw [zB0 tx,zB0 ty,<- zB0 (kT tx),<- zB0 (kT ty),zQS (ks:=vs.map (zDI h6)) (List.mem_map_of_mem my) (List.mem_map_of_mem mx)];have:rkV h6 vs x <= rkV h6 vs y:=z.2.2;unfold rkV at this;exact zUd (by omega)
 ·refine zT6 ⟨_,rfl,?_⟩;have g1:=get?_update_seq hoL (fun _=> #[]);have g4:=get?_update_seq (zT0 (seqObj "list" #[] 0) (zT0 (seqObj "tuple" vs.toArray 0) g1)) (fun _=>out);refine h _ out.toList _ (fun b u e=>?_) (by rw [Array.toArray_toList]; exact g4) e.1 e.2;have hb:s1.heap.objs.size ≠ b:=fun z=>zUm _ (z ▸ zUF e);exact (zUl _ _ hb).trans (zT0 _ (zT0 _ ((zUl _ _ hb).trans (zT0 _ e))))
def leL (a b:List Int):Bool:=!zAZ b a
def zBz (ts:List (List Int)):List (List Int):=ts.mergeSort leL
theorem zMY (a b c:List Int) (h1:leL a b = true) (h2:leL b c = true):leL a c = true:=by
 unfold leL at *;rw [Bool.not_eq_true'] at *;cases e:zAZ c a with
 | false=>rfl
 | true=>
  cases e2:zAZ b a with
  | true=>rw [e2] at h1; cases h1
  | false=>
   cases e3:zAZ a b with
   | true=>rw [zCZ e e3] at h2; cases h2
   | false=>rw [zD2 e2 e3] at h2; rw [h2] at e; cases e
theorem zMe (a b:List Int):(leL a b || leL b a) = true:=by
 unfold leL;cases e:zAZ b a with
 | false=>rfl
 | true=>
  cases e2:zAZ a b with
  | false=>rfl
  | true=>have:=zCZ e e2; rw [zF8] at this; cases this
theorem zBv (ts:List (List Int)):(zBz ts).Perm ts:=List.mergeSort_perm ts leL
theorem zMr (ts:List (List Int)):(zBz ts).Pairwise fun a b=>zAZ b a = false:=(List.pairwise_mergeSort zMY zMe ts).imp fun {a b} h=>by unfold leL at h; simpa using h
theorem zFM:∀ {xs ys:List (List Int)},xs.Perm ys -> xs.Pairwise (fun a b=>zAZ b a = false) -> ys.Pairwise (fun a b=>zAZ b a = false) -> xs = ys
 | [],ys,h,_,_=>by rw [List.nil_perm.mp h]
 | x :: xs,[],h,_,_=>by have:=h.length_eq; simp at this
 | x :: xs,y :: ys,h,hx,hy=>by
  have px:=zWE.mp hx;have py:=zWE.mp hy;have e:x = y:=by
   have m1:x ∈ y :: ys:=h.mem_iff.mp zUI;have m2:y ∈ x :: xs:=h.mem_iff.mpr zUI;rcases zUG.mp m1 with z | z
   ·exact z
   ·rcases zUG.mp m2 with z' | z'
    ·exact z'.symm
    ·exact zD2 (py.1 x z) (px.1 y z')
  subst e;rw [zFM (List.Perm.cons_inv h) px.2 py.2]
theorem zMN {xs ts:List (List Int)} (h:xs.Perm ts) (hp:xs.Pairwise fun a b=>zAZ b a = false):xs = zBz ts:=zFM (h.trans (zBv ts).symm) hp (zMr ts)
end
end ST
namespace L3
open PySem PySem.Spec PyProof.Rows L2 ST
def zHx (H:Hp) (ys:List V) (ts:List (List Int)):Prop:=ys.length = ts.length /\ ∀ (i:Nat) t,ts[i]? = some t -> ∃ b,ys[i]? = some (.ref b) /\ H b = some (.tup ((kkI t).map kV))
theorem zK0 {H:Hp} {h1:Heap} {its out:List Value} {ts:List (List Int)} (hl:its.length = ts.length) (ha:∀ (i:Nat) u,its[i]? = some u -> ∃ t b,ts[i]? = some t /\ u = .ref b /\ H b = some (.tup ((kkI t).map kV)) /\ zBw h1 (.ref b) t)
  (hp:out.Perm its) (hs:out.Pairwise fun x y=>zAZ (zDI h1 y) (zDI h1 x) = false):∃ ys,zU ys out /\ zHx H ys (zBz ts):=by
 have key:∀ u ∈ its,∃ t b,u = .ref b /\ H b = some (.tup ((kkI t).map kV)) /\ zDI h1 u = t:=fun u hu=>by
  obtain ⟨i,hi⟩:=List.mem_iff_getElem?.mp hu;obtain ⟨t,b,_,rfl,e1,e2⟩:=ha i u hi;exact ⟨t,b,rfl,e1,zB0 e2⟩
 have e0:its.map (zDI h1) = ts:=by
  apply List.ext_getElem?;intro i;rw [zUR];by_cases hi:i < its.length
  ·rw [zT8 hi];obtain ⟨t,b,e1,e2,_,e4⟩:=ha i _ (zT8 hi);rw [e1,e2]; exact zVr some (zB0 e4)
  ·rw [zVD (by omega),zVD (by omega)]; rfl
 have e1:out.map (zDI h1) = zBz ts:=zMN (by rw [<- e0]; exact hp.map _) (List.pairwise_map.mpr hs);refine ⟨out.map fun u=>match u with | .ref b=> .ref b | _=> .non,?_,?_,fun i t et=>?_⟩
 ·refine zLD (by simp) fun i y u ey eu=>?_;rw [zUR,eu] at ey;obtain ⟨t,b,rfl,_⟩:=key u (hp.mem_iff.mp (zUv eu));cases ey; rfl
 ·rw [zUD,<- e1,zUD]
 ·rw [<- e1,zUR] at et;cases eu:out[i]? with
  | none=>rw [eu] at et; cases et
  | some u=>
   rw [eu] at et;obtain ⟨t',b,rfl,e2,e3⟩:=key u (hp.mem_iff.mp (zUv eu));have et':zDI h1 (.ref b) = t:=zU4 et;rw [e3] at et';subst et';exact ⟨b,by rw [zUR,eu]; rfl,e2⟩
theorem zEa {L:List Addr} {H:Hp}:∀ {ts:List (List Int)} {ys:List V},zHx H ys ts -> zH L H (ts.map fun t=>D.tup (t.map D.int)) ys
 | [],ys,h=>by
  have:ys = []:=zV6.mp h.1;subst this; exact .nil
 | t :: ts,[],h=>by have:=h.1; cases this
 | t :: ts,y :: ys,h=>by
  obtain ⟨b,e1,e2⟩:=h.2 0 t rfl;cases e1;refine .cons (zOh (k:=kkI t) ?_ e2) (zEa ⟨Nat.succ.inj h.1,fun i u e=>by obtain ⟨b,q1,q2⟩:=h.2 (i + 1) u (by simpa using e); exact ⟨b,by simpa using q1,q2⟩⟩);exact zFq (zAx t)
theorem zGy {L:List Addr} {H:Hp}:∀ {ds:List D} {ts:List (List Int)} {vs:List V},zGO ds = some ts -> zH L H ds vs -> zHx H vs ts
 | [],ts,vs,h,r=>by cases h; unfold zH at r; subst r; exact ⟨rfl,fun i t e=>by simp at e⟩
 | d :: ds,ts,vs,h,r=>by
  unfold zGO at h;split at h
  ·rename_i x xs h1 h2;cases h;unfold zH at r;obtain ⟨v,r',rfl,r1,r2⟩:=r;obtain ⟨l2,q2⟩:=zGy h2 r2;refine ⟨by simp [l2],fun i t e=>?_⟩;cases i with
   | succ i=>obtain ⟨b,z1,z2⟩:=q2 i t (by simpa using e); exact ⟨b,by simpa using z1,z2⟩
   | zero=>
    cases e;cases d with
    | tup es=>
     unfold Rep at r1;obtain ⟨a,ws,rfl,e1,r3⟩:=r1;have:=zCL h1 r3;subst this;refine ⟨a,rfl,?_⟩;rw [e1]; unfold kkI; rw [zUS]; rfl
    | _=>cases h1
  ·cases h
section
variable {X:Cx}
theorem zJj:zBs X (.builtin "sorted") (fun xs H Q=>∃ a vs ts,xs = [.ref a] /\ (SqL X.K H a vs \/ SqT X.K H a vs) /\ zHx H vs ts /\ (∀ t ∈ ts,t ≠ []) /\ ts.length <= 90000 /\ ∀ ys l,zHx H ys (zBz ts) -> H l = none -> Q (.ref l) (upd H l (.lst ys))):=by
 intro zB s σ H xs us Q I r h;obtain ⟨a,vs,ts,rfl,hq,hv,hne,hz,q⟩:=h;obtain ⟨u,rfl,rx⟩:=zDO r;cases rx;have key:∃ (ty:String) (its:List Value),(ty = "list" \/ ty = "tuple") /\ (∃ ol,s.heap.get? a = some ol /\ ol.cls = .type ty /\ ∃ nl,ol.data = .seq its.toArray nl) /\ zU vs its:=by
  rcases hq with hq | hq
  ·obtain ⟨its,rv,⟨ol,nl,e1,e2,_,e3⟩,_⟩:=I.list hq;exact ⟨"list", its,.inl rfl,⟨ol,e1,e2,nl,e3⟩,rv⟩
  ·obtain ⟨its,rv,⟨ol,e1,e2,nl,e3⟩,_⟩:=I.tuple hq;exact ⟨"tuple", its,.inr rfl,⟨ol,e1,e2,nl,e3⟩,rv⟩
 obtain ⟨ty,its,hty,hl,rv⟩:=key;have hlen:its.length = ts.length:=by rw [<- rv.length]; exact hv.1
 have hsl:its.length <= sizeLine:=by rw [sizeLine_eq]; omega
 have ait:∀ (i:Nat) u,its[i]? = some u -> ∃ t b,ts[i]? = some t /\ u = .ref b /\ H b = some (.tup ((kkI t).map kV)):=by
  intro i u e;have hi:i < ts.length:=by rw [<- hlen]; exact (zT7.mp e).1
  obtain ⟨b,e1,e2⟩:=hv.2 i _ (zT8 hi);refine ⟨_,b,zT8 hi,?_,e2⟩;obtain ⟨u',e3,rfl⟩:=rv.get e1;rw [e] at e3;exact zU4 e3
 refine zF5 (zEy hty hl ?_ hsl);generalize hH1:(s.heap.push (seqObj "list" #[] 0)).update s.heap.objs.size (Obj.mapSeq (· ++ its.toArray)) = h1;have k1:∀ b u,s.heap.get? b = some u -> h1.get? b = some u:=fun b u e=>by
  have hb:s.heap.objs.size ≠ b:=fun z=>zUm _ (z ▸ zUF e);rw [<- hH1]; exact (zUl _ _ hb).trans (zT0 _ e)
 have a2:∀ (i:Nat) u,its[i]? = some u -> ∃ t b,ts[i]? = some t /\ u = .ref b /\ H b = some (.tup ((kkI t).map kV)) /\ zBw h1 (.ref b) t:=fun i u e=>by
  obtain ⟨t,b,e1,e2,e3⟩:=ait i u e;exact ⟨t,b,e1,e2,e3,(zIG (I.hok b _ e3)).keep fun c o _ eo=>k1 c o eo⟩
 refine ⟨hsl,fun v hv'=>?_,fun h' out n hk hL hp hs=>?_⟩
 ·obtain ⟨i,hi⟩:=List.mem_iff_getElem?.mp hv';obtain ⟨t,b,e1,rfl,_,tt⟩:=a2 i v hi;cases t with
  | nil=>exact absurd rfl (hne _ (zUv e1))
  | cons x t=>exact ⟨x,t,tt⟩
 ·obtain ⟨ys,rvy,tv⟩:=zK0 hlen a2 hp hs;have I2:Inv X zB σ H { s with heap:=h1 }:=I.kept (t':=s.toks) k1;have hf:H h1.objs.size = none:=I2.hok.fresh (zUA _);exact ⟨.ref h1.objs.size,upd H h1.objs.size (.lst ys),I2.laid (t':=s.toks) hk (zUA _) ⟨by rw [tv.1,(zBv ts).length_eq,sizeLine_eq]; omega,out,n,rvy,hL⟩,rfl,q ys _ tv hf⟩
def zJ6 (ts:List (List Int)):Bool:=ts.all fun t=> !t.isEmpty
theorem zIV {ts:List (List Int)} (h:zJ6 ts = true):∀ t ∈ ts,t ≠ []:=fun t ht e=>by
 unfold zJ6 at h;rw [zUf] at h;have:=h t ht;rw [e] at this; cases this
def zEd:KB:=fun xs M=>match xs with
 | [x]=>match zAa M x with
  | some ds=>match zGO ds with
   | some ts=>if zJ6 ts = true /\ ts.length <= 90000 then some (.fl ((zBz ts).map fun t=>D.tup (t.map D.int)),M) else none
   | none=>none
  | none=>none
 | _=>none
theorem zMM:zF1 X.K (fun xs H Q=>∃ a vs ts,xs = [.ref a] /\ (SqL X.K H a vs \/ SqT X.K H a vs) /\ zHx H vs ts /\ (∀ t ∈ ts,t ≠ []) /\ ts.length <= 90000 /\ ∀ ys l,zHx H ys (zBz ts) -> H l = none -> Q (.ref l) (upd H l (.lst ys))) zEd:=by
 intro L M M' H H0 xs d vs Q cc r hk q;unfold zEd at hk;split at hk
 ·rename_i x;split at hk
  ·rename_i ds e1;split at hk
   ·rename_i ts e2;split at hk
    ·rename_i hb;cases hk;obtain ⟨v,rfl,r1⟩:=r.one;obtain ⟨a,ws,rfl,hs,r2⟩:=zDA cc r1 e1;exact ⟨a,ws,ts,rfl,hs,zGy e2 r2,zIV hb.1,hb.2,fun ys l tv hl=>q L _ _ (.upd hl) (cc.upd hl) (zT.newLst' cc hl (zEa tv))⟩
    ·cases hk
   ·cases hk
  ·cases hk
 ·cases hk
theorem zP2 {e:Expr} {p pos:Pos} {fa:FAE} (hg:Gl X "sorted") (hm:X.mg "sorted" = none) (ha:QAE X [e] fa) (he:starEach [e] X.env = (false,eval e X.env) :: starEach [] X.env:=by rfl) (hpl:(backTo pos (starEach [] X.env)).any (·.1) = false:=by rfl):QE X (.Call (.Name "sorted" p) [e] [] pos) (fB zEd fa) :=
 zEI zMM zJj (by rfl) hg hm ha (by decide) (by decide) he hpl
end
section
variable {X:Cx} {a b a2 b2 a3 b3:Expr} {pos:Pos}
def zHP (k1:Str) (fv:FE) (k2:Str) (fw:FE) (k3:Str) (fz:FE):FE:=fun σ M=>match toD fv σ (M ++ [.dict []]) with
 | some (v,M1)=>match toD fw σ M1 with
  | some (w,M2)=>match toD fz σ M2 with
   | some (z,M3)=>match M3[M.length]? with
    | some (.dict [])=>if k1 = k2 \/ k1 = k3 \/ k2 = k3 then none else some (.dat (.ref M.length),M3.set M.length (.dict [(.str k1,v),(.str k2,w),(.str k3,z)]))
    | _=>none
   | none=>none
  | none=>none
 | none=>none
theorem zO8 {fv fw fz:FE} {k1 k2 k3:Str} (h1:QE X a (fC (.str k1))) (h2:QE X b fv) (h3:QE X a2 (fC (.str k2))) (h4:QE X b2 fw) (h5:QE X a3 (fC (.str k3))) (h6:QE X b3 fz):QE X (.Dict [some a,some a2,some a3] [b,b2,b3] pos) (zHP k1 fv k2 fw k3 fz):=.mk <| PE.imp (zPl (zDz (zAY h1).un (zAY h2).un (zDz (zAY h3).un (zAY h4).un (zDz (zAY h5).un (zAY h6).un zLT))) rfl rfl (by simp) (by simp)) fun τ H Q ⟨L,σ,M,d,M',c,rs,hf,q⟩ p hp=>by
 unfold zHP at hf;split at hf
 ·rename_i v M1 e2;split at hf
  ·rename_i w M2 e4;split at hf
   ·rename_i z M3 e6;split at hf
    ·rename_i e5;split at hf
     ·cases hf
     ·rename_i hne;cases hf;obtain ⟨c0,s0⟩:=c.pushO (m:=.dict []) (o:=.dK []) hp ⟨[],zg,rfl⟩;refine ⟨L ++ [p],σ,_,_,_,c0,rs.stp s0,(rfl:toD (fC (.str k1)) σ (M ++ [.dict []]) = some (.str k1,_)),fun L1 H1 x st1 c1 r1=>⟨L1,σ,_,_,_,c1,(rs.stp s0).stp st1,e2,fun L2 H2 y st2 c2 r2=>?_⟩⟩;refine ⟨L2,σ,_,_,_,c2,((rs.stp s0).stp st1).stp st2,(rfl:toD (fC (.str k2)) σ M1 = some (.str k2,_)),fun L3 H3 x' st3 c3 r3=>⟨L3,σ,_,_,_,c3,(((rs.stp s0).stp st1).stp st2).stp st3,e4,fun L4 H4 y' st4 c4 r4=>?_⟩⟩;refine ⟨L4,σ,_,_,_,c4,((((rs.stp s0).stp st1).stp st2).stp st3).stp st4,(rfl:toD (fC (.str k3)) σ M2 = some (.str k3,_)),fun L5 H5 x'' st5 c5 r5=>⟨L5,σ,_,_,_,c5,(((((rs.stp s0).stp st1).stp st2).stp st3).stp st4).stp st5,e6,fun L6 H6 y'' st6 c6 r6=>?_⟩⟩;have st:=(((((s0.trans st1).trans st2).trans st3).trans st4).trans st5).trans st6;have hx:x = .str k1:=by unfold Rep at r1; exact r1
      have hx':x' = .str k2:=by unfold Rep at r3; exact r3
      have hx'':x'' = .str k3:=by unfold Rep at r5; exact r5
      have lp:L6[M.length]? = some p:=by
       obtain ⟨N,hN⟩:=(((((st1.trans st2).trans st3).trans st4).trans st5).trans st6).pre;rw [hN,<- c.len]; simp
      obtain ⟨vs,ev,dv⟩:=c6.obj _ p _ lp e5;unfold zAB at dv;subst dv;have hm:zDl [] [((Sum.inr k1:Key),y),(Sum.inr k2,y'),(Sum.inr k3,y'')] = [((Sum.inr k1:Key),y),(Sum.inr k2,y'),(Sum.inr k3,y'')]:=by
       unfold zDl zBh;have h12:¬ ((Sum.inr k1:Key) = Sum.inr k2):=fun z=>hne (.inl (Sum.inr.inj z));have h13:¬ ((Sum.inr k1:Key) = Sum.inr k3):=fun z=>hne (.inr (.inl (Sum.inr.inj z)));have h23:¬ ((Sum.inr k2:Key) = Sum.inr k3):=fun z=>hne (.inr (.inr (Sum.inr.inj z)));simp [h12,h13,h23,zBh]
      refine ⟨ev,[(Sum.inr k1,y),(Sum.inr k2,y'),(Sum.inr k3,y'')],by rw [hx,hx',hx'']; rfl,by simp,?_⟩;rw [hm];obtain ⟨c7,s7⟩:=c6.put (m:=.dict [(.str k1,v),(.str k2,w),(.str k3,z)]) (o':=.dK [(Sum.inr k1,y),(Sum.inr k2,y'),(Sum.inr k3,y'')]) lp ev (fun _ z=>by cases z) (fun _ _ z=>by cases z) fun s7=>⟨_,zg,_,y,[(Sum.inr k2,y'),(Sum.inr k3,y'')],rfl,rfl,(r2.stp (((st3.trans st4).trans st5).trans st6)).stp s7,_,y',[(Sum.inr k3,y'')],rfl,rfl,(r4.stp (st5.trans st6)).stp s7,_,y'',[],rfl,rfl,r6.stp s7,rfl⟩;refine q _ _ _ (st.trans s7) c7 ?_;unfold zT Rep;exact ⟨p,rfl,lp⟩
    ·cases hf
   ·cases hf
  ·cases hf
 ·cases hf
end
section
variable {prog:Program} {w:World} {A:Around} {E:Value -> Shared -> Prop} {s:Shared} {d:Addr} {ep:Nat} {o:Obj} {es:Array DictEntry}
theorem zN2 {Q:Bool -> Shared -> Prop} (hd:(d == sysModules) = false) (hT:s.TypeIs (.ref d) "dict") (ho:s.heap.get? d = some o) (hdat:o.data = .dict es ep) (hfit:(es.size:Int) < 2 ^ 63)
  (h:Q (!es.isEmpty) { s with toks:=s.toks + 1 + 1 }):wpAny (model prog w) A (truthy (.ref d)) Q E s:=by
 have hne:((es.size:Int) != 0) = !es.isEmpty:=by
  rw [Array.isEmpty];by_cases z:es.size = 0
  ·simp [z]
  ·simp [z]
 have key:wpAny (model prog w) A (runValue (.builtin "len" ⟨[.ref d],[]⟩)) (fun r s'=>r = .int es.size (s.toks + 1) /\ Q (!es.isEmpty) s') E s:=by
  refine wpAny_runValue (zU9 entry_len ?_);rw [zUz plain_len _];unfold Builtin.«len»;refine zTz (m:=oneArg "len" _) (zT6 ?_);refine zTz (m:=callSpecial? (.ref d) (Str.ofString "__len__")) (zUg (name:=Str.ofString "__len__") hT F.slot_dict_len (call_meetsIn F.slot_dict_len hT F.entry_dict_len (F.args_dict_len_1 _) (zKg hd) ⟨o,es,ep,ho,hdat,?_⟩));show wpAny _ _ _ _ _ { s with toks:=s.toks + 1 };refine zTz (zUx (zT6 (zTz (wpAny_letGo ?_))));show wpAny _ _ (if ((es.size:Nat):Int) < 0 then _ else _) _ _ _;rw [zUM (by omega)];show wpAny _ _ (if ((es.size:Nat):Int) ≥ 2 ^ 63 then _ else _) _ _ _;rw [zUM (by omega)];exact zTz (wpAny_mkInt (zT6 ⟨rfl,h⟩))
 unfold truthy
 first
  | refine zTz (wpAny_callSpecial?_none (name:=Str.ofString "__bool__") hT noBool_dict ?_)
  | refine zTz (zT6 (zTz (wpAny_callSpecial?_none (name:=Str.ofString "__bool__") hT noBool_dict ?_)))
 first
  | refine zTz (wpAny_specialOf (name:=Str.ofString "__len__") hT F.slot_dict_len.lookup ?_)
  | refine zTz (zT6 (zTz (wpAny_specialOf (name:=Str.ofString "__len__") hT F.slot_dict_len.lookup ?_)))
 first
  | exact zTz (zUa key (fun r s' h'=>by obtain ⟨rfl,hq⟩:=h'; exact zT6 (hne ▸ hq)) fun _ _ e=>e)
  | exact zTz (zT6 (zTz (zUa key (fun r s' h'=>by obtain ⟨rfl,hq⟩:=h'; exact zT6 (hne ▸ hq)) fun _ _ e=>e)))
end
def zKj (M:Mem) (x:EV):Option (List (D × D)):=match x with
 | .dat (.ref n)=>match M[n]? with
  | some (.dicT ps)=>some ps
  | some (.froT ps)=>some ps
  | _=>none
 | _=>none
theorem zOp {K:PySem.W.Frag} {L:List Addr} {M:Mem} {H H0:Hp} {x:EV} {v:V} {ps:List (D × D)} (c:Cor K L M H) (r:zT H0 L H x v) (h:zKj M x = some ps):∃ a vs,v = .ref a /\ Rd H a (.dT vs) /\ zAB tkD L H ps vs:=by
 unfold zKj at h;split at h
 ·rename_i n;unfold zT Rep at r;obtain ⟨a,rfl,ea⟩:=r;split at h
  ·rename_i ps' e; cases h;obtain ⟨vs,e3,r3⟩:=c.obj n a _ ea e;exact ⟨a,vs,rfl,.inl e3,r3⟩
  ·rename_i ps' e; cases h;obtain ⟨o,vs,e3,r3⟩:=c.obj n a _ ea e;exact ⟨a,vs,rfl,.inr ⟨o,e3⟩,r3⟩
  ·cases h
 ·cases h
section
variable {X:Cx} {a:Expr} {f:FE}
def zJC (f:FE):FT:=fun σ M=>match f σ M with
 | some (x,M1)=>match zKj M1 x with
  | some ps=>some (!ps.isEmpty,M1)
  | none=>none
 | none=>none
theorem zNb (h:QE X a f) (he:∀ whole,isTrue a X.env whole = (do let v <- whole; standAt a.pos; holding [v] (truthy v)):=by intro _; rfl):QT X a (zJC f):=.mk <| by
 intro zB s τ H Q I ⟨L,σ,M,d,M',c,rs,hf,q⟩;unfold zJC at hf;split at hf
 ·rename_i x M1 e1;split at hf
  ·rename_i ps e2;cases hf;refine isTrue_plain (thn (h.un zB s τ H (fun v H1=>∃ L1,Stp L H L1 H1 /\ Cor X.K L1 M' H1 /\ zT H L1 H1 x v) I ⟨L,σ,M,_,_,c,rs,e1,fun L1 H1 v s1 c1 r1=>⟨L1,s1,c1,r1⟩⟩) fun u s1 ⟨v,H1,I1,rv,L1,st,c1,r1⟩=>?_) (he _);obtain ⟨p,vs,rfl,rd,r3⟩:=zOp c1 r1 e2;cases rv;have hn:=zEc;obtain ⟨z1,z2,xs,r,o,es,en,h1,h2,h3,h4,h5⟩:=(show zn X.prog X.w H1 s1.heap p (.dT vs) from rd.ok I1.hok);have hsz:es.size = vs.length:=by rw [Paired.length r,<- zUn,h4,zUD]
   refine zN2 z2 ⟨o,h1,h2.1⟩ h1 h3 (by omega) ⟨H1,I1.tok _,?_⟩;have hl:=r3.length;have:(!es.isEmpty) = !ps.isEmpty:=by
    rw [Array.isEmpty,hsz,hl];cases ps <;> simp
   rw [this];exact q L1 H1 st c1
  ·cases hf
 ·cases hf
end
section
variable {X:Cx} {e:Expr} {es:List Expr} {ek:Nat} {ep apos cpos:Pos} {f:FE}
theorem zL2 {td:TE} (ho:PE X e td) (hbase:attributeBase e "items" X.env (eval e X.env) = eval e X.env:=by rfl) (hline:(apos.endLine == cpos.line) = true:=by rfl) :
  PI X (.Tuple es ek ep) (.Call (.Attribute e "items" apos) [] [] cpos) (fun σ H R=>td σ H fun x H1=>∃ d kvs,x = .ref d /\ ((H1 d = some (.dT kvs) /\ ∀ o,R (zM1 d o kvs) (upd H1 d (.frz o (.dT kvs)))) \/ ∃ o,H1 d = some (.frz o (.dT kvs)) /\ R (zM1 d o kvs) H1)):=by
 intro zB s σ H R I h;refine wpAny_Call_method0_late hbase hline (thn (ho zB s σ H _ I h) fun v s1 ⟨x,H1,I1,r1,d,kvs,ex,q⟩=>?_);subst ex;cases r1;rcases q with ⟨ed,q⟩ | ⟨o,ed,q⟩
 ·obtain ⟨t1,t2,t3⟩:=zOF I1 (.inr ⟨kvs,.inl ed⟩);refine ⟨"dict", "dict.items", PySem.F.plainAttrs_dict,PySem.F.slot_dict_items,PySem.F.type_dict_items,t1,t2,Calls.callWith_builtin rfl (PySem.evalArgs_none ?_)⟩;refine call_meetsIn PySem.F.slot_dict_items t1 PySem.F.entry_dict_items (PySem.F.args_dict_items_1 _) (zD5 d t3) ⟨t1,?_⟩;obtain ⟨o,es',en,h1,h3,I0⟩:=zRo I1 ed;refine zG6 (d:=d) (o:=o) (es:=es') (ep:=en) ⟨_,zUE _ rfl,rfl,rfl⟩ (zT0 _ h1) h3 ?_;have ge:s1.heap.objs.size <= (s1.heap.push { cls:=.type "dict_items", data:=.fields #[.ref d] }).objs.size:=by rw [zUk]; exact Nat.le_succ _
  refine ⟨_,[_],_,_,_,rfl,I0.kept (t':=s1.toks) fun b q z=>zT0 _ (zT0 _ z),zFe h3,⟨_,_,zUE _ rfl⟩,fun c hc=>?_,q o⟩;cases zUW.mp hc;exact I0.fpOk ge (I0.hok.fresh ge)
 ·obtain ⟨t1,t2,t3⟩:=zOF I1 (.inr ⟨kvs,.inr ⟨o,ed⟩⟩);refine ⟨"dict", "dict.items", PySem.F.plainAttrs_dict,PySem.F.slot_dict_items,PySem.F.type_dict_items,t1,t2,Calls.callWith_builtin rfl (PySem.evalArgs_none ?_)⟩;refine call_meetsIn PySem.F.slot_dict_items t1 PySem.F.entry_dict_items (PySem.F.args_dict_items_1 _) (zD5 d t3) ⟨t1,?_⟩;obtain ⟨h1,_,_,xs,r,o',es',en,h1',h2,h3,h4,h5⟩:=(show zn X.prog X.w H1 s1.heap d (.frz o (.dT kvs)) from I1.hok d _ ed);rw [h1] at h1'; cases h1';refine zG6 (d:=d) (o:=o) (es:=es') (ep:=en) ⟨_,zUE _ rfl,rfl,rfl⟩ (zT0 _ h1) h3 ?_;have ge:s1.heap.objs.size <= (s1.heap.push { cls:=.type "dict_items", data:=.fields #[.ref d] }).objs.size:=by rw [zUk]; exact Nat.le_succ _
  refine ⟨_,[_],_,_,_,rfl,I1.kept (t':=s1.toks) fun b q z=>zT0 _ (zT0 _ z),zFe h3,⟨_,_,zUE _ rfl⟩,fun c hc=>?_,q⟩;cases zUW.mp hc;exact I1.fpOk ge (I1.hok.fresh ge)
def zBg (f:FE):FI:=fun σ M=>match f σ M with
 | some (.dat (.ref n),M1)=>match M1[n]? with
  | some (.dicT ps)=>some (ps.map fun p=>D.tup [p.1,p.2],none,M1.set n (.froT ps))
  | some (.froT ps)=>some (ps.map fun p=>D.tup [p.1,p.2],none,M1)
  | _=>none
 | _=>none
theorem zLs (h:QE X e f) (hbase:attributeBase e "items" X.env (eval e X.env) = eval e X.env:=by rfl) (hline:(apos.endLine == cpos.line) = true:=by rfl) :
  QI X (.Tuple es ek ep) (.Call (.Attribute e "items" apos) [] [] cpos) (zBg f):=.mk <| PI.imp (zL2 h.un hbase hline) fun τ H R zz=>by
 obtain ⟨L,σ,M,xs,gd,M',c,rs,hf,q⟩:=zz;have fin:∀ {L2:List Addr} {H2:Hp} {ps:List (D × D)} {a:Addr} {o:Obj} {vs:List (List Key × V)},H2 a = some (.frz o (.dT vs)) -> zAB tkD L2 H2 ps vs -> ∀ (i:Nat) (d:D),(ps.map fun p=>D.tup [p.1,p.2])[i]? = some d -> (zM1 a o vs).go i H2 /\ ∀ v H3,(zM1 a o vs).yld i H2 v H3 -> (∀ a o,H2 a = some o -> H3 a = some o) /\ Rep L2 H3 d v:=by
  intro L2 H2 ps a o vs hz r4 i d hd;rw [zUR] at hd;cases hp:ps[i]? with
  | none=>rw [hp] at hd; cases hd
  | some p=>
   rw [hp] at hd;cases hd;obtain ⟨k,x,hk,ek,rx⟩:=zK7 r4 hp;refine ⟨⟨hz,(zT7.mp hk).1⟩,fun v H3 hy=>?_⟩;obtain ⟨T,b,k',x',hk',rfl,hT,hb,rfl⟩:=hy;rw [hk] at hk'; cases hk';exact ⟨fun a o e=>by rw [zP (zY e hT)]; exact e,Rep.newTup hT (.cons (zOh ek hb) (.cons rx .nil))⟩
 unfold zBg at hf;split at hf
 ·rename_i n M1 e1;split at hf
  ·rename_i ps e2;cases hf;refine ⟨L,σ,M,_,_,c,rs,e1,fun L1 H1 v s1 c1 r1=>?_⟩;unfold zT Rep at r1;obtain ⟨a,rfl,ea⟩:=r1;obtain ⟨vs,e3,r3⟩:=c1.obj n a _ ea e2;refine ⟨a,vs,rfl,.inl ⟨e3,fun o=>?_⟩⟩;obtain ⟨c2,s2⟩:=c1.put (m:=.froT ps) (o':=.frz o (.dT vs)) ea e3 (fun _ z=>by cases z) (fun _ _ z=>by cases z) fun s2=>⟨o,_,zg,r3.stp s2⟩;refine q L1 _ _ (s1.trans s2) c2 fun L2 H2 M2 s3 c3 _=>?_;have hz:H2 a = some (.frz o (.dT vs)):=s3.frz _ _ _ zg;have r4:=r3.stp (s2.trans s3);exact ⟨fun i d hd=>fin hz r4 i d hd,hz,by rw [zUD,r4.length]; exact zUA _⟩
  ·rename_i ps e2;cases hf;refine ⟨L,σ,M,_,_,c,rs,e1,fun L1 H1 v s1 c1 r1=>?_⟩;unfold zT Rep at r1;obtain ⟨a,rfl,ea⟩:=r1;obtain ⟨o,vs,e3,r3⟩:=c1.obj n a _ ea e2;refine ⟨a,vs,rfl,.inr ⟨o,e3,?_⟩⟩;refine q L1 _ _ s1 c1 fun L2 H2 M2 s3 c3 _=>?_;have hz:H2 a = some (.frz o (.dT vs)):=s3.frz _ _ _ e3;have r4:=r3.stp s3;exact ⟨fun i d hd=>fin hz r4 i d hd,hz,by rw [zUD,r4.length]; exact zUA _⟩
  ·cases hf
 ·cases hf
end
section
variable {X:Cx}
theorem zJV (hc:X.calm = true):zBs X (.builtin "sorted") (fun xs H Q=>∃ (d:Addr) (kvs:List (List Key × V)) (ts:List (List Int)),xs = [.ref d] /\ Rd H d (.dT kvs) /\ kvs.map (·.1) = ts.map kkI /\ (∀ t ∈ ts,t ≠ []) /\ ∀ ys l,zHx H ys (zBz ts) -> H l = none -> Q (.ref l) (upd H l (.lst ys))):=by
 intro zB s σ H xs us Q I r h;obtain ⟨d,kvs,ts,rfl,ed,ets,hne,q⟩:=h;obtain ⟨u,rfl,rx⟩:=zDO r;cases rx;obtain ⟨z1,z2,xs,r,o,es,en,h1,h2,h3,h4,h5⟩:=(show zn X.prog X.w H s.heap d (.dT kvs) from ed.ok I.hok);have hsz:es.size = kvs.length:=by rw [Paired.length r,<- zUn,h4,zUD]
 have htl:ts.length = kvs.length:=by have:=zVr List.length ets; simpa using this.symm
 have kat:∀ (i:Nat) t,ts[i]? = some t -> ∃ b u,es[i]? = some (entryOfKey (tupleKind (zu X.prog X.w)) (kkI t,b,u)) /\ H b = some (.tup ((kkI t).map kV)):=by
  intro i t e;have hi:i < kvs.length:=by rw [<- htl]; exact (zT7.mp e).1
  have e1:(kvs.map (·.1))[i]? = some (kkI t):=by rw [ets,zUR,e]; rfl
  rw [zUR,zT8 hi] at e1;have e2:kvs[i]? = some (kkI t,kvs[i].2):=by rw [zT8 hi]; have:=zU4 e1; rw [<- this]
  obtain ⟨b,u,h6,h7,_⟩:=zQW r e2;exact ⟨b,u,by rw [<- zVj,h4,zUR,h6]; rfl,h7⟩
 refine zF5 (zIH (zNP z2 h2.1 h3) (I.ok.hd hc) h1 (by omega) fun h' tk acc hk hle hacc=>?_);have hal:acc.toList.length = ts.length:=by rw [zUn,hacc.1,hsz,htl]
 have aat:∀ (i:Nat) u,acc.toList[i]? = some u -> ∃ t b,ts[i]? = some t /\ u = .ref b /\ H b = some (.tup ((kkI t).map kV)) /\ zBw h' (.ref b) t:=by
  intro i u e;have hi:i < ts.length:=by rw [<- hal]; exact (zT7.mp e).1
  have e0:ts[i]? = some ts[i]:=zT8 hi;obtain ⟨b,u',k2,k3⟩:=kat i _ e0;rw [zVj] at e;obtain ⟨e',he',hv⟩:=hacc.2 i u e;rw [k2] at he'; cases he';exact ⟨_,b,e0,hv,k3,(zIG (I.hok b _ k3)).keep fun c o _ eo=>hk c o eo⟩
 refine ⟨by rw [hal,htl]; exact z1,fun v hv'=>?_,fun h2' out n hk2 hL hp hs=>?_⟩
 ·obtain ⟨i,hi⟩:=List.mem_iff_getElem?.mp hv';obtain ⟨t,b,e1,rfl,_,tt⟩:=aat i v hi;cases t with
  | nil=>exact absurd rfl (hne _ (zUv e1))
  | cons x t=>exact ⟨x,t,tt⟩
 ·obtain ⟨ys,rvy,tv⟩:=zK0 hal aat hp hs;exact ⟨.ref h'.objs.size,_,I.laid (t':=tk) (fun b o e=>hk2 b o (hk b o e)) hle (show zn X.prog X.w _ h2' _ (.lst ys) from ⟨by rw [tv.1,(zBv ts).length_eq,htl]; exact z1,out,n,rvy,hL⟩),rfl,q ys _ tv (I.hok.fresh hle)⟩
def zCP:KB:=fun xs M=>match xs with
 | [x]=>match zKj M x with
  | some ps=>match zGO (ps.map (·.1)) with
   | some ts=>if zJ6 ts = true then some (.fl ((zBz ts).map fun t=>D.tup (t.map D.int)),M) else none
   | none=>none
  | _=>none
 | _=>none
theorem zMZ:zF1 X.K (fun xs H Q=>∃ (d:Addr) (kvs:List (List Key × V)) (ts:List (List Int)),xs = [.ref d] /\ Rd H d (.dT kvs) /\ kvs.map (·.1) = ts.map kkI /\ (∀ t ∈ ts,t ≠ []) /\ ∀ ys l,zHx H ys (zBz ts) -> H l = none -> Q (.ref l) (upd H l (.lst ys))) zCP:=by
 intro L M M' H H0 xs d vs Q cc r hk q;unfold zCP at hk;split at hk
 ·rename_i x;split at hk
  ·rename_i ps e1;split at hk
   ·rename_i ts e2;split at hk
    ·rename_i e3;cases hk;obtain ⟨v,rfl,r1⟩:=r.one;obtain ⟨a,ws,rfl,e4,r3⟩:=zOp cc r1 e1;exact ⟨a,ws,ts,rfl,e4,zKv e2 r3,zIV e3,fun ys l tv hl=>q L _ _ (.upd hl) (cc.upd hl) (zT.newLst' cc hl (zEa tv))⟩
    ·cases hk
   ·cases hk
  ·cases hk
 ·cases hk
theorem zPh {e:Expr} {p pos:Pos} {fa:FAE} (hc:X.calm = true) (hg:Gl X "sorted") (hm:X.mg "sorted" = none) (ha:QAE X [e] fa) (he:starEach [e] X.env = (false,eval e X.env) :: starEach [] X.env:=by rfl) (hpl:(backTo pos (starEach [] X.env)).any (·.1) = false:=by rfl):QE X (.Call (.Name "sorted" p) [e] [] pos) (fB zCP fa) :=
 zEI zMZ (zJV hc) (by rfl) hg hm ha (by decide) (by decide) he hpl
end
open PySem.Calls
structure LamAt (base:Heap) (l:Lm) (pr:Arguments) (bd:Expr) (sc:Scope) (fs:List Str):Prop where
 len:l.us.length = fs.length
 ex:∃ qual cl pm ctv,base.get? l.f = some { cls:=.type "function", data:=.func (PySem.W.kla_fn "<lambda>" qual pr bd sc cl pm l.c ctv) } /\
  (∀ x y d,cl.lookup x = some d -> cl.lookup y = some d -> x = y) /\ (∀ y ∈ sc.names,y.2 = .free -> (cl.lookup y.1).isSome = true) /\ (∀ x d,cl.lookup x = some d -> ∃ v,base.IsCell d v) /\
  ∀ (i:Nat) x v,fs[i]? = some x -> l.us[i]? = some v -> ∃ d u,cl.lookup x = some d /\ ze v u /\ base.IsCell d (some u)
def spC (K:PySem.W.Frag) (n:Nat) (l:Lm) (g:List D -> FF):Sp:=fun vs H Q _=>∃ L ds cs M d M',Cor K L M H /\ zH L H ds vs /\ ds.length = n /\ zCp H l.c /\ zH L H cs l.us /\ g cs ds M = some (d,M') /\
 ∀ L' H' v,Stp L H L' H' -> Cor K L' M' H' -> Rep L' H' d v -> Q v H'
structure LamOk (P:Program) (w:World) (K:PySem.W.Frag) (mg:Str -> Option Value) (base:Heap) (k:Nat) (l:Lm) (n:Nat) (g:List D -> FF):Prop where
 ex:∃ fd ps,zDM K fd ps [] /\ PySem.W.FnAt l.f base /\ FnOk P w K mg base CX0 k l.f fd ps (spC K n l g)
structure LamScope (N ps fs:List Str) (pr:Arguments) (bd:Expr) (sc:Scope):Prop where
 kind:sc.kind = .function
 co:sc.isCoroutine = false
 gen:sc.isGenerator = false
 nd:N.Nodup
 pre:N = ps ++ fs
 par:∀ x ∈ ps,sc.names.lookup x = some .local
 fre:∀ x ∈ fs,sc.names.lookup x = some .free
 noc:∀ y ∈ sc.names,y.2 ≠ .cell
 bind:∀ (qual:Str) cl pm c ctv (us:List Value),us.length = ps.length -> bindArgs (PySem.W.kla_fn "<lambda>" qual pr bd sc cl pm c ctv) ⟨us,[]⟩ = pure (ps.zip us)
def zSl (b:FD):List D -> FF:=fun cs ds M=>b ((ds ++ cs).map some) M
def zOY (P:Program) (w:World) (K:PySem.W.Frag) (mg:Str -> Option Value) (base:Heap) (N:List Str) (q:Str) (sc:Scope) (f:Addr) (cd:Value) (cl:List (Str × Addr)) (A:Around) (outer:List Env) (s:Shared) (H:Hp):Cx where
 prog:=P
 w:=w
 K:=K
 mg:=mg
 base:=base
 A:=A.deeper (PySem.W.envX q sc s.heap.objs.size f cd cl)
 N:=N
 s₀:=s
 H₀:=H
 env:=PySem.W.envX q sc s.heap.objs.size f cd cl
 outer:=outer
 stack:=PySem.W.envX q sc s.heap.objs.size f cd cl :: outer
 ex:=[]
 calm:=true
 fn:=fun _=>false
 pn:=[]
 xe:=fun _ _=>False
section
variable {P:Program} {w:World} {K:PySem.W.Frag} {mg:Str -> Option Value} {base:Heap} {A:Around} {s:Shared} {R:Result -> Shared -> Prop}
theorem zOk {a c:Addr} {args:Args} {o oc:Obj} {fd:FuncData} {body:Expr} {vs:Array Value} {q:Str} {t:Tok} (hroom:A.depth < recursionLimit) (ho:s.heap.get? a = some o)
  (hd':o.data = .func fd) (hco:fd.scope.isCoroutine = false) (hgen:fd.scope.isGenerator = false) (hbody:fd.body = .expr body) (hc:fd.code = .ref c) (hoc:s.heap.get? c = some oc) (hdc:oc.data = .fields vs) (hq:vs[1]? = some (.str q t))
  (h:wpAny (model P w) A.in1 (bindArgs fd args) (fun binds s₁=>
   wpAny (model P w) A.in1 (newFunctionEnv fd.scope fd.globals fd.closure binds (q ++ ".<locals>.") (some a) (.ref c) none fd.builtins)
    (fun env s₂=>s₂.heap.NoLimit /\ codeAny (model P w) A (.expr body env) R s₂) (fun e s'=>R (.error e) s') s₁) (fun e s'=>R (.error e) s') s) :
  codeAny (model P w) A (.call (.ref a) args) R s:=by
 refine codeAny_of_tree ?_;show wpAny _ A.in1 (callAny (.ref a) args) _ _ s;simp only [callAny];refine zTz (wpAny_load ho ?_);simp only [hd',callFunction,hco,hgen,hbody,hc];refine zTz (m:=field (.ref c) 1) (zUj hoc hdc hq (zTz (zT6 ?_)))
 exact zTz (zUa h (fun binds s₁ h₁=>zTz (zUa h₁ (fun env s₂ h₂=>zTz (wpAny_enterFrame h₂.1 hroom
  (zT6 (And.intro rfl h₂.2)))) fun _ _ h'=>h')) fun _ _ h'=>h')
theorem zN3:∀ {ps:List Str} {us:List Value} {i:Nat} {x:Str} {u:Value},ps.Nodup -> ps[i]? = some x -> us[i]? = some u -> (ps.zip us).reverse.lookup x = some u:=by
 intro ps us i x u nd h1 h2;have hm:(x,u) ∈ (ps.zip us).reverse:=by
  rw [List.mem_reverse];exact zUv (i:=i) (by rw [List.getElem?_zip_eq_some]; exact ⟨h1,h2⟩)
 have hu:∀ v,(x,v) ∈ (ps.zip us).reverse -> v = u:=fun v hv=>by
  rw [List.mem_reverse] at hv;obtain ⟨j,hj⟩:=List.getElem?_of_mem hv;rw [List.getElem?_zip_eq_some] at hj;have:j = i:=(List.getElem?_inj (zT7.mp hj.1).1 nd).mp (hj.1.trans h1.symm);subst this;exact zU4 (hj.2.symm.trans h2)
 generalize (ps.zip us).reverse = l at hm hu;induction l with
 | nil=>cases hm
 | cons p r ih=>
  obtain ⟨y,v⟩:=p;rw [zV9];cases hb:x == y with
  | true=>
   have:=beq_iff_eq.mp hb;subst this;exact zVr some (hu v zUI)
  | false=>
   refine ih ?_ fun v hv=>hu v (zUH _ hv);rcases zUG.mp hm with z | z
   ·cases z; simp at hb
   ·exact z
theorem zRc {N ps fs:List Str} {pr:Arguments} {bd:Expr} {sc:Scope} {l:Lm} {k:Nat} {b:FD} (h:LamAt base l pr bd sc fs) (S:LamScope N ps fs pr bd sc)
  (hb:∀ (q:Str) (cd:Value) (cl:List (Str × Addr)) (A:Around) (outer:List Env) (s:Shared) (H:Hp),Room k (A.deeper (PySem.W.envX q sc s.heap.objs.size l.f cd cl)) -> QD (zOY P w K mg base N q sc l.f cd cl A outer s H) bd b) :
  LamOk P w K mg base (k + 1) l ps.length (zSl b):=by
 obtain ⟨qual,cl,pm,ctv,ho,inj,has,cel,cap⟩:=h.ex;refine ⟨_,ps,.all (S.bind qual cl pm l.c ctv),⟨_,_,_,_,ho⟩,fun vs H Q E z=>?_,fun A outer s H args us vs Q E hr e0 hbd r hsp=>?_⟩
 ·obtain ⟨L,ds,cs,M,d,M',c,r,hl,_⟩:=z;rw [r.length,hl]
 obtain ⟨L,ds,cs,M,d,M',c,rd,hl,⟨ca,oc,cvs,q,t,ec,eh,ed,e1⟩,rc,hf,hq⟩:=hsp;have lim:s.heap.NoLimit:=e0.mod.nolimit.keeps fun b o e=>(e0.bs b o e).1;obtain ⟨hoc,_⟩:=e0.hok ca _ eh;have hul:us.length = ps.length:=by rw [<- r.length,rd.length,hl]
 refine zOk hr.depth (e0.bs _ _ ho).1 rfl S.co S.gen rfl (by exact ec) hoc ed e1 (hbd _ _ _ _ ?_);refine wpAny_newFunctionEnv S.noc (fun y hy=>S.par _ (List.of_mem_zip hy).1) (fun h' hns hsb=>⟨lim.fresh _ hsb,?_⟩) S.kind;have hk:∀ b o,s.heap.get? b = some o -> h'.get? b = some o:=fun b o e=>hsb.extBut b o (zUP (zUF e)) (zT0 _ e);show codeAny _ _ (.expr bd (PySem.W.envX q sc s.heap.objs.size l.f (.ref ca) cl)) _ _;have cellS:∀ d v,base.IsCell d v -> h'.IsCell d v /\ H d = none:=fun d v ⟨o,e,z⟩=>⟨⟨o,hk _ _ (e0.bs _ _ e).1,z⟩,(e0.bs _ _ e).2⟩;have hN:N.length = (vs ++ l.us).length:=by rw [S.pre,zUK,zUK,h.len,r.length,hul]
 have I:Inv (zOY P w K mg base N q sc l.f (.ref ca) cl A outer s H) [] ((vs ++ l.us).map some) H { s with heap:=h',toks:=s.toks + (ps.zip us).length }:=by
  have noA:∀ b:Addr,b ∉ (zOY P w K mg base N q sc l.f (.ref ca) cl A outer s H).ex:=fun b z=>absurd (show b ∈ ([]:List Addr) from z) (by simp)
  refine ⟨⟨e0.mod,S.kind,rfl,rfl,zUA _,inj,fun y hy=>?_,fun y c z _=>Bool.noConfusion z,fun _=>hr.hd,Around.frames_deeper e0.frames,.inr ⟨rfl,rfl⟩,fun b z=>absurd z (noA b),e0.bs,e0.bsz,fun b _ _=>noA b,fun b z=>absurd z (noA b),e0.funs,e0.frf⟩,
   rfl,e0.bare,Un.kept hk,⟨_,hns,fun i y v h1 h2 h3=>?_⟩,fun y c z=>?_,e0.hok.fresh (zUA _),fun y c z=>?_,fun p hp=>absurd (show p ∈ ([]:List (Addr × Obj)) from hp) (by simp),e0.hok.kept hk,?_⟩
  ·have hy:sc.names.lookup y = some .cell \/ sc.names.lookup y = some .free:=hy;rcases hy with hy | hy
   ·exact absurd rfl (S.noc _ (zU6 hy))
   ·exact Option.isSome_iff_exists.mp (has _ (zU6 hy) rfl)
  ·have h1':(ps ++ fs)[i]? = some y:=by rw [<- S.pre]; exact h1
   rw [zUR] at h2;have h2':(vs ++ l.us)[i]? = some v:=by
    cases e:(vs ++ l.us)[i]? with
    | none=>rw [e] at h2; cases h2
    | some z=>rw [e] at h2; cases h2; rfl
   by_cases hi:i < ps.length
   ·rw [zUB hi] at h1';rw [zUB (by rw [r.length,hul]; exact hi)] at h2';obtain ⟨u,hu,rv⟩:=r.get h2';have ndP:ps.Nodup:=by have:=S.nd; rw [S.pre] at this; exact (zVI.mp this).1
    exact ⟨u,rv,.inl ⟨S.par y (zUv h1'),zN3 ndP h1' hu⟩⟩
   ·rw [zVE (by omega)] at h1';have hv:vs.length = ps.length:=by rw [r.length,hul]
    rw [zVE (by omega),hv] at h2';obtain ⟨d,u,e2,rv,ce⟩:=cap _ y v h1' h2';exact ⟨u,rv,.inr ⟨.inr (S.fre y (zUv h1')),d,e2,(cellS d _ ce).1⟩⟩
  ·obtain ⟨v,z2⟩:=cel y c z;exact ⟨v,(cellS c v z2).1⟩
  ·obtain ⟨v,z2⟩:=cel y c z;exact (cellS c v z2).2
  ·rw [zUD]; exact hN.symm
 refine PySem.W.kla_codeExpr (zUa ((hb q (.ref ca) cl A outer s H (hr.deeper _)).un [] _ _ H (fun v H'=>Q v H') I ⟨L,(ds ++ cs).map some,M,d,M',c,?_,hf,fun L' H' v s1 c1 r1=>hq L' H' v s1 c1 r1⟩) (fun u s' ⟨v,H',J,rv,z⟩=>⟨v,H',J.os,J.bare,J.base,J.hok,rv,z⟩) fun _ _ z=>False.elim z);have rr:=rd.app rc;refine ⟨by rw [zUD,zUD,rr.length],fun i d' e=>?_⟩;rw [zUR] at e ⊢;cases e2:(ds ++ cs)[i]? with
 | none=>rw [e2] at e; cases e
 | some d2=>
  rw [e2] at e; cases e;obtain ⟨v,e3,r3⟩:=rr.get e2;exact ⟨v,by rw [e3]; rfl,r3⟩
end
def zJt (X:Cx) (pr:Arguments) (bd:Expr) (sc:Scope) (H:Hp) (f:Addr) (c:Value):Prop:=zCp H c /\ ∃ qual cl pm ctv,
 H f = some (.ext fun h=>h.get? f = some { cls:=.type "function", data:=.func (PySem.W.kla_fn "<lambda>" qual pr bd sc cl pm c ctv) }) /\
 (∀ x d,cl.lookup x = some d -> X.env.cells.lookup x = some d) /\ ∀ y ∈ sc.names,y.2 = .free -> (cl.lookup y.1).isSome = true
def zTi (X:Cx) (P:Addr) (pr:Arguments) (bd:Expr) (sc:Scope):TE:=fun _ H Q=>(∃ ps,H P = some (.tbl ps) /\ zEM H ps) /\ ∀ f c H',H f = none -> Stp [] H [] H' -> zJt X pr bd sc H' f c -> Q (.ref f) H'
theorem zFr {pos p:Pos} {c v:Value}:∀ {l:List Value},TriplesOk l -> codeAmong p (l ++ [rawInt pos.line,rawInt pos.col,c]) = some v -> codeAmong p l = some v \/ v = c
 | [],_,h=>by
  unfold codeAmong at h;simp only [zWM] at h;split at h
  ·rename_i h2; cases h2;split at h
   ·exact .inr (zU4 h).symm
   ·unfold codeAmong at h; cases h
  ·cases h
 | .int a _ :: .int b _ :: x :: r,ht,h=>by
  simp only [List.cons_append,codeAmong] at h ⊢;split at h
  ·rename_i hc; rw [zUJ hc]; exact .inl h
  ·rename_i hc; rw [zUM hc]; exact zFr (l:=r) ht h
theorem zD3 {pos:Pos} {c:Value}:∀ {l:List Value},TriplesOk l -> TriplesOk (l ++ [rawInt pos.line,rawInt pos.col,c])
 | [],_=>trivial
 | .int a _ :: .int b _ :: x :: r,ht=>zD3 (l:=r) ht
section
variable {X:Cx} {pr:Arguments} {bd:Expr} {sc:Scope} {pos:Pos} {c P:Addr}
theorem zQv (hcode:X.env.code = .ref c) (hC:PySem.W.codeHdIn X.K c P = true) (hS:∀ y ∈ sc.names,y.2 = .free -> (X.env.kindOf y.1 = some .cell \/ X.env.kindOf y.1 = some .free))
  (hd:pr.defaults = []:=by rfl) (hkd:pr.kw_defaults = []:=by rfl):PE X (.Lambda pr bd sc pos) (zTi X P pr bd sc):=by
 intro zB s σ H Q I h;obtain ⟨⟨ps,hP,gT⟩,h⟩:=h;have hPo:s.heap.get? P = some (PySem.W.tabObj ps):=I.hok P _ hP;have C:PySem.W.CodeHd s.heap c P:=PySem.W.codeHd_of_K I.kIn hC;obtain ⟨cl,hcl,h1,h2⟩:=zDP (env:=X.env) (scope:=sc) fun y hy hk=>I.ok.has y.1 (hS y hy hk);have hgl:=I.mod.glob.keeps I.bk;have hgP:mainGlobals ≠ P:=fun q=>by
  obtain ⟨o,es,ep,e,hd,_⟩:=hgl;rw [q,hPo] at e; cases e; cases hd
 obtain ⟨bm,ob,b1,b2,b3,b4,b5,b6⟩:=I.mod.bmn;have b3':=I.bk _ _ b3;have hbG:bm ≠ mainGlobals:=fun q=>by
  obtain ⟨o,es,ep,e,hd,_⟩:=hgl;rw [q,e] at b3'; cases b3'; rw [hd] at b6; cases b6
 have hbP:bm ≠ P:=fun q=>by
  rw [q,hPo] at b3'; cases b3'; cases b4
 have hbA:s.heap.BuiltinsAt X.mg P:=⟨bm,ob,b1,b2,hbG,hbP,b3',b4,b5,b6⟩;refine PySem.W.kla_eval (by rw [defaultsOf_eq,hd,hkd]; rfl) ?_;cases hf:codeAmong pos ps.toList with
 | some cv=>
  refine PySem.W.kla_makeFunctionHit hcl I.ok.glob hgl hcode C hPo gT.1 hf hbA fun ctv h' tk hk hsz=>?_;have hn:H h'.objs.size = none:=I.hok.fresh hsz;have hk2:∀ b o,s.heap.get? b = some o -> (h'.push { cls:=.type "function", data:=.func (PySem.W.kla_fn "<lambda>" (X.env.qual ++ "<lambda>") pr bd sc cl ((X.mg "__name__").getD .none) cv ctv) }).get? b = some o:=fun b o e=>zT0 _ (hk b o e)
  refine ⟨.ref h'.objs.size,upd H h'.objs.size (.ext fun h=>h.get? h'.objs.size = some { cls:=.type "function", data:=.func (PySem.W.kla_fn "<lambda>" (X.env.qual ++ "<lambda>") pr bd sc cl ((X.mg "__name__").getD .none) cv ctv) }),
   I.laid hk2 hsz ⟨zUE _ rfl,⟨_,zUE _ rfl⟩,fun h1 h2 e k=>k _ e⟩,rfl,h _ cv _ hn (.upd hn) ⟨?_,_,_,_,_,zg,h1,h2⟩⟩
  exact (gT.2 pos cv hf).keep fun a o u e=>by rw [zP (zY e hn)]; exact e
 | none=>
  refine PySem.W.kla_makeFunction hcl I.ok.glob hgl hcode C hPo gT.1 hf hgP hbA fun c' ctv h' tk hx hge hlt hrec htb=>?_;obtain ⟨c₂,oc,vs,t,e2,hoc,hdc,hv⟩:=hrec;cases e2;have hPc:P ≠ c':=fun z=>absurd (zUT (zUF hPo) (by rw [z]; exact hge)) (zUm _);have hnc:H c' = none:=I.hok.fresh hge;have hnf:H h'.objs.size = none:=I.hok.fresh (zUV hge (zW0 hlt));have hPf:P ≠ h'.objs.size:=fun z=>by rw [<- z,hP] at hnf; cases hnf
  have hcf:c' ≠ h'.objs.size:=zUP hlt;generalize hfo:({ cls:=.type "function", data:=.func (PySem.W.kla_fn "<lambda>" (X.env.qual ++ "<lambda>") pr bd sc cl ((X.mg "__name__").getD .none) (.ref c') ctv) }:Obj) = fo;have hpu:(h'.push fo).get? h'.objs.size = some fo:=zUE _ (by rw [<- hfo]; rfl);generalize hH':upd (upd (upd H P (.tbl (ps ++ #[rawInt pos.line,rawInt pos.col,.ref c']))) c' (.frz oc (.ext fun _=>True))) h'.objs.size (.ext fun h=>h.get? h'.objs.size = some fo) = H';have e3:H' h'.objs.size = some (.ext fun h=>h.get? h'.objs.size = some fo):=by rw [<- hH']; exact zg
  have e4:H' c' = some (.frz oc (.ext fun _=>True)):=by rw [<- hH',zP hcf]; exact zg
  have e5:H' P = some (.tbl (ps ++ #[rawInt pos.line,rawInt pos.col,.ref c'])):=by rw [<- hH',zP hPf,zP hPc]; exact zg
  have e6:∀ b,b ≠ P -> b ≠ c' -> b ≠ h'.objs.size -> H' b = H b:=fun b z1 z2 z3=>by rw [<- hH',zP z3,zP z2,zP z1]
  have e7:∀ b o,H b = some o -> b ≠ P -> H' b = some o:=fun b o e z=>by rw [e6 b z (zY e hnc) (zY e hnf)]; exact e
  have hk:∀ b o,b ≠ P -> s.heap.get? b = some o -> (h'.push fo).get? b = some o:=fun b o z e=>zT0 _ (hx b o z e);have st:Stp [] H [] H':=by
   have hfz:∀ a o u,H a = some (.frz o u) -> H' a = some (.frz o u):=fun a o u e=>e7 a _ e (zCj e hP (by intro z; cases z));refine ⟨⟨[],by simp⟩,fun a ha=> .inl ha,fun a o e _ nt=>e7 a o e fun z=>?_,fun a xs e=>e7 a _ e (zCj e hP (by intro z; cases z)),hfz,fun a ps' e=>?_⟩
   ·subst z; rw [hP] at e; cases e; exact nt _ rfl
   ·by_cases z:a = P
    ·subst z;rw [hP] at e; cases e;refine ⟨_,e5,fun g=>⟨?_,fun p v ev=>?_⟩⟩
     ·rw [show (ps ++ #[rawInt pos.line,rawInt pos.col,Value.ref c']).toList = ps.toList ++ [rawInt pos.line,rawInt pos.col,.ref c'] by simp];exact zD3 g.1
     ·rw [show (ps ++ #[rawInt pos.line,rawInt pos.col,Value.ref c']).toList = ps.toList ++ [rawInt pos.line,rawInt pos.col,.ref c'] by simp] at ev;rcases zFr g.1 ev with z | z
      ·exact (g.2 p v z).keep hfz
      ·exact ⟨c',oc,vs,_,t,z,e4,hdc,hv⟩
    ·exact ⟨ps',e7 a _ e z,.keep hfz⟩
  subst hfo;refine ⟨.ref h'.objs.size,H',I.un (t':=tk) ⟨fun b o e n _ _=>?_,fun b o e n _ _=>⟨o.slots,?_⟩,fun b o e n _=>?_,fun b o e _=>?_,st.tup,st.frz,fun b ps' e=>?_⟩ fun a o e=>?_,rfl,h _ (.ref c') H' hnf st ⟨⟨c',oc,vs,_,t,rfl,e4,hdc,hv⟩,_,_,_,_,e3,h1,h2⟩⟩
  ·exact hk b o (fun z=>by rw [z,hP] at n; cases n) e
  ·exact hk b o (fun z=>by rw [z,hP] at n; cases n) e
  ·rw [e6 b (fun z=>by rw [z,hP] at n; cases n) (zUP (zUT (zUF e) hge)) (zUP (zUT (zUF e) (zUV hge (zW0 hlt))))]; exact n
  ·by_cases z:b = P
   ·subst z; exact ⟨_,zT0 _ htb⟩
   ·exact ⟨o,hk b o z e⟩
  ·by_cases z:b = P
   ·subst z; rw [hP] at e; cases e; exact ⟨_,e5⟩
   ·exact ⟨#[],by rw [e7 b _ e z]; simp⟩
  ·by_cases z1:a = h'.objs.size
   ·subst z1;rw [e3] at e; cases e;exact ⟨hpu,⟨_,hpu⟩,fun h1 h2 e k=>k _ e⟩
   ·by_cases z2:a = c'
    ·subst z2;rw [e4] at e; cases e;exact ⟨zT0 _ hoc,trivial,⟨_,zT0 _ hoc⟩,fun _ _ _ _=>trivial⟩
    ·by_cases z3:a = P
     ·subst z3;rw [e5] at e; cases e;exact zT0 _ htb
     ·rw [e6 a z3 z2 z1] at e;refine (I.hok a o e).stay (fun b u hb q=>hk b u (fun z=>?_) q) (fun b q=>e7 b _ q (zCj q hP (by intro z; cases z))) st.tup;rcases hb with z4 | z4
      ·exact z3 (z4.symm.trans z)
      ·rw [z,hP] at z4; cases z4
end
def drp (H:Hp) (f:Addr):Hp:=fun b=>if b = f then none else H b
theorem zH9 {H:Hp} {f b:Addr} (h:b ≠ f):drp H f b = H b:=zUM h
theorem zFW {H:Hp} {f:Addr}:drp H f f = none:=zUJ rfl
section
variable {H:Hp} {f:Addr} {φ:Heap -> Prop} {L:List Addr}
theorem zAM {b:Addr} {o:HO} (e:H b = some o) (hf:H f = some (.ext φ)) (n:∀ ψ,o ≠ .ext ψ):drp H f b = some o:=by
 rw [zH9 (zCj e hf (n φ))]; exact e
mutual
theorem Rep.drp (hf:H f = some (.ext φ)):∀ {d:D} {v:V},Rep L H d v -> Rep L (drp H f) d v
 | .non,_,h=>by unfold Rep at h ⊢; exact h
 | .bl _,_,h=>by unfold Rep at h ⊢; exact h
 | .int _,_,h=>by unfold Rep at h ⊢; exact h
 | .str _,_,h=>by unfold Rep at h ⊢; exact h
 | .tup ds,_,h=>by
  unfold Rep at h ⊢;obtain ⟨a,vs,rfl,e,r⟩:=h;exact ⟨a,vs,rfl,zAM e hf (by intro _ z; cases z),zH.drp hf r⟩
 | .ref n,_,h=>by unfold Rep at h ⊢; exact h
 | .fn _ ds,_,h=>by
  unfold Rep at h ⊢;obtain ⟨h1,⟨a,oc,vs,q,t,e1,e2,r⟩,h2⟩:=h;exact ⟨h1,⟨a,oc,vs,q,t,e1,zAM e2 hf (by intro _ z; cases z),r⟩,zH.drp hf h2⟩
theorem zH.drp (hf:H f = some (.ext φ)):∀ {ds:List D} {vs:List V},zH L H ds vs -> zH L (drp H f) ds vs
 | [],_,h=>by unfold zH at h ⊢; exact h
 | d :: ds,_,h=>by
  unfold zH at h ⊢;obtain ⟨v,r,rfl,h1,h2⟩:=h;exact ⟨v,r,rfl,Rep.drp hf h1,zH.drp hf h2⟩
end
theorem zAB.drp {κ:Type} {kf:D -> Option κ} (hf:H f = some (.ext φ)):∀ {ps:List (D × D)} {vs:List (κ × V)},zAB kf L H ps vs -> zAB kf L (drp H f) ps vs
 | [],_,h=>h
 | p :: r,_,h=>by
  obtain ⟨k,v,r',rfl,e,h1,h2⟩:=h;exact ⟨k,v,r',rfl,e,h1.drp hf,zAB.drp hf h2⟩
theorem zDH.drp {K:PySem.W.Frag} {a:Addr} {m:MO} (hf:H f = some (.ext φ)) (h:zDH K L H a m):zDH K L (L3.drp H f) a m:=by
 cases m with
 | lst xs=>obtain ⟨vs,e,r⟩:=h; exact ⟨vs,zAM e hf (by intro _ z; cases z),r.drp hf⟩
 | fro xs=>obtain ⟨o,vs,e,r⟩:=h; exact ⟨o,vs,zAM e hf (by intro _ z; cases z),r.drp hf⟩
 | dict ps=>obtain ⟨vs,e,r⟩:=h; exact ⟨vs,zAM e hf (by intro _ z; cases z),r.drp hf⟩
 | dicT ps=>obtain ⟨vs,e,r⟩:=h; exact ⟨vs,zAM e hf (by intro _ z; cases z),r.drp hf⟩
 | set _=>obtain ⟨o,u,e⟩:=h; exact ⟨o,u,zAM e hf (by intro _ z; cases z)⟩
 | froT ps=>obtain ⟨o,vs,e,r⟩:=h; exact ⟨o,vs,zAM e hf (by intro _ z; cases z),r.drp hf⟩
 | froK ps=>obtain ⟨o,vs,e,r⟩:=h; exact ⟨o,vs,zAM e hf (by intro _ z; cases z),r.drp hf⟩
theorem zCp.drp {v:Value} (hf:H f = some (.ext φ)) (x:zCp H v):zCp (L3.drp H f) v:=x.keep fun _ _ _ e=>zAM e hf (by intro _ z; cases z)
theorem Cor.drp {K:PySem.W.Frag} {M:Mem} (hf:H f = some (.ext φ)) (c:Cor K L M H):Cor K L M (L3.drp H f) :=
 ⟨c.len,c.nd,fun n a m e1 e2=>(c.obj n a m e1 e2).drp hf,fun x hx d P e=>
  let ⟨ps,e1,g⟩:=c.tab x hx d P e
  ⟨ps,zAM e1 hf (by intro _ z; cases z),g.keep fun _ _ _ e=>zAM e hf (by intro _ z; cases z)⟩⟩
theorem Stp.drp {H0:Hp} {L0:List Addr} (hf:H f = some (.ext φ)) (h0:H0 f = none) (s:Stp L0 H0 L H):Stp L0 H0 L (L3.drp H f):=by
 refine ⟨s.pre,s.new,fun a o e hl nt=>?_,fun a xs e=>zAM (s.tup a xs e) hf (by intro _ z; cases z),fun a o u e=>zAM (s.frz a o u e) hf (by intro _ z; cases z),fun a ps e=>?_⟩
 ·rw [zH9 (zY e h0)]; exact s.old a o e hl nt
 ·obtain ⟨p,e1,g⟩:=s.tbl a ps e;exact ⟨p,zAM e1 hf (by intro _ z; cases z),fun q=>(g q).keep fun _ _ _ e=>zAM e hf (by intro _ z; cases z)⟩
end
section
variable {X:Cx} {pr:Arguments} {bd:Expr} {sc:Scope} {pos p lp:Pos} {e:Expr} {es:List Expr} {c P f:Addr} {g1 g2:FA}
def only (h:Heap) (base:Heap) (S:List Addr):Heap:=PySem.W.hideAll h ((List.range h.objs.size).filter fun b=> !((base.get? b).isSome || S.contains b))
theorem zFx {h base:Heap} {S:List Addr} {b:Addr} {o:Obj} (e:h.get? b = some o) (hb:(∃ u,base.get? b = some u) \/ b ∈ S):(only h base S).get? b = some o:=by
 refine PySem.W.hideAll_get _ e fun hm=>?_;have q:=(List.mem_filter.mp hm).2;rcases hb with ⟨u,z⟩ | z
 ·rw [z] at q; simp at q
 ·rw [List.contains_iff_mem.mpr z] at q; simp at q
theorem zK4 {h base:Heap} {S:List Addr} {b:Addr} {o:Obj} (e:(only h base S).get? b = some o):h.get? b = some o /\ ((∃ u,base.get? b = some u) \/ b ∈ S):=by
 have e1:=PySem.W.of_hideAll _ e;refine ⟨e1,?_⟩;cases q:base.get? b with
 | some u=>exact .inl ⟨u,rfl⟩
 | none=>
  by_cases z:b ∈ S
  ·exact .inr z
  ·have:(only h base S).get? b = none:=PySem.W.hideAll_none _ (List.mem_filter.mpr ⟨List.mem_range.mpr (zUF e1),by rw [q]; simpa using z⟩);rw [this] at e; cases e
theorem zPa {k:Nat} {g:Addr} {gd:FuncData} {ps fs:List Str} {sp:Sp} {zB:List (Addr × Obj)} {σ:L2.St} {H:Hp} {s:Shared} {Q:VK} {us:List Value} {vs cvs:List V} {cv:Value}
  (F:∀ base',LamAt base' ⟨f,cv,cvs⟩ pr bd sc fs -> FnOk X.prog X.w X.K X.mg base' CX0 k g gd ps sp) (hfn:∀ x,X.fn x = true) (hr:Room k X.A) (hb:zDM X.K gd ps []) (I:Inv X zB σ H s) (V:zJt X pr bd sc H f cv)
  (hl:cvs.length = fs.length) (hcap:∀ (i:Nat) x v,fs[i]? = some x -> cvs[i]? = some v -> ∃ j:Nat,X.N[j]? = some x /\ σ[j]? = some (some v) /\ X.env.scope.names.lookup x = some .cell /\ (x,NameKind.free) ∈ sc.names)
  (r:zU vs us) (h:sp vs (drp H f) Q E0):wpAny (model X.prog X.w) X.A (call (.ref g) us) (EP X zB σ Q) X.xe s:=by
 obtain ⟨cf,qual,cl,pm,ctv,hf,h1,h2⟩:=V;obtain ⟨ho,_⟩:=I.hok f _ hf;have fne:∀ b,H b = none -> drp H f b = none:=fun b n=>by
  by_cases z:b = f
  ·rw [z]; exact zFW
  ·rw [zH9 z]; exact n
 have cells:∀ x d,cl.lookup x = some d -> d ∈ X.env.cells.map (·.2):=fun x d e=>zUL.mpr ⟨(x,d),zU6 (h1 x d e),rfl⟩;generalize hS:f :: X.env.cells.filterMap (fun p=>if X.env.cells.lookup p.1 = some p.2 then some p.2 else none) = S;have inS:∀ x d,cl.lookup x = some d -> d ∈ S:=fun x d e=>by
  rw [<- hS];exact zUH _ (List.mem_filterMap.mpr ⟨(x,d),zU6 (h1 x d e),zUJ (h1 x d e)⟩)
 have ofS:∀ b ∈ S,b = f \/ ∃ x,X.env.cells.lookup x = some b:=fun b hb=>by
  rw [<- hS] at hb;rcases zUG.mp hb with z | z
  ·exact .inl z
  ·obtain ⟨p,hp,e⟩:=List.mem_filterMap.mp z;split at e
   ·rename_i q; cases e; exact .inr ⟨_,q⟩
   ·cases e
 have bk:∀ b o,X.base.get? b = some o -> (only s.heap X.base S).get? b = some o:=fun b o e=>zFx (I.bk b o e) (.inl ⟨o,e⟩);have nsK:∀ {b:Addr} {m:Str -> Option Value},X.base.Ns b m -> (only s.heap X.base S).Ns b m:=fun {b m} ⟨o,es,ep,e,d,r⟩=>⟨o,es,ep,bk _ _ e,d,r⟩;have md:Mod X.K X.mg (only s.heap X.base S):=by
  have M:=I.mod;obtain ⟨mb,n1,n2⟩:=M.blt;obtain ⟨bm,ob,b1,b2,b3,b4⟩:=M.bmn;exact ⟨M.kin.keeps bk,M.glob.keeps bk,⟨mb,n1.keeps bk,n2⟩,M.nolimit.keeps bk,bm,ob,b1,b2,bk _ _ b3,b4⟩
 have la:LamAt (only s.heap X.base S) ⟨f,cv,cvs⟩ pr bd sc fs:=by
  have cel:∀ x d,cl.lookup x = some d -> ∀ v,s.heap.IsCell d v -> (only s.heap X.base S).IsCell d v:=fun x d e v ⟨o,e2,z⟩=>⟨o,zFx e2 (.inr (inS x d e)),z⟩;refine ⟨hl,qual,cl,pm,ctv,zFx ho (.inr (by rw [<- hS]; exact zUI)),fun x y d a b=>I.ok.inj x y d (h1 x d a) (h1 y d b),h2,fun x d e=>?_,fun i x v e1 e2=>?_⟩
  ·obtain ⟨v,z⟩:=I.cell x d (h1 x d e);exact ⟨v,cel x d e v z⟩
  ·obtain ⟨j,n1,n2,n3,n4⟩:=hcap i x v e1 e2;obtain ⟨m,hn,lk⟩:=I.loc;obtain ⟨u,ru,l⟩:=lk j x v n1 n2 (.inr (.inl n3));obtain ⟨d,hd⟩:=Option.isSome_iff_exists.mp (h2 (x,.free) n4 rfl);refine ⟨d,u,hd,ru,cel x d hd _ ?_⟩;rcases l with ⟨l,_⟩ | ⟨_,c2,l,z⟩
   ·exfalso;have l':X.env.scope.names.lookup x = some .local:=l;rw [n3] at l'; cases l'
   ·rw [h1 x d hd] at l; cases l; exact z
 have hok:HOk X.prog X.w (drp H f) s.heap:=fun a o e=>by
  by_cases z:a = f
  ·rw [z,zFW] at e; cases e
  ·rw [zH9 z] at e;exact (I.hok a o e).stay (fun _ _ _ q=>q) (fun b q=>zAM q hf (by intro _ z; cases z)) fun b xs q=>zAM q hf (by intro _ z; cases z)
 have I2:Inv X zB σ (drp H f) s:=by
  refine ⟨I.ok,I.os,I.bare,⟨I.base.keep,I.base.slot,fun b o e n hx=>fne b (I.base.free b o e n hx),I.base.there,fun b xs e=>zAM (I.base.tups b xs e) hf (by intro _ z; cases z),fun b o xs e=>zAM (I.base.frzs b o xs e) hf (by intro _ z; cases z),fun b qs e=>?_⟩,I.loc,I.cell,fne _ I.free,fun x c e=>fne _ (I.freeC x c e),fun q hq=>?_,hok,I.len⟩
  ·obtain ⟨more,z⟩:=I.base.tbls b qs e;exact ⟨more,zAM z hf (by intro _ z; cases z)⟩
  ·obtain ⟨a1,a2,a3⟩:=I.pin q hq;exact ⟨a1,fne _ a2,a3⟩
 have E0':=I2.env0;have e1:Env0 X.prog X.w X.K X.mg (only s.heap X.base S) X.A X.stack s (drp H f):=by
  refine ⟨E0'.frames,md,fun b o e=>?_,Nat.le_of_eq (PySem.W.hideAll_size _ _),?_,E0'.frf,hok,E0'.bare⟩
  ·obtain ⟨q1,q2⟩:=zK4 e;refine ⟨q1,?_⟩;rcases q2 with ⟨u,q2⟩ | q2
   ·exact fne b (I.bs b u q2).2
   ·rcases ofS b q2 with rfl | ⟨x,z⟩
    ·exact zFW
    ·exact fne b (I.freeC x b z)
  ·have nofr:∀ L ∈ frs X.stack,X.base.get? L = none -> (only s.heap X.base S).get? L = none:=fun L hL eb=>by
    cases q:(only s.heap X.base S).get? L with
    | none=>rfl
    | some u=>
     obtain ⟨q1,q2⟩:=zK4 q;rcases q2 with ⟨u,q2⟩ | q2
     ·rw [eb] at q2; cases q2
     ·rcases ofS L q2 with rfl | ⟨x,z⟩
      ·have:=I.stkFree L hL;rw [hf] at this; cases this
      ·rcases zUG.mp (I.stkSub L hL) with z2 | z2
       ·exact absurd z2 (I.cne x L z)
       ·obtain ⟨_,o,ho2,_⟩:=I.ok.funs.mem z2;exact absurd (zUT (zUF ho2) (I.ok.cab x L (hfn x) z)) (zUm _)
   have all:∀ l:List Env,(∀ b ∈ frs l,b ∈ frs X.stack) -> s.heap.FunFrames X.base l -> s.heap.FunFrames (only s.heap X.base S) l:=by
    intro l;induction l with
    | nil=>intro _ _; trivial
    | cons env r ih=>
     intro hs hh;obtain ⟨hk,⟨L,o,hf,hn,ho'⟩,hr⟩:=hh;exact ⟨hk,⟨L,o,hf,nofr L (hs L (by unfold frs; rw [List.filterMap_cons,hf]; exact zUI)) hn,ho'⟩,ih (fun b hb=>hs b (by unfold frs; rw [List.filterMap_cons,hf]; exact zUH _ hb)) hr⟩
   exact all _ (fun _ h=>h) E0'.funs
 have hl2:us.length = ps.length:=by rw [<- r.length]; exact (F _ la).len _ _ _ _ h
 refine wpAny_call (codeAny_mono ((F _ la).run X.A X.stack s (drp H f) ⟨us,[]⟩ us vs Q E0 hr e1 (by have:=hb s us I.kIn (by simpa using hl2); simpa using this) r h) fun r s' hq=>?_);cases r with
 | error e=>exact False.elim hq
 | ok fl=>
  cases fl with
  | ret u=>exact I2.after hq
  | next=>exact False.elim hq
  | brk=>exact False.elim hq
  | cont=>exact False.elim hq
end
def zTh (X:Cx) (pr:Arguments) (bd:Expr) (sc:Scope) (g1 g2:FA):TA:=fun τ H Q=>∃ L σ M ds1 M1 ds2 M2,Cor X.K L M H /\ zAr L H σ τ /\ g1 σ M = some (ds1,M1) /\ g2 σ M1 = some (ds2,M2) /\
 ∀ L' H' vs1 f c vs2,Stp L H L' H' -> Cor X.K L' M2 H' -> zH L' H' ds1 vs1 -> zH L' H' ds2 vs2 -> H f = none -> zJt X pr bd sc H' f c -> Q (vs1 ++ .ref f :: vs2) H'
structure QAL (X:Cx) (es:List Expr) (pr:Arguments) (bd:Expr) (sc:Scope) (g1 g2:FA):Prop where
 un:PA X es (zTh X pr bd sc g1 g2)
theorem zJt.stp {X:Cx} {pr:Arguments} {bd:Expr} {sc:Scope} {L L':List Addr} {M:Mem} {K:PySem.W.Frag} {H H':Hp} {f:Addr} {c:Value} (k:Cor K L M H) (s:Stp L H L' H') (v:zJt X pr bd sc H f c):zJt X pr bd sc H' f c:=by
 obtain ⟨cf,qual,cl,pm,ctv,hf,h1,h2⟩:=v;refine ⟨cf.keep s.frz,qual,cl,pm,ctv,s.old f _ hf (fun z=>?_) (by intro _ z; cases z),h1,h2⟩;obtain ⟨n,hn⟩:=List.getElem?_of_mem z;have hm:=k.obj n f _ hn (zT8 (by rw [<- k.len]; exact (zT7.mp hn).1));generalize M[n]'_ = m at hm;cases m with
 | lst xs=>obtain ⟨vs,e',_⟩:=hm; rw [hf] at e'; cases e'
 | fro xs=>obtain ⟨o,vs,e',_⟩:=hm; rw [hf] at e'; cases e'
 | dict ps=>obtain ⟨vs,e',_⟩:=hm; rw [hf] at e'; cases e'
 | dicT ps=>obtain ⟨vs,e',_⟩:=hm; rw [hf] at e'; cases e'
 | set _=>obtain ⟨o,u,e'⟩:=hm; rw [hf] at e'; cases e'
 | froT ps=>obtain ⟨o,vs,e',_⟩:=hm; rw [hf] at e'; cases e'
 | froK ps=>obtain ⟨o,vs,e',_⟩:=hm; rw [hf] at e'; cases e'
section
variable {X:Cx} {pr:Arguments} {bd:Expr} {sc:Scope} {pos p lp:Pos} {e:Expr} {es:List Expr} {c P:Addr} {g1 g2:FA} {x y:Str}
theorem zOl (hx:y ∈ zCJ) (ht:PySem.W.tabIn X.K y = some (c,P)) (hcode:X.env.code = .ref c) (hC:PySem.W.codeHdIn X.K c P = true) {sc0:Scope} (hs0:X.env.scope = sc0) (hS:∀ y ∈ sc.names,y.2 = .free -> sc0.names.lookup y.1 = some .cell) (h2:QA X es g2)
  (hd:pr.defaults = []:=by rfl) (hkd:pr.kw_defaults = []:=by rfl) (hs:starEach (.Lambda pr bd sc lp :: es) X.env = (false,eval (.Lambda pr bd sc lp) X.env) :: starEach es X.env:=by rfl):QAL X (.Lambda pr bd sc lp :: es) pr bd sc zJ g2 :=
 .mk <| PA.imp (zB5 (zQv hcode hC (fun y hy hf=> .inl (by show X.env.scope.names.lookup y.1 = _; rw [hs0]; exact hS y hy hf)) hd hkd) h2.un hs) fun τ H Q zz=>by
  obtain ⟨L,σ,M,ds1,M1,ds2,M2,k,rs,e1,e2,q⟩:=zz;unfold zJ at e1;cases e1;refine ⟨k.tab y hx c P ht,fun f cv H1 hf s1 V=>?_⟩;have s1':Stp L H L H1:=s1.bare;refine ⟨L,σ,M,ds2,M2,k.bare s1,rs.stp s1',e2,fun L2 H2 vs s2 k2 r2=>?_⟩;exact q L2 H2 [] f cv vs (s1'.trans s2) k2 .nil r2 hf (V.stp (k.bare s1) s2)
theorem zIh {f:FD} (h1:QD X e f) (h2:QAL X es pr bd sc g1 g2) (hs:starEach (e :: es) X.env = (false,eval e X.env) :: starEach es X.env:=by rfl):QAL X (e :: es) pr bd sc (zD f g1) g2 :=
 .mk <| PA.imp (zB5 h1.un h2.un hs) fun τ H Q zz=>by
  obtain ⟨L,σ,M,ds1,M1,ds2,M2,k,rs,e1,e2,q⟩:=zz;unfold zD at e1;split at e1
  ·rename_i d0 M0 e0;split at e1
   ·rename_i ds3 M3 e3;cases e1;refine ⟨L,σ,M,d0,M0,k,rs,e0,fun L0 H0 v s0 k0 r0=>⟨L0,σ,M0,ds3,M1,ds2,M2,k0,rs.stp s0,e3,e2,fun L' H' vs1 f c vs2 s' k' r1 r2 hf V=>?_⟩⟩;exact q L' H' (v :: vs1) f c vs2 (s0.trans s') k' (.cons (r0.stp s') r1) r2 (zG0 s0 k k0 hf).1 V
   ·cases e1
  ·cases e1
def zOV (σ:Sd):List Nat -> Option (List D)
 | []=>some []
 | i :: r=>match σ[i]?,zOV σ r with
  | some (some d),some ds=>some (d :: ds)
  | _,_=>none
noncomputable def zFk (idx:List Nat) (m:Lm -> FF) (g1 g2:FA):FE:=fun σ M=>match g1 σ M with
 | some (ds1,M1)=>match g2 σ M1 with
  | some (ds2,M2)=>match zOV σ idx with
   | some cs=>open Classical in if h:∃ r:D × Mem,∀ l,m l (ds1 ++ .fn l cs :: ds2) M2 = some r then some (.dat h.choose.1,h.choose.2) else none
   | none=>none
  | none=>none
 | none=>none
theorem zK3 {L:List Addr} {H:Hp} {σ:Sd} {τ:Sv} (rs:zAr L H σ τ):∀ {idx:List Nat} {cs:List D},zOV σ idx = some cs -> ∃ vs,zH L H cs vs /\ vs.length = idx.length /\ ∀ (i:Nat) v,vs[i]? = some v -> ∃ j:Nat,idx[i]? = some j /\ τ[j]? = some (some v)
 | [],cs,h=>by cases h; exact ⟨[],.nil,rfl,fun i v e=>by simp at e⟩
 | j :: r,cs,h=>by
  unfold zOV at h;split at h
  ·rename_i d ds e1 e2;cases h;obtain ⟨v,e3,r3⟩:=rs.2 j d e1;obtain ⟨vs,r4,l4,h4⟩:=zK3 rs e2;refine ⟨v :: vs,.cons r3 r4,by simp [l4],fun i u e=>?_⟩;cases i with
   | zero=>simp at e; subst e; exact ⟨j,rfl,e3⟩
   | succ i=>exact h4 i u (by simpa using e)
  ·cases h
theorem zJ4 {L:List Addr} {H:Hp} {d1 d2:List D} {v1 v2:List V} {l:Lm} {cs:List D} (h1:zH L H d1 v1) (h2:zH L H d2 v2) (hc:zCp H l.c) (h3:zH L H cs l.us):zH L H (d1 ++ .fn l cs :: d2) (v1 ++ .ref l.f :: v2) :=
 h1.app (.cons (by unfold Rep; exact ⟨rfl,hc,h3⟩) h2)
theorem zOt {k n:Nat} {g:Addr} {gd:FuncData} {ps fs:List Str} {m:Lm -> FF} {idx:List Nat}
  (F:∀ base' l,LamAt base' l pr bd sc fs -> FnOk X.prog X.w X.K X.mg base' CX0 k g gd ps (spF X.K n (m l))) (hfn:∀ x,X.fn x = true) (hr:Room k X.A) (hg:Gl X x) (hm:X.mg x = some (.ref g)) (hk:PySem.W.keepIn X.K (.ref g) = true) (hb:zDM X.K gd ps [])
  (ha:QAL X (e :: es) pr bd sc g1 g2) (hl:∀ σ M ds1 M1 ds2 M2,g1 σ M = some (ds1,M1) -> g2 σ M1 = some (ds2,M2) -> ds1.length + (ds2.length + 1) = n)
  (hi:idx.length = fs.length) (hcap:∀ (i:Nat) x j,fs[i]? = some x -> idx[i]? = some j -> X.N[j]? = some x /\ X.env.scope.names.lookup x = some .cell /\ (x,NameKind.free) ∈ sc.names)
  (hdb:(x == ("__debug__" : Str)) = false:=by decide) (he:starEach (e :: es) X.env = (false,eval e X.env) :: starEach es X.env:=by rfl) (hpl:(backTo pos (starEach es X.env)).any (·.1) = false:=by rfl) :
  QE X (.Call (.Name x p) (e :: es) [] pos) (zFk idx m g1 g2):=.mk <| by
 intro zB s τ H Q I ⟨L,σ,M,d,M',k0,rs,hf,q⟩;unfold zFk at hf;split at hf
 ·rename_i ds1 M1 e1;split at hf
  ·rename_i ds2 M2 e2;split at hf
   ·rename_i cs e3;split at hf
    ·rename_i hh;have hc:=hh.choose_spec;generalize hh.choose = r at hc hf;cases hf;refine wpAny_Call_Name_kw (zKw I hg hm ?_ hdb)
     refine PySem.W.callWith_K (h₀:=X.base) I.ok.mod.kin hk (thn (ha.un pos zB s τ H (fun vs H1=>∃ L' vs1 f c vs2,Stp L H L' H1 /\ Cor X.K L' M2 H1 /\ zH L' H1 ds1 vs1 /\ zH L' H1 ds2 vs2 /\ H f = none /\ zJt X pr bd sc H1 f c /\ vs = vs1 ++ .ref f :: vs2) I
      ⟨L,σ,M,ds1,M1,ds2,M2,k0,rs,e1,e2,fun L' H' vs1 f c vs2 a1 a2 a3 a4 a5 a6=>⟨L',vs1,f,c,vs2,a1,a2,a3,a4,a5,a6,rfl⟩⟩) fun us s1 ⟨vs,H1,I1,rv,L1,vs1,f,c,vs2,s1',k1,r1,r2,hfn0,V,ev⟩=>⟨I1.kIn,?_⟩) he hpl
     subst ev;obtain ⟨cvs,rc,lc,hcv⟩:=zK3 (rs.stp s1') e3;have V':=V;obtain ⟨cf,qual,cl,pm,ctv,hfe,_⟩:=V';refine zPa (F:=fun base' la=>F base' ⟨f,c,cvs⟩ la) hfn hr hb I1 V (by rw [lc,hi]) (fun i y v q1 q2=>?_) rv ?_
     ·obtain ⟨j,z1,z2⟩:=hcv i v q2;obtain ⟨z3,z4,z5⟩:=hcap i y j q1 z1;exact ⟨j,z3,z2,z4,z5⟩
     ·refine ⟨L1,ds1 ++ .fn ⟨f,c,cvs⟩ cs :: ds2,M2,r.1,r.2,k1.drp hfe,zJ4 (l:=⟨f,c,cvs⟩) (r1.drp hfe) (r2.drp hfe) (cf.drp hfe) (rc.drp hfe),?_,hc _,fun L2 H2 v s2 k2 r3=>?_⟩
      ·rw [zUK,zUb]; exact hl σ M ds1 M1 ds2 M2 e1 e2
      ·exact q L2 H2 v ((s1'.drp hfe hfn0).trans s2) k2 r3
    ·cases hf
   ·cases hf
  ·cases hf
 ·cases hf
noncomputable def zEQ (i:Nat) (l:Lm) (g:List D -> FF) (fa:FA):FE:=fun σ M=>match σ[i]? with
 | some (some (.fn l' cs))=>open Classical in if l' = l then match fa σ M with
   | some (ds,M1)=>match g cs ds M1 with
    | some (d,M2)=>some (.dat d,M2)
    | none=>none
   | none=>none
  else none
 | _=>none
theorem zPJ {i k n:Nat} {l:Lm} {g:List D -> FF} {fa:FA} (F:LamOk X.prog X.w X.K X.mg X.base k l n g) (hr:Room k X.A) (hN:X.N[i]? = some x) (ha:QA X (e :: es) fa) (hl:zJb fa n)
  (hv:Vis X.env.scope x:=by first | exact Or.inl rfl | exact Or.inr (Or.inl rfl) | exact Or.inr (Or.inr rfl)) (hdb:(x == ("__debug__" : Str)) = false:=by decide) (hcd:(x == ("__classdict__" : Str)) = false:=by decide)
  (he:starEach (e :: es) X.env = (false,eval e X.env) :: starEach es X.env:=by rfl) (hpl:(backTo pos (starEach es X.env)).any (·.1) = false:=by rfl) :
  QE X (.Call (.Name x p) (e :: es) [] pos) (zEQ i l g fa):=.mk <| by
 intro zB s τ H Q I ⟨L,σ,M,d,M',k0,rs,hf,q⟩;unfold zEQ at hf;split at hf
 ·rename_i l' cs e1;split at hf
  ·rename_i hl';subst hl';split at hf
   ·rename_i ds M1 e2;split at hf
    ·rename_i d' M2 e3;cases hf;obtain ⟨fd,ps,hb,⟨oc,od,fd',sl,fo⟩,FO⟩:=F.ex;obtain ⟨v,e4,r4⟩:=rs.2 i _ e1;unfold Rep at r4;obtain ⟨rfl,cf,rc⟩:=r4;refine wpAny_Call_Name_kw (thn (zN4 hN hv hdb hcd zB s τ H (fun v H'=>v = .ref l'.f /\ H' = H) I ⟨_,e4,rfl,rfl⟩) fun u s1 ⟨v,H1,I1,rv,ev,eH⟩=>?_);subst ev eH;obtain rfl:u = Value.ref l'.f:=rv;refine PySem.W.callWith_F ⟨_,_,_,_,I1.bk _ _ fo⟩ (thn (ha.un pos zB s1 τ H1 (fun vs H2=>∃ L2,Stp L H1 L2 H2 /\ Cor X.K L2 M1 H2 /\ zH L2 H2 ds vs) I1 ⟨L,σ,M,ds,M1,k0,rs,e2,fun L2 H2 vs a1 a2 a3=>⟨L2,a1,a2,a3⟩⟩) fun us s2 ⟨vs,H2,I2,rv2,L2,s2',k2,r2⟩=>⟨⟨_,_,_,_,I2.bk _ _ fo⟩,?_⟩) he hpl;have:=zNj (dvs:=[]) (E:=E0) (Q:=Q) FO hr hb .nil zQJ I2 rv2 (by
      rw [zUo];exact ⟨L2,ds,cs,M1,d',M',k2,r2,hl _ _ _ _ e2,cf.keep s2'.frz,rc.stp s2',e3,fun L3 H3 v s3 k3 r3=>q L3 H3 v (s2'.trans s3) k3 r3⟩)
     simpa using this
    ·cases hf
   ·cases hf
  ·cases hf
 ·cases hf
end
theorem zPC {P:Program} {w:World} {K:PySem.W.Frag} {mg:Str -> Option Value} {base:Heap} {qual x:Str} {st:Stmt} {f c:Addr} {fd:FuncData} {N ps:List Str} {b:FS} {n k:Nat} (F:Fun K x qual st f fd) (S:FnScope N ps (zO st)) (hn:ps.length = n) (hc:fd.code = .ref c)
  (hb:∀ (A:Around) (outer:List Env) (s:Shared) (H:Hp) (E:XK),Room k (A.deeper (envOfC qual (zO st) s.heap.objs.size f (.ref c))) -> QSs (zIv CX0 P w K mg base N qual (zO st) f (.ref c) A outer s H E).nox (zBS st) b) :
  FnOk P w K mg base CX0 (k + 1) f fd ps (spF K n (zBK N.length b)):=by
 have F':=F;obtain ⟨oc,od,kV,doc,pm,an,cdv,ct,osl,rfl,lk,hcd⟩:=F'.ex;have hc':cdv = .ref c:=hc;subst hc';refine zQY lk hcd S (fun vs H Q E h=>?_) (fun A outer s H vs Q E hr h=>⟨_,(hb A outer s H E hr).un.nox,?_⟩)
 ·obtain ⟨L,ds,M,d,M',c,r,hl,_⟩:=h;rw [r.length,hl,hn]
 ·obtain ⟨L,ds,M,d,M',c,r,hl,hf,q⟩:=h;unfold zBK at hf;split at hf
  ·rename_i d' σ' M1 e1;cases hf;exact ⟨L,_,M,_,_,_,c,zC9 r,e1,fun L1 H1 s1 c1 v r1=>q L1 H1 v s1 c1 r1⟩
  ·rename_i σ' M1 e1;cases hf;exact ⟨L,_,M,_,_,_,c,zC9 r,e1,fun L1 H1 s1 c1 τ' r1=>q L1 H1 .non s1 c1 (by unfold Rep; rfl)⟩
  ·cases hf
def zOR (ts:List Addr) (H:Hp):Prop:=(∀ b xs,H b ≠ some (.lst xs)) /\ ∀ P ∈ ts,H P = some (.tbl #[])
theorem zOw {K:PySem.W.Frag} {ts:List Addr} {H:Hp} (h:∀ x ∈ zCJ,∀ c P,PySem.W.tabIn K x = some (c,P) -> P ∈ ts) (hO:zOR ts H):zMV K H:=fun x hx c P e=>
 ⟨#[],hO.2 P (h x hx c P e),trivial,fun pos v q=>by
  have q':(none:Option Value) = some v:=q;cases q'⟩
theorem zLX {P:Program} {w:World} {K:PySem.W.Frag} {mg mb:Str -> Option Value} {k:Nat} {fa a:Addr} {fd:FuncData} {x:Str} {sp:Sp} {s₁:Shared} {vs:List Value} {ns:List Int} {ts:List Addr}
  (KX:K.In s₁.heap) (hns:s₁.heap.Ns mainGlobals mg) (hb:s₁.heap.Ns builtinsNs mb) (hbb:∀ x:Str,x ≠ "__name__" -> mb x = bootBuiltins x) (hlim:s₁.heap.NoLimit) (hbm:BMn mg s₁.heap) (hg:s₁.gens = #[])
  (ha:s₁.heap.get? a = some { cls:=.type "list", data:=.seq vs.toArray }) (hi:IntsAre vs ns) (hl:ns.length <= sizeLine) (hr:Room k callerA)
  (hnL:zEh K = true) (hnT:PySem.W.noTabs K = true) (hts:∀ P ∈ ts,s₁.heap.get? P = some (PySem.W.tabObj #[]) /\ ∃ c,PySem.W.codeHdIn K c P = true)
  (F:∀ base:Heap,K.In base -> base.Ns mainGlobals mg -> FnOk P w K mg base CX0 k fa fd [x] sp) (hbind:∀ (s:Shared) (u:Value),BindsTo s fd ⟨[u],[]⟩ [(x,u)])
  (hsp:∀ H:Hp,zOR ts H -> SqL K H a (ns.map V.int) -> sp [.ref a] H (fun v _=>v = .bl true) fun _ _ _=>False) :
  codeAny (model P w) callerA (.call (.ref fa) ⟨[.ref a],[]⟩) (fun r s'=>r = .ok (.ret (.bool true)) /\ OldK s₁.heap s'.heap /\ s'.os = s₁.os /\ AllBare s'.gens) s₁:=by
 have rv:=zGo hi;have lenV:=hi.length;have aT:a ∉ ts:=fun z=>by
  have:=(hts a z).1;rw [ha] at this; cases this
 have Ka:K.lookup a = none:=by
  cases q:K.lookup a with
  | none=>rfl
  | some o=>
   have e:=KX a o q;rw [ha] at e; cases e;exact (zGn hnL q rfl).elim
 have KT:∀ P ∈ ts,K.lookup P = none:=fun P hP=>by
  cases q:K.lookup P with
  | none=>rfl
  | some o=>
   have e:=KX P o q;rw [(hts P hP).1] at e; cases e;have h2:=zUf.mp hnT (P,_) (zGE q);exact absurd (show false = true from h2) zUQ
 generalize hH:(fun b=>if b = a then some (.frz { cls:=.type "list", data:=.seq vs.toArray } (.lst (ns.map V.int))) else if b ∈ ts then some (.tbl #[]) else none:Hp) = H;have Ha:H a = some (.frz { cls:=.type "list", data:=.seq vs.toArray } (.lst (ns.map V.int))):=by rw [<- hH]; exact zUJ rfl
 have Ht:∀ P ∈ ts,H P = some (.tbl #[]):=fun P hP=>by
  rw [<- hH];show (if P = a then _ else if P ∈ ts then _ else _) = _;have hPa:P ≠ a:=fun z=>by subst z; exact aT hP
  rw [zUM hPa,zUJ hP]
 have Hn:∀ b,b ≠ a -> b ∉ ts -> H b = none:=fun b h1 h2=>by
  rw [<- hH];show (if b = a then _ else if b ∈ ts then _ else _) = _;rw [zUM h1,zUM h2]
 have hO:zOR ts H:=by
  refine ⟨fun b xs z=>?_,Ht⟩;by_cases h1:b = a
  ·rw [h1,Ha] at z; cases z
  ·by_cases h2:b ∈ ts
   ·rw [Ht b h2] at z; cases z
   ·rw [Hn b h1 h2] at z; cases z
 have hok:HOk P w H s₁.heap:=fun b u z=>by
  by_cases h1:b = a
  ·subst h1; rw [Ha] at z; cases z;exact ⟨ha,by rw [zUD]; exact hl,vs,_,rv,ha⟩
  ·by_cases h2:b ∈ ts
   ·rw [Ht b h2] at z; cases z; exact (hts b h2).1
   ·rw [Hn b h1 h2] at z; cases z
 have base_of:∀ {b:Addr} {o:Obj},s₁.heap.get? b = some o -> H b = none -> (zGa s₁.heap H).get? b = some o:=fun e n=>zNF e n;have noA:∀ {b:Addr} {o:Obj},s₁.heap.get? b = some o -> (∀ xs n,o.data ≠ .seq xs n) -> (∀ xs,o.data ≠ .fields xs) -> H b = none:=fun {b o} e d1 d2=>by
  refine Hn b (fun z=>?_) fun z=>?_
  ·rw [z,ha] at e; cases e; exact d1 _ _ rfl
  ·rw [(hts b z).1] at e; cases e; exact d2 _ rfl
 have nsK:∀ {b:Addr} {m:Str -> Option Value},s₁.heap.Ns b m -> (zGa s₁.heap H).Ns b m:=fun {b m} ⟨o,es,ep,e,d,r⟩=>⟨o,es,ep,base_of e (noA e (fun _ _ z=>by rw [d] at z; cases z) fun _ z=>by rw [d] at z; cases z),d,r⟩;have hKb:K.In (zGa s₁.heap H):=fun b o e=>base_of (KX b o e) (Hn b (fun z=>by rw [z,Ka] at e; cases e) fun z=>by rw [KT b z] at e; cases e);have bmK:BMn mg (zGa s₁.heap H):=by
  obtain ⟨bm,ob,b1,b2,b3,b4,b5,b6⟩:=hbm;exact ⟨bm,ob,b1,b2,base_of b3 (noA b3 (fun _ _ z=>by rw [b6] at z; cases z) fun _ z=>by rw [b6] at z; cases z),b4,b5,b6⟩
 have hM:Mod K mg (zGa s₁.heap H):=⟨hKb,nsK hns,⟨mb,nsK hb,hbb⟩,let ⟨mc,h1,h2⟩:=hlim; ⟨mc,nsK h1,h2⟩,bmK⟩;have e0:Env0 P w K mg (zGa s₁.heap H) callerA [] s₁ H:=⟨rfl,hM,fun b o e=>zO6 e,Nat.le_of_eq (zMC _ _),trivial,fun b hb=>absurd (show b ∈ ([]:List Addr) from hb) (by simp),hok,.of_eq hg⟩;refine codeAny_mono ((F _ hKb (nsK hns)).run callerA [] s₁ H ⟨[.ref a],[]⟩ [.ref a] [.ref a] _ _ hr e0 (hbind s₁ (.ref a)) (.cons rfl .nil) (hsp H hO (.inl (.inr ⟨_,Ha⟩)))) fun r s' h=>?_;cases r with
 | error e=>exact False.elim h
 | ok fl=>
  cases fl with
  | next=>exact False.elim h
  | brk=>exact False.elim h
  | cont=>exact False.elim h
  | ret u=>
   obtain ⟨v,H',os,bare,un,hok',r',q⟩:=h;have q':v = .bl true:=q;subst q';obtain rfl:u = Value.bool true:=r';have tb:∀ P ∈ ts,∃ more,s'.heap.get? P = some (PySem.W.tabObj (#[] ++ more)):=fun P hP=>by
    obtain ⟨more,z⟩:=un.tbls P _ (Ht P hP);exact ⟨more,hok' P _ z⟩
   refine ⟨rfl,⟨fun b o e=>?_,fun b o e=>un.there b o e (by simp)⟩,os,bare⟩;by_cases h2:b ∈ ts
   ·obtain ⟨more,z⟩:=tb b h2;obtain ⟨e1,c,hc⟩:=hts b h2;rw [e] at e1; cases e1;exact .inr (.inl ⟨((PySem.W.codeHd_of_K KX hc).tab e).isCodeTable,rfl,#[],more,rfl,z⟩)
   ·refine .inl ?_;by_cases h1:b = a
    ·subst h1;have z2:=un.frzs b _ _ Ha;obtain ⟨e2,_⟩:=hok' b _ z2;rw [ha] at e; cases e; exact e2
    ·exact un.keep b o e (Hn b h1 h2) (by intro z; exact absurd (show b ∈ ([]:List Addr) from z) (by simp)) (by simp)
def zAG (K:PySem.W.Frag) (ts:List Addr):Prop:=(∀ P ∈ ts,∃ c,PySem.W.codeHdIn K c P = true) /\ ∀ x ∈ zCJ,∀ c P,PySem.W.tabIn K x = some (c,P) -> P ∈ ts
theorem zMv {l:PySem.W.OpenLaw} {n k:Nat} {q:Program} {loose:List Str} {XP:(Str -> Option Value) -> Heap -> Prop} {d:DefRec} {K:Params -> PySem.W.Frag} {as:List Addr} {ee:∀ P,as = (K P).map (·.1)} {ts:List Addr} {m:FF} {x:Str}
  (hn:l.most = some n) (hn2:n <= sizeLine) (hdf:d.params.defaults = []) (hr:Room k callerA)
  (hL:∀ w:World,zEh (K w.params) = true) (hT:∀ w:World,PySem.W.noTabs (K w.params) = true)
  (F:∀ (w:World) (mg:Str -> Option Value) (fa:Addr) (h:Heap),(K w.params).In h -> h.Ns mainGlobals mg -> mg d.name = some (.ref fa) ->
   zAG (K w.params) ts /\ ∃ fd:FuncData,(∀ (s:Shared) (u:Value),BindsTo s fd ⟨[u],[]⟩ [(x,u)]) /\
    ∀ base:Heap,(K w.params).In base -> base.Ns mainGlobals mg -> FnOk l.prog w (K w.params) mg base CX0 k fa fd [x] (spF (K w.params) 1 m))
  (hsp:∀ ns:List Int,ns.length <= n -> ∃ M',m [.ref 0] [.fro (ns.map D.int)] = some (.bl true,M')) :
  PySem.W.WalkO q loose XP (PySem.W.kmHook K as ee ts).says l.row.toRowW d [] (fun f vs=>PySem.call f vs):=by
 refine Att.zIJ hn hdf fun w s₀ s₁ mg mb fa o pm cd doc a vs ns G Y ho hd hcd hmg hobj hints hlen hg=>?_;have KX:=PySem.W.km_in_of Y;obtain ⟨⟨c1,c2⟩,fd,hb,hF⟩:=F w mg fa _ KX G.T.g hmg;exact zLX KX G.T.g G.T.b G.T.builtins G.T.nolimit G.T.bmain hg hobj hints (zUV hlen hn2) hr (hL w) (hT w) (fun P hP=>⟨PySem.W.km_tabs_of Y P hP,c1 P hP⟩) hF hb fun H hO hS=>zL3 (hL w) (zOw c2 hO) hO.1 hS (hsp ns hlen)
structure Tb (K:PySem.W.Frag) (x:Str) {st:Stmt} (g:Dg K x st) where
 c:Addr
 P:Addr
 {od:Option Addr}
 {sl:Array (Option Value)}
 {vs:Array Value}
 e:g.cd = .ref c
 l:K.lookup c = some ⟨.type "code", od,.fields vs,sl⟩
 v:vs[11]? = some (.ref P)
 h:PySem.W.codeHdIn [(c,⟨.type "code", od,.fields vs,sl⟩)] c P = true
section
variable {K:PySem.W.Frag} {x:Str} {st:Stmt} {g:Dg K x st}
theorem Tb.tab (t:Tb K x g):PySem.W.tabIn K x = some (t.c,t.P):=by
 have h1:=g.a;have h2:=g.l;have h3:=t.e;have h4:=t.l;have h5:=t.v;generalize g.cd = cd at h2 h3;subst h3;unfold PySem.W.tabIn;simp only [h1,h2,h4,h5]
theorem Tb.hd (t:Tb K x g):PySem.W.codeHdIn K t.c t.P = true:=by
 have h4:=t.l;have h6:=t.h;have e:List.lookup t.c [(t.c,(⟨.type "code", t.od,.fields t.vs,t.sl⟩:Obj))] = K.lookup t.c:=by rw [h4,zV9]; simp
 unfold PySem.W.codeHdIn at h6 ⊢;rw [e] at h6;exact h6
theorem zRD (h:Zn K x):PySem.W.tabIn K x = none:=by
 unfold PySem.W.tabIn;rw [h]
theorem zRI {ts:List Addr} (xs:List (Str × Addr × Addr)) (h1:∀ p ∈ xs,PySem.W.tabIn K p.1 = some (p.2.1,p.2.2) /\ PySem.W.codeHdIn K p.2.1 p.2.2 = true) (h2:∀ x ∈ zCJ,x ∉ xs.map (·.1) -> PySem.W.tabIn K x = none)
  (h3:(ts.all (fun P=>xs.any (·.2.2 == P)) && xs.all (fun p=>ts.contains p.2.2)) = true):zAG K ts:=by
 rw [zUe,zUf,zUf] at h3;refine ⟨fun P hP=>?_,fun x hx c P e=>?_⟩
 ·obtain ⟨p,hp,e⟩:=List.any_eq_true.mp (h3.1 P hP);rw [beq_iff_eq] at e;subst e;exact ⟨_,(h1 p hp).2⟩
 ·by_cases z:x ∈ xs.map (·.1)
  ·obtain ⟨p,hp,rfl⟩:=zUL.mp z;rw [(h1 p hp).1] at e;cases e;exact List.contains_iff_mem.mp (h3.2 p hp)
  ·rw [h2 x hx z] at e; cases e
theorem LamOk.mono {P:Program} {w:World} {mg:Str -> Option Value} {base:Heap} {j k n:Nat} {l:Lm} {g:List D -> FF} (h:LamOk P w K mg base j l n g) (hk:j <= k):LamOk P w K mg base k l n g :=
 let ⟨fd,ps,a,b,c⟩:=h.ex; ⟨fd,ps,a,b,c.mono hk⟩
theorem zRr {g1 g2:FA} {a b n:Nat} (h1:zJb g1 a) (h2:zJb g2 b) (h:a + (b + 1) = n):∀ σ M ds1 M1 ds2 M2,g1 σ M = some (ds1,M1) -> g2 σ M1 = some (ds2,M2) -> ds1.length + (ds2.length + 1) = n:=fun σ M ds1 M1 ds2 M2 e1 e2=>by
 rw [h1 _ _ _ _ e1,h2 _ _ _ _ e2,h]
theorem zTw {X:Cx} {sc:Scope} {y:Str} {n:Nat} (h:X.N[n]? = some y /\ X.env.scope.names.lookup y = some .cell /\ (y,NameKind.free) ∈ sc.names):∀ (i:Nat) x j,[y][i]? = some x -> [n][i]? = some j -> X.N[j]? = some x /\ X.env.scope.names.lookup x = some .cell /\ (x,NameKind.free) ∈ sc.names:=fun i x j h1 h2=>by
 cases i with
 | zero=>simp at h1 h2; subst h1; subst h2; exact h
 | succ i=>simp at h1
end
def zQZ:Expr -> Bool
 | .Lambda _ _ _ _=>true
 | _=>false
def zSU (e:Expr):Expr:=match e with
 | .Subscript (.Call _ args _ _) _ _=>(args.find? zQZ).getD e
 | .Call _ args _ _=>(args.find? zQZ).getD e
 | _=>e
def zQ6 (st:Stmt):Expr:=match zBS st with
 | [.Return (some e) _]=>zSU e
 | _=> .Constant .none 0 ⟨0,0,0,0⟩
def zTp (e:Expr):Arguments:=match e with
 | .Lambda p _ _ _=>p
 | _=>zCX (.Pass ⟨0,0,0,0⟩)
def zTf (e:Expr):Expr:=match e with
 | .Lambda _ b _ _=>b
 | _=>e
def zTc (e:Expr):Scope:=match e with
 | .Lambda _ _ s _=>s
 | _=>zO (.Pass ⟨0,0,0,0⟩)
abbrev zR1 (base:Heap) (l:Lm) (st:Stmt) (fs:List Str):Prop:=LamAt base l (zTp (zQ6 st)) (zTf (zQ6 st)) (zTc (zQ6 st)) fs
end L3
namespace Law
open PySem PySem.Spec PyProof.Rows L2 L3
theorem zAA (n:Nat):∀ c:List Int,D.unds n (c.map D.int) = true
 | []=>rfl
 | x :: r=>by
  show (D.und n (D.int x) && D.unds n (r.map D.int)) = true;rw [zAA n r]; rfl
theorem zGN {c:List Int} {x:D} {r:List D} (h:x :: r = c.map D.int):∃ y c',c = y :: c' /\ x = .int y /\ r = c'.map D.int:=by
 cases c with
 | nil=>cases h
 | cons y c'=>rw [zUN] at h; exact ⟨y,c',rfl,(zU8 h).1,(zU8 h).2⟩
theorem zt {xs:List D} {M:Mem}:zCh none xs M:=trivial
theorem zS {n:Nat} (h:n <= 100000):n <= sizeLine:=zUV h (by decide)
mutual
theorem zFz {a b:Nat} (h:a <= b):∀ {d:D},D.und a d = true -> D.und b d = true
 | .non,_=>by unfold D.und; rfl
 | .bl _,_=>by unfold D.und; rfl
 | .int _,_=>by unfold D.und; rfl
 | .str _,_=>by unfold D.und; rfl
 | .tup ds,e=>by unfold D.und at e ⊢; exact zBJ h e
 | .ref k,e=>by unfold D.und at e ⊢; simp at e ⊢; omega
 | .fn _ ds,e=>by unfold D.und at e ⊢; exact zBJ h e
theorem zBJ {a b:Nat} (h:a <= b):∀ {ds:List D},D.unds a ds = true -> D.unds b ds = true
 | [],_=>by unfold D.unds; rfl
 | d :: ds,e=>by
  unfold D.unds at e ⊢;rw [zUe] at e ⊢;exact ⟨zFz h e.1,zBJ h e.2⟩
end
theorem zLu {a b:Nat} (h:a <= b) {u:MO} (e:MO.und a u = true):MO.und b u = true:=by
 cases u with
 | lst xs=>exact zBJ h e
 | fro xs=>exact zBJ h e
 | set xs=>exact zBJ h e
 | dict kvs | dicT kvs | froT kvs | froK kvs=>
  unfold MO.und at e ⊢;rw [zUf] at e ⊢;intro p hp;have:=e p hp;rw [zUe] at this ⊢;exact ⟨zFz h this.1,zFz h this.2⟩
theorem zGB {n:Nat}:∀ {xs ys:List D},D.unds n (xs ++ ys) = (D.unds n xs && D.unds n ys)
 | [],ys=>by simp [D.unds]
 | x :: xs,ys=>by
  show (D.und n x && D.unds n (xs ++ ys)) = ((D.und n x && D.unds n xs) && D.unds n ys);rw [zGB,Bool.and_assoc]
theorem zCG {n:Nat}:∀ {xs:List D},(∀ x ∈ xs,D.und n x = true) -> D.unds n xs = true
 | [],_=>rfl
 | x :: xs,h=>by
  show (D.und n x && D.unds n xs) = true;rw [h x zUI,zCG fun y hy=>h y (zUH _ hy)]; rfl
theorem zCo {n:Nat} (c:List Int):D.und n (.tup (c.map D.int)) = true:=by unfold D.und; exact zAA n c
def zBq (i:Nat):Nat -> List D
 | 0=>[]
 | n + 1=> .int i :: zBq (i + 1) n
theorem zHz (n:Nat):∀ i,((List.range' i n).map fun (k:Nat)=>D.int k) = zBq i n:=by
 induction n with
 | zero=>intro i; rfl
 | succ n ih=>intro i; rw [List.range'_succ,zUN,ih]; rfl
theorem zMw (n:Nat):((List.range n).map fun (k:Nat)=>D.int k) = zBq 0 n:=by rw [List.range_eq_range',zHz]
theorem zAv:∀ (n i:Nat),(zBq i n).length = n
 | 0,_=>rfl
 | n + 1,i=>by show (zBq (i + 1) n).length + 1 = _; rw [zAv n]
theorem zC0 {g:FG} {b:FS} {all:List D} {P:Out -> Sd -> Mem -> Prop} (n:Nat) (I:Nat -> Sd -> Mem -> Prop)
  (hs:∀ i σ M,i < n -> I i σ M -> ∃ σ1,g (.int i) σ = some σ1 /\ OkS (b σ1 M) fun o σ2 M2=>match o with | .nx=>I (i + 1) σ2 M2 | .cnt=>I (i + 1) σ2 M2 | .brk=>P .nx σ2 M2 | .ret d=>P (.ret d) σ2 M2)
  (he:∀ σ M,I n σ M -> P .nx σ M) (σ:Sd) (M:Mem) (h0:I 0 σ M):OkS (zCf g b all none (zBq 0 n) σ M) P:=by
 refine zA5 (I:=fun r σ M=>∃ i,i <= n /\ r = zBq i (n - i) /\ I i σ M) ?_ ?_ _ _ _ ⟨0,zUq _,by simp,h0⟩
 ·rintro x r σ M ⟨i,hi,e,hI⟩;have hlt:i < n:=by
   rcases Nat.lt_or_ge i n with z | z
   ·exact z
   ·rw [show n - i = 0 by omega] at e; cases e
  rw [show n - i = (n - (i + 1)) + 1 by omega] at e;obtain ⟨rfl,rfl⟩:=zU8 e;obtain ⟨σ1,e1,q⟩:=hs i σ M hlt hI;refine ⟨zt,σ1,e1,OkS.mono q ?_⟩;intro o σ2 M2 z;cases o with
  | nx=>exact ⟨i + 1,hlt,rfl,z⟩
  | cnt=>exact ⟨i + 1,hlt,rfl,z⟩
  | brk=>exact z
  | ret d=>exact z
 ·rintro σ M ⟨i,hi,e,hI⟩;have:i = n:=by
   rcases Nat.lt_or_ge i n with z | z
   ·rw [show n - i = (n - (i + 1)) + 1 by omega] at e; cases e
   ·omega
  subst this;exact ⟨zt,he σ M hI⟩
theorem zJ3 {g:FG} {te:FE} {all:List D} {σ:Sd} (n:Nat) (I:Nat -> List D -> Mem -> Prop)
  (hs:∀ i acc M,i < n -> I i acc M -> ∃ σ1,g (.int i) σ = some σ1 /\ Ok (te σ1 M) (zHr fun d M2=>I (i + 1) (acc ++ [d]) M2)) {M:Mem} (h0:I 0 [] M) :
  Ok (zBu g zAe te σ all none (zBq 0 n) M) fun ys M1=>I n ys M1:=by
 refine Ok.mono (zCC (I:=fun r acc M=>∃ i,i <= n /\ r = zBq i (n - i) /\ I i acc M) (Q:=fun acc M=>I n acc M) ?_ ?_ _ [] _ ⟨0,zUq _,by simp,h0⟩) fun ys M1 q=>by simpa using q
 ·rintro x r acc M ⟨i,hi,e,hI⟩;have hlt:i < n:=by
   rcases Nat.lt_or_ge i n with z | z
   ·exact z
   ·rw [show n - i = 0 by omega] at e; cases e
  rw [show n - i = (n - (i + 1)) + 1 by omega] at e;obtain ⟨rfl,rfl⟩:=zU8 e;obtain ⟨σ1,e1,q⟩:=hs i acc M hlt hI;refine ⟨zt,σ1,e1,zFv.mpr ?_⟩;rw [zUJ rfl];refine Ok.mono q ?_;intro x M2 z;cases x with
  | dat d=>exact ⟨i + 1,hlt,rfl,z⟩
  | fl xs=>exact ⟨i + 1,hlt,rfl,z⟩
 ·rintro acc M ⟨i,hi,e,hI⟩;have:i = n:=by
   rcases Nat.lt_or_ge i n with z | z
   ·rw [show n - i = (n - (i + 1)) + 1 by omega] at e; cases e
   ·omega
  subst this;exact ⟨zt,hI⟩
theorem zAV {σ:Sd} {M:Mem} {f:FE} {j:Int} (e:f σ M = some (.dat (.int j),M)) (h1:0 <= j) (h2:j < 2 ^ 62):zAD (zD (toD f) zJ) σ M = some (zBq 0 j.toNat,none,M):=by
 have e':(zD (toD f) zJ) σ M = some ([.int j],M):=by unfold zD toD zJ; rw [e]
 rw [zJm e' h1 h2,zMw]
def mD (zA:List (List Int)):D:=.tup (zA.map fun r=> .tup (r.map D.int))
structure IsM (zA:List (List Int)) (l:Nat):Prop where
 r0:0 < zA.length
 l0:0 < l
 row:∀ r ∈ zA,r.length = l /\ ∀ g ∈ r,0 <= g /\ g < zA.length
theorem zDW {n:Nat} (zA:List (List Int)):D.und n (mD zA) = true:=by
 unfold mD D.und;refine zCG fun x hx=>?_;obtain ⟨r,_,rfl⟩:=zUL.mp hx;exact zCo r
theorem zM {α:Type} {x:Option (α × Mem)} {a:α} {M:Mem} (h:Ok x fun b M'=>b = a /\ M' = M):x = some (a,M):=by
 obtain ⟨b,M',e,rfl,rfl⟩:=h; exact e
theorem zE {α:Type} {x:Option (α × Mem)} {a:α} {M:Mem} {P:α -> Mem -> Prop} (h:x = some (a,M)) (p:P a M):Ok x P:=⟨a,M,h,p⟩
theorem zEC {c:FT} {a g:FS} {σ:Sd} {M:Mem} {P:Out -> Sd -> Mem -> Prop} (hc:c σ M = some (false,M)) (h:OkS (g σ M) P):OkS (zL (sIf c a zAc) g σ M) P:=by
 rw [zK,zAF];refine zE hc ?_;rw [zUM (by decide),zm];exact h
theorem zNi {c:FT} {a:FS} {σ:Sd} {M:Mem} {P:Out -> Sd -> Mem -> Prop} (hc:c σ M = some (false,M)) (h:P .nx σ M):OkS (sIf c a zAc σ M) P:=by
 rw [zAF];refine zE hc ?_;rw [zUM (by decide),zm];exact h
theorem zh {f:FE} {σ:Sd} {M:Mem} {d:D} (h:f σ M = some (.dat d,M)):zD (toD f) zJ σ M = some ([d],M):=by
 unfold zD toD zJ; rw [h]
theorem zi {f:FE} {g:FA} {σ:Sd} {M:Mem} {d:D} {ds:List D} (h:f σ M = some (.dat d,M)) (hg:g σ M = some (ds,M)):zD (toD f) g σ M = some (d :: ds,M):=by
 unfold zD toD; rw [h]; dsimp only; rw [hg]
theorem zBA {m:FF} {a:FA} {σ:Sd} {M M':Mem} {ds:List D} {d:D} (h:a σ M = some (ds,M)) (hm:m ds M = some (d,M')):zW m a σ M = some (.dat d,M'):=by
 unfold zW; rw [h]; dsimp only; rw [hm]
theorem zI {k:K2} {f g:FE} {σ:Sd} {M:Mem} {x y:EV} {r:Option (EV × Mem)} (hf:f σ M = some (x,M)) (hg:g σ M = some (y,M)) (hk:k x y M = r):fOp k f g σ M = r:=by
 unfold fOp; rw [hf]; dsimp only; rw [hg]; exact hk
theorem zBn {x:EV} {xs:List D} {i:Int} {d:D} {M:Mem} (h:zAa M x = some xs) (hd:atI xs i = some d):kIx x (.dat (.int i)) M = some (.dat d,M):=zM (zTU h hd ⟨rfl,rfl⟩)
theorem zBH {f:FE} {x:EV} {xs:List D} {σ:Sd} {M:Mem} (hf:f σ M = some (x,M)) (h:zAa M x = some xs):fB zp (zG f zQ) σ M = some (.dat (.int xs.length),M):=by
 unfold fB zG zQ; rw [hf]; exact zM ((zTF h).mpr ⟨rfl,rfl⟩)
def zAS (zA:List (List Int)) (h g:Int):Int:=(zA.getD h.toNat []).getD g.toNat 0
theorem zHH {zA:List (List Int)} {h:Int} (h0:0 <= h) (h1:h < zA.length):atI (zA.map fun r=>D.tup (r.map D.int)) h = some (.tup ((zA.getD h.toNat []).map D.int)):=by
 refine zFy h0 ?_;rw [zUR,zT9,zT8 (by omega)];rfl
theorem zQ2 {r:List Int} {g:Int} (h0:0 <= g) (h1:g < r.length):atI (r.map D.int) g = some (.int (r.getD g.toNat 0)):=by
 refine zFy h0 ?_;rw [zUR,zT9,zT8 (by omega)];rfl
theorem IsM.get {zA:List (List Int)} {l:Nat} (m:IsM zA l) {h:Int} (h0:0 <= h) (h1:h < zA.length):(zA.getD h.toNat []).length = l /\ ∀ g ∈ zA.getD h.toNat [],0 <= g /\ g < zA.length:=by
 refine m.row _ ?_;rw [zT9,zT8 (by omega)];exact zUc _
theorem IsM.step {zA:List (List Int)} {l:Nat} (m:IsM zA l) {h g:Int} (h0:0 <= h) (h1:h < zA.length) (g0:0 <= g) (g1:g < l):0 <= zAS zA h g /\ zAS zA h g < zA.length:=by
 obtain ⟨q1,q2⟩:=m.get h0 h1;refine q2 _ ?_;unfold zAS;rw [zT9 (l:=zA.getD h.toNat []),zT8 (by omega)];exact zUc _
theorem IsM.ix {zA:List (List Int)} {l:Nat} (m:IsM zA l) {h g:Int} (h0:0 <= h) (h1:h < zA.length) (g0:0 <= g) (g1:g < l) {f1 f2 f3:FE} {σ:Sd} {M:Mem} (e1:f1 σ M = some (.dat (mD zA),M)) (e2:f2 σ M = some (.dat (.int h),M)) (e3:f3 σ M = some (.dat (.int g),M)) :
  fOp kIx (fOp kIx f1 f2) f3 σ M = some (.dat (.int (zAS zA h g)),M):=by
 obtain ⟨q1,_⟩:=m.get h0 h1;exact zI (zI e1 e2 (zBn zAJ (zHH h0 h1))) e3 (zBn zAJ (zQ2 g0 (by omega)))
theorem zKZ {f:FE} {x:EV} {σ:Sd} {M:Mem} {T t:String} (hf:f σ M = some (x,M)) (ht:zJU M x = some t):zEj T f σ M = some (.dat (.bl (isT t T)),M):=by
 unfold zEj; rw [hf]; dsimp only; rw [ht]
theorem zAI {f:FE} {σ:Sd} {M M':Mem} {k:Bool} (h:f σ M = some (.dat (.bl k),M')):tst f σ M = some (k,M'):=by unfold tst; rw [h]
theorem isV {f:FE} {x:EV} {σ:Sd} {M:Mem} {T t:String} {k:Bool} (hf:f σ M = some (x,M)) (ht:zJU M x = some t) (h:isT t T = k):zEj T f σ M = some (.dat (.bl k),M):=by
 rw [zKZ hf ht,h]
theorem isF {f:FE} {x:EV} {σ:Sd} {M:Mem} {T t:String} (hf:f σ M = some (x,M)) (ht:zJU M x = some t) (h:isT t T = false):tst (zEj T f) σ M = some (false,M):=by
 rw [zAI (zKZ hf ht),h]
theorem zQs {f:FE} {x:EV} {σ:Sd} {M:Mem} {T t:String} (hf:f σ M = some (x,M)) (ht:zJU M x = some t) (h:isT t T = true):tst (zEj T f) σ M = some (true,M):=by
 rw [zAI (zKZ hf ht),h]
theorem zKt {c:FT} {a b g:FS} {σ:Sd} {M:Mem} {P:Out -> Sd -> Mem -> Prop} (hc:c σ M = some (true,M)) (h:OkS (a σ M) (nxP (fun σ1 M1=>OkS (g σ1 M1) P) P)):OkS (zL (sIf c a b) g σ M) P:=by
 rw [zK,zAF];refine zE hc ?_;rw [zUJ rfl];exact h
theorem zj {f:FE} {σ:Sd} {M:Mem} {d:D} {P:Out -> Sd -> Mem -> Prop} (hf:f σ M = some (.dat d,M)) (h:P (.ret d) σ M):OkS (zAO f σ M) P:=by
 rw [zH7]; exact zE hf h
theorem zIA {d:D} {M:Mem} (h:(zG7 d).isSome = true):kEq (.dat d) (.dat d) M = some (.dat (.bl true),M):=by
 cases d with
 | tup _=>cases h
 | ref _=>cases h
 | fn _ _=>cases h
 | non=>rfl
 | bl k=>cases k <;> rfl
 | int i=>show some (EV.dat (.bl (decide (V.int i = V.int i))),M) = _; simp
 | str x=>show some (EV.dat (.bl (decide (V.str x = V.str x))),M) = _; simp
theorem zEe {f g:FE} {σ:Sd} {M:Mem} (hf:f σ M = some (.dat (.bl true),M)) (hg:g σ M = some (.dat (.bl true),M)):zE4 f g σ M = some (.dat (.bl true),M):=by
 unfold zE4; rw [hf]; exact hg
theorem zJc {f:FE} {σ:Sd} {M:Mem} (hf:f σ M = some (.dat (.bl false),M)):zNe f σ M = some (.dat (.bl true),M):=by
 unfold zNe; rw [hf]; rfl
theorem zED {α:Type} {own:List Nat} {fi:FI} {g:FG} {te:FE} {σ:Sd} {M:Mem} {gd:Option (Mem -> Prop)} (as:List α) (enc out:α -> D) (hi:fi σ M = some (as.map enc,gd,M)) (hgd:zCh gd (as.map enc) M) (hz:as.length <= 100000)
  (he:∀ a ∈ as,∃ σ1,g (enc a) (zE3 own σ) = some σ1 /\ te σ1 M = some (.dat (out a),M)):zAK own fi g zAe te σ M = some (.fl (as.map out),M):=by
 refine zM (zDD.mpr ⟨_,_,_,hi,by rw [zUD]; exact zS hz,?_⟩);refine Ok.mono (zCC (I:=fun r acc M'=>M' = M /\ ∃ ra rb:List α,as = rb ++ ra /\ r = ra.map enc /\ acc = rb.map out) (Q:=fun acc M'=>M' = M /\ acc = as.map out) ?_ ?_ _ [] _ ⟨rfl,as,[],rfl,rfl,rfl⟩) ?_
 ·rintro x r acc M' ⟨rfl,ra,rb,hab,hr,rfl⟩;cases ra with
  | nil=>cases hr
  | cons a ra=>
   rw [zUN] at hr;obtain ⟨rfl,rfl⟩:=zU8 hr;obtain ⟨σ1,e1,e2⟩:=he a (by rw [hab]; simp);refine ⟨hgd,σ1,e1,zFv.mpr ?_⟩;rw [zUJ rfl];refine zE e2 ?_;rw [zR];exact ⟨rfl,ra,rb ++ [a],by rw [hab]; simp,rfl,by simp⟩
 ·rintro acc M' ⟨rfl,ra,rb,hab,hr,rfl⟩;cases ra with
  | nil=>rw [zUo] at hab; subst hab; exact ⟨hgd,rfl,rfl⟩
  | cons a ra=>cases hr
 ·rintro ys M' ⟨rfl,h⟩;rw [zWM] at h;subst h;exact ⟨rfl,rfl⟩
theorem zAd {f:FE} {x:EV} {xs:List D} {σ:Sd} {M:Mem} (hf:f σ M = some (x,M)) (h:zAa M x = some xs):fB zX (zG f zQ) σ M = some (.dat (.tup xs),M):=by
 unfold fB zG zQ; rw [hf]; exact zM ((zPb h).mpr ⟨rfl,rfl⟩)
theorem zP4 {f:FE} {xs:List D} {σ:Sd} {M:Mem} (hf:f σ M = some (.dat (.tup xs),M)):zBd f σ M = some (xs,none,M):=zCQ hf zAJ
theorem zBE {i:Nat} {f:FE} {g:FS} {σ:Sd} {M:Mem} {d:D} {P:Out -> Sd -> Mem -> Prop} (hf:f σ M = some (.dat d,M)) (h:OkS (g (σ.set i (some d)) M) P):OkS (zL (zk i f) g σ M) P:=by
 rw [zK,zb]; exact zE hf h
open ST
def ris (xs:List Int):List Int:=zA1 (zAm xs)
theorem zH6 (xs:List Int) (x:Int):x ∈ ris xs ↔ x ∈ xs:=by
 unfold ris; rw [(zAz _).mem_iff,zKO]
theorem zOo (xs:List Int):(ris xs).Pairwise (· < ·):=by
 have h1:=zDp (zAm xs);have h2:(ris xs).Nodup:=(zAz _).nodup_iff.mpr (zH1 xs);unfold ris at h2 ⊢;exact (h1.and h2).imp fun {a b} h=>by have:=h.1; have:=h.2; omega
theorem zG5:∀ {xs ys:List Int},xs.Pairwise (· < ·) -> ys.Pairwise (· < ·) -> (∀ x,x ∈ xs ↔ x ∈ ys) -> xs = ys
 | [],[],_,_,_=>rfl
 | [],y :: ys,_,_,h=>by have:=(h y).mpr zUI; cases this
 | x :: xs,[],_,_,h=>by have:=(h x).mp zUI; cases this
 | x :: xs,y :: ys,h1,h2,h=>by
  have hx:=zWE.mp h1;have hy:=zWE.mp h2;have e:x = y:=by
   have a:=(h x).mp zUI;have b:=(h y).mpr zUI;rcases zUG.mp a with z | z
   ·exact z
   ·rcases zUG.mp b with q | q
    ·exact q.symm
    ·have:=hx.1 y q; have:=hy.1 x z; omega
  subst e;rw [zG5 hx.2 hy.2 fun z=>?_];constructor
  ·intro hz;rcases zUG.mp ((h z).mp (zUH _ hz)) with q | q
   ·subst q; have:=hx.1 _ hz; omega
   ·exact q
  ·intro hz;rcases zUG.mp ((h z).mpr (zUH _ hz)) with q | q
   ·subst q; have:=hy.1 _ hz; omega
   ·exact q
theorem zQ3 {xs:List Int} (h:0 < xs.length):0 < (ris xs).length:=by
 cases xs with
 | nil=>cases h
 | cons x r=>exact List.length_pos_of_mem ((zH6 (x :: r) x).mpr zUI)
theorem zPj {own:List Nat} {fi:FI} {g:FG} {tc:FT} {te:FE} {σ:Sd} {M:Mem} {ks:List Int} (h:zAK own fi g tc te σ M = some (.fl (ks.map D.int),M)) (hz:ks.length <= 4000):zGz own fi g tc te σ M = some (zAm ks,M):=by
 unfold zGz; rw [h]; dsimp only; rw [zAx]; dsimp only; rw [zUJ (by unfold scanBound; omega)]
theorem zM8 {fz:FZ} {σ:Sd} {M:Mem} {ks:List Int} (h:fz σ M = some (zAm ks,M)) (hz:(zAm ks).length < 64):zGD fz σ M = some (.fl ((ris ks).map D.int),M):=by
 unfold zGD; rw [h]; dsimp only; rw [zUJ hz]; rfl
noncomputable def zEk:FS:=(zAO (fB zX (zG (zGD (zGz [3] (zBd (zC 1)) (gN 3) zAe (fOp kIx (fOp kIx (zC 0) (zC 3)) (zC 2)))) zQ)))
noncomputable def zBk:FF:=zCg (zBK 4 zEk)
def setR (zA:List (List Int)) (S:List Int) (g:Int):List Int:=ris (S.map fun h=>zAS zA h g)
structure IsS (zA:List (List Int)) (S:List Int):Prop where
 pw:S.Pairwise (· < ·)
 n0:0 < S.length
 mem:∀ x ∈ S,0 <= x /\ x < (zA.length:Int)
theorem zNl:∀ {S:List Int} {a:Int} {n:Nat},S.Pairwise (· < ·) -> (∀ x ∈ S,a <= x /\ x < a + (n:Int)) -> S.length <= n
 | [],_,_,_,_=>zUq _
 | x :: S,a,n,h,hm=>by
  have hx:=zWE.mp h;obtain ⟨m0,m1⟩:=hm x zUI;have hn:0 < n:=by omega
  have:=zNl (S:=S) (a:=x + 1) (n:=(a + n - (x + 1)).toNat) hx.2 fun y hy=>by
   have:=hx.1 y hy;have:=(hm y (zUH _ hy)).2;omega
  simp only [zUb]; omega
theorem IsS.len {zA:List (List Int)} {S:List Int} (h:IsS zA S):S.length <= zA.length:=zNl h.pw (a:=0) fun x hx=>by have:=h.mem x hx; omega
theorem IsM.setR {zA:List (List Int)} {l:Nat} (m:IsM zA l) {S:List Int} (s:IsS zA S) {g:Int} (g0:0 <= g) (g1:g < l):IsS zA (setR zA S g):=by
 refine ⟨zOo _,zQ3 (by rw [zUD]; exact s.n0),fun x hx=>?_⟩;obtain ⟨y,hy,rfl⟩:=zUL.mp ((zH6 _ _).mp hx);obtain ⟨y0,y1⟩:=s.mem y hy;exact m.step y0 y1 g0 g1
def tI (xs:List Int):D:=.tup (xs.map D.int)
theorem zO5 {zA:List (List Int)} {l:Nat} (m:IsM zA l) (hR:zA.length < 64) {S:List Int} (s:IsS zA S) {g:Int} (g0:0 <= g) (g1:g < l) {M:Mem}:zBk [mD zA,tI S,.int g] M = some (tI (setR zA S g),M):=by
 refine zM ?_;unfold zBk;refine zB6 (by unfold D.unds D.unds D.unds D.unds; rw [zDW]; simp [tI,zCo,D.und,zAA]) ?_;rw [zAT];unfold zEk;have hl:=s.len;have hz:(zAm (S.map fun h=>zAS zA h g)).length < 64:=by have:=zFQ (S.map fun h=>zAS zA h g); rw [zUD] at this; omega
 refine zj (d:=tI (setR zA S g)) ?_ ⟨by unfold tI; exact zCo _,rfl,rfl⟩;refine zAd (zM8 (ks:=S.map fun h=>zAS zA h g) (zPj ?_ (by rw [zUD]; omega)) hz) zDe;refine (zED S D.int (fun h=> .int (zAS zA h g)) (zP4 rfl) trivial (by omega) fun h hh=>⟨_,rfl,?_⟩).trans ?_
 ·obtain ⟨h0,h1⟩:=s.mem h hh;exact m.ix h0 h1 g0 g1 rfl rfl rfl
 ·rw [zUS]; rfl
theorem zMz {α:Type} (xs:List α) (x:α):atI (xs ++ [x]) (-1) = some x:=by
 unfold atI ixN;rw [zUM (by decide),zUJ (by simp; omega)];have:((-1:Int) + ((xs ++ [x]).length:Int)).toNat = xs.length:=by simp; omega
 simp only [Option.bind_some];rw [this]; simp
end Law
namespace Law
open PySem PySem.Spec PyProof.Rows L2 L3 ST
end Law
namespace Law
open PySem PySem.Spec PyProof.Rows L2 L3
theorem zO0 {f g:FE} {σ:Sd} {M:Mem} {a b:Bool} (hf:f σ M = some (.dat (.bl a),M)) (hg:a = true -> g σ M = some (.dat (.bl b),M)):zE4 f g σ M = some (.dat (.bl (a && b)),M):=by
 unfold zE4; rw [hf];cases a with
 | true=>exact hg rfl
 | false=>rfl
open ST
end Law
namespace Law
open PySem PySem.Spec PyProof.Rows L2 L3 ST
abbrev gL (k:Nat) (s:Int):MO:=.lst [.ref k,.int s]
end Law
namespace Lac
open PySem PySem.Spec PyProof.Rows L2 L3 ST Law
end Lac
namespace Lac
open PySem PySem.Spec PyProof.Rows L2 L3 ST Law
def zHa (g:List Int):List Key:=g.map Sum.inl
theorem zIB:∀ {a b:List Int},zHa a = zHa b -> a = b
 | [],[],_=>rfl
 | [],_ :: _,h=>by cases h
 | _ :: _,[],h=>by cases h
 | x :: a,y :: b,h=>by
  have h1:=(zU8 h).1;have h2:=zIB (zU8 h).2;cases h1; rw [h2]
theorem zFN:∀ g:List Int,zCD (g.map D.int) = some (zHa g)
 | []=>rfl
 | x :: r=>by
  rw [zUN];unfold zCD;rw [zFN r];rfl
theorem zGH (g:List Int):tkD (tI g) = some (zHa g):=zFN g
abbrev zDm (T:List (List Int × D)):List (D × D):=T.map fun q=>(tI q.1,q.2)
abbrev dT (T:List (List Int × D)):MO:=.dicT (zDm T)
def zBD:List (List Int × D) -> List Int -> Option D
 | [],_=>none
 | q :: r,g=>if q.1 = g then some q.2 else zBD r g
def zFa (T:List (List Int × D)) (g:List Int) (v:D):List (List Int × D):=match zBD T g with
 | some _=>T.map fun q=>if q.1 = g then (q.1,v) else q
 | none=>T ++ [(g,v)]
theorem zHS (a g:List Int):decide (tkD (tI a) = some (zHa g)) = decide (a = g):=by
 rw [zGH];by_cases h:a = g
 ·subst h; simp
 ·rw [zUd h,zUd];intro e;exact h (zIB (zU4 e))
theorem zNY (g:List Int):∀ T:List (List Int × D),zCi tkD (zDm T) (zHa g) = zBD T g
 | []=>rfl
 | q :: r=>by
  have ih:=zNY g r;unfold zCi at ih ⊢;unfold zDm at ih ⊢;rw [zUN,zVq];dsimp only;rw [zHS];unfold zBD;by_cases h:q.1 = g
  ·rw [zVC h,zUJ h]; rfl
  ·rw [zUd h,zUM h]; exact ih
theorem zQP (g:List Int):∀ T:List (List Int × D),((zDm T).any fun p=>decide (tkD p.1 = some (zHa g))) = (zBD T g).isSome
 | []=>rfl
 | q :: r=>by
  have ih:=zQP g r;unfold zDm at ih ⊢;rw [zUN,List.any_cons,zHS];unfold zBD;by_cases h:q.1 = g
  ·rw [zVC h,zUJ h]; rfl
  ·rw [zUd h,zUM h,Bool.false_or]; exact ih
theorem zSF (T:List (List Int × D)) (g:List Int) (v:D):zIa tkD (zDm T) (zHa g) (tI g) v = zDm (zFa T g v):=by
 unfold zIa zFa;rw [zQP];cases h:zBD T g with
 | none=>
  rw [zUM (by simp)];unfold zDm; rw [zUw]; rfl
 | some d=>
  rw [zUJ (by simp)];unfold zDm;dsimp only;rw [zUS,zUS];apply List.map_congr_left;intro q _;show (if tkD (tI q.1) = some (zHa g) then (tI q.1,v) else (tI q.1,q.2)) = (tI (if q.1 = g then (q.1,v) else q).1,(if q.1 = g then (q.1,v) else q).2);have hd:=zHS q.1 g;by_cases hq:q.1 = g
  ·rw [zVC hq] at hd;rw [zUJ (zU0 hd),zUJ hq]
  ·rw [zUd hq] at hd;rw [zUM (of_decide_eq_false hd),zUM hq]
section
variable {M:Mem} {n:Nat} {T:List (List Int × D)} {g:List Int}
theorem dgT (h:M[n]? = some (dT T)):zF7 M (.dat (.ref n)) (tI g) = some (zBD T g):=by
 unfold zF7; dsimp only; rw [h]; dsimp only; rw [zGH]; dsimp only; rw [zNY]
theorem zJg {neg:Bool} (h:M[n]? = some (dT T)):zEG neg (.dat (tI g)) (.dat (.ref n)) M = some (.dat (.bl (if neg then !(zBD T g).isSome else (zBD T g).isSome)),M):=by
 unfold zEG; dsimp only; rw [dgT h]
theorem zEL {v:D} (h:M[n]? = some (dT T)) (hz:T.length < 90000):zCr M n (tI g) v = some (M.set n (dT (zFa T g v))):=by
 unfold zCr; rw [h]; dsimp only; rw [zGH]; dsimp only; rw [zUJ (by rw [zUD]; exact zUT hz (zS (by omega))),zSF]
end
end Lac
namespace Lae
open PySem PySem.Spec PyProof.Rows L2 L3 ST Law
abbrev Lvl:=List (List Int × List Int)
def zAf (zA:List (List Int)) (S w:List Int) (p:List (List Int) × Lvl) (g:Int):List (List Int) × Lvl :=
 if setR zA S g ∈ p.1 then p else (p.1 ++ [setR zA S g],p.2 ++ [(setR zA S g,w ++ [g])])
def zCa (l:Nat):List Int:=(List.range l).map fun (g:Nat)=>(g:Int)
def zAy (zA:List (List Int)) (l:Nat) (p:List (List Int) × Lvl) (s:List Int × List Int):List (List Int) × Lvl:=(zCa l).foldl (zAf zA s.1 s.2) p
def zAP (zA:List (List Int)) (l:Nat) (seen:List (List Int)) (level:Lvl):List (List Int) × Lvl:=level.foldl (zAy zA l) (seen,[])
def run (zA:List (List Int)) (l:Nat) (due:List Int -> Bool):Nat -> List (List Int) -> Lvl -> List (List (List Int)) -> Option (Option (List Int) × List (List (List Int)))
 | 0,_,_,_=>none
 | n + 1,seen,level,acc=>if level.isEmpty then some (none,acc) else match level.find? fun p=>due p.1 with
  | some p=>some (some p.2,acc)
  | none=>run zA l due n (zAP zA l seen level).1 (zAP zA l seen level).2 (acc ++ [level.map (·.1)])
structure Met (zA:List (List Int)) (seen:List (List Int)) (level:Lvl):Prop where
 nd:seen.Nodup
 st:∀ S ∈ seen,IsS zA S
 lv:∀ p ∈ level,IsS zA p.1
structure Gr (zA:List (List Int)) (seen:List (List Int)) (p:List (List Int) × Lvl):Prop where
 nd:p.1.Nodup
 st:∀ S ∈ p.1,IsS zA S
 eq:p.1 = seen ++ p.2.map (·.1)
theorem Gr.lv {zA:List (List Int)} {seen:List (List Int)} {p:List (List Int) × Lvl} (h:Gr zA seen p):∀ s ∈ p.2,IsS zA s.1:=fun s hs=>h.st _ (by rw [h.eq]; exact zUO _ (zUL.mpr ⟨s,hs,rfl⟩))
theorem zFA {zA:List (List Int)} {l:Nat} (m:IsM zA l) {seen:List (List Int)} {p:List (List Int) × Lvl} (h:Gr zA seen p) {S w:List Int} (s:IsS zA S) {g:Int} (g0:0 <= g) (g1:g < l):Gr zA seen (zAf zA S w p g):=by
 unfold zAf;split
 ·exact h
 ·rename_i hn;refine ⟨?_,fun T hT=>?_,by rw [h.eq]; simp⟩
  ·rw [zVI];exact ⟨h.nd,by simp,fun a ha b hb z=>hn (by rw [<- (show b = setR zA S g by simpa using hb),<- z]; exact ha)⟩
  ·rcases zUU.mp hT with z | z
   ·exact h.st T z
   ·have:T = setR zA S g:=by simpa using z
    rw [this]; exact m.setR s g0 g1
theorem zOD {l:Nat} {g:Int} (h:g ∈ zCa l):0 <= g /\ g < l:=by
 obtain ⟨i,hi,rfl⟩:=zUL.mp h;have:=List.mem_range.mp hi;omega
theorem zLG {zA:List (List Int)} {l:Nat} (m:IsM zA l) {seen:List (List Int)} {S w:List Int} (s:IsS zA S):∀ (gs:List Int) {p:List (List Int) × Lvl},(∀ g ∈ gs,0 <= g /\ g < (l:Int)) -> Gr zA seen p -> Gr zA seen (gs.foldl (zAf zA S w) p)
 | [],_,_,h=>h
 | g :: r,p,hg,h=>zLG m s r (fun x hx=>hg x (zUH _ hx)) (zFA m h s (hg g zUI).1 (hg g zUI).2)
theorem zLC {zA:List (List Int)} {l:Nat} (m:IsM zA l) {seen:List (List Int)} {p:List (List Int) × Lvl} (h:Gr zA seen p) {s:List Int × List Int} (hs:IsS zA s.1):Gr zA seen (zAy zA l p s):=zLG m hs _ (fun g hg=>zOD hg) h
theorem zE8 {zA:List (List Int)} {l:Nat} (m:IsM zA l) {seen:List (List Int)}:∀ {level:Lvl} {p:List (List Int) × Lvl},(∀ s ∈ level,IsS zA s.1) -> Gr zA seen p -> Gr zA seen (level.foldl (zAy zA l) p)
 | [],_,_,h=>h
 | s :: r,p,hs,h=>zE8 m (level:=r) (fun x hx=>hs x (zUH _ hx)) (zLC m h (hs s zUI))
theorem Met.next {zA:List (List Int)} {l:Nat} (m:IsM zA l) {seen:List (List Int)} {level:Lvl} (h:Met zA seen level):Gr zA seen (zAP zA l seen level):=zE8 m h.lv ⟨h.nd,h.st,by simp⟩
theorem Gr.met {zA:List (List Int)} {seen:List (List Int)} {p:List (List Int) × Lvl} (h:Gr zA seen p):Met zA p.1 p.2:=⟨h.nd,h.st,h.lv⟩
def zI8:Nat -> List (List Int)
 | 0=>[[]]
 | n + 1=>zI8 n ++ (zI8 n).map (· ++ [(n:Int)])
theorem zJE:∀ n,(zI8 n).length = 2 ^ n
 | 0=>rfl
 | n + 1=>by unfold zI8; rw [zUK,zUD,zJE n,Nat.pow_succ]; omega
theorem zFh:∀ (n:Nat) (S:List Int),S.Pairwise (· < ·) -> (∀ x ∈ S,0 <= x /\ x < (n:Int)) -> S ∈ zI8 n
 | 0,S,_,h=>by
  cases S with
  | nil=>unfold zI8; simp
  | cons x r=>have:=h x zUI; omega
 | n + 1,S,hp,h=>by
  unfold zI8;rw [zUU];by_cases hn:(n:Int) ∈ S
  ·right;obtain ⟨a,b,rfl⟩:=List.append_of_mem hn;rw [List.pairwise_append,zWE] at hp;have hb:b = []:=by
    cases b with
    | nil=>rfl
    | cons y b=>
     have h1:=hp.2.1.1 y zUI;have h2:=h y (by simp);omega
   subst hb;refine zUL.mpr ⟨a,zFh n a hp.1 fun x hx=>?_,rfl⟩;have h1:=hp.2.2 x hx (n:Int) zUI;have h2:=h x (zVJ _ hx);omega
  ·left;refine zFh n S hp fun x hx=>?_;have h2:=h x hx;have:x ≠ n:=fun z=>hn (z ▸ hx);omega
theorem zOB {α:Type} [DecidableEq α]:∀ {xs ys:List α},xs.Nodup -> (∀ x ∈ xs,x ∈ ys) -> xs.length <= ys.length
 | [],_,_,_=>zUq _
 | x :: r,ys,hn,h=>by
  have hn':=List.nodup_cons.mp hn;have h1:=h x zUI;have ih:=zOB (xs:=r) (ys:=ys.erase x) hn'.2 fun y hy=>by
   have:y ≠ x:=fun z=>hn'.1 (z ▸ hy);exact (List.mem_erase_of_ne this).mpr (h y (zUH _ hy))
  rw [List.length_erase_of_mem h1] at ih;have:=List.length_pos_of_mem h1;rw [zUb]; omega
theorem zBQ {zA:List (List Int)} {seen:List (List Int)} (nd:seen.Nodup) (st:∀ S ∈ seen,IsS zA S) (h9:zA.length <= 9):seen.length <= 512:=by
 have h1:seen.length <= (zI8 zA.length).length:=zOB nd fun S hS=>zFh _ S (st S hS).pw (st S hS).mem;rw [zJE] at h1;have:2 ^ zA.length <= 2 ^ 9:=Nat.pow_le_pow_right (by decide) h9;omega
theorem zIe {zA:List (List Int)} {l:Nat} (m:IsM zA l) (h9:zA.length <= 9) {due:List Int -> Bool}:∀ (n:Nat) {seen:List (List Int)} {level:Lvl} {acc:List (List (List Int))},Met zA seen level -> 514 <= n + seen.length -> ∃ r,run zA l due n seen level acc = some r
 | 0,seen,level,acc,h,hn=>by have:=zBQ h.nd h.st h9; omega
 | n + 1,seen,level,acc,h,hn=>by
  unfold run;split
  ·exact ⟨_,rfl⟩
  ·split
   ·exact ⟨_,rfl⟩
   ·have g:=h.next m;by_cases he:(zAP zA l seen level).2 = []
    ·cases n with
     | zero=>have:=zBQ h.nd h.st h9; omega
     | succ n=>
      unfold run;rw [he];exact ⟨_,rfl⟩
    ·refine zIe m h9 n g.met ?_;rw [g.eq,zUK,zUD];have:=List.length_pos_iff.mpr he;omega
theorem zNX {zA:List (List Int)} {l:Nat} {due:List Int -> Bool} (hd:∀ S,due S = false):∀ (n:Nat) {seen:List (List Int)} {level:Lvl} {acc:List (List (List Int))} {r},run zA l due n seen level acc = some r -> r.1 = none
 | 0,_,_,_,_,h=>by cases h
 | n + 1,seen,level,acc,r,h=>by
  unfold run at h;split at h
  ·cases h; rfl
  ·split at h
   ·rename_i p hp;have:=List.find?_some hp;rw [hd] at this; cases this
   ·exact zNX hd n h
theorem zFG {zA:List (List Int)} {l:Nat} {due:List Int -> Bool}:∀ (n:Nat) {seen:List (List Int)} {level:Lvl} {acc:List (List (List Int))} {r:Option (List Int) × List (List (List Int))},run zA l due n seen level acc = some r -> r.2.length <= acc.length + n
 | 0,_,_,_,_,h=>by cases h
 | n + 1,seen,level,acc,r,h=>by
  unfold run at h;split at h
  ·cases h; show acc.length <= _; omega
  ·split at h
   ·cases h; show acc.length <= _; omega
   ·have:=zFG n h;rw [zUK,zXJ] at this;omega
noncomputable def zC5:FS:=(zAO (zHP "cells" (fOp zCE (fB zEz (zG (zC 0) zQ)) (fOp zHm (zA3 (zD (toD (fC (.int 0))) zJ)) (fB zGX (zG (fOp kEq (fB zp (zG (zC 0) zQ)) (fC (.int 0))) zQ)))) "at" (fC (.int 0)) "number" (fC (.int 0))))
noncomputable def zBY:FF:=zBK 1 zC5
noncomputable def zDk:FS:=(zL (sIf (tst (fOp kEq (fOp zAg (zC 0) (fC (.str "number"))) (fC (.int 0)))) (zL (zk 2 (fOp kIx (fOp zAg (zC 0) (fC (.str "cells"))) (fOp zDV (fOp zAg (zC 0) (fC (.str "at"))) (fB zp (zG (fOp zAg (zC 0) (fC (.str "cells"))) zQ)))))
  (zL (zA4 (fOp zAt (fOp zAg (zC 0) (fC (.str "at"))) (fC (.int 1))) (zC 0) (fC (.str "at")))
  (zL (sIf (zIF (tst (fOp kLt (zC 2) (fOp zLq (fC (.int 10)) (fC (.int 18))))) (tst (fOp kGt (fOp zAg (zC 0) (fC (.str "at"))) (fB zp (zG (fOp zAg (zC 0) (fC (.str "cells"))) zQ))))) (zL (zk 3 (fOp zAg (zC 0) (fC (.str "at"))))
  (zL (zk 4 (fOp zDV (fOp zAt (fOp zAt (fOp zHw (fOp zDV (zC 2) (fC (.int 2147483629))) (fC (.int 48271))) (fOp zHw (fOp zHw (zC 3) (zC 3)) (fC (.int 69621)))) (fC (.int 11))) (fC (.int 2147483647))))
  (zAO (fOp zDV (fOp zJk (fOp zDV (fOp zHw (zC 4) (zC 4)) (fC (.int 1999999973))) (fC (.int 7))) (zC 1))))) zAc)
  (zA4 (zC 2) (zC 0) (fC (.str "number")))))) zAc)
  (zL (zk 5 (fOp zDV (fOp zAg (zC 0) (fC (.str "number"))) (zC 1)))
  (zL (zA4 (fOp zJk (fOp zAg (zC 0) (fC (.str "number"))) (zC 1)) (zC 0) (fC (.str "number")))
  (zAO (zC 5)))))
noncomputable def zf:FF:=zBK 6 zDk
abbrev gS (k:Nat) (a x:Int):MO:=.dict [(.str "cells", .ref k),(.str "at", .int a),(.str "number", .int x)]
structure Gen (M:Mem) (n k:Nat) (q:Nat):Prop where
 ex:∃ (c:List Int) (a x:Int),M[n]? = some (gS k a x) /\ M[k]? = some (.lst (c.map D.int)) /\ 0 < c.length /\ c.length <= 63 /\ 0 <= a /\ a <= q
 ne:n ≠ k
 wf:∀ (j:Nat) u,M[j]? = some u -> MO.und M.length u = true
theorem Gen.mono {M:Mem} {n k q q':Nat} (h:Gen M n k q) (hq:q <= q'):Gen M n k q' :=
 let ⟨c,a,x,e1,e2,e3,e4,e5,e6⟩:=h.ex; ⟨⟨c,a,x,e1,e2,e3,e4,e5,by omega⟩,h.ne,h.wf⟩
structure Nw (M M':Mem) (n k q:Nat):Prop where
 gen:Gen M' n k q
 len:M.length <= M'.length
 fr:∀ j,j < M.length -> j ≠ n -> j ≠ k -> M'[j]? = M[j]?
theorem Nw.mono {M M':Mem} {n k q q':Nat} (h:Nw M M' n k q) (hq:q <= q'):Nw M M' n k q':=⟨h.gen.mono hq,h.len,h.fr⟩
theorem Nw.refl {M:Mem} {n k q:Nat} (h:Gen M n k q):Nw M M n k q:=⟨h,zUA _,fun _ _ _ _=>rfl⟩
theorem Nw.trans {M M1 M2:Mem} {n k q q':Nat} (a:Nw M M1 n k q) (b:Nw M1 M2 n k q'):Nw M M2 n k q' :=
 ⟨b.gen,zUV a.len b.len,fun j h h1 h2=>(b.fr j (zUT h a.len) h1 h2).trans (a.fr j h h1 h2)⟩
theorem Gen.lt {M:Mem} {n k q:Nat} (h:Gen M n k q):n < M.length /\ k < M.length:=by
 obtain ⟨c,a,x,e1,e2,_⟩:=h.ex;exact ⟨(zT7.mp e1).1,(zT7.mp e2).1⟩
theorem zNU {k N:Nat} {a x:Int} (hk:k < N):MO.und N (gS k a x) = true:=by
 unfold MO.und;simp [D.und,hk]
theorem Gen.put {M:Mem} {n k q q':Nat} (h:Gen M n k q) {a x:Int} (h0:0 <= a) (h1:a <= q'):Nw M (M.set n (gS k a x)) n k q':=by
 obtain ⟨hn,hk⟩:=h.lt;obtain ⟨c,_,_,e1,e2,e3,e4,_⟩:=h.ex;refine ⟨⟨⟨c,a,x,zUy hn,by rw [zUY h.ne]; exact e2,e3,e4,h0,h1⟩,h.ne,fun j u e=>?_⟩,by simp,fun j _ h1 h2=>zUY (Ne.symm h1)⟩;rw [zWN];rw [zVd] at e;split at e
 ·cases e; exact zNU hk
 ·exact h.wf j u e
theorem Gen.app {A us:Mem} {n k q:Nat} (h:Gen A n k q) (hu:∀ u ∈ us,MO.und (A.length + us.length) u = true):Nw A (A ++ us) n k q:=by
 obtain ⟨c,a,x,e1,e2,r⟩:=h.ex;obtain ⟨hn,hk⟩:=h.lt;refine ⟨⟨⟨c,a,x,by rw [zUB hn]; exact e1,by rw [zUB hk]; exact e2,r⟩,h.ne,fun j u e=>?_⟩,by simp,fun j hj _ _=>zUB hj⟩;rw [zUK];by_cases hj:j < A.length
 ·rw [zUB hj] at e;exact zLu (by omega) (h.wf j u e)
 ·rw [zVE (by omega)] at e;exact hu u (zUv e)
theorem Gen.lst {A:Mem} {n k q:Nat} (h:Gen A n k q) (xs:List D) (hx:D.unds A.length xs = true):Nw A (A ++ [.lst xs]) n k q:=h.app fun u hu=>by
 have:u = .lst xs:=by simpa using hu
 subst this; exact zBJ (by simp) hx
theorem Nw.setB {M A:Mem} {n k q q0 j:Nat} {u:MO} (h:Nw M A n k q) (g:Gen M n k q0) (hj:M.length <= j) (hu:MO.und A.length u = true):Nw M (A.set j u) n k q:=by
 obtain ⟨hn,hk⟩:=g.lt;obtain ⟨c,a,x,e1,e2,r⟩:=h.gen.ex;refine ⟨⟨⟨c,a,x,by rw [zUY (by omega)]; exact e1,by rw [zUY (by omega)]; exact e2,r⟩,g.ne,fun i v e=>?_⟩,by rw [zWN]; exact h.len,fun i hi h1 h2=>by rw [zUY (by omega)]; exact h.fr i hi h1 h2⟩;rw [zWN];rw [zVd] at e;split at e
 ·split at e
  ·cases e; exact hu
  ·cases e
 ·exact h.gen.wf i v e
theorem Nw.wf0 {M M':Mem} {n k q q0:Nat} (h:Nw M M' n k q) (g:Gen M n k q0):∀ (j:Nat) u,j < M.length -> M'[j]? = some u -> MO.und M.length u = true:=fun j u hj e=>by
 obtain ⟨hn,hk⟩:=g.lt;obtain ⟨c,a,x,e1,e2,r⟩:=h.gen.ex;by_cases q1:j = n
 ·subst q1; rw [e1] at e; cases e; exact zNU hk
 ·by_cases q2:j = k
  ·subst q2; rw [e2] at e; cases e; exact zAA _ _
  ·rw [h.fr j hj q1 q2] at e; exact g.wf j u e
theorem Nw.trim {M M':Mem} {n k q q0:Nat} (h:Nw M M' n k q) (g:Gen M n k q0):Nw M (M'.take M.length) n k q:=by
 obtain ⟨hn,hk⟩:=g.lt;have tk:∀ j,j < M.length -> (M'.take M.length)[j]? = M'[j]?:=fun j hj=>List.getElem?_take_of_lt hj;have tl:(M'.take M.length).length = M.length:=by have:=h.len; rw [zVS]; omega
 obtain ⟨c,a,x,e1,e2,r⟩:=h.gen.ex;refine ⟨⟨⟨c,a,x,(tk n hn).trans e1,(tk k hk).trans e2,r⟩,g.ne,fun j u e=>?_⟩,by omega,fun j hj h1 h2=>(tk j hj).trans (h.fr j hj h1 h2)⟩;have hj:j < M.length:=by have:=(zT7.mp e).1; omega
 rw [tk j hj] at e;rw [tl];exact h.wf0 g j u hj e
theorem Nw.get {M M':Mem} {n k q j:Nat} {u:MO} (h:Nw M M' n k q) (e:M[j]? = some u) (h1:j ≠ n) (h2:j ≠ k):M'[j]? = some u :=
 (h.fr j (zT7.mp e).1 h1 h2).trans e
theorem zDR {M:Mem} {n k:Nat} {a x:Int} {σ:Sd} {f:FE} (hf:f σ M = some (.dat (.ref n),M)) (hM:M[n]? = some (gS k a x)):fOp zAg f (fC (.str "cells")) σ M = some (.dat (.ref k),M) /\ fOp zAg f (fC (.str "at")) σ M = some (.dat (.int a),M) /\ fOp zAg f (fC (.str "number")) σ M = some (.dat (.int x),M):=by
 refine ⟨?_,?_,?_⟩ <;>
 ·refine zI hf rfl ?_;unfold zAg zF7;dsimp only;rw [hM];rfl
theorem zTu {M:Mem} {n k:Nat} {a x a':Int} (hM:M[n]? = some (gS k a x)):zCr M n (.str "at") (.int a') = some (M.set n (gS k a' x)):=by
 unfold zCr;rw [hM];dsimp only [zCb];rw [zUJ (show [(D.str (Str.ofString "cells"),D.ref k),(D.str (Str.ofString "at"),D.int a),(D.str (Str.ofString "number"),D.int x)].length < sizeLine from zS (n:=4) (by omega))];rfl
theorem zSx {M:Mem} {n k:Nat} {a x x':Int} (hM:M[n]? = some (gS k a x)):zCr M n (.str "number") (.int x') = some (M.set n (gS k a x')):=by
 unfold zCr;rw [hM];dsimp only [zCb];rw [zUJ (show [(D.str (Str.ofString "cells"),D.ref k),(D.str (Str.ofString "at"),D.int a),(D.str (Str.ofString "number"),D.int x)].length < sizeLine from zS (n:=4) (by omega))];rfl
theorem zBt {fv fo fi:FE} {σ:Sd} {M M4:Mem} {P:Out -> Sd -> Mem -> Prop} {v k:D} {n:Nat} (h1:fv σ M = some (.dat v,M)) (h2:fo σ M = some (.dat (.ref n),M)) (h3:fi σ M = some (.dat k,M)) (h4:zCr M n k v = some M4) (q:P .nx σ M4):OkS (zA4 fv fo fi σ M) P:=by
 refine ⟨.nx,σ,M4,?_,q⟩;unfold zA4 toD;rw [h1]; dsimp only; rw [h2]; dsimp only; rw [h3]; dsimp only; rw [h4]
theorem zB8 {a b:Int} {M:Mem} (h:0 < b):zDV (.dat (.int a)) (.dat (.int b)) M = some (.dat (.int (a % b)),M):=zM (zTK.mpr ⟨h,rfl,rfl⟩)
theorem zOH {a b:Int} {M:Mem} (h:0 < b /\ b < 1073741824):zJk (.dat (.int a)) (.dat (.int b)) M = some (.dat (.int (a / b)),M):=zM (zSI.mpr ⟨h,rfl,rfl⟩)
theorem zRw {a b:Int} {M:Mem} (h:zON a b = true):zHw (.dat (.int a)) (.dat (.int b)) M = some (.dat (.int (a * b)),M):=zM (zSH.mpr ⟨h,rfl,rfl⟩)
theorem zQ0 {M:Mem} {j:Nat} {c:List Int} {f:FE} {σ:Sd} (hf:f σ M = some (.dat (.ref j),M)) (h:M[j]? = some (.lst (c.map D.int))):fB zp (zG f zQ) σ M = some (.dat (.int c.length),M):=by
 have:=zBH (f:=f) (xs:=c.map D.int) hf (zc h);rw [zUD] at this; exact this
theorem zFL {a b:Int} {M:Mem} (h : -(2 ^ 64) < b /\ b < 2 ^ 64):zHw (.dat (.int a)) (.dat (.int b)) M = some (.dat (.int (a * b)),M):=zRw (by unfold zON; simp only [Bool.or_eq_true,zUe,zVH]; exact .inr h)
theorem zIw {M:Mem} {n k q:Nat} {m:Int} {a x:Int} {y2 y3 y4:Option D} (h:Gen M n k q) (e1:M[n]? = some (gS k a x)) (ha:0 <= a) (hb:a <= q) (h0:0 < m) (h1:m < 1073741824) {P:Out -> Sd -> Mem -> Prop} (hP:∀ σ i x',0 <= i -> i < m -> P (.ret (.int i)) σ (M.set n (gS k a x'))) :
  OkS (zL (zk 5 (fOp zDV (fOp zAg (zC 0) (fC (.str "number"))) (zC 1))) (zL (zA4 (fOp zJk (fOp zAg (zC 0) (fC (.str "number"))) (zC 1)) (zC 0) (fC (.str "number"))) (zAO (zC 5))) [some (.ref n),some (.int m),y2,y3,y4,none] M) P:=by
 refine zBE (zI (zDR rfl e1).2.2 rfl (zB8 h0)) ?_;show OkS (zL _ _ [some (.ref n),some (.int m),y2,y3,y4,some (.int (x % m))] M) _;rw [zK];refine zBt (zI (zDR rfl e1).2.2 rfl (zOH ⟨h0,h1⟩)) rfl rfl (zSx e1) ?_;rw [zN];exact zj rfl (hP _ _ _ (Int.emod_nonneg _ (by omega)) (zVw _ h0))
theorem zOy {M:Mem} {n k q:Nat} {m:Int} (h:Gen M n k q) (hq:q < 1000000000) (h0:0 < m) (h1:m < 1073741824) :
  Ok (zf [.ref n,.int m] M) fun d M'=>(∃ i,d = .int i /\ 0 <= i /\ i < m) /\ Nw M M' n k (q + 1) /\ M'.length = M.length:=by
 unfold zf;rw [zAT];unfold zDk;show OkS (zL _ _ [some (.ref n),some (.int m),none,none,none,none] M) _;obtain ⟨c,a,x,e1,e2,e3,e4,e5,e6⟩:=h.ex;obtain ⟨hn,hk⟩:=h.lt;rw [zK,zAF];refine zE (zAI (zI (zDR rfl e1).2.2 rfl (zM (zF0.mpr ⟨rfl,rfl⟩)))) ?_;by_cases hx:x = 0
 ·rw [zUJ (by simpa using hx)];have hl:(0:Int) < (c.length:Int):=by omega
  have hi0:0 <= a % (c.length:Int):=Int.emod_nonneg _ (by omega);have hi1:a % (c.length:Int) < c.length:=zVw _ hl;obtain ⟨y,hy⟩:∃ y:Int,atI (c.map D.int) (a % (c.length:Int)) = some (.int y):=by
   obtain ⟨i,hi⟩:=Int.eq_ofNat_of_zero_le hi0;rw [hi] at hi1 ⊢;refine ⟨c[i]'(by omega),?_⟩;exact zHh (by rw [zUR,zT8 (by omega)]; rfl)
  refine zBE (d:=.int y) (zI (zDR rfl e1).1 (zI (zDR rfl e1).2.1 (zQ0 (zDR rfl e1).1 e2) (zB8 hl)) (zBn (zc e2) hy)) ?_;show OkS (zL _ _ [some (.ref n),some (.int m),some (.int y),none,none,none] M) _;rw [zK];refine zBt (v:=.int (a + 1)) (zI (zDR rfl e1).2.1 rfl rfl) rfl rfl (zTu e1) ?_;rw [zN];have P:=h.put (a:=a + 1) (x:=x) (q':=q + 1) (by omega) (by omega);have f1:(M.set n (gS k (a + 1) x))[n]? = some (gS k (a + 1) x):=zUy hn;have f2:(M.set n (gS k (a + 1) x))[k]? = some (.lst (c.map D.int)):=by rw [zUY h.ne]; exact e2
  have fl:(M.set n (gS k (a + 1) x)).length = M.length:=by simp
  generalize M.set n (gS k (a + 1) x) = M1 at P f1 f2 fl;rw [zK,zAF];have hor:∃ b,zIF (tst (fOp kLt (zC 2) (fOp zLq (fC (.int 10)) (fC (.int 18))))) (tst (fOp kGt (fOp zAg (zC 0) (fC (.str "at"))) (fB zp (zG (fOp zAg (zC 0) (fC (.str "cells"))) zQ)))) [some (.ref n),some (.int m),some (.int y),none,none,none] M1 = some (b,M1):=by
   have t1:tst (fOp kLt (zC 2) (fOp zLq (fC (.int 10)) (fC (.int 18)))) [some (.ref n),some (.int m),some (.int y),none,none,none] M1 = some (decide (y < 10 ^ (18:Int).toNat),M1) :=
    zAI (zI rfl (zI rfl rfl (zM (zSg.mpr ⟨by decide,rfl,rfl⟩))) (zM (zRP.mpr ⟨rfl,rfl⟩)))
   have t2:∃ b,tst (fOp kGt (fOp zAg (zC 0) (fC (.str "at"))) (fB zp (zG (fOp zAg (zC 0) (fC (.str "cells"))) zQ))) [some (.ref n),some (.int m),some (.int y),none,none,none] M1 = some (b,M1) :=
    ⟨_,zAI (zI (zDR rfl f1).2.1 (zQ0 (zDR rfl f1).1 f2) (zM (zRE.mpr ⟨rfl,rfl⟩)))⟩
   obtain ⟨b2,t2⟩:=t2;unfold zIF;rw [t1];cases decide (y < 10 ^ (18:Int).toNat) with
   | true=>exact ⟨true,rfl⟩
   | false=>exact ⟨b2,t2⟩
  obtain ⟨b,hor⟩:=hor;refine zE hor ?_;cases b with
  | true=>
   rw [zUJ rfl];refine zBE (zDR rfl f1).2.1 ?_;show OkS (zL _ _ [some (.ref n),some (.int m),some (.int y),some (.int (a + 1)),none,none] M1) _;have hs0:0 <= (y % 2147483629 * 48271 + (a + 1) * (a + 1) * 69621 + 11) % 2147483647:=Int.emod_nonneg _ (by decide);have hs1:(y % 2147483629 * 48271 + (a + 1) * (a + 1) * 69621 + 11) % 2147483647 < 2147483647:=zVw _ (by decide);refine zBE (d:=.int ((y % 2147483629 * 48271 + (a + 1) * (a + 1) * 69621 + 11) % 2147483647)) (zI (zI (zI (zI (zI rfl rfl (zB8 (by decide))) rfl (zFL (by decide))) (zI (zI rfl rfl (zFL ⟨by omega,by omega⟩)) rfl (zFL (by decide))) rfl) rfl rfl) rfl (zB8 (by decide))) ?_;generalize (y % 2147483629 * 48271 + (a + 1) * (a + 1) * 69621 + 11) % 2147483647 = s at hs0 hs1;show OkS (zAO _ [some (.ref n),some (.int m),some (.int y),some (.int (a + 1)),some (.int s),none] M1) _;refine zj (zI (zI (zI (zI (x:=.dat (.int s)) (y:=.dat (.int s)) rfl rfl (zFL ⟨by omega,by omega⟩)) rfl (zB8 (by decide))) rfl (zOH ⟨by decide,by decide⟩)) rfl (zB8 h0)) ?_;rw [zBC];exact ⟨⟨_,rfl,Int.emod_nonneg _ (by omega),zVw _ h0⟩,P,fl⟩
  | false=>
   rw [zUM zUQ,zm,zN];refine zBt rfl rfl rfl (zSx f1) ?_;rw [zN];have P2:=P.gen.put (a:=a + 1) (x:=y) (q':=q + 1) (by omega) (by omega);have g1:(M1.set n (gS k (a + 1) y))[n]? = some (gS k (a + 1) y):=zUy (by omega);have gl:(M1.set n (gS k (a + 1) y)).length = M.length:=by rw [zWN,fl]
   have PP:=P.trans P2;generalize M1.set n (gS k (a + 1) y) = M2 at PP g1 gl;refine zIw PP.gen g1 (by omega) (by omega) h0 h1 fun σ i x' i0 i1=>⟨⟨i,rfl,i0,i1⟩,PP.trans (PP.gen.put (by omega) (by omega)),by rw [zWN,gl]⟩
 ·rw [zUM (by simpa using hx),zm,zN];exact zIw h e1 e5 e6 h0 h1 fun σ i x' i0 i1=>⟨⟨i,rfl,i0,i1⟩,h.put e5 (by omega),by simp⟩
theorem zAi {M:Mem} {n k q:Nat} {m:Int} {σ:Sd} {fa fb:FE} {P:EV -> Mem -> Prop} (h:Gen M n k q) (hq:q < 1000000000) (ha:fa σ M = some (.dat (.ref n),M)) (hb:fb σ M = some (.dat (.int m),M)) (h0:0 < m) (h1:m < 1073741824)
  (p:∀ i M',0 <= i -> i < m -> Nw M M' n k (q + 1) -> M'.length = M.length -> P (.dat (.int i)) M'):Ok (zW zf (zD (toD fa) (zD (toD fb) zJ)) σ M) P:=by
 rw [zCU,zA7,zA0];refine ⟨_,_,ha,?_⟩;rw [zR,zA7,zA0];refine ⟨_,_,hb,?_⟩;rw [zR,zBO];refine Ok.mono (zOy h hq h0 h1) ?_;rintro d M' ⟨⟨i,rfl,i0,i1⟩,nx,hl⟩;exact p i M' i0 i1 nx hl
open Lac (dT zDm zBD zFa zJg zEL)
noncomputable def zCO:FS:=(zL (zk 3 zKc)
  (zL (zBF (zBg (zC 1)) (zEJ 4 5) (zBF (zAD (zD (toD (fB zp (zG (fOp kIx (zC 0) (fC (.int 0))) zQ))) zJ)) (gN 6) (zL (zk 7 (zW zBk (zD (toD (zC 0)) (zD (toD (zC 4)) (zD (toD (zC 6)) zJ)))))
  (sIf (tst (fOp (zEG true) (zC 7) (zC 2))) (zL (zA4 (fC (.bl true)) (zC 2) (zC 7))
  (zA4 (fOp zAt (zC 5) (zAX (zD (toD (zC 6)) zJ))) (zC 3) (zC 7))) zAc))))
  (zAO (zC 3))))
noncomputable def zAl:FF:=zBK 8 zCO
def sE (ss:List (List Int)):List (List Int × D):=ss.map fun s=>(s,.bl true)
def wE (lv:Lvl):List (List Int × D):=lv.map fun p=>(p.1,tI p.2)
theorem zD1 (x:D):∀ (T:List (List Int × D)) (g:List Int),(zBD T g).isSome = decide (g ∈ T.map (·.1))
 | [],g=>by simp [zBD]
 | q :: r,g=>by
  unfold zBD;by_cases h:q.1 = g
  ·rw [zUJ h]; simp [h]
  ·rw [zUM h,zD1 x r g];have:g ≠ q.1:=fun z=>h z.symm;simp [this]
theorem zFD (ss:List (List Int)):(sE ss).map (·.1) = ss:=by unfold sE; rw [zUS]; exact List.map_id' ss
theorem zPN (lv:Lvl):(wE lv).map (·.1) = lv.map (·.1):=by unfold wE; rw [zUS]; rfl
theorem zII {T:List (List Int × D)} {g:List Int} {v:D} (h:g ∉ T.map (·.1)):zFa T g v = T ++ [(g,v)]:=by
 unfold zFa;have:=zD1 .non T g;rw [zUd h] at this;cases e:zBD T g with
 | none=>rfl
 | some d=>rw [e] at this; cases this
theorem zJa {ss:List (List Int)} {g:List Int} (h:g ∉ ss):zFa (sE ss) g (.bl true) = sE (ss ++ [g]):=by
 rw [zII (by rw [zFD]; exact h)]; unfold sE; simp
theorem zQ5 {lv:Lvl} {g w:List Int} (h:g ∉ lv.map (·.1)):zFa (wE lv) g (tI w) = wE (lv ++ [(g,w)]):=by
 rw [zII (by rw [zPN]; exact h)]; unfold wE; simp
structure Nl (M0 M:Mem) (a b c:Nat) (lev:MO) (seen:List (List Int)) (beh:Lvl):Prop where
 len:M.length = M0.length + 1
 ea:M[a]? = some lev
 eb:M[b]? = some (dT (sE seen))
 ec:M[c]? = some (dT (wE beh))
 fr:∀ j,j < M0.length -> j ≠ a -> j ≠ b -> M[j]? = M0[j]?
theorem zKp {w:List Int} {g:Int} {M:Mem} (hz:w.length <= 5000):zAt (.dat (tI w)) (.dat (.tup [.int g])) M = some (.dat (tI (w ++ [g])),M):=by
 have e:zRg (.dat (tI w)) (.dat (.tup [.int g])) M = none:=rfl;show kOr zRg zG3 _ _ M = _;unfold kOr;rw [e];show zG3 (.dat (.tup (w.map D.int))) (.dat (.tup [.int g])) M = _;unfold zG3;dsimp only [zBp];rw [zUJ (zS (by simp; omega))];unfold tI;rw [zUw]; rfl
theorem zMR {zA:List (List Int)} {l:Nat} (m:IsM zA l) (h9:zA.length <= 9) {M0 M:Mem} {a b c:Nat} (hac:a ≠ c) (hbc:b ≠ c) (hab:a ≠ b) (hc:c = M0.length) (hb:b < M0.length) {lev:MO} {seen0:List (List Int)} {p:List (List Int) × Lvl} (gr:Gr zA seen0 p) (nl:Nl M0 M a b c lev p.1 p.2) {S w:List Int} (s:IsS zA S) (hw:w.length <= 5000) {g:Int} (g0:0 <= g) (g1:g < l) {y7:Option D} :
  OkS (zL (zk 7 (zW zBk (zD (toD (zC 0)) (zD (toD (zC 4)) (zD (toD (zC 6)) zJ)))))
  (sIf (tst (fOp (zEG true) (zC 7) (zC 2))) (zL (zA4 (fC (.bl true)) (zC 2) (zC 7))
  (zA4 (fOp zAt (zC 5) (zAX (zD (toD (zC 6)) zJ))) (zC 3) (zC 7))) zAc) [some (mD zA),some (.ref a),some (.ref b),some (.ref c),some (tI S),some (tI w),some (.int g),y7] M)
   fun o σ M'=>o = .nx /\ (∃ y7,σ = [some (mD zA),some (.ref a),some (.ref b),some (.ref c),some (tI S),some (tI w),some (.int g),y7]) /\ Nl M0 M' a b c lev (zAf zA S w p g).1 (zAf zA S w p g).2:=by
 refine zBE (zBA (zi rfl (zi rfl (zh rfl))) (zO5 m (by omega) s g0 g1)) ?_;show OkS (sIf _ _ _ [some (mD zA),some (.ref a),some (.ref b),some (.ref c),some (tI S),some (tI w),some (.int g),some (tI (setR zA S g))] M) _;rw [zAF];refine zE (zAI (zI (x:=.dat (tI (setR zA S g))) (y:=.dat (.ref b)) rfl rfl (zJg nl.eb))) ?_;rw [zD1 .non,zFD];unfold zAf;by_cases hm:setR zA S g ∈ p.1
 ·rw [zUJ hm,zUM (by simp [hm]),zm];exact ⟨rfl,⟨_,rfl⟩,nl⟩
 ·rw [zUM hm,zUJ (by simp [hm]),zK];have hl:=zBQ gr.nd gr.st h9;have hk:p.2.length <= p.1.length:=by rw [gr.eq,zUK,zUD]; omega
  have hm2:setR zA S g ∉ p.2.map (·.1):=fun z=>hm (by rw [gr.eq]; exact zUO _ z);refine zBt rfl rfl rfl (zEL nl.eb (by unfold sE; rw [zUD]; omega)) ?_;rw [zN,zJa hm];have hbl:b < M.length:=by rw [nl.len]; omega
  have hcl:c < M.length:=by rw [nl.len]; omega
  have ec':(M.set b (dT (sE (p.1 ++ [setR zA S g]))))[c]? = some (dT (wE p.2)):=by rw [zUY hbc]; exact nl.ec
  have tp:∀ {σ:Sd} {M:Mem},σ[6]? = some (some (.int g)) -> zAX (zD (toD (zC 6)) zJ) σ M = some (.dat (.tup [.int g]),M):=fun {σ M} e=>by
   have e1:zC 6 σ M = some (.dat (.int g),M):=by unfold zC; rw [e]
   unfold zAX; rw [zh e1]; dsimp only; rw [zUJ (zS (by simp))]
  refine zBt (v:=tI (w ++ [g])) (zI (x:=.dat (tI w)) rfl (tp rfl) (zKp hw)) rfl rfl (zEL ec' (by unfold wE; rw [zUD]; omega)) ?_;rw [zQ5 hm2];refine ⟨rfl,⟨_,rfl⟩,by simp [nl.len],?_,?_,?_,fun j hj h1 h2=>?_⟩
  ·rw [zUY (Ne.symm hac),zUY (Ne.symm hab)]; exact nl.ea
  ·rw [zUY (Ne.symm hbc),zUy hbl]
  ·rw [zUy (by simpa using hcl)]
  ·rw [zUY (by omega),zUY (Ne.symm h2)]; exact nl.fr j hj h1 h2
theorem zPi {zA:List (List Int)} {S w:List Int} {p:List (List Int) × Lvl} {g:Int} {n:Nat} (h:∀ s ∈ p.2,s.2.length <= n) (hw:w.length + 1 <= n):∀ s ∈ (zAf zA S w p g).2,s.2.length <= n:=by
 unfold zAf;split
 ·exact h
 ·intro s hs;rcases zUU.mp hs with z | z
  ·exact h s z
  ·have:s = (setR zA S g,w ++ [g]):=by simpa using z
   rw [this]; simpa using hw
theorem zHo {zA:List (List Int)} {S w:List Int} {n:Nat} (hw:w.length + 1 <= n):∀ (gs:List Int) {p:List (List Int) × Lvl},(∀ s ∈ p.2,s.2.length <= n) -> ∀ s ∈ (gs.foldl (zAf zA S w) p).2,s.2.length <= n
 | [],_,h=>h
 | g :: r,p,h=>zHo hw r (zPi h hw)
theorem zKy {zA:List (List Int)} {l n:Nat}:∀ {level:Lvl} {p:List (List Int) × Lvl},(∀ s ∈ level,s.2.length + 1 <= n) -> (∀ s ∈ p.2,s.2.length <= n) -> ∀ s ∈ (level.foldl (zAy zA l) p).2,s.2.length <= n
 | [],_,_,h=>h
 | s :: r,p,hs,h=>zKy (level:=r) (fun x hx=>hs x (zUH _ hx)) (zHo (hs s zUI) _ h)
abbrev lE (lv:Lvl):List (D × D):=zDm (wE lv)
theorem zGZ {zA:List (List Int)} {l:Nat} (m:IsM zA l) (h9:zA.length <= 9) (hl9:l <= 1000) {M0:Mem} {a b:Nat} (hab:a ≠ b) {level:Lvl} {seen:List (List Int)} (mt:Met zA seen level) (ea:M0[a]? = some (.dicT (lE level)) \/ M0[a]? = some (.froT (lE level))) (eb:M0[b]? = some (dT (sE seen))) (hw:∀ s ∈ level,s.2.length <= 5000) :
  Ok (zAl [mD zA,.ref a,.ref b] M0) fun d M'=>d = .ref M0.length /\ Nl M0 M' a b M0.length (.froT (lE level)) (zAP zA l seen level).1 (zAP zA l seen level).2:=by
 have ha:a < M0.length:=by rcases ea with e | e <;> exact (zT7.mp e).1
 have hb:b < M0.length:=(zT7.mp eb).1;unfold zAl;rw [zAT];unfold zCO;show OkS (zL _ _ [some (mD zA),some (.ref a),some (.ref b),none,none,none,none,none] M0) _;rw [zK,zb];refine zE (a:=.dat (.ref M0.length)) (M:=M0 ++ [.dicT []]) rfl ?_;rw [zR,zN];show OkS (zL _ _ [some (mD zA),some (.ref a),some (.ref b),some (.ref M0.length),none,none,none,none] (M0 ++ [.dicT []])) _;obtain ⟨M1,ei,nl1⟩:∃ M1,zBg (zC 1) [some (mD zA),some (.ref a),some (.ref b),some (.ref M0.length),none,none,none,none] (M0 ++ [.dicT []]) = some ((lE level).map fun p=>D.tup [p.1,p.2],none,M1) /\ Nl M0 M1 a b M0.length (.froT (lE level)) seen []:=by
  have ga:(M0 ++ [.dicT []])[a]? = M0[a]?:=zUB ha;have gb:(M0 ++ [.dicT []])[b]? = some (dT (sE seen)):=by rw [zUB hb]; exact eb
  have gc:(M0 ++ [.dicT []])[M0.length]? = some (dT (wE [])):=by simp; rfl
  unfold zBg zC;dsimp only [List.getElem?_cons_succ,List.getElem?_cons_zero];rw [ga];rcases ea with e | e
  ·rw [e];refine ⟨_,rfl,by simp,zUy (by simp; omega),?_,?_,fun j hj h1 h2=>?_⟩
   ·rw [zUY hab]; exact gb
   ·rw [zUY (by omega)]; exact gc
   ·rw [zUY (Ne.symm h1),zUB hj]
  ·rw [e];exact ⟨_,rfl,by simp,ga.trans e,gb,gc,fun j hj h1 h2=>zUB hj⟩
 rw [zK,zAb];refine ⟨_,_,_,ei,?_⟩;refine zA5 (I:=fun r σ M'=>(∃ y4 y5 y6 y7,σ = [some (mD zA),some (.ref a),some (.ref b),some (.ref M0.length),y4,y5,y6,y7]) /\ ∃ (done rest:Lvl),r = (lE rest).map (fun p=>D.tup [p.1,p.2]) /\ done ++ rest = level /\ Nl M0 M' a b M0.length (.froT (lE level)) (done.foldl (zAy zA l) (seen,[])).1 (done.foldl (zAy zA l) (seen,[])).2) ?_ ?_ _ _ _ ⟨⟨_,_,_,_,rfl⟩,[],level,rfl,rfl,nl1⟩
 ·rintro x r σ M' ⟨⟨y4,y5,y6,y7,rfl⟩,done,rest,er,hd,nl⟩;cases rest with
  | nil=>cases er
  | cons sw rest=>
   obtain ⟨rfl,rfl⟩:=zU8 er;have hs:sw ∈ level:=by rw [<- hd]; simp
   have sS:=mt.lv sw hs;have gr0:Gr zA seen (done.foldl (zAy zA l) (seen,[])):=zE8 m (fun s z=>mt.lv s (by rw [<- hd]; simp [z])) ⟨mt.nd,mt.st,by simp⟩;generalize hp:done.foldl (zAy zA l) (seen,[]) = p0 at nl gr0;refine ⟨zt,_,rfl,?_⟩;show OkS (zBF _ _ _ [some (mD zA),some (.ref a),some (.ref b),some (.ref M0.length),some (tI sw.1),some (tI sw.2),y6,y7] M') _;rw [zAb];have el:fB zp (zG (fOp kIx (zC 0) (fC (.int 0))) zQ) [some (mD zA),some (.ref a),some (.ref b),some (.ref M0.length),some (tI sw.1),some (tI sw.2),y6,y7] M' = some (.dat (.int l),M'):=by
    have hr:=m.get (h:=0) (by decide) (by have:=m.r0; omega);have:=zBH (f:=fOp kIx (zC 0) (fC (.int 0))) (σ:=[some (mD zA),some (.ref a),some (.ref b),some (.ref M0.length),some (tI sw.1),some (tI sw.2),y6,y7]) (M:=M') (zI (x:=.dat (mD zA)) rfl rfl (zBn zAJ (zHH (by decide) (by have:=m.r0; omega)))) zAJ;rw [this,zUD,hr.1]
   refine ⟨_,_,_,zAV el (by omega) (by omega),?_⟩;rw [zWo];refine zC0 (n:=l) (I:=fun i σ M2=>(∃ y6 y7,σ = [some (mD zA),some (.ref a),some (.ref b),some (.ref M0.length),some (tI sw.1),some (tI sw.2),y6,y7]) /\ Gr zA seen ((zCa i).foldl (zAf zA sw.1 sw.2) p0) /\ Nl M0 M2 a b M0.length (.froT (lE level)) ((zCa i).foldl (zAf zA sw.1 sw.2) p0).1 ((zCa i).foldl (zAf zA sw.1 sw.2) p0).2) ?_ ?_ _ _ ⟨⟨_,_,rfl⟩,gr0,nl⟩
   ·rintro i σ M2 hi ⟨⟨y6,y7,rfl⟩,gr,nl2⟩;refine ⟨_,rfl,?_⟩;refine OkS.mono (zMR m h9 (by omega) (by omega) hab rfl hb gr nl2 sS (hw sw hs) (g:=(i:Nat)) (by omega) (by omega)) ?_;rintro o σ M3 ⟨rfl,⟨y7,rfl⟩,nl3⟩;have e:(zCa (i + 1)).foldl (zAf zA sw.1 sw.2) p0 = zAf zA sw.1 sw.2 ((zCa i).foldl (zAf zA sw.1 sw.2) p0) (i:Nat):=by
     unfold zCa; rw [List.range_succ,zUw,List.foldl_append]; rfl
    show (∃ y6 y7,_) /\ _;rw [e];exact ⟨⟨_,_,rfl⟩,zFA m gr sS (by omega) (by omega),nl3⟩
   ·rintro σ M2 ⟨⟨y6,y7,rfl⟩,gr,nl2⟩;refine ⟨⟨_,_,_,_,rfl⟩,done ++ [sw],rest,rfl,by rw [<- hd]; simp,?_⟩;rw [List.foldl_append,hp];exact nl2
 ·rintro σ M' ⟨⟨y4,y5,y6,y7,rfl⟩,done,rest,er,hd,nl⟩;have:rest = []:=by cases rest with | nil=>rfl | cons _ _=>cases er
  subst this;rw [zUo] at hd;subst hd;refine ⟨zt,?_⟩;rw [zN];exact zj rfl ⟨rfl,nl⟩
noncomputable def zBc:FS:=(zL (zBF (zAD (zD (toD (fB zp (zG (fOp kIx (zC 0) (fC (.int 0))) zQ))) zJ)) (gN 2) (zL (zk 3 (zA3 zJ))
  (zL (zBF (zAD (zD (toD (fB zp (zG (zC 0) zQ))) zJ)) (gN 4) (zAu (fM zC8 (zC 3) (zD (toD (fOp zDV (fOp kIx (fOp kIx (zC 0) (zC 4)) (zC 2)) (fOp zAt (zC 4) (fC (.int 1))))) (zD (toD (zC 4)) zJ)))))
  (zBF (zAD (zD (toD (fB zp (zG (zC 0) zQ))) zJ)) (gN 4) (zIo (fOp kIx (zC 3) (zC 4)) (fOp kIx (zC 0) (zC 4)) (zC 2))))))
  (sIf (tst (zC 1)) (zL (zk 5 (fOp zHN (fB zp (zG (fOp kIx (zC 0) (fC (.int 0))) zQ)) (fC (.int 1))))
  (zIo (fOp kIx (fOp kIx (zC 0) (fOp zHN (fB zp (zG (zC 0) zQ)) (fC (.int 1)))) (zC 5)) (fOp kIx (zC 0) (fC (.int 0))) (zC 5))) zAc))
noncomputable def zAU:FF:=zBK 6 zBc
noncomputable def zDT:FS:=(zL (zk 4 (fB zp (zG (zC 0) zQ)))
  (zL (zk 5 (fOp kIx (fOp kIx (zC 0) (fC (.int 0))) (fC (.int 0))))
  (zL (sIf (zGu (tst (fOp kEq (zC 3) (fC (.int 4)))) (tst (fOp kLt (zC 1) (zC 5)))) (zAO (fOp zDV (fOp kIx (fOp kIx (zC 0) (zC 1)) (zC 2)) (zC 5))) zAc)
  (zL (sIf (tst (fOp kEq (zC 3) (fC (.int 4)))) (zAO (fOp zAt (zC 5) (fOp zDV (fOp kIx (fOp kIx (zC 0) (zC 1)) (zC 2)) (fOp zHN (zC 4) (zC 5))))) zAc)
  (zL (sIf (zGu (tst (fOp kEq (zC 3) (fC (.int 5)))) (tst (fOp kEq (zC 2) (fC (.int 0))))) (zAO (fOp zDV (fOp zAt (zC 1) (fC (.int 1))) (zC 4))) zAc)
  (zL (sIf (tst (fOp kEq (zC 3) (fC (.int 5)))) (zAO (fOp kIx (zA3 (zD (toD (zC 1)) (zD (toD (fC (.int 0))) zJ))) (fB zGX (zG (zE4 (fOp kEq (zC 2) (fC (.int 1))) (fOp kEq (zC 1) (fOp zHN (zC 4) (fC (.int 1))))) zQ)))) zAc)
  (zL (sIf (tst (fOp kEq (zC 3) (fC (.int 6)))) (zAO (fOp kIx (fOp kIx (zC 0) (fC (.int 0))) (zC 2))) zAc)
  (zAO (fOp kIx (fOp kIx (zC 0) (zC 1)) (fC (.int 0)))))))))))
noncomputable def zAw:FF:=zBK 6 zDT
noncomputable def zBP:FS:=(zL (zk 3 (fOp zAt (fC (.int 1)) (zW zf (zD (toD (zC 0)) (zD (toD (zC 1)) zJ)))))
  (zL (zk 4 (fOp zAt (fC (.int 1)) (zW zf (zD (toD (zC 0)) (zD (toD (zC 2)) zJ)))))
  (zL (zk 5 (zW zf (zD (toD (zC 0)) (zD (toD (fC (.int 8))) zJ))))
  (zL (zk 6 (zA3 zJ))
  (zL (zBF (zAD (zD (toD (zC 3)) zJ)) (gN 7) (zAu (fM zv (zC 6) (zD (toD (zAK [8] (zAD (zD (toD (zC 4)) zJ)) (gN 8) zAe (zW zf (zD (toD (zC 0)) (zD (toD (zC 3)) zJ))))) zJ))))
  (zL (sIf (tst (fOp kEq (zC 5) (fC (.int 3)))) (zAu (zW zAU (zD (toD (zC 6)) (zD (toD (fOp kEq (zW zf (zD (toD (zC 0)) (zD (toD (fC (.int 2))) zJ))) (fC (.int 1)))) zJ)))) zAc)
  (zL (sIf (tst (fOp kGt (zC 5) (fC (.int 3)))) (zk 6 (zAK [7] (zAD (zD (toD (zC 3)) zJ)) (gN 7) zAe (zAK [8] (zAD (zD (toD (zC 4)) zJ)) (gN 8) zAe (zW zAw (zD (toD (zC 6)) (zD (toD (zC 7)) (zD (toD (zC 8)) (zD (toD (zC 5)) zJ)))))))) zAc)
  (zAO (fB zX (zG (zAK [9] (zBd (zC 6)) (gN 9) zAe (fB zX (zG (zC 9) zQ))) zQ))))))))))
noncomputable def zAs:FF:=zGf (zBK 10 zBP)
theorem zAQ {P:D -> Mem -> Prop} {xs:List D} {M:Mem} (h:P (.ref M.length) (M ++ [.lst xs])):zHr P (.fl xs) M:=h
theorem zBo (A:Mem) (u:MO):(A ++ [u])[A.length]? = some u:=by simp
theorem zLg {M:Mem} {n:Nat} {xs:List D} {i:Int} {d:D} (h:M[n]? = some (.lst xs)) (h0:0 <= i) (h1:i.toNat <= xs.length) (hz:xs.length < 90000):zC8 (.dat (.ref n)) [.int i,d] M = some (.non,M.set n (.lst (xs.take i.toNat ++ [d] ++ xs.drop i.toNat))):=by
 unfold zC8; dsimp only; rw [h]; dsimp only; rw [zUJ ⟨h0,h1,zUT hz (zS (by omega))⟩]
theorem zSX {f:FE} {σ:Sd} {M M1:Mem} {xs:List D} (h:f σ M = some (.fl xs,M1)):toD f σ M = some (.ref M1.length,M1 ++ [.lst xs]):=by unfold toD; rw [h]
theorem fB1 {k:KB} {f:FE} {x:EV} {σ:Sd} {M:Mem} (hf:f σ M = some (x,M)):fB k (zG f zQ) σ M = k [x] M:=by unfold fB zG zQ; rw [hf]
theorem zM9 {ns:List Int} (h:ns.length <= 63):Ok (zBY [.ref 0] [.fro (ns.map D.int)]) fun d M'=>d = .ref 1 /\ Gen M' 1 2 0 /\ M'[0]? = some (.fro (ns.map D.int)):=by
 unfold zBY;rw [zAT];unfold zC5;have e0:([.fro (ns.map D.int),.dict []]:Mem)[0]? = some (.fro (ns.map D.int)):=rfl;have l1:fB zEz (zG (zC 0) zQ) [some (.ref 0)] [.fro (ns.map D.int),.dict []] = some (.fl (ns.map D.int),[.fro (ns.map D.int),.dict []]):=by
  rw [fB1 (x:=.dat (.ref 0)) rfl];unfold zEz;dsimp only;rw [zK9 e0]
 have l2:fB zp (zG (zC 0) zQ) [some (.ref 0)] [.fro (ns.map D.int),.dict []] = some (.dat (.int (ns.map D.int).length),[.fro (ns.map D.int),.dict []]):=zBH (x:=.dat (.ref 0)) rfl (zK9 e0);obtain ⟨zs,ez,hz⟩:∃ zs:List Int,fOp zHm (zA3 (zD (toD (fC (.int 0))) zJ)) (fB zGX (zG (fOp kEq (fB zp (zG (zC 0) zQ)) (fC (.int 0))) zQ)) [some (.ref 0)] [.fro (ns.map D.int),.dict []] = some (.fl (zs.map D.int),[.fro (ns.map D.int),.dict []]) /\ 0 < (ns ++ zs).length /\ (ns ++ zs).length <= 63:=by
  have l3:fB zGX (zG (fOp kEq (fB zp (zG (zC 0) zQ)) (fC (.int 0))) zQ) [some (.ref 0)] [.fro (ns.map D.int),.dict []] = some (.dat (.int (if decide (((ns.map D.int).length:Int) = 0) then 1 else 0)),[.fro (ns.map D.int),.dict []]):=by
   have l4:fOp kEq (fB zp (zG (zC 0) zQ)) (fC (.int 0)) [some (.ref 0)] [.fro (ns.map D.int),.dict []] = some (.dat (.bl (decide (((ns.map D.int).length:Int) = 0))),[.fro (ns.map D.int),.dict []]):=zI l2 rfl (zM (zF0.mpr ⟨rfl,rfl⟩));rw [fB1 l4]; rfl
  have l5:zA3 (zD (toD (fC (.int 0))) zJ) [some (.ref 0)] [.fro (ns.map D.int),.dict []] = some (.fl [.int 0],[.fro (ns.map D.int),.dict []]):=by
   unfold zA3; rw [zh (d:=.int 0) rfl]; dsimp only; rw [zUJ (zS (by simp))]
  cases ns with
  | nil=>exact ⟨[0],zI l5 l3 (by unfold zHm; dsimp only [zBp,zGL]; rw [zUJ ⟨by decide,by decide,zS (by decide)⟩]; rfl),by simp,by simp⟩
  | cons x r=>
   refine ⟨[],zI l5 l3 ?_,by simp,by simpa using h⟩;have:decide (((List.map D.int (x :: r)).length:Int) = 0) = false:=by simp; omega
   rw [this];unfold zHm; dsimp only [zBp,zGL]; rw [zUJ ⟨by decide,by decide,zS (by decide)⟩]; rfl
 show OkS (zAO _ [some (.ref 0)] [.fro (ns.map D.int)]) _;rw [zH7];have ec:toD (fOp zCE (fB zEz (zG (zC 0) zQ)) (fOp zHm (zA3 (zD (toD (fC (.int 0))) zJ)) (fB zGX (zG (fOp kEq (fB zp (zG (zC 0) zQ)) (fC (.int 0))) zQ)))) [some (.ref 0)] ([.fro (ns.map D.int)] ++ [.dict []]) = some (.ref 2,[.fro (ns.map D.int),.dict [],.lst ((ns ++ zs).map D.int)]):=by
  have:fOp zCE (fB zEz (zG (zC 0) zQ)) (fOp zHm (zA3 (zD (toD (fC (.int 0))) zJ)) (fB zGX (zG (fOp kEq (fB zp (zG (zC 0) zQ)) (fC (.int 0))) zQ))) [some (.ref 0)] [.fro (ns.map D.int),.dict []] = some (.fl ((ns ++ zs).map D.int),[.fro (ns.map D.int),.dict []]):=by
   refine zI l1 ez ?_;unfold zCE;dsimp only [zGL];rw [zUJ (zS (by have:=hz.2; simp at this ⊢; omega)),zUw]
  exact zSX this
 refine zE (M:=[.fro (ns.map D.int),gS 2 0 0,.lst ((ns ++ zs).map D.int)]) (a:=.dat (.ref 1)) ?_ ?_
 ·unfold zHP;rw [ec];dsimp only;rfl
 ·rw [zR];refine ⟨rfl,⟨⟨ns ++ zs,0,0,rfl,rfl,hz.1,hz.2,by decide,by decide⟩,by decide,?_⟩,rfl⟩;intro j u e;match j,e with
  | 0,e=>cases e; exact zAA _ _
  | 1,e=>cases e; rfl
  | 2,e=>cases e; exact zAA _ _
  | j + 3,e=>simp at e
structure Rw (M:Mem) (j:Nat) (rs:List Nat) (zA:List (List Int)) (n l:Nat):Prop where
 at_:M[j]? = some (.lst (rs.map D.ref))
 len:rs.length = zA.length
 row:∀ (i r:Nat),rs[i]? = some r -> ∃ w,zA[i]? = some w /\ M[r]? = some (.lst (w.map D.int))
 nd:rs.Nodup
 hj:j ∉ rs
 ok:∀ w ∈ zA,w.length = l /\ ∀ x ∈ w,0 <= x /\ x < (n:Int)
section
variable {M M':Mem} {j n l:Nat} {rs:List Nat} {zA:List (List Int)}
theorem Rw.keep (h:Rw M j rs zA n l) (k:∀ i,i < M.length -> M'[i]? = M[i]?):Rw M' j rs zA n l:=by
 have kp:∀ {i:Nat} {u:MO},M[i]? = some u -> M'[i]? = some u:=fun {i u} e=>(k i (zT7.mp e).1).trans e;exact ⟨kp h.at_,h.len,fun i r e=>let ⟨w,e1,e2⟩:=h.row i r e; ⟨w,e1,kp e2⟩,h.nd,h.hj,h.ok⟩
theorem Rw.ix (h:Rw M j rs zA n l) {σ:Sd} {f1 f2 f3:FE} {i g:Int} (h1:f1 σ M = some (.dat (.ref j),M)) (h2:f2 σ M = some (.dat (.int i),M)) (h3:f3 σ M = some (.dat (.int g),M)) (i0:0 <= i) (i1:i < zA.length) (g0:0 <= g) (g1:g < l) :
  fOp kIx (fOp kIx f1 f2) f3 σ M = some (.dat (.int (zAS zA i g)),M) /\ 0 <= zAS zA i g /\ zAS zA i g < n:=by
 have hi:i.toNat < rs.length:=by rw [h.len]; omega
 obtain ⟨w,e1,e2⟩:=h.row i.toNat rs[i.toNat] (zT8 hi);obtain ⟨hl,hx⟩:=h.ok w (zUv e1);have es:zAS zA i g = w[g.toNat]'(by omega):=by
  unfold zAS;rw [zT9 (l:=zA),e1,Option.getD_some,zT9,zT8 (by omega)]; rfl
 refine ⟨zI (zI h1 h2 (zBn (d:=.ref rs[i.toNat]) (zc h.at_) (zFy i0 (by rw [zUR,zT8 hi]; rfl)))) h3 (zBn (zc e2) (zFy g0 (by rw [zUR,zT8 (by omega),es]; rfl))),?_⟩;rw [es]; exact hx _ (zUc _)
theorem Rw.len0 (h:Rw M j rs zA n l) {σ:Sd} {f1:FE} (h1:f1 σ M = some (.dat (.ref j),M)):fB zp (zG f1 zQ) σ M = some (.dat (.int zA.length),M):=by
 rw [zBH h1 (zc h.at_),zUD,h.len]
theorem Rw.row0 (h:Rw M j rs zA n l) (hr:0 < zA.length) {σ:Sd} {f1:FE} (h1:f1 σ M = some (.dat (.ref j),M)):fB zp (zG (fOp kIx f1 (fC (.int 0))) zQ) σ M = some (.dat (.int l),M):=by
 have hi:0 < rs.length:=by rw [h.len]; omega
 obtain ⟨w,e1,e2⟩:=h.row 0 rs[0] (zT8 hi);obtain ⟨hl,hx⟩:=h.ok w (zUv e1);have e3:=zBH (x:=.dat (.ref rs[0])) (zI (g:=fC (.int 0)) h1 rfl (zBn (d:=.ref rs[0]) (zc h.at_) (zFy (by decide) (by rw [zUR]; show Option.map _ rs[0]? = _; rw [zT8 hi]; rfl)))) (zc e2);rw [e3,zUD,hl]
theorem Rw.put (h:Rw M j rs zA n l) {i g r:Nat} {x:Int} (hr:rs[i]? = some r) (x0:0 <= x) (x1:x < n):∃ w,zA[i]? = some w /\ M[r]? = some (.lst (w.map D.int)) /\ Rw (M.set r (.lst ((w.set g x).map D.int))) j rs (zA.set i (w.set g x)) n l:=by
 obtain ⟨w,e1,e2⟩:=h.row i r hr;have hrl:=(zT7.mp e2).1;have hil:=(zT7.mp e1).1;have hrj:j ≠ r:=fun z=>h.hj (by rw [z]; exact zUv hr);refine ⟨w,e1,e2,by rw [zUY (Ne.symm hrj)]; exact h.at_,by rw [zWN]; exact h.len,fun i' r' e=>?_,h.nd,h.hj,fun w' hw'=>?_⟩
 ·by_cases hi:i' = i
  ·subst hi;rw [hr] at e; cases e;exact ⟨w.set g x,zUy hil,zUy hrl⟩
  ·obtain ⟨w2,e3,e4⟩:=h.row i' r' e;have:r' ≠ r:=fun z=>hi (by subst z; exact (List.getElem?_inj (zT7.mp e).1 h.nd).mp (e.trans hr.symm));exact ⟨w2,by rw [zUY (Ne.symm hi)]; exact e3,by rw [zUY (Ne.symm this)]; exact e4⟩
 ·obtain ⟨hl,hx⟩:=h.ok w (zUv e1);rcases List.mem_or_eq_of_mem_set hw' with q | q
  ·exact h.ok w' q
  ·subst q;refine ⟨by rw [zWN]; exact hl,fun y hy=>?_⟩;rcases List.mem_or_eq_of_mem_set hy with q | q
   ·exact hx y q
   ·subst q; exact ⟨x0,x1⟩
end
open Lac (dT zDm zBD zFa zJg zEL)
noncomputable def zCY (gL:List D -> FF) (lL:Lm):FS:=(zL (zk 3 (zCu (zC 1) (fC (.bl true))))
  (zL (zk 4 (zCu (zC 1) (zAX zJ)))
  (zL (zk 5 (zA3 zJ))
  (zL (zr (zJC (zC 4)) (zL (zBF (zBg (zC 4)) (zEJ 6 7) (sIf (tst (zEQ 2 lL gL (zD (toD (zC 6)) zJ))) (zAO (zAX (zD (toD (fC (.str "word"))) (zD (toD (zC 7)) (zD (toD (fB zX (zG (zC 5) zQ))) zJ))))) zAc))
  (zL (zAu (fM zv (zC 5) (zD (toD (fB zX (zG (fB zCP (zG (zC 4) zQ)) zQ))) zJ)))
  (zk 4 (zW zAl (zD (toD (zC 0)) (zD (toD (zC 4)) (zD (toD (zC 3)) zJ))))))) 1000)
  (zAO (zAX (zD (toD (fC (.str "none"))) (zD (toD (fB zX (zG (zC 5) zQ))) zJ))))))))
noncomputable def zBI (gL:List D -> FF) (lL:Lm):FF:=zCg (zBK 8 (zCY gL lL))
theorem zDo:∀ ts:List (List Int),zGO (ts.map tI) = some ts
 | []=>rfl
 | t :: r=>by
  rw [zUN];unfold zGO;rw [zDo r];show (match zAC (t.map D.int),some r with | some x,some xs=>some (x :: xs) | _,_=>none) = _;rw [zAx]
def lvD (L:List (List Int)):D:=.tup ((zBz L).map tI)
def shD (acc:List (List (List Int))):D:=.tup (acc.map lvD)
theorem zPo (lv:Lvl):(lE lv).map (·.1) = (lv.map (·.1)).map tI:=by
 unfold lE zDm wE;rw [zUS,zUS,zUS]; rfl
theorem zQQ {zA:List (List Int)} {lv:Lvl} (h:∀ p ∈ lv,IsS zA p.1):zJ6 (lv.map (·.1)) = true:=by
 unfold zJ6;rw [zUf];intro t ht;obtain ⟨p,hp,rfl⟩:=zUL.mp ht;have:=(h p hp).n0;cases e:p.1 with
 | nil=>rw [e] at this; cases this
 | cons x r=>rfl
theorem zNR {zA:List (List Int)} {lv:Lvl} (h:∀ p ∈ lv,IsS zA p.1) {f:FE} {σ:Sd} {M:Mem} {x:EV} (hf:f σ M = some (x,M)) (hx:zKj M x = some (lE lv)):fB zX (zG (fB zCP (zG f zQ)) zQ) σ M = some (.dat (lvD (lv.map (·.1))),M):=by
 refine zAd (x:=.fl ((zBz (lv.map (·.1))).map fun t=>D.tup (t.map D.int))) ?_ zDe;have e1:fB zCP (zG f zQ) σ M = zCP [x] M:=by unfold fB zG zQ; rw [hf]
 rw [e1];unfold zCP;dsimp only;rw [hx];dsimp only;rw [zPo,zDo];dsimp only;rw [zUJ (zQQ h)]
theorem zOC {i:Nat} {l:Lm} {g:List D -> FF} {f:FE} {σ:Sd} {M:Mem} {cs:List D} {a d:D} (hs:σ[i]? = some (some (.fn l cs))) (hf:f σ M = some (.dat a,M)) (hg:g cs [a] M = some (d,M)):zEQ i l g (zD (toD f) zJ) σ M = some (.dat d,M):=by
 unfold zEQ;rw [hs];dsimp only;rw [zUJ rfl,zh hf];dsimp only;rw [hg]
def Wh (zA:List (List Int)) (R:List Int) (lL:Lm) (cs:List D) (s h:Nat) (r:Option (List Int) × List (List (List Int))) (o:Out) (σ:Sd) (M':Mem):Prop:=match r.1 with
 | some w=>o = .ret (.tup [.str "word", tI w,shD r.2])
 | none=>o = .nx /\ (∃ v y6 y7,σ = [some (mD zA),some (tI R),some (.fn lL cs),some (.ref s),some (.ref v),some (.ref h),y6,y7]) /\ M'[h]? = some (.lst (r.2.map lvD))
abbrev srC:FT:=zJC (zC 4)
noncomputable abbrev srB (gL:List D -> FF) (lL:Lm):FS:=(zL (zBF (zBg (zC 4)) (zEJ 6 7) (sIf (tst (zEQ 2 lL gL (zD (toD (zC 6)) zJ))) (zAO (zAX (zD (toD (fC (.str "word"))) (zD (toD (zC 7)) (zD (toD (fB zX (zG (zC 5) zQ))) zJ))))) zAc))
  (zL (zAu (fM zv (zC 5) (zD (toD (fB zX (zG (fB zCP (zG (zC 4) zQ)) zQ))) zJ)))
  (zk 4 (zW zAl (zD (toD (zC 0)) (zD (toD (zC 4)) (zD (toD (zC 3)) zJ)))))))
section
variable {zA:List (List Int)} {l:Nat} {R:List Int} {gL:List D -> FF} {lL:Lm} {cs:List D} {due:List Int -> Bool}
theorem zOv (m:IsM zA l) (h9:zA.length <= 9) (hl9:l <= 1000) (hG:∀ S M',IsS zA S -> gL cs [tI S] M' = some (.bl (due S),M')) {seen:List (List Int)} {level:Lvl} {acc:List (List (List Int))} (mt:Met zA seen level) (hw:∀ s ∈ level,s.2.length <= 4000) (hacc:acc.length <= 4000)
  {M:Mem} {s v h:Nat} (hsv:s ≠ v) (hhv:h ≠ v) (hsh:s ≠ h) (es:M[s]? = some (dT (sE seen))) (ev:M[v]? = some (.dicT (lE level))) (eh:M[h]? = some (.lst (acc.map lvD))) {y6 y7:Option D} :
  OkS (srB gL lL [some (mD zA),some (tI R),some (.fn lL cs),some (.ref s),some (.ref v),some (.ref h),y6,y7] M) fun o σ M'=>match level.find? (fun p=>due p.1) with
   | some p=>o = .ret (.tup [.str "word", tI p.2,shD acc])
   | none=>o = .nx /\ (∃ v' y6 y7,σ = [some (mD zA),some (tI R),some (.fn lL cs),some (.ref s),some (.ref v'),some (.ref h),y6,y7] /\ s ≠ v' /\ h ≠ v' /\ M'[v']? = some (.dicT (lE (zAP zA l seen level).2))) /\ M'[s]? = some (dT (sE (zAP zA l seen level).1)) /\ M'[h]? = some (.lst ((acc ++ [level.map (·.1)]).map lvD)):=by
 have hvl:v < M.length:=(zT7.mp ev).1;have hhl:h < M.length:=(zT7.mp eh).1;rw [zK,zAb];have ei:zBg (zC 4) [some (mD zA),some (tI R),some (.fn lL cs),some (.ref s),some (.ref v),some (.ref h),y6,y7] M = some ((lE level).map (fun p=>D.tup [p.1,p.2]),none,M.set v (.froT (lE level))):=by
  unfold zBg zC;dsimp only [List.getElem?_cons_succ,List.getElem?_cons_zero];rw [ev]
 refine ⟨_,_,_,ei,?_⟩;have es1:(M.set v (.froT (lE level)))[s]? = some (dT (sE seen)):=by rw [zUY (Ne.symm hsv)]; exact es
 have ev1:(M.set v (.froT (lE level)))[v]? = some (.froT (lE level)):=zUy hvl;have eh1:(M.set v (.froT (lE level)))[h]? = some (.lst (acc.map lvD)):=by rw [zUY (Ne.symm hhv)]; exact eh
 have ln1:(M.set v (.froT (lE level))).length = M.length:=by simp
 generalize M.set v (.froT (lE level)) = M1 at es1 ev1 eh1 ln1;refine zA5 (I:=fun r σ M'=>M' = M1 /\ (∃ y6 y7,σ = [some (mD zA),some (tI R),some (.fn lL cs),some (.ref s),some (.ref v),some (.ref h),y6,y7]) /\ ∃ (done rest:Lvl),r = (lE rest).map (fun p=>D.tup [p.1,p.2]) /\ done ++ rest = level /\ ∀ p ∈ done,due p.1 = false) ?_ ?_ _ _ _ ⟨rfl,⟨_,_,rfl⟩,[],level,rfl,rfl,fun _ h=>by cases h⟩
 ·rintro x r σ M' ⟨rfl,⟨y6,y7,rfl⟩,done,rest,er,hd,nd⟩;cases rest with
  | nil=>cases er
  | cons sw rest=>
   obtain ⟨rfl,rfl⟩:=zU8 er;have hs:sw ∈ level:=by rw [<- hd]; simp
   refine ⟨zt,_,rfl,?_⟩;show OkS (sIf _ _ _ [some (mD zA),some (tI R),some (.fn lL cs),some (.ref s),some (.ref v),some (.ref h),some (tI sw.1),some (tI sw.2)] M') _;rw [zAF];refine zE (zAI (zOC (cs:=cs) (a:=tI sw.1) rfl rfl (hG _ _ (mt.lv sw hs)))) ?_;cases hdue:due sw.1 with
   | true=>
    rw [zUJ rfl];have e5:fB zX (zG (zC 5) zQ) [some (mD zA),some (tI R),some (.fn lL cs),some (.ref s),some (.ref v),some (.ref h),some (tI sw.1),some (tI sw.2)] M' = some (.dat (shD acc),M'):=zAd (x:=.dat (.ref h)) rfl (zc eh1);have e6:zAX (zD (toD (fC (.str "word"))) (zD (toD (zC 7)) (zD (toD (fB zX (zG (zC 5) zQ))) zJ))) [some (mD zA),some (tI R),some (.fn lL cs),some (.ref s),some (.ref v),some (.ref h),some (tI sw.1),some (tI sw.2)] M' = some (.dat (.tup [.str "word", tI sw.2,shD acc]),M'):=by
     unfold zAX; rw [zi (d:=.str "word") rfl (zi (d:=tI sw.2) rfl (zh e5))]; dsimp only; rw [zUJ (zS (by simp))]
    refine zj e6 ?_;show nxP _ _ (.ret _) _ _;rw [zBC];have hf:level.find? (fun p=>due p.1) = some sw:=by
     rw [<- hd,List.find?_append,List.find?_eq_none.mpr (fun p hp=>by rw [nd p hp]; simp)];simp [hdue]
    rw [hf]
   | false=>
    rw [zUM zUQ,zm];refine ⟨rfl,⟨_,_,rfl⟩,done ++ [sw],rest,rfl,by rw [<- hd]; simp,fun p hp=>?_⟩;rcases zUU.mp hp with z | z
    ·exact nd p z
    ·have:p = sw:=by simpa using z
     rw [this]; exact hdue
 ·rintro σ M' ⟨rfl,⟨y6,y7,rfl⟩,done,rest,er,hd,nd⟩;have:rest = []:=by cases rest with | nil=>rfl | cons _ _=>cases er
  subst this;rw [zUo] at hd;subst hd;refine ⟨zt,?_⟩;have hf:done.find? (fun p=>due p.1) = none:=List.find?_eq_none.mpr fun p hp=>by rw [nd p hp]; simp
  rw [hf,zN,zK,zBZ];refine zKI.mpr (zBB.mpr ⟨_,rfl,⟨_,zBR eh1⟩,?_⟩);refine zE (zh (zNR mt.lv (x:=.dat (.ref v)) rfl (by unfold zKj; dsimp only; rw [ev1]))) ?_;rw [zCK eh1 (by rw [zUD]; exact zUT (m:=4001) (by omega) (zS (by omega))),zN];have es2:(M'.set h (.lst (acc.map lvD ++ [lvD (done.map (·.1))])))[s]? = some (dT (sE seen)):=by rw [zUY (Ne.symm hsh)]; exact es1
  have ev2:(M'.set h (.lst (acc.map lvD ++ [lvD (done.map (·.1))])))[v]? = some (.froT (lE done)):=by rw [zUY hhv]; exact ev1
  have eh2:(M'.set h (.lst (acc.map lvD ++ [lvD (done.map (·.1))])))[h]? = some (.lst ((acc ++ [done.map (·.1)]).map lvD)):=by rw [zUy (by omega),zUw]; rfl
  generalize M'.set h (.lst (acc.map lvD ++ [lvD (done.map (·.1))])) = M2 at es2 ev2 eh2;have hh2:h < M2.length:=(zT7.mp eh2).1;have hs2:s < M2.length:=(zT7.mp es2).1;rw [zb];refine zCU.mpr (zE (zi (d:=mD zA) rfl (zi (d:=.ref v) rfl (zh (d:=.ref s) rfl))) ?_);refine Ok.mono (zGZ m h9 hl9 (Ne.symm hsv) mt (.inr ev2) es2 fun p hp=>zUV (hw p hp) (by omega)) ?_;rintro d M3 ⟨rfl,nl⟩;rw [zR];exact ⟨rfl,⟨M2.length,_,_,rfl,by omega,by omega,nl.ec⟩,nl.eb,by rw [nl.fr h hh2 hhv (Ne.symm hsh)]; exact eh2⟩
theorem zGi (m:IsM zA l) (h9:zA.length <= 9) (hl9:l <= 1000) (hG:∀ S M',IsS zA S -> gL cs [tI S] M' = some (.bl (due S),M')):∀ (n:Nat) {seen:List (List Int)} {level:Lvl} {acc:List (List (List Int))} {r:Option (List Int) × List (List (List Int))} {k:Nat},Met zA seen level -> (∀ p ∈ level,p.2.length <= k) -> acc.length <= k -> k + n <= 4000 -> run zA l due n seen level acc = some r ->
  ∀ (M:Mem) (s v h:Nat) (y6 y7:Option D),s ≠ v -> h ≠ v -> s ≠ h -> M[s]? = some (dT (sE seen)) -> M[v]? = some (.dicT (lE level)) -> M[h]? = some (.lst (acc.map lvD)) ->
  OkS (zr srC (srB gL lL) n [some (mD zA),some (tI R),some (.fn lL cs),some (.ref s),some (.ref v),some (.ref h),y6,y7] M) (Wh zA R lL cs s h r)
 | 0,_,_,_,_,_,_,_,_,_,hr=>by cases hr
 | n + 1,seen,level,acc,r,k,mt,hw,hacc,hk,hr=>by
  intro M s v h y6 y7 hsv hhv hsh es ev eh;have ec:srC [some (mD zA),some (tI R),some (.fn lL cs),some (.ref s),some (.ref v),some (.ref h),y6,y7] M = some (!(lE level).isEmpty,M):=by
   unfold srC zJC zC zKj;dsimp only [List.getElem?_cons_succ,List.getElem?_cons_zero];rw [ev]
  have hem:(lE level).isEmpty = level.isEmpty:=by cases level <;> rfl
  unfold run at hr;unfold zr;rw [ec,hem];cases hl:level.isEmpty with
  | true=>
   rw [hl,zUJ rfl] at hr;cases hr;exact ⟨_,_,_,rfl,rfl,⟨_,_,_,rfl⟩,eh⟩
  | false=>
   rw [hl,zUM zUQ] at hr;obtain ⟨o,σ1,M1,eb,hb⟩:=zOv (y6:=y6) (y7:=y7) (R:=R) (lL:=lL) m h9 hl9 hG mt (fun p hp=>zUV (hw p hp) (by omega)) (zUV hacc (by omega)) hsv hhv hsh es ev eh
   show OkS (match srB gL lL [some (mD zA),some (tI R),some (.fn lL cs),some (.ref s),some (.ref v),some (.ref h),y6,y7] M with
    | some (.nx,σ2,M2)=>zr srC (srB gL lL) n σ2 M2
    | some (.cnt,σ2,M2)=>zr srC (srB gL lL) n σ2 M2
    | some (.brk,σ2,M2)=>some (.nx,σ2,M2)
    | some (.ret d,σ2,M2)=>some (.ret d,σ2,M2)
    | none=>none) _
   rw [eb];cases hf:level.find? (fun p=>due p.1) with
   | some p=>
    rw [hf] at hr hb;cases hr;have hb':o = .ret (.tup [.str "word", tI p.2,shD acc]):=hb;subst hb';exact ⟨_,_,_,rfl,rfl⟩
   | none=>
    rw [hf] at hr hb;obtain ⟨rfl,⟨v',y6',y7',rfl,n1,n2,ev'⟩,es',eh'⟩:=hb;have g:=mt.next m;exact zGi m h9 hl9 hG n (k:=k + 1) g.met (zKy (n:=k + 1) (fun p hp=>Nat.succ_le_succ (hw p hp)) fun _ h=>by cases h) (by rw [zUK,zXJ]; omega) (by omega) hr _ _ _ _ _ _ n1 n2 hsh es' ev' eh'
def zER (r:Option (List Int) × List (List (List Int))):D:=match r.1 with
 | some w=> .tup [.str "word", tI w,shD r.2]
 | none=> .tup [.str "none", shD r.2]
theorem zDs {f g:FE} {σ:Sd} {M:Mem} {S:List Int} {v:D} (hf:f σ (M ++ [.dicT []]) = some (.dat (tI S),M ++ [.dicT []])) (hg:g σ (M ++ [.dicT []]) = some (.dat v,M ++ [.dicT []])):zCu f g σ M = some (.dat (.ref M.length),M ++ [dT [(S,v)]]):=by
 have t1:toD f σ (M ++ [.dicT []]) = some (tI S,M ++ [.dicT []]):=by unfold toD; rw [hf]
 have t2:toD g σ (M ++ [.dicT []]) = some (v,M ++ [.dicT []]):=by unfold toD; rw [hg]
 unfold zCu;rw [t1]; dsimp only; rw [t2]; dsimp only;have e:(M ++ [MO.dicT []])[M.length]? = some (dT []):=by simp
 rw [zEL e (by simp)];dsimp only;refine zVr (fun z=>some (EV.dat (D.ref M.length),z)) ?_;show (M ++ [MO.dicT []]).set M.length (dT [(S,v)]) = M ++ [dT [(S,v)]];rw [List.set_append_right _ _ (zUA _)];simp
theorem zJN (m:IsM zA l) (h9:zA.length <= 9) (hl9:l <= 1000) (hG:∀ S M',IsS zA S -> gL cs [tI S] M' = some (.bl (due S),M')) (sR:IsS zA R) {r:Option (List Int) × List (List (List Int))} (hr:run zA l due 1000 [R] [(R,[])] [] = some r) (M:Mem) :
  Ok (zBK 8 (zCY gL lL) [mD zA,tI R,.fn lL cs] M) fun d _=>d = zER r:=by
 rw [zAT];unfold zCY;show OkS (zL _ _ [some (mD zA),some (tI R),some (.fn lL cs),none,none,none,none,none] M) _;rw [zK,zb];refine zE (zDs (S:=R) (v:=.bl true) rfl rfl) ?_;rw [zR,zN];have e1:(M ++ [dT [(R,.bl true)]])[M.length]? = some (dT (sE [R])):=by simp; rfl
 have l1:(M ++ [dT [(R,.bl true)]]).length = M.length + 1:=by simp
 generalize M ++ [dT [(R,.bl true)]] = M1 at e1 l1;show OkS (zL _ _ [some (mD zA),some (tI R),some (.fn lL cs),some (.ref M.length),none,none,none,none] M1) _;have et:∀ (σ:Sd) (M:Mem),zAX zJ σ M = some (.dat (tI []),M):=fun σ M=>by unfold zAX zJ; dsimp only; rw [zUJ (zS (by simp))]; rfl
 rw [zK,zb];refine zE (zDs (S:=R) (v:=tI []) rfl (et _ _)) ?_;rw [zR,zN];have e2:(M1 ++ [dT [(R,tI [])]])[M1.length]? = some (.dicT (lE [(R,[])])):=by simp; rfl
 have e1':(M1 ++ [dT [(R,tI [])]])[M.length]? = some (dT (sE [R])):=by rw [zUB (by omega)]; exact e1
 have l2:(M1 ++ [dT [(R,tI [])]]).length = M.length + 2:=by simp [l1]
 rw [l1] at e2;rw [l1];generalize M1 ++ [dT [(R,tI [])]] = M2 at e2 e1' l2;show OkS (zL _ _ [some (mD zA),some (tI R),some (.fn lL cs),some (.ref M.length),some (.ref (M.length + 1)),none,none,none] M2) _;rw [zK,zb];refine zDa.mpr (zBO.mpr ⟨zS (by simp),zAQ ?_⟩);rw [zN,l2];have e3:(M2 ++ [MO.lst ([]:List D)])[M.length + 2]? = some (.lst (([]:List (List (List Int))).map lvD)):=by rw [<- l2]; simp
 have e2':(M2 ++ [MO.lst ([]:List D)])[M.length + 1]? = some (.dicT (lE [(R,[])])):=by rw [zUB (by omega)]; exact e2
 have e1'':(M2 ++ [MO.lst ([]:List D)])[M.length]? = some (dT (sE [R])):=by rw [zUB (by omega)]; exact e1'
 generalize M2 ++ [MO.lst ([]:List D)] = M3 at e3 e2' e1'';show OkS (zL _ _ [some (mD zA),some (tI R),some (.fn lL cs),some (.ref M.length),some (.ref (M.length + 1)),some (.ref (M.length + 2)),none,none] M3) _;rw [zK];have mt:Met zA [R] [(R,[])]:=⟨by simp,fun S hS=>by rw [zUW.mp hS]; exact sR,fun p hp=>by rw [zUW.mp hp]; exact sR⟩;refine OkS.mono (zGi (R:=R) m h9 hl9 hG 1000 (k:=0) (acc:=[]) mt (fun p hp=>by rw [zUW.mp hp]; exact zUA 0) (zUA 0) (by omega) hr _ _ _ _ _ _ (by omega) (by omega) (by omega) e1'' e2' e3) ?_;intro o σ M4 hW;unfold Wh at hW;unfold zER;split at hW
 ·rename_i w hw;subst hW;rw [zBC]
 ·rename_i hw;obtain ⟨rfl,⟨v,y6,y7,rfl⟩,eh⟩:=hW;rw [zN];have e5:fB zX (zG (zC 5) zQ) [some (mD zA),some (tI R),some (.fn lL cs),some (.ref M.length),some (.ref v),some (.ref (M.length + 2)),y6,y7] M4 = some (.dat (shD r.2),M4):=zAd (x:=.dat (.ref (M.length + 2))) rfl (zc eh);have e6:zAX (zD (toD (fC (.str "none"))) (zD (toD (fB zX (zG (zC 5) zQ))) zJ)) [some (mD zA),some (tI R),some (.fn lL cs),some (.ref M.length),some (.ref v),some (.ref (M.length + 2)),y6,y7] M4 = some (.dat (.tup [.str "none", shD r.2]),M4):=by
   unfold zAX; rw [zi (d:=.str "none") rfl (zh e5)]; dsimp only; rw [zUJ (zS (by simp))]
  exact zj e6 rfl
theorem zAo {n:Nat} (xs:List Int):D.und n (tI xs) = true:=zCo xs
theorem zHK {n:Nat} (acc:List (List (List Int))):D.und n (shD acc) = true:=by
 unfold shD D.und;refine zCG fun x hx=>?_;obtain ⟨L,_,rfl⟩:=zUL.mp hx;unfold lvD D.und;refine zCG fun x hx=>?_;obtain ⟨t,_,rfl⟩:=zUL.mp hx;exact zAo t
theorem zDt {n:Nat} (r:Option (List Int) × List (List (List Int))):D.und n (zER r) = true:=by
 unfold zER;split
 ·unfold D.und D.unds D.unds D.unds D.unds;rw [zAo,zHK]; rfl
 ·unfold D.und D.unds D.unds D.unds;rw [zHK]; rfl
theorem zIW (m:IsM zA l) (h9:zA.length <= 9) (hl9:l <= 1000) (hG:∀ S M',IsS zA S -> gL cs [tI S] M' = some (.bl (due S),M')) (hcs:D.unds 0 cs = true) (sR:IsS zA R) {r:Option (List Int) × List (List (List Int))} (hr:run zA l due 1000 [R] [(R,[])] [] = some r) {M:Mem} :
  zBI gL lL [mD zA,tI R,.fn lL cs] M = some (zER r,M):=by
 refine zM ?_;unfold zBI;refine zB6 ?_ (Ok.mono (zJN m h9 hl9 hG sR hr []) ?_)
 ·unfold D.unds D.unds D.unds D.unds;rw [zDW,zAo];show (true && (true && (D.und 0 (.fn lL cs) && true))) = true;unfold D.und;rw [hcs]; rfl
 ·rintro d M1 rfl;exact ⟨zDt r,rfl,rfl⟩
theorem zNV {idx:List Nat} {mm:Lm -> FF} {g1 g2:FA} {σ:Sd} {M M1 M2:Mem} {ds1 ds2:List D} {d:D} (h1:g1 σ M = some (ds1,M1)) (h2:g2 σ M1 = some (ds2,M2)) (hc:zOV σ idx = some cs) (h:∀ l,mm l (ds1 ++ .fn l cs :: ds2) M2 = some (d,M2)):zFk idx mm g1 g2 σ M = some (.dat d,M2):=by
 have hx:∃ r:D × Mem,∀ l,mm l (ds1 ++ .fn l cs :: ds2) M2 = some r:=⟨(d,M2),h⟩;have hs:=hx.choose_spec ⟨0,.none,[]⟩;rw [h] at hs;unfold zFk;rw [h1]; dsimp only; rw [h2]; dsimp only; rw [hc]; dsimp only; rw [dif_pos hx];rw [<- zU4 hs]
end
open Lac (dT zDm zBD zFa zJg zEL)
noncomputable def zDc:FS:=(zL (zk 3 (zA3 zJ))
  (zL (zBF (zBd (zC 1)) (gN 4) (sIf (tst (fOp (kIn true) (fOp kIx (fOp kIx (zC 0) (zC 4)) (zC 2)) (zC 3))) (zAu (fM zv (zC 3) (zD (toD (fOp kIx (fOp kIx (zC 0) (zC 4)) (zC 2))) zJ))) zAc))
  (zAO (fB zX (zG (fB zDE (zG (zC 3) zQ)) zQ)))))
noncomputable def zAE:FF:=zCg (zBK 5 zDc)
noncomputable def zCT:FS:=(zL (zk 2 (zCu (zC 1) (fC (.bl true))))
  (zL (zk 3 (zA3 (zD (toD (zA3 (zD (toD (zC 1)) zJ))) zJ)))
  (zL (zr (tst (fOp kGt (fB zp (zG (fOp kIx (zC 3) (zFR (fC (.int 1)))) zQ)) (fC (.int 0)))) (zL (zk 4 (zA3 zJ))
  (zL (zBF (zBd (fOp kIx (zC 3) (zFR (fC (.int 1))))) (gN 5) (zBF (zAD (zD (toD (fB zp (zG (fOp kIx (zC 0) (fC (.int 0))) zQ))) zJ)) (gN 6) (zL (zk 7 (zW zAE (zD (toD (zC 0)) (zD (toD (zC 5)) (zD (toD (zC 6)) zJ)))))
  (sIf (tst (fOp (zEG true) (zC 7) (zC 2))) (zL (zA4 (fC (.bl true)) (zC 2) (zC 7))
  (zAu (fM zv (zC 4) (zD (toD (zC 7)) zJ)))) zAc))))
  (zAu (fM zv (zC 3) (zD (toD (zC 4)) zJ))))) 1000)
  (zAO (fB zX (zG (zAK [8] (zBd (fSl (zC 3) zCd (zCF (zFR (fC (.int 1)))))) (gN 8) zAe (fB zX (zG (fB zEd (zG (zC 8) zQ)) zQ))) zQ))))))
noncomputable def zA6:FF:=zCg (zBK 9 zCT)
theorem zRm {M:Mem} {n:Nat} {c:List Int} {x:Int} (h:M[n]? = some (.lst (c.map D.int))):kIn true (.dat (.int x)) (.dat (.ref n)) M = some (.dat (.bl (!decide (x ∈ c))),M):=by
 unfold kIn; dsimp only; rw [zc h]; dsimp only; rw [zAx];have:(c.any fun y=>decide (y = x)) = decide (x ∈ c):=by
  by_cases hm:x ∈ c
  ·rw [zVC hm];exact List.any_eq_true.mpr ⟨x,hm,by simp⟩
  ·rw [zUd hm];exact List.any_eq_false.mpr fun y hy=>by simp; intro e; exact hm (e ▸ hy)
 show some (EV.dat (.bl (!(c.any fun y=>decide (y = x)))),M) = _;rw [this]
theorem zLW {c:List Int} {n:Nat} {M:Mem} {f:FE} {σ:Sd} (hf:f σ M = some (.dat (.ref n),M)) (h:M[n]? = some (.lst (c.map D.int))) (hz:c.length < 64):fB zDE (zG f zQ) σ M = some (.fl ((zA1 c).map D.int),M):=by
 rw [fB1 hf];unfold zDE; dsimp only; rw [zc h]; dsimp only; rw [zAx]; dsimp only; rw [zUJ hz]
theorem zEx {zA:List (List Int)} {l:Nat} (m:IsM zA l) (h9:zA.length <= 9) {S:List Int} (s:IsS zA S) {g:Int} (g0:0 <= g) (g1:g < l) {M:Mem}:zAE [mD zA,tI S,.int g] M = some (tI (setR zA S g),M):=by
 refine zM ?_;unfold zAE;refine zB6 (by unfold D.unds D.unds D.unds D.unds; rw [zDW,zAo]; rfl) ?_;rw [zAT];unfold zDc;show OkS (zL _ _ [some (mD zA),some (tI S),some (.int g),none,none] []) _;rw [zK,zb];refine zDa.mpr (zBO.mpr ⟨zS (by simp),zAQ ?_⟩);rw [zN,zK,zAb];show ∃ xs gd M2,zBd (zC 1) [some (mD zA),some (tI S),some (.int g),some (.ref 0),none] [.lst []] = some (xs,gd,M2) /\ _;refine ⟨_,_,_,zCQ (x:=.dat (tI S)) rfl zAJ,?_⟩;have hl:=s.len;refine zA5 (I:=fun r σ M'=>∃ (y:Option D) (done rest c:List Int),σ = [some (mD zA),some (tI S),some (.int g),some (.ref 0),y] /\ r = rest.map D.int /\ done ++ rest = S /\ M' = [.lst (c.map D.int)] /\ c.Nodup /\ (∀ x,x ∈ c ↔ x ∈ done.map fun h=>zAS zA h g) /\ c.length <= done.length) ?_ ?_ _ _ _ ⟨none,[],S,[],rfl,rfl,rfl,rfl,List.nodup_nil,fun x=>by simp,zUA _⟩
 ·rintro x r σ M' ⟨y,done,rest,c,rfl,hr,hd,rfl,nd,hc,hcl⟩;obtain ⟨z,rest',rfl,rfl,rfl⟩:=zGN hr;refine ⟨zt,_,rfl,?_⟩;obtain ⟨z0,z1⟩:=s.mem z (by rw [<- hd]; simp);have ix:∀ {σ:Sd} {M:Mem},σ[0]? = some (some (mD zA)) -> σ[4]? = some (some (.int z)) -> σ[2]? = some (some (.int g)) -> fOp kIx (fOp kIx (zC 0) (zC 4)) (zC 2) σ M = some (.dat (.int (zAS zA z g)),M):=fun {σ M} q0 q1 q2=>
   m.ix z0 z1 g0 g1 (by unfold zC; rw [q0]) (by unfold zC; rw [q1]) (by unfold zC; rw [q2])
  have e0:([MO.lst (c.map D.int)]:Mem)[0]? = some (.lst (c.map D.int)):=rfl;show OkS (sIf _ _ _ [some (mD zA),some (tI S),some (.int g),some (.ref 0),some (.int z)] [.lst (c.map D.int)]) _;rw [zAF];refine zE (zAI (zI (y:=.dat (.ref 0)) (ix rfl rfl rfl) rfl (zRm e0))) ?_;by_cases hm:zAS zA z g ∈ c
  ·rw [zUM (by simp [hm]),zm];refine ⟨_,done ++ [z],rest',c,rfl,rfl,by rw [<- hd]; simp,rfl,nd,fun x=>?_,by simp; omega⟩;rw [hc x];simp only [zUw,zUU,zUN,List.map_nil,zUW];exact ⟨.inl,fun h=>h.elim id fun e=>by rw [e]; exact (hc _).mp hm⟩
  ·rw [zUJ (by simp [hm]),zBZ];refine zKI.mpr (zBB.mpr ⟨_,rfl,⟨_,zBR e0⟩,?_⟩);refine zE (zh (ix rfl rfl rfl)) ?_;rw [zCK e0 (by rw [zUD]; exact zUT (m:=100) (by have:=zVr List.length hd; simp at this; omega) (zS (by omega)))];refine ⟨_,done ++ [z],rest',c ++ [zAS zA z g],rfl,rfl,by rw [<- hd]; simp,by simp,?_,fun x=>?_,by simp; omega⟩
   ·rw [zVI];exact ⟨nd,by simp,fun a ha b hb q=>hm (by rw [<- (show b = zAS zA z g by simpa using hb),<- q]; exact ha)⟩
   ·simp only [zUw,zUU,zUN,List.map_nil,zUW,hc x]
 ·rintro σ M' ⟨y,done,rest,c,rfl,hr,hd,rfl,nd,hc,hcl⟩;have:rest = []:=by cases rest with | nil=>rfl | cons _ _=>cases hr
  subst this;rw [zUo] at hd;subst hd;refine ⟨zt,?_⟩;rw [zN];have e0:([MO.lst (c.map D.int)]:Mem)[0]? = some (.lst (c.map D.int)):=rfl;refine zj (zAd (zLW (n:=0) rfl e0 (by omega)) zDe) ?_;have:zA1 c = setR zA done g:=by
   unfold setR;refine zG5 ?_ (zOo _) fun x=>?_
   ·have h1:=zDp c;have h2:(zA1 c).Nodup:=(zAz _).nodup_iff.mpr nd;exact (h1.and h2).imp fun {a b} h=>by have:=h.1; have:=h.2; omega
   ·rw [(zAz _).mem_iff,hc x,zH6]
  rw [this];exact ⟨zAo _,rfl,rfl⟩
abbrev zGP (lv:Lvl):List D:=(lv.map (·.1)).map tI
structure Lw (M1 M:Mem) (b:Nat) (p:List (List Int) × Lvl):Prop where
 len:M.length = M1.length
 e0:M[0]? = some (dT (sE p.1))
 eb:M[b]? = some (.lst (zGP p.2))
 fr:∀ j,j ≠ 0 -> j ≠ b -> M[j]? = M1[j]?
theorem zH8 {zA:List (List Int)} {l:Nat} (m:IsM zA l) (h9:zA.length <= 9) {M1 M:Mem} {b:Nat} (hb0:b ≠ 0) {seen0:List (List Int)} {p:List (List Int) × Lvl} (gr:Gr zA seen0 p) (nl:Lw M1 M b p) {R S w:List Int} (s:IsS zA S) {g:Int} (g0:0 <= g) (g1:g < l) {y7:Option D} :
  OkS (zL (zk 7 (zW zAE (zD (toD (zC 0)) (zD (toD (zC 5)) (zD (toD (zC 6)) zJ)))))
  (sIf (tst (fOp (zEG true) (zC 7) (zC 2))) (zL (zA4 (fC (.bl true)) (zC 2) (zC 7))
  (zAu (fM zv (zC 4) (zD (toD (zC 7)) zJ)))) zAc) [some (mD zA),some (tI R),some (.ref 0),some (.ref 2),some (.ref b),some (tI S),some (.int g),y7,none] M)
   fun o σ M'=>o = .nx /\ (∃ y7,σ = [some (mD zA),some (tI R),some (.ref 0),some (.ref 2),some (.ref b),some (tI S),some (.int g),y7,none]) /\ Lw M1 M' b (zAf zA S w p g):=by
 refine zBE (zBA (zi rfl (zi rfl (zh rfl))) (zEx m h9 s g0 g1)) ?_;show OkS (sIf _ _ _ [some (mD zA),some (tI R),some (.ref 0),some (.ref 2),some (.ref b),some (tI S),some (.int g),some (tI (setR zA S g)),none] M) _;rw [zAF];refine zE (zAI (zI (x:=.dat (tI (setR zA S g))) (y:=.dat (.ref 0)) rfl rfl (zJg nl.e0))) ?_;rw [zD1 .non,zFD];unfold zAf;by_cases hm:setR zA S g ∈ p.1
 ·rw [zUJ hm,zUM (by simp [hm]),zm];exact ⟨rfl,⟨_,rfl⟩,nl⟩
 ·rw [zUM hm,zUJ (by simp [hm]),zK];have hl:=zBQ gr.nd gr.st h9;have hk:p.2.length <= p.1.length:=by rw [gr.eq,zUK,zUD]; omega
  refine zBt rfl rfl rfl (zEL nl.e0 (by unfold sE; rw [zUD]; omega)) ?_;rw [zN,zJa hm,zBZ];have h0l:0 < M.length:=(zT7.mp nl.e0).1;have hbl:b < M.length:=(zT7.mp nl.eb).1;have eb':(M.set 0 (dT (sE (p.1 ++ [setR zA S g]))))[b]? = some (.lst (zGP p.2)):=by rw [zUY (Ne.symm hb0)]; exact nl.eb
  refine zKI.mpr (zBB.mpr ⟨_,rfl,⟨_,zBR eb'⟩,?_⟩);refine zE (zh (d:=tI (setR zA S g)) rfl) ?_;rw [zCK eb' (by unfold zGP; rw [zUD,zUD]; exact zUT (m:=600) (by omega) (zS (by omega)))];refine ⟨rfl,⟨_,rfl⟩,by simp [nl.len],?_,?_,fun j h1 h2=>?_⟩
  ·rw [zUY hb0,zUy h0l]
  ·rw [zUy (by simpa using hbl)]; simp
  ·rw [zUY (Ne.symm h2),zUY (Ne.symm h1)]; exact nl.fr j h1 h2
structure Tl (M:Mem) (ts:List Nat) (acc:List (List (List Int))):Prop where
 len:ts.length = acc.length
 at_:∀ (i t:Nat),ts[i]? = some t -> ∃ L:List (List Int),acc[i]? = some L /\ M[t]? = some (.lst (L.map tI)) /\ t ≠ 0 /\ t ≠ 2
 ne:∀ L ∈ acc,zJ6 L = true /\ L.length <= 600
abbrev lwC:FT:=(tst (fOp kGt (fB zp (zG (fOp kIx (zC 3) (zFR (fC (.int 1)))) zQ)) (fC (.int 0))))
noncomputable abbrev lwB:FS:=(zL (zk 4 (zA3 zJ))
  (zL (zBF (zBd (fOp kIx (zC 3) (zFR (fC (.int 1))))) (gN 5) (zBF (zAD (zD (toD (fB zp (zG (fOp kIx (zC 0) (fC (.int 0))) zQ))) zJ)) (gN 6) (zL (zk 7 (zW zAE (zD (toD (zC 0)) (zD (toD (zC 5)) (zD (toD (zC 6)) zJ)))))
  (sIf (tst (fOp (zEG true) (zC 7) (zC 2))) (zL (zA4 (fC (.bl true)) (zC 2) (zC 7))
  (zAu (fM zv (zC 4) (zD (toD (zC 7)) zJ)))) zAc))))
  (zAu (fM zv (zC 3) (zD (toD (zC 4)) zJ)))))
section
variable {zA:List (List Int)} {l:Nat} {R:List Int}
theorem zQU {M:Mem} {ts:List Nat} {v:Nat} {f:FE} {σ:Sd} (hf:f σ M = some (.dat (.ref 2),M)) (e2:M[2]? = some (.lst ((ts ++ [v]).map D.ref))):fOp kIx f (zFR (fC (.int 1))) σ M = some (.dat (.ref v),M) :=
 zI (g:=zFR (fC (.int 1))) (y:=.dat (.int (-1))) hf rfl (zBn (zc e2) (by rw [zUw]; exact Law.zMz _ _))
theorem zKM (m:IsM zA l) (h9:zA.length <= 9) (hl9:l <= 1000) {seen:List (List Int)} {level:Lvl} {acc:List (List (List Int))} (mt:Met zA seen level) (hz:level.length <= 600) (hacc:acc.length <= 4000) {M:Mem} {ts:List Nat} {v:Nat} (v0:v ≠ 0) (v2:v ≠ 2)
  (e0:M[0]? = some (dT (sE seen))) (e2:M[2]? = some (.lst ((ts ++ [v]).map D.ref))) (ev:M[v]? = some (.lst (zGP level))) (tl:Tl M ts acc) {y4 y5 y6 y7:Option D} :
  OkS (lwB [some (mD zA),some (tI R),some (.ref 0),some (.ref 2),y4,y5,y6,y7,none] M) fun o σ M'=>o = .nx /\ ∃ v',(∃ y4 y5 y6 y7,σ = [some (mD zA),some (tI R),some (.ref 0),some (.ref 2),y4,y5,y6,y7,none]) /\ v' ≠ 0 /\ v' ≠ 2 /\ M'[0]? = some (dT (sE (zAP zA l seen level).1)) /\ M'[2]? = some (.lst (((ts ++ [v]) ++ [v']).map D.ref)) /\ M'[v']? = some (.lst (zGP (zAP zA l seen level).2)) /\ Tl M' (ts ++ [v]) (acc ++ [level.map (·.1)]):=by
 have h2l:2 < M.length:=(zT7.mp e2).1;have hvl:v < M.length:=(zT7.mp ev).1;rw [zK,zb];refine zDa.mpr (zBO.mpr ⟨zS (by simp),zAQ ?_⟩);rw [zN];have lw1:Lw (M ++ [MO.lst ([]:List D)]) (M ++ [MO.lst ([]:List D)]) M.length (seen,[]):=⟨rfl,by rw [zUB (by omega)]; exact e0,by simp,fun j _ _=>rfl⟩;have k1:∀ j,j < M.length -> (M ++ [MO.lst ([]:List D)])[j]? = M[j]?:=fun j hj=>zUB hj;have ln1:(M ++ [MO.lst ([]:List D)]).length = M.length + 1:=by simp
 generalize M ++ [MO.lst ([]:List D)] = M1 at lw1 k1 ln1;have hb0:M.length ≠ 0:=by omega
 generalize hb:M.length = b at lw1 hb0 k1 ln1;show OkS (zL _ _ [some (mD zA),some (tI R),some (.ref 0),some (.ref 2),some (.ref b),y5,y6,y7,none] M1) _;rw [zK,zAb];have ev1:M1[v]? = some (.lst (zGP level)):=by rw [k1 v (by omega)]; exact ev
 have e21:M1[2]? = some (.lst ((ts ++ [v]).map D.ref)):=by rw [k1 2 (by omega)]; exact e2
 refine ⟨_,_,_,zCQ (zQU rfl e21) (zc ev1),?_⟩;refine zA5 (I:=fun r σ M'=>(∃ y5 y6 y7,σ = [some (mD zA),some (tI R),some (.ref 0),some (.ref 2),some (.ref b),y5,y6,y7,none]) /\ ∃ (done rest:Lvl),r = zGP rest /\ done ++ rest = level /\ Lw M1 M' b (done.foldl (zAy zA l) (seen,[]))) ?_ ?_ _ _ _ ⟨⟨_,_,_,rfl⟩,[],level,rfl,rfl,lw1⟩
 ·rintro x r σ M' ⟨⟨y5,y6,y7,rfl⟩,done,rest,er,hd,nl⟩;cases rest with
  | nil=>cases er
  | cons sw rest=>
   obtain ⟨rfl,rfl⟩:=zU8 er;have hs:sw ∈ level:=by rw [<- hd]; simp
   have sS:=mt.lv sw hs;have gr0:Gr zA seen (done.foldl (zAy zA l) (seen,[])):=zE8 m (fun s z=>mt.lv s (by rw [<- hd]; simp [z])) ⟨mt.nd,mt.st,by simp⟩;generalize hp:done.foldl (zAy zA l) (seen,[]) = p0 at nl gr0;have gd:∀ {M2:Mem} {q:List (List Int) × Lvl},Lw M1 M2 b q -> M2[v]? = some (.lst (zGP level)):=fun {M2 q} h=>by rw [h.fr v v0 (by omega)]; exact ev1
   refine ⟨.inl (gd nl),_,rfl,?_⟩;show OkS (zBF _ _ _ [some (mD zA),some (tI R),some (.ref 0),some (.ref 2),some (.ref b),some (tI sw.1),y6,y7,none] M') _;rw [zAb];have el:fB zp (zG (fOp kIx (zC 0) (fC (.int 0))) zQ) [some (mD zA),some (tI R),some (.ref 0),some (.ref 2),some (.ref b),some (tI sw.1),y6,y7,none] M' = some (.dat (.int l),M'):=by
    have hr:=m.get (h:=0) (by decide) (by have:=m.r0; omega);have:=zBH (f:=fOp kIx (zC 0) (fC (.int 0))) (σ:=[some (mD zA),some (tI R),some (.ref 0),some (.ref 2),some (.ref b),some (tI sw.1),y6,y7,none]) (M:=M') (zI (x:=.dat (mD zA)) rfl rfl (zBn zAJ (zHH (by decide) (by have:=m.r0; omega)))) zAJ;rw [this,zUD,hr.1]
   refine ⟨_,_,_,zAV el (by omega) (by omega),?_⟩;rw [zWo];refine zC0 (n:=l) (I:=fun i σ M2=>(∃ y6 y7,σ = [some (mD zA),some (tI R),some (.ref 0),some (.ref 2),some (.ref b),some (tI sw.1),y6,y7,none]) /\ Gr zA seen ((zCa i).foldl (zAf zA sw.1 sw.2) p0) /\ Lw M1 M2 b ((zCa i).foldl (zAf zA sw.1 sw.2) p0)) ?_ ?_ _ _ ⟨⟨_,_,rfl⟩,gr0,nl⟩
   ·rintro i σ M2 hi ⟨⟨y6,y7,rfl⟩,gr,nl2⟩;refine ⟨_,rfl,?_⟩;refine OkS.mono (zH8 (w:=sw.2) m h9 hb0 gr nl2 sS (g:=(i:Nat)) (by omega) (by omega)) ?_;rintro o σ M3 ⟨rfl,⟨y7,rfl⟩,nl3⟩;have e:(zCa (i + 1)).foldl (zAf zA sw.1 sw.2) p0 = zAf zA sw.1 sw.2 ((zCa i).foldl (zAf zA sw.1 sw.2) p0) (i:Nat):=by
     unfold zCa; rw [List.range_succ,zUw,List.foldl_append]; rfl
    show (∃ y6 y7,_) /\ _;rw [e];exact ⟨⟨_,_,rfl⟩,zFA m gr sS (by omega) (by omega),nl3⟩
   ·rintro σ M2 ⟨⟨y6,y7,rfl⟩,gr,nl2⟩;refine ⟨⟨_,_,_,rfl⟩,done ++ [sw],rest,rfl,by rw [<- hd]; simp,?_⟩;rw [List.foldl_append,hp];exact nl2
 ·rintro σ M' ⟨⟨y5,y6,y7,rfl⟩,done,rest,er,hd,nl⟩;have:rest = []:=by cases rest with | nil=>rfl | cons _ _=>cases er
  subst this;rw [zUo] at hd;subst hd;have nl':Lw M1 M' b (zAP zA l seen done):=nl;have gN:=mt.next m;generalize zAP zA l seen done = pN at nl' gN;refine ⟨.inl (by rw [nl'.fr v v0 (by omega)]; exact ev1),?_⟩;have e2':M'[2]? = some (.lst ((ts ++ [v]).map D.ref)):=by rw [nl'.fr 2 (by decide) (by omega)]; exact e21
  rw [zN,zBZ];refine zKI.mpr (zBB.mpr ⟨_,rfl,⟨_,zBR e2'⟩,?_⟩);refine zE (zh (d:=.ref b) rfl) ?_;rw [zCK e2' (by rw [zUD,zUK,tl.len]; exact zUT (m:=4002) (by simp; omega) (zS (by omega)))];have hl':=nl'.len;refine ⟨rfl,b,⟨_,_,_,_,rfl⟩,hb0,by omega,?_,?_,?_,?_⟩
  ·rw [zUY (by decide)]; exact nl'.e0
  ·rw [zUy (by omega)]; simp
  ·rw [zUY (by omega)]; exact nl'.eb
  ·refine ⟨by simp [tl.len],fun i t e=>?_,fun L hL=>?_⟩
   ·by_cases hi:i < ts.length
    ·rw [zUB hi] at e;obtain ⟨L,q1,q2,q3,q4⟩:=tl.at_ i t e;have htl:t < M.length:=(zT7.mp q2).1;exact ⟨L,by rw [zUB (by rw [<- tl.len]; exact hi)]; exact q1,by rw [zUY (Ne.symm q4),nl'.fr t q3 (by omega),k1 t (by omega)]; exact q2,q3,q4⟩
    ·have hi2:i = ts.length:=by
      have:=(zT7.mp e).1;rw [zUK] at this;simp at this; omega
     subst hi2;simp at e;subst e;exact ⟨done.map (·.1),by rw [tl.len]; simp,by rw [zUY (Ne.symm v2),nl'.fr v v0 (by omega)]; exact ev1,v0,v2⟩
   ·rcases zUU.mp hL with z | z
    ·exact tl.ne L z
    ·have:L = done.map (·.1):=by simpa using z
     rw [this];exact ⟨zQQ mt.lv,by rw [zUD]; exact hz⟩
theorem zDv (m:IsM zA l) (h9:zA.length <= 9) (hl9:l <= 1000):∀ (n:Nat) {seen:List (List Int)} {level:Lvl} {acc:List (List (List Int))} {r:Option (List Int) × List (List (List Int))},Met zA seen level -> level.length <= 600 -> acc.length + n <= 4000 -> run zA l (fun _=>false) n seen level acc = some r ->
  ∀ (M:Mem) (ts:List Nat) (v:Nat) (y4 y5 y6 y7:Option D),v ≠ 0 -> v ≠ 2 -> M[0]? = some (dT (sE seen)) -> M[2]? = some (.lst ((ts ++ [v]).map D.ref)) -> M[v]? = some (.lst (zGP level)) -> Tl M ts acc ->
  OkS (zr lwC lwB n [some (mD zA),some (tI R),some (.ref 0),some (.ref 2),y4,y5,y6,y7,none] M) fun o σ M'=>o = .nx /\ ∃ ts v,(∃ y4 y5 y6 y7,σ = [some (mD zA),some (tI R),some (.ref 0),some (.ref 2),y4,y5,y6,y7,none]) /\ M'[2]? = some (.lst ((ts ++ [v]).map D.ref)) /\ Tl M' ts r.2
 | 0,_,_,_,_,_,_,_,hr=>by cases hr
 | n + 1,seen,level,acc,r,mt,hz,hacc,hr=>by
  intro M ts v y4 y5 y6 y7 v0 v2 e0 e2 ev tl;have ec:lwC [some (mD zA),some (tI R),some (.ref 0),some (.ref 2),y4,y5,y6,y7,none] M = some (!level.isEmpty,M):=by
   have h1:=zAI (zI (zBH (zQU (f:=zC 3) (σ:=[some (mD zA),some (tI R),some (.ref 0),some (.ref 2),y4,y5,y6,y7,none]) rfl e2) (zc ev)) (show fC (.int 0) _ M = _ from rfl) (zM (zRE.mpr ⟨rfl,rfl⟩)));refine h1.trans (zVr (fun z=>some (z,M)) ?_);unfold zGP;rw [zUD,zUD];cases level with
   | nil=>rfl
   | cons a b=>simp
  unfold run at hr;unfold zr;rw [ec];cases hl:level.isEmpty with
  | true=>
   rw [hl,zUJ rfl] at hr;cases hr;exact ⟨_,_,_,rfl,rfl,ts,v,⟨_,_,_,_,rfl⟩,e2,tl⟩
  | false=>
   rw [hl,zUM zUQ] at hr;obtain ⟨o,σ1,M1,eb,rfl,v',⟨z4,z5,z6,z7,rfl⟩,w0,w2,f0,f2,fv,tl'⟩:=zKM (R:=R) (y4:=y4) (y5:=y5) (y6:=y6) (y7:=y7) m h9 hl9 mt hz (by omega) v0 v2 e0 e2 ev tl
   show OkS (match lwB [some (mD zA),some (tI R),some (.ref 0),some (.ref 2),y4,y5,y6,y7,none] M with
    | some (.nx,σ2,M2)=>zr lwC lwB n σ2 M2
    | some (.cnt,σ2,M2)=>zr lwC lwB n σ2 M2
    | some (.brk,σ2,M2)=>some (.nx,σ2,M2)
    | some (.ret d,σ2,M2)=>some (.ret d,σ2,M2)
    | none=>none) _
   rw [eb];have hf:level.find? (fun p=>(fun _=>false:List Int -> Bool) p.1) = none:=List.find?_eq_none.mpr fun p hp=>by simp
   rw [hf] at hr;have g:=mt.next m;have hzz:(zAP zA l seen level).2.length <= 600:=by
    have h1:=zBQ g.nd g.st h9;rw [g.eq,zUK,zUD] at h1;omega
   exact zDv m h9 hl9 n g.met hzz (by rw [zUK,zXJ]; omega) hr _ _ _ _ _ _ _ w0 w2 f0 f2 fv tl'
theorem aCl {f:FE} {g:FA} {σ:Sd} {M M1 M2:Mem} {xs ds:List D} (h:f σ M = some (.fl xs,M1)) (hg:g σ (M1 ++ [.lst xs]) = some (ds,M2)):zD (toD f) g σ M = some (.ref M1.length :: ds,M2):=by
 unfold zD; rw [zSX h]; dsimp only; rw [hg]
theorem zPX {g:FA} {σ:Sd} {M M1:Mem} {ds:List D} (h:g σ M = some (ds,M1)) (hz:ds.length <= 100000):zA3 g σ M = some (.fl ds,M1):=by
 unfold zA3; rw [h]; dsimp only; rw [zUJ (zS hz)]
theorem zMd {xs:List D} (hx:0 < xs.length):L3.zE2 xs none (some (-1)) = xs.take (xs.length - 1):=by
 unfold L3.zE2;have h0:HT.sIx xs.length 0 none = 0:=rfl;have h1:HT.sIx xs.length xs.length (some (-1)) = xs.length - 1:=by
  unfold HT.sIx; simp; omega
 rw [h0,h1,List.drop_zero,Nat.sub_zero]
def zKY (M:Mem) (t:Nat):List (List Int):=match M[t]? with
 | some (.lst xs)=>(zGO xs).getD []
 | _=>[]
theorem zGW (m:IsM zA l) (h9:zA.length <= 9) (hl9:l <= 1000) (sR:IsS zA R) {r:Option (List Int) × List (List (List Int))} (hr:run zA l (fun _=>false) 1000 [R] [(R,[])] [] = some r) {M:Mem}:zA6 [mD zA,tI R] M = some (shD r.2,M):=by
 refine zM ?_;unfold zA6;refine zB6 (by unfold D.unds D.unds D.unds; rw [zDW,zAo]; rfl) ?_;rw [zAT];unfold zCT;show OkS (zL _ _ [some (mD zA),some (tI R),none,none,none,none,none,none,none] []) _;rw [zK,zb];refine zE (zDs (S:=R) (v:=.bl true) rfl rfl) ?_;rw [zR,zN];show OkS (zL _ _ [some (mD zA),some (tI R),some (.ref 0),none,none,none,none,none,none] [dT [(R,.bl true)]]) _;rw [zK,zb];have e3:zA3 (zD (toD (zA3 (zD (toD (zC 1)) zJ))) zJ) [some (mD zA),some (tI R),some (.ref 0),none,none,none,none,none,none] [dT [(R,.bl true)]] = some (.fl [.ref 1],[dT [(R,.bl true)],.lst [tI R]]) :=
  zPX (aCl (zPX (zh (d:=tI R) rfl) (by simp)) rfl) (by simp)
 refine zE e3 (zAQ ?_);rw [zN];show OkS (zL _ _ [some (mD zA),some (tI R),some (.ref 0),some (.ref 2),none,none,none,none,none] [dT [(R,.bl true)],.lst [tI R],.lst [.ref 1]]) _;rw [zK];have mt:Met zA [R] [(R,[])]:=⟨by simp,fun S hS=>by rw [zUW.mp hS]; exact sR,fun p hp=>by rw [zUW.mp hp]; exact sR⟩;refine OkS.mono (zDv (R:=R) m h9 hl9 1000 (acc:=[]) mt (by simp) (by simp) hr [dT [(R,.bl true)],.lst [tI R],.lst [.ref 1]] [] 1 none none none none (by decide) (by decide) rfl rfl rfl ⟨rfl,fun i t e=>by simp at e,fun _ h=>by cases h⟩) ?_;rintro o σ M1 ⟨rfl,ts,v,⟨y4,y5,y6,y7,rfl⟩,e2,tl⟩;rw [zN];have es:fSl (zC 3) zCd (zCF (zFR (fC (.int 1)))) [some (mD zA),some (tI R),some (.ref 0),some (.ref 2),y4,y5,y6,y7,none] M1 = some (.fl (ts.map D.ref),M1):=by
  refine zM (zNx.mpr (zBB.mpr ⟨_,rfl,zGG.mpr (zF3.mpr ?_)⟩));refine zE (a:=.dat (.int (-1))) (M:=M1) rfl (zFw.mpr ?_);rw [zMp (zBR e2) rfl,zMd (by simp)];exact ⟨by simp,rfl⟩
 have hz:ts.length <= 100000:=by rw [tl.len]; exact zUV (zFG 1000 hr) (by simp)
 have ec:zAK [8] (zBd (fSl (zC 3) zCd (zCF (zFR (fC (.int 1)))))) (gN 8) zAe (fB zX (zG (fB zEd (zG (zC 8) zQ)) zQ)) [some (mD zA),some (tI R),some (.ref 0),some (.ref 2),y4,y5,y6,y7,none] M1 = some (.fl (ts.map fun t=>lvD (zKY M1 t)),M1):=by
  refine zED ts D.ref _ (gd:=none) (by unfold zBd; rw [es]; rfl) trivial hz fun t ht=>?_;obtain ⟨i,hi⟩:=List.getElem?_of_mem ht;obtain ⟨L,q1,q2,_,_⟩:=tl.at_ i t hi;obtain ⟨ne,nz⟩:=tl.ne L (zUv q1);refine ⟨_,rfl,?_⟩;have ea:zKY M1 t = L:=by unfold zKY; rw [q2]; dsimp only; rw [zDo]; rfl
  rw [ea];refine zAd (x:=.fl ((zBz L).map fun t=>D.tup (t.map D.int))) ?_ zDe;rw [fB1 (x:=.dat (.ref t)) rfl];unfold zEd;dsimp only;rw [zc q2];dsimp only;rw [zDo];dsimp only;rw [zUJ ⟨ne,by omega⟩]
 refine zj (zAd ec zDe) ?_;have:(ts.map fun t=>lvD (zKY M1 t)) = r.2.map lvD:=by
  apply List.ext_getElem?;intro i;rw [zUR,zUR];by_cases hi:i < ts.length
  ·obtain ⟨L,q1,q2,_,_⟩:=tl.at_ i ts[i] (zT8 hi);rw [zT8 hi,q1];have ea:zKY M1 ts[i] = L:=by unfold zKY; rw [q2]; dsimp only; rw [zDo]; rfl
   show some (lvD (zKY M1 ts[i])) = some (lvD L);rw [ea]
  ·rw [zVD (by omega),zVD (by rw [<- tl.len]; omega)]; rfl
 rw [this];exact ⟨zHK _,rfl,rfl⟩
end
open Lac (dT zDm zBD zFa zJg zEL)
noncomputable def zC4:FS:=(zL (zk 2 (zCu (zC 1) (fC (.bl true))))
  (zL (zk 3 (zA3 (zD (toD (zAX (zD (toD (zC 1)) (zD (toD (zAX zJ)) zJ)))) zJ)))
  (zL (zk 4 (fC (.int 0)))
  (zL (zr (tst (fOp kLt (zC 4) (fB zp (zG (zC 3) zQ)))) (zL (zBF (zAD (zD (toD (fB zp (zG (fOp kIx (zC 0) (fC (.int 0))) zQ))) zJ)) (gN 5) (zL (zk 6 (zW zAE (zD (toD (zC 0)) (zD (toD (fOp kIx (fOp kIx (zC 3) (zC 4)) (fC (.int 0)))) (zD (toD (zC 5)) zJ)))))
  (sIf (tst (fOp (zEG true) (zC 6) (zC 2))) (zL (zA4 (fC (.bl true)) (zC 2) (zC 6))
  (zAu (fM zv (zC 3) (zD (toD (zAX (zD (toD (zC 6)) (zD (toD (fOp zAt (fOp kIx (fOp kIx (zC 3) (zC 4)) (fC (.int 1))) (zAX (zD (toD (zC 5)) zJ)))) zJ)))) zJ)))) zAc)))
  (zk 4 (fOp zAt (zC 4) (fC (.int 1))))) 1000)
  (zAO (zC 3))))))
noncomputable def zBa:FF:=zBK 7 zC4
def zBX (zA:List (List Int)) (l:Nat):Nat -> List (List Int) -> Lvl -> Lvl
 | 0,_,_=>[]
 | n + 1,seen,level=>if level.isEmpty then [] else level ++ zBX zA l n (zAP zA l seen level).1 (zAP zA l seen level).2
theorem zPM {zA:List (List Int)} {S w:List Int} {p:List (List Int) × Lvl} {g:Int} {n:Nat} (h:∀ s ∈ p.2,s.2.length = n) (hw:w.length + 1 = n):∀ s ∈ (zAf zA S w p g).2,s.2.length = n:=by
 unfold zAf;split
 ·exact h
 ·intro s hs;rcases zUU.mp hs with z | z
  ·exact h s z
  ·rw [zUW.mp z]; simpa using hw
theorem zK1 {zA:List (List Int)} {S w:List Int} {n:Nat} (hw:w.length + 1 = n):∀ (gs:List Int) {p:List (List Int) × Lvl},(∀ s ∈ p.2,s.2.length = n) -> ∀ s ∈ (gs.foldl (zAf zA S w) p).2,s.2.length = n
 | [],_,h=>h
 | g :: r,p,h=>zK1 hw r (zPM h hw)
theorem zHR {zA:List (List Int)} {l n:Nat}:∀ {level:Lvl} {p:List (List Int) × Lvl},(∀ s ∈ level,s.2.length + 1 = n) -> (∀ s ∈ p.2,s.2.length = n) -> ∀ s ∈ (level.foldl (zAy zA l) p).2,s.2.length = n
 | [],_,_,h=>h
 | s :: r,p,hs,h=>zHR (level:=r) (fun x hx=>hs x (zUH _ hx)) (zK1 (hs s zUI) _ h)
theorem zK2 {zA:List (List Int)} {l:Nat} {due:List Int -> Bool}:∀ (n:Nat) {seen:List (List Int)} {level:Lvl} {acc:List (List (List Int))} {r:Option (List Int) × List (List (List Int))},run zA l due n seen level acc = some r -> ∃ more,r.2 = acc ++ more
 | 0,_,_,_,_,h=>by cases h
 | n + 1,seen,level,acc,r,h=>by
  unfold run at h;split at h
  ·cases h; exact ⟨[],by simp⟩
  ·split at h
   ·cases h; exact ⟨[],by simp⟩
   ·obtain ⟨more,e⟩:=zK2 n h;exact ⟨_,by rw [e,zVA]⟩
theorem zGj {zA:List (List Int)} {l:Nat} {due:List Int -> Bool}:∀ (n:Nat) {seen:List (List Int)} {level:Lvl} {acc:List (List (List Int))} {r:Option (List Int) × List (List (List Int))} {w:List Int},(∀ s ∈ level,s.2.length = acc.length) -> run zA l due n seen level acc = some r -> r.1 = some w -> w.length = r.2.length
 | 0,_,_,_,_,_,_,h,_=>by cases h
 | n + 1,seen,level,acc,r,w,hw,h,h1=>by
  unfold run at h;split at h
  ·cases h; cases h1
  ·split at h
   ·rename_i p hp;cases h;cases h1;exact hw p (List.mem_of_find?_eq_some hp)
   ·exact zGj n (zHR (fun s hs=>by rw [hw s hs]; simp) fun _ h=>by cases h) h h1
theorem zIE {zA:List (List Int)} {l:Nat} {due:List Int -> Bool} {R:List Int} (n:Nat) {r:Option (List Int) × List (List (List Int))} {w:List Int} (h:run zA l due n [R] [(R,[])] [] = some r) (h1:r.1 = some w):w.length = r.2.length :=
 zGj n (fun s hs=>by rw [zUW.mp hs]; rfl) h h1
theorem zFX {zA:List (List Int)} {l:Nat} {due:List Int -> Bool}:∀ (n:Nat) {seen:List (List Int)} {level:Lvl} {acc:List (List (List Int))} {r0:Option (List Int) × List (List (List Int))},(∀ s ∈ level,s.2.length = acc.length) -> run zA l (fun _=>false) n seen level acc = some r0 ->
  run zA l due n seen level acc = some (match (zBX zA l n seen level).find? fun p=>due p.1 with | some p=>(some p.2,r0.2.take p.2.length) | none=>(none,r0.2))
 | 0,_,_,_,_,_,h=>by cases h
 | n + 1,seen,level,acc,r0,hw,h=>by
  have hf:level.find? (fun p=>(fun _=>false:List Int -> Bool) p.1) = none:=List.find?_eq_none.mpr fun p hp=>by simp
  unfold run at h;unfold run zBX;rw [hf] at h;cases hl:level.isEmpty with
  | true=>
   rw [hl,zUJ rfl] at h;cases h;rw [zUJ rfl,zUJ rfl];rfl
  | false=>
   rw [hl,zUM zUQ] at h;rw [zUM zUQ,zUM zUQ,List.find?_append];cases hd:level.find? (fun p=>due p.1) with
   | some p=>
    obtain ⟨more,e⟩:=zK2 n h;show some (some p.2,acc) = some (some p.2,r0.2.take p.2.length);rw [hw p (List.mem_of_find?_eq_some hd),e,zVA,List.take_left]
   | none=>
    rw [Option.none_or];exact zFX n (zHR (fun s hs=>by rw [hw s hs]; simp) fun _ h=>by cases h) h
theorem zIM {zA:List (List Int)} {l:Nat} (m:IsM zA l) (h9:zA.length <= 9):∀ (n:Nat) {seen:List (List Int)} {level:Lvl},Met zA seen level -> (zBX zA l n seen level).length + seen.length <= 512 + level.length
 | 0,seen,level,h=>by have:=zBQ h.nd h.st h9; show 0 + _ <= _; omega
 | n + 1,seen,level,h=>by
  unfold zBX;split
  ·have:=zBQ h.nd h.st h9; show 0 + _ <= _; omega
  ·have g:=h.next m;have h1:=zIM m h9 n g.met;have h2:=zVr List.length g.eq;rw [zUK,zUD] at h2;rw [zUK]; omega
theorem zLB {zA:List (List Int)} {l:Nat} (m:IsM zA l):∀ (n:Nat) {seen:List (List Int)} {level:Lvl},Met zA seen level -> ∀ p ∈ zBX zA l n seen level,IsS zA p.1
 | 0,_,_,_,p,hp=>by cases hp
 | n + 1,seen,level,h,p,hp=>by
  unfold zBX at hp;split at hp
  ·cases hp
  ·rcases zUU.mp hp with z | z
   ·exact h.lv p z
   ·exact zLB m n (h.next m).met p z
theorem zLf {g:FA} {σ:Sd} {M M1:Mem} {ds:List D} (h:g σ M = some (ds,M1)) (hz:ds.length <= 100000):zAX g σ M = some (.dat (.tup ds),M1):=by
 unfold zAX; rw [h]; dsimp only; rw [zUJ (zS hz)]
def wD (p:List Int × List Int):D:=.tup [tI p.1,tI p.2]
structure Lq (M:Mem) (t j:Nat) (seen:List (List Int)) (told:Lvl):Prop where
 et:M[t]? = some (dT (sE seen))
 ej:M[j]? = some (.lst (told.map wD))
section
variable {zA:List (List Int)} {l:Nat} {R:List Int}
theorem zKk (m:IsM zA l) (h9:zA.length <= 9) {M:Mem} {t j:Nat} (htj:t ≠ j) {seen0:List (List Int)} {p:List (List Int) × Lvl} (gr:Gr zA seen0 p) {pre:Lvl} (hz:pre.length <= 2000) (lq:Lq M t j p.1 (pre ++ p.2)) {a:Nat} {S w:List Int} (ha:pre[a]? = some (S,w)) (s:IsS zA S) (hw:w.length <= 5000) {g:Int} (g0:0 <= g) (g1:g < l) {y6:Option D} :
  OkS (zL (zk 6 (zW zAE (zD (toD (zC 0)) (zD (toD (fOp kIx (fOp kIx (zC 3) (zC 4)) (fC (.int 0)))) (zD (toD (zC 5)) zJ)))))
  (sIf (tst (fOp (zEG true) (zC 6) (zC 2))) (zL (zA4 (fC (.bl true)) (zC 2) (zC 6))
  (zAu (fM zv (zC 3) (zD (toD (zAX (zD (toD (zC 6)) (zD (toD (fOp zAt (fOp kIx (fOp kIx (zC 3) (zC 4)) (fC (.int 1))) (zAX (zD (toD (zC 5)) zJ)))) zJ)))) zJ)))) zAc) [some (mD zA),some (tI R),some (.ref t),some (.ref j),some (.int a),some (.int g),y6] M)
   fun o σ M'=>o = .nx /\ (∃ y6,σ = [some (mD zA),some (tI R),some (.ref t),some (.ref j),some (.int a),some (.int g),y6]) /\ Lq M' t j (zAf zA S w p g).1 (pre ++ (zAf zA S w p g).2):=by
 have at_:∀ {M:Mem} {told:Lvl} {i:Int} {d:D} {σ:Sd},M[j]? = some (.lst ((pre ++ told).map wD)) -> σ[3]? = some (some (.ref j)) -> σ[4]? = some (some (.int a)) -> atI [tI S,tI w] i = some d -> fOp kIx (fOp kIx (zC 3) (zC 4)) (fC (.int i)) σ M = some (.dat d,M):=fun {M told i d σ} ej e3 e4 hd=>by
  have v3:zC 3 σ M = some (.dat (.ref j),M):=by unfold zC; rw [e3]
  have v4:zC 4 σ M = some (.dat (.int a),M):=by unfold zC; rw [e4]
  have hal:=(zT7.mp ha).1;exact zI (zI v3 v4 (zBn (zc ej) (zHX (by rw [zUR,zUB hal,ha]; rfl)))) rfl (zBn zAJ hd)
 refine zBE (zBA (zi rfl (zi (at_ (i:=0) lq.ej rfl rfl (d:=tI S) rfl) (zh rfl))) (zEx m h9 s g0 g1)) ?_;show OkS (sIf _ _ _ [some (mD zA),some (tI R),some (.ref t),some (.ref j),some (.int a),some (.int g),some (tI (setR zA S g))] M) _;rw [zAF];refine zE (zAI (zI (x:=.dat (tI (setR zA S g))) (y:=.dat (.ref t)) rfl rfl (zJg lq.et))) ?_;rw [zD1 .non,zFD];unfold zAf;by_cases hm:setR zA S g ∈ p.1
 ·rw [zUJ hm,zUM (by simp [hm]),zm];exact ⟨rfl,⟨_,rfl⟩,lq⟩
 ·rw [zUM hm,zUJ (by simp [hm]),zK];have hl:=zBQ gr.nd gr.st h9;have hk:p.2.length <= p.1.length:=by rw [gr.eq,zUK,zUD]; omega
  refine zBt rfl rfl rfl (zEL lq.et (by unfold sE; rw [zUD]; omega)) ?_;rw [zN,zJa hm,zBZ];have htl:t < M.length:=(zT7.mp lq.et).1;have hjl:j < M.length:=(zT7.mp lq.ej).1;have ej':(M.set t (dT (sE (p.1 ++ [setR zA S g]))))[j]? = some (.lst ((pre ++ p.2).map wD)):=by rw [zUY htj]; exact lq.ej
  have et':(M.set t (dT (sE (p.1 ++ [setR zA S g]))))[t]? = some (dT (sE (p.1 ++ [setR zA S g]))):=zUy htl;have ln':(M.set t (dT (sE (p.1 ++ [setR zA S g])))).length = M.length:=by simp
  generalize M.set t (dT (sE (p.1 ++ [setR zA S g]))) = M1 at ej' et' ln';refine zKI.mpr (zBB.mpr ⟨_,rfl,⟨_,zBR ej'⟩,?_⟩);have tp:zAX (zD (toD (zC 5)) zJ) [some (mD zA),some (tI R),some (.ref t),some (.ref j),some (.int a),some (.int g),some (tI (setR zA S g))] M1 = some (.dat (.tup [.int g]),M1):=by
   exact zLf (zh (d:=.int g) rfl) (by simp)
  have tw:zAX (zD (toD (zC 6)) (zD (toD (fOp zAt (fOp kIx (fOp kIx (zC 3) (zC 4)) (fC (.int 1))) (zAX (zD (toD (zC 5)) zJ)))) zJ)) [some (mD zA),some (tI R),some (.ref t),some (.ref j),some (.int a),some (.int g),some (tI (setR zA S g))] M1 = some (.dat (wD (setR zA S g,w ++ [g])),M1):=by
   exact zLf (zi (d:=tI (setR zA S g)) rfl (zh (zI (at_ (i:=1) ej' rfl rfl (d:=tI w) rfl) tp (zKp hw)))) (by simp)
  refine zE (zh tw) ?_;rw [zCK ej' (by rw [zUD,zUK]; exact zUT (m:=5000) (by omega) (zS (by omega)))];refine ⟨rfl,⟨_,rfl⟩,?_,?_⟩
  ·rw [zUY (Ne.symm htj)]; exact et'
  ·rw [zUy (by omega)]; simp
theorem zP5 (m:IsM zA l) (h9:zA.length <= 9) (hl9:l <= 1000) {M:Mem} {t j:Nat} (htj:t ≠ j) {seen0:List (List Int)} {p:List (List Int) × Lvl} (gr:Gr zA seen0 p) {pre:Lvl} (hz:pre.length <= 2000) (lq:Lq M t j p.1 (pre ++ p.2)) {a:Nat} {S w:List Int} (ha:pre[a]? = some (S,w)) (s:IsS zA S) (hw:w.length <= 5000) {y5 y6:Option D} :
  OkS (zL (zBF (zAD (zD (toD (fB zp (zG (fOp kIx (zC 0) (fC (.int 0))) zQ))) zJ)) (gN 5) (zL (zk 6 (zW zAE (zD (toD (zC 0)) (zD (toD (fOp kIx (fOp kIx (zC 3) (zC 4)) (fC (.int 0)))) (zD (toD (zC 5)) zJ)))))
  (sIf (tst (fOp (zEG true) (zC 6) (zC 2))) (zL (zA4 (fC (.bl true)) (zC 2) (zC 6))
  (zAu (fM zv (zC 3) (zD (toD (zAX (zD (toD (zC 6)) (zD (toD (fOp zAt (fOp kIx (fOp kIx (zC 3) (zC 4)) (fC (.int 1))) (zAX (zD (toD (zC 5)) zJ)))) zJ)))) zJ)))) zAc)))
  (zk 4 (fOp zAt (zC 4) (fC (.int 1)))) [some (mD zA),some (tI R),some (.ref t),some (.ref j),some (.int a),y5,y6] M)
   fun o σ M'=>o = .nx /\ (∃ y5 y6,σ = [some (mD zA),some (tI R),some (.ref t),some (.ref j),some (.int ((a + 1:Nat):Int)),y5,y6]) /\ Lq M' t j (zAy zA l p (S,w)).1 (pre ++ (zAy zA l p (S,w)).2):=by
 rw [zK,zAb];have el:fB zp (zG (fOp kIx (zC 0) (fC (.int 0))) zQ) [some (mD zA),some (tI R),some (.ref t),some (.ref j),some (.int a),y5,y6] M = some (.dat (.int l),M):=by
  have hr:=m.get (h:=0) (by decide) (by have:=m.r0; omega);have:=zBH (f:=fOp kIx (zC 0) (fC (.int 0))) (σ:=[some (mD zA),some (tI R),some (.ref t),some (.ref j),some (.int a),y5,y6]) (M:=M) (zI (x:=.dat (mD zA)) rfl rfl (zBn zAJ (zHH (by decide) (by have:=m.r0; omega)))) zAJ;rw [this,zUD,hr.1]
 refine ⟨_,_,_,zAV el (by omega) (by omega),?_⟩;rw [zWo];refine zC0 (n:=l) (I:=fun i σ M2=>(∃ y5 y6,σ = [some (mD zA),some (tI R),some (.ref t),some (.ref j),some (.int a),y5,y6]) /\ Gr zA seen0 ((zCa i).foldl (zAf zA S w) p) /\ Lq M2 t j ((zCa i).foldl (zAf zA S w) p).1 (pre ++ ((zCa i).foldl (zAf zA S w) p).2)) ?_ ?_ _ _ ⟨⟨_,_,rfl⟩,gr,lq⟩
 ·rintro i σ M2 hi ⟨⟨y5,y6,rfl⟩,gr2,lq2⟩;refine ⟨_,rfl,?_⟩;refine OkS.mono (zKk m h9 htj gr2 hz lq2 ha s hw (g:=(i:Nat)) (by omega) (by omega)) ?_;rintro o σ M3 ⟨rfl,⟨y6,rfl⟩,lq3⟩;have e:(zCa (i + 1)).foldl (zAf zA S w) p = zAf zA S w ((zCa i).foldl (zAf zA S w) p) (i:Nat):=by
   unfold zCa; rw [List.range_succ,zUw,List.foldl_append]; rfl
  show (∃ y5 y6,_) /\ _;rw [e];exact ⟨⟨_,_,rfl⟩,zFA m gr2 s (by omega) (by omega),lq3⟩
 ·rintro σ M2 ⟨⟨y5,y6,rfl⟩,gr2,lq2⟩;rw [zN,zb];refine zE (a:=.dat (.int ((a:Int) + 1))) (zI (x:=.dat (.int a)) rfl rfl rfl) ?_;rw [zR];exact ⟨rfl,⟨_,_,rfl⟩,lq2⟩
abbrev qC:FT:=(tst (fOp kLt (zC 4) (fB zp (zG (zC 3) zQ))))
noncomputable abbrev qB:FS:=(zL (zBF (zAD (zD (toD (fB zp (zG (fOp kIx (zC 0) (fC (.int 0))) zQ))) zJ)) (gN 5) (zL (zk 6 (zW zAE (zD (toD (zC 0)) (zD (toD (fOp kIx (fOp kIx (zC 3) (zC 4)) (fC (.int 0)))) (zD (toD (zC 5)) zJ)))))
  (sIf (tst (fOp (zEG true) (zC 6) (zC 2))) (zL (zA4 (fC (.bl true)) (zC 2) (zC 6))
  (zAu (fM zv (zC 3) (zD (toD (zAX (zD (toD (zC 6)) (zD (toD (fOp zAt (fOp kIx (fOp kIx (zC 3) (zC 4)) (fC (.int 1))) (zAX (zD (toD (zC 5)) zJ)))) zJ)))) zJ)))) zAc)))
  (zk 4 (fOp zAt (zC 4) (fC (.int 1)))))
theorem zNB (m:IsM zA l) (h9:zA.length <= 9) (hl9:l <= 1000):∀ (f n k:Nat) (upto rest:Lvl) (seen0:List (List Int)) (p:List (List Int) × Lvl),Gr zA seen0 p -> (∀ s ∈ rest,IsS zA s.1) -> (∀ s ∈ rest,s.2.length <= k) -> (∀ s ∈ p.2,s.2.length <= k + 1) -> k + f <= 4000 ->
  ((rest.foldl (zAy zA l) p).2 = [] \/ 514 <= n + (rest.foldl (zAy zA l) p).1.length) -> upto.length + (rest ++ zBX zA l n (rest.foldl (zAy zA l) p).1 (rest.foldl (zAy zA l) p).2).length <= 1500 -> (rest ++ zBX zA l n (rest.foldl (zAy zA l) p).1 (rest.foldl (zAy zA l) p).2).length < f ->
  ∀ (M:Mem) (t j:Nat) (y5 y6:Option D),t ≠ j -> Lq M t j p.1 ((upto ++ rest) ++ p.2) ->
  OkS (zr qC qB f [some (mD zA),some (tI R),some (.ref t),some (.ref j),some (.int upto.length),y5,y6] M) fun o σ M'=>o = .nx /\ (∃ a y5 y6,σ = [some (mD zA),some (tI R),some (.ref t),some (.ref j),a,y5,y6]) /\ M'[j]? = some (.lst ((upto ++ (rest ++ zBX zA l n (rest.foldl (zAy zA l) p).1 (rest.foldl (zAy zA l) p).2)).map wD))
 | 0,_,_,_,_,_,_,_,_,_,_,_,_,_,hf=>absurd hf (Nat.not_lt_zero _)
 | f + 1,n,k,upto,rest,seen0,p,gr,hs,hk1,hk2,hk,hc,hz,hf=>by
  intro M t j y5 y6 htj lq;have ec:∀ {told:Lvl},M[j]? = some (.lst (told.map wD)) -> qC [some (mD zA),some (tI R),some (.ref t),some (.ref j),some (.int upto.length),y5,y6] M = some (decide ((upto.length:Int) < told.length),M):=fun {told} e=>by
   have h1:=zBH (f:=zC 3) (σ:=[some (mD zA),some (tI R),some (.ref t),some (.ref j),some (.int upto.length),y5,y6]) (M:=M) (x:=.dat (.ref j)) rfl (zc e);rw [zUD] at h1;exact zAI (zI (x:=.dat (.int upto.length)) rfl h1 (zM (zRP.mpr ⟨rfl,rfl⟩)))
  have one:∀ (n k:Nat) (sw:List Int × List Int) (rest:Lvl) (seen0:List (List Int)) (p:List (List Int) × Lvl),Gr zA seen0 p -> (∀ s ∈ sw :: rest,IsS zA s.1) -> (∀ s ∈ sw :: rest,s.2.length <= k) -> (∀ s ∈ p.2,s.2.length <= k + 1) -> k + f <= 4000 ->
    (((sw :: rest).foldl (zAy zA l) p).2 = [] \/ 514 <= n + ((sw :: rest).foldl (zAy zA l) p).1.length) -> upto.length + ((sw :: rest) ++ zBX zA l n ((sw :: rest).foldl (zAy zA l) p).1 ((sw :: rest).foldl (zAy zA l) p).2).length <= 1500 -> ((sw :: rest) ++ zBX zA l n ((sw :: rest).foldl (zAy zA l) p).1 ((sw :: rest).foldl (zAy zA l) p).2).length < f + 1 -> Lq M t j p.1 ((upto ++ (sw :: rest)) ++ p.2) ->
    OkS (zr qC qB (f + 1) [some (mD zA),some (tI R),some (.ref t),some (.ref j),some (.int upto.length),y5,y6] M) fun o σ M'=>o = .nx /\ (∃ a y5 y6,σ = [some (mD zA),some (tI R),some (.ref t),some (.ref j),a,y5,y6]) /\ M'[j]? = some (.lst ((upto ++ ((sw :: rest) ++ zBX zA l n ((sw :: rest).foldl (zAy zA l) p).1 ((sw :: rest).foldl (zAy zA l) p).2)).map wD)):=by
   intro n k sw rest seen0 p gr hs hk1 hk2 hk hc hz hf lq;unfold zr;rw [ec lq.ej,zVC (by simp only [zUK,zUb]; omega)];have hz':(upto ++ sw :: rest).length <= 2000:=by
    simp only [zUK,zUb] at hz ⊢; omega
   obtain ⟨o,σ1,M1,eb,rfl,⟨z5,z6,rfl⟩,lq1⟩:=zP5 (R:=R) (y5:=y5) (y6:=y6) m h9 hl9 htj gr (pre:=upto ++ sw :: rest) hz' lq (a:=upto.length) (S:=sw.1) (w:=sw.2) (by rw [zVE (zUA _)]; simp) (hs sw zUI) (by have:=hk1 sw zUI; omega)
   show OkS (match qB [some (mD zA),some (tI R),some (.ref t),some (.ref j),some (.int upto.length),y5,y6] M with
    | some (.nx,σ2,M2)=>zr qC qB f σ2 M2
    | some (.cnt,σ2,M2)=>zr qC qB f σ2 M2
    | some (.brk,σ2,M2)=>some (.nx,σ2,M2)
    | some (.ret d,σ2,M2)=>some (.ret d,σ2,M2)
    | none=>none) _
   have eb':qB [some (mD zA),some (tI R),some (.ref t),some (.ref j),some (.int upto.length),y5,y6] M = _:=eb;rw [eb'];have hlen:((upto ++ [sw]).length:Int) = ((upto.length + 1:Nat):Int):=by simp
   have ih:=zNB m h9 hl9 f n k (upto ++ [sw]) rest seen0 (zAy zA l p sw) (zLC m gr (hs sw zUI)) (fun s h=>hs s (zUH _ h)) (fun s h=>hk1 s (zUH _ h)) (zHo (Nat.succ_le_succ (hk1 sw zUI)) _ hk2) hk hc (by simp only [zUK,zUb,zVY] at hz ⊢; simp only [List.foldl_cons] at hz; omega) (by simp only [zUK,zUb,List.foldl_cons] at hf ⊢; omega) M1 t j z5 z6 htj (by simpa using lq1);rw [hlen] at ih;refine OkS.mono ih ?_;rintro o σ M' ⟨rfl,h1,h2⟩;exact ⟨rfl,h1,by simpa using h2⟩
  cases rest with
  | cons sw rest=>exact one n k sw rest seen0 p gr hs hk1 hk2 (by omega) hc hz hf lq
  | nil=>
   rw [zUo] at lq;have lq':Lq M t j p.1 ((upto ++ p.2) ++ []):=by rw [zUo]; exact lq
   show OkS _ fun o σ M'=>o = .nx /\ (∃ a y5 y6,σ = [some (mD zA),some (tI R),some (.ref t),some (.ref j),a,y5,y6]) /\ M'[j]? = some (.lst ((upto ++ ([] ++ zBX zA l n p.1 p.2)).map wD));rw [zWM];cases e2:p.2 with
   | nil=>
    have ef:zBX zA l n p.1 [] = []:=by cases n <;> rfl
    rw [e2] at lq;unfold zr;rw [ec lq.ej,zUd (by simp),ef,zUo];refine ⟨_,_,_,rfl,rfl,⟨_,_,_,rfl⟩,?_⟩;have:=lq.ej;rwa [zUo] at this
   | cons sw rest=>
    have hc':514 <= n + p.1.length:=by
     rcases hc with z | z
     ·have z':p.2 = []:=z;rw [e2] at z'; cases z'
     ·exact z
    have hml:=zBQ gr.nd gr.st h9;cases n with
    | zero=>omega
    | succ n=>
     have g2:Gr zA p.1 (p.1,[]):=⟨gr.nd,gr.st,by simp⟩;have gN:Gr zA p.1 (zAP zA l p.1 p.2):=gr.met.next m;have ef:zBX zA l (n + 1) p.1 (sw :: rest) = (sw :: rest) ++ zBX zA l n (zAP zA l p.1 (sw :: rest)).1 (zAP zA l p.1 (sw :: rest)).2:=rfl;rw [e2] at gN lq';have hz2:upto.length + (zBX zA l (n + 1) p.1 p.2).length <= 1500:=by simpa using hz
     have hf2:(zBX zA l (n + 1) p.1 p.2).length < f + 1:=by simpa using hf
     rw [e2,ef] at hz2 hf2;rw [ef];refine one n (k + 1) sw rest p.1 (p.1,[]) g2 (fun s h=>gr.lv s (by rw [e2]; exact h)) (fun s h=>hk2 s (by rw [e2]; exact h)) (fun _ h=>by cases h) (by omega) ?_ hz2 hf2 lq';have h2:=zVr List.length gN.eq;rw [zUK,zUD] at h2;by_cases hn:(zAP zA l p.1 (sw :: rest)).2 = []
     ·exact .inl hn
     ·right;have:=List.length_pos_iff.mpr hn;show 514 <= n + (zAP zA l p.1 (sw :: rest)).1.length;omega
theorem zHu (m:IsM zA l) (h9:zA.length <= 9) (hl9:l <= 1000) (sR:IsS zA R) (M:Mem) :
  Ok (zBa [mD zA,tI R] M) fun d M'=>∃ j,d = .ref j /\ M'[j]? = some (.lst ((zBX zA l 1000 [R] [(R,[])]).map wD)):=by
 unfold zBa;rw [zAT];unfold zC4;show OkS (zL _ _ [some (mD zA),some (tI R),none,none,none,none,none] M) _;rw [zK,zb];refine zE (zDs (S:=R) (v:=.bl true) rfl rfl) ?_;rw [zR,zN];have e1:(M ++ [dT [(R,.bl true)]])[M.length]? = some (dT (sE [R])):=by simp; rfl
 have l1:(M ++ [dT [(R,.bl true)]]).length = M.length + 1:=by simp
 generalize M ++ [dT [(R,.bl true)]] = M1 at e1 l1;generalize M.length = t at e1 l1;show OkS (zL _ _ [some (mD zA),some (tI R),some (.ref t),none,none,none,none] M1) _;rw [zK,zb];have et:∀ (σ:Sd) (M:Mem),zAX zJ σ M = some (.dat (tI []),M):=fun σ M=>zLf (ds:=[]) rfl (by simp);refine zE (zPX (ds:=[wD (R,[])]) (zh (zLf (ds:=[tI R,tI []]) (zi rfl (zh (et _ _))) (by simp))) (by simp)) (zAQ ?_);rw [zN];have e2:(M1 ++ [MO.lst [wD (R,[])]])[M1.length]? = some (.lst (([(R,[])]:Lvl).map wD)):=zBo _ _;have e1':(M1 ++ [MO.lst [wD (R,[])]])[t]? = some (dT (sE [R])):=by rw [zUB (by omega)]; exact e1
 generalize M1 ++ [MO.lst [wD (R,[])]] = M2 at e2 e1';have htj:t ≠ M1.length:=by omega
 generalize M1.length = j at e2 htj;show OkS (zL _ _ [some (mD zA),some (tI R),some (.ref t),some (.ref j),none,none,none] M2) _;refine zBE (d:=.int 0) rfl ?_;show OkS (zL _ _ [some (mD zA),some (tI R),some (.ref t),some (.ref j),some (.int ((([]:Lvl).length:Nat):Int)),none,none] M2) _;rw [zK];have mt:Met zA [R] [(R,[])]:=⟨by simp,fun S hS=>by rw [zUW.mp hS]; exact sR,fun p hp=>by rw [zUW.mp hp]; exact sR⟩;have gN:=mt.next m;have h2:=zVr List.length gN.eq;rw [zUK,zUD] at h2;have ef:zBX zA l 1000 [R] [(R,[])] = [(R,[])] ++ zBX zA l 999 (zAP zA l [R] [(R,[])]).1 (zAP zA l [R] [(R,[])]).2:=rfl;have fl:=zIM m h9 1000 mt;rw [ef] at fl;refine OkS.mono (zNB (R:=R) m h9 hl9 1000 999 0 [] [(R,[])] [R] ([R],[]) ⟨by simp,mt.st,by simp⟩ mt.lv (fun s hs=>by rw [zUW.mp hs]; exact zUA 0) (fun _ h=>by cases h) (by omega) (.inr ?_) ?_ ?_ M2 t j none none htj ⟨e1',by simpa using e2⟩) ?_
 ·show 514 <= 999 + (zAP zA l [R] [(R,[])]).1.length;omega
 ·show 0 + ([(R,[])] ++ zBX zA l 999 (zAP zA l [R] [(R,[])]).1 (zAP zA l [R] [(R,[])]).2).length <= 1500;simp only [zXJ] at fl; omega
 ·show ([(R,[])] ++ zBX zA l 999 (zAP zA l [R] [(R,[])]).1 (zAP zA l [R] [(R,[])]).2).length < 1000;simp only [zXJ] at fl; omega
 ·rintro o σ M3 ⟨rfl,⟨a,y5,y6,rfl⟩,e3⟩;rw [zN];exact zj rfl ⟨j,rfl,e3⟩
end
noncomputable def zB1 (g_rec:FF):FS:=(zL (sIf (tst (zEj "tuple" (zC 1))) (zL (sIf (zIF (zGp (tst (zEj "tuple" (zC 0)))) (tst (fOp kNe (fB zp (zG (zC 0) zQ)) (fB zp (zG (zC 1) zQ))))) (zAO (fC (.bl false))) zAc)
  (zAO (fB zNM (zG (zAK [2,3] (zRJ (zD (toD (zC 0)) (zD (toD (zC 1)) zJ))) (zEJ 2 3) zAe (zW g_rec (zD (toD (zC 2)) (zD (toD (zC 3)) zJ)))) zQ)))) zAc)
  (zL (sIf (tst (zEj "str" (zC 1))) (zAO (zE4 (zEj "str" (zC 0)) (fOp kEq (zC 0) (zC 1)))) zAc)
  (zAO (zE4 (zEj "int" (zC 0)) (zE4 (zNe (zEj "bool" (zC 0))) (fOp kEq (zC 0) (zC 1)))))))
noncomputable def zw:Nat -> FF
 | 0=>fun _ _=>none
 | n + 1=>zBK 4 (zB1 (zw n))
noncomputable def zCv:FF:=zw 5
def Pa:Nat -> D -> Prop
 | 0,d=>(∃ i,d = .int i) \/ ∃ x,d = .str x
 | n + 1,d=>((∃ i,d = .int i) \/ ∃ x,d = .str x) \/ ∃ ds,d = .tup ds /\ ds.length <= sizeLine /\ ∀ x ∈ ds,Pa n x
theorem Pa.int (n:Nat) (i:Int):Pa n (.int i):=by cases n; exact .inl ⟨i,rfl⟩; exact .inl (.inl ⟨i,rfl⟩)
theorem Pa.str (n:Nat) (x:Str):Pa n (.str x):=by cases n; exact .inr ⟨x,rfl⟩; exact .inl (.inr ⟨x,rfl⟩)
theorem Pa.tup {n:Nat} {ds:List D} (hz:ds.length <= 100000) (h:∀ x ∈ ds,Pa n x):Pa (n + 1) (.tup ds):=.inr ⟨ds,rfl,zS hz,h⟩
theorem Pa.mono {n:Nat}:∀ {k:Nat} {d:D},Pa n d -> n <= k -> Pa k d:=by
 induction n with
 | zero=>
  intro k d h hk;rcases h with ⟨i,rfl⟩ | ⟨x,rfl⟩
  ·exact Pa.int k i
  ·exact Pa.str k x
 | succ n ih=>
  intro k d h hk;cases k with
  | zero=>omega
  | succ k=>
   rcases h with h | ⟨ds,rfl,hz,h⟩
   ·exact .inl h
   ·exact .inr ⟨ds,rfl,hz,fun x hx=>ih (h x hx) (by omega)⟩
theorem zJn:∀ (n:Nat) (d:D) (M:Mem),Pa n d -> zw (n + 1) [d,d] M = some (.bl true,M):=by
 intro n;have sc:∀ (n:Nat) (d:D) (M:Mem),((∃ i,d = .int i) \/ ∃ x,d = .str x) -> zw (n + 1) [d,d] M = some (.bl true,M):=by
  intro n d M hs;refine zM ?_;unfold zw;rw [zAT];unfold zB1;show OkS (zL _ _ [some d,some d,none,none] M) _;rcases hs with ⟨i,rfl⟩ | ⟨x,rfl⟩
  ·refine zEC (isF rfl rfl (by decide)) (zEC (isF rfl rfl (by decide)) ?_);exact zj (zEe (isV rfl rfl (by decide)) (zEe (zJc (isV rfl rfl (by decide))) (zI rfl rfl (zIA rfl)))) ⟨rfl,rfl⟩
  ·refine zEC (isF rfl rfl (by decide)) ?_;refine zKt (zQs rfl rfl (by decide)) (zj (zEe (isV rfl rfl (by decide)) (zI rfl rfl (zIA rfl))) ⟨rfl,rfl⟩)
 induction n with
 | zero=>exact fun d M h=>sc 0 d M h
 | succ n ih=>
  intro d M h;rcases h with h | ⟨ds,rfl,hz,h⟩
  ·exact sc (n + 1) d M h
  refine zM ?_;unfold zw;rw [zAT];unfold zB1;show OkS (zL _ _ [some (.tup ds),some (.tup ds),none,none] M) _;refine zKt (zQs rfl rfl (by decide)) (zEC ?_ ?_)
  ·refine zM (zQi.mpr (zLN.mpr (zE (zQs rfl rfl (by decide)) ?_)));rw [zUM (by decide)];refine zKC.mpr (zE (zI (zBH rfl zAJ) (zBH rfl zAJ) (zM (zTa.mpr ⟨rfl,rfl⟩))) ?_);rw [zJo]; simp
  ·rw [zH7];refine zTS.mpr (zOs.mpr (zDD.mpr ⟨(ds.zip ds).map fun q=>D.tup [q.1,q.2],none,M,rfl,?_,?_⟩))
   ·rw [zUD,List.length_zip]; omega
   ·refine Ok.mono (zCC (I:=fun r acc M'=>M' = M /\ (∃ rest:List D,r = (rest.zip rest).map (fun q=>D.tup [q.1,q.2]) /\ ∀ x ∈ rest,Pa n x) /\ ∃ k:Nat,acc = (List.replicate k true).map D.bl) (Q:=fun acc M'=>M' = M /\ ∃ k:Nat,acc = (List.replicate k true).map D.bl) ?_ ?_ _ [] _ ⟨rfl,⟨ds,rfl,h⟩,0,rfl⟩) ?_
    ·rintro x r acc M' ⟨rfl,⟨rest,hr,hp⟩,k,rfl⟩;cases rest with
     | nil=>cases hr
     | cons y rest=>
      rw [List.zip_cons_cons,zUN] at hr;obtain ⟨rfl,rfl⟩:=zU8 hr;refine ⟨zt,_,rfl,zFv.mpr ?_⟩;rw [zUJ rfl];refine zE (zBA (zi rfl (zh rfl)) (ih y M' (hp y zUI))) ?_;rw [zR];exact ⟨rfl,⟨rest,rfl,fun z hz=>hp z (zUH _ hz)⟩,k + 1,by rw [List.replicate_succ',zUw]; rfl⟩
    ·rintro acc M' ⟨rfl,_,hk⟩;exact ⟨zt,rfl,hk⟩
    ·rintro ys M' ⟨rfl,k,hk⟩;rw [zWM] at hk;subst hk;refine zPt.mpr ((zQR zN7 (zEq _)).mpr ?_);rw [zR];refine ⟨?_,rfl⟩;simp
section
variable {M M':Mem} {j n l:Nat} {rs:List Nat} {zA:List (List Int)}
theorem Rw.other (h:Rw M j rs zA n l) {p:Nat} {u:MO} (h1:p ≠ j) (h2:p ∉ rs):Rw (M.set p u) j rs zA n l:=by
 refine ⟨by rw [zUY h1]; exact h.at_,h.len,fun i r e=>?_,h.nd,h.hj,h.ok⟩;obtain ⟨w,e1,e2⟩:=h.row i r e;exact ⟨w,e1,by rw [zUY (fun z=>h2 (by rw [z]; exact zUv e))]; exact e2⟩
theorem Rw.out (h:Rw M j rs zA n l) {p:Nat} (hp:M.length <= p):p ≠ j /\ p ∉ rs:=by
 refine ⟨fun z=>?_,fun z=>?_⟩
 ·have:=(zT7.mp h.at_).1;omega
 ·obtain ⟨i,hi⟩:=List.getElem?_of_mem z;obtain ⟨w,_,e2⟩:=h.row i p hi;have:=(zT7.mp e2).1;omega
theorem Rw.push (h:Rw M j rs zA n l) (us:Mem):Rw (M ++ us) j rs zA n l:=h.keep fun i hi=>zUB hi
theorem Rw.refs (h:Rw M j rs zA n l):∀ r ∈ rs,r < M.length:=fun r hr=>by
 obtain ⟨i,hi⟩:=List.getElem?_of_mem hr;obtain ⟨w,_,e2⟩:=h.row i r hi;exact (zT7.mp e2).1
end
theorem zHV {M0 M:Mem} {n k q q0 j N l:Nat} {rs:List Nat} {zA:List (List Int)} (g:Gen M0 n k q0) (nw:Nw M0 M n k q) (rw_:Rw M j rs zA N l) (hN:zA.length = N) (h0:0 < N) (h1:N <= 1000) (hl0:0 < l) (hl:l <= 1000) (lo:M0.length <= j) (lr:∀ r ∈ rs,M0.length <= r) {b:Bool} :
  Ok (zAU [.ref j,.bl b] M) fun d M'=>d = .non /\ Nw M0 M' n k q /\ M.length <= M'.length /\ ∃ rows',Rw M' j rs rows' N l /\ rows'.length = N:=by
 unfold zAU;rw [zAT];unfold zBc;show OkS (zL _ _ [some (.ref j),some (.bl b),none,none,none,none] M) _;rw [zK,zAb];refine ⟨_,_,_,zAV (rw_.row0 (by omega) rfl) (by omega) (by omega),?_⟩;rw [zWo];refine zC0 (n:=l) (I:=fun i σ M'=>(∃ y2 y3 y4,σ = [some (.ref j),some (.bl b),y2,y3,y4,none]) /\ Nw M0 M' n k q /\ M.length <= M'.length /\ ∃ rows',Rw M' j rs rows' N l /\ rows'.length = N) ?_ ?_ _ _ ⟨⟨_,_,_,rfl⟩,nw,zUA _,zA,rw_,hN⟩
 ·rintro i σ M1 hi ⟨⟨y2,y3,y4,rfl⟩,nw1,hM1,rows1,rw1,hr1⟩;refine ⟨_,rfl,?_⟩;show OkS (zL _ _ [some (.ref j),some (.bl b),some (.int (i:Nat)),y3,y4,none] M1) _;rw [zK,zb];refine zDa.mpr (zBO.mpr ⟨zS (by simp),zAQ ?_⟩);rw [zN];have nw2:=nw1.trans (nw1.gen.lst [] rfl);have rw2:=rw1.push [MO.lst ([]:List D)];obtain ⟨p1,p2⟩:=rw1.out (zUA M1.length);have hp0:M0.length <= M1.length:=nw1.len;have e2:(M1 ++ [MO.lst ([]:List D)])[M1.length]? = some (.lst []):=zBo _ _;have hM2:M.length <= (M1 ++ [MO.lst ([]:List D)]).length:=by rw [zUK]; omega
  generalize M1 ++ [MO.lst ([]:List D)] = M2 at nw2 rw2 e2 hM2;generalize M1.length = p at p1 p2 hp0 e2;show OkS (zL _ _ [some (.ref j),some (.bl b),some (.int (i:Nat)),some (.ref p),y4,none] M2) _;rw [zK,zAb];refine ⟨_,_,_,zAV (rw2.len0 rfl) (by omega) (by omega),?_⟩;rw [zWo,hr1];refine zC0 (n:=N) (I:=fun t σ M'=>(∃ y4,σ = [some (.ref j),some (.bl b),some (.int (i:Nat)),some (.ref p),y4,none]) /\ Nw M0 M' n k q /\ M.length <= M'.length /\ Rw M' j rs rows1 N l /\ ∃ c:List Int,M'[p]? = some (.lst (c.map D.int)) /\ c.length = t /\ ∀ x ∈ c,0 <= x /\ x < (N:Int)) ?_ ?_ _ _ ⟨⟨_,rfl⟩,nw2,hM2,rw2,[],e2,rfl,fun _ h=>by cases h⟩
  ·rintro t σ M3 ht ⟨⟨y4,rfl⟩,nw3,hM3,rw3,c,e3,hc,hx⟩;refine ⟨_,rfl,?_⟩;show OkS (zAu _ [some (.ref j),some (.bl b),some (.int (i:Nat)),some (.ref p),some (.int (t:Nat)),none] M3) _;rw [zBZ];obtain ⟨ev,v0,v1⟩:=rw3.ix (σ:=[some (.ref j),some (.bl b),some (.int (i:Nat)),some (.ref p),some (.int (t:Nat)),none]) (f1:=zC 0) (f2:=zC 4) (f3:=zC 2) (i:=t) (g:=i) rfl rfl rfl (by omega) (by omega) (by omega) (by omega);generalize zAS rows1 t i = v at ev v0 v1;have m0:0 <= v % ((t:Int) + 1):=Int.emod_nonneg _ (by omega);have m1:v % ((t:Int) + 1) < (t:Int) + 1:=zVw _ (by omega);refine zKI.mpr (zBB.mpr ⟨_,rfl,⟨_,zBR e3⟩,?_⟩);refine zE (zi (d:=.int (v % ((t:Int) + 1))) (zI ev (zI (x:=.dat (.int (t:Nat))) rfl rfl rfl) (zB8 (by omega))) (zh (d:=.int (t:Nat)) rfl)) ?_;refine zE (zLg e3 m0 (by rw [zUD]; omega) (by rw [zUD]; omega)) ?_;have hpl:p < M3.length:=(zT7.mp e3).1;refine ⟨⟨_,rfl⟩,nw3.setB g hp0 ?_,by rw [zWN]; exact hM3,rw3.other p1 p2,c.take (v % ((t:Int) + 1)).toNat ++ [(t:Int)] ++ c.drop (v % ((t:Int) + 1)).toNat,?_,by simp; omega,fun x hx'=>?_⟩
   ·show D.unds _ _ = true;rw [<- List.map_take,<- List.map_drop,zGB,zGB,zAA,zAA]; rfl
   ·rw [zUy hpl];simp
   ·simp only [zUU,zUW] at hx';rcases hx' with (w | w) | w
    ·exact hx x (List.mem_of_mem_take w)
    ·omega
    ·exact hx x (List.mem_of_mem_drop w)
  ·rintro σ M3 ⟨⟨y4,rfl⟩,nw3,hM3,rw3,c,e3,hc,hx⟩;rw [zN,zAb];refine ⟨_,_,_,zAV (rw3.len0 rfl) (by omega) (by omega),?_⟩;rw [zWo,hr1];refine zC0 (n:=N) (I:=fun t σ M'=>(∃ y4,σ = [some (.ref j),some (.bl b),some (.int (i:Nat)),some (.ref p),y4,none]) /\ Nw M0 M' n k q /\ M.length <= M'.length /\ (∃ rows',Rw M' j rs rows' N l /\ rows'.length = N) /\ M'[p]? = some (.lst (c.map D.int))) ?_ ?_ _ _ ⟨⟨_,rfl⟩,nw3,hM3,⟨rows1,rw3,hr1⟩,e3⟩
   ·rintro t σ M4 ht ⟨⟨y4,rfl⟩,nw4,hM4,⟨rows4,rw4,hr4⟩,e4⟩;refine ⟨_,rfl,?_⟩;show OkS (zIo _ _ _ [some (.ref j),some (.bl b),some (.int (i:Nat)),some (.ref p),some (.int (t:Nat)),none] M4) _;rw [zLH];have hct:t < c.length:=by omega
    refine zE (a:=.dat (.int c[t])) (zI (x:=.dat (.ref p)) (y:=.dat (.int (t:Nat))) rfl rfl (zBn (zc e4) (zHX (by rw [zUR,zT8 hct]; rfl)))) ?_;rw [zR];have hrs:t < rs.length:=by rw [rw4.len]; omega
    refine zE (a:=.dat (.ref rs[t])) (zI (x:=.dat (.ref j)) (y:=.dat (.int (t:Nat))) rfl rfl (zBn (zc rw4.at_) (zHX (by rw [zUR,zT8 hrs]; rfl)))) ?_;refine zBB.mpr ⟨.int (i:Nat),rfl,?_⟩;rw [zR];obtain ⟨x0,x1⟩:=hx c[t] (zUc hct);obtain ⟨w,f1,f2,rw5⟩:=rw4.put (g:=i) (zT8 hrs) x0 x1;have hwl:=(rw4.ok w (zUv f1)).1;refine ⟨_,zIf f2 (by rw [zUD]; omega),?_⟩;rw [<- List.map_set];have hrt:rs[t] ∈ rs:=zUc hrs;refine ⟨⟨_,rfl⟩,nw4.setB g (lr _ hrt) (zAA _ _),by rw [zWN]; exact hM4,⟨_,rw5,by rw [zWN]; exact hr4⟩,?_⟩;rw [zUY (fun z=>p2 (by rw [<- z]; exact hrt))]; exact e4
   ·rintro σ M4 ⟨⟨y4,rfl⟩,nw4,hM4,h4,e4⟩;exact ⟨⟨_,_,_,rfl⟩,nw4,hM4,h4⟩
 ·rintro σ M1 ⟨⟨y2,y3,y4,rfl⟩,nw1,hM1,rows1,rw1,hr1⟩;rw [zN,zAF];refine zE (a:=b) (zAI rfl) ?_;cases b with
  | false=>
   rw [zUM zUQ,zm];exact ⟨rfl,nw1,hM1,rows1,rw1,hr1⟩
  | true=>
   rw [zUJ rfl];refine zBE (d:=.int ((l:Int) - 1)) (zI (rw1.row0 (by omega) rfl) rfl rfl) ?_;show OkS (zIo _ _ _ [some (.ref j),some (.bl true),y2,y3,y4,some (.int ((l:Int) - 1))] M1) _;rw [zLH];obtain ⟨ev,v0,v1⟩:=rw1.ix (σ:=[some (.ref j),some (.bl true),y2,y3,y4,some (.int ((l:Int) - 1))]) (f1:=zC 0) (f2:=fOp zHN (fB zp (zG (zC 0) zQ)) (fC (.int 1))) (f3:=zC 5) (i:=(rows1.length:Int) - 1) (g:=(l:Int) - 1) rfl (zI (rw1.len0 rfl) rfl rfl) rfl (by omega) (by omega) (by omega) (by omega);generalize zAS rows1 ((rows1.length:Int) - 1) ((l:Int) - 1) = v at ev v0 v1;refine zE ev ?_;rw [zR];have hrs:0 < rs.length:=by rw [rw1.len]; omega
   refine zE (a:=.dat (.ref rs[0])) (zI (x:=.dat (.ref j)) (y:=.dat (.int 0)) rfl rfl (zBn (zc rw1.at_) (zHX (k:=0) (by rw [zUR,zT8 hrs]; rfl)))) ?_;refine zBB.mpr ⟨.int ((l:Int) - 1),rfl,?_⟩;rw [zR];obtain ⟨w,f1,f2,rw5⟩:=rw1.put (g:=l - 1) (zT8 hrs) v0 v1;have hwl:=(rw1.ok w (zUv f1)).1;rw [show (l:Int) - 1 = ((l - 1:Nat):Int) by omega];refine ⟨_,zIf f2 (by rw [zUD]; omega),?_⟩;rw [<- List.map_set];refine ⟨rfl,nw1.setB g (lr _ (zUc hrs)) (zAA _ _),by rw [zWN]; exact hM1,_,rw5,by rw [zWN]; exact hr1⟩
theorem zPr {M:Mem} {j N l:Nat} {rs:List Nat} {zA:List (List Int)} (rw_:Rw M j rs zA N l) (hN:zA.length = N) (hl0:0 < l) {room letter style:Int} (r0:0 <= room) (r1:room < N) (a0:0 <= letter) (a1:letter < l) :
  ∃ v,zAw [.ref j,.int room,.int letter,.int style] M = some (.int v,M) /\ 0 <= v /\ v < N:=by
 suffices h:Ok (zAw [.ref j,.int room,.int letter,.int style] M) fun d M'=>∃ v,d = .int v /\ M' = M /\ 0 <= v /\ v < N by
  obtain ⟨d,M',e,v,rfl,rfl,v0,v1⟩:=h;exact ⟨v,e,v0,v1⟩
 unfold zAw;rw [zAT];unfold zDT;show OkS (zL _ _ [some (.ref j),some (.int room),some (.int letter),some (.int style),none,none] M) _;refine zBE (rw_.len0 rfl) ?_;show OkS (zL _ _ [some (.ref j),some (.int room),some (.int letter),some (.int style),some (.int zA.length),none] M) _;obtain ⟨ec,c0,c1⟩:=rw_.ix (σ:=[some (.ref j),some (.int room),some (.int letter),some (.int style),some (.int zA.length),none]) (f1:=zC 0) (f2:=fC (.int 0)) (f3:=fC (.int 0)) (i:=0) (g:=0) rfl rfl rfl (by omega) (by omega) (by omega) (by omega);refine zBE ec ?_;generalize zAS zA 0 0 = cut at c0 c1;show OkS (zL _ _ [some (.ref j),some (.int room),some (.int letter),some (.int style),some (.int zA.length),some (.int cut)] M) _;generalize hσ:([some (.ref j),some (.int room),some (.int letter),some (.int style),some (.int zA.length),some (.int cut)]:Sd) = σ;have s0:zC 0 σ M = some (.dat (.ref j),M):=by rw [<- hσ]; rfl
 have s1:zC 1 σ M = some (.dat (.int room),M):=by rw [<- hσ]; rfl
 have s2:zC 2 σ M = some (.dat (.int letter),M):=by rw [<- hσ]; rfl
 have s3:zC 3 σ M = some (.dat (.int style),M):=by rw [<- hσ]; rfl
 have s4:zC 4 σ M = some (.dat (.int zA.length),M):=by rw [<- hσ]; rfl
 have s5:zC 5 σ M = some (.dat (.int cut),M):=by rw [<- hσ]; rfl
 have st:∀ i:Int,tst (fOp kEq (zC 3) (fC (.int i))) σ M = some (decide (style = i),M):=fun i=>zAI (zI s3 rfl (zM (zF0.mpr ⟨rfl,rfl⟩)));have andE:∀ {a b:FT} {x y:Bool},a σ M = some (x,M) -> b σ M = some (y,M) -> zGu a b σ M = some (x && y,M):=fun {a b x y} ha hb=>by
  unfold zGu; rw [ha]; cases x <;> first | exact hb | rfl
 have lt5:tst (fOp kLt (zC 1) (zC 5)) σ M = some (decide (room < cut),M):=zAI (zI s1 s5 (zM (zRP.mpr ⟨rfl,rfl⟩)));have el:tst (fOp kEq (zC 2) (fC (.int 0))) σ M = some (decide (letter = 0),M):=zAI (zI s2 rfl (zM (zF0.mpr ⟨rfl,rfl⟩)));obtain ⟨eg,g0,g1⟩:=rw_.ix (σ:=σ) s0 s1 s2 r0 (by omega) a0 a1;rw [zK,zAF];refine zE (andE (st 4) lt5) ?_;by_cases w4:style = 4
 ·by_cases wc:room < cut
  ·rw [zUJ (by simp [w4,wc])];refine zj (zI eg s5 (zB8 (by omega))) ?_;rw [zBC];have:=Int.emod_nonneg (zAS zA room letter) (show cut ≠ 0 by omega);have:=zVw (zAS zA room letter) (show 0 < cut by omega);exact ⟨_,rfl,rfl,by omega,by omega⟩
  ·rw [zUM (by simp [wc]),zm,zN,zK,zAF];refine zE (st 4) ?_;rw [zUJ (by simp [w4])];refine zj (zI s5 (zI eg (zI s4 s5 rfl) (zB8 (by omega))) rfl) ?_;rw [zBC];have:=Int.emod_nonneg (zAS zA room letter) (show (zA.length:Int) - cut ≠ 0 by omega);have:=zVw (zAS zA room letter) (show 0 < (zA.length:Int) - cut by omega);exact ⟨_,rfl,rfl,by omega,by omega⟩
 ·rw [zUM (by simp [w4]),zm,zN,zK,zAF];refine zE (st 4) ?_;rw [zUM (by simp [w4]),zm,zN,zK,zAF];refine zE (andE (st 5) el) ?_;by_cases w5:style = 5
  ·by_cases wl:letter = 0
   ·rw [zUJ (by simp [w5,wl])];refine zj (zI (zI s1 rfl rfl) s4 (zB8 (by omega))) ?_;rw [zBC];have:=Int.emod_nonneg (room + 1) (show (zA.length:Int) ≠ 0 by omega);have:=zVw (room + 1) (show 0 < (zA.length:Int) by omega);exact ⟨_,rfl,rfl,by omega,by omega⟩
   ·rw [zUM (by simp [wl]),zm,zN,zK,zAF];refine zE (st 5) ?_;rw [zUJ (by simp [w5])];obtain ⟨bb,eb⟩:∃ bb,zE4 (fOp kEq (zC 2) (fC (.int 1))) (fOp kEq (zC 1) (fOp zHN (zC 4) (fC (.int 1)))) σ M = some (.dat (.bl bb),M):=by
     have e1:fOp kEq (zC 2) (fC (.int 1)) σ M = some (.dat (.bl (decide (letter = 1))),M):=zI s2 rfl (zM (zF0.mpr ⟨rfl,rfl⟩));have e2:fOp kEq (zC 1) (fOp zHN (zC 4) (fC (.int 1))) σ M = some (.dat (.bl (decide (room = (zA.length:Int) - 1))),M):=zI s1 (zI s4 rfl rfl) (zM (zF0.mpr ⟨rfl,rfl⟩));exact ⟨_,zO0 e1 fun _=>e2⟩
    have e3:zA3 (zD (toD (zC 1)) (zD (toD (fC (.int 0))) zJ)) σ M = some (.fl [.int room,.int 0],M):=by
     unfold zA3; rw [zi s1 (zh (d:=.int 0) rfl)]; dsimp only; rw [zUJ (zS (by simp))]
    have e4:fB zGX (zG (zE4 (fOp kEq (zC 2) (fC (.int 1))) (fOp kEq (zC 1) (fOp zHN (zC 4) (fC (.int 1))))) zQ) σ M = some (.dat (.int (if bb then 1 else 0)),M):=by rw [fB1 eb]; rfl
    cases bb with
    | true=>exact zj (zI (r:=some (.dat (.int 0),M)) e3 e4 rfl) (by rw [zBC]; exact ⟨_,rfl,rfl,by omega,by omega⟩)
    | false=>exact zj (zI (r:=some (.dat (.int room),M)) e3 e4 rfl) (by rw [zBC]; exact ⟨_,rfl,rfl,by omega,by omega⟩)
  ·rw [zUM (by simp [w5]),zm,zN,zK,zAF];refine zE (st 5) ?_;rw [zUM (by simp [w5]),zm,zN,zK,zAF];refine zE (st 6) ?_;by_cases w6:style = 6
   ·rw [zUJ (by simp [w6])];obtain ⟨eg,g0,g1⟩:=rw_.ix (σ:=σ) (f2:=fC (.int 0)) (i:=0) s0 rfl s2 (by omega) (by omega) a0 a1;exact zj eg (by rw [zBC]; exact ⟨_,rfl,rfl,g0,g1⟩)
   ·rw [zUM (by simp [w6]),zm,zN];obtain ⟨eg,g0,g1⟩:=rw_.ix (σ:=σ) (f3:=fC (.int 0)) (g:=0) s0 s1 rfl r0 (by omega) (by omega) (by omega);exact zj eg ⟨_,rfl,rfl,g0,g1⟩
theorem zSR {M:Mem} {n k q:Nat} (h:Gen M n k q) {own:List Nat} {i:Nat} {f te:FE} {σ:Sd} {cnt:Nat} {lo hi:Int} (c1:cnt <= 90000) (hf:f σ M = some (.dat (.int cnt),M))
  (ht:∀ (r:Nat) (M':Mem),r < cnt -> Nw M M' n k (q + r) -> M'.length = M.length -> Ok (te ((zE3 own σ).set i (some (.int r))) M') fun x M''=>∃ v:Int,x = .dat (.int v) /\ lo <= v /\ v < hi /\ Nw M' M'' n k (q + r + 1) /\ M''.length = M'.length) :
  Ok (zAK own (zAD (zD (toD f) zJ)) (gN i) zAe te σ M) fun x M'=>(∃ c:List Int,x = .fl (c.map D.int) /\ c.length = cnt /\ ∀ y ∈ c,lo <= y /\ y < hi) /\ Nw M M' n k (q + cnt) /\ M'.length = M.length:=by
 refine zDD.mpr ⟨_,_,_,zAV hf (by omega) (by omega),by rw [zAv]; exact zS (by omega),?_⟩;rw [zWo];refine Ok.mono (zJ3 (n:=cnt) (I:=fun j acc M2=>(∃ c:List Int,acc = c.map D.int /\ c.length = j /\ ∀ y ∈ c,lo <= y /\ y < hi) /\ Nw M M2 n k (q + j) /\ M2.length = M.length) ?_ ⟨⟨[],rfl,rfl,fun _ h=>by cases h⟩,Nw.refl h,rfl⟩) ?_
 ·rintro j acc M2 hj ⟨⟨c,rfl,hcl,hc⟩,nx,hl⟩;refine ⟨_,rfl,?_⟩;refine Ok.mono (ht j M2 hj nx hl) ?_;rintro x M3 ⟨v,rfl,v0,v1,nx3,hl3⟩;rw [zR];refine ⟨⟨c ++ [v],by simp,by simp [hcl],fun z hz=>?_⟩,nx.trans nx3,hl3.trans hl⟩;rcases zUU.mp hz with q | q
  ·exact hc z q
  ·have:z = v:=by simpa using q
   subst this; exact ⟨v0,v1⟩
 ·rintro ys M2 ⟨⟨c,rfl,hcl,hc⟩,nx,hl⟩;exact ⟨⟨c,rfl,hcl,hc⟩,nx,hl⟩
theorem Rw.add {M:Mem} {j n l:Nat} {rs:List Nat} {zA:List (List Int)} (h:Rw M j rs zA n l) {w:List Int} (hw:w.length = l /\ ∀ x ∈ w,0 <= x /\ x < (n:Int)) :
  Rw ((M ++ [MO.lst (w.map D.int)]).set j (.lst ((rs ++ [M.length]).map D.ref))) j (rs ++ [M.length]) (zA ++ [w]) n l:=by
 have hj:=(zT7.mp h.at_).1;have hr:=h.refs;refine ⟨by rw [zUy (by rw [zUK]; omega)],by simp [h.len],fun i r e=>?_,?_,fun z=>?_,fun v hv=>?_⟩
 ·have hne:j ≠ r:=fun z=>by
   subst z;rcases zUU.mp (zUv e) with z | z
   ·exact h.hj z
   ·have:j = M.length:=by simpa using z
    omega
  rw [zUY hne];by_cases hi:i < rs.length
  ·rw [zUB hi] at e;obtain ⟨v,e1,e2⟩:=h.row i r e;exact ⟨v,by rw [zUB (by rw [<- h.len]; exact hi)]; exact e1,by rw [zUB (hr r (zUv e))]; exact e2⟩
  ·have hi2:i = rs.length:=by
    have:=(zT7.mp e).1;rw [zUK] at this;simp at this; omega
   subst hi2;simp at e;subst e;exact ⟨w,by rw [h.len]; simp,by simp⟩
 ·rw [zVI];refine ⟨h.nd,by simp,fun a ha b hb z=>?_⟩;have:b = M.length:=by simpa using hb
  have:=hr a ha;omega
 ·rcases zUU.mp z with z | z
  ·exact h.hj z
  ·have:j = M.length:=by simpa using z
   omega
 ·rcases zUU.mp hv with z | z
  ·exact h.ok v z
  ·have:v = w:=by simpa using z
   subst this; exact hw
theorem Rw.out_eq {M:Mem} {j n l:Nat} {rs:List Nat} {zA:List (List Int)} (h:Rw M j rs zA n l) (hz:zA.length <= 100000) {σ:Sd} (hσ:(zE3 [9] σ).length = 10) (h6:zC 6 σ M = some (.dat (.ref j),M)) :
  fB zX (zG (zAK [9] (zBd (zC 6)) (gN 9) zAe (fB zX (zG (zC 9) zQ))) zQ) σ M = some (.dat (mD zA),M):=by
 have hrl:∀ (i:Nat) (hi:i < rs.length),∃ w,zA[i]? = some w /\ M[rs[i]]? = some (.lst (w.map D.int)):=fun i hi=>h.row i rs[i] (zT8 hi);refine zAd (x:=.fl (zA.map fun w=>D.tup (w.map D.int))) ?_ zDe;have:=zED (own:=[9]) (fi:=zBd (zC 6)) (g:=gN 9) (te:=fB zX (zG (zC 9) zQ)) (σ:=σ) (M:=M) (gd:=zPQ (.dat (.ref j)) (rs.map D.ref)) rs D.ref (fun r=> .tup ((match M[r]? with | some (.lst xs)=>xs | _=>[]))) (zCQ h6 (zc h.at_)) (by unfold zCh zPQ; exact .inl h.at_) (by rw [h.len]; exact hz) fun r hr=>?_
 ·rw [this];refine zVr (fun z=>some (EV.fl z,M)) ?_;apply List.ext_getElem?;intro i;rw [zUR,zUR];by_cases hi:i < rs.length
  ·obtain ⟨w,e1,e2⟩:=hrl i hi;rw [zT8 hi,e1];show some (D.tup _) = some (D.tup _);rw [e2]
  ·rw [zVD (by omega),zVD (by rw [<- h.len]; omega)]; rfl
 ·obtain ⟨i,hi⟩:=List.getElem?_of_mem hr;obtain ⟨w,e1,e2⟩:=h.row i r hi;refine ⟨(zE3 [9] σ).set 9 (some (.ref r)),rfl,zAd (x:=.dat (.ref r)) ?_ ?_⟩
  ·unfold zC;rw [zUy (by omega)]
  ·rw [zc e2,e2]
theorem zJ5 {M:Mem} {n k q:Nat} {most upto:Int} (h:Gen M n k q) (hq:q < 900000000) (m0:0 < most) (m1:most <= 30) (u0:0 < upto) (u1:upto <= 30) :
  Ok (zAs [.ref n,.int most,.int upto] M) fun d M'=>(∃ zA l,d = mD zA /\ IsM zA l /\ (zA.length:Int) <= most /\ (l:Int) <= upto) /\ Nw M M' n k (q + 1000) /\ M'.length = M.length:=by
 obtain ⟨hn,hk⟩:=h.lt;unfold zAs;suffices hh:Ok (zBK 10 zBP [.ref n,.int most,.int upto] M) fun d M'=>(∃ zA l,d = mD zA /\ IsM zA l /\ (zA.length:Int) <= most /\ (l:Int) <= upto) /\ Nw M M' n k (q + 1000) by
  refine zKo (Ok.mono hh ?_);rintro d M1 ⟨⟨zA,l,rfl,r⟩,nw⟩;exact ⟨⟨zDW _,nw.len,nw.wf0 h⟩,⟨zA,l,rfl,r⟩,nw.trim h,by rw [zVS]; have:=nw.len; omega⟩
 rw [zAT];unfold zBP;show OkS (zL _ _ [some (.ref n),some (.int most),some (.int upto),none,none,none,none,none,none,none] M) _;rw [zK,zb];refine zJL.mpr (zMk.mpr (zAi h (by omega) rfl rfl m0 (by omega) fun i1 M1 a0 a1 nw1 hl1=>zN1.mpr ?_));rw [zR,zN];obtain ⟨N,eN⟩:=Int.eq_ofNat_of_zero_le (show 0 <= 1 + i1 by omega);rw [eN];have hN0:0 < N:=by omega
 have hN1:(N:Int) <= most:=by omega
 show OkS (zL _ _ [some (.ref n),some (.int most),some (.int upto),some (.int (N:Nat)),none,none,none,none,none,none] M1) _;rw [zK,zb];refine zJL.mpr (zMk.mpr (zAi nw1.gen (by omega) rfl rfl u0 (by omega) fun i2 M2 b0 b1 nw2 hl2=>zN1.mpr ?_));rw [zR,zN];obtain ⟨l,el⟩:=Int.eq_ofNat_of_zero_le (show 0 <= 1 + i2 by omega);rw [el];have hl0:0 < l:=by omega
 have hl9:(l:Int) <= upto:=by omega
 show OkS (zL _ _ [some (.ref n),some (.int most),some (.int upto),some (.int (N:Nat)),some (.int (l:Nat)),none,none,none,none,none] M2) _;rw [zK,zb];refine zAi nw2.gen (by omega) rfl rfl (by decide) (by decide) fun s M3 s0 s1 nw3 hl3=>?_;rw [zR,zN];show OkS (zL _ _ [some (.ref n),some (.int most),some (.int upto),some (.int (N:Nat)),some (.int (l:Nat)),some (.int s),none,none,none,none] M3) _;rw [zK,zb];refine zDa.mpr (zBO.mpr ⟨zS (by simp),zAQ ?_⟩);rw [zN];have nwA:=(nw1.trans nw2).trans nw3;have nw4:=nwA.trans (nw3.gen.lst [] rfl);have lj:M.length <= M3.length:=nwA.len;have rw4:Rw (M3 ++ [MO.lst ([]:List D)]) M3.length [] [] N l:=⟨zBo _ _,rfl,fun i r e=>by simp at e,List.nodup_nil,by simp,fun _ h=>by cases h⟩;generalize M3 ++ [MO.lst ([]:List D)] = M4 at nw4 rw4;generalize M3.length = j at lj rw4;show OkS (zL _ _ [some (.ref n),some (.int most),some (.int upto),some (.int (N:Nat)),some (.int (l:Nat)),some (.int s),some (.ref j),none,none,none] M4) _;rw [zK,zAb];refine ⟨_,_,_,zAV (j:=(N:Nat)) rfl (by omega) (by omega),?_⟩;rw [zWo];refine zC0 (n:=N) (I:=fun i σ M'=>(∃ y7,σ = [some (.ref n),some (.int most),some (.int upto),some (.int (N:Nat)),some (.int (l:Nat)),some (.int s),some (.ref j),y7,none,none]) /\ Nw M M' n k (q + 3 + 30 * i) /\ ∃ rs zA,Rw M' j rs zA N l /\ zA.length = i /\ ∀ r ∈ rs,M.length <= r) ?_ ?_ _ _ ⟨⟨_,rfl⟩,nw4.mono (by omega),[],[],rw4,rfl,fun _ h=>by cases h⟩
 ·rintro i σ M5 hi ⟨⟨y7,rfl⟩,nw5,rs,zA,rw5,hr5,lr⟩;refine ⟨_,rfl,?_⟩;show OkS (zAu _ [some (.ref n),some (.int most),some (.int upto),some (.int (N:Nat)),some (.int (l:Nat)),some (.int s),some (.ref j),some (.int (i:Nat)),none,none] M5) _;rw [zBZ];refine zKI.mpr (zBB.mpr ⟨_,rfl,⟨_,zBR rw5.at_⟩,zA7.mpr (zA0.mpr ?_)⟩);refine Ok.mono (zSR nw5.gen (cnt:=l) (lo:=0) (hi:=N) (by omega) rfl fun r M' hr nwr hlr=>zAi nwr.gen (by omega) rfl rfl (by omega) (by omega) fun v M2 v0 v1 nx hl=>⟨v,rfl,v0,v1,nx,hl⟩) ?_;rintro x M6 ⟨⟨c,rfl,hcl,hc⟩,nw6,hl6⟩;refine zAQ ?_;have jn:j ≠ n:=by omega
  have jk:j ≠ k:=by omega
  have rw6:Rw M6 j rs zA N l:=by
   have kp:∀ {i:Nat} {u:MO},M.length <= i -> M5[i]? = some u -> M6[i]? = some u:=fun {i u} hi e=>nw6.get e (by omega) (by omega);exact ⟨kp lj rw5.at_,rw5.len,fun i r e=>let ⟨w,e1,e2⟩:=rw5.row i r e; ⟨w,e1,kp (lr r (zUv e)) e2⟩,rw5.nd,rw5.hj,rw5.ok⟩
  have rw7:=rw6.add (w:=c) ⟨hcl,hc⟩;have e7:(M6 ++ [MO.lst (c.map D.int)])[j]? = some (.lst (rs.map D.ref)):=by rw [zUB (zT7.mp rw6.at_).1]; exact rw6.at_
  refine zE (a:=[]) (M:=M6 ++ [MO.lst (c.map D.int)]) rfl ?_;rw [zCK e7 (by rw [zUD,rw6.len,hr5]; exact zUT (m:=100) (by omega) (zS (by omega)))];have nw8:=(nw5.trans nw6).trans (nw6.gen.lst (c.map D.int) (zAA _ _));have lM:M.length <= M6.length:=(nw5.trans nw6).len;rw [show rs.map D.ref ++ [D.ref M6.length] = (rs ++ [M6.length]).map D.ref by rw [zUw]; rfl];refine ⟨⟨_,rfl⟩,(nw8.setB h lj ?_).mono (by omega),_,_,rw7,by simp [hr5],fun r hr=>?_⟩
  ·show D.unds _ _ = true;refine zCG fun x hx=>?_;obtain ⟨r,hr,rfl⟩:=zUL.mp hx;unfold D.und;rw [zVH,zUK,zXJ];rcases zUU.mp hr with z | z
   ·have:=rw6.refs r z; omega
   ·have:r = M6.length:=by simpa using z
    omega
  ·rcases zUU.mp hr with z | z
   ·exact lr r z
   ·have:r = M6.length:=by simpa using z
    omega
 ·rintro σ M5 ⟨⟨y7,rfl⟩,nw5,rs,zA,rw5,hr5,lr⟩;rw [zN,zK,zAF];have fin:∀ (M7:Mem) (j:Nat) (rs:List Nat) (zA:List (List Int)) (y7:Option D),Rw M7 j rs zA N l -> zA.length = N -> Nw M M7 n k (q + 1000) -> OkS (zAO (fB zX (zG (zAK [9] (zBd (zC 6)) (gN 9) zAe (fB zX (zG (zC 9) zQ))) zQ)) [some (.ref n),some (.int most),some (.int upto),some (.int (N:Nat)),some (.int (l:Nat)),some (.int s),some (.ref j),y7,none,none] M7) (fun o σ M'=>match o with | .ret d=>(∃ zA l,d = mD zA /\ IsM zA l /\ (zA.length:Int) <= most /\ (l:Int) <= upto) /\ Nw M M' n k (q + 1000) | _=>False):=fun M7 j rs zA y7 rw7 hr7 nw7=>
   zj (rw7.out_eq (by omega) rfl rfl) ⟨⟨zA,l,rfl,⟨by omega,hl0,fun w hw=>⟨(rw7.ok w hw).1,fun x hx=>by have:=(rw7.ok w hw).2 x hx; omega⟩⟩,by omega,hl9⟩,nw7⟩
  have last:∀ (M7:Mem) (j:Nat) (rs:List Nat) (zA:List (List Int)) (y7:Option D) (P:Out -> Sd -> Mem -> Prop),(∀ d σ M',((∃ zA l,d = mD zA /\ IsM zA l /\ (zA.length:Int) <= most /\ (l:Int) <= upto) /\ Nw M M' n k (q + 1000)) -> P (.ret d) σ M') -> Rw M7 j rs zA N l -> zA.length = N -> Nw M M7 n k (q + 1000) -> OkS (zAO (fB zX (zG (zAK [9] (zBd (zC 6)) (gN 9) zAe (fB zX (zG (zC 9) zQ))) zQ)) [some (.ref n),some (.int most),some (.int upto),some (.int (N:Nat)),some (.int (l:Nat)),some (.int s),some (.ref j),y7,none,none] M7) P:=fun M7 j rs zA y7 P hP rw7 hr7 nw7=>by
   refine OkS.mono (fin M7 j rs zA y7 rw7 hr7 nw7) ?_;rintro o σ M' z;cases o with
   | ret d=>exact hP d σ M' z
   | nx=>exact z.elim
   | cnt=>exact z.elim
   | brk=>exact z.elim
  have mid:∀ (M6:Mem) (zA:List (List Int)) (P:Out -> Sd -> Mem -> Prop),(∀ d σ M',((∃ zA l,d = mD zA /\ IsM zA l /\ (zA.length:Int) <= most /\ (l:Int) <= upto) /\ Nw M M' n k (q + 1000)) -> P (.ret d) σ M') -> Rw M6 j rs zA N l -> zA.length = N -> Nw M M6 n k (q + 1000) -> OkS (zL (sIf (tst (fOp kGt (zC 5) (fC (.int 3)))) (zk 6 (zAK [7] (zAD (zD (toD (zC 3)) zJ)) (gN 7) zAe (zAK [8] (zAD (zD (toD (zC 4)) zJ)) (gN 8) zAe (zW zAw (zD (toD (zC 6)) (zD (toD (zC 7)) (zD (toD (zC 8)) (zD (toD (zC 5)) zJ)))))))) zAc)
    (zAO (fB zX (zG (zAK [9] (zBd (zC 6)) (gN 9) zAe (fB zX (zG (zC 9) zQ))) zQ))) [some (.ref n),some (.int most),some (.int upto),some (.int (N:Nat)),some (.int (l:Nat)),some (.int s),some (.ref j),y7,none,none] M6) P:=fun M6 zA P hP rw6 hr6 nw6=>by
   rw [zK,zAF];refine zE (zAI (zI (x:=.dat (.int s)) (y:=.dat (.int 3)) rfl rfl (zM (zRE.mpr ⟨rfl,rfl⟩)))) ?_;by_cases ws:(3:Int) < s
   ·rw [zUJ (by simpa using ws),zb];refine zDD.mpr ⟨_,_,_,zAV (j:=(N:Nat)) rfl (by omega) (by omega),by rw [zAv]; exact zS (by omega),?_⟩;rw [zWo];refine Ok.mono (zJ3 (n:=N) (I:=fun t acc M2=>∃ rs2 rows2,acc = List.map D.ref rs2 /\ rs2.length = t /\ rows2.length = t /\ (∀ (i r:Nat),rs2[i]? = some r -> ∃ w:List Int,rows2[i]? = some w /\ M2[r]? = some (.lst (w.map D.int))) /\ rs2.Nodup /\ (∀ r ∈ rs2,r < M2.length) /\ (∀ w ∈ rows2,w.length = l /\ ∀ x ∈ w,0 <= x /\ x < (N:Int)) /\ Nw M M2 n k (q + 1000) /\ Rw M2 j rs zA N l) ?_ ⟨[],[],rfl,rfl,rfl,fun i r e=>by simp at e,List.nodup_nil,fun _ h=>(by cases h),fun _ h=>(by cases h),nw6,rw6⟩) ?_
    ·rintro t acc M2 ht ⟨rs2,rows2,rfl,h1,h2,h3,h4,h5,h6,nwt,rwt⟩;refine ⟨_,rfl,?_⟩;show Ok (zAK _ _ _ _ _ [some (.ref n),some (.int most),some (.int upto),some (.int (N:Nat)),some (.int (l:Nat)),some (.int s),some (.ref j),some (.int (t:Nat)),none,none] M2) _;refine zDD.mpr ⟨_,_,_,zAV (j:=(l:Nat)) rfl (by omega) (by omega),by rw [zAv]; exact zS (by omega),?_⟩;rw [zWo];refine Ok.mono (zJ3 (n:=l) (I:=fun a acc M3=>M3 = M2 /\ ∃ c:List Int,acc = c.map D.int /\ c.length = a /\ ∀ x ∈ c,0 <= x /\ x < (N:Int)) ?_ ⟨rfl,[],rfl,rfl,fun _ h=>(by cases h)⟩) ?_
     ·rintro a acc M3 ha ⟨rfl,c,rfl,hc1,hc2⟩;refine ⟨_,rfl,?_⟩;show Ok (zW _ _ [some (.ref n),some (.int most),some (.int upto),some (.int (N:Nat)),some (.int (l:Nat)),some (.int s),some (.ref j),some (.int (t:Nat)),some (.int (a:Nat)),none] M3) _;obtain ⟨v,ev,v0,v1⟩:=zPr rwt hr6 hl0 (room:=(t:Nat)) (letter:=(a:Nat)) (style:=s) (by omega) (by omega) (by omega) (by omega);refine zE (zBA (zi rfl (zi rfl (zi rfl (zh rfl)))) ev) ?_;rw [zR];refine ⟨rfl,c ++ [v],by simp,by simp [hc1],fun x hx=>?_⟩;rcases zUU.mp hx with z | z
      ·exact hc2 x z
      ·have:x = v:=by simpa using z
       subst this; exact ⟨v0,v1⟩
     ·rintro ys M3 ⟨rfl,c,rfl,hc1,hc2⟩;refine zAQ ?_;refine ⟨rs2 ++ [M3.length],rows2 ++ [c],by simp,by simp [h1],by simp [h2],fun i r e=>?_,?_,fun r hr=>?_,fun w hw=>?_,nwt.trans (nwt.gen.lst _ (zAA _ _)),rwt.push _⟩
      ·by_cases hi:i < rs2.length
       ·rw [zUB hi] at e;obtain ⟨v,e1,e2⟩:=h3 i r e;exact ⟨v,by rw [zUB (by omega)]; exact e1,by rw [zUB (h5 r (zUv e))]; exact e2⟩
       ·have hi2:i = rs2.length:=by
         have:=(zT7.mp e).1;rw [zUK] at this;simp at this; omega
        subst hi2;simp at e;subst e;exact ⟨c,by rw [h1,<- h2]; simp,by simp⟩
      ·rw [zVI];refine ⟨h4,by simp,fun a ha b hb z=>?_⟩;have:b = M3.length:=by simpa using hb
       have:=h5 a ha;omega
      ·rw [zUK,zXJ];rcases zUU.mp hr with z | z
       ·have:=h5 r z; omega
       ·have:r = M3.length:=by simpa using z
        omega
      ·rcases zUU.mp hw with z | z
       ·exact h6 w z
       ·have:w = c:=by simpa using z
        subst this; exact ⟨hc1,hc2⟩
    ·rintro ys M2 ⟨rs2,rows2,rfl,h1,h2,h3,h4,h5,h6,nwt,rwt⟩;refine zAQ ?_;rw [zN];refine last _ M2.length rs2 rows2 y7 P hP ⟨zBo _ _,by omega,fun i r e=>?_,h4,fun z=>absurd (h5 _ z) (zUm _),h6⟩ h2 (nwt.trans (nwt.gen.lst _ ?_))
     ·obtain ⟨w,e1,e2⟩:=h3 i r e;exact ⟨w,e1,by rw [zUB (h5 r (zUv e))]; exact e2⟩
     ·refine zCG fun x hx=>?_;obtain ⟨r,hr,rfl⟩:=zUL.mp hx;unfold D.und;rw [zVH];exact h5 r hr
   ·rw [zUM (by simpa using ws),zm,zN];exact last M6 j rs zA y7 P hP rw6 hr6 nw6
  refine zE (zAI (zI (x:=.dat (.int s)) (y:=.dat (.int 3)) rfl rfl (zM (zF0.mpr ⟨rfl,rfl⟩)))) ?_;have hP:∀ (d:D) (σ:Sd) (M':Mem),((∃ zA l,d = mD zA /\ IsM zA l /\ (zA.length:Int) <= most /\ (l:Int) <= upto) /\ Nw M M' n k (q + 1000)) -> (∃ zA l,d = mD zA /\ IsM zA l /\ (zA.length:Int) <= most /\ (l:Int) <= upto) /\ Nw M M' n k (q + 1000):=fun _ _ _ h=>h;by_cases w3:s = 3
  ·rw [zUJ (by simpa using w3),zBZ];have eqv:Ok (fOp kEq (zW zf (zD (toD (zC 0)) (zD (toD (fC (.int 2))) zJ))) (fC (.int 1)) [some (.ref n),some (.int most),some (.int upto),some (.int (N:Nat)),some (.int (l:Nat)),some (.int s),some (.ref j),y7,none,none] M5) fun x M6=>(∃ b,x = .dat (.bl b)) /\ Nw M5 M6 n k (q + 3 + 30 * N + 1) /\ M6.length = M5.length :=
    zJL.mpr (zAi nw5.gen (by omega) rfl rfl (by decide) (by decide) fun v M6 v0 v1 nx hl=>zMk.mpr (zF0.mpr ⟨⟨_,rfl⟩,nx,hl⟩))
   obtain ⟨x,M6,ex,⟨b,rfl⟩,nx6,hl6⟩:=eqv;have jn:j ≠ n:=by omega
   have rw6:Rw M6 j rs zA N l:=by
    have kp:∀ {i:Nat} {u:MO},M.length <= i -> M5[i]? = some u -> M6[i]? = some u:=fun {i u} hi e=>nx6.get e (by omega) (by omega);exact ⟨kp lj rw5.at_,rw5.len,fun i r e=>let ⟨w,e1,e2⟩:=rw5.row i r e; ⟨w,e1,kp (lr r (zUv e)) e2⟩,rw5.nd,rw5.hj,rw5.ok⟩
   have nw6:=nw5.trans nx6;refine zCU.mpr (zA7.mpr (zA0.mpr (zBB.mpr ⟨_,rfl,?_⟩)));rw [zR,zA7,zA0];refine zE ex ?_;rw [zR,zBO];refine Ok.mono (zHV h nw6 rw6 hr5 hN0 (by omega) hl0 (by omega) lj lr) ?_;rintro d M7 ⟨rfl,nw7,_,rows7,rw7,hr7⟩;rw [zN];exact mid M7 rows7 _ hP rw7 hr7 (nw7.mono (by omega))
  ·rw [zUM (by simpa using w3),zm,zN];exact mid M5 zA _ hP rw5 hr5 (nw5.mono (by omega))
noncomputable def zDC:FS:=(zL (sIf (tst (fOp kEq (zW zf (zD (toD (zC 0)) (zD (toD (fC (.int 3))) zJ))) (fC (.int 0)))) (zAO (zLK (zC 1))) zAc)
  (zL (zk 2 (zAK [3] (zAD (zD (toD (zC 1)) zJ)) (gN 3) (tst (fOp kEq (zW zf (zD (toD (zC 0)) (zD (toD (fC (.int 2))) zJ))) (fC (.int 1)))) (zC 3)))
  (zL (sIf (tst (fOp kEq (fB zp (zG (zC 2) zQ)) (fC (.int 0)))) (zk 2 (zA3 (zD (toD (zW zf (zD (toD (zC 0)) (zD (toD (zC 1)) zJ)))) zJ))) zAc)
  (zAO (fB zX (zG (zC 2) zQ))))))
noncomputable def zBl:FF:=zGf (zBK 4 zDC)
theorem zSA (R:Nat):upD R = ((List.range R).map fun (k:Nat)=>(k:Int)).map D.int:=by
 unfold upD; rw [zUS]; rfl
theorem zNW {M:Mem} {n k q:Nat} {R:Nat} (h:Gen M n k q) (hq:q < 900000000) (r0:0 < R) (r1:R <= 1000) :
  Ok (zBl [.ref n,.int R] M) fun d M'=>(∃ S,d = tI S /\ S.Pairwise (· < ·) /\ 0 < S.length /\ ∀ x ∈ S,0 <= x /\ x < (R:Int)) /\ Nw M M' n k (q + 1002) /\ M'.length = M.length:=by
 obtain ⟨hn,hk⟩:=h.lt;unfold zBl;suffices hh:Ok (zBK 4 zDC [.ref n,.int R] M) fun d M'=>(∃ S,d = tI S /\ S.Pairwise (· < ·) /\ 0 < S.length /\ ∀ x ∈ S,0 <= x /\ x < (R:Int)) /\ Nw M M' n k (q + 1002) by
  refine zKo (Ok.mono hh ?_);rintro d M1 ⟨⟨S,rfl,r⟩,nw⟩;exact ⟨⟨zCo S,nw.len,nw.wf0 h⟩,⟨S,rfl,r⟩,nw.trim h,by rw [zVS]; have:=nw.len; omega⟩
 rw [zAT];unfold zDC;show OkS (zL _ _ [some (.ref n),some (.int R),none,none] M) _;rw [zK,zAF];refine zKC.mpr (zJL.mpr (zAi h (by omega) rfl rfl (by decide) (by decide) fun i M1 i0 i1 nw1 hl1=>zMk.mpr (zF0.mpr (zJo.mpr ?_))));by_cases hi:i = 0
 ·rw [zUJ (by simpa using hi)];refine zj (d:=tI ((List.range R).map fun (k:Nat)=>(k:Int))) ?_ ?_
  ·unfold zLK zC;dsimp only [List.getElem?_cons_succ,List.getElem?_cons_zero];rw [zUJ ⟨by omega,by omega⟩,zWo,zSA]; rfl
  ·rw [zBC];refine ⟨⟨_,rfl,?_,by simp; omega,fun x hx=>?_⟩,nw1.mono (by omega)⟩
   ·rw [List.pairwise_map];exact List.pairwise_lt_range.imp fun {a b} h=>by omega
   ·obtain ⟨y,hy,rfl⟩:=zUL.mp hx;have:=List.mem_range.mp hy;omega
 ·rw [zUM (by simpa using hi),zm,zN,zK,zb];refine zDD.mpr ⟨_,_,_,zAV (j:=(R:Nat)) rfl (by omega) (by omega),by rw [zAv]; exact zS (by omega),?_⟩;rw [zWo];refine Ok.mono (zCC (I:=fun r acc M2=>∃ t,t <= R /\ r = zBq t (R - t) /\ (∃ c:List Int,acc = c.map D.int /\ c.Pairwise (· < ·) /\ ∀ x ∈ c,0 <= x /\ x < (t:Int)) /\ Nw M M2 n k (q + 1 + t) /\ M2.length = M.length) (Q:=fun acc M2=>(∃ c:List Int,acc = c.map D.int /\ c.Pairwise (· < ·) /\ ∀ x ∈ c,0 <= x /\ x < (R:Int)) /\ Nw M M2 n k (q + 1 + R) /\ M2.length = M.length) ?_ ?_ _ [] _ ⟨0,zUq _,by simp,⟨[],rfl,List.Pairwise.nil,fun _ h=>by cases h⟩,nw1,hl1⟩) ?_
  ·rintro x r acc M2 ⟨t,ht,e,⟨c,rfl,hp,hx⟩,nw2,hl2⟩;have hlt:t < R:=by
    rcases Nat.lt_or_ge t R with z | z
    ·exact z
    ·rw [show R - t = 0 by omega] at e; cases e
   rw [show R - t = (R - (t + 1)) + 1 by omega] at e;obtain ⟨rfl,rfl⟩:=zU8 e;refine ⟨zt,_,rfl,?_⟩;refine zKC.mpr (zJL.mpr (zAi nw2.gen (by omega) rfl rfl (by decide) (by decide) fun i M3 i0 i1 nw3 hl3=>zMk.mpr (zF0.mpr (zJo.mpr ?_))));have nwt:=nw2.trans nw3;by_cases h1:i = 1
   ·rw [zUJ (by simpa using h1)];refine zBB.mpr ⟨.int (t:Nat),rfl,?_⟩;rw [zR];refine ⟨t + 1,hlt,rfl,⟨c ++ [(t:Int)],by simp,?_,fun x hx'=>?_⟩,nwt.mono (by omega),hl3.trans hl2⟩
    ·rw [List.pairwise_append];refine ⟨hp,by simp,fun a ha b hb=>?_⟩;have h1:=hx a ha;have h2:b = (t:Int):=by simpa using hb
     omega
    ·rcases zUU.mp hx' with z | z
     ·have:=hx x z; omega
     ·have:x = (t:Int):=by simpa using z
      omega
   ·rw [zUM (by simpa using h1)];exact ⟨t + 1,hlt,rfl,⟨c,rfl,hp,fun x hx'=>by have:=hx x hx'; omega⟩,nwt.mono (by omega),hl3.trans hl2⟩
  ·rintro acc M2 ⟨t,ht,e,⟨c,rfl,hp,hx⟩,nw2,hl2⟩;have:t = R:=by
    rcases Nat.lt_or_ge t R with z | z
    ·rw [show R - t = (R - (t + 1)) + 1 by omega] at e; cases e
    ·omega
   subst this;exact ⟨zt,⟨c,rfl,hp,hx⟩,nw2,hl2⟩
  ·rintro ys M2 ⟨⟨c,hc,hp,hx⟩,nw2,hl2⟩;rw [zWM] at hc;subst hc;refine zAQ ?_;rw [zN];have nw3:=nw2.trans (nw2.gen.lst (c.map D.int) (zAA _ _));have e3:(M2 ++ [MO.lst (c.map D.int)])[M2.length]? = some (.lst (c.map D.int)):=zBo _ _;have hj:M.length <= M2.length:=nw2.len;generalize M2 ++ [MO.lst (c.map D.int)] = M3 at nw3 e3;generalize M2.length = j at e3 hj;show OkS (zL _ _ [some (.ref n),some (.int R),some (.ref j),none] M3) _;rw [zK,zAF];refine zE (zAI (zI (zQ0 (c:=c) (j:=j) rfl e3) rfl (zM (zF0.mpr ⟨rfl,rfl⟩)))) ?_;by_cases hz:c = []
   ·subst hz;rw [zUJ (by simp),zb];refine zDa.mpr (zA7.mpr (zA0.mpr (zAi nw3.gen (by omega) rfl rfl (by omega) (by omega) fun i M4 i0 i1 nw4 hl4=>?_)));rw [zR];refine zBO.mpr ⟨zS (by simp),zAQ ?_⟩;rw [zN];have e4:(M4 ++ [MO.lst [D.int i]])[M4.length]? = some (.lst ([i].map D.int)):=zBo _ _;refine zj (zAd (x:=.dat (.ref M4.length)) rfl (zc e4)) ⟨⟨[i],rfl,by simp,by simp,fun x hx=>?_⟩,((nw3.trans nw4).trans (nw4.gen.lst _ rfl)).mono (by omega)⟩;have:x = i:=by simpa using hx
    omega
   ·have hl:0 < c.length:=List.length_pos_iff.mpr hz;rw [zUM (by simp; exact hz),zm,zN];exact zj (zAd (x:=.dat (.ref j)) rfl (zc e3)) ⟨⟨c,rfl,hp,hl,hx⟩,nw3.mono (by omega)⟩
noncomputable def zDn:FS:=(zL (sIf (tst (fOp (kIs false) (zC 2) (fC .non))) (zAO (fOp kLe (fB zp (zG (zC 0) zQ)) (zC 1))) zAc)
  (zAO (fB zNM (zG (zAK [3] (zBd (zC 0)) (gN 3) zAe (fOp (kIn false) (zC 3) (zC 2))) zQ))))
noncomputable def zBM:FF:=zCg (zBK 4 zDn)
noncomputable def zEV:FS:=(zL (zk 4 (zW zA6 (zD (toD (zC 0)) (zD (toD (zC 1)) zJ))))
  (zL (zBF (zBd (zW zBa (zD (toD (zC 0)) (zD (toD (zC 1)) zJ)))) (zEJ 5 6) (sIf (tst (zW zBM (zD (toD (zC 5)) (zD (toD (zC 2)) (zD (toD (zC 3)) zJ))))) (zAO (zAX (zD (toD (fC (.str "word"))) (zD (toD (zC 6)) (zD (toD (fSl (zC 4) zCd (zCF (fB zp (zG (zC 6) zQ))))) zJ))))) zAc))
  (zAO (zAX (zD (toD (fC (.str "none"))) (zD (toD (zC 4)) zJ))))))
noncomputable def zBj:FF:=zCg (zBK 7 zEV)
theorem zPP {zA:List (List Int)} {l:Nat} (m:IsM zA l) (h9:zA.length <= 9) {R:List Int} (sR:IsS zA R):∃ r,run zA l (fun _=>false) 1000 [R] [(R,[])] [] = some r /\ r.1 = none:=by
 obtain ⟨r,hr⟩:=zIe (due:=fun _=>false) m h9 1000 (seen:=[R]) (level:=[(R,[])]) (acc:=[]) ⟨by simp,fun S hS=>by rw [zUW.mp hS]; exact sR,fun p hp=>by rw [zUW.mp hp]; exact sR⟩ (by simp);exact ⟨r,hr,zNX (fun _=>rfl) 1000 hr⟩
theorem zJR {zA:List (List Int)} {l:Nat} (m:IsM zA l) (h9:zA.length <= 9) {due:List Int -> Bool}:∀ (n:Nat) {seen:List (List Int)} {level:Lvl} {acc:List (List (List Int))} {r:Option (List Int) × List (List (List Int))},Met zA seen level -> level.length <= 600 -> (∀ L ∈ acc,L.length <= 600 /\ ∀ t ∈ L,IsS zA t) -> run zA l due n seen level acc = some r -> ∀ L ∈ r.2,L.length <= 600 /\ ∀ t ∈ L,IsS zA t
 | 0,_,_,_,_,_,_,_,h=>by cases h
 | n + 1,seen,level,acc,r,mt,hz,ha,h=>by
  unfold run at h;split at h
  ·cases h; exact ha
  ·split at h
   ·cases h; exact ha
   ·have g:=mt.next m;have hzz:(zAP zA l seen level).2.length <= 600:=by
     have h1:=zBQ g.nd g.st h9;rw [g.eq,zUK,zUD] at h1;omega
    refine zJR m h9 n g.met hzz (fun L hL=>?_) h;rcases zUU.mp hL with z | z
    ·exact ha L z
    ·rw [zUW.mp z];refine ⟨by rw [zUD]; exact hz,fun t ht=>?_⟩;obtain ⟨p,hp,rfl⟩:=zUL.mp ht;exact mt.lv p hp
theorem zOc {acc:List (List (List Int))} (h1:acc.length <= 100000) (h2:∀ L ∈ acc,L.length <= 100000 /\ ∀ t ∈ L,t.length <= 100000):Pa 3 (shD acc):=by
 refine Pa.tup (by rw [zUD]; exact h1) fun x hx=>?_;obtain ⟨L,hL,rfl⟩:=zUL.mp hx;refine Pa.tup (by rw [zUD,(zBv L).length_eq]; exact (h2 L hL).1) fun x hx=>?_;obtain ⟨t,ht,rfl⟩:=zUL.mp hx;refine Pa.tup (by rw [zUD]; exact (h2 L hL).2 t ((zBv L).mem_iff.mp ht)) fun x hx=>?_;obtain ⟨i,_,rfl⟩:=zUL.mp hx;exact Pa.int 0 i
theorem zTB {w:List Int} (h:w.length <= 100000):Pa 1 (tI w):=Pa.tup (by rw [zUD]; exact h) fun x hx=>by
 obtain ⟨i,_,rfl⟩:=zUL.mp hx;exact Pa.int 0 i
def zKb (zA:List (List Int)) (l:Nat) (R:List Int) (r0:Option (List Int) × List (List (List Int))) (due:List Int -> Bool):Option (List Int) × List (List (List Int)) :=
 match (zBX zA l 1000 [R] [(R,[])]).find? fun p=>due p.1 with | some p=>(some p.2,r0.2.take p.2.length) | none=>(none,r0.2)
section
variable {zA:List (List Int)} {l:Nat} {R:List Int}
theorem zGx {xs:List D} {q:Nat} (h:q <= xs.length):L3.zE2 xs none (some (q:Int)) = xs.take q:=by
 have s:HT.sIx xs.length xs.length (some (q:Int)) = min q xs.length:=HT.zQA xs.length xs.length q;have z:HT.sIx xs.length 0 none = 0:=rfl;unfold L3.zE2;rw [s,z];simp only [List.drop_zero,Nat.sub_zero];rw [Nat.min_eq_left h]
theorem zJx (m:IsM zA l) (h9:zA.length <= 9) (hl9:l <= 1000) (sR:IsS zA R) {many:Int} {goal:D} {due:List Int -> Bool} (hg:D.und 0 goal = true) (hfit:∀ S M,IsS zA S -> zBM [tI S,.int many,goal] M = some (.bl (due S),M)) {r0:Option (List Int) × List (List (List Int))} (hr:run zA l (fun _=>false) 1000 [R] [(R,[])] [] = some r0) {M:Mem} :
  zBj [mD zA,tI R,.int many,goal] M = some (zER (zKb zA l R r0 due),M):=by
 have mt:Met zA [R] [(R,[])]:=⟨by simp,fun S hS=>by rw [zUW.mp hS]; exact sR,fun p hp=>by rw [zUW.mp hp]; exact sR⟩;have hf:=zFX (due:=due) 1000 (fun s hs=>by rw [zUW.mp hs]; rfl) hr;refine zM ?_;unfold zBj;refine zB6 (by unfold D.unds D.unds D.unds D.unds D.unds; rw [zDW,zAo,hg]; rfl) ?_;rw [zAT];unfold zEV;show OkS (zL _ _ [some (mD zA),some (tI R),some (.int many),some goal,none,none,none] []) _;refine zBE (zBA (zi rfl (zh rfl)) (zGW m h9 hl9 sR hr)) ?_;show OkS (zL _ _ [some (mD zA),some (tI R),some (.int many),some goal,some (shD r0.2),none,none] []) _;rw [zK,zAb];obtain ⟨d,M1,ew,j,rfl,ej⟩:=zHu m h9 hl9 sR [];refine ⟨_,_,_,zCQ (x:=.dat (.ref j)) (by unfold zW; rw [zi (d:=mD zA) rfl (zh (d:=tI R) rfl)]; dsimp only; rw [ew]) (zc ej),?_⟩;generalize hF:zBX zA l 1000 [R] [(R,[])] = F at ej hf;have hFs:∀ p ∈ F,IsS zA p.1:=fun p hp=>zLB m 1000 mt p (by rw [hF]; exact hp);refine zA5 (I:=fun r σ M'=>M' = M1 /\ (∃ y5 y6,σ = [some (mD zA),some (tI R),some (.int many),some goal,some (shD r0.2),y5,y6]) /\ ∃ (done rest:Lvl),r = rest.map wD /\ done ++ rest = F /\ ∀ p ∈ done,due p.1 = false) ?_ ?_ _ _ _ ⟨rfl,⟨_,_,rfl⟩,[],F,rfl,rfl,fun _ h=>by cases h⟩
 ·rintro x r σ M' ⟨rfl,⟨y5,y6,rfl⟩,done,rest,er,hd,nd⟩;cases rest with
  | nil=>cases er
  | cons sw rest=>
   obtain ⟨rfl,rfl⟩:=zU8 er;have hs:sw ∈ F:=by rw [<- hd]; simp
   refine ⟨.inl ej,_,rfl,?_⟩;show OkS (sIf _ _ _ [some (mD zA),some (tI R),some (.int many),some goal,some (shD r0.2),some (tI sw.1),some (tI sw.2)] M') _;rw [zAF];refine zE (zAI (zBA (zi (d:=tI sw.1) rfl (zi (d:=.int many) rfl (zh (d:=goal) rfl))) (hfit _ _ (hFs sw hs)))) ?_;cases hdue:due sw.1 with
   | true=>
    rw [zUJ rfl];have hfind:F.find? (fun p=>due p.1) = some sw:=by
     rw [<- hd,List.find?_append,List.find?_eq_none.mpr (fun p hp=>by rw [nd p hp]; simp)];simp [hdue]
    rw [hfind] at hf;have hlen:sw.2.length <= r0.2.length:=by
     have h1:=zIE 1000 hf rfl;rw [zVS] at h1;omega
    have el:=zBH (f:=zC 6) (σ:=[some (mD zA),some (tI R),some (.int many),some goal,some (shD r0.2),some (tI sw.1),some (tI sw.2)]) (M:=M') (x:=.dat (tI sw.2)) rfl zAJ;rw [zUD] at el;have esl:fSl (zC 4) zCd (zCF (fB zp (zG (zC 6) zQ))) [some (mD zA),some (tI R),some (.int many),some goal,some (shD r0.2),some (tI sw.1),some (tI sw.2)] M' = some (.dat (shD (r0.2.take sw.2.length)),M'):=by
     refine zM (zNx.mpr (zBB.mpr ⟨shD r0.2,rfl,zGG.mpr (zF3.mpr (zE el (zFw.mpr ?_)))⟩));refine zE (a:=.dat (shD (r0.2.take sw.2.length))) (M:=M') ?_ ⟨rfl,rfl⟩;unfold kSl shD;dsimp only [zBp];rw [zGx (by rw [zUD]; exact hlen),List.map_take]
    have e6:zAX (zD (toD (fC (.str "word"))) (zD (toD (zC 6)) (zD (toD (fSl (zC 4) zCd (zCF (fB zp (zG (zC 6) zQ))))) zJ))) [some (mD zA),some (tI R),some (.int many),some goal,some (shD r0.2),some (tI sw.1),some (tI sw.2)] M' = some (.dat (.tup [.str "word", tI sw.2,shD (r0.2.take sw.2.length)]),M') :=
     zLf (zi (d:=.str "word") rfl (zi (d:=tI sw.2) rfl (zh esl))) (by simp)
    refine zj e6 ?_;show nxP _ _ (.ret _) _ _;rw [zBC];have e7:zER (zKb zA l R r0 due) = .tup [.str "word", tI sw.2,shD (r0.2.take sw.2.length)]:=by
     unfold zKb; rw [hF,hfind]; rfl
    exact ⟨by rw [<- e7]; exact zDt _,e7.symm,rfl⟩
   | false=>
    rw [zUM zUQ,zm];refine ⟨rfl,⟨_,_,rfl⟩,done ++ [sw],rest,rfl,by rw [<- hd]; simp,fun p hp=>?_⟩;rcases zUU.mp hp with z | z
    ·exact nd p z
    ·rw [zUW.mp z]; exact hdue
 ·rintro σ M' ⟨rfl,⟨y5,y6,rfl⟩,done,rest,er,hd,nd⟩;have:rest = []:=by cases rest with | nil=>rfl | cons _ _=>cases er
  subst this;rw [zUo] at hd;subst hd;refine ⟨.inl ej,?_⟩;rw [zN];have hfind:done.find? (fun p=>due p.1) = none:=List.find?_eq_none.mpr fun p hp=>by rw [nd p hp]; simp
  have e7:zER (zKb zA l R r0 due) = .tup [.str "none", shD r0.2]:=by
   unfold zKb; rw [hF,hfind]; rfl
  refine zj (zLf (zi (d:=.str "none") rfl (zh (d:=shD r0.2) rfl)) (by simp)) ⟨by rw [<- e7]; exact zDt _,e7.symm,rfl⟩
theorem zPw {r:Option (List Int) × List (List (List Int))} (h0:∀ w,r.1 = some w -> w.length <= 100000) (h1:r.2.length <= 100000) (h2:∀ L ∈ r.2,L.length <= 100000 /\ ∀ t ∈ L,t.length <= 100000):Pa 4 (zER r):=by
 unfold zER;split
 ·rename_i w hw;refine Pa.tup (by simp) fun x hx=>?_;simp only [zUG,zUZ,or_false] at hx;rcases hx with rfl | rfl | rfl
  ·exact Pa.str 3 _
  ·exact (zTB (h0 w hw)).mono (by decide)
  ·exact zOc h1 h2
 ·refine Pa.tup (by simp) fun x hx=>?_;simp only [zUG,zUZ,or_false] at hx;rcases hx with rfl | rfl
  ·exact Pa.str 3 _
  ·exact zOc h1 h2
theorem zPs (m:IsM zA l) (h9:zA.length <= 9) (sR:IsS zA R) {due:List Int -> Bool}:∃ r0,run zA l (fun _=>false) 1000 [R] [(R,[])] [] = some r0 /\ run zA l due 1000 [R] [(R,[])] [] = some (zKb zA l R r0 due) /\ Pa 4 (zER (zKb zA l R r0 due)):=by
 obtain ⟨r0,hr,_⟩:=zPP m h9 sR;have mt:Met zA [R] [(R,[])]:=⟨by simp,fun S hS=>by rw [zUW.mp hS]; exact sR,fun p hp=>by rw [zUW.mp hp]; exact sR⟩;have hf:=zFX (due:=due) 1000 (fun s hs=>by rw [zUW.mp hs]; rfl) hr;refine ⟨r0,hr,hf,zPw (fun w hw=>?_) (zUV (zFG 1000 hf) (by simp)) fun L hL=>?_⟩
 ·have h1:=zIE 1000 hf hw;have h2:=zFG 1000 hf;simp only [zVY] at h2;omega
 ·have h1:=zJR m h9 1000 mt (by simp) (fun _ h=>by cases h) hf L hL;exact ⟨by have:=h1.1; omega,fun t ht=>by have:=(h1.2 t ht).len; omega⟩
end
noncomputable def zCs:FS:=(zAO (fB zNM (zG (zAK [2] (zBd (zC 0)) (gN 2) zAe (fOp (kIn false) (zC 2) (zC 1))) zQ)))
noncomputable def zAR:FF:=zCg (zBK 3 zCs)
noncomputable def zBy:List D -> FF:=zSl (toD (zW zAR (zD (toD (zC 0)) (zD (toD (zC 1)) zJ))))
noncomputable def zCz:FS:=(zAO (zFk [2] (zBI zBy) (zD (toD (zC 0)) (zD (toD (zC 1)) zJ)) zJ))
noncomputable def zA2:FF:=zCg (zBK 3 zCz)
noncomputable def zOQ:FS:=(zL (zk 1 (zW zBY (zD (toD (zC 0)) zJ)))
  (zL (zBF (zAD (zD (toD (fC (.int 2))) zJ)) (gN 2) (zL (zk 3 (zW zAs (zD (toD (zC 1)) (zD (toD (fC (.int 9))) (zD (toD (fC (.int 4))) zJ)))))
  (zL (zk 4 (zW zBl (zD (toD (zC 1)) (zD (toD (fB zp (zG (zC 3) zQ))) zJ))))
  (zL (zk 5 (zA3 (zD (toD (zW zBl (zD (toD (zC 1)) (zD (toD (fB zp (zG (zC 3) zQ))) zJ)))) (zD (toD (zAX (zD (toD (zW zf (zD (toD (zC 1)) (zD (toD (fB zp (zG (zC 3) zQ))) zJ)))) zJ))) zJ))))
  (zBF (zBd (fOp zCE (fOp zCE (zC 5) (zA3 (zD (toD (zC 4)) zJ))) (fSl (zC 5) zCd (zCF (fC (.int 1)))))) (gN 6) (zL (zk 7 (zW zBj (zD (toD (zC 3)) (zD (toD (zC 4)) (zD (toD (fC (.int 0))) (zD (toD (zC 6)) zJ))))))
  (sIf (zGp (tst (zW zCv (zD (toD (zW zA2 (zD (toD (zC 3)) (zD (toD (zC 4)) (zD (toD (zC 6)) zJ))))) (zD (toD (zC 7)) zJ))))) (zAO (fC (.bl false))) zAc)))))))
  (zAO (fC (.bl true)))))
noncomputable def zEu:FF:=zBK 8 zOQ
def inR (S G:List Int):Bool:=S.all fun x=>decide (x ∈ G)
theorem zTW {G:List Int} {x:Int} {M:Mem}:kIn false (.dat (.int x)) (.dat (tI G)) M = some (.dat (.bl (decide (x ∈ G))),M):=by
 unfold kIn; dsimp only; rw [show zAa M (.dat (tI G)) = some (G.map D.int) from zAJ]; dsimp only; rw [zAx];have:(G.any fun y=>decide (y = x)) = decide (x ∈ G):=by
  by_cases hm:x ∈ G
  ·rw [zVC hm];exact List.any_eq_true.mpr ⟨x,hm,by simp⟩
  ·rw [zUd hm];exact List.any_eq_false.mpr fun y hy=>by simp; intro e; exact hm (e ▸ hy)
 show some (EV.dat (.bl (G.any fun y=>decide (y = x))),M) = _;rw [this]
theorem zOi {own:List Nat} {i j k:Nat} {σ:Sd} {M:Mem} {S G:List Int} (hz:S.length <= 100000) (hi:zC i σ M = some (.dat (tI S),M)) (hk:∀ x:Int,zC k ((zE3 own σ).set k (some (.int x))) M = some (.dat (.int x),M)) (hj:∀ x:Int,zC j ((zE3 own σ).set k (some (.int x))) M = some (.dat (tI G),M)) :
  fB zNM (zG (zAK own (zBd (zC i)) (gN k) zAe (fOp (kIn false) (zC k) (zC j))) zQ) σ M = some (.dat (.bl (inR S G)),M):=by
 have ec:=zED (own:=own) (fi:=zBd (zC i)) (g:=gN k) (te:=fOp (kIn false) (zC k) (zC j)) (σ:=σ) (M:=M) S D.int (fun x=> .bl (decide (x ∈ G))) (gd:=none) (zCQ hi zAJ) trivial hz fun x hx=>⟨_,rfl,zI (hk x) (hj x) zTW⟩;rw [fB1 ec];refine zM ((zQR (ds:=S.map fun x=>D.bl (decide (x ∈ G))) (bs:=S.map fun x=>decide (x ∈ G)) zN7 ?_).mpr ?_)
 ·rw [<- zEq,zUS]; rfl
 ·refine ⟨?_,rfl⟩;unfold inR;rw [List.all_map]; rfl
section
variable {zA:List (List Int)} {l:Nat} {R:List Int}
theorem zLd {S G:List Int} (hz:S.length <= 100000) {M:Mem}:zAR [tI S,tI G] M = some (.bl (inR S G),M):=by
 refine zM ?_;unfold zAR;refine zB6 (by unfold D.unds D.unds D.unds; rw [zAo,zAo]; rfl) ?_;rw [zAT];unfold zCs;exact zj (zOi (σ:=[some (tI S),some (tI G),none]) hz rfl (fun _=>rfl) (fun _=>rfl)) ⟨rfl,rfl,rfl⟩
theorem zNa {S G:List Int} (hz:S.length <= 100000) {many:Int} {M:Mem}:zBM [tI S,.int many,tI G] M = some (.bl (inR S G),M):=by
 refine zM ?_;unfold zBM;refine zB6 (by unfold D.unds D.unds D.unds D.unds; rw [zAo,zAo]; rfl) ?_;rw [zAT];unfold zDn;show OkS (zL _ _ [some (tI S),some (.int many),some (tI G),none] []) _;refine zEC (zAI (zI (x:=.dat (tI G)) (y:=.dat .non) rfl rfl rfl)) ?_;exact zj (zOi (σ:=[some (tI S),some (.int many),some (tI G),none]) hz rfl (fun _=>rfl) (fun _=>rfl)) ⟨rfl,rfl,rfl⟩
theorem zHv (m:IsM zA l) (h9:zA.length <= 9) (hl9:l <= 1000) (sR:IsS zA R) {G:List Int} {r:Option (List Int) × List (List (List Int))} (hr:run zA l (fun S=>inR S G) 1000 [R] [(R,[])] [] = some r) {M:Mem}:zA2 [mD zA,tI R,tI G] M = some (zER r,M):=by
 refine zM ?_;unfold zA2;refine zB6 (by unfold D.unds D.unds D.unds D.unds; rw [zDW,zAo,zAo]; rfl) ?_;rw [zAT];unfold zCz;have hG:∀ S M',IsS zA S -> zBy [tI G] [tI S] M' = some (.bl (inR S G),M'):=fun S M' s=>by
  have hz:S.length <= 100000:=by have:=s.len; omega
  have e2:zW zAR (zD (toD (zC 0)) (zD (toD (zC 1)) zJ)) [some (tI S),some (tI G)] M' = some (.dat (.bl (inR S G)),M'):=zBA (zi rfl (zh rfl)) (zLd hz);show toD (zW zAR (zD (toD (zC 0)) (zD (toD (zC 1)) zJ))) [some (tI S),some (tI G)] M' = _;generalize zW zAR (zD (toD (zC 0)) (zD (toD (zC 1)) zJ)) = ff at e2;unfold toD; rw [e2]
 have e:=zNV (idx:=[2]) (mm:=zBI zBy) (cs:=[tI G]) (g1:=zD (toD (zC 0)) (zD (toD (zC 1)) zJ)) (g2:=zJ) (σ:=[some (mD zA),some (tI R),some (tI G)]) (M:=[]) (M1:=[]) (M2:=[]) (ds1:=[mD zA,tI R]) (ds2:=[]) (d:=zER r) (zi rfl (zh rfl)) rfl rfl fun lm=>zIW (due:=fun S=>inR S G) m h9 hl9 hG (by unfold D.unds D.unds; rw [zAo]; rfl) sR hr;exact zj e ⟨zDt _,rfl,rfl⟩
theorem zQt (m:IsM zA l) (h9:zA.length <= 9) (hl9:l <= 1000) (sR:IsS zA R) {G:List Int} {M:Mem}:∃ d,zBj [mD zA,tI R,.int 0,tI G] M = some (d,M) /\ zA2 [mD zA,tI R,tI G] M = some (d,M) /\ zCv [d,d] M = some (.bl true,M):=by
 obtain ⟨r0,hr,hf,hp⟩:=zPs (due:=fun S=>inR S G) m h9 sR;exact ⟨_,zJx m h9 hl9 sR (zAo _) (fun S M s=>zNa (by have:=s.len; omega)) hr,zHv m h9 hl9 sR hf,zJn 4 _ M hp⟩
end
theorem zNr (ns:List Int) (h:ns.length <= 63):∃ M',zEu [.ref 0] [.fro (ns.map D.int)] = some (.bl true,M'):=by
 suffices hh:Ok (zEu [.ref 0] [.fro (ns.map D.int)]) fun d _=>d = .bl true by
  obtain ⟨d,M',e,rfl⟩:=hh; exact ⟨M',e⟩
 unfold zEu;rw [zAT];unfold zOQ;show OkS (zL _ _ [some (.ref 0),none,none,none,none,none,none,none] [.fro (ns.map D.int)]) _;rw [zK,zb];refine zCU.mpr (zE (zh (d:=.ref 0) rfl) ?_);refine Ok.mono (zM9 h) ?_;rintro d M1 ⟨rfl,gen1,_⟩;rw [zR,zN];show OkS (zL _ _ [some (.ref 0),some (.ref 1),none,none,none,none,none,none] M1) _;rw [zK,zAb];refine ⟨_,_,_,zAV (j:=2) rfl (by decide) (by decide),?_⟩;refine zC0 (n:=2) (I:=fun i σ M=>(∃ y2 y3 y4 y5 y6 y7,σ = [some (.ref 0),some (.ref 1),y2,y3,y4,y5,y6,y7]) /\ Gen M 1 2 (5000 * i)) ?_ ?_ _ _ ⟨⟨_,_,_,_,_,_,rfl⟩,gen1⟩
 ·rintro i σ M hi ⟨⟨y2,y3,y4,y5,y6,y7,rfl⟩,gen⟩;refine ⟨_,rfl,?_⟩;show OkS (zL _ _ [some (.ref 0),some (.ref 1),some (.int (i:Nat)),y3,y4,y5,y6,y7] M) _;rw [zK,zb];refine zCU.mpr (zE (zi (d:=.ref 1) rfl (zi (d:=.int 9) rfl (zh (d:=.int 4) rfl))) ?_);refine Ok.mono (zJ5 gen (by omega) (by decide) (by decide) (by decide) (by decide)) ?_;rintro d M3 ⟨⟨zA,l,rfl,mm,hr,hl⟩,nw3,hl3⟩;rw [zR,zN];show OkS (zL _ _ [some (.ref 0),some (.ref 1),some (.int (i:Nat)),some (mD zA),y4,y5,y6,y7] M3) _;have lenE:∀ {σ:Sd} {M:Mem},σ[3]? = some (some (mD zA)) -> fB zp (zG (zC 3) zQ) σ M = some (.dat (.int zA.length),M):=fun {σ M} e=>by
   have:=zBH (f:=zC 3) (σ:=σ) (M:=M) (x:=.dat (mD zA)) (by unfold zC; rw [e]) zAJ;rw [this,zUD]
  have r0:=mm.r0;rw [zK,zb,zCU];refine zE (zi (d:=.ref 1) rfl (zh (lenE rfl))) ?_;refine Ok.mono (zNW nw3.gen (by omega) (by omega) (by omega)) ?_;rintro d M4 ⟨⟨S,rfl,sp,s0,sm⟩,nw4,hl4⟩;have sS:IsS zA S:=⟨sp,s0,sm⟩;rw [zR,zN];show OkS (zL _ _ [some (.ref 0),some (.ref 1),some (.int (i:Nat)),some (mD zA),some (tI S),y5,y6,y7] M4) _;rw [zK,zb];refine zDa.mpr (zA7.mpr (zA0.mpr (zCU.mpr (zE (zi (d:=.ref 1) rfl (zh (lenE rfl))) ?_))));refine Ok.mono (zNW nw4.gen (by omega) (by omega) (by omega)) ?_;rintro d M5 ⟨⟨G,rfl,_⟩,nw5,hl5⟩;rw [zR,zA7,zA0];refine zR5.mpr (zA7.mpr (zA0.mpr (zAi nw5.gen (by omega) rfl (lenE rfl) (by omega) (by omega) fun v M6 v0 v1 nw6 hl6=>?_)));rw [zR,zBO];refine ⟨zS (by simp),?_⟩;rw [zR,zBO];refine ⟨zS (by simp),zAQ ?_⟩;rw [zN];have und2:∀ n:Nat,D.unds n [tI G,.tup [.int v]] = true:=fun n=>by unfold D.unds D.unds D.unds; rw [zAo]; rfl
  have nw7:=nw6.trans (nw6.gen.lst [tI G,.tup [.int v]] (und2 _));have e7:(M6 ++ [MO.lst [tI G,.tup [.int v]]])[M6.length]? = some (.lst [tI G,.tup [.int v]]):=zBo _ _;show OkS (zBF _ _ _ [some (.ref 0),some (.ref 1),some (.int (i:Nat)),some (mD zA),some (tI S),some (.ref M6.length),y6,y7] (M6 ++ [MO.lst [tI G,.tup [.int v]]])) _;generalize M6 ++ [MO.lst [tI G,.tup [.int v]]] = M7 at nw7 e7;generalize M6.length = j at e7;rw [zAb];have esl:fSl (zC 5) zCd (zCF (fC (.int 1))) [some (.ref 0),some (.ref 1),some (.int (i:Nat)),some (mD zA),some (tI S),some (.ref j),y6,y7] M7 = some (.fl [tI G],M7):=by
   refine zM (zNx.mpr (zBB.mpr ⟨_,rfl,zGG.mpr (zF3.mpr (zMk.mpr (zFw.mpr ?_)))⟩));rw [zMp (zBR e7) rfl,show (1:Int) = ((1:Nat):Int) from rfl,zGx (by simp)]; exact ⟨rfl,rfl⟩
  have ect:fOp zCE (fOp zCE (zC 5) (zA3 (zD (toD (zC 4)) zJ))) (fSl (zC 5) zCd (zCF (fC (.int 1)))) [some (.ref 0),some (.ref 1),some (.int (i:Nat)),some (mD zA),some (tI S),some (.ref j),y6,y7] M7 = some (.fl [tI G,.tup [.int v],tI S,tI G],M7):=by
   refine zI (x:=.fl [tI G,.tup [.int v],tI S]) (zI (x:=.dat (.ref j)) rfl (zPX (ds:=[tI S]) (zh (d:=tI S) rfl) (by simp)) ?_) esl ?_
   ·unfold zCE zGL;dsimp only;rw [e7];dsimp only;rw [zUJ (zS (by simp))];rfl
   ·unfold zCE zGL;dsimp only;rw [zUJ (zS (by simp))];rfl
  refine ⟨_,_,_,zCQ ect zDe,?_⟩;refine zA5 (I:=fun r σ M'=>M' = M7 /\ (∃ y6 y7,σ = [some (.ref 0),some (.ref 1),some (.int (i:Nat)),some (mD zA),some (tI S),some (.ref j),y6,y7]) /\ ∀ d ∈ r,∃ G,d = tI G) ?_ ?_ _ _ _ ⟨rfl,⟨_,_,rfl⟩,fun d hd=>?_⟩
  ·rintro x r σ M' ⟨rfl,⟨y6,y7,rfl⟩,hc⟩;obtain ⟨z,rfl⟩:=hc x zUI;refine ⟨zt,_,rfl,?_⟩;show OkS (zL _ _ [some (.ref 0),some (.ref 1),some (.int (i:Nat)),some (mD zA),some (tI S),some (.ref j),some (tI z),y7] M') _;obtain ⟨d,q1,q2,q3⟩:=zQt mm (by omega) (by omega) sS (G:=z) (M:=M');refine zBE (zBA (zi rfl (zi rfl (zi rfl (zh rfl)))) q1) ?_;show OkS (sIf _ _ _ [some (.ref 0),some (.ref 1),some (.int (i:Nat)),some (mD zA),some (tI S),some (.ref j),some (tI z),some d] M') _;refine zNi (zM (zLN.mpr (zE (zAI (zBA (zi (zBA (zi rfl (zi rfl (zh rfl))) q2) (zh (d:=d) rfl)) q3)) ⟨rfl,rfl⟩))) ?_;exact ⟨rfl,⟨_,_,rfl⟩,fun d hd=>hc d (zUH _ hd)⟩
  ·rintro σ M' ⟨rfl,⟨y6,y7,rfl⟩,hc⟩;exact ⟨zt,⟨_,_,_,_,_,_,rfl⟩,((((nw3.trans nw4).trans nw5).trans nw7)).gen.mono (by omega)⟩
  ·simp only [zUG,zUZ,or_false] at hd;rcases hd with rfl | rfl | rfl | rfl
   ·exact ⟨G,rfl⟩
   ·exact ⟨[v],rfl⟩
   ·exact ⟨S,rfl⟩
   ·exact ⟨G,rfl⟩
 ·rintro σ M ⟨⟨y2,y3,y4,y5,y6,y7,rfl⟩,gen⟩;rw [zN];exact zj rfl rfl
end Lae
set_option maxHeartbeats 4000000
namespace Lae
open PySem PySem.Spec PyProof.Rows L2 L3 Law
-- the text by places
def top (i:Nat):Stmt:=PySem.Challenge.pw_bringhome_k13_words_into_a_set.main.body.getD i (.Pass ⟨0,0,0,0⟩)
abbrev zCx:Stmt:=top 1
abbrev zET:Stmt:=top 3
abbrev zCW:Stmt:=top 5
abbrev zDh:Stmt:=top 6
abbrev zBU:Stmt:=top 7
abbrev zC6:Stmt:=top 9
abbrev zDg:Stmt:=top 10
abbrev zBe:Stmt:=top 11
abbrev zDj:Stmt:=top 12
abbrev zCA:Stmt:=top 13
abbrev zEY:Stmt:=top 14
abbrev zDX:Stmt:=top 15
abbrev zCR:Stmt:=top 16
abbrev zCw:Stmt:=top 17
abbrev zDS:Stmt:=top 18
abbrev zEZ:Stmt:=top 19
abbrev zB4:Stmt:=top 20
abbrev zNS:Stmt:=top 21
structure Txt (K:PySem.W.Frag) (mg:Str -> Option Value) where
  d_is_within:Df K mg "is_within" zCx ["rooms", "goal"]
  d_stepped:Df K mg "stepped" zET ["machine", "rooms", "letter"]
  d_next_level:Df K mg "next_level" zCW ["machine", "level", "seen"]
  d_searched:Df K mg "searched" zDh ["machine", "rooms", "is_due"]
  d_word_into:Df K mg "word_into" zBU ["machine", "rooms", "goal"]
  d_law_begin:Df K mg "_law_begin" zC6 ["_law_script"]
  d_law_next:Df K mg "_law_next" zDg ["_law_state", "_law_many"]
  d_law_exchanged:Df K mg "_law_exchanged" zBe ["_law_rows", "_law_joins"]
  d_law_goal:Df K mg "_law_goal" zDj ["_law_rows", "_law_room", "_law_letter", "_law_style"]
  d_law_machine:Df K mg "_law_machine" zCA ["_law_state", "_law_most", "_law_upto"]
  d_law_set:Df K mg "_law_set" zEY ["_law_state", "_law_rooms"]
  d_law_step:Df K mg "_law_step" zDX ["_law_machine_here", "_law_rooms", "_law_letter"]
  d_law_levels:Df K mg "_law_levels" zCR ["_law_machine_here", "_law_rooms"]
  d_law_words:Df K mg "_law_words" zCw ["_law_machine_here", "_law_rooms"]
  d_law_fits:Df K mg "_law_fits" zDS ["_law_found", "_law_many", "_law_goal_set"]
  d_law_due:Df K mg "_law_due" zEZ ["_law_machine_here", "_law_rooms", "_law_many", "_law_goal_set"]
  d_law_alike:Df K mg "_law_alike" zB4 ["_law_found", "_law_due_here"]
  d_law:Df K mg "law" zNS ["_law_script"]
  z_all:mg "all" = none
  z_tuple:mg "tuple" = none
  z_sorted:mg "sorted" = none
  z_range:mg "range" = none
  z_len:mg "len" = none
  z_list:mg "list" = none
  z_int:mg "int" = none
  z_isinstance:mg "isinstance" = none
  z_str:mg "str" = none
  z_bool:mg "bool" = none
  z_zip:mg "zip" = none
  tc_word_into:Addr
  tp_word_into:Addr
  t_word_into:PySem.W.tabIn K "word_into" = some (tc_word_into,tp_word_into)
  h_word_into:PySem.W.codeHdIn K tc_word_into tp_word_into = true
  c_word_into:d_word_into.fd.code = .ref tc_word_into
  kinds:Kinds K
section
variable {P:Program} {w:World} {K:PySem.W.Frag} {mg:Str -> Option Value} {base:Heap}
theorem zEb {X:Cx} {scope sc:Scope} {own:List Nat} {N ps:List Str} (_:FnScope N ps sc) (hk:scope.kind = .function) (hs:X.env.scope = sc) (hN:X.N = N) (h1:zEE sc scope = true) (h2:zFI N scope own = true):CompIn X scope own:=zEn hk hs hN h1 h2
theorem zMK {X:Cx} {scope sc sd:Scope} {own:List Nat} {N ps:List Str} (_:FnScope N ps sd) (hk:scope.kind = .function) (hs:X.env.scope = sc) (hN:X.N = N) (h1:zEE sc scope = true) (h2:zFI N scope own = true):CompIn X scope own:=zEn hk hs hN h1 h2
set_option hygiene false in
local macro_rules | `(tactic| decreasing_trivial)=> `(tactic| repeat' first
  | refine zAq (pv _)
  | refine zAY ?_
  | refine zCc ?_ ?_ (zF rfl)
  | refine zBG ?_
  | refine zFZ
  | refine zFJ ?_ ?_
  | refine zSk
  | refine zEf ?_
  | refine zHJ
  | refine zFE ?_ ?_ (zF rfl)
  | refine zCm
  | refine zTr ?_ ?_
  | refine zOO sc.nd rfl
  | refine zGh ?_
  | refine zRZ (by first | exact zI4 T | exact zIz T | exact zJy T | exact zJz T | exact zEp T | exact zJQ T | exact zGU T | exact zGQ T | exact zHW T | exact zJO T | exact zHn T | exact zGI T | exact zKA T | exact zHj T | exact zH2 T) (hr.mono (by omega)) rfl ?_ ?_ (by decide) (zF rfl) (zAW rfl)
  | refine zSq
  | refine zNN rfl T.z_len ?_ (zF rfl) rfl
  | refine zHl
  | refine zQB ?_ ?_ ?_
  | refine zSf ?_
  | refine zLy rfl T.z_range ?_ ?_ (zFp rfl)
  | refine zTE hr.units0 ?_ ?_
  | refine zRG ?_ ?_
  | refine zQK zNZ PassesOwn.never rfl ?_ ?_ ?_
  | refine zSL ?_
  | refine zO9 rfl T.z_tuple ?_ (zF rfl) rfl
  | refine zRb (zKx hr) ?_ ?_
  | refine zSQ ?_ ?_
  | refine zQk ?_
  | refine zM7
  | refine zQw ?_
  | refine zSZ
  | refine zRA (zKx hr) ?_ ?_ ?_
  | refine zJW (zDG (by decide)) (zEb sc rfl rfl rfl (by decide +kernel) (by decide +kernel)) rfl ?_ ⟨fun _ _ _ _ _=>?_,fun _ _ _ _ _=>?_,fun _ _ _ _ _=>?_⟩
  | refine zND ?_ ?_
  | refine zFs ?_ ?_
  | refine zRj hr.units0 ?_ ?_
  | refine zTM ?_ ?_
  | refine zTO ?_ ?_
  | refine zPA (zKx hr) ?_ ?_
  | refine zRy ?_ ?_
  | refine zSo ?_ ?_
  | refine zTJ ?_ ?_
  | refine zK8
  | refine zNy rfl ?_
  | refine zMD (zKx hr) ?_ ?_
  | refine zQK (zOj (K:=K)) PassesOwn.never rfl ?_ ?_ ?_
  | refine zST ?_
  | refine zPL _ PassesOwn.never ?_ ?_
  | refine zPB
  | refine zPI ?_
  | refine zOu ?_ ?_ ?_
  | refine zTV ?_ ?_
  | refine zQN rfl rfl T.z_all ?_ (zF rfl) rfl
  | refine zRd rfl T.z_int ?_ (zF rfl) rfl
  | refine zTG ?_ ?_
  | refine zOq ?_ ?_ ?_
  | refine zPZ ?_
  | refine zLs ?_
  | refine zRu (zDG (by decide)) (zEb sc rfl rfl rfl (by decide +kernel) (by decide +kernel)) rfl ?_ ⟨fun _ _ _ _ _=>?_,fun _ _ _ _ _=>?_,fun _ _ _ _ _=>?_⟩
  | refine zP3 rfl rfl T.z_sorted ?_ (zF rfl) rfl
  | refine zRh rfl T.z_list ?_ (zF rfl) rfl
  | refine zS3 ?_ ?_
  | refine zO8 ?_ ?_ ?_ ?_ ?_ ?_
  | refine zS1 ?_ ?_
  | refine zM3 ?_
  | refine zNO ?_ ?_
  | refine zKE ?_
  | refine zHM ?_ ?_
  | refine zNo ?_ ?_
  | refine zM5 rfl T.z_sorted ?_ (zF rfl) rfl
  | refine zSN
  | refine zSG ?_ ?_
  | refine zTe ?_ ?_
  | refine zPF
  | refine zJW (zDG (by decide)) (zMK sc rfl rfl rfl (by rfl) (by decide +kernel)) rfl ?_ ⟨fun _ _ _ _ _=>?_,fun _ _ _ _ _=>?_,fun _ _ _ _ _=>?_⟩
  | refine zSB rfl rfl T.z_tuple rfl T.z_range ?_ (zF rfl) rfl (zF rfl) rfl
  | refine zRF ?_
  | refine zMX sc.nd rfl (by first | exact Or.inl rfl | exact Or.inr rfl) (by first | exact .inl rfl | exact .inr rfl) rfl (zDG (by decide)) (zEb sc rfl rfl rfl (by decide +kernel) (by decide +kernel)) rfl ?_ ⟨fun _ _ _ _ _=>?_,fun _ _ _ _ _=>?_,fun _ _ _ _ _=>?_⟩
  | refine zP2 rfl T.z_sorted ?_ (zF rfl) rfl
  | refine zNb ?_
  | refine zPJ hL (hr.mono (by omega)) rfl ?_ ?_ (by first | exact Or.inl rfl | exact Or.inr (Or.inl rfl) | exact Or.inr (Or.inr rfl)) (by decide) (by decide) (zF rfl) (zAW rfl)
  | refine zPh rfl rfl T.z_sorted ?_ (zF rfl) rfl
  | refine zN0 ?_
  | refine zTn sc.nd rfl ?_
  | refine zRC (zRf ?_ ?_)
  | refine zRC (zQI ?_ ?_)
  | refine zHg ?_)
abbrev zJM:List Str:=["rooms", "goal", "room"]
theorem zH5:FnScope zJM ["rooms", "goal"] (zO zCx):=⟨rfl,rfl,rfl,by decide +kernel,rfl,by decide +kernel,by decide +kernel⟩
theorem zHG (T:Txt K mg):Od P w base 1 T.d_is_within zAR:=by
  unfold zAR;have sc:=zH5;exact zB2 (zAh (n:=2) T.d_is_within.F sc rfl (fun cdv A outer s H E hr=>by
    unfold zCs;decreasing_trivial))
abbrev zLc:List Str:=["machine", "rooms", "letter", "room"]
theorem zKG:FnScope zLc ["machine", "rooms", "letter"] (zO zET):=⟨rfl,rfl,rfl,by decide +kernel,rfl,by decide +kernel,by decide +kernel⟩
theorem zJz (T:Txt K mg):Od P w base 1 T.d_stepped zBk:=by
  unfold zBk;have sc:=zKG;exact zB2 (zAh (n:=3) T.d_stepped.F sc rfl (fun cdv A outer s H E hr=>by
    unfold zEk;decreasing_trivial))
abbrev zJG:List Str:=["_law_script"]
theorem zHQ:FnScope zJG ["_law_script"] (zO zC6):=⟨rfl,rfl,rfl,by decide +kernel,rfl,by decide +kernel,by decide +kernel⟩
theorem zHn (T:Txt K mg):Od P w base 1 T.d_law_begin zBY:=by
  unfold zBY;have sc:=zHQ;exact zAh (n:=1) T.d_law_begin.F sc rfl (fun cdv A outer s H E hr=>by
    unfold zC5;decreasing_trivial)
abbrev zJv:List Str:=["_law_state", "_law_many", "_law_cell", "_law_at", "_law_mixed", "_law_digit"]
theorem zIR:FnScope zJv ["_law_state", "_law_many"] (zO zDg):=⟨rfl,rfl,rfl,by decide +kernel,rfl,by decide +kernel,by decide +kernel⟩
theorem zI4 (T:Txt K mg):Od P w base 1 T.d_law_next zf:=by
  unfold zf;have sc:=zIR;exact zAh (n:=2) T.d_law_next.F sc rfl (fun cdv A outer s H E hr=>by
    unfold zDk;decreasing_trivial)
abbrev zE7:List Str:=["_law_rows", "_law_joins", "_law_letter", "_law_order", "_law_room", "_law_last"]
theorem zEU:FnScope zE7 ["_law_rows", "_law_joins"] (zO zBe):=⟨rfl,rfl,rfl,by decide +kernel,rfl,by decide +kernel,by decide +kernel⟩
theorem zEp (T:Txt K mg):Od P w base 1 T.d_law_exchanged zAU:=by
  unfold zAU;have sc:=zEU;exact zAh (n:=2) T.d_law_exchanged.F sc rfl (fun cdv A outer s H E hr=>by
    unfold zBc;decreasing_trivial)
abbrev zJs:List Str:=["_law_rows", "_law_room", "_law_letter", "_law_style", "_law_rooms", "_law_cut"]
theorem zJH:FnScope zJs ["_law_rows", "_law_room", "_law_letter", "_law_style"] (zO zDj):=⟨rfl,rfl,rfl,by decide +kernel,rfl,by decide +kernel,by decide +kernel⟩
theorem zJQ (T:Txt K mg):Od P w base 1 T.d_law_goal zAw:=by
  unfold zAw;have sc:=zJH;exact zAh (n:=4) T.d_law_goal.F sc rfl (fun cdv A outer s H E hr=>by
    unfold zDT;decreasing_trivial)
abbrev zKW:List Str:=["_law_machine_here", "_law_rooms", "_law_letter", "_law_found", "_law_room"]
theorem zIu:FnScope zKW ["_law_machine_here", "_law_rooms", "_law_letter"] (zO zDX):=⟨rfl,rfl,rfl,by decide +kernel,rfl,by decide +kernel,by decide +kernel⟩
theorem zIz (T:Txt K mg):Od P w base 1 T.d_law_step zAE:=by
  unfold zAE;have sc:=zIu;exact zB2 (zAh (n:=3) T.d_law_step.F sc rfl (fun cdv A outer s H E hr=>by
    unfold zDc;decreasing_trivial))
abbrev zKU:List Str:=["_law_found", "_law_many", "_law_goal_set", "_law_room"]
theorem zIt:FnScope zKU ["_law_found", "_law_many", "_law_goal_set"] (zO zDS):=⟨rfl,rfl,rfl,by decide +kernel,rfl,by decide +kernel,by decide +kernel⟩
theorem zJO (T:Txt K mg):Od P w base 1 T.d_law_fits zBM:=by
  unfold zBM;have sc:=zIt;exact zB2 (zAh (n:=3) T.d_law_fits.F sc rfl (fun cdv A outer s H E hr=>by
    unfold zDn;decreasing_trivial))
abbrev zHY:List Str:=["machine", "level", "seen", "behind", "some", "word", "letter", "goal"]
theorem zGK:FnScope zHY ["machine", "level", "seen"] (zO zCW):=⟨rfl,rfl,rfl,by decide +kernel,rfl,by decide +kernel,by decide +kernel⟩
theorem zGU (T:Txt K mg):Od P w base 2 T.d_next_level zAl:=by
  unfold zAl;have sc:=zGK;exact zAh (n:=3) T.d_next_level.F sc rfl (fun cdv A outer s H E hr=>by
    unfold zCO;decreasing_trivial)
abbrev zGM:List Str:=["_law_state", "_law_most", "_law_upto", "_law_rooms", "_law_letters", "_law_style", "_law_rows", "_law_room", "_law_letter", "_law_row"]
theorem zFY:FnScope zGM ["_law_state", "_law_most", "_law_upto"] (zO zCA):=⟨rfl,rfl,rfl,by decide +kernel,rfl,by decide +kernel,by decide +kernel⟩
theorem zGI (T:Txt K mg):Od P w base 2 T.d_law_machine zAs:=by
  unfold zAs;have sc:=zFY;exact zKu (zAh (n:=3) T.d_law_machine.F sc rfl (fun cdv A outer s H E hr=>by
    unfold zBP;decreasing_trivial))
abbrev zMF:List Str:=["_law_state", "_law_rooms", "_law_some", "_law_room"]
theorem zJl:FnScope zMF ["_law_state", "_law_rooms"] (zO zEY):=⟨rfl,rfl,rfl,by decide +kernel,rfl,by decide +kernel,by decide +kernel⟩
theorem zJy (T:Txt K mg):Od P w base 2 T.d_law_set zBl:=by
  unfold zBl;have sc:=zJl;exact zKu (zAh (n:=2) T.d_law_set.F sc rfl (fun cdv A outer s H E hr=>by
    unfold zDC;decreasing_trivial))
abbrev zHt:List Str:=["_law_machine_here", "_law_rooms", "_law_met", "_law_told", "_law_behind", "_law_one", "_law_letter", "_law_goal_here", "_law_level"]
theorem zGY:FnScope zHt ["_law_machine_here", "_law_rooms"] (zO zCR):=⟨rfl,rfl,rfl,by decide +kernel,rfl,by decide +kernel,by decide +kernel⟩
theorem zGQ (T:Txt K mg):Od P w base 2 T.d_law_levels zA6:=by
  unfold zA6;have sc:=zGY;exact zB2 (zAh (n:=2) T.d_law_levels.F sc rfl (fun cdv A outer s H E hr=>by
    unfold zCT;decreasing_trivial))
abbrev zIC:List Str:=["_law_machine_here", "_law_rooms", "_law_met", "_law_told", "_law_at", "_law_letter", "_law_goal_here"]
theorem zH0:FnScope zIC ["_law_machine_here", "_law_rooms"] (zO zCw):=⟨rfl,rfl,rfl,by decide +kernel,rfl,by decide +kernel,by decide +kernel⟩
theorem zHW (T:Txt K mg):Od P w base 2 T.d_law_words zBa:=by
  unfold zBa;have sc:=zH0;exact zAh (n:=2) T.d_law_words.F sc rfl (fun cdv A outer s H E hr=>by
    unfold zC4;decreasing_trivial)
abbrev zJh:List Str:=["machine", "rooms", "is_due", "seen", "level", "shown", "some", "word"]
theorem zI9:FnScope zJh ["machine", "rooms", "is_due"] (zO zDh):=⟨rfl,rfl,rfl,by decide +kernel,rfl,by decide +kernel,by decide +kernel⟩
theorem zIi (T:Txt K mg) {gL:List D -> FF} {lL:Lm} (hL:LamOk P w K mg base 2 lL 1 gL):Od P w base 3 T.d_searched (zBI gL lL):=by
  unfold zBI;have sc:=zI9;exact zB2 (zAh (n:=3) T.d_searched.F sc rfl (fun cdv A outer s H E hr=>by
    unfold zCY;decreasing_trivial))
abbrev zMG:List Str:=["_law_machine_here", "_law_rooms", "_law_many", "_law_goal_set", "_law_all_levels", "_law_found", "_law_word"]
theorem zKL:FnScope zMG ["_law_machine_here", "_law_rooms", "_law_many", "_law_goal_set"] (zO zEZ):=⟨rfl,rfl,rfl,by decide +kernel,rfl,by decide +kernel,by decide +kernel⟩
theorem zKA (T:Txt K mg):Od P w base 3 T.d_law_due zBj:=by
  unfold zBj;have sc:=zKL;exact zB2 (zAh (n:=4) T.d_law_due.F sc rfl (fun cdv A outer s H E hr=>by
    unfold zEV;decreasing_trivial))
abbrev zJP:List Str:=["machine", "rooms", "goal"]
theorem zHb:FnScope zJP ["machine", "rooms", "goal"] (zO zBU):=⟨rfl,rfl,rfl,by decide +kernel,rfl,by decide +kernel,by decide +kernel⟩
theorem zGV (T:Txt K mg) {l:Lm} (h:zR1 base l zBU ["goal"]):LamOk P w K mg base 2 l 1 zBy :=
  (zRc (k:=1) (N:=["some", "goal"]) (ps:=["some"]) h ⟨rfl,rfl,rfl,by decide +kernel,rfl,by decide +kernel,by decide +kernel,by decide +kernel,fun _ _ _ _ _=>zR4 fun _=>rfl⟩ (fun q cd cl A outer s H hr=>zAY (zRZ (zHG T) (hr.mono (by omega)) rfl (zCc (zAY (zAq (pv 0))) (zCc (zAY (zAq (pv 1))) zFZ (zF rfl)) (zF rfl)) (zBG (zBG zCm)) (by decide) (zF rfl) (zAW rfl)))).mono (by omega)
theorem zH2 (T:Txt K mg):Od P w base 4 T.d_word_into zA2:=by
  unfold zA2;exact zB2 (zPC (n:=3) T.d_word_into.F zHb rfl T.c_word_into (fun A outer s H E hr=>by
    unfold zCz;exact (zEf (zGh (zOt (fs:=["goal"]) (idx:=[2]) (fun base' l hA=>zIi T (zGV T hA)) (fun _=>rfl) (hr.mono (by omega)) rfl T.d_searched.m T.d_searched.F.kp T.d_searched.b (zIh (zAY (zAq (pv 0))) (zIh (zAY (zAq (pv 1))) (zOl (y := "word_into") (sc0:=zO zBU) (by decide) T.t_word_into rfl T.h_word_into rfl (by decide +kernel) zFZ rfl rfl (zF rfl)) (zF rfl)) (zF rfl)) (zRr (zBG (zBG zCm)) zCm rfl) rfl (zTw ⟨rfl,rfl,by decide +kernel⟩) (by decide) (zF rfl) (zAW rfl))))))
abbrev zEv:List Str:=["_law_found", "_law_due_here", "_law_one", "_law_other"]
theorem zCS:FnScope zEv ["_law_found", "_law_due_here"] (zO zB4):=⟨rfl,rfl,rfl,by decide +kernel,rfl,by decide +kernel,by decide +kernel⟩
theorem zDQ (T:Txt K mg):∀ n:Nat,FnOk P w K mg base CX0 (n + 0) T.d_law_alike.f T.d_law_alike.fd ["_law_found", "_law_due_here"] (spF K 2 (zw n))
  | 0=>zPm
  | n + 1=>by
    have hrec:=zDQ T n;unfold zw;rw [show n + 1 + 0 = (n + 0) + 1 by omega];exact zAh (n:=2) T.d_law_alike.F zCS rfl (fun cdv A outer s H E hr=>by
      unfold zB1;exact (zFJ (zQB (zHg (zGt T.kinds (by decide) rfl T.z_isinstance rfl T.z_tuple (by rfl) (by decide) (by decide) (zAq (pv 1)) (zF rfl) (zF rfl) (zAW rfl))) (zFJ (zQB (zRC (zQI (zN0 (zHg (zGt T.kinds (by decide) rfl T.z_isinstance rfl T.z_tuple (by rfl) (by decide) (by decide) (zAq (pv 0)) (zF rfl) (zF rfl) (zAW rfl)))) (zM3 (zSu hr.units0 (zNN rfl T.z_len (zFE (zAq (pv 0)) zHJ (zF rfl)) (zF rfl) rfl) (zNN rfl T.z_len (zFE (zAq (pv 1)) zHJ (zF rfl)) (zF rfl) rfl))))) (zEf (zGh zSZ)) zHl)
    (zEf (zGh (zQN rfl rfl T.z_all (zFE (zJW (zMU (i:=2) (j:=3) (by decide) (by decide)) (zEn (sc:=zO zB4) (N:=zEv) rfl rfl rfl (by decide +kernel) (by decide +kernel)) rfl (zRH rfl T.z_zip (zCc (zAY (zAq (pv 0))) (zCc (zAY (zAq (pv 1))) zFZ (zF rfl)) (zF rfl)) (zMq rfl rfl) (zFp rfl)) ⟨fun _ _ _ _ _=>(zNy rfl (zFs (zOO (i:=2) zCS.nd rfl) (zFs (zOO (i:=3) zCS.nd rfl) zK8))),fun _ _ _ _ _=>zM7,fun _ _ _ _ _=>(zRZ hrec (hr.mono (by omega)) rfl (zCc (zAY (zAq (pv 2))) (zCc (zAY (zAq (pv 3))) zFZ (zF rfl)) (zF rfl)) (zBG (zBG zCm)) (by decide) (zF rfl) (zAW rfl))⟩) zHJ (zF rfl)) (zF rfl) rfl)))) zHl)
    (zFJ (zQB (zHg (zGt T.kinds (by decide) rfl T.z_isinstance rfl T.z_str (by rfl) (by decide) (by decide) (zAq (pv 1)) (zF rfl) (zF rfl) (zAW rfl))) (zEf (zGh (zHM (zGt T.kinds (by decide) rfl T.z_isinstance rfl T.z_str (by rfl) (by decide) (by decide) (zAq (pv 0)) (zF rfl) (zF rfl) (zAW rfl)) (zKE (zRj hr.units0 (zAq (pv 0)) (zAq (pv 1))))))) zHl)
    (zEf (zGh (zHM (zGt T.kinds (by decide) rfl T.z_isinstance rfl T.z_int (by rfl) (by decide) (by decide) (zAq (pv 0)) (zF rfl) (zF rfl) (zAW rfl)) (zHM (zRL (zGt T.kinds (by decide) rfl T.z_isinstance rfl T.z_bool (by rfl) (by decide) (by decide) (zAq (pv 0)) (zF rfl) (zF rfl) (zAW rfl))) (zKE (zRj hr.units0 (zAq (pv 0)) (zAq (pv 1)))))))))))
theorem zHj (T:Txt K mg):Od P w base 5 T.d_law_alike zCv:=zDQ T 5
abbrev zTI:List Str:=["_law_script", "_law_state", "_law_turn", "_law_machine_here", "_law_rooms", "_law_goals", "_law_goal_set", "_law_due_here"]
theorem zR6:FnScope zTI ["_law_script"] (zO zNS):=⟨rfl,rfl,rfl,by decide +kernel,rfl,by decide +kernel,by decide +kernel⟩
theorem zQn (T:Txt K mg):Od P w base 6 T.d_law zEu:=by
  unfold zEu;have sc:=zR6;exact zAh (n:=1) T.d_law.F sc rfl (fun cdv A outer s H E hr=>by
    unfold zOQ;decreasing_trivial)
end
theorem zSC {l:PySem.W.OpenLaw} {w:World} {K:PySem.W.Frag} {h:Heap} {mg:Str -> Option Value} {fa:Addr} (X:K.In h) (G:h.Ns mainGlobals mg) (hfa:mg "law" = some (.ref fa))
    {ts:List Addr}(g1:Dg K "is_within" zCx) (g2:Dg K "stepped" zET) (g3:Dg K "next_level" zCW) (g4:Dg K "searched" zDh) (g5:Dg K "word_into" zBU) (g6:Dg K "_law_begin" zC6) (g7:Dg K "_law_next" zDg) (g8:Dg K "_law_exchanged" zBe) (g9:Dg K "_law_goal" zDj) (g10:Dg K "_law_machine" zCA) (g11:Dg K "_law_set" zEY) (g12:Dg K "_law_step" zDX) (g13:Dg K "_law_levels" zCR) (g14:Dg K "_law_words" zCw) (g15:Dg K "_law_fits" zDS) (g16:Dg K "_law_due" zEZ) (g17:Dg K "_law_alike" zB4) (g18:Dg K "law" zNS) (z1:Zn K "all") (z2:Zn K "tuple") (z3:Zn K "sorted") (z4:Zn K "range") (z5:Zn K "len") (z6:Zn K "list") (z7:Zn K "int") (z8:Zn K "isinstance") (z9:Zn K "str") (z10:Zn K "bool") (z11:Zn K "zip") (y1:Ki K "NoneType" "int" false) (y2:Ki K "NoneType" "bool" false) (y3:Ki K "NoneType" "str" false) (y4:Ki K "NoneType" "tuple" false) (y5:Ki K "bool" "int" true) (y6:Ki K "bool" "bool" true) (y7:Ki K "bool" "str" false) (y8:Ki K "bool" "tuple" false) (y9:Ki K "int" "int" true) (y10:Ki K "int" "bool" false) (y11:Ki K "int" "str" false) (y12:Ki K "int" "tuple" false) (y13:Ki K "str" "int" false) (y14:Ki K "str" "bool" false) (y15:Ki K "str" "str" true) (y16:Ki K "str" "tuple" false) (y17:Ki K "list" "int" false) (y18:Ki K "list" "bool" false) (y19:Ki K "list" "str" false) (y20:Ki K "list" "tuple" false) (y21:Ki K "tuple" "int" false) (y22:Ki K "tuple" "bool" false) (y23:Ki K "tuple" "str" false) (y24:Ki K "tuple" "tuple" true) (y25:Ki K "dict" "int" false) (y26:Ki K "dict" "bool" false) (y27:Ki K "dict" "str" false) (y28:Ki K "dict" "tuple" false) (u5:Tb K "word_into" g5) (n0:Zn K "levels") (n1:Zn K "least_word") (n2:Zn K "shows_least") (n3:Zn K "shows_into") (ht:(ts.all (fun P=>([("word_into", u5.c,u5.P)]:List (Str × Addr × Addr)).any (·.2.2 == P)) && ([("word_into", u5.c,u5.P)]:List (Str × Addr × Addr)).all (fun p=>ts.contains p.2.2)) = true) :
    zAG K ts /\ ∃ fd:FuncData,(∀ (s:Shared) (v:Value),BindsTo s fd ⟨[v],[]⟩ [("_law_script", v)]) /\ ∀ base:Heap,K.In base -> base.Ns mainGlobals mg -> FnOk l.prog w K mg base CX0 6 fa fd ["_law_script"] (spF K 1 zEu):=by
  have e:=hfa.symm.trans (PySem.W.mg_of X G g18.a);cases e;have kinds:Kinds K:=⟨by
    intro t T ht hT;simp only [zUG,zUZ,or_false] at ht hT;rcases ht with rfl | rfl | rfl | rfl | rfl | rfl | rfl <;> rcases hT with rfl | rfl | rfl | rfl <;> assumption⟩
  let T:Txt K mg:=⟨g1.df X G fun _ _ _ _ _ _=>zJ0 fun _ _=>rfl,g2.df X G fun _ _ _ _ _ _=>zJu fun _ _ _=>rfl,g3.df X G fun _ _ _ _ _ _=>zJu fun _ _ _=>rfl,g4.df X G fun _ _ _ _ _ _=>zJu fun _ _ _=>rfl,g5.df X G fun _ _ _ _ _ _=>zJu fun _ _ _=>rfl,g6.df X G fun _ _ _ _ _ _=>zR4 fun _=>rfl,g7.df X G fun _ _ _ _ _ _=>zJ0 fun _ _=>rfl,g8.df X G fun _ _ _ _ _ _=>zJ0 fun _ _=>rfl,g9.df X G fun _ _ _ _ _ _=>zSh fun _ _ _ _=>rfl,g10.df X G fun _ _ _ _ _ _=>zJu fun _ _ _=>rfl,g11.df X G fun _ _ _ _ _ _=>zJ0 fun _ _=>rfl,g12.df X G fun _ _ _ _ _ _=>zJu fun _ _ _=>rfl,g13.df X G fun _ _ _ _ _ _=>zJ0 fun _ _=>rfl,g14.df X G fun _ _ _ _ _ _=>zJ0 fun _ _=>rfl,g15.df X G fun _ _ _ _ _ _=>zJu fun _ _ _=>rfl,g16.df X G fun _ _ _ _ _ _=>zSh fun _ _ _ _=>rfl,g17.df X G fun _ _ _ _ _ _=>zJ0 fun _ _=>rfl,g18.df X G fun _ _ _ _ _ _=>zR4 fun _=>rfl,zU3 X G z1,zU3 X G z2,zU3 X G z3,zU3 X G z4,zU3 X G z5,zU3 X G z6,zU3 X G z7,zU3 X G z8,zU3 X G z9,zU3 X G z10,zU3 X G z11,u5.c,u5.P,u5.tab,u5.hd,u5.e,kinds⟩;refine ⟨zRI [("word_into", u5.c,u5.P)] (fun p hp=>by
    rcases zUG.mp hp with rfl | hp
    · exact ⟨u5.tab,u5.hd⟩
    cases hp) (fun x hx hn=>by
    simp only [zCJ,zUG,zUZ,or_false] at hx;rcases hx with rfl | rfl | rfl | rfl | rfl;all_goals first | exact zRD (by assumption) | exact absurd (by simp) hn) ht,T.d_law.fd,fun s v=> .of_eq rfl,fun base _ _=>?_⟩
  exact zQn (P:=l.prog) (w:=w) (base:=base) T
theorem zTQ {l:PySem.W.OpenLaw} {q:Program} {loose:List Str} {XP:(Str -> Option Value) -> Heap -> Prop} {d:DefRec} {K:Params -> PySem.W.Frag} {as:List Addr} {ee:∀ P,as = (K P).map (·.1)} {ts:List Addr} (hn:l.most = some 63) (hdf:d.params.defaults = [])
    (hL:∀ w:World,zEh (K w.params) = true) (hT:∀ w:World,PySem.W.noTabs (K w.params) = true)
    (F:∀ (w:World) (mg:Str -> Option Value) (fa:Addr) (h:Heap),(K w.params).In h -> h.Ns mainGlobals mg -> mg d.name = some (.ref fa) ->
      zAG (K w.params) ts /\ ∃ fd:FuncData,(∀ (s:Shared) (u:Value),BindsTo s fd ⟨[u],[]⟩ [("_law_script", u)]) /\ ∀ base:Heap,(K w.params).In base -> base.Ns mainGlobals mg -> FnOk l.prog w (K w.params) mg base CX0 6 fa fd ["_law_script"] (spF (K w.params) 1 zEu)) :
    PySem.W.WalkO q loose XP (PySem.W.kmHook K as ee ts).says l.row.toRowW d [] (fun f vs=>PySem.call f vs) :=
  zMv (n:=63) (k:=6) (x := "_law_script") (m:=zEu) hn (by decide) hdf ⟨rfl,by decide,by decide⟩ hL hT F zNr
end Lae
open PySem PySem.W PyProof.Rows
set_option maxRecDepth 100000 in
set_option maxHeartbeats 0 in
theorem PySem.Challenge.cw_bringhome_k13_words_into_a_set_holds : PySem.Challenge.rw_bringhome_k13_words_into_a_set.Holds := by
  w_on; o_law; k_head; (case hw=>w_witness2);k_fill;refine Lae.zTQ (l:=PySem.Challenge.rw_bringhome_k13_words_into_a_set) rfl rfl (fun w=>by rfl) (fun w=>by rfl) ?F
  case F=>
    intro w mg fa h KX G hmg;refine' Lae.zSC KX G hmg ?_ ?_ ?_ ?_ ?_ ?_ ?_ ?_ ?_ ?_ ?_ ?_ ?_ ?_ ?_ ?_ ?_ ?_ ?_ ?_ ?_ ?_ ?_ ?_ ?_ ?_ ?_ ?_ ?_ ?_ ?_ ?_ ?_ ?_ ?_ ?_ ?_ ?_ ?_ ?_ ?_ ?_ ?_ ?_ ?_ ?_ ?_ ?_ ?_ ?_ ?_ ?_ ?_ ?_ ?_ ?_ ?_ ?_ ?_ ?_ ?_ ?_ ?_;all_goals first | exact ⟨_,by k_is,by k_is,by k_is,by k_is⟩ | exact ⟨_,_,rfl,by k_is,by rfl,by rfl⟩ | (unfold L3.Zn; k_is) | (unfold L3.Ki; kit_is) | k_is | rfl
