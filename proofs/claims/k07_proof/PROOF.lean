import PyProof.Rows.All
import Wide.All
import OpenK.AllK
import Wide.FinOn
import Lean
import PyProof.EqAt
import PyProof.EqKinds
import PyProof.TupleCall
import PyProof.NeKinds
import PyProof.ZipIter
import PyProof.ListRange
import PyProof.TupleOfSeq
import PyProof.ConsumeWalk
import PyProof.IsRules
import PyProof.SetKind
import PyProof.SetRoads
import PyProof.Rows.SetFrom
import PyProof.Draws
import PyProof.EnumMake
import PyProof.DictCompW
import PyProof.ListMulRoad
import PyProof.Rows.SeqMore2
import PyProof.WalkInts
import PyProof.DictRoadsH
import PyProof.DictItems
import KE.KDictList
import KE.KDictOf
import PyProof.AttrMissHeap
import PyProof.StrLawsChain
import PyProof.FitsReplace
import PyProof.StrLawsIn
import PySem.Challenge.RW_bringhome_k07_machines_written
namespace PySem.W.Fast
def tw2834120149822894771:=0
def tw2147886752091198713:=0
def tw1850015553483744720:=0
def tw13782028142260893902:=0
def tw16085308170207354950:=0
def tw1896220968612066700:=0
def tw10027518278485177548:=0
def tw12975611128190042147:=0
def tw7425341597632272969:=0
def tw9213155023882370890:=0
def tw17421349320608606974:=0
def tw2503703162792418816:=0
def tw8478354496724276740:=0
def tw11213146372389922107:=0
def tw12515731081964356716:=0
def tw15390183808470056157:=0
def tw11395138578691438378:=0
def tw7341794187453863560:=0
def tw18208710997310783005:=0
def tw7018147472162461967:=0
def tw124044491937019903:=0
def tw6774088155365988616:=0
def tw17926308152701798960:=0
def tw16102397471950766706:=0
def tw5103358475591417878:=0
def tw15556733034994543536:=0
def tw4971726419423935073:=0
def tw7471811134003295925:=0
def tw13817781379439720638:=0
def tw5921643010164873450:=0
def tw4871478550453600647:=0
def tw416147741936523814:=0
def tw13803033149661583069:=0
def tw7162010984055444318:=0
def tw16507445638818681404:=0
def tw17899913704987312254:=0
def tw17158172605658572212:=0
def tw17145684779238917220:=0
def tw3819543406203848772:=0
def tw6698914255768911663:=0
def tw15666519405768967223:=0
def tw1231371028922775792:=0
def tw4465156330206783934:=0
def tw4299171732134427735:=0
def tw13571680745268527359:=0
def tw10748884797963004985:=0
def tw10448818101553476773:=0
def tw8335742848861052359:=0
def tw2469046716398679859:=0
def tw12958631964492612720:=0
def tw7835551945721820013:=0
def tw9319941097513284206:=0
def tw6667000413841103035:=0
def tw10596566332972770950:=0
def tw4568922338860746719:=0
def tw9027328858571028992:=0
def tw7328443698674640355:=0
def tw13086814861904696966:=0
def tw12390135595715452384:=0
def tw6915802784982582781:=0
def tw4958981273182896071:=0
def tw7420948319442130011:=0
def tw7165840892085314143:=0
def tw3145073996362929131:=0
def tw6157676076361202122:=0
def tw6443629409267437616:=0
def tw14114600396584601661:=0
def tw3952761515001421772:=0
def tw14855720899796564597:=0
def tw5034304071387451637:=0
def tw13130522704083522842:=0
def tw3121426861405917758:=0
def tw7702195230243993414:=0
def tw9135996340838888396:=0
def tw8397796171015302588:=0
def tw14134908192691497300:=0
def tw11345202927291015607:=0
def tw678198061674822855:=0
def tw2681066403710203267:=0
def tw2036281842307885217:=0
def tw15480745979072190320:=0
def tw5118498872017040502:=0
def tw14409217110002999704:=0
def tw10393262754943672739:=0
def tw5687961931951982851:=0
def tw5832616733935658178:=0
def tw17504570837621922699:=0
def tw11992676345464685419:=0
def tw16355889838800112733:=0
def tw14494710525384098562:=0
def tw10859889222319960435:=0
def tw15105476904662786217:=0
def tw13933261581899789977:=0
def tw3764902976599369907:=0
def tw14684278996180382833:=0
def tw17718087287363710872:=0
def tw17002762061617104571:=0
end PySem.W.Fast
section
open PySem PySem.Spec PyProof.Rows
theorem zQF:type_of% @wpAny_bind:=@wpAny_bind
theorem zQG:type_of% @Heap.get?_push_of_some:=@Heap.get?_push_of_some
theorem zQH:type_of% @wpAny_pure:=@wpAny_pure
theorem zQI:type_of% @List.getElem?_eq_some_iff:=@List.getElem?_eq_some_iff
theorem zQJ:type_of% @List.getElem?_eq_getElem:=@List.getElem?_eq_getElem
theorem zQK:type_of% @List.getD_eq_getElem?_getD:=@List.getD_eq_getElem?_getD
theorem zQL:type_of% @Nat.le_refl:=@Nat.le_refl
theorem zQM:type_of% @List.getElem?_append_left:=@List.getElem?_append_left
theorem zQN:type_of% @List.size_toArray:=@List.size_toArray
theorem zQO:type_of% @List.length_map:=@List.length_map
theorem zQP:type_of% @Heap.get?_push_size:=@Heap.get?_push_size
theorem zQQ:type_of% @Heap.lt_size:=@Heap.lt_size
theorem zQR:type_of% @List.mem_cons:=@List.mem_cons
theorem zQS:type_of% @List.mem_cons_of_mem:=@List.mem_cons_of_mem
theorem zQT:type_of% @List.mem_cons_self:=@List.mem_cons_self
theorem zQU:type_of% @if_pos:=@if_pos
theorem zQV:type_of% @List.length_append:=@List.length_append
theorem zQW:type_of% @List.mem_map:=@List.mem_map
theorem zQX:type_of% @if_neg:=@if_neg
theorem zQY:type_of% @List.map_cons:=@List.map_cons
theorem zQZ:type_of% @List.mem_append_right:=@List.mem_append_right
theorem zQa:type_of% @Nat.ne_of_lt:=@Nat.ne_of_lt
theorem zQb:type_of% @Bool.false_ne_true:=@Bool.false_ne_true
theorem zQc:type_of% @List.getElem?_map:=@List.getElem?_map
theorem zQd:type_of% @List.map_map:=@List.map_map
theorem zQe:type_of% @Nat.lt_of_lt_of_le:=@Nat.lt_of_lt_of_le
theorem zQf:type_of% @List.mem_append:=@List.mem_append
theorem zQg:type_of% @Nat.le_trans:=@Nat.le_trans
theorem zQi:type_of% @wpAny_newObj_type:=@wpAny_newObj_type
theorem zQj:type_of% @List.getElem?_set_ne:=@List.getElem?_set_ne
theorem zQk:type_of% @List.not_mem_nil:=@List.not_mem_nil
theorem zQl:type_of% @wpAny_mono:=@wpAny_mono
theorem zQo:type_of% @decide_eq_false:=@decide_eq_false
theorem zQp:type_of% @Bool.and_eq_true:=@Bool.and_eq_true
theorem zQq:type_of% @List.all_eq_true:=@List.all_eq_true
theorem zQr:type_of% @wpAny_callSpecial?_slot:=@wpAny_callSpecial?_slot
theorem zQs:type_of% @wpAny_call_entry:=@wpAny_call_entry
theorem zQt:type_of% @List.mem_range:=@List.mem_range
theorem zQu:type_of% @wpAny_field:=@wpAny_field
theorem zQv:type_of% @Heap.size_push:=@Heap.size_push
theorem zQy:type_of% @Array.length_toList:=@Array.length_toList
theorem zQz:type_of% @List.append_nil:=@List.append_nil
theorem zQ6:type_of% @List.mem_of_getElem?:=@List.mem_of_getElem?
theorem zQ7:type_of% @List.map_append:=@List.map_append
theorem zQ9:type_of% @List.getElem?_set_self:=@List.getElem?_set_self
theorem zRE:type_of% @PySem.W.mg_none_of:=@PySem.W.mg_none_of
theorem zRF:type_of% @Option.some.inj:=@Option.some.inj
theorem zRH:type_of% @PySem.mem_of_lookup:=@PySem.mem_of_lookup
theorem zRN:type_of% @decide_eq_true:=@decide_eq_true
theorem zRP:type_of% @List.getElem?_append_right:=@List.getElem?_append_right
theorem zRR:type_of% @wpAny_truthy_bool:=@wpAny_truthy_bool
theorem zRS:type_of% @decide_eq_true_eq:=@decide_eq_true_eq
theorem zRY:type_of% @List.replicate_succ:=@List.replicate_succ
theorem zRd:type_of% @List.length_take:=@List.length_take
theorem zRn:type_of% @PyProof.Rows.slot_tuple_getitem:=@PyProof.Rows.slot_tuple_getitem
theorem zRo:type_of% @List.getElem?_set:=@List.getElem?_set
theorem zRs:type_of% @PySem.W.kia_one:=@PySem.W.kia_one
theorem zR1:type_of% @List.find?_cons:=@List.find?_cons
theorem zR2:type_of% @congrArg:=@congrArg
theorem zSC:type_of% @List.length_range:=@List.length_range
theorem zSE:type_of% @List.flatten_cons:=@List.flatten_cons
theorem zSK:type_of% @List.lookup_cons:=@List.lookup_cons
theorem zSi:type_of% @List.length_drop:=@List.length_drop
theorem zSz:type_of% @Int.toNat_natCast:=@Int.toNat_natCast
end
set_option Elab.async false
set_option linter.all false
set_option maxRecDepth 100000
set_option genSizeOf false
set_option genInjectivity false
noncomputable section
namespace L2
open PySem PySem.Spec PyProof.Rows
abbrev Key:=Sum Int Str
def zDn:Key -> Value -> Bool
 | .inl k,v=>Value.isInt k v
 | .inr x,v=>Value.isStrOf x v
def zPt (w:World):Key -> Int
 | .inl k=>hashInt k
 | .inr x=>hashStr w x
theorem zk:∀ {k:Key} {v:Value},zDn k v = true -> (∃ i t,k = Sum.inl i /\ v = Value.int i t) \/ (∃ x t,k = Sum.inr x /\ v = Value.str x t)
 | .inl i,v,h=>by
  obtain ⟨t,e⟩:=Value.isInt_shape (k:=i) (v:=v) h;exact .inl ⟨i,t,rfl,e⟩
 | .inr x,v,h=>by
  obtain ⟨t,e⟩:=Value.isStrOf_shape (x:=x) (v:=v) h;exact .inr ⟨x,t,rfl,e⟩
theorem zIn (i:Int) (t:Tok):zDn (.inl i) (.int i t) = true:=by simp [zDn,Value.isInt]
theorem zI6 (x:Str) (t:Tok):zDn (.inr x) (.str x t) = true:=by simp [zDn,Value.isStrOf]
theorem zOM (a b:Int):decide ((Sum.inl a:Key) = Sum.inl b) = (a == b):=by
 by_cases e:a = b
 ·subst e; simp
 ·have h:¬ (Sum.inl a:Key) = Sum.inl b:=fun q=>e (Sum.inl.inj q);rw [zQo h];exact (beq_eq_false_iff_ne.mpr e).symm
theorem zOE (a b:Str):decide ((Sum.inr a:Key) = Sum.inr b) = decide (a = b):=by
 by_cases e:a = b
 ·subst e; simp
 ·have h:¬ (Sum.inr a:Key) = Sum.inr b:=fun q=>e (Sum.inr.inj q);rw [zQo h,zQo e]
theorem zNQ (a:Int) (b:Str):decide ((Sum.inl a:Key) = Sum.inr b) = false:=zQo (fun q=>nomatch q)
theorem zNv (a:Str) (b:Int):decide ((Sum.inr a:Key) = Sum.inl b) = false:=zQo (fun q=>nomatch q)
def zw (prog:Program) (w:World):PySem.KeyKind prog w Key where
 is:=zDn
 hash:=zPt w
 inj:=fun v a b ha hb=>by
  rcases zk ha with ⟨i,t,rfl,rfl⟩ | ⟨x,t,rfl,rfl⟩
  ·rcases zk hb with ⟨j,u,rfl,e⟩ | ⟨y,u,rfl,e⟩
   ·injection e with e1 _; rw [e1]
   ·exact nomatch e
  ·rcases zk hb with ⟨j,u,rfl,e⟩ | ⟨y,u,rfl,e⟩
   ·exact nomatch e
   ·injection e with e1 _; rw [e1]
 byValue:=fun k v h=>by
  rcases zk h with ⟨i,t,rfl,rfl⟩ | ⟨x,t,rfl,rfl⟩ <;> rfl
 pyHash:=fun hv h=>by
  rcases zk hv with ⟨i,t,rfl,rfl⟩ | ⟨x,t,rfl,rfl⟩
  ·exact wpAny_pyHash_int h
  ·exact wpAny_pyHash_str h
 eqBool:=fun hu hv h=>by
  rcases zk hu with ⟨i,t,rfl,rfl⟩ | ⟨x,t,rfl,rfl⟩
  ·rcases zk hv with ⟨j,u,rfl,rfl⟩ | ⟨y,u,rfl,rfl⟩
   ·rw [zOM] at h; exact wpAny_eqBool_int h
   ·rw [zNQ] at h; exact SeqAt.EqAt.int_str i t y u _ _ _ _ h
  ·rcases zk hv with ⟨j,u,rfl,rfl⟩ | ⟨y,u,rfl,rfl⟩
   ·rw [zNv] at h; exact SeqAt.EqAt.str_int x t j u _ _ _ _ h
   ·rw [zOE] at h; exact wpAny_eqBool_str h
 «strs»:=fun k x t v h=>by
  rcases zk h with ⟨i,u,rfl,e⟩ | ⟨y,u,rfl,e⟩
  ·exact nomatch e
  ·injection e with e1 _
   subst e1
   cases v <;> rfl
theorem zGf (prog:Program) (w:World) (i:Int) (t:Tok):(zw prog w).is (.inl i) (.int i t) = true:=zIn i t
theorem zHA (prog:Program) (w:World) (x:Str) (t:Tok):(zw prog w).is (.inr x) (.str x t) = true:=zI6 x t
set_option genInjectivity true in
inductive V where
 | non | bl (b:Bool) | int (i:Int) | str (x:Str) | byt (b:Array UInt8) | flt (b:UInt64) | ref (a:Addr) | ty (n:String)
 deriving DecidableEq
def zf:V -> Value -> Prop
 | .non,u=>u = Value.none
 | .bl b,u=>u = Value.bool b
 | .int i,u=>∃ t,u = Value.int i t
 | .str x,u=>∃ t,u = Value.str x t
 | .byt b,u=>∃ t,u = Value.bytes b t
 | .flt b,u=>∃ t,u = Value.float b t
 | .ref a,u=>u = Value.ref a
 | .ty n,u=>u = Value.type n
abbrev zW:List V -> List Value -> Prop:=Paired zf
theorem zW.length {xs:List V} {us:List Value} (r:zW xs us):xs.length = us.length:=Paired.length r
theorem zW.get:∀ {xs:List V} {us:List Value} {i:Nat} {x:V},zW xs us -> xs[i]? = some x -> ∃ u,us[i]? = some u /\ zf x u
 | _,_,_,_,.nil,e=>by simp at e
 | _,_,0,_,.cons r _,e=>by simp at e; subst e; exact ⟨_,rfl,r⟩
 | _,_,i + 1,x,.cons _ t,e=>by
  obtain ⟨u,h1,h2⟩:=zW.get (i:=i) (x:=x) t (by simpa using e);exact ⟨u,by simpa using h1,h2⟩
theorem zW.set {x:V} {u:Value} (r:zf x u):∀ {xs:List V} {us:List Value} (i:Nat),zW xs us -> zW (xs.set i x) (us.set i u)
 | _,_,_,.nil=> .nil
 | _,_,0,.cons _ t=> .cons r t
 | _,_,i + 1,.cons q t=> .cons q (zW.set r i t)
theorem zW.append:∀ {xs ys:List V} {us ws:List Value},zW xs us -> zW ys ws -> zW (xs ++ ys) (us ++ ws)
 | _,_,_,_,.nil,s=>s
 | _,_,_,_,.cons r t,s=> .cons r (zW.append t s)
theorem zW.take:∀ {xs:List V} {us:List Value} (n:Nat),zW xs us -> zW (xs.take n) (us.take n)
 | _,_,0,_=> .nil
 | _,_,_ + 1,.nil=> .nil
 | _,_,n + 1,.cons r t=> .cons r (zW.take n t)
theorem zW.drop:∀ {xs:List V} {us:List Value} (n:Nat),zW xs us -> zW (xs.drop n) (us.drop n)
 | _,_,0,r=>r
 | _,_,_ + 1,.nil=> .nil
 | _,_,n + 1,.cons _ t=>zW.drop n t
def zEa:Option V -> Option Value -> Prop
 | some v,some u=>zf v u
 | none,none=>True
 | _,_=>False
def KV {κ:Type}:List (κ × V) -> List (κ × Value) -> Prop:=Paired fun (p:κ × V) (q:κ × Value)=>p.1 = q.1 /\ zf p.2 q.2
def kV:Key -> V
 | .inl i=> .int i
 | .inr x=> .str x
set_option genInjectivity true in
inductive HO where
 | lst (xs:List V)
 | tup (xs:List V)
 | dK (kvs:List (Key × V)) | dT (kvs:List (List Key × V))
 | set (S:Int -> Bool) (n:Nat)
 | ins (C dx:Addr) (fs:List (Str × V))
 | own (x:Addr)
 | xd (fs:List (Str × V))
 | met (f x:Addr)
 | rng (lo hi:Int)
 | frz (o:Obj) (u:HO)
 | tbl (ps:Array Value)
 | ext (φ:Heap -> Prop)
abbrev Hp:=Addr -> Option HO
def upd (H:Hp) (a:Addr) (o:HO):Hp:=fun b=>if b = a then some o else H b
theorem zAV {H:Hp} {a:Addr} {o:HO}:upd H a o a = some o:=by unfold upd; rw [zQU rfl]
theorem zR {H:Hp} {a b:Addr} {o:HO} (h:b ≠ a):upd H a o b = H b:=by unfold upd; rw [zQX h]
theorem zFP {H:Hp} {a b:Addr} {o u:HO} (h:H a = some o) (h':H b = some u) (d:o ≠ u):a ≠ b:=by
 intro e; subst e; rw [h] at h'; exact d (zRF h')
theorem zg {H:Hp} {a b:Addr} {o:HO} (h:H a = some o) (h':H b = none):a ≠ b:=by
 intro e; subst e; rw [h] at h'; cases h'
def zA0 (h:Heap) (a:Addr) (items:Array Value):Prop:=∃ o,h.get? a = some o /\ o.cls = .type "tuple" /\ (∃ n,o.data = .seq items n) /\ o.dict = none
theorem zA0.tup {h:Heap} {a:Addr} {items:Array Value} (x:zA0 h a items):IsTup h a items:=let ⟨o,e,c,d,_⟩:=x; ⟨o,e,c,d⟩
theorem zA0.lt {h:Heap} {a:Addr} {items:Array Value} (x:zA0 h a items):a < h.objs.size:=let ⟨_,e,_⟩:=x; zQQ e
theorem zA0.new (h:Heap) (items:Array Value):zA0 (h.push { cls:=.type "tuple", data:=.seq items }) h.objs.size items:=⟨_,zQP _ rfl,rfl,⟨_,rfl⟩,rfl⟩
section
variable (P:Program) (w:World)
def zr (H:Hp) (h:Heap) (a:Addr):HO -> Prop
 | .lst xs=>xs.length <= sizeLine /\ ∃ (its:List Value) (n:Nat),zW xs its /\ h.get? a = some { cls:=.type "list", data:=.seq its.toArray n }
 | .tup xs=>xs.length <= sizeLine /\ ∃ its:List Value,zW xs its /\ zA0 h a its.toArray
 | .dK kvs=>kvs.length <= sizeLine /\ (a == sysModules) = false /\ ∃ vs,KV kvs vs /\ h.DictOf (zw P w) a vs
 | .dT kvs=>kvs.length <= sizeLine /\ (a == sysModules) = false /\ ∃ xs:List (List Key × Addr × Value),
   Paired (fun (p:List Key × V) (q:List Key × Addr × Value)=>p.1 = q.1 /\ H q.2.1 = some (.tup (p.1.map kV)) /\ zf p.2 q.2.2) kvs xs /\
   ∃ o es ep,h.get? a = some o /\ o.ExactDict /\ o.data = .dict es ep /\ es.toList = xs.map (entryOfKey (tupleKind (zw P w))) /\ (xs.map (·.1)).Nodup
 | .set S n=>h.SetOf (intKind P w) a S n
 | .ins C dx fs=>H dx = some (.own a) /\ fs.length <= 1000 /\ dx ≠ a /\ h.get? a = some (PySem.W.instObj C dx) /\
   ∃ mA,h.Ns1 dx mA /\ (∀ f,zEa (fs.lookup f) (mA f)) /\ PySem.Within mA (fs.map (·.1))
 | .own _=>∃ o,h.get? a = some o
 | .xd fs=>∃ mA,h.Ns1 a mA /\ ∀ f,zEa (fs.lookup f) (mA f)
 | .rng lo hi=>∃ t u v,h.get? a = some { cls:=.type "range", data:=.fields #[.int lo t,.int hi u,.int 1 v] }
 | .frz o u=>h.get? a = some o /\ zr H h a u
 | .tbl ps=>h.get? a = some { cls:=.none,data:=.fields ps }
 | .met f x=>h.get? a = some (PySem.W.methodObj (.ref f) (.ref x))
 | .ext φ=>φ h /\ (∃ o,h.get? a = some o) /\ ∀ h1 h2:Heap,φ h1 -> (∀ o,h1.get? a = some o -> h2.get? a = some o) -> φ h2
def HOk (H:Hp) (h:Heap):Prop:=∀ a o,H a = some o -> zr P w H h a o
end
section
variable {P:Program} {w:World} {H H':Hp} {h h':Heap} {a:Addr} {o:HO}
theorem zr.lt (x:zr P w H h a o):a < h.objs.size:=by
 cases o with
 | lst xs=>obtain ⟨_,_,_,_,e⟩:=x; exact zQQ e
 | tup xs=>obtain ⟨_,_,_,p⟩:=x; exact p.lt
 | dK kvs=>obtain ⟨_,_,_,_,o,_,_,e,_⟩:=x; exact zQQ e
 | dT kvs=>obtain ⟨_,_,_,_,o,_,_,e,_⟩:=x; exact zQQ e
 | set S n=>obtain ⟨o,_,_,_,e,_⟩:=x; exact zQQ e
 | ins C dx fs=>obtain ⟨_,_,_,e,_⟩:=x; exact zQQ e
 | own y=>obtain ⟨_,e⟩:=x; exact zQQ e
 | xd fs=>obtain ⟨_,⟨_,_,_,e,_⟩,_⟩:=x; exact zQQ e
 | rng lo hi=>obtain ⟨_,_,_,e⟩:=x; exact zQQ e
 | frz ob u=>obtain ⟨e,_⟩:=x; exact zQQ e
 | tbl ps=>exact zQQ (show h.get? a = some _ from x)
 | met f y=>exact zQQ (show h.get? a = some _ from x)
 | ext φ=>obtain ⟨_,⟨_,e⟩,_⟩:=x; exact zQQ e
theorem Paired.mapP {α β:Type} {F G:α -> β -> Prop}:∀ {l₁:List α} {l₂:List β},Paired F l₁ l₂ -> (∀ a b,F a b -> G a b) -> Paired G l₁ l₂
 | _,_,.nil,_=> .nil
 | _,_,.cons r t,f=> .cons (f _ _ r) (Paired.mapP t f)
theorem zr.stay (x:zr P w H h a o) (k:∀ b u,(b = a \/ H b = some (.own a)) -> h.get? b = some u -> h'.get? b = some u)
  (ho:∀ b,H b = some (.own a) -> H' b = some (.own a)) (ht:∀ b xs,H b = some (.tup xs) -> H' b = some (.tup xs)):zr P w H' h' a o:=by
 induction o with
 | lst xs=>obtain ⟨z,its,n,r,e⟩:=x; exact ⟨z,its,n,r,k _ _ (.inl rfl) e⟩
 | tup xs=>obtain ⟨z,its,r,ob,e,c⟩:=x; exact ⟨z,its,r,ob,k _ _ (.inl rfl) e,c⟩
 | dK kvs=>obtain ⟨z,y,vs,r,ob,es,ep,e,c⟩:=x; exact ⟨z,y,vs,r,ob,es,ep,k _ _ (.inl rfl) e,c⟩
 | dT kvs=>
  obtain ⟨z,y,xs,r,ob,es,ep,e,c⟩:=x;exact ⟨z,y,xs,Paired.mapP r fun p q z=>⟨z.1,ht _ _ z.2.1,z.2.2⟩,ob,es,ep,k _ _ (.inl rfl) e,c⟩
 | set S n=>obtain ⟨ob,es,ep,t,e,c⟩:=x; exact ⟨ob,es,ep,t,k _ _ (.inl rfl) e,c⟩
 | ins C dx fs=>
  obtain ⟨d,z,ne,e,mA,⟨od,es,ep,e2,c⟩,r⟩:=x;exact ⟨ho _ d,z,ne,k _ _ (.inl rfl) e,mA,⟨od,es,ep,k _ _ (.inr d) e2,c⟩,r⟩
 | own y=>obtain ⟨ob,e⟩:=x; exact ⟨ob,k _ _ (.inl rfl) e⟩
 | xd fs=>obtain ⟨mA,⟨od,es,ep,e,c⟩,r⟩:=x; exact ⟨mA,⟨od,es,ep,k _ _ (.inl rfl) e,c⟩,r⟩
 | rng lo hi=>obtain ⟨t,u,v,e⟩:=x; exact ⟨t,u,v,k _ _ (.inl rfl) e⟩
 | frz ob u ih=>obtain ⟨e,q⟩:=x; exact ⟨k _ _ (.inl rfl) e,ih q⟩
 | tbl ps=>
  have e:h.get? a = some { cls:=.none,data:=.fields ps }:=x;show h'.get? a = some { cls:=.none,data:=.fields ps };exact k a _ (.inl rfl) e
 | met f y=>
  have e:h.get? a = some (PySem.W.methodObj (.ref f) (.ref y)):=x;show h'.get? a = some (PySem.W.methodObj (.ref f) (.ref y));exact k a _ (.inl rfl) e
 | ext φ=>obtain ⟨p,⟨o,e⟩,st⟩:=x; exact ⟨st _ _ p fun o q=>k _ _ (.inl rfl) q,⟨o,k _ _ (.inl rfl) e⟩,st⟩
theorem HOk.lt (x:HOk P w H h) (e:H a = some o):a < h.objs.size:=(x a o e).lt
theorem HOk.fresh (x:HOk P w H h) (e:h.objs.size <= a):H a = none:=by
 cases q:H a with
 | none=>rfl
 | some u=>exact absurd (zQe (x.lt q) e) (Nat.lt_irrefl _)
theorem HOk.kept (x:HOk P w H h) (k:∀ b u,h.get? b = some u -> h'.get? b = some u):HOk P w H h':=fun a o e=>
 (x a o e).stay (fun b u _ q=>k b u q) (fun _ q=>q) fun _ _ q=>q
theorem HOk.laid (x:HOk P w H h) (k:∀ b u,h.get? b = some u -> h'.get? b = some u) (hp:h.objs.size <= a) (new:zr P w (upd H a o) h' a o):HOk P w (upd H a o) h':=fun b u e=>by
 have hn:=x.fresh hp;by_cases hb:b = a
 ·subst hb; rw [zAV] at e; cases e; exact new
 ·rw [zR hb] at e;exact (x b u e).stay (fun c v _ q=>k c v q) (fun c q=>by rw [zR (zg q hn)]; exact q) fun c xs q=>by rw [zR (zg q hn)]; exact q
end
def Rd (H:Hp) (a:Addr) (u:HO):Prop:=H a = some u \/ ∃ o,H a = some (.frz o u)
theorem Rd.ok {P:Program} {w:World} {H:Hp} {h:Heap} {a:Addr} {u:HO} (r:Rd H a u) (x:HOk P w H h):zr P w H h a u:=by
 rcases r with r | ⟨o,r⟩
 ·exact x a u r
 ·obtain ⟨_,q⟩:=x a _ r;exact q
def Mut:Option HO -> Prop
 | some (.lst _)=>True
 | some (.dK _)=>True
 | some (.dT _)=>True
 | some (.set _ _)=>True
 | some (.ins _ _ _)=>True
 | some (.ext _)=>True
 | _=>False
section
variable {P:Program} {w:World} {H:Hp} {h h':Heap} {x e:Addr} {o':HO}
theorem HOk.write (ok:HOk P w H h) (mu:Mut (H x)) (he:e = x \/ H e = some (.own x)) (k:∀ b u,b ≠ e -> h.get? b = some u -> h'.get? b = some u) (heo:∃ u,h'.get? e = some u)
  (new:zr P w (upd H x o') h' x o'):HOk P w (upd H x o') h':=fun b u q=>by
 have nown:∀ c y,H c = some (.own y) -> c ≠ x:=fun c y r z=>by subst z; rw [r] at mu; exact mu
 have ntup:∀ c xs,H c = some (.tup xs) -> c ≠ x:=fun c xs r z=>by subst z; rw [r] at mu; exact mu
 by_cases hb:b = x
 ·subst hb; rw [zAV] at q; cases q; exact new
 ·rw [zR hb] at q;by_cases hbe:b = e
  ·have q':H b = some (.own x):=by
    rcases he with z | z
    ·exact absurd (hbe.trans z) hb
    ·rw [hbe]; exact z
   rw [q] at q'; cases q';obtain ⟨v,hv⟩:=heo;exact ⟨v,by rw [hbe]; exact hv⟩
  ·refine (ok b u q).stay (fun c v hc r=>k c v ?_ r) (fun c r=>by rw [zR (nown c b r)]; exact r) fun c xs r=>by rw [zR (ntup c xs r)]; exact r
   rcases hc with rfl | hc
   ·exact hbe
   ·rintro rfl;rcases he with z | z
    ·exact nown c b hc z
    ·rw [hc] at z; cases z; exact hb rfl
end
structure Un (fs ex:List Addr) (H H':Hp) (h h':Heap):Prop where
 keep:∀ b o,h.get? b = some o -> H b = none -> b ∉ fs -> b ∉ ex -> h'.get? b = some o
 slot:∀ b o,h.get? b = some o -> H b = none -> b ∈ fs -> b ∉ ex -> ∃ sl,h'.get? b = some { o with slots:=sl }
 free:∀ b o,h.get? b = some o -> H b = none -> b ∉ ex -> H' b = none
 there:∀ b o,h.get? b = some o -> b ∉ ex -> ∃ o',h'.get? b = some o'
 tups:∀ b xs,H b = some (.tup xs) -> H' b = some (.tup xs)
 frzs:∀ b o u,H b = some (.frz o u) -> H' b = some (.frz o u)
 tbls:∀ b ps,H b = some (.tbl ps) -> ∃ more,H' b = some (.tbl (ps ++ more))
section
variable {fs fs' ex ex':List Addr} {H H1 H2:Hp} {h h1 h2 h':Heap} {a x e:Addr} {o:HO}
theorem Un.any (u:Un fs ex H H1 h h1) {b:Addr} {ob:Obj} (q:h.get? b = some ob) (n:H b = none) (hx:b ∉ ex):∃ sl,h1.get? b = some { ob with slots:=sl }:=by
 by_cases hb:b ∈ fs
 ·exact u.slot b ob q n hb hx
 ·exact ⟨ob.slots,u.keep b ob q n hb hx⟩
theorem Un.kept (k:∀ b u,h.get? b = some u -> h'.get? b = some u):Un fs ex H H h h' :=
 ⟨fun b ob q _ _ _=>k b ob q,fun b ob q _ _ _=>⟨ob.slots,k b ob q⟩,fun _ _ _ n _=>n,fun b ob q _=>⟨ob,k b ob q⟩,fun _ _ q=>q,fun _ _ _ q=>q,fun _ ps q=>⟨#[],by rw [q]; simp⟩⟩
theorem Un.refl:Un fs ex H H h h:=Un.kept fun _ _ q=>q
theorem Un.laid (k:∀ b u,h.get? b = some u -> h'.get? b = some u) (hp:h.objs.size <= a) (hn:H a = none):Un fs ex H (upd H a o) h h' where
 keep:=fun b u q _ _ _=>k b u q;slot:=fun b u q _ _ _=>⟨u.slots,k b u q⟩;free:=fun b u q n _=>by rw [zR (zQa (zQe (zQQ q) hp))]; exact n
 there:=fun b u q _=>⟨u,k b u q⟩;tups:=fun b xs q=>by rw [zR (zg q hn)]; exact q
 frzs:=fun b u xs q=>by rw [zR (zg q hn)]; exact q
 tbls:=fun b ps q=>⟨#[],by rw [zR (zg q hn),q]; simp⟩
theorem Un.write (mu:Mut (H x)) (he:e = x \/ H e = some (.own x)) (k:∀ b u,b ≠ e -> h.get? b = some u -> h'.get? b = some u) (heo:∃ u,h'.get? e = some u):Un fs ex H (upd H x o) h h':=by
 have hx:∀ b,H b = none -> b ≠ x:=fun b n z=>by subst z; rw [n] at mu; exact mu
 have hb:∀ b,H b = none -> b ≠ e:=fun b n z=>by
  subst z;rcases he with r | r
  ·exact hx b n r
  ·rw [n] at r; cases r
 have hm:∀ b u,H b = some u -> ¬ Mut (some u) -> b ≠ x:=fun b u q nm z=>by subst z; rw [q] at mu; exact nm mu
 refine ⟨fun b u q n _ _=>k b u (hb b n) q,fun b u q n _ _=>⟨u.slots,k b u (hb b n) q⟩,fun b u q n _=>by rw [zR (hx b n)]; exact n,fun b u q _=>?_,
  fun b xs q=>by rw [zR (hm b _ q fun z=>z)]; exact q,fun b u xs q=>by rw [zR (hm b _ q fun z=>z)]; exact q,fun b ps q=>⟨#[],by rw [zR (hm b _ q fun z=>z),q]; simp⟩⟩
 by_cases hbe:b = e
 ·subst hbe; exact heo
 ·exact ⟨u,k b u hbe q⟩
end
def trk (h:Heap) (H:Hp):List Addr:=(List.range h.objs.size).filter fun a=>(H a).isSome
def zEr (h:Heap) (H:Hp):Heap:=PySem.W.hideAll h (trk h H)
theorem zIu (h:Heap) (H:Hp):(zEr h H).objs.size = h.objs.size:=PySem.W.hideAll_size _ _
theorem zKL {h:Heap} {H:Hp} {b:Addr} {o:Obj} (e:h.get? b = some o) (n:H b = none):(zEr h H).get? b = some o :=
 PySem.W.hideAll_get _ e fun hm=>by
  have q:(H b).isSome = true:=(List.mem_filter.mp hm).2;rw [n] at q; simp at q
theorem zLd {h:Heap} {H:Hp} {b:Addr} {o:Obj} (e:(zEr h H).get? b = some o):h.get? b = some o /\ H b = none:=by
 have e':h.get? b = some o:=PySem.W.of_hideAll (trk h H) e;refine ⟨e',?_⟩;cases q:H b with
 | none=>rfl
 | some x=>
  have hm:b ∈ trk h H:=List.mem_filter.mpr ⟨zQt.mpr (zQQ e'),by simp [q]⟩;have z:(zEr h H).get? b = none:=PySem.W.hideAll_none (trk h H) hm;rw [z] at e; cases e
def BMn (mg:Str -> Option Value) (h:Heap):Prop:=∃ bm ob,mg "__builtins__" = some (.ref bm) /\ bm ≠ builtinsNs /\ h.get? bm = some ob /\ ob.cls = .type "module" /\ ob.dict = some builtinsNs /\ ob.data = .plain
structure Mod (K:PySem.W.Frag) (mg:Str -> Option Value) (base:Heap):Prop where
 kin:K.In base
 glob:base.Ns mainGlobals mg
 blt:∃ mb,base.Ns builtinsNs mb /\ ∀ x:Str,x ≠ "__name__" -> mb x = bootBuiltins x
 nolimit:base.NoLimit
 bmn:BMn mg base
structure Cx where
 prog:Program
 w:World
 K:PySem.W.Frag
 mg:Str -> Option Value
 base:Heap
 A:Around
 N:List Str
 s₀:Shared
 H₀:Hp
 env:Env
 outer:List Env
 stack:List Env
 ex:List Addr
 fn:Str -> Bool
 calm:Bool
 pn:List (Addr × Obj)
 xe:Value -> Shared -> Prop
def frs (l:List Env):List Addr:=l.filterMap (·.frame)
abbrev Cx.fs (X:Cx):List Addr:=frs X.outer
def Vis (sc:Scope) (x:Str):Prop:=sc.names.lookup x = some .local \/ sc.names.lookup x = some .cell \/ sc.names.lookup x = some .free
def Loc (sc:Scope) (x:Str):Prop:=sc.names.lookup x = some .local \/ sc.names.lookup x = some .cell
def zPz (env:Env) (h:Heap) (m:Str -> Option Value) (x:Str) (u:Value):Prop :=
 (env.kindOf x = some .local /\ m x = some u) \/ ((env.kindOf x = some .cell \/ env.kindOf x = some .free) /\ ∃ c,env.cells.lookup x = some c /\ h.IsCell c (some u))
structure Cx.Ok (X:Cx):Prop where
 mod:Mod X.K X.mg X.base
 kind:X.env.scope.kind = .function
 glob:X.env.globals = mainGlobals
 blt:X.env.builtins = builtinsNs
 above:X.s₀.heap.objs.size <= X.env.locals
 inj:∀ x y c,X.env.cells.lookup x = some c -> X.env.cells.lookup y = some c -> x = y
 has:∀ x,(X.env.kindOf x = some .cell \/ X.env.kindOf x = some .free) -> ∃ c,X.env.cells.lookup x = some c
 cab:∀ x c,X.fn x = true -> X.env.cells.lookup x = some c -> X.s₀.heap.objs.size <= c
 hd:X.calm = true -> X.A.handled = none
 frames:X.A.frames = some X.stack
 stk:X.stack = X.outer \/ (X.stack = X.env :: X.outer /\ X.env.frame = some X.env.locals)
 exf:∀ b ∈ X.ex,b ≠ X.env.locals /\ ∀ x c,X.env.cells.lookup x = some c -> c ≠ b
 bs:∀ b o,X.base.get? b = some o -> X.s₀.heap.get? b = some o /\ X.H₀ b = none
 bsz:X.base.objs.size <= X.s₀.heap.objs.size
 noex:∀ b o,X.base.get? b = some o -> b ∉ X.ex
 exfs:∀ b ∈ X.ex,b ∉ X.fs
 funs:X.s₀.heap.FunFrames X.base X.outer
 frf:∀ b ∈ X.fs,X.H₀ b = none
structure Inv (X:Cx) (zB:List (Addr × Obj)) (σ:List (Option V)) (H:Hp) (s:Shared):Prop where
 ok:X.Ok
 os:s.os = X.s₀.os
 bare:AllBare s.gens
 base:Un X.fs X.ex X.H₀ H X.s₀.heap s.heap
 loc:∃ m,s.heap.Ns X.env.locals m /\ ∀ (i:Nat) (x:Str) (v:V),X.N[i]? = some x -> σ[i]? = some (some v) -> Vis X.env.scope x -> ∃ u,zf v u /\ zPz X.env s.heap m x u
 cell:∀ x c,X.env.cells.lookup x = some c -> ∃ v,s.heap.IsCell c v
 free:H X.env.locals = none
 freeC:∀ x c,X.env.cells.lookup x = some c -> H c = none
 pin:∀ p ∈ X.pn ++ zB,s.heap.get? p.1 = some p.2 /\ H p.1 = none /\ p.1 ≠ X.env.locals /\ p.1 ∉ X.fs /\ ∀ v,p.2.data ≠ .cell v
 hok:HOk X.prog X.w H s.heap
 len:σ.length = X.N.length
section
variable {X:Cx} {zB:List (Addr × Obj)} {σ:List (Option V)} {H H':Hp} {s:Shared} {h':Heap}
theorem Cx.Ok.nofr (ok:X.Ok) {b:Addr} {o:Obj} (e:X.base.get? b = some o):b ∉ X.fs:=fun hb=>by
 have:=(ok.funs.mem hb).1;rw [e] at this; cases this
theorem Inv.bs (I:Inv X zB σ H s):∀ b o,X.base.get? b = some o -> s.heap.get? b = some o /\ H b = none:=fun b o e=>
 ⟨I.base.keep b o (I.ok.bs b o e).1 (I.ok.bs b o e).2 (I.ok.nofr e) (I.ok.noex b o e),I.base.free b o (I.ok.bs b o e).1 (I.ok.bs b o e).2 (I.ok.noex b o e)⟩
theorem Inv.bk (I:Inv X zB σ H s):∀ b o,X.base.get? b = some o -> s.heap.get? b = some o:=fun b o e=>(I.bs b o e).1
theorem Inv.mod (I:Inv X zB σ H s):Mod X.K X.mg X.base:=I.ok.mod
theorem Inv.kIn (I:Inv X zB σ H s):X.K.In s.heap:=I.ok.mod.kin.keeps I.bk
theorem Inv.lt (I:Inv X zB σ H s):X.env.locals < s.heap.objs.size:=let ⟨_,hn,_⟩:=I.loc; hn.lt
theorem Inv.sz (I:Inv X zB σ H s):X.s₀.heap.objs.size <= s.heap.objs.size:=zQg I.ok.above (Nat.le_of_lt I.lt)
theorem Inv.nofs (I:Inv X zB σ H s) {a:Addr} (h:s.heap.objs.size <= a):a ∉ X.fs:=fun hb=>by
 obtain ⟨_,o,ho,_⟩:=I.ok.funs.mem hb;exact absurd (zQe (zQQ ho) (zQg I.sz h)) (Nat.lt_irrefl _)
theorem Inv.cne (I:Inv X zB σ H s):∀ x c,X.env.cells.lookup x = some c -> c ≠ X.env.locals:=fun x c e z=>by
 obtain ⟨v,o,ho,hd⟩:=I.cell x c e;obtain ⟨m,⟨o',es,ep,ho',hd',_⟩,_⟩:=I.loc;rw [z,ho'] at ho; cases ho; rw [hd'] at hd; cases hd
theorem Inv.funs (I:Inv X zB σ H s):s.heap.FunFrames X.base X.outer:=by
 have all:∀ (l:List Env),(∀ b ∈ frs l,b ∈ X.fs) -> X.s₀.heap.FunFrames X.base l -> s.heap.FunFrames X.base l:=by
  intro l;induction l with
  | nil=>intro _ _; trivial
  | cons env r ih=>
   intro hs hl;obtain ⟨hk,⟨L,o,hf,hn,ho,hd⟩,hr⟩:=hl;have hL:L ∈ X.fs:=hs L (by unfold frs; rw [List.filterMap_cons,hf]; exact zQT);obtain ⟨sl,e⟩:=I.base.slot L o ho (I.ok.frf L hL) hL fun z=>I.ok.exfs L z hL;exact ⟨hk,⟨L,_,hf,hn,e,hd⟩,ih (fun b hb=>hs b (by unfold frs; rw [List.filterMap_cons,hf]; exact zQS _ hb)) hr⟩
 exact all X.outer (fun _ hb=>hb) I.ok.funs
theorem Inv.stack (I:Inv X zB σ H s):s.heap.FunFrames X.base X.stack:=by
 rcases I.ok.stk with e | ⟨e,hf⟩
 ·rw [e]; exact I.funs
 ·rw [e];obtain ⟨m,hn,_⟩:=I.loc;refine .cons (by rw [I.ok.kind]; decide) hf hn ?_ I.funs;exact Heap.get?_none_of_le (zQg I.ok.bsz I.ok.above)
theorem Inv.stkSub (I:Inv X zB σ H s):∀ b ∈ frs X.stack,b ∈ X.env.locals :: X.fs:=fun b hb=>by
 rcases I.ok.stk with e | ⟨e,hf⟩
 ·rw [e] at hb; exact zQS _ hb
 ·rw [e] at hb;unfold frs at hb;rw [List.filterMap_cons,hf] at hb;exact hb
theorem Inv.stkFree (I:Inv X zB σ H s):∀ b ∈ frs X.stack,H b = none:=fun b hb=>by
 rcases zQR.mp (I.stkSub b hb) with e | hb
 ·rw [e]; exact I.free
 ·obtain ⟨_,o,ho,_⟩:=I.ok.funs.mem hb;exact I.base.free b o ho (I.ok.frf b hb) fun z=>I.ok.exfs b z hb
theorem Inv.step {g':Array GenState} {t':Nat} {d':Drawn} {ch:List Addr} (I:Inv X zB σ H s)
  (hch:∀ b ∈ ch,(b ∈ X.ex \/ X.s₀.heap.objs.size <= b) /\ b ≠ X.env.locals /\ (∀ x c,X.env.cells.lookup x = some c -> c ≠ b) /\ ∀ p ∈ X.pn ++ zB,p.1 ≠ b)
  (keep:∀ b o,b ≠ X.env.locals -> b ∉ X.fs -> b ∉ ch -> s.heap.get? b = some o -> H b = none -> h'.get? b = some o)
  (slot:∀ b o,b ≠ X.env.locals -> b ∈ X.fs -> b ∉ ch -> s.heap.get? b = some o -> H b = none -> ∃ sl,h'.get? b = some { o with slots:=sl }) (free:∀ b o,b ∉ ch -> s.heap.get? b = some o -> H b = none -> H' b = none)
  (there:∀ b o,b ∉ ch -> s.heap.get? b = some o -> ∃ o',h'.get? b = some o')
  (tups:∀ b xs,H b = some (.tup xs) -> H' b = some (.tup xs)) (frzs:∀ b o u,H b = some (.frz o u) -> H' b = some (.frz o u)) (tbls:∀ b ps,H b = some (.tbl ps) -> ∃ more,H' b = some (.tbl (ps ++ more)))
  (ns:∀ m,s.heap.Ns X.env.locals m -> h'.Ns X.env.locals m) (hok:HOk X.prog X.w H' h') (hg:AllBare g') :
  Inv X zB σ H' { s with heap:=h',gens:=g',drawn:=d',toks:=t' }:=by
 have neL:∀ b o,X.s₀.heap.get? b = some o -> b ≠ X.env.locals:=fun b o e=>zQa (zQe (zQQ e) I.ok.above);have neC:∀ b o,X.s₀.heap.get? b = some o -> b ∉ X.ex -> b ∉ ch:=fun b o e hx hb=>by
  rcases (hch b hb).1 with z | z
  ·exact hx z
  ·exact absurd (zQe (zQQ e) z) (Nat.lt_irrefl _)
 have cellK:∀ x c,X.env.cells.lookup x = some c -> ∀ v,s.heap.IsCell c v -> h'.IsCell c v:=fun x c e v ⟨o,ho,hd⟩=>by
  have nch:c ∉ ch:=fun z=>(hch c z).2.2.1 x c e rfl;by_cases hc:c ∈ X.fs
  ·obtain ⟨sl,q⟩:=slot c o (I.cne x c e) hc nch ho (I.freeC x c e);exact ⟨_,q,hd⟩
  ·exact ⟨o,keep c o (I.cne x c e) hc nch ho (I.freeC x c e),hd⟩
 refine ⟨I.ok,I.os,hg,⟨fun b o e n hb hx=>?_,fun b o e n hb hx=>?_,fun b o e n hx=>?_,fun b o e hx=>?_,fun b xs e=>tups b xs (I.base.tups b xs e),fun b o xs e=>frzs b o xs (I.base.frzs b o xs e),fun b ps e=>?_⟩,?_,fun x c e=>?_,?_,fun x c e=>?_,fun p hp=>?_,hok,I.len⟩
 ·exact keep b o (neL b o e) hb (neC b o e hx) (I.base.keep b o e n hb hx) (I.base.free b o e n hx)
 ·obtain ⟨sl,e1⟩:=I.base.slot b o e n hb hx;obtain ⟨sl',e2⟩:=slot b _ (neL b o e) hb (neC b o e hx) e1 (I.base.free b o e n hx);exact ⟨sl',e2⟩
 ·obtain ⟨o',e1⟩:=I.base.there b o e hx;exact free b o' (neC b o e hx) e1 (I.base.free b o e n hx)
 ·obtain ⟨o',e1⟩:=I.base.there b o e hx;exact there b o' (neC b o e hx) e1
 ·obtain ⟨m1,e1⟩:=I.base.tbls b ps e;obtain ⟨m2,e2⟩:=tbls b _ e1;exact ⟨m1 ++ m2,by rw [e2,Array.append_assoc]⟩
 ·obtain ⟨m,hn,hl⟩:=I.loc;refine ⟨m,ns m hn,fun i x v e1 e2 e3=>?_⟩;obtain ⟨u,r,l⟩:=hl i x v e1 e2 e3;refine ⟨u,r,?_⟩;rcases l with l | ⟨k,c,e,z⟩
  ·exact .inl l
  ·exact .inr ⟨k,c,e,cellK x c e _ z⟩
 ·obtain ⟨v,z⟩:=I.cell x c e;exact ⟨v,cellK x c e v z⟩
 ·obtain ⟨m,⟨o,_,_,ho,_⟩,_⟩:=I.loc;exact free _ o (fun z=>(hch _ z).2.1 rfl) ho I.free
 ·obtain ⟨v,o,ho,hd⟩:=I.cell x c e;exact free c o (fun z=>(hch c z).2.2.1 x c e rfl) ho (I.freeC x c e)
 ·obtain ⟨e,n,ne,nf,d⟩:=I.pin p hp;have nch:p.1 ∉ ch:=fun z=>(hch p.1 z).2.2.2 p hp rfl;exact ⟨keep p.1 p.2 ne nf nch e n,free p.1 p.2 nch e n,ne,nf,d⟩
theorem Inv.un {t':Nat} (I:Inv X zB σ H s) (u:Un X.fs [] H H' s.heap h') (hok:HOk X.prog X.w H' h'):Inv X zB σ H' { s with heap:=h',toks:=t' }:=by
 obtain ⟨m,⟨o,es,ep,ho,r⟩,_⟩:=id I.loc;obtain ⟨sl,hL⟩:=u.any ho I.free (by simp);exact I.step (g':=s.gens) (d':=s.drawn) (ch:=[]) (fun _ z=>nomatch z) (fun b o _ hb _ e n=>u.keep b o e n hb (by simp)) (fun b o _ hb _ e n=>u.slot b o e n hb (by simp)) (fun b o _ e n=>u.free b o e n (by simp)) (fun b o _ e=>u.there b o e (by simp)) u.tups u.frzs u.tbls (fun m' hm=>by
  obtain ⟨o',es',ep',ho',r'⟩:=hm;rw [ho] at ho'; cases ho';exact ⟨_,es',ep',hL,r'⟩) hok I.bare
theorem Inv.call {g':Array GenState} {t':Nat} {d':Drawn} {ch:List Addr} (I:Inv X zB σ H s) (u:Un (frs X.stack) ch H H' s.heap h') (hok:HOk X.prog X.w H' h') (hg:AllBare g')
  (hch:∀ b ∈ ch,(b ∈ X.ex \/ X.s₀.heap.objs.size <= b) /\ b ≠ X.env.locals /\ (∀ x c,X.env.cells.lookup x = some c -> c ≠ b) /\ ∀ p ∈ X.pn ++ zB,p.1 ≠ b) :
  Inv X zB σ H' { s with heap:=h',gens:=g',drawn:=d',toks:=t' }:=by
 obtain ⟨m,⟨o,es,ep,ho,r⟩,_⟩:=id I.loc;obtain ⟨sl,hL⟩:=u.any ho I.free fun z=>(hch _ z).2.1 rfl;exact I.step (ch:=ch) hch (fun b o hL hb hc e n=>u.keep b o e n (fun z=>(zQR.mp (I.stkSub b z)).elim hL hb) hc) (fun b o _ _ hc e n=>u.any e n hc) (fun b o hc e n=>u.free b o e n hc) (fun b o hc e=>u.there b o e hc) u.tups u.frzs u.tbls (fun m' hm=>by
  obtain ⟨o',es',ep',ho',r'⟩:=hm;rw [ho] at ho'; cases ho';exact ⟨_,es',ep',hL,r'⟩) hok hg
theorem Inv.turned {t':Nat} {it:Addr} (I:Inv X zB σ H s) (k:∀ b o,b ≠ it -> s.heap.get? b = some o -> h'.get? b = some o) (hn:H it = none) (hL:it ≠ X.env.locals)
  (h1:it ∈ X.ex \/ X.s₀.heap.objs.size <= it) (h2:∀ x c,X.env.cells.lookup x = some c -> c ≠ it) (h3:∀ p ∈ X.pn ++ zB,p.1 ≠ it):Inv X zB σ H { s with heap:=h',toks:=t' }:=by
 have nit:∀ b u,H b = some u -> b ≠ it:=fun b u e z=>by rw [z,hn] at e; cases e
 refine I.step (g':=s.gens) (d':=s.drawn) (ch:=[it]) (fun b hb=>?_) (fun b o _ _ hc e _=>k b o (fun z=>hc (by simp [z])) e) (fun b o _ _ hc e _=>⟨o.slots,k b o (fun z=>hc (by simp [z])) e⟩) (fun _ _ _ _ n=>n)
  (fun b o hc e=>⟨o,k b o (fun z=>hc (by simp [z])) e⟩) (fun _ _ e=>e) (fun _ _ _ e=>e) (fun b ps e=>⟨#[],by rw [e]; simp⟩) (fun m hm=>?_) (fun b u e=>?_) I.bare
 ·have e:b = it:=by simpa using hb
  subst e;exact ⟨h1,hL,h2,h3⟩
 ·obtain ⟨o,es,ep,ho,r⟩:=hm;exact ⟨o,es,ep,k _ o (Ne.symm hL) ho,r⟩
 ·refine (I.hok b u e).stay (fun c v hc q=>k c v ?_ q) (fun _ q=>q) fun _ _ q=>q;rcases hc with z | z
  ·rw [z]; exact nit b u e
  ·exact nit c _ z
theorem Inv.tok (I:Inv X zB σ H s) (t:Nat):Inv X zB σ H { s with toks:=t }:=I.un (h':=s.heap) (t':=t) Un.refl I.hok
theorem Inv.kept {t':Nat} (I:Inv X zB σ H s) (k:∀ b u,s.heap.get? b = some u -> h'.get? b = some u):Inv X zB σ H { s with heap:=h',toks:=t' }:=I.un (Un.kept k) (I.hok.kept k)
theorem Inv.laid {a:Addr} {o:HO} {t':Nat} (I:Inv X zB σ H s) (k:∀ b u,s.heap.get? b = some u -> h'.get? b = some u) (hp:s.heap.objs.size <= a) (new:zr X.prog X.w (upd H a o) h' a o) :
  Inv X zB σ (upd H a o) { s with heap:=h',toks:=t' }:=I.un (Un.laid k hp (I.hok.fresh hp)) (I.hok.laid k hp new)
theorem Inv.write {x e:Addr} {o:HO} {t':Nat} (I:Inv X zB σ H s) (mu:Mut (H x)) (he:e = x \/ H e = some (.own x)) (k:∀ b u,b ≠ e -> s.heap.get? b = some u -> h'.get? b = some u) (heo:∃ u,h'.get? e = some u)
  (new:zr X.prog X.w (upd H x o) h' x o):Inv X zB σ (upd H x o) { s with heap:=h',toks:=t' }:=I.un (Un.write mu he k heo) (I.hok.write mu he k heo new)
theorem Inv.weak {σ':List (Option V)} (I:Inv X zB σ H s) (hl:σ'.length = σ.length) (w:∀ (i:Nat) v,σ'[i]? = some (some v) -> σ[i]? = some (some v)):Inv X zB σ' H s :=
 ⟨I.ok,I.os,I.bare,I.base,let ⟨m,hn,hl'⟩:=I.loc; ⟨m,hn,fun i x v e1 e2 e3=>hl' i x v e1 (w i v e2) e3⟩,I.cell,I.free,I.freeC,I.pin,I.hok,hl.trans I.len⟩
theorem Inv.pins_of {pins':List (Addr × Obj)} (I:Inv X zB σ H s) (h:∀ p ∈ pins',s.heap.get? p.1 = some p.2 /\ H p.1 = none /\ p.1 ≠ X.env.locals /\ p.1 ∉ X.fs /\ ∀ v,p.2.data ≠ .cell v):Inv X pins' σ H s :=
 ⟨I.ok,I.os,I.bare,I.base,I.loc,I.cell,I.free,I.freeC,fun p hp=>(zQf.mp hp).elim (fun z=>I.pin p (List.mem_append_left _ z)) (h p),I.hok,I.len⟩
theorem zG7 {N:List Str} (hN:N.Nodup) {i j:Nat} {x:Str} (a:N[i]? = some x) (b:N[j]? = some x):i = j:=by
 obtain ⟨h1,e1⟩:=zQI.mp a;obtain ⟨h2,e2⟩:=zQI.mp b;exact (List.getElem_inj hN).mp (e1.trans e2.symm)
theorem zJM {M:Model} {A:Around} {E:Value -> Shared -> Prop} {i:Nat} {x:Str} {v:V} {u:Value} {Q:Unit -> Shared -> Prop} (I:Inv X zB σ H s) (hN:X.N.Nodup) (hi:X.N[i]? = some x) (hx:Loc X.env.scope x) (r:zf v u)
  (h:∀ s',Inv X zB (σ.set i (some v)) H s' -> (∃ a,Heap.SameBut a s.heap s'.heap /\ (a = X.env.locals \/ X.env.cells.lookup x = some a)) -> Q () s') (hf:X.fn x = true \/ X.env.scope.names.lookup x = some .local:=by first | exact .inl rfl | exact .inr rfl | assumption):wpAny M A (storeName X.env x u) Q E s:=by
 obtain ⟨m,hn,hl⟩:=id I.loc;have hcls:(X.env.scope.kind == .class || (X.env.scope.kind == .module && X.env.locals != X.env.globals)) = false:=by rw [I.ok.kind]; rfl
 have hiσ:i < σ.length:=by rw [I.len]; exact (zQI.mp hi).1
 have cne:=I.cne;have tracked:∀ {a:Addr} {h':Heap},(∃ o,s.heap.get? a = some o /\ H a = none) -> Heap.SameBut a s.heap h' -> HOk X.prog X.w H h':=fun {a h'} ha hs b ob e=>by
  obtain ⟨_,_,hfree⟩:=ha;refine (I.hok b ob e).stay (fun c w' hc q=>(hs.2 c ?_).trans q) (fun _ q=>q) fun _ _ q=>q;rintro rfl;rcases hc with rfl | hc
  ·rw [hfree] at e; cases e
  ·rw [hfree] at hc; cases hc
 rcases hx with hk | hk
 ·refine wpAny_storeName_local hk hn (fun h' hn' hs=>?_) hcls;obtain ⟨oL,_,_,hoL,_⟩:=id hn;refine h _ ⟨I.ok,I.os,I.bare,⟨fun b o e n hb hx=>?_,fun b o e n hb hx=>?_,I.base.free,fun b o e hx=>?_,I.base.tups,I.base.frzs,I.base.tbls⟩,⟨_,hn',fun j y v' e1 e2 e3=>?_⟩,fun y c e=>?_,I.free,I.freeC,fun p hp=>?_,tracked ⟨oL,hoL,I.free⟩ hs,by simpa using I.len⟩ ⟨_,hs,.inl rfl⟩
  ·exact (hs.2 b (zQa (zQe (zQQ e) I.ok.above))).trans (I.base.keep b o e n hb hx)
  ·obtain ⟨sl,e1⟩:=I.base.slot b o e n hb hx;exact ⟨sl,(hs.2 b (zQa (zQe (zQQ e) I.ok.above))).trans e1⟩
  ·obtain ⟨o',e1⟩:=I.base.there b o e hx;exact ⟨o',(hs.2 b (zQa (zQe (zQQ e) I.ok.above))).trans e1⟩
  ·by_cases hj:j = i
   ·subst hj;rw [hi] at e1; cases e1;rw [zQ9 hiσ] at e2;cases e2;exact ⟨u,r,.inl ⟨hk,by simp⟩⟩
   ·rw [zQj (Ne.symm hj)] at e2;obtain ⟨u',r',q⟩:=hl j y v' e1 e2 e3;refine ⟨u',r',?_⟩;rcases q with ⟨k,e⟩ | ⟨k,c,e,z⟩
    ·refine .inl ⟨k,?_⟩;have:y ≠ x:=fun e=>hj (zG7 hN e1 (e ▸ hi));simp [this,e]
    ·exact .inr ⟨k,c,e,z.sameBut hs (cne y c e)⟩
  ·obtain ⟨w',z⟩:=I.cell y c e;exact ⟨w',z.sameBut hs (cne y c e)⟩
  ·obtain ⟨e,n,ne,nf,d⟩:=I.pin p hp;exact ⟨(hs.2 p.1 ne).trans e,n,ne,nf,d⟩
 ·have hfn:X.fn x = true:=by
   rcases hf with z | z
   ·exact z
   ·rw [z] at hk; cases hk
  obtain ⟨c,hc⟩:=I.ok.has x (.inl hk);obtain ⟨w',z⟩:=I.cell x c hc;refine wpAny_storeName_cell I.ok.kind hk hc z (fun h' hc' hs=>?_);obtain ⟨oc,hoc,hocd⟩:=id z;refine h { s with heap:=h' } ⟨I.ok,I.os,I.bare,⟨fun b o e n hb hx=>?_,fun b o e n hb hx=>?_,I.base.free,fun b o e hx=>?_,I.base.tups,I.base.frzs,I.base.tbls⟩,⟨m,hn.sameBut hs (Ne.symm (cne x c hc)),fun j y v' e1 e2 e3=>?_⟩,fun y c' e=>?_,I.free,I.freeC,fun p hp=>?_,tracked ⟨oc,hoc,I.freeC x c hc⟩ hs,by simpa using I.len⟩ ⟨c,hs,.inr hc⟩
  ·exact (hs.2 b (zQa (zQe (zQQ e) (I.ok.cab x c hfn hc)))).trans (I.base.keep b o e n hb hx)
  ·obtain ⟨sl,e1⟩:=I.base.slot b o e n hb hx;exact ⟨sl,(hs.2 b (zQa (zQe (zQQ e) (I.ok.cab x c hfn hc)))).trans e1⟩
  ·obtain ⟨o',e1⟩:=I.base.there b o e hx;exact ⟨o',(hs.2 b (zQa (zQe (zQQ e) (I.ok.cab x c hfn hc)))).trans e1⟩
  ·by_cases hj:j = i
   ·subst hj;rw [hi] at e1; cases e1;rw [zQ9 hiσ] at e2;cases e2;exact ⟨u,r,.inr ⟨.inl hk,c,hc,hc'⟩⟩
   ·rw [zQj (Ne.symm hj)] at e2;obtain ⟨u',r',q⟩:=hl j y v' e1 e2 e3;refine ⟨u',r',?_⟩;rcases q with q | ⟨k,c',e,z'⟩
    ·exact .inl q
    ·refine .inr ⟨k,c',e,z'.sameBut hs ?_⟩;rintro rfl;exact hj (zG7 hN e1 (I.ok.inj _ _ _ e hc ▸ hi))
  ·by_cases hcc:c' = c
   ·subst hcc; exact ⟨_,hc'⟩
   ·obtain ⟨w2,z2⟩:=I.cell y c' e;exact ⟨w2,z2.sameBut hs hcc⟩
  ·obtain ⟨e,n,ne,nf,d⟩:=I.pin p hp;refine ⟨(hs.2 p.1 ?_).trans e,n,ne,nf,d⟩;intro q;rw [q,hoc] at e;have q':oc = p.2:=zRF e;exact d w' (by rw [<- q']; exact hocd)
theorem zGS {M:Model} {A:Around} {E:Value -> Shared -> Prop} {i:Nat} {x:Str} {v:V} {u:Value} {Q:Unit -> Shared -> Prop} (I:Inv X zB σ H s) (hN:X.N.Nodup) (hi:X.N[i]? = some x) (hx:Loc X.env.scope x) (r:zf v u)
  (h:∀ s',Inv X zB (σ.set i (some v)) H s' -> Q () s') (hf:X.fn x = true \/ X.env.scope.names.lookup x = some .local:=by first | exact .inl rfl | exact .inr rfl | assumption):wpAny M A (storeName X.env x u) Q E s :=
 zJM I hN hi hx r (fun s' I' _=>h s' I') hf
theorem Inv.call' {s':Shared} {ch:List Addr} (I:Inv X zB σ H s) (ho:s'.os = s.os) (u:Un (frs X.stack) ch H H' s.heap s'.heap) (hok:HOk X.prog X.w H' s'.heap) (hg:AllBare s'.gens)
  (hch:∀ b ∈ ch,(b ∈ X.ex \/ X.s₀.heap.objs.size <= b) /\ b ≠ X.env.locals /\ (∀ x c,X.env.cells.lookup x = some c -> c ≠ b) /\ ∀ p ∈ X.pn ++ zB,p.1 ≠ b):Inv X zB σ H' s':=by
 obtain ⟨h',g',d',t',o'⟩:=s';have e:o' = s.os:=ho;subst e;exact I.call (g':=g') (t':=t') (d':=d') u hok hg hch
end
abbrev XK:=Value -> Option Addr -> Hp -> Prop
abbrev St:=List (Option V)
abbrev VK:=V -> Hp -> Prop
abbrev TE:=St -> Hp -> VK -> Prop
abbrev TT:=St -> Hp -> (Bool -> Hp -> Prop) -> Prop
abbrev TA:=St -> Hp -> (List V -> Hp -> Prop) -> Prop
structure Ends where
 nx:St -> Hp -> Prop
 rt:VK
 bk:St -> Hp -> Prop:=fun _ _=>False
 ct:St -> Hp -> Prop:=fun _ _=>False
abbrev TS:=Ends -> St -> Hp -> Prop
def EP (X:Cx) (zB:List (Addr × Obj)) (σ:St) (Q:VK) (u:Value) (s':Shared):Prop:=∃ v H',Inv X zB σ H' s' /\ zf v u /\ Q v H'
def TP (X:Cx) (zB:List (Addr × Obj)) (σ:St) (Q:Bool -> Hp -> Prop) (b:Bool) (s':Shared):Prop:=∃ H',Inv X zB σ H' s' /\ Q b H'
def AP (X:Cx) (zB:List (Addr × Obj)) (σ:St) (Q:List V -> Hp -> Prop) (us:List Value) (s':Shared):Prop:=∃ vs H',Inv X zB σ H' s' /\ zW vs us /\ Q vs H'
def SP (X:Cx) (zB:List (Addr × Obj)) (D:Ends) (f:Flow) (s':Shared):Prop :=
 match f with
 | .next=>∃ σ' H',Inv X zB σ' H' s' /\ D.nx σ' H'
 | .brk=>∃ σ' H',Inv X zB σ' H' s' /\ D.bk σ' H'
 | .cont=>∃ σ' H',Inv X zB σ' H' s' /\ D.ct σ' H'
 | .ret u=>∃ v σ' H',Inv X zB σ' H' s' /\ zf v u /\ D.rt v H'
def PE (X:Cx) (e:Expr) (t:TE):Prop :=
 ∀ (zB:List (Addr × Obj)) (s:Shared) (σ:St) (H:Hp) (Q:VK),Inv X zB σ H s -> t σ H Q -> wpAny (model X.prog X.w) X.A (eval e X.env) (EP X zB σ Q) X.xe s
def PT (X:Cx) (e:Expr) (t:TT):Prop :=
 ∀ (zB:List (Addr × Obj)) (s:Shared) (σ:St) (H:Hp) (Q:Bool -> Hp -> Prop),Inv X zB σ H s -> t σ H Q -> wpAny (model X.prog X.w) X.A (isTrue e X.env (eval e X.env)) (TP X zB σ Q) X.xe s
def PW (X:Cx) (e:Expr) (t:TT):Prop :=
 ∀ (whole:Sem Value) (zB:List (Addr × Obj)) (s:Shared) (σ:St) (H:Hp) (Q:Bool -> Hp -> Prop),Inv X zB σ H s -> t σ H Q -> wpAny (model X.prog X.w) X.A (isTrue e X.env whole) (TP X zB σ Q) X.xe s
theorem PW.pt {X:Cx} {e:Expr} {t:TT} (h:PW X e t):PT X e t:=h _
def PA (X:Cx) (es:List Expr) (t:TA):Prop :=
 ∀ (pos:Pos) (zB:List (Addr × Obj)) (s:Shared) (σ:St) (H:Hp) (Q:List V -> Hp -> Prop),Inv X zB σ H s -> t σ H Q -> wpAny (model X.prog X.w) X.A (spliced (backTo pos (starEach es X.env))) (AP X zB σ Q) X.xe s
def PS (X:Cx) (st:Stmt) (t:TS):Prop :=
 ∀ (zB:List (Addr × Obj)) (s:Shared) (σ:St) (H:Hp) (D:Ends),Inv X zB σ H s -> t D σ H -> wpAny (model X.prog X.w) X.A (exec st X.env) (SP X zB D) X.xe s
def PSs (X:Cx) (st:List Stmt) (t:TS):Prop :=
 ∀ (zB:List (Addr × Obj)) (s:Shared) (σ:St) (H:Hp) (D:Ends),Inv X zB σ H s -> t D σ H -> wpAny (model X.prog X.w) X.A (execs st X.env) (SP X zB D) X.xe s
theorem thn {α:Type} {t:Sem α} {Q Q':α -> Shared -> Prop} {M:Model} {A:Around} {E:Value -> Shared -> Prop} {s:Shared} (h:wpAny M A t Q E s) (hQ:∀ a s,Q a s -> Q' a s):wpAny M A t Q' E s:=zQl h hQ fun _ _ x=>x
section
variable {X:Cx}
def zOU (i:Nat):TE:=fun σ H Q=>∃ v,σ[i]? = some (some v) /\ Q v H
def tC (v:V):TE:=fun _ H Q=>Q v H
theorem zN2 {i:Nat} {x:Str} {pos:Pos} (hN:X.N[i]? = some x) (hv:Vis X.env.scope x) (hd:(x == ("__debug__" : Str)) = false:=by decide) (hcd:(x == ("__classdict__" : Str)) = false:=by decide):PE X (.Name x pos) (zOU i):=by
 intro zB s σ H Q I h;obtain ⟨v,e,h⟩:=h;obtain ⟨m,hn,hl⟩:=I.loc;obtain ⟨u,r,l⟩:=hl i x v hN e hv;have fin:EP X zB σ Q u s:=⟨v,H,I,r,h⟩;rcases l with ⟨hk,hm⟩ | ⟨hk,c,hc,hcell⟩
 ·exact wpAny_Name (wpAny_loadName_local I.ok.kind hk hn hm fin) hd
 ·rcases hk with hk | hk
  ·exact wpAny_Name (wpAny_loadName_cell I.ok.kind hk hc hcell fin) hd
  ·exact wpAny_Name (wpAny_loadName_free I.ok.kind hk hc hcell fin hcd) hd
theorem zOD {i j pos}:PE X (.Constant (.int i) j pos) (tC (.int i)):=fun _ _ _ H _ I h=>wpAny_Constant_int ⟨.int i,H,I.tok _,⟨_,rfl⟩,h⟩
theorem zO4 {b j pos}:PE X (.Constant (.bool b) j pos) (tC (.bl b)):=fun _ _ _ H _ I h=>Constant_bool ⟨.bl b,H,I,rfl,h⟩
theorem zM5 {j pos}:PE X (.Constant .none j pos) (tC .non):=fun _ _ _ H _ I h=>Constant_none ⟨.non,H,I,rfl,h⟩
theorem zNU {x j pos}:PE X (.Constant (.str x) j pos) (tC (.str x)):=fun _ _ _ H _ I h=>Calls.Constant_str ⟨.str x,H,I.tok _,⟨_,rfl⟩,h⟩
def Gl (X:Cx) (x:Str):Prop:=X.env.kindOf x = some .globalImplicit
theorem zIl {E:Value -> Shared -> Prop} {zB:List (Addr × Obj)} {s:Shared} {σ:St} {H:Hp} {x:Str} {u:Value} {pos:Pos} {Q:Value -> Shared -> Prop} (I:Inv X zB σ H s) (hg:Gl X x) (hm:X.mg x = some u) (h:Q u s)
  (hd:(x == ("__debug__" : Str)) = false:=by decide):wpAny (model X.prog X.w) X.A (eval (.Name x pos) X.env) Q E s :=
 Calls.Name_function_global I.ok.kind hg (Calls.loadGlobal_global (by rw [I.ok.glob]; exact I.mod.glob.keeps I.bk) hm h) hd
theorem zDS {E:Value -> Shared -> Prop} {zB:List (Addr × Obj)} {s:Shared} {σ:St} {H:Hp} {x:Str} {u:Value} {pos:Pos} {Q:Value -> Shared -> Prop} (I:Inv X zB σ H s) (hg:Gl X x) (hm:X.mg x = none) (hv:bootBuiltins x = some u) (h:Q u s)
  (hn:x ≠ "__name__" := by decide) (hd:(x == ("__debug__" : Str)) = false:=by decide):wpAny (model X.prog X.w) X.A (eval (.Name x pos) X.env) Q E s:=by
 obtain ⟨mb,h1,h2⟩:=I.mod.blt;exact Calls.Name_function_global I.ok.kind hg (Calls.loadGlobal_builtin (by rw [I.ok.glob]; exact I.mod.glob.keeps I.bk) hm (by rw [I.ok.blt]; exact h1.keeps I.bk) ((h2 x hn).trans hv) h) hd
theorem zMI {x:Str} {v:V} {u:Value} {pos:Pos} (hg:Gl X x) (hm:X.mg x = some u) (r:zf v u) (hd:(x == ("__debug__" : Str)) = false:=by decide):PE X (.Name x pos) (tC v) :=
 fun _ _ _ H _ I h=>zIl I hg hm ⟨v,H,I,r,h⟩ hd
theorem zMD {x:Str} {v:V} {u:Value} {pos:Pos} (hg:Gl X x) (hm:X.mg x = none) (hv:bootBuiltins x = some u) (r:zf v u) (hn:x ≠ "__name__" := by decide) (hd:(x == ("__debug__" : Str)) = false:=by decide):PE X (.Name x pos) (tC v) :=
 fun _ _ _ H _ I h=>zDS I hg hm hv ⟨v,H,I,r,h⟩ hn hd
variable {a b:Expr} {ta tb:TE} {pos:Pos}
def PC (X:Cx) (op:CmpOp) (a b:Expr) (t:TE):Prop :=
 ∀ (zB:List (Addr × Obj)) (s:Shared) (σ:St) (H:Hp) (Q:VK),Inv X zB σ H s -> t σ H Q ->
  wpAny (model X.prog X.w) X.A (eval a X.env) (fun v s₁=>wpAny (model X.prog X.w) X.A (eval b X.env) (fun u s₂=>wpAny (model X.prog X.w) X.A (compareOp op v u) (EP X zB σ Q) X.xe s₂) X.xe s₁) X.xe s
def tB (t:TE):TT:=fun σ H Q=>t σ H fun x H1=>∃ c,x = .bl c /\ Q c H1
theorem zNP {op:CmpOp} {t:TE} (h:PC X op a b t) (h1:behindInMarks op b = false:=by first | exact nobehind _ (by decide) (by decide) | rfl):PE X (.Compare a [op] [b] pos) t:=fun zB s σ H Q I hw=>wpAny_Compare1 (h zB s σ H Q I hw) h1
theorem zNA {op:CmpOp} {t:TE} (h:PC X op a b t) (h1:behindInMarks op b = false:=by first | exact nobehind _ (by decide) (by decide) | rfl):PT X (.Compare a [op] [b] pos) (tB t):=by
 intro zB s σ H Q I hw;refine wpAny_isTrue_Compare1 (thn (h zB s σ H _ I hw) fun v s1 h1=>thn h1 fun u s2 h2=>thn h2 fun c s3 ⟨x,H1,I1,r1,q1⟩=>?_) h1;obtain ⟨d,rfl,q⟩:=q1;cases r1;exact zRR ⟨H1,I1,q⟩
theorem zM8 {e:Expr} {t:TE} (h:PE X e t) (he:∀ whole,isTrue e X.env whole = (do let v <- whole; standAt e.pos; holding [v] (truthy v)):=by intro _; rfl):PT X e (tB t):=by
 intro zB s σ H Q I hw;refine isTrue_plain (thn (h zB s σ H _ I hw) fun v s1 ⟨x,H1,I1,r1,q1⟩=>?_) (he _);obtain ⟨d,rfl,q⟩:=q1;cases r1;exact zRR ⟨H1,I1,q⟩
variable {tA tB':TT} {rest:List Expr}
def zP3 (t u:TT):TT:=fun σ H Q=>t σ H fun c H1=>if c = true then u σ H1 Q else Q false H1
def tOr (t u:TT):TT:=fun σ H Q=>t σ H fun c H1=>if c = true then Q true H1 else u σ H1 Q
def zPu (t:TT):TT:=fun σ H Q=>t σ H fun c H1=>Q (!c) H1
theorem zL1 (ha:PT X a tA):PW X (.BoolOp .And [a] pos) tA:=by
 intro wh zB s σ H Q I h;refine isTrue_and (thn (ha zB s σ H Q I h) fun c s1 e=>?_);cases c with
 | true=>exact isTrue_and_nil e
 | false=>exact e
theorem zOT (ha:PT X a tA):PW X (.BoolOp .Or [a] pos) tA:=by
 intro wh zB s σ H Q I h;refine isTrue_or (thn (ha zB s σ H Q I h) fun c s1 e=>?_);cases c with
 | false=>exact isTrue_or_nil e
 | true=>exact e
theorem zNd (ha:PT X a tA) (hb:PW X (.BoolOp .And (b :: rest) pos) tB'):PW X (.BoolOp .And (a :: b :: rest) pos) (zP3 tA tB'):=by
 intro wh zB s σ H Q I h;refine isTrue_and (thn (ha zB s σ H _ I h) fun c s1 ⟨H1,I1,q1⟩=>?_);cases c with
 | true=>exact hb wh zB s1 σ H1 Q I1 q1
 | false=>exact ⟨H1,I1,q1⟩
theorem zO8 (ha:PT X a tA) (hb:PW X (.BoolOp .Or (b :: rest) pos) tB'):PW X (.BoolOp .Or (a :: b :: rest) pos) (tOr tA tB'):=by
 intro wh zB s σ H Q I h;refine isTrue_or (thn (ha zB s σ H _ I h) fun c s1 ⟨H1,I1,q1⟩=>?_);cases c with
 | true=>exact ⟨H1,I1,q1⟩
 | false=>exact hb wh zB s1 σ H1 Q I1 q1
theorem zNy (ha:PT X a tA):PT X (.UnaryOp .Not a pos) (zPu tA):=by
 intro zB s σ H Q I h;exact isTrue_not (ha zB s σ H (fun c H1=>Q (!c) H1) I h)
def zOx (ta tb:TE):TE:=fun σ H Q=>ta σ H fun x H1=>∃ c,x = .bl c /\ if c = true then tb σ H1 Q else Q (.bl false) H1
def zO3 (ta:TE):TE:=fun σ H Q=>ta σ H fun x H1=>∃ c,x = .bl c /\ Q (.bl (!c)) H1
theorem zNc {op} {t:TE} (h:PE X a t):PE X (.BoolOp op [a] pos) t:=fun zB s σ H Q I hw=>BoolOp_one (h zB s σ H Q I hw)
theorem zNF (ha:PE X a ta) (hb:PE X (.BoolOp .And (b :: rest) pos) tb):PE X (.BoolOp .And (a :: b :: rest) pos) (zOx ta tb):=by
 intro zB s σ H Q I h;refine BoolOp_and (thn (ha zB s σ H _ I h) fun v s1 ⟨x,H1,I1,r1,q1⟩=>?_);obtain ⟨c,rfl,q1⟩:=q1;cases r1;refine zRR ?_;cases c with
 | true=>exact hb zB s1 σ H1 Q I1 q1
 | false=>exact ⟨.bl false,H1,I1,rfl,q1⟩
theorem zM0 (ha:PE X a ta):PE X (.UnaryOp .Not a pos) (zO3 ta):=by
 intro zB s σ H Q I h;refine UnaryOp_ (thn (ha zB s σ H _ I h) fun v s1 ⟨x,H1,I1,r1,q1⟩=>?_);obtain ⟨c,rfl,q1⟩:=q1;cases r1;exact not_of (zRR ⟨.bl (!c),H1,I1,rfl,q1⟩)
end
def SqL (K:PySem.W.Frag) (H:Hp) (a:Addr) (xs:List V):Prop :=
 Rd H a (.lst xs) \/
  ∃ (o:Obj) (its:Array Value) (n:Nat),K.lookup a = some o /\ o.cls = .type "list" /\ o.dict = none /\ o.data = .seq its n /\ its.size <= sizeLine /\ zW xs its.toList
def SqT (K:PySem.W.Frag) (H:Hp) (a:Addr) (xs:List V):Prop :=
 Rd H a (.tup xs) \/
  ∃ (o:Obj) (its:Array Value) (n:Nat),K.lookup a = some o /\ o.cls = .type "tuple" /\ o.data = .seq its n /\ its.size <= sizeLine /\ zW xs its.toList
def zP2:Value -> Option V
 | .none=>some .non
 | .bool b=>some (.bl b)
 | .int i _=>some (.int i)
 | .str x _=>some (.str x)
 | .bytes b _=>some (.byt b)
 | .float b _=>some (.flt b)
 | .ref a=>some (.ref a)
 | .type n=>some (.ty n)
 | _=>none
theorem zf.abs {x:V} {u:Value} (r:zf x u):zP2 u = some x:=by
 cases x with
 | non=>cases r; rfl
 | bl _=>cases r; rfl
 | int _=>obtain ⟨t,rfl⟩:=r; rfl
 | str _=>obtain ⟨t,rfl⟩:=r; rfl
 | byt _=>obtain ⟨t,rfl⟩:=r; rfl
 | flt _=>obtain ⟨t,rfl⟩:=r; rfl
 | ref _=>cases r; rfl
 | ty _=>cases r; rfl
theorem zf.inj {x y:V} {u:Value} (r:zf x u) (q:zf y u):x = y:=zRF (r.abs.symm.trans q.abs)
theorem zW.inj:∀ {xs ys:List V} {us:List Value},zW xs us -> zW ys us -> xs = ys
 | _,_,_,.nil,.nil=>rfl
 | _,_,_,.cons r t,.cons r' t'=>by rw [r.inj r',zW.inj t t']
section
variable {X:Cx} {zB:List (Addr × Obj)} {σ:St} {H:Hp} {s:Shared} {a:Addr} {xs ys:List V}
theorem SqL.of {K:PySem.W.Frag} (h:H a = some (.lst xs)):SqL K H a xs:=.inl (.inl h)
theorem SqT.of {K:PySem.W.Frag} (h:H a = some (.tup xs)):SqT K H a xs:=.inl (.inl h)
theorem Inv.list (I:Inv X zB σ H s) (h:SqL X.K H a xs):∃ its:List Value,zW xs its /\ PlainL s.heap a its.toArray /\ xs.length <= sizeLine:=by
 rcases h with h | ⟨o,its,n,hk,hc,hd,hs,hz,r⟩
 ·obtain ⟨z,its,n,r,e⟩:=h.ok I.hok;exact ⟨its,r,⟨_,n,e,rfl,rfl,rfl⟩,z⟩
 ·refine ⟨its.toList,r,⟨o,n,I.kIn a o hk,hc,hd,by simpa using hs⟩,?_⟩;have e:=r.length;simp only [zQy] at e;omega
theorem Inv.tuple (I:Inv X zB σ H s) (h:SqT X.K H a xs):∃ its:List Value,zW xs its /\ IsTup s.heap a its.toArray /\ xs.length <= sizeLine:=by
 rcases h with h | ⟨o,its,n,hk,hc,hs,hz,r⟩
 ·obtain ⟨z,its,r,p⟩:=h.ok I.hok;exact ⟨its,r,p.tup,z⟩
 ·refine ⟨its.toList,r,⟨o,I.kIn a o hk,hc,n,by simpa using hs⟩,?_⟩;have e:=r.length;simp only [zQy] at e;omega
theorem Inv.list_inj (I:Inv X zB σ H s) (h:SqL X.K H a xs) (h':SqL X.K H a ys):xs = ys:=by
 obtain ⟨its,r,⟨o,n,e,_,_,d⟩,_⟩:=I.list h;obtain ⟨its',r',⟨o',n',e',_,_,d'⟩,_⟩:=I.list h';rw [e] at e'; cases e';rw [d] at d';injection d' with d1 _
 have:its = its':=by simpa using zR2 Array.toList d1
 subst this;exact r.inj r'
theorem Inv.tuple_inj (I:Inv X zB σ H s) (h:SqT X.K H a xs) (h':SqT X.K H a ys):xs = ys:=by
 obtain ⟨its,r,⟨o,e,_,n,d⟩,_⟩:=I.tuple h;obtain ⟨its',r',⟨o',e',_,n',d'⟩,_⟩:=I.tuple h';rw [e] at e'; cases e';rw [d] at d';injection d' with d1 _
 have:its = its':=by simpa using zR2 Array.toList d1
 subst this;exact r.inj r'
end
abbrev Cx.wish (X:Cx) (E:Value -> Shared -> Prop):Cx:={ X with xe:=E }
abbrev Cx.nox (X:Cx):Cx:=X.wish fun _ _=>False
theorem Cx.Ok.wish {X:Cx} (ok:X.Ok) (E:Value -> Shared -> Prop):(X.wish E).Ok :=
 ⟨ok.mod,ok.kind,ok.glob,ok.blt,ok.above,ok.inj,ok.has,ok.cab,ok.hd,ok.frames,ok.stk,ok.exf,ok.bs,ok.bsz,ok.noex,ok.exfs,ok.funs,ok.frf⟩
theorem Cx.Ok.unwish {X:Cx} {E:Value -> Shared -> Prop} (ok:(X.wish E).Ok):X.Ok :=
 ⟨ok.mod,ok.kind,ok.glob,ok.blt,ok.above,ok.inj,ok.has,ok.cab,ok.hd,ok.frames,ok.stk,ok.exf,ok.bs,ok.bsz,ok.noex,ok.exfs,ok.funs,ok.frf⟩
section
variable {X:Cx} {zB:List (Addr × Obj)} {σ:St} {H:Hp} {s:Shared} {E:Value -> Shared -> Prop}
theorem Inv.wish (I:Inv X zB σ H s) (E:Value -> Shared -> Prop):Inv (X.wish E) zB σ H s:=⟨I.ok.wish E,I.os,I.bare,I.base,I.loc,I.cell,I.free,I.freeC,I.pin,I.hok,I.len⟩
theorem Inv.unwish (I:Inv (X.wish E) zB σ H s):Inv X zB σ H s:=⟨I.ok.unwish,I.os,I.bare,I.base,I.loc,I.cell,I.free,I.freeC,I.pin,I.hok,I.len⟩
theorem SP.unwish {D:Ends} {f:Flow} {s':Shared} (h:SP (X.wish E) zB D f s'):SP X zB D f s':=by
 cases f with
 | next=>obtain ⟨σ',H',I,q⟩:=h; exact ⟨σ',H',I.unwish,q⟩
 | brk=>obtain ⟨σ',H',I,q⟩:=h; exact ⟨σ',H',I.unwish,q⟩
 | cont=>obtain ⟨σ',H',I,q⟩:=h; exact ⟨σ',H',I.unwish,q⟩
 | ret u=>obtain ⟨v,σ',H',I,r,q⟩:=h; exact ⟨v,σ',H',I.unwish,r,q⟩
theorem PSs.nox {st:List Stmt} {t:TS} (h:PSs X.nox st t):PSs X st t:=fun zB s σ H D I hw=>
 zQl (h zB s σ H D (I.wish _) hw) (fun _ _ q=>q.unwish) fun _ _ z=>False.elim z
end
section
variable {X:Cx} {st:Stmt} {rest:List Stmt} {t u:TS} {e:Expr} {te:TE} {pos:Pos}
def zOp:TS:=fun D σ H=>D.nx σ H
def zQD (t u:TS):TS:=fun D σ H=>t { D with nx:=u D } σ H
theorem zLw:PSs X [] zOp:=fun _ _ σ H _ I h=>wpAny_execs_nil ⟨σ,H,I,h⟩
theorem zKY (h1:PS X st t) (h2:PSs X rest u):PSs X (st :: rest) (zQD t u):=by
 intro zB s σ H D I h;refine wpAny_execs_cons (thn (h1 zB s σ H { D with nx:=u D } I h) fun f s1 q=>?_);cases f with
 | next=>
  obtain ⟨σ',H',I',q⟩:=q;exact h2 zB s1 σ' H' D I' q
 | ret v=>exact q
 | brk=>exact q
 | cont=>exact q
theorem zLp (h1:PS X st t):PSs X [st] t:=by
 intro zB s σ H D I h;refine wpAny_execs_cons (thn (h1 zB s σ H D I h) fun f s1 q=>?_);cases f with
 | next=>exact wpAny_execs_nil q
 | ret v=>exact q
 | brk=>exact q
 | cont=>exact q
theorem Inv.quiet {zB:List (Addr × Obj)} {σ:St} {H:Hp} {s:Shared} (I:Inv X zB σ H s):interactive X.env = false:=by simp [interactive,I.ok.kind]
def zOh (te:TE):TS:=fun D σ H=>te σ H fun _ H1=>D.nx σ H1
theorem zLW (he:PE X e te) (hs:swapsWith e none pos.line X.env = pure false:=by rfl):PS X (.Expr e pos) (zOh te):=by
 intro zB s σ H D I h;exact wpAny_Expr_any (thn (he zB s σ H _ I h) fun v s1 ⟨x,H1,I1,r1,q1⟩=>⟨σ,H1,I1,q1⟩) I.quiet hs
def zP1 (te:TE):TS:=fun D σ H=>te σ H D.rt
theorem zNi (he:PE X e te):PS X (.Return (some e) pos) (zP1 te):=by
 intro zB s σ H D I h;exact wpAny_Return_some (thn (he zB s σ H _ I h) fun v s1 ⟨x,H1,I1,r1,q1⟩=>⟨x,σ,H1,I1,r1,q1⟩)
def zPr (c:TT) (t u:TS):TS:=fun D σ H=>c σ H fun b H1=>if b = true then t D σ H1 else u D σ H1
theorem zOs {c:Expr} {a b:List Stmt} {tc:TT} (hc:PT X c tc) (ha:PSs X a t) (hb:PSs X b u):PS X (.If c a b pos) (zPr tc t u):=by
 intro zB s σ H D I h;refine wpAny_If (thn (hc zB s σ H _ I h) fun d s1 ⟨H1,I1,q1⟩=>?_);cases d with
 | true=>exact ha zB s1 σ H1 D I1 q1
 | false=>exact hb zB s1 σ H1 D I1 q1
end
abbrev TG:=V -> St -> Hp -> (St -> Hp -> Prop) -> Prop
abbrev TGs:=List V -> St -> Hp -> (St -> Hp -> Prop) -> Prop
def PG (X:Cx) (target:Expr) (t:TG):Prop :=
 ∀ (zB:List (Addr × Obj)) (s:Shared) (σ:St) (H:Hp) (v:V) (u:Value) (Q:St -> Hp -> Prop),Inv X zB σ H s -> zf v u -> t v σ H Q ->
  wpAny (model X.prog X.w) X.A (assign target X.env u) (fun _ s'=>∃ σ' H',Inv X zB σ' H' s' /\ Q σ' H') X.xe s
def PGs (X:Cx) (ts:List Expr) (t:TGs):Prop :=
 ∀ (zB:List (Addr × Obj)) (s:Shared) (σ:St) (H:Hp) (vs:List V) (us:List Value) (Q:St -> Hp -> Prop),Inv X zB σ H s -> zW vs us -> t vs σ H Q ->
  wpAny (model X.prog X.w) X.A (assignInOrder ((assignEach ts X.env).map (·.2)) us) (fun _ s'=>∃ σ' H',Inv X zB σ' H' s' /\ Q σ' H') X.xe s
abbrev zOQ:=V -> V -> V -> Hp -> (Hp -> Prop) -> Prop
def zPA (X:Cx) (t:zOQ):Prop :=
 ∀ (zB:List (Addr × Obj)) (s:Shared) (σ:St) (H:Hp) (o i v:V) (ov iv u:Value) (Q:Hp -> Prop),Inv X zB σ H s -> zf o ov -> zf i iv -> zf v u -> t o i v H Q ->
  wpAny (model X.prog X.w) X.A (setItem ov iv u) (fun _ s'=>∃ H',Inv X zB σ H' s' /\ Q H') X.xe s
section
variable {X:Cx} {pos:Pos}
def zC7 (i:Nat):TG:=fun v σ H Q=>Q (σ.set i (some v)) H
theorem zIk {i:Nat} {x:Str} (hN:X.N.Nodup) (hi:X.N[i]? = some x) (hx:Loc X.env.scope x) (hf:X.fn x = true \/ X.env.scope.names.lookup x = some .local:=by first | exact .inl rfl | exact .inr rfl | assumption):PG X (.Name x pos) (zC7 i):=by
 intro zB s σ H v u Q I r h;exact wpAny_assign_Name (zGS I hN hi hx r (fun s' I'=>⟨_,H,I',h⟩) hf)
def zPG:TGs:=fun vs σ H Q=>vs = [] /\ Q σ H
def zLF (t:TG) (u:TGs):TGs:=fun vs σ H Q=>∃ v r,vs = v :: r /\ t v σ H fun σ' H'=>u r σ' H' Q
theorem zIQ:PGs X [] zPG:=by
 intro zB s σ H vs us Q I r h;obtain ⟨e,h⟩:=h;subst e;cases r;exact assignInOrder_nil ⟨σ,H,I,h⟩
theorem zEl {e:Expr} {es:List Expr} {t:TG} {u:TGs} (h1:PG X e t) (h2:PGs X es u)
  (hs:(assignEach (e :: es) X.env).map (·.2) = assign e X.env :: (assignEach es X.env).map (·.2):=by rfl):PGs X (e :: es) (zLF t u):=by
 intro zB s σ H vs us Q I r h;obtain ⟨v,vr,e1,h⟩:=h;subst e1;cases r with
 | cons r rr=>
  rw [hs];refine assignInOrder_cons (thn (h1 zB s σ H _ _ _ I r h) fun _ s1 ⟨σ1,H1,I1,q1⟩=>?_);exact h2 zB s1 σ1 H1 _ _ Q I1 rr q1
def zPj (K:PySem.W.Frag) (n:Nat) (t:TGs):TG:=fun v σ H Q=>∃ a xs,v = .ref a /\ SqT K H a xs /\ xs.length = n /\ t xs σ H Q
theorem zKv {es:List Expr} {k:Nat} {t:TGs} {n:Nat} (hc:X.calm = true) (h:PGs X es t)
  (hn:(assignEach es X.env).length = n:=by rfl) (hst:(assignEach es X.env).findIdx? (·.1) = none:=by rfl):PG X (.Tuple es k pos) (zPj X.K n t):=by
 intro zB s σ H v u Q I r hw;obtain ⟨a,xs,e1,hq,hl,hw⟩:=hw;subst e1;cases r;obtain ⟨its,rv,ht,hz⟩:=I.tuple hq;refine assign_Tuple_tuple (I.ok.hd hc) ht (by simp [hn,<- hl,rv.length]) hst fun h' hx=>?_;have I1:Inv X zB σ H { s with heap:=h' }:=I.kept (t':=s.toks) fun b o e=>hx b o (zQa (zQQ e)) e;exact h zB _ σ H xs _ Q I1 (by simpa using rv) hw
def zP7 (to ti:TE) (t:zOQ):TG:=fun v σ H Q=>to σ H fun o H1=>ti σ H1 fun i H2=>t o i v H2 fun H3=>Q σ H3
theorem zOJ {o i:Expr} {to ti:TE} {t:zOQ} (ho:PE X o to) (hi:PE X i ti) (hs:zPA X t)
  (ha:∀ v,assign (.Subscript o i pos) X.env v = (do
   let ov <- holding [v] (eval o X.env);let iv <- holding [v,ov] (eval i X.env);standAt pos;holding [v,ov,iv] (setItem ov iv v);release [v,ov,iv] []):=by intro _; rfl):PG X (.Subscript o i pos) (zP7 to ti t):=by
 intro zB s σ H v u Q I r h;rw [ha];refine zQF (wpAny_holding (thn (ho zB s σ H _ I h) fun ov s1 ⟨x,H1,I1,r1,q1⟩=>?_));refine zQF (wpAny_holding (thn (hi zB s1 σ H1 _ I1 q1) fun iv s2 ⟨y,H2,I2,r2,q2⟩=>?_));refine zQF (wpAny_standAt (zQF (wpAny_holding (thn (hs zB s2 σ H2 x y v ov iv u _ I2 r1 r2 r q2) fun _ s3 ⟨H3,I3,q3⟩=>?_))));exact wpAny_release ⟨σ,H3,I3,q3⟩
def zLa (te:TE) (g:TG):TS:=fun D σ H=>te σ H fun x H1=>g x σ H1 D.nx
theorem zNC {tg e:Expr} {te:TE} {g:TG} (he:PE X e te) (hg:PG X tg g) (hs:swapsWithSole [tg] e pos.line X.env = pure false:=by rfl) (hw:swappedStores [tg] e X.env = pure none:=by rfl)
  (h1:(assignEach [tg] X.env).map (·.2) = [assign tg X.env]:=by rfl):PS X (.Assign [tg] e pos) (zLa te g):=by
 intro zB s σ H D I h;refine wpAny_Assign_stores (thn (he zB s σ H _ I h) fun v s1 ⟨x,H1,I1,r1,q1⟩=>?_) hs hw;rw [h1];exact thn (hg zB s1 σ H1 x v _ I1 r1 q1) fun _ s2 q=>q
theorem zOX {i:Nat} {x:Str} {e:Expr} {te:TE} {pos':Pos} (hN:X.N.Nodup) (hi:X.N[i]? = some x) (hx:Loc X.env.scope x) (he:PE X e te) (hs:swapsWith e (some (.Name x pos')) pos.line X.env = pure false:=by rfl) (hf:X.fn x = true \/ X.env.scope.names.lookup x = some .local:=by first | exact .inl rfl | exact .inr rfl | assumption) :
  PS X (.Assign [.Name x pos'] e pos) (zLa te (zC7 i)):=by
 intro zB s σ H D I h;refine wpAny_Assign_Name (thn (he zB s σ H _ I h) fun v s1 ⟨y,H1,I1,r1,q1⟩=>?_) hs;exact zGS I1 hN hi hx r1 (fun s2 I2=>⟨_,H1,I2,q1⟩) hf
def zKC (c:TT) (tb:TS):TS:=fun D σ H=>∃ W:Nat -> St -> Hp -> Prop,(∃ m,W m σ H) /\ ∀ m σ H,W m σ H ->
 c σ H fun b H1=>if b = true then ∃ N:St -> Hp -> Prop,(∀ σ' H',N σ' H' -> ∃ m',m' < m /\ W m' σ' H') /\ tb { D with nx:=N,ct:=N,bk:=D.nx } σ H1 else D.nx σ H1
theorem zKg {c:Expr} {body:List Stmt} {tc:TT} {tb:TS} (hp:PassesOwn (model X.prog X.w) X.A X.env X.xe) (hc:PT X c tc) (hb:PSs X body tb):PS X (.While c body [] pos) (zKC tc tb):=by
 intro zB s σ H D I h;obtain ⟨W,⟨m0,w0⟩,turn⟩:=h;refine wpAny_While (codeAny_whileLoop (fun n s'=>∃ σ' H',Inv X zB σ' H' s' /\ W n σ' H') ?_ m0 ⟨σ,H,I,w0⟩);rintro n s1 ⟨σ1,H1,I1,w1⟩;refine wpAny_passesOwn hp (thn (hc zB s1 σ1 H1 _ I1 (turn n σ1 H1 w1)) fun b s2 ⟨H2,I2,q2⟩=>?_);cases b with
 | true=>
  obtain ⟨N,hN,q2⟩:=q2;rw [zQU rfl];refine wpAny_passesOwn hp (thn (hb zB s2 σ1 H2 _ I2 q2) fun f s3 q3=>?_);cases f with
  | next=>
   obtain ⟨σ3,H3,I3,n3⟩:=q3;obtain ⟨m',hm,w3⟩:=hN σ3 H3 n3;exact ⟨m',hm,σ3,H3,I3,w3⟩
  | cont=>
   obtain ⟨σ3,H3,I3,n3⟩:=q3;obtain ⟨m',hm,w3⟩:=hN σ3 H3 n3;exact ⟨m',hm,σ3,H3,I3,w3⟩
  | brk=>exact q3
  | ret v=>exact q3
 | false=>
  rw [zQX zQb];exact wpAny_execs_nil ⟨σ1,H2,I2,q2⟩
end
structure It where
 go:Nat -> Hp -> Prop
 yld:Nat -> Hp -> V -> Hp -> Prop
 stop:Nat -> Hp -> Prop
def zCU (X:Cx) (zB:List (Addr × Obj)) (H:Hp) (b:Addr):Prop :=
 H b = none /\ b ≠ X.env.locals /\ b ∉ X.fs /\ (b ∈ X.ex \/ X.s₀.heap.objs.size <= b) /\ (∀ x c,X.env.cells.lookup x = some c -> c ≠ b) /\ ∀ p ∈ X.pn ++ zB,p.1 ≠ b
theorem Inv.fpOk {X:Cx} {zB:List (Addr × Obj)} {σ:St} {H H':Hp} {s:Shared} {b:Addr} (I:Inv X zB σ H s) (hb:s.heap.objs.size <= b) (hn:H' b = none):zCU X zB H' b:=by
 refine ⟨hn,Nat.ne_of_gt (zQe I.lt hb),I.nofs hb,.inr (zQg I.sz hb),fun x c e z=>?_,fun p hp z=>?_⟩
 ·obtain ⟨v,q⟩:=I.cell x c e;exact absurd (zQe q.lt (by rw [z]; exact hb)) (Nat.lt_irrefl _)
 ·exact absurd (zQe (zQQ (I.pin p hp).1) (by rw [z]; exact hb)) (Nat.lt_irrefl _)
structure Turn (P:Program) (w:World) (K:PySem.W.Frag) (tg:Expr) (J:It) (fp:List Addr) (it:Addr) (tn:Nat -> Heap -> Prop):Prop where
 mem:it ∈ fp
 obj:∀ i h,tn i h -> ∀ b ∈ fp,∃ o,h.get? b = some o /\ ∀ v,o.data ≠ .cell v
 keep:∀ i h h',tn i h -> (∀ b ∈ fp,∀ o,h.get? b = some o -> h'.get? b = some o) -> tn i h'
 item:∀ (X:Cx),X.prog = P -> X.w = w -> X.K = K -> X.calm = true -> ∀ (i:Nat) (zB:List (Addr × Obj)) (s:Shared) (σ:St) (H:Hp) (E:Value -> Shared -> Prop),Inv X zB σ H s -> (∀ b ∈ fp,zCU X zB H b) -> tn i s.heap -> J.go i H ->
  wpAny (model P w) X.A (pyNext (.ref it)) (fun r s1=>∃ u,r = some u /\
   wpAny (model P w) X.A (letOwnedTupleGo tg (.ref it) u) (fun _ s2=>∃ x H',Inv X zB σ H' s2 /\ zf x u /\ J.yld i H x H' /\ tn (i + 1) s2.heap /\ ∀ b ∈ fp,H' b = none) E s1) E s
 done:∀ (X:Cx),X.prog = P -> X.w = w -> X.K = K -> X.calm = true -> ∀ (i:Nat) (zB:List (Addr × Obj)) (s:Shared) (σ:St) (H:Hp) (E:Value -> Shared -> Prop),Inv X zB σ H s -> (∀ b ∈ fp,zCU X zB H b) -> tn i s.heap -> J.stop i H ->
  wpAny (model P w) X.A (pyNext (.ref it)) (fun r s1=>r = none /\ Inv X zB σ H s1) E s
 self:∀ (A:Around) (i:Nat) (s:Shared) (Q:Value -> Shared -> Prop) (E:Value -> Shared -> Prop),tn i s.heap -> Q (.ref it) s -> wpAny (model P w) A (pyIter (.ref it)) Q E s
abbrev TI:=St -> Hp -> (It -> Hp -> Prop) -> Prop
def PIE (X:Cx) (zB:List (Addr × Obj)) (σ:St) (tg:Expr) (R:It -> Hp -> Prop) (itv:Value) (s2:Shared):Prop :=
 ∃ (it:Addr) (fp:List Addr) (tn:Nat -> Heap -> Prop) (J:It) (H':Hp),itv = .ref it /\ Inv X zB σ H' s2 /\ Turn X.prog X.w X.K tg J fp it tn /\ tn 0 s2.heap /\ (∀ b ∈ fp,zCU X zB H' b) /\ R J H'
def PI (X:Cx) (tg iter:Expr) (wi:TI):Prop :=
  ∀ (zB:List (Addr × Obj)) (s:Shared) (σ:St) (H:Hp) (R:It -> Hp -> Prop),Inv X zB σ H s -> wi σ H R ->
    wpAny (model X.prog X.w) X.A (eval iter X.env) (fun v s1=>wpAny (model X.prog X.w) X.A (pyIter v) (PIE X zB σ tg R) X.xe s1) X.xe s
theorem zGk {M:Model} {A:Around} {E:Value -> Shared -> Prop} {s:Shared} {tg:Expr} {it:Addr} {u:Value} {o:Obj} {n:String} {vs:Array Value} {Q:Unit -> Shared -> Prop} (ho:s.heap.get? it = some o) (hc:o.cls = .type n) (hd:o.data = .fields vs)
    (hn:["enumerate", "zip", "dict_itemiterator", "dict_reverseitemiterator", "odict_iterator", "itertools.zip_longest", "itertools.pairwise"].contains n = false) (hQ:Q () s):wpAny M A (letOwnedTupleGo tg (.ref it) u) Q E s:=by
  unfold letOwnedTupleGo
  cases tg <;> first
    | exact zQH hQ
    | (cases u <;> first
        | exact zQH hQ
        | (refine zQF (wpAny_load ho ?_)
           rw [hc,hd];show wpAny M A (if (["enumerate", "zip", "dict_itemiterator", "dict_reverseitemiterator", "odict_iterator", "itertools.zip_longest", "itertools.pairwise"].contains n && vs[0]? == some (rawInt _)) = true then _ else _) Q E s;rw [zQX (by intro h; rw [hn,Bool.false_and] at h; cases h)];exact zQH hQ))
def Itl (K:PySem.W.Frag) (a:Addr):It :=
 ⟨fun i H=>∃ xs x,SqL K H a xs /\ xs[i]? = some x,fun i H x H'=>H' = H /\ ∀ xs,SqL K H a xs -> xs[i]? = some x,fun i H=>∃ xs,SqL K H a xs /\ xs.length <= i⟩
def Itt (K:PySem.W.Frag) (a:Addr):It :=
 ⟨fun i H=>∃ xs x,SqT K H a xs /\ xs[i]? = some x,fun i H x H'=>H' = H /\ ∀ xs,SqT K H a xs -> xs[i]? = some x,fun i H=>∃ xs,SqT K H a xs /\ xs.length <= i⟩
def Itr (lo:Int) (n:Nat):It:=⟨fun i _=>i < n,fun i H x H'=>H' = H /\ x = .int (lo + i),fun i _=>n <= i⟩
theorem zI3 {P:Program} {w:World} {K:PySem.W.Frag} {tg:Expr} (a it:Addr):Turn P w K tg (Itl K a) [it] it (fun i h=>h.IsListIter it a i) where
 mem:=by simp
 obj:=fun i h st b hb=>by
  have e:b = it:=by simpa using hb
  subst e;obtain ⟨o,e,c,d⟩:=st;exact ⟨o,e,fun v z=>by rw [d] at z; cases z⟩
 keep:=fun i h h' st k=>st.at fun o e=>k it (by simp) o e;item:=by
  intro X hP hw hK hc i zB s σ H E I hf st hg;subst hP hw hK;obtain ⟨xs,x,hq,hx⟩:=hg;obtain ⟨its,rv,p,hz⟩:=I.list hq;obtain ⟨u,hu,ru⟩:=rv.get hx;obtain ⟨f0,f1,f2,f3,f4,f5⟩:=hf it (by simp);refine wpAny_pyNext_list_item st p.isList (x:=u) (by simpa using hu) fun h' st' sb=>?_;have I1:Inv X zB σ H { s with heap:=h' }:=I.turned (t':=s.toks) (fun b o hb e=>(sb.2 b hb).trans e) f0 f1 f3 f4 f5;obtain ⟨o,e,c,d⟩:=id st';exact ⟨u,rfl,zGk (s:={ s with heap:=h' }) e c d (by decide) ⟨x,H,I1,ru,⟨rfl,fun ys hy=>by rw [I.list_inj hy hq]; exact hx⟩,st',fun b hb=>(hf b hb).1⟩⟩
 done:=by
  intro X hP hw hK hc i zB s σ H E I hf st hg;subst hP hw hK;obtain ⟨xs,hq,hx⟩:=hg;obtain ⟨its,rv,p,hz⟩:=I.list hq;obtain ⟨f0,f1,f2,f3,f4,f5⟩:=hf it (by simp);have hl:=rv.length;exact wpAny_pyNext_list_end (I.ok.hd hc) st p.isList (by simp; omega) fun h' eb=>⟨rfl,I.turned (t':=s.toks) (fun b o hb e=>eb b o hb e) f0 f1 f3 f4 f5⟩
 self:=fun _ _ _ _ _ st h=>wpAny_pyIter_listiter st h
theorem zHt {P:Program} {w:World} {K:PySem.W.Frag} {tg:Expr} (a it:Addr):Turn P w K tg (Itt K a) [it] it (fun i h=>h.IsTupleIter it a i) where
 mem:=by simp
 obj:=fun i h st b hb=>by
  have e:b = it:=by simpa using hb
  subst e;obtain ⟨o,e,c,d⟩:=st;exact ⟨o,e,fun v z=>by rw [d] at z; cases z⟩
 keep:=fun i h h' st k=>st.at fun o e=>k it (by simp) o e;item:=by
  intro X hP hw hK hc i zB s σ H E I hf st hg;subst hP hw hK;obtain ⟨xs,x,hq,hx⟩:=hg;obtain ⟨its,rv,p,hz⟩:=I.tuple hq;obtain ⟨u,hu,ru⟩:=rv.get hx;obtain ⟨f0,f1,f2,f3,f4,f5⟩:=hf it (by simp);refine wpAny_pyNext_tuple_item st (show s.heap.IsTuple a its.toArray from p) (x:=u) (by simpa using hu) fun h' st' sb=>?_;have I1:Inv X zB σ H { s with heap:=h' }:=I.turned (t':=s.toks) (fun b o hb e=>(sb.2 b hb).trans e) f0 f1 f3 f4 f5;obtain ⟨o,e,c,d⟩:=id st';exact ⟨u,rfl,zGk (s:={ s with heap:=h' }) e c d (by decide) ⟨x,H,I1,ru,⟨rfl,fun ys hy=>by rw [I.tuple_inj hy hq]; exact hx⟩,st',fun b hb=>(hf b hb).1⟩⟩
 done:=by
  intro X hP hw hK hc i zB s σ H E I hf st hg;subst hP hw hK;obtain ⟨xs,hq,hx⟩:=hg;obtain ⟨its,rv,p,hz⟩:=I.tuple hq;obtain ⟨f0,f1,f2,f3,f4,f5⟩:=hf it (by simp);have hl:=rv.length;exact wpAny_pyNext_tuple_end (I.ok.hd hc) st (show s.heap.IsTuple a its.toArray from p) (by simp; omega) fun h' eb=>⟨rfl,I.turned (t':=s.toks) (fun b o hb e=>eb b o hb e) f0 f1 f3 f4 f5⟩
 self:=fun _ _ _ _ _ st h=>wpAny_pyIter_tupleiter st h
theorem zHY {P:Program} {w:World} {K:PySem.W.Frag} {tg:Expr} (it:Addr) (lo:Int) (n:Nat):Turn P w K tg (Itr lo n) [it] it (fun i h=>IsRangeIter h it (lo + (i:Nat) * 1) ((n:Int) - (i:Nat)) 1) where
 mem:=by simp
 obj:=fun i h st b hb=>by
  have e:b = it:=by simpa using hb
  subst e;exact ⟨_,st,fun v z=>by
   have z':Data.fields _ = Data.cell v:=z;cases z'⟩
 keep:=fun i h h' st k=>k it (by simp) _ st;item:=by
  intro X hP hw hK hc i zB s σ H E I hf st hg;subst hP hw hK;obtain ⟨f0,f1,f2,f3,f4,f5⟩:=hf it (by simp);have W:=Walks.range (prog:=X.prog) (w:=X.w) (I.ok.hd hc) it lo 1 n;refine W.item i s _ _ hg st fun v h' tk hv st' kk=>?_;obtain ⟨t,rfl⟩:=hv;have I1:Inv X zB σ H { s with heap:=h',toks:=tk }:=I.turned (fun b o hb e=>kk b o (by simpa using hb) e) f0 f1 f3 f4 f5;refine ⟨_,rfl,zGk (s:={ s with heap:=h',toks:=tk }) (n := "range_iterator") st' rfl rfl (by decide) ⟨.int (lo + i),H,I1,⟨t,?_⟩,⟨rfl,rfl⟩,st',fun b hb=>(hf b hb).1⟩⟩;rw [Int.mul_one]
 done:=by
  intro X hP hw hK hc i zB s σ H E I hf st hg;subst hP hw hK;obtain ⟨f0,f1,f2,f3,f4,f5⟩:=hf it (by simp);exact wpAny_pyNext_range_end (I.ok.hd hc) st (by have:n <= i:=hg; omega) fun h' eb=>⟨rfl,I.turned (t':=s.toks) (fun b o hb e=>eb b o hb e) f0 f1 f3 f4 f5⟩
 self:=fun _ _ _ _ _ st h=>wpAny_pyIter_rangeiter st h
section
variable {X:Cx} {tg:Expr}
theorem zJt {zB:List (Addr × Obj)} {σ:St} {H:Hp} {s:Shared} {R:It -> Hp -> Prop} {E:Value -> Shared -> Prop} {lo hi:Int} {t u v:Tok} {tk:Nat} (I:Inv X zB σ H s) (h1 : -(2 ^ 62) <= lo) (h2:lo < 2 ^ 62) (h3 : -(2 ^ 62) <= hi) (h4:hi < 2 ^ 62)
  (q:R (Itr lo (hi - lo).toNat) H):wpAny (model X.prog X.w) X.A (pyIter (.ref s.heap.objs.size)) (PIE X zB σ tg R) E { s with heap:=s.heap.push { cls:=.type "range", data:=.fields #[.int lo t,.int hi u,.int 1 v] },toks:=tk }:=by
 refine wpAny_pyIter_range (IsRange.new ..) (small_one h1 h2 h3 h4) ?_;have I1:Inv X zB σ H { s with heap:=s.heap.push { cls:=.type "range", data:=.fields #[.int lo t,.int hi u,.int 1 v] },toks:=tk }:=I.kept fun b o e=>zQG _ e
 refine ⟨(s.heap.push { cls:=.type "range", data:=.fields #[.int lo t,.int hi u,.int 1 v] }).objs.size,[(s.heap.push { cls:=.type "range", data:=.fields #[.int lo t,.int hi u,.int 1 v] }).objs.size],_,_,H,rfl,
  I1.kept (t':=tk) fun b o e=>zQG _ e,zHY _ lo (hi - lo).toNat,?_,fun b hb=>?_,q⟩
 ·have e1:lo + ((0:Nat):Int) * 1 = lo:=by simp
  have e2:(((hi - lo).toNat:Nat):Int) - ((0:Nat):Int) = Builtin.Range.rangeSize lo hi 1:=by rw [rangeSize_one]; split <;> omega
  show IsRangeIter _ _ (lo + ((0:Nat):Int) * 1) ((((hi - lo).toNat:Nat):Int) - ((0:Nat):Int)) 1;rw [e1,e2];exact zQP _ rfl
 ·have e:b = (s.heap.push { cls:=.type "range", data:=.fields #[.int lo t,.int hi u,.int 1 v] }).objs.size:=by simpa using hb
  subst e;exact I1.fpOk (zQL _) (I1.hok.fresh (zQL _))
def zOe (ta:TA):TI:=fun σ H R=>ta σ H fun vs H1=>∃ j:Int,vs = [.int j] /\ -(2 ^ 62) <= j /\ j < 2 ^ 62 /\ R (Itr 0 j.toNat) H1
theorem zJX {a:Expr} {ta:TA} {p pos:Pos} (hg:Gl X "range") (hm:X.mg "range" = none) (ha:PA X [a] ta) (hs:starEach [a] X.env = [(false,eval a X.env)]:=by rfl):PI X tg (.Call (.Name "range" p) [a] [] pos) (zOe ta):=by
 intro zB s σ H R I h;refine Call_ (zDS I hg hm boot_range (PyProof.Rows.callWith_type1 (thn (ha pos zB s σ H _ I h) fun us s1 ⟨vs,H1,I1,r1,q1⟩=>?_) hs rfl));obtain ⟨j,e,q1,q2,q⟩:=q1;subst e;cases r1 with
 | cons r rr=>
  cases rr;obtain ⟨t,rfl⟩:=r;exact call_range_1 (zJt I1 (by omega) (by omega) q1 q2 (by simpa using q))
def zPg (wi:TI) (g:TG) (tb:TS):TS:=fun D σ H=>wi σ H fun J H1=>∃ W:Nat -> Nat -> St -> Hp -> Prop,(∃ m,W 0 m σ H1) /\ ∀ i m σ H,W i m σ H ->
 (J.stop i H /\ D.nx σ H) \/ (J.go i H /\ ∃ N:St -> Hp -> Prop,(∀ σ' H',N σ' H' -> ∃ m',m' < m /\ W (i + 1) m' σ' H') /\ ∀ x H',J.yld i H x H' -> g x σ H' fun σ2 H2=>tb { D with nx:=N,ct:=N,bk:=D.nx } σ2 H2)
def zEh (fp:List Addr) (h:Heap):List (Addr × Obj):=fp.filterMap fun b=>(h.get? b).map fun o=>(b,o)
theorem zBn {fp:List Addr} {h:Heap} {b:Addr} {o:Obj} (hb:b ∈ fp) (e:h.get? b = some o):(b,o) ∈ zEh fp h:=List.mem_filterMap.mpr ⟨b,hb,by rw [e]; rfl⟩
theorem zI1 {fp:List Addr} {h:Heap} {p:Addr × Obj} (hp:p ∈ zEh fp h):p.1 ∈ fp /\ h.get? p.1 = some p.2:=by
 obtain ⟨b,hb,e⟩:=List.mem_filterMap.mp hp;cases q:h.get? b with
 | none=>rw [q] at e; cases e
 | some o=>
  rw [q] at e;have e':(b,o) = p:=zRF e;subst e';exact ⟨hb,q⟩
theorem Inv.pinned {zB:List (Addr × Obj)} {σ:St} {H:Hp} {s:Shared} {fp:List Addr} (I:Inv X zB σ H s) (hf:∀ b ∈ fp,zCU X zB H b) (ho:∀ b ∈ fp,∃ o,s.heap.get? b = some o /\ ∀ v,o.data ≠ .cell v):Inv X (zB ++ zEh fp s.heap) σ H s :=
 I.pins_of fun p hp=>(zQf.mp hp).elim (fun z=>I.pin p (zQZ _ z)) fun z=>by
  obtain ⟨hb,e⟩:=zI1 z;obtain ⟨f0,f1,f2,_⟩:=hf p.1 hb;obtain ⟨o,e',d⟩:=ho p.1 hb;rw [e] at e'; cases e';exact ⟨e,f0,f1,f2,d⟩
theorem Inv.unpinned {zB pl:List (Addr × Obj)} {σ:St} {H:Hp} {s:Shared} (I:Inv X (zB ++ pl) σ H s):Inv X zB σ H s:=I.pins_of fun p hp=>I.pin p (zQZ _ (List.mem_append_left _ hp))
theorem zOZ {iter:Expr} {body:List Stmt} {wi:TI} {g:TG} {tb:TS} {pos:Pos} (hp:PassesOwn (model X.prog X.w) X.A X.env X.xe) (hc:X.calm = true) (hi:PI X tg iter wi) (hg:PG X tg g) (hb:PSs X body tb)
  (hs:∀ x,foldedSetIterable iter X.env x = pure x:=by intro _; rfl):PS X (.For tg iter body [] pos) (zPg wi g tb):=by
 intro zB s σ H D I h;refine wpAny_For (thn (hi zB s σ H _ I h) fun v s1 h1=>thn h1 fun itv s2 h2=>?_) hs;obtain ⟨it,fp,tn,J,H2,e,I2,T,st2,f2,W,⟨m0,w0⟩,turn⟩:=h2;subst e;have stat:∀ {H':Hp},(∀ b ∈ fp,H' b = none) -> ∀ b ∈ fp,zCU X zB H' b:=fun hn b hb=>⟨hn b hb,(f2 b hb).2⟩;refine codeAny_forLoop_any (fun n s'=>∃ i σ' H',Inv X zB σ' H' s' /\ tn i s'.heap /\ (∀ b ∈ fp,H' b = none) /\ W i n σ' H') ?_ m0 ⟨0,σ,H2,I2,st2,fun b hb=>(f2 b hb).1,w0⟩;rintro n s3 ⟨i,σ3,H3,I3,st3,fr3,w3⟩;rcases turn i n σ3 H3 w3 with ⟨stop,qn⟩ | ⟨go,N,hN,step⟩
 ·refine wpAny_passesOwn hp (thn (T.done X rfl rfl rfl hc i zB s3 σ3 H3 X.xe I3 (stat fr3) st3 stop) fun r s4 ⟨hr,I4⟩=>?_);subst hr;exact wpAny_execs_nil ⟨σ3,H3,I4,qn⟩
 ·refine wpAny_passesOwn hp (thn (T.item X rfl rfl rfl hc i zB s3 σ3 H3 X.xe I3 (stat fr3) st3 go) fun r s4 ⟨u,hr,h4⟩=>?_);subst hr;refine wpAny_passesOwn hp (thn h4 fun _ s5 ⟨x,H5,I5,r5,y5,st5,fr5⟩=>?_);have I5':=I5.pinned (stat fr5) (T.obj _ _ st5);refine wpAny_passesOwn hp (thn (hg _ s5 σ3 H5 x u _ I5' r5 (step x H5 y5)) fun _ s6 ⟨σ6,H6,I6,q6⟩=>?_);refine wpAny_passesOwn hp (thn (hb _ s6 σ6 H6 _ I6 q6) fun f s7 q7=>?_);have again:∀ {σ7:St} {H7:Hp},Inv X (zB ++ zEh fp s5.heap) σ7 H7 s7 -> N σ7 H7 -> ∃ m,m < n /\ ∃ i σ' H',Inv X zB σ' H' s7 /\ tn i s7.heap /\ (∀ b ∈ fp,H' b = none) /\ W i m σ' H':=fun {σ7 H7} I7 n7=>by
   obtain ⟨m',hm,w7⟩:=hN σ7 H7 n7;refine ⟨m',hm,i + 1,σ7,H7,I7.unpinned,T.keep _ _ _ st5 fun b hb o e=>(I7.pin (b,o) (zQZ _ (zQZ _ (zBn hb e)))).1,fun b hb=>?_,w7⟩;obtain ⟨o,e,d⟩:=T.obj _ _ st5 b hb;exact (I7.pin (b,o) (zQZ _ (zQZ _ (zBn hb e)))).2.1
  cases f with
  | next=>obtain ⟨σ7,H7,I7,n7⟩:=q7; exact again I7 n7
  | cont=>obtain ⟨σ7,H7,I7,n7⟩:=q7; exact again I7 n7
  | brk=>obtain ⟨σ7,H7,I7,q7⟩:=q7; exact ⟨σ7,H7,I7.unpinned,q7⟩
  | ret v=>obtain ⟨x7,σ7,H7,I7,r7,q7⟩:=q7; exact ⟨x7,σ7,H7,I7.unpinned,r7,q7⟩
end
abbrev R2:=V -> V -> Hp -> VK -> Prop
def OpR (X:Cx) (f:Value -> Value -> Sem Value) (r:R2):Prop :=
 ∀ (zB:List (Addr × Obj)) (s:Shared) (σ:St) (H:Hp) (x y:V) (v u:Value) (Q:VK),Inv X zB σ H s -> zf x v -> zf y u -> r x y H Q ->
  wpAny (model X.prog X.w) X.A (f v u) (EP X zB σ Q) X.xe s
def zBj (X:Cx) (f:Value) (r:List V -> Hp -> VK -> Prop):Prop :=
 ∀ (zB:List (Addr × Obj)) (s:Shared) (σ:St) (H:Hp) (xs:List V) (us:List Value) (Q:VK),Inv X zB σ H s -> zW xs us -> r xs H Q ->
  wpAny (model X.prog X.w) X.A (call f us) (EP X zB σ Q) X.xe s
def zPn (X:Cx) (r:V -> Hp -> (Bool -> Hp -> Prop) -> Prop):Prop :=
 ∀ (zB:List (Addr × Obj)) (s:Shared) (σ:St) (H:Hp) (x:V) (v:Value) (Q:Bool -> Hp -> Prop),Inv X zB σ H s -> zf x v -> r x H Q ->
  wpAny (model X.prog X.w) X.A (truthy v) (TP X zB σ Q) X.xe s
def tOp (r:R2) (ta tb:TE):TE:=fun σ H Q=>ta σ H fun x H1=>tb σ H1 fun y H2=>r x y H2 Q
def rI (C:Int -> Int -> Prop) (g:Int -> Int -> V):R2:=fun x y H Q=>∃ i j,x = .int i /\ y = .int j /\ C i j /\ Q (g i j) H
def rI0 (g:Int -> Int -> V):R2:=fun x y H Q=>∃ i j,x = .int i /\ y = .int j /\ Q (g i j) H
section
variable {X:Cx} {a b c:Expr} {ta tb tc:TE} {pos:Pos}
theorem zNJ (ha:PE X a ta) (hb:PE X b tb) {zB:List (Addr × Obj)} {s:Shared} {σ:St} {H:Hp} {R:V -> V -> Hp -> Prop} (I:Inv X zB σ H s)
  (h:ta σ H fun x H1=>tb σ H1 fun y H2=>R x y H2) {Q:Value -> Shared -> Prop} {f:Value -> Value -> Sem Value}
  (hf:∀ v u s2 x y H2,Inv X zB σ H2 s2 -> zf x v -> zf y u -> R x y H2 -> wpAny (model X.prog X.w) X.A (f v u) Q X.xe s2) :
  wpAny (model X.prog X.w) X.A (eval a X.env) (fun v s₁=>wpAny (model X.prog X.w) X.A (eval b X.env) (fun u s₂=>wpAny (model X.prog X.w) X.A (f v u) Q X.xe s₂) X.xe s₁) X.xe s:=by
 refine thn (ha zB s σ H _ I h) fun v s1 ⟨x,H1,I1,r1,q1⟩=>?_;refine thn (hb zB s1 σ H1 _ I1 q1) fun u s2 ⟨y,H2,I2,r2,q2⟩=>?_;exact hf v u s2 x y H2 I2 r1 r2 q2
theorem zPW {op:Operator} {r:R2} (ho:OpR X (binaryOp op) r) (ha:PE X a ta) (hb:PE X b tb):PE X (.BinOp a op b pos) (tOp r ta tb):=by
 intro zB s σ H Q I h;exact wpAny_BinOp (zNJ ha hb I h fun v u s2 x y H2 I2 rx ry q=>ho zB s2 σ H2 x y v u Q I2 rx ry q)
theorem opI {f:Value -> Value -> Sem Value} {C:Int -> Int -> Prop} {g:Int -> Int -> Int}
  (rule:∀ (i j:Int) (t u:Tok) (s:Shared) (Q:Value -> Shared -> Prop) (E:Value -> Shared -> Prop),C i j -> Q (.int (g i j) s.toks) { s with toks:=s.toks + 1 } -> wpAny (model X.prog X.w) X.A (f (.int i t) (.int j u)) Q E s) :
  OpR X f (rI C fun i j=> .int (g i j)):=by
 intro zB s σ H x y v u Q I rx ry h;obtain ⟨i,j,rfl,rfl,hc,q⟩:=h;obtain ⟨t,rfl⟩:=rx;obtain ⟨t',rfl⟩:=ry;exact rule i j t t' s _ _ hc ⟨.int (g i j),H,I.tok _,⟨_,rfl⟩,q⟩
theorem zOn {f:Value -> Value -> Sem Value} {g:Int -> Int -> Int}
  (rule:∀ (i j:Int) (t u:Tok) (s:Shared) (Q:Value -> Shared -> Prop) (E:Value -> Shared -> Prop),Q (.int (g i j) s.toks) { s with toks:=s.toks + 1 } -> wpAny (model X.prog X.w) X.A (f (.int i t) (.int j u)) Q E s) :
  OpR X f (rI0 fun i j=> .int (g i j)):=by
 intro zB s σ H x y v u Q I rx ry h;obtain ⟨i,j,rfl,rfl,q⟩:=h;obtain ⟨t,rfl⟩:=rx;obtain ⟨t',rfl⟩:=ry;exact rule i j t t' s _ _ ⟨.int (g i j),H,I.tok _,⟨_,rfl⟩,q⟩
theorem zLc {f:Value -> Value -> Sem Value} {g:Int -> Int -> Bool}
  (rule:∀ (i j:Int) (t u:Tok) (s:Shared) (Q:Value -> Shared -> Prop) (E:Value -> Shared -> Prop),Q (.bool (g i j)) s -> wpAny (model X.prog X.w) X.A (f (.int i t) (.int j u)) Q E s) :
  OpR X f (rI0 fun i j=> .bl (g i j)):=by
 intro zB s σ H x y v u Q I rx ry h;obtain ⟨i,j,rfl,rfl,q⟩:=h;obtain ⟨t,rfl⟩:=rx;obtain ⟨t',rfl⟩:=ry;exact rule i j t t' s _ _ ⟨.bl (g i j),H,I,rfl,q⟩
def zPo (i j:Int):Prop:=0 < j /\ j < 1073741824
def zPp (i j:Int):Prop:=0 <= j /\ j <= 1000000 /\ i.natAbs < 2 ^ 64
def zNW (i j:Int):Prop:=(-(2 ^ 64) < i /\ i < 2 ^ 64) \/ (-(2 ^ 64) < j /\ j < 2 ^ 64)
theorem zNW.ok {i j:Int} (h:zNW i j):IntMulOk i j:=by
 rcases h with ⟨h1,h2⟩ | ⟨h1,h2⟩
 ·exact .of_left (intBits_le_64 h1 h2)
 ·exact .of_right (intBits_le_64 h1 h2)
theorem zM2:OpR X (binaryOp .Add) (rI0 fun i j=> .int (i + j)):=zOn fun _ _ _ _ _ _ _ q=>add_int q
theorem zNE:OpR X (binaryOp .Sub) (rI0 fun i j=> .int (i - j)):=zOn fun _ _ _ _ _ _ _ q=>sub_int q
theorem zNe:OpR X (binaryOp .Mult) (rI zNW fun i j=> .int (i * j)):=opI fun _ _ _ _ _ _ _ hc q=>mul_int q hc.ok
theorem zMT:OpR X (binaryOp .FloorDiv) (rI zPo fun i j=> .int (i / j)):=opI fun i j _ _ _ _ _ hc q=>by
 have h1:(0:Int) < j:=hc.1;have h2:j < 1073741824:=hc.2;exact floordiv_int (by omega) (by rw [Int.fdiv_eq_ediv_of_nonneg i (by omega)]; exact q) (.inl (PyProof.noPylong_small (by omega)))
theorem zNp:OpR X (binaryOp .Mod) (rI (fun _ j=>0 < j) fun i j=> .int (i % j)):=opI fun i j _ _ _ _ _ hc q=>by
 have h1:(0:Int) < j:=hc;exact mod_int' (by omega) (by rw [Int.fmod_eq_emod_of_nonneg i (by omega)]; exact q)
theorem zNS:OpR X (binaryOp .Pow) (rI zPp fun i j=> .int (i ^ j.toNat)):=opI fun _ _ _ _ _ _ _ hc q=>pow_int_small hc.1 hc.2.1 hc.2.2 q
end
def zLi:V -> V -> Bool
 | .non,.non=>true | .non,.int _=>true | .int _,.non=>true | .non,.bl _=>true | .bl _,.non=>true | .non,.str _=>true | .str _,.non=>true
 | .int _,.int _=>true | .bl _,.bl _=>true | .str _,.str _=>true | .byt _,.byt _=>true
 | .int _,.str _=>true | .str _,.int _=>true | .bl _,.str _=>true | .str _,.bl _=>true
 | _,_=>false
def rEq:R2:=fun x y H Q=>zLi x y = true /\ Q (.bl (decide (x = y))) H
def rNe:R2:=fun x y H Q=>zLi x y = true /\ Q (.bl (!decide (x = y))) H
theorem zIH {i j:Int}:decide (V.int i = V.int j) = (i == j):=by
 rw [Bool.eq_iff_iff];simp
theorem zKn {i j:Bool}:decide (V.bl i = V.bl j) = (i == j):=by
 rw [Bool.eq_iff_iff];simp
theorem zIX {i j:Str}:decide (V.str i = V.str j) = (i == j):=by
 rw [Bool.eq_iff_iff];simp
theorem zIZ {i j:Array UInt8}:decide (V.byt i = V.byt j) = (i.toList == j.toList):=by
 rw [Bool.eq_iff_iff];cases i;cases j;simp
section
variable {X:Cx} {a b c:Expr} {ta tb tc:TE} {pos:Pos}
theorem zY {zB:List (Addr × Obj)} {σ:St} {H:Hp} {s:Shared} {Q:VK} {k k':Bool} (I:Inv X zB σ H s) (q:Q (.bl k) H) (e:k = k'):EP X zB σ Q (.bool k') s:=by
 subst e;exact ⟨.bl k,H,I,rfl,q⟩
theorem zMg:OpR X (compareOp .Eq) rEq:=by
 intro zB s σ H x y v u Q I rx ry h;obtain ⟨hs,q⟩:=h;cases x with
 | non=>
  cases rx;cases y with
  | non=>cases ry; exact PySem.EqNone.eq_none_none (zY I q (by simp))
  | bl j=>cases ry; exact PySem.EqNone.eq_none_bool (zY I q (by simp))
  | int j=>obtain ⟨t',rfl⟩:=ry; exact PySem.EqNone.eq_none_int (zY I q (by simp))
  | str j=>obtain ⟨t',rfl⟩:=ry; exact PySem.EqNone.eq_none_str (zY I q (by simp))
  | _=>exact absurd (show false = true from hs) zQb
 | bl i=>
  cases rx;cases y with
  | non=>cases ry; exact PySem.EqNone.eq_bool_none (zY I q (by simp))
  | bl j=>cases ry; exact eq_bool (zY I q zKn)
  | str j=>obtain ⟨t',rfl⟩:=ry; exact PySem.EqMixed.eq_bool_str (zY I q (by simp))
  | _=>exact absurd (show false = true from hs) zQb
 | int i=>
  obtain ⟨t,rfl⟩:=rx;cases y with
  | non=>cases ry; exact PySem.EqNone.eq_int_none (zY I q (by simp))
  | int j=>obtain ⟨t',rfl⟩:=ry; exact eq_int (zY I q zIH)
  | str j=>obtain ⟨t',rfl⟩:=ry; exact PySem.EqMixed.eq_int_str (zY I q (by simp))
  | _=>exact absurd (show false = true from hs) zQb
 | str i=>
  obtain ⟨t,rfl⟩:=rx;cases y with
  | non=>cases ry; exact PySem.EqNone.eq_str_none (zY I q (by simp))
  | bl j=>cases ry; exact PySem.EqMixed.eq_str_bool (zY I q (by simp))
  | int j=>obtain ⟨t',rfl⟩:=ry; exact PySem.EqMixed.eq_str_int (zY I q (by simp))
  | str j=>obtain ⟨t',rfl⟩:=ry; exact eq_str (zY I q zIX)
  | _=>exact absurd (show false = true from hs) zQb
 | byt i=>
  obtain ⟨t,rfl⟩:=rx;cases y with
  | byt j=>obtain ⟨t',rfl⟩:=ry; exact PySem.W.eq_bytes (zY I q zIZ)
  | _=>exact absurd (show false = true from hs) zQb
 | _=>cases y <;> exact absurd (show false = true from hs) zQb
theorem zPQ:OpR X (compareOp .NotEq) rNe:=by
 intro zB s σ H x y v u Q I rx ry h;obtain ⟨hs,q⟩:=h;cases x with
 | non=>
  cases rx;cases y with
  | non=>cases ry; exact PySem.EqNone.ne_none_none (zY I q (by simp))
  | bl j=>cases ry; exact PySem.EqNone.ne_none_bool (zY I q (by simp))
  | int j=>obtain ⟨t',rfl⟩:=ry; exact PySem.EqNone.ne_none_int (zY I q (by simp))
  | str j=>obtain ⟨t',rfl⟩:=ry; exact PySem.EqNone.ne_none_str (zY I q (by simp))
  | _=>exact absurd (show false = true from hs) zQb
 | bl i=>
  cases rx;cases y with
  | non=>cases ry; exact PySem.EqNone.ne_bool_none (zY I q (by simp))
  | bl j=>cases ry; exact ne_bool (zY I q (zR2 not zKn))
  | str j=>obtain ⟨t',rfl⟩:=ry; exact PySem.EqMixed.ne_bool_str (zY I q (by simp))
  | _=>exact absurd (show false = true from hs) zQb
 | int i=>
  obtain ⟨t,rfl⟩:=rx;cases y with
  | non=>cases ry; exact PySem.EqNone.ne_int_none (zY I q (by simp))
  | int j=>obtain ⟨t',rfl⟩:=ry; exact ne_int (zY I q (zR2 not zIH))
  | str j=>obtain ⟨t',rfl⟩:=ry; exact PySem.EqMixed.ne_int_str (zY I q (by simp))
  | _=>exact absurd (show false = true from hs) zQb
 | str i=>
  obtain ⟨t,rfl⟩:=rx;cases y with
  | non=>cases ry; exact PySem.EqNone.ne_str_none (zY I q (by simp))
  | bl j=>cases ry; exact PySem.EqMixed.ne_str_bool (zY I q (by simp))
  | int j=>obtain ⟨t',rfl⟩:=ry; exact PySem.EqMixed.ne_str_int (zY I q (by simp))
  | str j=>obtain ⟨t',rfl⟩:=ry; exact ne_str (zY I q (zR2 not zIX))
  | _=>exact absurd (show false = true from hs) zQb
 | byt i=>
  obtain ⟨t,rfl⟩:=rx;cases y with
  | byt j=>obtain ⟨t',rfl⟩:=ry; exact PySem.W.ne_bytes (zY I q (zR2 not zIZ))
  | _=>exact absurd (show false = true from hs) zQb
 | _=>cases y <;> exact absurd (show false = true from hs) zQb
theorem zPR:OpR X (compareOp .Lt) (rI0 fun i j=> .bl (decide (i < j))):=zLc fun _ _ _ _ _ _ _ q=>lt_int q
theorem zMk:OpR X (compareOp .LtE) (rI0 fun i j=> .bl (decide (i <= j))):=zLc fun _ _ _ _ _ _ _ q=>le_int q
theorem zOf:OpR X (compareOp .Gt) (rI0 fun i j=> .bl (decide (j < i))):=zLc fun _ _ _ _ _ _ _ q=>gt_int q
theorem zPl:OpR X (compareOp .GtE) (rI0 fun i j=> .bl (decide (j <= i))):=zLc fun _ _ _ _ _ _ _ q=>ge_int q
theorem OpR.or {f:Value -> Value -> Sem Value} {r r':R2} (h:OpR X f r) (h':OpR X f r'):OpR X f (fun x y H Q=>r x y H Q \/ r' x y H Q):=by
 intro zB s σ H x y v u Q I rx ry q;rcases q with q | q
 ·exact h zB s σ H x y v u Q I rx ry q
 ·exact h' zB s σ H x y v u Q I rx ry q
theorem zBs (b:Expr) {op:CmpOp} (h:op ≠ .In:=by decide) (h2:op ≠ .NotIn:=by decide):behindInMarks op b = false:=by
 have e1:(op == CmpOp.In) = false:=by cases op <;> first | rfl | exact absurd rfl h
 have e2:(op == CmpOp.NotIn) = false:=by cases op <;> first | rfl | exact absurd rfl h2
 cases b <;> simp [behindInMarks,e1,e2]
theorem zMN {op:CmpOp} {r:R2} (ho:OpR X (compareOp op) r) (ha:PE X a ta) (hb:PE X b tb) (hm:behindInMarks op b = false):PE X (.Compare a [op] [b] pos) (tOp r ta tb):=by
 intro zB s σ H Q I h;exact wpAny_Compare1 (zNJ ha hb I h fun v u s2 x y H2 I2 rx ry q=>ho zB s2 σ H2 x y v u Q I2 rx ry q) hm
def zGs (t:TE):TT:=fun σ H Q=>t σ H fun x H'=>∃ k,x = .bl k /\ Q k H'
theorem zLx {op:CmpOp} {r:R2} (ho:OpR X (compareOp op) r) (ha:PE X a ta) (hb:PE X b tb) (hm:behindInMarks op b = false):PT X (.Compare a [op] [b] pos) (zGs (tOp r ta tb)):=by
 intro zB s σ H Q I h;refine wpAny_isTrue_Compare1 (thn (ha zB s σ H _ I h) fun v s1 ⟨x,H1,I1,r1,q1⟩=>thn (hb zB s1 σ H1 _ I1 q1) fun u s2 ⟨y,H2,I2,r2,q2⟩=>
  thn (ho zB s2 σ H2 x y v u _ I2 r1 r2 q2) fun c s3 ⟨z,H3,I3,r3,k,e,q3⟩=>?_) hm
 subst e;cases r3;exact zRR ⟨H3,I3,q3⟩
def zHh (r r':R2) (ta tb tc:TE):TE:=fun σ H Q=>ta σ H fun x H1=>tb σ H1 fun y H2=>r x y H2 fun z H3=>∃ k,z = .bl k /\
 (if k = true then tc σ H3 fun w' H4=>r' y w' H4 Q else Q (.bl false) H3)
theorem zK2 {op op':CmpOp} {r r':R2} (ho:OpR X (compareOp op) r) (ho':OpR X (compareOp op') r') (ha:PE X a ta) (hb:PE X b tb) (hc:PE X c tc)
  (hm:lastMarks [op,op'] [b,c] = false:=by with_unfolding_all rfl):PE X (.Compare a [op,op'] [b,c] pos) (zHh r r' ta tb tc):=by
 intro zB s σ H Q I h;refine Compare_chain (thn (ha zB s σ H _ I h) fun v s1 ⟨x,H1,I1,r1,q1⟩=>chain_link (thn (hb zB s1 σ H1 _ I1 q1) fun u s2 ⟨y,H2,I2,r2,q2⟩=>
  thn (ho zB s2 σ H2 x y v u _ I2 r1 r2 q2) fun d s3 ⟨z,H3,I3,r3,k,e,q3⟩=>?_)) hm
 subst e;cases r3;refine zRR ?_;cases k with
 | false=>exact ite_ff ⟨.bl false,H3,I3,rfl,q3⟩
 | true=>exact ite_tt (chain_last (thn (hc zB s3 σ H3 _ I3 q3) fun w' s4 ⟨z',H4,I4,r4,q4⟩=>ho' zB s4 σ H4 y z' u w' Q I4 r2 r4 q4))
theorem zKz {op op':CmpOp} {r r':R2} (ho:OpR X (compareOp op) r) (ho':OpR X (compareOp op') r') (ha:PE X a ta) (hb:PE X b tb) (hc:PE X c tc)
  (hm:lastMarks [op,op'] [b,c] = false:=by with_unfolding_all rfl):PT X (.Compare a [op,op'] [b,c] pos) (zGs (zHh r r' ta tb tc)):=by
 intro zB s σ H Q I h;refine isTrue_chain (thn (ha zB s σ H _ I h) fun v s1 ⟨x,H1,I1,r1,q1⟩=>test_link (thn (hb zB s1 σ H1 _ I1 q1) fun u s2 ⟨y,H2,I2,r2,q2⟩=>
  thn (ho zB s2 σ H2 x y v u _ I2 r1 r2 q2) fun d s3 ⟨z,H3,I3,r3,k,e,q3⟩=>?_)) hm
 subst e;cases r3;refine zRR ?_;cases k with
 | false=>
  obtain ⟨k',e',q'⟩:=q3;cases e';exact ite_ff ⟨H3,I3,q'⟩
 | true=>
  refine ite_tt (test_last (thn (hc zB s3 σ H3 _ I3 q3) fun w' s4 ⟨z',H4,I4,r4,q4⟩=>thn (ho' zB s4 σ H4 y z' u w' _ I4 r2 r4 q4) fun d' s5 ⟨z2,H5,I5,r5,k2,e2,q5⟩=>?_));subst e2;cases r5;exact zRR ⟨H5,I5,q5⟩
def zPk (K:PySem.W.Frag) (x:V) (H:Hp) (k:Bool):Prop :=
 match x with
 | .non=>k = false
 | .bl b=>k = b
 | .int i=>k = (i != 0)
 | .str y=>y.length <= sizeLine /\ k = ((y.length:Int) != 0)
 | .byt y=>y.size <= sizeLine /\ k = ((y.size:Int) != 0)
 | .ref p=>(∃ xs,SqL K H p xs /\ k = !xs.isEmpty) \/ (∃ xs,SqT K H p xs /\ k = !xs.isEmpty) \/ ∃ kvs,H p = some (.dK kvs) /\ k = !kvs.isEmpty
 | _=>False
theorem zH9 {κ:Type} {kvs:List (κ × V)} {vs:List (κ × Value)} (r:KV kvs vs):(!vs.isEmpty) = !kvs.isEmpty:=by
 cases r <;> rfl
theorem zER {xs:List V} {its:List Value} (r:zW xs its):(!its.toArray.isEmpty) = !xs.isEmpty:=by
 cases r <;> simp
theorem zB4:(sizeLine:Nat) < 2 ^ 63:=by rw [sizeLine_eq]; decide
theorem zOV:zPn X (fun x H Q=>∃ k,zPk X.K x H k /\ Q k H):=by
 intro zB s σ H x v Q I rx h;obtain ⟨k,e,q⟩:=h;have hl:=zB4;have hs:sizeLine = 16777216:=sizeLine_eq;cases x with
 | non=>
  cases rx;have e':k = false:=e;subst e';exact truthy_none ⟨H,I,q⟩
 | bl b=>
  cases rx;have e':k = b:=e;subst e';exact zRR ⟨H,I,q⟩
 | int i=>
  obtain ⟨t,rfl⟩:=rx;have e':k = (i != 0):=e;subst e';exact PySem.P.truthy_int ⟨H,I,q⟩
 | str y=>
  obtain ⟨t,rfl⟩:=rx;obtain ⟨hy,e'⟩:y.length <= sizeLine /\ k = ((y.length:Int) != 0):=e;subst e';exact PySem.P.truthy_str (by omega) ⟨H,I.tok _,q⟩
 | byt y=>
  obtain ⟨t,rfl⟩:=rx;obtain ⟨hy,e'⟩:y.size <= sizeLine /\ k = ((y.size:Int) != 0):=e;subst e';exact PySem.W.truthy_bytes (by omega) ⟨H,I.tok _,q⟩
 | ref p=>
  cases rx;have e':(∃ xs,SqL X.K H p xs /\ k = !xs.isEmpty) \/ (∃ xs,SqT X.K H p xs /\ k = !xs.isEmpty) \/ ∃ kvs,H p = some (.dK kvs) /\ k = !kvs.isEmpty:=e;rcases e' with ⟨xs,hx,e'⟩ | ⟨xs,hx,e'⟩ | ⟨kvs,hx,e'⟩
  ·subst e';obtain ⟨its,r,pl,hz⟩:=I.list hx;have hlen:=r.length;exact wpAny_truthy_list pl.isList (by simp only [zQN]; omega) ⟨H,I.tok _,by rw [zER r]; exact q⟩
  ·subst e';obtain ⟨its,r,pl,hz⟩:=I.tuple hx;have hlen:=r.length;exact truthy_tuple pl (by simp only [zQN]; omega) ⟨H,I.tok _,by rw [zER r]; exact q⟩
  ·subst e';obtain ⟨hz,hS,vs,r,m⟩:kvs.length <= sizeLine /\ (p == sysModules) = false /\ ∃ vs,KV kvs vs /\ s.heap.DictOf (zw X.prog X.w) p vs:=I.hok p _ hx;have hlen:kvs.length = vs.length:=Paired.length r;exact wpAny_truthy_dict hS m (by omega) ⟨H,I.tok _,by rw [zH9 r]; exact q⟩
 | _=>exact (show False from e).elim
theorem zGY (ha:PE X a ta) (he:∀ whole,isTrue a X.env whole = (do let v <- whole; standAt a.pos; holding [v] (truthy v))) :
  PT X a (fun σ H Q=>ta σ H fun x H'=>∃ k,zPk X.K x H' k /\ Q k H'):=by
 intro zB s σ H Q I h;exact isTrue_plain (thn (ha zB s σ H _ I h) fun v s1 ⟨x,H1,I1,r1,q1⟩=>zOV zB s1 σ H1 x v Q I1 r1 q1) (he _)
theorem zHq:OpR X (binaryOp .Add) (fun x y H Q=>∃ i j,x = .str i /\ y = .str j /\ i.length + j.length <= sizeLine /\ Q (.str (i ++ j)) H):=by
 intro zB s σ H x y v u Q I rx ry h;obtain ⟨i,j,rfl,rfl,hz,q⟩:=h;obtain ⟨t,rfl⟩:=rx;obtain ⟨t',rfl⟩:=ry;exact add_str (fun t' tk=>⟨.str (i ++ j),H,I.tok _,⟨_,rfl⟩,q⟩) hz
theorem zCy {x:V} {us:List Value} (r:zW [x] us):∃ u,us = [u] /\ zf x u:=by
 cases r with
 | cons r1 r2=>cases r2; exact ⟨_,rfl,r1⟩
theorem zKh:zBj X (.builtin "abs") (fun xs H Q=>∃ i,xs = [.int i] /\ Q (.int (if i < 0 then -i else i)) H):=by
 intro zB s σ H xs us Q I r h;obtain ⟨i,rfl,q⟩:=h;obtain ⟨u,rfl,t,rfl⟩:=zCy r;exact call_abs_int fun u tk=>⟨.int (if i < 0 then -i else i),H,I.tok _,⟨_,rfl⟩,q⟩
theorem zI4:zBj X (.type "int") (fun xs H Q=>(∃ i,xs = [.int i] /\ Q (.int i) H) \/ ∃ k,xs = [.bl k] /\ Q (.int (if k then 1 else 0)) H):=by
 intro zB s σ H xs us Q I r h;rcases h with ⟨i,rfl,q⟩ | ⟨k,rfl,q⟩
 ·obtain ⟨u,rfl,t,rfl⟩:=zCy r;exact call_int_int ⟨.int i,H,I,⟨_,rfl⟩,q⟩
 ·obtain ⟨u,rfl,r1⟩:=zCy r;cases r1;exact call_int_bool ⟨.int (if k then 1 else 0),H,I.tok _,⟨_,rfl⟩,q⟩
end
structure ObjM (h:Heap) (x dx C:Addr) (mA:Str -> Option Value):Prop where
 obj:h.get? x = some (PySem.W.instObj C dx)
 ns:h.Ns1 dx mA
 ne:dx ≠ x
theorem zIv {h:Heap} {dx:Addr} {mA:Str -> Option Value} (n:h.Ns1 dx mA):∃ od,h.get? dx = some od /\ ∀ name,PySem.W.lookIn name od = some (mA name):=by
 obtain ⟨o,es,ep,ho,hd,hk,_,hm⟩:=n;refine ⟨o,ho,fun name=>?_⟩;have e:=hm name;unfold nsFind findBy at e;rw [<- Array.find?_toList] at e;unfold PySem.W.lookIn;rw [hd];dsimp only;split
 ·rename_i y q;rw [q] at e;exact zR2 some e
 ·rename_i q;rw [q] at e;have a:es.toList.any (·.refKey) = false:=by
   rw [List.any_eq_false];intro y hy;obtain ⟨z,t,hkey⟩:=hk y (Array.mem_toList_iff.mp hy);simp [DictEntry.refKey,hkey]
  have a':¬ es.toList.any (·.refKey) = true:=by rw [a]; exact zQb
  rw [zQX a'];exact zR2 some e
theorem ObjM.look {h:Heap} {x dx C:Addr} {mA:Str -> Option Value} (I:ObjM h x dx C mA):∃ od,PySem.W.InstAt h x (PySem.W.instObj C dx) C (some od) /\ ∀ name,PySem.W.lookIn name od = some (mA name) :=
 let ⟨od,ho,hl⟩:=zIv I.ns
 ⟨od,⟨I.obj,rfl,rfl,ho⟩,hl⟩
theorem zEa.some_of {v:V} {o:Option Value} (r:zEa (some v) o):∃ u,o = some u /\ zf v u:=by
 cases o with
 | none=>exact (show False from r).elim
 | some u=>exact ⟨u,rfl,r⟩
section
variable {P:Program} {w:World} {H H':Hp} {h h':Heap} {a C dx:Addr} {fs fs':List (Str × V)}
theorem zML (hok:HOk P w H h) (e:H a = some (.ins C dx fs)):∃ mA,ObjM h a dx C mA /\ (∀ f,zEa (fs.lookup f) (mA f)) /\ PySem.Within mA (fs.map (·.1)) /\ fs.length <= 1000 /\ H dx = some (.own a):=by
 obtain ⟨d,z,ne,ob,mA,n,r,q⟩:=(show zr P w H h a (.ins C dx fs) from hok a _ e);exact ⟨mA,⟨ob,n,ne⟩,r,q,z,d⟩
end
structure Cls (K:PySem.W.Frag) (C:Addr):Prop where
 pg:PySem.W.plainGet K C Str.empty = true
 hd:PySem.W.hasDictIn K C = true
 po:PySem.W.plainOver K C = true
 sa:PySem.W.findIn K (.ref C) "__setattr__" = some (some (.builtin "object.__setattr__"))
theorem Cls.get {K:PySem.W.Frag} {C:Addr} (c:Cls K C) (f:Str):PySem.W.plainGet K C f = true:=c.pg
section
variable {X:Cx} {zB:List (Addr × Obj)} {σ:St} {H:Hp} {s:Shared} {A:Around} {E:Value -> Shared -> Prop} {Q:Value -> Shared -> Prop} {c:Value} {b:Bool}
set_option genInjectivity true in
inductive TyOf (K:PySem.W.Frag) (H:Hp):V -> Value -> Prop where
 | non:TyOf K H .non (.type "NoneType")
 | bl (x:Bool):TyOf K H (.bl x) (.type "bool")
 | int (i:Int):TyOf K H (.int i) (.type "int")
 | str (x:Str):TyOf K H (.str x) (.type "str")
 | flt (x:UInt64):TyOf K H (.flt x) (.type "float")
 | lst {a:Addr} {xs:List V} (e:H a = some (.lst xs)):TyOf K H (.ref a) (.type "list")
 | frz {a:Addr} {o:Obj} {xs:List V} (e:H a = some (.frz o (.lst xs))):TyOf K H (.ref a) (.type "list")
 | tup {a:Addr} {xs:List V} (e:H a = some (.tup xs)):TyOf K H (.ref a) (.type "tuple")
 | dK {a:Addr} {kvs:List (Key × V)} (e:H a = some (.dK kvs)):TyOf K H (.ref a) (.type "dict")
 | dT {a:Addr} {kvs:List (List Key × V)} (e:H a = some (.dT kvs)):TyOf K H (.ref a) (.type "dict")
 | ins {a C dx:Addr} {fs:List (Str × V)} (e:H a = some (.ins C dx fs)) (cl:Cls K C) (ha:PySem.W.findIn K (.ref C) "__class__" = some (some (.builtin "object.__class__")))
   (hn:PySem.W.specialIn K (.builtin "object.__class__") "__get__" = some (some (.builtin "getset_descriptor.__get__"))) (htk:PySem.W.takesIn K (.builtin "object.__class__") = some true)
   (hm:PySem.W.mroIn K C (.type "object") = some true):TyOf K H (.ref a) (.ref C)
theorem zJN {x:V} {u t:Value} (I:Inv X zB σ H s) (rx:zf x u) (ty:TyOf X.K H x t) (e:PySem.W.kitOne X.K t c = some b) (h:∀ tk,Q (.bool b) { s with toks:=tk }) :
  wpAny (model X.prog X.w) A (call (.builtin "isinstance") [u,c]) Q E s:=by
 cases ty with
 | non=>cases (show u = Value.none from rx); exact zRs PySem.W.kitx_none I.kIn True.intro e (fun z=>nomatch z) h
 | bl y=>cases (show u = Value.bool y from rx); exact zRs PySem.W.kitx_bool I.kIn True.intro e (fun z=>nomatch z) h
 | int i=>obtain ⟨t,q⟩:=(show ∃ t,u = Value.int i t from rx); cases q; exact zRs PySem.W.kitx_int I.kIn True.intro e (fun z=>nomatch z) h
 | str y=>obtain ⟨t,q⟩:=(show ∃ t,u = Value.str y t from rx); cases q; exact zRs PySem.W.kitx_str I.kIn True.intro e (fun z=>nomatch z) h
 | flt y=>obtain ⟨t,q⟩:=(show ∃ t,u = Value.float y t from rx); cases q; exact zRs PySem.W.kitx_float I.kIn True.intro e (fun z=>nomatch z) h
 | @lst a xs ea=>
  cases (show u = Value.ref a from rx);obtain ⟨_,_,n,_,h1⟩:=(show zr X.prog X.w H s.heap a (.lst xs) from I.hok a _ ea);exact zRs PySem.W.kitx_list I.kIn ⟨_,h1,rfl⟩ e (fun z=>nomatch z) h
 | @frz a ob xs ea=>
  cases (show u = Value.ref a from rx);obtain ⟨_,_,_,n,_,h1⟩:=(show zr X.prog X.w H s.heap a (.frz ob (.lst xs)) from I.hok a _ ea);exact zRs PySem.W.kitx_list I.kIn ⟨_,h1,rfl⟩ e (fun z=>nomatch z) h
 | @tup a xs ea=>
  cases (show u = Value.ref a from rx);obtain ⟨_,_,_,p⟩:=(show zr X.prog X.w H s.heap a (.tup xs) from I.hok a _ ea);obtain ⟨o,h1,h2,_⟩:=p;exact zRs PySem.W.kitx_tuple I.kIn ⟨o,h1,h2⟩ e (fun z=>nomatch z) h
 | @dK a kvs ea=>
  cases (show u = Value.ref a from rx);obtain ⟨_,_,vs,_,p⟩:=(show zr X.prog X.w H s.heap a (.dK kvs) from I.hok a _ ea);obtain ⟨o,es,ep,h1,h2,_⟩:=p;exact zRs PySem.W.kitx_dict I.kIn ⟨o,h1,h2.1⟩ e (fun z=>nomatch z) h
 | @dT a kvs ea=>
  cases (show u = Value.ref a from rx);obtain ⟨_,_,xs,_,o,es,ep,h1,h2,_⟩:=(show zr X.prog X.w H s.heap a (.dT kvs) from I.hok a _ ea);exact zRs PySem.W.kitx_dict I.kIn ⟨o,h1,h2.1⟩ e (fun z=>nomatch z) h
 | @ins a C dx fs ea cl ha hn htk hm=>
  cases (show u = Value.ref a from rx);obtain ⟨mA,O,_⟩:=zML I.hok ea;obtain ⟨od,J,_⟩:=O.look;exact zRs (PySem.W.kitx_own (cl.get _) cl.hd ha hn htk hm) I.kIn J e (fun z=>nomatch z) h
end
structure Room (k:Nat) (A:Around):Prop where
 hd:A.handled = none
 dp:A.depth + 3 * k + 5 < recursionLimit
 un:A.units + 16 * k + 200 < cLine
theorem Room.mono {j k:Nat} {A:Around} (r:Room k A) (h:j <= k):Room j A:=⟨r.hd,by have:=r.dp; omega,by have:=r.un; omega⟩
theorem Room.deeper {k:Nat} {A:Around} (r:Room (k + 1) A) (env:Env):Room k (A.deeper env) :=
 ⟨r.hd,by have:=r.dp; show A.depth + 1 + 3 * k + 5 < _; omega,by have:=r.un; show A.units + 3 + 16 * k + 200 < _; omega⟩
theorem Room.depth {k:Nat} {A:Around} (r:Room k A):A.depth < recursionLimit:=by have:=r.dp; omega
theorem Room.units {k:Nat} {A:Around} (r:Room k A):A.units + 64 < cLine:=by have:=r.un; omega
theorem Room.units0 {k:Nat} {A:Around} (r:Room k A):A.units < cLine:=by have:=r.un; omega
def zQB:TA:=fun _ H Q=>Q [] H
def zPL (ta:TE) (tr:TA):TA:=fun σ H Q=>ta σ H fun x H1=>tr σ H1 fun xs H2=>Q (x :: xs) H2
section
variable {X:Cx} {e:Expr} {es:List Expr} {te:TE} {t:TA} {pos:Pos}
theorem zHn:PA X [] zQB:=fun _ _ _ _ H Q I h=>Calls.spliced_nil ⟨[],H,I,.nil,h⟩
theorem zD1 (ha:PE X e te) (hr:PA X es t) (hs:starEach (e :: es) X.env = (false,eval e X.env) :: starEach es X.env:=by rfl):PA X (e :: es) (zPL te t):=by
 intro pos zB s σ H Q I h;rw [hs];show wpAny _ _ (spliced ((false,eval e X.env) :: backTo pos (starEach es X.env))) _ _ s;refine Calls.spliced_cons (thn (ha zB s σ H _ I h) fun u s1 ⟨x,H1,I1,r1,q1⟩=>?_);exact thn (hr pos zB s1 σ H1 _ I1 q1) fun us s2 ⟨xs,H2,I2,r2,q2⟩=>⟨x :: xs,H2,I2,.cons r1 r2,q2⟩
def zP4 (t:TA):TE:=fun σ H Q=>t σ H fun xs H1=>xs.length <= sizeLine /\ ∀ p,H1 p = none -> Q (.ref p) (upd H1 p (.tup xs))
def zPq (t:TA):TE:=fun σ H Q=>t σ H fun xs H1=>xs.length <= sizeLine /\ ∀ p,H1 p = none -> Q (.ref p) (upd H1 p (.lst xs))
theorem zNL {x1} (h:PA X es t):PE X (.Tuple es x1 pos) (zP4 t):=by
 intro zB s σ H Q I hq;refine wpAny_Tuple_spliced (thn (h pos zB s σ H _ I hq) fun us s1 ⟨xs,H1,I1,r,z,q⟩=>⟨by rw [<- r.length]; exact z,?_⟩);have hf:H1 s1.heap.objs.size = none:=I1.hok.fresh (zQL _);refine ⟨.ref s1.heap.objs.size,upd H1 s1.heap.objs.size (.tup xs),I1.laid (t':=s1.toks) (fun b u e=>zQG _ e) (zQL _) ?_,rfl,q _ hf⟩;exact ⟨z,us,r,⟨_,zQP _ rfl,rfl,⟨_,rfl⟩,rfl⟩⟩
theorem zNj (h:PA X es t):PE X (.List es pos) (zPq t):=by
 intro zB s σ H Q I hq;refine wpAny_List_spliced (thn (h pos zB s σ H _ I hq) fun us s1 ⟨xs,H1,I1,r,z,q⟩=>⟨by rw [<- r.length]; exact z,?_⟩);have hf:H1 s1.heap.objs.size = none:=I1.hok.fresh (zQL _);refine ⟨.ref s1.heap.objs.size,upd H1 s1.heap.objs.size (.lst xs),I1.laid (t':=s1.toks) (fun b u e=>zQG _ e) (zQL _) ?_,rfl,q _ hf⟩;exact ⟨z,us,0,r,zQP _ rfl⟩
end
abbrev Sp:=List V -> Hp -> VK -> XK -> Prop
abbrev CXT:=List Env -> Hp -> Shared -> XK -> Value -> Shared -> Prop
structure Env0 (P:Program) (w:World) (K:PySem.W.Frag) (mg:Str -> Option Value) (base:Heap) (A:Around) (outer:List Env) (s:Shared) (H:Hp):Prop where
 frames:A.frames = some outer
 mod:Mod K mg base
 bs:∀ b o,base.get? b = some o -> s.heap.get? b = some o /\ H b = none
 bsz:base.objs.size <= s.heap.objs.size
 funs:s.heap.FunFrames base outer
 frf:∀ b ∈ frs outer,H b = none
 hok:HOk P w H s.heap
 bare:AllBare s.gens
def CE (outer:List Env) (P:Program) (w:World) (H:Hp) (s:Shared) (Q:VK) (u:Value) (s':Shared):Prop :=
 ∃ v H',s'.os = s.os /\ AllBare s'.gens /\ Un (frs outer) [] H H' s.heap s'.heap /\ HOk P w H' s'.heap /\ zf v u /\ Q v H'
def CR (CX:CXT) (outer:List Env) (P:Program) (w:World) (H:Hp) (s:Shared) (Q:VK) (E:XK) (r:Result) (s':Shared):Prop :=
 match r with
 | .ok (.ret u)=>CE outer P w H s Q u s'
 | .ok _=>False
 | .error e=>CX outer H s E e s'
structure FnOk (P:Program) (w:World) (K:PySem.W.Frag) (mg:Str -> Option Value) (base:Heap) (CX:CXT) (k:Nat) (f:Addr) (fd:FuncData) (ps:List Str) (sp:Sp):Prop where
 len:∀ vs H Q E,sp vs H Q E -> vs.length = ps.length
 run:∀ (A:Around) (outer:List Env) (s:Shared) (H:Hp) (args:Args) (us:List Value) (vs:List V) (Q:VK) (E:XK),Room k A -> Env0 P w K mg base A outer s H -> BindsTo s fd args (ps.zip us) -> zW vs us -> sp vs H Q E ->
  codeAny (model P w) A (.call (.ref f) args) (CR CX outer P w H s Q E) s
theorem FnOk.imp {P:Program} {w:World} {K:PySem.W.Frag} {mg:Str -> Option Value} {base:Heap} {CX:CXT} {k:Nat} {f:Addr} {fd:FuncData} {ps:List Str} {sp sp':Sp} (F:FnOk P w K mg base CX k f fd ps sp)
  (h:∀ vs H Q E,sp' vs H Q E -> sp vs H Q E):FnOk P w K mg base CX k f fd ps sp' :=
 ⟨fun vs H Q E q=>F.len vs H Q E (h _ _ _ _ q),fun A outer s H args us vs Q E hr he hb hv hs=>F.run A outer s H args us vs Q E hr he hb hv (h _ _ _ _ hs)⟩
section
variable {X:Cx} {zB:List (Addr × Obj)} {σ:St} {H:Hp} {s s':Shared}
theorem Inv.env0 (I:Inv X zB σ H s):Env0 X.prog X.w X.K X.mg X.base X.A X.stack s H :=
 ⟨I.ok.frames,I.ok.mod,I.bs,zQg I.ok.bsz I.sz,I.stack,I.stkFree,I.hok,I.bare⟩
theorem Inv.after {Q:VK} {u:Value} (I:Inv X zB σ H s) (h:CE X.stack X.prog X.w H s Q u s'):EP X zB σ Q u s':=by
 obtain ⟨v,H',os,bare,un,hok,r,q⟩:=h;obtain ⟨hh,g,d,t,os'⟩:=s';obtain rfl:os' = s.os:=os;exact ⟨v,H',I.call (h':=hh) (g':=g) (d':=d) (t':=t) (ch:=[]) un hok bare (fun b z=>absurd z (by simp)),r,q⟩
end
def zPN (sp:Sp) (dvs:List V) (E:XK) (t:TA):TE:=fun σ H Q=>t σ H fun vs H1=>sp (vs ++ dvs) H1 Q E
def zEb (K:PySem.W.Frag) (fd:FuncData) (ps:List Str) (ds:List Value):Prop :=
 ∀ (s:Shared) (us:List Value),K.In s.heap -> (us ++ ds).length = ps.length -> BindsTo s fd ⟨us,[]⟩ (ps.zip (us ++ ds))
theorem zEb.all {K:PySem.W.Frag} {fd:FuncData} {ps:List Str} (h:∀ us:List Value,us.length = ps.length -> bindArgs fd ⟨us,[]⟩ = pure (ps.zip us)):zEb K fd ps []:=fun s us _ hl=>by
 rw [zQz] at hl ⊢;exact .of_eq (h us hl)
def zHi (CX:CXT) (X:Cx) (E:XK):Prop:=∀ (zB:List (Addr × Obj)) (σ:St) (H:Hp) (s:Shared) (e:Value) (s':Shared),Inv X zB σ H s -> CX X.stack H s E e s' -> X.xe e s'
section
variable {X:Cx} {CX:CXT} {k:Nat} {f C:Addr} {fd:FuncData} {ps:List Str} {sp:Sp} {dvs:List V} {ds:List Value} {E:XK} {x m:Str} {p pos apos:Pos} {e o:Expr} {es:List Expr} {ta:TE} {t:TA}
theorem zN3 {zB:List (Addr × Obj)} {σ:St} {H:Hp} {s:Shared} {Q:VK} {us:List Value} {vs:List V} (F:FnOk X.prog X.w X.K X.mg X.base CX k f fd ps sp) (hr:Room k X.A) (hb:zEb X.K fd ps ds) (hd:zW dvs ds) (hx:zHi CX X E)
  (I:Inv X zB σ H s) (r:zW vs us) (h:sp (vs ++ dvs) H Q E):wpAny (model X.prog X.w) X.A (call (.ref f) us) (EP X zB σ Q) X.xe s:=by
 have r2:zW (vs ++ dvs) (us ++ ds):=r.append hd;have hl:(us ++ ds).length = ps.length:=by rw [<- r2.length]; exact F.len _ _ _ _ h
 refine wpAny_call (codeAny_mono (F.run X.A X.stack s H ⟨us,[]⟩ (us ++ ds) (vs ++ dvs) Q E hr I.env0 (hb s us I.kIn hl) r2 h) fun r s' hq=>?_);cases r with
 | error e=>exact hx zB σ H s e s' I hq
 | ok fl=>
  cases fl with
  | ret u=>exact I.after hq
  | next=>exact False.elim hq
  | brk=>exact False.elim hq
  | cont=>exact False.elim hq
theorem zMA (F:FnOk X.prog X.w X.K X.mg X.base CX k f fd ps sp) (hr:Room k X.A) (hg:Gl X x) (hm:X.mg x = some (.ref f)) (hk:PySem.W.keepIn X.K (.ref f) = true) (hb:zEb X.K fd ps ds) (hd:zW dvs ds) (hx:zHi CX X E)
  (ha:PA X (e :: es) t) (hdb:(x == ("__debug__" : Str)) = false:=by decide) (he:starEach (e :: es) X.env = (false,eval e X.env) :: starEach es X.env:=by rfl) (hpl:(backTo pos (starEach es X.env)).any (·.1) = false:=by rfl) :
  PE X (.Call (.Name x p) (e :: es) [] pos) (zPN sp dvs E t):=by
 intro zB s σ H Q I h;refine wpAny_Call_Name_kw (zIl I hg hm ?_ hdb);refine PySem.W.callWith_K (h₀:=X.base) I.ok.mod.kin hk (thn (ha pos zB s σ H _ I h) fun us s1 ⟨vs,H1,I1,r,q⟩=>⟨I1.kIn,?_⟩) he hpl;exact zN3 F hr hb hd hx I1 r q
end
structure FnScope (N P:List Str) (sc:Scope):Prop where
 kind:sc.kind = .function
 co:sc.isCoroutine = false
 gen:sc.isGenerator = false
 nd:N.Nodup
 pre:N.take P.length = P
 par:∀ x ∈ P,sc.names.lookup x = some .local \/ sc.names.lookup x = some .cell
 nofree:∀ y ∈ sc.names,y.2 ≠ .free
theorem zFL {kindOf:Str -> Option NameKind} {x:Str}:∀ {binds:List (Str × Value)} {m:Str -> Option Value},(∀ v,(x,v) ∉ binds) -> bindL kindOf binds m x = m x
 | [],_,_=>rfl
 | (n,v) :: r,m,h=>by
  unfold bindL;rw [zFL fun w hw=>h w (zQS _ hw)];split
  ·have:x ≠ n:=by rintro rfl; exact h v zQT
   simp [this]
  ·rfl
theorem zE3 {kindOf:Str -> Option NameKind} {x:Str}:∀ {binds:List (Str × Value)} {m:Str -> Option Value},(∀ v,(x,v) ∉ binds) -> bindC kindOf binds m x = m x
 | [],_,_=>rfl
 | (n,v) :: r,m,h=>by
  unfold bindC;rw [zE3 fun w hw=>h w (zQS _ hw)];split
  ·rfl
  ·have:x ≠ n:=by rintro rfl; exact h v zQT
   simp [this]
theorem zFH {kindOf:Str -> Option NameKind} {x:Str} {v:Value}:∀ {P:List Str} {vs:List Value} {i:Nat} {m:Str -> Option Value},P.Nodup -> P[i]? = some x -> vs[i]? = some v -> kindOf x = some .local ->
  bindL kindOf (P.zip vs) m x = some v
 | [],_,_,_,_,h,_,_=>by simp at h
 | _ :: _,[],_,_,_,_,h,_=>by simp at h
 | p :: P,w :: vs,0,m,nd,h1,h2,hk=>by
  simp at h1 h2; subst h1; subst h2;show bindL kindOf ((p,w) :: P.zip vs) m p = _;unfold bindL;rw [zFL fun v hv=>(List.nodup_cons.mp nd).1 (List.of_mem_zip hv).1,zQU hk];simp
 | p :: P,w :: vs,i + 1,m,nd,h1,h2,hk=>by
  show bindL kindOf ((p,w) :: P.zip vs) m x = _;unfold bindL;exact zFH (i:=i) (List.nodup_cons.mp nd).2 (by simpa using h1) (by simpa using h2) hk
theorem zFF {kindOf:Str -> Option NameKind} {x:Str} {v:Value}:∀ {P:List Str} {vs:List Value} {i:Nat} {m:Str -> Option Value},P.Nodup -> P[i]? = some x -> vs[i]? = some v -> kindOf x ≠ some .local ->
  bindC kindOf (P.zip vs) m x = some v
 | [],_,_,_,_,h,_,_=>by simp at h
 | _ :: _,[],_,_,_,_,h,_=>by simp at h
 | p :: P,w :: vs,0,m,nd,h1,h2,hk=>by
  simp at h1 h2; subst h1; subst h2;show bindC kindOf ((p,w) :: P.zip vs) m p = _;unfold bindC;rw [zE3 fun v hv=>(List.nodup_cons.mp nd).1 (List.of_mem_zip hv).1,zQX hk];simp
 | p :: P,w :: vs,i + 1,m,nd,h1,h2,hk=>by
  show bindC kindOf ((p,w) :: P.zip vs) m x = _;unfold bindC;exact zFF (i:=i) (List.nodup_cons.mp nd).2 (by simpa using h1) (by simpa using h2) hk
def zCd (N:List Str) (vs:List V):St:=vs.map some ++ List.replicate (N.length - vs.length) none
def zH0 (CX:CXT) (P:Program) (w:World) (K:PySem.W.Frag) (mg:Str -> Option Value) (base:Heap) (N:List Str) (qual:Str) (scope:Scope) (f:Addr) (cd:Value) (A:Around) (outer:List Env) (s:Shared) (H:Hp) (E:XK):Cx where
 prog:=P
 w:=w
 K:=K
 mg:=mg
 base:=base
 A:=A.deeper (envOfC qual scope s.heap.objs.size f cd)
 N:=N
 s₀:=s
 H₀:=H
 env:=envOfC qual scope s.heap.objs.size f cd
 outer:=outer
 stack:=envOfC qual scope s.heap.objs.size f cd :: outer
 ex:=[]
 calm:=true
 fn:=fun _=>true
 pn:=[]
 xe:=fun e s'=>wpAny (model P w) (A.deeper (envOfC qual scope s.heap.objs.size f cd)) (leaving (envOfC qual scope s.heap.objs.size f cd) e) (fun _ s''=>CX outer H s E e s'') (fun e' s''=>CX outer H s E e' s'') s'
theorem zEO {sc:Scope} {n:Nat} {x:Str} (h:sc.names.lookup x = some .cell):∃ c,(cellsFrom n sc.names []).lookup x = some c:=by
 have q:=PySem.W.cellsFrom_some sc.names n [] (.inl h);exact Option.isSome_iff_exists.mp q
theorem zJW {CX:CXT} {P:Program} {w:World} {K:PySem.W.Frag} {mg:Str -> Option Value} {base:Heap} {N ps:List Str} {qual:Str} {scope:Scope} {f:Addr} {cd:Value} {A:Around} {outer:List Env} {s s1:Shared} {H:Hp} {E:XK} {us:List Value} {vs:List V}
  (S:FnScope N ps scope) (hd:A.handled = none) (e0:Env0 P w K mg base A outer s H) (hl:vs.length = ps.length) (r:zW vs us)
  (x:InCallC s s.heap.objs.size (bindL (envOfC qual scope s.heap.objs.size f cd).kindOf (ps.zip us) fun _=>none) (cellsFrom (s.heap.objs.size + 1) scope.names []) (bindC (envOfC qual scope s.heap.objs.size f cd).kindOf (ps.zip us) fun _=>none) s1) :
  Inv (zH0 CX P w K mg base N qual scope f cd A outer s H E) [] (zCd N vs) H s1:=by
 have hpl:ps.length <= N.length:=by have:=zR2 List.length S.pre; rw [zRd] at this; omega
 obtain ⟨h1,tk,rfl,hk⟩:=x.done;have noA:∀ b:Addr,b ∉ (zH0 CX P w K mg base N qual scope f cd A outer s H E).ex:=fun b z=>absurd (show b ∈ ([]:List Addr) from z) (by simp)
 refine ⟨⟨e0.mod,S.kind,rfl,rfl,zQL _,fun y z c h1 h2=>?_,fun y hy=>?_,fun y c _ h=>?_,fun _=>hd,Around.frames_deeper e0.frames,.inr ⟨rfl,rfl⟩,fun b z=>absurd z (noA b),e0.bs,e0.bsz,fun b _ _=>noA b,fun b z=>absurd z (noA b),e0.funs,e0.frf⟩,
  rfl,e0.bare,Un.kept hk,⟨_,x.toInCall.ns,fun i y v h1 h2 h3=>?_⟩,fun y c h=>⟨_,x.cell y c h⟩,e0.hok.fresh (zQL _),fun y c h=>?_,fun p hp=>absurd (show p ∈ ([]:List (Addr × Obj)) from hp) (by simp),e0.hok.kept hk,?_⟩
 ·exact name_of_addr x.apart (zRH h1) (zRH h2)
 ·have hy:scope.names.lookup y = some .cell \/ scope.names.lookup y = some .free:=hy;rcases hy with hy | hy
  ·exact zEO hy
  ·exact absurd rfl (S.nofree _ (zRH hy))
 ·exact Nat.le_of_lt (x.above y c (zRH h))
 ·have hi:i < vs.length:=by
   unfold zCd at h2;by_cases hi:i < vs.length
   ·exact hi
   ·rw [zRP (by simpa using hi)] at h2;rw [List.getElem?_replicate] at h2;split at h2 <;> cases h2
  have ha:vs[i]? = some v:=by
   unfold zCd at h2;rw [zQM (by simpa using hi),zQc] at h2;cases e:vs[i]? with
   | none=>rw [e] at h2; cases h2
   | some a=>rw [e] at h2; cases h2; rfl
  obtain ⟨u,hu,rv⟩:=r.get ha;have hp:ps[i]? = some y:=by
   rw [<- S.pre,List.getElem?_take_of_lt (by omega)]; exact h1
  have ndP:ps.Nodup:=by rw [<- S.pre]; exact S.nd.sublist (List.take_sublist _ _)
  refine ⟨u,rv,?_⟩;rcases S.par y (zQ6 hp) with k | k
  ·exact .inl ⟨k,zFH ndP hp hu k⟩
  ·obtain ⟨c,e⟩:=zEO (n:=s.heap.objs.size + 1) k;refine .inr ⟨.inl k,c,e,?_⟩;have q:=x.cell y c e;rw [zFF ndP hp hu (by show scope.names.lookup y ≠ _; rw [k]; decide)] at q;exact q
 ·exact e0.hok.fresh (Nat.le_of_lt (x.above y c (zRH h)))
 ·unfold zCd;show _ = N.length;rw [zQV,zQO,List.length_replicate];omega
theorem zO6 {CX:CXT} {P:Program} {w:World} {K:PySem.W.Frag} {mg:Str -> Option Value} {base:Heap} {k:Nat} {f:Addr} {name qual:Str} {params:Arguments} {body:List Stmt} {scope:Scope} {dV kV doc pm cdv ct oc:Value} {an od:Option Addr}
  {osl:Array (Option Value)} {N ps:List Str} {sp:Sp} (lk:K.lookup f = some ⟨oc,od,.func (PySem.W.fnOf name qual params body scope dV kV doc pm an cdv ct),osl⟩) (hcd:PySem.W.codeIn K cdv qual = true) (S:FnScope N ps scope)
  (len:∀ vs H Q E,sp vs H Q E -> vs.length = ps.length)
  (hbody:∀ (A:Around) (outer:List Env) (s:Shared) (H:Hp) (vs:List V) (Q:VK) (E:XK),Room k (A.deeper (envOfC qual scope s.heap.objs.size f cdv)) -> sp vs H Q E ->
   ∃ t,PSs (zH0 CX P w K mg base N qual scope f cdv A outer s H E) body t /\ t { nx:=fun _ H'=>Q .non H',rt:=Q } (zCd N vs) H) :
  FnOk P w K mg base CX (k + 1) f (PySem.W.fnOf name qual params body scope dV kV doc pm an cdv ct) ps sp:=by
 refine ⟨len,fun A outer s H args us vs Q E hr e0 hb r hsp=>?_⟩;have hl:=len _ _ _ _ hsp;have KX:K.In s.heap:=e0.mod.kin.keeps fun b o e=>(e0.bs b o e).1;have lim:s.heap.NoLimit:=e0.mod.nolimit.keeps fun b o e=>(e0.bs b o e).1;have hkind:∀ y ∈ ps.zip us,scope.names.lookup y.1 = some .local \/ (scope.names.lookup y.1 = some .cell /\ ((cellsFrom (s.heap.objs.size + 1) scope.names []).lookup y.1).isSome = true):=fun ⟨n,v⟩ hy=>by
  rcases S.par n (List.of_mem_zip hy).1 with q | q
  ·exact .inl q
  ·exact .inr ⟨q,PySem.W.cellsFrom_some _ _ _ (.inl q)⟩
 refine codeAny_call_function hr.depth (KX _ _ lk) rfl S.co S.gen rfl (PySem.W.codeRec_of KX hcd) (hb _ _ _ _ ?_);refine wpAny_newFunctionEnv_cells S.kind hkind fun env he s1 x=>?_;subst he;refine ⟨lim.keeps x.toInCall.keep,codeAny_func ?_⟩;obtain ⟨t,ht,hq⟩:=hbody A outer s H vs Q E (hr.deeper _) hsp;have I:Inv (zH0 CX P w K mg base N qual scope f cdv A outer s H E) [] (zCd N vs) H s1:=zJW S hr.hd e0 hl r x;refine zQl (ht [] s1 (zCd N vs) H _ I hq) (fun fl s' hs=>?_) fun e s' hs=>hs;have fin:∀ {σ':St} {H':Hp} {v:V} {u:Value},Inv (zH0 CX P w K mg base N qual scope f cdv A outer s H E) [] σ' H' s' -> zf v u -> Q v H' -> CE outer P w H s Q u s' :=
  fun {σ' H' v u} J rv q=>⟨v,H',J.os,J.bare,J.base,J.hok,rv,q⟩
 cases fl with
 | ret u=>
  obtain ⟨v,σ',H',J,rv,q⟩:=hs;exact fin J rv q
 | next=>
  obtain ⟨σ',H',J,q⟩:=hs;exact fin (v:=V.non) (u:=Value.none) J rfl q
 | brk=>
  obtain ⟨_,_,_,q⟩:=hs;exact False.elim q
 | cont=>
  obtain ⟨_,_,_,q⟩:=hs;exact False.elim q
section
variable {X:Cx} {x:Str} {p pos:Pos} {e:Expr} {es:List Expr} {t:TA} {id T:String} {r:List V -> Hp -> VK -> Prop}
def tCB (r:List V -> Hp -> VK -> Prop) (t:TA):TE:=fun σ H Q=>t σ H fun vs H1=>r vs H1 Q
theorem zHE (hc:zBj X (.builtin id) r) (hg:Gl X x) (hm:X.mg x = none) (hv:bootBuiltins x = some (.builtin id)) (ha:PA X (e :: es) t) (hn:x ≠ "__name__" := by decide) (hdb:(x == ("__debug__" : Str)) = false:=by decide)
  (he:starEach (e :: es) X.env = (false,eval e X.env) :: starEach es X.env:=by rfl) (hpl:(backTo pos (starEach es X.env)).any (·.1) = false:=by rfl):PE X (.Call (.Name x p) (e :: es) [] pos) (tCB r t):=by
 intro zB s σ H Q I h;refine wpAny_Call_Name_kw (zDS I hg hm hv ?_ hn hdb);exact PyProof.Rows.callWith_builtin1 (thn (ha pos zB s σ H _ I h) fun us s1 ⟨vs,H1,I1,r1,q1⟩=>hc zB s1 σ H1 vs us Q I1 r1 q1) he hpl
theorem zI9 (hc:zBj X (.type T) r) (hg:Gl X x) (hm:X.mg x = none) (hv:bootBuiltins x = some (.type T)) (ha:PA X (e :: es) t) (hn:x ≠ "__name__" := by decide) (hdb:(x == ("__debug__" : Str)) = false:=by decide)
  (he:starEach (e :: es) X.env = (false,eval e X.env) :: starEach es X.env:=by rfl) (hpl:(backTo pos (starEach es X.env)).any (·.1) = false:=by rfl):PE X (.Call (.Name x p) (e :: es) [] pos) (tCB r t):=by
 intro zB s σ H Q I h;refine wpAny_Call_Name_kw (zDS I hg hm hv ?_ hn hdb);exact PyProof.Rows.callWith_type1 (thn (ha pos zB s σ H _ I h) fun us s1 ⟨vs,H1,I1,r1,q1⟩=>hc zB s1 σ H1 vs us Q I1 r1 q1) he hpl
end
end L2
namespace HT
open PySem PyProof.Rows
section
variable {prog:Program} {w:World} {A:Around} {E:Value -> Shared -> Prop} {s:Shared}
theorem zMH {t b:Addr} {vs ws:List Value} {Q:Value -> Shared -> Prop} (ht:IsTup s.heap t vs.toArray) (hb:IsTup s.heap b ws.toArray) (hv:vs ≠ [])
  (h1:ws = [] -> Q (.ref t) s) (h2:ws ≠ [] -> Q (.ref s.heap.objs.size) { s with heap:=s.heap.push { cls:=.type "tuple", data:=.seq (vs ++ ws).toArray } })
  (hsz:vs.length + ws.length <= sizeLine):wpAny (model prog w) A (binaryOp .Add (.ref t) (.ref b)) Q E s:=by
 obtain ⟨⟨cls,dd,data,sl⟩,ho,hc,n,hd⟩:=id ht;obtain ⟨⟨cls2,dd2,data2,sl2⟩,ho2,hc2,n2,hd2⟩:=id hb;simp only at hc hd hc2 hd2;subst hc hd hc2 hd2;have e:vs.toArray ++ ws.toArray = (vs ++ ws).toArray:=by simp
 by_cases hw:ws = []
 ·exact concat_meets ⟨_,ho,rfl⟩ ⟨_,ho2,rfl⟩ noFill_tuple_add seq_tuple_add PySem.F.slot_tuple_add PySem.F.entry_tuple_add (PySem.F.args_tuple_add_2 _ _)
   (tuple_addW1 t b vs.toArray ws.toArray n n2 dd dd2 sl sl2 (by simpa using hv) (by simp [hw])) ⟨ho,ho2,h1 hw⟩
 ·refine concat_meets ⟨_,ho,rfl⟩ ⟨_,ho2,rfl⟩ noFill_tuple_add seq_tuple_add PySem.F.slot_tuple_add PySem.F.entry_tuple_add (PySem.F.args_tuple_add_2 _ _)
   (tuple_addW2 t b vs.toArray ws.toArray n n2 dd dd2 sl sl2 (by simpa using hv) (by simpa using hw) (by rw [zQN,zQN]; exact hsz)) ⟨ho,ho2,?_⟩
  rw [e];exact h2 hw
def sIx (n d:Nat):Option Int -> Nat
 | none=>d
 | some v=>if v < 0 then (v + (n:Int)).toNat else min v.toNat n
theorem zLg (n d k:Nat):sIx n d (some (k:Int)) = min k n:=by
 show (if (k:Int) < 0 then ((k:Int) + (n:Int)).toNat else min (k:Int).toNat n) = min k n;rw [zQX (by omega),zSz]
theorem zOS (n d:Nat) (hd:d <= n) (o:Option Int):sIx n d o <= n:=by
 cases o with
 | none=>exact hd
 | some v=>
  show (if v < 0 then (v + (n:Int)).toNat else min v.toNat n) <= n;by_cases hv:v < 0
  ·rw [zQU hv]; omega
  ·rw [zQX hv]; exact Nat.min_le_right _ _
theorem zIY (v:Int) (n d:Nat):(if v < 0 then max (v + (n:Int)) 0 else min v (n:Int)) = ((sIx n d (some v):Nat):Int):=by
 show (if v < 0 then max (v + (n:Int)) 0 else min v (n:Int)) = (((if v < 0 then (v + (n:Int)).toNat else min v.toNat n):Nat):Int);by_cases hv:v < 0
 ·simp only [zQU hv]; omega
 ·simp only [zQX hv]; omega
theorem zHe (lo hi:Option Int) (n:Nat):Builtin.Slice.sliceAdjust lo hi 1 (n:Int) = (((sIx n 0 lo:Nat):Int),((sIx n n hi:Nat):Int)):=by
 have h1:¬ ((1:Int) < 0):=by omega
 unfold Builtin.Slice.sliceAdjust;simp only [h1,if_false];refine Prod.ext ?_ ?_
 ·cases lo with
  | none=>rfl
  | some v=>exact zIY v n 0
 ·cases hi with
  | none=>rfl
  | some v=>exact zIY v n n
theorem zIB (i j:Nat):Builtin.Slice.slicePlaces (i:Int) (j:Int) 1 = j - i:=by
 unfold Builtin.Slice.slicePlaces;have h1:(1:Int) > 0:=by omega
 simp only [h1,if_true,Int.ediv_one];split <;> omega
theorem zEQ {v:Value} {o:Option Int} {Q:Option Int -> Shared -> Prop} (p:IsPart v o) (h:Q o s):wpAny (model prog w) A (Builtin.Slice.slicePartIndex v) Q E s:=by
 cases p with
 | none=>exact slicePart_none h
 | int i t=>exact slicePart_int h
theorem zBg {sl:Addr} {vl vu:Value} {lo hi:Option Int} {n:Nat} {Q:Int × Int × Nat -> Shared -> Prop} (hs:s.heap.IsSliceOf sl vl vu .none) (pl:IsPart vl lo) (pu:IsPart vu hi)
  (h:Q (((sIx n 0 lo:Nat):Int),1,sIx n n hi - sIx n 0 lo) s):wpAny (model prog w) A (Builtin.Slice.sliceApplied (.ref sl) (pure (n:Int))) Q E s:=by
 obtain ⟨os,hos,hcs,hds⟩:=id hs;unfold Builtin.Slice.sliceApplied Builtin.Slice.sliceFields;refine zQF (zQF (zQu hos hds (x:=vl) rfl (zQF (zQu hos hds (x:=vu) rfl (zQF (zQu hos hds (x:=.none) rfl (zQH ?_)))))));refine zQF (slicePart_none ?_);show wpAny _ _ (if ((1:Int) == 0) = true then _ else _) _ _ s;rw [zQX (by decide)];refine zQF (zEQ pl (zQF (zEQ pu (zQF (zQH ?_)))));show wpAny _ _ (match Builtin.Slice.sliceAdjust lo hi 1 (n:Int) with | (lo,hi)=>pure (lo,(1:Int),Builtin.Slice.slicePlaces lo hi 1)) _ _ s;rw [zHe lo hi n];show wpAny _ _ (pure (((sIx n 0 lo:Nat):Int),(1:Int),Builtin.Slice.slicePlaces ((sIx n 0 lo:Nat):Int) ((sIx n n hi:Nat):Int) 1)) _ _ s;rw [zIB];exact zQH h
theorem zKx (xs:Array Value) (i k:Nat):((List.range k).filterMap fun (m:Nat)=>xs[((i:Int) + (m:Int) * 1).toNat]?).toArray = ((xs.toList.drop i).take k).toArray:=by
 have e:(fun (m:Nat)=>xs[((i:Int) + (m:Int) * 1).toNat]?) = fun m=>xs[i + m]?:=by
  funext m;have:((i:Int) + (m:Int) * 1).toNat = i + m:=by omega
  rw [this]
 rw [e];have:=pick_run xs i k;rw [List.filterMap_map] at this;have e2:((fun x=>xs[x]?) ∘ fun x=>i + x) = fun m=>xs[i + m]?:=rfl;rw [e2] at this;rw [this]
theorem zC9 {t sl:Addr} {items:Array Value} {vl vu:Value} {lo hi:Option Int} {Q:Value -> Shared -> Prop} (ht:IsTup s.heap t items) (hs:s.heap.IsSliceOf sl vl vu .none) (pl:IsPart vl lo) (pu:IsPart vu hi)
  (hw:¬ (sIx items.size 0 lo = 0 /\ sIx items.size items.size hi = items.size))
  (h:Q (.ref s.heap.objs.size) { s with heap:=s.heap.push { cls:=.type "tuple", data:=.seq ((items.toList.drop (sIx items.size 0 lo)).take (sIx items.size items.size hi - sIx items.size 0 lo)).toArray } })
  (hsz:items.size <= sizeLine):wpAny (model prog w) A (getItem (.ref t) (.ref sl)) Q E s:=by
 have htake:sizeOk (.seq ((items.toList.drop (sIx items.size 0 lo)).take (sIx items.size items.size hi - sIx items.size 0 lo)).toArray):=by
  show ((items.toList.drop (sIx items.size 0 lo)).take (sIx items.size items.size hi - sIx items.size 0 lo)).toArray.size <= sizeLine;rw [zQN,zRd,zSi,zQy];omega
 have hj:sIx items.size items.size hi <= items.size:=zOS _ _ (zQL _) hi;obtain ⟨os,hos,hcs,hds⟩:=id hs;have hTs:s.TypeIs (.ref sl) "slice" := ⟨os,hos,hcs⟩;unfold getItem;try with_reducible refine wpAny_holding ?_
 first | refine zQF (zQH ?_) | skip
 refine zQF (wpAny_sequenceKey ht.typeIs (by decide) ?_)
 refine zQF (zQr (name:=Str.ofString "__getitem__") ht.typeIs zRn
  (zQs zRn ht.typeIs entry_tuple_getitem ?_ (args_tuple_getitem _ _)))
 show wpAny _ _ (Builtin.Tuple.tupleItemsOf (.ref t) >>= _) _ _ s;refine zQF (tupleItemsOf_ ht ?_);refine zQF (wpAny_typeOf hTs ?_);rw [zQU (by decide)];refine zQF (zBg hs pl pu ?_);have hno:¬ ((((sIx items.size 0 lo:Nat):Int) == 0 && (1:Int) == 1 && (sIx items.size items.size hi - sIx items.size 0 lo) == items.size) = true):=by
  intro q;rw [zQp,zQp] at q;have q1:((sIx items.size 0 lo:Nat):Int) = 0:=eq_of_beq q.1.1;have q2:sIx items.size items.size hi - sIx items.size 0 lo = items.size:=eq_of_beq q.2;exact hw ⟨by omega,by omega⟩
 show wpAny _ _ (if (((sIx items.size 0 lo:Nat):Int) == 0 && (1:Int) == 1 && (sIx items.size items.size hi - sIx items.size 0 lo) == items.size) = true then _ else _) _ _ s;rw [zQX hno,zKx]
 first
  | exact zQF (m:=Builtin.Tuple.tupleExact _) (zQi (zQH ⟨_,rfl,zQH h⟩) htake)
  | exact zQF (m:=Builtin.Tuple.tupleExact _) (zQi (zQF (zQH (zQH ⟨_,rfl,zQH h⟩))) htake)
  | exact zQF (zQF (m:=Builtin.Tuple.tupleExact _) (zQi (zQH (zQH ⟨_,rfl,zQH h⟩)) htake))
  | exact zQF (zQF (m:=Builtin.Tuple.tupleExact _) (zQi (zQH ⟨_,rfl,zQH h⟩) htake))
end
end HT
namespace L2
open PySem PySem.Spec PyProof.Rows
abbrev TO:=St -> Hp -> (Option Int -> Hp -> Prop) -> Prop
def PO (X:Cx) (e:Option Expr) (t:TO):Prop :=
 ∀ (zB:List (Addr × Obj)) (s:Shared) (σ:St) (H:Hp) (Q:Option Int -> Hp -> Prop),Inv X zB σ H s -> t σ H Q ->
  wpAny (model X.prog X.w) X.A (evalPart e X.env) (fun u s'=>∃ o H',Inv X zB σ H' s' /\ IsPart u o /\ Q o H') X.xe s
def zMa:TO:=fun _ H Q=>Q none H
def zPc (t:TE):TO:=fun σ H Q=>t σ H fun x H1=>∃ i,x = .int i /\ Q (some i) H1
section
variable {X:Cx} {e:Expr} {te:TE} {lo hi:Option Expr} {tl th:TO} {pos p2:Pos}
theorem zMe:PO X none zMa:=by
 intro zB s σ H Q I h;rw [evalPart_none];exact zQH ⟨none,H,I,.none,h⟩
theorem zMV (h:PE X e te):PO X (some e) (zPc te):=by
 intro zB s σ H Q I hw;rw [evalPart_some];refine thn (h zB s σ H _ I hw) fun u s1 ⟨x,H1,I1,r1,q1⟩=>?_;obtain ⟨i,rfl,q⟩:=q1;obtain ⟨t,rfl⟩:=r1;exact ⟨some i,H1,I1,.int i t,q⟩
def SlR (X:Cx) (r:V -> Option Int -> Option Int -> Hp -> VK -> Prop):Prop :=
 ∀ (zB:List (Addr × Obj)) (s:Shared) (σ:St) (H:Hp) (x:V) (v vl vu:Value) (lo hi:Option Int) (sl:Addr) (Q:VK),Inv X zB σ H s -> zf x v -> s.heap.IsSliceOf sl vl vu .none -> IsPart vl lo -> IsPart vu hi -> r x lo hi H Q ->
  ∃ T id,typeLookup (.type T) "__getitem__" = pure (some (.builtin id)) /\ s.TypeIs v T /\ wpAny (model X.prog X.w) X.A (getItem v (.ref sl)) (EP X zB σ Q) X.xe s
theorem SlR.or {r r':V -> Option Int -> Option Int -> Hp -> VK -> Prop} (h:SlR X r) (h':SlR X r'):SlR X (fun x lo hi H Q=>r x lo hi H Q \/ r' x lo hi H Q):=by
 intro zB s σ H x v vl vu lo hi sl Q I rx hs pl pu q;rcases q with q | q
 ·exact h zB s σ H x v vl vu lo hi sl Q I rx hs pl pu q
 ·exact h' zB s σ H x v vl vu lo hi sl Q I rx hs pl pu q
def tSl (r:V -> Option Int -> Option Int -> Hp -> VK -> Prop) (te:TE) (tl th:TO):TE:=fun σ H Q=>te σ H fun x H1=>tl σ H1 fun l H2=>th σ H2 fun u H3=>r x l u H3 Q
theorem zKJ {r:V -> Option Int -> Option Int -> Hp -> VK -> Prop} (hr:SlR X r) (he:PE X e te) (hl:PO X lo tl) (hu:PO X hi th):PE X (.Subscript e (.Slice lo hi none p2) pos) (tSl r te tl th):=by
 intro zB s σ H Q I h;refine Subscript_ (thn (he zB s σ H _ I h) fun v s1 ⟨x,H1,I1,r1,q1⟩=>?_);refine wpAny_Slice (thn (hl zB s1 σ H1 _ I1 q1) fun vl s2 ⟨l,H2,I2,pl,q2⟩=>thn (hu zB s2 σ H2 _ I2 q2) fun vu s3 ⟨u,H3,I3,pu,q3⟩=>?_);rw [evalPart_none];refine zQH ?_;have I4:Inv X zB σ H3 { s3 with heap:=s3.heap.push { cls:=.type "slice", data:=.fields #[vl,vu,.none] } }:=I3.kept (t':=s3.toks) fun b ob q=>zQG _ q;obtain ⟨T,id,hT,ht,hg⟩:=hr zB { s3 with heap:=s3.heap.push { cls:=.type "slice", data:=.fields #[vl,vu,.none] } } σ H3 x v vl vu l u s3.heap.objs.size Q I4 r1 (Heap.IsSliceOf.new ..) pl pu q3;show wpAny (model X.prog X.w) X.A (subscriptTail e (.Slice lo hi none p2) v (.ref s3.heap.objs.size)) (EP X zB σ Q) X.xe { s3 with heap:=s3.heap.push { cls:=.type "slice", data:=.fields #[vl,vu,.none] } };exact tail_any (ops:=[.ref s3.heap.objs.size,v]) ht hT hg (by with_unfolding_all rfl)
def zHH (xs:List V) (lo hi:Option Int):List V:=(xs.drop (HT.sIx xs.length 0 lo)).take (HT.sIx xs.length xs.length hi - HT.sIx xs.length 0 lo)
theorem zDh (xs:List V) (lo hi:Option Int):(zHH xs lo hi).length <= xs.length:=by
 unfold zHH;rw [zRd,zSi];omega
def zP6 (K:PySem.W.Frag):V -> Option Int -> Option Int -> Hp -> VK -> Prop:=fun x lo hi H Q=>∃ a xs,x = .ref a /\ SqT K H a xs /\
 ¬ (HT.sIx xs.length 0 lo = 0 /\ HT.sIx xs.length xs.length hi = xs.length) /\ ∀ p,H p = none -> Q (.ref p) (upd H p (.tup (zHH xs lo hi)))
theorem zN4:SlR X (zP6 X.K):=by
 intro zB s σ H x v vl vu lo hi sl Q I rx hs pl pu h;obtain ⟨a,xs,rfl,hx,hw,q⟩:=h;cases rx;obtain ⟨its,r,ht,hz⟩:=I.tuple hx;have hlen:its.toArray.size = xs.length:=by rw [zQN]; exact r.length.symm
 refine ⟨"tuple", _,zRn.lookup,ht.typeIs,?_⟩;refine HT.zC9 ht hs pl pu (by rw [hlen]; exact hw) ?_ (by rw [hlen]; exact hz);rw [hlen];refine ⟨.ref s.heap.objs.size,_,I.laid (t':=s.toks) (o:=.tup (zHH xs lo hi)) (fun b ob q=>zQG _ q) (zQL _) ?_,rfl,q _ (I.hok.fresh (zQL _))⟩;exact ⟨zQg (zDh xs lo hi) hz,_,(r.drop (HT.sIx xs.length 0 lo)).take (HT.sIx xs.length xs.length hi - HT.sIx xs.length 0 lo),zA0.new _ _⟩
def zMj (K:PySem.W.Frag):R2:=fun x y H Q=>∃ a b xs ys,x = .ref a /\ y = .ref b /\ SqT K H a xs /\ SqT K H b ys /\ xs ≠ [] /\ xs.length + ys.length <= sizeLine /\
 (ys = [] -> Q (.ref a) H) /\ (ys ≠ [] -> ∀ p,H p = none -> Q (.ref p) (upd H p (.tup (xs ++ ys))))
theorem zW.nil_iff {xs:List V} {us:List Value} (r:zW xs us):us = [] ↔ xs = []:=by
 cases r with
 | nil=>simp
 | cons _ _=>simp
theorem zMZ:OpR X (binaryOp .Add) (zMj X.K):=by
 intro zB s σ H x y v u Q I rx ry h;obtain ⟨a,b,xs,ys,rfl,rfl,ha,hb,hx,hz,q1,q2⟩:=h;cases rx;cases ry;obtain ⟨its,r1,p1,_⟩:=I.tuple ha;obtain ⟨its2,r2,p2,_⟩:=I.tuple hb;refine HT.zMH p1 p2 (fun z=>hx (r1.nil_iff.mp z)) (fun z=>⟨.ref a,H,I,rfl,q1 (r2.nil_iff.mp z)⟩) (fun z=>?_) (by rw [<- r1.length,<- r2.length]; exact hz);refine ⟨.ref s.heap.objs.size,_,I.laid (t':=s.toks) (o:=.tup (xs ++ ys)) (fun b ob q=>zQG _ q) (zQL _) ?_,rfl,q2 (fun w=>z (r2.nil_iff.mpr w)) _ (I.hok.fresh (zQL _))⟩;exact ⟨by rw [zQV]; exact hz,_,r1.append r2,zA0.new _ _⟩
end
def ixN (n:Nat) (i:Int):Option Nat:=if 0 <= i then (if i < n then some i.toNat else none) else if -(n:Int) <= i then some (i + n).toNat else none
def atI {α:Type} (xs:List α) (i:Int):Option α:=(ixN xs.length i).bind fun j=>xs[j]?
theorem zFg {n:Nat} {i:Int} {j:Nat} (h:ixN n i = some j):seqIndex? i n = some j /\ j < n /\ -(n:Int) <= i /\ i < n:=by
 unfold ixN at h;by_cases h0:0 <= i
 ·rw [zQU h0] at h;by_cases h1:i < n
  ·rw [zQU h1] at h;have e:i.toNat = j:=zRF h;exact ⟨by rw [seqIndex_of h0 h1,e],by omega,by omega,h1⟩
  ·rw [zQX h1] at h; cases h
 ·rw [zQX h0] at h;by_cases h1 : -(n:Int) <= i
  ·rw [zQU h1] at h;have e:(i + n).toNat = j:=zRF h;exact ⟨by rw [seqIndex_neg (by omega) h1,e],by omega,h1,by omega⟩
  ·rw [zQX h1] at h; cases h
theorem zF9 {α:Type} {xs:List α} {i:Int} {v:α} (h:atI xs i = some v):∃ j,seqIndex? i xs.length = some j /\ xs[j]? = some v /\ j < xs.length /\ -(xs.length:Int) <= i /\ i < xs.length:=by
 unfold atI at h;cases e:ixN xs.length i with
 | none=>rw [e] at h; cases h
 | some j=>
  rw [e] at h;obtain ⟨h1,h2,h3,h4⟩:=zFg e;exact ⟨j,h1,h,h2,h3,h4⟩
theorem zBX {α:Type} {xs:List α} {j:Nat} {v:α} (h:xs[j]? = some v):atI xs (j:Int) = some v:=by
 have hj:j < xs.length:=(zQI.mp h).1;have e:ixN xs.length (j:Int) = some j:=by
  unfold ixN;rw [zQU (by omega),zQU (by omega)]; simp
 unfold atI; rw [e]; exact h
def zIW (b:Expr):Prop:=∀ o i,subscripted b false o i = operate [o,i] (getItem o i)
def IxR (X:Cx) (r:R2):Prop :=
 ∀ (value slice:Expr) (zB:List (Addr × Obj)) (s:Shared) (σ:St) (H:Hp) (x y:V) (v u:Value) (Q:VK),Inv X zB σ H s -> zf x v -> zf y u -> r x y H Q ->
  subscripted slice false v u = operate [v,u] (getItem v u) -> wpAny (model X.prog X.w) X.A (subscriptTail value slice v u) (EP X zB σ Q) X.xe s
def MtR (X:Cx) (id:String) (r:V -> List V -> Hp -> VK -> Prop):Prop :=
 ∀ (zB:List (Addr × Obj)) (s:Shared) (σ:St) (H:Hp) (x:V) (xs:List V) (v:Value) (us:List Value) (Q:VK),Inv X zB σ H s -> zf x v -> zW xs us -> r x xs H Q ->
  wpAny (model X.prog X.w) X.A (call (.builtin id) (v :: us)) (EP X zB σ Q) X.xe s
section
variable {X:Cx} {a b:Expr} {ta tb:TE} {pos:Pos}
theorem IxR.or {r r':R2} (h:IxR X r) (h':IxR X r'):IxR X (fun x y H Q=>r x y H Q \/ r' x y H Q):=by
 intro value slice zB s σ H x y v u Q I rx ry q hs;rcases q with q | q
 ·exact h value slice zB s σ H x y v u Q I rx ry q hs
 ·exact h' value slice zB s σ H x y v u Q I rx ry q hs
theorem zOu {r:R2} (hr:IxR X r) (ha:PE X a ta) (hb:PE X b tb) (hs:zIW b):PE X (.Subscript a b pos) (tOp r ta tb):=by
 intro zB s σ H Q I h;exact Subscript_ (zNJ ha hb I h fun v u s2 x y H2 I2 rx ry q=>hr a b zB s2 σ H2 x y v u Q I2 rx ry q (hs _ _))
def zPJ (K:PySem.W.Frag):R2:=fun x y H Q=>∃ p xs i v,x = .ref p /\ y = .int i /\ SqL K H p xs /\ atI xs i = some v /\ Q v H
def zPS (K:PySem.W.Frag):R2:=fun x y H Q=>∃ p xs i v,x = .ref p /\ y = .int i /\ SqT K H p xs /\ atI xs i = some v /\ Q v H
def zPO:R2:=fun x y H Q=>∃ z i c,x = .str z /\ y = .int i /\ z.length <= sizeLine /\ atI z.cps.toList i = some c /\ Q (.str ⟨#[c]⟩) H
theorem zLM:IxR X (zPJ X.K):=by
 intro value slice zB s σ H x y v u Q I rx ry h hs;obtain ⟨p,xs,i,z,rfl,rfl,hq,he,q⟩:=h;cases rx;obtain ⟨t,rfl⟩:=ry;obtain ⟨its,r,pl,hz⟩:=I.list hq;obtain ⟨j,h1,h2,h3,h4,h5⟩:=zF9 he;obtain ⟨w,ew,rw'⟩:=r.get h2;have hl:=r.length;have hn:=zB4;have fin:EP X zB σ Q w s:=⟨z,H,I,rw',q⟩;by_cases h0:0 <= i
 ·have hj:i.toNat = j:=by
   rw [seqIndex_of h0 h5] at h1;exact zRF h1
  exact item_listR pl.isList h0 (by omega) (by rw [hj]; simpa using ew) fin hs
 ·have hj:(i + (its.toArray.size:Int)).toNat = j:=by
   rw [seqIndex_neg (by omega) h4] at h1;rw [zQN,<- hl];exact zRF h1
  exact subscriptTail_builtinR (x:=w) pl.isList.typeIs slot_list_getitem.lookup
   (wpAny_getItem_list_neg (Q:=fun r s'=>r = w /\ EP X zB σ Q r s') pl.isList (by omega) (by rw [zQN] <;> omega) (by omega) (by rw [hj]; simpa using ew) ⟨rfl,fin⟩) hs
theorem zNr:IxR X (zPS X.K):=by
 intro value slice zB s σ H x y v u Q I rx ry h hs;obtain ⟨p,xs,i,z,rfl,rfl,hq,he,q⟩:=h;cases rx;obtain ⟨t,rfl⟩:=ry;obtain ⟨its,r,pl,hz⟩:=I.tuple hq;obtain ⟨j,h1,h2,h3,h4,h5⟩:=zF9 he;obtain ⟨w,ew,rw'⟩:=r.get h2;have hl:=r.length;have hn:=zB4;have fin:EP X zB σ Q w s:=⟨z,H,I,rw',q⟩
 exact subscriptTail_builtinR (x:=w) pl.typeIs slot_tuple_getitem.lookup
  (getItem_tuple (j:=j) (Q:=fun r s'=>r = w /\ EP X zB σ Q r s') pl (by omega) (by omega) (by rw [zQN,<- hl]; exact h1) (by simpa using ew) ⟨rfl,fin⟩) hs
theorem zOC:IxR X zPO:=by
 intro value slice zB s σ H x y v u Q I rx ry h hs;obtain ⟨z,i,c,rfl,rfl,hz,he,q⟩:=h;obtain ⟨t,rfl⟩:=rx;obtain ⟨t',rfl⟩:=ry;obtain ⟨j,h1,h2,h3,h4,h5⟩:=zF9 he;have hl:z.cps.toList.length = z.length:=by simp [Str.length]
 rw [hl] at h1 h4 h5;have hn:=zB4;exact tail_any (typeIs_str s z t) slot_str_getitem.lookup (getItem_str (c:=c) (by
  have e1:decide (i < -(2 ^ 63:Int)) = false:=zQo (by omega);have e2:decide (i ≥ 2 ^ 63) = false:=zQo (by omega);rw [e1,e2,Bool.or_false]) (by rw [h1]; simpa using h2) ⟨.str ⟨#[c]⟩,H,I.tok _,⟨_,rfl⟩,q⟩) hs
def rIx (K:PySem.W.Frag):R2:=fun x y H Q=>zPJ K x y H Q \/ zPS K x y H Q \/ zPO x y H Q
theorem zN0:IxR X (rIx X.K):=zLM.or (zNr.or zOC)
theorem zHw (its:List Value) (n j:Nat) (u:Value):Obj.mapSeq (·.setIfInBounds j u) { cls:=.type "list", data:=.seq its.toArray n } = { cls:=.type "list", data:=.seq (its.set j u).toArray n }:=by
 simp [Obj.mapSeq]
theorem Inv.lst {zB:List (Addr × Obj)} {σ:St} {H:Hp} {s:Shared} {p:Addr} {xs:List V} (I:Inv X zB σ H s) (h:H p = some (.lst xs)) :
  ∃ (its:List Value) (n:Nat),zW xs its /\ s.heap.get? p = some { cls:=.type "list", data:=.seq its.toArray n } /\ xs.length <= sizeLine:=by
 obtain ⟨z,its,n,r,e⟩:=I.hok p _ h;exact ⟨its,n,r,e,z⟩
theorem Inv.lstUpd {zB:List (Addr × Obj)} {σ:St} {H:Hp} {s:Shared} {p:Addr} {xs ys:List V} {its its':List Value} {n n':Nat} {f:Obj -> Obj} (I:Inv X zB σ H s) (h:H p = some (.lst xs))
  (ho:s.heap.get? p = some { cls:=.type "list", data:=.seq its.toArray n }) (hf:f { cls:=.type "list", data:=.seq its.toArray n } = { cls:=.type "list", data:=.seq its'.toArray n' }) (r:zW ys its') (hz:ys.length <= sizeLine) (t:Nat) :
  Inv X zB σ (upd H p (.lst ys)) { s with heap:=s.heap.update p f,toks:=t }:=by
 have e:(s.heap.update p f).get? p = some { cls:=.type "list", data:=.seq its'.toArray n' }:=by
  rw [Heap.get?_update_self f ho (by rw [hf] <;> rfl),hf]
 refine I.write (x:=p) (e:=p) (by rw [h]; trivial) (.inl rfl) (fun b u hb q=>(Heap.get?_update_other _ _ (Ne.symm hb)).trans q) ⟨_,e⟩ ?_;exact ⟨hz,its',n',r,e⟩
def zPH:V -> V -> V -> Hp -> (Hp -> Prop) -> Prop:=fun o i v H Q=>∃ p xs k j,o = .ref p /\ i = .int k /\ H p = some (.lst xs) /\ ixN xs.length k = some j /\ Q (upd H p (.lst (xs.set j v)))
theorem zKR:zPA X zPH:=by
 intro zB s σ H o i v ov iv u Q I ro ri rv h;obtain ⟨p,xs,k,j,rfl,rfl,hp,hj,q⟩:=h;cases ro;obtain ⟨t,rfl⟩:=ri;obtain ⟨its,n,r,ho,hz⟩:=I.lst hp;obtain ⟨h1,h2,h3,h4⟩:=zFg hj;have hl:=r.length;have hn:=zB4;have I':Inv X zB σ (upd H p (.lst (xs.set j v))) { s with heap:=s.heap.update p (Obj.mapSeq (·.setIfInBounds j u)) } :=
  I.lstUpd hp ho (zHw its n j u) (r.set rv j) (by rw [List.length_set]; exact hz) s.toks
 by_cases h0:0 <= k
 ·have hk:k.toNat = j:=by
   rw [seqIndex_of h0 h4] at h1;exact zRF h1
  exact PySem.W.ki_setAt ho h0 (by omega) (by rw [zQN,<- hl]; exact h4) (by rw [hk]; exact ⟨_,I',q⟩)
 ·have hk:(k + (its.toArray.size:Int)).toNat = j:=by
   rw [seqIndex_neg (by omega) h3] at h1;rw [zQN,<- hl];exact zRF h1
  exact PySem.W.ki_setBack ho (by omega) (by rw [zQN,<- hl]; exact h3) (by omega) (by rw [hk]; exact ⟨_,I',q⟩)
theorem zFp (lo hi:Option Int) (n:Nat):(sliceBounds lo hi none n).1 = ((HT.sIx n 0 lo:Nat):Int) /\ (sliceBounds lo hi none n).2.1 = ((HT.sIx n n hi:Nat):Int) /\ (sliceBounds lo hi none n).2.2 = 1:=by
 refine ⟨?_,?_,rfl⟩
 ·cases lo with
  | none=>simp [sliceBounds,HT.sIx]
  | some i=>
   simp only [sliceBounds,HT.sIx,Option.getD_none,show (1:Int) > 0 by decide,if_true];by_cases h:i < 0
   ·simp only [h,if_true] <;> omega
   ·simp only [h,if_false] <;> omega
 ·cases hi with
  | none=>simp [sliceBounds,HT.sIx]
  | some i=>
   simp only [sliceBounds,HT.sIx,Option.getD_none,show (1:Int) > 0 by decide,if_true];by_cases h:i < 0
   ·simp only [h,if_true] <;> omega
   ·simp only [h,if_false] <;> omega
theorem zEt (its:List Value) (lo hi:Option Int):slicePick its.toArray lo hi none = ((its.drop (HT.sIx its.length 0 lo)).take (HT.sIx its.length its.length hi - HT.sIx its.length 0 lo)).toArray:=by
 obtain ⟨h1,h2,h3⟩:=zFp lo hi its.toArray.size;unfold slicePick;rw [h1,h2,h3];simp only [sliceRange_one,pick_run,zQN] <;> rfl
def zP9 (K:PySem.W.Frag):V -> Option Int -> Option Int -> Hp -> VK -> Prop:=fun x lo hi H Q=>∃ a xs,x = .ref a /\ SqL K H a xs /\ ∀ p,H p = none -> Q (.ref p) (upd H p (.lst (zHH xs lo hi)))
theorem zMU:SlR X (zP9 X.K):=by
 intro zB s σ H x v vl vu lo hi sl Q I rx hs pl pu h;obtain ⟨a,xs,rfl,hx,q⟩:=h;cases rx;obtain ⟨its,r,ht,hz⟩:=I.list hx;have hlen:=r.length;refine ⟨"list", _,slot_list_getitem.lookup,ht.isList.typeIs,?_⟩;refine wpAny_getItem_list_slice ht.isList hs pl pu .none (by simp) ?_ (by rw [zQN] <;> omega);rw [zEt,<- hlen];refine ⟨.ref s.heap.objs.size,_,I.laid (t':=s.toks) (o:=.lst (zHH xs lo hi)) (fun b ob q=>zQG _ q) (zQL _) ?_,rfl,q _ (I.hok.fresh (zQL _))⟩;exact ⟨zQg (zDh xs lo hi) hz,_,0,(r.drop (HT.sIx xs.length 0 lo)).take (HT.sIx xs.length xs.length hi - HT.sIx xs.length 0 lo),zQP _ rfl⟩
theorem zFq:zBj X (.builtin "len") (fun xs H Q=>∃ p ys,xs = [.ref p] /\ (SqL X.K H p ys \/ SqT X.K H p ys) /\ Q (.int ys.length) H):=by
 intro zB s σ H xs us Q I r h;obtain ⟨p,ys,rfl,hq,q⟩:=h;obtain ⟨u,rfl,rx⟩:=zCy r;cases rx;have hn:=zB4;rcases hq with hq | hq
 ·obtain ⟨its,r',pl,hz⟩:=I.list hq;have hlen:=r'.length;exact Calls.call_len_list pl.isList (by simp only [zQN] <;> omega) ⟨.int ys.length,H,I.tok _,⟨s.toks + 1,by rw [zQN,hlen]⟩,q⟩
 ·obtain ⟨its,r',pl,hz⟩:=I.tuple hq;have hlen:=r'.length;exact len_tuple pl (by simp only [zQN] <;> omega) ⟨.int ys.length,H,I.tok _,⟨s.toks + 1,by rw [zQN,hlen]⟩,q⟩
theorem zF5:zBj X (.builtin "len") (fun xs H Q=>∃ z,xs = [.str z] /\ z.length <= sizeLine /\ Q (.int z.length) H):=by
 intro zB s σ H xs us Q I r h;obtain ⟨z,rfl,hz,q⟩:=h;obtain ⟨u,rfl,t,rfl⟩:=zCy r;have hn:=zB4;exact len_str (by omega) ⟨.int z.length,H,I.tok _,⟨_,rfl⟩,q⟩
theorem zEu:zBj X (.type "tuple") (fun xs H Q=>∃ p ys,xs = [.ref p] /\ ((SqL X.K H p ys /\ ∀ l,H l = none -> Q (.ref l) (upd H l (.tup ys))) \/ (SqT X.K H p ys /\ Q (.ref p) H))):=by
 intro zB s σ H xs us Q I r h;obtain ⟨p,ys,rfl,h⟩:=h;obtain ⟨u,rfl,rx⟩:=zCy r;cases rx;rcases h with ⟨hq,q⟩ | ⟨hq,q⟩
 ·obtain ⟨its,r',pl,hz⟩:=I.list hq;have hlen:=r'.length;refine call_tuple_list pl.isList (fun h' kp=>?_) (by simp only [zQN] <;> omega);have I1:Inv X zB σ H { s with heap:=h' }:=I.kept (t':=s.toks) kp;have I2:Inv X zB σ (upd H h'.objs.size (.tup ys)) { s with heap:=h'.push { cls:=.type "tuple", data:=.seq its.toArray } } :=
   I1.laid (t':=s.toks) (fun b o e=>zQG _ e) (zQL _) (show zr X.prog X.w _ _ _ (.tup ys) from ⟨hz,its,r',zA0.new _ _⟩)
  exact ⟨.ref h'.objs.size,_,I2,rfl,q _ (I1.hok.fresh (zQL _))⟩
 ·obtain ⟨its,r',pl,hz⟩:=I.tuple hq;exact call_tuple_same pl ⟨.ref p,H,I,rfl,q⟩
def tyV (K:PySem.W.Frag) (T:String) (x:V) (H:Hp):Prop:=match x with
 | .str _=>T = "str"
 | .int _=>T = "int"
 | .ref p=>(T = "list" /\ ∃ xs,SqL K H p xs) \/ (T = "tuple" /\ ((∃ o,K.lookup p = some o /\ o.cls = .type "tuple" /\ o.dict = none) \/ ∃ xs,H p = some (.tup xs))) \/
   (T = "dict" /\ ((∃ kvs,H p = some (.dK kvs)) \/ ∃ kvs,H p = some (.dT kvs))) \/ (T = "set" /\ ∃ S n,H p = some (.set S n))
 | _=>False
theorem zN9 {zB:List (Addr × Obj)} {σ:St} {H:Hp} {s:Shared} {T:String} {x:V} {v:Value} (I:Inv X zB σ H s) (r:zf x v) (ty:tyV X.K T x H) :
  s.TypeIs v T /\ ∀ a,v = .ref a -> ∃ ob,s.heap.get? a = some ob /\ ob.dict = none:=by
 cases x with
 | str z=>
  obtain ⟨t,rfl⟩:=r;cases (show T = "str" from ty);exact ⟨typeIs_str s z t,fun _ e=>nomatch e⟩
 | int i=>
  obtain ⟨t,rfl⟩:=r;cases (show T = "int" from ty);exact ⟨typeIs_int s i t,fun _ e=>nomatch e⟩
 | ref p=>
  cases r;rcases ty with ⟨rfl,xs,hq⟩ | ⟨rfl,⟨o,hk,hc,hd⟩ | ⟨xs,hq⟩⟩ | ⟨rfl,hk⟩ | ⟨rfl,S,n,hk⟩
  ·obtain ⟨its,_,pl,_⟩:=I.list hq;refine ⟨pl.isList.typeIs,fun a e=>?_⟩;cases e;obtain ⟨o,n,e,c,hd,_⟩:=pl;exact ⟨o,e,hd⟩
  ·refine ⟨⟨o,I.kIn p o hk,hc⟩,fun a e=>?_⟩;cases e;exact ⟨o,I.kIn _ o hk,hd⟩
  ·obtain ⟨_,its,_,o,e,c,_,hd⟩:=I.hok p _ hq;refine ⟨⟨o,e,c⟩,fun a e2=>?_⟩;cases e2;exact ⟨o,e,hd⟩
  ·have z:∃ o,s.heap.get? p = some o /\ o.ExactDict:=by
    rcases hk with ⟨kvs,hk⟩ | ⟨kvs,hk⟩
    ·obtain ⟨_,_,_,_,o,_,_,e,ex,_⟩:=I.hok p _ hk;exact ⟨o,e,ex⟩
    ·obtain ⟨_,_,_,_,o,_,_,e,ex,_⟩:=I.hok p _ hk;exact ⟨o,e,ex⟩
   obtain ⟨o,e,ex⟩:=z;refine ⟨⟨o,e,ex.1⟩,fun a e2=>?_⟩;cases e2;exact ⟨o,e,ex.2.1⟩
  ·obtain ⟨o,_,_,_,e,ex,_⟩:=I.hok p _ hk;refine ⟨⟨o,e,ex.1⟩,fun a e2=>?_⟩;cases e2;exact ⟨o,e,ex.2.1⟩
 | _=>exact False.elim ty
def tBM (K:PySem.W.Frag) (T:String) (r:V -> List V -> Hp -> VK -> Prop) (to:TE) (t:TA):TE:=fun σ H Q=>to σ H fun x H1=>tyV K T x H1 /\ t σ H1 fun xs H2=>r x xs H2 Q
variable {o e:Expr} {es:List Expr} {to:TE} {t:TA} {name:Str} {apos cpos:Pos} {T id:String} {r:V -> List V -> Hp -> VK -> Prop}
theorem zII (pa:PlainAttrs T) (slot:Slot T name id) (hty:typeOf (.builtin id) = pure (.type "method_descriptor")) (hm:MtR X id r) (ho:PE X o to) (ha:PA X (e :: es) t)
  (hbase:attributeBase o name X.env (eval o X.env) = eval o X.env:=by rfl)
  (hfew:((backTo cpos (starEach (e :: es) X.env)).all (fun x=> !x.1) && (backToKw cpos (keywordEach [] X.env)).all (fun x=>x.1.isSome)
   && decide ((e :: es).length + ([]:List Keyword).length + (if ([]:List Keyword).isEmpty then 0 else 1) < 30)) = true:=by rfl)
  (hline:(apos.endLine == cpos.line) = true:=by rfl) (hs:starEach (e :: es) X.env = (false,eval e X.env) :: starEach es X.env:=by rfl) (hplain:(backTo cpos (starEach es X.env)).any (·.1) = false:=by rfl) :
  PE X (.Call (.Attribute o name apos) (e :: es) [] cpos) (tBM X.K T r to t):=by
 intro zB s σ H Q I h;refine wpAny_Call_method_late hbase hfew hline rfl (thn (ho zB s σ H _ I h) fun v s1 ⟨x,H1,I1,r1,ty,q1⟩=>?_);obtain ⟨h1,h2⟩:=zN9 I1 r1 ty;refine ⟨T,id,pa,slot,hty,h1,h2,?_⟩;have hA:=ha cpos zB s1 σ H1 _ I1 q1;rw [hs] at hA ⊢;refine Calls.callWith_builtin (by show (false || (backTo cpos (starEach es X.env)).any (·.1)) = false; rw [hplain] <;> rfl) (Calls.evalArgs_plain ?_);exact thn hA fun us s2 ⟨vs,H2,I2,r2,q2⟩=>hm zB s2 σ H2 x vs v us Q I2 r1 r2 q2
end
def MtM (X:Cx) (id:String) (r:V -> List V -> Hp -> VK -> Prop):Prop :=
 ∀ (zB:List (Addr × Obj)) (s:Shared) (σ:St) (H:Hp) (x:V) (xs:List V) (v:Value) (us:List Value) (Q:VK),Inv X zB σ H s -> zf x v -> zW xs us -> r x xs H Q ->
  wpAny (model X.prog X.w) X.A (call (.builtin id) (v :: us)) (EP X zB σ Q) X.xe s
theorem zW.one:∀ {x:V} {us:List Value},zW [x] us -> ∃ u,us = [u] /\ zf x u
 | _,_,.cons r .nil=>⟨_,rfl,r⟩
theorem zW.eraseIdx:∀ {xs:List V} {us:List Value} (i:Nat),zW xs us -> zW (xs.eraseIdx i) (us.eraseIdx i)
 | _,_,_,.nil=> .nil
 | _,_,0,.cons _ t=>t
 | _,_,i + 1,.cons r t=> .cons r (zW.eraseIdx i t)
theorem zW.rep {xs:List V} {us:List Value} (h:zW xs us):∀ k:Nat,zW (List.replicate k xs).flatten (List.replicate k us).flatten
 | 0=> .nil
 | k + 1=>by
  rw [zRY,zRY,zSE,zSE];exact zW.append h (zW.rep h k)
theorem zE7 {α:Type}:∀ (l:List α) (i:Nat),(l.eraseIdx i).length <= l.length
 | [],_=>zQL _
 | _ :: _,0=>Nat.le_succ _
 | _ :: r,i + 1=>Nat.succ_le_succ (zE7 r i)
theorem zDL (its:List Value):∀ (k:Nat) (acc:List Value),
  List.foldl (fun x1 x2=>x1 ++ x2) acc.toArray (List.replicate k its.toArray) = (acc ++ (List.replicate k its).flatten).toArray
 | 0,acc=>by simp
 | k + 1,acc=>by
  have e:acc.toArray ++ its.toArray = (acc ++ its).toArray:=by simp
  have e2:(acc ++ its) ++ (List.replicate k its).flatten = acc ++ (List.replicate (k + 1) its).flatten:=by
   rw [zRY,zSE,List.append_assoc]
  rw [<- e2,<- zDL its k (acc ++ its),<- e,zRY,List.foldl_cons]
section
variable {X:Cx} {zB:List (Addr × Obj)} {σ:St} {H:Hp} {s:Shared} {l b:Addr} {xs ys zs:List V}
theorem Inv.lset {its its':List Value} {n:Nat} {f:Array Value -> Array Value} {t':Nat} (I:Inv X zB σ H s) (hH:H l = some (.lst xs))
  (e:s.heap.get? l = some { cls:=.type "list", data:=.seq its.toArray n }) (hf:f its.toArray = its'.toArray) (hv:zW ys its') (hz:ys.length <= sizeLine) :
  Inv X zB σ (upd H l (.lst ys)) { s with heap:=s.heap.update l (Obj.mapSeq f),toks:=t' }:=by
 have q:=PySem.IsL.update e f;rw [hf] at q;refine I.write (x:=l) (e:=l) (by rw [hH]; exact trivial) (.inl rfl) (fun b' u hb hu=>(Heap.get?_update_other s.heap (Obj.mapSeq f) (Ne.symm hb)).trans hu) ⟨_,q⟩ ?_;exact ⟨hz,its',_,hv,q⟩
theorem Inv.lnew {its:List Value} {t':Nat} (I:Inv X zB σ H s) (hv:zW ys its) (hz:ys.length <= sizeLine) :
  Inv X zB σ (upd H s.heap.objs.size (.lst ys)) { s with heap:=s.heap.push { cls:=.type "list", data:=.seq its.toArray },toks:=t' } :=
 I.laid (fun _ _ q=>zQG _ q) (zQL _) ⟨hz,its,0,hv,zQP _ rfl⟩
theorem Inv.fresh (I:Inv X zB σ H s):H s.heap.objs.size = none:=I.hok.fresh (zQL _)
theorem Inv.lstM (I:Inv X zB σ H s) (hH:H l = some (.lst xs)):xs.length <= sizeLine /\ ∃ (its:List Value) (n:Nat),zW xs its /\ xs.length = its.length /\ s.heap.get? l = some { cls:=.type "list", data:=.seq its.toArray n }:=by
 obtain ⟨z,its,n,r,e⟩:=I.hok l _ hH;exact ⟨z,its,n,r,r.length,e⟩
theorem zK8 {n:Nat} (h:n <= sizeLine):Builtin.List.listTooLong n = false:=by
 unfold Builtin.List.listTooLong;exact zQo (by omega)
end
section
variable {X:Cx}
def zId:V -> List V -> Hp -> VK -> Prop:=fun x vs H Q=>∃ l xs y,x = .ref l /\ vs = [y] /\ H l = some (.lst xs) /\ xs.length < sizeLine /\ Q .non (upd H l (.lst (xs ++ [y])))
theorem zIp:MtM X "list.append" zId:=by
 intro zB s σ H x vs v us Q I rx rv h;obtain ⟨l,xs,y,rfl,rfl,hH,hz,q⟩:=h;cases rx;obtain ⟨u,rfl,ru⟩:=rv.one;obtain ⟨z,its,n,r,hl,e⟩:=I.lstM hH;refine call_meets F.slot_list_append ⟨_,e,rfl⟩ F.entry_list_append (F.args_list_append_2 _ _) (PySem.list_append l its.toArray n u (by rw [zQN]; omega)) ⟨e,?_⟩;refine ⟨.non,_,I.lset (its':=its ++ [u]) hH e (by simp) (r.append (.cons ru .nil)) ?_,rfl,q⟩;rw [zQV,List.length_singleton];omega
def zKS:V -> List V -> Hp -> VK -> Prop:=fun x vs H Q=>∃ l xs i k y,x = .ref l /\ vs = [.int i] /\ H l = some (.lst xs) /\ -(2 ^ 63) <= i /\ i < 2 ^ 63 /\ seqIndex? i xs.length = some k /\ xs[k]? = some y /\ Q y (upd H l (.lst (xs.eraseIdx k)))
theorem zJx:MtM X "list.pop" zKS:=by
 intro zB s σ H x vs v us Q I rx rv h;obtain ⟨l,xs,i,k,y,rfl,rfl,hH,h1,h2,hk,hy,q⟩:=h;cases rx;obtain ⟨u,rfl,ru⟩:=rv.one;obtain ⟨t,rfl⟩:=ru;obtain ⟨z,its,n,r,hl,e⟩:=I.lstM hH;obtain ⟨w,hw,rw'⟩:=r.get hy
 refine call_meets F.slot_list_pop ⟨_,e,rfl⟩ F.entry_list_pop (F.args_list_pop_2 _ _)
  (MeetsSeq.list_pop_at l its.toArray n i t k w (fitsIndex_both h1 h2) (by rw [zQN,<- hl]; exact hk) (by rw [<- Array.getElem?_toList]; exact hw) (by rw [zQN]; omega)) ⟨e,?_⟩
 refine ⟨y,_,I.lset (its':=its.eraseIdx k) hH e ?_ (r.eraseIdx k) ?_,rw',q⟩
 ·show its.toArray.eraseIdxIfInBounds k = (its.eraseIdx k).toArray;rw [List.eraseIdxIfInBounds_toArray]
 ·have:=zE7 xs k;omega
def zO7:R2:=fun x y H Q=>∃ l b xs zs,x = .ref l /\ y = .ref b /\ H l = some (.lst xs) /\ H b = some (.lst zs) /\ xs.length + zs.length <= sizeLine /\ ∀ p,H p = none -> Q (.ref p) (upd H p (.lst (xs ++ zs)))
theorem zOR:OpR X (binaryOp .Add) zO7:=by
 intro zB s σ H x y v u Q I rx ry h;obtain ⟨l,b,xs,zs,rfl,rfl,hH,hB,hz,q⟩:=h;cases rx;cases ry;obtain ⟨z,its,n,r,hl,e⟩:=I.lstM hH;obtain ⟨z2,its2,n2,r2,hl2,e2⟩:=I.lstM hB;refine PySem.P.add_list e e2 ?_ (by rw [zQN,zQN]; omega);have ea:its.toArray ++ its2.toArray = (its ++ its2).toArray:=by simp
 rw [ea];exact ⟨.ref _,_,I.lnew (t':=s.toks) (r.append r2) (by rw [zQV]; omega),rfl,q _ I.fresh⟩
def zOt:R2:=fun x y H Q=>∃ l k xs,x = .ref l /\ y = .int k /\ H l = some (.lst xs) /\ -(2 ^ 63) <= k /\ k < 2 ^ 63 /\ xs.length * k.toNat <= sizeLine /\
 ∀ p,H p = none -> Q (.ref p) (upd H p (.lst (List.replicate k.toNat xs).flatten))
theorem zFy {α:Type} (xs:List α) (k:Nat):(List.replicate k xs).flatten.length = k * xs.length:=by
 induction k with
 | zero=>simp
 | succ k ih=>rw [zRY,zSE,zQV,ih,Nat.succ_mul,Nat.add_comm]
theorem zN8:OpR X (binaryOp .Mult) zOt:=by
 intro zB s σ H x y v u Q I rx ry h;obtain ⟨l,k,xs,rfl,rfl,hH,h1,h2,hz,q⟩:=h;cases rx;obtain ⟨t,rfl⟩:=ry;obtain ⟨z,its,n,r,hl,e⟩:=I.lstM hH;have hlen:its.toArray.size * k.toNat <= sizeLine:=by rw [zQN,<- hl]; exact hz
 have hcap:¬ its.toArray.size * k.toNat > (2 ^ 63 - 1) / 8:=by
  have:(sizeLine:Nat) <= (2 ^ 63 - 1) / 8:=by decide
  omega
 have hfit:¬ (!Builtin.List.listFitsIndex k) = true:=by
  rw [fitsIndex_both h1 h2];exact zQb
 have hlong:¬ Builtin.List.listTooLong (its.toArray.size * k.toNat) = true:=by
  rw [zK8 hlen];exact zQb
 have hnew:List.foldl (fun x1 x2=>x1 ++ x2) #[] (List.replicate (if its.toArray.isEmpty = true then 0 else k.toNat) its.toArray) = (List.replicate k.toNat its).flatten.toArray:=by
  have f0:∀ m:Nat,List.foldl (fun x1 x2=>x1 ++ x2) #[] (List.replicate m its.toArray) = (List.replicate m its).flatten.toArray:=fun m=>by
   have:=zDL its m [];rw [List.nil_append] at this;exact this
  rw [f0];cases its with
  | nil=>simp
  | cons a r'=>rw [zQX (by simp)]
 refine wpAny_binaryOp_repeat_ref (T := "list") (U := "int") (by decide) ⟨_,e,rfl⟩ (fun s'=>typeIs_int s' k t) noFill_list_mul F.fills_int_mul F.slot_int_rmul repeat_list F.slot_int_index.lookup
  (call_meets F.slot_int_rmul (typeIs_int s k t) F.entry_int_rmul (F.args_int_rmul_2 _ _) (int___rmul___int_list k t l its.toArray n)
   ⟨e,rfl,⟨_,e,rfl⟩,call_meets F.slot_list_mul ⟨_,e,rfl⟩ F.entry_list_mul (F.args_list_mul_2 _ _) (AutoListH.list___mul___list_int_3 l its.toArray n k t hfit hcap hlong) ⟨e,?_⟩⟩)
 rw [hnew];exact ⟨.ref _,_,I.lnew (t':=s.toks) (r.rep k.toNat) (by rw [zFy,Nat.mul_comm]; exact hz),rfl,q _ I.fresh⟩
end
end L2
namespace Att
open PySem PySem.W PySem.Calls PyProof.Rows
theorem zDs {P:Params} {h:Heap}:∀ (ns:List Int) (vs:List Value),WellAll P h vs (ns.map WData.int) -> IntsAre vs ns:=by
 intro ns;induction ns with
 | nil=>
  intro vs w;rw [List.map_nil] at w;cases w;exact .nil
 | cons n ns ih=>
  intro vs w;rw [zQY] at w;cases w with
  | cons a b=>
   cases a;exact .cons _ _ (ih _ b)
theorem zIr {l:OpenLaw} {n:Nat} (hn:l.most = some n) {P:Params} {h:Heap} {args:List WData} {vals:List Value}
  (hpre:l.row.toRowW.claim.pre args = true) (hwl:WellAll P h vals args) :
  ∃ a vs ns,vals = [Value.ref a] /\ args = [WData.list (ns.map WData.int)] /\ h.get? a = some { cls:=.type "list", data:=.seq vs.toArray } /\ IntsAre vs ns /\ ns.length <= n:=by
 have hsh:WShape.hasAll [] args [.list .int] = true:=(pre_splitW hpre).1;have hc:l.pre.holds [] { args:=args } = true:=(pre_splitW hpre).2;obtain ⟨d,r,rfl,h1,h2⟩:=hasAllW_cons hsh;obtain rfl:=hasAllW_nil h2;obtain ⟨xs,rfl,h3⟩:=hasW_list h1;obtain ⟨ns,rfl⟩:=items_int h3;have hlen:ns.length <= n:=by
  unfold OpenLaw.pre at hc;have h4:(WTm.not (.lt (.lit (.int (n:Int))) (.len (.arg 0)))).holds [] { args:=[.list (ns.map .int)] } = true:=by
   have h4:=(holds_andW hc).1;rw [hn] at h4;exact h4
  have h5:=condW_of h4 (w_not (w_lt w_lit (w_len_list (w_arg rfl))));rw [zQO] at h5;refine Nat.le_of_not_lt fun q=>?_;have q':(n:Int) < ((ns.length:Nat):Int):=by omega
  first
   | (rw [zRN q'] at h5; exact absurd h5 (by decide))
   | (simp at h5; omega)
 cases hwl with
 | cons w1 w2=>
  cases w2;cases w1 with
  | list ho hall=>exact ⟨_,_,ns,rfl,rfl,ho,zDs ns _ hall,hlen⟩
theorem zIx (l:OpenLaw) (args:List WData):l.row.toRowW.claim.post args (.bool true) args = true :=
 postW_of (r:=l.row.toRowW) (X:=(true == true))
  (show WShape.has [] (.bool true) .bool = true by first | rfl | decide | simp [WShape.has,WShape.arms,WShape.armsAll])
  (show (WTm.eq .res (.lit (.bool true))).value [] { args:=args,res:=some (.bool true),after:=args } = some (.bool (true == true)) from w_eq_bool (w_res rfl) w_lit) rfl
theorem zGg {l:OpenLaw} {n:Nat} {q:Program} {loose:List Str} {XP:(Str -> Option Value) -> Heap -> Prop} {YP:World -> Heap -> Prop} {d:DefRec}
  (hn:l.most = some n) (hdf:d.params.defaults = [])
  (call:∀ (w:World) (s₀ s₁:Shared) (mg mb:Str -> Option Value) (fa:Addr) (o:Obj) (pm cd doc:Value) (a:Addr) (vs:List Value) (ns:List Int),
   Ground q loose [] XP w s₀ mg mb s₁.heap -> YP w s₁.heap ->
   s₁.heap.get? fa = some o -> o.data = .func (docDef d.name d.params d.body d.scope pm cd doc) -> s₁.heap.CodeRec cd d.name -> mg d.name = some (.ref fa) ->
   s₁.heap.get? a = some { cls:=.type "list", data:=.seq vs.toArray } -> IntsAre vs ns -> ns.length <= n -> s₁.gens = #[] ->
   codeAny (model l.prog w) callerA (.call (.ref fa) ⟨[.ref a],[]⟩) (fun r s'=>r = .ok (.ret (.bool true)) /\ OldK s₁.heap s'.heap /\ s'.os = s₁.os /\ AllBare s'.gens) s₁) :
  WalkO q loose XP YP l.row.toRowW d [] (fun f vs=>PySem.call f vs):=by
 intro w s₀ s₁ mg mb G Y fa o pm cd doc dV kV ho hd hcd hD hmg hg args vals as hpre hlay hrd hwl hlo;obtain rfl:dV = .none:=Dflts.none hD hdf;obtain rfl:kV = .none:=Dflts.noKw hD;obtain ⟨a,vs,ns,rfl,rfl,hobj,hints,hlen⟩:=zIr hn hpre hwl;refine enter_call (codeAny_mono (call w s₀ s₁ mg mb fa o pm cd doc a vs ns G Y ho (fd_plain hd) hcd hmg hobj hints hlen hg) fun r s' hq=>?_);obtain ⟨rfl,h2,h3,h4⟩:=hq;exact ⟨.inl ⟨.bool true,.bool true,[],rfl,fun _=>rfl,.bool true,zIx l _,fun _=>⟨List.Pairwise.nil,fun _ hm=>(nomatch hm)⟩⟩,h2,h3,h4⟩
end Att
namespace L2
open PySem PySem.Spec PyProof.Rows
theorem zFC:∀ {vs:List Value} {ns:List Int},IntsAre vs ns -> zW (ns.map V.int) vs
 | _,_,.nil=> .nil
 | _,_,.cons n t h=> .cons ⟨t,rfl⟩ (zFC h)
def zL2 (H:Hp):Prop:=∀ b,H b = none \/ ∃ o xs,H b = some (.frz o (.lst xs))
theorem zKW {P:Program} {w:World} {K:PySem.W.Frag} {mg mb:Str -> Option Value} {CX:CXT} {k:Nat} {fa a:Addr} {fd:FuncData} {x:Str} {sp:Sp} {s₁:Shared} {vs:List Value} {ns:List Int}
  (KX:K.In s₁.heap) (hns:s₁.heap.Ns mainGlobals mg) (hb:s₁.heap.Ns builtinsNs mb) (hbb:∀ x:Str,x ≠ "__name__" -> mb x = bootBuiltins x) (hlim:s₁.heap.NoLimit) (hbm:BMn mg s₁.heap) (hg:s₁.gens = #[])
  (ha:s₁.heap.get? a = some { cls:=.type "list", data:=.seq vs.toArray }) (hi:IntsAre vs ns) (hl:ns.length <= sizeLine) (hr:Room k callerA)
  (F:∀ base:Heap,K.In base -> base.Ns mainGlobals mg -> FnOk P w K mg base CX k fa fd [x] sp) (hbind:∀ (s:Shared) (u:Value),BindsTo s fd ⟨[u],[]⟩ [(x,u)])
  (hsp:∀ H:Hp,zL2 H -> SqL K H a (ns.map V.int) -> sp [.ref a] H (fun v _=>v = .bl true) fun _ _ _=>False)
  (hCX:∀ H e s',CX [] H s₁ (fun _ _ _=>False) e s' -> False) :
  codeAny (model P w) callerA (.call (.ref fa) ⟨[.ref a],[]⟩) (fun r s'=>r = .ok (.ret (.bool true)) /\ OldK s₁.heap s'.heap /\ s'.os = s₁.os /\ AllBare s'.gens) s₁:=by
 have rv:=zFC hi;have lenV:=hi.length
 have core:∀ H:Hp,zL2 H -> SqL K H a (ns.map V.int) -> HOk P w H s₁.heap -> (∀ b,H b ≠ none -> b = a) -> (H a ≠ none -> K.lookup a = none) ->
   codeAny (model P w) callerA (.call (.ref fa) ⟨[.ref a],[]⟩) (fun r s'=>r = .ok (.ret (.bool true)) /\ OldK s₁.heap s'.heap /\ s'.os = s₁.os /\ AllBare s'.gens) s₁:=by
  intro H hO hS hok hA hK;have base_of:∀ {b:Addr} {o:Obj},s₁.heap.get? b = some o -> H b = none -> (zEr s₁.heap H).get? b = some o:=fun e n=>zKL e n;have noA:∀ {b:Addr} {o:Obj} {es:Array DictEntry} {ep:Nat},s₁.heap.get? b = some o -> o.data = .dict es ep -> H b = none:=fun {b o es ep} e d=>by
   cases q:H b with
   | none=>rfl
   | some u=>
    have e':b = a:=hA b (by rw [q]; simp);subst e';rw [ha] at e; cases e;have d':Data.seq vs.toArray _ = Data.dict es ep:=d;cases d'
  have nsK:∀ {b:Addr} {m:Str -> Option Value},s₁.heap.Ns b m -> (zEr s₁.heap H).Ns b m:=fun {b m} ⟨o,es,ep,e,d,r⟩=>⟨o,es,ep,base_of e (noA e d),d,r⟩;have hKb:K.In (zEr s₁.heap H):=fun b o e=>base_of (KX b o e) (by
   cases q:H b with
   | none=>rfl
   | some u=>
    have e':b = a:=hA b (by rw [q]; simp);subst e';rw [hK (by rw [q]; simp)] at e; cases e)
  have bmK:BMn mg (zEr s₁.heap H):=by
   obtain ⟨bm,ob,b1,b2,b3,b4⟩:=hbm;refine ⟨bm,ob,b1,b2,base_of b3 ?_,b4⟩;cases q:H bm with
   | none=>rfl
   | some u=>
    have e':bm = a:=hA bm (by rw [q]; simp);subst e';rw [ha] at b3; cases b3;cases b4.2.2
  have hM:Mod K mg (zEr s₁.heap H):=⟨hKb,nsK hns,⟨mb,nsK hb,hbb⟩,let ⟨mc,h1,h2⟩:=hlim; ⟨mc,nsK h1,h2⟩,bmK⟩;have e0:Env0 P w K mg (zEr s₁.heap H) callerA [] s₁ H:=⟨rfl,hM,fun b o e=>zLd e,Nat.le_of_eq (zIu _ _),trivial,fun b hb=>absurd (show b ∈ ([]:List Addr) from hb) (by simp),hok,.of_eq hg⟩;refine codeAny_mono ((F _ hKb (nsK hns)).run callerA [] s₁ H ⟨[.ref a],[]⟩ [.ref a] [.ref a] _ _ hr e0 (hbind s₁ (.ref a)) (.cons rfl .nil) (hsp H hO hS)) fun r s' h=>?_;cases r with
  | error e=>exact (hCX H e s' h).elim
  | ok fl=>
   cases fl with
   | next=>exact False.elim h
   | brk=>exact False.elim h
   | cont=>exact False.elim h
   | ret u=>
    obtain ⟨v,H',os,bare,un,hok',r',q⟩:=h;have q':v = .bl true:=q;subst q';obtain rfl:u = Value.bool true:=r';refine ⟨rfl,OldK.of_keep fun b o e=>?_,os,bare⟩;cases q:H b with
    | none=>exact un.keep b o e q (by intro z; exact absurd (show b ∈ ([]:List Addr) from z) (by simp)) (by simp)
    | some u=>
     rcases hO b with z | ⟨ob,xs,z⟩
     ·rw [q] at z; cases z
     ·have z2:=un.frzs b ob _ z;obtain ⟨e1,_⟩:=hok b _ z;obtain ⟨e2,_⟩:=hok' b _ z2;rw [e] at e1; cases e1;exact e2
 cases hk:K.lookup a with
 | some o=>
  have e:=KX a o hk;rw [ha] at e;cases e;refine core (fun _=>none) (fun _=> .inl rfl) (.inr ⟨_,vs.toArray,_,hk,rfl,rfl,rfl,by rw [zQN,lenV]; exact hl,by simpa using rv⟩) (fun b u z=>by have z':(none:Option HO) = some u:=z; cases z') (fun b z=>absurd rfl z) fun z=>absurd rfl z
 | none=>
  refine core (fun b=>if b = a then some (.frz { cls:=.type "list", data:=.seq vs.toArray } (.lst (ns.map V.int))) else none) (fun b=>?_) (.inl (.inr ⟨{ cls:=.type "list", data:=.seq vs.toArray },zQU rfl⟩)) (fun b u z=>?_) (fun b z=>?_) fun _=>hk
  ·by_cases hb:b = a
   ·exact .inr ⟨_,_,zQU hb⟩
   ·exact .inl (zQX hb)
  ·by_cases hb:b = a
   ·have z':=(zQU hb).symm.trans z;cases z';subst hb;exact ⟨ha,by rw [zQO]; exact hl,vs,_,rv,ha⟩
   ·have z':=(zQX hb).symm.trans z;cases z'
  ·by_cases hb:b = a
   ·exact hb
   ·exact absurd (zQX hb) z
theorem zLv {l:PySem.W.OpenLaw} {n k:Nat} {q:Program} {loose:List Str} {XP:(Str -> Option Value) -> Heap -> Prop} {YP:World -> Heap -> Prop} {d:DefRec} {K:Params -> PySem.W.Frag} {CX:World -> CXT} {sp:World -> Sp} {x:Str}
  (hn:l.most = some n) (hn2:n <= sizeLine) (hdf:d.params.defaults = []) (hr:Room k callerA)
  (hY:∀ (w:World) (h:Heap),YP w h -> (K w.params).In h)
  (F:∀ (w:World) (mg:Str -> Option Value) (fa:Addr) (h:Heap),(K w.params).In h -> h.Ns mainGlobals mg -> mg d.name = some (.ref fa) ->
   ∃ fd:FuncData,(∀ (s:Shared) (u:Value),BindsTo s fd ⟨[u],[]⟩ [(x,u)]) /\
    ∀ base:Heap,(K w.params).In base -> base.Ns mainGlobals mg -> FnOk l.prog w (K w.params) mg base (CX w) k fa fd [x] (sp w))
  (hsp:∀ (w:World) (H:Hp) (a:Addr) (ns:List Int),ns.length <= n -> zL2 H -> SqL (K w.params) H a (ns.map V.int) -> sp w [.ref a] H (fun v _=>v = .bl true) fun _ _ _=>False)
  (hCX:∀ (w:World) (H:Hp) (s:Shared) (e:Value) (s':Shared),CX w [] H s (fun _ _ _=>False) e s' -> False) :
  PySem.W.WalkO q loose XP YP l.row.toRowW d [] (fun f vs=>PySem.call f vs):=by
 refine Att.zGg hn hdf fun w s₀ s₁ mg mb fa o pm cd doc a vs ns G Y ho hd hcd hmg hobj hints hlen hg=>?_;have KX:=hY w _ Y;obtain ⟨fd,hb,hF⟩:=F w mg fa _ KX G.T.g hmg;exact zKW KX G.T.g G.T.b G.T.builtins G.T.nolimit G.T.bmain hg hobj hints (zQg hlen hn2) hr hF hb (fun H hO hS=>hsp w H a ns hlen hO hS) fun H e s'=>hCX w H s₁ e s'
def zCS (s:Stmt):Arguments:=match s with
 | .FunctionDef _ a _ _ _ _ _ _ _ _=>a
 | _=>{ posonlyargs:=[],args:=[],vararg:=none,kwonlyargs:=[],kw_defaults:=[],kwarg:=none,defaults:=[] }
def zBY (s:Stmt):List Stmt:=match s with
 | .FunctionDef _ _ b _ _ _ _ _ _ _=>b
 | _=>[]
def zO (s:Stmt):Scope:=match s with
 | .FunctionDef _ _ _ _ _ _ sc _ _ _=>sc
 | _=>{ kind:=.function,names:=[],isGenerator:=false,isCoroutine:=false }
abbrev CX0:CXT:=fun _ _ _ _ _ _=>False
abbrev E0:XK:=fun _ _ _=>False
theorem zOa {X:Cx}:zHi CX0 X E0:=fun _ _ _ _ _ _ _ h=>h.elim
structure Fun (K:PySem.W.Frag) (x qual:Str) (st:Stmt) (f:Addr) (fd:FuncData):Prop where
 ex:∃ (oc:Value) (od:Option Addr) (kV doc pm:Value) (an:Option Addr) (cdv ct:Value) (osl:Array (Option Value)),
  fd = PySem.W.fnOf x qual (zCS st) (zBY st) (zO st) .none kV doc pm an cdv ct /\ K.lookup f = some ⟨oc,od,.func fd,osl⟩ /\ PySem.W.codeIn K cdv qual = true
 kp:PySem.W.keepIn K (.ref f) = true
section
variable {P:Program} {w:World} {K:PySem.W.Frag} {mg:Str -> Option Value} {base:Heap}
theorem Fun.ok {x qual:Str} {st:Stmt} {f:Addr} {fd:FuncData} {N ps:List Str} {k:Nat} {sp:Sp} (F:Fun K x qual st f fd) (S:FnScope N ps (zO st)) (len:∀ vs H Q E,sp vs H Q E -> vs.length = ps.length)
  (hbody:∀ (cdv:Value) (A:Around) (outer:List Env) (s:Shared) (H:Hp) (vs:List V) (Q:VK) (E:XK),Room k (A.deeper (envOfC qual (zO st) s.heap.objs.size f cdv)) -> sp vs H Q E ->
   ∃ t,PSs (zH0 CX0 P w K mg base N qual (zO st) f cdv A outer s H E).nox (zBY st) t /\ t { nx:=fun _ H'=>Q .non H',rt:=Q } (zCd N vs) H):FnOk P w K mg base CX0 (k + 1) f fd ps sp:=by
 obtain ⟨oc,od,kV,doc,pm,an,cdv,ct,osl,rfl,lk,hcd⟩:=F.ex;refine zO6 lk hcd S len fun A outer s H vs Q E hr hsp=>?_;obtain ⟨t,h,q⟩:=hbody cdv A outer s H vs Q E hr hsp;exact ⟨t,h.nox,q⟩
theorem Fun.binds {x qual:Str} {st:Stmt} {f:Addr} {fd:FuncData} {ps:List Str} (F:Fun K x qual st f fd)
  (h:∀ (kV doc pm:Value) (an:Option Addr) (cdv ct:Value) (us:List Value),us.length = ps.length -> bindArgs (PySem.W.fnOf x qual (zCS st) (zBY st) (zO st) .none kV doc pm an cdv ct) ⟨us,[]⟩ = pure (ps.zip us)):zEb K fd ps []:=by
 obtain ⟨oc,od,kV,doc,pm,an,cdv,ct,osl,rfl,lk,hcd⟩:=F.ex;exact .all (h kV doc pm an cdv ct)
theorem zLD {x qual:Str} {st:Stmt} {f:Addr} {oc:Value} {od an:Option Addr} {osl:Array (Option Value)} {kV doc pm cdv ct:Value} (l:K.lookup f = some ⟨oc,od,.func (PySem.W.fnOf x qual (zCS st) (zBY st) (zO st) .none kV doc pm an cdv ct),osl⟩)
  (c:PySem.W.codeIn K cdv qual = true) (k:PySem.W.keepIn K (.ref f) = true):Fun K x qual st f (PySem.W.fnOf x qual (zCS st) (zBY st) (zO st) .none kV doc pm an cdv ct):=⟨⟨oc,od,kV,doc,pm,an,cdv,ct,osl,rfl,l,c⟩,k⟩
end
theorem zIR {A:Around} {k:Nat} (hr:Room k A):A.units + 1 < cLine:=Nat.lt_of_le_of_lt (Nat.add_le_add_left (by decide:1 <= 64) _) hr.units
section
variable {X:Cx}
theorem pv (i:Nat) {x:Str} {pos:Pos} (hN:X.N[i]? = some x:=by rfl) (hv:Vis X.env.scope x:=by first | exact Or.inl rfl | exact Or.inr (Or.inl rfl) | exact Or.inr (Or.inr rfl)) (hd:(x == ("__debug__" : Str)) = false:=by decide)
  (hcd:(x == ("__classdict__" : Str)) = false:=by decide):PE X (.Name x pos) (zOU i):=zN2 hN hv hd hcd
end
theorem zHk {A B:Prop} (h:B):if false = true then A else B:=by
 rw [zQX zQb];exact h
theorem zHj {A B:Prop} (h:A):if true = true then A else B:=by
 rw [zQU rfl];exact h
section
variable {κ:Type} [DecidableEq κ]
def zB1 (kvs:List (κ × V)) (k:κ):Option V:=(kvs.find? fun kv=>decide (kv.1 = k)).map (·.2)
def zCV (kvs:List (κ × V)) (k:κ) (v:V):List (κ × V) :=
 if (kvs.any fun kv=>decide (kv.1 = k)) = true then kvs.map (fun kv=>if kv.1 = k then (kv.1,v) else kv) else kvs ++ [(k,v)]
theorem zC6 {p:κ × V} {r:List (κ × V)} {k:κ} (e:p.1 = k):zB1 (p :: r) k = some p.2:=by simp [zB1,zR1,e]
theorem zDA {p:κ × V} {r:List (κ × V)} {k:κ} (e:¬ p.1 = k):zB1 (p :: r) k = zB1 r k:=by simp [zB1,zR1,e]
theorem zG2 (k:κ):∀ kvs:List (κ × V),(kvs.any fun kv=>decide (kv.1 = k)) = (zB1 kvs k).isSome
 | []=>rfl
 | p :: r=>by
  rw [List.any_cons];by_cases e:p.1 = k
  ·simp only [zC6 e,zRN e,Bool.true_or,Option.isSome_some]
  ·rw [zDA e,zQo e,Bool.false_or]; exact zG2 k r
theorem zDj (kvs:List (κ × V)) (k:κ) (v:V):(zCV kvs k v).length <= kvs.length + 1:=by
 unfold zCV;split
 ·rw [zQO]; omega
 ·rw [zQV,List.length_cons,List.length_nil]; omega
theorem zEa.isSome_eq (r:zEa o u):o.isSome = u.isSome:=by
 cases o with
 | none=>cases u with
  | none=>rfl
  | some _=>exact (show False from r).elim
 | some _=>cases u with
  | none=>exact (show False from r).elim
  | some _=>rfl
theorem KV.val {kvs:List (κ × V)} {vs:List (κ × Value)} (r:KV kvs vs) (k:κ):zEa (zB1 kvs k) (valueAt vs k):=by
 unfold KV at r;induction r with
 | nil=>exact True.intro
 | @cons p q ps qs h t ih=>
  obtain ⟨h1,h2⟩:=h;by_cases e:p.1 = k
  ·have e':q.1 = k:=h1.symm.trans e;have b:valueAt (q :: qs) k = some q.2:=by simp [valueAt,zR1,e']
   rw [zC6 e,b]; exact h2
  ·have e':¬ q.1 = k:=fun z=>e (h1.trans z);have b:valueAt (q :: qs) k = valueAt qs k:=by simp [valueAt,zR1,e']
   rw [zDA e,b]; exact ih
theorem KV.any (r:KV kvs vs) (k:κ):(kvs.any fun kv=>decide (kv.1 = k)) = vs.any fun kv=>decide (kv.1 = k):=by
 unfold KV at r;induction r with
 | nil=>rfl
 | cons h t ih=>rw [List.any_cons,List.any_cons,ih,h.1]
theorem KV.repl (r:KV kvs vs) (k:κ) (ry:zf y u) :
  KV (kvs.map fun kv=>if kv.1 = k then (kv.1,y) else kv) (vs.map fun kv=>if kv.1 = k then (kv.1,u) else kv):=by
 unfold KV at r ⊢;induction r with
 | nil=>exact .nil
 | @cons p q ps qs h t ih=>
  rw [zQY,zQY];refine .cons ?_ ih;obtain ⟨h1,h2⟩:=h;by_cases e:p.1 = k
  ·rw [zQU e,zQU (h1.symm.trans e)]; exact ⟨h1,ry⟩
  ·rw [zQX e,zQX (fun z=>e (h1.trans z))]; exact ⟨h1,h2⟩
theorem KV.put (r:KV kvs vs) (k:κ) (ry:zf y u):KV (zCV kvs k y) (stored vs k u):=by
 unfold zCV stored;rw [r.any k];by_cases e:(vs.any fun kv=>decide (kv.1 = k)) = true
 ·rw [zQU e,zQU e]; exact r.repl k ry
 ·rw [zQX e,zQX e]; exact Paired.snoc r ⟨rfl,ry⟩
theorem KV.length (r:KV kvs vs):kvs.length = vs.length:=Paired.length r
end
theorem zIg (r:zf (kV k) u):(zw P w).is k u = true:=by
 cases k with
 | inl i=>obtain ⟨t,e⟩:=(show ∃ t,u = Value.int i t from r); subst e; exact zGf P w i t
 | inr x=>obtain ⟨t,e⟩:=(show ∃ t,u = Value.str x t from r); subst e; exact zHA P w x t
theorem zFD:∀ {ks:List Key} {us:List Value},zW (ks.map kV) us -> ItemsAre (zw P w) ks us
 | [],_,r=>by rw [List.map_nil] at r; cases r; exact .nil
 | k :: ks,_,r=>by
  rw [zQY] at r;cases r with
  | cons h t=>exact .cons (zIg h) (zFD t)
abbrev KT (H:Hp):List (List Key × V) -> List (List Key × Addr × Value) -> Prop:=Paired fun p q=>p.1 = q.1 /\ H q.2.1 = some (.tup (p.1.map kV)) /\ zf p.2 q.2.2
theorem KT.val {H:Hp} {kvs:List (List Key × V)} {xs:List (List Key × Addr × Value)} (r:KT H kvs xs) (k:List Key):zEa (zB1 kvs k) ((atKey xs k).map (·.2)):=by
 induction r with
 | nil=>exact True.intro
 | @cons p q ps qs h t ih=>
  obtain ⟨h1,_,h2⟩:=h;by_cases e:p.1 = k
  ·have e':q.1 = k:=h1.symm.trans e;have b:atKey (q :: qs) k = some q.2:=by simp [atKey,zR1,e']
   rw [zC6 e,b]; exact h2
  ·have e':¬ q.1 = k:=fun z=>e (h1.trans z);have b:atKey (q :: qs) k = atKey qs k:=by simp [atKey,zR1,e']
   rw [zDA e,b]; exact ih
theorem KT.repl (r:KT H kvs xs) (k:List Key) (ry:zf y u) :
  KT H (kvs.map fun kv=>if kv.1 = k then (kv.1,y) else kv) (xs.map (putAt k u)):=by
 induction r with
 | nil=>exact .nil
 | @cons p q ps qs h t ih=>
  rw [zQY,zQY];refine .cons ?_ ih;obtain ⟨h1,h2,h3⟩:=h;unfold putAt;by_cases e:p.1 = k
  ·rw [zQU e,zQU (h1.symm.trans e)]; exact ⟨h1,h2,ry⟩
  ·rw [zQX e,zQX (fun z=>e (h1.trans z))]; exact ⟨h1,h2,h3⟩
theorem KT.put (r:KT H kvs xs) (k:List Key) (hb:H b = some (.tup (k.map kV))) (ry:zf y u) :
  KT H (zCV kvs k y) (storedH xs k b u):=by
 have e:(kvs.any fun kv=>decide (kv.1 = k)) = (atKey xs k).isSome:=by
  rw [zG2,(r.val k).isSome_eq,Option.isSome_map]
 unfold zCV storedH;rw [e];by_cases q:(atKey xs k).isSome = true
 ·rw [zQU q,zQU q]; exact r.repl k ry
 ·rw [zQX q,zQX q]; exact Paired.snoc r ⟨rfl,hb,ry⟩
theorem KT.keeps (r:KT H kvs xs) (ht:∀ b ys,H b = some (.tup ys) -> H' b = some (.tup ys)):KT H' kvs xs :=
 Paired.mapP r fun _ _ z=>⟨z.1,ht _ _ z.2.1,z.2.2⟩
section
variable {P:Program} {w:World} {H:Hp} {h:Heap} {a:Addr}
theorem zMv (ok:HOk P w H h) (e:Rd H a u):zr P w H h a u:=e.ok ok
theorem zIf (ok:HOk P w H h) (e:Rd H a (.dK kvs)):kvs.length <= sizeLine /\ (a == sysModules) = false /\ ∃ vs,KV kvs vs /\ h.DictOf (zw P w) a vs :=
 show zr P w H h a (.dK kvs) from zMv ok e
theorem zOj (ok:HOk P w H h) (e:H a = some (.dK kvs)):kvs.length <= sizeLine /\ (a == sysModules) = false /\ ∃ vs,KV kvs vs /\ h.DictOf (zw P w) a vs:=zIf ok (.inl e)
theorem zFY (ok:HOk P w H h) (e:H a = some (.tup (ks.map kV))):(tupleKind (zw P w)).is h ks a:=by
 obtain ⟨_,its,r,o,h1,h2,⟨n,h3⟩,_⟩:=(show zr P w H h a (.tup (ks.map kV)) from ok a _ e);exact ⟨o,its.toArray,n,h1,h2,h3,by simpa using zFD r⟩
theorem zIJ (ok:HOk P w H h) (e:Rd H a (.dT kvs)):kvs.length <= sizeLine /\ (a == sysModules) = false /\
  ∃ xs,KT H kvs xs /\ h.DictOfH (tupleKind (zw P w)) a xs:=by
 obtain ⟨z,y,xs,r,o,es,ep,h1,h2,h3,h4,h5⟩:=(show zr P w H h a (.dT kvs) from zMv ok e);refine ⟨z,y,xs,r,o,es,ep,h1,h2,h3,h4,fun x hx=>?_,h5⟩;have all:∀ {l:List (List Key × V)} {m:List (List Key × Addr × Value)},KT H l m -> ∀ x ∈ m,(tupleKind (zw P w)).is h x.1 x.2.1:=by
  intro l m q;induction q with
  | nil=>intro x hx; exact nomatch hx
  | @cons p q ps qs hq t ih=>
   intro x hx;rcases zQR.mp hx with e | hx
   ·subst e;exact zFY ok (by rw [<- hq.1]; exact hq.2.1)
   ·exact ih x hx
 exact all r x hx
theorem zPI (ok:HOk P w H h) (e:H a = some (.dT kvs)):kvs.length <= sizeLine /\ (a == sysModules) = false /\
  ∃ xs,KT H kvs xs /\ h.DictOfH (tupleKind (zw P w)) a xs:=zIJ ok (.inl e)
end
def zCv (H:Hp) (a:Addr) (y:V) (r:Option V):Prop :=
 (∃ kvs k,Rd H a (.dK kvs) /\ y = kV k /\ r = zB1 kvs k) \/ ∃ kvs k b,Rd H a (.dT kvs) /\ y = .ref b /\ H b = some (.tup (k.map kV)) /\ r = zB1 kvs k
def zF6 (H:Hp) (a:Addr) (y v:V) (H':Hp):Prop :=
 (∃ kvs k,H a = some (.dK kvs) /\ y = kV k /\ kvs.length < sizeLine /\ H' = upd H a (.dK (zCV kvs k v))) \/
 ∃ kvs k b,H a = some (.dT kvs) /\ y = .ref b /\ H b = some (.tup (k.map kV)) /\ kvs.length < sizeLine /\ H' = upd H a (.dT (zCV kvs k v))
theorem zCv.k {H:Hp} {a:Addr} {kvs:List (Key × V)} {k:Key} (e:H a = some (.dK kvs)):zCv H a (kV k) (zB1 kvs k):=.inl ⟨kvs,k,.inl e,rfl,rfl⟩
theorem zCv.t {k:List Key} (e:H a = some (.dT kvs)) (eb:H b = some (.tup (k.map kV))):zCv H a (.ref b) (zB1 kvs k):=.inr ⟨kvs,k,b,.inl e,rfl,eb,rfl⟩
theorem zF6.k {H:Hp} {a:Addr} {kvs:List (Key × V)} {k:Key} {v:V} (e:H a = some (.dK kvs)) (hl:kvs.length < sizeLine):zF6 H a (kV k) v (upd H a (.dK (zCV kvs k v))):=.inl ⟨kvs,k,e,rfl,hl,rfl⟩
theorem zF6.t {kvs:List (List Key × V)} {k:List Key} (e:H a = some (.dT kvs)) (eb:H b = some (.tup (k.map kV))) (hl:kvs.length < sizeLine) :
  zF6 H a (.ref b) v (upd H a (.dT (zCV kvs k v))):=.inr ⟨kvs,k,b,e,rfl,eb,hl,rfl⟩
section
variable {X:Cx} {zB:List (Addr × Obj)} {σ:St} {H:Hp} {s:Shared} {a:Addr} {y v:V} {u r:Value} {o:Option V} {A:Around} {E:Value -> Shared -> Prop}
theorem Inv.big (I:Inv X zB σ H s):sysModules < s.heap.objs.size:=by
 have h:mainGlobals < s.heap.objs.size:=(I.mod.glob.keeps I.bk).lt;exact Nat.lt_trans (by decide) h
theorem zJP (hu:A.units + 1 < cLine) (I:Inv X zB σ H s) (g:zCv H a y (some v)) (ry:zf y u) (h:∀ w' s',Inv X zB σ H s' -> zf v w' -> Q w' s') :
  wpAny (model X.prog X.w) A (getItem (.ref a) u) Q E s:=by
 rcases g with ⟨kvs,k,e,ey,l⟩ | ⟨kvs,k,b,e,ey,eb,l⟩
 ·subst ey;obtain ⟨z,hd,vs,rel,dd⟩:=zIf I.hok e;obtain ⟨w',hw,rw'⟩:=zEa.some_of (by rw [l]; exact rel.val k);exact wpAny_getItem_of (zIg ry) dd.mapOf hw (h w' _ (I.tok _) rw')
 ·subst ey;cases (show u = Value.ref b from ry);obtain ⟨z,hd,xs,rel,dd⟩:=zIJ I.hok e;obtain ⟨w',hw,rw'⟩:=zEa.some_of (by rw [l]; exact rel.val k);obtain ⟨p,hp,hp2⟩:=Option.map_eq_some_iff.mp hw;refine wpAny_getItem_heap (tupleKind_room_in1 hu) (zFY I.hok eb) dd hp ?_;rw [hp2];exact h w' _ (I.tok _) rw'
theorem zQC (hu:A.units + 1 < cLine) (I:Inv X zB σ H s) (g:zCv H a y o) (ry:zf y u) (h:∀ s',Inv X zB σ H s' -> Q (.bool o.isSome) s') :
  wpAny (model X.prog X.w) A (compareOp .In u (.ref a)) Q E s:=by
 rcases g with ⟨kvs,k,e,ey,l⟩ | ⟨kvs,k,b,e,ey,eb,l⟩
 ·subst ey;obtain ⟨z,hd,vs,rel,dd⟩:=zIf I.hok e;refine wpAny_in_of (zIg ry) hd dd.mapOf ?_;rw [<- (rel.val k).isSome_eq,<- l];exact h _ (I.tok _)
 ·subst ey;cases (show u = Value.ref b from ry);obtain ⟨z,hd,xs,rel,dd⟩:=zIJ I.hok e;refine wpAny_in_heap (tupleKind_room_in1 hu) (zFY I.hok eb) hd dd ?_;have q:=(rel.val k).isSome_eq;rw [Option.isSome_map] at q;rw [<- q,<- l];exact h _ (I.tok _)
theorem zIU (I:Inv X zB σ H s) (mu:Mut (H a)) (hs:Heap.SameBut a s.heap h') (he:∃ q,h'.get? a = some q) (new:zr X.prog X.w (upd H a ob) h' a ob) :
  Inv X zB σ (upd H a ob) { s with heap:=h',toks:=t' } :=
 I.write mu (.inl rfl) (fun b q hb z=>(hs.2 b hb).trans z) he new
theorem zNs (z:kvs.length <= sizeLine) (hd:(a == sysModules) = false) (rel:KV kvs vs) (dd:h'.DictOf (zw P w) a vs) :
  zr P w H' h' a (.dK kvs):=⟨z,hd,vs,rel,dd⟩
theorem zJB (hu:A.units + 1 < cLine) (I:Inv X zB σ H s) (g:zF6 H a y v H') (ry:zf y u) (rv:zf v r) (h:∀ s',Inv X zB σ H' s' -> Q () s') :
  wpAny (model X.prog X.w) A (setItem (.ref a) u r) Q E s:=by
 rcases g with ⟨kvs,k,e,ey,l,eH⟩ | ⟨kvs,k,b,e,ey,eb,l,eH⟩
 ·subst ey eH;obtain ⟨z,hd,vs,rel,dd⟩:=zOj I.hok e;have hz:vs.length <= sizeLine:=by rw [<- rel.length]; exact z
  have hl:(zCV kvs k v).length <= sizeLine:=by have:=zDj kvs k v; omega
  refine wpAny_setItem_pairs (zIg ry) dd fun h' dd' hs=>h _ ?_;have he:∃ q,h'.get? a = some q:=let ⟨q,_,_,hq,_⟩:=dd'; ⟨q,hq⟩;exact zIU I (by rw [e]; exact True.intro) hs he (zNs hl hd (rel.put k rv) dd')
 ·subst ey eH;cases (show u = Value.ref b from ry);obtain ⟨z,hd,xs,rel,dd⟩:=zPI I.hok e;have hz:xs.length <= sizeLine:=by rw [<- Paired.length rel]; exact z
  have hl:(zCV kvs k v).length <= sizeLine:=by have:=zDj kvs k v; omega
  refine wpAny_setItem_heap (tupleKind_room_in1 hu) (zFY I.hok eb) dd fun h' dd' hs=>h _ ?_;obtain ⟨q,es,ep,hq,h2,h3,h4,_,h5⟩:=dd';refine zIU I (by rw [e]; exact True.intro) hs ⟨q,hq⟩ ⟨hl,hd,_,(rel.put k eb rv).keeps fun c ys ec=>?_,q,es,ep,hq,h2,h3,h4,h5⟩;rw [zR (zFP ec e (fun z=>nomatch z))];exact ec
end
def zOG (i:Expr):Prop:=∀ ov iv,subscripted i false ov iv = operate [ov,iv] (getItem ov iv)
theorem zL8 {prog:Program} {w:World} {A:Around} {E:Value -> Shared -> Prop} {s:Shared} {env:Env} {value slice:Expr} {pos:Pos} {T id:String} {Q:Value -> Shared -> Prop}
  (hl:typeLookup (.type T) "__getitem__" = pure (some (.builtin id))) (hs:zOG slice)
  (h:wpAny (model prog w) A (eval value env) (fun o s₁=>wpAny (model prog w) A (eval slice env) (fun i s₂=>s₂.TypeIs o T /\ wpAny (model prog w) A (getItem o i) Q E s₂) E s₁) E s) :
  wpAny (model prog w) A (eval (.Subscript value slice pos) env) Q E s:=by
 refine Subscript_ (zQl h (fun o s₁ h₁=>zQl h₁ (fun i s₂ h₂=>?_) fun _ _ x=>x) fun _ _ x=>x);obtain ⟨hT,h₂⟩:=h₂;unfold subscriptTail;refine zQF ?_;rw [getitemInPython_of_ne hT.not_modules];refine zQF (wpAny_specialOf hT hl ?_);have fin:wpAny (model prog w) A (subscripted slice false o i) (fun r s₃=>wpAny (model prog w) A (letTemporaryGo value o r >>= fun _=>pure r) Q E s₃) E s₂:=by
  rw [hs o i];exact wpAny_operating (zQl h₂ (fun r s₃ h₃=>zQF (wpAny_letTemporaryGo (zQH h₃))) fun _ _ x=>x)
 first
  | exact zQH (zQF fin)
  | exact zQF (zQH (zQF fin))
  | exact zQF fin
theorem zG6 (I:Inv X zB σ H s) (g:zCv H a y o):s.TypeIs (.ref a) "dict" := by
 rcases g with ⟨kvs,k,e,_,_⟩ | ⟨kvs,k,b,e,_,_,_⟩
 ·obtain ⟨_,_,vs,_,dd⟩:=zIf I.hok e;exact dd.typeIs
 ·obtain ⟨_,_,xs,_,dd⟩:=zIJ I.hok e;exact dd.typeIs
def zPF (td ty:TE):TE:=fun σ H Q=>td σ H fun x H1=>ty σ H1 fun y H2=>∃ a v,x = .ref a /\ zCv H2 a y (some v) /\ Q v H2
def zPv (ty td:TE):TE:=fun σ H Q=>ty σ H fun y H1=>td σ H1 fun x H2=>∃ a o,x = .ref a /\ zCv H2 a y o /\ Q (.bl o.isSome) H2
def zPD (td ty tv:TE):TS:=fun D σ H=>tv σ H fun v H1=>td σ H1 fun x H2=>ty σ H2 fun y H3=>∃ a H4,x = .ref a /\ zF6 H3 a y v H4 /\ D.nx σ H4
section
variable {X:Cx} {o i e value:Expr} {pos pos' tpos:Pos} {td ty tv:TE}
theorem zLr (hu:X.A.units + 1 < cLine) (ho:PE X o td) (hi:PE X i ty) (hs:zOG i):PE X (.Subscript o i pos) (zPF td ty):=by
 intro zB s σ H Q I h;refine zL8 PySem.F.slot_dict_getitem.lookup hs (thn (ho zB s σ H _ I h) fun u s1 ⟨x,H1,I1,rx,q1⟩=>thn (hi zB s1 σ H1 _ I1 q1) fun iv s2 ⟨y,H2,I2,ry,a,v,ex,g,q2⟩=>?_);subst ex;obtain rfl:u = Value.ref a:=rx;exact ⟨zG6 I2 g,zJP hu I2 g ry fun w' s3 I3 rw'=>⟨v,H2,I3,rw',q2⟩⟩
theorem zLE (hu:X.A.units + 1 < cLine) (hi:PE X i ty) (ho:PE X o td):PC X .In i o (zPv ty td):=by
 intro zB s σ H Q I h;refine thn (hi zB s σ H _ I h) fun iv s1 ⟨y,H1,I1,ry,q1⟩=>thn (ho zB s1 σ H1 _ I1 q1) fun u s2 ⟨x,H2,I2,rx,a,ov,ex,g,q2⟩=>?_;subst ex;obtain rfl:u = Value.ref a:=rx;exact zQC hu I2 g ry fun s3 I3=>⟨.bl ov.isSome,H2,I3,rfl,q2⟩
theorem zLZ (hu:X.A.units + 1 < cLine) (ho:PE X o td) (hi:PE X i ty) (hv:PE X value tv) (hs:swapsWith value (some (.Subscript o i pos')) pos.line X.env = pure false) :
  PS X (.Assign [.Subscript o i pos'] value pos) (zPD td ty tv):=by
 intro zB s σ H D I h;refine wpAny_Assign_Subscript (thn (hv zB s σ H _ I h) fun r s1 ⟨v,H1,I1,rv,q1⟩=>thn (ho zB s1 σ H1 _ I1 q1) fun u s2 ⟨x,H2,I2,rx,q2⟩=>thn (hi zB s2 σ H2 _ I2 q2) fun iv s3 ⟨y,H3,I3,ry,a,H4,ex,g,q3⟩=>?_) hs;subst ex;obtain rfl:u = Value.ref a:=rx;exact zJB hu I3 g ry rv fun s4 I4=>⟨σ,H4,I4,q3⟩
end
theorem zJ3 (h:Heap) (hb:sysModules < h.objs.size):zr P w H (h.push { cls:=.type "dict", data:=.dict #[] }) h.objs.size (.dK []) :=
 ⟨Nat.zero_le _,beq_eq_false_iff_ne.mpr (Ne.symm (zQa hb)),[],.nil,Heap.DictOf.new h⟩
def zNV:TE:=fun _ H Q=>∀ p,H p = none -> Q (.ref p) (upd H p (.dK []))
section
variable {X:Cx} {pos:Pos}
theorem zKj:PE X (.Dict [] [] pos) zNV:=fun zB s σ H Q I h=>
 wpAny_Dict_empty ⟨.ref s.heap.objs.size,_,I.laid (fun _ _ q=>zQG _ q) (zQL _) (zJ3 s.heap I.big),rfl,h _ (I.hok.fresh (zQL _))⟩
end
theorem zv:∀ (names:List (Str × NameKind)) (n:Nat) (acc:List (Str × Addr)),cellsFrom n names acc = cellsFrom n names [] ++ acc
 | [],_,_=>rfl
 | (name,kind) :: r,n,acc=>by
  unfold cellsFrom;split
  ·rw [zv r (n + 1) ((name,n) :: acc),zv r (n + 1) [(name,n)],List.append_assoc];rfl
  ·exact zv r n acc
theorem zBF {α:Type} (x:Str):∀ (l r:List (Str × α)),(l ++ r).lookup x = (match l.lookup x with | some c=>some c | none=>r.lookup x)
 | [],r=>rfl
 | (k,v) :: l,r=>by
  rw [List.cons_append,zSK,zSK];cases hb:x == k with
  | true=>rfl
  | false=>exact zBF x l r
theorem zCg:∀ (names:List (Str × NameKind)) (acc:List (Str × Addr)),
  (∀ y ∈ names,y.2 = .free -> ∃ c,env.cells.lookup y.1 = some c) ->
  (∀ x c,acc.lookup x = some c -> env.cells.lookup x = some c) ->
  ∃ cl:List (Str × Addr),(forIn names acc (fun (p:Str × NameKind) (cs:List (Str × Addr))=>(do
    if p.2 == .free then
     let a <- cellOf env p.1;pure (ForInStep.yield ((p.1,a) :: cs))
    else pure (ForInStep.yield cs):Sem (ForInStep (List (Str × Addr)))))) = pure cl /\
   (∀ x c,cl.lookup x = some c -> env.cells.lookup x = some c) /\
   (∀ x,(acc.lookup x).isSome = true -> (cl.lookup x).isSome = true) /\ ∀ y ∈ names,y.2 = .free -> (cl.lookup y.1).isSome = true
 | [],acc,_,ha=>⟨acc,by rw [List.forIn_nil],ha,fun _ h=>h,fun _ h=>nomatch h⟩
 | (n,k) :: r,acc,hf,ha=>by
  rw [List.forIn_cons];by_cases hk:k = .free
  ·subst hk;obtain ⟨c,hc⟩:=hf (n,.free) zQT rfl;have hco:cellOf env n = pure c:=by unfold cellOf; rw [hc]
   obtain ⟨cl,e,h1,h2,h3⟩:=zCg r ((n,c) :: acc) (fun y hy=>hf y (zQS _ hy)) (fun x d hx=>by
    rw [zSK] at hx;cases hb:x == n with
    | true=>rw [hb] at hx; cases hx; rw [beq_iff_eq.mp hb]; exact hc
    | false=>rw [hb] at hx; exact ha x d hx)
   refine ⟨cl,?_,h1,fun x hx=>h2 x ?_,fun y hy hk=>?_⟩
   ·rw [<- e];simp only [beq_self_eq_true,if_true,hco];rfl
   ·rw [zSK];cases hb:x == n with
    | true=>rfl
    | false=>exact hx
   ·rcases zQR.mp hy with z | z
    ·subst z;exact h2 n (by rw [zSK]; simp)
    ·exact h3 y z hk
  ·obtain ⟨cl,e,h1,h2,h3⟩:=zCg r acc (fun y hy=>hf y (zQS _ hy)) ha;refine ⟨cl,?_,h1,h2,fun y hy hk'=>?_⟩
   ·rw [<- e];have:(k == NameKind.free) = false:=by simpa using hk
    simp only [this,Bool.false_eq_true,if_false];rfl
   ·rcases zQR.mp hy with z | z
    ·subst z; exact absurd hk' hk
    ·exact h3 y z hk'
theorem zEx (hf:∀ y ∈ scope.names,y.2 = .free -> ∃ c,env.cells.lookup y.1 = some c) :
  ∃ cl,closureFor scope env = pure cl /\ (∀ x c,cl.lookup x = some c -> env.cells.lookup x = some c) /\ ∀ y ∈ scope.names,y.2 = .free -> (cl.lookup y.1).isSome = true:=by
 obtain ⟨cl,e,h1,_,h3⟩:=zCg scope.names [] hf (fun x c h=>nomatch h);refine ⟨cl,?_,h1,h3⟩;unfold closureFor;rw [show (pure cl:Sem _) = pure cl >>= pure from rfl,<- e]
theorem zHP
  (hQ:Q (newEnv scope s.heap.objs.size globals (cellsFrom (s.heap.objs.size + 1) scope.names cl) qual none .none (some env) builtinsNs)
   { s with heap:=pushCells (s.heap.push { cls:=.type "dict", data:=.dict #[] }) scope.names }) :
  wpAny M A (newFunctionEnv scope globals cl [] qual none .none (some env)) Q E s:=by
 simp only [newFunctionEnv,Option.isSome_some,if_true];refine zQF (wpAny_alloc ?_);refine zQF (wpAny_layCells _ (fun name kind cells=>by cases hkc:kind == NameKind.cell <;> simp [hkc]) _ _ _ _ ?_);rw [show ({ s with heap:=s.heap.push { cls:=.type "dict", data:=.dict #[] } }:Shared).heap.objs.size = s.heap.objs.size + 1 from zQv ..];exact zQF (zQH (zQH hQ))
def zAB (X:Cx) (zB:List (Addr × Obj)) (scope:Scope) (cl:List (Str × Addr)) (s:Shared) (H:Hp) (fp:List Addr):Cx where
 prog:=X.prog
 w:=X.w
 K:=X.K
 mg:=X.mg
 base:=X.base
 A:=X.A
 N:=X.N
 s₀:=s
 H₀:=H
 env:={ scope:=relabel scope X.env,locals:=s.heap.objs.size + 1,globals:=X.env.globals,cells:=cellsFrom (s.heap.objs.size + 1 + 1) scope.names cl,qual:=X.env.qual,func:=none,code:=X.env.code,frame:=X.env.frame,builtins:=X.env.builtins }
 outer:=X.stack
 stack:=X.stack
 ex:=fp
 fn:=fun x=>decide (scope.names.lookup x = some .cell)
 calm:=X.calm
 pn:=X.pn ++ zB
 xe:=fun _ _=>False
theorem zAR {scope:Scope} {env:Env} (x:Str):∀ {names:List (Str × NameKind)} {k:NameKind},
  (names.map fun (n,k)=>if (k == NameKind.free && env.scope.kind == .function && env.kindOf n == some .cell) then (n,NameKind.cell) else (n,k)).lookup x = some k ->
  names.lookup x = some k \/ (names.lookup x = some .free /\ k = .cell)
 | [],_,h=>by simp at h
 | (n,k') :: r,k,h=>by
  rw [zQY] at h;by_cases hc:(k' == NameKind.free && env.scope.kind == .function && env.kindOf n == some .cell) = true
  ·simp only [hc,if_true] at h;rw [zSK] at h ⊢;cases hb:x == n with
   | true=>
    rw [hb] at h;simp only [zQp,beq_iff_eq] at hc;exact .inr ⟨by rw [hc.1.1],(zRF h).symm⟩
   | false=>rw [hb] at h; exact zAR (scope:=scope) x h
  ·simp only [hc,Bool.false_eq_true,if_false] at h;rw [zSK] at h ⊢;cases hb:x == n with
   | true=>rw [hb] at h; exact .inl h
   | false=>rw [hb] at h; exact zAR (scope:=scope) x h
theorem zEJ:∀ (names:List (Str × NameKind)) (n:Nat) (acc:List (Str × Addr)) (x:Str) (c:Addr),(x,c) ∈ cellsFrom n names acc -> (x,c) ∉ acc -> (x,NameKind.cell) ∈ names
 | [],_,_,_,_,h,h'=>absurd h h'
 | (name,kind) :: r,n,acc,x,c,h,h'=>by
  unfold cellsFrom at h;split at h
  ·rename_i hk;by_cases e:(x,c) = (name,n)
   ·cases e;rw [beq_iff_eq] at hk;subst hk;exact zQT
   ·exact zQS _ (zEJ r _ _ x c h fun z=>(zQR.mp z).elim e h')
  ·exact zQS _ (zEJ r _ _ x c h h')
structure CompScope (X:Cx) (scope:Scope):Prop where
 kind:scope.kind = .function
 names:∀ y ∈ scope.names,y.2 = .local -> scope.names.lookup y.1 = some .local
 cells:∀ y ∈ scope.names,y.2 = .cell -> scope.names.lookup y.1 = some .cell
 free:∀ y ∈ scope.names,y.2 = .free -> X.env.kindOf y.1 = some .cell \/ X.env.kindOf y.1 = some .free
section
theorem zKI (S:CompScope X scope) (I:Inv X zB σ H s) (hf:∀ b ∈ fp,zCU X zB H b) (ho:∀ b:Nat,b ∈ fp -> b < s.heap.objs.size)
  (c1:∀ x c,cl.lookup x = some c -> X.env.cells.lookup x = some c) (c2:∀ y ∈ scope.names,y.2 = .free -> (cl.lookup y.1).isSome = true)
  (hl:σc.length = σ.length) (hσ:∀ (i:Nat) x v,X.N[i]? = some x -> σc[i]? = some (some v) -> (relabel scope X.env).names.lookup x ≠ none -> scope.names.lookup x = some .free /\ σ[i]? = some (some v))
  (lo:Obj) (hlo:∀ v,lo.data ≠ .cell v) (hfr:lo.isFreed = false)
  (h4:s4 = { s with heap:=pushCells ((s.heap.push lo).push { cls:=.type "dict", data:=.dict #[] }) scope.names }) :
  Inv (zAB X zB scope cl s H fp) [(s.heap.objs.size,lo)] σc H s4:=by
 subst h4;have sz1:(s.heap.push lo).objs.size = s.heap.objs.size + 1:=zQv ..;have sz2:((s.heap.push lo).push { cls:=.type "dict", data:=.dict #[] }).objs.size = s.heap.objs.size + 1 + 1:=by rw [zQv,sz1]
 have hk:∀ b o,s.heap.get? b = some o -> (pushCells ((s.heap.push lo).push { cls:=.type "dict", data:=.dict #[] }) scope.names).get? b = some o:=fun b o e=>
  pushCells_keeps _ _ b o (zQG _ (zQG _ e))
 have ok:=cellsFrom_ok scope.names ((s.heap.push lo).push { cls:=.type "dict", data:=.dict #[] }) (s.heap.objs.size + 1 + 1) [] ⟨fun _ _ hm=>(nomatch hm),List.Pairwise.nil⟩ (by rw [sz2]; exact zQL _);rw [sz2] at ok;have look:∀ x c,(cellsFrom (s.heap.objs.size + 1 + 1) scope.names cl).lookup x = some c -> ((cellsFrom (s.heap.objs.size + 1 + 1) scope.names []).lookup x = some c) \/ ((cellsFrom (s.heap.objs.size + 1 + 1) scope.names []).lookup x = none /\ X.env.cells.lookup x = some c):=fun x c e=>by
  rw [zv,zBF] at e;cases q:(cellsFrom (s.heap.objs.size + 1 + 1) scope.names []).lookup x with
  | some d=>rw [q] at e; exact .inl e
  | none=>rw [q] at e; exact .inr ⟨rfl,c1 x c e⟩
 have old:∀ x (c:Nat),X.env.cells.lookup x = some c -> c < s.heap.objs.size:=fun x c e=>let ⟨_,q⟩:=I.cell x c e; q.lt;have new:∀ x (c:Nat),(cellsFrom (s.heap.objs.size + 1 + 1) scope.names []).lookup x = some c -> s.heap.objs.size + 1 + 1 <= c:=fun x c e=>(ok.empty x c (zRH e)).2;have own:∀ x,scope.names.lookup x = some .cell -> ∃ c,(cellsFrom (s.heap.objs.size + 1 + 1) scope.names []).lookup x = some c:=fun x e=>zEO e;have cne:∀ x (c:Nat),(cellsFrom (s.heap.objs.size + 1 + 1) scope.names cl).lookup x = some c -> c < s.heap.objs.size \/ s.heap.objs.size + 1 + 1 <= c:=fun x c e=>by
  rcases look x c e with q | ⟨_,q⟩
  ·exact .inr (new x c q)
  ·exact .inl (old x c q)
 refine ⟨⟨I.ok.mod,S.kind,I.ok.glob,I.ok.blt,Nat.le_succ _,fun x y c h1 h2=>?_,fun x hx=>?_,fun x c hx h=>?_,I.ok.hd,I.ok.frames,.inl rfl,fun b hb=>⟨?_,fun x c e z=>?_⟩,I.bs,zQg I.ok.bsz I.sz,fun b o e hb=>?_,fun b hb z=>?_,I.stack,I.stkFree⟩,
  rfl,I.bare,Un.kept hk,⟨fun _=>none,?_,fun i x v h1 h2 h3=>?_⟩,fun x c e=>?_,I.hok.fresh (Nat.le_succ _),fun x c e=>?_,fun p hp=>?_,I.hok.kept hk,hl.trans I.len⟩
 ·rcases look x c h1 with a | ⟨_,a⟩ <;> rcases look y c h2 with b | ⟨_,b⟩
  ·exact name_of_addr ok.apart (zRH a) (zRH b)
  ·exact absurd (Nat.lt_of_le_of_lt (new x c a) (old y c b)) (by omega)
  ·exact absurd (Nat.lt_of_le_of_lt (new y c b) (old x c a)) (by omega)
  ·exact I.ok.inj x y c a b
 ·have hx':(relabel scope X.env).names.lookup x = some .cell \/ (relabel scope X.env).names.lookup x = some .free:=hx;have go:scope.names.lookup x = some .cell \/ scope.names.lookup x = some .free:=by
   rcases hx' with q | q
   ·rcases zAR (scope:=scope) x q with z | z
    ·exact .inl z
    ·exact .inr z.1
   ·rcases zAR (scope:=scope) x q with z | z
    ·exact .inr z
    ·exact .inr z.1
  show ∃ c,(cellsFrom (s.heap.objs.size + 1 + 1) scope.names cl).lookup x = some c;rw [zv,zBF];rcases go with q | q
  ·obtain ⟨c,e⟩:=own x q;exact ⟨c,by rw [e]⟩
  ·cases e:(cellsFrom (s.heap.objs.size + 1 + 1) scope.names []).lookup x with
   | some d=>exact ⟨d,rfl⟩
   | none=>exact Option.isSome_iff_exists.mp (c2 (x,.free) (zRH q) rfl)
 ·obtain ⟨d,e⟩:=own x (of_decide_eq_true hx);have h':(cellsFrom (s.heap.objs.size + 1 + 1) scope.names cl).lookup x = some c:=h;rw [zv,zBF,e] at h';cases h';exact zQg (zQg (Nat.le_succ _) (Nat.le_succ _)) (new x _ e)
 ·exact zQa (Nat.lt_succ_of_lt (ho b hb))
 ·rcases look x c e with q | ⟨_,q⟩
  ·have a:=new x c q;rw [z] at a;exact absurd (Nat.lt_of_le_of_lt a (ho b hb)) (by omega)
  ·exact (hf b hb).2.2.2.2.1 x c q z
 ·rcases (hf b hb).2.2.2.1 with z | z
  ·exact I.ok.noex b o e z
  ·exact absurd (zQe (zQQ e) (zQg I.ok.bsz z)) (Nat.lt_irrefl _)
 ·rcases zQR.mp (I.stkSub b z) with q | q
  ·exact (hf b hb).2.1 q
  ·exact (hf b hb).2.2.1 q
 ·have q:((s.heap.push lo).push { cls:=.type "dict", data:=.dict #[] }).Ns (s.heap.push lo).objs.size (fun _=>none):=Heap.Ns.new ..;rw [sz1] at q;exact q.keeps (pushCells_keeps _ _)
 ·have h3':(relabel scope X.env).names.lookup x ≠ none:=by
   rcases h3 with z | z | z <;> (intro q; have z':(relabel scope X.env).names.lookup x = _:=z; rw [q] at z'; cases z')
  obtain ⟨fr,hv⟩:=hσ i x v h1 h2 h3';obtain ⟨m,hn,hlk⟩:=I.loc;have kx:=S.free (x,.free) (zRH fr) rfl;obtain ⟨u,rv,lk⟩:=hlk i x v h1 hv (by rcases kx with z | z; exact .inr (.inl z); exact .inr (.inr z));refine ⟨u,rv,?_⟩;rcases lk with ⟨z,_⟩ | ⟨_,c,e,ic⟩
  ·rcases kx with k | k <;> (rw [k] at z; cases z)
  ·have kind:(relabel scope X.env).names.lookup x = some .cell \/ (relabel scope X.env).names.lookup x = some .free:=by
    cases q:(relabel scope X.env).names.lookup x with
    | none=>exact absurd q h3'
    | some k=>
     rcases zAR (scope:=scope) x q with z | z
     ·rw [fr] at z; cases z; exact .inr rfl
     ·rw [z.2]; exact .inl rfl
   refine .inr ⟨kind,c,?_,ic.keeps hk⟩;show (cellsFrom (s.heap.objs.size + 1 + 1) scope.names cl).lookup x = some c;rw [zv,zBF];obtain ⟨d,hd⟩:=Option.isSome_iff_exists.mp (c2 (x,.free) (zRH fr) rfl);have:=c1 x d hd;rw [e] at this; cases this;have nn:(cellsFrom (s.heap.objs.size + 1 + 1) scope.names []).lookup x = none:=by
    cases q:(cellsFrom (s.heap.objs.size + 1 + 1) scope.names []).lookup x with
    | none=>rfl
    | some d'=>
     have z:=S.cells (x,.cell) (zEJ scope.names _ [] x d' (zRH q) fun z=>nomatch z) rfl;rw [fr] at z; cases z
   rw [nn]; exact hd
 ·rcases look x c e with q | ⟨_,q⟩
  ·exact ⟨none,(ok.empty x c (zRH q)).1⟩
  ·obtain ⟨v,z⟩:=I.cell x c q;exact ⟨v,z.keeps hk⟩
 ·rcases look x c e with q | ⟨_,q⟩
  ·exact I.hok.fresh (by have:=new x c q; omega)
  ·exact I.freeC x c q
 ·have hp':p ∈ X.pn ++ zB \/ p = (s.heap.objs.size,lo):=by
   rcases zQf.mp hp with z | z
   ·exact .inl z
   ·exact .inr (by simpa using z)
  rcases hp' with z | z
  ·obtain ⟨e,n,ne,nf,d⟩:=I.pin p z;have lt:(p.1:Nat) < s.heap.objs.size:=zQQ e;refine ⟨hk _ _ e,n,?_,fun q=>?_,d⟩
   ·exact zQa (Nat.lt_succ_of_lt lt)
   ·rcases zQR.mp (I.stkSub _ q) with r | r
    ·exact ne r
    ·exact nf r
  ·subst z;refine ⟨pushCells_keeps _ _ _ _ (zQG _ (zQP _ hfr)),I.hok.fresh (zQL _),?_,fun q=>?_,hlo⟩
   ·show s.heap.objs.size ≠ s.heap.objs.size + 1;omega
   ·rcases zQR.mp (I.stkSub _ q) with r | r
    ·exact absurd I.lt (by rw [<- r]; exact Nat.lt_irrefl _)
    ·exact I.nofs (zQL _) r
end
def clr (own:List Nat) (σ:St):St:=own.foldl (fun σ i=>σ.set i none) σ
theorem zEc:∀ (own:List Nat) (σ:St),(clr own σ).length = σ.length
 | [],_=>rfl
 | i :: r,σ=>by
  show (clr r (σ.set i none)).length = _;rw [zEc r,List.length_set]
theorem zFV:∀ (own:List Nat) (σ:St) (j:Nat) (v:V),(clr own σ)[j]? = some (some v) -> σ[j]? = some (some v) /\ j ∉ own
 | [],_,_,_,h=>⟨h,fun z=>nomatch z⟩
 | i :: r,σ,j,v,h=>by
  have h':(clr r (σ.set i none))[j]? = some (some v):=h;obtain ⟨a,b⟩:=zFV r _ j v h';rw [zRo] at a;split at a
  ·split at a <;> cases a
  ·rename_i hne;exact ⟨a,fun z=>(zQR.mp z).elim (fun e=>hne e.symm) b⟩
def Ext (a b:St):Prop:=b.length = a.length /\ ∀ (i:Nat) v,a[i]? = some (some v) -> b[i]? = some (some v)
theorem Ext.refl (a:St):Ext a a:=⟨rfl,fun _ _ h=>h⟩
theorem Ext.set (e:Ext (clr own σ) a) (h:i ∈ own):Ext (clr own σ) (a.set i (some v)):=by
 refine ⟨by rw [List.length_set]; exact e.1,fun j u q=>?_⟩;rw [zRo];split
 ·rename_i z;exact absurd (z ▸ h) (zFV own σ j u q).2
 ·exact e.2 j u q
def zLA (X:Cx) (ifs:List Expr) (t:TT):Prop :=
 ∀ (zB:List (Addr × Obj)) (s:Shared) (σ:St) (H:Hp) (Q:Bool -> Hp -> Prop),Inv X zB σ H s -> t σ H Q ->
  wpAny (model X.prog X.w) X.A (forIn ifs true fun c r=>if r = true then do let ok <- isTrue c X.env (eval c X.env); pure (ForInStep.yield ok) else pure (ForInStep.yield r)) (TP X zB σ Q) X.xe s
def zPx:TT:=fun _ H Q=>Q true H
theorem zKa:zLA X [] zPx:=fun _ _ _ H _ I h=>wpAny_tests_nil ⟨H,I,h⟩
theorem zJ7 (h:PT X c t):zLA X [c] t:=fun zB s σ H Q I hq=>wpAny_tests_one (h zB s σ H Q I hq)
section
theorem zFU (I:Nat -> Shared -> Prop)
  (turn:∀ n s,I n s -> wpAny (model prog w) A (pyNext it) (fun r s₁=>match r with
   | none=>R (.ok .next) s₁
   | some v=>wpAny (model prog w) A (letOwnedTupleGo target it v) (fun _ s₁'=>wpAny (model prog w) A (assign target env v) (fun _ s₂=>
     wpAny (model prog w) A (forIn ifs true fun c r=>if r = true then do let ok <- isTrue c env (eval c env); pure (ForInStep.yield ok) else pure (ForInStep.yield r)) (fun ok s₃=>
      if ok = true then wpAny (model prog w) A (eval elt env) (fun x s₄=>
       wpAny (model prog w) A (call (.builtin "list.append") [acc,x]) (fun _ s₅=>∃ m,m < n /\ I m s₅) (fun _ _=>False) s₄) (fun _ _=>False) s₃
      else ∃ m,m < n /\ I m s₃) (fun _ _=>False) s₂) (fun _ _=>False) s₁') (fun _ _=>False) s₁) (fun _ _=>False) s)
  (n:Nat) (h:I n s) :
  codeAny (model prog w) A (.compLoop (.ListComp elt [⟨target,iter,ifs,0⟩] scope pos) 0 it acc env) R s:=by
 refine codeAny_loop rfl I (fun n s hI=>?_) n h;show wpAny _ A ((compTurn (.ListComp elt [⟨target,iter,ifs,0⟩] scope pos) 0 it acc env).onRaise (fun x=>do noteFrame x env; theTreesLotGoes x)) _ _ s;refine wpAny_noted ?_;rw [compTurn_list];refine zQF (wpAny_standAt (zQF (zQl (turn n s hI) (fun r s₁ h₁=>?_) fun _ _ h'=>h'.elim)));cases r with
 | none=>exact zQH h₁
 | some v=>
  refine zQF (zQl h₁ (fun _ s₁' h₁'=>?_) fun _ _ h'=>h'.elim);refine zQF (zQl h₁' (fun _ s₂ h₂=>zQF (zQl h₂ (fun ok s₃ h₃=>?_) fun _ _ h'=>h'.elim)) fun _ _ h'=>h'.elim);cases ok with
  | false=>exact zQH ⟨rfl,h₃⟩
  | true=>
   exact zQF (zQF (zQl h₃ (fun x s₄ h₄=>zQF (zQl h₄ (fun _ s₅ h₅=>zQH (zQH ⟨rfl,h₅⟩)) fun _ _ h'=>h'.elim)) fun _ _ h'=>h'.elim))
end
def zJh (own:List Nat) (wi:TI) (g:TG) (tc:TT) (te:TE):TE:=fun σ H Q=>wi σ H fun J H1=>∃ W:Nat -> Nat -> List V -> Hp -> Prop,(∃ m,W 0 m [] H1) /\ ∀ i m ys H,W i m ys H ->
 (J.stop i H /\ ys.length <= sizeLine /\ ∀ D,H D = none -> Q (.ref D) (upd H D (.lst ys))) \/
 (J.go i H /\ ∀ x H',J.yld i H x H' -> g x (clr own σ) H' fun σ2 H2=>Ext (clr own σ) σ2 /\ tc σ2 H2 fun b H3=>
  if b = true then te σ2 H3 fun v H4=>ys.length < sizeLine /\ ∃ m',m' < m /\ W (i + 1) m' (ys ++ [v]) H4 else ∃ m',m' < m /\ W (i + 1) m' ys H3)
abbrev zAT (its:List Value) (n:Nat):Obj:={ cls:=.type "list", data:=.seq its.toArray n }
section
theorem Inv.repin (I:Inv X (pl ++ [(D,o)]) σ H s) (hpl:∀ p ∈ X.pn ++ pl,p.1 ≠ D) (hs:Heap.SameBut D s.heap h') (hD:X.s₀.heap.objs.size <= D) (hc:∀ x c,X.env.cells.lookup x = some c -> c ≠ D)
  (e:h'.get? D = some o') (hn:∀ v,o'.data ≠ .cell v):Inv X (pl ++ [(D,o')]) σ H { s with heap:=h' }:=by
 obtain ⟨e0,n0,ne0,nf0,d0⟩:=I.pin (D,o) (by simp);have I1:Inv X pl σ H s:=I.pins_of fun p hp=>I.pin p (by simp [hp]);have I2:Inv X pl σ H { s with heap:=h' }:=I1.turned (fun b u hb q=>hs.extBut b u hb q) n0 ne0 (.inr hD) hc hpl;exact I2.pins_of fun p hp=>by
  rcases zQf.mp hp with z | z
  ·exact I2.pin p (zQZ _ z)
  ·have:p = (D,o'):=by simpa using z
   subst this;exact ⟨e,n0,ne0,nf0,hn⟩
end
section
variable {pos:Pos}
 {own:List Nat} {g:TG} {tc:TT} {te:TE} {E:Value -> Shared -> Prop}
structure CompIn (X:Cx) (scope:Scope) (own:List Nat):Prop where
 sc:CompScope X scope
 nm:∀ (i:Nat) x,X.N[i]? = some x -> i ∈ own \/ scope.names.lookup x = none \/ scope.names.lookup x = some .free
theorem zFs (x:Str) (h:scope.names.lookup x = none):(relabel scope env).names.lookup x = none:=by
 cases q:(relabel scope env).names.lookup x with
 | none=>rfl
 | some k=>
  rcases zAR (scope:=scope) x q with z | z
  ·rw [h] at z; cases z
  ·rw [h] at z; cases z.1
theorem zEM (C:CompIn X scope own) (hcalm:X.calm = true) (I:Inv X zB σ H s) (T:Turn X.prog X.w X.K tg J fp it tn) (st:tn 0 s.heap) (hf:∀ b ∈ fp,zCU X zB H b)
  (c1:∀ x c,cl.lookup x = some c -> X.env.cells.lookup x = some c) (c2:∀ y ∈ scope.names,y.2 = .free -> (cl.lookup y.1).isSome = true)
  (hg:PG (zAB X zB scope cl s H fp) tg g) (hi:zLA (zAB X zB scope cl s H fp) ifs tc) (he:PE (zAB X zB scope cl s H fp) elt te)
  {RR:Value -> Addr -> Result -> Shared -> Prop} {QQ:List V -> Hp -> Prop} {W:Nat -> Nat -> List V -> Hp -> Prop} {m0:Nat} (w0:W 0 m0 [] H)
  (turn:∀ i m ys H,W i m ys H -> (J.stop i H /\ ys.length <= sizeLine /\ QQ ys H) \/
   (J.go i H /\ ∀ x H',J.yld i H x H' -> g x (clr own σ) H' fun σ2 H2=>Ext (clr own σ) σ2 /\ tc σ2 H2 fun b H3=>
    if b = true then te σ2 H3 fun v H4=>ys.length < sizeLine /\ ∃ m',m' < m /\ W (i + 1) m' (ys ++ [v]) H4 else ∃ m',m' < m /\ W (i + 1) m' ys H3))
  (fin:∀ σc H' s' its n ys,Inv (zAB X zB scope cl s H fp) [(s.heap.objs.size,zAT its n)] σc H' s' -> zW ys its -> ys.length <= sizeLine -> QQ ys H' -> RR (.ref s.heap.objs.size) (s.heap.objs.size + 1) (.ok .next) s') :
  wpAny (model X.prog X.w) X.A (newList []) (fun acc s₃=>wpAny (model X.prog X.w) X.A (newFunctionEnv scope X.env.globals cl [] X.env.qual none .none (some X.env)) (fun cenv s₄=>
   codeAny (model X.prog X.w) X.A (.compStart (.ListComp elt [⟨tg,iter,ifs,0⟩] scope pos) 0 (.ref it) acc { cenv with scope:=relabel scope X.env }) (RR acc cenv.locals) s₄) E s₃) E s:=by
 have ob:∀ b:Nat,b ∈ fp -> b < s.heap.objs.size:=fun b hb=>let ⟨_,e,_⟩:=T.obj 0 _ st b hb; zQQ e;refine zQi (zHP ?_);have sz1:(s.heap.push (zAT [] 0)).objs.size = s.heap.objs.size + 1:=zQv ..;have I4:=zKI C.sc I hf ob c1 c2 (zEc own σ) (fun i x v h1 h2 h3=>by
  obtain ⟨a,b⟩:=zFV own σ i v h2;rcases C.nm i x h1 with z | z | z
  ·exact absurd z b
  ·exact absurd (zFs x z) h3
  ·exact ⟨z,a⟩) (zAT [] 0) (by intro v z; cases z) rfl rfl
 have st4:tn 0 (pushCells ((s.heap.push (zAT [] 0)).push { cls:=.type "dict", data:=.dict #[] }) scope.names):=T.keep 0 _ _ st fun b _ o e=>pushCells_keeps _ _ b o (zQG _ (zQG _ e));unfold newEnv;rw [sz1];have hDfp:s.heap.objs.size ∉ fp:=fun z=>Nat.lt_irrefl _ (ob _ z);have hcD:∀ x c,(zAB X zB scope cl s H fp).env.cells.lookup x = some c -> c ≠ s.heap.objs.size:=fun x c e z=>by
  obtain ⟨v,o,ho,hd⟩:=I4.cell x c e;obtain ⟨q,_⟩:=I4.pin (s.heap.objs.size,zAT [] 0) (by simp);rw [z,q] at ho;cases ho; cases hd
 have fpk:∀ {H':Hp} {pl:List (Addr × Obj)},(∀ b ∈ fp,H' b = none) -> (∀ p ∈ pl,p.1 = s.heap.objs.size) -> ∀ b ∈ fp,zCU (zAB X zB scope cl s H fp) pl H' b:=fun {H' pl} hn hp b hb=>
  ⟨hn b hb,(I4.ok.exf b hb).1,I4.ok.exfs b hb,.inl hb,(I4.ok.exf b hb).2,fun p hq=>by
   rcases zQf.mp hq with z | z
   ·exact (hf b hb).2.2.2.2.2 p z
   ·intro e;have e2:=hp p z;rw [e] at e2;exact hDfp (e2 ▸ hb)⟩
 have loop:codeAny (model X.prog X.w) X.A (.compLoop (.ListComp elt [⟨tg,iter,ifs,0⟩] scope pos) 0 (.ref it) (.ref s.heap.objs.size) (zAB X zB scope cl s H fp).env) (RR (.ref s.heap.objs.size) (s.heap.objs.size + 1))
   { s with heap:=pushCells ((s.heap.push (zAT [] 0)).push { cls:=.type "dict", data:=.dict #[] }) scope.names }:=by
  refine zFU (fun n s'=>∃ i H' ys its k,Inv (zAB X zB scope cl s H fp) [(s.heap.objs.size,zAT its k)] (clr own σ) H' s' /\ zW ys its /\ tn i s'.heap /\ (∀ b ∈ fp,H' b = none) /\ W i n ys H') ?_ m0
   ⟨0,H,[],[],0,I4,.nil,st4,fun b hb=>(hf b hb).1,w0⟩
  rintro n s5 ⟨i,H5,ys,its,k,I5,r5,st5,f5,w5⟩;have pinD:∀ p ∈ [(s.heap.objs.size,zAT its k)],p.1 = s.heap.objs.size:=fun p hp=>by
   have:p = (s.heap.objs.size,zAT its k):=by simpa using hp
   rw [this]
  rcases turn i n ys H5 w5 with ⟨stop,hz,qq⟩ | ⟨go,step⟩
  ·refine thn (T.done (zAB X zB scope cl s H fp) rfl rfl rfl hcalm i _ s5 _ H5 _ I5 (fpk f5 pinD) st5 stop) fun r s6 ⟨hr,I6⟩=>?_;subst hr;exact fin _ H5 s6 its k ys I6 r5 hz qq
  ·refine thn (T.item (zAB X zB scope cl s H fp) rfl rfl rfl hcalm i _ s5 _ H5 _ I5 (fpk f5 pinD) st5 go) fun r s6 ⟨u,hr,h6⟩=>?_;subst hr;refine thn h6 fun _ s7 ⟨x,H7,I7,r7,y7,st7,f7⟩=>?_;have I7':=I7.pinned (fpk f7 pinD) (T.obj _ _ st7);refine thn (hg _ s7 _ H7 x u _ I7' r7 (step x H7 y7)) fun _ s8 ⟨σ8,H8,I8,x8,q8⟩=>?_;refine thn (hi _ s8 σ8 H8 _ I8 q8) fun ok s9 ⟨H9,I9,q9⟩=>?_;have back:∀ {s':Shared} {Hx:Hp},Inv (zAB X zB scope cl s H fp) ([(s.heap.objs.size,zAT its k)] ++ zEh fp s7.heap) σ8 Hx s' -> tn (i + 1) s'.heap /\ ∀ b ∈ fp,Hx b = none:=fun {s' Hx} Ix=>
    ⟨T.keep _ _ _ st7 fun b hb o e=>(Ix.pin (b,o) (zQZ _ (zQZ _ (zBn hb e)))).1,fun b hb=>by
     obtain ⟨o,e,d⟩:=T.obj _ _ st7 b hb;exact (Ix.pin (b,o) (zQZ _ (zQZ _ (zBn hb e)))).2.1⟩
   cases ok with
   | false=>
    obtain ⟨m',hm,w'⟩:=q9;obtain ⟨b1,b2⟩:=back I9;exact ⟨m',hm,i + 1,H9,ys,its,k,(I9.weak (by rw [x8.1]) x8.2).unpinned,r5,b1,b2,w'⟩
   | true=>
    refine thn (he _ s9 σ8 H9 _ I9 q9) fun v s10 ⟨y,H10,I10,r10,hlt,m',hm,w'⟩=>?_;obtain ⟨b1,b2⟩:=back I10;have J10:=(I10.weak (by rw [x8.1]) x8.2).unpinned;obtain ⟨e10,n10,ne10,nf10,d10⟩:=J10.pin (s.heap.objs.size,zAT its k) (by simp);have hlen:its.toArray.size <= sizeLine:=by
     have:=r5.length;rw [zQN,<- this];exact Nat.le_of_lt hlt
    refine wpAny_list_append_plain (show s10.heap.PlainList s.heap.objs.size its.toArray from ⟨k,e10⟩) fun h' hl' hs'=>?_;obtain ⟨k',e'⟩:=hl';have e'':h'.get? s.heap.objs.size = some (zAT (its ++ [v]) k'):=by rw [e']; simp [zAT]
    refine ⟨m',hm,i + 1,H10,ys ++ [y],its ++ [v],k',?_,r5.append (.cons r10 .nil),T.keep _ _ _ b1 fun b hb o e=>hs'.extBut b o (fun z=>hDfp (z ▸ hb)) e,b2,w'⟩;refine Inv.repin (pl:=[]) J10 (fun p hp=>?_) hs' (zQL _) hcD e'' (by intro v z; cases z);rw [zQz] at hp;have hp':p ∈ X.pn ++ zB:=hp;exact zQa (zQQ (I.pin p hp').1)
 exact codeAny_compStart_list loop (T.self _ 0 _ _ _ st4 loop)
end
section
theorem zGl (I:Inv X zB σ H s) (hf:∀ b ∈ fp,zCU X zB H b)
  (Ic:Inv (zAB X zB scope cl s H fp) [(s.heap.objs.size,zAT its n)] σc H' s') (rv:zW ys its) (hz:ys.length <= sizeLine) (hs:Heap.SameBut (s.heap.objs.size + 1) s'.heap h') :
  Inv X zB σ (upd H' s.heap.objs.size (.lst ys)) { s' with heap:=h' } /\ H' s.heap.objs.size = none:=by
 obtain ⟨eD,nD,_⟩:=Ic.pin (s.heap.objs.size,zAT its n) (by simp);have nC:H' (s.heap.objs.size + 1) = none:=Ic.free;have eD':h'.get? s.heap.objs.size = some (zAT its n):=hs.extBut _ _ (zQa (Nat.lt_succ_self _)) eD;have lt1:∀ {b:Addr} {o:Obj},s.heap.get? b = some o -> b ≠ s.heap.objs.size + 1 /\ b ≠ s.heap.objs.size:=fun e=>⟨zQa (Nat.lt_succ_of_lt (zQQ e)),zQa (zQQ e)⟩;have tr:∀ b u,H' b = some u -> b ≠ s.heap.objs.size + 1 /\ b ≠ s.heap.objs.size:=fun b u e=>⟨fun z=>(by rw [z,nC] at e; cases e),fun z=>(by rw [z,nD] at e; cases e)⟩;refine ⟨?_,nD⟩;have B:=Ic.base;have un:Un (frs X.stack) fp H (upd H' s.heap.objs.size (.lst ys)) s.heap h':=by
  refine ⟨fun b o e q hb hx=>hs.extBut b o (lt1 e).1 (B.keep b o e q hb hx),fun b o e q hb hx=>?_,fun b o e q hx=>?_,fun b o e hx=>?_,fun b xs e=>?_,fun b o xs e=>?_,fun b ps e=>?_⟩
  ·obtain ⟨sl,e1⟩:=B.slot b o e q hb hx;exact ⟨sl,hs.extBut b _ (lt1 e).1 e1⟩
  ·rw [zR (lt1 e).2]; exact B.free b o e q hx
  ·obtain ⟨o',e1⟩:=B.there b o e hx;exact ⟨o',hs.extBut b _ (lt1 e).1 e1⟩
  ·have q:=B.tups b xs e;rw [zR (tr b _ q).2]; exact q
  ·have q:=B.frzs b o xs e;rw [zR (tr b _ q).2]; exact q
  ·obtain ⟨more,q⟩:=B.tbls b ps e;exact ⟨more,by rw [zR (tr b _ q).2]; exact q⟩
 have hok:HOk X.prog X.w (upd H' s.heap.objs.size (.lst ys)) h':=fun b u e=>by
  by_cases hb:b = s.heap.objs.size
  ·subst hb;rw [zAV] at e; cases e;exact ⟨hz,its,n,rv,eD'⟩
  ·rw [zR hb] at e;refine (Ic.hok b u e).stay (fun c v hc q=>hs.extBut c v ?_ q) (fun c q=>by rw [zR (tr c _ q).2]; exact q) fun c xs q=>by rw [zR (tr c _ q).2]; exact q
   rcases hc with z | z
   ·rw [z]; exact (tr b u e).1
   ·exact (tr c _ z).1
 exact I.call' Ic.os un hok Ic.bare fun b hb=>⟨(hf b hb).2.2.2.1,(hf b hb).2.1,(hf b hb).2.2.2.2.1,(hf b hb).2.2.2.2.2⟩
end
section
structure CompParts (X:Cx) (scope:Scope) (tg:Expr) (ifs:List Expr) (elt:Expr) (g:TG) (tc:TT) (te:TE):Prop where
 g:∀ zB cl s H fp,PG (zAB X zB scope cl s H fp) tg g
 c:∀ zB cl s H fp,zLA (zAB X zB scope cl s H fp) ifs tc
 e:∀ zB cl s H fp,PE (zAB X zB scope cl s H fp) elt te
theorem CompScope.closure (S:CompScope X scope) (I:Inv X zB σ H s) :
  ∃ cl,closureFor scope X.env = pure cl /\ (∀ x c,cl.lookup x = some c -> X.env.cells.lookup x = some c) /\ ∀ y ∈ scope.names,y.2 = .free -> (cl.lookup y.1).isSome = true :=
 zEx fun y hy hk=>I.ok.has y.1 (S.free y hy hk)
theorem zLb (C:CompIn X scope own) (hcalm:X.calm = true) (hi:PI X tg iter wi) (p:CompParts X scope tg ifs elt g tc te) (hs:∀ x,foldedSetIterable iter X.env x = pure x:=by intro _; rfl) :
  PE X (.ListComp elt [⟨tg,iter,ifs,0⟩] scope pos) (zJh own wi g tc te):=by
 intro zB s σ H Q I h;obtain ⟨cl,hcl,c1,c2⟩:=C.sc.closure I;rw [eval_ListComp];refine wpAny_comprehension_free rfl hs hcl C.sc.kind C.sc.names (thn (hi zB s σ H _ I h) fun v s1 h1=>thn h1 fun itv s2 h2=>?_);obtain ⟨it,fp,tn,J,H2,e,I2,T,st2,f2,W,⟨m0,w0⟩,turn⟩:=h2;subst e;refine zEM C hcalm I2 T st2 f2 c1 c2 (p.g _ _ _ _ _) (p.c _ _ _ _ _) (p.e _ _ _ _ _) w0 turn ?_;intro σc H' s' its n ys Ic rv hz qq;obtain ⟨m,hn,_⟩:=Ic.loc;refine ⟨m,hn,fun h' hs'=>?_⟩;obtain ⟨J',nD⟩:=zGl I2 f2 Ic rv hz hs';exact ⟨.ref s2.heap.objs.size,_,J',rfl,qq _ nD⟩
theorem zHX (hN:X.N.Nodup) (hi':X.N[i]? = some x) (hx:Loc X.env.scope x) (hfn:X.fn x = true \/ X.env.scope.names.lookup x = some .local)
  (C:CompIn X scope own) (hcalm:X.calm = true) (hi:PI X tg iter wi) (p:CompParts X scope tg ifs elt g tc te)
  (hsw:swapsWith (.ListComp elt [⟨tg,iter,ifs,0⟩] scope pos) (some (.Name x pos')) pos''.line X.env = pure true) (hs:∀ x,foldedSetIterable iter X.env x = pure x:=by intro _; rfl) :
  PS X (.Assign [.Name x pos'] (.ListComp elt [⟨tg,iter,ifs,0⟩] scope pos) pos'') (zLa (zJh own wi g tc te) (zC7 i)):=by
 intro zB s σ H D I h;obtain ⟨cl,hcl,c1,c2⟩:=C.sc.closure I;rw [exec_Assign_Name_used _ _ _ _ hsw];refine zQF (wpAny_standAt (zQF ?_))
 refine zQF (zQl (wpAny_comprehension_free rfl hs hcl C.sc.kind C.sc.names
  (thn (hi zB s σ H _ I h) fun v s1 h1=>thn h1 fun itv s2 h2=>?_)) (fun _ s' hq=>zQH (zQH hq)) fun _ _ e=>e)
 obtain ⟨it,fp,tn,J,H2,e,I2,T,st2,f2,W,⟨m0,w0⟩,turn⟩:=h2;subst e
 refine zEM C hcalm I2 T st2 f2 c1 c2 (p.g _ _ _ _ _) (p.c _ _ _ _ _) (p.e _ _ _ _ _)
  w0 turn ?_
 intro σc H' s' its n ys Ic rv hz qq;obtain ⟨m,hn,_⟩:=Ic.loc;obtain ⟨J',nD⟩:=zGl I2 f2 Ic rv hz (.refl ..);obtain ⟨oC,es,ep,hoC,hdC,r1,r2⟩:=id hn;have nC:upd H' s2.heap.objs.size (.lst ys) (s2.heap.objs.size + 1) = none:=by rw [zR (Nat.ne_of_gt (Nat.lt_succ_self _))]; exact Ic.free
 have K':Inv X (zB ++ [(s2.heap.objs.size + 1,oC)]) σ (upd H' s2.heap.objs.size (.lst ys)) s':=J'.pins_of fun q hq=>by
  rcases zQf.mp hq with z | z
  ·exact J'.pin q (zQZ _ z)
  ·have e:q = (s2.heap.objs.size + 1,oC):=by simpa using z
   subst e;refine ⟨hoC,nC,Nat.ne_of_gt (Nat.lt_succ_of_lt I2.lt),I2.nofs (Nat.le_succ _),fun v z=>?_⟩;have z':oC.data = .cell v:=z;rw [hdC] at z'; cases z'
 refine thn (zIk hN hi' hx hfn _ s' σ _ (.ref s2.heap.objs.size) (.ref s2.heap.objs.size) _ K' rfl (qq _ nD)) fun _ s'' ⟨σ'',H'',I'',q''⟩=>?_;obtain ⟨eC,_⟩:=I''.pin (s2.heap.objs.size + 1,oC) (by simp);refine ⟨m,⟨oC,es,ep,eC,hdC,r1,r2⟩,fun h' hs'=>⟨σ'',H'',?_,q''⟩⟩;have I3:Inv X zB σ'' H'' s'':=I''.unpinned;obtain ⟨_,nC'',neC,_,_⟩:=I''.pin (s2.heap.objs.size + 1,oC) (by simp);refine I3.turned (fun b o hb e=>hs'.extBut b o hb e) nC'' neC (.inr (zQg I2.sz (Nat.le_succ _))) (fun x c e z=>?_) (fun q hq z=>?_)
 ·obtain ⟨v,o,ho,hd⟩:=I3.cell x c e;rw [z,eC] at ho; cases ho;rw [hdC] at hd; cases hd
 ·obtain ⟨e,_⟩:=I2.pin q hq;exact zQa (Nat.lt_succ_of_lt (zQQ e)) z
end
end L2
namespace L3
open PySem PySem.Spec PyProof.Rows L2
abbrev Sv:=List (Option V)
def zGM (H:Hp) (v:Value):Prop:=∃ a oc vs q t,v = .ref a /\ H a = some (.frz oc (.ext fun _=>True)) /\ oc.data = .fields vs /\ vs[1]? = some (.str q t)
structure Lm where
 f:Addr
 c:Value
 us:List V
set_option genInjectivity true in
inductive D where
 | non | bl (b:Bool) | int (i:Int) | str (x:Str) | tup (xs:List D) | ref (n:Nat) | fn (l:Lm) (ds:List D)
set_option genInjectivity true in
inductive MO where
 | lst (xs:List D) | fro (xs:List D) | dict (kvs:List (D × D)) | dicT (kvs:List (D × D)) | set (xs:List D) | froT (kvs:List (D × D)) | froK (kvs:List (D × D))
mutual
def Rep (L:List Addr) (H:Hp):D -> V -> Prop
 | .non,v=>v = .non
 | .bl b,v=>v = .bl b
 | .int i,v=>v = .int i
 | .str x,v=>v = .str x
 | .tup ds,v=>∃ a vs,v = .ref a /\ H a = some (.tup vs) /\ zG L H ds vs
 | .ref n,v=>∃ a,v = .ref a /\ L[n]? = some a
 | .fn l ds,v=>v = .ref l.f /\ zGM H l.c /\ zG L H ds l.us
def zG (L:List Addr) (H:Hp):List D -> List V -> Prop
 | [],vs=>vs = []
 | d :: ds,vs=>∃ v r,vs = v :: r /\ Rep L H d v /\ zG L H ds r
end
theorem zG.length:∀ {ds:List D} {vs:List V},zG L H ds vs -> vs.length = ds.length
 | [],_,h=>by unfold zG at h; subst h; rfl
 | d :: ds,_,h=>by
  unfold zG at h;obtain ⟨v,r,rfl,_,h2⟩:=h;simp [zG.length h2]
theorem zG.nil:zG L H [] []:=by unfold zG; rfl
theorem zG.cons (h:Rep L H d v) (t:zG L H ds vs):zG L H (d :: ds) (v :: vs):=by
 unfold zG; exact ⟨v,vs,rfl,h,t⟩
theorem zG.get:∀ {ds:List D} {vs:List V} {i:Nat} {d:D},zG L H ds vs -> ds[i]? = some d -> ∃ v,vs[i]? = some v /\ Rep L H d v
 | [],_,_,_,_,e=>by simp at e
 | d :: ds,_,0,d',h,e=>by
  unfold zG at h;obtain ⟨v,r,rfl,h1,h2⟩:=h;simp at e; subst e;exact ⟨v,rfl,h1⟩
 | d :: ds,_,i + 1,d',h,e=>by
  unfold zG at h;obtain ⟨v,r,rfl,h1,h2⟩:=h;obtain ⟨u,e1,e2⟩:=zG.get (i:=i) h2 (by simpa using e);exact ⟨u,by simpa using e1,e2⟩
theorem zG.app:∀ {ds es:List D} {vs ws:List V},zG L H ds vs -> zG L H es ws -> zG L H (ds ++ es) (vs ++ ws)
 | [],_,_,_,h,t=>by unfold zG at h; subst h; exact t
 | d :: ds,_,_,_,h,t=>by
  unfold zG at h;obtain ⟨v,r,rfl,h1,h2⟩:=h;exact .cons h1 (zG.app h2 t)
theorem zG.set (h:Rep L H d v):∀ {ds:List D} {vs:List V} (i:Nat),zG L H ds vs -> zG L H (ds.set i d) (vs.set i v)
 | [],_,_,t=>by unfold zG at t; subst t; exact .nil
 | _ :: _,_,0,t=>by
  unfold zG at t;obtain ⟨v',r,rfl,h1,h2⟩:=t;exact .cons h h2
 | _ :: _,_,i + 1,t=>by
  unfold zG at t;obtain ⟨v',r,rfl,h1,h2⟩:=t;exact .cons h1 (zG.set h i h2)
theorem zG.drop:∀ {ds:List D} {vs:List V} (n:Nat),zG L H ds vs -> zG L H (ds.drop n) (vs.drop n)
 | _,_,0,t=>t
 | [],_,n + 1,t=>by unfold zG at t; subst t; exact .nil
 | _ :: _,_,n + 1,t=>by
  unfold zG at t;obtain ⟨v',r,rfl,h1,h2⟩:=t;exact zG.drop n h2
theorem zG.take:∀ {ds:List D} {vs:List V} (n:Nat),zG L H ds vs -> zG L H (ds.take n) (vs.take n)
 | _,_,0,t=> .nil
 | [],_,n + 1,t=>by unfold zG at t; subst t; exact .nil
 | _ :: _,_,n + 1,t=>by
  unfold zG at t;obtain ⟨v',r,rfl,h1,h2⟩:=t;exact .cons h1 (zG.take n h2)
theorem zG.eraseIdx:∀ {ds:List D} {vs:List V} (n:Nat),zG L H ds vs -> zG L H (ds.eraseIdx n) (vs.eraseIdx n)
 | [],_,n,t=>by unfold zG at t; subst t; exact .nil
 | _ :: _,_,0,t=>by
  unfold zG at t;obtain ⟨v',r,rfl,h1,h2⟩:=t;exact h2
 | _ :: _,_,n + 1,t=>by
  unfold zG at t;obtain ⟨v',r,rfl,h1,h2⟩:=t;exact .cons h1 (zG.eraseIdx n h2)
theorem zGM.keep (h:∀ a o u,H a = some (.frz o u) -> H' a = some (.frz o u)) (x:zGM H v):zGM H' v :=
 let ⟨a,oc,vs,q,t,e1,e2,r⟩:=x; ⟨a,oc,vs,q,t,e1,h _ _ _ e2,r⟩
def zDq (H:Hp) (ps:Array Value):Prop:=PySem.TriplesOk ps.toList /\ ∀ pos v,codeAmong pos ps.toList = some v -> zGM H v
theorem zDq.keep (h:∀ a o u,H a = some (.frz o u) -> H' a = some (.frz o u)) (g:zDq H ps):zDq H' ps :=
 ⟨g.1,fun pos v e=>(g.2 pos v e).keep h⟩
abbrev NT (o:HO):Prop:=∀ ps,o ≠ .tbl ps
structure Stp (L:List Addr) (H:Hp) (L':List Addr) (H':Hp):Prop where
 pre:∃ N,L' = L ++ N
 new:∀ a ∈ L',a ∈ L \/ H a = none
 old:∀ a o,H a = some o -> a ∉ L -> NT o -> H' a = some o
 tup:∀ a xs,H a = some (.tup xs) -> H' a = some (.tup xs)
 frz:∀ a o u,H a = some (.frz o u) -> H' a = some (.frz o u)
 tbl:∀ a ps,H a = some (.tbl ps) -> ∃ ps',H' a = some (.tbl ps') /\ (zDq H ps -> zDq H' ps')
theorem Stp.refl (L:List Addr) (H:Hp):Stp L H L H:=⟨⟨[],by simp⟩,fun _ h=> .inl h,fun _ _ h _ _=>h,fun _ _ h=>h,fun _ _ _ h=>h,fun _ ps h=>⟨ps,h,id⟩⟩
theorem zDD (hf:∀ a o u,H a = some (.frz o u) -> H' a = some (.frz o u)) (h:∀ a ps,H a = some (.tbl ps) -> H' a = some (.tbl ps)) :
  ∀ a ps,H a = some (.tbl ps) -> ∃ ps',H' a = some (.tbl ps') /\ (zDq H ps -> zDq H' ps'):=fun a ps e=>⟨ps,h a ps e,.keep hf⟩
theorem Stp.trans (a:Stp L H L1 H1) (b:Stp L1 H1 L2 H2):Stp L H L2 H2:=by
 obtain ⟨N,rfl⟩:=a.pre;obtain ⟨N',rfl⟩:=b.pre;have back:∀ c,c ∉ L -> H1 c = none -> H c = none:=fun c hc h1=>by
  cases q:H c with
  | none=>rfl
  | some o=>
   by_cases z:NT o
   ·rw [a.old c o q hc z] at h1; cases h1
   ·obtain ⟨ps,z⟩:=Classical.not_forall.mp z;rw [Classical.not_not.mp z] at q;obtain ⟨ps',e,_⟩:=a.tbl c ps q;rw [e] at h1; cases h1
 refine ⟨⟨N ++ N',by simp⟩,fun c hc=>?_,fun c o e hc nt=>?_,fun c xs e=>b.tup c xs (a.tup c xs e),fun c o u e=>b.frz c o u (a.frz c o u e),fun c ps e=>?_⟩
 ·by_cases hL:c ∈ L
  ·exact .inl hL
  ·rcases b.new c hc with z | z
   ·exact a.new c z
   ·exact .inr (back c hL z)
 ·refine b.old c o (a.old c o e hc nt) (fun z=>?_) nt;rcases a.new c z with q | q
  ·exact hc q
  ·rw [q] at e; cases e
 ·obtain ⟨p1,e1,g1⟩:=a.tbl c ps e;obtain ⟨p2,e2,g2⟩:=b.tbl c p1 e1;exact ⟨p2,e2,fun g=>g2 (g1 g)⟩
theorem Stp.grow (h:∀ a o,H a = some o -> H' a = some o):Stp L H L H':=⟨⟨[],by simp⟩,fun _ h=> .inl h,fun a o e _ _=>h a o e,fun a _ e=>h a _ e,fun a _ _ e=>h a _ e,zDD (fun a _ _ e=>h a _ e) fun a _ e=>h a _ e⟩
theorem Stp.upd (h:H p = none):Stp L H L (upd H p o):=.grow fun a u e=>by rw [zR (zg e h)]; exact e
theorem zCN {L N:List Addr} {n:Nat} {a:Addr} (h:L[n]? = some a):(L ++ N)[n]? = some a:=by
 rw [zQM (zQI.mp h).1]; exact h
mutual
theorem Rep.stp {L L':List Addr} {H H':Hp} (s:Stp L H L' H'):∀ {d:D} {v:V},Rep L H d v -> Rep L' H' d v
 | .non,_,h=>by unfold Rep at h ⊢; exact h
 | .bl _,_,h=>by unfold Rep at h ⊢; exact h
 | .int _,_,h=>by unfold Rep at h ⊢; exact h
 | .str _,_,h=>by unfold Rep at h ⊢; exact h
 | .tup ds,_,h=>by
  unfold Rep at h ⊢;obtain ⟨a,vs,rfl,e,r⟩:=h;exact ⟨a,vs,rfl,s.tup a vs e,zG.stp s r⟩
 | .ref n,_,h=>by
  unfold Rep at h ⊢;obtain ⟨a,rfl,e⟩:=h;obtain ⟨N,rfl⟩:=s.pre;exact ⟨a,rfl,zCN e⟩
 | .fn _ ds,_,h=>by
  unfold Rep at h ⊢;exact ⟨h.1,h.2.1.keep s.frz,zG.stp s h.2.2⟩
theorem zG.stp (s:Stp L H L' H'):∀ {ds:List D} {vs:List V},zG L H ds vs -> zG L' H' ds vs
 | [],_,h=>by unfold zG at h ⊢; exact h
 | d :: ds,_,h=>by
  unfold zG at h ⊢;obtain ⟨v,r,rfl,h1,h2⟩:=h;exact ⟨v,r,rfl,Rep.stp s h1,zG.stp s h2⟩
end
def zAs:D -> Option Key
 | .int i=>some (.inl i)
 | .str x=>some (.inr x)
 | _=>none
def zGr:List D -> Option (List Key)
 | []=>some []
 | d :: r=>match zAs d,zGr r with
  | some k,some ks=>some (k :: ks)
  | _,_=>none
def tkD:D -> Option (List Key)
 | .tup ds=>zGr ds
 | _=>none
def zAC {κ:Type} (kf:D -> Option κ) (L:List Addr) (H:Hp):List (D × D) -> List (κ × V) -> Prop
 | [],vs=>vs = []
 | p :: r,vs=>∃ k v r',vs = (k,v) :: r' /\ kf p.1 = some k /\ Rep L H p.2 v /\ zAC kf L H r r'
theorem zAC.stp {κ:Type} {kf:D -> Option κ} {L L':List Addr} {H H':Hp} (s:Stp L H L' H'):∀ {ps:List (D × D)} {vs:List (κ × V)},zAC kf L H ps vs -> zAC kf L' H' ps vs
 | [],_,h=>h
 | p :: r,_,h=>by
  obtain ⟨k,v,r',rfl,e,h1,h2⟩:=h;exact ⟨k,v,r',rfl,e,h1.stp s,zAC.stp s h2⟩
theorem zAC.length {κ:Type} {kf:D -> Option κ} {L:List Addr} {H:Hp}:∀ {ps:List (D × D)} {vs:List (κ × V)},zAC kf L H ps vs -> vs.length = ps.length
 | [],_,h=>by unfold zAC at h; subst h; rfl
 | p :: r,_,h=>by
  obtain ⟨k,v,r',rfl,e,h1,h2⟩:=h;simp [zAC.length h2]
def zDe (K:PySem.W.Frag) (L:List Addr) (H:Hp) (a:Addr):MO -> Prop
 | .lst xs=>∃ vs,H a = some (.lst vs) /\ zG L H xs vs
 | .fro xs=>∃ o vs,H a = some (.frz o (.lst vs)) /\ zG L H xs vs
 | .dict ps=>∃ vs,H a = some (.dK vs) /\ zAC zAs L H ps vs
 | .dicT ps=>∃ vs,H a = some (.dT vs) /\ zAC tkD L H ps vs
 | .set _=>∃ o u,H a = some (.frz o u)
 | .froT ps=>∃ o vs,H a = some (.frz o (.dT vs)) /\ zAC tkD L H ps vs
 | .froK ps=>∃ o vs,H a = some (.frz o (.dK vs)) /\ zAC zAs L H ps vs
theorem zDe.there {K:PySem.W.Frag} {L:List Addr} {H:Hp} {a:Addr} {m:MO} (h:zDe K L H a m):∃ o,H a = some o:=by
 cases m with
 | lst xs=>obtain ⟨vs,e,_⟩:=h; exact ⟨_,e⟩
 | fro xs=>obtain ⟨o,vs,e,_⟩:=h; exact ⟨_,e⟩
 | dict ps=>obtain ⟨vs,e,_⟩:=h; exact ⟨_,e⟩
 | dicT ps=>obtain ⟨vs,e,_⟩:=h; exact ⟨_,e⟩
 | set _=>obtain ⟨o,u,e⟩:=h; exact ⟨_,e⟩
 | froT ps=>obtain ⟨o,vs,e,_⟩:=h; exact ⟨_,e⟩
 | froK ps=>obtain ⟨o,vs,e,_⟩:=h; exact ⟨_,e⟩
theorem zDe.stp {K:PySem.W.Frag} {L L':List Addr} {H H':Hp} {a:Addr} {m:MO} (s:Stp L H L' H') (hk:∀ o,NT o -> H a = some o -> H' a = some o) (h:zDe K L H a m):zDe K L' H' a m:=by
 cases m with
 | lst xs=>obtain ⟨vs,e,r⟩:=h; exact ⟨vs,hk _ (by intro _ z; cases z) e,r.stp s⟩
 | fro xs=>obtain ⟨o,vs,e,r⟩:=h; exact ⟨o,vs,hk _ (by intro _ z; cases z) e,r.stp s⟩
 | dict ps=>obtain ⟨vs,e,r⟩:=h; exact ⟨vs,hk _ (by intro _ z; cases z) e,r.stp s⟩
 | dicT ps=>obtain ⟨vs,e,r⟩:=h; exact ⟨vs,hk _ (by intro _ z; cases z) e,r.stp s⟩
 | set _=>obtain ⟨o,u,e⟩:=h; exact ⟨o,u,hk _ (by intro _ z; cases z) e⟩
 | froT ps=>obtain ⟨o,vs,e,r⟩:=h; exact ⟨o,vs,hk _ (by intro _ z; cases z) e,r.stp s⟩
 | froK ps=>obtain ⟨o,vs,e,r⟩:=h; exact ⟨o,vs,hk _ (by intro _ z; cases z) e,r.stp s⟩
def zGu:List Str:=["levels", "least_word", "word_into", "shows_least", "shows_into"]
def zIs (K:PySem.W.Frag) (H:Hp):Prop:=∀ x ∈ zGu,∀ c P,PySem.W.tabIn K x = some (c,P) -> ∃ ps,H P = some (.tbl ps) /\ zDq H ps
theorem zIs.stp {K:PySem.W.Frag} {L L':List Addr} {H H':Hp} (s:Stp L H L' H') (t:zIs K H):zIs K H':=fun x hx c P e=>
 let ⟨ps,e1,g⟩:=t x hx c P e;let ⟨ps',e2,g2⟩:=s.tbl P ps e1
 ⟨ps',e2,g2 g⟩
structure Cor (K:PySem.W.Frag) (L:List Addr) (M:List MO) (H:Hp):Prop where
 len:L.length = M.length
 nd:L.Nodup
 obj:∀ (n:Nat) a m,L[n]? = some a -> M[n]? = some m -> zDe K L H a m
 tab:zIs K H
def zAU (L:List Addr) (H:Hp) (σ:List (Option D)) (τ:Sv):Prop:=τ.length = σ.length /\ ∀ (i:Nat) d,σ[i]? = some (some d) -> ∃ v,τ[i]? = some (some v) /\ Rep L H d v
theorem zAU.stp (s:Stp L H L' H') (h:zAU L H σ τ):zAU L' H' σ τ :=
 ⟨h.1,fun i d e=>let ⟨v,e1,r⟩:=h.2 i d e; ⟨v,e1,r.stp s⟩⟩
theorem Cor.tracked {K:PySem.W.Frag} {L:List Addr} {M:List MO} {H:Hp} (c:Cor K L M H) {a:Addr} (h:a ∈ L):∃ o,H a = some o:=by
 obtain ⟨n,hn⟩:=List.getElem?_of_mem h;have hl:n < M.length:=by rw [<- c.len]; exact (zQI.mp hn).1
 have m:=c.obj n a M[n] hn (zQJ hl);exact m.there
theorem Cor.grow {K:PySem.W.Frag} {L:List Addr} {M:List MO} {H H':Hp} (c:Cor K L M H) (h:∀ a o,H a = some o -> H' a = some o):Cor K L M H':=by
 exact ⟨c.len,c.nd,fun n a m e1 e2=>(c.obj n a m e1 e2).stp (.grow h) fun o _ e=>h a o e,c.tab.stp (Stp.grow (L:=L) h)⟩
theorem Cor.upd {K:PySem.W.Frag} {L:List Addr} {M:List MO} {H:Hp} {p:Addr} {o:HO} (c:Cor K L M H) (h:H p = none):Cor K L M (upd H p o):=c.grow fun a u e=>by rw [zR (zg e h)]; exact e
theorem Cor.write {K:PySem.W.Frag} {L:List Addr} {M:List MO} {H:Hp} {n:Nat} {p:Addr} {xs xs':List D} {vs':List V} (c:Cor K L M H) (h1:L[n]? = some p) (h2:M[n]? = some (.lst xs)) (r:zG L H xs' vs') :
  Cor K L (M.set n (.lst xs')) (L2.upd H p (.lst vs')) /\ Stp L H L (L2.upd H p (.lst vs')):=by
 obtain ⟨vs,hp,_⟩:=c.obj n p _ h1 h2;have st:Stp L H L (L2.upd H p (.lst vs')):=by
  refine ⟨⟨[],by simp⟩,fun a ha=> .inl ha,fun a o e ha _=>?_,fun a o e=>?_,fun a o u e=>?_,zDD (fun a o u e=>?_) fun a ps e=>?_⟩
  ·rw [zR (show a ≠ p from fun z=>ha (by rw [z]; exact zQ6 h1))]; exact e
  all_goals (rw [zR (zFP e hp (by intro z; cases z))]; exact e)
 refine ⟨⟨by simp [c.len],c.nd,fun k a m e1 e2=>?_,c.tab.stp st⟩,st⟩;rw [zRo] at e2;split at e2
 ·rename_i hk;subst hk;rw [h1] at e1; cases e1;split at e2
  ·cases e2; exact ⟨vs',zAV,r.stp st⟩
  ·cases e2
 ·rename_i hk;have hne:a ≠ p:=fun z=>hk (by
   subst z;exact (List.getElem?_inj (zQI.mp h1).1 c.nd).mp (h1.trans e1.symm))
  exact (c.obj k a m e1 e2).stp st fun o _ e=>by rw [zR hne]; exact e
set_option genInjectivity true in
inductive EV where
 | dat (d:D) | fl (xs:List D)
def zT (H0:Hp) (L:List Addr) (H:Hp):EV -> V -> Prop
 | .dat d,v=>Rep L H d v
 | .fl xs,v=>∃ p vs,v = .ref p /\ H0 p = none /\ H p = some (.lst vs) /\ p ∉ L /\ zG L H xs vs
abbrev Sd:=List (Option D)
abbrev Mem:=List MO
abbrev FE:=Sd -> Mem -> Option (EV × Mem)
abbrev FD:=Sd -> Mem -> Option (D × Mem)
abbrev FT:=Sd -> Mem -> Option (Bool × Mem)
abbrev FA:=Sd -> Mem -> Option (List D × Mem)
theorem Stp.there {L L':List Addr} {H H':Hp} (s:Stp L H L' H') {p:Addr} {o:HO} (h:H p = some o) (hp:p ∉ L):∃ o',H' p = some o':=by
  by_cases z:NT o
  · exact ⟨o,s.old p o h hp z⟩
  · obtain ⟨ps,z⟩:=Classical.not_forall.mp z
    rw [Classical.not_not.mp z] at h;obtain ⟨ps',e,_⟩:=s.tbl p ps h;exact ⟨_,e⟩
theorem Stp.out (s:Stp L H L' H') (h:H p = some o) (hp:p ∉ L):p ∉ L':=fun z=>by
 rcases s.new p z with q | q
 ·exact hp q
 ·rw [h] at q; cases q
theorem zT.stp (s:Stp L H L' H') (h:zT H0 L H e v):zT H0 L' H' e v:=by
 cases e with
 | dat d=>exact Rep.stp s h
 | fl xs=>
  obtain ⟨p,vs,rfl,e0,e1,e2,r⟩:=h;exact ⟨p,vs,rfl,e0,s.old p _ e1 e2 (by intro _ z; cases z),s.out e1 e2,r.stp s⟩
theorem zT.back {H0 H1:Hp} {L0 L1 L:List Addr} {H:Hp} (s:Stp L0 H0 L1 H1) {M:List MO} {K:PySem.W.Frag} (c:Cor K L0 M H0) {e:EV} {v:V} (h:zT H1 L H e v) (hL:∀ a ∈ L1,a ∈ L):zT H0 L H e v:=by
 cases e with
 | dat d=>exact h
 | fl xs=>
  obtain ⟨p,vs,rfl,e0,e1,e2,r⟩:=h;refine ⟨p,vs,rfl,?_,e1,e2,r⟩;cases q:H0 p with
  | none=>rfl
  | some o=>
   by_cases hp:p ∈ L0
   ·obtain ⟨N,hN⟩:=s.pre;exact absurd (hL p (by rw [hN]; exact List.mem_append_left _ hp)) e2
   ·obtain ⟨o',z⟩:=s.there q hp;rw [z] at e0; cases e0
section
variable (K:PySem.W.Frag)
def trE (f:FE):TE:=fun τ H Q=>∃ L σ M d M',Cor K L M H /\ zAU L H σ τ /\ f σ M = some (d,M') /\ ∀ L' H' v,Stp L H L' H' -> Cor K L' M' H' -> zT H L' H' d v -> Q v H'
def trD (f:FD):TE:=fun τ H Q=>∃ L σ M d M',Cor K L M H /\ zAU L H σ τ /\ f σ M = some (d,M') /\ ∀ L' H' v,Stp L H L' H' -> Cor K L' M' H' -> Rep L' H' d v -> Q v H'
def trT (f:FT):TT:=fun τ H Q=>∃ L σ M d M',Cor K L M H /\ zAU L H σ τ /\ f σ M = some (d,M') /\ ∀ L' H',Stp L H L' H' -> Cor K L' M' H' -> Q d H'
def trA (f:FA):TA:=fun τ H Q=>∃ L σ M ds M',Cor K L M H /\ zAU L H σ τ /\ f σ M = some (ds,M') /\ ∀ L' H' vs,Stp L H L' H' -> Cor K L' M' H' -> zG L' H' ds vs -> Q vs H'
end
theorem mkE {K:PySem.W.Frag} {f:FE} {τ:Sv} {H:Hp} {Q:VK} {σ:Sd} {M M':Mem} {d:EV} (c:Cor K L M H) (r:zAU L H σ τ) (e:f σ M = some (d,M')) (q:∀ L' H' v,Stp L H L' H' -> Cor K L' M' H' -> zT H L' H' d v -> Q v H'):trE K f τ H Q:=⟨_,_,_,_,_,c,r,e,q⟩
theorem mkD {K:PySem.W.Frag} {f:FD} {τ:Sv} {H:Hp} {Q:VK} {σ:Sd} {M M':Mem} {d:D} (c:Cor K L M H) (r:zAU L H σ τ) (e:f σ M = some (d,M')) (q:∀ L' H' v,Stp L H L' H' -> Cor K L' M' H' -> Rep L' H' d v -> Q v H'):trD K f τ H Q:=⟨_,_,_,_,_,c,r,e,q⟩
theorem mkT {K:PySem.W.Frag} {f:FT} {τ:Sv} {H:Hp} {Q} {σ:Sd} {M M':Mem} {d} (c:Cor K L M H) (r:zAU L H σ τ) (e:f σ M = some (d,M')) (q:∀ L' H',Stp L H L' H' -> Cor K L' M' H' -> Q d H'):trT K f τ H Q:=⟨_,_,_,_,_,c,r,e,q⟩
theorem mkA {K:PySem.W.Frag} {f:FA} {τ:Sv} {H:Hp} {Q} {σ:Sd} {M M':Mem} {ds} (c:Cor K L M H) (r:zAU L H σ τ) (e:f σ M = some (ds,M')) (q:∀ L' H' vs,Stp L H L' H' -> Cor K L' M' H' -> zG L' H' ds vs -> Q vs H'):trA K f τ H Q:=⟨_,_,_,_,_,c,r,e,q⟩
section
theorem PE.imp (h:PE X e t) (hi:∀ τ H Q,t' τ H Q -> t τ H Q):PE X e t':=fun zB s σ H Q I q=>h zB s σ H Q I (hi _ _ _ q)
theorem PT.imp (h:PT X e t) (hi:∀ τ H Q,t' τ H Q -> t τ H Q):PT X e t':=fun zB s σ H Q I q=>h zB s σ H Q I (hi _ _ _ q)
theorem PS.imp {st:Stmt} {t t':TS} (h:PS X st t) (hi:∀ D τ H,t' D τ H -> t D τ H):PS X st t':=fun zB s σ H D I q=>h zB s σ H D I (hi _ _ _ q)
theorem PSs.imp {st:List Stmt} {t t':TS} (h:PSs X st t) (hi:∀ D τ H,t' D τ H -> t D τ H):PSs X st t':=fun zB s σ H D I q=>h zB s σ H D I (hi _ _ _ q)
structure QE (X:Cx) (e:Expr) (f:FE):Prop where
 un:PE X e (trE X.K f)
structure QD (X:Cx) (e:Expr) (f:FD):Prop where
 un:PE X e (trD X.K f)
structure QT (X:Cx) (e:Expr) (f:FT):Prop where
 un:PT X e (trT X.K f)
structure QA (X:Cx) (es:List Expr) (f:FA):Prop where
 un:PA X es (trA X.K f)
def toD (f:FE):FD:=fun σ M=>match f σ M with
 | some (.dat d,M')=>some (d,M')
 | some (.fl xs,M')=>some (.ref M'.length,M' ++ [.lst xs])
 | none=>none
mutual
theorem Rep.more (N:List Addr):∀ {d:D} {v:V},Rep L H d v -> Rep (L ++ N) H d v
 | .non,_,h=>by unfold Rep at h ⊢; exact h
 | .bl _,_,h=>by unfold Rep at h ⊢; exact h
 | .int _,_,h=>by unfold Rep at h ⊢; exact h
 | .str _,_,h=>by unfold Rep at h ⊢; exact h
 | .tup ds,_,h=>by
  unfold Rep at h ⊢;obtain ⟨a,vs,rfl,e,r⟩:=h;exact ⟨a,vs,rfl,e,zG.more N r⟩
 | .ref n,_,h=>by
  unfold Rep at h ⊢;obtain ⟨a,rfl,e⟩:=h;exact ⟨a,rfl,zCN e⟩
 | .fn _ ds,_,h=>by
  unfold Rep at h ⊢;exact ⟨h.1,h.2.1,zG.more N h.2.2⟩
theorem zG.more (N:List Addr):∀ {ds:List D} {vs:List V},zG L H ds vs -> zG (L ++ N) H ds vs
 | [],_,h=>by unfold zG at h ⊢; exact h
 | d :: ds,_,h=>by
  unfold zG at h ⊢;obtain ⟨v,r,rfl,h1,h2⟩:=h;exact ⟨v,r,rfl,Rep.more N h1,zG.more N h2⟩
end
theorem zAC.more {κ:Type} {kf:D -> Option κ} {L:List Addr} {H:Hp} (N:List Addr):∀ {ps:List (D × D)} {vs:List (κ × V)},zAC kf L H ps vs -> zAC kf (L ++ N) H ps vs
 | [],_,h=>h
 | p :: r,_,h=>by
  obtain ⟨k,v,r',rfl,e,h1,h2⟩:=h;exact ⟨k,v,r',rfl,e,h1.more N,zAC.more N h2⟩
theorem zDe.more {K:PySem.W.Frag} {L:List Addr} {H:Hp} {a:Addr} {m:MO} (N:List Addr) (h:zDe K L H a m):zDe K (L ++ N) H a m:=by
 cases m with
 | lst xs=>obtain ⟨vs,e,r⟩:=h; exact ⟨vs,e,r.more N⟩
 | fro xs=>obtain ⟨o,vs,e,r⟩:=h; exact ⟨o,vs,e,r.more N⟩
 | dict ps=>obtain ⟨vs,e,r⟩:=h; exact ⟨vs,e,r.more N⟩
 | dicT ps=>obtain ⟨vs,e,r⟩:=h; exact ⟨vs,e,r.more N⟩
 | set _=>exact h
 | froT ps=>obtain ⟨o,vs,e,r⟩:=h; exact ⟨o,vs,e,r.more N⟩
 | froK ps=>obtain ⟨o,vs,e,r⟩:=h; exact ⟨o,vs,e,r.more N⟩
theorem zMh {K:PySem.W.Frag} {L L':List Addr} {M':List MO} {H H':Hp} {p:Addr} {xs:List D} {vs:List V} (s:Stp L H L' H') (c:Cor K L' M' H') (h0:H p = none) (h1:H' p = some (.lst vs)) (h2:p ∉ L') (r:zG L' H' xs vs) :
  Cor K (L' ++ [p]) (M' ++ [.lst xs]) H' /\ Stp L H (L' ++ [p]) H':=by
 refine ⟨⟨by simp [c.len],?_,fun n a m e1 e2=>?_,c.tab⟩,?_⟩
 ·rw [List.nodup_append];exact ⟨c.nd,by simp,fun a ha b hb z=>by
   have:b = p:=by simpa using hb
   subst this; subst z; exact h2 ha⟩
 ·by_cases hn:n < L'.length
  ·rw [zQM hn] at e1;rw [zQM (by rw [<- c.len]; exact hn)] at e2;exact (c.obj n a m e1 e2).more [p]
  ·have hn':n = L'.length:=by
    have:=(zQI.mp e1).1;rw [zQV] at this;simp at this; omega
   subst hn';simp at e1;rw [c.len] at e2;simp at e2;subst e1; subst e2;exact ⟨vs,h1,r.more [p]⟩
 ·obtain ⟨N,hN⟩:=s.pre;refine ⟨⟨N ++ [p],by rw [hN]; simp⟩,fun a ha=>?_,s.old,s.tup,s.frz,s.tbl⟩;rcases zQf.mp ha with z | z
  ·exact s.new a z
  ·have:a = p:=by simpa using z
   subst this; exact .inr h0
theorem Rep.last {L:List Addr} {M:List MO} {H:Hp} {K:PySem.W.Frag} {p:Addr} (c:Cor K L M H):Rep (L ++ [p]) H (.ref M.length) (.ref p):=by
 unfold Rep;exact ⟨p,rfl,by rw [<- c.len]; simp⟩
theorem zBy {f:FE} (h:QE X e f):QD X e (toD f):=.mk <| PE.imp h.un fun τ H Q zz=>by
 obtain ⟨L,σ,M,d,M',c,rs,hf,q⟩:=zz;unfold toD at hf;split at hf
 ·rename_i d' M1 e1;cases hf;exact ⟨L,σ,M,_,_,c,rs,e1,fun L' H' v s c' r=>q L' H' v s c' r⟩
 ·rename_i xs M1 e1;cases hf;refine ⟨L,σ,M,_,_,c,rs,e1,fun L' H' v s c' r=>?_⟩;obtain ⟨p,vs,rfl,e0,e2,e3,r⟩:=r;obtain ⟨c2,s2⟩:=zMh s c' e0 e2 e3 r;exact q _ H' _ s2 c2 (Rep.last c')
 ·cases hf
def zC (i:Nat):FE:=fun σ M=>match σ[i]? with
 | some (some d)=>some (.dat d,M)
 | _=>none
theorem zAN (h:PE X (.Name x pos) (zOU i)):QE X (.Name x pos) (zC i):=.mk <| PE.imp h fun τ H Q zz=>by
 obtain ⟨L,σ,M,d,M',c,rs,hf,q⟩:=zz;unfold zC at hf;split at hf
 ·rename_i d' e1;cases hf;obtain ⟨v,e2,r⟩:=rs.2 i d' e1;exact ⟨v,e2,q L H v (.refl L H) c r⟩
 ·cases hf
def fC (d:D):FE:=fun _ M=>some (.dat d,M)
theorem zCz (hd:∀ L H,Rep L H d v) (h:PE X e (tC v)):QE X e (fC d):=.mk <| PE.imp h fun τ H Q zz=>by
 obtain ⟨L,σ,M,d',M',c,rs,hf,q⟩:=zz;unfold fC at hf;cases hf;exact q L H v (.refl L H) c (hd L H)
theorem zOm {i j pos}:QE X (.Constant (.int i) j pos) (fC (.int i)):=zCz (fun _ _=>by unfold Rep; rfl) zOD
theorem zPf {b j pos}:QE X (.Constant (.bool b) j pos) (fC (.bl b)):=zCz (fun _ _=>by unfold Rep; rfl) zO4
theorem zKZ {j pos}:QE X (.Constant .none j pos) (fC .non):=zCz (fun _ _=>by unfold Rep; rfl) zM5
theorem zPd {x j pos}:QE X (.Constant (.str x) j pos) (fC (.str x)):=zCz (fun _ _=>by unfold Rep; rfl) zNU
def zM:FA:=fun _ M=>some ([],M)
def zD (f:FD) (g:FA):FA:=fun σ M=>match f σ M with
 | some (d,M1)=>match g σ M1 with
  | some (ds,M2)=>some (d :: ds,M2)
  | none=>none
 | none=>none
theorem PA.imp (h:PA X es t) (hi:∀ τ H Q,t' τ H Q -> t τ H Q):PA X es t':=fun pos zB s σ H Q I q=>h pos zB s σ H Q I (hi _ _ _ q)
theorem zHc:QA X [] zM:=.mk <| PA.imp zHn fun τ H Q zz=>by
 obtain ⟨L,σ,M,d,M',c,rs,hf,q⟩:=zz;unfold zM at hf;cases hf;exact q L H [] (.refl L H) c .nil
theorem zDJ (h1:QD X e f) (h2:QA X es g) (hs:starEach (e :: es) X.env = (false,eval e X.env) :: starEach es X.env:=by rfl):QA X (e :: es) (zD f g) :=
 .mk <| PA.imp (zD1 h1.un h2.un hs) fun τ H Q zz=>by
  obtain ⟨L,σ,M,d,M',c,rs,hf,q⟩:=zz;unfold zD at hf;split at hf
  ·rename_i d1 M1 e1;split at hf
   ·rename_i ds M2 e2;cases hf;refine ⟨L,σ,M,_,_,c,rs,e1,fun L1 H1 v s1 c1 r1=>⟨L1,σ,M1,_,_,c1,rs.stp s1,e2,fun L2 H2 vs s2 c2 r2=>?_⟩⟩;exact q L2 H2 _ (s1.trans s2) c2 (.cons (r1.stp s2) r2)
   ·cases hf
  ·cases hf
def zC0 (g:FA):FE:=fun σ M=>match g σ M with
 | some (ds,M1)=>if ds.length <= sizeLine then some (.dat (.tup ds),M1) else none
 | none=>none
def zBk (g:FA):FE:=fun σ M=>match g σ M with
 | some (ds,M1)=>if ds.length <= sizeLine then some (.fl ds,M1) else none
 | none=>none
theorem Rep.newTup (h:H p = none) (r:zG L H ds vs):Rep L (upd H p (.tup vs)) (.tup ds) (.ref p):=by
 unfold Rep;exact ⟨p,vs,rfl,zAV,r.stp (.upd h)⟩
theorem zPa {x1 pos} (h:QA X es g):QE X (.Tuple es x1 pos) (zC0 g):=.mk <| PE.imp (zNL h.un) fun τ H Q zz=>by
 obtain ⟨L,σ,M,d,M',c,rs,hf,q⟩:=zz;unfold zC0 at hf;split at hf
 ·rename_i ds M1 e1;split at hf
  ·rename_i hz;cases hf;refine ⟨L,σ,M,_,_,c,rs,e1,fun L1 H1 vs s1 c1 r1=>⟨by rw [r1.length]; exact hz,fun p hp=>?_⟩⟩;exact q L1 _ _ (s1.trans (.upd hp)) (c1.upd hp) (Rep.newTup hp r1)
  ·cases hf
 ·cases hf
theorem zJA {L L1:List Addr} {H H1:Hp} {K:PySem.W.Frag} {M M1:List MO} (s:Stp L H L1 H1) (c:Cor K L M H) (c1:Cor K L1 M1 H1) {p:Addr} (hp:H1 p = none):H p = none /\ p ∉ L1:=by
 have hp1:p ∉ L1:=fun z=>by obtain ⟨o,e⟩:=c1.tracked z; rw [hp] at e; cases e
 refine ⟨?_,hp1⟩;cases q:H p with
 | none=>rfl
 | some o=>
  have:p ∉ L:=fun z=>hp1 (by obtain ⟨N,hN⟩:=s.pre; rw [hN]; exact List.mem_append_left _ z);obtain ⟨o',z⟩:=s.there q this;rw [z] at hp; cases hp
theorem zT.newLst {L L1:List Addr} {H H1:Hp} {K:PySem.W.Frag} {M M1:List MO} {p:Addr} {ds:List D} {vs:List V} (s:Stp L H L1 H1) (c:Cor K L M H) (c1:Cor K L1 M1 H1) (hp:H1 p = none) (r:zG L1 H1 ds vs) :
  zT H L1 (upd H1 p (.lst vs)) (.fl ds) (.ref p):=by
 obtain ⟨a,b⟩:=zJA s c c1 hp;exact ⟨p,vs,rfl,a,zAV,b,r.stp (.upd hp)⟩
theorem zOg {pos} (h:QA X es g):QE X (.List es pos) (zBk g):=.mk <| PE.imp (zNj h.un) fun τ H Q zz=>by
 obtain ⟨L,σ,M,d,M',c,rs,hf,q⟩:=zz;unfold zBk at hf;split at hf
 ·rename_i ds M1 e1;split at hf
  ·rename_i hz;cases hf;refine ⟨L,σ,M,_,_,c,rs,e1,fun L1 H1 vs s1 c1 r1=>⟨by rw [r1.length]; exact hz,fun p hp=>?_⟩⟩;exact q L1 _ _ (s1.trans (.upd hp)) (c1.upd hp) (zT.newLst s1 c c1 hp r1)
  ·cases hf
 ·cases hf
end
abbrev FAE:=Sd -> Mem -> Option (List EV × Mem)
def zCX (H0:Hp) (L:List Addr) (H:Hp):List EV -> List V -> Prop
 | [],vs=>vs = []
 | e :: es,vs=>∃ v r,vs = v :: r /\ zT H0 L H e v /\ zCX H0 L H es r
theorem Stp.sub (s:Stp L H L' H'):∀ a ∈ L,a ∈ L':=fun a h=>by
 obtain ⟨N,hN⟩:=s.pre;rw [hN]; exact List.mem_append_left _ h
theorem zCX.back {H0 H1:Hp} {L0 L1 L:List Addr} {H:Hp} (s:Stp L0 H0 L1 H1) {M:List MO} {K:PySem.W.Frag} (c:Cor K L0 M H0) (hL:∀ a ∈ L1,a ∈ L):∀ {es:List EV} {vs:List V},zCX H1 L H es vs -> zCX H0 L H es vs
 | [],_,h=>h
 | e :: es,_,h=>by
  obtain ⟨v,r,rfl,h1,h2⟩:=h;exact ⟨v,r,rfl,h1.back s c hL,zCX.back s c hL h2⟩
def zPC (K:PySem.W.Frag) (f:FAE):TA:=fun τ H Q=>∃ L σ M ds M',Cor K L M H /\ zAU L H σ τ /\ f σ M = some (ds,M') /\ ∀ L' H' vs,Stp L H L' H' -> Cor K L' M' H' -> zCX H L' H' ds vs -> Q vs H'
structure QAE (X:Cx) (es:List Expr) (f:FAE):Prop where
 un:PA X es (zPC X.K f)
section
variable {X:Cx} {a b e:Expr} {es:List Expr} {pos:Pos}
def zc:FAE:=fun _ M=>some ([],M)
def zN (f:FE) (g:FAE):FAE:=fun σ M=>match f σ M with
 | some (d,M1)=>match g σ M1 with
  | some (ds,M2)=>some (d :: ds,M2)
  | none=>none
 | none=>none
theorem zFi:QAE X [] zc:=.mk <| PA.imp zHn fun τ H Q zz=>by
 obtain ⟨L,σ,M,d,M',c,rs,hf,q⟩:=zz;unfold zc at hf;cases hf;exact q L H [] (.refl L H) c rfl
theorem zDz (h1:QE X e f) (h2:QAE X es g) (hs:starEach (e :: es) X.env = (false,eval e X.env) :: starEach es X.env:=by rfl):QAE X (e :: es) (zN f g) :=
 .mk <| PA.imp (zD1 h1.un h2.un hs) fun τ H Q zz=>by
  obtain ⟨L,σ,M,d,M',c,rs,hf,q⟩:=zz;unfold zN at hf;split at hf
  ·rename_i d1 M1 e1;split at hf
   ·rename_i ds M2 e2;cases hf;refine ⟨L,σ,M,_,_,c,rs,e1,fun L1 H1 v s1 c1 r1=>⟨L1,σ,M1,_,_,c1,rs.stp s1,e2,fun L2 H2 vs s2 c2 r2=>?_⟩⟩;exact q L2 H2 _ (s1.trans s2) c2 ⟨v,vs,rfl,r1.stp s2,r2.back s1 c s2.sub⟩
   ·cases hf
  ·cases hf
abbrev K2:=EV -> EV -> Mem -> Option (EV × Mem)
def zAh (K:PySem.W.Frag) (r:R2) (k:K2):Prop:=∀ {L:List Addr} {M M':Mem} {H H0:Hp} {x y d:EV} {v w:V} {Q:VK},Cor K L M H -> zT H0 L H x v -> zT H0 L H y w -> k x y M = some (d,M') ->
 (∀ L' H' u,Stp L H L' H' -> Cor K L' M' H' -> zT H L' H' d u -> Q u H') -> r v w H Q
def fOp (k:K2) (f g:FE):FE:=fun σ M=>match f σ M with
 | some (x,M1)=>match g σ M1 with
  | some (y,M2)=>k x y M2
  | none=>none
 | none=>none
theorem zBu {K:PySem.W.Frag} {r:R2} {k:K2} {f g:FE} (hk:zAh K r k) {τ:Sv} {H:Hp} {Q:VK} (h:trE K (fOp k f g) τ H Q):tOp r (trE K f) (trE K g) τ H Q:=by
 obtain ⟨L,σ,M,d,M',c,rs,hf,q⟩:=h;unfold fOp at hf;split at hf
 ·rename_i x M1 e1;split at hf
  ·rename_i y M2 e2;refine (mkE c rs e1 (fun L1 H1 v s1 c1 r1=>(mkE c1 (rs.stp s1) e2 (fun L2 H2 w s2 c2 r2=>?_))));refine hk (H0:=H) c2 (r1.stp s2) (r2.back s1 c s2.sub) hf fun L3 H3 u s3 c3 r3=>?_;exact q L3 H3 u ((s1.trans s2).trans s3) c3 (r3.back (s1.trans s2) c s3.sub)
  ·cases hf
 ·cases hf
theorem zEy (hk:zAh X.K r k) (ho:OpR X (binaryOp op) r) (h1:QE X a f) (h2:QE X b g):QE X (.BinOp a op b pos) (fOp k f g):=.mk <| PE.imp (zPW ho h1.un h2.un) fun _ _ _ h=>zBu hk h
theorem zMu (hk:zAh X.K r k) (ho:OpR X (compareOp op) r) (h1:QE X a f) (h2:QE X b g) (hm:behindInMarks op b = false):QE X (.Compare a [op] [b] pos) (fOp k f g) :=
 .mk <| PE.imp (zMN ho h1.un h2.un hm) fun _ _ _ h=>zBu hk h
def tst (f:FE):FT:=fun σ M=>match f σ M with
 | some (.dat (.bl c),M')=>some (c,M')
 | _=>none
theorem zCT {K:PySem.W.Frag} {f:FE} {τ:Sv} {H:Hp} {Q:Bool -> Hp -> Prop} (h:trT K (tst f) τ H Q):zGs (trE K f) τ H Q:=by
 obtain ⟨L,σ,M,d,M',c,rs,hf,q⟩:=h;unfold tst at hf;split at hf
 ·rename_i k M1 e1;cases hf;refine (mkE c rs e1 (fun L1 H1 v s1 c1 r1=>?_));have:v = .bl d:=by unfold zT Rep at r1; exact r1
  exact ⟨d,this,q L1 H1 s1 c1⟩
 ·cases hf
theorem zCe (h:∀ τ H Q,t τ H Q -> t' τ H Q) (q:zGs t τ H Q):zGs t' τ H Q:=h _ _ _ q
theorem zCo {op:CmpOp} {r:R2} {k:K2} {f g:FE} (hk:zAh X.K r k) (ho:OpR X (compareOp op) r) (h1:QE X a f) (h2:QE X b g) (hm:behindInMarks op b = false):QT X (.Compare a [op] [b] pos) (tst (fOp k f g)) :=
 .mk <| PT.imp (zLx ho h1.un h2.un hm) fun _ _ _ h=>zCe (fun _ _ _ z=>zBu hk z) (zCT h)
theorem zEA (h:QE X e f) (he:∀ whole,isTrue e X.env whole = (do let v <- whole; standAt e.pos; holding [v] (truthy v)):=by intro _; rfl):QT X e (tst f) :=
 .mk <| PT.imp (zM8 h.un he) fun _ _ _ h=>zCT h
def kI (C:Int -> Int -> Bool) (g:Int -> Int -> D):K2:=fun x y M=>match x,y with
 | .dat (.int i),.dat (.int j)=>if C i j then some (.dat (g i j),M) else none
 | _,_=>none
def kI0 (g:Int -> Int -> D):K2:=kI (fun _ _=>true) g
theorem zGW {K:PySem.W.Frag} {C:Int -> Int -> Bool} {C':Int -> Int -> Prop} {g:Int -> Int -> D} {g':Int -> Int -> V} (hC:∀ i j,C i j = true -> C' i j) (hg:∀ L H i j,Rep L H (g i j) (g' i j)):zAh K (rI C' g') (kI C g):=by
 intro L M M' H H0 x y d v w Q c rx ry hk q;unfold kI at hk;split at hk
 ·rename_i i j;split at hk
  ·rename_i hc;cases hk;refine ⟨i,j,by unfold zT Rep at rx; exact rx,by unfold zT Rep at ry; exact ry,hC i j hc,q L H _ (.refl L H) c (hg L H i j)⟩
  ·cases hk
 ·cases hk
theorem zCp {K:PySem.W.Frag} {g:Int -> Int -> D} {g':Int -> Int -> V} (hg:∀ L H i j,Rep L H (g i j) (g' i j)):zAh K (rI0 g') (kI0 g):=by
 intro L M M' H H0 x y d v w Q c rx ry hk q;obtain ⟨i,j,h1,h2,_,h4⟩:=zGW (C:=fun _ _=>true) (C':=fun _ _=>True) (fun _ _ _=>trivial) hg c rx ry hk q;exact ⟨i,j,h1,h2,h4⟩
theorem zAF:Rep L H (.int i) (.int i):=by unfold Rep; rfl
theorem zAe:Rep L H (.bl i) (.bl i):=by unfold Rep; rfl
def zHL (i j:Int):Bool:=(decide (-(2 ^ 64) < i) && decide (i < 2 ^ 64)) || (decide (-(2 ^ 64) < j) && decide (j < 2 ^ 64))
abbrev zPy:K2:=kI0 fun i j=> .int (i + j)
abbrev zEG:K2:=kI0 fun i j=> .int (i - j)
abbrev zE2:K2:=kI zHL fun i j=> .int (i * j)
abbrev zCW:K2:=kI (fun _ j=>decide (0 < j)) fun i j=> .int (i % j)
abbrev zFZ:K2:=kI (fun _ j=>decide (0 < j) && decide (j < 1073741824)) fun i j=> .int (i / j)
abbrev zKA:K2:=kI (fun i j=>decide (0 <= j) && decide (j <= 1000000) && decide (i.natAbs < 2 ^ 64)) fun i j=> .int (i ^ j.toNat)
abbrev kLt:K2:=kI0 fun i j=> .bl (decide (i < j))
abbrev kLe:K2:=kI0 fun i j=> .bl (decide (i <= j))
abbrev kGt:K2:=kI0 fun i j=> .bl (decide (j < i))
abbrev kGe:K2:=kI0 fun i j=> .bl (decide (j <= i))
section
variable {f g:FE}
theorem zO2 (h1:QE X a f) (h2:QE X b g):QE X (.BinOp a .Sub b pos) (fOp zEG f g):=zEy (zCp fun _ _ _ _=>zAF) zNE h1 h2
theorem zPi (h1:QE X a f) (h2:QE X b g):QE X (.BinOp a .Mult b pos) (fOp zE2 f g):=zEy (zGW (fun i j h=>by
 unfold zHL at h;simp only [Bool.or_eq_true,zQp,zRS] at h;exact h) fun _ _ _ _=>zAF) zNe h1 h2
theorem zPE (h1:QE X a f) (h2:QE X b g):QE X (.BinOp a .Mod b pos) (fOp zCW f g):=zEy (zGW (fun i j h=>of_decide_eq_true h) fun _ _ _ _=>zAF) zNp h1 h2
theorem zPT (h1:QE X a f) (h2:QE X b g):QE X (.BinOp a .FloorDiv b pos) (fOp zFZ f g):=zEy (zGW (fun i j h=>by
 simp only [zQp,zRS] at h;exact h) fun _ _ _ _=>zAF) zMT h1 h2
theorem zPK (h1:QE X a f) (h2:QE X b g):QE X (.BinOp a .Pow b pos) (fOp zKA f g):=zEy (zGW (fun i j h=>by
 simp only [zQp,zRS] at h;exact ⟨h.1.1,h.1.2,h.2⟩) fun _ _ _ _=>zAF) zNS h1 h2
theorem zOv (h1:QE X a f) (h2:QE X b g):QT X (.Compare a [.Lt] [b] pos) (tst (fOp kLt f g)):=zCo (zCp fun _ _ _ _=>zAe) zPR h1 h2 (zBs _)
theorem zOc (h1:QE X a f) (h2:QE X b g):QT X (.Compare a [.Gt] [b] pos) (tst (fOp kGt f g)):=zCo (zCp fun _ _ _ _=>zAe) zOf h1 h2 (zBs _)
theorem zOq (h1:QE X a f) (h2:QE X b g):QT X (.Compare a [.GtE] [b] pos) (tst (fOp kGe f g)):=zCo (zCp fun _ _ _ _=>zAe) zPl h1 h2 (zBs _)
end
end
def zAZ (M:Mem):EV -> Option (List D)
 | .fl xs=>some xs
 | .dat (.ref n)=>match M[n]? with
  | some (.lst xs)=>some xs
  | some (.fro xs)=>some xs
  | _=>none
 | _=>none
def zBR:EV -> Option (List D)
 | .dat (.tup xs)=>some xs
 | _=>none
def zAG (M:Mem) (x:EV):Option (List D):=match zBR x with
 | some xs=>some xs
 | none=>zAZ M x
theorem zAg {K:PySem.W.Frag} {L:List Addr} {M:Mem} {H H0:Hp} {x:EV} {v:V} {xs:List D} (c:Cor K L M H) (r:zT H0 L H x v) (h:zAZ M x = some xs):∃ a vs,v = .ref a /\ Rd H a (.lst vs) /\ zG L H xs vs:=by
 cases x with
 | fl ys=>
  cases h;obtain ⟨p,vs,rfl,_,e,_,r⟩:=r;exact ⟨p,vs,rfl,.inl e,r⟩
 | dat d=>
  cases d with
  | ref n=>
   unfold zT Rep at r;obtain ⟨a,rfl,e⟩:=r;unfold zAZ at h;dsimp only at h;cases q:M[n]? with
   | none=>rw [q] at h; cases h
   | some m=>
    rw [q] at h;have z:=c.obj n a m e q;cases m with
    | lst ys=>cases h; obtain ⟨vs,e1,r1⟩:=z; exact ⟨a,vs,rfl,.inl e1,r1⟩
    | fro ys=>cases h; obtain ⟨o,vs,e1,r1⟩:=z; exact ⟨a,vs,rfl,.inr ⟨o,e1⟩,r1⟩
    | dict _=>cases h
    | dicT _=>cases h
    | set _=>cases h
    | froT _=>cases h
    | froK _=>cases h
  | _=>cases h
theorem zA9 {L:List Addr} {H H0:Hp} {x:EV} {v:V} {xs:List D} (r:zT H0 L H x v) (h:zBR x = some xs):∃ a vs,v = .ref a /\ H a = some (.tup vs) /\ zG L H xs vs:=by
 cases x with
 | fl ys=>cases h
 | dat d=>
  cases d with
  | tup ys=>cases h; unfold zT Rep at r; exact r
  | _=>cases h
theorem zIe {K:PySem.W.Frag} {L:List Addr} {M:Mem} {H H0:Hp} {x:EV} {v:V} {xs:List D} (c:Cor K L M H) (r:zT H0 L H x v) (h:zAG M x = some xs):∃ a vs,v = .ref a /\ (SqL K H a vs \/ SqT K H a vs) /\ zG L H xs vs:=by
 unfold zAG at h;cases q:zBR x with
 | some ys=>
  rw [q] at h; cases h;obtain ⟨a,vs,e,h1,h2⟩:=zA9 r q;exact ⟨a,vs,e,.inr (.of h1),h2⟩
 | none=>
  rw [q] at h;obtain ⟨a,vs,e,h1,h2⟩:=zAg c r h;exact ⟨a,vs,e,.inl (.inl h1),h2⟩
theorem zM9 {L:List Addr} {H:Hp} {xs:List D} {vs:List V} {i:Int} {d:D} (r:zG L H xs vs) (h:atI xs i = some d):∃ v,atI vs i = some v /\ Rep L H d v:=by
 unfold atI at h ⊢;rw [r.length];cases q:ixN xs.length i with
 | none=>rw [q] at h; cases h
 | some j=>rw [q] at h; exact r.get h
theorem zCP {L:List Addr} {H:Hp} {i:Str}:Rep L H (.str i) (.str i):=by unfold Rep; rfl
def kIx:K2:=fun x y M=>match y with
 | .dat (.int i)=>match zAG M x with
  | some xs=>match atI xs i with
   | some d=>some (.dat d,M)
   | none=>none
  | none=>match x with
   | .dat (.str z)=>if z.length <= sizeLine then match atI z.cps.toList i with
     | some c=>some (.dat (.str ⟨#[c]⟩),M)
     | none=>none
    else none
   | _=>none
 | _=>none
theorem zNO {K:PySem.W.Frag}:zAh K (rIx K) kIx:=by
 intro L M M' H H0 x y d v w Q c rx ry hk q;unfold kIx at hk;split at hk
 ·rename_i i;have ew:w = .int i:=by unfold zT Rep at ry; exact ry
  split at hk
  ·rename_i xs e1;split at hk
   ·rename_i d' e2;cases hk;obtain ⟨a,vs,rfl,hs,r⟩:=zIe c rx e1;obtain ⟨u,e3,r3⟩:=zM9 r e2;rcases hs with hs | hs
    ·exact .inl ⟨a,vs,i,u,rfl,ew,hs,e3,q L H u (.refl L H) c r3⟩
    ·exact .inr (.inl ⟨a,vs,i,u,rfl,ew,hs,e3,q L H u (.refl L H) c r3⟩)
   ·cases hk
  ·split at hk
   ·rename_i z _;split at hk
    ·rename_i hz;split at hk
     ·rename_i ch e2;cases hk;have ev:v = .str z:=by unfold zT Rep at rx; exact rx
      exact .inr (.inr ⟨z,i,ch,ev,ew,hz,e2,q L H _ (.refl L H) c (zCP (L:=L) (H:=H))⟩)
     ·cases hk
    ·cases hk
   ·cases hk
 ·cases hk
section
variable {prog:Program} {w:World} {A:Around} {E:Value -> Shared -> Prop} {s:Shared}
theorem zH5 {t sl:Addr} {items:Array Value} {vl vu:Value} {lo hi:Option Int} {Q:Value -> Shared -> Prop} (T:IsTup s.heap t items) (S:s.heap.IsSliceOf sl vl vu .none) (pl:IsPart vl lo) (pu:IsPart vu hi)
  (h1:HT.sIx items.size 0 lo = 0) (h2:HT.sIx items.size items.size hi = items.size) (h:Q (.ref t) s):wpAny (model prog w) A (getItem (.ref t) (.ref sl)) Q E s:=by
 obtain ⟨o,O,C,G⟩:=id S;have TS:s.TypeIs (.ref sl) "slice" := ⟨o,O,C⟩;unfold getItem;try with_reducible refine wpAny_holding ?_
 first | refine zQF (zQH ?_) | skip
 refine zQF (wpAny_sequenceKey T.typeIs (by decide) ?_);refine zQF (zQr (name:=Str.ofString "__getitem__") T.typeIs zRn (zQs zRn T.typeIs entry_tuple_getitem ?_ (args_tuple_getitem _ _)));refine zQF (m:=Builtin.Tuple.tupleItemsOf (.ref t)) (tupleItemsOf_ T (zQF (wpAny_typeOf TS ?_)));rw [zQU (by decide)];refine zQF (HT.zBg S pl pu ?_);rw [h1,h2];show wpAny _ _ (if ((((0:Nat):Int) == 0 && (1:Int) == 1 && (items.size - 0) == items.size)) = true then _ else _) _ _ s;rw [zQU (by simp)];unfold Builtin.Tuple.tupleIsExact;refine zQF (zQF (wpAny_typeOf T.typeIs (zQH ?_)));rw [zQU (by decide)];exact zQF (wpAny_rule (zQH ⟨_,rfl,zQH h⟩))
end
def zPs (K:PySem.W.Frag):V -> Option Int -> Option Int -> Hp -> VK -> Prop:=fun x lo hi H Q=>∃ a xs,x = .ref a /\ SqT K H a xs /\ (HT.sIx xs.length 0 lo = 0 /\ HT.sIx xs.length xs.length hi = xs.length) /\ Q (.ref a) H
theorem zLs {X:Cx}:SlR X (zPs X.K):=by
 intro zB s σ H x v vl vu lo hi sl Q I rx hs pl pu h;obtain ⟨a,xs,rfl,hx,hw,q⟩:=h;cases rx;obtain ⟨its,r,ht,hz⟩:=I.tuple hx;have hlen:its.toArray.size = xs.length:=by rw [zQN]; exact r.length.symm
 exact ⟨"tuple", _,zRn.lookup,ht.typeIs,zH5 ht hs pl pu (by rw [hlen]; exact hw.1) (by rw [hlen]; exact hw.2) ⟨.ref a,H,I,rfl,q⟩⟩
section
variable {X:Cx} {a b e:Expr} {es:List Expr} {pos:Pos} {f g:FE}
theorem zP0 (h1:QE X a f) (h2:QE X b g) (hs:zIW b:=by intro _ _; rfl):QE X (.Subscript a b pos) (fOp kIx f g):=.mk <| PE.imp (zOu zN0 h1.un h2.un hs) fun _ _ _ h=>zBu zNO h
abbrev FO:=Sd -> Mem -> Option (Option Int × Mem)
def trO (K:PySem.W.Frag) (f:FO):TO:=fun τ H Q=>∃ L σ M d M',Cor K L M H /\ zAU L H σ τ /\ f σ M = some (d,M') /\ ∀ L' H',Stp L H L' H' -> Cor K L' M' H' -> Q d H'
structure QO (X:Cx) (e:Option Expr) (f:FO):Prop where
 un:PO X e (trO X.K f)
def zBh:FO:=fun _ M=>some (none,M)
def zBW (f:FE):FO:=fun σ M=>match f σ M with
 | some (.dat (.int i),M')=>some (some i,M')
 | _=>none
theorem PO.imp {e:Option Expr} {t t':TO} (h:PO X e t) (hi:∀ τ H Q,t' τ H Q -> t τ H Q):PO X e t':=fun zB s σ H Q I q=>h zB s σ H Q I (hi _ _ _ q)
theorem zMR:QO X none zBh:=.mk <| PO.imp zMe fun τ H Q zz=>by
 obtain ⟨L,σ,M,d,M',c,rs,hf,q⟩:=zz;unfold zBh at hf;cases hf;exact q L H (.refl L H) c
theorem zLO (h:QE X e f):QO X (some e) (zBW f):=.mk <| PO.imp (zMV h.un) fun τ H Q zz=>by
 obtain ⟨L,σ,M,d,M',c,rs,hf,q⟩:=zz;unfold zBW at hf;split at hf
 ·rename_i i M1 e1;cases hf;refine (mkE c rs e1 (fun L1 H1 v s1 c1 r1=>?_));exact ⟨i,by unfold zT Rep at r1; exact r1,q L1 H1 s1 c1⟩
 ·cases hf
def zDE (xs:List D) (lo hi:Option Int):List D:=(xs.drop (HT.sIx xs.length 0 lo)).take (HT.sIx xs.length xs.length hi - HT.sIx xs.length 0 lo)
theorem zIM {L:List Addr} {H:Hp} {xs:List D} {vs:List V} {lo hi:Option Int} (r:zG L H xs vs):zG L H (zDE xs lo hi) (zHH vs lo hi):=by
 unfold zDE zHH;rw [r.length];exact (r.drop _).take _
def kSl (x:EV) (lo hi:Option Int) (M:Mem):Option (EV × Mem):=match zBR x with
 | some xs=>some (.dat (.tup (zDE xs lo hi)),M)
 | none=>match zAZ M x with
  | some xs=>some (.fl (zDE xs lo hi),M)
  | none=>none
def fSl (f:FE) (fl fh:FO):FE:=fun σ M=>match f σ M with
 | some (x,M1)=>match fl σ M1 with
  | some (lo,M2)=>match fh σ M2 with
   | some (hi,M3)=>kSl x lo hi M3
   | none=>none
  | none=>none
 | none=>none
theorem zLT {lo hi:Option Expr} {p2:Pos} {fl fh:FO} (h:QE X e f) (hl:QO X lo fl) (hh:QO X hi fh):QE X (.Subscript e (.Slice lo hi none p2) pos) (fSl f fl fh) :=
 .mk <| PE.imp (zKJ (SlR.or zMU (SlR.or zN4 zLs)) h.un hl.un hh.un) fun τ H Q zz=>by
  obtain ⟨L,σ,M,d,M',c,rs,hf,q⟩:=zz;unfold fSl at hf;split at hf
  ·rename_i x M1 e1;split at hf
   ·rename_i l M2 e2;split at hf
    ·rename_i u M3 e3;refine ⟨L,σ,M,_,_,c,rs,e1,fun L1 H1 v s1 c1 r1=>⟨L1,σ,M1,_,_,c1,rs.stp s1,e2,fun L2 H2 s2 c2=>⟨L2,σ,M2,_,_,c2,rs.stp (s1.trans s2),e3,fun L3 H3 s3 c3=>?_⟩⟩⟩;have s:=(s1.trans s2).trans s3;have r3:zT H L3 H3 x v:=(r1.stp s2).stp s3;unfold kSl at hf;cases t:zBR x with
     | some xs=>
      rw [t] at hf;dsimp only at hf;cases hf;obtain ⟨a,vs,rfl,e4,r4⟩:=zA9 r3 t;by_cases hw:HT.sIx vs.length 0 l = 0 /\ HT.sIx vs.length vs.length u = vs.length
      ·refine .inr (.inr ⟨a,vs,rfl,.of e4,hw,?_⟩);have ec:zDE xs l u = xs:=by
        unfold zDE;rw [<- r4.length,hw.1,hw.2,r4.length];simp
       rw [ec] at q;refine q L3 H3 _ s c3 ?_;unfold zT Rep;exact ⟨a,vs,rfl,e4,r4⟩
      ·refine .inr (.inl ⟨a,vs,rfl,.of e4,hw,fun p hp=>?_⟩);exact q L3 _ _ (s.trans (.upd hp)) (c3.upd hp) (Rep.newTup hp (zIM r4))
     | none=>
      rw [t] at hf;dsimp only at hf;split at hf
      ·rename_i xs e4;cases hf;obtain ⟨a,vs,rfl,e5,r5⟩:=zAg c3 r3 e4;refine .inl ⟨a,vs,rfl,.inl e5,fun p hp=>?_⟩;exact q L3 _ _ (s.trans (.upd hp)) (c3.upd hp) (zT.newLst s c c3 hp (zIM r5))
      ·cases hf
    ·cases hf
   ·cases hf
  ·cases hf
abbrev KB:=List EV -> Mem -> Option (EV × Mem)
def zEH (K:PySem.W.Frag) (r:List V -> Hp -> VK -> Prop) (k:KB):Prop:=∀ {L:List Addr} {M M':Mem} {H H0:Hp} {xs:List EV} {d:EV} {vs:List V} {Q:VK},Cor K L M H -> zCX H0 L H xs vs -> k xs M = some (d,M') ->
 (∀ L' H' u,Stp L H L' H' -> Cor K L' M' H' -> zT H L' H' d u -> Q u H') -> r vs H Q
def fB (k:KB) (f:FAE):FE:=fun σ M=>match f σ M with
 | some (xs,M1)=>k xs M1
 | none=>none
theorem zK9 {K:PySem.W.Frag} {r:List V -> Hp -> VK -> Prop} {k:KB} {f:FAE} (hk:zEH K r k) {τ:Sv} {H:Hp} {Q:VK} (h:trE K (fB k f) τ H Q):tCB r (zPC K f) τ H Q:=by
 obtain ⟨L,σ,M,d,M',c,rs,hf,q⟩:=h;unfold fB at hf;split at hf
 ·rename_i xs M1 e1;refine ⟨L,σ,M,_,_,c,rs,e1,fun L1 H1 vs s1 c1 r1=>?_⟩;refine hk c1 r1 hf fun L2 H2 u s2 c2 r2=>?_;exact q L2 H2 u (s1.trans s2) c2 (r2.back s1 c s2.sub)
 ·cases hf
theorem zCX.one {H0:Hp} {L:List Addr} {H:Hp} {x:EV} {vs:List V} (h:zCX H0 L H [x] vs):∃ v,vs = [v] /\ zT H0 L H x v:=by
 obtain ⟨v,r,rfl,h1,h2⟩:=h;unfold zCX at h2;subst h2;exact ⟨v,rfl,h1⟩
def zBw:KB:=fun xs M=>match xs with
 | [x]=>match zAG M x with
  | some ys=>some (.dat (.int ys.length),M)
  | none=>none
 | _=>none
theorem zL4:zEH X.K (fun xs H Q=>∃ p ys,xs = [.ref p] /\ (SqL X.K H p ys \/ SqT X.K H p ys) /\ Q (.int ys.length) H) zBw:=by
 intro L M M' H H0 xs d vs Q c r hk q;unfold zBw at hk;split at hk
 ·rename_i x;split at hk
  ·rename_i ys e1;cases hk;obtain ⟨v,rfl,r1⟩:=r.one;obtain ⟨a,ws,rfl,hs,r2⟩:=zIe c r1 e1;refine ⟨a,ws,rfl,hs,q L H _ (.refl L H) c ?_⟩;rw [r2.length]; exact (zAF (L:=L) (H:=H))
  ·cases hk
 ·cases hk
theorem zDI {x:Str} {p:Pos} {id:String} {r:List V -> Hp -> VK -> Prop} {k:KB} {f:FAE} (hk:zEH X.K r k) (hc:zBj X (.builtin id) r) (hv:bootBuiltins x = some (.builtin id)) (hg:Gl X x) (hm:X.mg x = none) (ha:QAE X (e :: es) f) (hn:x ≠ "__name__" := by decide) (hdb:(x == ("__debug__" : Str)) = false:=by decide)
  (he:starEach (e :: es) X.env = (false,eval e X.env) :: starEach es X.env:=by rfl) (hpl:(backTo pos (starEach es X.env)).any (·.1) = false:=by rfl):QE X (.Call (.Name x p) (e :: es) [] pos) (fB k f) :=
 .mk <| PE.imp (zHE hc hg hm hv ha.un hn hdb he hpl) fun _ _ _ h=>zK9 hk h
theorem zEV {x:Str} {p:Pos} {T:String} {r:List V -> Hp -> VK -> Prop} {k:KB} {f:FAE} (hk:zEH X.K r k) (hc:zBj X (.type T) r) (hv:bootBuiltins x = some (.type T)) (hg:Gl X x) (hm:X.mg x = none) (ha:QAE X (e :: es) f) (hn:x ≠ "__name__" := by decide) (hdb:(x == ("__debug__" : Str)) = false:=by decide)
  (he:starEach (e :: es) X.env = (false,eval e X.env) :: starEach es X.env:=by rfl) (hpl:(backTo pos (starEach es X.env)).any (·.1) = false:=by rfl):QE X (.Call (.Name x p) (e :: es) [] pos) (fB k f) :=
 .mk <| PE.imp (zI9 hc hg hm hv ha.un hn hdb he hpl) fun _ _ _ h=>zK9 hk h
def zAp:KB:=fun xs M=>match xs with
 | [x]=>match zAG M x with
  | some ys=>some (.dat (.tup ys),M)
  | none=>none
 | _=>none
theorem zJS:zEH X.K (fun xs H Q=>∃ p ys,xs = [.ref p] /\ ((SqL X.K H p ys /\ ∀ l,H l = none -> Q (.ref l) (upd H l (.tup ys))) \/ (SqT X.K H p ys /\ Q (.ref p) H))) zAp:=by
 intro L M M' H H0 xs d vs Q c r hk q;unfold zAp at hk;split at hk
 ·rename_i x;split at hk
  ·rename_i ys e1;cases hk;obtain ⟨v,rfl,r1⟩:=r.one;unfold zAG at e1;cases t:zBR x with
   | some zs=>
    rw [t] at e1; cases e1;obtain ⟨a,ws,rfl,e2,r2⟩:=zA9 r1 t;refine ⟨a,ws,rfl,.inr ⟨.of e2,q L H _ (.refl L H) c ?_⟩⟩;unfold zT Rep;exact ⟨a,ws,rfl,e2,r2⟩
   | none=>
    rw [t] at e1;obtain ⟨a,ws,rfl,e2,r2⟩:=zAg c r1 e1;refine ⟨a,ws,rfl,.inl ⟨.inl e2,fun p hp=>?_⟩⟩;exact q L _ _ (.upd hp) (c.upd hp) (Rep.newTup hp r2)
  ·cases hk
 ·cases hk
end
set_option genInjectivity true in
inductive Out where
  | nx | ret (d:D) | brk | cnt
abbrev FS:=Sd -> Mem -> Option (Out × Sd × Mem)
def zO9 (E:Ends) (L:List Addr) (H:Hp) (σ:Sd):Out -> Prop
  | .nx=>∀ τ,zAU L H σ τ -> E.nx τ H
  | .ret d=>∀ v,Rep L H d v -> E.rt v H
  | .brk=>∀ τ,zAU L H σ τ -> E.bk τ H
  | .cnt=>∀ τ,zAU L H σ τ -> E.ct τ H
def trS (K:PySem.W.Frag) (f:FS):TS:=fun E τ H=>∃ L σ M o σ' M',Cor K L M H /\ zAU L H σ τ /\ f σ M = some (o,σ',M') /\ ∀ L' H',Stp L H L' H' -> Cor K L' M' H' -> zO9 E L' H' σ' o
structure QS (X:Cx) (st:Stmt) (f:FS):Prop where
  un:PS X st (trS X.K f)
structure QSs (X:Cx) (st:List Stmt) (f:FS):Prop where
  un:PSs X st (trS X.K f)
theorem zAU.set {L:List Addr} {H:Hp} {σ:Sd} {τ:Sv} {i:Nat} {d:D} {v:V} (h:zAU L H σ τ) (r:Rep L H d v):zAU L H (σ.set i (some d)) (τ.set i (some v)):=by
  refine ⟨by simp [h.1],fun j e q=>?_⟩;rw [zRo] at q ⊢;split at q
  · rename_i z
    subst z;split at q
    · rename_i hl
      cases q;rw [zQU rfl,zQU (by rw [h.1]; exact hl)];exact ⟨v,rfl,r⟩
    · cases q
  · rename_i z
    rw [zQX z];exact h.2 j e q
theorem zJy {K:PySem.W.Frag} {f:FE} {τ:Sv} {H:Hp} {Q:VK} (h:trD K (toD f) τ H Q):trE K f τ H Q:=by
  obtain ⟨L,σ,M,d,M',c,rs,hf,q⟩:=h;unfold toD at hf;split at hf
  · rename_i d' M1 e1
    cases hf;exact (mkE c rs e1 (fun L' H' v s c' r=>q L' H' v s c' r))
  · rename_i xs M1 e1
    cases hf;refine (mkE c rs e1 (fun L' H' v s c' r=>?_));obtain ⟨p,vs,rfl,e0,e2,e3,r⟩:=r;obtain ⟨c2,s2⟩:=zMh s c' e0 e2 e3 r;exact q _ H' _ s2 c2 (Rep.last c')
  · cases hf
def zAr:FS:=fun σ M=>some (.nx,σ,M)
def zP (f g:FS):FS:=fun σ M=>match f σ M with
  | some (.nx,σ1,M1)=>g σ1 M1
  | r=>r
def sIf (c:FT) (f g:FS):FS:=fun σ M=>match c σ M with
  | some (true,M1)=>f σ M1
  | some (false,M1)=>g σ M1
  | none=>none
def zq (f:FE):FS:=fun σ M=>match toD f σ M with
  | some (d,M1)=>some (.ret d,σ,M1)
  | none=>none
def zAI (i:Nat) (f:FE):FS:=fun σ M=>match toD f σ M with
  | some (d,M1)=>some (.nx,σ.set i (some d),M1)
  | none=>none
def zA4 (f:FE):FS:=fun σ M=>match f σ M with
  | some (_,M1)=>some (.nx,σ,M1)
  | none=>none
section
variable {X:Cx} {st:Stmt} {rest:List Stmt} {e c:Expr} {pos:Pos}
theorem zDc:QSs X [] zAr:=.mk <| PSs.imp zLw fun E τ H zz=>by
  obtain ⟨L,σ,M,o,σ',M',c,rs,hf,q⟩:=zz;unfold zAr at hf;cases hf;exact q L H (.refl L H) c τ rs
theorem zCO {f g:FS} (h1:QS X st f) (h2:QSs X rest g):QSs X (st :: rest) (zP f g):=.mk <| PSs.imp (zKY h1.un h2.un) fun E τ H zz=>by
  obtain ⟨L,σ,M,o,σ',M',c,rs,hf,q⟩:=zz;unfold zP at hf;split at hf
  · rename_i σ1 M1 e1
    refine ⟨L,σ,M,_,_,_,c,rs,e1,fun L1 H1 s1 c1 τ1 r1=>⟨L1,σ1,M1,_,_,_,c1,r1,hf,fun L2 H2 s2 c2=>q L2 H2 (s1.trans s2) c2⟩⟩
  · rename_i hne
    refine ⟨L,σ,M,_,_,_,c,rs,hf,fun L1 H1 s1 c1=>?_⟩;have z:=q L1 H1 s1 c1;cases o with
    | nx=>exact absurd hf (hne σ' M')
    | ret d=>exact z
    | brk=>exact z
    | cnt=>exact z
theorem zCm {f:FS} (h1:QS X st f):QSs X [st] f:=.mk <| PSs.imp (zLp h1.un) fun _ _ _ h=>h
theorem zJL {a b:List Stmt} {fc:FT} {f g:FS} (hc:QT X c fc) (ha:QSs X a f) (hb:QSs X b g):QS X (.If c a b pos) (sIf fc f g):=.mk <| PS.imp (zOs hc.un ha.un hb.un) fun E τ H zz=>by
  obtain ⟨L,σ,M,o,σ',M',c,rs,hf,q⟩:=zz;unfold sIf at hf;split at hf
  · rename_i M1 e1
    refine (mkT c rs e1 (fun L1 H1 s1 c1=>?_));exact zHj ⟨L1,σ,M1,_,_,_,c1,rs.stp s1,hf,fun L2 H2 s2 c2=>q L2 H2 (s1.trans s2) c2⟩
  · rename_i M1 e1
    refine (mkT c rs e1 (fun L1 H1 s1 c1=>?_));exact zHk ⟨L1,σ,M1,_,_,_,c1,rs.stp s1,hf,fun L2 H2 s2 c2=>q L2 H2 (s1.trans s2) c2⟩
  · cases hf
theorem zEC {f:FE} (h:QE X e f):QS X (.Return (some e) pos) (zq f):=.mk <| PS.imp (zNi (zBy h).un) fun E τ H zz=>by
  obtain ⟨L,σ,M,o,σ',M',c,rs,hf,q⟩:=zz;unfold zq at hf;split at hf
  · rename_i d M1 e1
    cases hf;exact (mkD c rs e1 (fun L1 H1 v s1 c1 r1=>q L1 H1 s1 c1 v r1))
  · cases hf
theorem zGX {K:PySem.W.Frag} {i:Nat} {f:FE} {t:TE} (ht:∀ τ H Q,trE K f τ H Q -> t τ H Q) {E:Ends} {τ:Sv} {H:Hp} (h:trS K (zAI i f) E τ H):zLa t (zC7 i) E τ H:=by
  obtain ⟨L,σ,M,o,σ',M',c,rs,hf,q⟩:=h;unfold zAI at hf;split at hf
  · rename_i d M1 e1
    cases hf;exact ht _ _ _ (zJy (mkD c rs e1 (fun L1 H1 v s1 c1 r1=>q L1 H1 s1 c1 _ ((rs.stp s1).set r1))))
  · cases hf
theorem zPP {i:Nat} {x:Str} {f:FE} {pos':Pos} (hN:X.N.Nodup) (hi:X.N[i]? = some x) (hx:Loc X.env.scope x) (h:QE X e f) (hs:swapsWith e (some (.Name x pos')) pos.line X.env = pure false:=by rfl)
    (hf:X.fn x = true \/ X.env.scope.names.lookup x = some .local:=by first | exact .inl rfl | exact .inr rfl | assumption):QS X (.Assign [.Name x pos'] e pos) (zAI i f) := 
  .mk <| PS.imp (zOX hN hi hx h.un hs hf) fun _ _ _ z=>zGX (fun _ _ _ z=>z) z
theorem zNu {f:FE} (h:QE X e f) (hs:swapsWith e none pos.line X.env = pure false:=by rfl):QS X (.Expr e pos) (zA4 f):=.mk <| PS.imp (zLW h.un hs) fun E τ H zz=>by
  obtain ⟨L,σ,M,o,σ',M',c,rs,hf,q⟩:=zz;unfold zA4 at hf;split at hf
  · rename_i d M1 e1
    cases hf;exact (mkE c rs e1 (fun L1 H1 v s1 c1 r1=>q L1 H1 s1 c1 τ (rs.stp s1)))
  · cases hf
abbrev FG:=D -> Sd -> Option Sd
def GOk (g:TG) (fg:FG):Prop:=∀ {L:List Addr} {H:Hp} {σ σ':Sd} {τ:Sv} {d:D} {v:V} {Q:Sv -> Hp -> Prop},zAU L H σ τ -> Rep L H d v -> fg d σ = some σ' -> (∀ τ',zAU L H σ' τ' -> Q τ' H) -> g v τ H Q
def gN (i:Nat):FG:=fun d σ=>some (σ.set i (some d))
theorem zKs {i:Nat}:GOk (zC7 i) (gN i):=by
  intro L H σ σ' τ d v Q rs r hf q;unfold gN at hf;cases hf;exact q _ (rs.set r)
abbrev FI:=Sd -> Mem -> Option (List D × Option (Mem -> Prop) × Mem)
def zBQ (g:Option (Mem -> Prop)) (xs:List D) (M:Mem):Prop:=match g with
  | none=>True
  | some p=>p M
def zM1 (K:PySem.W.Frag) (J:It) (L:List Addr) (H:Hp) (xs:List D) (g:Option (Mem -> Prop)):Prop:=∀ L' H' M',Stp L H L' H' -> Cor K L' M' H' -> zBQ g xs M' ->
  (∀ (i:Nat) d,xs[i]? = some d -> J.go i H' /\ ∀ v H'',J.yld i H' v H'' -> (∀ a o,H' a = some o -> H'' a = some o) /\ Rep L' H'' d v) /\ J.stop xs.length H'
def trI (K:PySem.W.Frag) (f:FI):TI:=fun τ H R=>∃ L σ M xs g M',Cor K L M H /\ zAU L H σ τ /\ f σ M = some (xs,g,M') /\ ∀ L' H' J,Stp L H L' H' -> Cor K L' M' H' -> zM1 K J L' H' xs g -> R J H'
theorem mkI {K:PySem.W.Frag} {f:FI} {τ:Sv} {H:Hp} {R} {σ:Sd} {M M':Mem} {xs g} (c:Cor K L M H) (r:zAU L H σ τ) (e:f σ M = some (xs,g,M')) (q:∀ L' H' J,Stp L H L' H' -> Cor K L' M' H' -> zM1 K J L' H' xs g -> R J H'):trI K f τ H R:=⟨_,_,_,_,_,_,c,r,e,q⟩
structure QI (X:Cx) (tg e:Expr) (f:FI):Prop where
  un:PI X tg e (trI X.K f)
theorem PI.imp {tg e:Expr} {t t':TI} (h:PI X tg e t) (hi:∀ τ H R,t' τ H R -> t τ H R):PI X tg e t':=fun zB s σ H R I q=>h zB s σ H R I (hi _ _ _ q)
noncomputable def zBz (g:FG) (b:FS) (all:List D) (gd:Option (Mem -> Prop)):List D -> Sd -> Mem -> Option (Out × Sd × Mem)
  | [],σ,M=>open Classical in if zBQ gd all M then some (.nx,σ,M) else none
  | x :: r,σ,M=>open Classical in if zBQ gd all M then match g x σ with
      | some σ1=>match b σ1 M with
        | some (.nx,σ2,M2)=>zBz g b all gd r σ2 M2
        | some (.cnt,σ2,M2)=>zBz g b all gd r σ2 M2
        | some (.brk,σ2,M2)=>some (.nx,σ2,M2)
        | some (.ret d,σ2,M2)=>some (.ret d,σ2,M2)
        | none=>none
      | none=>none
    else none
noncomputable def zC1 (fi:FI) (g:FG) (b:FS):FS:=fun σ M=>match fi σ M with
  | some (xs,gd,M1)=>zBz g b xs gd xs σ M1
  | none=>none
theorem zFM {α:Type} {xs:List α} {i:Nat} (h:i < xs.length):xs.drop i = xs[i] :: xs.drop (i + 1):=List.drop_eq_getElem_cons h
theorem Stp.yld {L L':List Addr} {H H' H'':Hp} (s:Stp L H L' H') (h:∀ a o,H' a = some o -> H'' a = some o):Stp L H L' H'':=s.trans (.grow h)
set_option genInjectivity true in
inductive FW (K:PySem.W.Frag) (fg:FG) (b:FS) (xs:List D) (gd:Option (Mem -> Prop)) (r:Option (Out × Sd × Mem)) (L1:List Addr) (H1:Hp):Nat -> Nat -> Sv -> Hp -> Prop
  | mk {i:Nat} {τ':Sv} {H':Hp} {L':List Addr} {σ':Sd} {M':Mem}:i <= xs.length -> Stp L1 H1 L' H' -> Cor K L' M' H' -> zAU L' H' σ' τ' -> zBz fg b xs gd (xs.drop i) σ' M' = r -> FW K fg b xs gd r L1 H1 i (xs.length - i) τ' H'
theorem zKt {K:PySem.W.Frag} {fi:FI} {g:TG} {fg:FG} {b:FS} (hg:GOk g fg) {E:Ends} {τ:Sv} {H:Hp} (h:trS K (zC1 fi fg b) E τ H):zPg (trI K fi) g (trS K b) E τ H:=by
  obtain ⟨L,σ,M,o,σf,Mf,c,rs,hf,q⟩:=h;unfold zC1 at hf;split at hf
  · rename_i xs gd M1 e1
    refine (mkI c rs e1 (fun L1 H1 J s1 c1 it=>?_));refine ⟨FW K fg b xs gd (some (o,σf,Mf)) L1 H1,⟨_,.mk (Nat.zero_le _) (.refl _ _) c1 (rs.stp s1) (by simpa using hf)⟩,?_⟩;rintro i m τ' H' ⟨hi,s',c',rs',e'⟩;rename_i L' σ' M';by_cases hlt:i < xs.length
    · rw [zFM hlt] at e'
      unfold zBz at e';split at e'
      · rename_i hgd
        obtain ⟨step,_⟩:=it L' H' M' s' c' hgd;obtain ⟨go,yl⟩:=step i xs[i] (zQJ hlt);cases eg:fg xs[i] σ' with
        | none=>rw [eg] at e'; cases e'
        | some σ1=>
          rw [eg] at e';dsimp only at e';refine .inr ⟨go,FW K fg b xs gd (some (o,σf,Mf)) L1 H1 (i + 1) (xs.length - (i + 1)),fun τ2 H2 a=>⟨xs.length - (i + 1),by omega,a⟩,fun v H2 hy=>?_⟩;obtain ⟨gr,rv⟩:=yl v H2 hy;refine hg (zAU.stp (.grow gr) rs') rv eg fun τ2 r2=>?_;cases eb:b σ1 M' with
          | none=>rw [eb] at e'; cases e'
          | some r=>
            obtain ⟨o2,σ2,M2⟩:=r;rw [eb] at e';refine ⟨L',σ1,M',_,_,_,c'.grow gr,r2,eb,fun L3 H3 s3 c3=>?_⟩;have s13:Stp L1 H1 L3 H3:=(s'.yld gr).trans s3;cases o2 with
            | nx=>exact fun τ3 r3=> .mk hlt s13 c3 r3 e'
            | cnt=>exact fun τ3 r3=> .mk hlt s13 c3 r3 e'
            | brk=>cases e'; exact q L3 H3 (s1.trans s13) c3
            | ret d=>cases e'; exact q L3 H3 (s1.trans s13) c3
      · cases e'
    · have hi':i = xs.length:=by omega
      subst hi';rw [List.drop_length] at e';unfold zBz at e';split at e'
      · rename_i hgd
        cases e';obtain ⟨_,stop⟩:=it L' H' _ s' c' hgd;exact .inl ⟨stop,q L' H' (s1.trans s') c' τ' rs'⟩
      · cases e'
  · cases hf
theorem zMw {tg iter:Expr} {body:List Stmt} {fi:FI} {g:TG} {fg:FG} {b:FS} (hg:GOk g fg) (hp:PassesOwn (model X.prog X.w) X.A X.env X.xe) (hc:X.calm = true) (hi:QI X tg iter fi) (ht:PG X tg g) (hb:QSs X body b)
    (hs:∀ x,foldedSetIterable iter X.env x = pure x:=by intro _; rfl):QS X (.For tg iter body [] pos) (zC1 fi fg b):=.mk <| PS.imp (zOZ hp hc hi.un ht hb.un hs) fun _ _ _ h=>zKt hg h
end
section
variable {X:Cx} {e c iter tg elt:Expr} {pos:Pos} {scope:Scope} {ifs:List Expr}
def zAy (c:FT) (b:FS):Nat -> Sd -> Mem -> Option (Out × Sd × Mem)
  | 0,_,_=>none
  | n + 1,σ,M=>match c σ M with
    | some (true,M1)=>match b σ M1 with
      | some (.nx,σ2,M2)=>zAy c b n σ2 M2
      | some (.cnt,σ2,M2)=>zAy c b n σ2 M2
      | some (.brk,σ2,M2)=>some (.nx,σ2,M2)
      | some (.ret d,σ2,M2)=>some (.ret d,σ2,M2)
      | none=>none
    | some (false,M1)=>some (.nx,σ,M1)
    | none=>none
theorem zIA {K:PySem.W.Frag} {fc:FT} {b:FS} {n:Nat} {E:Ends} {τ:Sv} {H:Hp} (h:trS K (zAy fc b n) E τ H):zKC (trT K fc) (trS K b) E τ H:=by
  obtain ⟨L,σ,M,o,σf,Mf,c,rs,hf,q⟩:=h;refine ⟨fun m τ' H'=>∃ L' σ' M',Stp L H L' H' /\ Cor K L' M' H' /\ zAU L' H' σ' τ' /\ zAy fc b m σ' M' = some (o,σf,Mf),⟨n,L,σ,M,.refl _ _,c,rs,hf⟩,?_⟩;rintro m τ' H' ⟨L',σ',M',s',c',rs',e'⟩;cases m with
  | zero=>unfold zAy at e'; cases e'
  | succ m=>
    unfold zAy at e';split at e'
    · rename_i M1 e1
      refine (mkT c' rs' e1 (fun L1 H1 s1 c1=>zHj ?_));refine ⟨fun τ2 H2=>∃ L2 σ2 M2,Stp L H L2 H2 /\ Cor K L2 M2 H2 /\ zAU L2 H2 σ2 τ2 /\ zAy fc b m σ2 M2 = some (o,σf,Mf),fun τ2 H2 h2=>⟨m,Nat.lt_succ_self m,h2⟩,?_⟩;cases eb:b σ' M1 with
      | none=>rw [eb] at e'; cases e'
      | some r=>
        obtain ⟨o2,σ2,M2⟩:=r;rw [eb] at e';refine ⟨L1,σ',M1,_,_,_,c1,rs'.stp s1,eb,fun L3 H3 s3 c3=>?_⟩;have s13:Stp L H L3 H3:=(s'.trans s1).trans s3;cases o2 with
        | nx=>exact fun τ3 r3=>⟨L3,σ2,M2,s13,c3,r3,e'⟩
        | cnt=>exact fun τ3 r3=>⟨L3,σ2,M2,s13,c3,r3,e'⟩
        | brk=>cases e'; exact q L3 H3 s13 c3
        | ret d=>cases e'; exact q L3 H3 s13 c3
    · rename_i M1 e1
      cases e';exact ⟨L',_,M',_,_,c',rs',e1,fun L1 H1 s1 c1=>zHk (q L1 H1 (s'.trans s1) c1 τ' (rs'.stp s1))⟩
    · cases e'
theorem zL6 {body:List Stmt} {fc:FT} {b:FS} (n:Nat) (hp:PassesOwn (model X.prog X.w) X.A X.env X.xe) (hc:QT X c fc) (hb:QSs X body b):QS X (.While c body [] pos) (zAy fc b n) := 
  .mk <| PS.imp (zKg hp hc.un hb.un) fun _ _ _ h=>zIA h
def zHv (own:List Nat) (σ:Sd):Sd:=own.foldl (fun σ i=>σ.set i none) σ
theorem zIG {L:List Addr} {H:Hp}:∀ (own:List Nat) {σ:Sd} {τ:Sv},zAU L H σ τ -> zAU L H (zHv own σ) (clr own τ)
  | [],_,_,h=>h
  | i :: r,σ,τ,h=>by
    refine zIG r (σ:=σ.set i none) (τ:=τ.set i none) ⟨by simp [h.1],fun j d q=>?_⟩;rw [zRo] at q ⊢;split at q
    · split at q <;> cases q
    · rename_i z
      rw [zQX z];exact h.2 j d q
noncomputable def zBD (g:FG) (tc:FT) (te:FE) (σ:Sd) (all:List D) (gd:Option (Mem -> Prop)):List D -> Mem -> Option (List D × Mem)
  | [],M=>open Classical in if zBQ gd all M then some ([],M) else none
  | x :: r,M=>open Classical in if zBQ gd all M then match g x σ with
      | some σ1=>match tc σ1 M with
        | some (true,M1)=>match toD te σ1 M1 with
          | some (d,M2)=>match zBD g tc te σ all gd r M2 with
            | some (ds,M3)=>some (d :: ds,M3)
            | none=>none
          | none=>none
        | some (false,M1)=>zBD g tc te σ all gd r M1
        | none=>none
      | none=>none
    else none
noncomputable def zy (own:List Nat) (fi:FI) (g:FG) (tc:FT) (te:FE):FE:=fun σ M=>match fi σ M with
  | some (xs,gd,M1)=>if xs.length <= sizeLine then match zBD g tc te (zHv own σ) xs gd xs M1 with
      | some (ys,M2)=>some (.fl ys,M2)
      | none=>none
    else none
  | none=>none
/-- what a target of a comprehension does: it sets names of its own -/
def zK5 (own:List Nat) (g:TG) (fg:FG):Prop:=∀ {L:List Addr} {H:Hp} {σ σ':Sd} {τ τ0:Sv} {d:D} {v:V} {Q:Sv -> Hp -> Prop},zAU L H σ τ -> Ext (clr own τ0) τ -> Rep L H d v -> fg d σ = some σ' -> (∀ τ',zAU L H σ' τ' -> Ext (clr own τ0) τ' -> Q τ' H) -> g v τ H Q
theorem zFJ {own:List Nat} {i:Nat} (hi:i ∈ own):zK5 own (zC7 i) (gN i):=by
  intro L H σ σ' τ τ0 d v Q rs ex r hf q;unfold gN at hf;cases hf;exact q _ (rs.set r) (ex.set hi)
set_option genInjectivity true in
inductive CW (K:PySem.W.Frag) (fg:FG) (tc:FT) (te:FE) (σ0:Sd) (xs:List D) (gd:Option (Mem -> Prop)) (Mf:Mem) (zs:List D) (L1:List Addr) (H1:Hp):Nat -> Nat -> List V -> Hp -> Prop
  | mk {i:Nat} {ys:List V} {H':Hp} {L':List Addr} {M':Mem} {as bs:List D}:i <= xs.length -> Stp L1 H1 L' H' -> Cor K L' M' H' -> zG L' H' as ys -> as.length <= i -> zBD fg tc te σ0 xs gd (xs.drop i) M' = some (bs,Mf) -> as ++ bs = zs -> CW K fg tc te σ0 xs gd Mf zs L1 H1 i (xs.length - i) ys H'
theorem zFO {K:PySem.W.Frag} {own:List Nat} {fi:FI} {g:TG} {fg:FG} {tc:FT} {te:FE} (hg:zK5 own g fg) {τ:Sv} {H:Hp} {Q:VK} (h:trE K (zy own fi fg tc te) τ H Q):zJh own (trI K fi) g (trT K tc) (trD K (toD te)) τ H Q:=by
  obtain ⟨L,σ,M,d,Mf,c,rs,hf,q⟩:=h;unfold zy at hf;split at hf
  · rename_i xs gd M1 e1
    split at hf
    · rename_i hz
      split at hf
      · rename_i zs M2 e2
        cases hf;refine (mkI c rs e1 (fun L1 H1 J s1 c1 it=>?_));refine ⟨CW K fg tc te (zHv own σ) xs gd Mf zs L1 H1,⟨_,.mk (Nat.zero_le _) (.refl _ _) c1 .nil (zQL _) (by simpa using e2) rfl⟩,?_⟩;rintro i m ys H' ⟨hi,s',c',r',hl,e',hab⟩;rename_i L' M' as bs;have hys:ys.length <= i:=by rw [r'.length]; exact hl
        by_cases hlt:i < xs.length
        · rw [zFM hlt] at e'
          unfold zBD at e';split at e'
          · rename_i hgd
            obtain ⟨step,_⟩:=it L' H' M' s' c' hgd;obtain ⟨go,yl⟩:=step i xs[i] (zQJ hlt);split at e'
            · rename_i σ1 eg
              refine .inr ⟨go,fun v H2 hy=>?_⟩;obtain ⟨gr,rv⟩:=yl v H2 hy;have s2:Stp L1 H1 L' H2:=s'.yld gr;refine hg (zIG own ((rs.stp s1).stp s2)) (.refl _) rv eg fun τ2 r2 x2=>⟨x2,?_⟩;split at e'
              · rename_i M3 e3
                split at e'
                · rename_i d M4 e4
                  split at e'
                  · rename_i ds M5 e5
                    cases e';refine (mkT (c'.grow gr) r2 e3 (fun L3 H3 s3 c3=>zHj ?_));refine (mkD c3 (r2.stp s3) e4 (fun L4 H4 w s4 c4 r4=>?_));have st:Stp L' H' L4 H4:=((Stp.grow gr).trans s3).trans s4;refine ⟨Nat.lt_of_le_of_lt hys (zQe hlt hz),xs.length - (i + 1),by omega,.mk (as:=as ++ [d]) hlt (s'.trans st) c4 ((r'.stp st).app (.cons r4 .nil)) (by simp; omega) e5 (by rw [<- hab]; simp)⟩
                  · cases e'
                · cases e'
              · rename_i M3 e3
                refine (mkT (c'.grow gr) r2 e3 (fun L3 H3 s3 c3=>zHk ?_));have st:Stp L' H' L3 H3:=(Stp.grow gr).trans s3;exact ⟨xs.length - (i + 1),by omega,.mk hlt (s'.trans st) c3 (r'.stp st) (by omega) e' hab⟩
              · cases e'
            · cases e'
          · cases e'
        · have hi':i = xs.length:=by omega
          subst hi';rw [List.drop_length] at e';unfold zBD at e';split at e'
          · rename_i hgd
            cases e';obtain ⟨_,stop⟩:=it L' H' _ s' c' hgd;refine .inl ⟨stop,zQg hys hz,fun p hp=>?_⟩;rw [zQz] at hab;subst hab;exact q L' _ _ ((s1.trans s').trans (.upd hp)) (c'.upd hp) (zT.newLst (s1.trans s') c c' hp r')
          · cases e'
      · cases hf
    · cases hf
  · cases hf
structure QIfs (X:Cx) (ifs:List Expr) (f:FT):Prop where
  un:zLA X ifs (trT X.K f)
def zAW:FT:=fun _ M=>some (true,M)
theorem zKr:QIfs X [] zAW:=.mk fun zB s σ H Q I h=>by
  obtain ⟨L,σ',M,d,M',c,rs,hf,q⟩:=h;unfold zAW at hf;cases hf;exact zKa zB s σ H Q I (q L H (.refl L H) c)
theorem zNl {f:FT} (h:QT X c f):QIfs X [c] f:=.mk (zJ7 h.un)
/-- the parts of a comprehension in its block -/
structure QParts (X:Cx) (scope:Scope) (tg:Expr) (ifs:List Expr) (elt:Expr) (g:TG) (tc:FT) (te:FE):Prop where
  g:∀ zB cl s H fp,PG (zAB X zB scope cl s H fp) tg g
  c:∀ zB cl s H fp,QIfs (zAB X zB scope cl s H fp) ifs tc
  e:∀ zB cl s H fp,QE (zAB X zB scope cl s H fp) elt te
theorem QParts.parts {g:TG} {tc:FT} {te:FE} (p:QParts X scope tg ifs elt g tc te):CompParts X scope tg ifs elt g (trT X.K tc) (trD X.K (toD te)) :=
  ⟨p.g,fun zB cl s H fp=>(p.c zB cl s H fp).un,fun zB cl s H fp=>(zBy (p.e zB cl s H fp)).un⟩
theorem zF2 {own:List Nat} {fi:FI} {g:TG} {fg:FG} {tc:FT} {te:FE} (hg:zK5 own g fg) (C:CompIn X scope own) (hcalm:X.calm = true) (hi:QI X tg iter fi) (p:QParts X scope tg ifs elt g tc te) (hs:∀ x,foldedSetIterable iter X.env x = pure x:=by intro _; rfl) :
    QE X (.ListComp elt [⟨tg,iter,ifs,0⟩] scope pos) (zy own fi fg tc te):=.mk <| PE.imp (zLb C hcalm hi.un p.parts hs) fun _ _ _ h=>zFO hg h
theorem zJK {i:Nat} {x:Str} {pos' pos'':Pos} {own:List Nat} {fi:FI} {g:TG} {fg:FG} {tc:FT} {te:FE} (hN:X.N.Nodup) (hi':X.N[i]? = some x) (hx:Loc X.env.scope x) (hfn:X.fn x = true \/ X.env.scope.names.lookup x = some .local)
    (hsw:swapsWith (.ListComp elt [⟨tg,iter,ifs,0⟩] scope pos) (some (.Name x pos')) pos''.line X.env = pure true)
    (hg:zK5 own g fg) (C:CompIn X scope own) (hcalm:X.calm = true) (hi:QI X tg iter fi) (p:QParts X scope tg ifs elt g tc te) (hs:∀ x,foldedSetIterable iter X.env x = pure x:=by intro _; rfl) :
    QS X (.Assign [.Name x pos'] (.ListComp elt [⟨tg,iter,ifs,0⟩] scope pos) pos'') (zAI i (zy own fi fg tc te)) := 
  .mk <| PS.imp (zHX hN hi' hx hfn C hcalm hi.un p.parts hsw hs) fun _ _ _ z=>zGX (fun _ _ _ z=>zFO hg z) z
end
abbrev FF:=List D -> Mem -> Option (D × Mem)
def spF (K:PySem.W.Frag) (n:Nat) (g:FF):Sp:=fun vs H Q _=>∃ L ds M d M',Cor K L M H /\ zG L H ds vs /\ ds.length = n /\ g ds M = some (d,M') /\ ∀ L' H' v,Stp L H L' H' -> Cor K L' M' H' -> Rep L' H' d v -> Q v H'
def zU (g:FF) (fa:FA):FE:=fun σ M=>match fa σ M with
 | some (ds,M1)=>match g ds M1 with
  | some (d,M2)=>some (.dat d,M2)
  | none=>none
 | none=>none
section
variable {X:Cx} {e:Expr} {es:List Expr} {pos p:Pos} {x:Str} {k:Nat} {f:Addr} {fd:FuncData} {ps:List Str}
theorem zNB (F:FnOk X.prog X.w X.K X.mg X.base CX0 k f fd ps (spF X.K (e :: es).length g)) (hr:Room k X.A) (hg:Gl X x) (hm:X.mg x = some (.ref f)) (hk:PySem.W.keepIn X.K (.ref f) = true) (hb:zEb X.K fd ps [])
  (ha:QA X (e :: es) fa) (hl:∀ σ M ds M1,fa σ M = some (ds,M1) -> ds.length = (e :: es).length) (hdb:(x == ("__debug__" : Str)) = false:=by decide) (he:starEach (e :: es) X.env = (false,eval e X.env) :: starEach es X.env:=by rfl) (hpl:(backTo pos (starEach es X.env)).any (·.1) = false:=by rfl) :
  QE X (.Call (.Name x p) (e :: es) [] pos) (zU g fa) :=
 .mk <| PE.imp (zMA F hr hg hm hk hb .nil zOa ha.un hdb he hpl) fun τ H Q zz=>by
  obtain ⟨L,σ,M,d,M',c,rs,hf,q⟩:=zz;unfold zU at hf;split at hf
  ·rename_i ds M1 e1;split at hf
   ·rename_i d' M2 e2;cases hf;refine ⟨L,σ,M,_,_,c,rs,e1,fun L1 H1 vs s1 c1 r1=>?_⟩;dsimp only;rw [zQz];exact ⟨L1,ds,M1,d',_,c1,r1,hl _ _ _ _ e1,e2,fun L2 H2 v s2 c2 r2=>q L2 H2 v (s1.trans s2) c2 r2⟩
   ·cases hf
  ·cases hf
def zMP (fa:FA) (n:Nat):Prop:=∀ σ M ds M1,fa σ M = some (ds,M1) -> ds.length = n
theorem zGH:zMP zM 0:=fun σ M ds M1 h=>by unfold zM at h; cases h; rfl
theorem zDb {f:FD} {g:FA} {n:Nat} (h:zMP g n):zMP (zD f g) (n + 1):=fun σ M ds M1 q=>by
 unfold zD at q;split at q
 ·split at q
  ·rename_i e2;cases q;simp [h _ _ _ _ e2]
  ·cases q
 ·cases q
def zBZ (n:Nat) (b:FS):FF:=fun ds M=>match b (ds.map some ++ List.replicate (n - ds.length) none) M with
 | some (.ret d,_,M')=>some (d,M')
 | some (.nx,_,M')=>some (.non,M')
 | _=>none
theorem zFB:∀ {ds:List D} {vs:List V},zG L H ds vs -> zAU L H (ds.map some ++ List.replicate (N.length - ds.length) none) (L2.zCd N vs):=fun {ds vs} r=>by
 unfold L2.zCd;have hl:=r.length;refine ⟨by simp [hl],fun i d q=>?_⟩;by_cases hi:i < ds.length
 ·rw [zQM (by simpa using hi),zQc] at q;rw [zQM (by simpa [hl] using hi),zQc];cases e1:ds[i]? with
  | none=>rw [e1] at q; cases q
  | some d'=>
   rw [e1] at q; cases q;obtain ⟨v,e2,r2⟩:=r.get e1;exact ⟨v,by rw [e2]; rfl,r2⟩
 ·rw [zRP (by simpa using hi),List.getElem?_replicate] at q;split at q <;> cases q
theorem zAJ {P:Program} {w:World} {K:PySem.W.Frag} {mg:Str -> Option Value} {base:Heap} {qual:Str} {st:Stmt} {N:List Str} {b:FS} {n:Nat} (F:Fun K x qual st f fd) (S:FnScope N ps (zO st)) (hn:ps.length = n)
  (hb:∀ (cdv:Value) (A:Around) (outer:List Env) (s:Shared) (H:Hp) (E:XK),Room k (A.deeper (envOfC qual (zO st) s.heap.objs.size f cdv)) -> QSs (zH0 CX0 P w K mg base N qual (zO st) f cdv A outer s H E).nox (zBY st) b) :
  FnOk P w K mg base CX0 (k + 1) f fd ps (spF K n (zBZ N.length b)):=by
 refine F.ok S (fun vs H Q E h=>?_) (fun cdv A outer s H vs Q E hr h=>⟨_,(hb cdv A outer s H E hr).un,?_⟩)
 ·obtain ⟨L,ds,M,d,M',c,r,hl,_⟩:=h;rw [r.length,hl,hn]
 ·obtain ⟨L,ds,M,d,M',c,r,hl,hf,q⟩:=h;unfold zBZ at hf;split at hf
  ·rename_i d' σ' M1 e1;cases hf;exact ⟨L,_,M,_,_,_,c,zFB r,e1,fun L1 H1 s1 c1 v r1=>q L1 H1 v s1 c1 r1⟩
  ·rename_i σ' M1 e1;cases hf;exact ⟨L,_,M,_,_,_,c,zFB r,e1,fun L1 H1 s1 c1 τ' r1=>q L1 H1 .non s1 c1 (by unfold Rep; rfl)⟩
  ·cases hf
mutual
def D.und (n:Nat):D -> Bool
 | .tup ds=>D.unds n ds
 | .ref k=>decide (k < n)
 | .fn _ ds=>D.unds n ds
 | _=>true
def D.unds (n:Nat):List D -> Bool
 | []=>true
 | d :: ds=>D.und n d && D.unds n ds
end
mutual
theorem Rep.less:∀ {d:D} {v:V},D.und L.length d = true -> Rep (L ++ N) H d v -> Rep L H d v
 | .non,_,_,h=>by unfold Rep at h ⊢; exact h
 | .bl _,_,_,h=>by unfold Rep at h ⊢; exact h
 | .int _,_,_,h=>by unfold Rep at h ⊢; exact h
 | .str _,_,_,h=>by unfold Rep at h ⊢; exact h
 | .tup ds,_,hb,h=>by
  unfold D.und at hb;unfold Rep at h ⊢;obtain ⟨a,vs,rfl,e,r⟩:=h;exact ⟨a,vs,rfl,e,zG.less hb r⟩
 | .ref n,_,hb,h=>by
  unfold D.und at hb;unfold Rep at h ⊢;obtain ⟨a,rfl,e⟩:=h;exact ⟨a,rfl,by rwa [zQM (of_decide_eq_true hb)] at e⟩
 | .fn _ ds,_,hb,h=>by
  unfold D.und at hb;unfold Rep at h ⊢;exact ⟨h.1,h.2.1,zG.less hb h.2.2⟩
theorem zG.less:∀ {ds:List D} {vs:List V},D.unds L.length ds = true -> zG (L ++ N) H ds vs -> zG L H ds vs
 | [],_,_,h=>by unfold zG at h ⊢; exact h
 | d :: ds,_,hb,h=>by
  unfold D.unds at hb;rw [zQp] at hb;unfold zG at h ⊢;obtain ⟨v,r,rfl,h1,h2⟩:=h;exact ⟨v,r,rfl,Rep.less hb.1 h1,zG.less hb.2 h2⟩
end
theorem zAC.less {κ:Type} {kf:D -> Option κ} {L N:List Addr} {H:Hp}:∀ {ps:List (D × D)} {vs:List (κ × V)},(ps.all fun p=>D.und L.length p.1 && D.und L.length p.2) = true -> zAC kf (L ++ N) H ps vs -> zAC kf L H ps vs
 | [],_,_,h=>h
 | p :: r,_,hb,h=>by
  rw [List.all_cons,zQp,zQp] at hb;obtain ⟨k,v,r',rfl,e,h1,h2⟩:=h;exact ⟨k,v,r',rfl,e,Rep.less hb.1.2 h1,zAC.less hb.2 h2⟩
def MO.und (n:Nat):MO -> Bool
 | .lst xs=>D.unds n xs
 | .fro xs=>D.unds n xs
 | .dict kvs=>kvs.all fun p=>D.und n p.1 && D.und n p.2
 | .dicT kvs=>kvs.all fun p=>D.und n p.1 && D.und n p.2
 | .set xs=>D.unds n xs
 | .froT kvs=>kvs.all fun p=>D.und n p.1 && D.und n p.2
 | .froK kvs=>kvs.all fun p=>D.und n p.1 && D.und n p.2
def zC3 (g:FF):FF:=fun ds M=>match g ds M with
 | some (d,M')=>if D.und M.length d && (M'.take M.length).all (MO.und M.length) && decide (M.length <= M'.length) then some (d,M'.take M.length) else none
 | none=>none
theorem zD0 {P:Program} {w:World} {K:PySem.W.Frag} {mg:Str -> Option Value} {base:Heap} {n:Nat} {g:FF} (h:FnOk P w K mg base CX0 k f fd ps (spF K n g)):FnOk P w K mg base CX0 k f fd ps (spF K n (zC3 g)) :=
 h.imp fun vs H Q E ⟨L,ds,M,d,M',c,r,hl,hf,q⟩=>by
  unfold zC3 at hf;split at hf
  ·rename_i d' M1 e1;split at hf
   ·rename_i hb;cases hf;simp only [zQp,zRS,zQq] at hb;obtain ⟨⟨hb1,hb2⟩,hb3⟩:=hb;refine ⟨L,ds,M,_,_,c,r,hl,e1,fun L1 H1 v s1 c1 r1=>?_⟩;obtain ⟨N,rfl⟩:=s1.pre;rw [<- c.len] at hb1 hb2 hb3;refine q L H1 v ⟨⟨[],by simp⟩,fun a ha=> .inl ha,s1.old,s1.tup,s1.frz,s1.tbl⟩ ⟨?_,?_,fun i a m e2 e3=>?_,c1.tab⟩ (Rep.less hb1 r1)
    ·rw [zRd,<- c.len]; omega
    ·exact (List.nodup_append.mp c1.nd).1
    ·rw [<- c.len] at e3;have hi:i < L.length:=(zQI.mp e2).1;have hm:m ∈ M1.take L.length:=zQ6 e3;rw [List.getElem?_take_of_lt hi] at e3;have z:=c1.obj i a m (zCN e2) e3;have bl:=hb2 m hm;cases m with
     | lst xs=>obtain ⟨ws,e4,r4⟩:=z; exact ⟨ws,e4,zG.less bl r4⟩
     | fro xs=>obtain ⟨o,ws,e4,r4⟩:=z; exact ⟨o,ws,e4,zG.less bl r4⟩
     | dict ps=>obtain ⟨vs,e,r⟩:=z; exact ⟨vs,e,zAC.less bl r⟩
     | dicT ps=>obtain ⟨vs,e,r⟩:=z; exact ⟨vs,e,zAC.less bl r⟩
     | set _=>exact z
     | froT ps=>obtain ⟨o,vs,e,r⟩:=z; exact ⟨o,vs,e,zAC.less bl r⟩
     | froK ps=>obtain ⟨o,vs,e,r⟩:=z; exact ⟨o,vs,e,zAC.less bl r⟩
   ·cases hf
  ·cases hf
theorem zNq (hl:PE X l tl):PI X tg l (fun σ H R=>tl σ H fun x H1=>∃ a,x = .ref a /\ ((∃ xs,SqL X.K H1 a xs) /\ R (Itl X.K a) H1 \/ (∃ xs,SqT X.K H1 a xs) /\ R (Itt X.K a) H1)):=by
 intro zB s σ H R I h;refine thn (hl zB s σ H _ I h) fun v s1 ⟨y,H1,I1,r1,a,hy,h1⟩=>?_;subst hy;cases r1;have fpk:∀ b ∈ [s1.heap.objs.size],zCU X zB H1 b:=fun b hb=>by
  have e:b = s1.heap.objs.size:=by simpa using hb
  subst e;exact I1.fpOk (zQL _) (I1.hok.fresh (zQL _))
 rcases h1 with ⟨⟨xs,hq⟩,q⟩ | ⟨⟨xs,hq⟩,q⟩
 ·obtain ⟨its,rv,pl,hz⟩:=I1.list hq;exact wpAny_pyIter_list pl.isList ⟨s1.heap.objs.size,[s1.heap.objs.size],_,_,H1,rfl,I1.kept (t':=s1.toks) fun b o e=>zQG _ e,zI3 a _,⟨_,zQP _ rfl,rfl,rfl⟩,fpk,q⟩
 ·obtain ⟨its,rv,pl,hz⟩:=I1.tuple hq;exact wpAny_pyIter_tuple (show s1.heap.IsTuple a its.toArray from pl) ⟨s1.heap.objs.size,[s1.heap.objs.size],_,_,H1,rfl,I1.kept (t':=s1.toks) fun b o e=>zQG _ e,zHt a _,⟨_,zQP _ rfl,rfl,rfl⟩,fpk,q⟩
def zFr (x:EV) (xs:List D):Option (Mem -> Prop):=match x with
 | .dat (.ref n)=>some fun M=>M[n]? = some (.lst xs) \/ M[n]? = some (.fro xs)
 | _=>none
def zAb (f:FE):FI:=fun σ M=>match f σ M with
 | some (x,M1)=>match zAG M1 x with
  | some xs=>some (xs,zFr x xs,M1)
  | none=>none
 | none=>none
def zBH (f:FA):FI:=fun σ M=>match f σ M with
 | some ([.int j],M1)=>if -(2 ^ 62) <= j /\ j < 2 ^ 62 then some ((List.range j.toNat).map fun (k:Nat)=>D.int k,none,M1) else none
 | some ([.int i,.int j],M1)=>if -(2 ^ 62) <= i /\ i < 2 ^ 62 /\ -(2 ^ 62) <= j /\ j < 2 ^ 62 then some ((List.range (j - i).toNat).map fun (k:Nat)=>D.int (i + k),none,M1) else none
 | _=>none
theorem zNN (h:QE X e g):QI X tg e (zAb g):=.mk <| PI.imp (zNq h.un) fun τ H R zz=>by
 obtain ⟨L,σ,M,xs,gd,M',c,rs,hf,q⟩:=zz;unfold zAb at hf;split at hf
 ·rename_i y M1 e1;split at hf
  ·rename_i zs e2;cases hf;refine (mkE c rs e1 (fun L1 H1 v s1 c1 r1=>?_));unfold zAG at e2;cases t:zBR y with
   | some ws=>
    rw [t] at e2; cases e2;obtain ⟨a,vs,rfl,e3,r3⟩:=zA9 r1 t;refine ⟨a,rfl,.inr ⟨⟨vs,.of e3⟩,q L1 H1 _ s1 c1 fun L2 H2 M2 s2 c2 _=>?_⟩⟩;have e4:=s2.tup a vs e3;have r4:=r3.stp s2;refine ⟨fun i d hd=>?_,⟨vs,.of e4,by rw [r4.length]; exact zQL _⟩⟩;obtain ⟨u,hu,ru⟩:=r4.get hd;refine ⟨⟨vs,u,.of e4,hu⟩,fun v H3 ⟨hH,hv⟩=>?_⟩;subst hH;have:=hv vs (.of e4);rw [hu] at this; cases this;exact ⟨fun _ _ z=>z,ru⟩
   | none=>
    rw [t] at e2;dsimp only at e2;obtain ⟨a,vs,rfl,e3,r3⟩:=zAg c1 r1 e2;refine ⟨a,rfl,.inl ⟨⟨vs,.inl e3⟩,q L1 H1 _ s1 c1 fun L2 H2 M2 s2 c2 hgd=>?_⟩⟩;have key:∃ vs',SqL X.K H2 a vs' /\ zG L2 H2 xs vs':=by
     cases y with
     | fl ys=>
      cases e2;obtain ⟨p',vs',hp',_,e5,e6,r6⟩:=r1;cases hp';exact ⟨vs',.of (s2.old _ _ e5 e6 (by intro _ z; cases z)),r6.stp s2⟩
     | dat d=>
      cases d with
      | ref n=>
       unfold zT Rep at r1;obtain ⟨a',ha',e5⟩:=r1;cases ha';have e6:L2[n]? = some a:=by obtain ⟨N,hN⟩:=s2.pre; rw [hN]; exact zCN e5
       rcases hgd with z | z
       ·obtain ⟨vs',e7,r7⟩:=c2.obj n a _ e6 z; exact ⟨vs',.of e7,r7⟩
       ·obtain ⟨o,vs',e7,r7⟩:=c2.obj n a _ e6 z; exact ⟨vs',.inl (.inr ⟨o,e7⟩),r7⟩
      | _=>cases e2
    obtain ⟨vs',hq,r7⟩:=key;refine ⟨fun i d hd=>?_,⟨vs',hq,by rw [r7.length]; exact zQL _⟩⟩;obtain ⟨u,hu,ru⟩:=r7.get hd;refine ⟨⟨vs',u,hq,hu⟩,fun v H3 ⟨hH,hv⟩=>?_⟩;subst hH;have:=hv vs' hq;rw [hu] at this; cases this;exact ⟨fun _ _ z=>z,ru⟩
  ·cases hf
 ·cases hf
theorem zE8 (h:zG L H [.int j] vs):vs = [.int j]:=by
 unfold zG at h;obtain ⟨v,r,rfl,h1,h2⟩:=h;unfold zG at h2;unfold Rep at h1;subst h1 h2; rfl
theorem zKm {K:PySem.W.Frag} {L:List Addr} {H:Hp} {lo:Int} {n:Nat}:zM1 K (Itr lo n) L H ((List.range n).map fun (k:Nat)=>D.int (lo + k)) none:=by
 intro L' H' M' s c _;refine ⟨fun i d hd=>?_,by simp [Itr]⟩;rw [zQc] at hd;cases q:(List.range n)[i]? with
 | none=>rw [q] at hd; cases hd
 | some k=>
  rw [q] at hd; cases hd;have hi:i < n:=by have:=(zQI.mp q).1; simpa using this
  rw [List.getElem?_range hi] at q; cases q;refine ⟨hi,fun v H'' ⟨hH,hv⟩=>?_⟩;subst hH hv;exact ⟨fun _ _ z=>z,zAF⟩
theorem zIo {tg a:Expr} {g:FA} (hg:Gl X "range") (hm:X.mg "range" = none) (ha:QA X [a] g) (hl:zMP g 1) (hs:starEach [a] X.env = [(false,eval a X.env)]:=by rfl):QI X tg (.Call (.Name "range" p) [a] [] pos) (zBH g) :=
 .mk <| PI.imp (zJX hg hm ha.un hs) fun τ H R zz=>by
  obtain ⟨L,σ,M,xs,gd,M',c,rs,hf,q⟩:=zz;unfold zBH at hf;split at hf
  ·rename_i j M1 e1;split at hf
   ·rename_i hb;cases hf;refine (mkA c rs e1 (fun L1 H1 vs s1 c1 r1=>⟨j,zE8 r1,hb.1,hb.2,q L1 H1 _ s1 c1 ?_⟩));have z:=zKm (K:=X.K) (L:=L1) (H:=H1) (lo:=0) (n:=j.toNat);simpa using z
   ·cases hf
  ·rename_i e1;have:=hl _ _ _ _ e1;simp at this
  ·cases hf
end
section
variable {X:Cx} {a b c e:Expr} {es rest:List Expr} {pos p apos cpos:Pos}
def zDH (f g:FT):FT:=fun σ M=>match f σ M with
 | some (true,M1)=>g σ M1
 | r=>r
def zE0 (f g:FT):FT:=fun σ M=>match f σ M with
 | some (false,M1)=>g σ M1
 | r=>r
def zAv (f:FT):FT:=fun σ M=>match f σ M with
 | some (k,M1)=>some (!k,M1)
 | none=>none
structure QW (X:Cx) (e:Expr) (f:FT):Prop where
 un:PW X e (trT X.K f)
theorem PW.imp (h:PW X e t) (hi:∀ τ H Q,t' τ H Q -> t τ H Q):PW X e t':=fun wh zB s σ H Q I q=>h wh zB s σ H Q I (hi _ _ _ q)
theorem zMX (h:QT X a f):QW X (.BoolOp .And [a] pos) f:=.mk (zL1 h.un)
theorem zLH (h:QT X a f):QW X (.BoolOp .Or [a] pos) f:=.mk (zOT h.un)
theorem zOA (h1:QT X a f) (h2:QW X (.BoolOp .And (b :: rest) pos) g):QW X (.BoolOp .And (a :: b :: rest) pos) (zDH f g):=.mk <| PW.imp (zNd h1.un h2.un) fun τ H Q zz=>by
 obtain ⟨L,σ,M,d,M',c,rs,hf,q⟩:=zz;unfold zDH at hf;split at hf
 ·rename_i M1 e1;exact (mkT c rs e1 (fun L1 H1 s1 c1=>zHj (mkT c1 (rs.stp s1) hf (fun L2 H2 s2 c2=>q L2 H2 (s1.trans s2) c2))))
 ·rename_i hne;cases d with
  | true=>exact absurd hf (hne M')
  | false=>exact (mkT c rs hf (fun L1 H1 s1 c1=>zHk (q L1 H1 s1 c1)))
theorem zMl (h1:QT X a f) (h2:QW X (.BoolOp .Or (b :: rest) pos) g):QW X (.BoolOp .Or (a :: b :: rest) pos) (zE0 f g):=.mk <| PW.imp (zO8 h1.un h2.un) fun τ H Q zz=>by
 obtain ⟨L,σ,M,d,M',c,rs,hf,q⟩:=zz;unfold zE0 at hf;split at hf
 ·rename_i M1 e1;exact (mkT c rs e1 (fun L1 H1 s1 c1=>zHk (mkT c1 (rs.stp s1) hf (fun L2 H2 s2 c2=>q L2 H2 (s1.trans s2) c2))))
 ·rename_i hne;cases d with
  | false=>exact absurd hf (hne M')
  | true=>exact (mkT c rs hf (fun L1 H1 s1 c1=>zHj (q L1 H1 s1 c1)))
theorem zOP (h:QW X e f):QT X e f:=.mk (PW.pt h.un)
theorem zKF (h:QT X a f):QT X (.UnaryOp .Not a pos) (zAv f):=.mk <| PT.imp (zNy h.un) fun τ H Q zz=>by
 obtain ⟨L,σ,M,d,M',c,rs,hf,q⟩:=zz;unfold zAv at hf;split at hf
 ·rename_i k M1 e1;cases hf;exact (mkT c rs e1 (fun L1 H1 s1 c1=>q L1 H1 s1 c1))
 ·cases hf
def zGe (f g:FE):FE:=fun σ M=>match f σ M with
 | some (.dat (.bl true),M1)=>g σ M1
 | some (.dat (.bl false),M1)=>some (.dat (.bl false),M1)
 | _=>none
def zK0 (f:FE):FE:=fun σ M=>match f σ M with
 | some (.dat (.bl k),M1)=>some (.dat (.bl (!k)),M1)
 | _=>none
theorem zAa (h:zT H0 L H (.dat (.bl k)) v):v = .bl k:=by unfold zT Rep at h; exact h
theorem zHb {op} (h:QE X a f):QE X (.BoolOp op [a] pos) f:=.mk (zNc h.un)
theorem zGA (h1:QE X a f) (h2:QE X (.BoolOp .And (b :: rest) pos) g):QE X (.BoolOp .And (a :: b :: rest) pos) (zGe f g):=.mk <| PE.imp (zNF h1.un h2.un) fun τ H Q zz=>by
 obtain ⟨L,σ,M,d,M',c,rs,hf,q⟩:=zz;unfold zGe at hf;split at hf
 ·rename_i M1 e1;exact (mkE c rs e1 (fun L1 H1 v s1 c1 r1=>⟨true,zAa r1,zHj (mkE c1 (rs.stp s1) hf (fun L2 H2 w s2 c2 r2=>q L2 H2 w (s1.trans s2) c2 (r2.back s1 c s2.sub)))⟩))
 ·rename_i M1 e1;cases hf;exact (mkE c rs e1 (fun L1 H1 v s1 c1 r1=>⟨false,zAa r1,zHk (q L1 H1 _ s1 c1 (by have:=zAa r1; subst this; exact r1))⟩))
 ·cases hf
theorem zOW (h:QE X a f):QE X (.UnaryOp .Not a pos) (zK0 f):=.mk <| PE.imp (zM0 h.un) fun τ H Q zz=>by
 obtain ⟨L,σ,M,d,M',c,rs,hf,q⟩:=zz;unfold zK0 at hf;split at hf
 ·rename_i k M1 e1;cases hf;exact (mkE c rs e1 (fun L1 H1 v s1 c1 r1=>⟨k,zAa r1,q L1 H1 _ s1 c1 (by unfold zT Rep; rfl)⟩))
 ·cases hf
abbrev KM:=EV -> List D -> Mem -> Option (D × Mem)
def fM (k:KM) (f:FE) (g:FA):FE:=fun σ M=>match f σ M with
 | some (x,M1)=>match zAZ M1 x with
  | some _=>match g σ M1 with
   | some (ds,M2)=>match k x ds M2 with
    | some (d,M3)=>some (.dat d,M3)
    | none=>none
   | none=>none
  | none=>none
 | none=>none
def zNR (K:PySem.W.Frag) (r:V -> List V -> Hp -> VK -> Prop) (k:KM):Prop:=∀ {L:List Addr} {M M':Mem} {H H0:Hp} {x:EV} {ds:List D} {d:D} {v:V} {vs:List V} {Q:VK},Cor K L M H -> zT H0 L H x v -> zG L H ds vs -> k x ds M = some (d,M') ->
 (∀ L' H' u,Stp L H L' H' -> Cor K L' M' H' -> Rep L' H' d u -> Q u H') -> r v vs H Q
theorem zJf {K:PySem.W.Frag} {r:V -> List V -> Hp -> VK -> Prop} {k:KM} {f:FE} {g:FA} (hk:zNR K r k) {τ:Sv} {H:Hp} {Q:VK} (h:trE K (fM k f g) τ H Q):tBM K "list" r (trE K f) (trA K g) τ H Q:=by
 obtain ⟨L,σ,M,d,M',c,rs,hf,q⟩:=h;unfold fM at hf;split at hf
 ·rename_i x M1 e1;split at hf
  ·rename_i xs e2;split at hf
   ·rename_i ds M2 e3;split at hf
    ·rename_i d' M3 e4;cases hf;refine (mkE c rs e1 (fun L1 H1 v s1 c1 r1=>?_));obtain ⟨a,vs,rfl,e5,r5⟩:=zAg c1 r1 e2;refine ⟨.inl ⟨rfl,vs,.inl e5⟩,L1,σ,M1,_,_,c1,rs.stp s1,e3,fun L2 H2 ws s2 c2 r2=>?_⟩;exact hk c2 (r1.stp s2) r2 e4 fun L3 H3 u s3 c3 r3=>q L3 H3 u ((s1.trans s2).trans s3) c3 r3
    ·cases hf
   ·cases hf
  ·cases hf
 ·cases hf
def zAS:KM:=fun x ds M=>match x,ds with
 | .dat (.ref n),[d]=>match M[n]? with
  | some (.lst xs)=>if xs.length < sizeLine then some (.non,M.set n (.lst (xs ++ [d]))) else none
  | _=>none
 | _,_=>none
theorem zG.one (h:zG L H [d] vs):∃ v,vs = [v] /\ Rep L H d v:=by
 unfold zG at h;obtain ⟨v,r,rfl,h1,h2⟩:=h;unfold zG at h2;subst h2;exact ⟨v,rfl,h1⟩
theorem zH1 {K:PySem.W.Frag}:zNR K zId zAS:=by
 intro L M M' H H0 x ds d v vs Q c rx rd hk q;unfold zAS at hk;split at hk
 ·rename_i n d';split at hk
  ·rename_i xs e1;split at hk
   ·rename_i hz;cases hk;unfold zT Rep at rx;obtain ⟨a,rfl,e2⟩:=rx;obtain ⟨ws,e3,r3⟩:=c.obj n a _ e2 e1;obtain ⟨w,rfl,r4⟩:=rd.one;obtain ⟨c5,s5⟩:=c.write e2 e1 (r3.app (.cons r4 .nil));exact ⟨a,ws,w,rfl,rfl,e3,by rw [r3.length]; exact hz,q L _ _ s5 c5 (by unfold Rep; rfl)⟩
   ·cases hk
  ·cases hk
 ·cases hk
theorem zLC (h:QE X a f) (hg:QA X [e] g) (hbase:attributeBase a "append" X.env (eval a X.env) = eval a X.env:=by rfl)
  (hfew:((backTo cpos (starEach [e] X.env)).all (fun x=> !x.1) && (backToKw cpos (keywordEach [] X.env)).all (fun x=>x.1.isSome) && decide ([e].length + ([]:List Keyword).length + (if ([]:List Keyword).isEmpty then 0 else 1) < 30)) = true:=by rfl)
  (hline:(apos.endLine == cpos.line) = true:=by rfl) (hs:starEach [e] X.env = (false,eval e X.env) :: starEach [] X.env:=by rfl) (hplain:(backTo cpos (starEach [] X.env)).any (·.1) = false:=by rfl) :
  QE X (.Call (.Attribute a "append" apos) [e] [] cpos) (fM zAS f g) :=
 .mk <| PE.imp (zII PySem.F.plainAttrs_list PySem.F.slot_list_append PySem.F.type_list_append zIp h.un hg.un hbase hfew hline hs hplain) fun _ _ _ z=>zJf zH1 z
def zGP:KM:=fun x ds M=>match x,ds with
 | .dat (.ref n),[.int i]=>match M[n]? with
  | some (.lst xs)=>match ixN xs.length i with
   | some k=>match xs[k]? with
    | some d=>if -(2 ^ 63) <= i /\ i < 2 ^ 63 then some (d,M.set n (.lst (xs.eraseIdx k))) else none
    | none=>none
   | none=>none
  | _=>none
 | _,_=>none
theorem zLe {K:PySem.W.Frag}:zNR K zKS zGP:=by
 intro L M M' H H0 x ds d v vs Q c rx rd hk q;unfold zGP at hk;split at hk
 ·rename_i n i;split at hk
  ·rename_i xs e1;split at hk
   ·rename_i k e2;split at hk
    ·rename_i d' e3;split at hk
     ·rename_i hb;cases hk;unfold zT Rep at rx;obtain ⟨a,rfl,e4⟩:=rx;obtain ⟨ws,e5,r5⟩:=c.obj n a _ e4 e1;obtain ⟨u,e6,r6⟩:=r5.get e3;obtain ⟨c5,s5⟩:=c.write e4 e1 (r5.eraseIdx k);exact ⟨a,ws,i,k,u,rfl,zE8 rd,e5,hb.1,hb.2,by rw [r5.length]; exact (zFg e2).1,e6,q L _ _ s5 c5 (r6.stp s5)⟩
     ·cases hk
    ·cases hk
   ·cases hk
  ·cases hk
 ·cases hk
theorem zO1 (h:QE X a f) (hg:QA X [e] g) (hbase:attributeBase a "pop" X.env (eval a X.env) = eval a X.env:=by rfl)
  (hfew:((backTo cpos (starEach [e] X.env)).all (fun x=> !x.1) && (backToKw cpos (keywordEach [] X.env)).all (fun x=>x.1.isSome) && decide ([e].length + ([]:List Keyword).length + (if ([]:List Keyword).isEmpty then 0 else 1) < 30)) = true:=by rfl)
  (hline:(apos.endLine == cpos.line) = true:=by rfl) (hs:starEach [e] X.env = (false,eval e X.env) :: starEach [] X.env:=by rfl) (hplain:(backTo cpos (starEach [] X.env)).any (·.1) = false:=by rfl) :
  QE X (.Call (.Attribute a "pop" apos) [e] [] cpos) (fM zGP f g) :=
 .mk <| PE.imp (zII PySem.F.plainAttrs_list PySem.F.slot_list_pop PySem.F.type_list_pop zJx h.un hg.un hbase hfew hline hs hplain) fun _ _ _ z=>zJf zLe z
def zHI (x:EV) (i:D) (d:D) (M:Mem):Option Mem:=match x,i with
 | .dat (.ref n),.int i=>match M[n]? with
  | some (.lst xs)=>match ixN xs.length i with
   | some j=>some (M.set n (.lst (xs.set j d)))
   | none=>none
  | _=>none
 | _,_=>none
def zJD (fv fo fi:FE):FS:=fun σ M=>match toD fv σ M with
 | some (d,M1)=>match fo σ M1 with
  | some (x,M2)=>match toD fi σ M2 with
   | some (i,M3)=>match zHI x i d M3 with
    | some M4=>some (.nx,σ,M4)
    | none=>none
   | none=>none
  | none=>none
 | none=>none
theorem zKM (hv:QE X v fv) (ho:QE X o fo) (hi:QE X i fi)
  (ha:∀ v,assign (.Subscript o i p) X.env v = (do
   let ov <- holding [v] (eval o X.env);let iv <- holding [v,ov] (eval i X.env);standAt p;holding [v,ov,iv] (setItem ov iv v);release [v,ov,iv] []):=by intro _; rfl)
  (hs:swapsWithSole [.Subscript o i p] v pos.line X.env = pure false:=by rfl) (hw:swappedStores [.Subscript o i p] v X.env = pure none:=by rfl) (h1:(assignEach [.Subscript o i p] X.env).map (·.2) = [assign (.Subscript o i p) X.env]:=by rfl) :
  QS X (.Assign [.Subscript o i p] v pos) (zJD fv fo fi):=.mk <| PS.imp (zNC (zBy hv).un (zOJ ho.un (zBy hi).un zKR ha) hs hw h1) fun E τ H zz=>by
 obtain ⟨L,σ,M,out,σ',M',c,rs,hf,q⟩:=zz;unfold zJD at hf;split at hf
 ·rename_i d M1 e1;split at hf
  ·rename_i x M2 e2;split at hf
   ·rename_i j M3 e3;split at hf
    ·rename_i M4 e4;cases hf;refine ⟨L,σ,M,_,_,c,rs,e1,fun L1 H1 u s1 c1 r1=>⟨L1,σ,M1,_,_,c1,rs.stp s1,e2,fun L2 H2 w s2 c2 r2=>⟨L2,σ,M2,_,_,c2,rs.stp (s1.trans s2),e3,fun L3 H3 z s3 c3 r3=>?_⟩⟩⟩;have st:=(s1.trans s2).trans s3;unfold zHI at e4;split at e4
     ·rename_i n k;split at e4
      ·rename_i xs e5;split at e4
       ·rename_i m e6;cases e4;have r2':=r2.stp s3;unfold zT Rep at r2';obtain ⟨a,rfl,e7⟩:=r2';obtain ⟨ws,e8,r8⟩:=c3.obj n a _ e7 e5;obtain ⟨c9,s9⟩:=c3.write e7 e5 (zG.set ((r1.stp s2).stp s3) m r8);exact ⟨a,ws,k,m,rfl,by unfold Rep at r3; exact r3,e8,by rw [r8.length]; exact e6,q L3 _ (st.trans s9) c9 τ ((rs.stp st).stp s9)⟩
       ·cases e4
      ·cases e4
     ·cases e4
    ·cases hf
   ·cases hf
  ·cases hf
 ·cases hf
def zCZ:D -> Option V
 | .non=>some .non
 | .bl k=>some (.bl k)
 | .int i=>some (.int i)
 | .str x=>some (.str x)
 | _=>none
theorem zDF (h:Rep L H d v) (e:zCZ d = some u):v = u:=by
 cases d with
 | non=>cases e; unfold Rep at h; exact h
 | bl _=>cases e; unfold Rep at h; exact h
 | int _=>cases e; unfold Rep at h; exact h
 | str _=>cases e; unfold Rep at h; exact h
 | tup _=>cases e
 | ref _=>cases e
 | fn _ _=>cases e
def zHg (neg:Bool):K2:=fun x y M=>match x,y with
 | .dat d,.dat d'=>match zCZ d,zCZ d' with
  | some u,some w=>if zLi u w then some (.dat (.bl (if neg then !decide (u = w) else decide (u = w))),M) else none
  | _,_=>none
 | _,_=>none
theorem zFI (h:zHg neg x y M = some (r,M')):∃ d d' u w,x = .dat d /\ y = .dat d' /\ zCZ d = some u /\ zCZ d' = some w /\ zLi u w = true /\ r = .dat (.bl (if neg then !decide (u = w) else decide (u = w))) /\ M' = M:=by
 unfold zHg at h;split at h
 ·rename_i d d';split at h
  ·rename_i u w e1 e2;split at h
   ·rename_i hs;cases h;exact ⟨d,d',u,w,rfl,rfl,e1,e2,hs,rfl,rfl⟩
   ·cases h
  ·cases h
 ·cases h
theorem zIa {K:PySem.W.Frag}:zAh K rEq (zHg false):=by
 intro L M M' H H0 x y d v w Q c rx ry hk q;obtain ⟨d1,d2,u,z,rfl,rfl,e1,e2,hs,rfl,rfl⟩:=zFI hk;have a1:=zDF rx e1;have a2:=zDF ry e2;subst a1 a2;exact ⟨hs,q L H _ (.refl L H) c (zAe (L:=L) (H:=H))⟩
theorem zLj {K:PySem.W.Frag}:zAh K rNe (zHg true):=by
 intro L M M' H H0 x y d v w Q c rx ry hk q;obtain ⟨d1,d2,u,z,rfl,rfl,e1,e2,hs,rfl,rfl⟩:=zFI hk;have a1:=zDF rx e1;have a2:=zDF ry e2;subst a1 a2;exact ⟨hs,q L H _ (.refl L H) c (zAe (L:=L) (H:=H))⟩
def zN5 (neg:Bool) (K:PySem.W.Frag):R2:=fun x y H Q=>∃ p q xs,x = .ref p /\ y = .ref q /\ SqL K H p xs /\ SqL K H q [] /\ Q (.bl (if neg then !xs.isEmpty else xs.isEmpty)) H
theorem zFT (r:zW [] its):its = []:=by cases r; rfl
theorem zHD (hu:X.A.units < cLine):OpR X (compareOp .Eq) (zN5 false X.K):=by
 intro zB s σ H x y v u Q I rx ry h;obtain ⟨p,q,xs,rfl,rfl,h1,h2,hq⟩:=h;cases rx;cases ry;obtain ⟨its,rv,pl,_⟩:=I.list h1;obtain ⟨its2,rv2,pl2,_⟩:=I.list h2;cases zFT rv2;cases rv with
 | nil=>exact SeqAt.eq_listAt (e:=fun _=>true) pl.isList pl2.isList rfl hu (fun j h1=>by simp at h1) ⟨.bl true,H,I,rfl,hq⟩
 | cons _ _=>exact SeqAt.eq_list_lengthsAt pl.isList pl2.isList (by simp) hu ⟨.bl false,H,I,rfl,hq⟩
theorem zKT (hu:X.A.units < cLine):OpR X (compareOp .NotEq) (zN5 true X.K):=by
 intro zB s σ H x y v u Q I rx ry h;obtain ⟨p,q,xs,rfl,rfl,h1,h2,hq⟩:=h;cases rx;cases ry;obtain ⟨its,rv,pl,_⟩:=I.list h1;obtain ⟨its2,rv2,pl2,_⟩:=I.list h2;cases zFT rv2;cases rv with
 | nil=>exact SeqAt.RcNeAt.lists (e:=fun _=>true) pl.isList pl2.isList rfl hu (fun j h1=>by simp at h1) _ _ _ _ ⟨.bl false,H,I,rfl,hq⟩
 | cons _ _=>exact SeqAt.RcNeAt.lists_lengths pl.isList pl2.isList (by simp) hu _ _ _ _ ⟨.bl true,H,I,rfl,hq⟩
def zKu (neg:Bool):K2:=fun x y M=>match zAZ M x,zAZ M y with
 | some xs,some []=>some (.dat (.bl (if neg then !xs.isEmpty else xs.isEmpty)),M)
 | _,_=>none
theorem zFu {K:PySem.W.Frag} {neg:Bool}:zAh K (zN5 neg K) (zKu neg):=by
 intro L M M' H H0 x y d v w Q c rx ry hk q;unfold zKu at hk;split at hk
 ·rename_i xs e1 e2;cases hk;obtain ⟨p1,vs,rfl,h1,r1⟩:=zAg c rx e1;obtain ⟨p2,ws,rfl,h2,r2⟩:=zAg c ry e2;unfold zG at r2;subst r2;refine ⟨p1,p2,vs,rfl,rfl,.inl h1,.inl h2,q L H _ (.refl L H) c ?_⟩;have:vs.isEmpty = xs.isEmpty:=by
   have:=r1.length;cases vs <;> cases xs <;> simp_all
  rw [this];exact (zAe (L:=L) (H:=H))
 ·cases hk
def kOr (k1 k2:K2):K2:=fun x y M=>match k1 x y M with
 | some r=>some r
 | none=>k2 x y M
theorem zFx {K:PySem.W.Frag} {r1 r2:R2} {k1 k2:K2} (h1:zAh K r1 k1) (h2:zAh K r2 k2):zAh K (fun x y H Q=>r1 x y H Q \/ r2 x y H Q) (kOr k1 k2):=by
 intro L M M' H H0 x y d v w Q c rx ry hk q;unfold kOr at hk;split at hk
 ·rename_i r e1;cases hk;exact .inl (h1 c rx ry e1 q)
 ·exact .inr (h2 c rx ry hk q)
abbrev kEq:K2:=kOr (zHg false) (zKu false)
abbrev kNe:K2:=kOr (zHg true) (zKu true)
variable {f g:FE}
theorem zLm (hu:X.A.units < cLine) (h1:QE X a f) (h2:QE X b g):QE X (.Compare a [.Eq] [b] pos) (fOp kEq f g):=zMu (zFx zIa zFu) (zMg.or (zHD hu)) h1 h2 (zBs _)
theorem zPB (hu:X.A.units < cLine) (h1:QE X a f) (h2:QE X b g):QT X (.Compare a [.Eq] [b] pos) (tst (fOp kEq f g)):=zCo (zFx zIa zFu) (zMg.or (zHD hu)) h1 h2 (zBs _)
theorem zMn (hu:X.A.units < cLine) (h1:QE X a f) (h2:QE X b g):QT X (.Compare a [.NotEq] [b] pos) (tst (fOp kNe f g)):=zCo (zFx zLj zFu) (zPQ.or (zKT hu)) h1 h2 (zBs _)
def zI5:KB:=fun xs M=>match xs with
 | [.dat (.int i)]=>some (.dat (.int (if i < 0 then -i else i)),M)
 | _=>none
theorem zLt {K:PySem.W.Frag}:zEH K (fun xs H Q=>∃ i,xs = [.int i] /\ Q (.int (if i < 0 then -i else i)) H) zI5:=by
 intro L M M' H H0 xs d vs Q c r hk q;unfold zI5 at hk;split at hk
 ·rename_i i;cases hk;obtain ⟨v,rfl,r1⟩:=r.one;have:v = .int i:=by unfold zT Rep at r1; exact r1
  subst this;exact ⟨i,rfl,q L H _ (.refl L H) c (zAF (L:=L) (H:=H))⟩
 ·cases hk
def zKO:KB:=fun xs M=>match xs with
 | [.dat (.int i)]=>some (.dat (.int i),M)
 | [.dat (.bl k)]=>some (.dat (.int (if k then 1 else 0)),M)
 | _=>none
theorem zLl {K:PySem.W.Frag}:zEH K (fun xs H Q=>(∃ i,xs = [.int i] /\ Q (.int i) H) \/ ∃ k,xs = [.bl k] /\ Q (.int (if k then 1 else 0)) H) zKO:=by
 intro L M M' H H0 xs d vs Q c r hk q;unfold zKO at hk;split at hk
 ·rename_i i;cases hk;obtain ⟨v,rfl,r1⟩:=r.one;have:v = .int i:=by unfold zT Rep at r1; exact r1
  subst this;exact .inl ⟨i,rfl,q L H _ (.refl L H) c (zAF (L:=L) (H:=H))⟩
 ·rename_i k;cases hk;obtain ⟨v,rfl,r1⟩:=r.one;have:=zAa r1;subst this;exact .inr ⟨k,rfl,q L H _ (.refl L H) c (zAF (L:=L) (H:=H))⟩
 ·cases hk
end
section
variable {X:Cx} {a b c e:Expr} {es rest:List Expr} {pos p apos cpos:Pos}
theorem zJz {prog:Program} {w:World} {A:Around} {E:Value -> Shared -> Prop} {s:Shared} {t b:Addr} {ws:List Value} {Q:Value -> Shared -> Prop} (ht:IsTup s.heap t #[]) (hb:IsTup s.heap b ws.toArray) (h1:Q (.ref b) s) :
  wpAny (model prog w) A (binaryOp .Add (.ref t) (.ref b)) Q E s:=by
 obtain ⟨⟨cls,dd,data,sl⟩,ho,hc,n,hd⟩:=id ht;obtain ⟨⟨cls2,dd2,data2,sl2⟩,ho2,hc2,n2,hd2⟩:=id hb;simp only at hc hd hc2 hd2;subst hc hd hc2 hd2
 exact concat_meets ⟨_,ho,rfl⟩ ⟨_,ho2,rfl⟩ noFill_tuple_add seq_tuple_add PySem.F.slot_tuple_add PySem.F.entry_tuple_add (PySem.F.args_tuple_add_2 _ _)
   (tuple_addW0 t b #[] ws.toArray n n2 dd dd2 sl sl2 (by simp)) ⟨ho,ho2,h1⟩
def zKw (K:PySem.W.Frag):R2:=fun x y H Q=>∃ a b ys,x = .ref a /\ y = .ref b /\ SqT K H a [] /\ SqT K H b ys /\ Q (.ref b) H
theorem zJ0:OpR X (binaryOp .Add) (zKw X.K):=by
 intro zB s σ H x y v u Q I rx ry h;obtain ⟨a,b,ys,rfl,rfl,ha,hb,q⟩:=h;cases rx;cases ry;obtain ⟨its,r1,p1,_⟩:=I.tuple ha;obtain ⟨its2,r2,p2,_⟩:=I.tuple hb;cases zFT r1;exact zJz p1 p2 ⟨.ref b,H,I,rfl,q⟩
def zJk:K2:=fun x y M=>match zBR x,zBR y with
 | some xs,some ys=>if xs.length + ys.length <= sizeLine then some (.dat (.tup (xs ++ ys)),M) else none
 | _,_=>none
theorem zJl {K:PySem.W.Frag}:zAh K (fun x y H Q=>zMj K x y H Q \/ zKw K x y H Q) zJk:=by
 intro L M M' H H0 x y d v w Q c rx ry hk q;unfold zJk at hk;split at hk
 ·rename_i xs ys e1 e2;split at hk
  ·rename_i hz;cases hk;obtain ⟨p1,vs,rfl,h1,r1⟩:=zA9 rx e1;obtain ⟨p2,ws,rfl,h2,r2⟩:=zA9 ry e2;cases xs with
   | nil=>
    refine .inr ⟨p1,p2,ws,rfl,rfl,.of (by unfold zG at r1; subst r1; exact h1),.of h2,q L H _ (.refl L H) c ?_⟩;unfold zT Rep;exact ⟨p2,ws,rfl,h2,r2⟩
   | cons x0 xr=>
    have hv:vs ≠ []:=fun z=>by have:=r1.length; rw [z] at this; simp at this
    refine .inl ⟨p1,p2,vs,ws,rfl,rfl,.of h1,.of h2,hv,by rw [r1.length,r2.length]; exact hz,fun z=>?_,fun z pp hp=>?_⟩
    ·have:ys = []:=by
      have:=r2.length; rw [z] at this;cases ys with
      | nil=>rfl
      | cons _ _=>simp at this
     subst this;refine q L H _ (.refl L H) c ?_;unfold zT Rep;rw [zQz];exact ⟨p1,vs,rfl,h1,r1⟩
    ·exact q L _ _ (.upd hp) (c.upd hp) (Rep.newTup hp (r1.app r2))
  ·cases hk
 ·cases hk
abbrev zAY:K2:=kOr zPy zJk
variable {f g:FE}
theorem zMz (h1:QE X a f) (h2:QE X b g):QE X (.BinOp a .Add b pos) (fOp zAY f g):=zEy (zFx (zCp fun _ _ _ _=>zAF) zJl) (zM2.or (zMZ.or zJ0)) h1 h2
structure Kinds (K:PySem.W.Frag):Prop where
 k:∀ t T,t ∈ ["NoneType", "bool", "int", "str", "list", "tuple", "dict"] -> T ∈ ["int", "bool", "str", "tuple"] -> PySem.W.kitOne K (.type t) (.type T) = some (decide (t = T) || (decide (t = "bool") && decide (T = "int")))
def zDv (M:Mem):EV -> Option String
 | .dat .non=>some "NoneType"
 | .dat (.bl _)=>some "bool"
 | .dat (.int _)=>some "int"
 | .dat (.str _)=>some "str"
 | .dat (.tup _)=>some "tuple"
 | .fl _=>some "list"
 | .dat (.ref n)=>match M[n]? with
  | some (.lst _)=>some "list"
  | some (.fro _)=>some "list"
  | some (.dict _)=>some "dict"
  | some (.dicT _)=>some "dict"
  | _=>none
 | .dat (.fn _ _)=>none
theorem zOO {K:PySem.W.Frag} {L:List Addr} {M:Mem} {H H0:Hp} {x:EV} {v:V} {t:String} (c:Cor K L M H) (r:zT H0 L H x v) (h:zDv M x = some t):TyOf K H v (.type t) /\ t ∈ ["NoneType", "bool", "int", "str", "list", "tuple", "dict"]:=by
 unfold zDv at h;split at h
 ·cases h; unfold zT Rep at r; subst r; exact ⟨.non,by simp⟩
 ·cases h; unfold zT Rep at r; subst r; exact ⟨.bl _,by simp⟩
 ·cases h; unfold zT Rep at r; subst r; exact ⟨.int _,by simp⟩
 ·cases h; unfold zT Rep at r; subst r; exact ⟨.str _,by simp⟩
 ·cases h; unfold zT Rep at r; obtain ⟨a,vs,rfl,e,_⟩:=r; exact ⟨.tup e,by simp⟩
 ·cases h;obtain ⟨p,vs,rfl,_,e,_⟩:=r;exact ⟨.lst e,by simp⟩
 ·unfold zT Rep at r;obtain ⟨a,rfl,e⟩:=r;split at h
  ·rename_i e1; cases h; obtain ⟨vs,q,_⟩:=c.obj _ a _ e e1; exact ⟨.lst q,by simp⟩
  ·rename_i e1; cases h; obtain ⟨o,vs,q,_⟩:=c.obj _ a _ e e1; exact ⟨.frz q,by simp⟩
  ·rename_i e1; cases h; obtain ⟨vs,q,_⟩:=c.obj _ a _ e e1; exact ⟨.dK q,by simp⟩
  ·rename_i e1; cases h; obtain ⟨vs,q,_⟩:=c.obj _ a _ e e1; exact ⟨.dT q,by simp⟩
  ·cases h
 ·cases h
def isT (t T:String):Bool:=decide (t = T) || (decide (t = "bool") && decide (T = "int"))
def zB0 (T:String) (f:FE):FE:=fun σ M=>match f σ M with
 | some (x,M1)=>match zDv M1 x with
  | some t=>some (.dat (.bl (isT t T)),M1)
  | none=>none
 | none=>none
def zOw (K:PySem.W.Frag) (T:String):List V -> Hp -> VK -> Prop:=fun xs H Q=>∃ x t b,xs = [x,.ty T] /\ TyOf K H x t /\ PySem.W.kitOne K t (.type T) = some b /\ Q (.bl b) H
theorem zJi:zBj X (.builtin "isinstance") (zOw X.K T):=by
 intro zB s σ H xs us Q I r h;obtain ⟨x,t,b,rfl,ty,e,q⟩:=h;cases r with
 | cons r1 r2=>
  cases r2 with
  | cons r3 r4=>
   cases r4;cases r3;exact zJN I r1 ty e fun tk=>⟨.bl b,H,I.tok _,rfl,q⟩
theorem zC2 (hK:Kinds X.K) (hT:T ∈ ["int", "bool", "str", "tuple"]) (hg:Gl X "isinstance") (hm:X.mg "isinstance" = none) (hg2:Gl X y) (hm2:X.mg y = none) (hv2:bootBuiltins y = some (.type T)) (hn2:y ≠ "__name__") (hd2:(y == ("__debug__" : Str)) = false) (h:QE X e f)
  (he:starEach (e :: [.Name y p2]) X.env = (false,eval e X.env) :: starEach [.Name y p2] X.env:=by rfl) (he2:starEach [.Name y p2] X.env = (false,eval (.Name y p2) X.env) :: starEach [] X.env:=by rfl) (hpl:(backTo pos (starEach [.Name y p2] X.env)).any (·.1) = false:=by rfl) :
  QE X (.Call (.Name "isinstance" p1) [e,.Name y p2] [] pos) (zB0 T f) :=
 .mk <| PE.imp (zHE (r:=zOw X.K T) zJi hg hm (by rfl) (zD1 h.un (zD1 (zMD (v:=.ty T) hg2 hm2 hv2 rfl hn2 hd2) zHn he2) he) (by decide) (by decide) he hpl) fun τ H Q zz=>by
  obtain ⟨L,σ,M,d,M',c,rs,hf,q⟩:=zz;unfold zB0 at hf;split at hf
  ·rename_i x M1 e1;split at hf
   ·rename_i t e2;cases hf;refine (mkE c rs e1 (fun L1 H1 v s1 c1 r1=>?_));obtain ⟨ty,ht⟩:=zOO c1 r1 e2;exact ⟨v,_,_,rfl,ty,hK.k t T ht hT,q L1 H1 _ s1 c1 (zAe (L:=L1) (H:=H1))⟩
   ·cases hf
  ·cases hf
theorem zG.two (h:zG L H [d,d'] vs):∃ v v',vs = [v,v'] /\ Rep L H d v /\ Rep L H d' v':=by
 unfold zG at h;obtain ⟨v,r,rfl,h1,h2⟩:=h;obtain ⟨v',rfl,h3⟩:=h2.one;exact ⟨v,v',rfl,h1,h3⟩
section
variable {fa:FAE}
theorem zKd (hg:Gl X "len") (hm:X.mg "len" = none) (ha:QAE X [e] fa) (he:starEach [e] X.env = (false,eval e X.env) :: starEach [] X.env:=by rfl) (hpl:(backTo pos (starEach [] X.env)).any (·.1) = false:=by rfl):QE X (.Call (.Name "len" p) [e] [] pos) (fB zBw fa) :=
 zDI zL4 zFq PySem.boot_len hg hm ha (by decide) (by decide) he hpl
theorem zLU (hg:Gl X "tuple") (hm:X.mg "tuple" = none) (ha:QAE X [e] fa) (he:starEach [e] X.env = (false,eval e X.env) :: starEach [] X.env:=by rfl) (hpl:(backTo pos (starEach [] X.env)).any (·.1) = false:=by rfl):QE X (.Call (.Name "tuple" p) [e] [] pos) (fB zAp fa) :=
 zEV zJS zEu (by rfl) hg hm ha (by decide) (by decide) he hpl
theorem zO0 (hg:Gl X "abs") (hm:X.mg "abs" = none) (ha:QAE X [e] fa) (he:starEach [e] X.env = (false,eval e X.env) :: starEach [] X.env:=by rfl) (hpl:(backTo pos (starEach [] X.env)).any (·.1) = false:=by rfl):QE X (.Call (.Name "abs" p) [e] [] pos) (fB zI5 fa) :=
 zDI zLt zKh (by rfl) hg hm ha (by decide) (by decide) he hpl
theorem zNg (hg:Gl X "int") (hm:X.mg "int" = none) (ha:QAE X [e] fa) (he:starEach [e] X.env = (false,eval e X.env) :: starEach [] X.env:=by rfl) (hpl:(backTo pos (starEach [] X.env)).any (·.1) = false:=by rfl):QE X (.Call (.Name "int" p) [e] [] pos) (fB zKO fa) :=
 zEV zLl zI4 (by rfl) hg hm ha (by decide) (by decide) he hpl
end
end
def zCw (sc scope:Scope):Bool:=scope.names.all fun y=>
 (y.2 != .local || scope.names.lookup y.1 == some .local) && (y.2 != .cell || scope.names.lookup y.1 == some .cell) && (y.2 != .free || (sc.names.lookup y.1 == some .cell || sc.names.lookup y.1 == some .free))
def zD6 (N:List Str) (scope:Scope) (own:List Nat):Bool:=(List.range N.length).all fun i=>match N[i]? with
 | some x=>decide (i ∈ own) || (scope.names.lookup x == none) || (scope.names.lookup x == some .free)
 | none=>true
theorem zDT (hk:scope.kind = .function) (hs:X.env.scope = sc) (hN:X.N = N) (h1:zCw sc scope = true) (h2:zD6 N scope own = true):CompIn X scope own:=by
 unfold zCw at h1;rw [zQq] at h1;refine ⟨⟨hk,fun y hy e=>?_,fun y hy e=>?_,fun y hy e=>?_⟩,fun i x e=>?_⟩
 ·have:=h1 y hy;simp [e] at this;exact this
 ·have:=h1 y hy;simp [e] at this;exact this
 ·have:=h1 y hy;simp [e] at this;show X.env.scope.names.lookup y.1 = _ \/ X.env.scope.names.lookup y.1 = _;rw [hs];exact this
 ·unfold zD6 at h2;rw [zQq] at h2;rw [hN] at e;have hi:i < N.length:=(zQI.mp e).1;have:=h2 i (by simpa using hi);rw [e] at this;simp only [Bool.or_eq_true,zRS,beq_iff_eq,or_assoc] at this;exact this
def zFc (K:PySem.W.Frag):Bool:=K.all fun p=>match p.2.cls with
 | .type n=>n != "list"
 | _=>true
theorem zG9:∀ {K:PySem.W.Frag},K.lookup a = some o -> (a,o) ∈ K
 | [],h=>by cases h
 | (b,u) :: r,h=>by
  have h':List.lookup a ((b,u) :: r) = some o:=h;rw [zSK] at h';cases q:a == b with
  | true=>rw [q] at h'; cases h'; rw [beq_iff_eq.mp q]; exact zQT
  | false=>rw [q] at h'; exact zQS _ (zG9 h')
theorem zJV {K:PySem.W.Frag} (h:zFc K = true) {o:Obj} (e:K.lookup a = some o) (hc:o.cls = .type "list"):False:=by
 unfold zFc at h;rw [zQq] at h;have:=h (a,o) (zG9 e);simp [hc] at this
theorem zFQ:∀ (ns:List Int),zG L H (ns.map D.int) (ns.map V.int)
 | []=> .nil
 | n :: r=> .cons (by unfold Rep; rfl) (zFQ r)
def zKk (K:PySem.W.Frag):Bool:=zGu.all fun x=>(PySem.W.tabIn K x).isNone
theorem zI2 {K:PySem.W.Frag} {H:Hp} (h:zKk K = true):zIs K H:=fun x hx c P e=>by
 unfold zKk at h;have:=zQq.mp h x hx;rw [e] at this; cases this
theorem zLJ (hO:zL2 H):∀ b xs,H b ≠ some (.lst xs):=fun b xs h1=>by
 rcases hO b with z | ⟨o,xs,z⟩
 ·rw [h1] at z; cases z
 ·rw [h1] at z; cases z
theorem zIq {K:PySem.W.Frag} {m:FF} {H:Hp} {a:Addr} {ns:List Int} {E:XK} (hL:zFc K = true) (hT:zIs K H) (hO:∀ b xs,H b ≠ some (.lst xs)) (hS:SqL K H a (ns.map V.int)) (h:∃ M',m [.ref 0] [.fro (ns.map D.int)] = some (.bl true,M')) :
  spF K 1 m [.ref a] H (fun v _=>v = .bl true) E:=by
 obtain ⟨M',e⟩:=h;have hf:∃ o,H a = some (.frz o (.lst (ns.map V.int))):=by
  rcases hS with (h1 | h1) | ⟨o,its,n,h1,h2,_⟩
  ·exact (hO _ _ h1).elim
  ·exact h1
  ·exact (zJV hL h1 h2).elim
 obtain ⟨o,hf⟩:=hf;refine ⟨[a],[.ref 0],[.fro (ns.map D.int)],_,_,⟨rfl,by simp,fun n b m e1 e2=>?_,hT⟩,.cons ?_ .nil,rfl,e,fun L' H' v s c r=>?_⟩
 ·cases n with
  | zero=>simp at e1 e2; subst e1; subst e2; exact ⟨o,_,hf,zFQ ns⟩
  | succ n=>simp at e1
 ·unfold Rep; exact ⟨a,rfl,rfl⟩
 ·unfold Rep at r; exact r
def Ok {α:Type} (x:Option (α × Mem)) (P:α -> Mem -> Prop):Prop:=∃ a M,x = some (a,M) /\ P a M
def OkS (x:Option (Out × Sd × Mem)) (P:Out -> Sd -> Mem -> Prop):Prop:=∃ o σ M,x = some (o,σ,M) /\ P o σ M
theorem Ok.mono {α:Type} {x:Option (α × Mem)} {P Q:α -> Mem -> Prop} (h:Ok x P) (hq:∀ a M,P a M -> Q a M):Ok x Q:=let ⟨a,M,e,p⟩:=h; ⟨a,M,e,hq a M p⟩
theorem OkS.mono {x:Option (Out × Sd × Mem)} {P Q:Out -> Sd -> Mem -> Prop} (h:OkS x P) (hq:∀ o σ M,P o σ M -> Q o σ M):OkS x Q:=let ⟨a,σ,M,e,p⟩:=h; ⟨a,σ,M,e,hq a σ M p⟩
theorem zV {α:Type} {a:α} {M:Mem} {P:α -> Mem -> Prop}:Ok (some (a,M)) P ↔ P a M:=⟨fun ⟨_,_,e,p⟩=>by cases e; exact p,fun p=>⟨a,M,rfl,p⟩⟩
theorem zD5 {α:Type} {P:α -> Mem -> Prop}:Ok (none:Option (α × Mem)) P ↔ False:=⟨(fun ⟨_,_,e,_⟩=>(nomatch e)),fun h=>h.elim⟩
theorem zKD {o:Out} {σ:Sd} {M:Mem} {P:Out -> Sd -> Mem -> Prop}:OkS (some (o,σ,M)) P ↔ P o σ M:=⟨fun ⟨_,_,_,e,p⟩=>by cases e; exact p,fun p=>⟨o,σ,M,rfl,p⟩⟩
section
theorem zL {i:Nat}:Ok (zC i σ M) P ↔ ∃ d,σ[i]? = some (some d) /\ P (.dat d) M:=by
 unfold zC;constructor
 ·rintro ⟨a,M1,e,p⟩;split at e
  ·rename_i d e1; cases e; exact ⟨d,e1,p⟩
  ·cases e
 ·rintro ⟨d,e1,p⟩;rw [e1]; exact ⟨_,_,rfl,p⟩
theorem zt {d:D}:Ok (fC d σ M) P ↔ P (.dat d) M:=zV
theorem zS {k:K2}:Ok (fOp k f g σ M) P ↔ Ok (f σ M) fun x M1=>Ok (g σ M1) fun y M2=>Ok (k x y M2) P:=by
 unfold fOp;constructor
 ·rintro ⟨a,M1,e,p⟩;split at e
  ·rename_i x M2 e1;split at e
   ·rename_i y M3 e2;exact ⟨x,M2,e1,y,M3,e2,a,M1,e,p⟩
   ·cases e
  ·cases e
 ·rintro ⟨x,M2,e1,y,M3,e2,a,M1,e,p⟩;rw [e1]; dsimp only; rw [e2]; exact ⟨a,M1,e,p⟩
def zEB (P:D -> Mem -> Prop):EV -> Mem -> Prop
 | .dat d,M=>P d M
 | .fl xs,M=>P (.ref M.length) (M ++ [.lst xs])
theorem zi {P:D -> Mem -> Prop}:Ok (toD f σ M) P ↔ Ok (f σ M) (zEB P):=by
 unfold toD;constructor
 ·rintro ⟨a,M1,e,p⟩;split at e
  ·rename_i d M2 e1; cases e; exact ⟨_,_,e1,p⟩
  ·rename_i xs M2 e1; cases e; exact ⟨_,_,e1,p⟩
  ·cases e
 ·rintro ⟨x,M2,e1,p⟩;rw [e1];cases x with
  | dat d=>exact ⟨d,M2,rfl,p⟩
  | fl xs=>exact ⟨_,_,rfl,p⟩
theorem zF {P:D -> Mem -> Prop} {d:D} {M:Mem}:zEB P (.dat d) M ↔ P d M:=Iff.rfl
theorem zFl {P:D -> Mem -> Prop} {xs:List D} {M:Mem}:zEB P (.fl xs) M ↔ P (.ref M.length) (M ++ [.lst xs]):=Iff.rfl
section
theorem zAH:Ok (zM σ M) P ↔ P [] M:=zV
theorem ze {f:FD} {g:FA}:Ok (zD f g σ M) P ↔ Ok (f σ M) fun d M1=>Ok (g σ M1) fun ds M2=>P (d :: ds) M2:=by
 unfold zD;constructor
 ·rintro ⟨a,M1,e,p⟩;split at e
  ·rename_i x M2 e1;split at e
   ·rename_i y M3 e2;cases e;exact ⟨x,M2,e1,y,_,e2,p⟩
   ·cases e
  ·cases e
 ·rintro ⟨x,M2,e1,y,M3,e2,p⟩;rw [e1]; dsimp only; rw [e2]; exact ⟨_,_,rfl,p⟩
end
section
theorem zAd:Ok (zc σ M) P ↔ P [] M:=zV
theorem zAL {f:FE} {g:FAE}:Ok (zN f g σ M) P ↔ Ok (f σ M) fun d M1=>Ok (g σ M1) fun ds M2=>P (d :: ds) M2:=by
 unfold zN;constructor
 ·rintro ⟨a,M1,e,p⟩;split at e
  ·rename_i x M2 e1;split at e
   ·rename_i y M3 e2;cases e;exact ⟨x,M2,e1,y,_,e2,p⟩
   ·cases e
  ·cases e
 ·rintro ⟨x,M2,e1,y,M3,e2,p⟩;rw [e1]; dsimp only; rw [e2]; exact ⟨_,_,rfl,p⟩
end
theorem zOY {a:FA}:Ok (zC0 a σ M) P ↔ Ok (a σ M) fun ds M1=>ds.length <= sizeLine /\ P (.dat (.tup ds)) M1:=by
 unfold zC0;constructor
 ·rintro ⟨x,M1,e,p⟩;split at e
  ·rename_i ds M2 e1;split at e
   ·rename_i hz; cases e; exact ⟨ds,_,e1,hz,p⟩
   ·cases e
  ·cases e
 ·rintro ⟨ds,M1,e1,hz,p⟩;rw [e1]; dsimp only; rw [zQU hz]; exact ⟨_,_,rfl,p⟩
theorem zCn {a:FA}:Ok (zBk a σ M) P ↔ Ok (a σ M) fun ds M1=>ds.length <= sizeLine /\ P (.fl ds) M1:=by
 unfold zBk;constructor
 ·rintro ⟨x,M1,e,p⟩;split at e
  ·rename_i ds M2 e1;split at e
   ·rename_i hz; cases e; exact ⟨ds,_,e1,hz,p⟩
   ·cases e
  ·cases e
 ·rintro ⟨ds,M1,e1,hz,p⟩;rw [e1]; dsimp only; rw [zQU hz]; exact ⟨_,_,rfl,p⟩
theorem zHO {k:KB} {a:FAE}:Ok (fB k a σ M) P ↔ Ok (a σ M) fun xs M1=>Ok (k xs M1) P:=by
 unfold fB;constructor
 ·rintro ⟨x,M1,e,p⟩;split at e
  ·rename_i ds M2 e1; exact ⟨ds,_,e1,x,M1,e,p⟩
  ·cases e
 ·rintro ⟨ds,M1,e1,p⟩;rw [e1]; exact p
theorem zA6 {m:FF} {a:FA}:Ok (zU m a σ M) P ↔ Ok (a σ M) fun ds M1=>Ok (m ds M1) fun d M2=>P (.dat d) M2:=by
 unfold zU;constructor
 ·rintro ⟨x,M1,e,p⟩;split at e
  ·rename_i ds M2 e1;split at e
   ·rename_i d M3 e2; cases e; exact ⟨ds,_,e1,d,_,e2,p⟩
   ·cases e
  ·cases e
 ·rintro ⟨ds,M1,e1,d,M2,e2,p⟩;rw [e1]; dsimp only; rw [e2]; exact ⟨_,_,rfl,p⟩
theorem zHx {k:KM} {a:FA}:Ok (fM k f a σ M) P ↔ Ok (f σ M) fun x M1=>(∃ xs,zAZ M1 x = some xs) /\ Ok (a σ M1) fun ds M2=>Ok (k x ds M2) fun d M3=>P (.dat d) M3:=by
 unfold fM;constructor
 ·rintro ⟨x,M1,e,p⟩;split at e
  ·rename_i y M2 e1;split at e
   ·rename_i xs e2;split at e
    ·rename_i ds M3 e3;split at e
     ·rename_i d M4 e4; cases e; exact ⟨y,_,e1,⟨xs,e2⟩,ds,_,e3,d,_,e4,p⟩
     ·cases e
    ·cases e
   ·cases e
  ·cases e
 ·rintro ⟨y,M1,e1,⟨xs,e2⟩,ds,M2,e3,d,M3,e4,p⟩;rw [e1]; dsimp only; rw [e2]; dsimp only; rw [e3]; dsimp only; rw [e4]; exact ⟨_,_,rfl,p⟩
theorem zNm {T:String}:Ok (zB0 T f σ M) P ↔ Ok (f σ M) fun x M1=>∃ t,zDv M1 x = some t /\ P (.dat (.bl (isT t T))) M1:=by
 unfold zB0;constructor
 ·rintro ⟨x,M1,e,p⟩;split at e
  ·rename_i y M2 e1;split at e
   ·rename_i t e2; cases e; exact ⟨y,_,e1,t,e2,p⟩
   ·cases e
  ·cases e
 ·rintro ⟨y,M1,e1,t,e2,p⟩;rw [e1]; dsimp only; rw [e2]; exact ⟨_,_,rfl,p⟩
section
theorem zGx:Ok (zBh σ M) P ↔ P none M:=zV
def zOk (P:Option Int -> Mem -> Prop):EV -> Mem -> Prop
 | .dat (.int i),M=>P (some i) M
 | _,_=>False
theorem zHM {i:Int} {M:Mem}:zOk P (.dat (.int i)) M ↔ P (some i) M:=Iff.rfl
theorem zGb:Ok (zBW f σ M) P ↔ Ok (f σ M) (zOk P):=by
 unfold zBW;constructor
 ·rintro ⟨x,M1,e,p⟩;split at e
  ·rename_i i M2 e1; cases e; exact ⟨_,_,e1,p⟩
  ·cases e
 ·rintro ⟨x,M1,e1,p⟩;rw [e1];cases x with
  | fl xs=>exact p.elim
  | dat d=>
   cases d with
   | int i=>exact ⟨_,_,rfl,p⟩
   | _=>exact p.elim
end
theorem zMy {l h:FO}:Ok (fSl f l h σ M) P ↔ Ok (f σ M) fun x M1=>Ok (l σ M1) fun lo M2=>Ok (h σ M2) fun hi M3=>Ok (kSl x lo hi M3) P:=by
 unfold fSl;constructor
 ·rintro ⟨x,M1,e,p⟩;split at e
  ·rename_i y M2 e1;split at e
   ·rename_i lo M3 e2;split at e
    ·rename_i hi M4 e3; exact ⟨y,_,e1,lo,_,e2,hi,_,e3,x,M1,e,p⟩
    ·cases e
   ·cases e
  ·cases e
 ·rintro ⟨y,M1,e1,lo,M2,e2,hi,M3,e3,p⟩;rw [e1]; dsimp only; rw [e2]; dsimp only; rw [e3]; exact p
def blP (P:Bool -> Mem -> Prop):EV -> Mem -> Prop
 | .dat (.bl k),M=>P k M
 | _,_=>False
theorem zAP {P:Bool -> Mem -> Prop} {k:Bool} {M:Mem}:blP P (.dat (.bl k)) M ↔ P k M:=Iff.rfl
theorem zAz {P:Bool -> Mem -> Prop}:Ok (tst f σ M) P ↔ Ok (f σ M) (blP P):=by
 unfold tst;constructor
 ·rintro ⟨x,M1,e,p⟩;split at e
  ·rename_i i M2 e1; cases e; exact ⟨_,_,e1,p⟩
  ·cases e
 ·rintro ⟨x,M1,e1,p⟩;rw [e1];cases x with
  | fl xs=>exact p.elim
  | dat d=>
   cases d with
   | bl i=>exact ⟨_,_,rfl,p⟩
   | _=>exact p.elim
section
theorem zDC:Ok (zAW σ M) P ↔ P true M:=zV
theorem zLX:Ok (zDH s t σ M) P ↔ Ok (s σ M) fun k M1=>if k then Ok (t σ M1) P else P false M1:=by
 unfold zDH;constructor
 ·rintro ⟨x,M1,e,p⟩;split at e
  ·rename_i M2 e1; exact ⟨true,M2,e1,by dsimp only; rw [zQU rfl]; exact ⟨x,M1,e,p⟩⟩
  ·rename_i hn;cases x with
   | true=>exact absurd e (hn M1)
   | false=>exact ⟨false,M1,e,by simpa using p⟩
 ·rintro ⟨x,M1,e1,p⟩;rw [e1];cases x with
  | true=>simpa using p
  | false=>exact ⟨false,M1,rfl,by simpa using p⟩
theorem zKQ:Ok (zE0 s t σ M) P ↔ Ok (s σ M) fun k M1=>if k then P true M1 else Ok (t σ M1) P:=by
 unfold zE0;constructor
 ·rintro ⟨x,M1,e,p⟩;split at e
  ·rename_i M2 e1; exact ⟨false,M2,e1,by simpa using ⟨x,M1,e,p⟩⟩
  ·rename_i hn;cases x with
   | false=>exact absurd e (hn M1)
   | true=>exact ⟨true,M1,e,by simpa using p⟩
 ·rintro ⟨x,M1,e1,p⟩;rw [e1];cases x with
  | false=>simpa using p
  | true=>exact ⟨true,M1,rfl,by simpa using p⟩
theorem zFv:Ok (zAv s σ M) P ↔ Ok (s σ M) fun k M1=>P (!k) M1:=by
 unfold zAv;constructor
 ·rintro ⟨x,M1,e,p⟩;split at e
  ·rename_i k M2 e1; cases e; exact ⟨k,_,e1,p⟩
  ·cases e
 ·rintro ⟨k,M1,e1,p⟩;rw [e1]; exact ⟨_,_,rfl,p⟩
end
end
section
def nxP (k:Sd -> Mem -> Prop) (P:Out -> Sd -> Mem -> Prop):Out -> Sd -> Mem -> Prop
 | .nx,σ,M=>k σ M
 | o,σ,M=>P o σ M
theorem zQ {k:Sd -> Mem -> Prop}:nxP k P .nx σ M ↔ k σ M:=Iff.rfl
theorem zMK {k:Sd -> Mem -> Prop} {d:D}:nxP k P (.ret d) σ M ↔ P (.ret d) σ M:=Iff.rfl
theorem zAi:OkS (zAr σ M) P ↔ P .nx σ M:=zKD
theorem zI:OkS (zP f g σ M) P ↔ OkS (f σ M) (nxP (fun σ1 M1=>OkS (g σ1 M1) P) P):=by
 unfold zP;constructor
 ·rintro ⟨o,σ1,M1,e,p⟩;split at e
  ·rename_i σ2 M2 e1; exact ⟨_,_,_,e1,o,σ1,M1,e,p⟩
  ·rename_i hn;refine ⟨o,σ1,M1,e,?_⟩;cases o with
   | nx=>exact absurd e (hn σ1 M1)
   | _=>exact p
 ·rintro ⟨o,σ1,M1,e1,p⟩;rw [e1];cases o with
  | nx=>exact p
  | _=>exact ⟨_,_,_,rfl,p⟩
theorem zAm {c:FT}:OkS (sIf c f g σ M) P ↔ Ok (c σ M) fun k M1=>if k then OkS (f σ M1) P else OkS (g σ M1) P:=by
 unfold sIf;constructor
 ·rintro ⟨o,σ1,M1,e,p⟩;split at e
  ·rename_i M2 e1; exact ⟨_,_,e1,by dsimp only; rw [zQU rfl]; exact ⟨o,σ1,M1,e,p⟩⟩
  ·rename_i M2 e1; exact ⟨_,_,e1,by simpa using ⟨o,σ1,M1,e,p⟩⟩
  ·cases e
 ·rintro ⟨x,M1,e1,p⟩;rw [e1];cases x with
  | true=>simpa using p
  | false=>simpa using p
theorem zx {h:FE}:OkS (zq h σ M) P ↔ Ok (h σ M) (zEB fun d M1=>P (.ret d) σ M1):=by
 rw [<- zi];unfold zq;constructor
 ·rintro ⟨o,σ1,M1,e,p⟩;split at e
  ·rename_i d M2 e1; cases e; exact ⟨_,_,e1,p⟩
  ·cases e
 ·rintro ⟨x,M1,e1,p⟩;rw [e1]; exact ⟨_,_,_,rfl,p⟩
theorem zb {i:Nat} {h:FE}:OkS (zAI i h σ M) P ↔ Ok (h σ M) (zEB fun d M1=>P .nx (σ.set i (some d)) M1):=by
 rw [<- zi];unfold zAI;constructor
 ·rintro ⟨o,σ1,M1,e,p⟩;split at e
  ·rename_i d M2 e1; cases e; exact ⟨_,_,e1,p⟩
  ·cases e
 ·rintro ⟨x,M1,e1,p⟩;rw [e1]; exact ⟨_,_,_,rfl,p⟩
theorem zBC {h:FE}:OkS (zA4 h σ M) P ↔ Ok (h σ M) fun _ M1=>P .nx σ M1:=by
 unfold zA4;constructor
 ·rintro ⟨o,σ1,M1,e,p⟩;split at e
  ·rename_i d M2 e1; cases e; exact ⟨_,_,e1,p⟩
  ·cases e
 ·rintro ⟨x,M1,e1,p⟩;rw [e1]; exact ⟨_,_,_,rfl,p⟩
theorem zIF {v o i:FE}:OkS (zJD v o i σ M) P ↔ Ok (v σ M) (zEB fun d M1=>Ok (o σ M1) fun x M2=>Ok (i σ M2) (zEB fun j M3=>∃ M4,zHI x j d M3 = some M4 /\ P .nx σ M4)):=by
 rw [<- zi];unfold zJD;constructor
 ·rintro ⟨o,σ1,M1,e,p⟩;split at e
  ·rename_i d M2 e1;split at e
   ·rename_i x M3 e2;split at e
    ·rename_i j M4 e3;split at e
     ·rename_i M5 e4;cases e;refine ⟨_,_,e1,_,_,e2,?_⟩;dsimp only; rw [<- zi];exact ⟨_,_,e3,_,e4,p⟩
     ·cases e
    ·cases e
   ·cases e
  ·cases e
 ·rintro ⟨d,M1,e1,x,M2,e2,p⟩;rw [<- zi] at p;obtain ⟨j,M3,e3,M4,e4,p⟩:=p;rw [e1]; dsimp only; rw [e2]; dsimp only; rw [e3]; dsimp only; rw [e4]; exact ⟨_,_,_,rfl,p⟩
theorem zAM {n:Nat} {ds:List D} {Q:D -> Mem -> Prop}:Ok (zBZ n f ds M) Q ↔ OkS (f (ds.map some ++ List.replicate (n - ds.length) none) M) fun o _ M1=>match o with | .ret d=>Q d M1 | .nx=>Q .non M1 | _=>False:=by
 unfold zBZ;constructor
 ·rintro ⟨o,M1,e,p⟩;split at e
  ·rename_i d σ1 M2 e1; cases e; exact ⟨_,_,_,e1,p⟩
  ·rename_i σ1 M2 e1; cases e; exact ⟨_,_,_,e1,p⟩
  ·cases e
 ·rintro ⟨o,σ1,M1,e1,p⟩;rw [e1];cases o with
  | ret d=>exact ⟨_,_,rfl,p⟩
  | nx=>exact ⟨_,_,rfl,p⟩
  | brk=>exact p.elim
  | cnt=>exact p.elim
theorem zDW {c:FT} {b:FS} (I:Nat -> Sd -> Mem -> Prop) (hs:∀ m σ M,I m σ M -> Ok (c σ M) fun k M1=>if k then OkS (b σ M1) fun o σ2 M2=>match o with | .nx=>∃ m',m' < m /\ I m' σ2 M2 | .cnt=>∃ m',m' < m /\ I m' σ2 M2 | .brk=>P .nx σ2 M2 | .ret d=>P (.ret d) σ2 M2 else P .nx σ M1) :
  ∀ (n m:Nat) (σ:Sd) (M:Mem),m < n -> I m σ M -> OkS (zAy c b n σ M) P
 | 0,m,σ,M,h,_=>absurd h (Nat.not_lt_zero _)
 | n + 1,m,σ,M,h,hi=>by
  obtain ⟨k,M1,e,q⟩:=hs m σ M hi;unfold zAy;rw [e];cases k with
  | false=>exact ⟨_,_,_,rfl,by simpa using q⟩
  | true=>
   rw [zQU rfl] at q;obtain ⟨o,σ2,M2,e2,q⟩:=q;dsimp only;rw [e2];cases o with
   | nx=>obtain ⟨m',hm,q⟩:=q; exact zDW I hs n m' σ2 M2 (by omega) q
   | cnt=>obtain ⟨m',hm,q⟩:=q; exact zDW I hs n m' σ2 M2 (by omega) q
   | brk=>exact ⟨_,_,_,rfl,q⟩
   | ret d=>exact ⟨_,_,_,rfl,q⟩
theorem zCH {g:FG} {b:FS} {all:List D} {gd:Option (Mem -> Prop)} (I:List D -> Sd -> Mem -> Prop)
  (hs:∀ x r σ M,I (x :: r) σ M -> zBQ gd all M /\ ∃ σ1,g x σ = some σ1 /\ OkS (b σ1 M) fun o σ2 M2=>match o with | .nx=>I r σ2 M2 | .cnt=>I r σ2 M2 | .brk=>P .nx σ2 M2 | .ret d=>P (.ret d) σ2 M2)
  (he:∀ σ M,I [] σ M -> zBQ gd all M /\ P .nx σ M):∀ (xs:List D) (σ:Sd) (M:Mem),I xs σ M -> OkS (zBz g b all gd xs σ M) P
 | [],σ,M,hi=>by
  unfold zBz;obtain ⟨h1,h2⟩:=he σ M hi;rw [zQU h1];exact ⟨_,_,_,rfl,h2⟩
 | x :: r,σ,M,hi=>by
  unfold zBz;obtain ⟨h1,σ1,e1,o,σ2,M2,e2,q⟩:=hs x r σ M hi;rw [zQU h1,e1];dsimp only;rw [e2];cases o with
  | nx=>exact zCH I hs he r σ2 M2 q
  | cnt=>exact zCH I hs he r σ2 M2 q
  | brk=>exact ⟨_,_,_,rfl,q⟩
  | ret d=>exact ⟨_,_,_,rfl,q⟩
theorem zA7 {i:FI} {g:FG} {b:FS}:OkS (zC1 i g b σ M) P ↔ ∃ xs gd M1,i σ M = some (xs,gd,M1) /\ OkS (zBz g b xs gd xs σ M1) P:=by
 unfold zC1;constructor
 ·rintro ⟨o,σ1,M1,e,p⟩;split at e
  ·rename_i xs gd M2 e1; exact ⟨_,_,_,e1,_,_,_,e,p⟩
  ·cases e
 ·rintro ⟨xs,gd,M1,e1,p⟩;rw [e1]; exact p
theorem zBP {g:FG} {tc:FT} {te:FE} {all:List D} {gd:Option (Mem -> Prop)} (I:List D -> List D -> Mem -> Prop)
  (hs:∀ x r acc M,I (x :: r) acc M -> zBQ gd all M /\ ∃ σ1,g x σ = some σ1 /\ Ok (tc σ1 M) fun k M1=>if k then Ok (te σ1 M1) (zEB fun d M2=>I r (acc ++ [d]) M2) else I r acc M1)
  {Q:List D -> Mem -> Prop} (he:∀ acc M,I [] acc M -> zBQ gd all M /\ Q acc M):∀ (xs acc:List D) (M:Mem),I xs acc M -> Ok (zBD g tc te σ all gd xs M) fun ys M1=>Q (acc ++ ys) M1
 | [],acc,M,hi=>by
  unfold zBD;obtain ⟨h1,h2⟩:=he acc M hi;rw [zQU h1];exact ⟨_,_,rfl,by simpa using h2⟩
 | x :: r,acc,M,hi=>by
  unfold zBD;obtain ⟨h1,σ1,e1,k,M1,e2,q⟩:=hs x r acc M hi;rw [zQU h1,e1];dsimp only;rw [e2];cases k with
  | false=>exact zBP I hs he r acc M1 (by simpa using q)
  | true=>
   rw [zQU rfl,<- zi] at q;obtain ⟨d,M2,e3,q⟩:=q;dsimp only;rw [e3];obtain ⟨ys,M3,e4,p⟩:=zBP I hs he r (acc ++ [d]) M2 q;dsimp only;rw [e4];exact ⟨_,_,rfl,by simpa using p⟩
theorem zBx {own:List Nat} {i:FI} {g:FG} {tc:FT} {te:FE} {Q:EV -> Mem -> Prop}:Ok (zy own i g tc te σ M) Q ↔ ∃ xs gd M1,i σ M = some (xs,gd,M1) /\ xs.length <= sizeLine /\ Ok (zBD g tc te (zHv own σ) xs gd xs M1) fun ys M2=>Q (.fl ys) M2:=by
 unfold zy;constructor
 ·rintro ⟨o,M1,e,p⟩;split at e
  ·rename_i xs gd M2 e1;split at e
   ·rename_i hz;split at e
    ·rename_i ys M3 e2; cases e; exact ⟨_,_,_,e1,hz,_,_,e2,p⟩
    ·cases e
   ·cases e
  ·cases e
 ·rintro ⟨xs,gd,M1,e1,hz,ys,M2,e2,p⟩;rw [e1]; dsimp only; rw [zQU hz,e2]; exact ⟨_,_,rfl,p⟩
theorem zAc {h:FE} {x:EV} {M1:Mem} {xs:List D} (e:h σ M = some (x,M1)) (e2:zAG M1 x = some xs):zAb h σ M = some (xs,zFr x xs,M1):=by
 unfold zAb; rw [e]; dsimp only; rw [e2]
theorem zEi {a:FA} {M1:Mem} {j:Int} (e:a σ M = some ([.int j],M1)) (h1:0 <= j) (h2:j < 2 ^ 62):zBH a σ M = some ((List.range j.toNat).map fun (k:Nat)=>D.int k,none,M1):=by
 unfold zBH; rw [e]; dsimp only; rw [zQU ⟨by omega,h2⟩]
end
section
theorem zAj:Ok (zAY (.dat (.int i)) (.dat (.int j)) M) P ↔ P (.dat (.int (i + j))) M:=zV
theorem zMs:Ok (zEG (.dat (.int i)) (.dat (.int j)) M) P ↔ P (.dat (.int (i - j))) M:=zV
theorem zG4:Ok (zE2 (.dat (.int i)) (.dat (.int j)) M) P ↔ zHL i j = true /\ P (.dat (.int (i * j))) M:=by
 unfold zE2 kI; dsimp only; split
 ·rename_i h; rw [zV]; simp [h]
 ·rename_i h; rw [zD5]; simp [h]
theorem zCc:Ok (zCW (.dat (.int i)) (.dat (.int j)) M) P ↔ 0 < j /\ P (.dat (.int (i % j))) M:=by
 unfold zCW kI; dsimp only; split
 ·rename_i h; rw [zV]; simp at h; simp [h]
 ·rename_i h; rw [zD5]; simp at h; simp; intro h'; omega
theorem zIT:Ok (zFZ (.dat (.int i)) (.dat (.int j)) M) P ↔ (0 < j /\ j < 1073741824) /\ P (.dat (.int (i / j))) M:=by
 unfold zFZ kI; dsimp only; split
 ·rename_i h; rw [zV]; simp at h; simp [h]
 ·rename_i h; rw [zD5]; simp at h; simp; intro h' h2; have:=h h'; omega
theorem zMr:Ok (zKA (.dat (.int i)) (.dat (.int j)) M) P ↔ (0 <= j /\ j <= 1000000 /\ i.natAbs < 2 ^ 64) /\ P (.dat (.int (i ^ j.toNat))) M:=by
 unfold zKA kI; dsimp only; split
 ·rename_i h; rw [zV]; simp only [zQp,zRS] at h; simp [h]
 ·rename_i h; rw [zD5]; simp only [zQp,zRS,not_and] at h; simp only [false_iff,not_and]; intro ⟨a,b,c⟩; exact absurd c (h ⟨a,b⟩)
theorem zPX:Ok (kLt (.dat (.int i)) (.dat (.int j)) M) P ↔ P (.dat (.bl (decide (i < j)))) M:=zV
theorem zL3:Ok (kLe (.dat (.int i)) (.dat (.int j)) M) P ↔ P (.dat (.bl (decide (i <= j)))) M:=zV
theorem zQA:Ok (kGt (.dat (.int i)) (.dat (.int j)) M) P ↔ P (.dat (.bl (decide (j < i)))) M:=zV
theorem zOz:Ok (kGe (.dat (.int i)) (.dat (.int j)) M) P ↔ P (.dat (.bl (decide (j <= i)))) M:=zV
theorem zHl:Ok (kEq (.dat (.int i)) (.dat (.int j)) M) P ↔ P (.dat (.bl (decide (i = j)))) M:=by
 have:kEq (.dat (.int i)) (.dat (.int j)) M = some (.dat (.bl (decide (V.int i = V.int j))),M):=rfl;rw [this,zV]; simp
theorem zOi:Ok (kNe (.dat (.int i)) (.dat (.int j)) M) P ↔ P (.dat (.bl (decide (i ≠ j)))) M:=by
 have:kNe (.dat (.int i)) (.dat (.int j)) M = some (.dat (.bl (!decide (V.int i = V.int j))),M):=rfl;rw [this,zV]; simp
theorem zMf {x:EV} {xs:List D} (h:zAZ M x = some xs) (hx:∀ d,x = .dat d -> zCZ d = none):Ok (kNe x (.fl []) M) P ↔ P (.dat (.bl (!xs.isEmpty))) M:=by
 have e1:zHg true x (.fl []) M = none:=by cases x <;> rfl
 have e2:kNe x (.fl []) M = some (.dat (.bl (!xs.isEmpty)),M):=by
  unfold kNe kOr; rw [e1]; unfold zKu; rw [h]; rfl
 rw [e2,zV]
theorem zJR {x:EV} {xs:List D} {d:D} (h:zAG M x = some xs) (hd:atI xs i = some d) (p:P (.dat d) M):Ok (kIx x (.dat (.int i)) M) P:=by
 have:kIx x (.dat (.int i)) M = some (.dat d,M):=by unfold kIx; dsimp only; rw [h]; dsimp only; rw [hd]
 rw [this,zV]; exact p
theorem zJo {xs:List D} {k:Nat} {d:D} (h:xs[k]? = some d):atI xs (k:Int) = some d:=zBX h
theorem zNT {xs:List D} {i:Int} {d:D} (h0:0 <= i) (h:xs[i.toNat]? = some d):atI xs i = some d:=by
 have:i = ((i.toNat:Nat):Int):=by omega
 rw [this]; exact zBX h
theorem zMt {x:EV} {xs:List D} (h:zAG M x = some xs):Ok (zBw [x] M) P ↔ P (.dat (.int xs.length)) M:=by
 have:zBw [x] M = some (.dat (.int xs.length),M):=by unfold zBw; dsimp only; rw [h]
 rw [this,zV]
theorem zFm {x:EV} {xs:List D} (h:zAG M x = some xs):Ok (zAp [x] M) P ↔ P (.dat (.tup xs)) M:=by
 have:zAp [x] M = some (.dat (.tup xs),M):=by unfold zAp; dsimp only; rw [h]
 rw [this,zV]
theorem zMm:Ok (zI5 [.dat (.int i)] M) P ↔ P (.dat (.int (if i < 0 then -i else i))) M:=zV
theorem zNb {k:Bool}:Ok (zKO [.dat (.bl k)] M) P ↔ P (.dat (.int (if k then 1 else 0))) M:=zV
theorem zJp {x:EV} {xs:List D} {lo hi:Option Int} (h:zAZ M x = some xs) (ht:zBR x = none):Ok (kSl x lo hi M) P ↔ P (.fl (zDE xs lo hi)) M:=by
 have:kSl x lo hi M = some (.fl (zDE xs lo hi),M):=by unfold kSl; rw [ht]; dsimp only; rw [h]
 rw [this,zV]
theorem zBV {xs:List D}:zAG M (.dat (.tup xs)) = some xs:=rfl
theorem zB7 {xs:List D}:zAG M (.fl xs) = some xs:=rfl
theorem zJ1 {xs:List D}:zAZ M (.fl xs) = some xs:=rfl
theorem zAQ {n:Nat} {xs:List D} (h:M[n]? = some (.lst xs)):zAZ M (.dat (.ref n)) = some xs:=by unfold zAZ; dsimp only; rw [h]
theorem zFn {n:Nat} {xs:List D} (h:M[n]? = some (.fro xs)):zAZ M (.dat (.ref n)) = some xs:=by unfold zAZ; dsimp only; rw [h]
theorem zh {n:Nat} {xs:List D} (h:M[n]? = some (.lst xs)):zAG M (.dat (.ref n)) = some xs:=zAQ h
theorem zME {n:Nat} {xs:List D} (h:M[n]? = some (.fro xs)):zAG M (.dat (.ref n)) = some xs:=zFn h
theorem zB5 {n:Nat} {xs:List D} {d:D} {Q:D -> Mem -> Prop} (h:M[n]? = some (.lst xs)) (hz:xs.length < sizeLine):Ok (zAS (.dat (.ref n)) [d] M) Q ↔ Q .non (M.set n (.lst (xs ++ [d]))):=by
 have:zAS (.dat (.ref n)) [d] M = some (.non,M.set n (.lst (xs ++ [d]))):=by unfold zAS; dsimp only; rw [h]; dsimp only; rw [zQU hz]
 rw [this,zV]
theorem zN1 {n:Nat} {x:D} {xs:List D} {Q:D -> Mem -> Prop} (h:M[n]? = some (.lst (x :: xs))):Ok (zGP (.dat (.ref n)) [.int 0] M) Q ↔ Q x (M.set n (.lst xs)):=by
 have:zGP (.dat (.ref n)) [.int 0] M = some (x,M.set n (.lst xs)):=by
  unfold zGP; dsimp only; rw [h]; dsimp only;have e:ixN (x :: xs).length 0 = some 0:=by unfold ixN; rw [zQU (by omega),zQU (by simp)]; rfl
  rw [e]; dsimp only [List.getElem?_cons_zero]; rw [zQU (by decide)]; rfl
 rw [this,zV]
theorem zGh {n k:Nat} {xs:List D} {d:D} (h:M[n]? = some (.lst xs)) (hk:k < xs.length):zHI (.dat (.ref n)) (.int k) d M = some (M.set n (.lst (xs.set k d))):=by
 unfold zHI; dsimp only; rw [h]; dsimp only;have e:ixN xs.length (k:Int) = some k:=by unfold ixN; rw [zQU (by omega),zQU (by omega)]; simp
 rw [e]
end
theorem zGC {m:FF} {ds:List D} {M:Mem} {Q:D -> Mem -> Prop} (h:Ok (m ds M) fun d M1=>(D.und M.length d = true /\ M.length <= M1.length /\ ∀ (j:Nat) u,j < M.length -> M1[j]? = some u -> MO.und M.length u = true) /\ Q d (M1.take M.length)):Ok (zC3 m ds M) Q:=by
 obtain ⟨d,M1,e,⟨h1,h2,h3⟩,q⟩:=h;unfold zC3;rw [e];dsimp only;rw [zQU]
 ·exact ⟨_,_,rfl,q⟩
 ·simp only [zQp,zRS,zQq];refine ⟨⟨h1,fun u hu=>?_⟩,h2⟩;obtain ⟨j,hj⟩:=List.getElem?_of_mem hu;have hlt:j < M.length:=by
   have:=(zQI.mp hj).1;rw [zRd] at this; omega
  rw [List.getElem?_take_of_lt hlt] at hj;exact h3 j u hlt hj
section
theorem TIt.but (x:h.IsTupleIter a t i) (hs:Heap.ExtBut b h h') (n:a ≠ b):h'.IsTupleIter a t i:=x.extBut hs n
theorem Tup.but (x:h.IsTuple a its) (hs:Heap.ExtBut b h h') (n:a ≠ b):h'.IsTuple a its:=x.extBut hs n
theorem zBv (I:s.heap.IsTupleIter it t i) (T:s.heap.IsTuple t its) (hx:its[i]? = some x)
  (q:∀ h',h'.IsTupleIter it t (i + 1) -> Heap.SameBut it s.heap h' -> Q x { s with heap:=h' }):wpAny (model prog w) A (Builtin.SmallTypes.nextOf (.ref it)) Q E s:=by
 obtain ⟨o,O,C,FD⟩:=id I;obtain ⟨u,U,_,m,G⟩:=T;unfold Builtin.SmallTypes.nextOf;refine zQF (zQr I.typeIs PySem.F.slot_tuple_iterator_next (zQs PySem.F.slot_tuple_iterator_next I.typeIs PySem.F.entry_tuple_iterator_next ?_ (PySem.F.args_tuple_iterator_next_1 _)));refine zQF (m:=field (.ref it) 0) (zQu O FD (x:=.ref t) rfl ?_);rw [zQX (show ¬ ((Value.ref t == Value.none) = true) by exact zQb)];refine zQF (zQu O FD rfl ?_);refine zQF (wpAny_seqItems U G ?_);simp only [hx,zSz];refine zQF (wpAny_setField O FD (by simp) (zQH ⟨x,rfl,zQH (q _ ⟨_,Heap.get?_update_self _ O (Obj.isFreed_of_fields (Obj.data_mapFields FD _)),(Obj.cls_mapFields ..).trans C,?_⟩ (Heap.SameBut.update ..))⟩));rw [Obj.data_mapFields FD];simp [rawInt]
theorem zCR (hh:A.handled = none) (I:s.heap.IsTupleIter it t i) (T:s.heap.IsTuple t its) (hx:its[i]? = none)
  (q:∀ h' e,Heap.ExtBut it s.heap h' -> (∃ o,h'.get? e = some o /\ o.cls = .type "StopIteration") -> E (.ref e) { s with heap:=h' }):wpAny (model prog w) A (Builtin.SmallTypes.nextOf (.ref it)) Q E s:=by
 obtain ⟨o,O,C,FD⟩:=id I;obtain ⟨u,U,_,m,G⟩:=T;unfold Builtin.SmallTypes.nextOf;refine zQF (zQr I.typeIs PySem.F.slot_tuple_iterator_next (zQs PySem.F.slot_tuple_iterator_next I.typeIs PySem.F.entry_tuple_iterator_next ?_ (PySem.F.args_tuple_iterator_next_1 _)));refine zQF (m:=field (.ref it) 0) (zQu O FD (x:=.ref t) rfl ?_);rw [zQX (show ¬ ((Value.ref t == Value.none) = true) by exact zQb)];refine zQF (zQu O FD rfl ?_);refine zQF (wpAny_seqItems U G ?_);simp only [hx,zSz];refine zQF (wpAny_rule (zQF (wpAny_setField O FD (by simp) ?_)));refine zQF ?_;simp only [newTuple,newExc];refine zQF (zQi (zQF (wpAny_of_eq (by first | rfl | (simp only [firstArgMember]; rfl)) (zQi ?_ (by size_fits)))) (by size_fits));simp only [raiseNew];refine zQF (wpAny_handled ?_);first | rw [hh] | rw [show A.in1.handled = none from hh]
 exact zQF (zQH (wpAny_throw (q _ _ (((Heap.SameBut.update ..).extBut.push _).push _) ⟨_,zQP _ rfl,rfl⟩)))
structure ZipT (h:Heap) (z TI TO i1 i2 t1 t2:Addr) (f:Value) (k1 k2:Nat):Prop where
 z:IsZip h z TI TO f
 ti:IsPair h TI (.ref i1) (.ref i2)
 to:∃ a b,IsPair h TO a b
 a:h.IsTupleIter i1 t1 k1
 b:h.IsTupleIter i2 t2 k2
theorem zJH {z TI TO i1 i2 t1 t2:Addr} {k:Nat} {xs ys:Array Value} {x y:Value} {Q:Option Value -> Shared -> Prop} (D:ZipApart z TI TO i1 i2 t1 t2) (Z:ZipT s.heap z TI TO i1 i2 t1 t2 .none k k)
  (T1:s.heap.IsTuple t1 xs) (T2:s.heap.IsTuple t2 ys) (hx:xs[k]? = some x) (hy:ys[k]? = some y)
  (q:∀ h',ZipT h' z TI TO i1 i2 t1 t2 (rawInt s.heap.objs.size) (k + 1) (k + 1) -> IsPair h' s.heap.objs.size x y ->
   (∀ c o,c ∉ [z,TO,i1,i2] -> s.heap.get? c = some o -> h'.get? c = some o) -> Q (some (.ref s.heap.objs.size)) { s with heap:=h' }):wpAny (model prog w) A (pyNext (.ref z)) Q E s:=by
 obtain ⟨Z0,P0,⟨a,b,O0⟩,I1,I2⟩:=Z;have ty:s.TypeIs (.ref z) "zip" := ⟨_,Z0,rfl⟩;unfold pyNext;refine zQF (wpAny_attempt (zQr ty PySem.F.slot_zip_next (zQs PySem.F.slot_zip_next ty PySem.F.entry_zip_next ?_ (PySem.F.args_zip_next_1 _))));refine zQF (m:=field (.ref z) 2) (zQu Z0 rfl rfl ?_);refine zQF (zQu Z0 rfl rfl ?_);refine zQF (wpAny_seqItems P0 rfl ?_);refine zQF ?_;unfold Builtin.SmallTypes.ownedTupleIsFree;refine zQF (zQu Z0 rfl rfl (zQH ?_));simp only [if_true];refine zQF (wpAny_rule (zQF (zQu Z0 rfl rfl (zQF (wpAny_setField_rec Z0 (by simp) fun h1 Z1 e1=>?_)))));replace Z1:IsZip h1 z TI TO .ellipsis:=Z1;refine zQF ?_;simp only [List.forIn_cons,List.forIn_nil,List.zipIdx_cons,List.zipIdx_nil];refine zQF (zQF (wpAny_onRaise (zQF (zBv (TIt.but I1 e1.extBut D.i1z) (Tup.but T1 e1.extBut D.l1z) hx fun h2 J1 e2=>zQH ?_))));have O2:IsPair h2 TO a b:=e2.extBut _ _ D.TOi1 (e1.extBut _ _ D.TOz O0);refine zQF (wpAny_seqItems O2 rfl (zQF (wpAny_updateSeq_pair O2 fun h3 O3 e3=>zQF (wpAny_letGo (zQH ?_)))));replace O3:IsPair h3 TO x b:=O3
 refine zQF (zQF (wpAny_onRaise (zQF (zBv (TIt.but (TIt.but (TIt.but I2 e1.extBut D.i2z) e2.extBut D.i12.symm) e3.extBut D.TOi2.symm)
  (Tup.but (Tup.but (Tup.but T2 e1.extBut D.l2z) e2.extBut D.l2i1) e3.extBut D.l2TO) hy fun h4 J2 e4=>zQH ?_))))
 have O4:IsPair h4 TO x b:=e4.extBut _ _ D.TOi2 O3;refine zQF (wpAny_seqItems O4 rfl (zQF (wpAny_updateSeq_pair O4 fun h5 O5 e5=>zQF (wpAny_letGo (zQH (zQH ?_))))));replace O5:IsPair h5 TO x y:=O5;refine zQF (wpAny_seqItems O5 rfl (zQF (wpAny_newTuple ?_)));have sz:h5.objs.size = s.heap.objs.size:=by rw [e5.1,e4.1,e3.1,e2.1,e1.1]
 have Z5:IsZip h5 z TI TO .ellipsis:=e5.extBut _ _ D.TOz.symm (e4.extBut _ _ D.i2z.symm (e3.extBut _ _ D.TOz.symm (e2.extBut _ _ D.i1z.symm Z1)));have kp:∀ c o,c ∉ [z,TO,i1,i2] -> s.heap.get? c = some o -> h5.get? c = some o:=fun c o n e=>by
  simp only [zQR,zQk,or_false,not_or] at n;obtain ⟨n1,n2,n3,n4⟩:=n;exact e5.extBut _ _ n2 (e4.extBut _ _ n4 (e3.extBut _ _ n2 (e2.extBut _ _ n3 (e1.extBut _ _ n1 e))))
 have A5:h5.IsTupleIter i1 t1 (k + 1):=TIt.but (TIt.but (TIt.but J1 e3.extBut D.TOi1.symm) e4.extBut D.i12) e5.extBut D.TOi1.symm;have B5:h5.IsTupleIter i2 t2 (k + 1):=TIt.but J2 e5.extBut D.TOi2.symm;have zl:z < h5.objs.size:=zQQ Z5;refine zQF ?_;unfold Builtin.SmallTypes.ownedTupleHandOut;have Z6:IsZip (h5.push { cls:=.type "tuple", data:=.seq #[x,y] }) z TI TO .ellipsis:=zQG _ Z5;refine zQF (wpAny_setField_rec Z6 (by simp) fun h7 Z7 e7=>?_);replace Z7:IsZip h7 z TI TO (rawInt h5.objs.size):=Z7;refine wpAny_setField_rec Z7 (by simp) fun h8 Z8 e8=>?_;replace Z8:IsZip h8 z TI TO (rawInt h5.objs.size):=Z8;have up:∀ c o,c ≠ z -> h5.get? c = some o -> h8.get? c = some o:=fun c o n e=>e8.extBut _ _ n (e7.extBut _ _ n (zQG _ e));have N8:IsPair h8 h5.objs.size x y:=e8.extBut _ _ (Nat.ne_of_gt zl) (e7.extBut _ _ (Nat.ne_of_gt zl) (zQP _ rfl));rw [sz] at Z8 N8;refine zQH ⟨_,rfl,?_⟩;rw [sz];refine zQH (q h8 ⟨Z8,up _ _ D.TIz (kp _ _ (by simp [D.TIz,D.TITO,D.TIi1,D.TIi2]) P0),⟨_,_,up _ _ D.TOz O5⟩,?_,?_⟩ N8 fun c o n e=>up c o (fun m=>n (by simp [m])) (kp c o n e))
 ·obtain ⟨o,e,r⟩:=A5; exact ⟨o,up _ _ D.i1z e,r⟩
 ·obtain ⟨o,e,r⟩:=B5; exact ⟨o,up _ _ D.i2z e,r⟩
theorem zKp {z TI TO i1 i2 t1 t2:Addr} {k:Nat} {xs ys:Array Value} {Q:Option Value -> Shared -> Prop} (hh:A.handled = none) (D:ZipApart z TI TO i1 i2 t1 t2) (Z:ZipT s.heap z TI TO i1 i2 t1 t2 .none k k)
  (T1:s.heap.IsTuple t1 xs) (T2:s.heap.IsTuple t2 ys) (he:xs[k]? = none \/ ys[k]? = none)
  (q:∀ h',(∀ c o,c ∉ [z,TO,i1,i2] -> s.heap.get? c = some o -> h'.get? c = some o) -> Q none { s with heap:=h' }):wpAny (model prog w) A (pyNext (.ref z)) Q E s:=by
 obtain ⟨Z0,P0,⟨a,b,O0⟩,I1,I2⟩:=Z;have ty:s.TypeIs (.ref z) "zip" := ⟨_,Z0,rfl⟩
 have stop:∀ (e:Addr) (h':Heap),(∀ c o,c ∉ [z,TO,i1,i2] -> s.heap.get? c = some o -> h'.get? c = some o) -> (∃ o,h'.get? e = some o /\ o.cls = .type "StopIteration") ->
   wpAny (model prog w) A (do if (<- isInstance (.ref e) (.type "StopIteration")) then pure none else throw (.ref e):Sem (Option Value)) Q E { s with heap:=h' }:=fun e h' k1 ⟨o,e1,e2⟩=>
  zQF (wpAny_isInstance ⟨o,e1,e2⟩ isSubtype_stop (zQH (q h' k1)))
 unfold pyNext;refine zQF (wpAny_attempt (zQr ty PySem.F.slot_zip_next (zQs PySem.F.slot_zip_next ty PySem.F.entry_zip_next ?_ (PySem.F.args_zip_next_1 _))));refine zQF (m:=field (.ref z) 2) (zQu Z0 rfl rfl ?_);refine zQF (zQu Z0 rfl rfl ?_);refine zQF (wpAny_seqItems P0 rfl ?_);refine zQF ?_;unfold Builtin.SmallTypes.ownedTupleIsFree;refine zQF (zQu Z0 rfl rfl (zQH ?_));simp only [if_true];refine zQF (wpAny_rule (zQF (zQu Z0 rfl rfl (zQF (wpAny_setField_rec Z0 (by simp) fun h1 Z1 e1=>?_)))));replace Z1:IsZip h1 z TI TO .ellipsis:=Z1;refine zQF ?_;simp only [List.forIn_cons,List.forIn_nil,List.zipIdx_cons,List.zipIdx_nil];cases hx:xs[k]? with
 | none=>
  refine zQF (zQF (wpAny_onRaise (zQF (zCR hh (TIt.but I1 e1.extBut D.i1z) (Tup.but T1 e1.extBut D.l1z) hx fun h2 e e2 he=>?_))));obtain ⟨oe,o1,o2⟩:=he;have Z2:IsZip h2 z TI TO .ellipsis:=e2 _ _ D.i1z.symm Z1;have ne:e ≠ z:=fun m=>by subst m; rw [Z2] at o1; cases o1; simp at o2
  refine wpAny_setField_rec Z2 (by simp) fun h3 _ e3=>stop e h3 (fun c o n x=>?_) ⟨oe,e3.extBut _ _ ne o1,o2⟩;simp only [zQR,zQk,or_false,not_or] at n;exact e3.extBut _ _ n.1 (e2 _ _ n.2.2.1 (e1.extBut _ _ n.1 x))
 | some x=>
  have hy:ys[k]? = none:=by
   rcases he with m | m
   ·rw [hx] at m; cases m
   ·exact m
  refine zQF (zQF (wpAny_onRaise (zQF (zBv (TIt.but I1 e1.extBut D.i1z) (Tup.but T1 e1.extBut D.l1z) hx fun h2 J1 e2=>zQH ?_))));have O2:IsPair h2 TO a b:=e2.extBut _ _ D.TOi1 (e1.extBut _ _ D.TOz O0);refine zQF (wpAny_seqItems O2 rfl (zQF (wpAny_updateSeq_pair O2 fun h3 O3 e3=>zQF (wpAny_letGo (zQH ?_)))))
  refine zQF (zQF (wpAny_onRaise (zQF (zCR hh (TIt.but (TIt.but (TIt.but I2 e1.extBut D.i2z) e2.extBut D.i12.symm) e3.extBut D.TOi2.symm)
   (Tup.but (Tup.but (Tup.but T2 e1.extBut D.l2z) e2.extBut D.l2i1) e3.extBut D.l2TO) hy fun h4 e e4 he=>?_))))
  obtain ⟨oe,o1,o2⟩:=he;have Z4:IsZip h4 z TI TO .ellipsis:=e4 _ _ D.i2z.symm (e3.extBut _ _ D.TOz.symm (e2.extBut _ _ D.i1z.symm Z1));have ne:e ≠ z:=fun m=>by subst m; rw [Z4] at o1; cases o1; simp at o2
  refine wpAny_setField_rec Z4 (by simp) fun h5 _ e5=>stop e h5 (fun c o n x=>?_) ⟨oe,e5.extBut _ _ ne o1,o2⟩;simp only [zQR,zQk,or_false,not_or] at n;exact e5.extBut _ _ n.1 (e4 _ _ n.2.2.2 (e3.extBut _ _ n.2.1 (e2.extBut _ _ n.2.2.1 (e1.extBut _ _ n.1 x))))
end
section
abbrev zT1 (h:Heap) (a:Addr):Heap:=h.push { cls:=.type "tuple_iterator", data:=.fields #[.ref a,.int 0 0] }
abbrev zT2 (h:Heap) (a b:Addr):Heap:=zT1 (zT1 h a) b
abbrev zT3 (h:Heap) (a b:Addr):Heap:=(zT2 h a b).push { cls:=.type "tuple", data:=.seq #[.ref h.objs.size,.ref (zT1 h a).objs.size] }
abbrev zT4 (h:Heap) (a b:Addr):Heap:=(zT3 h a b).push { cls:=.type "tuple", data:=.seq #[.none,.none] }
abbrev zT5 (h:Heap) (a b:Addr):Heap:=(zT4 h a b).push { cls:=.type "zip", data:=.fields #[.none,.bool false,.bool false,.ref (zT2 h a b).objs.size,.ref (zT3 h a b).objs.size] }
theorem zHR (a b:Addr) (xs ys:Array Value):Meets (Builtin.«zip.__new__» ⟨[.type "zip", .ref a,.ref b],[]⟩) (fun _ R s=>s.heap.IsTuple a xs /\ s.heap.IsTuple b ys /\ R (.ok (.ret (.ref (zT4 s.heap a b).objs.size))) { s with heap:=zT5 s.heap a b }) :=
 .of_wp fun prog w A R s h=>by
  obtain ⟨hp,g,d,tk,os⟩:=s;obtain ⟨Ta,Tb,h⟩:=h;have sz:=sub_zip;have U1:Heap.IsTuple (Shared.heap ⟨hp,g,d,tk,os⟩) a xs:=Ta;have U2:Heap.IsTuple (Shared.heap ⟨hp.push { cls:=.type "tuple_iterator", data:=.fields #[.ref a,.int 0 0] },g,d,tk,os⟩) b ys:=Heap.IsTuple.push Tb _;wp_walk using wpAny_pyIter_tuple U1,wpAny_pyIter_tuple U2;exact ⟨_,rfl,h⟩
theorem zJm (Ta:s.heap.IsTuple a xs) (Tb:s.heap.IsTuple b ys)
  (h:∀ h',ZipT h' (s.heap.objs.size + 4) (s.heap.objs.size + 2) (s.heap.objs.size + 3) s.heap.objs.size (s.heap.objs.size + 1) a b .none 0 0 -> (∀ c o,s.heap.get? c = some o -> h'.get? c = some o) -> Q (.ref (s.heap.objs.size + 4)) { s with heap:=h' }) :
  wpAny (model prog w) A (call (.type "zip") [.ref a,.ref b]) Q E s:=by
 refine callType_new PySem.F.called_zip (by decide) (PySem.F.typeCall_zip_2 _ _) (PySem.F.newCall_zip_2 _ _) (fun obj=>PySem.F.args_object_init_3 obj _ _) PySem.F.entry_zip_new (zHR a b xs ys) ⟨Ta,Tb,?_⟩;have q1:(zT1 s.heap a).objs.size = s.heap.objs.size + 1:=zQv ..;have q2:(zT2 s.heap a b).objs.size = s.heap.objs.size + 2:=by rw [zQv,q1]
 have q3:(zT3 s.heap a b).objs.size = s.heap.objs.size + 3:=by rw [zQv,q2]
 have q4:(zT4 s.heap a b).objs.size = s.heap.objs.size + 4:=by rw [zQv,q3]
 have u:∀ {h:Heap} {c:Addr} {o p:Obj},h.get? c = some o -> (h.push p).get? c = some o:=fun e=>zQG _ e;have p5:(zT5 s.heap a b).get? (zT4 s.heap a b).objs.size = some _:=zQP _ rfl;have p4:(zT5 s.heap a b).get? (zT3 s.heap a b).objs.size = some _:=u (zQP _ rfl);have p3:(zT5 s.heap a b).get? (zT2 s.heap a b).objs.size = some _:=u (u (zQP _ rfl));have p2:(zT5 s.heap a b).get? (zT1 s.heap a).objs.size = some _:=u (u (u (zQP _ rfl)));have p1:(zT5 s.heap a b).get? s.heap.objs.size = some _:=u (u (u (u (zQP _ rfl))));rw [q2,q3,q4] at p5;rw [q1,q2] at p3;rw [q3] at p4;rw [q1] at p2;rw [q4];exact ⟨⟨_,p5,rfl⟩,h _ ⟨p5,p3,⟨_,_,p4⟩,⟨_,p1,rfl,rfl⟩,⟨_,p2,rfl,rfl⟩⟩ fun c o x=>u (u (u (u (u x))))⟩
end
theorem zDo {X:Cx} {zB:List (Addr × Obj)} {σ:L2.St} {H:Hp} {s:Shared} {h':Heap} {t':Nat} {ch:List Addr} {T:Addr} {o:HO} (I:Inv X zB σ H s) (hf:∀ b ∈ ch,zCU X zB H b)
  (k:∀ b u,b ∉ ch -> s.heap.get? b = some u -> h'.get? b = some u) (hT:s.heap.objs.size <= T) (new:zr X.prog X.w (upd H T o) h' T o):Inv X zB σ (upd H T o) { s with heap:=h',toks:=t' }:=by
 have hn:H T = none:=I.hok.fresh hT;have nch:∀ b u,H b = some u -> b ∉ ch:=fun b u e z=>by rw [(hf b z).1] at e; cases e
 have un:∀ b u,H b = some u -> upd H T o b = some u:=fun b u e=>by rw [zR (zg e hn)]; exact e
 refine I.step (fun b hb=>⟨(hf b hb).2.2.2.1,(hf b hb).2.1,(hf b hb).2.2.2.2.1,(hf b hb).2.2.2.2.2⟩) (fun b u _ _ hc e _=>k b u hc e) (fun b u _ _ hc e _=>⟨u.slots,k b u hc e⟩)
  (fun b u _ e n=>by rw [zR (fun z=>by rw [z] at e; exact absurd (zQQ e) (Nat.not_lt.mpr hT))]; exact n) (fun b u hc e=>⟨u,k b u hc e⟩) (fun b xs e=>un b _ e) (fun b p u e=>un b _ e) (fun b ps e=>⟨#[],by rw [un b _ e]; simp⟩) (fun m hm=>?_) (fun b u e=>?_) I.bare
 ·obtain ⟨p,es,ep,ho,r⟩:=hm;exact ⟨p,es,ep,k _ p (fun z=>(hf _ z).2.1 rfl) ho,r⟩
 ·by_cases hb:b = T
  ·subst hb; rw [zAV] at e; cases e; exact new
  ·rw [zR hb] at e;refine (I.hok b u e).stay (fun c v hc q=>k c v ?_ q) (fun c q=>un c _ q) fun c xs q=>un c _ q;rcases hc with z | z
   ·rw [z]; exact nch b u e
   ·exact nch c _ z
theorem zFA {X:Cx} {zB:List (Addr × Obj)} {σ:L2.St} {H:Hp} {s:Shared} {h':Heap} {t':Nat} {ch:List Addr} (I:Inv X zB σ H s) (hf:∀ b ∈ ch,zCU X zB H b)
  (k:∀ b u,b ∉ ch -> s.heap.get? b = some u -> h'.get? b = some u):Inv X zB σ H { s with heap:=h',toks:=t' }:=by
 have nch:∀ b u,H b = some u -> b ∉ ch:=fun b u e z=>by rw [(hf b z).1] at e; cases e
 refine I.step (fun b hb=>⟨(hf b hb).2.2.2.1,(hf b hb).2.1,(hf b hb).2.2.2.2.1,(hf b hb).2.2.2.2.2⟩) (fun b u _ _ hc e _=>k b u hc e) (fun b u _ _ hc e _=>⟨u.slots,k b u hc e⟩)
  (fun b u _ e n=>n) (fun b u hc e=>⟨u,k b u hc e⟩) (fun b xs e=>e) (fun b p u e=>e) (fun b ps e=>⟨#[],by rw [e]; simp⟩) (fun m hm=>?_) (fun b u e=>?_) I.bare
 ·obtain ⟨p,es,ep,ho,r⟩:=hm;exact ⟨p,es,ep,k _ p (fun z=>(hf _ z).2.1 rfl) ho,r⟩
 ·refine (I.hok b u e).stay (fun c v hc q=>k c v ?_ q) (fun c q=>q) fun c xs q=>q;rcases hc with z | z
  ·rw [z]; exact nch b u e
  ·exact nch c _ z
def Itz (K:PySem.W.Frag) (a b:Addr):It :=
 ⟨fun i H=>∃ xs ys x y,SqT K H a xs /\ SqT K H b ys /\ xs[i]? = some x /\ ys[i]? = some y,
  fun i H v H'=>∃ T x y,v = .ref T /\ H T = none /\ H' = upd H T (.tup [x,y]) /\ (∀ xs,SqT K H a xs -> xs[i]? = some x) /\ ∀ ys,SqT K H b ys -> ys[i]? = some y,
  fun i H=>∃ xs ys,SqT K H a xs /\ SqT K H b ys /\ (xs.length <= i \/ ys.length <= i)⟩
theorem zJE {P:Program} {w:World} {K:PySem.W.Frag} {es:List Expr} {ek:Nat} {ep:Pos} {z TI TO i1 i2 a b:Addr} (D:ZipApart z TI TO i1 i2 a b) :
  Turn P w K (.Tuple es ek ep) (Itz K a b) [z,TI,TO,i1,i2] z (fun i h=>ZipT h z TI TO i1 i2 a b .none i i) where
 mem:=by simp
 obj:=fun i h Z c hc=>by
  obtain ⟨Z0,P0,⟨x,y,O0⟩,⟨o1,e1,_,d1⟩,⟨o2,e2,_,d2⟩⟩:=Z;simp only [zQR,zQk,or_false] at hc;rcases hc with rfl | rfl | rfl | rfl | rfl
  ·exact ⟨_,Z0,fun v m=>by cases m⟩
  ·exact ⟨_,P0,fun v m=>by cases m⟩
  ·exact ⟨_,O0,fun v m=>by cases m⟩
  ·exact ⟨_,e1,fun v m=>by rw [d1] at m; cases m⟩
  ·exact ⟨_,e2,fun v m=>by rw [d2] at m; cases m⟩
 keep:=fun i h h' Z k=>by
  obtain ⟨Z0,P0,⟨x,y,O0⟩,⟨o1,e1,r1⟩,⟨o2,e2,r2⟩⟩:=Z;exact ⟨k z (by simp) _ Z0,k TI (by simp) _ P0,⟨x,y,k TO (by simp) _ O0⟩,⟨o1,k i1 (by simp) _ e1,r1⟩,⟨o2,k i2 (by simp) _ e2,r2⟩⟩
 item:=by
  intro X hP hw hK hc i zB s σ H E I hf Z hg;subst hP hw hK;obtain ⟨xs,ys,x,y,sa,sb,hx,hy⟩:=hg;obtain ⟨its,rv,p1,z1⟩:=I.tuple sa;obtain ⟨its2,rv2,p2,z2⟩:=I.tuple sb;obtain ⟨u,hu,ru⟩:=rv.get hx;obtain ⟨u2,hu2,ru2⟩:=rv2.get hy;refine zJH D Z (show s.heap.IsTuple a its.toArray from p1) (show s.heap.IsTuple b its2.toArray from p2) (by simpa using hu) (by simpa using hu2) fun h' Z' N' kp=>⟨_,rfl,?_⟩;refine wpAny_letOwnedTupleGo_zip Z'.z fun h2 Z2 e2=>?_;have hch:∀ c ∈ [z,TO,i1,i2],zCU X zB H c:=fun c hm=>hf c (by
   simp only [zQR,zQk,or_false] at hm ⊢;rcases hm with q | q | q | q <;> simp [q])
  have kk:∀ c o,c ∉ [z,TO,i1,i2] -> s.heap.get? c = some o -> h2.get? c = some o:=fun c o n e=>e2.extBut _ _ (fun m=>n (by simp [m])) (kp c o n e);have zlt:z < s.heap.objs.size:=zQQ Z.z;have NT:IsPair h2 s.heap.objs.size u u2:=e2.extBut _ _ (Nat.ne_of_gt zlt) N';have hfr:H s.heap.objs.size = none:=I.hok.fresh (zQL _);refine ⟨.ref s.heap.objs.size,upd H s.heap.objs.size (.tup [x,y]),zDo (s:=s) I hch kk (zQL _) ?_,rfl,⟨_,x,y,rfl,hfr,rfl,fun ws hw=>?_,fun ws hw=>?_⟩,?_,fun c hm=>?_⟩
  ·exact ⟨by show 2 <= sizeLine; decide,[u,u2],.cons ru (.cons ru2 .nil),⟨_,NT,rfl,⟨_,rfl⟩,rfl⟩⟩
  ·rw [I.tuple_inj hw sa]; exact hx
  ·rw [I.tuple_inj hw sb]; exact hy
  ·obtain ⟨_,P1,⟨q1,q2,O1⟩,⟨o1,f1,r1⟩,⟨o2,f2,r2⟩⟩:=Z';exact ⟨Z2,e2.extBut _ _ D.TIz P1,⟨q1,q2,e2.extBut _ _ D.TOz O1⟩,⟨o1,e2.extBut _ _ D.i1z f1,r1⟩,⟨o2,e2.extBut _ _ D.i2z f2,r2⟩⟩
  ·have lt:c < s.heap.objs.size:=by
    obtain ⟨Z0,P0,⟨q1,q2,O0⟩,⟨o1,f1,_⟩,⟨o2,f2,_⟩⟩:=Z;simp only [zQR,zQk,or_false] at hm;rcases hm with rfl | rfl | rfl | rfl | rfl
    ·exact zQQ Z0
    ·exact zQQ P0
    ·exact zQQ O0
    ·exact zQQ f1
    ·exact zQQ f2
   rw [zR (zQa lt)];exact (hf c hm).1
 done:=by
  intro X hP hw hK hc i zB s σ H E I hf Z hg;subst hP hw hK;obtain ⟨xs,ys,sa,sb,hz⟩:=hg;obtain ⟨its,rv,p1,z1⟩:=I.tuple sa;obtain ⟨its2,rv2,p2,z2⟩:=I.tuple sb;have l1:=rv.length;have l2:=rv2.length;refine zKp (I.ok.hd hc) D Z (show s.heap.IsTuple a its.toArray from p1) (show s.heap.IsTuple b its2.toArray from p2) ?_ fun h' kp=>⟨rfl,zFA I (fun c hm=>hf c (by
   simp only [zQR,zQk,or_false] at hm ⊢;rcases hm with q | q | q | q <;> simp [q])) kp⟩
  rcases hz with q | q
  ·exact .inl (by simp; omega)
  ·exact .inr (by simp; omega)
 self:=fun _ _ _ _ _ Z h=>wpAny_pyIter_zip Z.z h
section
theorem zNa {ta:TA} (hg:Gl X "zip") (hm:X.mg "zip" = none) (ha:PA X [a,b] ta) (hs:starEach [a,b] X.env = [(false,eval a X.env),(false,eval b X.env)]:=by rfl) (hs2:starEach [b] X.env = [(false,eval b X.env)]:=by rfl) :
  PI X (.Tuple es ek ep) (.Call (.Name "zip" p) [a,b] [] pos) (fun σ H R=>ta σ H fun vs H1=>∃ l1 l2 xs ys,vs = [.ref l1,.ref l2] /\ SqT X.K H1 l1 xs /\ SqT X.K H1 l2 ys /\ R (Itz X.K l1 l2) H1):=by
 intro zB s σ H R I h;refine Call_ (zDS I hg hm (by rfl) (PyProof.Rows.callWith_type1 (thn (ha pos zB s σ H _ I h) fun us s1 ⟨vs,H1,I1,r1,q1⟩=>?_) (by rw [hs,hs2]) (by rw [hs2]; rfl)));obtain ⟨l1,l2,xs,ys,rfl,s1',s2',q⟩:=q1;cases r1 with
 | cons r rr=>
  cases rr with
  | cons r' rr=>
   cases rr;cases r;cases r';obtain ⟨its,rv,p1,_⟩:=I1.tuple s1';obtain ⟨its2,rv2,p2,_⟩:=I1.tuple s2';have d1:l1 < s1.heap.objs.size:=by obtain ⟨_,e,_⟩:=p1; exact zQQ e
   have d2:l2 < s1.heap.objs.size:=by obtain ⟨_,e,_⟩:=p2; exact zQQ e
   refine zJm (show s1.heap.IsTuple l1 its.toArray from p1) (show s1.heap.IsTuple l2 its2.toArray from p2) fun h' Z kp=>wpAny_pyIter_zip Z.z ?_;refine ⟨s1.heap.objs.size + 4,[s1.heap.objs.size + 4,s1.heap.objs.size + 2,s1.heap.objs.size + 3,s1.heap.objs.size,s1.heap.objs.size + 1],_,_,H1,rfl,I1.kept kp,zJE (zipApart_new d1 d2),Z,fun c hc=>?_,q⟩;have ge:s1.heap.objs.size <= c:=by
    simp only [zQR,zQk,or_false] at hc;rcases hc with rfl | rfl | rfl | rfl | rfl
    ·exact Nat.le_add_right _ 4
    ·exact Nat.le_add_right _ 2
    ·exact Nat.le_add_right _ 3
    ·exact zQL _
    ·exact Nat.le_add_right _ 1
   exact I1.fpOk ge (I1.hok.fresh ge)
def zI8 (g:FA):FI:=fun σ M=>match g σ M with
 | some ([.tup xs,.tup ys],M1)=>some ((xs.zip ys).map fun q=>D.tup [q.1,q.2],none,M1)
 | _=>none
theorem zLK (hg:Gl X "zip") (hm:X.mg "zip" = none) (ha:QA X [a,b] g) (hs:starEach [a,b] X.env = [(false,eval a X.env),(false,eval b X.env)]:=by rfl) (hs2:starEach [b] X.env = [(false,eval b X.env)]:=by rfl) :
  QI X (.Tuple es ek ep) (.Call (.Name "zip" p) [a,b] [] pos) (zI8 g):=.mk <| PI.imp (zNa hg hm ha.un hs hs2) fun τ H R zz=>by
 obtain ⟨L,σ,M,xs,gd,M',c,rs,hf,q⟩:=zz;unfold zI8 at hf;split at hf
 ·rename_i ds es' M1 e1;cases hf;refine ⟨L,σ,M,_,_,c,rs,e1,fun L1 H1 vs s1 c1 r1=>?_⟩;obtain ⟨v,v',rfl,r2,r3⟩:=r1.two;unfold Rep at r2 r3;obtain ⟨l1,ws1,rfl,h1,q1⟩:=r2;obtain ⟨l2,ws2,rfl,h2,q2⟩:=r3;refine ⟨l1,l2,ws1,ws2,rfl,.of h1,.of h2,q L1 H1 _ s1 c1 fun L2 H2 M2 s2 c2 _=>?_⟩;have k1:=s2.tup l1 ws1 h1;have k2:=s2.tup l2 ws2 h2;have p1:=q1.stp s2;have p2:=q2.stp s2;refine ⟨fun i d hd=>?_,⟨ws1,ws2,.of k1,.of k2,?_⟩⟩
  ·rw [zQc] at hd;cases e2:(ds.zip es')[i]? with
   | none=>rw [e2] at hd; cases hd
   | some pr=>
    rw [e2] at hd;cases hd;obtain ⟨f1,f2⟩:=List.getElem?_zip_eq_some.mp e2;obtain ⟨u,hu,ru⟩:=p1.get f1;obtain ⟨u2,hu2,ru2⟩:=p2.get f2;refine ⟨⟨ws1,ws2,u,u2,.of k1,.of k2,hu,hu2⟩,fun v H3 hy=>?_⟩;obtain ⟨T,x,y,rfl,hT,rfl,hxx,hyy⟩:=hy;have ex:=hxx ws1 (.of k1);have ey:=hyy ws2 (.of k2);rw [hu] at ex; cases ex;rw [hu2] at ey; cases ey;exact ⟨fun a o e=>by rw [zR (zg e hT)]; exact e,Rep.newTup hT (.cons ru (.cons ru2 .nil))⟩
  ·rw [zQO,List.length_zip,p1.length,p2.length];omega
 ·cases hf
def zBl (i j:Nat):FG:=fun d σ=>match d with
 | .tup [x,y]=>some ((σ.set i (some x)).set j (some y))
 | _=>none
abbrev gP2 (K:PySem.W.Frag) (i j:Nat):TG:=zPj K 2 (zLF (zC7 i) (zLF (zC7 j) zPG))
theorem zK3 {K:PySem.W.Frag} {i j:Nat}:GOk (gP2 K i j) (zBl i j):=by
 intro L H σ σ' τ d v Q rs r hf q;unfold zBl at hf;split at hf
 ·rename_i x y;cases hf;unfold Rep at r;obtain ⟨a,vs,rfl,e,r⟩:=r;obtain ⟨v1,v2,rfl,r1,r2⟩:=r.two;exact ⟨a,_,rfl,.of e,rfl,v1,[v2],rfl,v2,[],rfl,rfl,q _ ((rs.set r1).set r2)⟩
 ·cases hf
theorem zDQ {K:PySem.W.Frag} {own:List Nat} {i j:Nat} (hi:i ∈ own) (hj:j ∈ own):zK5 own (gP2 K i j) (zBl i j):=by
 intro L H σ σ' τ τ0 d v Q rs ex r hf q;unfold zBl at hf;split at hf
 ·rename_i x y;cases hf;unfold Rep at r;obtain ⟨a,vs,rfl,e,r⟩:=r;obtain ⟨v1,v2,rfl,r1,r2⟩:=r.two;exact ⟨a,_,rfl,.of e,rfl,v1,[v2],rfl,v2,[],rfl,rfl,q _ ((rs.set r1).set r2) ((ex.set hi).set hj)⟩
 ·cases hf
end
section
variable {X:Cx} {a b c e:Expr} {es:List Expr} {pos p p2 pos2:Pos} {f g h:FE}
theorem zIc:∀ {bs:List Bool} {its:List Value},zW (bs.map V.bl) its -> ∀ (i:Nat) v,its[i]? = some v -> ∃ k,bs[i]? = some k /\ v = .bool k
 | [],_,.nil,_,_,h=>by simp at h
 | k :: bs,_,.cons r t,0,v,h=>by
  simp at h; subst h;exact ⟨k,rfl,r⟩
 | k :: bs,_,.cons r t,i + 1,v,h=>by
  obtain ⟨k',e1,e2⟩:=zIc t i v (by simpa using h);exact ⟨k',by simpa using e1,e2⟩
theorem zHz (bs:List Bool):((List.range bs.length).all fun i=>(bs[i]?).getD true) = bs.all id:=by
 rw [Bool.eq_iff_iff,zQq,zQq];constructor
 ·intro q k hk;obtain ⟨i,hi,rfl⟩:=List.getElem_of_mem hk;have:=q i (zQt.mpr hi);rw [zQJ hi] at this;exact this
 ·intro q i hi;rw [zQJ (zQt.mp hi)];exact q _ (List.getElem_mem _)
def zPe (K:PySem.W.Frag) (F:List Bool -> Bool):List V -> Hp -> VK -> Prop:=fun xs H Q=>∃ q bs,xs = [.ref q] /\ SqL K H q (bs.map V.bl) /\ Q (.bl (F bs)) H
theorem zI0 (hc:X.calm = true):zBj X (.builtin "all") (zPe X.K fun bs=>bs.all id):=by
 intro zB s σ H xs us Q I r h;obtain ⟨l,bs,rfl,hq,q⟩:=h;obtain ⟨u,rfl,rx⟩:=zCy r;cases rx;obtain ⟨its,rv,pl,_⟩:=I.list hq;have hlt:l < s.heap.objs.size:=by obtain ⟨_,z,_⟩:=pl.isList; exact zQQ z
 refine call_all_walk (wpAny_pyIter_list pl.isList ⟨s.heap.objs.size,[s.heap.objs.size,l],[s.heap.objs.size],its.toArray.size,_,_,fun i=>(bs[i]?).getD true,rfl,Walks.list (A:=X.A.in1) (I.ok.hd hc) _ l (zQa hlt) its.toArray,
  ⟨⟨_,zQP _ rfl,rfl,rfl⟩,pl.isList.push _⟩,fun i v s' Q' E' hP hQ=>?_,fun h' tk hk=>?_⟩)
 ·obtain ⟨k,z,rfl⟩:=zIc rv i v (by simpa using hP);dsimp only at hQ; rw [z] at hQ;exact zRR hQ
 ·have hl:=rv.length;rw [zQO] at hl;rw [zQN,<- hl,zHz];exact ⟨.bl _,H,I.kept (t':=tk) fun b o z=>hk b o (fun m=>by rw [List.mem_singleton.mp m] at z; exact Nat.lt_irrefl _ (zQQ z)) (zQG _ z),rfl,q⟩
def zDp:List D -> Option (List Bool)
 | []=>some []
 | .bl k :: r=>match zDp r with
  | some bs=>some (k :: bs)
  | none=>none
 | _=>none
theorem zIO:∀ {ds:List D} {bs:List Bool} {vs:List V},zDp ds = some bs -> zG L H ds vs -> vs = bs.map V.bl
 | [],bs,vs,e,r=>by cases e; unfold zG at r; exact r
 | d :: ds,bs,vs,e,r=>by
  unfold zG at r;obtain ⟨v,r',rfl,r1,r2⟩:=r;cases d with
  | bl k=>
   unfold zDp at e;cases q:zDp ds with
   | none=>rw [q] at e; cases e
   | some bs'=>
    rw [q] at e; cases e;unfold Rep at r1;rw [r1,zIO q r2]; rfl
  | _=>cases e
def zIw (F:List Bool -> Bool):KB:=fun xs M=>match xs with
 | [x]=>match zAZ M x with
  | some ds=>match zDp ds with
   | some bs=>some (.dat (.bl (F bs)),M)
   | none=>none
  | none=>none
 | _=>none
theorem zLn {K:PySem.W.Frag} {F:List Bool -> Bool}:zEH K (zPe K F) (zIw F):=by
 intro L M M' H H0 xs d vs Q c r hk q;unfold zIw at hk;split at hk
 ·rename_i x;split at hk
  ·rename_i ds e1;split at hk
   ·rename_i bs e2;cases hk;obtain ⟨v,rfl,r1⟩:=r.one;obtain ⟨l,ws,rfl,h1,r2⟩:=zAg c r1 e1;have:=zIO e2 r2;subst this;exact ⟨l,bs,rfl,.inl h1,q L H _ (.refl L H) c (zAe (L:=L) (H:=H))⟩
   ·cases hk
  ·cases hk
 ·cases hk
abbrev zHf:KB:=zIw fun bs=>bs.all id
section
variable {fa:FAE}
theorem zMp (hc:X.calm = true) (hg:Gl X "all") (hm:X.mg "all" = none) (ha:QAE X [e] fa) (he:starEach [e] X.env = (false,eval e X.env) :: starEach [] X.env:=by rfl) (hpl:(backTo pos (starEach [] X.env)).any (·.1) = false:=by rfl):QE X (.Call (.Name "all" p) [e] [] pos) (fB zHf fa) :=
 zDI zLn (zI0 hc) (by rfl) hg hm ha (by decide) (by decide) he hpl
end
theorem zMx (h:zAZ M x = some ds) (hb:zDp ds = some bs):Ok (zIw F [x] M) P ↔ P (.dat (.bl (F bs))) M:=by
 have:zIw F [x] M = some (.dat (.bl (F bs)),M):=by unfold zIw; dsimp only; rw [h]; dsimp only; rw [hb]
 rw [this,zV]
theorem zDR:∀ bs:List Bool,zDp (bs.map D.bl) = some bs
 | []=>rfl
 | k :: bs=>by rw [zQY]; unfold zDp; rw [zDR bs]
def zEZ:V -> Bool
 | .non=>true
 | .bl _=>true
 | _=>false
theorem zJu:OpR X (compareOp .Is) (fun x y H Q=>zEZ y = true /\ Q (.bl (decide (x = y))) H):=by
 intro zB s σ H x y v u Q I rx ry h;obtain ⟨hp,q⟩:=h;cases y with
 | non=>
  cases ry;refine wpAny_is_plain (by cases x <;> first | (cases rx; rfl) | (obtain ⟨t,rfl⟩:=rx; rfl)) (zY I q ?_);cases x <;> first | (cases rx; rfl) | (obtain ⟨t,rfl⟩:=rx; rfl)
 | bl k=>
  cases ry;refine wpAny_is_plain (by cases x <;> first | (cases rx; rfl) | (obtain ⟨t,rfl⟩:=rx; rfl)) (zY I q ?_);cases x with
  | bl k'=>cases rx; cases k <;> cases k' <;> rfl
  | _=>first | (cases rx; rfl) | (obtain ⟨t,rfl⟩:=rx; rfl)
 | _=>cases hp
theorem zJZ:OpR X (compareOp .IsNot) (fun x y H Q=>zEZ y = true /\ Q (.bl (!decide (x = y))) H):=by
 intro zB s σ H x y v u Q I rx ry h;obtain ⟨hp,q⟩:=h;cases y with
 | non=>
  cases ry;refine wpAny_isNot_plain (by cases x <;> first | (cases rx; rfl) | (obtain ⟨t,rfl⟩:=rx; rfl)) (zY I q ?_);cases x <;> first | (cases rx; rfl) | (obtain ⟨t,rfl⟩:=rx; rfl)
 | bl k=>
  cases ry;refine wpAny_isNot_plain (by cases x <;> first | (cases rx; rfl) | (obtain ⟨t,rfl⟩:=rx; rfl)) (zY I q ?_);cases x with
  | bl k'=>cases rx; cases k <;> cases k' <;> rfl
  | _=>first | (cases rx; rfl) | (obtain ⟨t,rfl⟩:=rx; rfl)
 | _=>cases hp
def isD:EV -> D -> Option Bool
 | x,.non=>match x with
  | .dat .non=>some true
  | _=>some false
 | x,.bl k=>match x with
  | .dat (.bl k')=>some (decide (k' = k))
  | _=>some false
 | _,_=>none
def kIs (neg:Bool):K2:=fun x y M=>match y with
 | .dat d=>match isD x d with
  | some k=>some (.dat (.bl (if neg then !k else k)),M)
  | none=>none
 | _=>none
theorem zIS (rx:zT H0 L H x v) (ry:Rep L H d w) (e:isD x d = some k):zEZ w = true /\ decide (v = w) = k:=by
 cases d with
 | non=>
  unfold Rep at ry; subst ry;refine ⟨rfl,?_⟩;cases x with
  | fl xs=>obtain ⟨q,vs,rfl,_⟩:=rx; cases e; rfl
  | dat d'=>
   cases d' with
   | non=>unfold zT Rep at rx; subst rx; cases e; rfl
   | bl _=>unfold zT Rep at rx; subst rx; cases e; rfl
   | int _=>unfold zT Rep at rx; subst rx; cases e; rfl
   | str _=>unfold zT Rep at rx; subst rx; cases e; rfl
   | tup _=>unfold zT Rep at rx; obtain ⟨q,vs,rfl,_⟩:=rx; cases e; rfl
   | ref _=>unfold zT Rep at rx; obtain ⟨q,rfl,_⟩:=rx; cases e; rfl
   | fn _ _=>unfold zT Rep at rx; obtain ⟨rfl,_⟩:=rx; cases e; rfl
 | bl k'=>
  unfold Rep at ry; subst ry;refine ⟨rfl,?_⟩;cases x with
  | fl xs=>obtain ⟨q,vs,rfl,_⟩:=rx; cases e; rfl
  | dat d'=>
   cases d' with
   | non=>unfold zT Rep at rx; subst rx; cases e; rfl
   | bl j=>unfold zT Rep at rx; subst rx; cases e; cases j <;> cases k' <;> rfl
   | int _=>unfold zT Rep at rx; subst rx; cases e; rfl
   | str _=>unfold zT Rep at rx; subst rx; cases e; rfl
   | tup _=>unfold zT Rep at rx; obtain ⟨q,vs,rfl,_⟩:=rx; cases e; rfl
   | ref _=>unfold zT Rep at rx; obtain ⟨q,rfl,_⟩:=rx; cases e; rfl
   | fn _ _=>unfold zT Rep at rx; obtain ⟨rfl,_⟩:=rx; cases e; rfl
 | _=>cases e
theorem zGc (h:kIs neg x y M = some (r,M')):∃ d k,y = .dat d /\ isD x d = some k /\ r = .dat (.bl (if neg then !k else k)) /\ M' = M:=by
 unfold kIs at h;split at h
 ·rename_i d;split at h
  ·rename_i k e1; cases h; exact ⟨d,k,rfl,e1,rfl,rfl⟩
  ·cases h
 ·cases h
theorem zJ9 {K:PySem.W.Frag}:zAh K (fun x y H Q=>zEZ y = true /\ Q (.bl (decide (x = y))) H) (kIs false):=by
 intro L M M' H H0 x y d v w Q cc rx ry hk q;obtain ⟨d',k,rfl,e,rfl,rfl⟩:=zGc hk;obtain ⟨h1,h2⟩:=zIS rx ry e;refine ⟨h1,?_⟩;rw [h2];exact q L H _ (.refl L H) cc (zAe (L:=L) (H:=H))
theorem zJd {K:PySem.W.Frag}:zAh K (fun x y H Q=>zEZ y = true /\ Q (.bl (!decide (x = y))) H) (kIs true):=by
 intro L M M' H H0 x y d v w Q cc rx ry hk q;obtain ⟨d',k,rfl,e,rfl,rfl⟩:=zGc hk;obtain ⟨h1,h2⟩:=zIS rx ry e;refine ⟨h1,?_⟩;rw [h2];exact q L H _ (.refl L H) cc (zAe (L:=L) (H:=H))
theorem zP8 (h1:QE X a f) (h2:QE X b g):QE X (.Compare a [.Is] [b] pos) (fOp (kIs false) f g):=zMu zJ9 zJu h1 h2 (zBs _)
theorem zPV (h1:QE X a f) (h2:QE X b g):QT X (.Compare a [.Is] [b] pos) (tst (fOp (kIs false) f g)):=zCo zJ9 zJu h1 h2 (zBs _)
theorem zMQ (h1:QE X a f) (h2:QE X b g):QT X (.Compare a [.IsNot] [b] pos) (tst (fOp (kIs true) f g)):=zCo zJd zJZ h1 h2 (zBs _)
def zA1 (k k':K2) (f g h:FE):FE:=fun σ M=>match f σ M with
 | some (x,M1)=>match g σ M1 with
  | some (y,M2)=>match k x y M2 with
   | some (.dat (.bl true),M3)=>match h σ M3 with
    | some (w,M4)=>k' y w M4
    | none=>none
   | some (.dat (.bl false),M3)=>some (.dat (.bl false),M3)
   | _=>none
  | none=>none
 | none=>none
theorem zEF {K:PySem.W.Frag} {r r':R2} {k k':K2} (hk:zAh K r k) (hk':zAh K r' k') {τ:Sv} {H:Hp} {Q:VK} (z:trE K (zA1 k k' f g h) τ H Q):zHh r r' (trE K f) (trE K g) (trE K h) τ H Q:=by
 obtain ⟨L,σ,M,d,M',cc,rs,hf,q⟩:=z;unfold zA1 at hf;split at hf
 ·rename_i x M1 e1;split at hf
  ·rename_i y M2 e2;refine (mkE cc rs e1 (fun L1 H1 v s1 c1 r1=>(mkE c1 (rs.stp s1) e2 (fun L2 H2 w s2 c2 r2=>?_))));split at hf
   ·rename_i M3 e3;split at hf
    ·rename_i u M4 e4;refine hk (H0:=H) c2 (r1.stp s2) (r2.back s1 cc s2.sub) e3 fun L3 H3 t s3 c3 r3=>⟨true,zAa r3,zHj ?_⟩;refine (mkE c3 (rs.stp ((s1.trans s2).trans s3)) e4 (fun L4 H4 w4 s4 c4 r4=>?_));have s13:=(s1.trans s2).trans s3;refine hk' (H0:=H) c4 (((r2.back s1 cc s2.sub).stp s3).stp s4) (r4.back s13 cc s4.sub) hf fun L5 H5 u5 s5 c5 r5=>?_;exact q L5 H5 u5 ((s13.trans s4).trans s5) c5 (r5.back (s13.trans s4) cc s5.sub)
    ·cases hf
   ·rename_i M3 e3;cases hf;refine hk (H0:=H) c2 (r1.stp s2) (r2.back s1 cc s2.sub) e3 fun L3 H3 t s3 c3 r3=>⟨false,zAa r3,zHk ?_⟩;exact q L3 H3 _ ((s1.trans s2).trans s3) c3 (by have:=zAa r3; subst this; exact r3)
   ·cases hf
  ·cases hf
 ·cases hf
theorem zLf (hk:zAh X.K r k) (hk':zAh X.K r' k') (ho:OpR X (compareOp op) r) (ho':OpR X (compareOp op') r') (h1:QE X a f) (h2:QE X b g) (h3:QE X c h)
  (hm:lastMarks [op,op'] [b,c] = false:=by with_unfolding_all rfl):QE X (.Compare a [op,op'] [b,c] pos) (zA1 k k' f g h):=.mk <| PE.imp (zK2 ho ho' h1.un h2.un h3.un hm) fun _ _ _ z=>zEF hk hk' z
theorem zKc (hk:zAh X.K r k) (hk':zAh X.K r' k') (ho:OpR X (compareOp op) r) (ho':OpR X (compareOp op') r') (h1:QE X a f) (h2:QE X b g) (h3:QE X c h)
  (hm:lastMarks [op,op'] [b,c] = false:=by with_unfolding_all rfl):QT X (.Compare a [op,op'] [b,c] pos) (tst (zA1 k k' f g h)) :=
 .mk <| PT.imp (zKz ho ho' h1.un h2.un h3.un hm) fun _ _ _ z=>zCe (fun _ _ _ y=>zEF hk hk' y) (zCT z)
section
variable {M:Mem} {σ:Sd} {P:EV -> Mem -> Prop}
theorem zGN:Ok (zA1 k k' f g h σ M) P ↔ Ok (f σ M) fun x M1=>Ok (g σ M1) fun y M2=>Ok (k x y M2) (blP fun t M3=>if t then Ok (h σ M3) fun w M4=>Ok (k' y w M4) P else P (.dat (.bl false)) M3):=by
 unfold zA1;constructor
 ·rintro ⟨x,M1,z,q⟩;split at z
  ·rename_i y M2 e1;split at z
   ·rename_i y' M3 e2;split at z
    ·rename_i M4 e3;split at z
     ·rename_i w M5 e4;exact ⟨_,_,e1,_,_,e2,_,_,e3,by rw [zAP,zQU rfl]; exact ⟨_,_,e4,_,_,z,q⟩⟩
     ·cases z
    ·rename_i M4 e3;cases z;exact ⟨_,_,e1,_,_,e2,_,_,e3,by rw [zAP]; simpa using q⟩
    ·cases z
   ·cases z
  ·cases z
 ·rintro ⟨x,M1,e1,y,M2,e2,t,M3,e3,q⟩;rw [e1]; dsimp only; rw [e2]; dsimp only; rw [e3];cases t with
  | fl _=>exact q.elim
  | dat d=>
   cases d with
   | bl t=>
    rw [zAP] at q;cases t with
    | true=>
     rw [zQU rfl] at q;obtain ⟨w,M4,e4,q⟩:=q;dsimp only; rw [e4]; exact q
    | false=>exact ⟨_,_,rfl,by simpa using q⟩
   | _=>exact q.elim
end
end
open AutoSeq1 (wpAny_loadPart')
theorem zLS {P:Program} {w:World} {K:PySem.W.Frag} {mg:Str -> Option Value} {base:Heap} {k:Nat} {f:Addr} {fd:FuncData} {ps:List Str} {n:Nat}:FnOk P w K mg base CX0 k f fd ps (spF K n fun _ _=>none):=by
 have no:∀ vs H Q E,¬ spF K n (fun _ _=>none) vs H Q E:=fun vs H Q E ⟨_,_,_,_,_,_,_,_,h,_⟩=>by cases h
 exact ⟨fun vs H Q E h=>absurd h (no vs H Q E),fun A outer s H args us vs Q E _ _ _ _ h=>absurd h (no vs H Q E)⟩
def zDB:Expr -> Bool
 | .Starred .. =>false
 | _=>true
theorem zE (h:zDB e = true):starEach (e :: es) env = (false,eval e env) :: starEach es env:=by
 cases e <;> first | rfl | cases h
theorem zC5 (h:zDB e = true):starEach [e] env = [(false,eval e env)]:=zE h
theorem zGF (h:zDB e = true) (h':zDB e' = true):starEach [e,e'] env = [(false,eval e env),(false,eval e' env)]:=by rw [zE h,zC5 h']
theorem zAD:∀ {es:List Expr},es.all zDB = true -> (backTo pos (starEach es env)).any (·.1) = false
 | [],_=>rfl
 | e :: es,h=>by
  rw [List.all_cons,zQp] at h;rw [zE h.1];have:=zAD (pos:=pos) (env:=env) h.2;simpa [backTo] using this
theorem Cor.pushO {K:PySem.W.Frag} {L:List Addr} {M:List MO} {H:Hp} {p:Addr} {o:HO} {m:MO} (c:Cor K L M H) (h:H p = none) (new:zDe K (L ++ [p]) (L2.upd H p o) p m) :
  Cor K (L ++ [p]) (M ++ [m]) (L2.upd H p o) /\ Stp L H (L ++ [p]) (L2.upd H p o):=by
 have hp:p ∉ L:=fun z=>by obtain ⟨o,e⟩:=c.tracked z; rw [h] at e; cases e
 have st:Stp L H (L ++ [p]) (L2.upd H p o):=by
  refine ⟨⟨[p],rfl⟩,fun a ha=>?_,fun a o e _ _=>?_,fun a o e=>?_,fun a o u e=>?_,zDD (fun a o u e=>?_) fun a ps e=>?_⟩
  ·rcases zQf.mp ha with z | z
   ·exact .inl z
   ·have:a = p:=by simpa using z
    subst this; exact .inr h
  all_goals (rw [zR (zg e h)]; exact e)
 refine ⟨⟨by simp [c.len],?_,fun n a m e1 e2=>?_,c.tab.stp st⟩,st⟩
 ·rw [List.nodup_append];exact ⟨c.nd,by simp,fun a ha b hb z=>by
   have:b = p:=by simpa using hb
   subst this; subst z; exact hp ha⟩
 ·by_cases hn:n < L.length
  ·rw [zQM hn] at e1;rw [zQM (by rw [<- c.len]; exact hn)] at e2;exact (c.obj n a m e1 e2).stp st fun o _ e=>by rw [zR (zg e h)]; exact e
  ·have hn':n = L.length:=by
    have:=(zQI.mp e1).1;rw [zQV] at this;simp at this; omega
   subst hn';simp at e1;rw [c.len] at e2;simp at e2;subst e1; subst e2;exact new
theorem zDe.nt {K:PySem.W.Frag} {L:List Addr} {H:Hp} {a:Addr} {m:MO} (h:zDe K L H a m) {o:HO} (e:H a = some o):NT o:=fun ps z=>by
 subst z;cases m with
 | lst xs=>obtain ⟨vs,e',_⟩:=h; rw [e] at e'; cases e'
 | fro xs=>obtain ⟨o,vs,e',_⟩:=h; rw [e] at e'; cases e'
 | dict ps=>obtain ⟨vs,e',_⟩:=h; rw [e] at e'; cases e'
 | dicT ps=>obtain ⟨vs,e',_⟩:=h; rw [e] at e'; cases e'
 | set _=>obtain ⟨o,u,e'⟩:=h; rw [e] at e'; cases e'
 | froT ps=>obtain ⟨o,vs,e',_⟩:=h; rw [e] at e'; cases e'
 | froK ps=>obtain ⟨o,vs,e',_⟩:=h; rw [e] at e'; cases e'
theorem Cor.nt {K:PySem.W.Frag} {L:List Addr} {M:List MO} {H:Hp} {n:Nat} {p:Addr} {o:HO} (c:Cor K L M H) (h1:L[n]? = some p) (ho:H p = some o):NT o :=
 (c.obj n p _ h1 (zQJ (by rw [<- c.len]; exact (zQI.mp h1).1))).nt ho
theorem Cor.put {K:PySem.W.Frag} {L:List Addr} {M:List MO} {H:Hp} {n:Nat} {p:Addr} {o o':HO} {m:MO} (c:Cor K L M H) (h1:L[n]? = some p) (ho:H p = some o) (ht:∀ xs,o ≠ .tup xs) (hf:∀ a u,o ≠ .frz a u)
  (new:Stp L H L (L2.upd H p o') -> zDe K L (L2.upd H p o') p m):Cor K L (M.set n m) (L2.upd H p o') /\ Stp L H L (L2.upd H p o'):=by
 have st:Stp L H L (L2.upd H p o'):=by
  have nt:=c.nt h1 ho;refine ⟨⟨[],by simp⟩,fun a ha=> .inl ha,fun a o e ha _=>?_,fun a xs e=>?_,fun a b u e=>?_,zDD (fun a b u e=>?_) fun a ps e=>?_⟩
  ·rw [zR (show a ≠ p from fun z=>ha (by rw [z]; exact zQ6 h1))]; exact e
  ·rw [zR (zFP e ho (fun z=>ht xs z.symm))]; exact e
  ·rw [zR (zFP e ho (fun z=>hf b u z.symm))]; exact e
  ·rw [zR (zFP e ho (fun z=>hf b u z.symm))]; exact e
  ·rw [zR (zFP e ho (fun z=>nt ps z.symm))]; exact e
 refine ⟨⟨by simp [c.len],c.nd,fun k a m' e1 e2=>?_,c.tab.stp st⟩,st⟩;rw [zRo] at e2;split at e2
 ·rename_i hk;subst hk;rw [h1] at e1; cases e1;split at e2
  ·cases e2; exact new st
  ·cases e2
 ·rename_i hk;have hne:a ≠ p:=fun z=>hk (by
   subst z;exact (List.getElem?_inj (zQI.mp h1).1 c.nd).mp (h1.trans e1.symm))
  exact (c.obj k a m' e1 e2).stp st fun o _ e=>by rw [zR hne]; exact e
section
variable {X:Cx} {a b e:Expr} {pos:Pos} {f g:FE}
def zFd:FE:=fun _ M=>some (.dat (.ref M.length),M ++ [.dict []])
theorem zLP:QE X (.Dict [] [] pos) zFd:=.mk <| PE.imp zKj fun τ H Q ⟨L,σ,M,d,M',c,rs,hf,q⟩ p hp=>by
 unfold zFd at hf;cases hf;obtain ⟨c2,s2⟩:=c.pushO (m:=.dict []) hp ⟨[],zAV,rfl⟩;refine q _ _ _ s2 c2 ?_;unfold zT Rep;exact ⟨p,rfl,by rw [<- c.len]; simp⟩
theorem zD2 (h:Rep L H d v) (e:zAs d = some k):v = kV k:=by
 cases d with
 | int i=>cases e; unfold Rep at h; exact h
 | str x=>cases e; unfold Rep at h; exact h
 | _=>cases e
def zEv (M:Mem):EV -> Option (List D)
 | .fl xs=>some xs
 | .dat (.ref n)=>match M[n]? with
  | some (.lst xs)=>some xs
  | _=>none
 | _=>none
theorem zIC {K:PySem.W.Frag} {L:List Addr} {M:Mem} {H H0:Hp} {x:EV} {v:V} {xs:List D} (c:Cor K L M H) (r:zT H0 L H x v) (h:zEv M x = some xs):∃ a vs,v = .ref a /\ H a = some (.lst vs) /\ zG L H xs vs:=by
 cases x with
 | fl ys=>
  cases h;obtain ⟨p,vs,rfl,_,e,_,r⟩:=r;exact ⟨p,vs,rfl,e,r⟩
 | dat d=>
  cases d with
  | ref n=>
   unfold zT Rep at r;obtain ⟨a,rfl,e⟩:=r;unfold zEv at h;dsimp only at h;split at h
   ·rename_i ys q;cases h;obtain ⟨vs,e1,r1⟩:=c.obj n a _ e q;exact ⟨a,vs,rfl,e1,r1⟩
   ·cases h
  | _=>cases h
def zCx:K2:=fun x y M=>match zEv M x,zEv M y with
 | some xs,some ys=>if xs.length + ys.length <= sizeLine then some (.fl (xs ++ ys),M) else none
 | _,_=>none
theorem zKH {K:PySem.W.Frag}:zAh K zO7 zCx:=by
 intro L M M' H H0 x y d v w Q c rx ry hk q;unfold zCx at hk;split at hk
 ·rename_i xs ys e1 e2;split at hk
  ·rename_i hz;cases hk;obtain ⟨l,vs,rfl,h1,r1⟩:=zIC c rx e1;obtain ⟨l2,ws,rfl,h2,r2⟩:=zIC c ry e2;refine ⟨l,l2,vs,ws,rfl,rfl,h1,h2,by rw [r1.length,r2.length]; exact hz,fun p hp=>?_⟩;exact q L _ _ (.upd hp) (c.upd hp) (zT.newLst (.refl L H) c c hp (r1.app r2))
  ·cases hk
 ·cases hk
theorem zN6 (h1:QE X a f) (h2:QE X b g):QE X (.BinOp a .Add b pos) (fOp zCx f g):=zEy zKH zOR h1 h2
end
section
def kS2 (C:Str -> Str -> Bool) (w:Str -> Str -> D):K2:=fun x y M=>match x,y with
 | .dat (.str i),.dat (.str j)=>if C i j then some (.dat (w i j),M) else none
 | _,_=>none
theorem zo (r:zT H0 L H (.dat (.str k)) v):v = .str k:=by unfold zT Rep at r; exact r
def zCb:K2:=kS2 (fun i j=>decide (i.length + j.length <= sizeLine)) fun i j=> .str (i ++ j)
theorem zJc {K:PySem.W.Frag}:zAh K (fun x y H Q=>∃ i j,x = .str i /\ y = .str j /\ i.length + j.length <= sizeLine /\ Q (.str (i ++ j)) H) zCb:=by
 intro L M M' H H0 x y d v w Q cc rx ry hk q;unfold zCb kS2 at hk;split at hk
 ·rename_i i j;split at hk
  ·rename_i hz;cases hk;exact ⟨i,j,zo rx,zo ry,of_decide_eq_true hz,q L H _ (.refl L H) cc (zCP (L:=L) (H:=H))⟩
  ·cases hk
 ·cases hk
theorem zOH (h1:QE X a f) (h2:QE X b g):QE X (.BinOp a .Add b pos) (fOp zCb f g):=zEy zJc zHq h1 h2
theorem zLV:OpR X (binaryOp .Mult) (fun x y H Q=>∃ i n,x = .str i /\ y = .int n /\ n <= 1000 /\ -1000 <= n /\ i.length <= 1000 /\ Q (.str (Txt.mul i n)) H):=by
 intro zB s σ H x y v u Q I rx ry z;obtain ⟨i,n,rfl,rfl,h1,h2,h3,q⟩:=z;obtain ⟨t,rfl⟩:=rx;obtain ⟨t',rfl⟩:=ry;refine SB.mul ⟨?_,fun g1 _=>?_,fun g1 _=>?_⟩ fun t1 k=>⟨.str (Txt.mul i n),H,I.tok _,⟨_,rfl⟩,q⟩
 ·rw [zQo (by omega),zQo (by omega)]; rfl
 ·have:(1000:Int) <= (2 ^ 63 - 1) / n:=by
   rw [Int.le_ediv_iff_mul_le (by omega)];have:=Int.mul_le_mul_of_nonneg_left h1 (show (0:Int) <= 1000 by omega);omega
  omega
 ·unfold Builtin.Str.tooLong;have:i.length * n.toNat <= 1000 * 1000:=Nat.mul_le_mul h3 (by omega);rw [zQo];rw [sizeLine_eq]; omega
def zBe:K2:=fun x y M=>match x,y with
 | .dat (.str i),.dat (.int n)=>if n <= 1000 /\ -1000 <= n /\ i.length <= 1000 then some (.dat (.str (Txt.mul i n)),M) else none
 | _,_=>none
theorem zKK {K:PySem.W.Frag}:zAh K (fun x y H Q=>∃ i n,x = .str i /\ y = .int n /\ n <= 1000 /\ -1000 <= n /\ i.length <= 1000 /\ Q (.str (Txt.mul i n)) H) zBe:=by
 intro L M M' H H0 x y d v w Q cc rx ry hk q;unfold zBe at hk;split at hk
 ·rename_i i n;split at hk
  ·rename_i hz;cases hk;exact ⟨i,n,zo rx,by unfold zT Rep at ry; exact ry,hz.1,hz.2.1,hz.2.2,q L H _ (.refl L H) cc (zCP (L:=L) (H:=H))⟩
  ·cases hk
 ·cases hk
theorem zNz (h1:QE X a f) (h2:QE X b g):QE X (.BinOp a .Mult b pos) (fOp zBe f g):=zEy zKK zLV h1 h2
theorem zKl:OpR X (compareOp .LtE) (fun x y H Q=>∃ i j,x = .str i /\ y = .str j /\ Q (.bl (!(decide (j.cps.toList < i.cps.toList)))) H):=by
 intro zB s σ H x y v u Q I rx ry z;obtain ⟨i,j,rfl,rfl,q⟩:=z;obtain ⟨t,rfl⟩:=rx;obtain ⟨t',rfl⟩:=ry;exact PySem.P.le_str (zY I q rfl)
def zH7:K2:=kS2 (fun _ _=>true) fun i j=> .bl (!(decide (j.cps.toList < i.cps.toList)))
theorem zIV {K:PySem.W.Frag}:zAh K (fun x y H Q=>∃ i j,x = .str i /\ y = .str j /\ Q (.bl (!(decide (j.cps.toList < i.cps.toList)))) H) zH7:=by
 intro L M M' H H0 x y d v w Q cc rx ry hk q;unfold zH7 kS2 at hk;split at hk
 ·rename_i i j;cases hk;exact ⟨i,j,zo rx,zo ry,q L H _ (.refl L H) cc (zAe (L:=L) (H:=H))⟩
 ·cases hk
def zE9:KB:=fun xs M=>match xs with
 | [.dat (.str z)]=>if z.length <= sizeLine then some (.dat (.int z.length),M) else none
 | _=>none
theorem zJg {K:PySem.W.Frag}:zEH K (fun xs H Q=>∃ z,xs = [.str z] /\ z.length <= sizeLine /\ Q (.int z.length) H) zE9:=by
 intro L M M' H H0 xs d vs Q cc r hk q;unfold zE9 at hk;split at hk
 ·rename_i z;split at hk
  ·rename_i hz;cases hk;obtain ⟨v,rfl,r1⟩:=r.one;rw [zo r1];exact ⟨z,rfl,hz,q L H _ (.refl L H) cc (zAF (L:=L) (H:=H))⟩
  ·cases hk
 ·cases hk
theorem zNY (hg:Gl X "len") (hm:X.mg "len" = none) (ha:QAE X [e] fa) (he:starEach [e] X.env = (false,eval e X.env) :: starEach [] X.env:=by rfl) (hpl:(backTo pos (starEach [] X.env)).any (·.1) = false:=by rfl):QE X (.Call (.Name "len" p) [e] [] pos) (fB zE9 fa) :=
 zDI zJg zF5 PySem.boot_len hg hm ha (by decide) (by decide) he hpl
def zED (z:Str):List Str:=z.cps.toList.map fun c=>⟨#[c]⟩
theorem zE4:∀ (xs:List Str),zG L H (xs.map D.str) (xs.map V.str)
 | []=> .nil
 | x :: r=> .cons (zCP) (zE4 r)
def zCs:List D -> Option (List Str)
 | []=>some []
 | .str k :: r=>match zCs r with
  | some bs=>some (k :: bs)
  | none=>none
 | _=>none
theorem zEm:∀ {ds:List D} {bs:List Str} {vs:List V},zCs ds = some bs -> zG L H ds vs -> vs = bs.map V.str
 | [],bs,vs,e,r=>by cases e; unfold zG at r; exact r
 | d :: ds,bs,vs,e,r=>by
  unfold zG at r;obtain ⟨v,r',rfl,r1,r2⟩:=r;cases d with
  | str k=>
   unfold zCs at e;cases q:zCs ds with
   | none=>rw [q] at e; cases e
   | some bs'=>
    rw [q] at e; cases e;unfold Rep at r1;rw [r1,zEm q r2]; rfl
  | _=>cases e
theorem zHG:∀ {bs:List Str} {its:List Value},zW (bs.map V.str) its -> StrsAre its bs
 | [],_,.nil=> .nil
 | k :: bs,_,.cons r t=>by
  obtain ⟨u,rfl⟩:=r;exact .cons k u (zHG t)
def zOb (K:PySem.W.Frag):V -> List V -> Hp -> VK -> Prop:=fun x vs H Q=>∃ sep l ys,x = .str sep /\ vs = [.ref l] /\ SqL K H l (ys.map V.str) /\ (ys.map (·.length)).sum + ys.length * sep.length <= 16777216 /\ Q (.str (Txt.join sep ys)) H
theorem zLh:MtR X "str.join" (zOb X.K):=by
 intro zB s σ H x xs v us Q I rx rv z;obtain ⟨sep,l,ys,rfl,rfl,hl,hz,q⟩:=z;obtain ⟨t,rfl⟩:=rx;obtain ⟨u,rfl,ru⟩:=rv.one;cases ru;obtain ⟨its,r,pl,_⟩:=I.list hl;exact join_list pl.isList (by simpa using zHG r) hz fun t' k=>⟨.str (Txt.join sep ys),H,I.tok _,⟨_,rfl⟩,q⟩
def zA5 (f:FE) (fa:FAE):FE:=fun σ M=>match f σ M with
 | some (.dat (.str sep),M1)=>match fa σ M1 with
  | some ([x],M2)=>match zAZ M2 x with
   | some ds=>match zCs ds with
    | some ys=>if (ys.map (·.length)).sum + ys.length * sep.length <= 16777216 then some (.dat (.str (Txt.join sep ys)),M2) else none
    | none=>none
   | none=>none
  | _=>none
 | _=>none
theorem zND (h1:QE X o f) (ha:QAE X [e] fa) (hbase:attributeBase o "join" X.env (eval o X.env) = eval o X.env:=by rfl)
  (hfew:((backTo cpos (starEach [e] X.env)).all (fun x=> !x.1) && (backToKw cpos (keywordEach [] X.env)).all (fun x=>x.1.isSome) && decide ([e].length + ([]:List Keyword).length + (if ([]:List Keyword).isEmpty then 0 else 1) < 30)) = true:=by rfl)
  (hline:(apos.endLine == cpos.line) = true:=by rfl) (hs:starEach [e] X.env = (false,eval e X.env) :: starEach [] X.env:=by rfl) (hplain:(backTo cpos (starEach [] X.env)).any (·.1) = false:=by rfl) :
  QE X (.Call (.Attribute o "join" apos) [e] [] cpos) (zA5 f fa) :=
 .mk <| PE.imp (zII PySem.F.plainAttrs_str PySem.F.slot_str_join PySem.F.type_str_join zLh h1.un ha.un hbase hfew hline hs hplain) fun τ H Q zz=>by
  obtain ⟨L,σ,M,d,M',c,rs,hf,q⟩:=zz;unfold zA5 at hf;split at hf
  ·rename_i sep M1 e1;split at hf
   ·rename_i x M2 e2;split at hf
    ·rename_i ds e3;split at hf
     ·rename_i ys e4;split at hf
      ·rename_i hz;cases hf;refine ⟨L,σ,M,_,_,c,rs,e1,fun L1 H1 v s1 c1 r1=>?_⟩;rw [zo r1];refine ⟨rfl,L1,σ,M1,_,_,c1,rs.stp s1,e2,fun L2 H2 vs s2 c2 r2=>?_⟩;obtain ⟨v2,rfl,r3⟩:=r2.one;obtain ⟨l,ws,rfl,h1,r4⟩:=zAg c2 r3 e3;have:=zEm e4 r4;subst this;exact ⟨sep,l,ys,rfl,rfl,.inl h1,hz,q L2 H2 _ (s1.trans s2) c2 (zCP (L:=L2) (H:=H2))⟩
      ·cases hf
     ·cases hf
    ·cases hf
   ·cases hf
  ·cases hf
def Its (z:Str):It:=⟨fun i _=>i < z.length,fun i H x H'=>H' = H /\ ∃ c,z.cps[i]? = some c /\ x = .str ⟨#[c]⟩,fun i _=>z.length <= i⟩
theorem zJC {P:Program} {w:World} {K:PySem.W.Frag} {tg:Expr} (it:Addr) (z:Str) (t:Tok):Turn P w K tg (Its z) [it] it (fun i h=>h.IsStrIter it "str_ascii_iterator" z t i) where
 mem:=by simp
 obj:=fun i h' st b hb=>by
  have e:b = it:=by simpa using hb
  subst e;obtain ⟨o,e,c,d⟩:=st;exact ⟨o,e,fun v q=>by rw [d] at q; cases q⟩
 keep:=fun i h1 h2 st k=>by
  obtain ⟨o,e,r⟩:=st;exact ⟨o,k it (by simp) o e,r⟩
 item:=by
  intro X hP hw hK hc i zB s σ H E I hf st hg;subst hP hw hK;obtain ⟨f0,f1,f2,f3,f4,f5⟩:=hf it (by simp);refine (Walks.strAscii (I.ok.hd hc) it z t).item i s _ _ hg st fun v h' tk hv st' kk=>?_;obtain ⟨ch,u,ec,rfl⟩:=hv;have I1:Inv X zB σ H { s with heap:=h',toks:=tk }:=I.turned (fun b o hb e=>kk b o (by simpa using hb) e) f0 f1 f3 f4 f5;obtain ⟨o,e,c,d⟩:=id st';exact ⟨_,rfl,zGk e c d (by decide) ⟨.str ⟨#[ch]⟩,H,I1,⟨u,rfl⟩,⟨rfl,ch,ec,rfl⟩,st',fun b hb=>(hf b hb).1⟩⟩
 done:=by
  intro X hP hw hK hc i zB s σ H E I hf st hg;subst hP hw hK;obtain ⟨f0,f1,f2,f3,f4,f5⟩:=hf it (by simp);have hg':z.length <= i:=hg;exact wpAny_pyNext_ascii_end (I.ok.hd hc) st (Array.getElem?_eq_none hg') fun h' eb=>⟨rfl,I.turned (fun b o hb e=>eb b o hb e) f0 f1 f3 f4 f5⟩
 self:=fun _ _ _ _ _ st q=>wpAny_pyIter_striter_ascii st q
theorem zJI {P:Program} {w:World} {K:PySem.W.Frag} {tg:Expr} (it:Addr) (z:Str) (t:Tok):Turn P w K tg (Its z) [it] it (fun i h=>h.IsStrIter it "str_iterator" z t i) where
 mem:=by simp
 obj:=fun i h' st b hb=>by
  have e:b = it:=by simpa using hb
  subst e;obtain ⟨o,e,c,d⟩:=st;exact ⟨o,e,fun v q=>by rw [d] at q; cases q⟩
 keep:=fun i h1 h2 st k=>by
  obtain ⟨o,e,r⟩:=st;exact ⟨o,k it (by simp) o e,r⟩
 item:=by
  intro X hP hw hK hc i zB s σ H E I hf st hg;subst hP hw hK;obtain ⟨f0,f1,f2,f3,f4,f5⟩:=hf it (by simp);refine (Walks.strWide (I.ok.hd hc) it z t).item i s _ _ hg st fun v h' tk hv st' kk=>?_;obtain ⟨ch,u,ec,rfl⟩:=hv;have I1:Inv X zB σ H { s with heap:=h',toks:=tk }:=I.turned (fun b o hb e=>kk b o (by simpa using hb) e) f0 f1 f3 f4 f5;obtain ⟨o,e,c,d⟩:=id st';exact ⟨_,rfl,zGk e c d (by decide) ⟨.str ⟨#[ch]⟩,H,I1,⟨u,rfl⟩,⟨rfl,ch,ec,rfl⟩,st',fun b hb=>(hf b hb).1⟩⟩
 done:=by
  intro X hP hw hK hc i zB s σ H E I hf st hg;subst hP hw hK;obtain ⟨f0,f1,f2,f3,f4,f5⟩:=hf it (by simp);have hg':z.length <= i:=hg;exact wpAny_pyNext_wide_end (I.ok.hd hc) st (Array.getElem?_eq_none hg') fun h' eb=>⟨rfl,I.turned (fun b o hb e=>eb b o hb e) f0 f1 f3 f4 f5⟩
 self:=fun _ _ _ _ _ st q=>wpAny_pyIter_striter_wide st q
theorem zN7 {tg l:Expr} {tl:TE} (hl:PE X l tl):PI X tg l (fun σ H R=>tl σ H fun x H1=>∃ z,x = .str z /\ R (Its z) H1):=by
 intro zB s σ H R I q;refine thn (hl zB s σ H _ I q) fun v s1 ⟨y,H1,I1,r1,z,hy,q1⟩=>?_;subst hy;obtain ⟨t,rfl⟩:=r1;have fpk:∀ b ∈ [s1.heap.objs.size],zCU X zB H1 b:=fun b hb=>by
  have e:b = s1.heap.objs.size:=by simpa using hb
  subst e;exact I1.fpOk (zQL _) (I1.hok.fresh (zQL _))
 cases ha:z.cps.all (· < 128)
 ·exact wpAny_pyIter_wide ha ⟨s1.heap.objs.size,[s1.heap.objs.size],_,_,H1,rfl,I1.kept fun b o e=>zQG _ e,zJI _ z t,⟨_,zQP _ rfl,rfl,rfl⟩,fpk,q1⟩
 ·exact wpAny_pyIter_ascii ha ⟨s1.heap.objs.size,[s1.heap.objs.size],_,_,H1,rfl,I1.kept fun b o e=>zQG _ e,zJC _ z t,⟨_,zQP _ rfl,rfl,rfl⟩,fpk,q1⟩
def zLQ (f:FE):FI:=fun σ M=>match f σ M with
 | some (.dat (.str z),M1)=>some ((zED z).map D.str,none,M1)
 | _=>none
theorem zM3 (h1:QE X e f):QI X tg e (zLQ f):=.mk <| PI.imp (zN7 h1.un) fun τ H R zz=>by
 obtain ⟨L,σ,M,xs,gd,M',c,rs,hf,q⟩:=zz;unfold zLQ at hf;split at hf
 ·rename_i z M1 e1;cases hf;refine ⟨L,σ,M,_,_,c,rs,e1,fun L1 H1 v s1 c1 r1=>⟨z,zo r1,q L1 H1 _ s1 c1 fun L2 H2 M2 s2 c2 _=>⟨fun i d hd=>?_,?_⟩⟩⟩
  ·unfold zED at hd;rw [zQd,zQc] at hd;cases e2:z.cps.toList[i]? with
   | none=>rw [e2] at hd; cases hd
   | some ch=>
    rw [e2] at hd;cases hd;have hi:i < z.length:=by have:=(zQI.mp e2).1; rw [zQy] at this; exact this
    refine ⟨hi,fun v H3 hy=>?_⟩;obtain ⟨rfl,c',ec,rfl⟩:=hy;have:z.cps[i]? = some ch:=by simpa using e2
    rw [this] at ec; cases ec;exact ⟨fun _ _ q=>q,zCP⟩
  ·unfold zED;rw [zQO,zQO,zQy];exact zQL _
 ·cases hf
theorem zGB (hg:Gl X x) (hm:X.mg x = some (.int i t)) (hd:(x == ("__debug__" : Str)) = false:=by decide):QE X (.Name x pos) (fC (.int i)):=zCz (fun _ _=>by unfold Rep; rfl) (zMI (v:=.int i) hg hm ⟨t,rfl⟩ hd)
end
end L3
namespace LR
open PySem PySem.Spec PyProof.Rows
open Sem (wp)
open Sem (wp)
open AutoSeq1 (wpAny_loadPart')
open Sem (wp)
open AutoSeq1 (wpAny_loadPart')
end LR
namespace L3
open PySem PySem.Spec PyProof.Rows L2
end L3
namespace L2
open PySem PySem.Spec PyProof.Rows
end L2
namespace LR
open PySem PySem.Spec PyProof.Rows
open Sem (wp)
end LR
namespace L3
open PySem PySem.Spec PyProof.Rows L2
end L3
namespace ST
open PySem
open Sem (wp)
open PySem.Spec PyProof.Rows
open Sem (wp)
open Sem (wp)
open Sem (wp)
open Sem (wp)
end ST
namespace L2
open PySem PySem.Spec PyProof.Rows ST
end L2
namespace ST
open PySem PySem.Spec PyProof.Rows
open Sem (wp)
end ST
namespace L2
open PySem PySem.Spec PyProof.Rows ST
end L2
namespace L3
open PySem PySem.Spec PyProof.Rows L2 ST
open AutoSeq1 (wpAny_loadPart')
theorem zNn (hh:A.handled = none) (it l:Addr) (hne:l ≠ it) (items:Array Value) :
  Draws prog w A it [it,l] items.size (fun i v=>items[i]? = some v) (fun i h=>h.IsTupleIter it l i /\ h.IsTuple l items) where
 live:=fun _ _ st=>let ⟨o,ho,_⟩:=st.1; ⟨o,ho⟩;frame:=fun _ _ _ st hk=>⟨let ⟨o,ho,r⟩:=st.1; ⟨o,hk it (by simp) o ho,r⟩,let ⟨o,ho,r⟩:=st.2; ⟨o,hk l (by simp) o ho,r⟩⟩;item:=fun i s Q E hi st hQ=>by
  refine zBv st.1 st.2 (x:=items[i]) (by simp [hi]) fun h' hit' hs'=>?_;exact hQ _ h' s.toks (by simp [hi]) ⟨hit',Tup.but st.2 hs'.extBut hne⟩ hs'
 done:=fun s Q E st hE=>zCR hh st.1 st.2 (by simp) hE
theorem zGq (l:Addr) (items:Array Value) (n:Nat) (dct:Option Addr) (sl:Array (Option Value)) :
  Meets (Builtin.«enumerate.__new__» ⟨[.type "enumerate", .ref l],[]⟩) (fun _ R s=>s.heap.get? l = some { cls:=.type "tuple", dict:=dct,data:=.seq items n,slots:=sl } /\
   R (.ok (.ret (.ref (s.heap.push { cls:=.type "tuple_iterator", data:=.fields #[.ref l,.int 0 0] }).objs.size)))
    { s with heap:=(s.heap.push { cls:=.type "tuple_iterator", data:=.fields #[.ref l,.int 0 0] }).push { cls:=.type "enumerate", data:=.fields #[.none,.bool false,.ref s.heap.objs.size,rawInt 0,.none,.none] } }) :=
 .of_wp fun prog w A R s h=>by
  obtain ⟨hp,g,d,tk,os⟩:=s; obtain ⟨hl,h⟩:=h;have hsub:=sub_enumerate;have hL:Heap.IsTuple (Shared.heap ⟨hp,g,d,tk,os⟩) l items:=⟨_,hl,rfl,n,rfl⟩;wp_walk using wpAny_loadPart' hl;refine wpAny_stack_any fun st=>zQH ?_;split
  ·rename_i c _ _ _ _ _;cases (c == Value.type "enumerate")
   ·wp_walk using wpAny_loadPart' hl,wpAny_pyIter_tuple hL;exact ⟨_,rfl,h⟩
   ·wp_walk using wpAny_loadPart' hl,wpAny_pyIter_tuple hL;exact ⟨_,rfl,h⟩
  ·wp_walk using wpAny_loadPart' hl,wpAny_pyIter_tuple hL;exact ⟨_,rfl,h⟩
section
theorem zHy (hL:s.heap.IsTuple l items)
  (h:∀ h',IsEnum h' (s.heap.objs.size + 1) s.heap.objs.size 0 .none -> h'.IsTupleIter s.heap.objs.size l 0 -> (∀ c o,s.heap.get? c = some o -> h'.get? c = some o) -> Q (.ref (s.heap.objs.size + 1)) { s with heap:=h' }) :
  wpAny (model prog w) A (call (.type "enumerate") [.ref l]) Q E s:=by
 obtain ⟨o,ho,hc,n,hd⟩:=hL;obtain ⟨ocls,odict,odata,oslots⟩:=o;simp only at hc hd;subst hc; subst hd;refine callType_new PySem.F.called_enumerate (by decide) (PySem.F.typeCall_enumerate_1 _) (PySem.F.newCall_enumerate_1 _) (fun obj=>PySem.F.args_object_init_2 obj _) PySem.F.entry_enumerate_new (zGq l items n odict oslots) ⟨ho,?_⟩;have q1:(s.heap.push { cls:=.type "tuple_iterator", data:=.fields #[.ref l,.int 0 0] }).objs.size = s.heap.objs.size + 1:=zQv ..;have p2:((s.heap.push { cls:=.type "tuple_iterator", data:=.fields #[.ref l,.int 0 0] }).push { cls:=.type "enumerate", data:=.fields #[.none,.bool false,.ref s.heap.objs.size,rawInt 0,.none,.none] }).get? (s.heap.push { cls:=.type "tuple_iterator", data:=.fields #[.ref l,.int 0 0] }).objs.size = some _:=zQP _ rfl;rw [q1] at p2;rw [q1];exact ⟨⟨_,p2,rfl⟩,h _ p2 ⟨_,zQG _ (zQP _ rfl),rfl,rfl⟩ fun c o x=>zQG _ (zQG _ x)⟩
theorem zG0 (he:IsEnum s.heap e it i old)
  (hn:∀ (Q':Value -> Shared -> Prop) (E':Value -> Shared -> Prop),(∀ h' x,Heap.ExtBut it s.heap h' -> (∃ o,h'.get? x = some o /\ o.cls = .type "StopIteration") -> E' (.ref x) { s with heap:=h' }) -> wpAny (model prog w) A.in1 (Builtin.SmallTypes.nextOf (.ref it)) Q' E' s)
  (hQ:∀ h',Heap.ExtBut it s.heap h' -> Q none { s with heap:=h' }):wpAny (model prog w) A (pyNext (.ref e)) Q E s:=by
 have hT:s.TypeIs (.ref e) "enumerate" := ⟨_,he,rfl⟩;unfold pyNext
 refine zQF (wpAny_attempt (zQr hT PySem.F.slot_enumerate_next
  (zQs PySem.F.slot_enumerate_next hT PySem.F.entry_enumerate_next ?_ (PySem.F.args_enumerate_next_1 _))))
 show wpAny _ _ (field (.ref e) 2 >>= _) _ _ _;refine zQF (zQu he rfl rfl ?_);refine zQF (hn _ _ fun h' x he' hx'=>?_);obtain ⟨o,ho,hc⟩:=hx';refine zQF (wpAny_isInstance ⟨o,ho,hc⟩ isSubtype_stop ?_);exact zQH (hQ _ he')
end
def zGp (K:PySem.W.Frag) (isT:Bool) (a:Addr):It :=
 ⟨fun i H=>∃ xs x,(if isT then SqT K H a xs else SqL K H a xs) /\ xs[i]? = some x,
  fun i H v H'=>∃ T x,v = .ref T /\ H T = none /\ H' = upd H T (.tup [.int i,x]) /\ ∀ xs,(if isT then SqT K H a xs else SqL K H a xs) -> xs[i]? = some x,
  fun i H=>∃ xs,(if isT then SqT K H a xs else SqL K H a xs) /\ xs.length <= i⟩
def zMO (isT:Bool) (it a:Addr) (i:Nat) (h:Heap):Prop:=if isT then h.IsTupleIter it a i else h.IsListIter it a i
theorem zJQ {P:Program} {w:World} {K:PySem.W.Frag} {es:List Expr} {ek:Nat} {ep:Pos} {isT:Bool} {e it a:Addr} (hei:e ≠ it) (hae:a ≠ e) (hai:a ≠ it) :
  Turn P w K (.Tuple es ek ep) (zGp K isT a) [e,it] e (fun i h=>(∃ old,IsEnum h e it i old) /\ zMO isT it a i h) where
 mem:=by simp
 obj:=fun i h ⟨⟨old,he⟩,st⟩ c hc=>by
  simp only [zQR,zQk,or_false] at hc;rcases hc with rfl | rfl
  ·exact ⟨_,he,fun v m=>by cases m⟩
  ·cases isT with
   | true=>obtain ⟨o1,e1,_,d1⟩:=(show h.IsTupleIter c a i from st); exact ⟨_,e1,fun v m=>by rw [d1] at m; cases m⟩
   | false=>obtain ⟨o1,e1,_,d1⟩:=(show h.IsListIter c a i from st); exact ⟨_,e1,fun v m=>by rw [d1] at m; cases m⟩
 keep:=fun i h h' ⟨⟨old,he⟩,st⟩ k=>by
  refine ⟨⟨old,k e (by simp) _ he⟩,?_⟩;cases isT with
  | true=>obtain ⟨o1,e1,r⟩:=(show h.IsTupleIter it a i from st); exact ⟨o1,k it (by simp) _ e1,r⟩
  | false=>obtain ⟨o1,e1,r⟩:=(show h.IsListIter it a i from st); exact ⟨o1,k it (by simp) _ e1,r⟩
 item:=by
  intro X hP hw hK hc i zB s σ H E I hf Z hg;subst hP hw hK;obtain ⟨⟨old,he⟩,st⟩:=Z;obtain ⟨xs,x,sa,hx⟩:=hg;have hch:∀ c ∈ [e,it],zCU X zB H c:=hf;have elt:e < s.heap.objs.size:=zQQ he
  have fin:∀ (its:List Value) (u:Value) (h':Heap) (tk:Nat),zW xs its -> its[i]? = some u -> IsEnumOut h' e it ((i:Int) + 1) u s.heap.objs.size -> zMO isT it a (i + 1) h' -> h'.get? s.heap.objs.size = some { cls:=.type "tuple", data:=.seq #[.int i tk,u] } ->
    (∀ b o,b ≠ e -> b ≠ it -> s.heap.get? b = some o -> h'.get? b = some o) -> it < s.heap.objs.size ->
    ∃ u',some (Value.ref s.heap.objs.size) = some u' /\ wpAny (model X.prog X.w) X.A (letOwnedTupleGo (.Tuple es ek ep) (.ref e) u') (fun _ s2=>∃ x H',Inv X zB σ H' s2 /\ zf x u' /\ (zGp X.K isT a).yld i H x H' /\ ((∃ old,IsEnum s2.heap e it ((i + 1:Nat):Int) old) /\ zMO isT it a (i + 1) s2.heap) /\ ∀ b ∈ [e,it],H' b = none) E { s with heap:=h',toks:=tk + 1 }:=by
   intro its u h' tk rv hu ho st' hT hk ilt;refine ⟨_,rfl,wpAny_letOwnedTupleGo_enum ho fun h2 he2 e2=>?_⟩;have kk:∀ c o,c ∉ [e,it] -> s.heap.get? c = some o -> h2.get? c = some o:=fun c o n q=>by
    simp only [zQR,zQk,or_false,not_or] at n;exact e2.extBut _ _ n.1 (hk c o n.1 n.2 q)
   have NT:=e2.extBut _ _ (Nat.ne_of_gt elt) hT;have hfr:H s.heap.objs.size = none:=I.hok.fresh (zQL _);obtain ⟨u2,hu2,ru⟩:=rv.get hx;rw [hu] at hu2; cases hu2;refine ⟨.ref s.heap.objs.size,upd H s.heap.objs.size (.tup [.int i,x]),zDo (s:=s) I hch kk (zQL _) ?_,rfl,⟨_,x,rfl,hfr,rfl,fun ws hw=>?_⟩,⟨⟨u,by simpa using he2⟩,?_⟩,fun c hm=>?_⟩
   ·exact ⟨by show 2 <= sizeLine; decide,[.int i tk,u],.cons ⟨tk,rfl⟩ (.cons ru .nil),⟨_,NT,rfl,⟨_,rfl⟩,rfl⟩⟩
   ·cases isT with
    | true=>rw [I.tuple_inj hw sa]; exact hx
    | false=>rw [I.list_inj hw sa]; exact hx
   ·cases isT with
    | true=>obtain ⟨o1,e1,r⟩:=(show h'.IsTupleIter it a (i + 1) from st'); exact ⟨o1,e2.extBut _ _ hei.symm e1,r⟩
    | false=>obtain ⟨o1,e1,r⟩:=(show h'.IsListIter it a (i + 1) from st'); exact ⟨o1,e2.extBut _ _ hei.symm e1,r⟩
   ·have lt:c < s.heap.objs.size:=by
     simp only [zQR,zQk,or_false] at hm;rcases hm with rfl | rfl
     ·exact elt
     ·exact ilt
    rw [zR (zQa lt)];exact (hf c hm).1
  have hef:e ∉ [it,a]:=by simp only [zQR,zQk,or_false,not_or]; exact ⟨hei,hae.symm⟩
  cases isT with
  | true=>
   obtain ⟨its,rv,p1,z1⟩:=I.tuple sa;have st':s.heap.IsTupleIter it a i:=st;obtain ⟨o1,e1,_⟩:=id st';refine wpAny_pyNext_enum_itemD (zNn (prog:=X.prog) (w:=X.w) (A:=X.A.in1) (I.ok.hd hc) it a hai its.toArray) he ⟨st',show s.heap.IsTuple a its.toArray from p1⟩ (by have:=rv.length; have:=(zQI.mp hx).1; rw [zQN]; omega) hei hef fun u h' tk hu ho hs hT _ hk=>?_;exact fin its u h' tk rv (by simpa using hu) ho hs.1 hT hk (zQQ e1)
  | false=>
   obtain ⟨its,rv,p1,z1⟩:=I.list sa;have st':s.heap.IsListIter it a i:=st;obtain ⟨o1,e1,_⟩:=id st';refine wpAny_pyNext_enum_itemD (Draws.list (prog:=X.prog) (w:=X.w) (A:=X.A.in1) (I.ok.hd hc) it a hai its.toArray) he ⟨st',p1.isList⟩ (by have:=rv.length; have:=(zQI.mp hx).1; rw [zQN]; omega) hei hef fun u h' tk hu ho hs hT _ hk=>?_;exact fin its u h' tk rv (by simpa using hu) ho hs.1 hT hk (zQQ e1)
 done:=by
  intro X hP hw hK hc i zB s σ H E I hf Z hg;subst hP hw hK;obtain ⟨⟨old,he⟩,st⟩:=Z;obtain ⟨xs,sa,hz⟩:=hg;have out:∀ h',Heap.ExtBut it s.heap h' -> (none:Option Value) = none /\ Inv X zB σ H { s with heap:=h' }:=fun h' x=>⟨rfl,zFA I hf fun c o n q=>x c o (fun m=>n (by simp [m])) q⟩;cases isT with
  | true=>
   obtain ⟨its,rv,p1,z1⟩:=I.tuple sa;refine zG0 he (fun Q' E' hq=>zCR (I.ok.hd hc) (show s.heap.IsTupleIter it a i from st) (show s.heap.IsTuple a its.toArray from p1) (by have:=rv.length; simp; omega) hq) out
  | false=>
   obtain ⟨its,rv,p1,z1⟩:=I.list sa;refine zG0 he (fun Q' E' hq=>wpAny_nextOf_list_end (I.ok.hd hc) (show s.heap.IsListIter it a i from st) p1.isList (by have:=rv.length; simp; omega) hq) out
 self:=fun _ _ _ _ _ Z h=>let ⟨⟨_,he⟩,_⟩:=Z; wpAny_pyIter_enum he h
section
theorem zMF {te:TE} (hg:Gl X "enumerate") (hm:X.mg "enumerate" = none) (ha:PE X a te) (hs:starEach [a] X.env = (false,eval a X.env) :: starEach [] X.env:=by rfl) (hpl:(backTo pos (starEach [] X.env)).any (·.1) = false:=by rfl) :
  PI X (.Tuple es ek ep) (.Call (.Name "enumerate" p) [a] [] pos) (fun σ H R=>te σ H fun x H1=>∃ l,x = .ref l /\ ((∃ xs,SqT X.K H1 l xs) /\ R (zGp X.K true l) H1 \/ (∃ xs,SqL X.K H1 l xs) /\ R (zGp X.K false l) H1)):=by
 intro zB s σ H R I h;refine wpAny_Call_Name_kw (zDS I hg hm (by rfl) ?_ (by decide) (by decide));refine callWith_type1 ?_ hs hpl;rw [hs];refine Calls.spliced_cons (thn (ha zB s σ H _ I h) fun u s1 ⟨x,H1,I1,r1,l,hx,q⟩=>Calls.spliced_nil ?_);subst hx;cases r1
 have out:∀ (isT:Bool) (h':Heap),l < s1.heap.objs.size -> IsEnum h' (s1.heap.objs.size + 1) s1.heap.objs.size 0 .none -> zMO isT s1.heap.objs.size l 0 h' -> (∀ c o,s1.heap.get? c = some o -> h'.get? c = some o) -> R (zGp X.K isT l) H1 ->
   wpAny (model X.prog X.w) X.A (pyIter (.ref (s1.heap.objs.size + 1))) (PIE X zB σ (.Tuple es ek ep) R) X.xe { s1 with heap:=h' }:=by
  intro isT h' hl he st kp q;refine wpAny_pyIter_enum he ?_;refine ⟨s1.heap.objs.size + 1,[s1.heap.objs.size + 1,s1.heap.objs.size],_,_,H1,rfl,I1.kept kp,zJQ (Nat.ne_of_gt (Nat.lt_succ_self _)) (zQa (Nat.lt_succ_of_lt hl)) (zQa hl),⟨⟨_,he⟩,st⟩,fun c hc=>?_,q⟩;have ge:s1.heap.objs.size <= c:=by
   simp only [zQR,zQk,or_false] at hc;rcases hc with rfl | rfl
   ·exact Nat.le_succ _
   ·exact zQL _
  exact I1.fpOk ge (I1.hok.fresh ge)
 rcases q with ⟨⟨xs,hq⟩,q⟩ | ⟨⟨xs,hq⟩,q⟩
 ·obtain ⟨its,rv,p1,_⟩:=I1.tuple hq;have hl:l < s1.heap.objs.size:=by obtain ⟨_,e,_⟩:=p1; exact zQQ e
  exact zHy (show s1.heap.IsTuple l its.toArray from p1) fun h' he st kp=>out true h' hl he st kp q
 ·obtain ⟨its,rv,p1,_⟩:=I1.list hq;have hl:l < s1.heap.objs.size:=by obtain ⟨_,_,e,_⟩:=p1; exact zQQ e
  exact call_enumerate_list p1.isList fun h' he st _ kp=>out false h' hl he st kp q
def zEI (xs:List D):List D:=((List.range xs.length).zip xs).map fun q=>D.tup [.int (q.1:Nat),q.2]
theorem zHQ {xs:List D} {i:Nat} {d:D} (h:(zEI xs)[i]? = some d):∃ x,xs[i]? = some x /\ d = .tup [.int (i:Nat),x]:=by
 unfold zEI at h;rw [zQc] at h;cases e:((List.range xs.length).zip xs)[i]? with
 | none=>rw [e] at h; cases h
 | some pr=>
  rw [e] at h;cases h;obtain ⟨f1,f2⟩:=List.getElem?_zip_eq_some.mp e;have hi:i < xs.length:=(zQI.mp f2).1;rw [List.getElem?_range hi] at f1;cases f1;exact ⟨pr.2,f2,rfl⟩
theorem zJq (xs:List D):(zEI xs).length = xs.length:=by unfold zEI; simp
def zGi (f:FE):FI:=fun σ M=>match f σ M with
 | some (x,M1)=>match zAG M1 x with
  | some xs=>some (zEI xs,zFr x xs,M1)
  | none=>none
 | none=>none
theorem zL0 {g:FE} (hg:Gl X "enumerate") (hm:X.mg "enumerate" = none) (h:QE X a g) (hs:starEach [a] X.env = (false,eval a X.env) :: starEach [] X.env:=by rfl) (hpl:(backTo pos (starEach [] X.env)).any (·.1) = false:=by rfl) :
  QI X (.Tuple es ek ep) (.Call (.Name "enumerate" p) [a] [] pos) (zGi g):=.mk <| PI.imp (zMF hg hm h.un hs hpl) fun τ H R zz=>by
 obtain ⟨L,σ,M,xs,gd,M',c,rs,hf,q⟩:=zz;unfold zGi at hf;split at hf
 ·rename_i y M1 e1;split at hf
  ·rename_i zs e2;cases hf;refine ⟨L,σ,M,_,_,c,rs,e1,fun L1 H1 v s1 c1 r1=>?_⟩
   have step:∀ (isT:Bool) (l:Addr) (L2:List Addr) (H2:Hp) (vs:List V),(if isT then SqT X.K H2 l vs else SqL X.K H2 l vs) -> zG L2 H2 zs vs ->
     (∀ (i:Nat) d,(zEI zs)[i]? = some d -> (zGp X.K isT l).go i H2 /\ ∀ v H'',(zGp X.K isT l).yld i H2 v H'' -> (∀ a o,H2 a = some o -> H'' a = some o) /\ Rep L2 H'' d v) /\ (zGp X.K isT l).stop (zEI zs).length H2:=by
    intro isT l L2 H2 vs hq r;refine ⟨fun i d hd=>?_,⟨vs,hq,by rw [zJq,r.length]; exact zQL _⟩⟩;obtain ⟨x,hx,rfl⟩:=zHQ hd;obtain ⟨u,hu,ru⟩:=r.get hx;refine ⟨⟨vs,u,hq,hu⟩,fun v H3 hy=>?_⟩;obtain ⟨T,x',rfl,hT,rfl,hxx⟩:=hy;have ex:=hxx vs hq;rw [hu] at ex; cases ex;exact ⟨fun a o e=>by rw [zR (zg e hT)]; exact e,Rep.newTup hT (.cons zAF (.cons ru .nil))⟩
   unfold zAG at e2;cases t:zBR y with
   | some ws=>
    rw [t] at e2; cases e2;obtain ⟨a,vs,rfl,e3,r3⟩:=zA9 r1 t;refine ⟨a,rfl,.inl ⟨⟨vs,.of e3⟩,q L1 H1 _ s1 c1 fun L2 H2 M2 s2 c2 _=>?_⟩⟩;exact step true a L2 H2 vs (.of (s2.tup a vs e3)) (r3.stp s2)
   | none=>
    rw [t] at e2;obtain ⟨a,vs,rfl,e3,r3⟩:=zAg c1 r1 e2;refine ⟨a,rfl,.inr ⟨⟨vs,.inl e3⟩,q L1 H1 _ s1 c1 fun L2 H2 M2 s2 c2 hgd=>?_⟩⟩;have key:∃ vs',SqL X.K H2 a vs' /\ zG L2 H2 zs vs':=by
     cases y with
     | fl ys=>
      cases e2;obtain ⟨p',vs',hp',_,e5,e6,r6⟩:=r1;cases hp';exact ⟨vs',.of (s2.old _ _ e5 e6 (by intro _ z; cases z)),r6.stp s2⟩
     | dat d=>
      cases d with
      | ref n=>
       unfold zT Rep at r1;obtain ⟨a',ha',e5⟩:=r1;cases ha';have e6:L2[n]? = some a:=by obtain ⟨N,hN⟩:=s2.pre; rw [hN]; exact zCN e5
       rcases hgd with z | z
       ·obtain ⟨vs',e7,r7⟩:=c2.obj n a _ e6 z; exact ⟨vs',.of e7,r7⟩
       ·obtain ⟨o,vs',e7,r7⟩:=c2.obj n a _ e6 z; exact ⟨vs',.inl (.inr ⟨o,e7⟩),r7⟩
      | _=>cases e2
    obtain ⟨vs',hq,r7⟩:=key;exact step false a L2 H2 vs' hq r7
  ·cases hf
 ·cases hf
end
section
variable {κ:Type} [DecidableEq κ]
def zBT (kf:D -> Option κ) (kvs:List (D × D)) (k:κ):Option D:=(kvs.find? fun p=>decide (kf p.1 = some k)).map (·.2)
def zGQ (kf:D -> Option κ) (kvs:List (D × D)) (k:κ) (kd v:D):List (D × D) :=
 if (kvs.any fun p=>decide (kf p.1 = some k)) = true then kvs.map fun p=>if kf p.1 = some k then (p.1,v) else p else kvs ++ [(kd,v)]
theorem zCL (k:κ):∀ {kvs:List (D × D)} {vs:List (κ × V)},zAC kf L H kvs vs -> (zBT kf kvs k = none /\ zB1 vs k = none) \/ ∃ d v,zBT kf kvs k = some d /\ zB1 vs k = some v /\ Rep L H d v
 | [],vs,h=>by unfold zAC at h; subst h; exact .inl ⟨rfl,rfl⟩
 | p :: r,vs,h=>by
  obtain ⟨k',v,r',rfl,e,h1,h2⟩:=h;by_cases q:k' = k
  ·subst q;exact .inr ⟨p.2,v,by unfold zBT; rw [zR1,e]; simp,by rw [zC6 rfl],h1⟩
  ·have e1:zBT kf (p :: r) k = zBT kf r k:=by unfold zBT; rw [zR1,e]; simp [q]
   rw [e1,zDA q];exact zCL k h2
theorem zGR (k:κ):∀ {kvs:List (D × D)} {vs:List (κ × V)},zAC kf L H kvs vs -> (kvs.any fun p=>decide (kf p.1 = some k)) = (vs.any fun kv=>decide (kv.1 = k))
 | [],vs,h=>by unfold zAC at h; subst h; rfl
 | p :: r,vs,h=>by
  obtain ⟨k',v,r',rfl,e,h1,h2⟩:=h;rw [List.any_cons,List.any_cons,zGR k h2,e];simp
theorem zET (k:κ) (hd:Rep L H d u):∀ {kvs:List (D × D)} {vs:List (κ × V)},zAC kf L H kvs vs -> zAC kf L H (kvs.map fun p=>if kf p.1 = some k then (p.1,d) else p) (vs.map fun kv=>if kv.1 = k then (kv.1,u) else kv)
 | [],vs,h=>by unfold zAC at h; subst h; rfl
 | p :: r,vs,h=>by
  obtain ⟨k',v,r',rfl,e,h1,h2⟩:=h;rw [zQY,zQY];by_cases q:k' = k
  ·subst q;rw [zQU e,zQU rfl];exact ⟨k',u,_,rfl,e,hd,zET k' hd h2⟩
  ·rw [zQX (by rw [e]; simpa using q),zQX q];exact ⟨k',v,_,rfl,e,h1,zET k hd h2⟩
theorem zE6 (hk:kf kd = some k) (hd:Rep L H d u):∀ {kvs:List (D × D)} {vs:List (κ × V)},zAC kf L H kvs vs -> zAC kf L H (kvs ++ [(kd,d)]) (vs ++ [(k,u)])
 | [],vs,h=>by unfold zAC at h; subst h; exact ⟨k,u,[],rfl,hk,hd,rfl⟩
 | p :: r,vs,h=>by
  obtain ⟨k',v,r',rfl,e,h1,h2⟩:=h;exact ⟨k',v,_,rfl,e,h1,zE6 hk hd h2⟩
theorem zIN {kf:D -> Option κ} {L:List Addr} {H:Hp} {k:κ} {kd d:D} {u:V} (hk:kf kd = some k) (hd:Rep L H d u) {kvs:List (D × D)} {vs:List (κ × V)} (h:zAC kf L H kvs vs):zAC kf L H (zGQ kf kvs k kd d) (zCV vs k u):=by
 unfold zGQ zCV;rw [zGR k h];split
 ·exact zET k hd h
 ·exact zE6 hk hd h
end
theorem zGE:∀ {ds:List D} {vs:List V} {ks:List Key},zG L H ds vs -> zGr ds = some ks -> vs = ks.map kV
 | [],vs,ks,h,e=>by cases e; unfold zG at h; exact h
 | d :: ds,vs,ks,h,e=>by
  unfold zG at h;obtain ⟨v,r,rfl,h1,h2⟩:=h;unfold zGr at e;cases e1:zAs d with
  | none=>rw [e1] at e; cases e
  | some k=>
   cases e2:zGr ds with
   | none=>rw [e1,e2] at e; cases e
   | some ks'=>
    rw [e1,e2] at e; cases e;rw [zD2 h1 e1,zGE h2 e2]; rfl
theorem zHW (h:Rep L H d v) (e:tkD d = some ks):∃ b,v = .ref b /\ H b = some (.tup (ks.map kV)):=by
 cases d with
 | tup ds=>
  unfold Rep at h;obtain ⟨a,vs,rfl,e1,r⟩:=h;exact ⟨a,rfl,by rw [e1,zGE r e]⟩
 | _=>cases e
def zDf (M:Mem) (x:EV) (k:D):Option (Option D):=match x with
 | .dat (.ref n)=>match M[n]? with
  | some (.dict kvs)=>match zAs k with
   | some kk=>some (zBT zAs kvs kk)
   | none=>none
  | some (.dicT kvs)=>match tkD k with
   | some kk=>some (zBT tkD kvs kk)
   | none=>none
  | some (.froK kvs)=>match zAs k with
   | some kk=>some (zBT zAs kvs kk)
   | none=>none
  | some (.froT kvs)=>match tkD k with
   | some kk=>some (zBT tkD kvs kk)
   | none=>none
  | _=>none
 | _=>none
def zOr (L:List Addr) (H:Hp):Option D -> Option V -> Prop
 | none,o=>o = none
 | some d,o=>∃ v,o = some v /\ Rep L H d v
theorem zGm {K:PySem.W.Frag} {L:List Addr} {M:Mem} {H H0:Hp} {x:EV} {v w:V} {k:D} {o:Option D} (c:Cor K L M H) (rx:zT H0 L H x v) (rk:Rep L H k w) (e:zDf M x k = some o):∃ a ov,v = .ref a /\ zCv H a w ov /\ zOr L H o ov:=by
 cases x with
 | fl xs=>cases e
 | dat d=>
  cases d with
  | ref n=>
   unfold zT Rep at rx;obtain ⟨a,rfl,ea⟩:=rx;unfold zDf at e;dsimp only at e;cases q:M[n]? with
   | none=>rw [q] at e; cases e
   | some m=>
    rw [q] at e;have z:=c.obj n a m ea q;cases m with
    | dict kvs=>
     dsimp only at e;cases e2:zAs k with
     | none=>rw [e2] at e; cases e
     | some kk=>
      rw [e2] at e;cases e;obtain ⟨vs,e3,r⟩:=z;refine ⟨a,zB1 vs kk,rfl,?_,?_⟩
      ·rw [zD2 rk e2]; exact zCv.k e3
      ·rcases zCL kk r with ⟨h1,h2⟩ | ⟨d,v,h1,h2,h3⟩
       ·rw [h1,h2]; rfl
       ·rw [h1,h2]; exact ⟨v,rfl,h3⟩
    | dicT kvs=>
     dsimp only at e;cases e2:tkD k with
     | none=>rw [e2] at e; cases e
     | some kk=>
      rw [e2] at e;cases e;obtain ⟨vs,e3,r⟩:=z;obtain ⟨b,rfl,eb⟩:=zHW rk e2;refine ⟨a,zB1 vs kk,rfl,zCv.t e3 eb,?_⟩;rcases zCL kk r with ⟨h1,h2⟩ | ⟨d,v,h1,h2,h3⟩
      ·rw [h1,h2]; rfl
      ·rw [h1,h2]; exact ⟨v,rfl,h3⟩
    | froK kvs=>
     dsimp only at e;cases e2:zAs k with
     | none=>rw [e2] at e; cases e
     | some kk=>
      rw [e2] at e;cases e;obtain ⟨ob,vs,e3,r⟩:=z;refine ⟨a,zB1 vs kk,rfl,.inl ⟨vs,kk,.inr ⟨ob,e3⟩,zD2 rk e2,rfl⟩,?_⟩;rcases zCL kk r with ⟨h1,h2⟩ | ⟨d,v,h1,h2,h3⟩
      ·rw [h1,h2]; rfl
      ·rw [h1,h2]; exact ⟨v,rfl,h3⟩
    | froT kvs=>
     dsimp only at e;cases e2:tkD k with
     | none=>rw [e2] at e; cases e
     | some kk=>
      rw [e2] at e;cases e;obtain ⟨ob,vs,e3,r⟩:=z;obtain ⟨b,rfl,eb⟩:=zHW rk e2;refine ⟨a,zB1 vs kk,rfl,.inr ⟨vs,kk,b,.inr ⟨ob,e3⟩,rfl,eb,rfl⟩,?_⟩;rcases zCL kk r with ⟨h1,h2⟩ | ⟨d,v,h1,h2,h3⟩
      ·rw [h1,h2]; rfl
      ·rw [h1,h2]; exact ⟨v,rfl,h3⟩
    | _=>cases e
  | _=>cases e
def zFS (M:Mem) (n:Nat) (k v:D):Option Mem:=match M[n]? with
 | some (.dict kvs)=>match zAs k with
  | some kk=>if kvs.length < sizeLine then some (M.set n (.dict (zGQ zAs kvs kk k v))) else none
  | none=>none
 | some (.dicT kvs)=>match tkD k with
  | some kk=>if kvs.length < sizeLine then some (M.set n (.dicT (zGQ tkD kvs kk k v))) else none
  | none=>none
 | _=>none
theorem zLG {K:PySem.W.Frag} {L:List Addr} {M M':Mem} {H:Hp} {n:Nat} {a:Addr} {k v:D} {w u:V} (c:Cor K L M H) (ea:L[n]? = some a) (rk:Rep L H k w) (rv:Rep L H v u) (e:zFS M n k v = some M'):∃ H',zF6 H a w u H' /\ Cor K L M' H' /\ Stp L H L H':=by
 unfold zFS at e;cases q:M[n]? with
 | none=>rw [q] at e; cases e
 | some m=>
  rw [q] at e;have z:=c.obj n a m ea q;cases m with
  | dict kvs=>
   dsimp only at e;cases e2:zAs k with
   | none=>rw [e2] at e; cases e
   | some kk=>
    rw [e2] at e;dsimp only at e;split at e
    ·rename_i hl;cases e;obtain ⟨vs,e3,r⟩:=z;obtain ⟨c3,s3⟩:=c.put (m:=.dict (zGQ zAs kvs kk k v)) (o':=.dK (zCV vs kk u)) ea e3 (fun _ z=>by cases z) (fun _ _ z=>by cases z) fun s3=>⟨_,zAV,(zIN e2 rv r).stp s3⟩;refine ⟨_,?_,c3,s3⟩;rw [zD2 rk e2]; exact zF6.k e3 (by rw [r.length]; exact hl)
    ·cases e
  | dicT kvs=>
   dsimp only at e;cases e2:tkD k with
   | none=>rw [e2] at e; cases e
   | some kk=>
    rw [e2] at e;dsimp only at e;split at e
    ·rename_i hl;cases e;obtain ⟨vs,e3,r⟩:=z;obtain ⟨b,rfl,eb⟩:=zHW rk e2;obtain ⟨c3,s3⟩:=c.put (m:=.dicT (zGQ tkD kvs kk k v)) (o':=.dT (zCV vs kk u)) ea e3 (fun _ z=>by cases z) (fun _ _ z=>by cases z) fun s3=>⟨_,zAV,(zIN e2 rv r).stp s3⟩;exact ⟨_,zF6.t e3 eb (by rw [r.length]; exact hl),c3,s3⟩
    ·cases e
  | _=>cases e
section
variable {X:Cx} {a b e o i value:Expr} {pos pos' apos cpos:Pos} {f g h:FE}
def zDg:K2:=fun x y M=>match y with
 | .dat k=>match zDf M x k with
  | some (some d)=>some (.dat d,M)
  | _=>none
 | _=>none
theorem zK6 {K:PySem.W.Frag}:zAh K (fun x y H Q=>∃ a v,x = .ref a /\ zCv H a y (some v) /\ Q v H) zDg:=by
 intro L M M' H H0 x y d v w Q c rx ry hk q;unfold zDg at hk;split at hk
 ·rename_i k;split at hk
  ·rename_i d' e1;cases hk;obtain ⟨a,ov,rfl,h1,h2⟩:=zGm c rx ry e1;obtain ⟨u,rfl,r⟩:=h2;exact ⟨a,u,rfl,h1,q L H u (.refl L H) c r⟩
  ·cases hk
 ·cases hk
theorem zON (hu:X.A.units + 1 < cLine) (h1:QE X o f) (h2:QE X i g) (hs:zOG i:=by intro _ _; rfl):QE X (.Subscript o i pos) (fOp zDg f g):=.mk <| PE.imp (zLr hu h1.un h2.un hs) fun _ _ _ h=>zBu zK6 h
def zFe (neg:Bool):K2:=fun x y M=>match x with
  | .dat k=>match zDf M y k with
    | some o=>some (.dat (.bl (if neg then !o.isSome else o.isSome)),M)
    | none=>none
  | _=>none
theorem zK7 {o:Option D} {ov:Option V} (h:zOr L H o ov):ov.isSome = o.isSome:=by
  cases o with
  | none => have h' : ov = none := h
            rw [h']; rfl
  | some d=>obtain ⟨v,rfl,_⟩:=h; rfl
theorem zIL {K:PySem.W.Frag}:zAh K (fun y x H Q=>∃ a o,x = .ref a /\ zCv H a y o /\ Q (.bl o.isSome) H) (zFe false):=by
 intro L M M' H H0 x y d v w Q c rx ry hk q;unfold zFe at hk;split at hk
 ·rename_i k;split at hk
  ·rename_i o e1;cases hk;obtain ⟨a,ov,rfl,h1,h2⟩:=zGm c ry rx e1;refine ⟨a,ov,rfl,h1,?_⟩;rw [zK7 h2];exact q L H _ (.refl L H) c (zAe (L:=L) (H:=H))
  ·cases hk
 ·cases hk
theorem zPY (hu:X.A.units + 1 < cLine) (h1:QE X a f) (h2:QE X b g) (hm:behindInMarks .In b = false:=by rfl):QE X (.Compare a [.In] [b] pos) (fOp (zFe false) f g):=.mk <| PE.imp (zNP (zLE hu h1.un h2.un) hm) fun _ _ _ h=>zBu zIL h
theorem zNk (hu:X.A.units + 1 < cLine) (h1:QE X a f) (h2:QE X b g) (hm:behindInMarks .In b = false:=by rfl):QT X (.Compare a [.In] [b] pos) (tst (fOp (zFe false) f g)):=.mk <| PT.imp (zNA (zLE hu h1.un h2.un) hm) fun _ _ _ h=>zCe (fun _ _ _ z=>zBu zIL z) (zCT h)
def zGT (fv fo fi:FE):FS:=fun σ M=>match toD fv σ M with
 | some (v,M1)=>match toD fo σ M1 with
  | some (.ref n,M2)=>match toD fi σ M2 with
   | some (k,M3)=>match zFS M3 n k v with
    | some M4=>some (.nx,σ,M4)
    | none=>none
   | none=>none
  | _=>none
 | none=>none
theorem zOB (hu:X.A.units + 1 < cLine) (hv:QE X value f) (ho:QE X o g) (hi:QE X i h) (hs:swapsWith value (some (.Subscript o i pos')) pos.line X.env = pure false:=by rfl):QS X (.Assign [.Subscript o i pos'] value pos) (zGT f g h) :=
 .mk <| PS.imp (zLZ hu (zBy ho).un (zBy hi).un (zBy hv).un hs) fun E τ H zz=>by
  obtain ⟨L,σ,M,out,σ',M',c,rs,hf,q⟩:=zz;unfold zGT at hf;split at hf
  ·rename_i v M1 e1;split at hf
   ·rename_i n M2 e2;split at hf
    ·rename_i k M3 e3;split at hf
     ·rename_i M4 e4;cases hf;refine (mkD c rs e1 (fun L1 H1 u s1 c1 r1=>(mkD c1 (rs.stp s1) e2 (fun L2 H2 y s2 c2 r2=>(mkD c2 ((rs.stp s1).stp s2) e3 (fun L3 H3 z s3 c3 r3=>?_))))));unfold Rep at r2;obtain ⟨a,rfl,ea⟩:=r2;have ea3:L3[n]? = some a:=by obtain ⟨N,hN⟩:=s3.pre; rw [hN]; exact zCN ea
      obtain ⟨H4,h1,h2,h3⟩:=zLG c3 ea3 r3 ((r1.stp s2).stp s3) e4;exact ⟨a,H4,rfl,h1,q L3 H4 (((s1.trans s2).trans s3).trans h3) h2 τ ((((rs.stp s1).stp s2).stp s3).stp h3)⟩
     ·cases hf
    ·cases hf
   ·cases hf
  ·cases hf
end
end L3
namespace L2
open PySem PySem.Spec PyProof.Rows
end L2
namespace L3
open PySem PySem.Spec PyProof.Rows L2
open Builtin
theorem zD9:fillsNumberSlot (.type "tuple") "mul" = pure false :=
 PySem.fillsNumberSlot_seq F.slot_tuple_mul.lookup (by decide +kernel) F.slot_tuple_rmul.lookup (by decide +kernel)
theorem zH2:seqRepeat? (.type "tuple") = pure (some (.builtin "tuple.__mul__")):=by
 unfold seqRepeat?;rw [PySem.seqSlot_of (name := "__mul__") F.slot_tuple_mul.lookup (by decide +kernel),PySem.seqSlot_of (name := "__rmul__") (id := "tuple.__rmul__") F.slot_tuple_rmul.lookup (by decide +kernel)];rfl
theorem zJ2 (a:Int) (t:Tok) (l:Addr) (items:Array Value) (n:Nat) (dd:Option Addr) (sl:Array (Option Value)) :
  Meets (Builtin.«int.__rmul__» ⟨[.int a t,.ref l],[]⟩) (fun _ R s=>s.heap.get? l = some { cls:=.type "tuple", dict:=dd,data:=.seq items n,slots:=sl } /\ R (.ok (.ret Value.notImplemented)) s) :=
 .of_wp fun prog w A R s h=>by obtain ⟨hp,g,d,tk,os⟩:=s; obtain ⟨hl,h⟩:=h; wp_walk using wpAny_loadPart' hl; exact ⟨_,rfl,h⟩
theorem zGy (l:Addr) (items:Array Value) (n:Nat) (dd:Option Addr) (sl:Array (Option Value)) (u:Tok) :
  Meets (Builtin.«tuple.__mul__» ⟨[.ref l,.int 1 u],[]⟩) (fun _ R s=>s.heap.get? l = some { cls:=.type "tuple", dict:=dd,data:=.seq items n,slots:=sl } /\ R (.ok (.ret (.ref l))) s) :=
 .of_wp fun prog w A R s h=>by
  obtain ⟨hp,g,d,tk,os⟩:=s; obtain ⟨hl,h⟩:=h;have f1:=AutoSeq1.idx_int;wp_walk using wpAny_loadPart' hl;exact ⟨_,rfl,h⟩
theorem zG1 (l:Addr) (items:Array Value) (n:Nat) (dd:Option Addr) (sl:Array (Option Value)) (x:Int) (u:Tok) (h0:¬ (decide (x < -(2 ^ 63)) || decide (x ≥ 2 ^ 63)) = true) (h1:¬ (items.isEmpty || x == 1) = true) (h2:¬ (decide (x <= 0) || items.isEmpty) = true) (h3:¬ (items.size:Int) * x > (2 ^ 63 - 1) / 8) (h4:¬ Builtin.Tuple.tupleTooMany (items.size * x) = true)
  (hsz:(List.foldl (fun x1 x2=>x1 ++ x2) #[] (List.replicate x.toNat items)).size <= sizeLine) :
  Meets (Builtin.«tuple.__mul__» ⟨[.ref l,.int x u],[]⟩) (fun _ R s=>s.heap.get? l = some { cls:=.type "tuple", dict:=dd,data:=.seq items n,slots:=sl } /\ R (.ok (.ret (Value.ref s.heap.objs.size))) { s with heap:=s.heap.push { cls:=Value.type "tuple", data:=Data.seq (List.foldl (fun x1 x2=>x1 ++ x2) #[] (List.replicate x.toNat items)) },toks:=s.toks }) :=
 .of_wp fun prog w A R s h=>by
  obtain ⟨hp,g,d,tk,os⟩:=s; obtain ⟨hl,h⟩:=h;have f1:=AutoSeq1.idx_int;wp_walk using wpAny_loadPart' hl;rw [zQX h0];wp_walk using wpAny_loadPart' hl;rw [zQX h3];wp_walk using wpAny_loadPart' hl;all_goals first | exact ⟨_,rfl,h⟩ | skip
section
def zMi (K:PySem.W.Frag):R2:=fun x y H Q=>∃ a k xs,x = .ref a /\ y = .int k /\ SqT K H a xs /\ xs ≠ [] /\ 1 <= k /\ xs.length * k.toNat <= sizeLine /\
 (k = 1 -> Q (.ref a) H) /\ (k ≠ 1 -> ∀ p,H p = none -> Q (.ref p) (upd H p (.tup (List.replicate k.toNat xs).flatten)))
theorem zLN:OpR X (binaryOp .Mult) (zMi X.K):=by
 intro zB s σ H x y v u Q I rx ry h;obtain ⟨a,k,xs,rfl,rfl,ha,hx,hk,hz,q1,q2⟩:=h;cases rx;obtain ⟨t,rfl⟩:=ry;obtain ⟨its,r,p1,_⟩:=I.tuple ha;obtain ⟨⟨cls,dd,data,sl⟩,ho,hc,n,hd⟩:=id p1;simp only at hc hd;subst hc hd;have hl:its.toArray.size = xs.length:=by rw [zQN]; exact r.length.symm
 have hx0:0 < xs.length:=List.length_pos_iff.mpr hx;have hkz:k.toNat <= sizeLine:=zQg (Nat.le_mul_of_pos_left _ hx0) hz;have hk63:k < 2 ^ 63:=by
  have:(sizeLine:Nat) < 2 ^ 62:=by decide
  omega
 refine wpAny_binaryOp_repeat_ref (by decide) ⟨_,ho,rfl⟩ (fun s'=>typeIs_int s' k t) zD9 F.fills_int_mul F.slot_int_rmul zH2 F.slot_int_index.lookup
  (call_meets F.slot_int_rmul (typeIs_int s k t) F.entry_int_rmul (F.args_int_rmul_2 _ _) (zJ2 k t a its.toArray n dd sl)
   ⟨ho,rfl,⟨_,ho,rfl⟩,?_⟩)
 by_cases h1:k = 1
 ·subst h1;exact call_meets F.slot_tuple_mul ⟨_,ho,rfl⟩ F.entry_tuple_mul (F.args_tuple_mul_2 _ _) (zGy a its.toArray n dd sl t) ⟨ho,⟨.ref a,H,I,rfl,q1 rfl⟩⟩
 ·have hnew:List.foldl (fun x1 x2=>x1 ++ x2) #[] (List.replicate k.toNat its.toArray) = (List.replicate k.toNat its).flatten.toArray:=by
   have:=zDL its k.toNat [];rw [List.nil_append] at this;exact this
  have hlr:(List.replicate k.toNat its).flatten.length <= sizeLine:=by
   rw [zFy,<- r.length,Nat.mul_comm]; exact hz
  have hem:its.toArray.isEmpty = false:=by
   rw [Array.isEmpty_eq_false_iff]; intro z; rw [z] at hl; simp at hl; omega
  have hprod:((its.toArray.size:Int)) * k = ((xs.length * k.toNat:Nat):Int):=by
   rw [hl]; rw [Int.natCast_mul,show ((k.toNat:Nat):Int) = k by omega]
  refine call_meets F.slot_tuple_mul ⟨_,ho,rfl⟩ F.entry_tuple_mul (F.args_tuple_mul_2 _ _) (zG1 a its.toArray n dd sl k t ?_ ?_ ?_ ?_ ?_ ?_) ⟨ho,?_⟩
  ·rw [zQo (by omega),zQo (by omega)]; decide
  ·rw [hem,Bool.false_or]; intro z; exact h1 (eq_of_beq z)
  ·rw [hem,Bool.or_false,zQo (by omega)]; decide
  ·rw [hprod];have:(sizeLine:Nat) <= (2 ^ 63 - 1) / 8:=by decide
   omega
  ·rw [hprod];unfold Builtin.Tuple.tupleTooMany;rw [zQo (by omega)]; decide
  ·rw [hnew,zQN]; exact hlr
  ·rw [hnew];refine ⟨.ref s.heap.objs.size,_,I.laid (fun b ob q=>zQG _ q) (zQL _) ?_,rfl,q2 h1 _ (I.hok.fresh (zQL _))⟩;exact ⟨by rw [zFy,Nat.mul_comm]; exact hz,_,r.rep k.toNat,zA0.new _ _⟩
theorem zG.rep (h:zG L H ds vs):∀ k:Nat,zG L H (List.replicate k ds).flatten (List.replicate k vs).flatten
 | 0=> .nil
 | k + 1=>by
  rw [zRY,zRY,zSE,zSE];exact zG.app h (zG.rep h k)
def zJU:K2:=fun x y M=>match y with
 | .dat (.int k)=>match zBR x with
  | some xs=>if 0 < xs.length /\ 1 <= k /\ xs.length * k.toNat <= sizeLine then some (.dat (.tup (List.replicate k.toNat xs).flatten),M) else none
  | none=>match zEv M x with
   | some xs=>if -(2 ^ 63) <= k /\ k < 2 ^ 63 /\ xs.length * k.toNat <= sizeLine then some (.fl (List.replicate k.toNat xs).flatten,M) else none
   | none=>none
 | _=>none
theorem zLk {K:PySem.W.Frag}:zAh K (fun x y H Q=>zOt x y H Q \/ zMi K x y H Q) zJU:=by
 intro L M M' H H0 x y d v w Q c rx ry hk q;unfold zJU at hk;split at hk
 ·rename_i k;have hw:w = .int k:=by unfold zT Rep at ry; exact ry
  subst hw;split at hk
  ·rename_i xs e1;split at hk
   ·rename_i hz;cases hk;obtain ⟨p1,vs,rfl,h1,r1⟩:=zA9 rx e1;refine .inr ⟨p1,k,vs,rfl,rfl,.of h1,?_,hz.2.1,by rw [r1.length]; exact hz.2.2,fun z=>?_,fun z pp hp=>?_⟩
    ·intro z; have:=r1.length; rw [z] at this; simp at this; omega
    ·subst z;refine q L H _ (.refl L H) c ?_;have:(List.replicate (1:Int).toNat xs).flatten = xs:=by simp
     rw [this];unfold zT Rep;exact ⟨p1,vs,rfl,h1,r1⟩
    ·exact q L _ _ (.upd hp) (c.upd hp) (Rep.newTup hp (r1.rep k.toNat))
   ·cases hk
  ·split at hk
   ·rename_i xs e1;split at hk
    ·rename_i hz;cases hk;obtain ⟨l,vs,rfl,h1,r1⟩:=zIC c rx e1;refine .inl ⟨l,k,vs,rfl,rfl,h1,hz.1,hz.2.1,by rw [r1.length]; exact hz.2.2,fun p hp=>?_⟩;exact q L _ _ (.upd hp) (c.upd hp) (zT.newLst (.refl L H) c c hp (r1.rep k.toNat))
    ·cases hk
   ·cases hk
 ·cases hk
theorem zO5 (h1:QE X a f) (h2:QE X b g):QE X (.BinOp a .Mult b pos) (fOp zJU f g):=zEy zLk (zN8.or zLN) h1 h2
end
end L3
namespace HT
open PySem PySem.Spec PyProof.Rows
end HT
namespace L3
open PySem PySem.Spec PyProof.Rows L2
section
variable {X:Cx} {a e e2 o:Expr} {pos p apos cpos:Pos} {f:FE}
def zHu (f:FE):FT:=fun σ M=>match f σ M with
 | some (x,M1)=>match zAG M1 x with
  | some xs=>some (!xs.isEmpty,M1)
  | none=>none
 | none=>none
theorem zMb (h:QE X a f) (he:∀ whole,isTrue a X.env whole = (do let v <- whole; standAt a.pos; holding [v] (truthy v)):=by intro _; rfl):QT X a (zHu f) :=
 .mk <| PT.imp (zGY h.un he) fun τ H Q zz=>by
  obtain ⟨L,σ,M,d,M',c,rs,hf,q⟩:=zz;unfold zHu at hf;split at hf
  ·rename_i x M1 e1;split at hf
   ·rename_i xs e2;cases hf;refine (mkE c rs e1 (fun L1 H1 v s1 c1 r1=>⟨!xs.isEmpty,?_,q L1 H1 s1 c1⟩));unfold zAG at e2;have emp:∀ {vs:List V},zG L1 H1 xs vs -> (!xs.isEmpty) = !vs.isEmpty:=fun {vs} r=>by
     have:=r.length;cases xs <;> cases vs <;> first | rfl | simp at this
    cases t:zBR x with
    | some ws=>
     rw [t] at e2; cases e2;obtain ⟨l,vs,rfl,e3,r3⟩:=zA9 r1 t;exact .inr (.inl ⟨vs,.of e3,emp r3⟩)
    | none=>
     rw [t] at e2;dsimp only at e2;obtain ⟨l,vs,rfl,e3,r3⟩:=zAg c1 r1 e2;exact .inl ⟨vs,.inl e3,emp r3⟩
   ·cases hf
  ·cases hf
theorem zJO:zBj X (.builtin "len") (fun xs H Q=>∃ (p:Addr) (kvs:List (Key × V)),xs = [.ref p] /\ H p = some (.dK kvs) /\ Q (.int kvs.length) H):=by
 intro zB s σ H xs us Q I r h;obtain ⟨p,kvs,rfl,hx,q⟩:=h;obtain ⟨u,rfl,rx⟩:=zCy r;cases rx;have hn:=zB4;obtain ⟨hz,hS,vs,r',m⟩:kvs.length <= sizeLine /\ (p == sysModules) = false /\ ∃ vs,KV kvs vs /\ s.heap.DictOf (zw X.prog X.w) p vs:=I.hok p _ hx;have hlen:kvs.length = vs.length:=Paired.length r';exact call_len_dict hS m (by omega) ⟨.int kvs.length,H,I.tok _,⟨s.toks + 1,by rw [hlen]⟩,q⟩
def zDr:KB:=fun xs M=>match xs with
 | [.dat (.ref n)]=>match M[n]? with
  | some (.dict kvs)=>some (.dat (.int kvs.length),M)
  | _=>none
 | _=>none
theorem zJn {K:PySem.W.Frag}:zEH K (fun xs H Q=>∃ (p:Addr) (kvs:List (Key × V)),xs = [.ref p] /\ H p = some (.dK kvs) /\ Q (.int kvs.length) H) zDr:=by
 intro L M M' H H0 xs d vs Q c r hk q;unfold zDr at hk;split at hk
 ·rename_i n;split at hk
  ·rename_i kvs e1;cases hk;obtain ⟨v,rfl,r1⟩:=r.one;unfold zT Rep at r1;obtain ⟨a,rfl,e2⟩:=r1;obtain ⟨ws,e3,r3⟩:=c.obj n a _ e2 e1;have hl:=r3.length;refine ⟨a,ws,rfl,e3,?_⟩;have:=q L H (.int kvs.length) (.refl L H) c (zAF (L:=L) (H:=H));rw [<- hl] at this; exact this
  ·cases hk
 ·cases hk
theorem zNo (hg:Gl X "len") (hm:X.mg "len" = none) (ha:QAE X [e] fa) (he:starEach [e] X.env = (false,eval e X.env) :: starEach [] X.env:=by rfl) (hpl:(backTo pos (starEach [] X.env)).any (·.1) = false:=by rfl):QE X (.Call (.Name "len" p) [e] [] pos) (fB zDr fa) :=
 zDI zJn zJO PySem.boot_len hg hm ha (by decide) (by decide) he hpl
end
end L3
namespace L2
open PySem PySem.Spec PyProof.Rows
end L2
namespace L3
open PySem PySem.Spec PyProof.Rows L2
end L3
namespace L2
open PySem PySem.Spec PyProof.Rows
end L2
namespace L3
open PySem PySem.Spec PyProof.Rows L2
open SeqAt
structure Df (K:PySem.W.Frag) (mg:Str -> Option Value) (x:Str) (st:Stmt) (ps:List Str) where
 f:Addr
 fd:FuncData
 F:Fun K x x st f fd
 b:zEb K fd ps []
 m:mg x = some (.ref f)
structure Dg (K:PySem.W.Frag) (x:Str) (st:Stmt) where
 f:Addr
 {od an:Option Addr}
 {sl:Array (Option Value)}
 {oc kV dc pm cd ct:Value}
 a:PySem.W.nsIn K mainGlobals x = some (some (.ref f))
 l:K.lookup f = some ⟨oc,od,.func (PySem.W.fnOf x x (zCS st) (zBY st) (zO st) .none kV dc pm an cd ct),sl⟩
 c:PySem.W.codeIn K cd x = true
 k:PySem.W.keepIn K (.ref f) = true
abbrev Dg.df {K:PySem.W.Frag} {x:Str} {st:Stmt} {ps:List Str} {h:Heap} {mg:Str -> Option Value} (g:Dg K x st) (X:K.In h) (G:h.Ns mainGlobals mg)
  (hb:∀ (kV doc pm:Value) (an:Option Addr) (cdv ct:Value) (us:List Value),us.length = ps.length -> bindArgs (PySem.W.fnOf x x (zCS st) (zBY st) (zO st) .none kV doc pm an cdv ct) ⟨us,[]⟩ = pure (ps.zip us)):Df K mg x st ps :=
 ⟨g.f,_,zLD g.l g.c g.k,(zLD g.l g.c g.k).binds hb,PySem.W.mg_of X G g.a⟩
abbrev Od (P:Program) (w:World) (base:Heap) (k:Nat) {K:PySem.W.Frag} {mg:Str -> Option Value} {x:Str} {st:Stmt} {ps:List Str} (d:Df K mg x st ps) (m:FF):Prop:=FnOk P w K mg base CX0 k d.f d.fd ps (spF K ps.length m)
abbrev Zn (K:PySem.W.Frag) (x:Str):Prop:=PySem.W.nsIn K mainGlobals x = some none
abbrev Ki (K:PySem.W.Frag) (t T:String) (b:Bool):Prop:=PySem.W.kitOne K (.type t) (.type T) = some b
theorem zGL {P:List Value -> Prop} (h:∀ a,P [a]):∀ us:List Value,us.length = 1 -> P us
 | [a],_=>h a
theorem zJT {P:List Value -> Prop} (h:∀ a b,P [a,b]):∀ us:List Value,us.length = 2 -> P us
 | [a,b],_=>h a b
theorem zPM {P:List Value -> Prop} (h:∀ a b c,P [a,b,c]):∀ us:List Value,us.length = 3 -> P us
 | [a,b,c],_=>h a b c
theorem zPm {P:List Value -> Prop} (h:∀ a b c d e,P [a,b,c,d,e]):∀ us:List Value,us.length = 5 -> P us
 | [a,b,c,d,e],_=>h a b c d e
section
variable {st:Stmt}
theorem zOl {d:Df X.K X.mg x st ps} (F:FnOk X.prog X.w X.K X.mg X.base CX0 k d.f d.fd ps (spF X.K (e :: es).length g)) (hr:Room k X.A) (hg:Gl X x)
  (ha:QA X (e :: es) fa) (hl:∀ σ M ds M1,fa σ M = some (ds,M1) -> ds.length = (e :: es).length) (hdb:(x == ("__debug__" : Str)) = false) (he:starEach (e :: es) X.env = (false,eval e X.env) :: starEach es X.env) (hpl:(backTo pos (starEach es X.env)).any (·.1) = false) :
  QE X (.Call (.Name x p) (e :: es) [] pos) (zU g fa):=zNB F hr hg d.m d.F.kp d.b ha hl hdb he hpl
theorem zPw (hN:X.N.Nodup) (hi:X.N[i]? = some x) (h:QE X e f) (hx:Loc X.env.scope x:=by first | exact Or.inl rfl | exact Or.inr rfl) (hs:swapsWith e (some (.Name x pos')) pos.line X.env = pure false:=by rfl)
  (hf:X.fn x = true \/ X.env.scope.names.lookup x = some .local:=by first | exact .inl rfl | exact .inr rfl | assumption):QS X (.Assign [.Name x pos'] e pos) (zAI i f):=zPP hN hi hx h hs hf
theorem zJ4 (hN:X.N.Nodup) (hi:X.N[i]? = some x) (hx:Loc X.env.scope x:=by first | exact Or.inl rfl | exact Or.inr rfl) (hf:X.fn x = true \/ X.env.scope.names.lookup x = some .local:=by first | exact .inl rfl | exact .inr rfl | assumption):PG X (.Name x pos) (zC7 i):=zIk hN hi hx hf
end
section
theorem zKX (hd:(d == sysModules) = false) (hT:s.TypeIs (.ref d) "dict") (ho:s.heap.get? d = some o) (hdat:o.data = .dict es ep)
  (hQ:Q (.ref s.heap.objs.size) { s with heap:=s.heap.push { cls:=.type "dict_keyiterator", data:=.fields #[.ref d,.int 0 0,.int es.size 0,.int ep 0] } }):wpAny (model prog w) A (pyIter (.ref d)) Q E s:=by
 refine wpAny_pyIter_slot hT F.slot_dict_iter (zQs F.slot_dict_iter hT F.entry_dict_iter ?_ (F.args_dict_iter_1 _));unfold Builtin.«dict.__iter__»;refine zQF ?_;unfold Builtin.Dict.dictSlotNone;refine zQF (wpAny_notOrdered_dict hT ?_);refine zQH ?_;show wpAny _ _ (Builtin.Dict.showsAll d >>= _) _ _ s;unfold Builtin.Dict.showsAll;rw [zQX (by rw [hd]; exact zQb)];refine zQF (zQH (zQF (wpAny_dictEntries ho hdat (zQF (wpAny_dictEpoch ho hdat ?_)))));refine zQF (zQi (zQH ⟨_,rfl, "dict_keyiterator", _,⟨_,zQP _ rfl,rfl⟩,F.slot_dict_keyiterator_next.lookup,?_⟩));simpa [rawInt] using hQ
theorem zJa (hit:s.heap.IsKeyIter it d i es.size ep) (hod:s.heap.get? d = some o) (hdd:o.data = .dict es ep) (hx:es[i]? = some e)
  (hQ:∀ h',h'.IsKeyIter it d (i + 1) es.size ep -> Heap.SameBut it s.heap h' -> Q (some e.key) { s with heap:=h' }):wpAny (model prog w) A (pyNext (.ref it)) Q E s:=by
 obtain ⟨q,ho,hc,hd⟩:=id hit;obtain ⟨hlt,hxe⟩:=Array.getElem?_eq_some_iff.mp hx;unfold pyNext;refine zQF (wpAny_attempt (zQr hit.typeIs F.slot_dict_keyiterator_next (zQs F.slot_dict_keyiterator_next hit.typeIs F.entry_dict_keyiterator_next ?_ (F.args_dict_keyiterator_next_1 _))));refine zQF (zQH (zQF (zQF ?_)));first | refine zQF (wpAny_typeNameOfWhole_keyiter hit.typeIs (zQH ?_)) | refine zQF (wpAny_typeNameOf_keyiter hit.typeIs (zQH ?_))
 refine zQF (wpAny_fieldsOf ho hd ?_);simp only [show Builtin.Dict_items.ownsTuple "dict_keyiterator" = false by decide,Bool.false_eq_true,if_false];show wpAny _ _ (if (Value.ref d == Value.none) = true then _ else _) _ _ s;rw [zQX (show ¬ ((Value.ref d == Value.none) = true) from zQb)];refine zQF (zQH (zQF (wpAny_dictEntries hod hdd ?_)));rw [zQX (by simp)];refine zQF (zQH (zQF (wpAny_dictEpoch hod hdd ?_)));rw [zQX (by simp)];refine zQH ?_;simp only [show ¬ ((i:Int) < 0) from by omega,if_false,zSz,Array.getElem?_eq_getElem hlt,hxe];refine zQF ?_;first | refine zQF (wpAny_typeNameOfWhole_keyiter hit.typeIs (zQH ?_)) | refine zQF (wpAny_typeNameOf_keyiter hit.typeIs (zQH ?_))
 refine zQF (wpAny_isOneOf_keyiter hit.typeIs ?_);show wpAny _ _ (setField (.ref it) 1 (rawInt ((i:Int) + 1)) >>= _) _ _ s;refine zQF (wpAny_setField ho hd (by simp) ?_);have hit':(s.heap.update it (Obj.mapFields (·.setIfInBounds 1 (rawInt ((i:Int) + 1))))).IsKeyIter it d (i + 1) es.size ep :=
  ⟨_,Heap.get?_update_self _ ho (Obj.isFreed_of_fields (Obj.data_mapFields hd _)),(Obj.cls_mapFields ..).trans hc,by rw [Obj.data_mapFields hd]; simp [rawInt]⟩
 refine zQF (wpAny_holding (zQF (wpAny_isOneOf_keyiter hit'.typeIs ?_)));exact zQH (zQH ⟨_,rfl,zQH (hQ _ hit' (Heap.SameBut.update ..))⟩)
theorem zLq (hh:A.handled = none) (hit:s.heap.IsKeyIter it d i es.size ep) (hod:s.heap.get? d = some o) (hdd:o.data = .dict es ep) (hge:es.size <= i)
  (hQ:∀ h',Heap.ExtBut it s.heap h' -> Q none { s with heap:=h' }):wpAny (model prog w) A (pyNext (.ref it)) Q E s:=by
 obtain ⟨q,ho,hc,hd⟩:=id hit;unfold pyNext;refine zQF (wpAny_attempt (zQr hit.typeIs F.slot_dict_keyiterator_next (zQs F.slot_dict_keyiterator_next hit.typeIs F.entry_dict_keyiterator_next ?_ (F.args_dict_keyiterator_next_1 _))));refine zQF (zQH (zQF (zQF ?_)));first | refine zQF (wpAny_typeNameOfWhole_keyiter hit.typeIs (zQH ?_)) | refine zQF (wpAny_typeNameOf_keyiter hit.typeIs (zQH ?_))
 refine zQF (wpAny_fieldsOf ho hd ?_);simp only [show Builtin.Dict_items.ownsTuple "dict_keyiterator" = false by decide,Bool.false_eq_true,if_false];show wpAny _ _ (if (Value.ref d == Value.none) = true then _ else _) _ _ s;rw [zQX (show ¬ ((Value.ref d == Value.none) = true) from zQb)];refine zQF (zQH (zQF (wpAny_dictEntries hod hdd ?_)));rw [zQX (by simp)];refine zQF (zQH (zQF (wpAny_dictEpoch hod hdd ?_)));rw [zQX (by simp)];refine zQH ?_;simp only [show ¬ ((i:Int) < 0) from by omega,if_false,zSz,Array.getElem?_eq_none hge];refine zQF ?_;first | refine zQF (wpAny_typeNameOfWhole_keyiter hit.typeIs (zQH ?_)) | refine zQF (wpAny_typeNameOf_keyiter hit.typeIs (zQH ?_))
 show wpAny _ _ (setField (.ref it) 0 .none >>= _) _ _ s;refine zQF (wpAny_setField ho hd (by simp) ?_);refine zQF ?_;simp only [newExc,newTuple];refine zQF (zQi ?_ (by size_fits));refine zQF (wpAny_of_eq (by first | rfl | (simp only [firstArgMember]; rfl)) ?_);refine zQi ?_ (by size_fits);simp only [raiseNew];refine zQF (wpAny_handled ?_);rw [show A.in1.handled = none from hh];refine zQF (zQH (wpAny_throw ?_));refine zQF (wpAny_isInstance ⟨_,zQP _ rfl,rfl⟩ isSubtype_stop ?_);exact zQH (hQ _ (((Heap.SameBut.update ..).extBut.push _).push _))
theorem zJ5 (lo:(d == sysModules) = false) (hc:o.cls = .type "dict") (hdd:o.data = .dict es ep):PySem.W.KdlSrc prog w "dict" d d es.size (fun i v=>∃ e,es[i]? = some e /\ v = e.key) (fun h=>h.get? d = some o) where
 type:=fun _ h=>⟨o,h,hc⟩;there:=fun _ h=>⟨zQQ h,zQQ h⟩;keep:=fun _ _ h k=>k d (.inl rfl) o h;notList:=by decide
 notTuple:=by decide
 hint:=fun _ _ _ _ h hq=>PySem.W.kdl_hint_dict ⟨o,h,hc⟩ hq
 iter:=fun A s hh h=>⟨_,fun i h'=>h'.IsKeyIter s.heap.objs.size d i es.size ep /\ h'.get? d = some o,(fun _ _ hq=>zKX lo ⟨o,h,hc⟩ h hdd hq),⟨fun b hb=>by simp at hb; simp [hb],
  fun _ _ _ st hk=>⟨st.1.at fun o e=>hk _ (by simp) o e,hk d (by simp) o st.2⟩,
  fun i s2 Q E hi st hQ=>zJa (e:=es[i]) st.1 st.2 hdd (by simp [hi]) fun h' hit' hs'=>hQ _ h' s2.toks ⟨es[i],by simp [hi],rfl⟩ ⟨hit',hs'.extBut _ _ (zQa (zQQ h)) st.2⟩ fun b q hb e=>hs'.extBut b q (fun z=>hb (by simp [z])) e,
  fun s2 Q E st hQ=>zLq hh st.1 st.2 hdd (zQL _) fun h' he'=>hQ h' s2.toks fun b q hb e=>he' b q (fun z=>hb (by simp [z])) e,
  fun _ _ _ _ st hQ=>wpAny_pyIter_keyiter st.1 hQ⟩,⟨⟨_,zQP _ rfl,rfl,rfl⟩,zQG _ h⟩⟩
end
theorem zIK:∀ {ys:List V} {us:List Value},ys.length = us.length -> (∀ (i:Nat) y u,ys[i]? = some y -> us[i]? = some u -> zf y u) -> zW ys us
 | [],[],_,_=> .nil
 | [],_ :: _,h,_=>by cases h
 | _ :: _,[],h,_=>by cases h
 | y :: ys,u :: us,h,q=> .cons (q 0 y u rfl rfl) (zIK (Nat.succ.inj h) fun i y' u' e1 e2=>q (i + 1) y' u' (by simpa using e1) (by simpa using e2))
end L3
namespace ST
open PySem PySem.Spec PyProof.Rows
section
variable {prog:Program} {w:World} {A:Around} {E:Value -> Shared -> Prop} {s:Shared} {κ:SortKind} {vs:List Value}
theorem zKV (K:PySem.W.KdlSrc prog w T r d n P OK) (hh:A.handled = none) (hok:OK s.heap) (hSr:S ≠ r) (hSd:S ≠ d) (hS:s.heap.get? S = some { cls:=.type "list", data:=.seq #[] })
  (hR:∀ h' tk acc c',(∀ b u,b ≠ S -> s.heap.get? b = some u -> h'.get? b = some u) -> h'.get? S = some { cls:=.type "list", dict:=none,data:=.seq acc c',slots:=#[] } -> ItemsOf P acc n -> R (.ok (.ret (.ref S))) { s with heap:=h',toks:=tk }) (hn:n <= sizeLine):codeAny (model prog w) A (.builtin "list.__iadd__" ⟨[.ref S,.ref r],[]⟩) R s:=by
 refine codeAny_builtin F.entry_list_iadd ?_;rw [Around.under_plainId F.plain_list_iadd _];exact PySem.W.kdl_extend K hh hok S hSr hSd (.ref S) 0 hS hR hn
theorem zGZ (K:PySem.W.KdlSrc prog w T r d n P OK) (hh:A.handled = none) (hok:OK s.heap) (hn:n <= sizeLine)
  (hQ:∀ h' tk acc,(∀ b u,s.heap.get? b = some u -> h'.get? b = some u) -> s.heap.objs.size <= h'.objs.size -> ItemsOf P acc n -> Q acc.toList { s with heap:=h',toks:=tk }):wpAny (model prog w) A (collect (.ref r)) Q E s:=by
 unfold collect;refine zQF (wpAny_runValue (codeAny_builtin F.entry_proto_collect ?_));rw [Around.under_plainId F.plain_proto_collect _];have hlt:=K.there _ hok;refine zQF (zQi (zQH ⟨plainId_quiet F.plain_list_iadd _,zKV K hh (K.keep _ _ hok fun b _ o e=>zQG _ e) (Nat.ne_of_gt hlt.1) (Nat.ne_of_gt hlt.2) (zQP _ rfl) (fun h' tk acc c' hk hS' hacc=>?_) hn⟩));exact zQF (wpAny_load hS' (zQH (hQ h' tk acc (fun b u e=>hk b u (zQa (zQQ e)) (zQG _ e)) (Nat.le_of_lt (zQQ hS')) hacc)))
end
end ST
namespace L3
open PySem PySem.Spec PyProof.Rows L2 ST
end L3
namespace ST
open PySem PySem.Spec PyProof.Rows
section
variable {prog:Program} {w:World} {A:Around} {E:Value -> Shared -> Prop} {s:Shared} {κ:SortKind} {vs:List Value} {r:Value -> Nat} {a b:Array Keyed}
theorem zQE {α β:Type} {x:StateT SortSt Sem α} {f:α -> StateT SortSt Sem β} {Q:β -> SortSt -> Prop} {st:SortSt} {S:(α -> SortSt -> Prop) -> Prop} (h:∀ P,S P -> wpS (model prog w) A E s x P st) (g:S fun v st=>wpS (model prog w) A E s (f v) Q st):wpS (model prog w) A E s (x >>= f) Q st:=wpS_bind (h _ g)
end
end ST
namespace L3
open PySem PySem.Spec PyProof.Rows L2 ST
end L3
namespace L2
open PySem PySem.Spec PyProof.Rows
end L2
namespace L3
open PySem PySem.Spec PyProof.Rows L2
end L3
namespace L2
open PySem PySem.Spec PyProof.Rows ST
end L2
namespace L3
open PySem PySem.Spec PyProof.Rows L2 ST
theorem zE5:∀ {es:List DictEntry} {kvs:List (Key × Value)},Pairs (zw P w) es kvs -> ∀ (i:Nat) e,es[i]? = some e -> ∃ kv,kvs[i]? = some kv /\ zDn kv.1 e.key = true
 | _,_,.nil,i,e,h=>by simp at h
 | _,_,.cons h1 h2 h3,0,e,h=>by cases h; exact ⟨_,rfl,h1⟩
 | _,_,.cons h1 h2 h3,i + 1,e,h=>zE5 h3 i e (by simpa using h)
theorem zKU:∀ {kvs:List (Key × V)} {vs:List (Key × Value)},KV kvs vs -> vs.map (·.1) = kvs.map (·.1)
 | _,_,.nil=>rfl
 | _,_,.cons h1 h2=>by rw [zQY,zQY,zKU h2,h1.1]
open PySem.Builtin.Str (occurrences partsBetween)
def zBb (x y:Str):List Str:=if (decide (x.length < y.length) || decide (PySem.Builtin.Str.strKind x < PySem.Builtin.Str.strKind y)) = true then [x] else if (occurrences x y 0 x.length (x.length + 1)).isEmpty = true then [x] else partsBetween x (occurrences x y 0 x.length (x.length + 1)) y.length
theorem zFE:∀ (tk:Nat) (xs:List Str),zW (xs.map V.str) (strsFrom tk xs)
 | _,[]=> .nil
 | tk,x :: r=> .cons ⟨tk,rfl⟩ (zFE (tk + 1) r)
section
variable {X:Cx} {o e:Expr} {apos cpos pos p:Pos} {f g:FE}
theorem zKE:MtR X "str.split" (fun x vs H Q=>∃ a b,x = .str a /\ vs = [.str b] /\ b.length = 1 /\ a.length <= 100000 /\ ∀ l,H l = none -> Q (.ref l) (upd H l (.lst ((zBb a b).map V.str)))):=by
 intro zB s σ H x xs v us Q I rx rv z;obtain ⟨a,b,rfl,rfl,hb,ha,q⟩:=z;obtain ⟨t,rfl⟩:=rx;obtain ⟨u,rfl,ru⟩:=rv.one;obtain ⟨t2,rfl⟩:=ru;have hf:H s.heap.objs.size = none:=I.hok.fresh (zQL _);have hsz:sizeLine = 16777216:=sizeLine_eq;have hy:(b.length == 0) = false:=by rw [hb]; rfl
 have fin:∀ (tk:Nat) (vs:List Str) (its:List Value),zBb a b = vs -> vs.length <= 200000 -> zW (vs.map V.str) its -> EP X zB σ Q (.ref s.heap.objs.size) { s with toks:=tk,heap:=s.heap.push { cls:=.type "list", data:=.seq its.toArray } }:=fun tk vs its e hl hv=>by
  subst e;exact ⟨.ref s.heap.objs.size,_,I.laid (t':=tk) (fun b o e=>zQG _ e) (zQL _) (show zr X.prog X.w _ _ _ (.lst ((zBb a b).map V.str)) from ⟨by rw [zQO]; omega,its,0,hv,zQP _ rfl⟩),rfl,q _ hf⟩
 by_cases h1:(decide (a.length < b.length) || decide (PySem.Builtin.Str.strKind a < PySem.Builtin.Str.strKind b)) = true
 ·exact call_meets PySem.F.slot_str_split (typeIs_str _ _ _) PySem.F.entry_str_split (PySem.F.args_str_split_2 _ _) (meets_str_split_cannot_occur a b t t2 h1) (fin s.toks [a] _ (by unfold zBb; rw [zQU h1]) (by simp) (.cons ⟨t,rfl⟩ .nil))
 ·have h1':(decide (a.length < b.length) || decide (PySem.Builtin.Str.strKind a < PySem.Builtin.Str.strKind b)) = false:=by simpa using h1
  by_cases h2:(occurrences a b 0 a.length (a.length + 1)).isEmpty = true
  ·exact call_meets PySem.F.slot_str_split (typeIs_str _ _ _) PySem.F.entry_str_split (PySem.F.args_str_split_2 _ _) (meets_str_split_not_found a b t t2 h1' hy h2) (fin s.toks [a] _ (by unfold zBb; rw [zQX h1,zQU h2]) (by simp) (.cons ⟨t,rfl⟩ .nil))
  ·have hl:(partsBetween a (occurrences a b 0 a.length (a.length + 1)) b.length).length <= 200000:=by
    rw [length_partsBetween];have:=StrLaws.occ_length_le a b 0 a.length (a.length + 1);omega
   exact call_meets PySem.F.slot_str_split (typeIs_str _ _ _) PySem.F.entry_str_split (PySem.F.args_str_split_2 _ _) (meets_str_split_sep a b t t2 h1' hy (by simpa using h2) (by omega) (by omega)) (fin _ _ _ (by unfold zBb; rw [zQX h1,zQX h2]) hl (zFE _ _))
def zBm (f:FE) (fa:FAE):FE:=fun σ M=>match f σ M with
 | some (.dat (.str a),M1)=>match fa σ M1 with
  | some ([.dat (.str b)],M2)=>if b.length = 1 /\ a.length <= 100000 then some (.fl ((zBb a b).map D.str),M2) else none
  | _=>none
 | _=>none
theorem zMY (h1:QE X o f) (ha:QAE X [e] fa) (hbase:attributeBase o "split" X.env (eval o X.env) = eval o X.env:=by rfl)
  (hfew:((backTo cpos (starEach [e] X.env)).all (fun x=> !x.1) && (backToKw cpos (keywordEach [] X.env)).all (fun x=>x.1.isSome) && decide ([e].length + ([]:List Keyword).length + (if ([]:List Keyword).isEmpty then 0 else 1) < 30)) = true:=by rfl)
  (hline:(apos.endLine == cpos.line) = true:=by rfl) (hs:starEach [e] X.env = (false,eval e X.env) :: starEach [] X.env:=by rfl) (hplain:(backTo cpos (starEach [] X.env)).any (·.1) = false:=by rfl) :
  QE X (.Call (.Attribute o "split" apos) [e] [] cpos) (zBm f fa) :=
 .mk <| PE.imp (zII PySem.F.plainAttrs_str PySem.F.slot_str_split PySem.F.type_str_split zKE h1.un ha.un hbase hfew hline hs hplain) fun τ H Q zz=>by
  obtain ⟨L,σ,M,d,M',c,rs,hf,q⟩:=zz;unfold zBm at hf;split at hf
  ·rename_i a M1 e1;split at hf
   ·rename_i b M2 e2;split at hf
    ·rename_i hz;cases hf;refine ⟨L,σ,M,_,_,c,rs,e1,fun L1 H1 v s1 c1 r1=>?_⟩;rw [zo r1];refine ⟨rfl,L1,σ,M1,_,_,c1,rs.stp s1,e2,fun L2 H2 vs s2 c2 r2=>?_⟩;obtain ⟨v2,rfl,r3⟩:=r2.one;rw [zo r3];exact ⟨a,b,rfl,rfl,hz.1,hz.2,fun l hl=>q L2 _ _ ((s1.trans s2).trans (.upd hl)) (c2.upd hl) (zT.newLst (s1.trans s2) c c2 hl (zE4 _))⟩
    ·cases hf
   ·cases hf
  ·cases hf
def zIj (f:FE):FT:=fun σ M=>match f σ M with
 | some (.dat (.str z),M1)=>if z.length <= 100000 then some (z.length != 0,M1) else none
 | _=>none
theorem zLL (h:QE X a f) (he:∀ whole,isTrue a X.env whole = (do let v <- whole; standAt a.pos; holding [v] (truthy v)):=by intro _; rfl):QT X a (zIj f) :=
 .mk <| PT.imp (zGY h.un he) fun τ H Q zz=>by
  obtain ⟨L,σ,M,d,M',c,rs,hf,q⟩:=zz;unfold zIj at hf;split at hf
  ·rename_i z M1 e1;split at hf
   ·rename_i hz;cases hf;refine ⟨L,σ,M,_,_,c,rs,e1,fun L1 H1 v s1 c1 r1=>⟨z.length != 0,?_,q L1 H1 s1 c1⟩⟩;rw [zo r1];have hsz:sizeLine = 16777216:=sizeLine_eq;refine ⟨by omega,?_⟩;cases hl:z.length with
    | zero=>rfl
    | succ n=>simp; omega
   ·cases hf
  ·cases hf
def zEe:FS:=fun _ _=>none
theorem zMJ:QS X (.Raise a b pos) zEe:=.mk fun _ _ _ _ _ _ ⟨_,_,_,_,_,_,_,_,e,_⟩=>by cases e
end
open Sem (wp)
section
variable {prog:Program} {w:World} {A:Around} {E:Value -> Shared -> Prop} {s:Shared}
theorem zEo (K:PySem.W.KdlSrc prog w "dict" d d n P OK) (hh:A.handled = none) (hok:OK s.heap) (hz:n <= sizeLine)
  (h:∀ (h':Heap) (tk:Nat) (acc:Array Value),(∀ b u,s.heap.get? b = some u -> h'.get? b = some u) -> s.heap.objs.size <= h'.objs.size -> ItemsOf P acc n -> Q₁ (.ref h'.objs.size) { s with heap:=h'.push { cls:=.type "tuple", data:=.seq acc },toks:=tk }) :
  codeAny (model prog w) A (.call (.builtin "tuple.__new__") ⟨[.type "tuple", .ref d],[]⟩) (wants Q₁ E) s:=by
 refine codeAny_of_tree ?_;show wpAny _ A.in1 (do checkBuiltinCall "tuple.__new__" ⟨[.type "tuple", .ref d],[]⟩; again (.builtin "tuple.__new__" ⟨[.type "tuple", .ref d],[]⟩)) _ _ s;refine zQF (wpAny_of_eq (F.newCall_tuple_1 _) (zQH ⟨plainId_quiet F.plain_tuple_new _,codeAny_builtin F.entry_tuple_new ?_⟩));rw [Around.under_plainId F.plain_tuple_new _];have hsub:=sub_tuple_self;have hinit:=init_tuple_lookup;have hmh:=madeHere_tuple;have hTI:=K.type _ hok;wp_walk using wpAny_typeOf hTI,zGZ (A:=A.in1) K hh hok hz;intro h' tk acc hk hle hacc;show wpAny _ _ (Builtin.Tuple.tupleExact acc.toList.toArray >>= fun v=>ret v) _ _ _;unfold Builtin.Tuple.tupleExact;have e:acc.toList.toArray = acc:=by simp
 rw [e];exact zQF (zQi (zQH (h h' tk acc hk hle hacc)) (by show acc.size <= sizeLine; rw [hacc.1]; exact hz))
theorem zEN (K:PySem.W.KdlSrc prog w "dict" d d n P OK) (hh:A.handled = none) (hok:OK s.heap) (hz:n <= sizeLine)
  (h:∀ (h':Heap) (tk:Nat) (acc:Array Value),(∀ b u,s.heap.get? b = some u -> h'.get? b = some u) -> s.heap.objs.size <= h'.objs.size -> ItemsOf P acc n -> Q (.ref h'.objs.size) { s with heap:=h'.push { cls:=.type "tuple", data:=.seq acc },toks:=tk }) :
  wpAny (model prog w) A (call (.type "tuple") [.ref d]) Q E s:=by
 refine callType_codes (Q₁:=fun obj s₁=>s₁.TypeIs obj "tuple" /\ Q obj s₁) F.called_tuple (F.typeCall_tuple_1 _) F.entry_object_init (zEo K hh hok hz fun h' tk acc h1 h2 h3=>⟨⟨_,zQP _ rfl,rfl⟩,h h' tk acc h1 h2 h3⟩) fun obj s₁ h₁=>?_;exact ⟨h₁.1,F.args_object_init_2 obj _,object_init_meets F.called_tuple.init.lookup F.called_tuple.made (by decide) prog w A.in1 _ s₁ ⟨h₁.1,rfl,h₁.2⟩⟩
end
section
variable {X:Cx} {e:Expr} {pos p:Pos}
theorem zNG (h:zDn k v = true):zf (kV k) v:=by
 rcases zk h with ⟨i,t,rfl,rfl⟩ | ⟨x,t,rfl,rfl⟩
 ·exact ⟨t,rfl⟩
 ·exact ⟨t,rfl⟩
theorem zJF (hc:X.calm = true):zBj X (.type "tuple") (fun xs H Q=>∃ d kvs,xs = [.ref d] /\ H d = some (.dK kvs) /\ ∀ l,H l = none -> Q (.ref l) (upd H l (.tup (kvs.map fun q=>kV q.1)))):=by
 intro zB s σ H xs us Q I r h;obtain ⟨d,kvs,rfl,ed,q⟩:=h;obtain ⟨u,rfl,rx⟩:=zCy r;cases rx;obtain ⟨z1,z2,vs,rv,o,es,ep,h1,h2,h3,h4,h5,h6⟩:=(show zr X.prog X.w H s.heap d (.dK kvs) from I.hok d _ ed);have hvl:vs.map (·.1) = kvs.map (·.1):=zKU rv;have hsz:es.size = kvs.length:=by
  rw [<- zQy,Pairs.length h5];have:=zR2 List.length hvl;simpa using this
 refine zEN (zJ5 z2 h2.1 h3) (I.ok.hd hc) h1 (by rw [hsz]; exact z1) fun h' tk acc hk hle hacc=>?_;have hal:acc.toList.length = kvs.length:=by rw [zQy,hacc.1,hsz]
 have hv:zW (kvs.map fun q=>kV q.1) acc.toList:=zIK (by rw [zQO,hal]) fun i y u e1 e2=>by
  rw [Array.getElem?_toList] at e2;obtain ⟨e',he',rfl⟩:=hacc.2 i u e2;obtain ⟨kv,e3,e4⟩:=zE5 h5 i e' (by rw [Array.getElem?_toList]; exact he');have e5:(kvs.map (·.1))[i]? = some kv.1:=by rw [<- hvl,zQc,e3]; rfl
  rw [zQc] at e1 e5;cases hn:kvs[i]? with
  | none=>rw [hn] at e1; cases e1
  | some m=>
   rw [hn] at e1 e5;cases e1;have e6:m.1 = kv.1:=zRF e5;show zf (kV m.1) _;rw [e6];exact zNG e4
 have I1:Inv X zB σ H { s with heap:=h',toks:=tk }:=I.kept hk;exact ⟨.ref h'.objs.size,_,I1.laid (t':=tk) (fun b o z=>zQG _ z) (zQL _) (show zr X.prog X.w _ _ _ (.tup (kvs.map fun q=>kV q.1)) from ⟨by rw [zQO]; exact z1,acc.toList,hv,by simpa using zA0.new h' acc⟩),rfl,q _ (I1.hok.fresh (zQL _))⟩
def zEE:KB:=fun xs M=>match xs with
 | [.dat (.ref n)]=>match M[n]? with
  | some (.dict ps)=>some (.dat (.tup (ps.map (·.1))),M)
  | _=>none
 | _=>none
theorem zKe (h:zAs d = some k):Rep L H d (kV k):=by
 cases d with
 | int i=>cases h; unfold Rep; rfl
 | str x=>cases h; unfold Rep; rfl
 | _=>cases h
theorem zEj:∀ {ps:List (D × D)} {kvs:List (Key × V)},zAC zAs L H ps kvs -> zG L H (ps.map (·.1)) (kvs.map fun q=>kV q.1)
 | [],_,h=>by unfold zAC at h; subst h; exact .nil
 | p :: ps,_,h=>by
  obtain ⟨kk,v,r',rfl,e,h1,h2⟩:=h;exact .cons (zKe e) (zEj h2)
theorem zJe:zEH X.K (fun xs H Q=>∃ d kvs,xs = [.ref d] /\ H d = some (.dK kvs) /\ ∀ l,H l = none -> Q (.ref l) (upd H l (.tup (kvs.map fun q=>kV q.1)))) zEE:=by
 intro L M M' H H0 xs d vs Q cc r hk q;unfold zEE at hk;split at hk
 ·rename_i n;split at hk
  ·rename_i ps e1;cases hk;obtain ⟨v,rfl,r1⟩:=r.one;unfold zT Rep at r1;obtain ⟨a,rfl,e2⟩:=r1;obtain ⟨kvs,e3,r2⟩:=cc.obj n a _ e2 e1;exact ⟨a,kvs,rfl,e3,fun l hl=>q L _ _ (.upd hl) (cc.upd hl) (Rep.newTup hl (zEj r2))⟩
  ·cases hk
 ·cases hk
theorem zNZ (hc:X.calm = true) (hg:Gl X "tuple") (hm:X.mg "tuple" = none) (ha:QAE X [e] fa) (he:starEach [e] X.env = (false,eval e X.env) :: starEach [] X.env:=by rfl) (hpl:(backTo pos (starEach [] X.env)).any (·.1) = false:=by rfl):QE X (.Call (.Name "tuple" p) [e] [] pos) (fB zEE fa) :=
 zEV zJe (zJF hc) (by rfl) hg hm ha (by decide) (by decide) he hpl
end
end L3
namespace Law
open PySem PySem.Spec PyProof.Rows L2 L3
open PySem.Builtin.Str (occurrences partsBetween strSub subAt)
def zAx (c:Nat):List Nat -> List (List Nat)
 | []=>[[]]
 | x :: r=>if x = c then [] :: zAx c r else match zAx c r with
  | p :: ps=>(x :: p) :: ps
  | []=>[[x]]
def jnL (s:List Nat):List (List Nat) -> List Nat
 | []=>[]
 | [p]=>p
 | p :: q :: r=>p ++ (s ++ jnL s (q :: r))
theorem zBi:∀ {w:List Nat},c ∉ w -> ∀ L,zAx c (w ++ c :: L) = w :: zAx c L
 | [],_,L=>by rw [List.nil_append,zAx,zQU rfl]
 | x :: w,h,L=>by
  have hx:x ≠ c:=fun e=>h (by rw [e]; exact zQT);rw [List.cons_append,zAx,zQX hx,zBi (fun z=>h (zQS _ z)) L]
theorem zB6:∀ {w:List Nat},c ∉ w -> zAx c w = [w]
 | [],_=>rfl
 | x :: w,h=>by
  have hx:x ≠ c:=fun e=>h (by rw [e]; exact zQT);unfold zAx;rw [zQX hx,zB6 (fun z=>h (zQS _ z))]
theorem zH3:∀ {ps:List (List Nat)},ps ≠ [] -> (∀ p ∈ ps,c ∉ p) -> zAx c (jnL [c] ps) = ps
 | [],h,_=>absurd rfl h
 | [p],_,h=>zB6 (h p (by simp))
 | p :: q :: r,_,h=>by
  show zAx c (p ++ ([c] ++ jnL [c] (q :: r))) = _;rw [List.singleton_append,zBi (h p (by simp)),zH3 (by simp) fun x hx=>h x (zQS _ hx)]
def tok (L:List Nat):List (List Nat):=(zAx 32 L).filter fun w=> !w.isEmpty
theorem zOI (L:List Nat):tok (32 :: L) = tok L:=by
 unfold tok;rw [show zAx 32 (32 :: L) = [] :: zAx 32 L from zBi (w:=[]) (by simp) L]; rfl
theorem zDy:∀ (k:Nat) (L:List Nat),tok (List.replicate k 32 ++ L) = tok L
 | 0,L=>rfl
 | k + 1,L=>by rw [zRY,List.cons_append,zOI,zDy k L]
theorem zGw (h0:w ≠ []) (h:32 ∉ w) (L:List Nat):tok (w ++ 32 :: L) = w :: tok L:=by
 unfold tok;rw [zBi h,List.filter_cons,zQU (by cases w with | nil=>exact absurd rfl h0 | cons _ _=>rfl)]
theorem zLR (h0:w ≠ []) (h:32 ∉ w):tok w = [w]:=by
 unfold tok;rw [zB6 h,List.filter_cons,zQU (by cases w with | nil=>exact absurd rfl h0 | cons _ _=>rfl)]; rfl
theorem zF7 (b:Nat):tok (List.replicate b 32) = []:=by
 have:=zDy b [];rw [zQz] at this;rw [this]; rfl
theorem zJw (g b:Nat):∀ {ws:List (List Nat)},(∀ w ∈ ws,w ≠ [] /\ 32 ∉ w) -> tok (jnL (List.replicate (g + 1) 32) ws ++ List.replicate b 32) = ws
 | [],_=>zF7 b
 | [w],h=>by
  obtain ⟨h0,h1⟩:=h w (by simp);show tok (w ++ List.replicate b 32) = [w];cases b with
  | zero=>rw [List.replicate_zero,zQz]; exact zLR h0 h1
  | succ b=>rw [zRY,zGw h0 h1,zF7]
 | w :: q :: r,h=>by
  obtain ⟨h0,h1⟩:=h w (by simp);show tok (w ++ (List.replicate (g + 1) 32 ++ jnL (List.replicate (g + 1) 32) (q :: r)) ++ List.replicate b 32) = _;rw [List.append_assoc,zRY,List.cons_append,List.cons_append,zGw h0 h1,List.append_assoc,zDy,<- zRY,zJw g b fun x hx=>h x (zQS _ hx)]
theorem zFK (a g b:Nat) (h:∀ w ∈ ws,w ≠ [] /\ 32 ∉ w):tok (List.replicate a 32 ++ jnL (List.replicate (g + 1) 32) ws ++ List.replicate b 32) = ws:=by
 rw [List.append_assoc,zDy,zJw g b h]
abbrev tx (L:List Nat):Str:=⟨L.toArray⟩
theorem zCK (x:Str):tx x.cps.toList = x:=by cases x; simp
theorem zAo (L:List Nat):(tx L).length = L.length:=by simp [Str.length]
theorem zK1 (s:Str):∀ (ys:List Str),(Txt.join s ys).cps.toList = jnL s.cps.toList (ys.map fun y=>y.cps.toList):=by
 intro ys;unfold Txt.join;rw [StrLaws.glued_eq_join];induction ys with
 | nil=>rfl
 | cons y ys ih=>
  cases ys with
  | nil=>rfl
  | cons z r=>
   show (y ++ s ++ Str.join s (z :: r)).cps.toList = _;rw [Str.cps_append,Str.cps_append,Array.toList_append,Array.toList_append,ih,List.append_assoc]; rfl
theorem zLu (s:List Nat) (ws:List (List Nat)):Txt.join (tx s) (ws.map tx) = tx (jnL s ws):=by
 rw [<- zCK (Txt.join (tx s) (ws.map tx)),zK1];simp [zQd,Function.comp_def]
def zGV (x:Str) (c a k:Nat):List Nat:=(List.range' a k).filter fun i=>decide (x.cps.toList[i]? = some c)
theorem zF3 (x:Str) (c i:Nat):(i + (⟨#[c]⟩:Str).length <= x.length /\ subAt x ⟨#[c]⟩ i = true) ↔ x.cps.toList[i]? = some c:=by
 have hl:(⟨#[c]⟩:Str).length = 1:=rfl;have hx:x.cps.toList.length = x.length:=by simp [Str.length]
 have e:((x.cps.toList.drop i).take 1 = [c]) ↔ x.cps.toList[i]? = some c:=by
  have:=List.getElem?_drop (xs:=x.cps.toList) (i:=i) (j:=0);rw [Nat.add_zero] at this;rw [<- this];cases x.cps.toList.drop i with
  | nil=>simp
  | cons a r=>simp
 rw [hl,StrLaws.subAt_eq,hl,beq_iff_eq,e];refine ⟨fun h=>h.2,fun h=>⟨?_,h⟩⟩;have:=(zQI.mp h).1;omega
theorem zFh (x:Str) (c limit:Nat):∀ (k a:Nat) (st:Array Nat × Nat),st.2 <= a -> st.1.size + k <= limit -> (forIn (List.range' a k) st (StrLaws.occBody x ⟨#[c]⟩ x.length limit)).run.fst.toList = st.1.toList ++ zGV x c a k
 | 0,a,st,_,_=>by unfold zGV; simp
 | k + 1,a,st,h1,h2=>by
  rw [List.range'_succ,List.forIn_cons];unfold StrLaws.occBody zGV;rw [List.range'_succ,List.filter_cons];by_cases h:x.cps.toList[a]? = some c
  ·rw [zQU ⟨⟨⟨by omega,h1⟩,((zF3 x c a).mpr h).1⟩,((zF3 x c a).mpr h).2⟩,zQU (by simpa using h)];have:=zFh x c limit k (a + 1) (st.1.push a,a + (⟨#[c]⟩:Str).length) (by show a + 1 <= a + 1; omega) (by simp; omega);refine Eq.trans this ?_;unfold zGV;simp
  ·rw [zQX (fun z=>h ((zF3 x c a).mp ⟨z.1.2,z.2⟩)),zQX (by simpa using h)];exact zFh x c limit k (a + 1) (st.1,st.2) (by show st.2 <= a + 1; omega) (by show st.1.size + k <= limit; omega)
theorem zMM (x:Str) (c:Nat):occurrences x ⟨#[c]⟩ 0 x.length (x.length + 1) = zGV x c 0 (x.length + 1):=by
 rw [StrLaws.occ_eq,Nat.sub_zero,zFh x c (x.length + 1) (x.length + 1) 0 (#[],0) (zQL _) (by simp)]; rfl
theorem zDK (x:Str) (c:Nat):∀ (k b a:Nat),a <= b -> b + k = x.length + 1 -> (∀ i,a <= i -> i < b -> x.cps.toList[i]? ≠ some c) -> StrLaws.partsFrom x 1 a (zGV x c b k) = (zAx c (x.cps.toList.drop a)).map tx
 | 0,b,a,hab,hb,hn=>by
  show [strSub x a x.length] = _;have hl:x.cps.toList.length = x.length:=by simp [Str.length]
  rw [zB6]
  ·show [strSub x a x.length] = [tx (x.cps.toList.drop a)];congr 1;rw [<- zCK (strSub x a x.length)];congr 1;rw [StrLaws.strSub_toList];exact List.take_of_length_le (by rw [zSi]; omega)
  ·intro z;obtain ⟨i,hi,e⟩:=List.mem_iff_getElem.mp z;rw [List.getElem_drop] at e;rw [zSi] at hi;refine hn (a + i) (by omega) (by omega) ?_;rw [zQJ (by omega),e]
 | k + 1,b,a,hab,hb,hn=>by
  have hl:x.cps.toList.length = x.length:=by simp [Str.length]
  unfold zGV;rw [List.range'_succ,List.filter_cons];by_cases h:x.cps.toList[b]? = some c
  ·rw [zQU (by simpa using h)];show strSub x a b :: StrLaws.partsFrom x 1 (b + 1) (zGV x c (b + 1) k) = _;have hbl:b < x.cps.toList.length:=(zQI.mp h).1;rw [zDK x c k (b + 1) (b + 1) (zQL _) (by omega) fun i h1 h2=>absurd h1 (by omega)];have e1:x.cps.toList.drop a = (x.cps.toList.drop a).take (b - a) ++ c :: x.cps.toList.drop (b + 1):=by
    conv=>lhs; rw [<- List.take_append_drop (b - a) (x.cps.toList.drop a)]
    congr 1;rw [List.drop_drop,show a + (b - a) = b by omega,List.drop_eq_getElem_cons hbl];congr 1;rw [zQJ hbl] at h;exact zRF h
   rw [e1,zBi,zQY]
   ·congr 1;rw [<- zCK (strSub x a b),StrLaws.strSub_toList]
   ·intro z;obtain ⟨i,hi,e⟩:=List.mem_iff_getElem.mp z;rw [zRd,zSi] at hi;rw [List.getElem_take,List.getElem_drop] at e;refine hn (a + i) (by omega) (by omega) ?_;rw [zQJ (by omega),e]
  ·rw [zQX (by simpa using h)];exact zDK x c k (b + 1) a (by omega) (by omega) fun i h1 h2=>by
    by_cases e:i = b
    ·rw [e]; exact h
    ·exact hn i h1 (by omega)
theorem zIz (x:Str) (hc:c < 256):zBb x ⟨#[c]⟩ = (zAx c x.cps.toList).map tx:=by
 have key:partsBetween x (occurrences x ⟨#[c]⟩ 0 x.length (x.length + 1)) (⟨#[c]⟩:Str).length = (zAx c x.cps.toList).map tx:=by
  rw [StrLaws.partsBetween_eq,zMM];exact zDK x c (x.length + 1) 0 0 (zQL _) (by omega) fun i h1 h2=>absurd h2 (Nat.not_lt_zero _)
 have one:c ∉ x.cps.toList -> [x] = (zAx c x.cps.toList).map tx:=fun h=>by
  rw [zB6 h]; show [x] = [tx x.cps.toList]; rw [zCK]
 unfold zBb;split
 ·rename_i h;rw [Bool.or_eq_true,zRS,zRS] at h;refine one fun z=>?_;rcases h with h | h
  ·have:=List.length_pos_of_mem z;have hl:(⟨#[c]⟩:Str).length = 1:=rfl;have hx:x.cps.toList.length = x.length:=by simp [Str.length]
   omega
  ·have:PySem.Builtin.Str.strKind (⟨#[c]⟩:Str) = 1:=by unfold PySem.Builtin.Str.strKind; rw [zQU (by simpa using hc)]
   rw [this] at h;have:1 <= PySem.Builtin.Str.strKind x:=by unfold PySem.Builtin.Str.strKind; split <;> (try split) <;> omega
   omega
 ·split
  ·rename_i h;rw [List.isEmpty_iff] at h;rw [h] at key;rw [<- key];unfold partsBetween;simp [strSub,Str.length]
  ·exact key
noncomputable def zCC:FS:=(zP (zAI 1 (fOp zAY (fB zBw (zN (zC 0) zc)) (fC (.int 3))))
  (zP (zC1 (zAb (fSl (zC 0) zBh (zBW (fC (.int 63))))) (gN 2) (zAI 1 (fOp zCW (fOp zAY (fOp zAY (fOp zE2 (zC 1) (fC (.int 6364136223846793))) (fOp zCW (zC 2) (fOp zKA (fC (.int 10)) (fC (.int 30))))) (fC (.int 1442695040888963))) (fC (.int 2305843009213693951)))))
  (zq (zBk (zD (toD (zy [2] (zAb (fSl (zC 0) zBh (zBW (fC (.int 63))))) (gN 2) (tst (fOp kGe (fB zI5 (zN (zC 2) zc)) (fOp zKA (fC (.int 10)) (fC (.int 18))))) (fB zI5 (zN (zC 2) zc)))) (zD (toD (zC 1)) zM))))))
noncomputable def zAu:FF:=zBZ 3 zCC
noncomputable def zCh:FS:=(zP (zAy (zDH (tst (fOp kNe (fOp kIx (zC 0) (fC (.int 0))) (zBk zM))) (tst (fOp kEq (fOp kIx (fOp kIx (zC 0) (fC (.int 0))) (fC (.int 0))) (fC (.int 0))))) (zA4 (fM zGP (fOp kIx (zC 0) (fC (.int 0))) (zD (toD (fC (.int 0))) zM))) 100)
  (zP (sIf (tst (fOp kNe (fOp kIx (zC 0) (fC (.int 0))) (zBk zM))) (zP (zAI 2 (fOp zCW (fOp kIx (fOp kIx (zC 0) (fC (.int 0))) (fC (.int 0))) (zC 1)))
  (zP (zJD (fOp zFZ (fOp kIx (fOp kIx (zC 0) (fC (.int 0))) (fC (.int 0))) (zC 1)) (fOp kIx (zC 0) (fC (.int 0))) (fC (.int 0)))
  (zq (zC 2)))) zAr)
  (zP (zJD (fOp zCW (fOp zAY (fOp zE2 (fOp kIx (zC 0) (fC (.int 1))) (fC (.int 6364136223846793))) (fC (.int 1442695040888963))) (fC (.int 2305843009213693951))) (zC 0) (fC (.int 1)))
  (zq (fOp zCW (fOp zFZ (fOp zCW (fOp zE2 (fOp kIx (zC 0) (fC (.int 1))) (fOp kIx (zC 0) (fC (.int 1)))) (fC (.int 2305843009213693921))) (fC (.int 65537))) (zC 1))))))
noncomputable def zK:FF:=zBZ 3 zCh
structure Gen (M:Mem) (n k:Nat):Prop where
 ex:∃ (c:List Int) (s:Int),M[n]? = some (.lst [.ref k,.int s]) /\ M[k]? = some (.lst (c.map D.int)) /\ (∀ x ∈ c,0 <= x) /\ c.length <= 63 /\ 0 <= s /\ s < 2305843009213693951
 ne:n ≠ k
 wf:∀ (j:Nat) u,M[j]? = some u -> MO.und M.length u = true
structure Nx (M M':Mem) (n k:Nat):Prop where
 gen:Gen M' n k
 len:M'.length = M.length
 fr:∀ j,j ≠ n -> j ≠ k -> M'[j]? = M[j]?
theorem Nx.refl (h:Gen M n k):Nx M M n k:=⟨h,rfl,fun _ _ _=>rfl⟩
theorem Nx.trans {M M1 M2:Mem} {n k:Nat} (a:Nx M M1 n k) (b:Nx M1 M2 n k):Nx M M2 n k:=⟨b.gen,b.len.trans a.len,fun j h1 h2=>(b.fr j h1 h2).trans (a.fr j h1 h2)⟩
theorem zBA (n:Nat):∀ c:List Int,D.unds n (c.map D.int) = true
 | []=>rfl
 | x :: r=>by
  show (D.und n (D.int x) && D.unds n (r.map D.int)) = true;rw [zBA n r]; rfl
theorem Gen.lt (h:Gen M n k):n < M.length /\ k < M.length:=by
 obtain ⟨c,s,e1,e2,_⟩:=h.ex;exact ⟨(zQI.mp e1).1,(zQI.mp e2).1⟩
theorem Gen.put {M:Mem} (h:Gen M n k) {c:List Int} (hc:∀ x ∈ c,0 <= x) (hl:c.length <= 63) (h0:0 <= s) (h1:s < 2305843009213693951) :
  Nx M ((M.set k (.lst (c.map D.int))).set n (.lst [.ref k,.int s])) n k:=by
 obtain ⟨hn,hk⟩:=h.lt;refine ⟨⟨⟨c,s,?_,?_,hc,hl,h0,h1⟩,h.ne,fun j u e=>?_⟩,by simp,fun j h1 h2=>?_⟩
 ·rw [zQ9 (by simpa using hn)]
 ·rw [zQj h.ne,zQ9 hk]
 ·rw [List.length_set,List.length_set];rw [zRo] at e;split at e
  ·split at e
   ·cases e;show D.unds _ _ = true;unfold D.unds D.unds D.unds D.und;simp [hk]
   ·cases e
  ·rw [zRo] at e;split at e
   ·rename_i z;subst z;cases e; exact zBA _ _
   ·exact h.wf j u e
 ·rw [zQj (Ne.symm h1),zQj (Ne.symm h2)]
theorem zEU {M:Mem} (h:M[k]? = some u):M.set k u = M:=by
 apply List.ext_getElem?;intro i;rw [zRo];split
 ·rename_i e; subst e;rw [zQU (zQI.mp h).1]; exact h.symm
 ·rfl
theorem zGj:∀ {a b:List Int},a.map D.int = b.map D.int -> a = b
 | [],[],_=>rfl
 | [],_ :: _,h=>by cases h
 | _ :: _,[],h=>by cases h
 | x :: a,y :: b,h=>by
  rw [zQY,zQY] at h;have h1:=(List.cons.inj h).1;have h2:=zGj (List.cons.inj h).2;cases h1; rw [h2]
theorem at0 {x:D} {xs:List D}:atI (x :: xs) 0 = some x:=zJo rfl
theorem at1 {x y:D} {xs:List D}:atI (x :: y :: xs) 1 = some y:=zJo rfl
theorem zLY (h:Gen M n k) (h0:0 < m) (h1:m < 1073741824) :
  Ok (zK [.ref n,.int m] M) fun d M'=>(∃ i,d = .int i /\ 0 <= i /\ i < m) /\ Nx M M' n k:=by
 unfold zK;rw [zAM];unfold zCh;rw [zI];have st:∀ {M:Mem} {c:List Int} {s:Int} {σ:Sd} {P:EV -> Mem -> Prop},σ[0]? = some (some (.ref n)) -> M[n]? = some (.lst [.ref k,.int s]) -> P (.dat (.ref k)) M -> Ok (fOp kIx (zC 0) (fC (.int 0)) σ M) P:=fun hσ hM p=>
  zS.mpr (zL.mpr ⟨_,hσ,zt.mpr (zJR (zh hM) at0 p)⟩)
 have sd:∀ {M:Mem} {s:Int} {σ:Sd} {P:EV -> Mem -> Prop},σ[0]? = some (some (.ref n)) -> M[n]? = some (.lst [.ref k,.int s]) -> P (.dat (.int s)) M -> Ok (fOp kIx (zC 0) (fC (.int 1)) σ M) P:=fun hσ hM p=>
  zS.mpr (zL.mpr ⟨_,hσ,zt.mpr (zJR (zh hM) at1 p)⟩)
 have hd:∀ {M:Mem} {c:List Int} {x s:Int} {σ:Sd} {P:EV -> Mem -> Prop},σ[0]? = some (some (.ref n)) -> M[n]? = some (.lst [.ref k,.int s]) -> M[k]? = some (.lst ((x :: c).map D.int)) -> P (.dat (.int x)) M -> Ok (fOp kIx (fOp kIx (zC 0) (fC (.int 0))) (fC (.int 0)) σ M) P:=fun {M c x s σ P} hσ hM hK p=>
  zS.mpr (st (c:=c) hσ hM (zt.mpr (zJR (zh hK) at0 p)))
 have ne:∀ {M:Mem} {c:List Int} {s:Int} {σ:Sd} {P:Bool -> Mem -> Prop},σ[0]? = some (some (.ref n)) -> M[n]? = some (.lst [.ref k,.int s]) -> M[k]? = some (.lst (c.map D.int)) -> P (!c.isEmpty) M -> Ok (tst (fOp kNe (fOp kIx (zC 0) (fC (.int 0))) (zBk zM)) σ M) P:=fun {M c s σ P} hσ hM hK p=>by
  refine zAz.mpr (zS.mpr (st (c:=c) hσ hM (zCn.mpr (zAH.mpr ⟨Nat.zero_le _,?_⟩))));rw [zMf (zAQ hK) (by intro d e; cases e; rfl)];rw [zAP];simpa using p
 have W:∀ (fuel m':Nat) (σ:Sd) (M':Mem),m' < fuel -> ((σ = [some (.ref n),some (.int m),none] /\ Nx M M' n k) /\ ∃ (c:List Int) (s:Int),M'[n]? = some (.lst [.ref k,.int s]) /\ M'[k]? = some (.lst (c.map D.int)) /\ c.length = m') ->
   OkS (zAy (zDH (tst (fOp kNe (fOp kIx (zC 0) (fC (.int 0))) (zBk zM))) (tst (fOp kEq (fOp kIx (fOp kIx (zC 0) (fC (.int 0))) (fC (.int 0))) (fC (.int 0))))) (zA4 (fM zGP (fOp kIx (zC 0) (fC (.int 0))) (zD (toD (fC (.int 0))) zM))) fuel σ M')
    (fun o σ1 M1=>o = .nx /\ σ1 = [some (.ref n),some (.int m),none] /\ Nx M M1 n k):=by
  intro fuel m' σ M' hlt hI;refine zDW (I:=fun m' σ M'=>(σ = [some (.ref n),some (.int m),none] /\ Nx M M' n k) /\ ∃ (c:List Int) (s:Int),M'[n]? = some (.lst [.ref k,.int s]) /\ M'[k]? = some (.lst (c.map D.int)) /\ c.length = m') ?_ fuel m' σ M' hlt hI;rintro m' σ M' ⟨⟨rfl,nx⟩,c,s,e1,e2,hl⟩;refine zLX.mpr (ne rfl e1 e2 ?_);cases c with
  | nil=>simp; exact nx
  | cons x c=>
   simp only [List.isEmpty_cons,Bool.not_false,if_true];refine zAz.mpr (zS.mpr (hd rfl e1 e2 (zt.mpr (zHl.mpr (zAP.mpr ?_)))));by_cases hx:x = 0
   ·rw [zQU (by simpa using hx)];refine zBC.mpr (zHx.mpr (st (c:=c) rfl e1 ⟨⟨_,zAQ e2⟩,ze.mpr (zi.mpr (zt.mpr (zF.mpr (zAH.mpr ?_))))⟩));rw [zQY] at e2;rw [zN1 e2];refine ⟨c.length,by rw [<- hl]; simp,?_⟩;obtain ⟨c',s',z1,z2,z3,z4,z5,z6⟩:=nx.gen.ex;rw [e1] at z1; cases z1;rw [e2] at z2;have hcc:c' = x :: c:=by
     have:(x :: c).map D.int = c'.map D.int:=by have:=z2; simp only [Option.some.injEq,MO.lst.injEq] at this; simpa using this
     exact (zGj this).symm
    subst hcc;have P:=nx.gen.put (c:=c) (s:=s) (fun y hy=>z3 y (zQS _ hy)) (by simp at z4; omega) z5 z6;have q:((M'.set k (.lst (c.map D.int))).set n (.lst [.ref k,.int s])) = M'.set k (.lst (c.map D.int)):=zEU (by rw [zQj (Ne.symm nx.gen.ne)]; exact e1);rw [q] at P;have hk:=nx.gen.lt.2;refine ⟨⟨rfl,nx.trans P⟩,c,s,?_,?_,rfl⟩
    ·rw [zQj (Ne.symm nx.gen.ne)]; exact e1
    ·rw [zQ9 hk]
   ·rw [zQX (by simpa using hx)];first | exact ⟨rfl,rfl,nx⟩ | exact ⟨trivial,trivial,nx⟩ | simpa using nx
 obtain ⟨c,s,e1,e2,e3,e4,_⟩:=h.ex;refine OkS.mono (W 100 c.length _ M (by omega) ⟨⟨rfl,.refl h⟩,c,s,e1,e2,rfl⟩) ?_;rintro o σ M1 ⟨rfl,rfl,nx⟩;rw [zQ,zI,zAm];obtain ⟨c,s,e1,e2,e3,e4,e5,e6⟩:=nx.gen.ex;refine ne rfl e1 e2 ?_;cases c with
 | nil=>
  simp only [List.isEmpty_nil,Bool.not_true,Bool.false_eq_true,if_false];rw [zAi,zQ,zI,zIF];refine zS.mpr (zS.mpr (zS.mpr (sd rfl e1 (zt.mpr (zG4.mpr ⟨by simp [zHL] <;> omega,zt.mpr (zAj.mpr (zt.mpr (zCc.mpr ⟨by decide,?_⟩)))⟩)))));rw [zF];refine zL.mpr ⟨_,rfl,zt.mpr ?_⟩;rw [zF];have hs0:0 <= (s * 6364136223846793 + 1442695040888963) % 2305843009213693951:=Int.emod_nonneg _ (by decide);have hs1:(s * 6364136223846793 + 1442695040888963) % 2305843009213693951 < 2305843009213693951:=Int.emod_lt_of_pos _ (by decide);generalize (s * 6364136223846793 + 1442695040888963) % 2305843009213693951 = s' at hs0 hs1;have P:=nx.gen.put (c:=[]) (fun _ h=>by cases h) (by simp) hs0 hs1;rw [zEU (show M1[k]? = some (.lst (([]:List Int).map D.int)) from e2)] at P;refine ⟨_,zGh (k:=1) e1 (by simp),?_⟩;rw [zQ,zx];have e1':(M1.set n (.lst [.ref k,.int s']))[n]? = some (.lst [.ref k,.int s']):=zQ9 nx.gen.lt.1;refine zS.mpr (zS.mpr (zS.mpr (zS.mpr (sd rfl e1' (sd rfl e1' (zG4.mpr ⟨by simp [zHL] <;> omega,zt.mpr (zCc.mpr ⟨by decide,zt.mpr (zIT.mpr ⟨by decide,zL.mpr ⟨_,rfl,zCc.mpr ⟨h0,?_⟩⟩⟩)⟩)⟩))))));rw [zF];exact ⟨⟨_,rfl,Int.emod_nonneg _ (by omega),Int.emod_lt_of_pos _ h0⟩,nx.trans P⟩
 | cons x c=>
  simp only [List.isEmpty_cons,Bool.not_false,if_true];rw [zI,zb];refine zS.mpr (hd rfl e1 e2 (zL.mpr ⟨_,rfl,zCc.mpr ⟨h0,?_⟩⟩));rw [zF,zQ,zI,zIF];refine zS.mpr (hd rfl e1 e2 (zL.mpr ⟨_,rfl,zIT.mpr ⟨⟨h0,h1⟩,?_⟩⟩));rw [zF];refine st (c:=c) rfl e1 (zt.mpr ?_);rw [zF];refine ⟨_,zGh (k:=0) e2 (by simp),?_⟩;rw [zQ,zx];refine zL.mpr ⟨_,rfl,?_⟩;rw [zF,zMK];have hx:=e3 x zQT;have P:=nx.gen.put (c:=(x / m) :: c) (fun y hy=>by
   rcases zQR.mp hy with z | z
   ·subst z; exact Int.ediv_nonneg hx (by omega)
   ·exact e3 y (zQS _ z)) (by simpa using e4) e5 e6
  rw [zEU (by rw [zQj (Ne.symm nx.gen.ne)]; exact e1)] at P;exact ⟨⟨_,rfl,Int.emod_nonneg _ (by omega),Int.emod_lt_of_pos _ h0⟩,nx.trans P⟩
theorem zHN (ns:List Int) (lo hi:Option Int):∃ c:List Int,L3.zDE (ns.map D.int) lo hi = c.map D.int /\ c.length <= ns.length:=by
 refine ⟨(ns.drop (HT.sIx ns.length 0 lo)).take (HT.sIx ns.length ns.length hi - HT.sIx ns.length 0 lo),?_,?_⟩
 ·unfold L3.zDE;rw [zQO,List.map_take,List.map_drop]
 ·rw [zRd,zSi]; omega
theorem zCa (h:x :: r = c.map D.int):∃ y c',c = y :: c' /\ x = .int y /\ r = c'.map D.int:=by
 cases c with
 | nil=>cases h
 | cons y c'=>rw [zQY] at h; exact ⟨y,c',rfl,(List.cons.inj h).1,(List.cons.inj h).2⟩
theorem zAE:zBQ none xs M:=trivial
theorem zZ (h:n <= 100000):n <= sizeLine:=zQg h (by decide)
theorem zKy {ns:List Int} (h:ns.length <= 63):Ok (zAu [.ref 0] [.fro (ns.map D.int)]) fun d M'=>d = .ref 2 /\ Gen M' 2 1 /\ M'[0]? = some (.fro (ns.map D.int)) /\ M'.length = 3:=by
 unfold zAu;rw [zAM];unfold zCC;have e0:([.fro (ns.map D.int)]:Mem)[0]? = some (.fro (ns.map D.int)):=rfl;obtain ⟨cut,ec,lc⟩:=zHN ns none (some 63);have sl:∀ {σ:Sd} {P:EV -> Mem -> Prop},σ[0]? = some (some (.ref 0)) -> P (.fl (cut.map D.int)) [.fro (ns.map D.int)] -> Ok (fSl (zC 0) zBh (zBW (fC (.int 63))) σ [.fro (ns.map D.int)]) P:=fun hσ p=>by
  refine zMy.mpr (zL.mpr ⟨_,hσ,zGx.mpr (zGb.mpr (zt.mpr (zHM.mpr ?_)))⟩);rw [zJp (zFn e0) rfl,ec]; exact p
 rw [zI,zb];refine zS.mpr (zHO.mpr (zAL.mpr (zL.mpr ⟨_,rfl,zAd.mpr ((zMt (zME e0)).mpr (zt.mpr (zAj.mpr ?_)))⟩)));rw [zF,zQ,zI,zA7];obtain ⟨x,M1,ex,px⟩:=sl (σ:=[some (.ref 0),some (.int (((ns.map D.int).length:Int) + 3)),none]) (P:=fun x M=>x = .fl (cut.map D.int) /\ M = [.fro (ns.map D.int)]) rfl ⟨rfl,rfl⟩;obtain ⟨rfl,rfl⟩:=px;refine ⟨_,_,_,zAc ex zB7,?_⟩;refine zCH (I:=fun r σ M=>M = [.fro (ns.map D.int)] /\ (∃ c:List Int,r = c.map D.int) /\ ∃ s y,σ = [some (.ref 0),some (.int s),y] /\ 0 <= s /\ s < 2305843009213693951) ?_ ?_ _ _ _ ⟨rfl,⟨cut,rfl⟩,_,none,rfl,by simp; omega,by simp; omega⟩
 ·rintro x r σ M ⟨rfl,⟨c,hc⟩,s,y,rfl,h0,h1⟩;obtain ⟨z,c',rfl,rfl,rfl⟩:=zCa hc;refine ⟨zAE,_,rfl,?_⟩;rw [zb];refine zS.mpr (zS.mpr (zS.mpr (zS.mpr (zL.mpr ⟨_,rfl,zt.mpr (zG4.mpr ⟨by simp [zHL],?_⟩)⟩))));refine zS.mpr (zL.mpr ⟨_,rfl,zS.mpr (zt.mpr (zt.mpr (zMr.mpr ⟨by decide,zCc.mpr ⟨by decide,zAj.mpr (zt.mpr (zAj.mpr (zt.mpr (zCc.mpr ⟨by decide,?_⟩))))⟩⟩)))⟩);rw [zF];exact ⟨rfl,⟨c',rfl⟩,_,_,rfl,Int.emod_nonneg _ (by decide),Int.emod_lt_of_pos _ (by decide)⟩
 ·rintro σ M ⟨rfl,_,s,y,rfl,h0,h1⟩;refine ⟨zAE,?_⟩;rw [zQ,zx,zCn,ze,zi,zBx];obtain ⟨x,M1,ex,px⟩:=sl (σ:=[some (.ref 0),some (.int s),y]) (P:=fun x M=>x = .fl (cut.map D.int) /\ M = [.fro (ns.map D.int)]) rfl ⟨rfl,rfl⟩;obtain ⟨rfl,rfl⟩:=px;refine ⟨_,_,_,zAc ex zB7,by rw [zQO]; exact zZ (by omega),?_⟩;refine Ok.mono (zBP (I:=fun r acc M=>M = [.fro (ns.map D.int)] /\ (∃ c:List Int,r = c.map D.int) /\ r.length + acc.length <= 63 /\ ∃ b:List Int,acc = b.map D.int /\ ∀ x ∈ b,0 <= x) (Q:=fun acc M=>M = [.fro (ns.map D.int)] /\ acc.length <= 63 /\ ∃ b:List Int,acc = b.map D.int /\ ∀ x ∈ b,0 <= x) ?_ ?_ _ [] _ ⟨rfl,⟨cut,rfl⟩,by simp; omega,[],rfl,fun _ h=>by cases h⟩) ?_
  ·rintro x r acc M ⟨rfl,⟨c,hc⟩,hl,b,rfl,hb⟩;obtain ⟨z,c',rfl,rfl,rfl⟩:=zCa hc;refine ⟨zAE,_,rfl,?_⟩;refine zAz.mpr (zS.mpr (zHO.mpr (zAL.mpr (zL.mpr ⟨_,rfl,zAd.mpr (zMm.mpr (zS.mpr (zt.mpr (zt.mpr (zMr.mpr ⟨by decide,zOz.mpr (zAP.mpr ?_)⟩)))))⟩))));by_cases hz:(10:Int) ^ (18:Int).toNat <= (if z < 0 then -z else z)
   ·rw [zQU (by simpa using hz)];refine zHO.mpr (zAL.mpr (zL.mpr ⟨_,rfl,zAd.mpr (zMm.mpr (zF.mpr ⟨rfl,⟨c',rfl⟩,?_,b ++ [if z < 0 then -z else z],by simp,?_⟩))⟩))
    ·simp at hl ⊢; omega
    ·intro y hy;rcases zQf.mp hy with q | q
     ·exact hb y q
     ·have:y = if z < 0 then -z else z:=by simpa using q
      rw [this]; split <;> omega
   ·rw [zQX (by simpa using hz)];exact ⟨rfl,⟨c',rfl⟩,by simp at hl ⊢; omega,b,rfl,hb⟩
  ·rintro acc M ⟨rfl,_,hl,hb⟩;exact ⟨zAE,rfl,by simpa using hl,hb⟩
  ·rintro ys M ⟨rfl,hl,b,hb,hp⟩;rw [List.nil_append] at hb hl;subst hb;rw [zFl,ze,zi,zL];refine ⟨_,rfl,?_⟩;rw [zF,zAH];refine ⟨zZ (by simp),?_⟩;rw [zFl];refine ⟨rfl,⟨⟨b,s,rfl,rfl,hp,by simpa using hl,h0,h1⟩,by decide,?_⟩,rfl,rfl⟩;intro j u e;match j,e with
   | 0,e=>cases e; exact zBA _ _
   | 1,e=>cases e; exact zBA _ _
   | 2,e=>cases e; rfl
   | j + 3,e=>simp at e
mutual
theorem zC4 (h:a <= b):∀ {d:D},D.und a d = true -> D.und b d = true
 | .non,_=>by unfold D.und; rfl
 | .bl _,_=>by unfold D.und; rfl
 | .int _,_=>by unfold D.und; rfl
 | .str _,_=>by unfold D.und; rfl
 | .tup ds,e=>by unfold D.und at e ⊢; exact zAn h e
 | .ref k,e=>by unfold D.und at e ⊢; simp at e ⊢; omega
 | .fn _ ds,e=>by unfold D.und at e ⊢; exact zAn h e
theorem zAn (h:a <= b):∀ {ds:List D},D.unds a ds = true -> D.unds b ds = true
 | [],_=>by unfold D.unds; rfl
 | d :: ds,e=>by
  unfold D.unds at e ⊢;rw [zQp] at e ⊢;exact ⟨zC4 h e.1,zAn h e.2⟩
end
theorem zJG (h:a <= b) (e:MO.und a u = true):MO.und b u = true:=by
 cases u with
 | lst xs=>exact zAn h e
 | fro xs=>exact zAn h e
 | set xs=>exact zAn h e
 | dict kvs | dicT kvs | froT kvs | froK kvs=>
  unfold MO.und at e ⊢;rw [zQq] at e ⊢;intro p hp;have:=e p hp;rw [zQp] at this ⊢;exact ⟨zC4 h this.1,zC4 h this.2⟩
theorem zBd:∀ {xs:List D},(∀ x ∈ xs,D.und n x = true) -> D.unds n xs = true
 | [],_=>rfl
 | x :: xs,h=>by
  show (D.und n x && D.unds n xs) = true;rw [h x zQT,zBd fun y hy=>h y (zQS _ hy)]; rfl
theorem zGJ (c:List Int):D.und n (.tup (c.map D.int)) = true:=by unfold D.und; exact zBA n c
theorem Gen.app (h:Gen A n k) (hu:∀ u ∈ us,MO.und (A.length + us.length) u = true):Gen (A ++ us) n k:=by
 obtain ⟨c,s,e1,e2,r⟩:=h.ex;obtain ⟨hn,hk⟩:=h.lt;refine ⟨⟨c,s,by rw [zQM hn]; exact e1,by rw [zQM hk]; exact e2,r⟩,h.ne,fun j u e=>?_⟩;rw [zQV];by_cases hj:j < A.length
 ·rw [zQM hj] at e;exact zJG (by omega) (h.wf j u e)
 ·rw [zRP (by omega)] at e;exact hu u (zQ6 e)
theorem Nx.split (h:Gen A n k) (x:Nx (A ++ us) M n k):∃ A',M = A' ++ us /\ Nx A A' n k:=by
 obtain ⟨hn,hk⟩:=h.lt;have hl:=x.len;rw [zQV] at hl;have ed:M.drop A.length = us:=by
  apply List.ext_getElem?;intro i;rw [List.getElem?_drop,x.fr _ (by omega) (by omega),zRP (by omega)];congr 1; omega
 refine ⟨M.take A.length,by rw [<- ed,List.take_append_drop],?_⟩;have tk:∀ j,j < A.length -> (M.take A.length)[j]? = M[j]?:=fun j hj=>List.getElem?_take_of_lt hj;have tl:(M.take A.length).length = A.length:=by rw [zRd]; omega
 obtain ⟨c,s,e1,e2,r⟩:=x.gen.ex;refine ⟨⟨⟨c,s,(tk n hn).trans e1,(tk k hk).trans e2,r⟩,h.ne,fun j u e=>?_⟩,tl,fun j h1 h2=>?_⟩
 ·rw [tl];have hj:j < A.length:=by have:=(zQI.mp e).1; rw [tl] at this; exact this
  rw [tk j hj] at e;by_cases q1:j = n
  ·subst q1; rw [e1] at e; cases e;show D.unds _ _ = true;unfold D.unds D.unds D.unds D.und;simp [hk]
  ·by_cases q2:j = k
   ·subst q2; rw [e2] at e; cases e; exact zBA _ _
   ·rw [x.fr j q1 q2,zQM hj] at e;exact h.wf j u e
 ·by_cases hj:j < A.length
  ·rw [tk j hj,x.fr j h1 h2,zQM hj]
  ·rw [List.getElem?_eq_none (by rw [tl]; omega),List.getElem?_eq_none (by omega)]
theorem za (h:Gen M n k) (ha:fa σ M = some (.dat (.ref n),M)) (hb:fb σ M = some (.dat (.int m),M)) (h0:0 < m) (h1:m < 1073741824)
  (q:∀ i M',0 <= i -> i < m -> Nx M M' n k -> P (.dat (.int i)) M'):Ok (zU zK (zD (toD fa) (zD (toD fb) zM)) σ M) P:=by
 rw [zA6,ze,zi];refine ⟨_,_,ha,?_⟩;rw [zF,ze,zi];refine ⟨_,_,hb,?_⟩;rw [zF,zAH];refine Ok.mono (zLY h h0 h1) ?_;rintro d M' ⟨⟨i,rfl,i0,i1⟩,nx⟩;exact q i M' i0 i1 nx
def zBN (i:Nat):Nat -> List D
 | 0=>[]
 | n + 1=> .int i :: zBN (i + 1) n
theorem zFX (n:Nat):∀ i,((List.range' i n).map fun (k:Nat)=>D.int k) = zBN i n:=by
 induction n with
 | zero=>intro i; rfl
 | succ n ih=>intro i; rw [List.range'_succ,zQY,ih]; rfl
theorem zHC (n:Nat):((List.range n).map fun (k:Nat)=>D.int k) = zBN 0 n:=by rw [List.range_eq_range',zFX]
theorem zCY:∀ (n i:Nat),(zBN i n).length = n
 | 0,_=>rfl
 | n + 1,i=>by show (zBN (i + 1) n).length + 1 = _; rw [zCY n]
theorem zEg (n:Nat) (I:Nat -> Sd -> Mem -> Prop)
  (hs:∀ i σ M,i < n -> I i σ M -> ∃ σ1,g (.int i) σ = some σ1 /\ OkS (b σ1 M) fun o σ2 M2=>match o with | .nx=>I (i + 1) σ2 M2 | .cnt=>I (i + 1) σ2 M2 | .brk=>P .nx σ2 M2 | .ret d=>P (.ret d) σ2 M2)
  (he:∀ σ M,I n σ M -> P .nx σ M) (σ:Sd) (M:Mem) (h0:I 0 σ M):OkS (zBz g b all none (zBN 0 n) σ M) P:=by
 refine zCH (I:=fun r σ M=>∃ i,i <= n /\ r = zBN i (n - i) /\ I i σ M) ?_ ?_ _ _ _ ⟨0,Nat.zero_le _,by simp,h0⟩
 ·rintro x r σ M ⟨i,hi,e,hI⟩;have hlt:i < n:=by
   rcases Nat.lt_or_ge i n with z | z
   ·exact z
   ·rw [show n - i = 0 by omega] at e; cases e
  rw [show n - i = (n - (i + 1)) + 1 by omega] at e;obtain ⟨rfl,rfl⟩:=List.cons.inj e;obtain ⟨σ1,e1,q⟩:=hs i σ M hlt hI;refine ⟨zAE,σ1,e1,OkS.mono q ?_⟩;intro o σ2 M2 z;cases o with
  | nx=>exact ⟨i + 1,hlt,rfl,z⟩
  | cnt=>exact ⟨i + 1,hlt,rfl,z⟩
  | brk=>exact z
  | ret d=>exact z
 ·rintro σ M ⟨i,hi,e,hI⟩;have:i = n:=by
   rcases Nat.lt_or_ge i n with z | z
   ·rw [show n - i = (n - (i + 1)) + 1 by omega] at e; cases e
   ·omega
  subst this;exact ⟨zAE,he σ M hI⟩
theorem zNh (n:Nat) (I:Nat -> List D -> Mem -> Prop)
  (hs:∀ i acc M,i < n -> I i acc M -> ∃ σ1,g (.int i) σ = some σ1 /\ Ok (te σ1 M) (zEB fun d M2=>I (i + 1) (acc ++ [d]) M2)) (h0:I 0 [] M) :
  Ok (zBD g zAW te σ all none (zBN 0 n) M) fun ys M1=>I n ys M1:=by
 refine Ok.mono (zBP (I:=fun r acc M=>∃ i,i <= n /\ r = zBN i (n - i) /\ I i acc M) (Q:=fun acc M=>I n acc M) ?_ ?_ _ [] _ ⟨0,Nat.zero_le _,by simp,h0⟩) fun ys M1 q=>by simpa using q
 ·rintro x r acc M ⟨i,hi,e,hI⟩;have hlt:i < n:=by
   rcases Nat.lt_or_ge i n with z | z
   ·exact z
   ·rw [show n - i = 0 by omega] at e; cases e
  rw [show n - i = (n - (i + 1)) + 1 by omega] at e;obtain ⟨rfl,rfl⟩:=List.cons.inj e;obtain ⟨σ1,e1,q⟩:=hs i acc M hlt hI;refine ⟨zAE,σ1,e1,zDC.mpr ?_⟩;rw [zQU rfl];refine Ok.mono q ?_;intro x M2 z;cases x with
  | dat d=>exact ⟨i + 1,hlt,rfl,z⟩
  | fl xs=>exact ⟨i + 1,hlt,rfl,z⟩
 ·rintro acc M ⟨i,hi,e,hI⟩;have:i = n:=by
   rcases Nat.lt_or_ge i n with z | z
   ·rw [show n - i = (n - (i + 1)) + 1 by omega] at e; cases e
   ·omega
  subst this;exact ⟨zAE,hI⟩
theorem zCB (e:f σ M = some (.dat (.int j),M)) (h1:0 <= j) (h2:j < 2 ^ 62):zBH (zD (toD f) zM) σ M = some (zBN 0 j.toNat,none,M):=by
 have e':(zD (toD f) zM) σ M = some ([.int j],M):=by unfold zD toD zM; rw [e]
 rw [zEi e' h1 h2,zHC]
noncomputable def zCi:FS:=(zP (sIf (tst (fOp kEq (zC 1) (fC (.int 0)))) (zq (zU zK (zD (toD (zC 0)) (zD (toD (zC 2)) zM)))) zAr)
  (zP (sIf (tst (fOp kEq (zC 1) (fC (.int 1)))) (zq (fOp zCW (fOp zAY (zC 3) (zU zK (zD (toD (zC 0)) (zD (toD (fC (.int 3))) zM)))) (zC 2))) zAr)
  (zP (sIf (tst (fOp kEq (zC 1) (fC (.int 2)))) (zP (zAI 5 (fOp zFZ (zC 2) (fC (.int 2))))
  (zP (sIf (tst (fOp kLt (zC 3) (zC 5))) (zq (zU zK (zD (toD (zC 0)) (zD (toD (zC 5)) zM)))) zAr)
  (zq (fOp zAY (zC 5) (zU zK (zD (toD (zC 0)) (zD (toD (fOp zEG (zC 2) (zC 5))) zM))))))) zAr)
  (zP (sIf (tst (fOp kEq (zC 4) (fC (.int 0)))) (zq (fOp zCW (fOp zAY (zC 3) (fC (.int 1))) (zC 2))) zAr)
  (zP (sIf (tst (fOp kEq (zC 1) (fC (.int 3)))) (zq (fOp kIx (zBk (zD (toD (zC 3)) (zD (toD (fC (.int 0))) zM))) (fB zKO (zN (fOp kEq (zC 3) (fOp zEG (zC 2) (fC (.int 1)))) zc)))) zAr)
  (zq (fOp zCW (fOp zAY (fOp zAY (zC 3) (fC (.int 1))) (fOp zE2 (zU zK (zD (toD (zC 0)) (zD (toD (fC (.int 2))) zM))) (fOp zEG (zC 2) (fC (.int 2))))) (zC 2))))))))
noncomputable def zBB:FF:=zBZ 6 zCi
noncomputable def zBc:FS:=(zP (zAI 3 (fOp zAY (fC (.int 1)) (zU zK (zD (toD (zC 0)) (zD (toD (zC 1)) zM)))))
  (zP (zAI 4 (fOp zAY (fC (.int 1)) (zU zK (zD (toD (zC 0)) (zD (toD (zC 2)) zM)))))
  (zP (zAI 5 (zU zK (zD (toD (zC 0)) (zD (toD (fC (.int 5))) zM))))
  (zP (zAI 6 (zBk zM))
  (zP (zC1 (zBH (zD (toD (zC 3)) zM)) (gN 7) (zA4 (fM zAS (zC 6) (zD (toD (fB zAp (zN (zy [8] (zBH (zD (toD (zC 4)) zM)) (gN 8) zAW (zU zBB (zD (toD (zC 0)) (zD (toD (zC 5)) (zD (toD (zC 3)) (zD (toD (zC 7)) (zD (toD (zC 8)) zM))))))) zc))) zM))))
  (zq (fB zAp (zN (zC 6) zc))))))))
noncomputable def zAX:FF:=zC3 (zBZ 9 zBc)
theorem zMd (h:Gen M n k) (hr0:0 <= room) (hr:room < rooms) (hR:rooms <= 1000) :
  Ok (zBB [.ref n,.int fam,.int rooms,.int room,.int letter] M) fun d M'=>(∃ i,d = .int i /\ 0 <= i /\ i < rooms) /\ Nx M M' n k:=by
 unfold zBB;rw [zAM];unfold zCi;have hm:∀ x:Int,0 <= x % rooms /\ x % rooms < rooms:=fun x=>⟨Int.emod_nonneg _ (by omega),Int.emod_lt_of_pos _ (by omega)⟩;rw [zI,zAm];refine zAz.mpr (zS.mpr (zL.mpr ⟨_,rfl,zt.mpr (zHl.mpr (zAP.mpr ?_))⟩));by_cases f0:fam = 0
 ·rw [zQU (by simpa using f0),zx];refine za h rfl rfl (by omega) (by omega) fun i M' i0 i1 nx=>?_;exact ⟨⟨i,rfl,i0,i1⟩,nx⟩
 rw [zQX (by simpa using f0),zAi,zQ,zI,zAm];refine zAz.mpr (zS.mpr (zL.mpr ⟨_,rfl,zt.mpr (zHl.mpr (zAP.mpr ?_))⟩));by_cases f1:fam = 1
 ·rw [zQU (by simpa using f1),zx];refine zS.mpr (zS.mpr (zL.mpr ⟨_,rfl,za h rfl rfl (by decide) (by decide) fun i M' i0 i1 nx=>zAj.mpr (zL.mpr ⟨_,rfl,zCc.mpr ⟨by omega,?_⟩⟩)⟩));exact ⟨⟨_,rfl,hm _⟩,nx⟩
 rw [zQX (by simpa using f1),zAi,zQ,zI,zAm];refine zAz.mpr (zS.mpr (zL.mpr ⟨_,rfl,zt.mpr (zHl.mpr (zAP.mpr ?_))⟩));by_cases f2:fam = 2
 ·rw [zQU (by simpa using f2),zI,zb];refine zS.mpr (zL.mpr ⟨_,rfl,zt.mpr (zIT.mpr ⟨by decide,?_⟩)⟩);rw [zF,zQ,zI,zAm];refine zAz.mpr (zS.mpr (zL.mpr ⟨_,rfl,zL.mpr ⟨_,rfl,zPX.mpr (zAP.mpr ?_)⟩⟩));by_cases hh:room < rooms / 2
  ·rw [zQU (by simpa using hh),zx];refine za h rfl rfl (by omega) (by omega) fun i M' i0 i1 nx=>?_;exact ⟨⟨i,rfl,i0,by omega⟩,nx⟩
  ·rw [zQX (by simpa using hh),zAi,zQ,zx];refine zS.mpr (zL.mpr ⟨_,rfl,za h rfl rfl (m:=rooms - rooms / 2) (by omega) (by omega) fun i M' i0 i1 nx=>zAj.mpr ?_⟩);exact ⟨⟨_,rfl,by omega,by omega⟩,nx⟩
 rw [zQX (by simpa using f2),zAi,zQ,zI,zAm];refine zAz.mpr (zS.mpr (zL.mpr ⟨_,rfl,zt.mpr (zHl.mpr (zAP.mpr ?_))⟩));by_cases l0:letter = 0
 ·rw [zQU (by simpa using l0),zx];refine zS.mpr (zS.mpr (zL.mpr ⟨_,rfl,zt.mpr (zAj.mpr (zL.mpr ⟨_,rfl,zCc.mpr ⟨by omega,?_⟩⟩))⟩));exact ⟨⟨_,rfl,hm _⟩,.refl h⟩
 rw [zQX (by simpa using l0),zAi,zQ,zI,zAm];refine zAz.mpr (zS.mpr (zL.mpr ⟨_,rfl,zt.mpr (zHl.mpr (zAP.mpr ?_))⟩));by_cases f3:fam = 3
 ·rw [zQU (by simpa using f3),zx];refine zS.mpr (zCn.mpr (ze.mpr (zi.mpr (zL.mpr ⟨_,rfl,zF.mpr (ze.mpr (zi.mpr (zt.mpr (zF.mpr (zAH.mpr ⟨zZ (by simp),?_⟩)))))⟩))));refine zHO.mpr (zAL.mpr (zS.mpr (zL.mpr ⟨_,rfl,zS.mpr (zL.mpr ⟨_,rfl,zt.mpr (zMs.mpr (zHl.mpr (zAd.mpr (zNb.mpr ?_))))⟩)⟩)));by_cases q:room = rooms - 1
  ·rw [zQU (by simpa using q)];exact zJR zB7 at1 ⟨⟨_,rfl,by omega,by omega⟩,.refl h⟩
  ·rw [zQX (by simpa using q)];exact zJR zB7 at0 ⟨⟨_,rfl,by omega,by omega⟩,.refl h⟩
 rw [zQX (by simpa using f3),zAi,zQ,zx];refine zS.mpr (zS.mpr (zS.mpr (zL.mpr ⟨_,rfl,zt.mpr (zAj.mpr (zS.mpr (za h rfl rfl (by decide) (by decide) fun i M' i0 i1 nx=>?_)))⟩)));refine zS.mpr (zL.mpr ⟨_,rfl,zt.mpr (zMs.mpr (zG4.mpr ⟨by simp [zHL] <;> omega,zAj.mpr (zL.mpr ⟨_,rfl,zCc.mpr ⟨by omega,?_⟩⟩)⟩))⟩);exact ⟨⟨_,rfl,hm _⟩,nx⟩
def mD (zA:List (List Int)):D:=.tup (zA.map fun r=> .tup (r.map D.int))
structure IsM (zA:List (List Int)) (l:Nat):Prop where
 r0:0 < zA.length
 l0:0 < l
 row:∀ r ∈ zA,r.length = l /\ ∀ g ∈ r,0 <= g /\ g < zA.length
theorem zKq (zA:List (List Int)):D.und n (mD zA) = true:=by
 unfold mD D.und;refine zBd fun x hx=>?_;obtain ⟨r,_,rfl⟩:=zQW.mp hx;exact zGJ r
theorem zJ6 (zA:List (List Int)):D.unds n (zA.map fun r=>D.tup (r.map D.int)) = true:=by
 refine zBd fun x hx=>?_;obtain ⟨r,_,rfl⟩:=zQW.mp hx;exact zGJ r
theorem zHU (h:Gen M n k) (hm:0 < most) (hm1:most <= 999) (hl:0 < lm) (hl1:lm <= 999) :
  Ok (zAX [.ref n,.int most,.int lm] M) fun d M'=>(∃ zA l,d = mD zA /\ IsM zA l /\ (zA.length:Int) <= most /\ (l:Int) <= lm) /\ Nx M M' n k:=by
 unfold zAX;refine zGC ?_;rw [zAM];unfold zBc;rw [zI,zb];refine zS.mpr (zt.mpr (za h rfl rfl (by omega) (by omega) fun R M1 R0 R1 nx1=>zAj.mpr ?_));rw [zF,zQ,zI,zb];refine zS.mpr (zt.mpr (za nx1.gen rfl rfl (by omega) (by omega) fun L M2 L0 L1 nx2=>zAj.mpr ?_));rw [zF,zQ,zI,zb];refine za nx2.gen rfl rfl (by decide) (by decide) fun F M3 F0 F1 nx3=>?_;rw [zF,zQ,zI,zb];refine zCn.mpr (zAH.mpr ⟨zZ (by simp),?_⟩);rw [zFl,zQ,zI,zA7];have nx:=(nx1.trans nx2).trans nx3;refine ⟨_,_,_,zCB rfl (by omega) (by omega),?_⟩;have hlen:M3.length = M.length:=nx.len;generalize eR:1 + R = Rm;generalize eL:1 + L = Lm
 refine zEg (n:=Rm.toNat) (I:=fun i σ M'=>∃ x y,σ = [some (.ref n),some (.int most),some (.int lm),some (.int Rm),some (.int Lm),some (.int F),some (.ref M.length),x,y] /\ ∃ (A:Mem) (zA:List (List Int)),M' = A ++ [.lst (zA.map fun r=>D.tup (r.map D.int))] /\ Nx M A n k /\ zA.length = i /\ ∀ r ∈ zA,r.length = Lm.toNat /\ ∀ g ∈ r,0 <= g /\ g < Rm)
  ?_ ?_ _ _ ⟨none,none,by simp [hlen],M3,[],rfl,nx,rfl,fun _ h=>by cases h⟩
 ·rintro i σ M' hi ⟨x,y,rfl,A,zA,rfl,nxA,hrl,hrow⟩;refine ⟨_,rfl,?_⟩;rw [zBC];have eA:(A ++ [MO.lst (zA.map fun r=>D.tup (r.map D.int))])[M.length]? = some (.lst (zA.map fun r=>D.tup (r.map D.int))):=by
   rw [<- nxA.len]; simp
  refine zHx.mpr (zL.mpr ⟨_,rfl,⟨_,zAQ eA⟩,ze.mpr (zi.mpr (zHO.mpr (zAL.mpr (zBx.mpr ⟨_,_,_,zCB rfl (by omega) (by omega),by rw [zCY]; exact zZ (by omega),?_⟩))))⟩);refine Ok.mono (zNh (n:=Lm.toNat) (I:=fun j acc M2=>∃ (A2:Mem) (c:List Int),M2 = A2 ++ [.lst (zA.map fun r=>D.tup (r.map D.int))] /\ Nx M A2 n k /\ acc = c.map D.int /\ c.length = j /\ ∀ g ∈ c,0 <= g /\ g < Rm) ?_ ⟨A,[],rfl,nxA,rfl,rfl,fun _ h=>by cases h⟩) ?_
  ·rintro j acc M2 hj ⟨A2,c,rfl,nxA2,rfl,hcl,hc⟩;refine ⟨_,rfl,?_⟩;have gA:Gen (A2 ++ [MO.lst (zA.map fun r=>D.tup (r.map D.int))]) n k:=nxA2.gen.app (by
    intro u hu;have:u = .lst (zA.map fun r=>D.tup (r.map D.int)):=by simpa using hu
    subst this;exact zJ6 zA)
   refine zA6.mpr (ze.mpr (zi.mpr (zL.mpr ⟨_,rfl,zF.mpr (ze.mpr (zi.mpr (zL.mpr ⟨_,rfl,zF.mpr (ze.mpr (zi.mpr (zL.mpr ⟨_,rfl,zF.mpr (ze.mpr (zi.mpr (zL.mpr ⟨_,rfl,zF.mpr (ze.mpr (zi.mpr (zL.mpr ⟨_,rfl,zF.mpr (zAH.mpr ?_)⟩)))⟩)))⟩)))⟩)))⟩)));refine Ok.mono (zMd gA (by omega) (by omega) (by omega)) ?_;rintro d M4 ⟨⟨g,rfl,g0,g1⟩,nx4⟩;obtain ⟨A3,rfl,nx5⟩:=nx4.split nxA2.gen;rw [zF];refine ⟨A3,c ++ [g],rfl,nxA2.trans nx5,by simp,by simp [hcl],fun z hz=>?_⟩;rcases zQf.mp hz with q | q
   ·exact hc z q
   ·have:z = g:=by simpa using q
    subst this; exact ⟨g0,g1⟩
  ·rintro ys M2 ⟨A2,c,rfl,nxA2,rfl,hcl,hc⟩;refine zAd.mpr ((zFm zB7).mpr (zF.mpr (zAH.mpr ?_)));have eA2:(A2 ++ [MO.lst (zA.map fun r=>D.tup (r.map D.int))])[M.length]? = some (.lst (zA.map fun r=>D.tup (r.map D.int))):=by
    rw [<- nxA2.len]; simp
   rw [zB5 eA2 (by rw [zQO,hrl]; exact zQe (by omega) (zZ (n:=100000) (by omega)))];refine ⟨_,_,rfl,A2,zA ++ [c],?_,nxA2,by simp [hrl],fun r hr=>?_⟩
   ·rw [<- nxA2.len,List.set_append_right _ _ (by omega)];simp
   ·rcases zQf.mp hr with q | q
    ·exact hrow r q
    ·have:r = c:=by simpa using q
     subst this; exact ⟨hcl,hc⟩
 ·rintro σ M' ⟨x,y,rfl,A,zA,rfl,nxA,hrl,hrow⟩;rw [zQ,zx];have eA:(A ++ [MO.lst (zA.map fun r=>D.tup (r.map D.int))])[M.length]? = some (.lst (zA.map fun r=>D.tup (r.map D.int))):=by
   rw [<- nxA.len]; simp
  refine zHO.mpr (zAL.mpr (zL.mpr ⟨_,rfl,zAd.mpr ((zFm (zh eA)).mpr ?_)⟩));rw [zF];have tk:(A ++ [MO.lst (zA.map fun r=>D.tup (r.map D.int))]).take M.length = A:=by rw [<- nxA.len]; simp
  refine ⟨⟨zKq zA,by rw [zQV,nxA.len]; omega,fun j u hj e=>?_⟩,⟨zA,Lm.toNat,rfl,⟨by omega,by omega,fun r hr=>?_⟩,by omega,by omega⟩,by rw [tk]; exact nxA⟩
  ·rw [zQM (by rw [nxA.len]; exact hj)] at e;have:=nxA.gen.wf j u e;rw [nxA.len] at this;exact this
  ·obtain ⟨q1,q2⟩:=hrow r hr;exact ⟨q1,fun g hg=>⟨(q2 g hg).1,by have:=(q2 g hg).2; omega⟩⟩
theorem zJ {α:Type} {x:Option (α × Mem)} {a:α} {M:Mem} (h:Ok x fun b M'=>b = a /\ M' = M):x = some (a,M):=by
 obtain ⟨b,M',e,rfl,rfl⟩:=h; exact e
theorem zH {α:Type} {x:Option (α × Mem)} {a:α} {M:Mem} {P:α -> Mem -> Prop} (h:x = some (a,M)) (p:P a M):Ok x P:=⟨a,M,h,p⟩
theorem zp {c:FT} {a g:FS} {σ:Sd} {M:Mem} {P:Out -> Sd -> Mem -> Prop} (hc:c σ M = some (false,M)) (h:OkS (g σ M) P):OkS (zP (sIf c a zAr) g σ M) P:=by
 rw [zI,zAm];refine zH hc ?_;rw [zQX (by decide),zAi];exact h
theorem zDd {f:FE} {σ:Sd} {M M':Mem} {k:Bool} (h:f σ M = some (.dat (.bl k),M')):zAv (tst f) σ M = some (!k,M'):=by
 unfold zAv tst; rw [h]
theorem z0 {f:FE} {σ:Sd} {M:Mem} {d:D} (h:f σ M = some (.dat d,M)):zD (toD f) zM σ M = some ([d],M):=by
 unfold zD toD zM; rw [h]
theorem zA3 {f:FE} {g:FA} {σ:Sd} {M:Mem} {d:D} {ds:List D} (h:f σ M = some (.dat d,M)) (hg:g σ M = some (ds,M)):zD (toD f) g σ M = some (d :: ds,M):=by
 unfold zD toD; rw [h]; dsimp only; rw [hg]
theorem zA8 {m:FF} {a:FA} {σ:Sd} {M M':Mem} {ds:List D} {d:D} (h:a σ M = some (ds,M)) (hm:m ds M = some (d,M')):zU m a σ M = some (.dat d,M'):=by
 unfold zU; rw [h]; dsimp only; rw [hm]
theorem zX {k:K2} {f g:FE} {σ:Sd} {M:Mem} {x y:EV} {r:Option (EV × Mem)} (hf:f σ M = some (x,M)) (hg:g σ M = some (y,M)) (hk:k x y M = r):fOp k f g σ M = r:=by
 unfold fOp; rw [hf]; dsimp only; rw [hg]; exact hk
theorem zD7 {x:EV} {xs:List D} {i:Int} {d:D} {M:Mem} (h:zAG M x = some xs) (hd:atI xs i = some d):kIx x (.dat (.int i)) M = some (.dat d,M):=zJ (zJR h hd ⟨rfl,rfl⟩)
theorem zDO {f:FE} {x:EV} {xs:List D} {σ:Sd} {M:Mem} (hf:f σ M = some (x,M)) (h:zAG M x = some xs):fB zBw (zN f zc) σ M = some (.dat (.int xs.length),M):=by
 unfold fB zN zc; rw [hf]; exact zJ ((zMt h).mpr ⟨rfl,rfl⟩)
theorem zOK {zA:List (List Int)} {h:Int} (h0:0 <= h) (h1:h < zA.length):atI (zA.map fun r=>D.tup (r.map D.int)) h = some (.tup ((zA.getD h.toNat []).map D.int)):=by
 refine zNT h0 ?_;rw [zQc,zQK,zQJ (by omega)];rfl
theorem IsM.get {zA:List (List Int)} {l:Nat} (m:IsM zA l) {h:Int} (h0:0 <= h) (h1:h < zA.length):(zA.getD h.toNat []).length = l /\ ∀ g ∈ zA.getD h.toNat [],0 <= g /\ g < zA.length:=by
 refine m.row _ ?_;rw [zQK,zQJ (by omega)];exact List.getElem_mem _
theorem zNM {σ:Sd} {M:Mem} {ns:List Int} {j:Nat} {i:Int} (hσ:σ[i.toNat]? = σ[i.toNat]?) (hi:zC j σ M = some (.dat (.ref 0),M)) (h0:M[0]? = some (.fro (ns.map D.int))):∃ c:List Int,fSl (zC j) zBh (zBW (fC (.int i))) σ M = some (.fl (c.map D.int),M) /\ c.length <= ns.length:=by
 obtain ⟨c,ec,lc⟩:=zHN ns none (some i);refine ⟨c,zJ (zMy.mpr (zH hi (zGx.mpr (zGb.mpr (zt.mpr (zHM.mpr ?_)))))),lc⟩;rw [zJp (zFn h0) rfl,ec]; exact ⟨rfl,rfl⟩
noncomputable def zBq (g_rec:FF):FS:=(zP (sIf (tst (zB0 "tuple" (zC 1))) (zP (sIf (zE0 (zAv (tst (zB0 "tuple" (zC 0)))) (tst (fOp kNe (fB zBw (zN (zC 0) zc)) (fB zBw (zN (zC 1) zc))))) (zq (fC (.bl false))) zAr)
  (zq (fB zHf (zN (zy [2,3] (zI8 (zD (toD (zC 0)) (zD (toD (zC 1)) zM))) (zBl 2 3) zAW (zU g_rec (zD (toD (zC 2)) (zD (toD (zC 3)) zM)))) zc)))) zAr)
  (zP (sIf (tst (fOp (kIs false) (zC 1) (fC .non))) (zq (fOp (kIs false) (zC 0) (fC .non))) zAr)
  (zP (sIf (tst (zB0 "bool" (zC 1))) (zq (zGe (zB0 "bool" (zC 0)) (fOp kEq (zC 0) (zC 1)))) zAr)
  (zP (sIf (tst (zB0 "str" (zC 1))) (zq (zGe (zB0 "str" (zC 0)) (fOp kEq (zC 0) (zC 1)))) zAr)
  (zq (zGe (zB0 "int" (zC 0)) (zGe (zK0 (zB0 "bool" (zC 0))) (fOp kEq (zC 0) (zC 1)))))))))
noncomputable def zu:Nat -> FF
 | 0=>fun _ _=>none
 | n + 1=>zBZ 4 (zBq (zu n))
noncomputable def zAK:FF:=zu 5
theorem zIE (hf:f σ M = some (x,M)) (ht:zDv M x = some t):zB0 T f σ M = some (.dat (.bl (isT t T)),M):=by
 unfold zB0; rw [hf]; dsimp only; rw [ht]
theorem zA2 (h:f σ M = some (.dat (.bl k),M')):tst f σ M = some (k,M'):=by unfold tst; rw [h]
theorem isV (hf:f σ M = some (x,M)) (ht:zDv M x = some t) (h:isT t T = k):zB0 T f σ M = some (.dat (.bl k),M):=by
 rw [zIE hf ht,h]
theorem isF (hf:f σ M = some (x,M)) (ht:zDv M x = some t) (h:isT t T = false):tst (zB0 T f) σ M = some (false,M):=by
 rw [zA2 (zIE hf ht),h]
theorem zLo (hf:f σ M = some (x,M)) (ht:zDv M x = some t) (h:isT t T = true):tst (zB0 T f) σ M = some (true,M):=by
 rw [zA2 (zIE hf ht),h]
theorem zD3 (hc:c σ M = some (true,M)) (h:OkS (a σ M) (nxP (fun σ1 M1=>OkS (g σ1 M1) P) P)):OkS (zP (sIf c a b) g σ M) P:=by
 rw [zI,zAm];refine zH hc ?_;rw [zQU rfl];exact h
theorem zAk (hf:f σ M = some (.dat d,M)) (h:P (.ret d) σ M):OkS (zq f σ M) P:=by
 rw [zx]; exact zH hf h
def Pl:Nat -> D -> Prop
 | 0,d=>(zCZ d).isSome = true
 | n + 1,d=>(zCZ d).isSome = true \/ ∃ ds,d = .tup ds /\ ds.length <= sizeLine /\ ∀ x ∈ ds,Pl n x
theorem Pl.int (n:Nat) (i:Int):Pl n (.int i):=by cases n; exact rfl; exact .inl rfl
theorem Pl.tup (hz:ds.length <= 100000) (h:∀ x ∈ ds,Pl n x):Pl (n + 1) (.tup ds):=.inr ⟨ds,rfl,zZ hz,h⟩
theorem Pl.ints {c:List Int} (hz:c.length <= 100000):Pl 1 (.tup (c.map D.int)):=Pl.tup (by simpa using hz) fun x hx=>by obtain ⟨i,_,rfl⟩:=zQW.mp hx; exact Pl.int 0 i
theorem Pl.zA {zA:List (List Int)} (hz:zA.length <= 100000) (hr:∀ r ∈ zA,r.length <= 100000):Pl 2 (mD zA):=Pl.tup (by simpa using hz) fun x hx=>by obtain ⟨i,hi,rfl⟩:=zQW.mp hx; exact Pl.ints (hr i hi)
theorem zEL (h:(zCZ d).isSome = true):kEq (.dat d) (.dat d) M = some (.dat (.bl true),M):=by
 cases d with
 | tup _=>cases h
 | ref _=>cases h
 | fn _ _=>cases h
 | non=>rfl
 | bl k=>cases k <;> rfl
 | int i=>show some (EV.dat (.bl (decide (V.int i = V.int i))),M) = _; simp
 | str x=>show some (EV.dat (.bl (decide (V.str x = V.str x))),M) = _; simp
theorem zCQ (hf:f σ M = some (.dat (.bl true),M)) (hg:g σ M = some (.dat (.bl true),M)):zGe f g σ M = some (.dat (.bl true),M):=by
 unfold zGe; rw [hf]; exact hg
theorem zHm (hf:f σ M = some (.dat (.bl false),M)):zK0 f σ M = some (.dat (.bl true),M):=by
 unfold zK0; rw [hf]; rfl
theorem zI7:∀ (n:Nat) (d:D) (M:Mem),Pl n d -> zu (n + 1) [d,d] M = some (.bl true,M):=by
 intro n;have sc:∀ (n:Nat) (d:D) (M:Mem),(zCZ d).isSome = true -> zu (n + 1) [d,d] M = some (.bl true,M):=by
  intro n d M hs;refine zJ ?_;unfold zu;rw [zAM];unfold zBq;cases d with
  | tup _=>cases hs
  | ref _=>cases hs
  | fn _ _=>cases hs
  | non=>
   refine zp (isF rfl rfl (by decide)) ?_;refine zD3 (zA2 (zX rfl rfl rfl)) (zAk (zX rfl rfl rfl) ⟨rfl,rfl⟩)
  | bl k=>
   refine zp (isF rfl rfl (by decide)) (zp (zA2 (zX rfl rfl rfl)) ?_);refine zD3 (zLo rfl rfl (by decide)) (zAk (zCQ (isV rfl rfl (by decide)) (zX rfl rfl (zEL rfl))) ⟨rfl,rfl⟩)
  | str x=>
   refine zp (isF rfl rfl (by decide)) (zp (zA2 (zX rfl rfl rfl)) (zp (isF rfl rfl (by decide)) ?_));refine zD3 (zLo rfl rfl (by decide)) (zAk (zCQ (isV rfl rfl (by decide)) (zX rfl rfl (zEL rfl))) ⟨rfl,rfl⟩)
  | int i=>
   refine zp (isF rfl rfl (by decide)) (zp (zA2 (zX rfl rfl rfl)) (zp (isF rfl rfl (by decide)) (zp (isF rfl rfl (by decide)) ?_)));exact zAk (zCQ (isV rfl rfl (by decide)) (zCQ (zHm (isV rfl rfl (by decide))) (zX rfl rfl (zEL rfl)))) ⟨rfl,rfl⟩
 induction n with
 | zero=>exact fun d M h=>sc 0 d M h
 | succ n ih=>
  intro d M h;rcases h with h | ⟨ds,rfl,hz,h⟩
  ·exact sc (n + 1) d M h
  refine zJ ?_;unfold zu;rw [zAM];unfold zBq;refine zD3 (zLo rfl rfl (by decide)) (zp ?_ ?_)
  ·refine zJ (zKQ.mpr (zFv.mpr (zH (zLo rfl rfl (by decide)) ?_)));rw [zQX (by decide)];refine zAz.mpr (zH (zX (zDO rfl zBV) (zDO rfl zBV) (zJ (zOi.mpr ⟨rfl,rfl⟩))) ?_);rw [zAP]; simp
  ·rw [zx];refine zHO.mpr (zAL.mpr (zBx.mpr ⟨(ds.zip ds).map fun q=>D.tup [q.1,q.2],none,M,rfl,?_,?_⟩))
   ·rw [zQO,List.length_zip]; omega
   ·refine Ok.mono (zBP (I:=fun r acc M'=>M' = M /\ (∃ rest:List D,r = (rest.zip rest).map (fun q=>D.tup [q.1,q.2]) /\ ∀ x ∈ rest,Pl n x) /\ ∃ k:Nat,acc = (List.replicate k true).map D.bl) (Q:=fun acc M'=>M' = M /\ ∃ k:Nat,acc = (List.replicate k true).map D.bl) ?_ ?_ _ [] _ ⟨rfl,⟨ds,rfl,h⟩,0,rfl⟩) ?_
    ·rintro x r acc M' ⟨rfl,⟨rest,hr,hp⟩,k,rfl⟩;cases rest with
     | nil=>cases hr
     | cons y rest=>
      rw [List.zip_cons_cons,zQY] at hr;obtain ⟨rfl,rfl⟩:=List.cons.inj hr;refine ⟨zAE,_,rfl,zDC.mpr ?_⟩;rw [zQU rfl];refine zH (zA8 (zA3 rfl (z0 rfl)) (ih y M' (hp y zQT))) ?_;rw [zF];exact ⟨rfl,⟨rest,rfl,fun z hz=>hp z (zQS _ hz)⟩,k + 1,by rw [List.replicate_succ',zQ7]; rfl⟩
    ·rintro acc M' ⟨rfl,_,hk⟩;exact ⟨zAE,rfl,hk⟩
    ·rintro ys M' ⟨rfl,k,hk⟩;rw [List.nil_append] at hk;subst hk;refine zAd.mpr ((zMx zJ1 (zDR _)).mpr ?_);rw [zF];refine ⟨?_,rfl⟩;simp
theorem zBM {α:Type} (as:List α) (enc out:α -> D) (hi:fi σ M = some (as.map enc,gd,M)) (hgd:zBQ gd (as.map enc) M) (hz:as.length <= 100000)
  (he:∀ a ∈ as,∃ σ1,g (enc a) (zHv own σ) = some σ1 /\ te σ1 M = some (.dat (out a),M)):zy own fi g zAW te σ M = some (.fl (as.map out),M):=by
 refine zJ (zBx.mpr ⟨_,_,_,hi,by rw [zQO]; exact zZ hz,?_⟩);refine Ok.mono (zBP (I:=fun r acc M'=>M' = M /\ ∃ ra rb:List α,as = rb ++ ra /\ r = ra.map enc /\ acc = rb.map out) (Q:=fun acc M'=>M' = M /\ acc = as.map out) ?_ ?_ _ [] _ ⟨rfl,as,[],rfl,rfl,rfl⟩) ?_
 ·rintro x r acc M' ⟨rfl,ra,rb,hab,hr,rfl⟩;cases ra with
  | nil=>cases hr
  | cons a ra=>
   rw [zQY] at hr;obtain ⟨rfl,rfl⟩:=List.cons.inj hr;obtain ⟨σ1,e1,e2⟩:=he a (by rw [hab]; simp);refine ⟨hgd,σ1,e1,zDC.mpr ?_⟩;rw [zQU rfl];refine zH e2 ?_;rw [zF];exact ⟨rfl,ra,rb ++ [a],by rw [hab]; simp,rfl,by simp⟩
 ·rintro acc M' ⟨rfl,ra,rb,hab,hr,rfl⟩;cases ra with
  | nil=>rw [zQz] at hab; subst hab; exact ⟨hgd,rfl,rfl⟩
  | cons a ra=>cases hr
 ·rintro ys M' ⟨rfl,h⟩;rw [List.nil_append] at h;subst h;exact ⟨rfl,rfl⟩
theorem zEX (hf:f σ M = some (x,M)) (h:zAG M x = some xs):fB zAp (zN f zc) σ M = some (.dat (.tup xs),M):=by
 unfold fB zN zc; rw [hf]; exact zJ ((zFm h).mpr ⟨rfl,rfl⟩)
theorem zMB (hf:f σ M = some (.dat (.tup xs),M)):zAb f σ M = some (xs,none,M):=zAc hf zBV
theorem zFk (hf:f σ M = some (.dat d,M)) (h:OkS (g (σ.set i (some d)) M) P):OkS (zP (zAI i f) g σ M) P:=by
 rw [zI,zb]; exact zH hf h
theorem zMq (h:f σ M = some (.dat d,M')):zD (toD f) zM σ M = some ([d],M'):=by
 unfold zD toD zM; rw [h]
theorem zHp {bs:List Bool} (h:f σ M = some (.fl (bs.map D.bl),M)):fB zHf (zN f zc) σ M = some (.dat (.bl (bs.all id)),M):=by
 unfold fB zN zc; rw [h]; exact zJ ((zMx zJ1 (zDR bs)).mpr ⟨rfl,rfl⟩)
theorem zCl {α:Type} (xs:List α) (p:α -> Bool):(xs.map p).all id = xs.all p:=by rw [List.all_map]; rfl
noncomputable def zDU:FS:=(zP (sIf (zE0 (zAv (tst (zB0 "str" (zC 0)))) (zAv (tst (zA1 kLe kLe (fC (.int 1)) (fB zE9 (zN (zC 0) zc)) (fC (.int 8)))))) (zq (fC (.bl false))) zAr)
  (zq (fB zHf (zN (zy [1] (zLQ (zC 0)) (gN 1) zAW (zA1 zH7 zH7 (fC (.str "a")) (zC 1) (fC (.str "z")))) zc))))
noncomputable def zAq:FF:=zBZ 2 zDU
def zDP (c:Nat):Bool:=decide (97 <= c) && decide (c <= 122)
def zM4 (z:Str):Bool:=z.cps.toList.all zDP
def zCE (z:Str):Bool:=(decide (1 <= z.length) && decide (z.length <= 8)) && zM4 z
def zFG:D -> Bool
 | .str z=>zCE z
 | _=>false
def zH8:D -> Bool
 | .str _=>true
 | _=>false
theorem zNw (e:zDv M (.dat d) = some t):isT t "str" = zH8 d:=by
 cases d with
 | non=>cases e; decide
 | bl k=>cases e; exact (show isT "bool" "str" = false by decide)
 | int i=>cases e; exact (show isT "int" "str" = false by decide)
 | str x=>cases e; exact (show isT "str" "str" = true by decide)
 | tup ds=>cases e; exact (show isT "tuple" "str" = false by decide)
 | fn l ds=>
  unfold zDv at e;first | (cases e; decide) | cases e
 | ref n=>
  unfold zDv at e;dsimp only at e;have l:isT "list" "str" = false:=by decide
  have dd:isT "dict" "str" = false:=by decide
  split at e <;> cases e <;> first | exact l | exact dd
theorem zM7 (h:z.length <= 100000):Ok (zE9 [.dat (.str z)] M) P ↔ P (.dat (.int z.length)) M:=by
 unfold zE9; dsimp only; rw [zQU (zZ h),zV]
theorem zMo:Ok (zH7 (.dat (.str i)) (.dat (.str j)) M) P ↔ P (.dat (.bl (!(decide (j.cps.toList < i.cps.toList))))) M:=zV
theorem zGD {a b:Nat}:([a] < [b]) ↔ a < b:=by
 rw [List.cons_lt_cons_iff];exact ⟨fun h=>h.elim id fun h=>absurd h.2 (List.not_lt_nil _),.inl⟩
theorem zPh:(Str.ofString "a").cps.toList = [97]:=by decide +kernel
theorem zPZ:(Str.ofString "z").cps.toList = [122]:=by decide +kernel
theorem zL5 {M:Mem} {d:D} {t:String} (h:zDv M (.dat d) = some t) (hz:∀ z,d = .str z -> z.length <= 1000):zAq [d] M = some (.bl (zFG d),M):=by
 refine zJ ?_;unfold zAq;rw [zAM];unfold zDU;show OkS (zP _ _ [some d,none] M) _;have ts:=zNw h;rw [zI,zAm];refine zKQ.mpr (zFv.mpr (zAz.mpr (zNm.mpr (zL.mpr ⟨_,rfl,t,h,zAP.mpr ?_⟩))));rw [ts];cases d with
 | str z=>
  have hl:=hz z rfl;rw [zQX (by simp [zH8])];refine zFv.mpr (zAz.mpr (zGN.mpr (zt.mpr (zHO.mpr (zAL.mpr (zL.mpr ⟨_,rfl,zAd.mpr ((zM7 (by omega)).mpr (zL3.mpr (zAP.mpr ?_)))⟩))))));have ret:∀ b,zCE z = b -> OkS (zq (fC (.bl b)) [some (.str z),none] M) (nxP (fun σ1 M1=>OkS (zq (fB zHf (zN (zy [1] (zLQ (zC 0)) (gN 1) zAW (zA1 zH7 zH7 (fC (.str "a")) (zC 1) (fC (.str "z")))) zc)) σ1 M1) fun o x M1=>match o with | .ret d=>d = .bl (zFG (.str z)) /\ M1 = M | .nx=>(D.non) = .bl (zFG (.str z)) /\ M1 = M | _=>False) fun o x M1=>match o with | .ret d=>d = .bl (zFG (.str z)) /\ M1 = M | .nx=>(D.non) = .bl (zFG (.str z)) /\ M1 = M | _=>False):=fun b hb=>
   zAk rfl ⟨by rw [show zFG (.str z) = zCE z from rfl,hb],rfl⟩
  by_cases h1:(1:Int) <= z.length
  ·rw [zQU (by simpa using h1)];refine zt.mpr (zL3.mpr (zAP.mpr ?_));by_cases h2:(z.length:Int) <= 8
   ·rw [zQX (by simpa using h2),zAi,zQ];refine zAk (zHp (bs:=z.cps.toList.map zDP) ?_) ⟨?_,rfl⟩
    ·rw [zQd];refine zBM (gd:=none) z.cps.toList (fun c=> .str ⟨#[c]⟩) (fun c=> .bl (zDP c)) ?_ trivial (by rw [zQy]; show z.length <= _; omega) fun c _=>⟨_,rfl,?_⟩
     ·show some ((zED z).map D.str,none,M) = _;unfold zED; rw [zQd]; rfl
     ·refine zJ (zGN.mpr (zt.mpr (zL.mpr ⟨_,rfl,zMo.mpr (zAP.mpr ?_)⟩)));rw [zPh];show (if (!decide ([c] < [97])) = true then _ else _);by_cases q1:97 <= c
      ·rw [zQU (by rw [Bool.not_eq_true',decide_eq_false_iff_not,zGD]; omega)];refine zt.mpr (zMo.mpr ⟨?_,rfl⟩);rw [zPZ];show EV.dat (.bl (!decide ([122] < [c]))) = _;unfold zDP;by_cases q2:c <= 122
       ·rw [zQo (by rw [zGD]; omega:¬ ([122] < [c])),zRN q1,zRN q2]; rfl
       ·rw [zRN (by rw [zGD]; omega:[122] < [c]),zRN q1,zQo q2]; rfl
      ·rw [zQX (by rw [Bool.not_eq_true',decide_eq_false_iff_not,zGD]; omega)];refine ⟨?_,rfl⟩;unfold zDP; simp [q1]
    ·rw [zCl];show D.bl (zM4 z) = .bl (zCE z);unfold zCE;rw [zRN (by omega:1 <= z.length),zRN (by omega:z.length <= 8)]; rfl
   ·rw [zQU (by simpa using h2)];exact ret false (by unfold zCE; rw [zQo (by omega:¬ z.length <= 8)]; simp)
  ·rw [zQX (by simpa using h1)];exact ret false (by unfold zCE; rw [zQo (by omega:¬ 1 <= z.length)]; simp)
 | _=>
  rw [zQU (by simp [zH8]),zQU rfl];exact zAk rfl ⟨rfl,rfl⟩
abbrev LET:Str:=Str.ofString "abcdefghijklmnopqrstuvwxyz"
theorem zLy:LET.cps.toList.length = 26:=by decide +kernel
theorem zLB (x y:Str):(x ++ y).cps.toList = x.cps.toList ++ y.cps.toList:=by
 show (x.cps ++ y.cps).toList = _; simp
theorem zJb (x:Str):x.length = x.cps.toList.length:=by rw [zQy]; rfl
theorem zEY:∀ ys:List Str,zCs (ys.map D.str) = some ys
 | []=>rfl
 | y :: r=>by rw [zQY]; unfold zCs; rw [zEY r]
theorem zK4 (e:z.cps.toList = cs) (h1:1 <= cs.length) (h2:cs.length <= 8) (h:∀ c ∈ cs,zDP c = true):zCE z = true:=by
 unfold zCE zM4;rw [zJb,e,zRN h1,zRN h2,zQq.mpr h]; rfl
theorem zMS (hf:f σ M = some (.dat (.str sep),M))
  (h:Ok (fa σ M) fun xs M2=>∃ (x:EV) (ys:List Str),xs = [x] /\ zAZ M2 x = some (ys.map D.str) /\ (ys.map (·.length)).sum + ys.length * sep.length <= 16777216 /\ P (.dat (.str (Txt.join sep ys))) M2):Ok (zA5 f fa σ M) P:=by
 obtain ⟨xs,M2,e,x,ys,rfl,hl,hz,p⟩:=h;refine ⟨_,_,?_,p⟩;unfold zA5;rw [hf]; dsimp only;rw [e]; dsimp only;rw [hl]; dsimp only;rw [zEY]; dsimp only;rw [zQU hz]
theorem zHZ (h:i.length + j.length <= 100000):Ok (zCb (.dat (.str i)) (.dat (.str j)) M) P ↔ P (.dat (.str (i ++ j))) M:=by
 unfold zCb kS2; dsimp only; rw [zQU (zRN (zZ h)),zV]
theorem zOL (h1:n <= 1000) (h2 : -1000 <= n) (h3:i.length <= 1000):Ok (zBe (.dat (.str i)) (.dat (.int n)) M) P ↔ P (.dat (.str (Txt.mul i n))) M:=by
 unfold zBe; dsimp only; rw [zQU ⟨h1,h2,h3⟩,zV]
open ST
def tI (xs:List Int):D:=.tup (xs.map D.int)
end Law
namespace Law
open PySem PySem.Spec PyProof.Rows L2 L3 ST
theorem zKi (h:Gen M n k) (ha:fa σ M = some (.dat (.ref n),M)) (hb:fb σ M = some (.dat (.int m),M)) (h0:0 < m) (h1:m < 1073741824) :
  Ok (zU zK (zD (toD fa) (zD (toD fb) zM)) σ M) fun x Mc=>∃ cnt:Int,x = .dat (.int cnt) /\ 0 <= cnt /\ cnt < m /\ Nx M Mc n k:=za h ha hb h0 h1 fun i M' i0 i1 nx=>⟨i,rfl,i0,i1,nx⟩
theorem zDV (n:Nat) (hn:n < 5) (hp:Pl n d) (e1:f1 σ M = some (.dat d,M)) (e2:f2 σ M = some (.dat d,M)):zU zAK (zD (toD f1) (zD (toD f2) zM)) σ M = some (.dat (.bl true),M):=by
  refine zA8 (zA3 e1 (z0 e2)) ?_;unfold zAK;have up:∀ (m n:Nat) (d:D),n <= m -> Pl n d -> Pl m d:=by
    intro m;induction m with
    | zero => intro n d h p; have : n = 0 := by omega
              subst this; exact p
    | succ m ih=>
      intro n d h p;cases n with
      | zero=>exact .inl p
      | succ n=>
        rcases p with p | ⟨ds,e,hz,p⟩
        · exact .inl p
        · exact .inr ⟨ds,e,hz,fun x hx=>ih n x (by omega) (p x hx)⟩
  exact zI7 4 d M (up 4 n d (by omega) hp)
theorem zGI (e:f σ M = some (.dat (mD zA),M)):fB zBw (zN f zc) σ M = some (.dat (.int zA.length),M):=by
 have:=zDO e zBV;rw [zQO] at this; exact this
end Law
namespace Law
open PySem PySem.Spec PyProof.Rows L2 L3 ST
structure Nw (M M':Mem) (n k:Nat):Prop where
 gen:Gen M' n k
 len:M.length <= M'.length
 fr:∀ j,j < M.length -> j ≠ n -> j ≠ k -> M'[j]? = M[j]?
theorem Nw.trans {M M1 M2:Mem} {n k:Nat} (a:Nw M M1 n k) (b:Nw M1 M2 n k):Nw M M2 n k :=
 ⟨b.gen,zQg a.len b.len,fun j h h1 h2=>(b.fr j (zQe h a.len) h1 h2).trans (a.fr j h h1 h2)⟩
theorem Nx.nw (x:Nx M M' n k):Nw M M' n k:=⟨x.gen,by rw [x.len]; exact zQL _,fun j _ h1 h2=>x.fr j h1 h2⟩
theorem Gen.lst (h:Gen A n k) (xs:List D) (hx:D.unds A.length xs = true):Nw A (A ++ [.lst xs]) n k:=⟨h.app fun u hu=>by
 have:u = .lst xs:=by simpa using hu
 subst this; exact zAn (by simp) hx,by simp,fun j hj _ _=>zQM hj⟩
theorem Nw.setB (h:Nw M A n k) (g:Gen M n k) (hj:M.length <= j) (hu:MO.und A.length u = true):Nw M (A.set j u) n k:=by
 obtain ⟨hn,hk⟩:=g.lt;obtain ⟨c,s,e1,e2,r⟩:=h.gen.ex;refine ⟨⟨⟨c,s,by rw [zQj (by omega)]; exact e1,by rw [zQj (by omega)]; exact e2,r⟩,g.ne,fun i v e=>?_⟩,by rw [List.length_set]; exact h.len,fun i hi h1 h2=>by rw [zQj (by omega)]; exact h.fr i hi h1 h2⟩;rw [List.length_set];rw [zRo] at e;split at e
 ·split at e
  ·cases e; exact hu
  ·cases e
 ·exact h.gen.wf i v e
theorem Nw.get (h:Nw M M' n k) (e:M[j]? = some u) (h1:j ≠ n) (h2:j ≠ k):M'[j]? = some u :=
 (h.fr j (zQI.mp e).1 h1 h2).trans e
end Law
namespace Lac
open PySem PySem.Spec PyProof.Rows L2 L3 ST Law
theorem zm (h:P (.ref M.length) (M ++ [.lst xs])):zEB P (.fl xs) M:=h
theorem zd (A:Mem) (u:MO):(A ++ [u])[A.length]? = some u:=by simp
theorem zP5 (h:0 < b):zCW (.dat (.int a)) (.dat (.int b)) M = some (.dat (.int (a % b)),M):=zJ (zCc.mpr ⟨h,rfl,rfl⟩)
end Lac
namespace Lac
open PySem PySem.Spec PyProof.Rows L2 L3 ST Law
end Lac
namespace Lac
open PySem PySem.Spec PyProof.Rows L2 L3 ST Law
end Lac
namespace Lac
open PySem PySem.Spec PyProof.Rows L2 L3 ST Law
end Lac
namespace Lac
open PySem PySem.Spec PyProof.Rows L2 L3 ST Law
theorem zCD (h:f σ M = some (.dat (.ref j),M)) (hj:M[j]? = some (.lst xs)):zHu f σ M = some (!xs.isEmpty,M):=by
 unfold zHu; rw [h]; dsimp only; rw [zh hj]
end Lac
namespace Lac
open PySem PySem.Spec PyProof.Rows L2 L3 ST Law
end Lac
namespace Lac
open PySem PySem.Spec PyProof.Rows L2 L3 ST Law
theorem zCM (ha:a σ M = some (false,M)) (hb:b σ M = some (k,M)):zE0 a b σ M = some (k,M):=by unfold zE0; rw [ha]; exact hb
theorem zGz {g:FA} {σ:Sd} {M M1:Mem} {ds:List D} (h:g σ M = some (ds,M1)) (hz:ds.length <= 100000):zBk g σ M = some (.fl ds,M1):=by
 unfold zBk; rw [h]; dsimp only; rw [zQU (zZ hz)]
theorem zEs {g:FA} {σ:Sd} {M M1:Mem} {ds:List D} (h:g σ M = some (ds,M1)) (hz:ds.length <= 100000):zC0 g σ M = some (.dat (.tup ds),M1):=by
 unfold zC0; rw [h]; dsimp only; rw [zQU (zZ hz)]
theorem zBS {f:FE} {σ:Sd} {M M1:Mem} {xs:List D} (h:f σ M = some (.fl xs,M1)):zAb f σ M = some (xs,none,M1):=by
 unfold zAb; rw [h]; rfl
theorem zFR {α:Type} (hgd:zBQ gd all M) (enc out:α -> D) (keep:α -> Bool):∀ (as:List α),(∀ a ∈ as,∃ σ1,g (enc a) σ = some σ1 /\ tc σ1 M = some (keep a,M) /\ (keep a = true -> te σ1 M = some (.dat (out a),M))) -> zBD g tc te σ all gd (as.map enc) M = some ((as.filter keep).map out,M)
 | [],_=>by
  rw [List.map_nil];unfold zBD;rw [zQU hgd]; rfl
 | a :: r,h=>by
  obtain ⟨σ1,e1,e2,e3⟩:=h a zQT;have ih:=zFR hgd enc out keep r fun b hb=>h b (zQS _ hb);rw [zQY];unfold zBD;rw [zQU hgd,e1];dsimp only;rw [e2];cases hk:keep a with
  | false=>
   dsimp only;rw [ih,List.filter_cons_of_neg (by simp [hk])]
  | true=>
   dsimp only;rw [show toD te σ1 M = some (out a,M) by unfold toD; rw [e3 hk]];dsimp only;rw [ih,List.filter_cons_of_pos hk];rfl
theorem zAA {α:Type} {own:List Nat} {fi:FI} {g:FG} {tc:FT} {te:FE} {σ:Sd} {M M1:Mem} {gd:Option (Mem -> Prop)} (as:List α) (enc out:α -> D) (keep:α -> Bool) (hi:fi σ M = some (as.map enc,gd,M1)) (hgd:zBQ gd (as.map enc) M1) (hz:as.length <= 100000)
  (he:∀ a ∈ as,∃ σ1,g (enc a) (zHv own σ) = some σ1 /\ tc σ1 M1 = some (keep a,M1) /\ (keep a = true -> te σ1 M1 = some (.dat (out a),M1))):zy own fi g tc te σ M = some (.fl ((as.filter keep).map out),M1) :=
 zJ (zBx.mpr ⟨_,_,_,hi,by rw [zQO]; exact zZ hz,zH (zFR hgd enc out keep as he) ⟨rfl,rfl⟩⟩)
theorem zOy:zEG (.dat (.int a)) (.dat (.int b)) M = some (.dat (.int (a - b)),M):=rfl
end Lac
namespace Lac
open PySem PySem.Spec PyProof.Rows L2 L3 ST Law
end Lac
namespace Lac
open PySem PySem.Spec PyProof.Rows L2 L3 ST Law
end Lac
namespace Lac
open PySem PySem.Spec PyProof.Rows L2 L3 ST Law
theorem zBI (h1:fv σ M = some (.dat v,M)) (h2:fo σ M = some (.dat (.ref n),M)) (h3:fi σ M = some (.dat k,M)) (h4:zFS M n k v = some M4) (q:P .nx σ M4):OkS (zGT fv fo fi σ M) P:=by
 refine ⟨.nx,σ,M4,?_,q⟩;unfold zGT toD;rw [h1]; dsimp only; rw [h2]; dsimp only; rw [h3]; dsimp only; rw [h4]
end Lac
namespace Lac
open PySem PySem.Spec PyProof.Rows L2 L3 ST Law
theorem zD8 {xs:List D} {lo hi:Option Int} {a b:Nat} (ha:HT.sIx xs.length 0 lo = a) (hb:HT.sIx xs.length xs.length hi = b):L3.zDE xs lo hi = (xs.drop a).take (b - a):=by
 unfold L3.zDE; rw [ha,hb]
theorem zEk (n:Nat) (d:Nat):HT.sIx n d none = d:=rfl
end Lac
namespace Lac
open PySem PySem.Spec PyProof.Rows L2 L3 ST Law
theorem zBp (I:Nat -> Sd -> Mem -> Prop) (hg:∀ t σ M,I t σ M -> zBQ gd all M)
  (hs:∀ t x σ M,xs[t]? = some x -> I t σ M -> ∃ σ1,g x σ = some σ1 /\ OkS (b σ1 M) fun o σ2 M2=>match o with | .nx=>I (t + 1) σ2 M2 | .cnt=>I (t + 1) σ2 M2 | .brk=>P .nx σ2 M2 | .ret d=>P (.ret d) σ2 M2)
  (he:∀ σ M,I xs.length σ M -> P .nx σ M) (σ:Sd) (M:Mem) (h0:I 0 σ M):OkS (zBz g b all gd xs σ M) P:=by
 refine zCH (I:=fun r σ M=>∃ t,r = xs.drop t /\ t <= xs.length /\ I t σ M) ?_ ?_ _ _ _ ⟨0,rfl,Nat.zero_le _,h0⟩
 ·rintro x r σ M ⟨t,e,ht,hI⟩;have hx:xs[t]? = some x:=by
   have:=zR2 (·[0]?) e;simpa using this.symm
  have hr:r = xs.drop (t + 1):=by
   have:=zR2 (List.drop 1) e;simpa using this
  have hlt:=(zQI.mp hx).1;obtain ⟨σ1,e1,q⟩:=hs t x σ M hx hI;refine ⟨hg t σ M hI,σ1,e1,OkS.mono q ?_⟩;intro o σ2 M2 z;cases o with
  | nx=>exact ⟨t + 1,hr,hlt,z⟩
  | cnt=>exact ⟨t + 1,hr,hlt,z⟩
  | brk=>exact z
  | ret d=>exact z
 ·rintro σ M ⟨t,e,ht,hI⟩;have:t = xs.length:=by
   have:=zR2 List.length e;rw [zSi] at this;simp at this; omega
  subst this;exact ⟨hg _ σ M hI,he σ M hI⟩
theorem zC8:zAY (.dat (.int i)) (.dat (.int j)) M = some (.dat (.int (i + j)),M):=zJ (zAj.mpr ⟨rfl,rfl⟩)
theorem zNK (ha:a σ M = some (k1,M)) (hb:b σ M = some (k2,M)):zDH a b σ M = some (k1 && k2,M):=by
 unfold zDH; rw [ha]; cases k1
 ·rfl
 ·exact hb
def Ex (M A:Mem):Prop:=∃ us,A = M ++ us
theorem Ex.refl (M:Mem):Ex M M:=⟨[],by simp⟩
theorem Ex.app (h:Ex M A) (vs:Mem):Ex M (A ++ vs):=by obtain ⟨us,rfl⟩:=h; exact ⟨us ++ vs,by simp⟩
theorem Ex.len (h:Ex M A):M.length <= A.length:=by obtain ⟨us,rfl⟩:=h; simp
theorem Ex.take (h:Ex M A):A.take M.length = M:=by obtain ⟨us,rfl⟩:=h; simp
theorem zj {A:Mem} {j:Nat} {u:MO} (e:A[j]? = some u) (vs:Mem):(A ++ vs)[j]? = some u:=by rw [zQM (zQI.mp e).1]; exact e
theorem zBU {m:FF} {ds:List D} {M:Mem} {Q:D -> Prop} (wf:∀ (j:Nat) u,M[j]? = some u -> MO.und M.length u = true) (h:Ok (m ds M) fun d A=>D.und 0 d = true /\ Ex M A /\ Q d):Ok (zC3 m ds M) fun d A=>A = M /\ Q d:=by
 refine zGC (Ok.mono h ?_);rintro d A ⟨hd,hx,q⟩;refine ⟨⟨zC4 (Nat.zero_le _) hd,hx.len,fun j u hj e=>wf j u ?_⟩,hx.take,q⟩;obtain ⟨us,rfl⟩:=hx;rw [zQM hj] at e; exact e
theorem mlR (h:M[n]? = some (.lst xs)):zEv M (.dat (.ref n)) = some xs:=by
 unfold zEv; dsimp only; rw [h]
theorem zDk (hx:zEv M x = some xs) (hy:zEv M y = some ys) (hz:xs.length + ys.length <= 90000):zCx x y M = some (.fl (xs ++ ys),M):=by
 unfold zCx; rw [hx,hy]; dsimp only; rw [zQU (zZ (by omega))]
end Lac
namespace Lab
open PySem PySem.Spec PyProof.Rows L2 L3 ST Law
open Lac (zAA zm zd zBp zC8 zj Ex zGz zDk mlR zCM zCD zBI zBS zBU zEs)
noncomputable def zCf:FS:=(zq (zy [1] (zAb (zBm (zC 0) (zN (fC (.str " ")) zc))) (gN 1) (zIj (zC 1)) (zC 1)))
noncomputable def zBJ:FF:=zBZ 2 zCf
noncomputable def zDm:FS:=(zq (fB zBw (zN (zBm (zC 0) (zN (fC (.str "\n")) zc)) zc)))
noncomputable def zDi:FF:=zBZ 1 zDm
noncomputable def zDX:FS:=(zP (zAI 1 (zy [2,3] (zGi (zBm (zC 0) (zN (fC (.str "\n")) zc))) (zBl 2 3) zAW (zC0 (zD (toD (zC 2)) (zD (toD (zU zBJ (zD (toD (zC 3)) zM))) zM)))))
  (zq (zy [2,4] (zAb (zC 1)) (zBl 2 4) (zHu (zC 4)) (zC0 (zD (toD (zC 2)) (zD (toD (zC 4)) zM))))))
noncomputable def zBf:FF:=zBZ 5 zDX
noncomputable def zB9:FS:=(zP (sIf (zAv (tst (fB zHf (zN (zy [3] (zAb (zC 0)) (gN 3) zAW (zU zAq (zD (toD (zC 3)) zM))) zc)))) (zq (fC (.str "name"))) zAr)
  (zP (sIf (zE0 (tst (fOp kNe (fB zBw (zN (zC 0) zc)) (zC 1))) (zAv (tst (zA1 kLe kLe (fC (.int 1)) (fOp zEG (fB zBw (zN (zC 0) zc)) (fC (.int 1))) (fC (.int 6)))))) (zq (fC (.str "count"))) zAr)
  (zP (sIf (tst (fOp (zFe false) (fOp kIx (zC 0) (fC (.int 0))) (zC 2))) (zq (fC (.str "twice"))) zAr)
  (zP (sIf (tst (fOp kGe (fB zDr (zN (zC 2) zc)) (fC (.int 26)))) (zq (fC (.str "many"))) zAr)
  (zq (fC .non))))))
noncomputable def zAw:FF:=zBZ 4 zB9
noncomputable def zCt:FS:=(zP (zAI 1 zFd)
  (zP (zC1 (zAb (zC 0)) (zBl 2 3) (zP (zAI 4 (zU zAw (zD (toD (zC 3)) (zD (toD (fB zBw (zN (fOp kIx (fOp kIx (zC 0) (fC (.int 0))) (fC (.int 1))) zc))) (zD (toD (zC 1)) zM)))))
  (zP (sIf (tst (fOp (kIs true) (zC 4) (fC .non))) zEe zAr)
  (zGT (fB zDr (zN (zC 1) zc)) (zC 1) (fOp kIx (zC 3) (fC (.int 0)))))))
  (zq (zC 1))))
noncomputable def zBL:FF:=zBZ 5 zCt
noncomputable def zBr:FS:=(zP (zC1 (zAb (zC 0)) (zBl 2 3) (sIf (zAv (tst (fB zHf (zN (zy [4] (zAb (zC 3)) (gN 4) zAW (fOp (zFe false) (zC 4) (zC 1))) zc)))) zEe zAr))
  (zq (fB zAp (zN (zy [2,3] (zAb (zC 0)) (zBl 2 3) zAW (fB zAp (zN (zy [4] (zAb (fSl (zC 3) (zBW (fC (.int 1))) zBh)) (gN 4) zAW (fOp zDg (zC 1) (zC 4))) zc))) zc))))
noncomputable def zAf:FF:=zBZ 5 zBr
noncomputable def zBE:FS:=(zP (zAI 1 (zU zBf (zD (toD (zC 0)) zM)))
  (zP (zAI 2 (zU zBL (zD (toD (zC 1)) zM)))
  (zP (sIf (zAv (zHu (zC 1))) zEe zAr)
  (zq (zC0 (zD (toD (zU zAf (zD (toD (zC 1)) (zD (toD (zC 2)) zM)))) (zD (toD (fB zEE (zN (zC 2) zc))) zM)))))))
noncomputable def zn:FF:=zC3 (zBZ 3 zBE)
noncomputable def zBG:FS:=(zP (zAI 2 (zy [3,5] (zI8 (zD (toD (zC 1)) (zD (toD (zC 0)) zM))) (zBl 3 5) zAW (fOp zCx (zBk (zD (toD (zC 3)) zM)) (zy [4] (zAb (zC 5)) (gN 4) zAW (fOp kIx (zC 1) (zC 4))))))
  (zq (zA5 (fC (.str "\n")) (zN (zy [5] (zAb (zC 2)) (gN 5) zAW (zA5 (fC (.str " ")) (zN (zC 5) zc))) zc))))
noncomputable def zAl:FF:=zC3 (zBZ 6 zBG)
abbrev nS (w:List Nat):D:=.str (tx w)
theorem zDN (c:Nat):∀ L:List Nat,(zAx c L).length <= L.length + 1
 | []=>by simp [zAx]
 | x :: r=>by
  have ih:=zDN c r;rw [zAx];split
  ·simp; omega
  ·split
   ·rename_i p ps e;rw [e] at ih;simp at ih ⊢; omega
   ·simp
theorem zEp (c:Nat):∀ L:List Nat,∀ p ∈ zAx c L,p.length <= L.length
 | [],p,h=>by simp [zAx] at h; simp [h]
 | x :: r,p,h=>by
  have ih:=zEp c r;rw [zAx] at h;split at h
  ·rcases zQR.mp h with z | z
   ·simp [z]
   ·have:=ih p z; simp; omega
  ·split at h
   ·rename_i q qs e;rw [e] at ih;rcases zQR.mp h with z | z
    ·have:=ih q (by simp); rw [z]; simp; omega
    ·have:=ih p (by simp [z]); simp; omega
   ·simp at h; simp [h]
theorem zIm {s:Str} (h:s.cps.toList = [c]):s = ⟨#[c]⟩:=by rw [<- zCK s,h]
theorem zCr:Str.ofString " " = ⟨#[32]⟩:=zIm (by decide +kernel)
theorem zJY:Str.ofString "\n" = ⟨#[10]⟩:=zIm (by decide +kernel)
theorem zES (hs:s = ⟨#[c]⟩) (hc:c < 256) (hf:f σ M = some (.dat (nS x),M)) (hx:x.length <= 90000):zBm f (zN (fC (.str s)) zc) σ M = some (.fl ((zAx c x).map nS),M):=by
 subst hs;unfold zBm;rw [hf];show (if (⟨#[c]⟩:Str).length = 1 /\ (tx x).length <= 100000 then some (EV.fl ((zBb (tx x) ⟨#[c]⟩).map D.str),M) else none) = _;rw [zQU ⟨rfl,by rw [zAo]; omega⟩,zIz _ hc,zQd];simp [Function.comp_def]
theorem zJ8 (hx:x.length <= 80000) (M:Mem):zBJ [nS x] M = some (.ref M.length,M ++ [.lst ((tok x).map nS)]):=by
 refine zJ ?_;unfold zBJ;rw [zAM];unfold zCf;show OkS (zq _ [some (nS x),none] M) _;rw [zx];have hm:=zDN 32 x;refine zH (zAA (own:=[1]) (g:=gN 1) (tc:=zIj (zC 1)) (te:=zC 1) (σ:=[some (nS x),none]) (M:=M) (gd:=none) (zAx 32 x) nS nS (fun w=> !w.isEmpty) (zBS (zES zCr (by decide) rfl (by omega))) trivial (by omega) fun w hw=>⟨_,rfl,?_,fun _=>rfl⟩) (zm ⟨rfl,rfl⟩);have hl:=zEp 32 x w hw;show (if (tx w).length <= 100000 then some ((tx w).length != 0,M) else none) = _;rw [zAo,zQU (by omega)];cases w with
 | nil=>rfl
 | cons a b=>rfl
theorem zHK (I:Nat -> List D -> Mem -> Prop)
  (hs:∀ i x acc M,xs[i]? = some x -> I i acc M -> ∃ σ1,g x σ = some σ1 /\ Ok (te σ1 M) (zEB fun d M2=>I (i + 1) (acc ++ [d]) M2)) (h0:I 0 [] M) :
  Ok (zBD g zAW te σ all none xs M) fun ys M1=>I xs.length ys M1:=by
 refine Ok.mono (zBP (I:=fun r acc M=>∃ i,i <= xs.length /\ r = xs.drop i /\ I i acc M) (Q:=fun acc M=>I xs.length acc M) ?_ ?_ _ [] _ ⟨0,Nat.zero_le _,by simp,h0⟩) fun ys M1 q=>by simpa using q
 ·rintro x r acc M ⟨i,hi,e,hI⟩;have hx:xs[i]? = some x:=by
   have:=zR2 (·[0]?) e;simpa using this.symm
  have hr:r = xs.drop (i + 1):=by
   have:=zR2 (List.drop 1) e;simpa using this
  have hlt:=(zQI.mp hx).1;obtain ⟨σ1,e1,q⟩:=hs i x acc M hx hI;refine ⟨zAE,σ1,e1,zDC.mpr ?_⟩;rw [zQU rfl];refine Ok.mono q ?_;intro x M2 z;cases x with
  | dat d=>exact ⟨i + 1,hlt,hr,z⟩
  | fl xs=>exact ⟨i + 1,hlt,hr,z⟩
 ·rintro acc M ⟨i,hi,e,hI⟩;have:i = xs.length:=by
   have:=zR2 List.length e;rw [zSi] at this;simp at this; omega
  subst this;exact ⟨zAE,hI⟩
abbrev eD (e:Nat × Nat):D:=.tup [.int (e.1:Nat),.ref e.2]
def Rw (A:Mem) (es:List (Nat × Nat)) (WW:List (List (List Nat))):Prop:=es.length = WW.length /\ ∀ (i:Nat) e w,es[i]? = some e -> WW[i]? = some w -> A[e.2]? = some (.lst (w.map nS))
theorem Rw.app (h:Rw A es WW) (us:Mem):Rw (A ++ us) es WW:=⟨h.1,fun i e w h1 h2=>zj (h.2 i e w h1 h2) us⟩
theorem zL7 (h0:rs ≠ []) (hr:∀ r ∈ rs,10 ∉ r) (hx:(jnL [10] rs).length <= 80000) (M:Mem):Ok (zBf [nS (jnL [10] rs)] M) fun d A=>∃ p es,d = .ref p /\ Ex M A /\ A[p]? = some (.lst (es.map eD)) /\ Rw A es ((rs.map tok).filter fun w=> !w.isEmpty):=by
 have hcut:=zH3 h0 hr;have hlen:∀ r ∈ rs,r.length <= 80000:=fun r h=>zQg (zEp 10 (jnL [10] rs) r (by rw [hcut]; exact h)) hx;have hmany:rs.length <= 80001:=by have:=zDN 10 (jnL [10] rs); rw [hcut] at this; omega
 generalize jnL [10] rs = x at hcut hx;unfold zBf;rw [zAM];unfold zDX;show OkS (zP _ _ [some (nS x),none,none,none,none] M) _;rw [zI,zb];have hen:zGi (zBm (zC 0) (zN (fC (.str (Str.ofString "\n"))) zc)) [some (nS x),none,none,none,none] M = some (zEI (rs.map nS),none,M):=by
  unfold zGi;rw [zES zJY (by decide) rfl (by omega),hcut];rfl
 refine zBx.mpr ⟨_,_,_,hen,by unfold zEI; rw [zQO,List.length_zip,zSC,zQO]; exact zZ (by omega),?_⟩;refine Ok.mono (zHK (I:=fun i acc A=>Ex M A /\ ∃ es:List (Nat × Nat),acc = es.map eD /\ es.length = i /\ ∀ (j:Nat) e r,es[j]? = some e -> rs[j]? = some r -> A[e.2]? = some (.lst ((tok r).map nS))) ?_ ⟨.refl M,[],rfl,rfl,fun j e r h=>by simp at h⟩) ?_
 ·rintro i d acc A ed ⟨hx,es,rfl,hel,hes⟩;obtain ⟨dd,edd,rfl⟩:=zHQ ed;rw [zQc] at edd;obtain ⟨r,er,rfl⟩:=Option.map_eq_some_iff.mp edd;refine ⟨_,rfl,zOY.mpr (ze.mpr (zi.mpr (zL.mpr ⟨_,rfl,zF.mpr (ze.mpr (zi.mpr (zH (zA8 (z0 (d:=nS r) rfl) (zJ8 (hlen r (zQ6 er)) A)) (zF.mpr (zAH.mpr ⟨zZ (by simp),zF.mpr ?_⟩)))))⟩)))⟩;refine ⟨hx.app _,es ++ [(i,A.length)],by rw [zQ7]; rfl,by simp [hel],fun j e r' h1 h2=>?_⟩;by_cases q:j = i
  ·subst q;rw [zRP (by omega),hel,Nat.sub_self] at h1;cases h1;rw [er] at h2; cases h2;exact zd _ _
  ·have hj:j < es.length:=by
    have:=(zQI.mp h1).1;rw [zQV,List.length_singleton] at this; omega
   rw [zQM hj] at h1;exact zj (hes j e r' h1 h2) _
 ·rintro ys A ⟨hx,es,rfl,hel,hes⟩;refine zm ?_;rw [zQ];have hn:(zEI (rs.map nS)).length = rs.length:=by unfold zEI; simp
  rw [hn] at hel;have e1:(A ++ [MO.lst (es.map eD)])[A.length]? = some (.lst (es.map eD)):=zd _ _;have hx1:=hx.app [MO.lst (es.map eD)];have hes1:∀ (j:Nat) e r,es[j]? = some e -> rs[j]? = some r -> (A ++ [MO.lst (es.map eD)])[e.2]? = some (.lst ((tok r).map nS)):=fun j e r h1 h2=>zj (hes j e r h1 h2) _;generalize A ++ [MO.lst (es.map eD)] = A1 at e1 hx1 hes1;generalize A.length = p at e1;show OkS (zq _ [some (nS x),some (.ref p),none,none,none] A1) _;have hz:(es.zip rs).map (fun q=>eD q.1) = es.map eD:=by
   show (es.zip rs).map (eD ∘ Prod.fst) = _;rw [<- zQd,List.map_fst_zip (by omega)]
  have hc:=zAA (own:=[2,4]) (fi:=zAb (zC 1)) (g:=zBl 2 4) (tc:=zHu (zC 4)) (te:=zC0 (zD (toD (zC 2)) (zD (toD (zC 4)) zM))) (σ:=[some (nS x),some (.ref p),none,none,none]) (M:=A1) (gd:=zFr (.dat (.ref p)) (es.map eD)) (es.zip rs) (fun q=>eD q.1) (fun q=>eD q.1) (fun q=> !(tok q.2).isEmpty) (by rw [hz]; exact zAc rfl (zh e1)) (by rw [hz]; exact Or.inl e1) (by rw [List.length_zip]; omega) fun q hq=>by
   obtain ⟨j,hj,ej⟩:=List.getElem_of_mem hq;have hj':j < es.length /\ j < rs.length:=by rw [List.length_zip] at hj; omega
   have h1:es[j]? = some q.1:=by rw [zQJ hj'.1,<- ej,List.getElem_zip]
   have h2:rs[j]? = some q.2:=by rw [zQJ hj'.2,<- ej,List.getElem_zip]
   refine ⟨_,rfl,(zCD (j:=q.1.2) rfl (hes1 j _ _ h1 h2)).trans ?_,fun _=>zEs (zA3 (d:=.int (q.1.1:Nat)) rfl (z0 (d:=.ref q.1.2) rfl)) (by simp)⟩;cases tok q.2 <;> rfl
  rw [zx];refine zH hc (zm ?_);refine ⟨A1.length,((es.zip rs).filter fun q=> !(tok q.2).isEmpty).map (·.1),rfl,hx1.app _,by rw [zd,zQd]; rfl,?_⟩;have hW:((rs.map tok).filter fun w=> !w.isEmpty) = ((es.zip rs).filter fun q=> !(tok q.2).isEmpty).map fun q=>tok q.2:=by
   conv=>lhs; rw [<- List.map_snd_zip (l₁:=es) (l₂:=rs) (by omega),zQd,List.filter_map]
   rfl
  rw [hW];refine ⟨by rw [zQO,zQO],fun i e w h1 h2=>?_⟩;rw [zQc] at h1 h2;obtain ⟨q,hq,rfl⟩:=Option.map_eq_some_iff.mp h1;rw [hq] at h2;cases h2;have hq':=(List.mem_filter.mp (zQ6 hq)).1;obtain ⟨j,hj,ej⟩:=List.getElem_of_mem hq';have hj':j < es.length /\ j < rs.length:=by rw [List.length_zip] at hj; omega
  exact zj (hes1 j q.1 q.2 (by rw [zQJ hj'.1,<- ej,List.getElem_zip]) (by rw [zQJ hj'.2,<- ej,List.getElem_zip])) _
open Lac (zAA zm zd zBp zC8 zj Ex zGz zDk mlR zCM zCD zBI zBS zBU zEs)
def phS (ks:List (List Nat)) (φ:List Nat -> Int):List (D × D):=ks.map fun w=>(nS w,.int (φ w))
theorem zJs (h:tx a = tx b):a = b:=by
 have:=zR2 (fun s:Str=>s.cps.toList) h;simpa using this
theorem zH4 (w:List Nat):zAs (nS w) = some (.inr (tx w)):=rfl
theorem zMW:((phS ks φ).any fun p=>decide (zAs p.1 = some (.inr (tx x)))) = decide (x ∈ ks):=by
 unfold phS;rw [Bool.eq_iff_iff,List.any_eq_true,decide_eq_true_iff];constructor
 ·rintro ⟨p,hp,e⟩;obtain ⟨y,hy,rfl⟩:=zQW.mp hp;have e:=of_decide_eq_true e;have:y = x:=zJs (by rw [zH4] at e; injection e with e; injection e);rw [<- this]; exact hy
 ·intro hx;exact ⟨_,zQW.mpr ⟨x,hx,rfl⟩,zRN rfl⟩
theorem zEn:∀ {ks:List (List Nat)},zBT zAs (phS ks φ) (.inr (tx x)) = if x ∈ ks then some (.int (φ x)) else none
 | []=>rfl
 | k :: ks=>by
  have ih:=zEn (φ:=φ) (x:=x) (ks:=ks);unfold zBT phS at ih ⊢;rw [zQY,zR1];by_cases h:k = x
  ·subst h;rw [show decide (zAs (nS k) = some (.inr (tx k))) = true from zRN rfl,zQU zQT]; rfl
  ·rw [show decide (zAs (nS k) = some (.inr (tx x))) = false from zQo fun e=>h (zJs (by rw [zH4] at e; injection e with e; injection e))];dsimp only;rw [ih];by_cases hx:x ∈ ks
   ·rw [zQU hx,zQU (zQS _ hx)]
   ·rw [zQX hx,zQX fun e=>(zQR.mp e).elim (fun z=>h z.symm) hx]
theorem zKo (h:(ps.any fun p=>decide (zAs p.1 = some k)) = false):zGQ zAs ps k d v = ps ++ [(d,v)]:=by
 unfold zGQ;rw [zQX (by rw [h]; exact zQb)]
theorem zMC (e:A[n]? = some (.dict (phS ks φ))) (hx:x ∉ ks) (hz:ks.length <= 1000):zFS A n (nS x) (.int (φ x)) = some (A.set n (.dict (phS (ks ++ [x]) φ))):=by
 unfold zFS;rw [e];dsimp only;rw [zH4];dsimp only;rw [zQU (zQe (show (phS ks φ).length < 100000 by unfold phS; rw [zQO]; omega) (zZ (zQL _))),zKo (by rw [zMW,zQo hx])];unfold phS;rw [zQ7];simp
theorem zKb (e:A[n]? = some (.dict (phS ks φ))):zFe false (.dat (nS x)) (.dat (.ref n)) A = some (.dat (.bl (decide (x ∈ ks))),A):=by
 have:zDf A (.dat (.ref n)) (nS x) = some (zBT zAs (phS ks φ) (.inr (tx x))):=by
  unfold zDf; dsimp only; rw [e]; rfl
 unfold zFe;dsimp only;rw [this];dsimp only;rw [zEn];by_cases h:x ∈ ks
 ·rw [zQU h,zRN h]; rfl
 ·rw [zQX h,zQo h]; rfl
theorem zLz (e:A[n]? = some (.dict (phS ks φ))) (hx:x ∈ ks):zDg (.dat (.ref n)) (.dat (nS x)) A = some (.dat (.int (φ x)),A):=by
 have:zDf A (.dat (.ref n)) (nS x) = some (zBT zAs (phS ks φ) (.inr (tx x))):=by
  unfold zDf; dsimp only; rw [e]; rfl
 unfold zDg;dsimp only;rw [this,zEn,zQU hx]
theorem zIP (hf:f σ A = some (.dat (.ref n),A)) (e:A[n]? = some (.dict (phS ks φ))):fB zDr (zN f zc) σ A = some (.dat (.int ks.length),A):=by
 unfold fB zN zc;rw [hf];show zDr [.dat (.ref n)] A = _;unfold zDr;dsimp only;rw [e];show some (EV.dat (D.int ((phS ks φ).length:Nat)),A) = _;unfold phS;rw [zQO]
def Nm (w:List Nat):Prop:=w ≠ [] /\ w.length <= 8 /\ ∀ c ∈ w,zDP c = true
theorem Nm.no (h:Nm w) (hc:zDP c = false):c ∉ w:=fun z=>by
 have:=h.2.2 c z;rw [hc] at this; cases this
theorem zJv (h:Nm w) (M:Mem):zAq [nS w] M = some (.bl true,M):=by
 have e:=zL5 (M:=M) (d:=nS w) (t := "str") rfl fun z hz=>by
  cases hz;rw [zAo]; have:=h.2.1; omega
 rw [e];have:zCE (tx w) = true:=zK4 (cs:=w) (by simp) (List.length_pos_iff.mpr h.1) h.2.1 h.2.2;show some (D.bl (zCE (tx w)),M) = _;rw [this]
theorem zJj {A:Mem} {w:List (List Nat)} {ks:List (List Nat)} (ej:A[j]? = some (.lst (w.map nS))) (hw:∀ x ∈ w,Nm x) (h2:2 <= w.length) (h7:w.length <= 7) (en:A[n]? = some (.dict (phS ks φ))) (hk:w.headD [] ∉ ks) (hl:ks.length < 26) :
  zAw [.ref j,.int (w.length:Nat),.ref n] A = some (.non,A):=by
 refine zJ ?_;unfold zAw;rw [zAM];unfold zB9;show OkS (zP _ _ [some (.ref j),some (.int (w.length:Nat)),some (.ref n),none] A) _;have hlen:=zDO (f:=zC 0) (σ:=[some (.ref j),some (.int (w.length:Nat)),some (.ref n),none]) (M:=A) (x:=.dat (.ref j)) rfl (zh ej);rw [zQO] at hlen;have hall:=zHp (bs:=w.map fun _=>true) ((zBM (own:=[3]) (fi:=zAb (zC 0)) (g:=gN 3) (te:=zU zAq (zD (toD (zC 3)) zM)) (σ:=[some (.ref j),some (.int (w.length:Nat)),some (.ref n),none]) (M:=A) (gd:=zFr (.dat (.ref j)) (w.map nS)) w nS (fun _=> .bl true) (zAc rfl (zh ej)) (Or.inl ej) (by omega) fun x hx=>⟨_,rfl,zA8 (z0 (d:=nS x) rfl) (zJv (hw x hx) A)⟩).trans (by rw [zQd]; rfl));rw [zCl,show (w.all fun _=>true) = true from zQq.mpr fun _ _=>rfl] at hall;have hch:zA1 kLe kLe (fC (.int 1)) (fOp zEG (fB zBw (zN (zC 0) zc)) (fC (.int 1))) (fC (.int 6)) [some (.ref j),some (.int (w.length:Nat)),some (.ref n),none] A = some (.dat (.bl true),A):=by
  unfold zA1;rw [show fC (.int 1) [some (.ref j),some (.int (w.length:Nat)),some (.ref n),none] A = some (.dat (.int 1),A) from rfl];dsimp only;rw [zX hlen (y:=.dat (.int 1)) rfl (show zEG (.dat (.int (w.length:Nat))) (.dat (.int 1)) A = some (.dat (.int ((w.length:Nat) - 1)),A) from rfl)];dsimp only;rw [show kLe (.dat (.int 1)) (.dat (.int ((w.length:Nat) - 1))) A = some (.dat (.bl true),A) from (zJ (zL3.mpr ⟨rfl,rfl⟩)).trans (by rw [zRN (by omega)])];dsimp only;rw [show fC (.int 6) [some (.ref j),some (.int (w.length:Nat)),some (.ref n),none] A = some (.dat (.int 6),A) from rfl];dsimp only;exact (zJ (zL3.mpr ⟨rfl,rfl⟩)).trans (by rw [zRN (by omega)])
 refine zp (zDd hall) (zp (zCM ((zA2 (zX hlen (y:=.dat (.int (w.length:Nat))) rfl (zJ (zOi.mpr ⟨rfl,rfl⟩)))).trans (by simp)) (zDd hch)) ?_);have h0:fOp kIx (zC 0) (fC (.int 0)) [some (.ref j),some (.int (w.length:Nat)),some (.ref n),none] A = some (.dat (nS (w.headD [])),A):=zX (x:=.dat (.ref j)) (y:=.dat (.int 0)) rfl rfl (zD7 (zh ej) (by
  cases w with
  | nil=>simp at h2
  | cons a b=>exact zBX (j:=0) rfl))
 refine zp ((zA2 (zX h0 (y:=.dat (.ref n)) rfl (zKb en))).trans (by rw [zQo hk])) (zp ((zA2 (zX (zIP (f:=zC 2) rfl en) (y:=.dat (.int 26)) rfl (zJ (zOz.mpr ⟨rfl,rfl⟩)))).trans (by rw [zQo (by omega)])) ?_);exact zAk (d:=.non) rfl ⟨rfl,rfl⟩
structure Nms (NN:List (List Nat)):Prop where
 nd:NN.Nodup
 ok:∀ w ∈ NN,Nm w
def WW (zA:List (List Int)) (NN:List (List Nat)):List (List (List Nat)):=(List.range zA.length).map fun r=>NN.getD r [] :: (zA.getD r []).map fun g=>NN.getD g.toNat []
section
variable {zA:List (List Int)} {l:Nat} {NN:List (List Nat)}
theorem zM6 (hl:NN.length = zA.length) (h:r < zA.length):NN.getD r [] ∈ NN:=by
 rw [zQK,zQJ (by omega)]; exact List.getElem_mem _
theorem zF1 (n:Nms NN) (h:r < NN.length):NN.idxOf (NN.getD r []) = r:=by
 rw [zQK,zQJ h,Option.getD_some];exact n.nd.idxOf_getElem r h
theorem zDM (m:IsM zA l) (hl:NN.length = zA.length) (hi:i < zA.length):∀ x ∈ NN.getD i [] :: (zA.getD i []).map (fun g=>NN.getD g.toNat []),x ∈ NN:=fun x hx=>by
 rcases zQR.mp hx with z | z
 ·rw [z]; exact zM6 hl hi
 ·obtain ⟨g,hg,rfl⟩:=zQW.mp z;have:=(m.get (h:=(i:Nat)) (by omega) (by omega)).2 g (by rw [zSz]; exact hg);exact zM6 hl (by omega)
theorem zGG (m:IsM zA l) (h26:zA.length <= 26) (hl6:l <= 6) (n:Nms NN) (hl:NN.length = zA.length) {A:Mem} {es:List (Nat × Nat)} (ep:A[p]? = some (.lst (es.map eD))) (hR:Rw A es (WW zA NN)) :
  Ok (zBL [.ref p] A) fun d B=>d = .ref A.length /\ B = A ++ [.dict (phS NN fun w=>(NN.idxOf w:Nat))]:=by
 have hel:es.length = zA.length:=by rw [hR.1]; unfold WW; simp
 unfold zBL;rw [zAM];unfold zCt;show OkS (zP _ _ [some (.ref p),none,none,none,none] A) _;rw [zI,zb];refine zH (show zFd _ A = some (.dat (.ref A.length),A ++ [.dict []]) from rfl) ?_;rw [zF,zQ];have hp:=(zQI.mp ep).1;have hall:∀ i e,es[i]? = some e -> A[e.2]? = some (.lst ((NN.getD i [] :: (zA.getD i []).map fun g=>NN.getD g.toNat []).map nS)) /\ i < zA.length:=fun i e he=>by
  have hi:i < zA.length:=by rw [<- hel]; exact (zQI.mp he).1
  have hw:(WW zA NN)[i]? = some (NN.getD i [] :: (zA.getD i []).map fun g=>NN.getD g.toNat []):=by unfold WW; rw [zQc,List.getElem?_range hi]; rfl
  exact ⟨hR.2 i e _ he hw,hi⟩
 show OkS (zP _ _ [some (.ref p),some (.ref A.length),none,none,none] (A ++ [MO.dict (phS (NN.take 0) fun w=>(NN.idxOf w:Nat))])) _;rw [zI,zA7];refine ⟨_,_,_,zAc (h:=zC 0) (x:=.dat (.ref p)) rfl (zh (zj ep _)),?_⟩;refine zBp (I:=fun t σ B=>(∃ y2 y3 y4,σ = [some (.ref p),some (.ref A.length),y2,y3,y4]) /\ B = A ++ [MO.dict (phS (NN.take t) fun w=>(NN.idxOf w:Nat))]) (fun t σ B h=>by rw [h.2]; exact Or.inl (zj ep _)) ?_ ?_ _ _ ⟨⟨_,_,_,rfl⟩,rfl⟩
 ·rintro t d σ B ed ⟨⟨y2,y3,y4,rfl⟩,rfl⟩;rw [zQc] at ed;obtain ⟨e,he,rfl⟩:=Option.map_eq_some_iff.mp ed;obtain ⟨hA,ht⟩:=hall t e he;obtain ⟨e0,he0⟩:∃ e0,es[0]? = some e0:=⟨_,zQJ (by have:=m.r0; omega)⟩;obtain ⟨hA0,h0⟩:=hall 0 e0 he0;have hrl:=(m.get (h:=(t:Nat)) (by omega) (by omega)).1;have hrl0:=(m.get (h:=((0:Nat):Int)) (by omega) (by omega)).1;rw [zSz] at hrl hrl0;refine ⟨_,rfl,?_⟩;have hB:=zj hA [MO.dict (phS (NN.take t) fun w=>(NN.idxOf w:Nat))];have hB0:=zj hA0 [MO.dict (phS (NN.take t) fun w=>(NN.idxOf w:Nat))];have hpB:=zj ep [MO.dict (phS (NN.take t) fun w=>(NN.idxOf w:Nat))];have hD:(A ++ [MO.dict (phS (NN.take t) fun w=>(NN.idxOf w:Nat))])[A.length]? = some (.dict (phS (NN.take t) fun w=>(NN.idxOf w:Nat))):=zd _ _;show OkS (zP _ _ [some (.ref p),some (.ref A.length),some (.int (e.1:Nat)),some (.ref e.2),y4] (A ++ [MO.dict (phS (NN.take t) fun w=>(NN.idxOf w:Nat))])) _;have hnk:NN.getD t [] ∉ NN.take t:=fun z=>by
   obtain ⟨i,hi,ei⟩:=List.getElem_of_mem z;rw [zRd] at hi;rw [List.getElem_take] at ei;have h1:=zF1 n (r:=t) (by omega);rw [<- ei,n.nd.idxOf_getElem i (by omega)] at h1;omega
  have hwl:(NN.getD t [] :: (zA.getD t []).map fun g=>NN.getD g.toNat []).length = l + 1:=by simp only [List.length_cons,zQO]; omega
  have hwl0:(NN.getD 0 [] :: (zA.getD 0 []).map fun g=>NN.getD g.toNat []).length = l + 1:=by simp only [List.length_cons,zQO]; omega
  have l0:=m.l0;have hf:=zJj hB (fun x hx=>n.ok x (zDM m hl ht x hx)) (by omega) (by omega) hD hnk (by rw [zRd]; omega);have hlen0:=zDO (f:=fOp kIx (fOp kIx (zC 0) (fC (.int 0))) (fC (.int 1))) (σ:=[some (.ref p),some (.ref A.length),some (.int (e.1:Nat)),some (.ref e.2),y4]) (M:=A ++ [MO.dict (phS (NN.take t) fun w=>(NN.idxOf w:Nat))]) (x:=.dat (.ref e0.2)) (zX (x:=.dat (eD e0)) (y:=.dat (.int 1)) (zX (x:=.dat (.ref p)) (y:=.dat (.int 0)) rfl rfl (zD7 (zh hpB) (zBX (j:=0) (by rw [zQc,he0]; rfl)))) rfl (zD7 zBV rfl)) (zh hB0);rw [zQO,hwl0,<- hwl] at hlen0;refine zFk (d:=.non) (zA8 (zA3 (d:=.ref e.2) rfl (zA3 hlen0 (z0 (d:=.ref A.length) rfl))) hf) ?_;show OkS (zP _ _ [some (.ref p),some (.ref A.length),some (.int (e.1:Nat)),some (.ref e.2),some .non] (A ++ [MO.dict (phS (NN.take t) fun w=>(NN.idxOf w:Nat))])) _;refine zp (zA2 (zX (x:=.dat .non) (y:=.dat .non) rfl rfl (show kIs true (.dat .non) (.dat .non) _ = some (.dat (.bl false),_) from rfl))) ?_;have hput:=zMC (x:=NN.getD t []) hD hnk (by rw [zRd]; omega);have hlD:=zIP (f:=zC 1) (σ:=[some (.ref p),some (.ref A.length),some (.int (e.1:Nat)),some (.ref e.2),some .non]) rfl hD;rw [zRd,Nat.min_eq_left (by omega)] at hlD;rw [zF1 n (by omega)] at hput;refine zBI (v:=.int (t:Nat)) (k:=nS (NN.getD t [])) (n:=A.length) hlD rfl (zX (x:=.dat (.ref e.2)) (y:=.dat (.int 0)) rfl rfl (zD7 (zh hB) (zBX (j:=0) rfl))) hput ⟨⟨_,_,_,rfl⟩,?_⟩;rw [List.set_append_right _ _ (zQL _),Nat.sub_self,List.set_cons_zero,List.take_add_one,zQK,zQJ (by omega)];rfl
 ·rintro σ B ⟨⟨y2,y3,y4,rfl⟩,rfl⟩;rw [zQ];refine zAk (d:=.ref A.length) rfl ⟨rfl,?_⟩;rw [zQO,hel,<- hl,List.take_of_length_le (zQL _)]
end
open Lac (zAA zm zd zBp zC8 zj Ex zGz zDk mlR zCM zCD zBI zBS zBU zEs zD8 zEk)
theorem zNx (hf:f σ A = some (.dat (.ref n),A)) (hx:A[n]? = some (.lst xs)):fSl f (zBW (fC (.int 1))) zBh σ A = some (.fl (xs.drop 1),A):=by
 have hc:L3.zDE xs (some 1) none = xs.drop 1:=by
  rw [zD8 (a:=min 1 xs.length) (b:=xs.length) (by show HT.sIx _ _ (some ((1:Nat):Int)) = _; rw [HT.zLg]) (by rw [zEk])];rw [List.take_of_length_le (by rw [zSi]; omega)];cases xs with
  | nil=>rfl
  | cons a b=>simp
 have:fSl f (zBW (fC (.int 1))) zBh σ A = some (.fl (L3.zDE xs (some 1) none),A):=by
  unfold fSl;rw [hf];show kSl (.dat (.ref n)) (some 1) none A = _;unfold kSl;dsimp only [zBR];rw [zAQ hx]
 rw [this,hc]
section
variable {zA:List (List Int)} {l:Nat} {NN:List (List Nat)}
theorem zMc (m:IsM zA l) (h26:zA.length <= 26) (hl6:l <= 6) (n:Nms NN) (hl:NN.length = zA.length) (ep:A[p]? = some (.lst (es.map eD))) (hR:Rw A es (WW zA NN)) (eq:A[q]? = some (.dict (phS NN fun w=>(NN.idxOf w:Nat)))):zAf [.ref p,.ref q] A = some (mD zA,A):=by
 have hel:es.length = zA.length:=by rw [hR.1]; unfold WW; simp
 have hall:∀ i e,es[i]? = some e -> A[e.2]? = some (.lst ((NN.getD i [] :: (zA.getD i []).map fun g=>NN.getD g.toNat []).map nS)) /\ i < zA.length:=fun i e he=>by
  have hi:i < zA.length:=by rw [<- hel]; exact (zQI.mp he).1
  have hw:(WW zA NN)[i]? = some (NN.getD i [] :: (zA.getD i []).map fun g=>NN.getD g.toNat []):=by unfold WW; rw [zQc,List.getElem?_range hi]; rfl
  exact ⟨hR.2 i e _ he hw,hi⟩
 have hrl:∀ i,i < zA.length -> (zA.getD i []).length = l /\ ∀ g ∈ zA.getD i [],0 <= g /\ g < (zA.length:Int):=fun i hi=>by
  have:=m.get (h:=(i:Nat)) (by omega) (by omega);rw [zSz] at this; exact this
 refine zJ ?_;unfold zAf;rw [zAM];unfold zBr;show OkS (zP _ _ [some (.ref p),some (.ref q),none,none,none] A) _;rw [zI,zA7];refine ⟨_,_,_,zAc (h:=zC 0) (x:=.dat (.ref p)) rfl (zh ep),?_⟩;refine zBp (I:=fun _ σ B=>(∃ y2 y3 y4,σ = [some (.ref p),some (.ref q),y2,y3,y4]) /\ B = A) (fun t σ B h=>by rw [h.2]; exact Or.inl ep) ?_ ?_ _ _ ⟨⟨_,_,_,rfl⟩,rfl⟩
 ·rintro t d σ B ed ⟨⟨y2,y3,y4,rfl⟩,rfl⟩;rw [zQc] at ed;obtain ⟨e,he,rfl⟩:=Option.map_eq_some_iff.mp ed;obtain ⟨hA,ht⟩:=hall t e he;refine ⟨_,rfl,?_⟩;show OkS (sIf _ _ _ [some (.ref p),some (.ref q),some (.int (e.1:Nat)),some (.ref e.2),y4] B) _;have hw:=zDM m hl ht;have hwl:(NN.getD t [] :: (zA.getD t []).map fun g=>NN.getD g.toNat []).length <= 7:=by simp only [List.length_cons,zQO]; have:=(hrl t ht).1; omega
  generalize NN.getD t [] :: (zA.getD t []).map (fun g=>NN.getD g.toNat []) = w at hA hw hwl;have hal:=zHp (bs:=w.map fun _=>true) ((zBM (own:=[4]) (fi:=zAb (zC 3)) (g:=gN 4) (te:=fOp (zFe false) (zC 4) (zC 1)) (σ:=[some (.ref p),some (.ref q),some (.int (e.1:Nat)),some (.ref e.2),y4]) (M:=B) (gd:=zFr (.dat (.ref e.2)) (w.map nS)) w nS (fun _=> .bl true) (zAc rfl (zh hA)) (Or.inl hA) (by omega) fun x hx=>⟨_,rfl,(zX (x:=.dat (nS x)) (y:=.dat (.ref q)) rfl rfl (zKb eq)).trans (by rw [zRN (hw x hx)])⟩).trans (by rw [zQd]; rfl));rw [zCl,show (w.all fun _=>true) = true from zQq.mpr fun _ _=>rfl] at hal;rw [zAm];refine zH (zDd hal) ?_;rw [zQX (by decide),zAi];exact ⟨⟨_,_,_,rfl⟩,rfl⟩
 ·rintro σ B ⟨⟨y2,y3,y4,rfl⟩,rfl⟩;rw [zQ];have hz:(List.range zA.length).map (fun r=>eD (es.getD r (0,0))) = es.map eD:=by
   rw [<- hel];refine List.ext_getElem (by simp) fun i h1 h2=>?_;rw [List.getElem_map,List.getElem_range,List.getElem_map];congr 1;rw [zQK,zQJ (by simpa using h2)]; rfl
  have ho:(List.range zA.length).map (fun r=>tI (zA.getD r [])) = zA.map tI:=by
   refine List.ext_getElem (by simp) fun i h1 h2=>?_;rw [List.getElem_map,List.getElem_range,List.getElem_map];congr 1;rw [zQK,zQJ (by simpa using h2)]; rfl
  refine zAk (d:=mD zA) ((zEX (zBM (own:=[2,3]) (fi:=zAb (zC 0)) (g:=zBl 2 3) (te:=fB zAp (zN (zy [4] (zAb (fSl (zC 3) (zBW (fC (.int 1))) zBh)) (gN 4) zAW (fOp zDg (zC 1) (zC 4))) zc)) (σ:=[some (.ref p),some (.ref q),y2,y3,y4]) (M:=B) (gd:=zFr (.dat (.ref p)) (es.map eD)) (List.range zA.length) (fun r=>eD (es.getD r (0,0))) (fun r=>tI (zA.getD r [])) (by rw [hz]; exact zAc rfl (zh ep)) (by rw [hz]; exact Or.inl ep) (by rw [zSC]; omega) fun r hr=>?_) zB7).trans (by rw [ho]; rfl)) ⟨rfl,rfl⟩;have hr:=zQt.mp hr;have he:es[r]? = some (es.getD r (0,0)):=by rw [zQK,zQJ (by omega)]; rfl
  obtain ⟨hA,_⟩:=hall r _ he;generalize es.getD r (0,0) = e at hA;obtain ⟨h1,h2⟩:=hrl r hr;refine ⟨_,rfl,?_⟩;have hs:=zNx (f:=zC 3) (σ:=[some (.ref p),some (.ref q),some (.int (e.1:Nat)),some (.ref e.2),y4]) rfl hA;rw [zQY,List.drop_succ_cons,List.drop_zero,zQd] at hs;refine (zEX (zBM (own:=[4]) (fi:=zAb (fSl (zC 3) (zBW (fC (.int 1))) zBh)) (g:=gN 4) (te:=fOp zDg (zC 1) (zC 4)) (σ:=[some (.ref p),some (.ref q),some (.int (e.1:Nat)),some (.ref e.2),y4]) (M:=B) (gd:=none) (zA.getD r []) (fun g=>nS (NN.getD g.toNat [])) (fun g=> .int g) (zBS hs) trivial (by omega) fun g hg=>⟨_,rfl,?_⟩) zB7).trans rfl;obtain ⟨g0,g1⟩:=h2 g hg;refine (zX (x:=.dat (.ref q)) (y:=.dat (nS (NN.getD g.toNat []))) rfl rfl (zLz eq (zM6 hl (by omega)))).trans ?_;rw [zF1 n (by omega),show ((g.toNat:Nat):Int) = g by omega]
theorem zIh (m:IsM zA l) (h26:zA.length <= 26) (hl6:l <= 6) (n:Nms NN) (hl:NN.length = zA.length) (h0:rs ≠ []) (hr:∀ r ∈ rs,10 ∉ r) (hx:(jnL [10] rs).length <= 80000) (hW:((rs.map tok).filter fun w=> !w.isEmpty) = WW zA NN) (wf:∀ (j:Nat) u,M[j]? = some u -> MO.und M.length u = true) :
  zn [nS (jnL [10] rs)] M = some (.tup [mD zA,.tup (NN.map nS)],M):=by
 have hu:D.und 0 (.tup [mD zA,.tup (NN.map nS)]) = true:=by
  unfold D.und D.unds D.unds D.unds;rw [zKq];show (true && (D.unds 0 (NN.map nS) && true)) = true;rw [zBd fun x hx=>by obtain ⟨w,_,rfl⟩:=zQW.mp hx; rfl]; rfl
 refine zJ (Ok.mono (zBU (Q:=fun d=>d = .tup [mD zA,.tup (NN.map nS)]) wf ?_) fun d A h=>⟨h.2,h.1⟩);rw [zAM];unfold zBE;show OkS (zP _ _ [some (nS (jnL [10] rs)),none,none] M) _;rw [zI,zb];refine zA6.mpr (zH (z0 (d:=nS (jnL [10] rs)) rfl) (Ok.mono (zL7 h0 hr hx M) ?_));rintro d A ⟨p,es,rfl,hx1,ep,hR⟩;rw [hW] at hR;rw [zF,zQ];show OkS (zP _ _ [some (nS (jnL [10] rs)),some (.ref p),none] A) _;rw [zI,zb];refine zA6.mpr (zH (z0 (d:=.ref p) rfl) (Ok.mono (zGG m h26 hl6 n hl ep hR) ?_));rintro d B ⟨rfl,rfl⟩;rw [zF,zQ];have ep':=zj ep [MO.dict (phS NN fun w=>(NN.idxOf w:Nat))];have eq':(A ++ [MO.dict (phS NN fun w=>(NN.idxOf w:Nat))])[A.length]? = some (.dict (phS NN fun w=>(NN.idxOf w:Nat))):=zd _ _;have hR':=hR.app [MO.dict (phS NN fun w=>(NN.idxOf w:Nat))];have hx2:=hx1.app [MO.dict (phS NN fun w=>(NN.idxOf w:Nat))];generalize A ++ [MO.dict (phS NN fun w=>(NN.idxOf w:Nat))] = B at ep' eq' hR' hx2;generalize A.length = q at eq';show OkS (zP _ _ [some (nS (jnL [10] rs)),some (.ref p),some (.ref q)] B) _;have hne:(es.map eD).isEmpty = false:=by
  have hel:es.length = zA.length:=by rw [hR.1]; unfold WW; simp
  have:=m.r0;cases es with
  | nil=>simp at hel; omega
  | cons a b=>rfl
 refine zp (a:=zEe) ?_ ?_
 ·unfold zAv;rw [zCD (f:=zC 1) (j:=p) rfl ep',hne]; rfl
 ·have hk:fB zEE (zN (zC 2) zc) [some (nS (jnL [10] rs)),some (.ref p),some (.ref q)] B = some (.dat (.tup (NN.map nS)),B):=by
   unfold fB zN zc;show zEE [.dat (.ref q)] B = _;unfold zEE;dsimp only;rw [eq'];unfold phS;dsimp only;rw [zQd]; rfl
  exact zAk (d:=.tup [mD zA,.tup (NN.map nS)]) (zEs (zA3 (d:=mD zA) (zA8 (zA3 (d:=.ref p) rfl (z0 (d:=.ref q) rfl)) (zMc m h26 hl6 n hl ep' hR' eq')) (z0 hk)) (by simp)) ⟨hu,hx2,rfl⟩
end
open Lac (zAA zm zd zBp zC8 zj Ex zGz zDk mlR zCM zCD zBI zBS zBU zEs zD8 zEk)
noncomputable def zB8:FS:=(zP (zAI 2 (fC (.str "abcdefghijklmnopqrstuvwxyz")))
  (zP (zAI 3 (fOp kIx (zC 2) (zU zK (zD (toD (zC 0)) (zD (toD (fC (.int 26))) zM)))))
  (zP (zAI 4 (fOp zAY (fC (.int 1)) (zU zK (zD (toD (zC 0)) (zD (toD (fC (.int 8))) zM)))))
  (zP (zAI 5 (zU zK (zD (toD (zC 0)) (zD (toD (zC 4)) zM))))
  (zP (zAI 6 (zU zK (zD (toD (zC 0)) (zD (toD (fC (.int 26))) zM))))
  (zP (zAI 7 (zBk zM))
  (zP (zC1 (zBH (zD (toD (zC 1)) zM)) (gN 8) (sIf (zDH (tst (fOp kLt (zC 1) (fC (.int 9)))) (tst (fOp kGt (zC 4) (fC (.int 6))))) (zA4 (fM zAS (zC 7) (zD (toD (fOp zBe (zC 3) (fOp zAY (zC 8) (fC (.int 1))))) zM))) (zP (zAI 9 (fOp kIx (zC 2) (fOp zCW (fOp zAY (zC 6) (fOp zE2 (fC (.int 3)) (zC 8))) (fC (.int 26)))))
  (zA4 (fM zAS (zC 7) (zD (toD (fOp zCb (fOp zCb (fOp zBe (zC 3) (zC 5)) (zC 9)) (fOp zBe (zC 3) (fOp zEG (fOp zEG (zC 4) (fC (.int 1))) (zC 5))))) zM))))))
  (zq (fB zAp (zN (zC 7) zc))))))))))
noncomputable def zAt:FF:=zC3 (zBZ 10 zB8)
noncomputable def zCA:FS:=(zP (zAI 2 (zBk zM))
  (zP (zC1 (zAb (zC 1)) (gN 3) (zP (zC1 (zBH (zD (toD (fOp zFZ (zU zK (zD (toD (zC 0)) (zD (toD (fC (.int 3))) zM))) (fC (.int 2)))) zM)) (gN 4) (zA4 (fM zAS (zC 2) (zD (toD (fOp zBe (fC (.str " ")) (zU zK (zD (toD (zC 0)) (zD (toD (fC (.int 3))) zM))))) zM))))
  (zP (zAI 5 (fOp zBe (fC (.str " ")) (fOp zAY (fC (.int 1)) (zU zK (zD (toD (zC 0)) (zD (toD (fC (.int 3))) zM))))))
  (zA4 (fM zAS (zC 2) (zD (toD (fOp zCb (fOp zCb (fOp zBe (fC (.str " ")) (zU zK (zD (toD (zC 0)) (zD (toD (fC (.int 3))) zM)))) (zA5 (zC 5) (zN (zBm (zC 3) (zN (fC (.str " ")) zc)) zc))) (fOp zBe (fC (.str " ")) (zU zK (zD (toD (zC 0)) (zD (toD (fC (.int 3))) zM)))))) zM))))))
  (zq (fOp zCx (zC 2) (fOp zJU (zBk (zD (toD (fC (.str ""))) zM)) (zU zK (zD (toD (zC 0)) (zD (toD (fC (.int 2))) zM))))))))
noncomputable def zAO:FF:=zBZ 6 zCA
theorem zFj (s:List Nat) {B:Nat}:∀ {ps:List (List Nat)},(∀ p ∈ ps,p.length <= B) -> (jnL s ps).length <= ps.length * (B + s.length)
 | [],_=>by simp [jnL]
 | [p],h=>by have:=h p (by simp); simp [jnL]; omega
 | p :: q :: r,h=>by
  have h1:=h p (by simp);have h2:=zFj s fun x hx=>h x (zQS p hx);show (p ++ (s ++ jnL s (q :: r))).length <= _;rw [zQV,zQV,List.length_cons,Nat.add_mul,Nat.one_mul];omega
theorem zGt {α:Type}:∀ (n:Nat) (x acc:Array α),((List.replicate n x).foldl (· ++ ·) acc).toList = acc.toList ++ (List.replicate n x.toList).flatten
 | 0,x,acc=>by simp
 | n + 1,x,acc=>by
  rw [zRY,List.foldl_cons,zGt n x (acc ++ x),zRY,zSE,Array.toList_append,List.append_assoc]
theorem zNt (x:List Nat) (n:Nat):Txt.mul (tx x) (n:Int) = tx (List.replicate n x).flatten:=by
 rw [<- zCK (Txt.mul (tx x) (n:Int))];congr 1;unfold Txt.mul;by_cases h:n = 0
 ·subst h; rw [zQU (by decide)]; rfl
 ·rw [zQX (by omega)];by_cases h1:((n:Int) == 1 || (tx x).length == 0) = true
  ·rw [zQU h1];rw [Bool.or_eq_true,beq_iff_eq,beq_iff_eq,zAo] at h1;rcases h1 with h1 | h1
   ·have:n = 1:=by omega
    subst this; simp
   ·have:x = []:=List.length_eq_zero_iff.mp h1;subst this;simp
  ·rw [zQX h1,zSz];show ((List.replicate n x.toArray).foldl (· ++ ·) #[]).toList = _;rw [zGt]; simp
theorem mul_one (c n:Nat):Txt.mul (tx [c]) (n:Int) = tx (List.replicate n c):=by
 rw [zNt];congr 1;induction n with
 | zero=>rfl
 | succ n ih=>rw [zRY,zSE,ih,zRY,List.singleton_append]
theorem zID {f g:FE} {σ:Sd} {M:Mem} {c n:Nat} {i:Int} (hf:f σ M = some (.dat (nS [c]),M)) (hg:g σ M = some (.dat (.int i),M)) (hi:i = (n:Nat)) (h:n <= 1000):fOp zBe f g σ M = some (.dat (nS (List.replicate n c)),M):=by
 subst hi;refine zX hf hg (zJ ((zOL (by omega) (by omega) (by rw [zAo]; simp)).mpr ?_));rw [mul_one]; exact ⟨rfl,rfl⟩
theorem zHo (a b:List Nat):tx a ++ tx b = tx (a ++ b):=by
 rw [<- zCK (tx a ++ tx b),zLB]
theorem zOo {f g:FE} {σ:Sd} {M:Mem} {a b:List Nat} (hf:f σ M = some (.dat (nS a),M)) (hg:g σ M = some (.dat (nS b),M)) (h:a.length + b.length <= 100000):fOp zCb f g σ M = some (.dat (nS (a ++ b)),M):=by
 refine zX hf hg (zJ ((zHZ (by rw [zAo,zAo]; exact h)).mpr ?_));rw [zHo]; exact ⟨rfl,rfl⟩
theorem zNX:∀ i:Fin 26,LET.cps.toList[i.val]? = some (97 + i.val):=by decide +kernel
theorem zPU {M:Mem} {i:Int} (h0:0 <= i) (h1:i < 26):kIx (.dat (.str LET)) (.dat (.int i)) M = some (.dat (nS [97 + i.toNat]),M):=by
 unfold kIx;have hs:zAG M (.dat (.str LET)) = none:=rfl;dsimp only;rw [hs];dsimp only;have hl:LET.length <= sizeLine:=zZ (by show LET.cps.size <= _; rw [<- zQy,zLy]; decide);have hat:atI LET.cps.toList i = some (97 + i.toNat):=by
  have:=zBX (xs:=LET.cps.toList) (j:=i.toNat) (zNX ⟨i.toNat,by omega⟩);rw [show ((i.toNat:Nat):Int) = i by omega] at this;exact this
 rw [zQU hl,hat]
def nmL (b many size at_ first k:Nat):List Nat:=if many < 9 /\ 6 < size then List.replicate (k + 1) b else List.replicate at_ b ++ [97 + (first + 3 * k) % 26] ++ List.replicate (size - 1 - at_) b
theorem zPb {b many size at_ first k:Nat} (hb:zDP b = true) (hs:size <= 8) (ha:at_ < size) (hk:k < many):Nm (nmL b many size at_ first k):=by
 unfold nmL;split
 ·refine ⟨by simp,by rw [List.length_replicate]; omega,fun c hc=>?_⟩;rw [(List.mem_replicate.mp hc).2]; exact hb
 ·refine ⟨by simp,by simp; omega,fun c hc=>?_⟩;rcases zQf.mp hc with z | z
  ·rcases zQf.mp z with z | z
   ·rw [(List.mem_replicate.mp z).2]; exact hb
   ·rw [List.mem_singleton.mp z];unfold zDP;rw [zRN (by omega),zRN (by omega)]; rfl
  ·rw [(List.mem_replicate.mp z).2]; exact hb
theorem zOF {b many size at_ first k j:Nat} (hk:k < 26) (hj:j < 26) (e:nmL b many size at_ first k = nmL b many size at_ first j):k = j:=by
 unfold nmL at e;split at e
 ·have:=zR2 List.length e;rw [List.length_replicate,List.length_replicate] at this; omega
 ·have:=zR2 (·[at_]?) e;simp at this;omega
theorem zNf {b many size at_ first:Nat} (hb:zDP b = true) (hs:size <= 8) (ha:at_ < size) (hm:many <= 26):Nms ((List.range many).map (nmL b many size at_ first)):=by
 refine ⟨?_,fun w hw=>?_⟩
 ·unfold List.Nodup;rw [List.pairwise_map];refine (List.Pairwise.and_mem.mp (List.nodup_range (n:=many))).imp fun {x y} h e=>h.2.2 (zOF ?_ ?_ e)
  ·have:=zQt.mp h.1; omega
  ·have:=zQt.mp h.2.1; omega
 ·obtain ⟨k,hk,rfl⟩:=zQW.mp hw;exact zPb hb hs ha (zQt.mp hk)
theorem zKN {M:Mem} {n k:Nat} {many:Nat} (h:Gen M n k) (h0:0 < many) (h1:many <= 26):Ok (zAt [.ref n,.int (many:Nat)] M) fun d M'=>Nx M M' n k /\ ∃ NN,d = .tup (NN.map nS) /\ Nms NN /\ NN.length = many:=by
 unfold zAt;refine zGC ?_;rw [zAM];unfold zB8;show OkS (zP _ _ [some (.ref n),some (.int (many:Nat)),none,none,none,none,none,none,none,none] M) _;refine zFk (d:=.str LET) rfl ?_;show OkS (zP _ _ [some (.ref n),some (.int (many:Nat)),some (.str LET),none,none,none,none,none,none,none] M) _;rw [zI,zb];refine zS.mpr (zL.mpr ⟨_,rfl,za h rfl rfl (by decide) (by decide) fun b M1 b0 b1 nx1=>zH (zPU b0 b1) ?_⟩);rw [zF,zQ,zI,zb];refine zS.mpr (zt.mpr (za nx1.gen rfl rfl (by decide) (by decide) fun s M2 s0 s1 nx2=>zAj.mpr ?_));rw [zF,zQ,zI,zb];refine za (m:=1 + s) nx2.gen rfl rfl (by omega) (by omega) fun a M3 a0 a1 nx3=>?_;rw [zF,zQ,zI,zb];refine za nx3.gen rfl rfl (by decide) (by decide) fun f M4 f0 f1 nx4=>?_;rw [zF,zQ,zI,zb];have nx:=((nx1.trans nx2).trans nx3).trans nx4;obtain ⟨fn,rfl⟩:∃ fn:Nat,f = fn:=⟨f.toNat,by omega⟩;obtain ⟨an,rfl⟩:∃ an:Nat,a = an:=⟨a.toNat,by omega⟩;obtain ⟨sn,hsn⟩:∃ sn:Nat,1 + s = sn:=⟨(1 + s).toNat,by omega⟩;rw [hsn];have hb:zDP (97 + b.toNat) = true:=by unfold zDP; rw [zRN (by omega),zRN (by omega)]; rfl
 generalize 97 + b.toNat = c at hb;refine zCn.mpr (zAH.mpr ⟨zZ (by simp),zm ?_⟩);rw [zQ];show OkS (zP _ _ [some (.ref n),some (.int (many:Nat)),some (.str LET),some (nS [c]),some (.int (sn:Nat)),some (.int (an:Nat)),some (.int (fn:Nat)),some (.ref M4.length),none,none] (M4 ++ [MO.lst (((List.range 0).map (nmL c many sn an fn)).map nS)])) _;rw [zI,zA7];refine ⟨_,_,_,zCB (j:=(many:Nat)) rfl (by omega) (by omega),?_⟩;rw [zSz];refine zEg (n:=many) (I:=fun t σ A=>(∃ y8 y9,σ = [some (.ref n),some (.int (many:Nat)),some (.str LET),some (nS [c]),some (.int (sn:Nat)),some (.int (an:Nat)),some (.int (fn:Nat)),some (.ref M4.length),y8,y9]) /\ A = M4 ++ [MO.lst (((List.range t).map (nmL c many sn an fn)).map nS)]) ?_ ?_ _ _ ⟨⟨_,_,rfl⟩,rfl⟩
 ·rintro t σ A ht ⟨⟨y8,y9,rfl⟩,rfl⟩;refine ⟨_,rfl,?_⟩;have eL:(M4 ++ [MO.lst (((List.range t).map (nmL c many sn an fn)).map nS)])[M4.length]? = some (.lst (((List.range t).map (nmL c many sn an fn)).map nS)):=zd _ _;have fin:∀ {w:List Nat},w = nmL c many sn an fn t -> (M4 ++ [MO.lst (((List.range t).map (nmL c many sn an fn)).map nS)]).set M4.length (.lst (((List.range t).map (nmL c many sn an fn)).map nS ++ [nS w])) = M4 ++ [MO.lst (((List.range (t + 1)).map (nmL c many sn an fn)).map nS)]:=fun {w} e=>by
   rw [List.set_append_right _ _ (zQL _),Nat.sub_self,List.set_cons_zero,List.range_succ,zQ7,zQ7,e]; rfl
  have hz:(((List.range t).map (nmL c many sn an fn)).map nS).length < sizeLine:=zQe (by rw [zQO,zQO,zSC]; omega) (zZ (n:=100) (by decide));show OkS (sIf _ _ _ [some (.ref n),some (.int (many:Nat)),some (.str LET),some (nS [c]),some (.int (sn:Nat)),some (.int (an:Nat)),some (.int (fn:Nat)),some (.ref M4.length),some (.int (t:Nat)),y9] (M4 ++ [MO.lst (((List.range t).map (nmL c many sn an fn)).map nS)])) _;generalize M4 ++ [MO.lst (((List.range t).map (nmL c many sn an fn)).map nS)] = A at eL fin;rw [zAm];have hc1:tst (fOp kLt (zC 1) (fC (.int 9))) [some (.ref n),some (.int (many:Nat)),some (.str LET),some (nS [c]),some (.int (sn:Nat)),some (.int (an:Nat)),some (.int (fn:Nat)),some (.ref M4.length),some (.int (t:Nat)),y9] A = some (decide ((many:Int) < 9),A):=zA2 (zX (x:=.dat (.int (many:Nat))) (y:=.dat (.int 9)) rfl rfl (zJ (zPX.mpr ⟨rfl,rfl⟩)));have hc2:tst (fOp kGt (zC 4) (fC (.int 6))) [some (.ref n),some (.int (many:Nat)),some (.str LET),some (nS [c]),some (.int (sn:Nat)),some (.int (an:Nat)),some (.int (fn:Nat)),some (.ref M4.length),some (.int (t:Nat)),y9] A = some (decide ((sn:Int) > 6),A):=zA2 (zX (x:=.dat (.int (sn:Nat))) (y:=.dat (.int 6)) rfl rfl (zJ (zQA.mpr ⟨rfl,rfl⟩)));refine zH (Lac.zNK hc1 hc2) ?_;by_cases hq:many < 9 /\ 6 < sn
  ·rw [zQU (by rw [zRN (by omega),zRN (by omega)]; rfl),zBC];refine zHx.mpr (zL.mpr ⟨_,rfl,⟨_,zAQ eL⟩,zH (z0 (zID (c:=c) (n:=t + 1) rfl (zX (x:=.dat (.int (t:Nat))) (y:=.dat (.int 1)) rfl rfl zC8) (by omega) (by omega))) ((zB5 eL hz).mpr ⟨⟨_,_,rfl⟩,fin ?_⟩)⟩);unfold nmL; rw [zQU hq]
  ·rw [zQX (by rw [zQp,zRS,zRS]; omega)];have hs:fOp kIx (zC 2) (fOp zCW (fOp zAY (zC 6) (fOp zE2 (fC (.int 3)) (zC 8))) (fC (.int 26))) [some (.ref n),some (.int (many:Nat)),some (.str LET),some (nS [c]),some (.int (sn:Nat)),some (.int (an:Nat)),some (.int (fn:Nat)),some (.ref M4.length),some (.int (t:Nat)),y9] A = some (.dat (nS [97 + (fn + 3 * t) % 26]),A):=by
    have e1:=zX (k:=kIx) (f:=zC 2) (g:=fOp zCW (fOp zAY (zC 6) (fOp zE2 (fC (.int 3)) (zC 8))) (fC (.int 26))) (σ:=[some (.ref n),some (.int (many:Nat)),some (.str LET),some (nS [c]),some (.int (sn:Nat)),some (.int (an:Nat)),some (.int (fn:Nat)),some (.ref M4.length),some (.int (t:Nat)),y9]) (M:=A) (x:=.dat (.str LET)) (y:=.dat (.int (((fn:Int) + 3 * (t:Int)) % 26))) rfl (zX (zX (x:=.dat (.int (fn:Nat))) (y:=.dat (.int (3 * (t:Int)))) rfl (zX (x:=.dat (.int 3)) (y:=.dat (.int (t:Nat))) rfl rfl (zJ (zG4.mpr ⟨by unfold zHL; simp <;> omega,rfl,rfl⟩))) zC8) (y:=.dat (.int 26)) rfl (Lac.zP5 (by decide))) (zPU (by omega) (by omega));rw [e1];congr 5
   refine zFk (d:=nS [97 + (fn + 3 * t) % 26]) hs ?_;show OkS (zA4 _ [some (.ref n),some (.int (many:Nat)),some (.str LET),some (nS [c]),some (.int (sn:Nat)),some (.int (an:Nat)),some (.int (fn:Nat)),some (.ref M4.length),some (.int (t:Nat)),some (nS [97 + (fn + 3 * t) % 26])] A) _;rw [zBC];refine zHx.mpr (zL.mpr ⟨_,rfl,⟨_,zAQ eL⟩,zH (z0 (zOo (zOo (zID (c:=c) (n:=an) rfl rfl rfl (by omega)) (b:=[97 + (fn + 3 * t) % 26]) rfl (by simp; omega)) (zID (c:=c) (n:=sn - 1 - an) rfl (zX (zX (x:=.dat (.int (sn:Nat))) (y:=.dat (.int 1)) rfl rfl Lac.zOy) (y:=.dat (.int (an:Nat))) rfl Lac.zOy) (by omega) (by omega)) (by simp; omega))) ((zB5 eL hz).mpr ⟨⟨_,_,rfl⟩,fin ?_⟩)⟩);unfold nmL; rw [zQX hq]
 ·rintro σ A ⟨⟨y8,y9,rfl⟩,rfl⟩;rw [zQ];refine zAk (d:=.tup (((List.range many).map (nmL c many sn an fn)).map nS)) (zEX (x:=.dat (.ref M4.length)) rfl (zh (zd _ _))) ⟨⟨?_,by rw [zQV,nx.len]; omega,fun j u hj e=>?_⟩,?_,_,rfl,zNf hb (by omega) (by omega) h1,by simp⟩
  ·unfold D.und;exact zBd fun x hx=>by obtain ⟨w,_,rfl⟩:=zQW.mp hx; rfl
  ·rw [zQM (by rw [nx.len]; exact hj)] at e;have:=nx.gen.wf j u e;rw [nx.len] at this; exact this
  ·rw [<- nx.len,List.take_left]; exact nx
open Lac (zAA zm zd zBp zC8 zj Ex zGz zDk mlR zCM zCD zBI zBS zBU zEs zD8 zEk)
theorem zEK (rs:List (List Nat)):D.unds N (rs.map nS) = true:=zBd fun x hx=>by obtain ⟨w,_,rfl⟩:=zQW.mp hx; rfl
theorem zF0 (hf:f σ M = some (.dat (nS sep),M))
  (h:Ok (fa σ M) fun xs M2=>∃ (x:EV) (ys:List (List Nat)),xs = [x] /\ zAZ M2 x = some (ys.map nS) /\ (∀ y ∈ ys,y.length <= 1000) /\ ys.length <= 100 /\ sep.length <= 100 /\ P (.dat (nS (jnL sep ys))) M2):Ok (zA5 f fa σ M) P:=by
 refine zMS hf (Ok.mono h ?_);rintro xs M2 ⟨x,ys,rfl,hl,hy,hn,hs,q⟩;refine ⟨x,ys.map tx,rfl,by rw [hl,zQd]; rfl,?_,by rw [zLu]; exact q⟩;have:∀ zs:List (List Nat),(∀ y ∈ zs,y.length <= 1000) -> ((zs.map tx).map (·.length)).sum <= zs.length * 1000:=by
  intro zs;induction zs with
  | nil=>intro _; simp
  | cons z zs ih=>
   intro hz;have h1:=hz z (by simp);have h2:=ih fun y hy=>hz y (by simp [hy]);rw [zQY,zQY,List.sum_cons,zAo,List.length_cons,Nat.add_mul]; omega
 have h1:=this ys hy;have h2:ys.length * sep.length <= 100 * 100:=Nat.mul_le_mul hn hs;rw [zQO,zAo];omega
theorem zD4 (h7:w.length <= 7) (hs:s.length <= 3) (hw:∀ x ∈ w,Nm x):(jnL s w).length <= 77:=by
 have h1:=zFj s (B:=8) fun p hp=>(hw p hp).2.1;have h2:w.length * (8 + s.length) <= 7 * 11:=Nat.mul_le_mul h7 (by omega);omega
theorem zJr (hs:c ∉ s):∀ {ps:List (List Nat)},(∀ p ∈ ps,c ∉ p) -> c ∉ jnL s ps
 | [],_=>by simp [jnL]
 | [p],h=>h p (by simp)
 | p :: q :: r,h=>fun z=>by
  have z:c ∈ p ++ (s ++ jnL s (q :: r)):=z;rcases zQf.mp z with z | z
  ·exact h p (by simp) z
  ·rcases zQf.mp z with z | z
   ·exact hs z
   ·exact zJr hs (fun x hx=>h x (zQS _ hx)) z
theorem zKf (h:Gen M n k) (hp:M[p]? = some (.lst ((ws.map (jnL [32])).map nS))) (hpn:p ≠ n) (hpk:p ≠ k) (hw:∀ w ∈ ws,w ≠ [] /\ w.length <= 7 /\ ∀ x ∈ w,Nm x) (hl:ws.length <= 26) :
  Ok (zAO [.ref n,.ref p] M) fun d A=>∃ (rs:List (List Nat)) (q:Nat),d = .ref q /\ A[q]? = some (.lst (rs.map nS)) /\ Nw M A n k /\ ((rs.map tok).filter fun w=> !w.isEmpty) = ws /\ (∀ r ∈ rs,10 ∉ r /\ r.length <= 100) /\ rs.length <= 60:=by
 obtain ⟨hn,hk⟩:=h.lt;unfold zAO;rw [zAM];unfold zCA;show OkS (zP _ _ [some (.ref n),some (.ref p),none,none,none,none] M) _;rw [zI,zb];refine zCn.mpr (zAH.mpr ⟨zZ (by simp),zm ?_⟩);rw [zQ];have nw0:=h.lst ([]:List D) rfl;have ep0:=zj hp [MO.lst ([]:List D)];have eq0:(M ++ [MO.lst ([]:List D)])[M.length]? = some (.lst (([]:List (List Nat)).map nS)):=zd _ _;have hpq:p < M.length:=(zQI.mp hp).1;generalize M ++ [MO.lst ([]:List D)] = M1 at nw0 ep0 eq0;show OkS (zP _ _ [some (.ref n),some (.ref p),some (.ref M.length),none,none,none] M1) _;rw [zI,zA7];refine ⟨_,_,_,zAc (h:=zC 1) (x:=.dat (.ref p)) rfl (zh ep0),?_⟩;have fl_app:∀ (rs:List (List Nat)) (r:List Nat),((rs ++ [r]).map tok).filter (fun w=> !w.isEmpty) = ((rs.map tok).filter fun w=> !w.isEmpty) ++ if (tok r).isEmpty then [] else [tok r]:=fun rs r=>by
  rw [zQ7,List.filter_append];congr 1;show List.filter _ [tok r] = _;rw [List.filter_cons,List.filter_nil];cases (tok r).isEmpty <;> rfl
 have more:∀ {A:Mem} {rs:List (List Nat)} {r:List Nat} {Q:Mem -> Prop},Nw M A n k -> A[M.length]? = some (.lst (rs.map nS)) -> A[p]? = some (.lst ((ws.map (jnL [32])).map nS)) -> rs.length <= 90 -> (∀ A',Nw M A' n k -> A'[M.length]? = some (.lst ((rs ++ [r]).map nS)) -> A'[p]? = some (.lst ((ws.map (jnL [32])).map nS)) -> Q A') -> Ok (zAS (.dat (.ref M.length)) [nS r] A) fun d M3=>Q M3:=fun {A rs r Q} nw eq ep hl q=>by
  refine (zB5 eq (zQe (by rw [zQO]; omega) (zZ (n:=100) (by decide)))).mpr (q _ ?_ ?_ ?_)
  ·have hu:MO.und A.length (.lst (rs.map nS ++ [nS r])) = true:=by
    show D.unds _ (rs.map nS ++ [nS r]) = true;have:=zEK (N:=A.length) (rs ++ [r]);rw [zQ7] at this; exact this
   exact nw.setB h (zQL _) hu
  ·rw [zQ9 (zQI.mp eq).1,zQ7]; rfl
  ·rw [zQj (by omega)]; exact ep
 refine zBp (gd:=zFr (.dat (.ref p)) ((ws.map (jnL [32])).map nS)) (I:=fun t σ A=>(∃ y3 y4 y5,σ = [some (.ref n),some (.ref p),some (.ref M.length),y3,y4,y5]) /\ Nw M A n k /\ A[p]? = some (.lst ((ws.map (jnL [32])).map nS)) /\ ∃ rs:List (List Nat),A[M.length]? = some (.lst (rs.map nS)) /\ ((rs.map tok).filter fun w=> !w.isEmpty) = ws.take t /\ (∀ r ∈ rs,10 ∉ r /\ r.length <= 100) /\ rs.length <= 2 * t) (fun t σ A h=>Or.inl h.2.2.1) ?_ ?_ _ _ ⟨⟨_,_,_,rfl⟩,nw0,ep0,[],eq0,rfl,fun _ h=>(by cases h),zQL _⟩
 ·rintro t d σ A ed ⟨⟨y3,y4,y5,rfl⟩,nw,ep,rs,eq,hF,hrs,hrl⟩;rw [zQc,zQc,Option.map_map] at ed;obtain ⟨w,ew,rfl⟩:=Option.map_eq_some_iff.mp ed;have ht:t < ws.length:=(zQI.mp ew).1;obtain ⟨w0,w7,wN⟩:=hw w (zQ6 ew);have w32:∀ x ∈ w,x ≠ [] /\ 32 ∉ x:=fun x hx=>⟨(wN x hx).1,(wN x hx).no (by decide)⟩;have w10:∀ x ∈ w,10 ∉ x:=fun x hx=>(wN x hx).no (by decide);refine ⟨_,rfl,?_⟩;show OkS (zP _ _ [some (.ref n),some (.ref p),some (.ref M.length),some (nS (jnL [32] w)),y4,y5] A) _;rw [zI,zA7];obtain ⟨x,A1,ex,v,rfl,v0,v1,nx1⟩:=zKi (m:=3) (fa:=zC 0) (fb:=fC (.int 3)) (σ:=[some (.ref n),some (.ref p),some (.ref M.length),some (nS (jnL [32] w)),y4,y5]) nw.gen rfl rfl (by decide) (by decide);have hdv:fOp zFZ (zU zK (zD (toD (zC 0)) (zD (toD (fC (.int 3))) zM))) (fC (.int 2)) [some (.ref n),some (.ref p),some (.ref M.length),some (nS (jnL [32] w)),y4,y5] A = some (.dat (.int (v / 2)),A1):=by
   unfold fOp; rw [ex]; dsimp only;show zFZ (.dat (.int v)) (.dat (.int 2)) A1 = _;exact zJ (zIT.mpr ⟨by decide,rfl,rfl⟩)
  have hv0:0 <= v / 2:=Int.ediv_nonneg v0 (by decide);have hv1:v / 2 <= 1:=by omega
  have nwA1:=nw.trans nx1.nw;have eqA1:=nx1.nw.get eq (by omega) (by omega);have epA1:=nx1.nw.get ep hpn hpk;refine ⟨zBN 0 (v / 2).toNat,none,A1,by rw [zEi (zMq hdv) hv0 (by omega),zHC],?_⟩;refine zEg (n:=(v / 2).toNat) (I:=fun s σ A=>(∃ y4 y5,σ = [some (.ref n),some (.ref p),some (.ref M.length),some (nS (jnL [32] w)),y4,y5]) /\ Nw M A n k /\ A[p]? = some (.lst ((ws.map (jnL [32])).map nS)) /\ ∃ rs:List (List Nat),A[M.length]? = some (.lst (rs.map nS)) /\ ((rs.map tok).filter fun w=> !w.isEmpty) = ws.take t /\ (∀ r ∈ rs,10 ∉ r /\ r.length <= 100) /\ rs.length <= 2 * t + s) ?_ ?_ _ _ ⟨⟨_,_,rfl⟩,nwA1,epA1,rs,eqA1,hF,hrs,by omega⟩
  ·rintro s σ A hs ⟨⟨y4,y5,rfl⟩,nw,ep,rs,eq,hF,hrs,hrl⟩;refine ⟨_,rfl,?_⟩;show OkS (zA4 _ [some (.ref n),some (.ref p),some (.ref M.length),some (nS (jnL [32] w)),some (.int (s:Nat)),y5] A) _;rw [zBC];refine zHx.mpr (zL.mpr ⟨_,rfl,⟨_,zAQ eq⟩,ze.mpr (zi.mpr (zS.mpr (zt.mpr (za nw.gen rfl rfl (by decide) (by decide) fun u A2 u0 u1 nx2=>?_))))⟩);obtain ⟨un,rfl⟩:∃ un:Nat,u = un:=⟨u.toNat,by omega⟩;refine zH (zID (f:=fC (.str (Str.ofString " "))) (g:=fC (.int (un:Nat))) (σ:=[]) (c:=32) (n:=un) (by rw [zCr]; rfl) rfl rfl (by omega)) ?_;rw [zF,zAH];have eq2:=nx2.nw.get eq (by omega) (by omega);have ep2:=nx2.nw.get ep hpn hpk;refine more (nw.trans nx2.nw) eq2 ep2 (by omega) fun A' nw' eq' ep'=>⟨⟨_,_,rfl⟩,nw',ep',rs ++ [List.replicate un 32],eq',?_,fun r hr=>?_,by simp; omega⟩
   ·rw [fl_app,zF7,hF]; simp
   ·rcases zQf.mp hr with z | z
    ·exact hrs r z
    ·rw [List.mem_singleton.mp z];exact ⟨fun z=>(by have:=(List.mem_replicate.mp z).2; omega),by rw [List.length_replicate]; omega⟩
  ·rintro σ A ⟨⟨y4,y5,rfl⟩,nw,ep,rs,eq,hF,hrs,hrl⟩;rw [zQ,zI,zb];refine zS.mpr (zt.mpr (zS.mpr (zt.mpr (za nw.gen rfl rfl (by decide) (by decide) fun g A2 g0 g1 nx2=>zAj.mpr ?_))));obtain ⟨gn,rfl⟩:∃ gn:Nat,g = gn:=⟨g.toNat,by omega⟩;refine zH (zID (f:=fC (.str (Str.ofString " "))) (g:=fC (.int (1 + (gn:Nat)))) (σ:=[]) (c:=32) (n:=gn + 1) (by rw [zCr]; rfl) rfl (by omega) (by omega)) ?_;rw [zF,zQ];have nw2:=nw.trans nx2.nw;have eq2:=nx2.nw.get eq (by omega) (by omega);have ep2:=nx2.nw.get ep hpn hpk;show OkS (zA4 _ [some (.ref n),some (.ref p),some (.ref M.length),some (nS (jnL [32] w)),y4,some (nS (List.replicate (gn + 1) 32))] A2) _;rw [zBC];refine zHx.mpr (zL.mpr ⟨_,rfl,⟨_,zAQ eq2⟩,ze.mpr (zi.mpr (zS.mpr (zS.mpr (zS.mpr (zt.mpr (za nw2.gen rfl rfl (by decide) (by decide) fun a A3 a0 a1 nx3=>?_))))))⟩);obtain ⟨an,rfl⟩:∃ an:Nat,a = an:=⟨a.toNat,by omega⟩;refine zH (zID (f:=fC (.str (Str.ofString " "))) (g:=fC (.int (an:Nat))) (σ:=[]) (c:=32) (n:=an) (by rw [zCr]; rfl) rfl rfl (by omega)) ?_;have hjl:=zD4 (s:=[32]) w7 (by simp) wN;have hjg:=zD4 (s:=List.replicate (gn + 1) 32) w7 (by rw [List.length_replicate]; omega) wN;refine zF0 (sep:=List.replicate (gn + 1) 32) rfl (zAL.mpr (zH (zES (f:=zC 3) (x:=jnL [32] w) zCr (by decide) rfl (by omega)) (zAd.mpr ⟨_,w,rfl,?_,fun y hy=>(by have:=(wN y hy).2.1; omega),by omega,by rw [List.length_replicate]; omega,?_⟩)))
   ·rw [zH3 w0 fun x hx=>(w32 x hx).2]; rfl
   refine (zHZ (by rw [zAo,zAo,List.length_replicate]; omega)).mpr ?_;rw [zHo];refine zS.mpr (zt.mpr (za nx3.gen rfl rfl (by decide) (by decide) fun b A4 b0 b1 nx4=>?_));obtain ⟨bn,rfl⟩:∃ bn:Nat,b = bn:=⟨b.toNat,by omega⟩;refine zH (zID (f:=fC (.str (Str.ofString " "))) (g:=fC (.int (bn:Nat))) (σ:=[]) (c:=32) (n:=bn) (by rw [zCr]; rfl) rfl rfl (by omega)) ?_;refine (zHZ (by rw [zAo,zAo,List.length_replicate,zQV,List.length_replicate]; omega)).mpr ?_;rw [zHo,zF,zAH];have nw4:=(nw2.trans nx3.nw).trans nx4.nw;have eq4:=nx4.nw.get (nx3.nw.get eq2 (by omega) (by omega)) (by omega) (by omega);have ep4:=nx4.nw.get (nx3.nw.get ep2 hpn hpk) hpn hpk;refine more nw4 eq4 ep4 (by omega) fun A' nw' eq' ep'=>⟨⟨_,_,_,rfl⟩,nw',ep',_,eq',?_,fun r hr=>?_,by simp; omega⟩
   ·rw [fl_app,zFK an gn bn w32,hF,List.take_add_one,ew,zQX (by cases w with | nil=>exact absurd rfl w0 | cons _ _=>exact zQb)]; rfl
   ·rcases zQf.mp hr with z | z
    ·exact hrs r z
    ·rw [List.mem_singleton.mp z];refine ⟨fun z=>?_,by rw [zQV,zQV,List.length_replicate,List.length_replicate]; omega⟩;rcases zQf.mp z with z | z
     ·rcases zQf.mp z with z | z
      ·have:=(List.mem_replicate.mp z).2; omega
      ·exact zJr (fun z=>by have:=(List.mem_replicate.mp z).2; omega) w10 z
     ·have:=(List.mem_replicate.mp z).2; omega
 ·rintro σ A ⟨⟨y3,y4,y5,rfl⟩,nw,ep,rs,eq,hF,hrs,hrl⟩;rw [zQO,zQO] at hF hrl;rw [zQ,zx];refine zS.mpr (zL.mpr ⟨_,rfl,zS.mpr (zH (zGz (z0 (d:=.str (Str.ofString "")) rfl) (by simp)) (za nw.gen rfl rfl (by decide) (by decide) fun v A2 v0 v1 nx2=>?_))⟩);obtain ⟨vn,rfl⟩:∃ vn:Nat,v = vn:=⟨v.toNat,by omega⟩;have eq2:=nx2.nw.get eq (by omega) (by omega);have e0:Str.ofString "" = tx []:=by rw [<- zCK (Str.ofString "")]; rfl
  have hrep:zJU (.fl [.str (Str.ofString "")]) (.dat (.int (vn:Nat))) A2 = some (.fl ((List.replicate vn ([]:List Nat)).map nS),A2):=by
   unfold zJU;show (if -(2 ^ 63) <= ((vn:Nat):Int) /\ ((vn:Nat):Int) < 2 ^ 63 /\ [D.str (Str.ofString "")].length * ((vn:Nat):Int).toNat <= sizeLine then some (EV.fl (List.replicate ((vn:Nat):Int).toNat [D.str (Str.ofString "")]).flatten,A2) else none) = _;rw [zQU ⟨by omega,by omega,zZ (by simp; omega)⟩,zSz,e0];congr 3;have:∀ m:Nat,(List.replicate m [nS []]).flatten = (List.replicate m ([]:List Nat)).map nS:=by
    intro m;induction m with
    | zero=>rfl
    | succ m ih=>rw [zRY,zSE,ih,zRY]; rfl
   exact this vn
  refine zH hrep (zH (zDk (mlR eq2) (show zEv A2 (.fl ((List.replicate vn ([]:List Nat)).map nS)) = some _ from rfl) (by rw [zQO,zQO,List.length_replicate]; omega)) (zm ?_));rw [<- zQ7];have nw2:=nw.trans nx2.nw;refine ⟨rs ++ List.replicate vn [],A2.length,rfl,zd _ _,nw2.trans (nw2.gen.lst _ (zEK _)),?_,fun r hr=>?_,by rw [zQV,List.length_replicate]; omega⟩
  ·rw [zQ7,List.filter_append,hF,List.take_of_length_le (zQL _),List.map_replicate];have:∀ m:Nat,(List.replicate m (tok [])).filter (fun w=> !w.isEmpty) = []:=fun m=>List.filter_eq_nil_iff.mpr fun x hx=>by rw [(List.mem_replicate.mp hx).2]; decide
   rw [this,zQz]
  ·rcases zQf.mp hr with z | z
   ·exact hrs r z
   ·rw [(List.mem_replicate.mp z).2]; simp
open Lac (zAA zm zd zBp zC8 zj Ex zGz zDk mlR zCM zCD zBI zBS zBU zEs zD8 zEk)
noncomputable def zLI:FS:=(zP (zAI 1 (zU zAu (zD (toD (zC 0)) zM)))
  (zP (zC1 (zBH (zD (toD (fOp zAY (fC (.int 2)) (fB zBw (zN (fSl (zC 0) zBh (zBW (fC (.int 12)))) zc)))) zM)) (gN 2) (zP (zAI 3 (zU zAX (zD (toD (zC 1)) (zD (toD (fC (.int 26))) (zD (toD (fC (.int 6))) zM)))))
  (zP (zAI 4 (zU zAt (zD (toD (zC 1)) (zD (toD (fB zBw (zN (zC 3) zc))) zM))))
  (zP (zAI 5 (zBk zM))
  (zP (zC1 (zBH (zD (toD (fB zBw (zN (zC 3) zc))) zM)) (gN 6) (zA4 (fM zAS (zC 5) (zD (toD (zA5 (fC (.str " ")) (zN (fOp zCx (zBk (zD (toD (fOp kIx (zC 4) (zC 6))) zM)) (zy [7] (zAb (fOp kIx (zC 3) (zC 6))) (gN 7) zAW (fOp kIx (zC 4) (zC 7)))) zc))) zM))))
  (zP (zAI 8 (zU zAl (zD (toD (zC 3)) (zD (toD (zC 4)) zM))))
  (zP (sIf (zE0 (zAv (tst (zU zAK (zD (toD (zC 8)) (zD (toD (zA5 (fC (.str "\n")) (zN (zC 5) zc))) zM))))) (zAv (tst (zU zAK (zD (toD (zU zn (zD (toD (zC 8)) zM))) (zD (toD (zC0 (zD (toD (zC 3)) (zD (toD (zC 4)) zM)))) zM)))))) (zq (fC (.bl false))) zAr)
  (sIf (zAv (tst (zU zAK (zD (toD (zU zn (zD (toD (zA5 (fC (.str "\n")) (zN (zU zAO (zD (toD (zC 1)) (zD (toD (zC 5)) zM))) zc))) zM))) (zD (toD (zC0 (zD (toD (zC 3)) (zD (toD (zC 4)) zM)))) zM))))) (zq (fC (.bl false))) zAr))))))))
  (zq (fC (.bl true)))))
noncomputable def zDl:FF:=zBZ 9 zLI
theorem zIi (hf:f σ M = some (.dat (nS sep),M)) (hg:g σ M = some (x,M)) (hx:zAZ M x = some (ys.map nS)) (hy:∀ y ∈ ys,y.length <= 1000) (hn:ys.length <= 100) (hs:sep.length <= 100):zA5 f (zN g zc) σ M = some (.dat (nS (jnL sep ys)),M) :=
 zJ (zF0 hf (zAL.mpr (zH hg (zAd.mpr ⟨x,ys,rfl,hx,hy,hn,hs,rfl,rfl⟩))))
theorem spC:fC (.str (Str.ofString " ")) σ M = some (.dat (nS [32]),M):=by rw [zCr]; rfl
theorem nlC:fC (.str (Str.ofString "\n")) σ M = some (.dat (nS [10]),M):=by rw [zJY]; rfl
section
variable {zA:List (List Int)} {l:Nat} {NN:List (List Nat)}
def rwW (zA:List (List Int)) (NN:List (List Nat)) (r:Nat):List (List Nat):=NN.getD r [] :: (zA.getD r []).map fun g=>NN.getD g.toNat []
theorem zFN:WW zA NN = (List.range zA.length).map (rwW zA NN):=rfl
theorem zIb (m:IsM zA l) (hl6:l <= 6) (n:Nms NN) (hl:NN.length = zA.length) (hr:r < zA.length):rwW zA NN r ≠ [] /\ (rwW zA NN r).length <= 7 /\ ∀ x ∈ rwW zA NN r,Nm x:=by
 have h1:=(m.get (h:=(r:Nat)) (by omega) (by omega)).1;rw [zSz] at h1;exact ⟨List.cons_ne_nil _ _,by unfold rwW; rw [List.length_cons,zQO]; omega,fun x hx=>n.ok x (zDM m hl hr x hx)⟩
theorem zKG (m:IsM zA l) (hl6:l <= 6) (hl:NN.length = zA.length) (hr:r < zA.length) (e1:f1 σ A = some (.dat (nS (NN.getD r [])),A)) (e2:f2 σ A = some (.dat (tI (zA.getD r [])),A)) (e3:∀ g:Int,∃ σ1,gN v (.int g) (zHv [v] σ) = some σ1 /\ f3 σ1 A = some (.dat (.tup (NN.map nS)),A) /\ zC v σ1 A = some (.dat (.int g),A)) :
  fOp zCx (zBk (zD (toD f1) zM)) (zy [v] (zAb f2) (gN v) zAW (fOp kIx f3 (zC v))) σ A = some (.fl ((rwW zA NN r).map nS),A):=by
 have h1:=m.get (h:=(r:Nat)) (by omega) (by omega);rw [zSz] at h1;have hc:=zBM (own:=[v]) (fi:=zAb f2) (g:=gN v) (te:=fOp kIx f3 (zC v)) (σ:=σ) (M:=A) (gd:=none) (zA.getD r []) D.int (fun g=>nS (NN.getD g.toNat [])) (zMB e2) trivial (by omega) fun g hg=>by
  obtain ⟨σ1,q1,q2,q3⟩:=e3 g;obtain ⟨g0,g1⟩:=h1.2 g hg;refine ⟨σ1,q1,zX q2 q3 (zD7 zBV ?_)⟩;have hlt:g.toNat < NN.length:=by omega
  have:=zBX (xs:=NN.map nS) (j:=g.toNat) (v:=nS (NN.getD g.toNat [])) (by rw [zQc,zQK,zQJ hlt]; rfl);rw [show ((g.toNat:Nat):Int) = g by omega] at this;exact this
 refine (zX (zGz (z0 e1) (by simp)) hc (zDk (xs:=[nS (NN.getD r [])]) rfl rfl (by rw [zQO,List.length_singleton]; omega))).trans ?_;unfold rwW;rw [zQY,zQd]; rfl
theorem zMG (m:IsM zA l) (h26:zA.length <= 26) (hl6:l <= 6) (n:Nms NN) (hl:NN.length = zA.length) (wf:∀ (j:Nat) u,M[j]? = some u -> MO.und M.length u = true) :
  zAl [mD zA,.tup (NN.map nS)] M = some (nS (jnL [10] ((WW zA NN).map (jnL [32]))),M):=by
 refine zJ (Ok.mono (zBU (Q:=fun d=>d = nS (jnL [10] ((WW zA NN).map (jnL [32])))) wf ?_) fun d A h=>⟨h.2,h.1⟩);rw [zAM];unfold zBG;show OkS (zP _ _ [some (mD zA),some (.tup (NN.map nS)),none,none,none,none] M) _;rw [zI,zb];have hz:zI8 (zD (toD (zC 1)) (zD (toD (zC 0)) zM)) [some (mD zA),some (.tup (NN.map nS)),none,none,none,none] M = some ((List.range zA.length).map (fun r=>D.tup [nS (NN.getD r []),tI (zA.getD r [])]),none,M):=by
  unfold zI8;rw [zA3 (d:=.tup (NN.map nS)) rfl (z0 (d:=mD zA) rfl)];show some ((((NN.map nS).zip (zA.map tI)).map fun q=>D.tup [q.1,q.2]),none,M) = _;congr 2;refine List.ext_getElem (by simp [hl]) fun i h1 h2=>?_;have hi:i < zA.length:=by simpa using h2
  rw [List.getElem_map,List.getElem_zip,List.getElem_map,List.getElem_map,List.getElem_map,List.getElem_range,zQK,zQK,zQJ (by omega),zQJ hi];rfl
 refine zBx.mpr ⟨_,_,_,hz,by rw [zQO,zSC]; exact zZ (by omega),?_⟩;refine Ok.mono (zHK (I:=fun i acc A=>Ex M A /\ ∃ js:List Nat,acc = js.map D.ref /\ js.length = i /\ ∀ (r j:Nat),js[r]? = some j -> A[j]? = some (.lst ((rwW zA NN r).map nS))) ?_ ⟨.refl M,[],rfl,rfl,fun r j h=>by simp at h⟩) ?_
 ·rintro i d acc A ed ⟨hx,js,rfl,hjl,hjs⟩;rw [zQc] at ed;obtain ⟨r,er,rfl⟩:=Option.map_eq_some_iff.mp ed;have hi:i < zA.length:=by have:=(zQI.mp er).1; rwa [zSC] at this
  rw [List.getElem?_range hi] at er;cases er;refine ⟨_,rfl,zH (zKG m hl6 hl hi rfl rfl fun g=>⟨_,rfl,rfl,rfl⟩) (zm ⟨hx.app _,js ++ [A.length],by rw [zQ7]; rfl,by simp [hjl],fun r j h=>?_⟩)⟩;by_cases q:r = i
  ·subst q;rw [zRP (by omega),hjl,Nat.sub_self] at h;cases h;exact zd _ _
  ·have hj:r < js.length:=by
    have:=(zQI.mp h).1;rw [zQV,List.length_singleton] at this; omega
   rw [zQM hj] at h;exact zj (hjs r j h) _
 ·rintro ys A ⟨hx,js,rfl,hjl,hjs⟩;rw [zQO,zSC] at hjl;refine zm ?_;rw [zQ];have e1:(A ++ [MO.lst (js.map D.ref)])[A.length]? = some (.lst (js.map D.ref)):=zd _ _;have hx1:=hx.app [MO.lst (js.map D.ref)];have hj1:∀ (r j:Nat),js[r]? = some j -> (A ++ [MO.lst (js.map D.ref)])[j]? = some (.lst ((rwW zA NN r).map nS)):=fun r j h=>zj (hjs r j h) _;generalize A ++ [MO.lst (js.map D.ref)] = A1 at e1 hx1 hj1;generalize A.length = p at e1;show OkS (zq _ [some (mD zA),some (.tup (NN.map nS)),some (.ref p),none,none,none] A1) _;have hz2:(List.range zA.length).map (fun r=>D.ref (js.getD r 0)) = js.map D.ref:=by
   rw [<- hjl];refine List.ext_getElem (by simp) fun i h1 h2=>?_;rw [List.getElem_map,List.getElem_range,List.getElem_map];congr 1;rw [zQK,zQJ (by simpa using h2)]; rfl
  have hc:=zBM (own:=[5]) (fi:=zAb (zC 2)) (g:=gN 5) (te:=zA5 (fC (.str (Str.ofString " "))) (zN (zC 5) zc)) (σ:=[some (mD zA),some (.tup (NN.map nS)),some (.ref p),none,none,none]) (M:=A1) (gd:=zFr (.dat (.ref p)) (js.map D.ref)) (List.range zA.length) (fun r=>D.ref (js.getD r 0)) (fun r=>nS (jnL [32] (rwW zA NN r))) (by rw [hz2]; exact zAc rfl (zh e1)) (by rw [hz2]; exact Or.inl e1) (by rw [zSC]; omega) fun r hr=>by
   have hr:=zQt.mp hr;obtain ⟨_,h7,hN⟩:=zIb m hl6 n hl hr;refine ⟨_,rfl,zIi spC (x:=.dat (.ref (js.getD r 0))) rfl (zAQ (hj1 r _ (by rw [zQK,zQJ (by omega)]; rfl))) (fun y hy=>by have:=(hN y hy).2.1; omega) (by omega) (by simp)⟩
  have hlw:∀ y ∈ (WW zA NN).map (jnL [32]),y.length <= 1000:=fun y hy=>by
   obtain ⟨w,hw,rfl⟩:=zQW.mp hy;obtain ⟨r,hr,rfl⟩:=zQW.mp (zFN ▸ hw);obtain ⟨_,h7,hN⟩:=zIb m hl6 n hl (zQt.mp hr);have:=zD4 (s:=[32]) h7 (by simp) hN;omega
  refine zAk (d:=nS (jnL [10] ((WW zA NN).map (jnL [32])))) (zIi nlC hc ?_ hlw (by rw [zFN]; simp; omega) (by simp)) ⟨rfl,hx1,rfl⟩;show some _ = some _;rw [zFN,zQd,zQd]; rfl
theorem zKP (ns:List Int) (h:ns.length <= 63):∃ M',zDl [.ref 0] [.fro (ns.map D.int)] = some (.bl true,M'):=by
 suffices hh:Ok (zDl [.ref 0] [.fro (ns.map D.int)]) fun d _=>d = .bl true by
  obtain ⟨d,M',e,rfl⟩:=hh;exact ⟨M',e⟩
 unfold zDl;rw [zAM];unfold zLI;show OkS (zP _ _ [some (.ref 0),none,none,none,none,none,none,none,none] _) _;rw [zI,zb];refine zA6.mpr (zH (z0 (d:=.ref 0) rfl) (Ok.mono (zKy h) ?_));rintro d M1 ⟨rfl,g1,e0,hl3⟩;rw [zF,zQ];show OkS (zP _ _ [some (.ref 0),some (.ref 2),none,none,none,none,none,none,none] M1) _;rw [zI,zA7];obtain ⟨c,ec,lc⟩:=zNM (σ:=[some (.ref 0),some (.ref 2),none,none,none,none,none,none,none]) (M:=M1) (j:=0) (i:=12) rfl rfl e0;have elen:=zDO ec zB7;rw [zQO] at elen;refine ⟨_,_,_,zCB (j:=2 + (c.length:Int)) (zX (x:=.dat (.int 2)) rfl elen zC8) (by omega) (by omega),?_⟩;refine zEg (n:=(2 + (c.length:Int)).toNat) (I:=fun t σ A=>(∃ y2 y3 y4 y5 y6 y7 y8,σ = [some (.ref 0),some (.ref 2),y2,y3,y4,y5,y6,y7,y8]) /\ Gen A 2 1) ?_ ?_ _ _ ⟨⟨_,_,_,_,_,_,_,rfl⟩,g1⟩
 ·rintro t σ A0 ht ⟨⟨y2,y3,y4,y5,y6,y7,y8,rfl⟩,g0⟩;refine ⟨_,rfl,?_⟩;show OkS (zP _ _ [some (.ref 0),some (.ref 2),some (.int (t:Nat)),y3,y4,y5,y6,y7,y8] A0) _;rw [zI,zb];refine zA6.mpr (zH (zA3 (d:=.ref 2) rfl (zA3 (d:=.int 26) rfl (z0 (d:=.int 6) rfl))) (Ok.mono (zHU g0 (by decide) (by decide) (by decide) (by decide)) ?_));rintro d A1 ⟨⟨zA,l,rfl,m,h26,hl6⟩,nx1⟩;have h26:zA.length <= 26:=by omega
  have hl6:l <= 6:=by omega
  have hr0:=m.r0;rw [zF,zQ];show OkS (zP _ _ [some (.ref 0),some (.ref 2),some (.int (t:Nat)),some (mD zA),y4,y5,y6,y7,y8] A1) _;rw [zI,zb];refine zA6.mpr (zH (zA3 (d:=.ref 2) rfl (z0 (zGI rfl))) (Ok.mono (zKN nx1.gen hr0 h26) ?_));rintro d A2 ⟨nx2,NN,rfl,n,hl⟩;have g2:=nx2.gen;rw [zF,zQ,zI,zb];refine zCn.mpr (zAH.mpr ⟨zZ (by simp),zm ?_⟩);rw [zQ];show OkS (zP _ _ [some (.ref 0),some (.ref 2),some (.int (t:Nat)),some (mD zA),some (.tup (NN.map nS)),some (.ref A2.length),y6,y7,y8] (A2 ++ [MO.lst (((List.range 0).map fun r=>jnL [32] (rwW zA NN r)).map nS)])) _;rw [zI,zA7];refine ⟨_,_,_,zCB (zGI rfl) (by omega) (by omega),?_⟩;rw [zSz];refine zEg (n:=zA.length) (I:=fun s σ A=>(∃ y6 y7,σ = [some (.ref 0),some (.ref 2),some (.int (t:Nat)),some (mD zA),some (.tup (NN.map nS)),some (.ref A2.length),y6,y7,y8]) /\ A = A2 ++ [MO.lst (((List.range s).map fun r=>jnL [32] (rwW zA NN r)).map nS)]) ?_ ?_ _ _ ⟨⟨_,_,rfl⟩,rfl⟩
  ·rintro s σ A hs ⟨⟨y6,y7,rfl⟩,rfl⟩;refine ⟨_,rfl,?_⟩;show OkS (zA4 _ [some (.ref 0),some (.ref 2),some (.int (t:Nat)),some (mD zA),some (.tup (NN.map nS)),some (.ref A2.length),some (.int (s:Nat)),y7,y8] (A2 ++ [MO.lst (((List.range s).map fun r=>jnL [32] (rwW zA NN r)).map nS)])) _;have eL:(A2 ++ [MO.lst (((List.range s).map fun r=>jnL [32] (rwW zA NN r)).map nS)])[A2.length]? = some (.lst (((List.range s).map fun r=>jnL [32] (rwW zA NN r)).map nS)):=zd _ _;have hset:(A2 ++ [MO.lst (((List.range s).map fun r=>jnL [32] (rwW zA NN r)).map nS)]).set A2.length (.lst (((List.range s).map fun r=>jnL [32] (rwW zA NN r)).map nS ++ [nS (jnL [32] (rwW zA NN s))])) = A2 ++ [MO.lst (((List.range (s + 1)).map fun r=>jnL [32] (rwW zA NN r)).map nS)]:=by
    rw [List.set_append_right _ _ (zQL _),Nat.sub_self,List.set_cons_zero,List.range_succ,zQ7,zQ7]; rfl
   generalize A2 ++ [MO.lst (((List.range s).map fun r=>jnL [32] (rwW zA NN r)).map nS)] = A at eL hset;obtain ⟨_,h7,hN⟩:=zIb m hl6 n hl hs;rw [zBC];have hi:fOp kIx (zC 4) (zC 6) [some (.ref 0),some (.ref 2),some (.int (t:Nat)),some (mD zA),some (.tup (NN.map nS)),some (.ref A2.length),some (.int (s:Nat)),y7,y8] A = some (.dat (nS (NN.getD s [])),A):=zX (x:=.dat (.tup (NN.map nS))) (y:=.dat (.int (s:Nat))) rfl rfl (zD7 zBV (zBX (by rw [zQc,zQK,zQJ (by omega)]; rfl)));have hrw:fOp kIx (zC 3) (zC 6) [some (.ref 0),some (.ref 2),some (.int (t:Nat)),some (mD zA),some (.tup (NN.map nS)),some (.ref A2.length),some (.int (s:Nat)),y7,y8] A = some (.dat (tI (zA.getD s [])),A):=by
    have:=zX (k:=kIx) (f:=zC 3) (g:=zC 6) (σ:=[some (.ref 0),some (.ref 2),some (.int (t:Nat)),some (mD zA),some (.tup (NN.map nS)),some (.ref A2.length),some (.int (s:Nat)),y7,y8]) (M:=A) (x:=.dat (mD zA)) (y:=.dat (.int (s:Nat))) rfl rfl (zD7 zBV (zOK (h:=(s:Nat)) (by omega) (by omega)));rw [zSz] at this; exact this
   refine zHx.mpr (zL.mpr ⟨_,rfl,⟨_,zAQ eL⟩,zH (z0 (zIi spC (zKG m hl6 hl hs hi hrw fun g=>⟨_,rfl,rfl,rfl⟩) rfl (fun y hy=>by have:=(hN y hy).2.1; omega) (by omega) (by simp))) ((zB5 eL (zQe (by rw [zQO,zQO,zSC]; omega) (zZ (n:=100) (by decide)))).mpr ⟨⟨_,_,rfl⟩,hset⟩)⟩)
  ·rintro σ A ⟨⟨y6,y7,rfl⟩,rfl⟩;rw [zQ];have hWW:((List.range zA.length).map fun r=>jnL [32] (rwW zA NN r)) = (WW zA NN).map (jnL [32]):=by rw [zFN,zQd]; rfl
   rw [hWW];have eL:(A2 ++ [MO.lst (((WW zA NN).map (jnL [32])).map nS)])[A2.length]? = some (.lst (((WW zA NN).map (jnL [32])).map nS)):=zd _ _;have nwL:=g2.lst (((WW zA NN).map (jnL [32])).map nS) (zEK _);have hlt:=g2.lt;generalize A2 ++ [MO.lst (((WW zA NN).map (jnL [32])).map nS)] = A at eL nwL;have gA:=nwL.gen;have hwk:∀ w ∈ WW zA NN,w ≠ [] /\ w.length <= 7 /\ ∀ x ∈ w,Nm x:=fun w hw=>by
    obtain ⟨r,hr,rfl⟩:=zQW.mp (zFN ▸ hw);exact zIb m hl6 n hl (zQt.mp hr)
   have hWl:(WW zA NN).length = zA.length:=by rw [zFN]; simp
   have hlw:∀ y ∈ (WW zA NN).map (jnL [32]),y.length <= 77 /\ 10 ∉ y:=fun y hy=>by
    obtain ⟨w,hw,rfl⟩:=zQW.mp hy;obtain ⟨_,h7,hN⟩:=hwk w hw;exact ⟨zD4 (s:=[32]) h7 (by simp) hN,zJr (by decide) fun x hx=>(hN x hx).no (by decide)⟩
   have htok:((((WW zA NN).map (jnL [32])).map tok).filter fun w=> !w.isEmpty) = WW zA NN:=by
    rw [zQd];have e1:(WW zA NN).map (tok ∘ jnL [32]) = WW zA NN:=by
     refine (List.map_congr_left fun w hw=>?_).trans (List.map_id _);obtain ⟨_,h7,hN⟩:=hwk w hw;have:=zFK 0 0 0 (ws:=w) fun x hx=>⟨(hN x hx).1,(hN x hx).no (by decide)⟩;simpa using this
    rw [e1];exact List.filter_eq_self.mpr fun w hw=>by
     have:=(hwk w hw).1;cases w with
     | nil=>exact absurd rfl this
     | cons _ _=>rfl
   have hjl:=zFj [10] (B:=77) (ps:=(WW zA NN).map (jnL [32])) fun y hy=>(hlw y hy).1;have hjl2:((WW zA NN).map (jnL [32])).length * (77 + [10].length) <= 26 * 78:=Nat.mul_le_mul (by rw [zQO,hWl]; exact h26) (by simp);have hne:(WW zA NN).map (jnL [32]) ≠ []:=fun e=>by
    have:=zR2 List.length e;rw [zQO,hWl,List.length_nil] at this; omega
   refine zFk (d:=nS (jnL [10] ((WW zA NN).map (jnL [32])))) (zA8 (zA3 (d:=mD zA) rfl (z0 (d:=.tup (NN.map nS)) rfl)) (zMG m h26 hl6 n hl gA.wf)) ?_;show OkS (zP _ _ [some (.ref 0),some (.ref 2),some (.int (t:Nat)),some (mD zA),some (.tup (NN.map nS)),some (.ref A2.length),y6,y7,some (nS (jnL [10] ((WW zA NN).map (jnL [32]))))] A) _;have hpl:Pl 3 (.tup [mD zA,.tup (NN.map nS)]):=by
    refine Pl.tup (by simp) fun x hx=>?_;rcases zQR.mp hx with z | z
    ·rw [z];exact Pl.zA (by omega) fun r hr=>by have:=(m.row r hr).1; omega
    ·rw [List.mem_singleton.mp z];refine Pl.tup (by rw [zQO]; omega) fun y hy=>?_;obtain ⟨w,_,rfl⟩:=zQW.mp hy;exact .inl rfl
   have hr1:=zIh m h26 hl6 n hl hne (fun y hy=>(hlw y hy).2) (by omega) htok gA.wf;have c1:=zDV (σ:=[some (.ref 0),some (.ref 2),some (.int (t:Nat)),some (mD zA),some (.tup (NN.map nS)),some (.ref A2.length),y6,y7,some (nS (jnL [10] ((WW zA NN).map (jnL [32]))))]) (M:=A) (f1:=zC 8) (f2:=zA5 (fC (.str (Str.ofString "\n"))) (zN (zC 5) zc)) (d:=nS (jnL [10] ((WW zA NN).map (jnL [32])))) 0 (by omega) rfl rfl (zIi nlC (x:=.dat (.ref A2.length)) rfl (zAQ eL) (fun y hy=>by have:=(hlw y hy).1; omega) (by rw [zQO,hWl]; omega) (by simp));have c2:=zDV (σ:=[some (.ref 0),some (.ref 2),some (.int (t:Nat)),some (mD zA),some (.tup (NN.map nS)),some (.ref A2.length),y6,y7,some (nS (jnL [10] ((WW zA NN).map (jnL [32]))))]) (M:=A) (f1:=zU zn (zD (toD (zC 8)) zM)) (f2:=zC0 (zD (toD (zC 3)) (zD (toD (zC 4)) zM))) (d:=.tup [mD zA,.tup (NN.map nS)]) 3 (by omega) hpl (zA8 (z0 (d:=nS (jnL [10] ((WW zA NN).map (jnL [32])))) rfl) hr1) (zEs (zA3 (d:=mD zA) rfl (z0 (d:=.tup (NN.map nS)) rfl)) (by simp));refine zp (zCM (zDd c1) (zDd c2)) ?_;rw [zAm];obtain ⟨d,B,eB,rs,q,rfl,eq,nwB,hF,hrs,hrl⟩:=zKf (p:=A2.length) gA eL (by omega) (by omega) hwk (by omega);have hrne:rs ≠ []:=fun e=>by
    rw [e] at hF;have:=zR2 List.length hF;rw [hWl] at this; simp at this; omega
   have hjr:=zFj [10] (B:=100) (ps:=rs) fun y hy=>(hrs y hy).2;have hjr2:rs.length * (100 + [10].length) <= 60 * 101:=Nat.mul_le_mul hrl (by simp);have hr2:=zIh m h26 hl6 n hl hrne (fun y hy=>(hrs y hy).1) (by omega) hF nwB.gen.wf;have hsame:zAK [.tup [mD zA,.tup (NN.map nS)],.tup [mD zA,.tup (NN.map nS)]] B = some (.bl true,B):=by
    have c4:=zDV (σ:=[]) (M:=B) (f1:=fun _ M=>some (.dat (.tup [mD zA,.tup (NN.map nS)]),M)) (f2:=fun _ M=>some (.dat (.tup [mD zA,.tup (NN.map nS)]),M)) (d:=.tup [mD zA,.tup (NN.map nS)]) 3 (by omega) hpl rfl rfl;unfold zU at c4;rw [zA3 (d:=.tup [mD zA,.tup (NN.map nS)]) rfl (z0 (d:=.tup [mD zA,.tup (NN.map nS)]) rfl)] at c4;dsimp only at c4;revert c4;cases zAK [.tup [mD zA,.tup (NN.map nS)],.tup [mD zA,.tup (NN.map nS)]] B with
    | none=>intro c4; cases c4
    | some x=>intro c4; obtain ⟨x1,x2⟩:=x; cases c4; rfl
   have hB1:∀ y ∈ rs,y.length <= 1000:=fun y hy=>by
    have:=(hrs y hy).2;omega
   have cj:zA5 (fC (.str (Str.ofString "\n"))) (zN (zU zAO (zD (toD (zC 1)) (zD (toD (zC 5)) zM))) zc) [some (.ref 0),some (.ref 2),some (.int (t:Nat)),some (mD zA),some (.tup (NN.map nS)),some (.ref A2.length),y6,y7,some (nS (jnL [10] ((WW zA NN).map (jnL [32]))))] A = some (.dat (nS (jnL [10] rs)),B):=zJ (zF0 nlC (zAL.mpr (zH (zA8 (zA3 (d:=.ref 2) rfl (z0 (d:=.ref A2.length) rfl)) eB) (zAd.mpr ⟨_,rs,rfl,zAQ eq,hB1,by omega,by simp,rfl,rfl⟩))));have cr:zU zn (zD (toD (zA5 (fC (.str (Str.ofString "\n"))) (zN (zU zAO (zD (toD (zC 1)) (zD (toD (zC 5)) zM))) zc))) zM) [some (.ref 0),some (.ref 2),some (.int (t:Nat)),some (mD zA),some (.tup (NN.map nS)),some (.ref A2.length),y6,y7,some (nS (jnL [10] ((WW zA NN).map (jnL [32]))))] A = some (.dat (.tup [mD zA,.tup (NN.map nS)]),B):=zJ (zA6.mpr (zH (zMq cj) (zH hr2 ⟨rfl,rfl⟩)));have c3:=zJ (zA6.mpr (ze.mpr (zi.mpr (zH cr (zF.mpr (zH (z0 (f:=zC0 (zD (toD (zC 3)) (zD (toD (zC 4)) zM))) (d:=.tup [mD zA,.tup (NN.map nS)]) (zEs (zA3 (d:=mD zA) rfl (z0 (d:=.tup (NN.map nS)) rfl)) (by simp))) (zH hsame (P:=fun d M'=>EV.dat d = .dat (.bl true) /\ M' = B) ⟨rfl,rfl⟩)))))));refine zH (zDd c3) ?_;rw [zQX (by decide),zAi];exact ⟨⟨_,_,_,_,_,_,_,rfl⟩,nwB.gen⟩
 ·rintro σ A ⟨⟨y2,y3,y4,y5,y6,y7,y8,rfl⟩,nw⟩;rw [zQ];exact zAk (d:=.bl true) rfl rfl
end
end Lab
set_option maxHeartbeats 4000000
namespace Lab
open PySem PySem.Spec PyProof.Rows L2 L3 Law
-- the text by places
def top (i:Nat):Stmt:=PySem.Challenge.pw_bringhome_k07_machines_written.main.body.getD i (.Pass ⟨0,0,0,0⟩)
abbrev zDa:Stmt:=top 7
abbrev zCu:Stmt:=top 8
abbrev zDZ:Stmt:=top 9
abbrev zCJ:Stmt:=top 10
abbrev zCF:Stmt:=top 11
abbrev zCq:Stmt:=top 12
abbrev zBt:Stmt:=top 13
abbrev zBO:Stmt:=top 14
abbrev zBK:Stmt:=top 15
abbrev zB3:Stmt:=top 17
abbrev zCj:Stmt:=top 18
abbrev zCk:Stmt:=top 19
abbrev zBa:Stmt:=top 20
abbrev zCI:Stmt:=top 21
abbrev zBo:Stmt:=top 22
abbrev zB2:Stmt:=top 23
abbrev zKB:Stmt:=top 24
structure Txt (K:PySem.W.Frag) (mg:Str -> Option Value) where
  d_is_name:Df K mg "is_name" zDa ["thing"]
  d_words_in:Df K mg "words_in" zCu ["row"]
  d_rows_in:Df K mg "rows_in" zDZ ["text"]
  d_rows_many:Df K mg "rows_many" zCJ ["text"]
  d_row_fault:Df K mg "row_fault" zCF ["words", "due", "ahead"]
  d_numbered:Df K mg "numbered" zCq ["rows"]
  d_machine_of:Df K mg "machine_of" zBt ["rows", "rooms"]
  d_read_machine:Df K mg "read_machine" zBO ["text"]
  d_machine_text:Df K mg "machine_text" zBK ["machine", "names"]
  d_law_begin:Df K mg "_law_begin" zB3 ["_law_script"]
  d_law_next:Df K mg "_law_next" zCj ["_law_state", "_law_many"]
  d_law_goal:Df K mg "_law_goal" zCk ["_law_state", "_law_family", "_law_rooms", "_law_room", "_law_letter"]
  d_law_machine:Df K mg "_law_machine" zBa ["_law_state", "_law_most", "_law_letters_most"]
  d_law_names:Df K mg "_law_names" zCI ["_law_state", "_law_many"]
  d_law_same:Df K mg "_law_same" zBo ["_law_found", "_law_due"]
  d_law_loose:Df K mg "_law_loose" zB2 ["_law_state", "_law_rows"]
  d_law:Df K mg "law" zKB ["_law_script"]
  z_all:mg "all" = none
  z_isinstance:mg "isinstance" = none
  z_str:mg "str" = none
  z_len:mg "len" = none
  z_enumerate:mg "enumerate" = none
  z_tuple:mg "tuple" = none
  z_zip:mg "zip" = none
  z_abs:mg "abs" = none
  z_int:mg "int" = none
  z_range:mg "range" = none
  z_bool:mg "bool" = none
  t_LONGEST_NAME:Tok
  g_LONGEST_NAME:mg "LONGEST_NAME" = some (.int 8 t_LONGEST_NAME)
  t_MOST_LETTERS:Tok
  g_MOST_LETTERS:mg "MOST_LETTERS" = some (.int 6 t_MOST_LETTERS)
  t_MOST_ROOMS:Tok
  g_MOST_ROOMS:mg "MOST_ROOMS" = some (.int 26 t_MOST_ROOMS)
  kinds:Kinds K
section
variable {P:Program} {w:World} {K:PySem.W.Frag} {mg:Str -> Option Value} {base:Heap}
theorem zDY {X:Cx} {scope sc:Scope} {own:List Nat} {N ps:List Str} (_:FnScope N ps sc) (hk:scope.kind = .function) (hs:X.env.scope = sc) (hN:X.N = N) (h1:zCw sc scope = true) (h2:zD6 N scope own = true):CompIn X scope own:=zDT hk hs hN h1 h2
theorem zJJ {X:Cx} {scope sc sd:Scope} {own:List Nat} {N ps:List Str} (_:FnScope N ps sd) (hk:scope.kind = .function) (hs:X.env.scope = sc) (hN:X.N = N) (h1:zCw sc scope = true) (h2:zD6 N scope own = true):CompIn X scope own:=zDT hk hs hN h1 h2
set_option hygiene false in
local macro_rules | `(tactic| decreasing_trivial)=> `(tactic| repeat' first
  | refine zAN (pv _)
  | refine zBy ?_
  | refine zDJ ?_ ?_ (zE rfl)
  | refine zOm
  | refine zDb ?_
  | refine zHc
  | refine zCO ?_ ?_
  | refine zCm ?_
  | refine zGH
  | refine zOl (by first | exact zGU T | exact zGv T | exact zDt T | exact zHJ T | exact zHs T | exact zF8 T | exact zHF T | exact zHT T | exact zG5 T | exact zEz T | exact zFt T | exact zEP T | exact zF4 T | exact zDu T | exact zFW T) (hr.mono (by omega)) rfl ?_ ?_ (by decide) (zE rfl) (zAD rfl)
  | refine zFi
  | refine zDz ?_ ?_ (zE rfl)
  | refine zEC ?_
  | refine zJ4 sc.nd rfl
  | refine zP0 ?_ ?_
  | refine zPd
  | refine zJL ?_ ?_ ?_
  | refine zDc
  | refine zMz ?_ ?_
  | refine zNN ?_
  | refine zEl ?_ ?_
  | refine zKr
  | refine zOg ?_
  | refine zPE ?_ ?_
  | refine zKF ?_
  | refine zF2 (zFJ (by decide)) (zDY sc rfl rfl rfl (by decide +kernel) (by decide +kernel)) rfl ?_ ⟨fun _ _ _ _ _=>?_,fun _ _ _ _ _=>?_,fun _ _ _ _ _=>?_⟩
  | refine zKd rfl T.z_len ?_ (zE rfl) rfl
  | refine zMw zKs PassesOwn.never rfl ?_ ?_ ?_
  | refine zNu ?_
  | refine zNz ?_ ?_
  | refine zIQ
  | refine zKv rfl ?_
  | refine zND ?_ ?_
  | refine zPB hr.units0 ?_ ?_
  | refine zO2 ?_ ?_
  | refine zIo rfl T.z_range ?_ ?_ (zC5 rfl)
  | refine zLC ?_ ?_
  | refine zLU rfl T.z_tuple ?_ (zE rfl) rfl
  | refine zPi ?_ ?_
  | refine zPa ?_
  | refine zPf
  | refine zMY ?_ ?_
  | refine zLO ?_
  | refine zMR
  | refine zLT ?_ ?_ ?_
  | refine zPT ?_ ?_
  | refine zOH ?_ ?_
  | refine zLH ?_
  | refine zMp rfl rfl T.z_all ?_ (zE rfl) rfl
  | refine zNl ?_
  | refine zMJ
  | refine zN6 ?_ ?_
  | refine zMn hr.units0 ?_ ?_
  | refine zKc (zCp fun _ _ _ _=>zAe) (zCp fun _ _ _ _=>zAe) zMk zMk ?_ ?_ ?_
  | refine zMw (zK3 (K:=K)) PassesOwn.never rfl ?_ ?_ ?_
  | refine zF2 (zFJ (by decide)) (zJJ sc rfl rfl rfl (by rfl) (by decide +kernel)) rfl ?_ ⟨fun _ _ _ _ _=>?_,fun _ _ _ _ _=>?_,fun _ _ _ _ _=>?_⟩
  | refine zF2 (zDQ (K:=K) (by decide) (by decide)) (zDY sc rfl rfl rfl (by decide +kernel) (by decide +kernel)) rfl ?_ ⟨fun _ _ _ _ _=>?_,fun _ _ _ _ _=>?_,fun _ _ _ _ _=>?_⟩
  | refine zJK sc.nd rfl (by first | exact Or.inl rfl | exact Or.inr rfl) (by first | exact .inl rfl | exact .inr rfl) rfl (zDQ (K:=K) (by decide) (by decide)) (zDY sc rfl rfl rfl (by decide +kernel) (by decide +kernel)) rfl ?_ ⟨fun _ _ _ _ _=>?_,fun _ _ _ _ _=>?_,fun _ _ _ _ _=>?_⟩
  | refine zPK ?_ ?_
  | refine zO0 rfl T.z_abs ?_ (zE rfl) rfl
  | refine zOq ?_ ?_
  | refine zMX ?_
  | refine zKM ?_ ?_ ?_
  | refine zMb ?_
  | refine zNo rfl T.z_len ?_ (zE rfl) rfl
  | refine zKZ
  | refine zOv ?_ ?_
  | refine zC2 T.kinds (by decide) rfl T.z_isinstance rfl T.z_str (by rfl) (by decide) (by decide) ?_ (zE rfl) (zE rfl) (zAD rfl)
  | refine zNY rfl T.z_len ?_ (zE rfl) rfl
  | refine zGB rfl T.g_LONGEST_NAME
  | refine zM3 ?_
  | refine zLf zIV zIV zKl zKl ?_ ?_ ?_
  | refine zLL ?_
  | refine zPY (zIR hr) ?_ ?_
  | refine zON (zIR hr) ?_ ?_
  | refine zLK rfl T.z_zip ?_ (zGF rfl rfl) (zC5 rfl)
  | refine zO1 ?_ ?_
  | refine zL6 _ PassesOwn.never ?_ ?_
  | refine zL0 rfl T.z_enumerate ?_ (zE rfl) rfl
  | refine zGB rfl T.g_MOST_LETTERS
  | refine zNk (zIR hr) ?_ ?_
  | refine zGB rfl T.g_MOST_ROOMS
  | refine zLm hr.units0 ?_ ?_
  | refine zNg rfl T.z_int ?_ (zE rfl) rfl
  | refine zOc ?_ ?_
  | refine zO5 ?_ ?_
  | refine zLP
  | refine zMQ ?_ ?_
  | refine zOB (zIR hr) ?_ ?_ ?_
  | refine zNZ rfl rfl T.z_tuple ?_ (zE rfl) rfl
  | refine zPw sc.nd rfl ?_
  | refine zOP (zMl ?_ ?_)
  | refine zOP (zOA ?_ ?_)
  | refine zEA ?_)
abbrev zIy:List Str:=["thing", "sign"]
theorem zHV:FnScope zIy ["thing"] (zO zDa):=⟨rfl,rfl,rfl,by decide +kernel,rfl,by decide +kernel,by decide +kernel⟩
theorem zHs (T:Txt K mg):Od P w base 1 T.d_is_name zAq:=by
  unfold zAq;have sc:=zHV;exact zAJ (n:=1) T.d_is_name.F sc rfl (fun cdv A outer s H E hr=>by
    unfold zDU;decreasing_trivial)
abbrev zHr:List Str:=["row", "word"]
theorem zGO:FnScope zHr ["row"] (zO zCu):=⟨rfl,rfl,rfl,by decide +kernel,rfl,by decide +kernel,by decide +kernel⟩
theorem zHJ (T:Txt K mg):Od P w base 1 T.d_words_in zBJ:=by
  unfold zBJ;have sc:=zGO;exact zAJ (n:=1) T.d_words_in.F sc rfl (fun cdv A outer s H E hr=>by
    unfold zCf;decreasing_trivial)
abbrev zGd:List Str:=["text"]
theorem zFa:FnScope zGd ["text"] (zO zCJ):=⟨rfl,rfl,rfl,by decide +kernel,rfl,by decide +kernel,by decide +kernel⟩
theorem zL9 (T:Txt K mg):Od P w base 1 T.d_rows_many zDi:=by
  unfold zDi;have sc:=zFa;exact zAJ (n:=1) T.d_rows_many.F sc rfl (fun cdv A outer s H E hr=>by
    unfold zDm;decreasing_trivial)
abbrev zFb:List Str:=["rows", "rooms", "at", "words", "word"]
theorem zE1:FnScope zFb ["rows", "rooms"] (zO zBt):=⟨rfl,rfl,rfl,by decide +kernel,rfl,by decide +kernel,by decide +kernel⟩
theorem zEz (T:Txt K mg):Od P w base 1 T.d_machine_of zAf:=by
  unfold zAf;have sc:=zE1;exact zAJ (n:=2) T.d_machine_of.F sc rfl (fun cdv A outer s H E hr=>by
    unfold zBr;decreasing_trivial)
abbrev zEd:List Str:=["machine", "names", "rows", "name", "goal", "row"]
theorem zDx:FnScope zEd ["machine", "names"] (zO zBK):=⟨rfl,rfl,rfl,by decide +kernel,rfl,by decide +kernel,by decide +kernel⟩
theorem zDu (T:Txt K mg):Od P w base 1 T.d_machine_text zAl:=by
  unfold zAl;have sc:=zDx;exact zD0 (zAJ (n:=2) T.d_machine_text.F sc rfl (fun cdv A outer s H E hr=>by
    unfold zBG;decreasing_trivial))
abbrev zG3:List Str:=["_law_script", "_law_seed", "_law_cell"]
theorem zFz:FnScope zG3 ["_law_script"] (zO zB3):=⟨rfl,rfl,rfl,by decide +kernel,rfl,by decide +kernel,by decide +kernel⟩
theorem zFt (T:Txt K mg):Od P w base 1 T.d_law_begin zAu:=by
  unfold zAu;have sc:=zFz;exact zAJ (n:=1) T.d_law_begin.F sc rfl (fun cdv A outer s H E hr=>by
    unfold zCC;decreasing_trivial)
abbrev zHa:List Str:=["_law_state", "_law_many", "_law_digit"]
theorem zG8:FnScope zHa ["_law_state", "_law_many"] (zO zCj):=⟨rfl,rfl,rfl,by decide +kernel,rfl,by decide +kernel,by decide +kernel⟩
theorem zGU (T:Txt K mg):Od P w base 1 T.d_law_next zK:=by
  unfold zK;have sc:=zG8;exact zAJ (n:=2) T.d_law_next.F sc rfl (fun cdv A outer s H E hr=>by
    unfold zCh;decreasing_trivial)
abbrev zIt:List Str:=["text", "rows", "at", "row", "words"]
theorem zHS:FnScope zIt ["text"] (zO zDZ):=⟨rfl,rfl,rfl,by decide +kernel,rfl,by decide +kernel,by decide +kernel⟩
theorem zHT (T:Txt K mg):Od P w base 2 T.d_rows_in zBf:=by
  unfold zBf;have sc:=zHS;exact zAJ (n:=1) T.d_rows_in.F sc rfl (fun cdv A outer s H E hr=>by
    unfold zDX;decreasing_trivial)
abbrev zGK:List Str:=["words", "due", "ahead", "word"]
theorem zFo:FnScope zGK ["words", "due", "ahead"] (zO zCF):=⟨rfl,rfl,rfl,by decide +kernel,rfl,by decide +kernel,by decide +kernel⟩
theorem zF8 (T:Txt K mg):Od P w base 2 T.d_row_fault zAw:=by
  unfold zAw;have sc:=zFo;exact zAJ (n:=3) T.d_row_fault.F sc rfl (fun cdv A outer s H E hr=>by
    unfold zB9;decreasing_trivial)
abbrev zH6:List Str:=["_law_state", "_law_family", "_law_rooms", "_law_room", "_law_letter", "_law_half"]
theorem zGn:FnScope zH6 ["_law_state", "_law_family", "_law_rooms", "_law_room", "_law_letter"] (zO zCk):=⟨rfl,rfl,rfl,by decide +kernel,rfl,by decide +kernel,by decide +kernel⟩
theorem zHF (T:Txt K mg):Od P w base 2 T.d_law_goal zBB:=by
  unfold zBB;have sc:=zGn;exact zAJ (n:=5) T.d_law_goal.F sc rfl (fun cdv A outer s H E hr=>by
    unfold zCi;decreasing_trivial)
abbrev zGo:List Str:=["_law_state", "_law_many", "_law_letters", "_law_base", "_law_size", "_law_at", "_law_first", "_law_found", "_law_k", "_law_sign"]
theorem zFw:FnScope zGo ["_law_state", "_law_many"] (zO zCI):=⟨rfl,rfl,rfl,by decide +kernel,rfl,by decide +kernel,by decide +kernel⟩
theorem zF4 (T:Txt K mg):Od P w base 2 T.d_law_names zAt:=by
  unfold zAt;have sc:=zFw;exact zD0 (zAJ (n:=2) T.d_law_names.F sc rfl (fun cdv A outer s H E hr=>by
    unfold zB8;decreasing_trivial))
abbrev zHB:List Str:=["_law_state", "_law_rows", "_law_found", "_law_row", "_law_k", "_law_gap"]
theorem zFf:FnScope zHB ["_law_state", "_law_rows"] (zO zB2):=⟨rfl,rfl,rfl,by decide +kernel,rfl,by decide +kernel,by decide +kernel⟩
theorem zFW (T:Txt K mg):Od P w base 2 T.d_law_loose zAO:=by
  unfold zAO;have sc:=zFf;exact zAJ (n:=2) T.d_law_loose.F sc rfl (fun cdv A outer s H E hr=>by
    unfold zCA;decreasing_trivial)
abbrev zHd:List Str:=["rows", "rooms", "at", "words", "fault"]
theorem zGa:FnScope zHd ["rows"] (zO zCq):=⟨rfl,rfl,rfl,by decide +kernel,rfl,by decide +kernel,by decide +kernel⟩
theorem zG5 (T:Txt K mg):Od P w base 3 T.d_numbered zBL:=by
  unfold zBL;have sc:=zGa;exact zAJ (n:=1) T.d_numbered.F sc rfl (fun cdv A outer s H E hr=>by
    unfold zCt;decreasing_trivial)
abbrev zEw:List Str:=["_law_state", "_law_most", "_law_letters_most", "_law_rooms", "_law_letters", "_law_family", "_law_rows", "_law_room", "_law_letter"]
theorem zEf:FnScope zEw ["_law_state", "_law_most", "_law_letters_most"] (zO zBa):=⟨rfl,rfl,rfl,by decide +kernel,rfl,by decide +kernel,by decide +kernel⟩
theorem zEP (T:Txt K mg):Od P w base 3 T.d_law_machine zAX:=by
  unfold zAX;have sc:=zEf;exact zD0 (zAJ (n:=3) T.d_law_machine.F sc rfl (fun cdv A outer s H E hr=>by
    unfold zBc;decreasing_trivial))
abbrev zEW:List Str:=["text", "rows", "rooms"]
theorem zDw:FnScope zEW ["text"] (zO zBO):=⟨rfl,rfl,rfl,by decide +kernel,rfl,by decide +kernel,by decide +kernel⟩
theorem zDt (T:Txt K mg):Od P w base 4 T.d_read_machine zn:=by
  unfold zn;have sc:=zDw;exact zD0 (zAJ (n:=1) T.d_read_machine.F sc rfl (fun cdv A outer s H E hr=>by
    unfold zBE;decreasing_trivial))
abbrev zEq:List Str:=["_law_found", "_law_due", "_law_one", "_law_other"]
theorem zCG:FnScope zEq ["_law_found", "_law_due"] (zO zBo):=⟨rfl,rfl,rfl,by decide +kernel,rfl,by decide +kernel,by decide +kernel⟩
theorem zDG (T:Txt K mg):∀ n:Nat,FnOk P w K mg base CX0 (n + 0) T.d_law_same.f T.d_law_same.fd ["_law_found", "_law_due"] (spF K 2 (zu n))
  | 0=>zLS
  | n + 1=>by
    have hrec:=zDG T n;unfold zu;rw [show n + 1 + 0 = (n + 0) + 1 by omega];exact zAJ (n:=2) T.d_law_same.F zCG rfl (fun cdv A outer s H E hr=>by
      unfold zBq;exact (zCO (zJL (zEA (zC2 T.kinds (by decide) rfl T.z_isinstance rfl T.z_tuple (by rfl) (by decide) (by decide) (zAN (pv 1)) (zE rfl) (zE rfl) (zAD rfl))) (zCO (zJL (zOP (zMl (zKF (zEA (zC2 T.kinds (by decide) rfl T.z_isinstance rfl T.z_tuple (by rfl) (by decide) (by decide) (zAN (pv 0)) (zE rfl) (zE rfl) (zAD rfl)))) (zLH (zMn hr.units0 (zKd rfl T.z_len (zDz (zAN (pv 0)) zFi (zE rfl)) (zE rfl) rfl) (zKd rfl T.z_len (zDz (zAN (pv 1)) zFi (zE rfl)) (zE rfl) rfl))))) (zCm (zEC zPf)) zDc)
    (zCm (zEC (zMp rfl rfl T.z_all (zDz (zF2 (zDQ (i:=2) (j:=3) (by decide) (by decide)) (zDT (sc:=zO zBo) (N:=zEq) rfl rfl rfl (by decide +kernel) (by decide +kernel)) rfl (zLK rfl T.z_zip (zDJ (zBy (zAN (pv 0))) (zDJ (zBy (zAN (pv 1))) zHc (zE rfl)) (zE rfl)) (zGF rfl rfl) (zC5 rfl)) ⟨fun _ _ _ _ _=>(zKv rfl (zEl (zJ4 (i:=2) zCG.nd rfl) (zEl (zJ4 (i:=3) zCG.nd rfl) zIQ))),fun _ _ _ _ _=>zKr,fun _ _ _ _ _=>(zOl hrec (hr.mono (by omega)) rfl (zDJ (zBy (zAN (pv 2))) (zDJ (zBy (zAN (pv 3))) zHc (zE rfl)) (zE rfl)) (zDb (zDb zGH)) (by decide) (zE rfl) (zAD rfl))⟩) zFi (zE rfl)) (zE rfl) rfl)))) zDc)
    (zCO (zJL (zPV (zAN (pv 1)) zKZ) (zCm (zEC (zP8 (zAN (pv 0)) zKZ))) zDc)
    (zCO (zJL (zEA (zC2 T.kinds (by decide) rfl T.z_isinstance rfl T.z_bool (by rfl) (by decide) (by decide) (zAN (pv 1)) (zE rfl) (zE rfl) (zAD rfl))) (zCm (zEC (zGA (zC2 T.kinds (by decide) rfl T.z_isinstance rfl T.z_bool (by rfl) (by decide) (by decide) (zAN (pv 0)) (zE rfl) (zE rfl) (zAD rfl)) (zHb (zLm hr.units0 (zAN (pv 0)) (zAN (pv 1))))))) zDc)
    (zCO (zJL (zEA (zC2 T.kinds (by decide) rfl T.z_isinstance rfl T.z_str (by rfl) (by decide) (by decide) (zAN (pv 1)) (zE rfl) (zE rfl) (zAD rfl))) (zCm (zEC (zGA (zC2 T.kinds (by decide) rfl T.z_isinstance rfl T.z_str (by rfl) (by decide) (by decide) (zAN (pv 0)) (zE rfl) (zE rfl) (zAD rfl)) (zHb (zLm hr.units0 (zAN (pv 0)) (zAN (pv 1))))))) zDc)
    (zCm (zEC (zGA (zC2 T.kinds (by decide) rfl T.z_isinstance rfl T.z_int (by rfl) (by decide) (by decide) (zAN (pv 0)) (zE rfl) (zE rfl) (zAD rfl)) (zGA (zOW (zC2 T.kinds (by decide) rfl T.z_isinstance rfl T.z_bool (by rfl) (by decide) (by decide) (zAN (pv 0)) (zE rfl) (zE rfl) (zAD rfl))) (zHb (zLm hr.units0 (zAN (pv 0)) (zAN (pv 1)))))))))))))
theorem zGv (T:Txt K mg):Od P w base 5 T.d_law_same zAK:=zDG T 5
abbrev zOd:List Str:=["_law_script", "_law_state", "_law_turn", "_law_machine_here", "_law_names_here", "_law_rows", "_law_room", "_law_goal_here", "_law_text"]
theorem zNI:FnScope zOd ["_law_script"] (zO zKB):=⟨rfl,rfl,rfl,by decide +kernel,rfl,by decide +kernel,by decide +kernel⟩
theorem zNH (T:Txt K mg):Od P w base 6 T.d_law zDl:=by
  unfold zDl;have sc:=zNI;exact zAJ (n:=1) T.d_law.F sc rfl (fun cdv A outer s H E hr=>by
    unfold zLI;decreasing_trivial)
end
theorem all_mk {l:PySem.W.OpenLaw} {w:World} {K:PySem.W.Frag} {h:Heap} {mg:Str -> Option Value} {fa:Addr} (X:K.In h) (G:h.Ns mainGlobals mg) (hfa:mg "law" = some (.ref fa))
    {tt1:Tok} {tt2:Tok} {tt3:Tok}(g1:Dg K "is_name" zDa) (g2:Dg K "words_in" zCu) (g3:Dg K "rows_in" zDZ) (g4:Dg K "rows_many" zCJ) (g5:Dg K "row_fault" zCF) (g6:Dg K "numbered" zCq) (g7:Dg K "machine_of" zBt) (g8:Dg K "read_machine" zBO) (g9:Dg K "machine_text" zBK) (g10:Dg K "_law_begin" zB3) (g11:Dg K "_law_next" zCj) (g12:Dg K "_law_goal" zCk) (g13:Dg K "_law_machine" zBa) (g14:Dg K "_law_names" zCI) (g15:Dg K "_law_same" zBo) (g16:Dg K "_law_loose" zB2) (g17:Dg K "law" zKB) (z1:Zn K "all") (z2:Zn K "isinstance") (z3:Zn K "str") (z4:Zn K "len") (z5:Zn K "enumerate") (z6:Zn K "tuple") (z7:Zn K "zip") (z8:Zn K "abs") (z9:Zn K "int") (z10:Zn K "range") (z11:Zn K "bool") (w1:PySem.W.nsIn K mainGlobals "LONGEST_NAME" = some (some (.int 8 tt1))) (w2:PySem.W.nsIn K mainGlobals "MOST_LETTERS" = some (some (.int 6 tt2))) (w3:PySem.W.nsIn K mainGlobals "MOST_ROOMS" = some (some (.int 26 tt3))) (y1:Ki K "NoneType" "int" false) (y2:Ki K "NoneType" "bool" false) (y3:Ki K "NoneType" "str" false) (y4:Ki K "NoneType" "tuple" false) (y5:Ki K "bool" "int" true) (y6:Ki K "bool" "bool" true) (y7:Ki K "bool" "str" false) (y8:Ki K "bool" "tuple" false) (y9:Ki K "int" "int" true) (y10:Ki K "int" "bool" false) (y11:Ki K "int" "str" false) (y12:Ki K "int" "tuple" false) (y13:Ki K "str" "int" false) (y14:Ki K "str" "bool" false) (y15:Ki K "str" "str" true) (y16:Ki K "str" "tuple" false) (y17:Ki K "list" "int" false) (y18:Ki K "list" "bool" false) (y19:Ki K "list" "str" false) (y20:Ki K "list" "tuple" false) (y21:Ki K "tuple" "int" false) (y22:Ki K "tuple" "bool" false) (y23:Ki K "tuple" "str" false) (y24:Ki K "tuple" "tuple" true) (y25:Ki K "dict" "int" false) (y26:Ki K "dict" "bool" false) (y27:Ki K "dict" "str" false) (y28:Ki K "dict" "tuple" false) :
    ∃ fd:FuncData,(∀ (s:Shared) (v:Value),BindsTo s fd ⟨[v],[]⟩ [("_law_script", v)]) /\ ∀ base:Heap,K.In base -> base.Ns mainGlobals mg -> FnOk l.prog w K mg base CX0 6 fa fd ["_law_script"] (spF K 1 zDl):=by
  have e:=hfa.symm.trans (PySem.W.mg_of X G g17.a);cases e;have kinds:Kinds K:=⟨by
    intro t T ht hT;simp only [zQR,zQk,or_false] at ht hT;rcases ht with rfl | rfl | rfl | rfl | rfl | rfl | rfl <;> rcases hT with rfl | rfl | rfl | rfl <;> assumption⟩
  let T:Txt K mg:=⟨g1.df X G fun _ _ _ _ _ _=>zGL fun _=>rfl,g2.df X G fun _ _ _ _ _ _=>zGL fun _=>rfl,g3.df X G fun _ _ _ _ _ _=>zGL fun _=>rfl,g4.df X G fun _ _ _ _ _ _=>zGL fun _=>rfl,g5.df X G fun _ _ _ _ _ _=>zPM fun _ _ _=>rfl,g6.df X G fun _ _ _ _ _ _=>zGL fun _=>rfl,g7.df X G fun _ _ _ _ _ _=>zJT fun _ _=>rfl,g8.df X G fun _ _ _ _ _ _=>zGL fun _=>rfl,g9.df X G fun _ _ _ _ _ _=>zJT fun _ _=>rfl,g10.df X G fun _ _ _ _ _ _=>zGL fun _=>rfl,g11.df X G fun _ _ _ _ _ _=>zJT fun _ _=>rfl,g12.df X G fun _ _ _ _ _ _=>zPm fun _ _ _ _ _=>rfl,g13.df X G fun _ _ _ _ _ _=>zPM fun _ _ _=>rfl,g14.df X G fun _ _ _ _ _ _=>zJT fun _ _=>rfl,g15.df X G fun _ _ _ _ _ _=>zJT fun _ _=>rfl,g16.df X G fun _ _ _ _ _ _=>zJT fun _ _=>rfl,g17.df X G fun _ _ _ _ _ _=>zGL fun _=>rfl,zRE X G z1,zRE X G z2,zRE X G z3,zRE X G z4,zRE X G z5,zRE X G z6,zRE X G z7,zRE X G z8,zRE X G z9,zRE X G z10,zRE X G z11,_,PySem.W.mg_of X G w1,_,PySem.W.mg_of X G w2,_,PySem.W.mg_of X G w3,kinds⟩;refine ⟨T.d_law.fd,fun s v=> .of_eq rfl,fun base _ _=>?_⟩;exact zNH (P:=l.prog) (w:=w) (base:=base) T
theorem walk {l:PySem.W.OpenLaw} {q:Program} {loose:List Str} {XP:(Str -> Option Value) -> Heap -> Prop} {YP:World -> Heap -> Prop} {d:DefRec} {K:Params -> PySem.W.Frag} (hn:l.most = some 63) (hdf:d.params.defaults = [])
    (hY:∀ (w:World) (h:Heap),YP w h -> (K w.params).In h) (hL:∀ w:World,zFc (K w.params) = true) (hT:∀ w:World,zKk (K w.params) = true)
    (F:∀ (w:World) (mg:Str -> Option Value) (fa:Addr) (h:Heap),(K w.params).In h -> h.Ns mainGlobals mg -> mg d.name = some (.ref fa) ->
      ∃ fd:FuncData,(∀ (s:Shared) (u:Value),BindsTo s fd ⟨[u],[]⟩ [("_law_script", u)]) /\ ∀ base:Heap,(K w.params).In base -> base.Ns mainGlobals mg -> FnOk l.prog w (K w.params) mg base CX0 6 fa fd ["_law_script"] (spF (K w.params) 1 zDl)) :
    PySem.W.WalkO q loose XP YP l.row.toRowW d [] (fun f vs=>PySem.call f vs) :=
  L2.zLv (n:=63) (k:=6) (x := "_law_script") (CX:=fun _=>CX0) (sp:=fun w=>spF (K w.params) 1 zDl) hn (by decide) hdf ⟨rfl,by decide,by decide⟩ hY F
    (fun w H a ns hl hO hS=>zIq (hL w) (zI2 (hT w)) (zLJ hO) hS (zKP ns hl)) fun _ _ _ _ _ z=>z
end Lab
open PySem PySem.W PyProof.Rows
set_option maxRecDepth 100000 in
set_option maxHeartbeats 0 in
theorem PySem.Challenge.cw_bringhome_k07_machines_written_holds : PySem.Challenge.rw_bringhome_k07_machines_written.Holds := by
  w_on; o_law; k_head; (case hw=>w_witness2);k_fill;refine Lab.walk (l:=PySem.Challenge.rw_bringhome_k07_machines_written) rfl rfl (fun w h Y=>PySem.W.kIn_of Y) (fun w=>by rfl) (fun w=>by rfl) ?F
  case F=>
    intro w mg fa h KX G hmg;refine' Lab.all_mk KX G hmg ?_ ?_ ?_ ?_ ?_ ?_ ?_ ?_ ?_ ?_ ?_ ?_ ?_ ?_ ?_ ?_ ?_ ?_ ?_ ?_ ?_ ?_ ?_ ?_ ?_ ?_ ?_ ?_ ?_ ?_ ?_ ?_ ?_ ?_ ?_ ?_ ?_ ?_ ?_ ?_ ?_ ?_ ?_ ?_ ?_ ?_ ?_ ?_ ?_ ?_ ?_ ?_ ?_ ?_ ?_ ?_ ?_ ?_ ?_;all_goals try (first | exact ⟨_,by k_is,by k_is,by k_is,by k_is⟩ | (unfold L3.Zn; k_is) | (unfold L3.Ki; kit_is) | k_is)
