import PyProof.Rows.All
import Wide.All
import OpenK.AllK
import Wide.FinOn
import Lean
import PyProof.EqAt
import PyProof.EqKinds
import PyProof.TupleCall
import PyProof.NeKinds
import PyProof.ZipIter
import PyProof.ListRange
import PyProof.TupleOfSeq
import PyProof.ConsumeWalk
import PyProof.IsRules
import PyProof.SetKind
import PyProof.SetRoads
import PyProof.Rows.SetFrom
import PyProof.Draws
import PyProof.EnumMake
import PyProof.DictCompW
import PyProof.ListMulRoad
import PyProof.Rows.SeqMore2
import PyProof.WalkInts
import PyProof.DictRoadsH
import PyProof.DictItems
import KE.KDictList
import KE.KDictOf
import PyProof.AttrMissHeap
import PySem.Challenge.RW_bringhome_k82_whole_stable_by_pairs
namespace PySem.W.Fast
def tw17385184972894538285:=0
def tw11163364494872246794:=0
def tw13652450746920750023:=0
def tw8582200448974964648:=0
def tw14882294471287946510:=0
def tw11683170391743410316:=0
def tw15575307542705805063:=0
def tw14935337067748804588:=0
def tw17670716811715922269:=0
def tw9317682717599451514:=0
def tw15751489802551569227:=0
def tw10993037889590184989:=0
def tw12636629830589053733:=0
def tw15951758108860205874:=0
def tw5921412253257615836:=0
def tw6848348947237165048:=0
def tw16175498915294612584:=0
def tw13239697445353250820:=0
def tw8510306621559754902:=0
def tw10965720199030666826:=0
def tw4242594782903327409:=0
def tw12741997581248494725:=0
def tw15399405664938131991:=0
def tw2439539318083474192:=0
def tw3802641663646507884:=0
def tw7125122639678369606:=0
def tw6746258926621337606:=0
def tw85384050546706816:=0
def tw12432744918163186043:=0
def tw15120336353281358400:=0
def tw6442036934308201707:=0
def tw792133499677663088:=0
def tw4416427145778680378:=0
def tw7997740628251400052:=0
def tw17039556488400864061:=0
def tw4848880615367565259:=0
def tw4026889973130285712:=0
def tw6690611499195564664:=0
def tw12304792129308687549:=0
def tw9001741288885253273:=0
def tw7839410083938912153:=0
def tw12082179160321261422:=0
def tw11315871229284811869:=0
def tw15683754929925722142:=0
def tw8808594943571658369:=0
def tw14263386472217237827:=0
def tw10702517988488217423:=0
def tw6508506332391794880:=0
end PySem.W.Fast
section
open PySem PySem.Spec PyProof.Rows
theorem zV8:type_of% @wpAny_bind:=@wpAny_bind
theorem zV9:type_of% @Heap.get?_push_of_some:=@Heap.get?_push_of_some
theorem zWA:type_of% @wpAny_pure:=@wpAny_pure
theorem zWB:type_of% @List.getElem?_eq_some_iff:=@List.getElem?_eq_some_iff
theorem zWC:type_of% @List.getElem?_eq_getElem:=@List.getElem?_eq_getElem
theorem zWD:type_of% @List.getD_eq_getElem?_getD:=@List.getD_eq_getElem?_getD
theorem zWE:type_of% @Nat.le_refl:=@Nat.le_refl
theorem zWF:type_of% @List.getElem?_append_left:=@List.getElem?_append_left
theorem zWG:type_of% @List.size_toArray:=@List.size_toArray
theorem zWH:type_of% @List.length_map:=@List.length_map
theorem zWI:type_of% @Heap.get?_push_size:=@Heap.get?_push_size
theorem zWJ:type_of% @Heap.lt_size:=@Heap.lt_size
theorem zWK:type_of% @List.mem_cons:=@List.mem_cons
theorem zWL:type_of% @List.mem_cons_of_mem:=@List.mem_cons_of_mem
theorem zWM:type_of% @List.mem_cons_self:=@List.mem_cons_self
theorem zWN:type_of% @if_pos:=@if_pos
theorem zWO:type_of% @List.length_append:=@List.length_append
theorem zWP:type_of% @List.mem_map:=@List.mem_map
theorem zWQ:type_of% @if_neg:=@if_neg
theorem zWR:type_of% @List.map_cons:=@List.map_cons
theorem zWS:type_of% @List.mem_append_right:=@List.mem_append_right
theorem zWT:type_of% @Nat.ne_of_lt:=@Nat.ne_of_lt
theorem zWU:type_of% @Bool.false_ne_true:=@Bool.false_ne_true
theorem zWV:type_of% @List.getElem?_map:=@List.getElem?_map
theorem zWW:type_of% @List.map_map:=@List.map_map
theorem zWX:type_of% @Nat.lt_of_lt_of_le:=@Nat.lt_of_lt_of_le
theorem zWY:type_of% @List.mem_append:=@List.mem_append
theorem zWZ:type_of% @Nat.le_trans:=@Nat.le_trans
theorem zWb:type_of% @wpAny_newObj_type:=@wpAny_newObj_type
theorem zWc:type_of% @List.getElem?_set_ne:=@List.getElem?_set_ne
theorem zWd:type_of% @List.not_mem_nil:=@List.not_mem_nil
theorem zWe:type_of% @wpAny_mono:=@wpAny_mono
theorem zWf:type_of% @List.length_cons:=@List.length_cons
theorem zWg:type_of% @List.getElem_mem:=@List.getElem_mem
theorem zWh:type_of% @decide_eq_false:=@decide_eq_false
theorem zWi:type_of% @Bool.and_eq_true:=@Bool.and_eq_true
theorem zWj:type_of% @List.all_eq_true:=@List.all_eq_true
theorem zWk:type_of% @wpAny_callSpecial?_slot:=@wpAny_callSpecial?_slot
theorem zWl:type_of% @wpAny_call_entry:=@wpAny_call_entry
theorem zWm:type_of% @List.mem_range:=@List.mem_range
theorem zWn:type_of% @wpAny_field:=@wpAny_field
theorem zWo:type_of% @Heap.size_push:=@Heap.size_push
theorem zWp:type_of% @Heap.get?_update_other:=@Heap.get?_update_other
theorem zWq:type_of% @Nat.lt_irrefl:=@Nat.lt_irrefl
theorem zWr:type_of% @Array.length_toList:=@Array.length_toList
theorem zWs:type_of% @List.append_nil:=@List.append_nil
theorem zWt:type_of% @Array.getElem?_eq_getElem:=@Array.getElem?_eq_getElem
theorem zWu:type_of% @Nat.zero_le:=@Nat.zero_le
theorem zWv:type_of% @Heap.get?_update_self:=@Heap.get?_update_self
theorem zWx:type_of% @Nat.lt_succ_of_lt:=@Nat.lt_succ_of_lt
theorem zWy:type_of% @wpAny_seqItems:=@wpAny_seqItems
theorem zWz:type_of% @List.mem_of_getElem?:=@List.mem_of_getElem?
theorem zW0:type_of% @List.map_append:=@List.map_append
theorem zW1:type_of% @wpAny_holding:=@wpAny_holding
theorem zW2:type_of% @List.getElem?_set_self:=@List.getElem?_set_self
theorem zW4:type_of% @of_decide_eq_true:=@of_decide_eq_true
theorem zW5:type_of% @Nat.lt_succ_self:=@Nat.lt_succ_self
theorem zW6:type_of% @wpAny_standAt:=@wpAny_standAt
theorem zW7:type_of% @PySem.W.mg_none_of:=@PySem.W.mg_none_of
theorem zW8:type_of% @Option.some.inj:=@Option.some.inj
theorem zW9:type_of% @Bool.false_eq_true:=@Bool.false_eq_true
theorem zXA:type_of% @PySem.mem_of_lookup:=@PySem.mem_of_lookup
theorem zXB:type_of% @Heap.SameBut.update:=@Heap.SameBut.update
theorem zXC:type_of% @List.cons.inj:=@List.cons.inj
theorem zXE:type_of% @List.append_assoc:=@List.append_assoc
theorem zXG:type_of% @decide_eq_true:=@decide_eq_true
theorem zXH:type_of% @List.getElem?_eq_none:=@List.getElem?_eq_none
theorem zXI:type_of% @List.getElem?_append_right:=@List.getElem?_append_right
theorem zXJ:type_of% @List.mem_filter:=@List.mem_filter
theorem zXL:type_of% @decide_eq_true_eq:=@decide_eq_true_eq
theorem zXM:type_of% @List.nodup_append:=@List.nodup_append
theorem zXN:type_of% @List.mem_append_left:=@List.mem_append_left
theorem zXP:type_of% @Obj.data_mapFields:=@Obj.data_mapFields
theorem zXR:type_of% @List.replicate_succ:=@List.replicate_succ
theorem zXT:type_of% @or_false:=@or_false
theorem zXU:type_of% @Nat.lt_or_ge:=@Nat.lt_or_ge
theorem zXV:type_of% @wpAny_rule:=@wpAny_rule
theorem zXW:type_of% @List.length_take:=@List.length_take
theorem zXd:type_of% @Nat.ne_of_gt:=@Nat.ne_of_gt
theorem zXg:type_of% @PyProof.Rows.slot_tuple_getitem:=@PyProof.Rows.slot_tuple_getitem
theorem zXh:type_of% @List.getElem?_set:=@List.getElem?_set
theorem zXk:type_of% @Nat.mul_le_mul:=@Nat.mul_le_mul
theorem zXu:type_of% @List.find?_cons:=@List.find?_cons
theorem zX2:type_of% @wpAny_comprehension_free:=@wpAny_comprehension_free
theorem zX5:type_of% @List.length_range:=@List.length_range
theorem zX7:type_of% @List.flatten_cons:=@List.flatten_cons
theorem zYB:type_of% @List.getElem_of_mem:=@List.getElem_of_mem
theorem zYC:type_of% @List.getElem?_range:=@List.getElem?_range
theorem zYD:type_of% @List.lookup_cons:=@List.lookup_cons
theorem zYI:type_of% @List.pairwise_cons:=@List.pairwise_cons
theorem zYQ:type_of% @List.nil_append:=@List.nil_append
theorem zYS:type_of% @List.length_filter_le:=@List.length_filter_le
end
set_option Elab.async false
set_option linter.all false
set_option maxRecDepth 100000
set_option genSizeOf false
set_option genInjectivity false
noncomputable section
namespace L2
open PySem PySem.Spec PyProof.Rows
abbrev Key:=Sum Int Str
def zIK:Key->Value->Bool
 |.inl k,v=>Value.isInt k v
 |.inr x,v=>Value.isStrOf x v
def zVc (w:World):Key->Int
 |.inl k=>hashInt k
 |.inr x=>hashStr w x
theorem zAj:∀ {k:Key} {v:Value},zIK k v=true->(∃ i t,k=Sum.inl i/\v=Value.int i t)\/(∃ x t,k=Sum.inr x/\v=Value.str x t)
 |.inl i,v,h=>by
  obtain ⟨t,e⟩:=Value.isInt_shape (k:=i) (v:=v) h;exact .inl ⟨i,t,rfl,e⟩
 |.inr x,v,h=>by
  obtain ⟨t,e⟩:=Value.isStrOf_shape (x:=x) (v:=v) h;exact .inr ⟨x,t,rfl,e⟩
theorem zN9 (i:Int) (t:Tok):zIK (.inl i) (.int i t)=true:=by simp[zIK,Value.isInt]
theorem zNZ (x:Str) (t:Tok):zIK (.inr x) (.str x t)=true:=by simp[zIK,Value.isStrOf]
theorem zTp (a b:Int):decide ((Sum.inl a:Key)=Sum.inl b)=(a==b):=by
 by_cases e:a=b
 ·subst e;simp
 ·have h:¬ (Sum.inl a:Key)=Sum.inl b:=fun q=>e (Sum.inl.inj q);rw[zWh h];exact (beq_eq_false_iff_ne.mpr e).symm
theorem zTC (a b:Str):decide ((Sum.inr a:Key)=Sum.inr b)=decide (a=b):=by
 by_cases e:a=b
 ·subst e;simp
 ·have h:¬ (Sum.inr a:Key)=Sum.inr b:=fun q=>e (Sum.inr.inj q);rw[zWh h,zWh e]
theorem zS0 (a:Int) (b:Str):decide ((Sum.inl a:Key)=Sum.inr b)=false:=zWh (fun q=>nomatch q)
theorem zSg (a:Str) (b:Int):decide ((Sum.inr a:Key)=Sum.inl b)=false:=zWh (fun q=>nomatch q)
def zAW (prog:Program) (w:World):PySem.KeyKind prog w Key where
 is:=zIK
 hash:=zVc w
 inj:=fun v a b ha hb=>by
  rcases zAj ha with ⟨i,t,rfl,rfl⟩|⟨x,t,rfl,rfl⟩
  ·rcases zAj hb with ⟨j,u,rfl,e⟩|⟨y,u,rfl,e⟩
   ·injection e with e1 _;rw[e1]
   ·exact nomatch e
  ·rcases zAj hb with ⟨j,u,rfl,e⟩|⟨y,u,rfl,e⟩
   ·exact nomatch e
   ·injection e with e1 _;rw[e1]
 byValue:=fun k v h=>by
  rcases zAj h with ⟨i,t,rfl,rfl⟩|⟨x,t,rfl,rfl⟩ <;> rfl
 pyHash:=fun hv h=>by
  rcases zAj hv with ⟨i,t,rfl,rfl⟩|⟨x,t,rfl,rfl⟩
  ·exact wpAny_pyHash_int h
  ·exact wpAny_pyHash_str h
 eqBool:=fun hu hv h=>by
  rcases zAj hu with ⟨i,t,rfl,rfl⟩|⟨x,t,rfl,rfl⟩
  ·rcases zAj hv with ⟨j,u,rfl,rfl⟩|⟨y,u,rfl,rfl⟩
   ·rw[zTp]at h;exact wpAny_eqBool_int h
   ·rw[zS0]at h;exact SeqAt.EqAt.int_str i t y u _ _ _ _ h
  ·rcases zAj hv with ⟨j,u,rfl,rfl⟩|⟨y,u,rfl,rfl⟩
   ·rw[zSg]at h;exact SeqAt.EqAt.str_int x t j u _ _ _ _ h
   ·rw[zTC]at h;exact wpAny_eqBool_str h
 «strs»:=fun k x t v h=>by
  rcases zAj h with ⟨i,u,rfl,e⟩|⟨y,u,rfl,e⟩
  ·exact nomatch e
  ·injection e with e1 _
   subst e1
   cases v <;> rfl
theorem zKA (prog:Program) (w:World) (i:Int) (t:Tok):(zAW prog w).is (.inl i) (.int i t)=true:=zN9 i t
theorem zKN (prog:Program) (w:World) (x:Str) (t:Tok):(zAW prog w).is (.inr x) (.str x t)=true:=zNZ x t
set_option genInjectivity true in
inductive V where
 |non|bl (b:Bool)|int (i:Int)|str (x:Str)|byt (b:Array UInt8)|flt (b:UInt64)|ref (a:Addr)|ty (n:String)
 deriving DecidableEq
def zk:V->Value->Prop
 |.non,u=>u=Value.none
 |.bl b,u=>u=Value.bool b
 |.int i,u=>∃ t,u=Value.int i t
 |.str x,u=>∃ t,u=Value.str x t
 |.byt b,u=>∃ t,u=Value.bytes b t
 |.flt b,u=>∃ t,u=Value.float b t
 |.ref a,u=>u=Value.ref a
 |.ty n,u=>u=Value.type n
abbrev ze:List V->List Value->Prop:=Paired zk
theorem ze.length {xs:List V} {us:List Value} (r:ze xs us):xs.length=us.length:=Paired.length r
theorem ze.get:∀ {xs:List V} {us:List Value} {i:Nat} {x:V},ze xs us->xs[i]?=some x -> ∃ u,us[i]?=some u/\zk x u
 |_,_,_,_,.nil,e=>by simp at e
 |_,_,0,_,.cons r _,e=>by simp at e;subst e;exact ⟨_,rfl,r⟩
 |_,_,i+1,x,.cons _ t,e=>by
  obtain ⟨u,h1,h2⟩:=ze.get (i:=i) (x:=x) t (by simpa using e);exact ⟨u,by simpa using h1,h2⟩
theorem ze.set {x:V} {u:Value} (r:zk x u):∀ {xs:List V} {us:List Value} (i:Nat),ze xs us->ze (xs.set i x) (us.set i u)
 |_,_,_,.nil=> .nil
 |_,_,0,.cons _ t=> .cons r t
 |_,_,i+1,.cons q t=> .cons q (ze.set r i t)
theorem ze.append:∀ {xs ys:List V} {us ws:List Value},ze xs us->ze ys ws->ze (xs++ys) (us++ws)
 |_,_,_,_,.nil,s=>s
 |_,_,_,_,.cons r t,s=> .cons r (ze.append t s)
theorem ze.take:∀ {xs:List V} {us:List Value} (n:Nat),ze xs us->ze (xs.take n) (us.take n)
 |_,_,0,_=> .nil
 |_,_,_+1,.nil=> .nil
 |_,_,n+1,.cons r t=> .cons r (ze.take n t)
theorem ze.drop:∀ {xs:List V} {us:List Value} (n:Nat),ze xs us->ze (xs.drop n) (us.drop n)
 |_,_,0,r=>r
 |_,_,_+1,.nil=> .nil
 |_,_,n+1,.cons _ t=>ze.drop n t
def zGB:Option V->Option Value->Prop
 |some v,some u=>zk v u
 |none,none=>True
 |_,_=>False
def KV {κ:Type}:List (κ × V)->List (κ × Value)->Prop:=Paired fun (p:κ × V) (q:κ × Value)=>p.1=q.1/\zk p.2 q.2
def kV:Key->V
 |.inl i=> .int i
 |.inr x=> .str x
set_option genInjectivity true in
inductive HO where
 |lst (xs:List V)
 |tup (xs:List V)
 |dK (kvs:List (Key × V))|dT (kvs:List (List Key × V))
 |set (S:Int->Bool) (n:Nat)
 |ins (C dx:Addr) (fs:List (Str × V))
 |own (x:Addr)
 |xd (fs:List (Str × V))
 |met (f x:Addr)
 |rng (lo hi:Int)
 |frz (o:Obj) (u:HO)
 |tbl (ps:Array Value)
 |ext (φ:Heap->Prop)
abbrev Hp:=Addr->Option HO
def upd (H:Hp) (a:Addr) (o:HO):Hp:=fun b=>if b=a then some o else H b
theorem zAK {H:Hp} {a:Addr} {o:HO}:upd H a o a=some o:=by unfold upd;rw[zWN rfl]
theorem zc {H:Hp} {a b:Addr} {o:HO} (h:b≠a):upd H a o b=H b:=by unfold upd;rw[zWQ h]
theorem zH9 {H:Hp} {a b:Addr} {o u:HO} (h:H a=some o) (h':H b=some u) (d:o≠u):a≠b:=by
 intro e;subst e;rw[h]at h';exact d (zW8 h')
theorem zAN {H:Hp} {a b:Addr} {o:HO} (h:H a=some o) (h':H b=none):a≠b:=by
 intro e;subst e;rw[h]at h';cases h'
def zCH (h:Heap) (a:Addr) (items:Array Value):Prop:=∃ o,h.get? a=some o/\o.cls=.type "tuple" /\ (∃ n,o.data=.seq items n)/\o.dict=none
theorem zCH.tup {h:Heap} {a:Addr} {items:Array Value} (x:zCH h a items):IsTup h a items:=let ⟨o,e,c,d,_⟩:=x;⟨o,e,c,d⟩
theorem zCH.lt {h:Heap} {a:Addr} {items:Array Value} (x:zCH h a items):a<h.objs.size:=let ⟨_,e,_⟩:=x;zWJ e
theorem zCH.new (h:Heap) (items:Array Value):zCH (h.push { cls:=.type "tuple", data:=.seq items }) h.objs.size items:=⟨_,zWI _ rfl,rfl,⟨_,rfl⟩,rfl⟩
section
variable (P:Program) (w:World)
def zAu (H:Hp) (h:Heap) (a:Addr):HO->Prop
 |.lst xs=>xs.length<=sizeLine /\ ∃ (its:List Value) (n:Nat),ze xs its/\h.get? a=some { cls:=.type "list", data:=.seq its.toArray n }
 |.tup xs=>xs.length<=sizeLine /\ ∃ its:List Value,ze xs its/\zCH h a its.toArray
 |.dK kvs=>kvs.length<=sizeLine/\(a==sysModules)=false /\ ∃ vs,KV kvs vs/\h.DictOf (zAW P w) a vs
 |.dT kvs=>kvs.length<=sizeLine/\(a==sysModules)=false /\ ∃ xs:List (List Key × Addr × Value),
   Paired (fun (p:List Key × V) (q:List Key × Addr × Value)=>p.1=q.1/\H q.2.1=some (.tup (p.1.map kV))/\zk p.2 q.2.2) kvs xs /\
   ∃ o es ep,h.get? a=some o/\o.ExactDict/\o.data=.dict es ep/\es.toList=xs.map (entryOfKey (tupleKind (zAW P w)))/\(xs.map (·.1)).Nodup
 |.set S n=>h.SetOf (intKind P w) a S n
 |.ins C dx fs=>H dx=some (.own a)/\fs.length<=1000/\dx≠a/\h.get? a=some (PySem.W.instObj C dx) /\
   ∃ mA,h.Ns1 dx mA/\(∀ f,zGB (fs.lookup f) (mA f))/\PySem.Within mA (fs.map (·.1))
 |.own _=>∃ o,h.get? a=some o
 |.xd fs=>∃ mA,h.Ns1 a mA /\ ∀ f,zGB (fs.lookup f) (mA f)
 |.rng lo hi=>∃ t u v,h.get? a=some { cls:=.type "range", data:=.fields #[.int lo t,.int hi u,.int 1 v] }
 |.frz o u=>h.get? a=some o/\zAu H h a u
 |.tbl ps=>h.get? a=some { cls:=.none,data:=.fields ps }
 |.met f x=>h.get? a=some (PySem.W.methodObj (.ref f) (.ref x))
 |.ext φ=>φ h/\(∃ o,h.get? a=some o) /\ ∀ h1 h2:Heap,φ h1->(∀ o,h1.get? a=some o->h2.get? a=some o)->φ h2
def HOk (H:Hp) (h:Heap):Prop:=∀ a o,H a=some o->zAu P w H h a o
end
section
variable {P:Program} {w:World} {H H':Hp} {h h':Heap} {a:Addr} {o:HO}
theorem zAu.lt (x:zAu P w H h a o):a<h.objs.size:=by
 cases o with
 |lst xs=>obtain ⟨_,_,_,_,e⟩:=x;exact zWJ e
 |tup xs=>obtain ⟨_,_,_,p⟩:=x;exact p.lt
 |dK kvs=>obtain ⟨_,_,_,_,o,_,_,e,_⟩:=x;exact zWJ e
 |dT kvs=>obtain ⟨_,_,_,_,o,_,_,e,_⟩:=x;exact zWJ e
 |set S n=>obtain ⟨o,_,_,_,e,_⟩:=x;exact zWJ e
 |ins C dx fs=>obtain ⟨_,_,_,e,_⟩:=x;exact zWJ e
 |own y=>obtain ⟨_,e⟩:=x;exact zWJ e
 |xd fs=>obtain ⟨_,⟨_,_,_,e,_⟩,_⟩:=x;exact zWJ e
 |rng lo hi=>obtain ⟨_,_,_,e⟩:=x;exact zWJ e
 |frz ob u=>obtain ⟨e,_⟩:=x;exact zWJ e
 |tbl ps=>exact zWJ (show h.get? a=some _ from x)
 |met f y=>exact zWJ (show h.get? a=some _ from x)
 |ext φ=>obtain ⟨_,⟨_,e⟩,_⟩:=x;exact zWJ e
theorem Paired.mapP {α β:Type} {F G:α->β->Prop}:∀ {l₁:List α} {l₂:List β},Paired F l₁ l₂->(∀ a b,F a b->G a b)->Paired G l₁ l₂
 |_,_,.nil,_=> .nil
 |_,_,.cons r t,f=> .cons (f _ _ r) (Paired.mapP t f)
theorem zAu.stay (x:zAu P w H h a o) (k:∀ b u,(b=a\/H b=some (.own a))->h.get? b=some u->h'.get? b=some u)
  (ho:∀ b,H b=some (.own a)->H' b=some (.own a)) (ht:∀ b xs,H b=some (.tup xs)->H' b=some (.tup xs)):zAu P w H' h' a o:=by
 induction o with
 |lst xs=>obtain ⟨z,its,n,r,e⟩:=x;exact ⟨z,its,n,r,k _ _ (.inl rfl) e⟩
 |tup xs=>obtain ⟨z,its,r,ob,e,c⟩:=x;exact ⟨z,its,r,ob,k _ _ (.inl rfl) e,c⟩
 |dK kvs=>obtain ⟨z,y,vs,r,ob,es,ep,e,c⟩:=x;exact ⟨z,y,vs,r,ob,es,ep,k _ _ (.inl rfl) e,c⟩
 |dT kvs=>
  obtain ⟨z,y,xs,r,ob,es,ep,e,c⟩:=x;exact ⟨z,y,xs,Paired.mapP r fun p q z=>⟨z.1,ht _ _ z.2.1,z.2.2⟩,ob,es,ep,k _ _ (.inl rfl) e,c⟩
 |set S n=>obtain ⟨ob,es,ep,t,e,c⟩:=x;exact ⟨ob,es,ep,t,k _ _ (.inl rfl) e,c⟩
 |ins C dx fs=>
  obtain ⟨d,z,ne,e,mA,⟨od,es,ep,e2,c⟩,r⟩:=x;exact ⟨ho _ d,z,ne,k _ _ (.inl rfl) e,mA,⟨od,es,ep,k _ _ (.inr d) e2,c⟩,r⟩
 |own y=>obtain ⟨ob,e⟩:=x;exact ⟨ob,k _ _ (.inl rfl) e⟩
 |xd fs=>obtain ⟨mA,⟨od,es,ep,e,c⟩,r⟩:=x;exact ⟨mA,⟨od,es,ep,k _ _ (.inl rfl) e,c⟩,r⟩
 |rng lo hi=>obtain ⟨t,u,v,e⟩:=x;exact ⟨t,u,v,k _ _ (.inl rfl) e⟩
 |frz ob u ih=>obtain ⟨e,q⟩:=x;exact ⟨k _ _ (.inl rfl) e,ih q⟩
 |tbl ps=>
  have e:h.get? a=some { cls:=.none,data:=.fields ps }:=x;show h'.get? a=some { cls:=.none,data:=.fields ps };exact k a _ (.inl rfl) e
 |met f y=>
  have e:h.get? a=some (PySem.W.methodObj (.ref f) (.ref y)):=x;show h'.get? a=some (PySem.W.methodObj (.ref f) (.ref y));exact k a _ (.inl rfl) e
 |ext φ=>obtain ⟨p,⟨o,e⟩,st⟩:=x;exact ⟨st _ _ p fun o q=>k _ _ (.inl rfl) q,⟨o,k _ _ (.inl rfl) e⟩,st⟩
theorem HOk.lt (x:HOk P w H h) (e:H a=some o):a<h.objs.size:=(x a o e).lt
theorem HOk.fresh (x:HOk P w H h) (e:h.objs.size<=a):H a=none:=by
 cases q:H a with
 |none=>rfl
 |some u=>exact absurd (zWX (x.lt q) e) (zWq _)
theorem HOk.kept (x:HOk P w H h) (k:∀ b u,h.get? b=some u->h'.get? b=some u):HOk P w H h':=fun a o e=>
 (x a o e).stay (fun b u _ q=>k b u q) (fun _ q=>q) fun _ _ q=>q
theorem HOk.laid (x:HOk P w H h) (k:∀ b u,h.get? b=some u->h'.get? b=some u) (hp:h.objs.size<=a) (new:zAu P w (upd H a o) h' a o):HOk P w (upd H a o) h':=fun b u e=>by
 have hn:=x.fresh hp;by_cases hb:b=a
 ·subst hb;rw[zAK]at e;cases e;exact new
 ·rw[zc hb]at e;exact (x b u e).stay (fun c v _ q=>k c v q) (fun c q=>by rw[zc (zAN q hn)];exact q) fun c xs q=>by rw[zc (zAN q hn)];exact q
end
def Rd (H:Hp) (a:Addr) (u:HO):Prop:=H a=some u \/ ∃ o,H a=some (.frz o u)
theorem Rd.ok {P:Program} {w:World} {H:Hp} {h:Heap} {a:Addr} {u:HO} (r:Rd H a u) (x:HOk P w H h):zAu P w H h a u:=by
 rcases r with r|⟨o,r⟩
 ·exact x a u r
 ·obtain ⟨_,q⟩:=x a _ r;exact q
def Mut:Option HO->Prop
 |some (.lst _)=>True
 |some (.dK _)=>True
 |some (.dT _)=>True
 |some (.set _ _)=>True
 |some (.ins _ _ _)=>True
 |some (.ext _)=>True
 |_=>False
section
variable {P:Program} {w:World} {H:Hp} {h h':Heap} {x e:Addr} {o':HO}
theorem HOk.write (ok:HOk P w H h) (mu:Mut (H x)) (he:e=x\/H e=some (.own x)) (k:∀ b u,b≠e->h.get? b=some u->h'.get? b=some u) (heo:∃ u,h'.get? e=some u)
  (new:zAu P w (upd H x o') h' x o'):HOk P w (upd H x o') h':=fun b u q=>by
 have nown:∀ c y,H c=some (.own y)->c≠x:=fun c y r z=>by subst z;rw[r]at mu;exact mu
 have ntup:∀ c xs,H c=some (.tup xs)->c≠x:=fun c xs r z=>by subst z;rw[r]at mu;exact mu
 by_cases hb:b=x
 ·subst hb;rw[zAK]at q;cases q;exact new
 ·rw[zc hb]at q;by_cases hbe:b=e
  ·have q':H b=some (.own x):=by
    rcases he with z|z
    ·exact absurd (hbe.trans z) hb
    ·rw[hbe];exact z
   rw[q]at q';cases q';obtain ⟨v,hv⟩:=heo;exact ⟨v,by rw[hbe];exact hv⟩
  ·refine (ok b u q).stay (fun c v hc r=>k c v ?_ r) (fun c r=>by rw[zc (nown c b r)];exact r) fun c xs r=>by rw[zc (ntup c xs r)];exact r
   rcases hc with rfl|hc
   ·exact hbe
   ·rintro rfl;rcases he with z|z
    ·exact nown c b hc z
    ·rw[hc]at z;cases z;exact hb rfl
end
structure Un (fs ex:List Addr) (H H':Hp) (h h':Heap):Prop where
 keep:∀ b o,h.get? b=some o->H b=none->b∉fs->b∉ex->h'.get? b=some o
 slot:∀ b o,h.get? b=some o->H b=none->b∈fs->b∉ex -> ∃ sl,h'.get? b=some { o with slots:=sl }
 free:∀ b o,h.get? b=some o->H b=none->b∉ex->H' b=none
 there:∀ b o,h.get? b=some o->b∉ex -> ∃ o',h'.get? b=some o'
 tups:∀ b xs,H b=some (.tup xs)->H' b=some (.tup xs)
 frzs:∀ b o u,H b=some (.frz o u)->H' b=some (.frz o u)
 tbls:∀ b ps,H b=some (.tbl ps) -> ∃ more,H' b=some (.tbl (ps++more))
section
variable {fs fs' ex ex':List Addr} {H H1 H2:Hp} {h h1 h2 h':Heap} {a x e:Addr} {o:HO}
theorem Un.any (u:Un fs ex H H1 h h1) {b:Addr} {ob:Obj} (q:h.get? b=some ob) (n:H b=none) (hx:b∉ex):∃ sl,h1.get? b=some { ob with slots:=sl }:=by
 by_cases hb:b∈fs
 ·exact u.slot b ob q n hb hx
 ·exact ⟨ob.slots,u.keep b ob q n hb hx⟩
theorem Un.kept (k:∀ b u,h.get? b=some u->h'.get? b=some u):Un fs ex H H h h' :=
 ⟨fun b ob q _ _ _=>k b ob q,fun b ob q _ _ _=>⟨ob.slots,k b ob q⟩,fun _ _ _ n _=>n,fun b ob q _=>⟨ob,k b ob q⟩,fun _ _ q=>q,fun _ _ _ q=>q,fun _ ps q=>⟨#[],by rw[q];simp⟩⟩
theorem Un.refl:Un fs ex H H h h:=Un.kept fun _ _ q=>q
theorem Un.laid (k:∀ b u,h.get? b=some u->h'.get? b=some u) (hp:h.objs.size<=a) (hn:H a=none):Un fs ex H (upd H a o) h h' where
 keep:=fun b u q _ _ _=>k b u q;slot:=fun b u q _ _ _=>⟨u.slots,k b u q⟩;free:=fun b u q n _=>by rw[zc (zWT (zWX (zWJ q) hp))];exact n
 there:=fun b u q _=>⟨u,k b u q⟩;tups:=fun b xs q=>by rw[zc (zAN q hn)];exact q
 frzs:=fun b u xs q=>by rw[zc (zAN q hn)];exact q
 tbls:=fun b ps q=>⟨#[],by rw[zc (zAN q hn),q];simp⟩
theorem Un.write (mu:Mut (H x)) (he:e=x\/H e=some (.own x)) (k:∀ b u,b≠e->h.get? b=some u->h'.get? b=some u) (heo:∃ u,h'.get? e=some u):Un fs ex H (upd H x o) h h':=by
 have hx:∀ b,H b=none->b≠x:=fun b n z=>by subst z;rw[n]at mu;exact mu
 have hb:∀ b,H b=none->b≠e:=fun b n z=>by
  subst z;rcases he with r|r
  ·exact hx b n r
  ·rw[n]at r;cases r
 have hm:∀ b u,H b=some u -> ¬ Mut (some u)->b≠x:=fun b u q nm z=>by subst z;rw[q]at mu;exact nm mu
 refine ⟨fun b u q n _ _=>k b u (hb b n) q,fun b u q n _ _=>⟨u.slots,k b u (hb b n) q⟩,fun b u q n _=>by rw[zc (hx b n)];exact n,fun b u q _=>?_,
  fun b xs q=>by rw[zc (hm b _ q fun z=>z)];exact q,fun b u xs q=>by rw[zc (hm b _ q fun z=>z)];exact q,fun b ps q=>⟨#[],by rw[zc (hm b _ q fun z=>z),q];simp⟩⟩
 by_cases hbe:b=e
 ·subst hbe;exact heo
 ·exact ⟨u,k b u hbe q⟩
end
def trk (h:Heap) (H:Hp):List Addr:=(List.range h.objs.size).filter fun a=>(H a).isSome
def zJe (h:Heap) (H:Hp):Heap:=PySem.W.hideAll h (trk h H)
theorem zOR (h:Heap) (H:Hp):(zJe h H).objs.size=h.objs.size:=PySem.W.hideAll_size _ _
theorem zPR {h:Heap} {H:Hp} {b:Addr} {o:Obj} (e:h.get? b=some o) (n:H b=none):(zJe h H).get? b=some o :=
 PySem.W.hideAll_get _ e fun hm=>by
  have q:(H b).isSome=true:=(zXJ.mp hm).2;rw[n]at q;simp at q
theorem zRF {h:Heap} {H:Hp} {b:Addr} {o:Obj} (e:(zJe h H).get? b=some o):h.get? b=some o/\H b=none:=by
 have e':h.get? b=some o:=PySem.W.of_hideAll (trk h H) e;refine ⟨e',?_⟩;cases q:H b with
 |none=>rfl
 |some x=>
  have hm:b∈trk h H:=zXJ.mpr ⟨zWm.mpr (zWJ e'),by simp[q]⟩;have z:(zJe h H).get? b=none:=PySem.W.hideAll_none (trk h H) hm;rw[z]at e;cases e
structure Mod (K:PySem.W.Frag) (mg:Str->Option Value) (base:Heap):Prop where
 kin:K.In base
 glob:base.Ns mainGlobals mg
 blt:∃ mb,base.Ns builtinsNs mb /\ ∀ x:Str,x ≠ "__name__" -> mb x=bootBuiltins x
 nolimit:base.NoLimit
structure Cx where
 prog:Program
 w:World
 K:PySem.W.Frag
 mg:Str->Option Value
 base:Heap
 A:Around
 N:List Str
 s₀:Shared
 H₀:Hp
 env:Env
 outer:List Env
 stack:List Env
 ex:List Addr
 fn:Str->Bool
 calm:Bool
 pn:List (Addr × Obj)
 xe:Value->Shared->Prop
def frs (l:List Env):List Addr:=l.filterMap (·.frame)
abbrev Cx.fs (X:Cx):List Addr:=frs X.outer
def Vis (sc:Scope) (x:Str):Prop:=sc.names.lookup x=some .local\/sc.names.lookup x=some .cell\/sc.names.lookup x=some .free
def Loc (sc:Scope) (x:Str):Prop:=sc.names.lookup x=some .local\/sc.names.lookup x=some .cell
def zVe (env:Env) (h:Heap) (m:Str->Option Value) (x:Str) (u:Value):Prop :=
 (env.kindOf x=some .local/\m x=some u)\/((env.kindOf x=some .cell\/env.kindOf x=some .free) /\ ∃ c,env.cells.lookup x=some c/\h.IsCell c (some u))
structure Cx.Ok (X:Cx):Prop where
 mod:Mod X.K X.mg X.base
 kind:X.env.scope.kind=.function
 glob:X.env.globals=mainGlobals
 blt:X.env.builtins=builtinsNs
 above:X.s₀.heap.objs.size<=X.env.locals
 inj:∀ x y c,X.env.cells.lookup x=some c->X.env.cells.lookup y=some c->x=y
 has:∀ x,(X.env.kindOf x=some .cell\/X.env.kindOf x=some .free) -> ∃ c,X.env.cells.lookup x=some c
 cab:∀ x c,X.fn x=true->X.env.cells.lookup x=some c->X.s₀.heap.objs.size<=c
 hd:X.calm=true->X.A.handled=none
 frames:X.A.frames=some X.stack
 stk:X.stack=X.outer\/(X.stack=X.env::X.outer/\X.env.frame=some X.env.locals)
 exf:∀ b∈X.ex,b≠X.env.locals /\ ∀ x c,X.env.cells.lookup x=some c->c≠b
 bs:∀ b o,X.base.get? b=some o->X.s₀.heap.get? b=some o/\X.H₀ b=none
 bsz:X.base.objs.size<=X.s₀.heap.objs.size
 noex:∀ b o,X.base.get? b=some o->b∉X.ex
 exfs:∀ b∈X.ex,b∉X.fs
 funs:X.s₀.heap.FunFrames X.base X.outer
 frf:∀ b∈X.fs,X.H₀ b=none
structure Inv (X:Cx) (zB:List (Addr × Obj)) (σ:List (Option V)) (H:Hp) (s:Shared):Prop where
 ok:X.Ok
 os:s.os=X.s₀.os
 bare:AllBare s.gens
 base:Un X.fs X.ex X.H₀ H X.s₀.heap s.heap
 loc:∃ m,s.heap.Ns X.env.locals m /\ ∀ (i:Nat) (x:Str) (v:V),X.N[i]?=some x->σ[i]?=some (some v)->Vis X.env.scope x -> ∃ u,zk v u/\zVe X.env s.heap m x u
 cell:∀ x c,X.env.cells.lookup x=some c -> ∃ v,s.heap.IsCell c v
 free:H X.env.locals=none
 freeC:∀ x c,X.env.cells.lookup x=some c->H c=none
 pin:∀ p∈X.pn++zB,s.heap.get? p.1=some p.2/\H p.1=none/\p.1≠X.env.locals/\p.1∉X.fs /\ ∀ v,p.2.data≠.cell v
 hok:HOk X.prog X.w H s.heap
 len:σ.length=X.N.length
section
variable {X:Cx} {zB:List (Addr × Obj)} {σ:List (Option V)} {H H':Hp} {s:Shared} {h':Heap}
theorem Cx.Ok.nofr (ok:X.Ok) {b:Addr} {o:Obj} (e:X.base.get? b=some o):b∉X.fs:=fun hb=>by
 have:=(ok.funs.mem hb).1;rw[e]at this;cases this
theorem Inv.bs (I:Inv X zB σ H s):∀ b o,X.base.get? b=some o->s.heap.get? b=some o/\H b=none:=fun b o e=>
 ⟨I.base.keep b o (I.ok.bs b o e).1 (I.ok.bs b o e).2 (I.ok.nofr e) (I.ok.noex b o e),I.base.free b o (I.ok.bs b o e).1 (I.ok.bs b o e).2 (I.ok.noex b o e)⟩
theorem Inv.bk (I:Inv X zB σ H s):∀ b o,X.base.get? b=some o->s.heap.get? b=some o:=fun b o e=>(I.bs b o e).1
theorem Inv.mod (I:Inv X zB σ H s):Mod X.K X.mg X.base:=I.ok.mod
theorem Inv.kIn (I:Inv X zB σ H s):X.K.In s.heap:=I.ok.mod.kin.keeps I.bk
theorem Inv.lt (I:Inv X zB σ H s):X.env.locals<s.heap.objs.size:=let ⟨_,hn,_⟩:=I.loc;hn.lt
theorem Inv.sz (I:Inv X zB σ H s):X.s₀.heap.objs.size<=s.heap.objs.size:=zWZ I.ok.above (Nat.le_of_lt I.lt)
theorem Inv.nofs (I:Inv X zB σ H s) {a:Addr} (h:s.heap.objs.size<=a):a∉X.fs:=fun hb=>by
 obtain ⟨_,o,ho,_⟩:=I.ok.funs.mem hb;exact absurd (zWX (zWJ ho) (zWZ I.sz h)) (zWq _)
theorem Inv.cne (I:Inv X zB σ H s):∀ x c,X.env.cells.lookup x=some c->c≠X.env.locals:=fun x c e z=>by
 obtain ⟨v,o,ho,hd⟩:=I.cell x c e;obtain ⟨m,⟨o',es,ep,ho',hd',_⟩,_⟩:=I.loc;rw[z,ho']at ho;cases ho;rw[hd']at hd;cases hd
theorem Inv.funs (I:Inv X zB σ H s):s.heap.FunFrames X.base X.outer:=by
 have all:∀ (l:List Env),(∀ b∈frs l,b∈X.fs)->X.s₀.heap.FunFrames X.base l->s.heap.FunFrames X.base l:=by
  intro l;induction l with
  |nil=>intro _ _;trivial
  |cons env r ih=>
   intro hs hl;obtain ⟨hk,⟨L,o,hf,hn,ho,hd⟩,hr⟩:=hl;have hL:L∈X.fs:=hs L (by unfold frs;rw[List.filterMap_cons,hf];exact zWM);obtain ⟨sl,e⟩:=I.base.slot L o ho (I.ok.frf L hL) hL fun z=>I.ok.exfs L z hL;exact ⟨hk,⟨L,_,hf,hn,e,hd⟩,ih (fun b hb=>hs b (by unfold frs;rw[List.filterMap_cons,hf];exact zWL _ hb)) hr⟩
 exact all X.outer (fun _ hb=>hb) I.ok.funs
theorem Inv.stack (I:Inv X zB σ H s):s.heap.FunFrames X.base X.stack:=by
 rcases I.ok.stk with e|⟨e,hf⟩
 ·rw[e];exact I.funs
 ·rw[e];obtain ⟨m,hn,_⟩:=I.loc;refine .cons (by rw[I.ok.kind];decide) hf hn ?_ I.funs;exact Heap.get?_none_of_le (zWZ I.ok.bsz I.ok.above)
theorem Inv.stkSub (I:Inv X zB σ H s):∀ b∈frs X.stack,b∈X.env.locals::X.fs:=fun b hb=>by
 rcases I.ok.stk with e|⟨e,hf⟩
 ·rw[e]at hb;exact zWL _ hb
 ·rw[e]at hb;unfold frs at hb;rw[List.filterMap_cons,hf]at hb;exact hb
theorem Inv.stkFree (I:Inv X zB σ H s):∀ b∈frs X.stack,H b=none:=fun b hb=>by
 rcases zWK.mp (I.stkSub b hb)with e|hb
 ·rw[e];exact I.free
 ·obtain ⟨_,o,ho,_⟩:=I.ok.funs.mem hb;exact I.base.free b o ho (I.ok.frf b hb) fun z=>I.ok.exfs b z hb
theorem Inv.step {g':Array GenState} {t':Nat} {d':Drawn} {ch:List Addr} (I:Inv X zB σ H s)
  (hch:∀ b∈ch,(b∈X.ex\/X.s₀.heap.objs.size<=b)/\b≠X.env.locals/\(∀ x c,X.env.cells.lookup x=some c->c≠b) /\ ∀ p∈X.pn++zB,p.1≠b)
  (keep:∀ b o,b≠X.env.locals->b∉X.fs->b∉ch->s.heap.get? b=some o->H b=none->h'.get? b=some o)
  (slot:∀ b o,b≠X.env.locals->b∈X.fs->b∉ch->s.heap.get? b=some o->H b=none -> ∃ sl,h'.get? b=some { o with slots:=sl }) (free:∀ b o,b∉ch->s.heap.get? b=some o->H b=none->H' b=none)
  (there:∀ b o,b∉ch->s.heap.get? b=some o -> ∃ o',h'.get? b=some o')
  (tups:∀ b xs,H b=some (.tup xs)->H' b=some (.tup xs)) (frzs:∀ b o u,H b=some (.frz o u)->H' b=some (.frz o u)) (tbls:∀ b ps,H b=some (.tbl ps) -> ∃ more,H' b=some (.tbl (ps++more)))
  (ns:∀ m,s.heap.Ns X.env.locals m->h'.Ns X.env.locals m) (hok:HOk X.prog X.w H' h') (hg:AllBare g') :
  Inv X zB σ H' { s with heap:=h',gens:=g',drawn:=d',toks:=t' }:=by
 have neL:∀ b o,X.s₀.heap.get? b=some o->b≠X.env.locals:=fun b o e=>zWT (zWX (zWJ e) I.ok.above);have neC:∀ b o,X.s₀.heap.get? b=some o->b∉X.ex->b∉ch:=fun b o e hx hb=>by
  rcases (hch b hb).1 with z|z
  ·exact hx z
  ·exact absurd (zWX (zWJ e) z) (zWq _)
 have cellK:∀ x c,X.env.cells.lookup x=some c -> ∀ v,s.heap.IsCell c v->h'.IsCell c v:=fun x c e v ⟨o,ho,hd⟩=>by
  have nch:c∉ch:=fun z=>(hch c z).2.2.1 x c e rfl;by_cases hc:c∈X.fs
  ·obtain ⟨sl,q⟩:=slot c o (I.cne x c e) hc nch ho (I.freeC x c e);exact ⟨_,q,hd⟩
  ·exact ⟨o,keep c o (I.cne x c e) hc nch ho (I.freeC x c e),hd⟩
 refine ⟨I.ok,I.os,hg,⟨fun b o e n hb hx=>?_,fun b o e n hb hx=>?_,fun b o e n hx=>?_,fun b o e hx=>?_,fun b xs e=>tups b xs (I.base.tups b xs e),fun b o xs e=>frzs b o xs (I.base.frzs b o xs e),fun b ps e=>?_⟩,?_,fun x c e=>?_,?_,fun x c e=>?_,fun p hp=>?_,hok,I.len⟩
 ·exact keep b o (neL b o e) hb (neC b o e hx) (I.base.keep b o e n hb hx) (I.base.free b o e n hx)
 ·obtain ⟨sl,e1⟩:=I.base.slot b o e n hb hx;obtain ⟨sl',e2⟩:=slot b _ (neL b o e) hb (neC b o e hx) e1 (I.base.free b o e n hx);exact ⟨sl',e2⟩
 ·obtain ⟨o',e1⟩:=I.base.there b o e hx;exact free b o' (neC b o e hx) e1 (I.base.free b o e n hx)
 ·obtain ⟨o',e1⟩:=I.base.there b o e hx;exact there b o' (neC b o e hx) e1
 ·obtain ⟨m1,e1⟩:=I.base.tbls b ps e;obtain ⟨m2,e2⟩:=tbls b _ e1;exact ⟨m1++m2,by rw[e2,Array.append_assoc]⟩
 ·obtain ⟨m,hn,hl⟩:=I.loc;refine ⟨m,ns m hn,fun i x v e1 e2 e3=>?_⟩;obtain ⟨u,r,l⟩:=hl i x v e1 e2 e3;refine ⟨u,r,?_⟩;rcases l with l|⟨k,c,e,z⟩
  ·exact .inl l
  ·exact .inr ⟨k,c,e,cellK x c e _ z⟩
 ·obtain ⟨v,z⟩:=I.cell x c e;exact ⟨v,cellK x c e v z⟩
 ·obtain ⟨m,⟨o,_,_,ho,_⟩,_⟩:=I.loc;exact free _ o (fun z=>(hch _ z).2.1 rfl) ho I.free
 ·obtain ⟨v,o,ho,hd⟩:=I.cell x c e;exact free c o (fun z=>(hch c z).2.2.1 x c e rfl) ho (I.freeC x c e)
 ·obtain ⟨e,n,ne,nf,d⟩:=I.pin p hp;have nch:p.1∉ch:=fun z=>(hch p.1 z).2.2.2 p hp rfl;exact ⟨keep p.1 p.2 ne nf nch e n,free p.1 p.2 nch e n,ne,nf,d⟩
theorem Inv.un {t':Nat} (I:Inv X zB σ H s) (u:Un X.fs [] H H' s.heap h') (hok:HOk X.prog X.w H' h'):Inv X zB σ H' { s with heap:=h',toks:=t' }:=by
 obtain ⟨m,⟨o,es,ep,ho,r⟩,_⟩:=id I.loc;obtain ⟨sl,hL⟩:=u.any ho I.free (by simp);exact I.step (g':=s.gens) (d':=s.drawn) (ch:=[]) (fun _ z=>nomatch z) (fun b o _ hb _ e n=>u.keep b o e n hb (by simp)) (fun b o _ hb _ e n=>u.slot b o e n hb (by simp)) (fun b o _ e n=>u.free b o e n (by simp)) (fun b o _ e=>u.there b o e (by simp)) u.tups u.frzs u.tbls (fun m' hm=>by
  obtain ⟨o',es',ep',ho',r'⟩:=hm;rw[ho]at ho';cases ho';exact ⟨_,es',ep',hL,r'⟩) hok I.bare
theorem Inv.call {g':Array GenState} {t':Nat} {d':Drawn} {ch:List Addr} (I:Inv X zB σ H s) (u:Un (frs X.stack) ch H H' s.heap h') (hok:HOk X.prog X.w H' h') (hg:AllBare g')
  (hch:∀ b∈ch,(b∈X.ex\/X.s₀.heap.objs.size<=b)/\b≠X.env.locals/\(∀ x c,X.env.cells.lookup x=some c->c≠b) /\ ∀ p∈X.pn++zB,p.1≠b) :
  Inv X zB σ H' { s with heap:=h',gens:=g',drawn:=d',toks:=t' }:=by
 obtain ⟨m,⟨o,es,ep,ho,r⟩,_⟩:=id I.loc;obtain ⟨sl,hL⟩:=u.any ho I.free fun z=>(hch _ z).2.1 rfl;exact I.step (ch:=ch) hch (fun b o hL hb hc e n=>u.keep b o e n (fun z=>(zWK.mp (I.stkSub b z)).elim hL hb) hc) (fun b o _ _ hc e n=>u.any e n hc) (fun b o hc e n=>u.free b o e n hc) (fun b o hc e=>u.there b o e hc) u.tups u.frzs u.tbls (fun m' hm=>by
  obtain ⟨o',es',ep',ho',r'⟩:=hm;rw[ho]at ho';cases ho';exact ⟨_,es',ep',hL,r'⟩) hok hg
theorem Inv.turned {t':Nat} {it:Addr} (I:Inv X zB σ H s) (k:∀ b o,b≠it->s.heap.get? b=some o->h'.get? b=some o) (hn:H it=none) (hL:it≠X.env.locals)
  (h1:it∈X.ex\/X.s₀.heap.objs.size<=it) (h2:∀ x c,X.env.cells.lookup x=some c->c≠it) (h3:∀ p∈X.pn++zB,p.1≠it):Inv X zB σ H { s with heap:=h',toks:=t' }:=by
 have nit:∀ b u,H b=some u->b≠it:=fun b u e z=>by rw[z,hn]at e;cases e
 refine I.step (g':=s.gens) (d':=s.drawn) (ch:=[it]) (fun b hb=>?_) (fun b o _ _ hc e _=>k b o (fun z=>hc (by simp[z])) e) (fun b o _ _ hc e _=>⟨o.slots,k b o (fun z=>hc (by simp[z])) e⟩) (fun _ _ _ _ n=>n)
  (fun b o hc e=>⟨o,k b o (fun z=>hc (by simp[z])) e⟩) (fun _ _ e=>e) (fun _ _ _ e=>e) (fun b ps e=>⟨#[],by rw[e];simp⟩) (fun m hm=>?_) (fun b u e=>?_) I.bare
 ·have e:b=it:=by simpa using hb
  subst e;exact ⟨h1,hL,h2,h3⟩
 ·obtain ⟨o,es,ep,ho,r⟩:=hm;exact ⟨o,es,ep,k _ o (Ne.symm hL) ho,r⟩
 ·refine (I.hok b u e).stay (fun c v hc q=>k c v ?_ q) (fun _ q=>q) fun _ _ q=>q;rcases hc with z|z
  ·rw[z];exact nit b u e
  ·exact nit c _ z
theorem Inv.tok (I:Inv X zB σ H s) (t:Nat):Inv X zB σ H { s with toks:=t }:=I.un (h':=s.heap) (t':=t) Un.refl I.hok
theorem Inv.kept {t':Nat} (I:Inv X zB σ H s) (k:∀ b u,s.heap.get? b=some u->h'.get? b=some u):Inv X zB σ H { s with heap:=h',toks:=t' }:=I.un (Un.kept k) (I.hok.kept k)
theorem Inv.laid {a:Addr} {o:HO} {t':Nat} (I:Inv X zB σ H s) (k:∀ b u,s.heap.get? b=some u->h'.get? b=some u) (hp:s.heap.objs.size<=a) (new:zAu X.prog X.w (upd H a o) h' a o) :
  Inv X zB σ (upd H a o) { s with heap:=h',toks:=t' }:=I.un (Un.laid k hp (I.hok.fresh hp)) (I.hok.laid k hp new)
theorem Inv.write {x e:Addr} {o:HO} {t':Nat} (I:Inv X zB σ H s) (mu:Mut (H x)) (he:e=x\/H e=some (.own x)) (k:∀ b u,b≠e->s.heap.get? b=some u->h'.get? b=some u) (heo:∃ u,h'.get? e=some u)
  (new:zAu X.prog X.w (upd H x o) h' x o):Inv X zB σ (upd H x o) { s with heap:=h',toks:=t' }:=I.un (Un.write mu he k heo) (I.hok.write mu he k heo new)
theorem Inv.weak {σ':List (Option V)} (I:Inv X zB σ H s) (hl:σ'.length=σ.length) (w:∀ (i:Nat) v,σ'[i]?=some (some v)->σ[i]?=some (some v)):Inv X zB σ' H s :=
 ⟨I.ok,I.os,I.bare,I.base,let ⟨m,hn,hl'⟩:=I.loc;⟨m,hn,fun i x v e1 e2 e3=>hl' i x v e1 (w i v e2) e3⟩,I.cell,I.free,I.freeC,I.pin,I.hok,hl.trans I.len⟩
theorem Inv.pins_of {pins':List (Addr × Obj)} (I:Inv X zB σ H s) (h:∀ p∈pins',s.heap.get? p.1=some p.2/\H p.1=none/\p.1≠X.env.locals/\p.1∉X.fs /\ ∀ v,p.2.data≠.cell v):Inv X pins' σ H s :=
 ⟨I.ok,I.os,I.bare,I.base,I.loc,I.cell,I.free,I.freeC,fun p hp=>(zWY.mp hp).elim (fun z=>I.pin p (zXN _ z)) (h p),I.hok,I.len⟩
theorem zLN {N:List Str} (hN:N.Nodup) {i j:Nat} {x:Str} (a:N[i]?=some x) (b:N[j]?=some x):i=j:=by
 obtain ⟨h1,e1⟩:=zWB.mp a;obtain ⟨h2,e2⟩:=zWB.mp b;exact (List.getElem_inj hN).mp (e1.trans e2.symm)
theorem zN8 {M:Model} {A:Around} {E:Value->Shared->Prop} {i:Nat} {x:Str} {v:V} {u:Value} {Q:Unit->Shared->Prop} (I:Inv X zB σ H s) (hN:X.N.Nodup) (hi:X.N[i]?=some x) (hx:Loc X.env.scope x) (r:zk v u)
  (h:∀ s',Inv X zB (σ.set i (some v)) H s'->(∃ a,Heap.SameBut a s.heap s'.heap/\(a=X.env.locals\/X.env.cells.lookup x=some a))->Q () s') (hf:X.fn x=true\/X.env.scope.names.lookup x=some .local:=by first|exact .inl rfl|exact .inr rfl|assumption):wpAny M A (storeName X.env x u) Q E s:=by
 obtain ⟨m,hn,hl⟩:=id I.loc;have hcls:(X.env.scope.kind == .class||(X.env.scope.kind == .module&&X.env.locals != X.env.globals))=false:=by rw[I.ok.kind];rfl
 have hiσ:i<σ.length:=by rw[I.len];exact (zWB.mp hi).1
 have cne:=I.cne;have tracked:∀ {a:Addr} {h':Heap},(∃ o,s.heap.get? a=some o/\H a=none)->Heap.SameBut a s.heap h'->HOk X.prog X.w H h':=fun {a h'} ha hs b ob e=>by
  obtain ⟨_,_,hfree⟩:=ha;refine (I.hok b ob e).stay (fun c w' hc q=>(hs.2 c ?_).trans q) (fun _ q=>q) fun _ _ q=>q;rintro rfl;rcases hc with rfl|hc
  ·rw[hfree]at e;cases e
  ·rw[hfree]at hc;cases hc
 rcases hx with hk|hk
 ·refine wpAny_storeName_local hk hn (fun h' hn' hs=>?_) hcls;obtain ⟨oL,_,_,hoL,_⟩:=id hn;refine h _ ⟨I.ok,I.os,I.bare,⟨fun b o e n hb hx=>?_,fun b o e n hb hx=>?_,I.base.free,fun b o e hx=>?_,I.base.tups,I.base.frzs,I.base.tbls⟩,⟨_,hn',fun j y v' e1 e2 e3=>?_⟩,fun y c e=>?_,I.free,I.freeC,fun p hp=>?_,tracked ⟨oL,hoL,I.free⟩ hs,by simpa using I.len⟩ ⟨_,hs,.inl rfl⟩
  ·exact (hs.2 b (zWT (zWX (zWJ e) I.ok.above))).trans (I.base.keep b o e n hb hx)
  ·obtain ⟨sl,e1⟩:=I.base.slot b o e n hb hx;exact ⟨sl,(hs.2 b (zWT (zWX (zWJ e) I.ok.above))).trans e1⟩
  ·obtain ⟨o',e1⟩:=I.base.there b o e hx;exact ⟨o',(hs.2 b (zWT (zWX (zWJ e) I.ok.above))).trans e1⟩
  ·by_cases hj:j=i
   ·subst hj;rw[hi]at e1;cases e1;rw[zW2 hiσ]at e2;cases e2;exact ⟨u,r,.inl ⟨hk,by simp⟩⟩
   ·rw[zWc (Ne.symm hj)]at e2;obtain ⟨u',r',q⟩:=hl j y v' e1 e2 e3;refine ⟨u',r',?_⟩;rcases q with ⟨k,e⟩|⟨k,c,e,z⟩
    ·refine .inl ⟨k,?_⟩;have:y≠x:=fun e=>hj (zLN hN e1 (e▸hi));simp[this,e]
    ·exact .inr ⟨k,c,e,z.sameBut hs (cne y c e)⟩
  ·obtain ⟨w',z⟩:=I.cell y c e;exact ⟨w',z.sameBut hs (cne y c e)⟩
  ·obtain ⟨e,n,ne,nf,d⟩:=I.pin p hp;exact ⟨(hs.2 p.1 ne).trans e,n,ne,nf,d⟩
 ·have hfn:X.fn x=true:=by
   rcases hf with z|z
   ·exact z
   ·rw[z]at hk;cases hk
  obtain ⟨c,hc⟩:=I.ok.has x (.inl hk);obtain ⟨w',z⟩:=I.cell x c hc;refine wpAny_storeName_cell I.ok.kind hk hc z (fun h' hc' hs=>?_);obtain ⟨oc,hoc,hocd⟩:=id z;refine h { s with heap:=h' } ⟨I.ok,I.os,I.bare,⟨fun b o e n hb hx=>?_,fun b o e n hb hx=>?_,I.base.free,fun b o e hx=>?_,I.base.tups,I.base.frzs,I.base.tbls⟩,⟨m,hn.sameBut hs (Ne.symm (cne x c hc)),fun j y v' e1 e2 e3=>?_⟩,fun y c' e=>?_,I.free,I.freeC,fun p hp=>?_,tracked ⟨oc,hoc,I.freeC x c hc⟩ hs,by simpa using I.len⟩ ⟨c,hs,.inr hc⟩
  ·exact (hs.2 b (zWT (zWX (zWJ e) (I.ok.cab x c hfn hc)))).trans (I.base.keep b o e n hb hx)
  ·obtain ⟨sl,e1⟩:=I.base.slot b o e n hb hx;exact ⟨sl,(hs.2 b (zWT (zWX (zWJ e) (I.ok.cab x c hfn hc)))).trans e1⟩
  ·obtain ⟨o',e1⟩:=I.base.there b o e hx;exact ⟨o',(hs.2 b (zWT (zWX (zWJ e) (I.ok.cab x c hfn hc)))).trans e1⟩
  ·by_cases hj:j=i
   ·subst hj;rw[hi]at e1;cases e1;rw[zW2 hiσ]at e2;cases e2;exact ⟨u,r,.inr ⟨.inl hk,c,hc,hc'⟩⟩
   ·rw[zWc (Ne.symm hj)]at e2;obtain ⟨u',r',q⟩:=hl j y v' e1 e2 e3;refine ⟨u',r',?_⟩;rcases q with q|⟨k,c',e,z'⟩
    ·exact .inl q
    ·refine .inr ⟨k,c',e,z'.sameBut hs ?_⟩;rintro rfl;exact hj (zLN hN e1 (I.ok.inj _ _ _ e hc▸hi))
  ·by_cases hcc:c'=c
   ·subst hcc;exact ⟨_,hc'⟩
   ·obtain ⟨w2,z2⟩:=I.cell y c' e;exact ⟨w2,z2.sameBut hs hcc⟩
  ·obtain ⟨e,n,ne,nf,d⟩:=I.pin p hp;refine ⟨(hs.2 p.1 ?_).trans e,n,ne,nf,d⟩;intro q;rw[q,hoc]at e;have q':oc=p.2:=zW8 e;exact d w' (by rw[<-q'];exact hocd)
theorem zKP {M:Model} {A:Around} {E:Value->Shared->Prop} {i:Nat} {x:Str} {v:V} {u:Value} {Q:Unit->Shared->Prop} (I:Inv X zB σ H s) (hN:X.N.Nodup) (hi:X.N[i]?=some x) (hx:Loc X.env.scope x) (r:zk v u)
  (h:∀ s',Inv X zB (σ.set i (some v)) H s'->Q () s') (hf:X.fn x=true\/X.env.scope.names.lookup x=some .local:=by first|exact .inl rfl|exact .inr rfl|assumption):wpAny M A (storeName X.env x u) Q E s :=
 zN8 I hN hi hx r (fun s' I' _=>h s' I') hf
theorem Inv.call' {s':Shared} {ch:List Addr} (I:Inv X zB σ H s) (ho:s'.os=s.os) (u:Un (frs X.stack) ch H H' s.heap s'.heap) (hok:HOk X.prog X.w H' s'.heap) (hg:AllBare s'.gens)
  (hch:∀ b∈ch,(b∈X.ex\/X.s₀.heap.objs.size<=b)/\b≠X.env.locals/\(∀ x c,X.env.cells.lookup x=some c->c≠b) /\ ∀ p∈X.pn++zB,p.1≠b):Inv X zB σ H' s':=by
 obtain ⟨h',g',d',t',o'⟩:=s';have e:o'=s.os:=ho;subst e;exact I.call (g':=g') (t':=t') (d':=d') u hok hg hch
end
abbrev XK:=Value->Option Addr->Hp->Prop
abbrev St:=List (Option V)
abbrev VK:=V->Hp->Prop
abbrev TE:=St->Hp->VK->Prop
abbrev TT:=St->Hp->(Bool->Hp->Prop)->Prop
abbrev TA:=St->Hp->(List V->Hp->Prop)->Prop
structure Ends where
 nx:St->Hp->Prop
 rt:VK
 bk:St->Hp->Prop:=fun _ _=>False
 ct:St->Hp->Prop:=fun _ _=>False
abbrev TS:=Ends->St->Hp->Prop
def EP (X:Cx) (zB:List (Addr × Obj)) (σ:St) (Q:VK) (u:Value) (s':Shared):Prop:=∃ v H',Inv X zB σ H' s'/\zk v u/\Q v H'
def TP (X:Cx) (zB:List (Addr × Obj)) (σ:St) (Q:Bool->Hp->Prop) (b:Bool) (s':Shared):Prop:=∃ H',Inv X zB σ H' s'/\Q b H'
def AP (X:Cx) (zB:List (Addr × Obj)) (σ:St) (Q:List V->Hp->Prop) (us:List Value) (s':Shared):Prop:=∃ vs H',Inv X zB σ H' s'/\ze vs us/\Q vs H'
def SP (X:Cx) (zB:List (Addr × Obj)) (D:Ends) (f:Flow) (s':Shared):Prop :=
 match f with
 |.next=>∃ σ' H',Inv X zB σ' H' s'/\D.nx σ' H'
 |.brk=>∃ σ' H',Inv X zB σ' H' s'/\D.bk σ' H'
 |.cont=>∃ σ' H',Inv X zB σ' H' s'/\D.ct σ' H'
 |.ret u=>∃ v σ' H',Inv X zB σ' H' s'/\zk v u/\D.rt v H'
def PE (X:Cx) (e:Expr) (t:TE):Prop :=
 ∀ (zB:List (Addr × Obj)) (s:Shared) (σ:St) (H:Hp) (Q:VK),Inv X zB σ H s->t σ H Q->wpAny (model X.prog X.w) X.A (eval e X.env) (EP X zB σ Q) X.xe s
def PT (X:Cx) (e:Expr) (t:TT):Prop :=
 ∀ (zB:List (Addr × Obj)) (s:Shared) (σ:St) (H:Hp) (Q:Bool->Hp->Prop),Inv X zB σ H s->t σ H Q->wpAny (model X.prog X.w) X.A (isTrue e X.env (eval e X.env)) (TP X zB σ Q) X.xe s
def PW (X:Cx) (e:Expr) (t:TT):Prop :=
 ∀ (whole:Sem Value) (zB:List (Addr × Obj)) (s:Shared) (σ:St) (H:Hp) (Q:Bool->Hp->Prop),Inv X zB σ H s->t σ H Q->wpAny (model X.prog X.w) X.A (isTrue e X.env whole) (TP X zB σ Q) X.xe s
theorem PW.pt {X:Cx} {e:Expr} {t:TT} (h:PW X e t):PT X e t:=h _
def PA (X:Cx) (es:List Expr) (t:TA):Prop :=
 ∀ (pos:Pos) (zB:List (Addr × Obj)) (s:Shared) (σ:St) (H:Hp) (Q:List V->Hp->Prop),Inv X zB σ H s->t σ H Q->wpAny (model X.prog X.w) X.A (spliced (backTo pos (starEach es X.env))) (AP X zB σ Q) X.xe s
def PS (X:Cx) (st:Stmt) (t:TS):Prop :=
 ∀ (zB:List (Addr × Obj)) (s:Shared) (σ:St) (H:Hp) (D:Ends),Inv X zB σ H s->t D σ H->wpAny (model X.prog X.w) X.A (exec st X.env) (SP X zB D) X.xe s
def PSs (X:Cx) (st:List Stmt) (t:TS):Prop :=
 ∀ (zB:List (Addr × Obj)) (s:Shared) (σ:St) (H:Hp) (D:Ends),Inv X zB σ H s->t D σ H->wpAny (model X.prog X.w) X.A (execs st X.env) (SP X zB D) X.xe s
theorem thn {α:Type} {t:Sem α} {Q Q':α->Shared->Prop} {M:Model} {A:Around} {E:Value->Shared->Prop} {s:Shared} (h:wpAny M A t Q E s) (hQ:∀ a s,Q a s->Q' a s):wpAny M A t Q' E s:=zWe h hQ fun _ _ x=>x
section
variable {X:Cx}
def zTY (i:Nat):TE:=fun σ H Q=>∃ v,σ[i]?=some (some v)/\Q v H
def tC (v:V):TE:=fun _ H Q=>Q v H
theorem zS5 {i:Nat} {x:Str} {pos:Pos} (hN:X.N[i]?=some x) (hv:Vis X.env.scope x) (hd:(x==("__debug__" : Str))=false:=by decide) (hcd:(x==("__classdict__" : Str))=false:=by decide):PE X (.Name x pos) (zTY i):=by
 intro zB s σ H Q I h;obtain ⟨v,e,h⟩:=h;obtain ⟨m,hn,hl⟩:=I.loc;obtain ⟨u,r,l⟩:=hl i x v hN e hv;have fin:EP X zB σ Q u s:=⟨v,H,I,r,h⟩;rcases l with ⟨hk,hm⟩|⟨hk,c,hc,hcell⟩
 ·exact wpAny_Name (wpAny_loadName_local I.ok.kind hk hn hm fin) hd
 ·rcases hk with hk|hk
  ·exact wpAny_Name (wpAny_loadName_cell I.ok.kind hk hc hcell fin) hd
  ·exact wpAny_Name (wpAny_loadName_free I.ok.kind hk hc hcell fin hcd) hd
theorem zSm {i j pos}:PE X (.Constant (.int i) j pos) (tC (.int i)):=fun _ _ _ H _ I h=>wpAny_Constant_int ⟨.int i,H,I.tok _,⟨_,rfl⟩,h⟩
theorem zVT {b j pos}:PE X (.Constant (.bool b) j pos) (tC (.bl b)):=fun _ _ _ H _ I h=>Constant_bool ⟨.bl b,H,I,rfl,h⟩
theorem zSs {j pos}:PE X (.Constant .none j pos) (tC .non):=fun _ _ _ H _ I h=>Constant_none ⟨.non,H,I,rfl,h⟩
theorem zTV {x j pos}:PE X (.Constant (.str x) j pos) (tC (.str x)):=fun _ _ _ H _ I h=>Calls.Constant_str ⟨.str x,H,I.tok _,⟨_,rfl⟩,h⟩
def Gl (X:Cx) (x:Str):Prop:=X.env.kindOf x=some .globalImplicit
theorem zRo {E:Value->Shared->Prop} {zB:List (Addr × Obj)} {s:Shared} {σ:St} {H:Hp} {x:Str} {u:Value} {pos:Pos} {Q:Value->Shared->Prop} (I:Inv X zB σ H s) (hg:Gl X x) (hm:X.mg x=some u) (h:Q u s)
  (hd:(x==("__debug__" : Str))=false:=by decide):wpAny (model X.prog X.w) X.A (eval (.Name x pos) X.env) Q E s :=
 Calls.Name_function_global I.ok.kind hg (Calls.loadGlobal_global (by rw[I.ok.glob];exact I.mod.glob.keeps I.bk) hm h) hd
theorem zEr {E:Value->Shared->Prop} {zB:List (Addr × Obj)} {s:Shared} {σ:St} {H:Hp} {x:Str} {u:Value} {pos:Pos} {Q:Value->Shared->Prop} (I:Inv X zB σ H s) (hg:Gl X x) (hm:X.mg x=none) (hv:bootBuiltins x=some u) (h:Q u s)
  (hn:x ≠ "__name__" := by decide) (hd:(x==("__debug__" : Str))=false:=by decide):wpAny (model X.prog X.w) X.A (eval (.Name x pos) X.env) Q E s:=by
 obtain ⟨mb,h1,h2⟩:=I.mod.blt;exact Calls.Name_function_global I.ok.kind hg (Calls.loadGlobal_builtin (by rw[I.ok.glob];exact I.mod.glob.keeps I.bk) hm (by rw[I.ok.blt];exact h1.keeps I.bk) ((h2 x hn).trans hv) h) hd
variable {a b:Expr} {ta tb:TE} {pos:Pos}
def PC (X:Cx) (op:CmpOp) (a b:Expr) (t:TE):Prop :=
 ∀ (zB:List (Addr × Obj)) (s:Shared) (σ:St) (H:Hp) (Q:VK),Inv X zB σ H s->t σ H Q ->
  wpAny (model X.prog X.w) X.A (eval a X.env) (fun v s₁=>wpAny (model X.prog X.w) X.A (eval b X.env) (fun u s₂=>wpAny (model X.prog X.w) X.A (compareOp op v u) (EP X zB σ Q) X.xe s₂) X.xe s₁) X.xe s
def tB (t:TE):TT:=fun σ H Q=>t σ H fun x H1=>∃ c,x=.bl c/\Q c H1
theorem zQc {op:CmpOp} {t:TE} (h:PC X op a b t) (h1:behindInMarks op b=false:=by first|exact nobehind _ (by decide) (by decide)|rfl):PT X (.Compare a [op] [b] pos) (tB t):=by
 intro zB s σ H Q I hw;refine wpAny_isTrue_Compare1 (thn (h zB s σ H _ I hw) fun v s1 h1=>thn h1 fun u s2 h2=>thn h2 fun c s3 ⟨x,H1,I1,r1,q1⟩=>?_) h1;obtain ⟨d,rfl,q⟩:=q1;cases r1;exact wpAny_truthy_bool ⟨H1,I1,q⟩
theorem zSz {e:Expr} {t:TE} (h:PE X e t) (he:∀ whole,isTrue e X.env whole=(do let v <- whole;standAt e.pos;holding [v] (truthy v)):=by intro _;rfl):PT X e (tB t):=by
 intro zB s σ H Q I hw;refine isTrue_plain (thn (h zB s σ H _ I hw) fun v s1 ⟨x,H1,I1,r1,q1⟩=>?_) (he _);obtain ⟨d,rfl,q⟩:=q1;cases r1;exact wpAny_truthy_bool ⟨H1,I1,q⟩
variable {tA tB':TT} {rest:List Expr}
def zVn (t u:TT):TT:=fun σ H Q=>t σ H fun c H1=>if c=true then u σ H1 Q else Q false H1
def tOr (t u:TT):TT:=fun σ H Q=>t σ H fun c H1=>if c=true then Q true H1 else u σ H1 Q
def zV3 (t:TT):TT:=fun σ H Q=>t σ H fun c H1=>Q (!c) H1
theorem zQz (ha:PT X a tA):PW X (.BoolOp .And [a] pos) tA:=by
 intro wh zB s σ H Q I h;refine isTrue_and (thn (ha zB s σ H Q I h) fun c s1 e=>?_);cases c with
 |true=>exact isTrue_and_nil e
 |false=>exact e
theorem zSl (ha:PT X a tA):PW X (.BoolOp .Or [a] pos) tA:=by
 intro wh zB s σ H Q I h;refine isTrue_or (thn (ha zB s σ H Q I h) fun c s1 e=>?_);cases c with
 |false=>exact isTrue_or_nil e
 |true=>exact e
theorem zTJ (ha:PT X a tA) (hb:PW X (.BoolOp .And (b::rest) pos) tB'):PW X (.BoolOp .And (a::b::rest) pos) (zVn tA tB'):=by
 intro wh zB s σ H Q I h;refine isTrue_and (thn (ha zB s σ H _ I h) fun c s1 ⟨H1,I1,q1⟩=>?_);cases c with
 |true=>exact hb wh zB s1 σ H1 Q I1 q1
 |false=>exact ⟨H1,I1,q1⟩
theorem zUs (ha:PT X a tA) (hb:PW X (.BoolOp .Or (b::rest) pos) tB'):PW X (.BoolOp .Or (a::b::rest) pos) (tOr tA tB'):=by
 intro wh zB s σ H Q I h;refine isTrue_or (thn (ha zB s σ H _ I h) fun c s1 ⟨H1,I1,q1⟩=>?_);cases c with
 |true=>exact ⟨H1,I1,q1⟩
 |false=>exact hb wh zB s1 σ H1 Q I1 q1
theorem zSy (ha:PT X a tA):PT X (.UnaryOp .Not a pos) (zV3 tA):=by
 intro zB s σ H Q I h;exact isTrue_not (ha zB s σ H (fun c H1=>Q (!c) H1) I h)
def tIf (t:TT) (ta tb:TE):TE:=fun σ H Q=>t σ H fun c H1=>if c=true then ta σ H1 Q else tb σ H1 Q
theorem zQE {c:Expr} (hc:PT X c tA) (ha:PE X a ta) (hb:PE X b tb):PE X (.IfExp c a b pos) (tIf tA ta tb):=by
 intro zB s σ H Q I h;refine wpAny_IfExp (thn (hc zB s σ H _ I h) fun d s1 ⟨H1,I1,q1⟩=>?_);cases d with
 |true=>exact ha zB s1 σ H1 Q I1 q1
 |false=>exact hb zB s1 σ H1 Q I1 q1
end
def SqL (K:PySem.W.Frag) (H:Hp) (a:Addr) (xs:List V):Prop :=
 Rd H a (.lst xs) \/
  ∃ (o:Obj) (its:Array Value) (n:Nat),K.lookup a=some o/\o.cls=.type "list" /\ o.dict=none/\o.data=.seq its n/\its.size<=sizeLine/\ze xs its.toList
def SqT (K:PySem.W.Frag) (H:Hp) (a:Addr) (xs:List V):Prop :=
 Rd H a (.tup xs) \/
  ∃ (o:Obj) (its:Array Value) (n:Nat),K.lookup a=some o/\o.cls=.type "tuple" /\ o.data=.seq its n/\its.size<=sizeLine/\ze xs its.toList
def zVt:Value->Option V
 |.none=>some .non
 |.bool b=>some (.bl b)
 |.int i _=>some (.int i)
 |.str x _=>some (.str x)
 |.bytes b _=>some (.byt b)
 |.float b _=>some (.flt b)
 |.ref a=>some (.ref a)
 |.type n=>some (.ty n)
 |_=>none
theorem zk.abs {x:V} {u:Value} (r:zk x u):zVt u=some x:=by
 cases x with
 |non=>cases r;rfl
 |bl _=>cases r;rfl
 |int _=>obtain ⟨t,rfl⟩:=r;rfl
 |str _=>obtain ⟨t,rfl⟩:=r;rfl
 |byt _=>obtain ⟨t,rfl⟩:=r;rfl
 |flt _=>obtain ⟨t,rfl⟩:=r;rfl
 |ref _=>cases r;rfl
 |ty _=>cases r;rfl
theorem zk.inj {x y:V} {u:Value} (r:zk x u) (q:zk y u):x=y:=zW8 (r.abs.symm.trans q.abs)
theorem ze.inj:∀ {xs ys:List V} {us:List Value},ze xs us->ze ys us->xs=ys
 |_,_,_,.nil,.nil=>rfl
 |_,_,_,.cons r t,.cons r' t'=>by rw[r.inj r',ze.inj t t']
section
variable {X:Cx} {zB:List (Addr × Obj)} {σ:St} {H:Hp} {s:Shared} {a:Addr} {xs ys:List V}
theorem SqL.of {K:PySem.W.Frag} (h:H a=some (.lst xs)):SqL K H a xs:=.inl (.inl h)
theorem SqT.of {K:PySem.W.Frag} (h:H a=some (.tup xs)):SqT K H a xs:=.inl (.inl h)
theorem Inv.list (I:Inv X zB σ H s) (h:SqL X.K H a xs):∃ its:List Value,ze xs its/\PlainL s.heap a its.toArray/\xs.length<=sizeLine:=by
 rcases h with h|⟨o,its,n,hk,hc,hd,hs,hz,r⟩
 ·obtain ⟨z,its,n,r,e⟩:=h.ok I.hok;exact ⟨its,r,⟨_,n,e,rfl,rfl,rfl⟩,z⟩
 ·refine ⟨its.toList,r,⟨o,n,I.kIn a o hk,hc,hd,by simpa using hs⟩,?_⟩;have e:=r.length;simp only[zWr]at e;omega
theorem Inv.tuple (I:Inv X zB σ H s) (h:SqT X.K H a xs):∃ its:List Value,ze xs its/\IsTup s.heap a its.toArray/\xs.length<=sizeLine:=by
 rcases h with h|⟨o,its,n,hk,hc,hs,hz,r⟩
 ·obtain ⟨z,its,r,p⟩:=h.ok I.hok;exact ⟨its,r,p.tup,z⟩
 ·refine ⟨its.toList,r,⟨o,I.kIn a o hk,hc,n,by simpa using hs⟩,?_⟩;have e:=r.length;simp only[zWr]at e;omega
theorem Inv.list_inj (I:Inv X zB σ H s) (h:SqL X.K H a xs) (h':SqL X.K H a ys):xs=ys:=by
 obtain ⟨its,r,⟨o,n,e,_,_,d⟩,_⟩:=I.list h;obtain ⟨its',r',⟨o',n',e',_,_,d'⟩,_⟩:=I.list h';rw[e]at e';cases e';rw[d]at d';injection d' with d1 _
 have:its=its':=by simpa using congrArg Array.toList d1
 subst this;exact r.inj r'
theorem Inv.tuple_inj (I:Inv X zB σ H s) (h:SqT X.K H a xs) (h':SqT X.K H a ys):xs=ys:=by
 obtain ⟨its,r,⟨o,e,_,n,d⟩,_⟩:=I.tuple h;obtain ⟨its',r',⟨o',e',_,n',d'⟩,_⟩:=I.tuple h';rw[e]at e';cases e';rw[d]at d';injection d' with d1 _
 have:its=its':=by simpa using congrArg Array.toList d1
 subst this;exact r.inj r'
end
abbrev Cx.wish (X:Cx) (E:Value->Shared->Prop):Cx:={ X with xe:=E }
abbrev Cx.nox (X:Cx):Cx:=X.wish fun _ _=>False
theorem Cx.Ok.wish {X:Cx} (ok:X.Ok) (E:Value->Shared->Prop):(X.wish E).Ok :=
 ⟨ok.mod,ok.kind,ok.glob,ok.blt,ok.above,ok.inj,ok.has,ok.cab,ok.hd,ok.frames,ok.stk,ok.exf,ok.bs,ok.bsz,ok.noex,ok.exfs,ok.funs,ok.frf⟩
theorem Cx.Ok.unwish {X:Cx} {E:Value->Shared->Prop} (ok:(X.wish E).Ok):X.Ok :=
 ⟨ok.mod,ok.kind,ok.glob,ok.blt,ok.above,ok.inj,ok.has,ok.cab,ok.hd,ok.frames,ok.stk,ok.exf,ok.bs,ok.bsz,ok.noex,ok.exfs,ok.funs,ok.frf⟩
section
variable {X:Cx} {zB:List (Addr × Obj)} {σ:St} {H:Hp} {s:Shared} {E:Value->Shared->Prop}
theorem Inv.wish (I:Inv X zB σ H s) (E:Value->Shared->Prop):Inv (X.wish E) zB σ H s:=⟨I.ok.wish E,I.os,I.bare,I.base,I.loc,I.cell,I.free,I.freeC,I.pin,I.hok,I.len⟩
theorem Inv.unwish (I:Inv (X.wish E) zB σ H s):Inv X zB σ H s:=⟨I.ok.unwish,I.os,I.bare,I.base,I.loc,I.cell,I.free,I.freeC,I.pin,I.hok,I.len⟩
theorem SP.unwish {D:Ends} {f:Flow} {s':Shared} (h:SP (X.wish E) zB D f s'):SP X zB D f s':=by
 cases f with
 |next=>obtain ⟨σ',H',I,q⟩:=h;exact ⟨σ',H',I.unwish,q⟩
 |brk=>obtain ⟨σ',H',I,q⟩:=h;exact ⟨σ',H',I.unwish,q⟩
 |cont=>obtain ⟨σ',H',I,q⟩:=h;exact ⟨σ',H',I.unwish,q⟩
 |ret u=>obtain ⟨v,σ',H',I,r,q⟩:=h;exact ⟨v,σ',H',I.unwish,r,q⟩
theorem PSs.nox {st:List Stmt} {t:TS} (h:PSs X.nox st t):PSs X st t:=fun zB s σ H D I hw=>
 zWe (h zB s σ H D (I.wish _) hw) (fun _ _ q=>q.unwish) fun _ _ z=>False.elim z
end
section
variable {X:Cx} {st:Stmt} {rest:List Stmt} {t u:TS} {e:Expr} {te:TE} {pos:Pos}
def zVN:TS:=fun D σ H=>D.nx σ H
def zVx (t u:TS):TS:=fun D σ H=>t { D with nx:=u D } σ H
theorem zSE:PSs X [] zVN:=fun _ _ σ H _ I h=>wpAny_execs_nil ⟨σ,H,I,h⟩
theorem zO4 (h1:PS X st t) (h2:PSs X rest u):PSs X (st::rest) (zVx t u):=by
 intro zB s σ H D I h;refine wpAny_execs_cons (thn (h1 zB s σ H { D with nx:=u D } I h) fun f s1 q=>?_);cases f with
 |next=>
  obtain ⟨σ',H',I',q⟩:=q;exact h2 zB s1 σ' H' D I' q
 |ret v=>exact q
 |brk=>exact q
 |cont=>exact q
theorem zRr (h1:PS X st t):PSs X [st] t:=by
 intro zB s σ H D I h;refine wpAny_execs_cons (thn (h1 zB s σ H D I h) fun f s1 q=>?_);cases f with
 |next=>exact wpAny_execs_nil q
 |ret v=>exact q
 |brk=>exact q
 |cont=>exact q
theorem Inv.quiet {zB:List (Addr × Obj)} {σ:St} {H:Hp} {s:Shared} (I:Inv X zB σ H s):interactive X.env=false:=by simp[interactive,I.ok.kind]
def zUx (te:TE):TS:=fun D σ H=>te σ H fun _ H1=>D.nx σ H1
theorem zRn (he:PE X e te) (hs:swapsWith e none pos.line X.env=pure false:=by rfl):PS X (.Expr e pos) (zUx te):=by
 intro zB s σ H D I h;exact wpAny_Expr_any (thn (he zB s σ H _ I h) fun v s1 ⟨x,H1,I1,r1,q1⟩=>⟨σ,H1,I1,q1⟩) I.quiet hs
def zVy (te:TE):TS:=fun D σ H=>te σ H D.rt
theorem zTt (he:PE X e te):PS X (.Return (some e) pos) (zVy te):=by
 intro zB s σ H D I h;exact wpAny_Return_some (thn (he zB s σ H _ I h) fun v s1 ⟨x,H1,I1,r1,q1⟩=>⟨x,σ,H1,I1,r1,q1⟩)
def zVw (c:TT) (t u:TS):TS:=fun D σ H=>c σ H fun b H1=>if b=true then t D σ H1 else u D σ H1
theorem zVA {c:Expr} {a b:List Stmt} {tc:TT} (hc:PT X c tc) (ha:PSs X a t) (hb:PSs X b u):PS X (.If c a b pos) (zVw tc t u):=by
 intro zB s σ H D I h;refine wpAny_If (thn (hc zB s σ H _ I h) fun d s1 ⟨H1,I1,q1⟩=>?_);cases d with
 |true=>exact ha zB s1 σ H1 D I1 q1
 |false=>exact hb zB s1 σ H1 D I1 q1
end
abbrev TG:=V->St->Hp->(St->Hp->Prop)->Prop
abbrev TGs:=List V->St->Hp->(St->Hp->Prop)->Prop
def PG (X:Cx) (target:Expr) (t:TG):Prop :=
 ∀ (zB:List (Addr × Obj)) (s:Shared) (σ:St) (H:Hp) (v:V) (u:Value) (Q:St->Hp->Prop),Inv X zB σ H s->zk v u->t v σ H Q ->
  wpAny (model X.prog X.w) X.A (assign target X.env u) (fun _ s'=>∃ σ' H',Inv X zB σ' H' s'/\Q σ' H') X.xe s
def PGs (X:Cx) (ts:List Expr) (t:TGs):Prop :=
 ∀ (zB:List (Addr × Obj)) (s:Shared) (σ:St) (H:Hp) (vs:List V) (us:List Value) (Q:St->Hp->Prop),Inv X zB σ H s->ze vs us->t vs σ H Q ->
  wpAny (model X.prog X.w) X.A (assignInOrder ((assignEach ts X.env).map (·.2)) us) (fun _ s'=>∃ σ' H',Inv X zB σ' H' s'/\Q σ' H') X.xe s
abbrev zSu:=V->V->V->Hp->(Hp->Prop)->Prop
def zUY (X:Cx) (t:zSu):Prop :=
 ∀ (zB:List (Addr × Obj)) (s:Shared) (σ:St) (H:Hp) (o i v:V) (ov iv u:Value) (Q:Hp->Prop),Inv X zB σ H s->zk o ov->zk i iv->zk v u->t o i v H Q ->
  wpAny (model X.prog X.w) X.A (setItem ov iv u) (fun _ s'=>∃ H',Inv X zB σ H' s'/\Q H') X.xe s
section
variable {X:Cx} {pos:Pos}
def zDk (i:Nat):TG:=fun v σ H Q=>Q (σ.set i (some v)) H
theorem zJT {i:Nat} {x:Str} (hN:X.N.Nodup) (hi:X.N[i]?=some x) (hx:Loc X.env.scope x) (hf:X.fn x=true\/X.env.scope.names.lookup x=some .local:=by first|exact .inl rfl|exact .inr rfl|assumption):PG X (.Name x pos) (zDk i):=by
 intro zB s σ H v u Q I r h;exact wpAny_assign_Name (zKP I hN hi hx r (fun s' I'=>⟨_,H,I',h⟩) hf)
def zU3:TGs:=fun vs σ H Q=>vs=[]/\Q σ H
def zQJ (t:TG) (u:TGs):TGs:=fun vs σ H Q=>∃ v r,vs=v::r/\t v σ H fun σ' H'=>u r σ' H' Q
theorem zRS:PGs X [] zU3:=by
 intro zB s σ H vs us Q I r h;obtain ⟨e,h⟩:=h;subst e;cases r;exact assignInOrder_nil ⟨σ,H,I,h⟩
theorem zQQ {e:Expr} {es:List Expr} {t:TG} {u:TGs} (h1:PG X e t) (h2:PGs X es u)
  (hs:(assignEach (e::es) X.env).map (·.2)=assign e X.env::(assignEach es X.env).map (·.2):=by rfl):PGs X (e::es) (zQJ t u):=by
 intro zB s σ H vs us Q I r h;obtain ⟨v,vr,e1,h⟩:=h;subst e1;cases r with
 |cons r rr=>
  rw[hs];refine assignInOrder_cons (thn (h1 zB s σ H _ _ _ I r h) fun _ s1 ⟨σ1,H1,I1,q1⟩=>?_);exact h2 zB s1 σ1 H1 _ _ Q I1 rr q1
def zUn (K:PySem.W.Frag) (n:Nat) (t:TGs):TG:=fun v σ H Q=>∃ a xs,v=.ref a/\SqT K H a xs/\xs.length=n/\t xs σ H Q
theorem zSj {es:List Expr} {k:Nat} {t:TGs} {n:Nat} (hc:X.calm=true) (h:PGs X es t)
  (hn:(assignEach es X.env).length=n:=by rfl) (hst:(assignEach es X.env).findIdx? (·.1)=none:=by rfl):PG X (.Tuple es k pos) (zUn X.K n t):=by
 intro zB s σ H v u Q I r hw;obtain ⟨a,xs,e1,hq,hl,hw⟩:=hw;subst e1;cases r;obtain ⟨its,rv,ht,hz⟩:=I.tuple hq;refine assign_Tuple_tuple (I.ok.hd hc) ht (by simp[hn,<-hl,rv.length]) hst fun h' hx=>?_;have I1:Inv X zB σ H { s with heap:=h' }:=I.kept (t':=s.toks) fun b o e=>hx b o (zWT (zWJ e)) e;exact h zB _ σ H xs _ Q I1 (by simpa using rv) hw
def zVg (to ti:TE) (t:zSu):TG:=fun v σ H Q=>to σ H fun o H1=>ti σ H1 fun i H2=>t o i v H2 fun H3=>Q σ H3
theorem zT3 {o i:Expr} {to ti:TE} {t:zSu} (ho:PE X o to) (hi:PE X i ti) (hs:zUY X t)
  (ha:∀ v,assign (.Subscript o i pos) X.env v=(do
   let ov <- holding [v] (eval o X.env);let iv <- holding [v,ov] (eval i X.env);standAt pos;holding [v,ov,iv] (setItem ov iv v);release [v,ov,iv] []):=by intro _;rfl):PG X (.Subscript o i pos) (zVg to ti t):=by
 intro zB s σ H v u Q I r h;rw[ha];refine zV8 (zW1 (thn (ho zB s σ H _ I h) fun ov s1 ⟨x,H1,I1,r1,q1⟩=>?_));refine zV8 (zW1 (thn (hi zB s1 σ H1 _ I1 q1) fun iv s2 ⟨y,H2,I2,r2,q2⟩=>?_));refine zV8 (zW6 (zV8 (zW1 (thn (hs zB s2 σ H2 x y v ov iv u _ I2 r1 r2 r q2) fun _ s3 ⟨H3,I3,q3⟩=>?_))));exact wpAny_release ⟨σ,H3,I3,q3⟩
def zPz (te:TE) (g:TG):TS:=fun D σ H=>te σ H fun x H1=>g x σ H1 D.nx
theorem zPe {tg e:Expr} {te:TE} {g:TG} (he:PE X e te) (hg:PG X tg g) (hs:swapsWithSole [tg] e pos.line X.env=pure false:=by rfl) (hw:swappedStores [tg] e X.env=pure none:=by rfl)
  (h1:(assignEach [tg] X.env).map (·.2)=[assign tg X.env]:=by rfl):PS X (.Assign [tg] e pos) (zPz te g):=by
 intro zB s σ H D I h;refine wpAny_Assign_stores (thn (he zB s σ H _ I h) fun v s1 ⟨x,H1,I1,r1,q1⟩=>?_) hs hw;rw[h1];exact thn (hg zB s1 σ H1 x v _ I1 r1 q1) fun _ s2 q=>q
theorem zTW {i:Nat} {x:Str} {e:Expr} {te:TE} {pos':Pos} (hN:X.N.Nodup) (hi:X.N[i]?=some x) (hx:Loc X.env.scope x) (he:PE X e te) (hs:swapsWith e (some (.Name x pos')) pos.line X.env=pure false:=by rfl) (hf:X.fn x=true\/X.env.scope.names.lookup x=some .local:=by first|exact .inl rfl|exact .inr rfl|assumption) :
  PS X (.Assign [.Name x pos'] e pos) (zPz te (zDk i)):=by
 intro zB s σ H D I h;refine wpAny_Assign_Name (thn (he zB s σ H _ I h) fun v s1 ⟨y,H1,I1,r1,q1⟩=>?_) hs;exact zKP I1 hN hi hx r1 (fun s2 I2=>⟨_,H1,I2,q1⟩) hf
def zOu (c:TT) (tb:TS):TS:=fun D σ H=>∃ W:Nat->St->Hp->Prop,(∃ m,W m σ H) /\ ∀ m σ H,W m σ H ->
 c σ H fun b H1=>if b=true then ∃ N:St->Hp->Prop,(∀ σ' H',N σ' H' -> ∃ m',m'<m/\W m' σ' H')/\tb { D with nx:=N,ct:=N,bk:=D.nx } σ H1 else D.nx σ H1
theorem zPM {c:Expr} {body:List Stmt} {tc:TT} {tb:TS} (hp:PassesOwn (model X.prog X.w) X.A X.env X.xe) (hc:PT X c tc) (hb:PSs X body tb):PS X (.While c body [] pos) (zOu tc tb):=by
 intro zB s σ H D I h;obtain ⟨W,⟨m0,w0⟩,turn⟩:=h;refine wpAny_While (codeAny_whileLoop (fun n s'=>∃ σ' H',Inv X zB σ' H' s'/\W n σ' H') ?_ m0 ⟨σ,H,I,w0⟩);rintro n s1 ⟨σ1,H1,I1,w1⟩;refine wpAny_passesOwn hp (thn (hc zB s1 σ1 H1 _ I1 (turn n σ1 H1 w1)) fun b s2 ⟨H2,I2,q2⟩=>?_);cases b with
 |true=>
  obtain ⟨N,hN,q2⟩:=q2;rw[zWN rfl];refine wpAny_passesOwn hp (thn (hb zB s2 σ1 H2 _ I2 q2) fun f s3 q3=>?_);cases f with
  |next=>
   obtain ⟨σ3,H3,I3,n3⟩:=q3;obtain ⟨m',hm,w3⟩:=hN σ3 H3 n3;exact ⟨m',hm,σ3,H3,I3,w3⟩
  |cont=>
   obtain ⟨σ3,H3,I3,n3⟩:=q3;obtain ⟨m',hm,w3⟩:=hN σ3 H3 n3;exact ⟨m',hm,σ3,H3,I3,w3⟩
  |brk=>exact q3
  |ret v=>exact q3
 |false=>
  rw[zWQ zWU];exact wpAny_execs_nil ⟨σ1,H2,I2,q2⟩
end
structure It where
 go:Nat->Hp->Prop
 yld:Nat->Hp->V->Hp->Prop
 stop:Nat->Hp->Prop
def zCL (X:Cx) (zB:List (Addr × Obj)) (H:Hp) (b:Addr):Prop :=
 H b=none/\b≠X.env.locals/\b∉X.fs/\(b∈X.ex\/X.s₀.heap.objs.size<=b)/\(∀ x c,X.env.cells.lookup x=some c->c≠b) /\ ∀ p∈X.pn++zB,p.1≠b
theorem Inv.fpOk {X:Cx} {zB:List (Addr × Obj)} {σ:St} {H H':Hp} {s:Shared} {b:Addr} (I:Inv X zB σ H s) (hb:s.heap.objs.size<=b) (hn:H' b=none):zCL X zB H' b:=by
 refine ⟨hn,zXd (zWX I.lt hb),I.nofs hb,.inr (zWZ I.sz hb),fun x c e z=>?_,fun p hp z=>?_⟩
 ·obtain ⟨v,q⟩:=I.cell x c e;exact absurd (zWX q.lt (by rw[z];exact hb)) (zWq _)
 ·exact absurd (zWX (zWJ (I.pin p hp).1) (by rw[z];exact hb)) (zWq _)
structure Turn (P:Program) (w:World) (K:PySem.W.Frag) (tg:Expr) (J:It) (fp:List Addr) (it:Addr) (tn:Nat->Heap->Prop):Prop where
 mem:it∈fp
 obj:∀ i h,tn i h -> ∀ b∈fp,∃ o,h.get? b=some o /\ ∀ v,o.data≠.cell v
 keep:∀ i h h',tn i h->(∀ b∈fp,∀ o,h.get? b=some o->h'.get? b=some o)->tn i h'
 item:∀ (X:Cx),X.prog=P->X.w=w->X.K=K->X.calm=true -> ∀ (i:Nat) (zB:List (Addr × Obj)) (s:Shared) (σ:St) (H:Hp) (E:Value->Shared->Prop),Inv X zB σ H s->(∀ b∈fp,zCL X zB H b)->tn i s.heap->J.go i H ->
  wpAny (model P w) X.A (pyNext (.ref it)) (fun r s1=>∃ u,r=some u /\
   wpAny (model P w) X.A (letOwnedTupleGo tg (.ref it) u) (fun _ s2=>∃ x H',Inv X zB σ H' s2/\zk x u/\J.yld i H x H'/\tn (i+1) s2.heap /\ ∀ b∈fp,H' b=none) E s1) E s
 done:∀ (X:Cx),X.prog=P->X.w=w->X.K=K->X.calm=true -> ∀ (i:Nat) (zB:List (Addr × Obj)) (s:Shared) (σ:St) (H:Hp) (E:Value->Shared->Prop),Inv X zB σ H s->(∀ b∈fp,zCL X zB H b)->tn i s.heap->J.stop i H ->
  wpAny (model P w) X.A (pyNext (.ref it)) (fun r s1=>r=none/\Inv X zB σ H s1) E s
 self:∀ (A:Around) (i:Nat) (s:Shared) (Q:Value->Shared->Prop) (E:Value->Shared->Prop),tn i s.heap->Q (.ref it) s->wpAny (model P w) A (pyIter (.ref it)) Q E s
abbrev TI:=St->Hp->(It->Hp->Prop)->Prop
def PIE (X:Cx) (zB:List (Addr × Obj)) (σ:St) (tg:Expr) (R:It->Hp->Prop) (itv:Value) (s2:Shared):Prop :=
 ∃ (it:Addr) (fp:List Addr) (tn:Nat->Heap->Prop) (J:It) (H':Hp),itv=.ref it/\Inv X zB σ H' s2/\Turn X.prog X.w X.K tg J fp it tn/\tn 0 s2.heap/\(∀ b∈fp,zCL X zB H' b)/\R J H'
def PI (X:Cx) (tg iter:Expr) (wi:TI):Prop :=
  ∀ (zB:List (Addr × Obj)) (s:Shared) (σ:St) (H:Hp) (R:It->Hp->Prop),Inv X zB σ H s->wi σ H R ->
    wpAny (model X.prog X.w) X.A (eval iter X.env) (fun v s1=>wpAny (model X.prog X.w) X.A (pyIter v) (PIE X zB σ tg R) X.xe s1) X.xe s
theorem zPj {M:Model} {A:Around} {E:Value->Shared->Prop} {s:Shared} {tg:Expr} {it:Addr} {u:Value} {o:Obj} {n:String} {vs:Array Value} {Q:Unit->Shared->Prop} (ho:s.heap.get? it=some o) (hc:o.cls=.type n) (hd:o.data=.fields vs)
    (hn:["enumerate", "zip", "dict_itemiterator", "dict_reverseitemiterator", "odict_iterator", "itertools.zip_longest", "itertools.pairwise"].contains n=false) (hQ:Q () s):wpAny M A (letOwnedTupleGo tg (.ref it) u) Q E s:=by
  unfold letOwnedTupleGo
  cases tg <;> first
    |exact zWA hQ
    | (cases u <;> first
        |exact zWA hQ
        | (refine zV8 (wpAny_load ho ?_)
           rw[hc,hd];show wpAny M A (if (["enumerate", "zip", "dict_itemiterator", "dict_reverseitemiterator", "odict_iterator", "itertools.zip_longest", "itertools.pairwise"].contains n&&vs[0]?==some (rawInt _))=true then _ else _) Q E s;rw[zWQ (by intro h;rw[hn,Bool.false_and]at h;cases h)];exact zWA hQ))
def Itl (K:PySem.W.Frag) (a:Addr):It :=
 ⟨fun i H=>∃ xs x,SqL K H a xs/\xs[i]?=some x,fun i H x H'=>H'=H /\ ∀ xs,SqL K H a xs->xs[i]?=some x,fun i H=>∃ xs,SqL K H a xs/\xs.length<=i⟩
def Itt (K:PySem.W.Frag) (a:Addr):It :=
 ⟨fun i H=>∃ xs x,SqT K H a xs/\xs[i]?=some x,fun i H x H'=>H'=H /\ ∀ xs,SqT K H a xs->xs[i]?=some x,fun i H=>∃ xs,SqT K H a xs/\xs.length<=i⟩
def Itr (lo:Int) (n:Nat):It:=⟨fun i _=>i<n,fun i H x H'=>H'=H/\x=.int (lo+i),fun i _=>n<=i⟩
theorem zNp {P:Program} {w:World} {K:PySem.W.Frag} {tg:Expr} (a it:Addr):Turn P w K tg (Itl K a) [it] it (fun i h=>h.IsListIter it a i) where
 mem:=by simp
 obj:=fun i h st b hb=>by
  have e:b=it:=by simpa using hb
  subst e;obtain ⟨o,e,c,d⟩:=st;exact ⟨o,e,fun v z=>by rw[d]at z;cases z⟩
 keep:=fun i h h' st k=>st.at fun o e=>k it (by simp) o e;item:=by
  intro X hP hw hK hc i zB s σ H E I hf st hg;subst hP hw hK;obtain ⟨xs,x,hq,hx⟩:=hg;obtain ⟨its,rv,p,hz⟩:=I.list hq;obtain ⟨u,hu,ru⟩:=rv.get hx;obtain ⟨f0,f1,f2,f3,f4,f5⟩:=hf it (by simp);refine wpAny_pyNext_list_item st p.isList (x:=u) (by simpa using hu) fun h' st' sb=>?_;have I1:Inv X zB σ H { s with heap:=h' }:=I.turned (t':=s.toks) (fun b o hb e=>(sb.2 b hb).trans e) f0 f1 f3 f4 f5;obtain ⟨o,e,c,d⟩:=id st';exact ⟨u,rfl,zPj (s:={ s with heap:=h' }) e c d (by decide) ⟨x,H,I1,ru,⟨rfl,fun ys hy=>by rw[I.list_inj hy hq];exact hx⟩,st',fun b hb=>(hf b hb).1⟩⟩
 done:=by
  intro X hP hw hK hc i zB s σ H E I hf st hg;subst hP hw hK;obtain ⟨xs,hq,hx⟩:=hg;obtain ⟨its,rv,p,hz⟩:=I.list hq;obtain ⟨f0,f1,f2,f3,f4,f5⟩:=hf it (by simp);have hl:=rv.length;exact wpAny_pyNext_list_end (I.ok.hd hc) st p.isList (by simp;omega) fun h' eb=>⟨rfl,I.turned (t':=s.toks) (fun b o hb e=>eb b o hb e) f0 f1 f3 f4 f5⟩
 self:=fun _ _ _ _ _ st h=>wpAny_pyIter_listiter st h
theorem zMj {P:Program} {w:World} {K:PySem.W.Frag} {tg:Expr} (a it:Addr):Turn P w K tg (Itt K a) [it] it (fun i h=>h.IsTupleIter it a i) where
 mem:=by simp
 obj:=fun i h st b hb=>by
  have e:b=it:=by simpa using hb
  subst e;obtain ⟨o,e,c,d⟩:=st;exact ⟨o,e,fun v z=>by rw[d]at z;cases z⟩
 keep:=fun i h h' st k=>st.at fun o e=>k it (by simp) o e;item:=by
  intro X hP hw hK hc i zB s σ H E I hf st hg;subst hP hw hK;obtain ⟨xs,x,hq,hx⟩:=hg;obtain ⟨its,rv,p,hz⟩:=I.tuple hq;obtain ⟨u,hu,ru⟩:=rv.get hx;obtain ⟨f0,f1,f2,f3,f4,f5⟩:=hf it (by simp);refine wpAny_pyNext_tuple_item st (show s.heap.IsTuple a its.toArray from p) (x:=u) (by simpa using hu) fun h' st' sb=>?_;have I1:Inv X zB σ H { s with heap:=h' }:=I.turned (t':=s.toks) (fun b o hb e=>(sb.2 b hb).trans e) f0 f1 f3 f4 f5;obtain ⟨o,e,c,d⟩:=id st';exact ⟨u,rfl,zPj (s:={ s with heap:=h' }) e c d (by decide) ⟨x,H,I1,ru,⟨rfl,fun ys hy=>by rw[I.tuple_inj hy hq];exact hx⟩,st',fun b hb=>(hf b hb).1⟩⟩
 done:=by
  intro X hP hw hK hc i zB s σ H E I hf st hg;subst hP hw hK;obtain ⟨xs,hq,hx⟩:=hg;obtain ⟨its,rv,p,hz⟩:=I.tuple hq;obtain ⟨f0,f1,f2,f3,f4,f5⟩:=hf it (by simp);have hl:=rv.length;exact wpAny_pyNext_tuple_end (I.ok.hd hc) st (show s.heap.IsTuple a its.toArray from p) (by simp;omega) fun h' eb=>⟨rfl,I.turned (t':=s.toks) (fun b o hb e=>eb b o hb e) f0 f1 f3 f4 f5⟩
 self:=fun _ _ _ _ _ st h=>wpAny_pyIter_tupleiter st h
theorem zML {P:Program} {w:World} {K:PySem.W.Frag} {tg:Expr} (it:Addr) (lo:Int) (n:Nat):Turn P w K tg (Itr lo n) [it] it (fun i h=>IsRangeIter h it (lo+(i:Nat)*1) ((n:Int)-(i:Nat)) 1) where
 mem:=by simp
 obj:=fun i h st b hb=>by
  have e:b=it:=by simpa using hb
  subst e;exact ⟨_,st,fun v z=>by
   have z':Data.fields _=Data.cell v:=z;cases z'⟩
 keep:=fun i h h' st k=>k it (by simp) _ st;item:=by
  intro X hP hw hK hc i zB s σ H E I hf st hg;subst hP hw hK;obtain ⟨f0,f1,f2,f3,f4,f5⟩:=hf it (by simp);have W:=Walks.range (prog:=X.prog) (w:=X.w) (I.ok.hd hc) it lo 1 n;refine W.item i s _ _ hg st fun v h' tk hv st' kk=>?_;obtain ⟨t,rfl⟩:=hv;have I1:Inv X zB σ H { s with heap:=h',toks:=tk }:=I.turned (fun b o hb e=>kk b o (by simpa using hb) e) f0 f1 f3 f4 f5;refine ⟨_,rfl,zPj (s:={ s with heap:=h',toks:=tk }) (n := "range_iterator") st' rfl rfl (by decide) ⟨.int (lo+i),H,I1,⟨t,?_⟩,⟨rfl,rfl⟩,st',fun b hb=>(hf b hb).1⟩⟩;rw[Int.mul_one]
 done:=by
  intro X hP hw hK hc i zB s σ H E I hf st hg;subst hP hw hK;obtain ⟨f0,f1,f2,f3,f4,f5⟩:=hf it (by simp);exact wpAny_pyNext_range_end (I.ok.hd hc) st (by have:n<=i:=hg;omega) fun h' eb=>⟨rfl,I.turned (t':=s.toks) (fun b o hb e=>eb b o hb e) f0 f1 f3 f4 f5⟩
 self:=fun _ _ _ _ _ st h=>wpAny_pyIter_rangeiter st h
section
variable {X:Cx} {tg:Expr}
theorem zK7 {zB:List (Addr × Obj)} {σ:St} {H:Hp} {s:Shared} {R:It->Hp->Prop} {E:Value->Shared->Prop} {lo hi:Int} {t u v:Tok} {tk:Nat} (I:Inv X zB σ H s) (h1 : -(2 ^ 62)<=lo) (h2:lo<2 ^ 62) (h3 : -(2 ^ 62)<=hi) (h4:hi<2 ^ 62)
  (q:R (Itr lo (hi-lo).toNat) H):wpAny (model X.prog X.w) X.A (pyIter (.ref s.heap.objs.size)) (PIE X zB σ tg R) E { s with heap:=s.heap.push { cls:=.type "range", data:=.fields #[.int lo t,.int hi u,.int 1 v] },toks:=tk }:=by
 refine wpAny_pyIter_range (IsRange.new ..) (small_one h1 h2 h3 h4) ?_;have I1:Inv X zB σ H { s with heap:=s.heap.push { cls:=.type "range", data:=.fields #[.int lo t,.int hi u,.int 1 v] },toks:=tk }:=I.kept fun b o e=>zV9 _ e
 refine ⟨(s.heap.push { cls:=.type "range", data:=.fields #[.int lo t,.int hi u,.int 1 v] }).objs.size,[(s.heap.push { cls:=.type "range", data:=.fields #[.int lo t,.int hi u,.int 1 v] }).objs.size],_,_,H,rfl,
  I1.kept (t':=tk) fun b o e=>zV9 _ e,zML _ lo (hi-lo).toNat,?_,fun b hb=>?_,q⟩
 ·have e1:lo+((0:Nat):Int)*1=lo:=by simp
  have e2:(((hi-lo).toNat:Nat):Int)-((0:Nat):Int)=Builtin.Range.rangeSize lo hi 1:=by rw[rangeSize_one];split <;> omega
  show IsRangeIter _ _ (lo+((0:Nat):Int)*1) ((((hi-lo).toNat:Nat):Int)-((0:Nat):Int)) 1;rw[e1,e2];exact zWI _ rfl
 ·have e:b=(s.heap.push { cls:=.type "range", data:=.fields #[.int lo t,.int hi u,.int 1 v] }).objs.size:=by simpa using hb
  subst e;exact I1.fpOk (zWE _) (I1.hok.fresh (zWE _))
def zUP (ta:TA):TI:=fun σ H R=>ta σ H fun vs H1=>∃ j:Int,vs=[.int j] /\ -(2 ^ 62)<=j/\j<2 ^ 62/\R (Itr 0 j.toNat) H1
def zUc (ta:TA):TI:=fun σ H R=>ta σ H fun vs H1=>∃ i j:Int,vs=[.int i,.int j]/\(-(2 ^ 62)<=i/\i<2 ^ 62 /\ -(2 ^ 62)<=j/\j<2 ^ 62)/\R (Itr i (j-i).toNat) H1
theorem zOL {a:Expr} {ta:TA} {p pos:Pos} (hg:Gl X "range") (hm:X.mg "range" = none) (ha:PA X [a] ta) (hs:starEach [a] X.env=[(false,eval a X.env)]:=by rfl):PI X tg (.Call (.Name "range" p) [a] [] pos) (zUP ta):=by
 intro zB s σ H R I h;refine Call_ (zEr I hg hm boot_range (PyProof.Rows.callWith_type1 (thn (ha pos zB s σ H _ I h) fun us s1 ⟨vs,H1,I1,r1,q1⟩=>?_) hs rfl));obtain ⟨j,e,q1,q2,q⟩:=q1;subst e;cases r1 with
 |cons r rr=>
  cases rr;obtain ⟨t,rfl⟩:=r;exact call_range_1 (zK7 I1 (by omega) (by omega) q1 q2 (by simpa using q))
theorem zNl {a b:Expr} {ta:TA} {p pos:Pos} (hg:Gl X "range") (hm:X.mg "range" = none) (ha:PA X [a,b] ta) (hs:starEach [a,b] X.env=[(false,eval a X.env),(false,eval b X.env)]:=by rfl) (hs2:starEach [b] X.env=[(false,eval b X.env)]:=by rfl) :
  PI X tg (.Call (.Name "range" p) [a,b] [] pos) (zUc ta):=by
 intro zB s σ H R I h;refine Call_ (zEr I hg hm boot_range (PyProof.Rows.callWith_type1 (thn (ha pos zB s σ H _ I h) fun us s1 ⟨vs,H1,I1,r1,q1⟩=>?_) (by rw[hs,hs2]) (by rw[hs2];rfl)));obtain ⟨i,j,e,⟨q1,q2,q3,q4⟩,q⟩:=q1;subst e;cases r1 with
 |cons r rr=>
  cases rr with
  |cons r' rr=>
   cases rr;obtain ⟨t,rfl⟩:=r;obtain ⟨t',rfl⟩:=r';exact call_range_2 (zK7 I1 q1 q2 q3 q4 q)
def zUm (wi:TI) (g:TG) (tb:TS):TS:=fun D σ H=>wi σ H fun J H1=>∃ W:Nat->Nat->St->Hp->Prop,(∃ m,W 0 m σ H1) /\ ∀ i m σ H,W i m σ H ->
 (J.stop i H/\D.nx σ H)\/(J.go i H /\ ∃ N:St->Hp->Prop,(∀ σ' H',N σ' H' -> ∃ m',m'<m/\W (i+1) m' σ' H') /\ ∀ x H',J.yld i H x H'->g x σ H' fun σ2 H2=>tb { D with nx:=N,ct:=N,bk:=D.nx } σ2 H2)
def zC3 (fp:List Addr) (h:Heap):List (Addr × Obj):=fp.filterMap fun b=>(h.get? b).map fun o=>(b,o)
theorem zAX {fp:List Addr} {h:Heap} {b:Addr} {o:Obj} (hb:b∈fp) (e:h.get? b=some o):(b,o)∈zC3 fp h:=List.mem_filterMap.mpr ⟨b,hb,by rw[e];rfl⟩
theorem zIr {fp:List Addr} {h:Heap} {p:Addr × Obj} (hp:p∈zC3 fp h):p.1∈fp/\h.get? p.1=some p.2:=by
 obtain ⟨b,hb,e⟩:=List.mem_filterMap.mp hp;cases q:h.get? b with
 |none=>rw[q]at e;cases e
 |some o=>
  rw[q]at e;have e':(b,o)=p:=zW8 e;subst e';exact ⟨hb,q⟩
theorem Inv.pinned {zB:List (Addr × Obj)} {σ:St} {H:Hp} {s:Shared} {fp:List Addr} (I:Inv X zB σ H s) (hf:∀ b∈fp,zCL X zB H b) (ho:∀ b∈fp,∃ o,s.heap.get? b=some o /\ ∀ v,o.data≠.cell v):Inv X (zB++zC3 fp s.heap) σ H s :=
 I.pins_of fun p hp=>(zWY.mp hp).elim (fun z=>I.pin p (zWS _ z)) fun z=>by
  obtain ⟨hb,e⟩:=zIr z;obtain ⟨f0,f1,f2,_⟩:=hf p.1 hb;obtain ⟨o,e',d⟩:=ho p.1 hb;rw[e]at e';cases e';exact ⟨e,f0,f1,f2,d⟩
theorem Inv.unpinned {zB pl:List (Addr × Obj)} {σ:St} {H:Hp} {s:Shared} (I:Inv X (zB++pl) σ H s):Inv X zB σ H s:=I.pins_of fun p hp=>I.pin p (zWS _ (zXN _ hp))
theorem zS4 {iter:Expr} {body:List Stmt} {wi:TI} {g:TG} {tb:TS} {pos:Pos} (hp:PassesOwn (model X.prog X.w) X.A X.env X.xe) (hc:X.calm=true) (hi:PI X tg iter wi) (hg:PG X tg g) (hb:PSs X body tb)
  (hs:∀ x,foldedSetIterable iter X.env x=pure x:=by intro _;rfl):PS X (.For tg iter body [] pos) (zUm wi g tb):=by
 intro zB s σ H D I h;refine wpAny_For (thn (hi zB s σ H _ I h) fun v s1 h1=>thn h1 fun itv s2 h2=>?_) hs;obtain ⟨it,fp,tn,J,H2,e,I2,T,st2,f2,W,⟨m0,w0⟩,turn⟩:=h2;subst e;have stat:∀ {H':Hp},(∀ b∈fp,H' b=none) -> ∀ b∈fp,zCL X zB H' b:=fun hn b hb=>⟨hn b hb,(f2 b hb).2⟩;refine codeAny_forLoop_any (fun n s'=>∃ i σ' H',Inv X zB σ' H' s'/\tn i s'.heap/\(∀ b∈fp,H' b=none)/\W i n σ' H') ?_ m0 ⟨0,σ,H2,I2,st2,fun b hb=>(f2 b hb).1,w0⟩;rintro n s3 ⟨i,σ3,H3,I3,st3,fr3,w3⟩;rcases turn i n σ3 H3 w3 with ⟨stop,qn⟩|⟨go,N,hN,step⟩
 ·refine wpAny_passesOwn hp (thn (T.done X rfl rfl rfl hc i zB s3 σ3 H3 X.xe I3 (stat fr3) st3 stop) fun r s4 ⟨hr,I4⟩=>?_);subst hr;exact wpAny_execs_nil ⟨σ3,H3,I4,qn⟩
 ·refine wpAny_passesOwn hp (thn (T.item X rfl rfl rfl hc i zB s3 σ3 H3 X.xe I3 (stat fr3) st3 go) fun r s4 ⟨u,hr,h4⟩=>?_);subst hr;refine wpAny_passesOwn hp (thn h4 fun _ s5 ⟨x,H5,I5,r5,y5,st5,fr5⟩=>?_);have I5':=I5.pinned (stat fr5) (T.obj _ _ st5);refine wpAny_passesOwn hp (thn (hg _ s5 σ3 H5 x u _ I5' r5 (step x H5 y5)) fun _ s6 ⟨σ6,H6,I6,q6⟩=>?_);refine wpAny_passesOwn hp (thn (hb _ s6 σ6 H6 _ I6 q6) fun f s7 q7=>?_);have again:∀ {σ7:St} {H7:Hp},Inv X (zB++zC3 fp s5.heap) σ7 H7 s7->N σ7 H7 -> ∃ m,m<n /\ ∃ i σ' H',Inv X zB σ' H' s7/\tn i s7.heap/\(∀ b∈fp,H' b=none)/\W i m σ' H':=fun {σ7 H7} I7 n7=>by
   obtain ⟨m',hm,w7⟩:=hN σ7 H7 n7;refine ⟨m',hm,i+1,σ7,H7,I7.unpinned,T.keep _ _ _ st5 fun b hb o e=>(I7.pin (b,o) (zWS _ (zWS _ (zAX hb e)))).1,fun b hb=>?_,w7⟩;obtain ⟨o,e,d⟩:=T.obj _ _ st5 b hb;exact (I7.pin (b,o) (zWS _ (zWS _ (zAX hb e)))).2.1
  cases f with
  |next=>obtain ⟨σ7,H7,I7,n7⟩:=q7;exact again I7 n7
  |cont=>obtain ⟨σ7,H7,I7,n7⟩:=q7;exact again I7 n7
  |brk=>obtain ⟨σ7,H7,I7,q7⟩:=q7;exact ⟨σ7,H7,I7.unpinned,q7⟩
  |ret v=>obtain ⟨x7,σ7,H7,I7,r7,q7⟩:=q7;exact ⟨x7,σ7,H7,I7.unpinned,r7,q7⟩
end
abbrev R2:=V->V->Hp->VK->Prop
def OpR (X:Cx) (f:Value->Value->Sem Value) (r:R2):Prop :=
 ∀ (zB:List (Addr × Obj)) (s:Shared) (σ:St) (H:Hp) (x y:V) (v u:Value) (Q:VK),Inv X zB σ H s->zk x v->zk y u->r x y H Q ->
  wpAny (model X.prog X.w) X.A (f v u) (EP X zB σ Q) X.xe s
def UnR (X:Cx) (f:Value->Sem Value) (r:V->Hp->VK->Prop):Prop :=
 ∀ (zB:List (Addr × Obj)) (s:Shared) (σ:St) (H:Hp) (x:V) (v:Value) (Q:VK),Inv X zB σ H s->zk x v->r x H Q ->
  wpAny (model X.prog X.w) X.A (f v) (EP X zB σ Q) X.xe s
def zCu (X:Cx) (f:Value) (r:List V->Hp->VK->Prop):Prop :=
 ∀ (zB:List (Addr × Obj)) (s:Shared) (σ:St) (H:Hp) (xs:List V) (us:List Value) (Q:VK),Inv X zB σ H s->ze xs us->r xs H Q ->
  wpAny (model X.prog X.w) X.A (call f us) (EP X zB σ Q) X.xe s
def zVb (X:Cx) (r:V->Hp->(Bool->Hp->Prop)->Prop):Prop :=
 ∀ (zB:List (Addr × Obj)) (s:Shared) (σ:St) (H:Hp) (x:V) (v:Value) (Q:Bool->Hp->Prop),Inv X zB σ H s->zk x v->r x H Q ->
  wpAny (model X.prog X.w) X.A (truthy v) (TP X zB σ Q) X.xe s
def tOp (r:R2) (ta tb:TE):TE:=fun σ H Q=>ta σ H fun x H1=>tb σ H1 fun y H2=>r x y H2 Q
def tUn (r:V->Hp->VK->Prop) (ta:TE):TE:=fun σ H Q=>ta σ H fun x H1=>r x H1 Q
def rI (C:Int->Int->Prop) (g:Int->Int->V):R2:=fun x y H Q=>∃ i j,x=.int i/\y=.int j/\C i j/\Q (g i j) H
def rI0 (g:Int->Int->V):R2:=fun x y H Q=>∃ i j,x=.int i/\y=.int j/\Q (g i j) H
def rU (g:Int->V):V->Hp->VK->Prop:=fun x H Q=>∃ i,x=.int i/\Q (g i) H
section
variable {X:Cx} {a b c:Expr} {ta tb tc:TE} {pos:Pos}
theorem zTe (ha:PE X a ta) (hb:PE X b tb) {zB:List (Addr × Obj)} {s:Shared} {σ:St} {H:Hp} {R:V->V->Hp->Prop} (I:Inv X zB σ H s)
  (h:ta σ H fun x H1=>tb σ H1 fun y H2=>R x y H2) {Q:Value->Shared->Prop} {f:Value->Value->Sem Value}
  (hf:∀ v u s2 x y H2,Inv X zB σ H2 s2->zk x v->zk y u->R x y H2->wpAny (model X.prog X.w) X.A (f v u) Q X.xe s2) :
  wpAny (model X.prog X.w) X.A (eval a X.env) (fun v s₁=>wpAny (model X.prog X.w) X.A (eval b X.env) (fun u s₂=>wpAny (model X.prog X.w) X.A (f v u) Q X.xe s₂) X.xe s₁) X.xe s:=by
 refine thn (ha zB s σ H _ I h) fun v s1 ⟨x,H1,I1,r1,q1⟩=>?_;refine thn (hb zB s1 σ H1 _ I1 q1) fun u s2 ⟨y,H2,I2,r2,q2⟩=>?_;exact hf v u s2 x y H2 I2 r1 r2 q2
theorem zUy {op:Operator} {r:R2} (ho:OpR X (binaryOp op) r) (ha:PE X a ta) (hb:PE X b tb):PE X (.BinOp a op b pos) (tOp r ta tb):=by
 intro zB s σ H Q I h;exact wpAny_BinOp (zTe ha hb I h fun v u s2 x y H2 I2 rx ry q=>ho zB s2 σ H2 x y v u Q I2 rx ry q)
theorem zVJ {op:UnaryOp} {r:V->Hp->VK->Prop} (ho:UnR X (unaryOp op) r) (ha:PE X a ta):PE X (.UnaryOp op a pos) (tUn r ta):=by
 intro zB s σ H Q I h;exact UnaryOp_ (thn (ha zB s σ H _ I h) fun v s1 ⟨x,H1,I1,r1,q1⟩=>ho zB s1 σ H1 x v Q I1 r1 q1)
theorem opI {f:Value->Value->Sem Value} {C:Int->Int->Prop} {g:Int->Int->Int}
  (rule:∀ (i j:Int) (t u:Tok) (s:Shared) (Q:Value->Shared->Prop) (E:Value->Shared->Prop),C i j->Q (.int (g i j) s.toks) { s with toks:=s.toks+1 }->wpAny (model X.prog X.w) X.A (f (.int i t) (.int j u)) Q E s) :
  OpR X f (rI C fun i j=> .int (g i j)):=by
 intro zB s σ H x y v u Q I rx ry h;obtain ⟨i,j,rfl,rfl,hc,q⟩:=h;obtain ⟨t,rfl⟩:=rx;obtain ⟨t',rfl⟩:=ry;exact rule i j t t' s _ _ hc ⟨.int (g i j),H,I.tok _,⟨_,rfl⟩,q⟩
theorem zUk {f:Value->Value->Sem Value} {g:Int->Int->Int}
  (rule:∀ (i j:Int) (t u:Tok) (s:Shared) (Q:Value->Shared->Prop) (E:Value->Shared->Prop),Q (.int (g i j) s.toks) { s with toks:=s.toks+1 }->wpAny (model X.prog X.w) X.A (f (.int i t) (.int j u)) Q E s) :
  OpR X f (rI0 fun i j=> .int (g i j)):=by
 intro zB s σ H x y v u Q I rx ry h;obtain ⟨i,j,rfl,rfl,q⟩:=h;obtain ⟨t,rfl⟩:=rx;obtain ⟨t',rfl⟩:=ry;exact rule i j t t' s _ _ ⟨.int (g i j),H,I.tok _,⟨_,rfl⟩,q⟩
theorem zSD {f:Value->Value->Sem Value} {g:Int->Int->Bool}
  (rule:∀ (i j:Int) (t u:Tok) (s:Shared) (Q:Value->Shared->Prop) (E:Value->Shared->Prop),Q (.bool (g i j)) s->wpAny (model X.prog X.w) X.A (f (.int i t) (.int j u)) Q E s) :
  OpR X f (rI0 fun i j=> .bl (g i j)):=by
 intro zB s σ H x y v u Q I rx ry h;obtain ⟨i,j,rfl,rfl,q⟩:=h;obtain ⟨t,rfl⟩:=rx;obtain ⟨t',rfl⟩:=ry;exact rule i j t t' s _ _ ⟨.bl (g i j),H,I,rfl,q⟩
def zV4 (i j:Int):Prop:=0<j/\j<1073741824
def zV7 (i j:Int):Prop:=0<=j/\j<=1000000/\i.natAbs<2 ^ 64
def zS8 (i j:Int):Prop:=(-(2 ^ 64)<i/\i<2 ^ 64)\/(-(2 ^ 64)<j/\j<2 ^ 64)
theorem zS8.ok {i j:Int} (h:zS8 i j):IntMulOk i j:=by
 rcases h with ⟨h1,h2⟩|⟨h1,h2⟩
 ·exact .of_left (intBits_le_64 h1 h2)
 ·exact .of_right (intBits_le_64 h1 h2)
theorem zTi:OpR X (binaryOp .Add) (rI0 fun i j=> .int (i+j)):=zUk fun _ _ _ _ _ _ _ q=>add_int q
theorem zTD:OpR X (binaryOp .Sub) (rI0 fun i j=> .int (i-j)):=zUk fun _ _ _ _ _ _ _ q=>sub_int q
theorem zSq:OpR X (binaryOp .Mult) (rI zS8 fun i j=> .int (i*j)):=opI fun _ _ _ _ _ _ _ hc q=>mul_int q hc.ok
theorem zQ2:OpR X (binaryOp .FloorDiv) (rI zV4 fun i j=> .int (i / j)):=opI fun i j _ _ _ _ _ hc q=>by
 have h1:(0:Int)<j:=hc.1;have h2:j<1073741824:=hc.2;exact floordiv_int (by omega) (by rw[Int.fdiv_eq_ediv_of_nonneg i (by omega)];exact q) (.inl (PyProof.noPylong_small (by omega)))
theorem zTl:OpR X (binaryOp .Mod) (rI (fun _ j=>0<j) fun i j=> .int (i % j)):=opI fun i j _ _ _ _ _ hc q=>by
 have h1:(0:Int)<j:=hc;exact mod_int' (by omega) (by rw[Int.fmod_eq_emod_of_nonneg i (by omega)];exact q)
theorem zSv:OpR X (binaryOp .Pow) (rI zV7 fun i j=> .int (i ^ j.toNat)):=opI fun _ _ _ _ _ _ _ hc q=>pow_int_small hc.1 hc.2.1 hc.2.2 q
theorem unI {f:Value->Sem Value} {g:Int->Int}
  (rule:∀ (i:Int) (t:Tok) (s:Shared) (Q:Value->Shared->Prop) (E:Value->Shared->Prop),Q (.int (g i) s.toks) { s with toks:=s.toks+1 }->wpAny (model X.prog X.w) X.A (f (.int i t)) Q E s) :
  UnR X f (rU fun i=> .int (g i)):=by
 intro zB s σ H x v Q I rx h;obtain ⟨i,rfl,q⟩:=h;obtain ⟨t,rfl⟩:=rx;exact rule i t s _ _ ⟨.int (g i),H,I.tok _,⟨_,rfl⟩,q⟩
theorem zSw:UnR X (unaryOp .USub) (rU fun i=> .int (-i)):=unI fun _ _ _ _ _ q=>neg_int q
end
def zQw:V->V->Bool
 |.non,.non=>true|.non,.int _=>true|.int _,.non=>true|.non,.bl _=>true|.bl _,.non=>true|.non,.str _=>true|.str _,.non=>true
 |.int _,.int _=>true|.bl _,.bl _=>true|.str _,.str _=>true|.byt _,.byt _=>true
 |.int _,.str _=>true|.str _,.int _=>true|.bl _,.str _=>true|.str _,.bl _=>true
 |_,_=>false
def rEq:R2:=fun x y H Q=>zQw x y=true/\Q (.bl (decide (x=y))) H
def rNe:R2:=fun x y H Q=>zQw x y=true/\Q (.bl (!decide (x=y))) H
theorem zNI {i j:Int}:decide (V.int i=V.int j)=(i==j):=by
 rw[Bool.eq_iff_iff];simp
theorem zPp {i j:Bool}:decide (V.bl i=V.bl j)=(i==j):=by
 rw[Bool.eq_iff_iff];simp
theorem zM8 {i j:Str}:decide (V.str i=V.str j)=(i==j):=by
 rw[Bool.eq_iff_iff];simp
theorem zMk {i j:Array UInt8}:decide (V.byt i=V.byt j)=(i.toList==j.toList):=by
 rw[Bool.eq_iff_iff];cases i;cases j;simp
section
variable {X:Cx} {a b c:Expr} {ta tb tc:TE} {pos:Pos}
theorem zy {zB:List (Addr × Obj)} {σ:St} {H:Hp} {s:Shared} {Q:VK} {k k':Bool} (I:Inv X zB σ H s) (q:Q (.bl k) H) (e:k=k'):EP X zB σ Q (.bool k') s:=by
 subst e;exact ⟨.bl k,H,I,rfl,q⟩
theorem zSU:OpR X (compareOp .Eq) rEq:=by
 intro zB s σ H x y v u Q I rx ry h;obtain ⟨hs,q⟩:=h;cases x with
 |non=>
  cases rx;cases y with
  |non=>cases ry;exact PySem.EqNone.eq_none_none (zy I q (by simp))
  |bl j=>cases ry;exact PySem.EqNone.eq_none_bool (zy I q (by simp))
  |int j=>obtain ⟨t',rfl⟩:=ry;exact PySem.EqNone.eq_none_int (zy I q (by simp))
  |str j=>obtain ⟨t',rfl⟩:=ry;exact PySem.EqNone.eq_none_str (zy I q (by simp))
  |_=>exact absurd (show false=true from hs) zWU
 |bl i=>
  cases rx;cases y with
  |non=>cases ry;exact PySem.EqNone.eq_bool_none (zy I q (by simp))
  |bl j=>cases ry;exact eq_bool (zy I q zPp)
  |str j=>obtain ⟨t',rfl⟩:=ry;exact PySem.EqMixed.eq_bool_str (zy I q (by simp))
  |_=>exact absurd (show false=true from hs) zWU
 |int i=>
  obtain ⟨t,rfl⟩:=rx;cases y with
  |non=>cases ry;exact PySem.EqNone.eq_int_none (zy I q (by simp))
  |int j=>obtain ⟨t',rfl⟩:=ry;exact eq_int (zy I q zNI)
  |str j=>obtain ⟨t',rfl⟩:=ry;exact PySem.EqMixed.eq_int_str (zy I q (by simp))
  |_=>exact absurd (show false=true from hs) zWU
 |str i=>
  obtain ⟨t,rfl⟩:=rx;cases y with
  |non=>cases ry;exact PySem.EqNone.eq_str_none (zy I q (by simp))
  |bl j=>cases ry;exact PySem.EqMixed.eq_str_bool (zy I q (by simp))
  |int j=>obtain ⟨t',rfl⟩:=ry;exact PySem.EqMixed.eq_str_int (zy I q (by simp))
  |str j=>obtain ⟨t',rfl⟩:=ry;exact eq_str (zy I q zM8)
  |_=>exact absurd (show false=true from hs) zWU
 |byt i=>
  obtain ⟨t,rfl⟩:=rx;cases y with
  |byt j=>obtain ⟨t',rfl⟩:=ry;exact PySem.W.eq_bytes (zy I q zMk)
  |_=>exact absurd (show false=true from hs) zWU
 |_=>cases y <;> exact absurd (show false=true from hs) zWU
theorem zVC:OpR X (compareOp .NotEq) rNe:=by
 intro zB s σ H x y v u Q I rx ry h;obtain ⟨hs,q⟩:=h;cases x with
 |non=>
  cases rx;cases y with
  |non=>cases ry;exact PySem.EqNone.ne_none_none (zy I q (by simp))
  |bl j=>cases ry;exact PySem.EqNone.ne_none_bool (zy I q (by simp))
  |int j=>obtain ⟨t',rfl⟩:=ry;exact PySem.EqNone.ne_none_int (zy I q (by simp))
  |str j=>obtain ⟨t',rfl⟩:=ry;exact PySem.EqNone.ne_none_str (zy I q (by simp))
  |_=>exact absurd (show false=true from hs) zWU
 |bl i=>
  cases rx;cases y with
  |non=>cases ry;exact PySem.EqNone.ne_bool_none (zy I q (by simp))
  |bl j=>cases ry;exact ne_bool (zy I q (congrArg not zPp))
  |str j=>obtain ⟨t',rfl⟩:=ry;exact PySem.EqMixed.ne_bool_str (zy I q (by simp))
  |_=>exact absurd (show false=true from hs) zWU
 |int i=>
  obtain ⟨t,rfl⟩:=rx;cases y with
  |non=>cases ry;exact PySem.EqNone.ne_int_none (zy I q (by simp))
  |int j=>obtain ⟨t',rfl⟩:=ry;exact ne_int (zy I q (congrArg not zNI))
  |str j=>obtain ⟨t',rfl⟩:=ry;exact PySem.EqMixed.ne_int_str (zy I q (by simp))
  |_=>exact absurd (show false=true from hs) zWU
 |str i=>
  obtain ⟨t,rfl⟩:=rx;cases y with
  |non=>cases ry;exact PySem.EqNone.ne_str_none (zy I q (by simp))
  |bl j=>cases ry;exact PySem.EqMixed.ne_str_bool (zy I q (by simp))
  |int j=>obtain ⟨t',rfl⟩:=ry;exact PySem.EqMixed.ne_str_int (zy I q (by simp))
  |str j=>obtain ⟨t',rfl⟩:=ry;exact ne_str (zy I q (congrArg not zM8))
  |_=>exact absurd (show false=true from hs) zWU
 |byt i=>
  obtain ⟨t,rfl⟩:=rx;cases y with
  |byt j=>obtain ⟨t',rfl⟩:=ry;exact PySem.W.ne_bytes (zy I q (congrArg not zMk))
  |_=>exact absurd (show false=true from hs) zWU
 |_=>cases y <;> exact absurd (show false=true from hs) zWU
theorem zU7:OpR X (compareOp .Lt) (rI0 fun i j=> .bl (decide (i<j))):=zSD fun _ _ _ _ _ _ _ q=>lt_int q
theorem zU6:OpR X (compareOp .LtE) (rI0 fun i j=> .bl (decide (i<=j))):=zSD fun _ _ _ _ _ _ _ q=>le_int q
theorem zVB:OpR X (compareOp .Gt) (rI0 fun i j=> .bl (decide (j<i))):=zSD fun _ _ _ _ _ _ _ q=>gt_int q
theorem zUS:OpR X (compareOp .GtE) (rI0 fun i j=> .bl (decide (j<=i))):=zSD fun _ _ _ _ _ _ _ q=>ge_int q
theorem OpR.or {f:Value->Value->Sem Value} {r r':R2} (h:OpR X f r) (h':OpR X f r'):OpR X f (fun x y H Q=>r x y H Q\/r' x y H Q):=by
 intro zB s σ H x y v u Q I rx ry q;rcases q with q|q
 ·exact h zB s σ H x y v u Q I rx ry q
 ·exact h' zB s σ H x y v u Q I rx ry q
theorem zDO (b:Expr) {op:CmpOp} (h:op≠.In:=by decide) (h2:op≠.NotIn:=by decide):behindInMarks op b=false:=by
 have e1:(op==CmpOp.In)=false:=by cases op <;> first|rfl|exact absurd rfl h
 have e2:(op==CmpOp.NotIn)=false:=by cases op <;> first|rfl|exact absurd rfl h2
 cases b <;> simp[behindInMarks,e1,e2]
theorem zRV {op:CmpOp} {r:R2} (ho:OpR X (compareOp op) r) (ha:PE X a ta) (hb:PE X b tb) (hm:behindInMarks op b=false):PE X (.Compare a [op] [b] pos) (tOp r ta tb):=by
 intro zB s σ H Q I h;exact wpAny_Compare1 (zTe ha hb I h fun v u s2 x y H2 I2 rx ry q=>ho zB s2 σ H2 x y v u Q I2 rx ry q) hm
def zM1 (t:TE):TT:=fun σ H Q=>t σ H fun x H'=>∃ k,x=.bl k/\Q k H'
theorem zRl {op:CmpOp} {r:R2} (ho:OpR X (compareOp op) r) (ha:PE X a ta) (hb:PE X b tb) (hm:behindInMarks op b=false):PT X (.Compare a [op] [b] pos) (zM1 (tOp r ta tb)):=by
 intro zB s σ H Q I h;refine wpAny_isTrue_Compare1 (thn (ha zB s σ H _ I h) fun v s1 ⟨x,H1,I1,r1,q1⟩=>thn (hb zB s1 σ H1 _ I1 q1) fun u s2 ⟨y,H2,I2,r2,q2⟩=>
  thn (ho zB s2 σ H2 x y v u _ I2 r1 r2 q2) fun c s3 ⟨z,H3,I3,r3,k,e,q3⟩=>?_) hm
 subst e;cases r3;exact wpAny_truthy_bool ⟨H3,I3,q3⟩
def zVI (K:PySem.W.Frag) (x:V) (H:Hp) (k:Bool):Prop :=
 match x with
 |.non=>k=false
 |.bl b=>k=b
 |.int i=>k=(i != 0)
 |.str y=>y.length<=sizeLine/\k=((y.length:Int) != 0)
 |.byt y=>y.size<=sizeLine/\k=((y.size:Int) != 0)
 |.ref p=>(∃ xs,SqL K H p xs/\k = !xs.isEmpty)\/(∃ xs,SqT K H p xs/\k = !xs.isEmpty) \/ ∃ kvs,H p=some (.dK kvs)/\k = !kvs.isEmpty
 |_=>False
theorem zMA {κ:Type} {kvs:List (κ × V)} {vs:List (κ × Value)} (r:KV kvs vs):(!vs.isEmpty) = !kvs.isEmpty:=by
 cases r <;> rfl
theorem zHW {xs:List V} {its:List Value} (r:ze xs its):(!its.toArray.isEmpty) = !xs.isEmpty:=by
 cases r <;> simp
theorem zEb:(sizeLine:Nat)<2 ^ 63:=by rw[sizeLine_eq];decide
theorem zT4:zVb X (fun x H Q=>∃ k,zVI X.K x H k/\Q k H):=by
 intro zB s σ H x v Q I rx h;obtain ⟨k,e,q⟩:=h;have hl:=zEb;have hs:sizeLine=16777216:=sizeLine_eq;cases x with
 |non=>
  cases rx;have e':k=false:=e;subst e';exact truthy_none ⟨H,I,q⟩
 |bl b=>
  cases rx;have e':k=b:=e;subst e';exact wpAny_truthy_bool ⟨H,I,q⟩
 |int i=>
  obtain ⟨t,rfl⟩:=rx;have e':k=(i != 0):=e;subst e';exact PySem.P.truthy_int ⟨H,I,q⟩
 |str y=>
  obtain ⟨t,rfl⟩:=rx;obtain ⟨hy,e'⟩:y.length<=sizeLine/\k=((y.length:Int) != 0):=e;subst e';exact PySem.P.truthy_str (by omega) ⟨H,I.tok _,q⟩
 |byt y=>
  obtain ⟨t,rfl⟩:=rx;obtain ⟨hy,e'⟩:y.size<=sizeLine/\k=((y.size:Int) != 0):=e;subst e';exact PySem.W.truthy_bytes (by omega) ⟨H,I.tok _,q⟩
 |ref p=>
  cases rx;have e':(∃ xs,SqL X.K H p xs/\k = !xs.isEmpty)\/(∃ xs,SqT X.K H p xs/\k = !xs.isEmpty) \/ ∃ kvs,H p=some (.dK kvs)/\k = !kvs.isEmpty:=e;rcases e' with ⟨xs,hx,e'⟩|⟨xs,hx,e'⟩|⟨kvs,hx,e'⟩
  ·subst e';obtain ⟨its,r,pl,hz⟩:=I.list hx;have hlen:=r.length;exact wpAny_truthy_list pl.isList (by simp only[zWG];omega) ⟨H,I.tok _,by rw[zHW r];exact q⟩
  ·subst e';obtain ⟨its,r,pl,hz⟩:=I.tuple hx;have hlen:=r.length;exact truthy_tuple pl (by simp only[zWG];omega) ⟨H,I.tok _,by rw[zHW r];exact q⟩
  ·subst e';obtain ⟨hz,hS,vs,r,m⟩:kvs.length<=sizeLine/\(p==sysModules)=false /\ ∃ vs,KV kvs vs/\s.heap.DictOf (zAW X.prog X.w) p vs:=I.hok p _ hx;have hlen:kvs.length=vs.length:=Paired.length r;exact wpAny_truthy_dict hS m (by omega) ⟨H,I.tok _,by rw[zMA r];exact q⟩
 |_=>exact (show False from e).elim
theorem zP6 (ha:PE X a ta) (he:∀ whole,isTrue a X.env whole=(do let v <- whole;standAt a.pos;holding [v] (truthy v))) :
  PT X a (fun σ H Q=>ta σ H fun x H'=>∃ k,zVI X.K x H' k/\Q k H'):=by
 intro zB s σ H Q I h;exact isTrue_plain (thn (ha zB s σ H _ I h) fun v s1 ⟨x,H1,I1,r1,q1⟩=>zT4 zB s1 σ H1 x v Q I1 r1 q1) (he _)
theorem zF0 {x:V} {us:List Value} (r:ze [x] us):∃ u,us=[u]/\zk x u:=by
 cases r with
 |cons r1 r2=>cases r2;exact ⟨_,rfl,r1⟩
theorem zSa {x y:V} {us:List Value} (r:ze [x,y] us):∃ u w',us=[u,w']/\zk x u/\zk y w':=by
 cases r with
 |cons r1 r2=>
  cases r2 with
  |cons r3 r4=>cases r4;exact ⟨_,_,rfl,r1,r3⟩
theorem zNf (hc:X.calm=true):zCu X (.builtin "max") (fun xs H Q=>∃ i j,xs=[.int i,.int j]/\Q (.int (if j>i then j else i)) H):=by
 intro zB s σ H xs us Q I r h;obtain ⟨i,j,rfl,q⟩:=h;obtain ⟨u,w',rfl,⟨t,rfl⟩,⟨t',rfl⟩⟩:=zSa r;refine max_two_ints (I.ok.hd hc) fun h' tk k=>⟨_,H,I.kept k,?_,q⟩;by_cases hj:j>i
 ·rw[zWN hj,zWN hj];exact ⟨_,rfl⟩
 ·rw[zWQ hj,zWQ hj];exact ⟨_,rfl⟩
theorem zN1 (hc:X.calm=true):zCu X (.builtin "min") (fun xs H Q=>∃ i j,xs=[.int i,.int j]/\Q (.int (if j<i then j else i)) H):=by
 intro zB s σ H xs us Q I r h;obtain ⟨i,j,rfl,q⟩:=h;obtain ⟨u,w',rfl,⟨t,rfl⟩,⟨t',rfl⟩⟩:=zSa r;refine min_two_ints (I.ok.hd hc) fun h' tk k=>⟨_,H,I.kept k,?_,q⟩;by_cases hj:j<i
 ·rw[zWN hj,zWN hj];exact ⟨_,rfl⟩
 ·rw[zWQ hj,zWQ hj];exact ⟨_,rfl⟩
end
theorem zGB.some_of {v:V} {o:Option Value} (r:zGB (some v) o):∃ u,o=some u/\zk v u:=by
 cases o with
 |none=>exact (show False from r).elim
 |some u=>exact ⟨u,rfl,r⟩
structure Room (k:Nat) (A:Around):Prop where
 hd:A.handled=none
 dp:A.depth+3*k+5<recursionLimit
 un:A.units+16*k+200<cLine
theorem Room.mono {j k:Nat} {A:Around} (r:Room k A) (h:j<=k):Room j A:=⟨r.hd,by have:=r.dp;omega,by have:=r.un;omega⟩
theorem Room.deeper {k:Nat} {A:Around} (r:Room (k+1) A) (env:Env):Room k (A.deeper env) :=
 ⟨r.hd,by have:=r.dp;show A.depth+1+3*k+5<_;omega,by have:=r.un;show A.units+3+16*k+200<_;omega⟩
theorem Room.depth {k:Nat} {A:Around} (r:Room k A):A.depth<recursionLimit:=by have:=r.dp;omega
theorem Room.units {k:Nat} {A:Around} (r:Room k A):A.units+64<cLine:=by have:=r.un;omega
theorem Room.units0 {k:Nat} {A:Around} (r:Room k A):A.units<cLine:=by have:=r.un;omega
def zVl:TA:=fun _ H Q=>Q [] H
def zUJ (ta:TE) (tr:TA):TA:=fun σ H Q=>ta σ H fun x H1=>tr σ H1 fun xs H2=>Q (x::xs) H2
section
variable {X:Cx} {e:Expr} {es:List Expr} {te:TE} {t:TA} {pos:Pos}
theorem zFp:PA X [] zVl:=fun _ _ _ _ H Q I h=>Calls.spliced_nil ⟨[],H,I,.nil,h⟩
theorem zEI (ha:PE X e te) (hr:PA X es t) (hs:starEach (e::es) X.env=(false,eval e X.env)::starEach es X.env:=by rfl):PA X (e::es) (zUJ te t):=by
 intro pos zB s σ H Q I h;rw[hs];show wpAny _ _ (spliced ((false,eval e X.env)::backTo pos (starEach es X.env))) _ _ s;refine Calls.spliced_cons (thn (ha zB s σ H _ I h) fun u s1 ⟨x,H1,I1,r1,q1⟩=>?_);exact thn (hr pos zB s1 σ H1 _ I1 q1) fun us s2 ⟨xs,H2,I2,r2,q2⟩=>⟨x::xs,H2,I2,.cons r1 r2,q2⟩
def zVf (t:TA):TE:=fun σ H Q=>t σ H fun xs H1=>xs.length<=sizeLine /\ ∀ p,H1 p=none->Q (.ref p) (upd H1 p (.tup xs))
def zV0 (t:TA):TE:=fun σ H Q=>t σ H fun xs H1=>xs.length<=sizeLine /\ ∀ p,H1 p=none->Q (.ref p) (upd H1 p (.lst xs))
theorem zTK {x1} (h:PA X es t):PE X (.Tuple es x1 pos) (zVf t):=by
 intro zB s σ H Q I hq;refine wpAny_Tuple_spliced (thn (h pos zB s σ H _ I hq) fun us s1 ⟨xs,H1,I1,r,z,q⟩=>⟨by rw[<-r.length];exact z,?_⟩);have hf:H1 s1.heap.objs.size=none:=I1.hok.fresh (zWE _);refine ⟨.ref s1.heap.objs.size,upd H1 s1.heap.objs.size (.tup xs),I1.laid (t':=s1.toks) (fun b u e=>zV9 _ e) (zWE _) ?_,rfl,q _ hf⟩;exact ⟨z,us,r,⟨_,zWI _ rfl,rfl,⟨_,rfl⟩,rfl⟩⟩
theorem zTa (h:PA X es t):PE X (.List es pos) (zV0 t):=by
 intro zB s σ H Q I hq;refine wpAny_List_spliced (thn (h pos zB s σ H _ I hq) fun us s1 ⟨xs,H1,I1,r,z,q⟩=>⟨by rw[<-r.length];exact z,?_⟩);have hf:H1 s1.heap.objs.size=none:=I1.hok.fresh (zWE _);refine ⟨.ref s1.heap.objs.size,upd H1 s1.heap.objs.size (.lst xs),I1.laid (t':=s1.toks) (fun b u e=>zV9 _ e) (zWE _) ?_,rfl,q _ hf⟩;exact ⟨z,us,0,r,zWI _ rfl⟩
end
abbrev Sp:=List V->Hp->VK->XK->Prop
abbrev CXT:=List Env->Hp->Shared->XK->Value->Shared->Prop
structure Env0 (P:Program) (w:World) (K:PySem.W.Frag) (mg:Str->Option Value) (base:Heap) (A:Around) (outer:List Env) (s:Shared) (H:Hp):Prop where
 frames:A.frames=some outer
 mod:Mod K mg base
 bs:∀ b o,base.get? b=some o->s.heap.get? b=some o/\H b=none
 bsz:base.objs.size<=s.heap.objs.size
 funs:s.heap.FunFrames base outer
 frf:∀ b∈frs outer,H b=none
 hok:HOk P w H s.heap
 bare:AllBare s.gens
def CE (outer:List Env) (P:Program) (w:World) (H:Hp) (s:Shared) (Q:VK) (u:Value) (s':Shared):Prop :=
 ∃ v H',s'.os=s.os/\AllBare s'.gens/\Un (frs outer) [] H H' s.heap s'.heap/\HOk P w H' s'.heap/\zk v u/\Q v H'
def CR (CX:CXT) (outer:List Env) (P:Program) (w:World) (H:Hp) (s:Shared) (Q:VK) (E:XK) (r:Result) (s':Shared):Prop :=
 match r with
 |.ok (.ret u)=>CE outer P w H s Q u s'
 |.ok _=>False
 |.error e=>CX outer H s E e s'
structure FnOk (P:Program) (w:World) (K:PySem.W.Frag) (mg:Str->Option Value) (base:Heap) (CX:CXT) (k:Nat) (f:Addr) (fd:FuncData) (ps:List Str) (sp:Sp):Prop where
 len:∀ vs H Q E,sp vs H Q E->vs.length=ps.length
 run:∀ (A:Around) (outer:List Env) (s:Shared) (H:Hp) (args:Args) (us:List Value) (vs:List V) (Q:VK) (E:XK),Room k A->Env0 P w K mg base A outer s H->BindsTo s fd args (ps.zip us)->ze vs us->sp vs H Q E ->
  codeAny (model P w) A (.call (.ref f) args) (CR CX outer P w H s Q E) s
theorem FnOk.imp {P:Program} {w:World} {K:PySem.W.Frag} {mg:Str->Option Value} {base:Heap} {CX:CXT} {k:Nat} {f:Addr} {fd:FuncData} {ps:List Str} {sp sp':Sp} (F:FnOk P w K mg base CX k f fd ps sp)
  (h:∀ vs H Q E,sp' vs H Q E->sp vs H Q E):FnOk P w K mg base CX k f fd ps sp' :=
 ⟨fun vs H Q E q=>F.len vs H Q E (h _ _ _ _ q),fun A outer s H args us vs Q E hr he hb hv hs=>F.run A outer s H args us vs Q E hr he hb hv (h _ _ _ _ hs)⟩
section
variable {X:Cx} {zB:List (Addr × Obj)} {σ:St} {H:Hp} {s s':Shared}
theorem Inv.env0 (I:Inv X zB σ H s):Env0 X.prog X.w X.K X.mg X.base X.A X.stack s H :=
 ⟨I.ok.frames,I.ok.mod,I.bs,zWZ I.ok.bsz I.sz,I.stack,I.stkFree,I.hok,I.bare⟩
theorem Inv.after {Q:VK} {u:Value} (I:Inv X zB σ H s) (h:CE X.stack X.prog X.w H s Q u s'):EP X zB σ Q u s':=by
 obtain ⟨v,H',os,bare,un,hok,r,q⟩:=h;obtain ⟨hh,g,d,t,os'⟩:=s';obtain rfl:os'=s.os:=os;exact ⟨v,H',I.call (h':=hh) (g':=g) (d':=d) (t':=t) (ch:=[]) un hok bare (fun b z=>absurd z (by simp)),r,q⟩
end
def zUL (sp:Sp) (dvs:List V) (E:XK) (t:TA):TE:=fun σ H Q=>t σ H fun vs H1=>sp (vs++dvs) H1 Q E
def zHb (K:PySem.W.Frag) (fd:FuncData) (ps:List Str) (ds:List Value):Prop :=
 ∀ (s:Shared) (us:List Value),K.In s.heap->(us++ds).length=ps.length->BindsTo s fd ⟨us,[]⟩ (ps.zip (us++ds))
theorem zHb.all {K:PySem.W.Frag} {fd:FuncData} {ps:List Str} (h:∀ us:List Value,us.length=ps.length->bindArgs fd ⟨us,[]⟩=pure (ps.zip us)):zHb K fd ps []:=fun s us _ hl=>by
 rw[zWs]at hl ⊢;exact .of_eq (h us hl)
def zLs (CX:CXT) (X:Cx) (E:XK):Prop:=∀ (zB:List (Addr × Obj)) (σ:St) (H:Hp) (s:Shared) (e:Value) (s':Shared),Inv X zB σ H s->CX X.stack H s E e s'->X.xe e s'
section
variable {X:Cx} {CX:CXT} {k:Nat} {f C:Addr} {fd:FuncData} {ps:List Str} {sp:Sp} {dvs:List V} {ds:List Value} {E:XK} {x m:Str} {p pos apos:Pos} {e o:Expr} {es:List Expr} {ta:TE} {t:TA}
theorem zTh {zB:List (Addr × Obj)} {σ:St} {H:Hp} {s:Shared} {Q:VK} {us:List Value} {vs:List V} (F:FnOk X.prog X.w X.K X.mg X.base CX k f fd ps sp) (hr:Room k X.A) (hb:zHb X.K fd ps ds) (hd:ze dvs ds) (hx:zLs CX X E)
  (I:Inv X zB σ H s) (r:ze vs us) (h:sp (vs++dvs) H Q E):wpAny (model X.prog X.w) X.A (call (.ref f) us) (EP X zB σ Q) X.xe s:=by
 have r2:ze (vs++dvs) (us++ds):=r.append hd;have hl:(us++ds).length=ps.length:=by rw[<-r2.length];exact F.len _ _ _ _ h
 refine wpAny_call (codeAny_mono (F.run X.A X.stack s H ⟨us,[]⟩ (us++ds) (vs++dvs) Q E hr I.env0 (hb s us I.kIn hl) r2 h) fun r s' hq=>?_);cases r with
 |error e=>exact hx zB σ H s e s' I hq
 |ok fl=>
  cases fl with
  |ret u=>exact I.after hq
  |next=>exact False.elim hq
  |brk=>exact False.elim hq
  |cont=>exact False.elim hq
theorem zRm (F:FnOk X.prog X.w X.K X.mg X.base CX k f fd ps sp) (hr:Room k X.A) (hg:Gl X x) (hm:X.mg x=some (.ref f)) (hk:PySem.W.keepIn X.K (.ref f)=true) (hb:zHb X.K fd ps ds) (hd:ze dvs ds) (hx:zLs CX X E)
  (ha:PA X (e::es) t) (hdb:(x==("__debug__" : Str))=false:=by decide) (he:starEach (e::es) X.env=(false,eval e X.env)::starEach es X.env:=by rfl) (hpl:(backTo pos (starEach es X.env)).any (·.1)=false:=by rfl) :
  PE X (.Call (.Name x p) (e::es) [] pos) (zUL sp dvs E t):=by
 intro zB s σ H Q I h;refine wpAny_Call_Name_kw (zRo I hg hm ?_ hdb);refine PySem.W.callWith_K (h₀:=X.base) I.ok.mod.kin hk (thn (ha pos zB s σ H _ I h) fun us s1 ⟨vs,H1,I1,r,q⟩=>⟨I1.kIn,?_⟩) he hpl;exact zTh F hr hb hd hx I1 r q
end
structure FnScope (N P:List Str) (sc:Scope):Prop where
 kind:sc.kind=.function
 co:sc.isCoroutine=false
 gen:sc.isGenerator=false
 nd:N.Nodup
 pre:N.take P.length=P
 par:∀ x∈P,sc.names.lookup x=some .local\/sc.names.lookup x=some .cell
 nofree:∀ y∈sc.names,y.2≠.free
theorem zII {kindOf:Str->Option NameKind} {x:Str}:∀ {binds:List (Str × Value)} {m:Str->Option Value},(∀ v,(x,v)∉binds)->bindL kindOf binds m x=m x
 |[],_,_=>rfl
 | (n,v)::r,m,h=>by
  unfold bindL;rw[zII fun w hw=>h w (zWL _ hw)];split
  ·have:x≠n:=by rintro rfl;exact h v zWM
   simp[this]
  ·rfl
theorem zIT {kindOf:Str->Option NameKind} {x:Str}:∀ {binds:List (Str × Value)} {m:Str->Option Value},(∀ v,(x,v)∉binds)->bindC kindOf binds m x=m x
 |[],_,_=>rfl
 | (n,v)::r,m,h=>by
  unfold bindC;rw[zIT fun w hw=>h w (zWL _ hw)];split
  ·rfl
  ·have:x≠n:=by rintro rfl;exact h v zWM
   simp[this]
theorem zIh {kindOf:Str->Option NameKind} {x:Str} {v:Value}:∀ {P:List Str} {vs:List Value} {i:Nat} {m:Str->Option Value},P.Nodup->P[i]?=some x->vs[i]?=some v->kindOf x=some .local ->
  bindL kindOf (P.zip vs) m x=some v
 |[],_,_,_,_,h,_,_=>by simp at h
 |_::_,[],_,_,_,_,h,_=>by simp at h
 |p::P,w::vs,0,m,nd,h1,h2,hk=>by
  simp at h1 h2;subst h1;subst h2;show bindL kindOf ((p,w)::P.zip vs) m p=_;unfold bindL;rw[zII fun v hv=>(List.nodup_cons.mp nd).1 (List.of_mem_zip hv).1,zWN hk];simp
 |p::P,w::vs,i+1,m,nd,h1,h2,hk=>by
  show bindL kindOf ((p,w)::P.zip vs) m x=_;unfold bindL;exact zIh (i:=i) (List.nodup_cons.mp nd).2 (by simpa using h1) (by simpa using h2) hk
theorem zIY {kindOf:Str->Option NameKind} {x:Str} {v:Value}:∀ {P:List Str} {vs:List Value} {i:Nat} {m:Str->Option Value},P.Nodup->P[i]?=some x->vs[i]?=some v->kindOf x≠some .local ->
  bindC kindOf (P.zip vs) m x=some v
 |[],_,_,_,_,h,_,_=>by simp at h
 |_::_,[],_,_,_,_,h,_=>by simp at h
 |p::P,w::vs,0,m,nd,h1,h2,hk=>by
  simp at h1 h2;subst h1;subst h2;show bindC kindOf ((p,w)::P.zip vs) m p=_;unfold bindC;rw[zIT fun v hv=>(List.nodup_cons.mp nd).1 (List.of_mem_zip hv).1,zWQ hk];simp
 |p::P,w::vs,i+1,m,nd,h1,h2,hk=>by
  show bindC kindOf ((p,w)::P.zip vs) m x=_;unfold bindC;exact zIY (i:=i) (List.nodup_cons.mp nd).2 (by simpa using h1) (by simpa using h2) hk
def zEW (N:List Str) (vs:List V):St:=vs.map some++List.replicate (N.length-vs.length) none
def zMS (CX:CXT) (P:Program) (w:World) (K:PySem.W.Frag) (mg:Str->Option Value) (base:Heap) (N:List Str) (qual:Str) (scope:Scope) (f:Addr) (cd:Value) (A:Around) (outer:List Env) (s:Shared) (H:Hp) (E:XK):Cx where
 prog:=P
 w:=w
 K:=K
 mg:=mg
 base:=base
 A:=A.deeper (envOfC qual scope s.heap.objs.size f cd)
 N:=N
 s₀:=s
 H₀:=H
 env:=envOfC qual scope s.heap.objs.size f cd
 outer:=outer
 stack:=envOfC qual scope s.heap.objs.size f cd::outer
 ex:=[]
 calm:=true
 fn:=fun _=>true
 pn:=[]
 xe:=fun e s'=>wpAny (model P w) (A.deeper (envOfC qual scope s.heap.objs.size f cd)) (leaving (envOfC qual scope s.heap.objs.size f cd) e) (fun _ s''=>CX outer H s E e s'') (fun e' s''=>CX outer H s E e' s'') s'
theorem zHU {sc:Scope} {n:Nat} {x:Str} (h:sc.names.lookup x=some .cell):∃ c,(cellsFrom n sc.names []).lookup x=some c:=by
 have q:=PySem.W.cellsFrom_some sc.names n [] (.inl h);exact Option.isSome_iff_exists.mp q
theorem zN7 {CX:CXT} {P:Program} {w:World} {K:PySem.W.Frag} {mg:Str->Option Value} {base:Heap} {N ps:List Str} {qual:Str} {scope:Scope} {f:Addr} {cd:Value} {A:Around} {outer:List Env} {s s1:Shared} {H:Hp} {E:XK} {us:List Value} {vs:List V}
  (S:FnScope N ps scope) (hd:A.handled=none) (e0:Env0 P w K mg base A outer s H) (hl:vs.length=ps.length) (r:ze vs us)
  (x:InCallC s s.heap.objs.size (bindL (envOfC qual scope s.heap.objs.size f cd).kindOf (ps.zip us) fun _=>none) (cellsFrom (s.heap.objs.size+1) scope.names []) (bindC (envOfC qual scope s.heap.objs.size f cd).kindOf (ps.zip us) fun _=>none) s1) :
  Inv (zMS CX P w K mg base N qual scope f cd A outer s H E) [] (zEW N vs) H s1:=by
 have hpl:ps.length<=N.length:=by have:=congrArg List.length S.pre;rw[zXW]at this;omega
 obtain ⟨h1,tk,rfl,hk⟩:=x.done;have noA:∀ b:Addr,b∉(zMS CX P w K mg base N qual scope f cd A outer s H E).ex:=fun b z=>absurd (show b∈([]:List Addr)from z) (by simp)
 refine ⟨⟨e0.mod,S.kind,rfl,rfl,zWE _,fun y z c h1 h2=>?_,fun y hy=>?_,fun y c _ h=>?_,fun _=>hd,Around.frames_deeper e0.frames,.inr ⟨rfl,rfl⟩,fun b z=>absurd z (noA b),e0.bs,e0.bsz,fun b _ _=>noA b,fun b z=>absurd z (noA b),e0.funs,e0.frf⟩,
  rfl,e0.bare,Un.kept hk,⟨_,x.toInCall.ns,fun i y v h1 h2 h3=>?_⟩,fun y c h=>⟨_,x.cell y c h⟩,e0.hok.fresh (zWE _),fun y c h=>?_,fun p hp=>absurd (show p∈([]:List (Addr × Obj))from hp) (by simp),e0.hok.kept hk,?_⟩
 ·exact name_of_addr x.apart (zXA h1) (zXA h2)
 ·have hy:scope.names.lookup y=some .cell\/scope.names.lookup y=some .free:=hy;rcases hy with hy|hy
  ·exact zHU hy
  ·exact absurd rfl (S.nofree _ (zXA hy))
 ·exact Nat.le_of_lt (x.above y c (zXA h))
 ·have hi:i<vs.length:=by
   unfold zEW at h2;by_cases hi:i<vs.length
   ·exact hi
   ·rw[zXI (by simpa using hi)]at h2;rw[List.getElem?_replicate]at h2;split at h2 <;> cases h2
  have ha:vs[i]?=some v:=by
   unfold zEW at h2;rw[zWF (by simpa using hi),zWV]at h2;cases e:vs[i]? with
   |none=>rw[e]at h2;cases h2
   |some a=>rw[e]at h2;cases h2;rfl
  obtain ⟨u,hu,rv⟩:=r.get ha;have hp:ps[i]?=some y:=by
   rw[<-S.pre,List.getElem?_take_of_lt (by omega)];exact h1
  have ndP:ps.Nodup:=by rw[<-S.pre];exact S.nd.sublist (List.take_sublist _ _)
  refine ⟨u,rv,?_⟩;rcases S.par y (zWz hp)with k|k
  ·exact .inl ⟨k,zIh ndP hp hu k⟩
  ·obtain ⟨c,e⟩:=zHU (n:=s.heap.objs.size+1) k;refine .inr ⟨.inl k,c,e,?_⟩;have q:=x.cell y c e;rw[zIY ndP hp hu (by show scope.names.lookup y≠_;rw[k];decide)]at q;exact q
 ·exact e0.hok.fresh (Nat.le_of_lt (x.above y c (zXA h)))
 ·unfold zEW;show _=N.length;rw[zWO,zWH,List.length_replicate];omega
theorem zVV {CX:CXT} {P:Program} {w:World} {K:PySem.W.Frag} {mg:Str->Option Value} {base:Heap} {k:Nat} {f:Addr} {name qual:Str} {params:Arguments} {body:List Stmt} {scope:Scope} {dV kV doc pm cdv ct oc:Value} {an od:Option Addr}
  {osl:Array (Option Value)} {N ps:List Str} {sp:Sp} (lk:K.lookup f=some ⟨oc,od,.func (PySem.W.fnOf name qual params body scope dV kV doc pm an cdv ct),osl⟩) (hcd:PySem.W.codeIn K cdv qual=true) (S:FnScope N ps scope)
  (len:∀ vs H Q E,sp vs H Q E->vs.length=ps.length)
  (hbody:∀ (A:Around) (outer:List Env) (s:Shared) (H:Hp) (vs:List V) (Q:VK) (E:XK),Room k (A.deeper (envOfC qual scope s.heap.objs.size f cdv))->sp vs H Q E ->
   ∃ t,PSs (zMS CX P w K mg base N qual scope f cdv A outer s H E) body t/\t { nx:=fun _ H'=>Q .non H',rt:=Q } (zEW N vs) H) :
  FnOk P w K mg base CX (k+1) f (PySem.W.fnOf name qual params body scope dV kV doc pm an cdv ct) ps sp:=by
 refine ⟨len,fun A outer s H args us vs Q E hr e0 hb r hsp=>?_⟩;have hl:=len _ _ _ _ hsp;have KX:K.In s.heap:=e0.mod.kin.keeps fun b o e=>(e0.bs b o e).1;have lim:s.heap.NoLimit:=e0.mod.nolimit.keeps fun b o e=>(e0.bs b o e).1;have hkind:∀ y∈ps.zip us,scope.names.lookup y.1=some .local\/(scope.names.lookup y.1=some .cell/\((cellsFrom (s.heap.objs.size+1) scope.names []).lookup y.1).isSome=true):=fun ⟨n,v⟩ hy=>by
  rcases S.par n (List.of_mem_zip hy).1 with q|q
  ·exact .inl q
  ·exact .inr ⟨q,PySem.W.cellsFrom_some _ _ _ (.inl q)⟩
 refine codeAny_call_function hr.depth (KX _ _ lk) rfl S.co S.gen rfl (PySem.W.codeRec_of KX hcd) (hb _ _ _ _ ?_);refine wpAny_newFunctionEnv_cells S.kind hkind fun env he s1 x=>?_;subst he;refine ⟨lim.keeps x.toInCall.keep,codeAny_func ?_⟩;obtain ⟨t,ht,hq⟩:=hbody A outer s H vs Q E (hr.deeper _) hsp;have I:Inv (zMS CX P w K mg base N qual scope f cdv A outer s H E) [] (zEW N vs) H s1:=zN7 S hr.hd e0 hl r x;refine zWe (ht [] s1 (zEW N vs) H _ I hq) (fun fl s' hs=>?_) fun e s' hs=>hs;have fin:∀ {σ':St} {H':Hp} {v:V} {u:Value},Inv (zMS CX P w K mg base N qual scope f cdv A outer s H E) [] σ' H' s'->zk v u->Q v H'->CE outer P w H s Q u s' :=
  fun {σ' H' v u} J rv q=>⟨v,H',J.os,J.bare,J.base,J.hok,rv,q⟩
 cases fl with
 |ret u=>
  obtain ⟨v,σ',H',J,rv,q⟩:=hs;exact fin J rv q
 |next=>
  obtain ⟨σ',H',J,q⟩:=hs;exact fin (v:=V.non) (u:=Value.none) J rfl q
 |brk=>
  obtain ⟨_,_,_,q⟩:=hs;exact False.elim q
 |cont=>
  obtain ⟨_,_,_,q⟩:=hs;exact False.elim q
section
variable {X:Cx} {x:Str} {p pos:Pos} {e:Expr} {es:List Expr} {t:TA} {id T:String} {r:List V->Hp->VK->Prop}
def tCB (r:List V->Hp->VK->Prop) (t:TA):TE:=fun σ H Q=>t σ H fun vs H1=>r vs H1 Q
theorem zOz (hc:zCu X (.builtin id) r) (hg:Gl X x) (hm:X.mg x=none) (hv:bootBuiltins x=some (.builtin id)) (ha:PA X (e::es) t) (hn:x ≠ "__name__" := by decide) (hdb:(x==("__debug__" : Str))=false:=by decide)
  (he:starEach (e::es) X.env=(false,eval e X.env)::starEach es X.env:=by rfl) (hpl:(backTo pos (starEach es X.env)).any (·.1)=false:=by rfl):PE X (.Call (.Name x p) (e::es) [] pos) (tCB r t):=by
 intro zB s σ H Q I h;refine wpAny_Call_Name_kw (zEr I hg hm hv ?_ hn hdb);exact PyProof.Rows.callWith_builtin1 (thn (ha pos zB s σ H _ I h) fun us s1 ⟨vs,H1,I1,r1,q1⟩=>hc zB s1 σ H1 vs us Q I1 r1 q1) he hpl
theorem zC4 (hc:zCu X (.type T) r) (hg:Gl X x) (hm:X.mg x=none) (hv:bootBuiltins x=some (.type T)) (ha:PA X (e::es) t) (hn:x ≠ "__name__" := by decide) (hdb:(x==("__debug__" : Str))=false:=by decide)
  (he:starEach (e::es) X.env=(false,eval e X.env)::starEach es X.env:=by rfl) (hpl:(backTo pos (starEach es X.env)).any (·.1)=false:=by rfl):PE X (.Call (.Name x p) (e::es) [] pos) (tCB r t):=by
 intro zB s σ H Q I h;refine wpAny_Call_Name_kw (zEr I hg hm hv ?_ hn hdb);exact PyProof.Rows.callWith_type1 (thn (ha pos zB s σ H _ I h) fun us s1 ⟨vs,H1,I1,r1,q1⟩=>hc zB s1 σ H1 vs us Q I1 r1 q1) he hpl
end
end L2
namespace HT
open PySem PyProof.Rows
section
variable {prog:Program} {w:World} {A:Around} {E:Value->Shared->Prop} {s:Shared}
theorem zR4 {t b:Addr} {vs ws:List Value} {Q:Value->Shared->Prop} (ht:IsTup s.heap t vs.toArray) (hb:IsTup s.heap b ws.toArray) (hv:vs≠[])
  (h1:ws=[]->Q (.ref t) s) (h2:ws≠[]->Q (.ref s.heap.objs.size) { s with heap:=s.heap.push { cls:=.type "tuple", data:=.seq (vs++ws).toArray } })
  (hsz:vs.length+ws.length<=sizeLine):wpAny (model prog w) A (binaryOp .Add (.ref t) (.ref b)) Q E s:=by
 obtain ⟨⟨cls,dd,data,sl⟩,ho,hc,n,hd⟩:=id ht;obtain ⟨⟨cls2,dd2,data2,sl2⟩,ho2,hc2,n2,hd2⟩:=id hb;simp only at hc hd hc2 hd2;subst hc hd hc2 hd2;have e:vs.toArray++ws.toArray=(vs++ws).toArray:=by simp
 by_cases hw:ws=[]
 ·exact concat_meets ⟨_,ho,rfl⟩ ⟨_,ho2,rfl⟩ noFill_tuple_add seq_tuple_add PySem.F.slot_tuple_add PySem.F.entry_tuple_add (PySem.F.args_tuple_add_2 _ _)
   (tuple_addW1 t b vs.toArray ws.toArray n n2 dd dd2 sl sl2 (by simpa using hv) (by simp[hw])) ⟨ho,ho2,h1 hw⟩
 ·refine concat_meets ⟨_,ho,rfl⟩ ⟨_,ho2,rfl⟩ noFill_tuple_add seq_tuple_add PySem.F.slot_tuple_add PySem.F.entry_tuple_add (PySem.F.args_tuple_add_2 _ _)
   (tuple_addW2 t b vs.toArray ws.toArray n n2 dd dd2 sl sl2 (by simpa using hv) (by simpa using hw) (by rw[zWG,zWG];exact hsz)) ⟨ho,ho2,?_⟩
  rw[e];exact h2 hw
def sIx (n d:Nat):Option Int->Nat
 |none=>d
 |some v=>if v<0 then (v+(n:Int)).toNat else min v.toNat n
theorem zGX (n d k:Nat):sIx n d (some (k:Int))=min k n:=by
 show (if (k:Int)<0 then ((k:Int)+(n:Int)).toNat else min (k:Int).toNat n)=min k n;rw[zWQ (by omega),Int.toNat_natCast]
theorem zTG (n d:Nat) (hd:d<=n) (o:Option Int):sIx n d o<=n:=by
 cases o with
 |none=>exact hd
 |some v=>
  show (if v<0 then (v+(n:Int)).toNat else min v.toNat n)<=n;by_cases hv:v<0
  ·rw[zWN hv];omega
  ·rw[zWQ hv];exact Nat.min_le_right _ _
theorem zMy (v:Int) (n d:Nat):(if v<0 then max (v+(n:Int)) 0 else min v (n:Int))=((sIx n d (some v):Nat):Int):=by
 show (if v<0 then max (v+(n:Int)) 0 else min v (n:Int))=(((if v<0 then (v+(n:Int)).toNat else min v.toNat n):Nat):Int);by_cases hv:v<0
 ·simp only[zWN hv];omega
 ·simp only[zWQ hv];omega
theorem zLw (lo hi:Option Int) (n:Nat):Builtin.Slice.sliceAdjust lo hi 1 (n:Int)=(((sIx n 0 lo:Nat):Int),((sIx n n hi:Nat):Int)):=by
 have h1:¬ ((1:Int)<0):=by omega
 unfold Builtin.Slice.sliceAdjust;simp only[h1,if_false];refine Prod.ext ?_ ?_
 ·cases lo with
  |none=>rfl
  |some v=>exact zMy v n 0
 ·cases hi with
  |none=>rfl
  |some v=>exact zMy v n n
theorem zMG (i j:Nat):Builtin.Slice.slicePlaces (i:Int) (j:Int) 1=j-i:=by
 unfold Builtin.Slice.slicePlaces;have h1:(1:Int)>0:=by omega
 simp only[h1,if_true,Int.ediv_one];split <;> omega
theorem zGv {v:Value} {o:Option Int} {Q:Option Int->Shared->Prop} (p:IsPart v o) (h:Q o s):wpAny (model prog w) A (Builtin.Slice.slicePartIndex v) Q E s:=by
 cases p with
 |none=>exact slicePart_none h
 |int i t=>exact slicePart_int h
theorem zDC {sl:Addr} {vl vu:Value} {lo hi:Option Int} {n:Nat} {Q:Int × Int × Nat->Shared->Prop} (hs:s.heap.IsSliceOf sl vl vu .none) (pl:IsPart vl lo) (pu:IsPart vu hi)
  (h:Q (((sIx n 0 lo:Nat):Int),1,sIx n n hi-sIx n 0 lo) s):wpAny (model prog w) A (Builtin.Slice.sliceApplied (.ref sl) (pure (n:Int))) Q E s:=by
 obtain ⟨os,hos,hcs,hds⟩:=id hs;unfold Builtin.Slice.sliceApplied Builtin.Slice.sliceFields;refine zV8 (zV8 (zWn hos hds (x:=vl) rfl (zV8 (zWn hos hds (x:=vu) rfl (zV8 (zWn hos hds (x:=.none) rfl (zWA ?_)))))));refine zV8 (slicePart_none ?_);show wpAny _ _ (if ((1:Int)==0)=true then _ else _) _ _ s;rw[zWQ (by decide)];refine zV8 (zGv pl (zV8 (zGv pu (zV8 (zWA ?_)))));show wpAny _ _ (match Builtin.Slice.sliceAdjust lo hi 1 (n:Int) with|(lo,hi)=>pure (lo,(1:Int),Builtin.Slice.slicePlaces lo hi 1)) _ _ s;rw[zLw lo hi n];show wpAny _ _ (pure (((sIx n 0 lo:Nat):Int),(1:Int),Builtin.Slice.slicePlaces ((sIx n 0 lo:Nat):Int) ((sIx n n hi:Nat):Int) 1)) _ _ s;rw[zMG];exact zWA h
theorem zQh (xs:Array Value) (i k:Nat):((List.range k).filterMap fun (m:Nat)=>xs[((i:Int)+(m:Int)*1).toNat]?).toArray=((xs.toList.drop i).take k).toArray:=by
 have e:(fun (m:Nat)=>xs[((i:Int)+(m:Int)*1).toNat]?)=fun m=>xs[i+m]?:=by
  funext m;have:((i:Int)+(m:Int)*1).toNat=i+m:=by omega
  rw[this]
 rw[e];have:=pick_run xs i k;rw[List.filterMap_map]at this;have e2:((fun x=>xs[x]?)∘fun x=>i+x)=fun m=>xs[i+m]?:=rfl;rw[e2]at this;rw[this]
theorem zFI {t sl:Addr} {items:Array Value} {vl vu:Value} {lo hi:Option Int} {Q:Value->Shared->Prop} (ht:IsTup s.heap t items) (hs:s.heap.IsSliceOf sl vl vu .none) (pl:IsPart vl lo) (pu:IsPart vu hi)
  (hw:¬ (sIx items.size 0 lo=0/\sIx items.size items.size hi=items.size))
  (h:Q (.ref s.heap.objs.size) { s with heap:=s.heap.push { cls:=.type "tuple", data:=.seq ((items.toList.drop (sIx items.size 0 lo)).take (sIx items.size items.size hi-sIx items.size 0 lo)).toArray } })
  (hsz:items.size<=sizeLine):wpAny (model prog w) A (getItem (.ref t) (.ref sl)) Q E s:=by
 have htake:sizeOk (.seq ((items.toList.drop (sIx items.size 0 lo)).take (sIx items.size items.size hi-sIx items.size 0 lo)).toArray):=by
  show ((items.toList.drop (sIx items.size 0 lo)).take (sIx items.size items.size hi-sIx items.size 0 lo)).toArray.size<=sizeLine;rw[zWG,zXW,List.length_drop,zWr];omega
 have hj:sIx items.size items.size hi<=items.size:=zTG _ _ (zWE _) hi;obtain ⟨os,hos,hcs,hds⟩:=id hs;have hTs:s.TypeIs (.ref sl) "slice" := ⟨os,hos,hcs⟩;unfold getItem;try with_reducible refine zW1 ?_
 first|refine zV8 (zWA ?_)|skip
 refine zV8 (wpAny_sequenceKey ht.typeIs (by decide) ?_)
 refine zV8 (zWk (name:=Str.ofString "__getitem__") ht.typeIs zXg
  (zWl zXg ht.typeIs entry_tuple_getitem ?_ (args_tuple_getitem _ _)))
 show wpAny _ _ (Builtin.Tuple.tupleItemsOf (.ref t) >>= _) _ _ s;refine zV8 (tupleItemsOf_ ht ?_);refine zV8 (wpAny_typeOf hTs ?_);rw[zWN (by decide)];refine zV8 (zDC hs pl pu ?_);have hno:¬ ((((sIx items.size 0 lo:Nat):Int)==0&&(1:Int)==1&&(sIx items.size items.size hi-sIx items.size 0 lo)==items.size)=true):=by
  intro q;rw[zWi,zWi]at q;have q1:((sIx items.size 0 lo:Nat):Int)=0:=eq_of_beq q.1.1;have q2:sIx items.size items.size hi-sIx items.size 0 lo=items.size:=eq_of_beq q.2;exact hw ⟨by omega,by omega⟩
 show wpAny _ _ (if (((sIx items.size 0 lo:Nat):Int)==0&&(1:Int)==1&&(sIx items.size items.size hi-sIx items.size 0 lo)==items.size)=true then _ else _) _ _ s;rw[zWQ hno,zQh]
 first
  |exact zV8 (m:=Builtin.Tuple.tupleExact _) (zWb (zWA ⟨_,rfl,zWA h⟩) htake)
  |exact zV8 (m:=Builtin.Tuple.tupleExact _) (zWb (zV8 (zWA (zWA ⟨_,rfl,zWA h⟩))) htake)
  |exact zV8 (zV8 (m:=Builtin.Tuple.tupleExact _) (zWb (zWA (zWA ⟨_,rfl,zWA h⟩)) htake))
  |exact zV8 (zV8 (m:=Builtin.Tuple.tupleExact _) (zWb (zWA ⟨_,rfl,zWA h⟩) htake))
end
end HT
namespace L2
open PySem PySem.Spec PyProof.Rows
abbrev TO:=St->Hp->(Option Int->Hp->Prop)->Prop
def PO (X:Cx) (e:Option Expr) (t:TO):Prop :=
 ∀ (zB:List (Addr × Obj)) (s:Shared) (σ:St) (H:Hp) (Q:Option Int->Hp->Prop),Inv X zB σ H s->t σ H Q ->
  wpAny (model X.prog X.w) X.A (evalPart e X.env) (fun u s'=>∃ o H',Inv X zB σ H' s'/\IsPart u o/\Q o H') X.xe s
def zSN:TO:=fun _ H Q=>Q none H
def zVQ (t:TE):TO:=fun σ H Q=>t σ H fun x H1=>∃ i,x=.int i/\Q (some i) H1
theorem zMB {ns:List Int}:∀ {us:List Value},ze (ns.map V.int) us->IntsAre us ns:=by
 induction ns with
 |nil=>intro us r;rw[List.map_nil]at r;cases r;exact .nil
 |cons n ns ih=>
  intro us r;rw[zWR]at r;cases r with
  |cons r1 r2=>
   obtain ⟨t,e⟩:=r1;subst e;exact .cons n t (ih r2)
section
variable {X:Cx} {e:Expr} {te:TE} {lo hi:Option Expr} {tl th:TO} {pos p2:Pos}
theorem zSI:PO X none zSN:=by
 intro zB s σ H Q I h;rw[evalPart_none];exact zWA ⟨none,H,I,.none,h⟩
theorem zRU (h:PE X e te):PO X (some e) (zVQ te):=by
 intro zB s σ H Q I hw;rw[evalPart_some];refine thn (h zB s σ H _ I hw) fun u s1 ⟨x,H1,I1,r1,q1⟩=>?_;obtain ⟨i,rfl,q⟩:=q1;obtain ⟨t,rfl⟩:=r1;exact ⟨some i,H1,I1,.int i t,q⟩
def SlR (X:Cx) (r:V->Option Int->Option Int->Hp->VK->Prop):Prop :=
 ∀ (zB:List (Addr × Obj)) (s:Shared) (σ:St) (H:Hp) (x:V) (v vl vu:Value) (lo hi:Option Int) (sl:Addr) (Q:VK),Inv X zB σ H s->zk x v->s.heap.IsSliceOf sl vl vu .none->IsPart vl lo->IsPart vu hi->r x lo hi H Q ->
  ∃ T id,typeLookup (.type T) "__getitem__" = pure (some (.builtin id))/\s.TypeIs v T/\wpAny (model X.prog X.w) X.A (getItem v (.ref sl)) (EP X zB σ Q) X.xe s
theorem SlR.or {r r':V->Option Int->Option Int->Hp->VK->Prop} (h:SlR X r) (h':SlR X r'):SlR X (fun x lo hi H Q=>r x lo hi H Q\/r' x lo hi H Q):=by
 intro zB s σ H x v vl vu lo hi sl Q I rx hs pl pu q;rcases q with q|q
 ·exact h zB s σ H x v vl vu lo hi sl Q I rx hs pl pu q
 ·exact h' zB s σ H x v vl vu lo hi sl Q I rx hs pl pu q
def tSl (r:V->Option Int->Option Int->Hp->VK->Prop) (te:TE) (tl th:TO):TE:=fun σ H Q=>te σ H fun x H1=>tl σ H1 fun l H2=>th σ H2 fun u H3=>r x l u H3 Q
theorem zP7 {r:V->Option Int->Option Int->Hp->VK->Prop} (hr:SlR X r) (he:PE X e te) (hl:PO X lo tl) (hu:PO X hi th):PE X (.Subscript e (.Slice lo hi none p2) pos) (tSl r te tl th):=by
 intro zB s σ H Q I h;refine Subscript_ (thn (he zB s σ H _ I h) fun v s1 ⟨x,H1,I1,r1,q1⟩=>?_);refine wpAny_Slice (thn (hl zB s1 σ H1 _ I1 q1) fun vl s2 ⟨l,H2,I2,pl,q2⟩=>thn (hu zB s2 σ H2 _ I2 q2) fun vu s3 ⟨u,H3,I3,pu,q3⟩=>?_);rw[evalPart_none];refine zWA ?_;have I4:Inv X zB σ H3 { s3 with heap:=s3.heap.push { cls:=.type "slice", data:=.fields #[vl,vu,.none] } }:=I3.kept (t':=s3.toks) fun b ob q=>zV9 _ q;obtain ⟨T,id,hT,ht,hg⟩:=hr zB { s3 with heap:=s3.heap.push { cls:=.type "slice", data:=.fields #[vl,vu,.none] } } σ H3 x v vl vu l u s3.heap.objs.size Q I4 r1 (Heap.IsSliceOf.new ..) pl pu q3;show wpAny (model X.prog X.w) X.A (subscriptTail e (.Slice lo hi none p2) v (.ref s3.heap.objs.size)) (EP X zB σ Q) X.xe { s3 with heap:=s3.heap.push { cls:=.type "slice", data:=.fields #[vl,vu,.none] } };exact tail_any (ops:=[.ref s3.heap.objs.size,v]) ht hT hg (by with_unfolding_all rfl)
def zKy (xs:List V) (lo hi:Option Int):List V:=(xs.drop (HT.sIx xs.length 0 lo)).take (HT.sIx xs.length xs.length hi-HT.sIx xs.length 0 lo)
theorem zFy (xs:List V) (lo hi:Option Int):(zKy xs lo hi).length<=xs.length:=by
 unfold zKy;rw[zXW,List.length_drop];omega
def zVh (K:PySem.W.Frag):V->Option Int->Option Int->Hp->VK->Prop:=fun x lo hi H Q=>∃ a xs,x=.ref a/\SqT K H a xs /\
 ¬ (HT.sIx xs.length 0 lo=0/\HT.sIx xs.length xs.length hi=xs.length) /\ ∀ p,H p=none->Q (.ref p) (upd H p (.tup (zKy xs lo hi)))
theorem zTn:SlR X (zVh X.K):=by
 intro zB s σ H x v vl vu lo hi sl Q I rx hs pl pu h;obtain ⟨a,xs,rfl,hx,hw,q⟩:=h;cases rx;obtain ⟨its,r,ht,hz⟩:=I.tuple hx;have hlen:its.toArray.size=xs.length:=by rw[zWG];exact r.length.symm
 refine ⟨"tuple", _,zXg.lookup,ht.typeIs,?_⟩;refine HT.zFI ht hs pl pu (by rw[hlen];exact hw) ?_ (by rw[hlen];exact hz);rw[hlen];refine ⟨.ref s.heap.objs.size,_,I.laid (t':=s.toks) (o:=.tup (zKy xs lo hi)) (fun b ob q=>zV9 _ q) (zWE _) ?_,rfl,q _ (I.hok.fresh (zWE _))⟩;exact ⟨zWZ (zFy xs lo hi) hz,_,(r.drop (HT.sIx xs.length 0 lo)).take (HT.sIx xs.length xs.length hi-HT.sIx xs.length 0 lo),zCH.new _ _⟩
def zSb (K:PySem.W.Frag):R2:=fun x y H Q=>∃ a b xs ys,x=.ref a/\y=.ref b/\SqT K H a xs/\SqT K H b ys/\xs≠[]/\xs.length+ys.length<=sizeLine /\
 (ys=[]->Q (.ref a) H)/\(ys≠[] -> ∀ p,H p=none->Q (.ref p) (upd H p (.tup (xs++ys))))
theorem ze.nil_iff {xs:List V} {us:List Value} (r:ze xs us):us=[] ↔ xs=[]:=by
 cases r with
 |nil=>simp
 |cons _ _=>simp
theorem zSC:OpR X (binaryOp .Add) (zSb X.K):=by
 intro zB s σ H x y v u Q I rx ry h;obtain ⟨a,b,xs,ys,rfl,rfl,ha,hb,hx,hz,q1,q2⟩:=h;cases rx;cases ry;obtain ⟨its,r1,p1,_⟩:=I.tuple ha;obtain ⟨its2,r2,p2,_⟩:=I.tuple hb;refine HT.zR4 p1 p2 (fun z=>hx (r1.nil_iff.mp z)) (fun z=>⟨.ref a,H,I,rfl,q1 (r2.nil_iff.mp z)⟩) (fun z=>?_) (by rw[<-r1.length,<-r2.length];exact hz);refine ⟨.ref s.heap.objs.size,_,I.laid (t':=s.toks) (o:=.tup (xs++ys)) (fun b ob q=>zV9 _ q) (zWE _) ?_,rfl,q2 (fun w=>z (r2.nil_iff.mpr w)) _ (I.hok.fresh (zWE _))⟩;exact ⟨by rw[zWO];exact hz,_,r1.append r2,zCH.new _ _⟩
end
def ixN (n:Nat) (i:Int):Option Nat:=if 0<=i then (if i<n then some i.toNat else none) else if -(n:Int)<=i then some (i+n).toNat else none
def atI {α:Type} (xs:List α) (i:Int):Option α:=(ixN xs.length i).bind fun j=>xs[j]?
theorem zJJ {n:Nat} {i:Int} {j:Nat} (h:ixN n i=some j):seqIndex? i n=some j/\j<n /\ -(n:Int)<=i/\i<n:=by
 unfold ixN at h;by_cases h0:0<=i
 ·rw[zWN h0]at h;by_cases h1:i<n
  ·rw[zWN h1]at h;have e:i.toNat=j:=zW8 h;exact ⟨by rw[seqIndex_of h0 h1,e],by omega,by omega,h1⟩
  ·rw[zWQ h1]at h;cases h
 ·rw[zWQ h0]at h;by_cases h1 : -(n:Int)<=i
  ·rw[zWN h1]at h;have e:(i+n).toNat=j:=zW8 h;exact ⟨by rw[seqIndex_neg (by omega) h1,e],by omega,h1,by omega⟩
  ·rw[zWQ h1]at h;cases h
theorem zJQ {α:Type} {xs:List α} {i:Int} {v:α} (h:atI xs i=some v):∃ j,seqIndex? i xs.length=some j/\xs[j]?=some v/\j<xs.length /\ -(xs.length:Int)<=i/\i<xs.length:=by
 unfold atI at h;cases e:ixN xs.length i with
 |none=>rw[e]at h;cases h
 |some j=>
  rw[e]at h;obtain ⟨h1,h2,h3,h4⟩:=zJJ e;exact ⟨j,h1,h,h2,h3,h4⟩
theorem zNJ {α:Type} {xs:List α} {j:Nat} {v:α} (h:xs[j]?=some v):atI xs (j:Int)=some v:=by
 have hj:j<xs.length:=(zWB.mp h).1;have e:ixN xs.length (j:Int)=some j:=by
  unfold ixN;rw[zWN (by omega),zWN (by omega)];simp
 unfold atI;rw[e];exact h
theorem zPG {α:Type} (xs:List α) (v:α):atI (xs++[v]) (-1)=some v:=by
 have hl:(xs++[v]).length=xs.length+1:=by simp
 have e:ixN (xs++[v]).length (-1)=some xs.length:=by
  unfold ixN;rw[hl,zWQ (by decide),zWN (by omega)];congr 1;omega
 unfold atI;rw[e];show (xs++[v])[xs.length]?=some v;simp
def zM9 (b:Expr):Prop:=∀ o i,subscripted b false o i=operate [o,i] (getItem o i)
def IxR (X:Cx) (r:R2):Prop :=
 ∀ (value slice:Expr) (zB:List (Addr × Obj)) (s:Shared) (σ:St) (H:Hp) (x y:V) (v u:Value) (Q:VK),Inv X zB σ H s->zk x v->zk y u->r x y H Q ->
  subscripted slice false v u=operate [v,u] (getItem v u)->wpAny (model X.prog X.w) X.A (subscriptTail value slice v u) (EP X zB σ Q) X.xe s
def MtR (X:Cx) (id:String) (r:V->List V->Hp->VK->Prop):Prop :=
 ∀ (zB:List (Addr × Obj)) (s:Shared) (σ:St) (H:Hp) (x:V) (xs:List V) (v:Value) (us:List Value) (Q:VK),Inv X zB σ H s->zk x v->ze xs us->r x xs H Q ->
  wpAny (model X.prog X.w) X.A (call (.builtin id) (v::us)) (EP X zB σ Q) X.xe s
section
variable {X:Cx} {a b:Expr} {ta tb:TE} {pos:Pos}
theorem IxR.or {r r':R2} (h:IxR X r) (h':IxR X r'):IxR X (fun x y H Q=>r x y H Q\/r' x y H Q):=by
 intro value slice zB s σ H x y v u Q I rx ry q hs;rcases q with q|q
 ·exact h value slice zB s σ H x y v u Q I rx ry q hs
 ·exact h' value slice zB s σ H x y v u Q I rx ry q hs
theorem zUH {r:R2} (hr:IxR X r) (ha:PE X a ta) (hb:PE X b tb) (hs:zM9 b):PE X (.Subscript a b pos) (tOp r ta tb):=by
 intro zB s σ H Q I h;exact Subscript_ (zTe ha hb I h fun v u s2 x y H2 I2 rx ry q=>hr a b zB s2 σ H2 x y v u Q I2 rx ry q (hs _ _))
def zVD (K:PySem.W.Frag):R2:=fun x y H Q=>∃ p xs i v,x=.ref p/\y=.int i/\SqL K H p xs/\atI xs i=some v/\Q v H
def zUV (K:PySem.W.Frag):R2:=fun x y H Q=>∃ p xs i v,x=.ref p/\y=.int i/\SqT K H p xs/\atI xs i=some v/\Q v H
def zVa:R2:=fun x y H Q=>∃ z i c,x=.str z/\y=.int i/\z.length<=sizeLine/\atI z.cps.toList i=some c/\Q (.str ⟨#[c]⟩) H
theorem zRN:IxR X (zVD X.K):=by
 intro value slice zB s σ H x y v u Q I rx ry h hs;obtain ⟨p,xs,i,z,rfl,rfl,hq,he,q⟩:=h;cases rx;obtain ⟨t,rfl⟩:=ry;obtain ⟨its,r,pl,hz⟩:=I.list hq;obtain ⟨j,h1,h2,h3,h4,h5⟩:=zJQ he;obtain ⟨w,ew,rw'⟩:=r.get h2;have hl:=r.length;have hn:=zEb;have fin:EP X zB σ Q w s:=⟨z,H,I,rw',q⟩;by_cases h0:0<=i
 ·have hj:i.toNat=j:=by
   rw[seqIndex_of h0 h5]at h1;exact zW8 h1
  exact item_listR pl.isList h0 (by omega) (by rw[hj];simpa using ew) fin hs
 ·have hj:(i+(its.toArray.size:Int)).toNat=j:=by
   rw[seqIndex_neg (by omega) h4]at h1;rw[zWG,<-hl];exact zW8 h1
  exact subscriptTail_builtinR (x:=w) pl.isList.typeIs slot_list_getitem.lookup
   (wpAny_getItem_list_neg (Q:=fun r s'=>r=w/\EP X zB σ Q r s') pl.isList (by omega) (by rw[zWG] <;> omega) (by omega) (by rw[hj];simpa using ew) ⟨rfl,fin⟩) hs
theorem zTQ:IxR X (zUV X.K):=by
 intro value slice zB s σ H x y v u Q I rx ry h hs;obtain ⟨p,xs,i,z,rfl,rfl,hq,he,q⟩:=h;cases rx;obtain ⟨t,rfl⟩:=ry;obtain ⟨its,r,pl,hz⟩:=I.tuple hq;obtain ⟨j,h1,h2,h3,h4,h5⟩:=zJQ he;obtain ⟨w,ew,rw'⟩:=r.get h2;have hl:=r.length;have hn:=zEb;have fin:EP X zB σ Q w s:=⟨z,H,I,rw',q⟩
 exact subscriptTail_builtinR (x:=w) pl.typeIs slot_tuple_getitem.lookup
  (getItem_tuple (j:=j) (Q:=fun r s'=>r=w/\EP X zB σ Q r s') pl (by omega) (by omega) (by rw[zWG,<-hl];exact h1) (by simpa using ew) ⟨rfl,fin⟩) hs
theorem zTR:IxR X zVa:=by
 intro value slice zB s σ H x y v u Q I rx ry h hs;obtain ⟨z,i,c,rfl,rfl,hz,he,q⟩:=h;obtain ⟨t,rfl⟩:=rx;obtain ⟨t',rfl⟩:=ry;obtain ⟨j,h1,h2,h3,h4,h5⟩:=zJQ he;have hl:z.cps.toList.length=z.length:=by simp[Str.length]
 rw[hl]at h1 h4 h5;have hn:=zEb;exact tail_any (typeIs_str s z t) slot_str_getitem.lookup (getItem_str (c:=c) (by
  have e1:decide (i < -(2 ^ 63:Int))=false:=zWh (by omega);have e2:decide (i≥2 ^ 63)=false:=zWh (by omega);rw[e1,e2,Bool.or_false]) (by rw[h1];simpa using h2) ⟨.str ⟨#[c]⟩,H,I.tok _,⟨_,rfl⟩,q⟩) hs
def rIx (K:PySem.W.Frag):R2:=fun x y H Q=>zVD K x y H Q\/zUV K x y H Q\/zVa x y H Q
theorem zTX:IxR X (rIx X.K):=zRN.or (zTQ.or zTR)
theorem zMX (its:List Value) (n j:Nat) (u:Value):Obj.mapSeq (·.setIfInBounds j u) { cls:=.type "list", data:=.seq its.toArray n }={ cls:=.type "list", data:=.seq (its.set j u).toArray n }:=by
 simp[Obj.mapSeq]
theorem Inv.lst {zB:List (Addr × Obj)} {σ:St} {H:Hp} {s:Shared} {p:Addr} {xs:List V} (I:Inv X zB σ H s) (h:H p=some (.lst xs)) :
  ∃ (its:List Value) (n:Nat),ze xs its/\s.heap.get? p=some { cls:=.type "list", data:=.seq its.toArray n }/\xs.length<=sizeLine:=by
 obtain ⟨z,its,n,r,e⟩:=I.hok p _ h;exact ⟨its,n,r,e,z⟩
theorem Inv.lstUpd {zB:List (Addr × Obj)} {σ:St} {H:Hp} {s:Shared} {p:Addr} {xs ys:List V} {its its':List Value} {n n':Nat} {f:Obj->Obj} (I:Inv X zB σ H s) (h:H p=some (.lst xs))
  (ho:s.heap.get? p=some { cls:=.type "list", data:=.seq its.toArray n }) (hf:f { cls:=.type "list", data:=.seq its.toArray n }={ cls:=.type "list", data:=.seq its'.toArray n' }) (r:ze ys its') (hz:ys.length<=sizeLine) (t:Nat) :
  Inv X zB σ (upd H p (.lst ys)) { s with heap:=s.heap.update p f,toks:=t }:=by
 have e:(s.heap.update p f).get? p=some { cls:=.type "list", data:=.seq its'.toArray n' }:=by
  rw[zWv f ho (by rw[hf] <;> rfl),hf]
 refine I.write (x:=p) (e:=p) (by rw[h];trivial) (.inl rfl) (fun b u hb q=>(zWp _ _ (Ne.symm hb)).trans q) ⟨_,e⟩ ?_;exact ⟨hz,its',n',r,e⟩
def zUh:V->V->V->Hp->(Hp->Prop)->Prop:=fun o i v H Q=>∃ p xs k j,o=.ref p/\i=.int k/\H p=some (.lst xs)/\ixN xs.length k=some j/\Q (upd H p (.lst (xs.set j v)))
theorem zP4:zUY X zUh:=by
 intro zB s σ H o i v ov iv u Q I ro ri rv h;obtain ⟨p,xs,k,j,rfl,rfl,hp,hj,q⟩:=h;cases ro;obtain ⟨t,rfl⟩:=ri;obtain ⟨its,n,r,ho,hz⟩:=I.lst hp;obtain ⟨h1,h2,h3,h4⟩:=zJJ hj;have hl:=r.length;have hn:=zEb;have I':Inv X zB σ (upd H p (.lst (xs.set j v))) { s with heap:=s.heap.update p (Obj.mapSeq (·.setIfInBounds j u)) } :=
  I.lstUpd hp ho (zMX its n j u) (r.set rv j) (by rw[List.length_set];exact hz) s.toks
 by_cases h0:0<=k
 ·have hk:k.toNat=j:=by
   rw[seqIndex_of h0 h4]at h1;exact zW8 h1
  exact PySem.W.ki_setAt ho h0 (by omega) (by rw[zWG,<-hl];exact h4) (by rw[hk];exact ⟨_,I',q⟩)
 ·have hk:(k+(its.toArray.size:Int)).toNat=j:=by
   rw[seqIndex_neg (by omega) h3]at h1;rw[zWG,<-hl];exact zW8 h1
  exact PySem.W.ki_setBack ho (by omega) (by rw[zWG,<-hl];exact h3) (by omega) (by rw[hk];exact ⟨_,I',q⟩)
theorem zJr (lo hi:Option Int) (n:Nat):(sliceBounds lo hi none n).1=((HT.sIx n 0 lo:Nat):Int)/\(sliceBounds lo hi none n).2.1=((HT.sIx n n hi:Nat):Int)/\(sliceBounds lo hi none n).2.2=1:=by
 refine ⟨?_,?_,rfl⟩
 ·cases lo with
  |none=>simp[sliceBounds,HT.sIx]
  |some i=>
   simp only[sliceBounds,HT.sIx,Option.getD_none,show (1:Int)>0 by decide,if_true];by_cases h:i<0
   ·simp only[h,if_true] <;> omega
   ·simp only[h,if_false] <;> omega
 ·cases hi with
  |none=>simp[sliceBounds,HT.sIx]
  |some i=>
   simp only[sliceBounds,HT.sIx,Option.getD_none,show (1:Int)>0 by decide,if_true];by_cases h:i<0
   ·simp only[h,if_true] <;> omega
   ·simp only[h,if_false] <;> omega
theorem zHq (its:List Value) (lo hi:Option Int):slicePick its.toArray lo hi none=((its.drop (HT.sIx its.length 0 lo)).take (HT.sIx its.length its.length hi-HT.sIx its.length 0 lo)).toArray:=by
 obtain ⟨h1,h2,h3⟩:=zJr lo hi its.toArray.size;unfold slicePick;rw[h1,h2,h3];simp only[sliceRange_one,pick_run,zWG] <;> rfl
def zVs (K:PySem.W.Frag):V->Option Int->Option Int->Hp->VK->Prop:=fun x lo hi H Q=>∃ a xs,x=.ref a/\SqL K H a xs /\ ∀ p,H p=none->Q (.ref p) (upd H p (.lst (zKy xs lo hi)))
theorem zRL:SlR X (zVs X.K):=by
 intro zB s σ H x v vl vu lo hi sl Q I rx hs pl pu h;obtain ⟨a,xs,rfl,hx,q⟩:=h;cases rx;obtain ⟨its,r,ht,hz⟩:=I.list hx;have hlen:=r.length;refine ⟨"list", _,slot_list_getitem.lookup,ht.isList.typeIs,?_⟩;refine wpAny_getItem_list_slice ht.isList hs pl pu .none (by simp) ?_ (by rw[zWG] <;> omega);rw[zHq,<-hlen];refine ⟨.ref s.heap.objs.size,_,I.laid (t':=s.toks) (o:=.lst (zKy xs lo hi)) (fun b ob q=>zV9 _ q) (zWE _) ?_,rfl,q _ (I.hok.fresh (zWE _))⟩;exact ⟨zWZ (zFy xs lo hi) hz,_,0,(r.drop (HT.sIx xs.length 0 lo)).take (HT.sIx xs.length xs.length hi-HT.sIx xs.length 0 lo),zWI _ rfl⟩
def zFT:V->Bool
 |.non=>true
 |.bl _=>true
 |.int _=>true
 |.str _=>true
 |_=>false
def eqV:V->V->Bool
 |.non,.non=>true
 |.bl a,.bl b=>a==b
 |.bl a,.int b=>(if a then 1 else 0)==b
 |.int a,.bl b=>a==(if b then 1 else 0)
 |.int a,.int b=>a==b
 |.str a,.str b=>a==b
 |_,_=>false
theorem zTd {A:Around} {s:Shared} {y x:V} {u v:Value} (ry:zk y u) (rx:zk x v) (fy:zFT y=true) (fx:zFT x=true):SeqAt.EqAt A s u v (eqV y x):=by
 cases y with
 |non=>
  cases ry;cases x with
  |non=>cases rx;exact SeqAt.EqAt.same _
  |bl b=>cases rx;exact SeqAt.EqAt.none_bool b
  |int b=>obtain ⟨t,rfl⟩:=rx;exact SeqAt.EqAt.none_int b t
  |str b=>obtain ⟨t,rfl⟩:=rx;exact SeqAt.EqAt.none_str b t
  |_=>exact absurd (show false=true from fx) zWU
 |bl a=>
  cases ry;cases x with
  |non=>cases rx;exact SeqAt.EqAt.bool_none a
  |bl b=>cases rx;exact SeqAt.EqAt.bool_bool a b
  |int b=>obtain ⟨t,rfl⟩:=rx;exact SeqAt.EqAt.bool_int a b t
  |str b=>obtain ⟨t,rfl⟩:=rx;exact SeqAt.EqAt.bool_str a b t
  |_=>exact absurd (show false=true from fx) zWU
 |int a=>
  obtain ⟨t',rfl⟩:=ry;cases x with
  |non=>cases rx;exact SeqAt.EqAt.int_none a t'
  |bl b=>cases rx;exact SeqAt.EqAt.int_bool a t' b
  |int b=>obtain ⟨t,rfl⟩:=rx;exact SeqAt.EqAt.int_int a t' b t
  |str b=>obtain ⟨t,rfl⟩:=rx;exact SeqAt.EqAt.int_str a t' b t
  |_=>exact absurd (show false=true from fx) zWU
 |str a=>
  obtain ⟨t',rfl⟩:=ry;cases x with
  |non=>cases rx;exact SeqAt.EqAt.str_none a t'
  |bl b=>cases rx;exact SeqAt.EqAt.str_bool a t' b
  |int b=>obtain ⟨t,rfl⟩:=rx;exact SeqAt.EqAt.str_int a t' b t
  |str b=>obtain ⟨t,rfl⟩:=rx;exact SeqAt.EqAt.str_str a t' b t
  |_=>exact absurd (show false=true from fx) zWU
 |_=>exact absurd (show false=true from fy) zWU
def eqU (x:V) (u:Value):Bool:=match u with
 |.none=>eqV .non x
 |.bool b=>eqV (.bl b) x
 |.int i _=>eqV (.int i) x
 |.str z _=>eqV (.str z) x
 |_=>false
theorem zPd {x y:V} {u:Value} (r:zk y u) (f:zFT y=true):eqU x u=eqV y x:=by
 cases y with
 |non=>cases r;rfl
 |bl b=>cases r;rfl
 |int i=>obtain ⟨t,rfl⟩:=r;rfl
 |str z=>obtain ⟨t,rfl⟩:=r;rfl
 |_=>exact absurd (show false=true from f) zWU
theorem zE3 {x:V}:∀ {xs:List V} {us:List Value},ze xs us->xs.all zFT=true->us.any (eqU x)=xs.any fun y=>eqV y x
 |_,_,.nil,_=>rfl
 |y::xs,u::us,.cons r t,f=>by
  rw[List.all_cons,zWi]at f;rw[List.any_cons,List.any_cons,zPd r f.1,zE3 t f.2]
theorem zD1 {A:Around} {s:Shared} {x:V} {v:Value} (rx:zk x v) (fx:zFT x=true):∀ {xs:List V} {us:List Value},ze xs us->xs.all zFT=true -> ∀ u∈us,SeqAt.EqAt A s u v (eqU x u)
 |_,_,.nil,_=>fun u hu=>by cases hu
 |y::xs,u::us,.cons r t,f=>fun u' hu=>by
  rw[List.all_cons,zWi]at f;rcases zWK.mp hu with rfl|hu
  ·rw[zPd r f.1];exact zTd r rx f.1 fx
  ·exact zD1 rx fx t f.2 u' hu
def inV (x:V) (xs:List V):Bool:=xs.any fun y=>eqV y x
def rIn (K:PySem.W.Frag) (neg:Bool):R2:=fun x y H Q=>∃ p xs,y=.ref p/\(SqL K H p xs\/SqT K H p xs)/\zFT x=true/\xs.all zFT=true/\Q (.bl (if neg then !inV x xs else inV x xs)) H
theorem zOG:OpR X (compareOp .In) (rIn X.K false):=by
 intro zB s σ H x y v u Q I rx ry h;obtain ⟨p,xs,rfl,hq,fx,fs,q⟩:=h;cases ry;rcases hq with hq|hq
 ·obtain ⟨its,r,pl,hz⟩:=I.list hq;refine SeqAt.in_listAt (eqU x) pl.isList (fun w hw=>zD1 rx fx r fs w (by simpa using hw)) ⟨.bl _,H,I,rfl,?_⟩;rw[show its.toArray.any (eqU x)=its.any (eqU x) by simp,zE3 r fs];exact q
 ·obtain ⟨its,r,pl,hz⟩:=I.tuple hq;refine SeqAt.in_tupleAt (eqU x) pl (fun w hw=>zD1 rx fx r fs w (by simpa using hw)) ⟨.bl _,H,I,rfl,?_⟩;rw[show its.toArray.any (eqU x)=its.any (eqU x) by simp,zE3 r fs];exact q
theorem zIu:OpR X (compareOp .NotIn) (rIn X.K true):=by
 intro zB s σ H x y v u Q I rx ry h;obtain ⟨p,xs,rfl,hq,fx,fs,q⟩:=h;cases ry;rcases hq with hq|hq
 ·obtain ⟨its,r,pl,hz⟩:=I.list hq;refine SeqAt.notIn_listAt (eqU x) pl.isList (fun w hw=>zD1 rx fx r fs w (by simpa using hw)) ⟨.bl _,H,I,rfl,?_⟩;rw[show its.toArray.any (eqU x)=its.any (eqU x) by simp,zE3 r fs];exact q
 ·obtain ⟨its,r,pl,hz⟩:=I.tuple hq;refine SeqAt.notIn_tupleAt (eqU x) pl (fun w hw=>zD1 rx fx r fs w (by simpa using hw)) ⟨.bl _,H,I,rfl,?_⟩;rw[show its.toArray.any (eqU x)=its.any (eqU x) by simp,zE3 r fs];exact q
theorem zJs:zCu X (.builtin "len") (fun xs H Q=>∃ p ys,xs=[.ref p]/\(SqL X.K H p ys\/SqT X.K H p ys)/\Q (.int ys.length) H):=by
 intro zB s σ H xs us Q I r h;obtain ⟨p,ys,rfl,hq,q⟩:=h;obtain ⟨u,rfl,rx⟩:=zF0 r;cases rx;have hn:=zEb;rcases hq with hq|hq
 ·obtain ⟨its,r',pl,hz⟩:=I.list hq;have hlen:=r'.length;exact Calls.call_len_list pl.isList (by simp only[zWG] <;> omega) ⟨.int ys.length,H,I.tok _,⟨s.toks+1,by rw[zWG,hlen]⟩,q⟩
 ·obtain ⟨its,r',pl,hz⟩:=I.tuple hq;have hlen:=r'.length;exact len_tuple pl (by simp only[zWG] <;> omega) ⟨.int ys.length,H,I.tok _,⟨s.toks+1,by rw[zWG,hlen]⟩,q⟩
theorem zI2:zCu X (.type "list") (fun xs H Q=>∃ p ys,xs=[.ref p]/\(SqL X.K H p ys\/SqT X.K H p ys) /\ ∀ l,H l=none->Q (.ref l) (upd H l (.lst ys))):=by
 intro zB s σ H xs us Q I r h;obtain ⟨p,ys,rfl,hq,q⟩:=h;obtain ⟨u,rfl,rx⟩:=zF0 r;cases rx
 have fin:∀ (its:List Value),ze ys its->ys.length<=sizeLine -> ∀ (h':Heap) (c':Nat),(∀ b o',s.heap.get? b=some o'->h'.get? b=some o') ->
   h'.get? s.heap.objs.size=some { cls:=.type "list", dict:=none,data:=.seq its.toArray c',slots:=#[] }->EP X zB σ Q (.ref s.heap.objs.size) { s with heap:=h' }:=fun its r' hz h' c' kp e=>
  ⟨.ref s.heap.objs.size,_,I.laid (t':=s.toks) kp (zWE _) (show zAu X.prog X.w _ h' _ (.lst ys)from ⟨hz,its,c',r',e⟩),rfl,q _ (I.hok.fresh (zWE _))⟩
 rcases hq with hq|hq
 ·obtain ⟨its,r',pl,hz⟩:=I.list hq;have hlen:=r'.length;obtain ⟨o,ho,hc,n,hd⟩:=pl.isList;exact call_list_seq p (.inl rfl) ho hc hd (fun h' c' kp e=>fin its r' hz h' c' kp e) (by simp only[zWG] <;> omega)
 ·obtain ⟨its,r',pl,hz⟩:=I.tuple hq;have hlen:=r'.length;obtain ⟨o,ho,hc,n,hd⟩:=pl;exact call_list_seq p (.inr rfl) ho hc hd (fun h' c' kp e=>fin its r' hz h' c' kp e) (by simp only[zWG] <;> omega)
theorem zH7:zCu X (.type "tuple") (fun xs H Q=>∃ p ys,xs=[.ref p]/\((SqL X.K H p ys /\ ∀ l,H l=none->Q (.ref l) (upd H l (.tup ys)))\/(SqT X.K H p ys/\Q (.ref p) H))):=by
 intro zB s σ H xs us Q I r h;obtain ⟨p,ys,rfl,h⟩:=h;obtain ⟨u,rfl,rx⟩:=zF0 r;cases rx;rcases h with ⟨hq,q⟩|⟨hq,q⟩
 ·obtain ⟨its,r',pl,hz⟩:=I.list hq;have hlen:=r'.length;refine call_tuple_list pl.isList (fun h' kp=>?_) (by simp only[zWG] <;> omega);have I1:Inv X zB σ H { s with heap:=h' }:=I.kept (t':=s.toks) kp;have I2:Inv X zB σ (upd H h'.objs.size (.tup ys)) { s with heap:=h'.push { cls:=.type "tuple", data:=.seq its.toArray } } :=
   I1.laid (t':=s.toks) (fun b o e=>zV9 _ e) (zWE _) (show zAu X.prog X.w _ _ _ (.tup ys)from ⟨hz,its,r',zCH.new _ _⟩)
  exact ⟨.ref h'.objs.size,_,I2,rfl,q _ (I1.hok.fresh (zWE _))⟩
 ·obtain ⟨its,r',pl,hz⟩:=I.tuple hq;exact call_tuple_same pl ⟨.ref p,H,I,rfl,q⟩
def tyV (K:PySem.W.Frag) (T:String) (x:V) (H:Hp):Prop:=match x with
 |.str _=>T = "str"
 |.int _=>T = "int"
 |.ref p=>(T = "list" /\ ∃ xs,SqL K H p xs)\/(T = "tuple" /\ ((∃ o,K.lookup p=some o/\o.cls=.type "tuple" /\ o.dict=none) \/ ∃ xs,H p=some (.tup xs))) \/
   (T = "dict" /\ ((∃ kvs,H p=some (.dK kvs)) \/ ∃ kvs,H p=some (.dT kvs)))\/(T = "set" /\ ∃ S n,H p=some (.set S n))
 |_=>False
theorem zTg {zB:List (Addr × Obj)} {σ:St} {H:Hp} {s:Shared} {T:String} {x:V} {v:Value} (I:Inv X zB σ H s) (r:zk x v) (ty:tyV X.K T x H) :
  s.TypeIs v T /\ ∀ a,v=.ref a -> ∃ ob,s.heap.get? a=some ob/\ob.dict=none:=by
 cases x with
 |str z=>
  obtain ⟨t,rfl⟩:=r;cases (show T = "str" from ty);exact ⟨typeIs_str s z t,fun _ e=>nomatch e⟩
 |int i=>
  obtain ⟨t,rfl⟩:=r;cases (show T = "int" from ty);exact ⟨typeIs_int s i t,fun _ e=>nomatch e⟩
 |ref p=>
  cases r;rcases ty with ⟨rfl,xs,hq⟩|⟨rfl,⟨o,hk,hc,hd⟩|⟨xs,hq⟩⟩|⟨rfl,hk⟩|⟨rfl,S,n,hk⟩
  ·obtain ⟨its,_,pl,_⟩:=I.list hq;refine ⟨pl.isList.typeIs,fun a e=>?_⟩;cases e;obtain ⟨o,n,e,c,hd,_⟩:=pl;exact ⟨o,e,hd⟩
  ·refine ⟨⟨o,I.kIn p o hk,hc⟩,fun a e=>?_⟩;cases e;exact ⟨o,I.kIn _ o hk,hd⟩
  ·obtain ⟨_,its,_,o,e,c,_,hd⟩:=I.hok p _ hq;refine ⟨⟨o,e,c⟩,fun a e2=>?_⟩;cases e2;exact ⟨o,e,hd⟩
  ·have z:∃ o,s.heap.get? p=some o/\o.ExactDict:=by
    rcases hk with ⟨kvs,hk⟩|⟨kvs,hk⟩
    ·obtain ⟨_,_,_,_,o,_,_,e,ex,_⟩:=I.hok p _ hk;exact ⟨o,e,ex⟩
    ·obtain ⟨_,_,_,_,o,_,_,e,ex,_⟩:=I.hok p _ hk;exact ⟨o,e,ex⟩
   obtain ⟨o,e,ex⟩:=z;refine ⟨⟨o,e,ex.1⟩,fun a e2=>?_⟩;cases e2;exact ⟨o,e,ex.2.1⟩
  ·obtain ⟨o,_,_,_,e,ex,_⟩:=I.hok p _ hk;refine ⟨⟨o,e,ex.1⟩,fun a e2=>?_⟩;cases e2;exact ⟨o,e,ex.2.1⟩
 |_=>exact False.elim ty
def tBM (K:PySem.W.Frag) (T:String) (r:V->List V->Hp->VK->Prop) (to:TE) (t:TA):TE:=fun σ H Q=>to σ H fun x H1=>tyV K T x H1/\t σ H1 fun xs H2=>r x xs H2 Q
variable {o e:Expr} {es:List Expr} {to:TE} {t:TA} {name:Str} {apos cpos:Pos} {T id:String} {r:V->List V->Hp->VK->Prop}
theorem zMn (pa:PlainAttrs T) (slot:Slot T name id) (hty:typeOf (.builtin id)=pure (.type "method_descriptor")) (hm:MtR X id r) (ho:PE X o to) (ha:PA X (e::es) t)
  (hbase:attributeBase o name X.env (eval o X.env)=eval o X.env:=by rfl)
  (hfew:((backTo cpos (starEach (e::es) X.env)).all (fun x=> !x.1)&&(backToKw cpos (keywordEach [] X.env)).all (fun x=>x.1.isSome)
   && decide ((e::es).length+([]:List Keyword).length+(if ([]:List Keyword).isEmpty then 0 else 1)<30))=true:=by rfl)
  (hline:(apos.endLine==cpos.line)=true:=by rfl) (hs:starEach (e::es) X.env=(false,eval e X.env)::starEach es X.env:=by rfl) (hplain:(backTo cpos (starEach es X.env)).any (·.1)=false:=by rfl) :
  PE X (.Call (.Attribute o name apos) (e::es) [] cpos) (tBM X.K T r to t):=by
 intro zB s σ H Q I h;refine wpAny_Call_method_late hbase hfew hline rfl (thn (ho zB s σ H _ I h) fun v s1 ⟨x,H1,I1,r1,ty,q1⟩=>?_);obtain ⟨h1,h2⟩:=zTg I1 r1 ty;refine ⟨T,id,pa,slot,hty,h1,h2,?_⟩;have hA:=ha cpos zB s1 σ H1 _ I1 q1;rw[hs]at hA ⊢;refine Calls.callWith_builtin (by show (false||(backTo cpos (starEach es X.env)).any (·.1))=false;rw[hplain] <;> rfl) (Calls.evalArgs_plain ?_);exact thn hA fun us s2 ⟨vs,H2,I2,r2,q2⟩=>hm zB s2 σ H2 x vs v us Q I2 r1 r2 q2
end
def MtM (X:Cx) (id:String) (r:V->List V->Hp->VK->Prop):Prop :=
 ∀ (zB:List (Addr × Obj)) (s:Shared) (σ:St) (H:Hp) (x:V) (xs:List V) (v:Value) (us:List Value) (Q:VK),Inv X zB σ H s->zk x v->ze xs us->r x xs H Q ->
  wpAny (model X.prog X.w) X.A (call (.builtin id) (v::us)) (EP X zB σ Q) X.xe s
theorem ze.one:∀ {x:V} {us:List Value},ze [x] us -> ∃ u,us=[u]/\zk x u
 |_,_,.cons r .nil=>⟨_,rfl,r⟩
theorem ze.eraseIdx:∀ {xs:List V} {us:List Value} (i:Nat),ze xs us->ze (xs.eraseIdx i) (us.eraseIdx i)
 |_,_,_,.nil=> .nil
 |_,_,0,.cons _ t=>t
 |_,_,i+1,.cons r t=> .cons r (ze.eraseIdx i t)
theorem ze.rep {xs:List V} {us:List Value} (h:ze xs us):∀ k:Nat,ze (List.replicate k xs).flatten (List.replicate k us).flatten
 |0=> .nil
 |k+1=>by
  rw[zXR,zXR,zX7,zX7];exact ze.append h (ze.rep h k)
theorem zIp {α:Type}:∀ (l:List α) (i:Nat),(l.eraseIdx i).length<=l.length
 |[],_=>zWE _
 |_::_,0=>Nat.le_succ _
 |_::r,i+1=>Nat.succ_le_succ (zIp r i)
theorem zFa (its:List Value):∀ (k:Nat) (acc:List Value),
  List.foldl (fun x1 x2=>x1++x2) acc.toArray (List.replicate k its.toArray)=(acc++(List.replicate k its).flatten).toArray
 |0,acc=>by simp
 |k+1,acc=>by
  have e:acc.toArray++its.toArray=(acc++its).toArray:=by simp
  have e2:(acc++its)++(List.replicate k its).flatten=acc++(List.replicate (k+1) its).flatten:=by
   rw[zXR,zX7,zXE]
  rw[<-e2,<-zFa its k (acc++its),<-e,zXR,List.foldl_cons]
section
variable {X:Cx} {zB:List (Addr × Obj)} {σ:St} {H:Hp} {s:Shared} {l b:Addr} {xs ys zs:List V}
theorem Inv.lset {its its':List Value} {n:Nat} {f:Array Value->Array Value} {t':Nat} (I:Inv X zB σ H s) (hH:H l=some (.lst xs))
  (e:s.heap.get? l=some { cls:=.type "list", data:=.seq its.toArray n }) (hf:f its.toArray=its'.toArray) (hv:ze ys its') (hz:ys.length<=sizeLine) :
  Inv X zB σ (upd H l (.lst ys)) { s with heap:=s.heap.update l (Obj.mapSeq f),toks:=t' }:=by
 have q:=PySem.IsL.update e f;rw[hf]at q;refine I.write (x:=l) (e:=l) (by rw[hH];exact trivial) (.inl rfl) (fun b' u hb hu=>(zWp s.heap (Obj.mapSeq f) (Ne.symm hb)).trans hu) ⟨_,q⟩ ?_;exact ⟨hz,its',_,hv,q⟩
theorem Inv.lnew {its:List Value} {t':Nat} (I:Inv X zB σ H s) (hv:ze ys its) (hz:ys.length<=sizeLine) :
  Inv X zB σ (upd H s.heap.objs.size (.lst ys)) { s with heap:=s.heap.push { cls:=.type "list", data:=.seq its.toArray },toks:=t' } :=
 I.laid (fun _ _ q=>zV9 _ q) (zWE _) ⟨hz,its,0,hv,zWI _ rfl⟩
theorem Inv.fresh (I:Inv X zB σ H s):H s.heap.objs.size=none:=I.hok.fresh (zWE _)
theorem Inv.lstM (I:Inv X zB σ H s) (hH:H l=some (.lst xs)):xs.length<=sizeLine /\ ∃ (its:List Value) (n:Nat),ze xs its/\xs.length=its.length/\s.heap.get? l=some { cls:=.type "list", data:=.seq its.toArray n }:=by
 obtain ⟨z,its,n,r,e⟩:=I.hok l _ hH;exact ⟨z,its,n,r,r.length,e⟩
theorem zKr {n:Nat} (h:n<=sizeLine):Builtin.List.listTooLong n=false:=by
 unfold Builtin.List.listTooLong;exact zWh (by omega)
end
section
variable {X:Cx}
def zNH:V->List V->Hp->VK->Prop:=fun x vs H Q=>∃ l xs y,x=.ref l/\vs=[y]/\H l=some (.lst xs)/\xs.length<sizeLine/\Q .non (upd H l (.lst (xs++[y])))
theorem zNP:MtM X "list.append" zNH:=by
 intro zB s σ H x vs v us Q I rx rv h;obtain ⟨l,xs,y,rfl,rfl,hH,hz,q⟩:=h;cases rx;obtain ⟨u,rfl,ru⟩:=rv.one;obtain ⟨z,its,n,r,hl,e⟩:=I.lstM hH;refine call_meets F.slot_list_append ⟨_,e,rfl⟩ F.entry_list_append (F.args_list_append_2 _ _) (PySem.list_append l its.toArray n u (by rw[zWG];omega)) ⟨e,?_⟩;refine ⟨.non,_,I.lset (its':=its++[u]) hH e (by simp) (r.append (.cons ru .nil)) ?_,rfl,q⟩;rw[zWO,List.length_singleton];omega
def zNG:V->List V->Hp->VK->Prop:=fun x vs H Q=>∃ l b xs zs,x=.ref l/\vs=[.ref b]/\H l=some (.lst xs)/\H b=some (.lst zs)/\xs.length+zs.length<=sizeLine/\Q .non (upd H l (.lst (xs++zs)))
theorem zOU:MtM X "list.extend" zNG:=by
 intro zB s σ H x vs v us Q I rx rv h;obtain ⟨l,b,xs,zs,rfl,rfl,hH,hB,hz,q⟩:=h;cases rx;obtain ⟨u,rfl,ru⟩:=rv.one;cases ru;obtain ⟨z,its,n,r,hl,e⟩:=I.lstM hH;obtain ⟨z2,its2,n2,r2,hl2,e2⟩:=I.lstM hB;have hsz:its.toArray.size+its2.toArray.size<=sizeLine:=by rw[zWG,zWG];omega
 have hlong:¬ (!its.toArray.isEmpty&&Builtin.List.listTooLong (its.toArray.size+its2.toArray.size))=true:=by
  rw[zKr hsz,Bool.and_false];exact zWU
 refine call_meets F.slot_list_extend ⟨_,e,rfl⟩ F.entry_list_extend (F.args_list_extend_2 _ _)
  (AutoSeq1.list_extend_list_list_0 l its.toArray n b its2.toArray n2 hlong (by rw[zWG];omega) (by omega)) ⟨e,e2,?_⟩
 refine ⟨.non,_,I.lset (its':=its++its2) hH e (by simp) (r.append r2) ?_,rfl,q⟩;rw[zWO];omega
def zQd:V->List V->Hp->VK->Prop:=fun x vs H Q=>∃ l xs i k y,x=.ref l/\vs=[.int i]/\H l=some (.lst xs) /\ -(2 ^ 63)<=i/\i<2 ^ 63/\seqIndex? i xs.length=some k/\xs[k]?=some y/\Q y (upd H l (.lst (xs.eraseIdx k)))
theorem zPn:MtM X "list.pop" zQd:=by
 intro zB s σ H x vs v us Q I rx rv h;obtain ⟨l,xs,i,k,y,rfl,rfl,hH,h1,h2,hk,hy,q⟩:=h;cases rx;obtain ⟨u,rfl,ru⟩:=rv.one;obtain ⟨t,rfl⟩:=ru;obtain ⟨z,its,n,r,hl,e⟩:=I.lstM hH;obtain ⟨w,hw,rw'⟩:=r.get hy
 refine call_meets F.slot_list_pop ⟨_,e,rfl⟩ F.entry_list_pop (F.args_list_pop_2 _ _)
  (MeetsSeq.list_pop_at l its.toArray n i t k w (fitsIndex_both h1 h2) (by rw[zWG,<-hl];exact hk) (by rw[<-Array.getElem?_toList];exact hw) (by rw[zWG];omega)) ⟨e,?_⟩
 refine ⟨y,_,I.lset (its':=its.eraseIdx k) hH e ?_ (r.eraseIdx k) ?_,rw',q⟩
 ·show its.toArray.eraseIdxIfInBounds k=(its.eraseIdx k).toArray;rw[List.eraseIdxIfInBounds_toArray]
 ·have:=zIp xs k;omega
def zUd:R2:=fun x y H Q=>∃ l b xs zs,x=.ref l/\y=.ref b/\H l=some (.lst xs)/\H b=some (.lst zs)/\xs.length+zs.length<=sizeLine /\ ∀ p,H p=none->Q (.ref p) (upd H p (.lst (xs++zs)))
theorem zT8:OpR X (binaryOp .Add) zUd:=by
 intro zB s σ H x y v u Q I rx ry h;obtain ⟨l,b,xs,zs,rfl,rfl,hH,hB,hz,q⟩:=h;cases rx;cases ry;obtain ⟨z,its,n,r,hl,e⟩:=I.lstM hH;obtain ⟨z2,its2,n2,r2,hl2,e2⟩:=I.lstM hB;refine PySem.P.add_list e e2 ?_ (by rw[zWG,zWG];omega);have ea:its.toArray++its2.toArray=(its++its2).toArray:=by simp
 rw[ea];exact ⟨.ref _,_,I.lnew (t':=s.toks) (r.append r2) (by rw[zWO];omega),rfl,q _ I.fresh⟩
def zUp:R2:=fun x y H Q=>∃ l k xs,x=.ref l/\y=.int k/\H l=some (.lst xs) /\ -(2 ^ 63)<=k/\k<2 ^ 63/\xs.length*k.toNat<=sizeLine /\
 ∀ p,H p=none->Q (.ref p) (upd H p (.lst (List.replicate k.toNat xs).flatten))
theorem zJL {α:Type} (xs:List α) (k:Nat):(List.replicate k xs).flatten.length=k*xs.length:=by
 induction k with
 |zero=>simp
 |succ k ih=>rw[zXR,zX7,zWO,ih,Nat.succ_mul,Nat.add_comm]
theorem zS6:OpR X (binaryOp .Mult) zUp:=by
 intro zB s σ H x y v u Q I rx ry h;obtain ⟨l,k,xs,rfl,rfl,hH,h1,h2,hz,q⟩:=h;cases rx;obtain ⟨t,rfl⟩:=ry;obtain ⟨z,its,n,r,hl,e⟩:=I.lstM hH;have hlen:its.toArray.size*k.toNat<=sizeLine:=by rw[zWG,<-hl];exact hz
 have hcap:¬ its.toArray.size*k.toNat>(2 ^ 63-1) / 8:=by
  have:(sizeLine:Nat)<=(2 ^ 63-1) / 8:=by decide
  omega
 have hfit:¬ (!Builtin.List.listFitsIndex k)=true:=by
  rw[fitsIndex_both h1 h2];exact zWU
 have hlong:¬ Builtin.List.listTooLong (its.toArray.size*k.toNat)=true:=by
  rw[zKr hlen];exact zWU
 have hnew:List.foldl (fun x1 x2=>x1++x2) #[] (List.replicate (if its.toArray.isEmpty=true then 0 else k.toNat) its.toArray)=(List.replicate k.toNat its).flatten.toArray:=by
  have f0:∀ m:Nat,List.foldl (fun x1 x2=>x1++x2) #[] (List.replicate m its.toArray)=(List.replicate m its).flatten.toArray:=fun m=>by
   have:=zFa its m [];rw[zYQ]at this;exact this
  rw[f0];cases its with
  |nil=>simp
  |cons a r'=>rw[zWQ (by simp)]
 refine wpAny_binaryOp_repeat_ref (T := "list") (U := "int") (by decide) ⟨_,e,rfl⟩ (fun s'=>typeIs_int s' k t) noFill_list_mul F.fills_int_mul F.slot_int_rmul repeat_list F.slot_int_index.lookup
  (call_meets F.slot_int_rmul (typeIs_int s k t) F.entry_int_rmul (F.args_int_rmul_2 _ _) (int___rmul___int_list k t l its.toArray n)
   ⟨e,rfl,⟨_,e,rfl⟩,call_meets F.slot_list_mul ⟨_,e,rfl⟩ F.entry_list_mul (F.args_list_mul_2 _ _) (AutoListH.list___mul___list_int_3 l its.toArray n k t hfit hcap hlong) ⟨e,?_⟩⟩)
 rw[hnew];exact ⟨.ref _,_,I.lnew (t':=s.toks) (r.rep k.toNat) (by rw[zJL,Nat.mul_comm];exact hz),rfl,q _ I.fresh⟩
end
end L2
namespace Att
open PySem PySem.W PySem.Calls PyProof.Rows
theorem zGE {P:Params} {h:Heap}:∀ (ns:List Int) (vs:List Value),WellAll P h vs (ns.map WData.int)->IntsAre vs ns:=by
 intro ns;induction ns with
 |nil=>
  intro vs w;rw[List.map_nil]at w;cases w;exact .nil
 |cons n ns ih=>
  intro vs w;rw[zWR]at w;cases w with
  |cons a b=>
   cases a;exact .cons _ _ (ih _ b)
theorem zNg {l:OpenLaw} {n:Nat} (hn:l.most=some n) {P:Params} {h:Heap} {args:List WData} {vals:List Value}
  (hpre:l.row.toRowW.claim.pre args=true) (hwl:WellAll P h vals args) :
  ∃ a vs ns,vals=[Value.ref a]/\args=[WData.list (ns.map WData.int)]/\h.get? a=some { cls:=.type "list", data:=.seq vs.toArray }/\IntsAre vs ns/\ns.length<=n:=by
 have hsh:WShape.hasAll [] args [.list .int]=true:=(pre_splitW hpre).1;have hc:l.pre.holds [] { args:=args }=true:=(pre_splitW hpre).2;obtain ⟨d,r,rfl,h1,h2⟩:=hasAllW_cons hsh;obtain rfl:=hasAllW_nil h2;obtain ⟨xs,rfl,h3⟩:=hasW_list h1;obtain ⟨ns,rfl⟩:=items_int h3;have hlen:ns.length<=n:=by
  unfold OpenLaw.pre at hc;have h4:(WTm.not (.lt (.lit (.int (n:Int))) (.len (.arg 0)))).holds [] { args:=[.list (ns.map .int)] }=true:=by
   have h4:=(holds_andW hc).1;rw[hn]at h4;exact h4
  have h5:=condW_of h4 (w_not (w_lt w_lit (w_len_list (w_arg rfl))));rw[zWH]at h5;refine Nat.le_of_not_lt fun q=>?_;have q':(n:Int)<((ns.length:Nat):Int):=by omega
  first
   | (rw[zXG q']at h5;exact absurd h5 (by decide))
   | (simp at h5;omega)
 cases hwl with
 |cons w1 w2=>
  cases w2;cases w1 with
  |list ho hall=>exact ⟨_,_,ns,rfl,rfl,ho,zGE ns _ hall,hlen⟩
theorem zOD (l:OpenLaw) (args:List WData):l.row.toRowW.claim.post args (.bool true) args=true :=
 postW_of (r:=l.row.toRowW) (X:=(true==true))
  (show WShape.has [] (.bool true) .bool=true by first|rfl|decide|simp[WShape.has,WShape.arms,WShape.armsAll])
  (show (WTm.eq .res (.lit (.bool true))).value [] { args:=args,res:=some (.bool true),after:=args }=some (.bool (true==true))from w_eq_bool (w_res rfl) w_lit) rfl
theorem zKL {l:OpenLaw} {n:Nat} {q:Program} {loose:List Str} {XP:(Str->Option Value)->Heap->Prop} {YP:World->Heap->Prop} {d:DefRec}
  (hn:l.most=some n) (hdf:d.params.defaults=[])
  (call:∀ (w:World) (s₀ s₁:Shared) (mg mb:Str->Option Value) (fa:Addr) (o:Obj) (pm cd doc:Value) (a:Addr) (vs:List Value) (ns:List Int),
   Ground q loose [] XP w s₀ mg mb s₁.heap->YP w s₁.heap ->
   s₁.heap.get? fa=some o->o.data=.func (docDef d.name d.params d.body d.scope pm cd doc)->s₁.heap.CodeRec cd d.name->mg d.name=some (.ref fa) ->
   s₁.heap.get? a=some { cls:=.type "list", data:=.seq vs.toArray }->IntsAre vs ns->ns.length<=n->s₁.gens = #[] ->
   codeAny (model l.prog w) callerA (.call (.ref fa) ⟨[.ref a],[]⟩) (fun r s'=>r=.ok (.ret (.bool true))/\OldK s₁.heap s'.heap/\s'.os=s₁.os/\AllBare s'.gens) s₁) :
  WalkO q loose XP YP l.row.toRowW d [] (fun f vs=>PySem.call f vs):=by
 intro w s₀ s₁ mg mb G Y fa o pm cd doc dV kV ho hd hcd hD hmg hg args vals as hpre hlay hrd hwl hlo;obtain rfl:dV=.none:=Dflts.none hD hdf;obtain rfl:kV=.none:=Dflts.noKw hD;obtain ⟨a,vs,ns,rfl,rfl,hobj,hints,hlen⟩:=zNg hn hpre hwl;refine enter_call (codeAny_mono (call w s₀ s₁ mg mb fa o pm cd doc a vs ns G Y ho (fd_plain hd) hcd hmg hobj hints hlen hg) fun r s' hq=>?_);obtain ⟨rfl,h2,h3,h4⟩:=hq;exact ⟨.inl ⟨.bool true,.bool true,[],rfl,fun _=>rfl,.bool true,zOD l _,fun _=>⟨List.Pairwise.nil,fun _ hm=>(nomatch hm)⟩⟩,h2,h3,h4⟩
end Att
namespace L2
open PySem PySem.Spec PyProof.Rows
theorem zIs:∀ {vs:List Value} {ns:List Int},IntsAre vs ns->ze (ns.map V.int) vs
 |_,_,.nil=> .nil
 |_,_,.cons n t h=> .cons ⟨t,rfl⟩ (zIs h)
def zR0 (H:Hp):Prop:=∀ b,H b=none \/ ∃ o xs,H b=some (.frz o (.lst xs))
theorem zQB {P:Program} {w:World} {K:PySem.W.Frag} {mg mb:Str->Option Value} {CX:CXT} {k:Nat} {fa a:Addr} {fd:FuncData} {x:Str} {sp:Sp} {s₁:Shared} {vs:List Value} {ns:List Int}
  (KX:K.In s₁.heap) (hns:s₁.heap.Ns mainGlobals mg) (hb:s₁.heap.Ns builtinsNs mb) (hbb:∀ x:Str,x ≠ "__name__" -> mb x=bootBuiltins x) (hlim:s₁.heap.NoLimit) (hg:s₁.gens = #[])
  (ha:s₁.heap.get? a=some { cls:=.type "list", data:=.seq vs.toArray }) (hi:IntsAre vs ns) (hl:ns.length<=sizeLine) (hr:Room k callerA)
  (F:∀ base:Heap,K.In base->base.Ns mainGlobals mg->FnOk P w K mg base CX k fa fd [x] sp) (hbind:∀ (s:Shared) (u:Value),BindsTo s fd ⟨[u],[]⟩ [(x,u)])
  (hsp:∀ H:Hp,zR0 H->SqL K H a (ns.map V.int)->sp [.ref a] H (fun v _=>v=.bl true) fun _ _ _=>False)
  (hCX:∀ H e s',CX [] H s₁ (fun _ _ _=>False) e s'->False) :
  codeAny (model P w) callerA (.call (.ref fa) ⟨[.ref a],[]⟩) (fun r s'=>r=.ok (.ret (.bool true))/\OldK s₁.heap s'.heap/\s'.os=s₁.os/\AllBare s'.gens) s₁:=by
 have rv:=zIs hi;have lenV:=hi.length
 have core:∀ H:Hp,zR0 H->SqL K H a (ns.map V.int)->HOk P w H s₁.heap->(∀ b,H b≠none->b=a)->(H a≠none->K.lookup a=none) ->
   codeAny (model P w) callerA (.call (.ref fa) ⟨[.ref a],[]⟩) (fun r s'=>r=.ok (.ret (.bool true))/\OldK s₁.heap s'.heap/\s'.os=s₁.os/\AllBare s'.gens) s₁:=by
  intro H hO hS hok hA hK;have base_of:∀ {b:Addr} {o:Obj},s₁.heap.get? b=some o->H b=none->(zJe s₁.heap H).get? b=some o:=fun e n=>zPR e n;have noA:∀ {b:Addr} {o:Obj} {es:Array DictEntry} {ep:Nat},s₁.heap.get? b=some o->o.data=.dict es ep->H b=none:=fun {b o es ep} e d=>by
   cases q:H b with
   |none=>rfl
   |some u=>
    have e':b=a:=hA b (by rw[q];simp);subst e';rw[ha]at e;cases e;have d':Data.seq vs.toArray _=Data.dict es ep:=d;cases d'
  have nsK:∀ {b:Addr} {m:Str->Option Value},s₁.heap.Ns b m->(zJe s₁.heap H).Ns b m:=fun {b m} ⟨o,es,ep,e,d,r⟩=>⟨o,es,ep,base_of e (noA e d),d,r⟩;have hKb:K.In (zJe s₁.heap H):=fun b o e=>base_of (KX b o e) (by
   cases q:H b with
   |none=>rfl
   |some u=>
    have e':b=a:=hA b (by rw[q];simp);subst e';rw[hK (by rw[q];simp)]at e;cases e)
  have hM:Mod K mg (zJe s₁.heap H):=⟨hKb,nsK hns,⟨mb,nsK hb,hbb⟩,let ⟨mc,h1,h2⟩:=hlim;⟨mc,nsK h1,h2⟩⟩;have e0:Env0 P w K mg (zJe s₁.heap H) callerA [] s₁ H:=⟨rfl,hM,fun b o e=>zRF e,Nat.le_of_eq (zOR _ _),trivial,fun b hb=>absurd (show b∈([]:List Addr)from hb) (by simp),hok,.of_eq hg⟩;refine codeAny_mono ((F _ hKb (nsK hns)).run callerA [] s₁ H ⟨[.ref a],[]⟩ [.ref a] [.ref a] _ _ hr e0 (hbind s₁ (.ref a)) (.cons rfl .nil) (hsp H hO hS)) fun r s' h=>?_;cases r with
  |error e=>exact (hCX H e s' h).elim
  |ok fl=>
   cases fl with
   |next=>exact False.elim h
   |brk=>exact False.elim h
   |cont=>exact False.elim h
   |ret u=>
    obtain ⟨v,H',os,bare,un,hok',r',q⟩:=h;have q':v=.bl true:=q;subst q';obtain rfl:u=Value.bool true:=r';refine ⟨rfl,OldK.of_keep fun b o e=>?_,os,bare⟩;cases q:H b with
    |none=>exact un.keep b o e q (by intro z;exact absurd (show b∈([]:List Addr)from z) (by simp)) (by simp)
    |some u=>
     rcases hO b with z|⟨ob,xs,z⟩
     ·rw[q]at z;cases z
     ·have z2:=un.frzs b ob _ z;obtain ⟨e1,_⟩:=hok b _ z;obtain ⟨e2,_⟩:=hok' b _ z2;rw[e]at e1;cases e1;exact e2
 cases hk:K.lookup a with
 |some o=>
  have e:=KX a o hk;rw[ha]at e;cases e;refine core (fun _=>none) (fun _=> .inl rfl) (.inr ⟨_,vs.toArray,_,hk,rfl,rfl,rfl,by rw[zWG,lenV];exact hl,by simpa using rv⟩) (fun b u z=>by have z':(none:Option HO)=some u:=z;cases z') (fun b z=>absurd rfl z) fun z=>absurd rfl z
 |none=>
  refine core (fun b=>if b=a then some (.frz { cls:=.type "list", data:=.seq vs.toArray } (.lst (ns.map V.int))) else none) (fun b=>?_) (.inl (.inr ⟨{ cls:=.type "list", data:=.seq vs.toArray },zWN rfl⟩)) (fun b u z=>?_) (fun b z=>?_) fun _=>hk
  ·by_cases hb:b=a
   ·exact .inr ⟨_,_,zWN hb⟩
   ·exact .inl (zWQ hb)
  ·by_cases hb:b=a
   ·have z':=(zWN hb).symm.trans z;cases z';subst hb;exact ⟨ha,by rw[zWH];exact hl,vs,_,rv,ha⟩
   ·have z':=(zWQ hb).symm.trans z;cases z'
  ·by_cases hb:b=a
   ·exact hb
   ·exact absurd (zWQ hb) z
theorem zRf {l:PySem.W.OpenLaw} {n k:Nat} {q:Program} {loose:List Str} {XP:(Str->Option Value)->Heap->Prop} {YP:World->Heap->Prop} {d:DefRec} {K:Params->PySem.W.Frag} {CX:World->CXT} {sp:World->Sp} {x:Str}
  (hn:l.most=some n) (hn2:n<=sizeLine) (hdf:d.params.defaults=[]) (hr:Room k callerA)
  (hY:∀ (w:World) (h:Heap),YP w h->(K w.params).In h)
  (F:∀ (w:World) (mg:Str->Option Value) (fa:Addr) (h:Heap),(K w.params).In h->h.Ns mainGlobals mg->mg d.name=some (.ref fa) ->
   ∃ fd:FuncData,(∀ (s:Shared) (u:Value),BindsTo s fd ⟨[u],[]⟩ [(x,u)]) /\
    ∀ base:Heap,(K w.params).In base->base.Ns mainGlobals mg->FnOk l.prog w (K w.params) mg base (CX w) k fa fd [x] (sp w))
  (hsp:∀ (w:World) (H:Hp) (a:Addr) (ns:List Int),ns.length<=n->zR0 H->SqL (K w.params) H a (ns.map V.int)->sp w [.ref a] H (fun v _=>v=.bl true) fun _ _ _=>False)
  (hCX:∀ (w:World) (H:Hp) (s:Shared) (e:Value) (s':Shared),CX w [] H s (fun _ _ _=>False) e s'->False) :
  PySem.W.WalkO q loose XP YP l.row.toRowW d [] (fun f vs=>PySem.call f vs):=by
 refine Att.zKL hn hdf fun w s₀ s₁ mg mb fa o pm cd doc a vs ns G Y ho hd hcd hmg hobj hints hlen hg=>?_;have KX:=hY w _ Y;obtain ⟨fd,hb,hF⟩:=F w mg fa _ KX G.T.g hmg;exact zQB KX G.T.g G.T.b G.T.builtins G.T.nolimit hg hobj hints (zWZ hlen hn2) hr hF hb (fun H hO hS=>hsp w H a ns hlen hO hS) fun H e s'=>hCX w H s₁ e s'
def zEJ (s:Stmt):Arguments:=match s with
 |.FunctionDef _ a _ _ _ _ _ _ _ _=>a
 |_=>{ posonlyargs:=[],args:=[],vararg:=none,kwonlyargs:=[],kw_defaults:=[],kwarg:=none,defaults:=[] }
def zCq (s:Stmt):List Stmt:=match s with
 |.FunctionDef _ _ b _ _ _ _ _ _ _=>b
 |_=>[]
def zR (s:Stmt):Scope:=match s with
 |.FunctionDef _ _ _ _ _ _ sc _ _ _=>sc
 |_=>{ kind:=.function,names:=[],isGenerator:=false,isCoroutine:=false }
abbrev CX0:CXT:=fun _ _ _ _ _ _=>False
abbrev E0:XK:=fun _ _ _=>False
theorem zUf {X:Cx}:zLs CX0 X E0:=fun _ _ _ _ _ _ _ h=>h.elim
structure Fun (K:PySem.W.Frag) (x qual:Str) (st:Stmt) (f:Addr) (fd:FuncData):Prop where
 ex:∃ (oc:Value) (od:Option Addr) (kV doc pm:Value) (an:Option Addr) (cdv ct:Value) (osl:Array (Option Value)),
  fd=PySem.W.fnOf x qual (zEJ st) (zCq st) (zR st) .none kV doc pm an cdv ct/\K.lookup f=some ⟨oc,od,.func fd,osl⟩/\PySem.W.codeIn K cdv qual=true
 kp:PySem.W.keepIn K (.ref f)=true
section
variable {P:Program} {w:World} {K:PySem.W.Frag} {mg:Str->Option Value} {base:Heap}
theorem Fun.ok {x qual:Str} {st:Stmt} {f:Addr} {fd:FuncData} {N ps:List Str} {k:Nat} {sp:Sp} (F:Fun K x qual st f fd) (S:FnScope N ps (zR st)) (len:∀ vs H Q E,sp vs H Q E->vs.length=ps.length)
  (hbody:∀ (cdv:Value) (A:Around) (outer:List Env) (s:Shared) (H:Hp) (vs:List V) (Q:VK) (E:XK),Room k (A.deeper (envOfC qual (zR st) s.heap.objs.size f cdv))->sp vs H Q E ->
   ∃ t,PSs (zMS CX0 P w K mg base N qual (zR st) f cdv A outer s H E).nox (zCq st) t/\t { nx:=fun _ H'=>Q .non H',rt:=Q } (zEW N vs) H):FnOk P w K mg base CX0 (k+1) f fd ps sp:=by
 obtain ⟨oc,od,kV,doc,pm,an,cdv,ct,osl,rfl,lk,hcd⟩:=F.ex;refine zVV lk hcd S len fun A outer s H vs Q E hr hsp=>?_;obtain ⟨t,h,q⟩:=hbody cdv A outer s H vs Q E hr hsp;exact ⟨t,h.nox,q⟩
theorem Fun.binds {x qual:Str} {st:Stmt} {f:Addr} {fd:FuncData} {ps:List Str} (F:Fun K x qual st f fd)
  (h:∀ (kV doc pm:Value) (an:Option Addr) (cdv ct:Value) (us:List Value),us.length=ps.length->bindArgs (PySem.W.fnOf x qual (zEJ st) (zCq st) (zR st) .none kV doc pm an cdv ct) ⟨us,[]⟩=pure (ps.zip us)):zHb K fd ps []:=by
 obtain ⟨oc,od,kV,doc,pm,an,cdv,ct,osl,rfl,lk,hcd⟩:=F.ex;exact .all (h kV doc pm an cdv ct)
theorem zPr {x qual:Str} {st:Stmt} {f:Addr} {oc:Value} {od an:Option Addr} {osl:Array (Option Value)} {kV doc pm cdv ct:Value} (l:K.lookup f=some ⟨oc,od,.func (PySem.W.fnOf x qual (zEJ st) (zCq st) (zR st) .none kV doc pm an cdv ct),osl⟩)
  (c:PySem.W.codeIn K cdv qual=true) (k:PySem.W.keepIn K (.ref f)=true):Fun K x qual st f (PySem.W.fnOf x qual (zEJ st) (zCq st) (zR st) .none kV doc pm an cdv ct):=⟨⟨oc,od,kV,doc,pm,an,cdv,ct,osl,rfl,l,c⟩,k⟩
end
theorem zGa {A:Around} {k:Nat} (hr:Room k A):A.units+1<cLine:=Nat.lt_of_le_of_lt (Nat.add_le_add_left (by decide:1<=64) _) hr.units
section
variable {X:Cx}
theorem pv (i:Nat) {x:Str} {pos:Pos} (hN:X.N[i]?=some x:=by rfl) (hv:Vis X.env.scope x:=by first|exact Or.inl rfl|exact Or.inr (Or.inl rfl)|exact Or.inr (Or.inr rfl)) (hd:(x==("__debug__" : Str))=false:=by decide)
  (hcd:(x==("__classdict__" : Str))=false:=by decide):PE X (.Name x pos) (zTY i):=zS5 hN hv hd hcd
end
theorem zHl {A B:Prop} (h:B):if false=true then A else B:=by
 rw[zWQ zWU];exact h
theorem zHy {A B:Prop} (h:A):if true=true then A else B:=by
 rw[zWN rfl];exact h
section
variable {κ:Type} [DecidableEq κ]
def zDo (kvs:List (κ × V)) (k:κ):Option V:=(kvs.find? fun kv=>decide (kv.1=k)).map (·.2)
def zCT (kvs:List (κ × V)) (k:κ) (v:V):List (κ × V) :=
 if (kvs.any fun kv=>decide (kv.1=k))=true then kvs.map (fun kv=>if kv.1=k then (kv.1,v) else kv) else kvs++[(k,v)]
theorem zFB {p:κ × V} {r:List (κ × V)} {k:κ} (e:p.1=k):zDo (p::r) k=some p.2:=by simp[zDo,zXu,e]
theorem zE8 {p:κ × V} {r:List (κ × V)} {k:κ} (e:¬ p.1=k):zDo (p::r) k=zDo r k:=by simp[zDo,zXu,e]
theorem zK5 (k:κ):∀ kvs:List (κ × V),(kvs.any fun kv=>decide (kv.1=k))=(zDo kvs k).isSome
 |[]=>rfl
 |p::r=>by
  rw[List.any_cons];by_cases e:p.1=k
  ·simp only[zFB e,zXG e,Bool.true_or,Option.isSome_some]
  ·rw[zE8 e,zWh e,Bool.false_or];exact zK5 k r
theorem zCD (kvs:List (κ × V)) (k:κ) (v:V):(zCT kvs k v).length<=kvs.length+1:=by
 unfold zCT;split
 ·rw[zWH];omega
 ·rw[zWO,zWf,List.length_nil];omega
theorem zGB.isSome_eq (r:zGB o u):o.isSome=u.isSome:=by
 cases o with
 |none=>cases u with
  |none=>rfl
  |some _=>exact (show False from r).elim
 |some _=>cases u with
  |none=>exact (show False from r).elim
  |some _=>rfl
theorem zGB.getD (r:zGB o u) (rd:zk d d'):zk (o.getD d) (u.getD d'):=by
 cases o with
 |none=>cases u with
  |none=>exact rd
  |some _=>exact (show False from r).elim
 |some _=>cases u with
  |none=>exact (show False from r).elim
  |some _=>exact r
theorem KV.val {kvs:List (κ × V)} {vs:List (κ × Value)} (r:KV kvs vs) (k:κ):zGB (zDo kvs k) (valueAt vs k):=by
 unfold KV at r;induction r with
 |nil=>exact True.intro
 | @cons p q ps qs h t ih=>
  obtain ⟨h1,h2⟩:=h;by_cases e:p.1=k
  ·have e':q.1=k:=h1.symm.trans e;have b:valueAt (q::qs) k=some q.2:=by simp[valueAt,zXu,e']
   rw[zFB e,b];exact h2
  ·have e':¬ q.1=k:=fun z=>e (h1.trans z);have b:valueAt (q::qs) k=valueAt qs k:=by simp[valueAt,zXu,e']
   rw[zE8 e,b];exact ih
theorem KV.any (r:KV kvs vs) (k:κ):(kvs.any fun kv=>decide (kv.1=k))=vs.any fun kv=>decide (kv.1=k):=by
 unfold KV at r;induction r with
 |nil=>rfl
 |cons h t ih=>rw[List.any_cons,List.any_cons,ih,h.1]
theorem KV.repl (r:KV kvs vs) (k:κ) (ry:zk y u) :
  KV (kvs.map fun kv=>if kv.1=k then (kv.1,y) else kv) (vs.map fun kv=>if kv.1=k then (kv.1,u) else kv):=by
 unfold KV at r ⊢;induction r with
 |nil=>exact .nil
 | @cons p q ps qs h t ih=>
  rw[zWR,zWR];refine .cons ?_ ih;obtain ⟨h1,h2⟩:=h;by_cases e:p.1=k
  ·rw[zWN e,zWN (h1.symm.trans e)];exact ⟨h1,ry⟩
  ·rw[zWQ e,zWQ (fun z=>e (h1.trans z))];exact ⟨h1,h2⟩
theorem KV.put (r:KV kvs vs) (k:κ) (ry:zk y u):KV (zCT kvs k y) (stored vs k u):=by
 unfold zCT stored;rw[r.any k];by_cases e:(vs.any fun kv=>decide (kv.1=k))=true
 ·rw[zWN e,zWN e];exact r.repl k ry
 ·rw[zWQ e,zWQ e];exact Paired.snoc r ⟨rfl,ry⟩
theorem KV.length (r:KV kvs vs):kvs.length=vs.length:=Paired.length r
end
theorem zFw (r:zk (kV k) u):(zAW P w).is k u=true:=by
 cases k with
 |inl i=>obtain ⟨t,e⟩:=(show ∃ t,u=Value.int i t from r);subst e;exact zKA P w i t
 |inr x=>obtain ⟨t,e⟩:=(show ∃ t,u=Value.str x t from r);subst e;exact zKN P w x t
theorem zH8:∀ {ks:List Key} {us:List Value},ze (ks.map kV) us->ItemsAre (zAW P w) ks us
 |[],_,r=>by rw[List.map_nil]at r;cases r;exact .nil
 |k::ks,_,r=>by
  rw[zWR]at r;cases r with
  |cons h t=>exact .cons (zFw h) (zH8 t)
abbrev KT (H:Hp):List (List Key × V)->List (List Key × Addr × Value)->Prop:=Paired fun p q=>p.1=q.1/\H q.2.1=some (.tup (p.1.map kV))/\zk p.2 q.2.2
theorem KT.val {H:Hp} {kvs:List (List Key × V)} {xs:List (List Key × Addr × Value)} (r:KT H kvs xs) (k:List Key):zGB (zDo kvs k) ((atKey xs k).map (·.2)):=by
 induction r with
 |nil=>exact True.intro
 | @cons p q ps qs h t ih=>
  obtain ⟨h1,_,h2⟩:=h;by_cases e:p.1=k
  ·have e':q.1=k:=h1.symm.trans e;have b:atKey (q::qs) k=some q.2:=by simp[atKey,zXu,e']
   rw[zFB e,b];exact h2
  ·have e':¬ q.1=k:=fun z=>e (h1.trans z);have b:atKey (q::qs) k=atKey qs k:=by simp[atKey,zXu,e']
   rw[zE8 e,b];exact ih
theorem KT.repl (r:KT H kvs xs) (k:List Key) (ry:zk y u) :
  KT H (kvs.map fun kv=>if kv.1=k then (kv.1,y) else kv) (xs.map (putAt k u)):=by
 induction r with
 |nil=>exact .nil
 | @cons p q ps qs h t ih=>
  rw[zWR,zWR];refine .cons ?_ ih;obtain ⟨h1,h2,h3⟩:=h;unfold putAt;by_cases e:p.1=k
  ·rw[zWN e,zWN (h1.symm.trans e)];exact ⟨h1,h2,ry⟩
  ·rw[zWQ e,zWQ (fun z=>e (h1.trans z))];exact ⟨h1,h2,h3⟩
theorem KT.put (r:KT H kvs xs) (k:List Key) (hb:H b=some (.tup (k.map kV))) (ry:zk y u) :
  KT H (zCT kvs k y) (storedH xs k b u):=by
 have e:(kvs.any fun kv=>decide (kv.1=k))=(atKey xs k).isSome:=by
  rw[zK5,(r.val k).isSome_eq,Option.isSome_map]
 unfold zCT storedH;rw[e];by_cases q:(atKey xs k).isSome=true
 ·rw[zWN q,zWN q];exact r.repl k ry
 ·rw[zWQ q,zWQ q];exact Paired.snoc r ⟨rfl,hb,ry⟩
theorem KT.keeps (r:KT H kvs xs) (ht:∀ b ys,H b=some (.tup ys)->H' b=some (.tup ys)):KT H' kvs xs :=
 Paired.mapP r fun _ _ z=>⟨z.1,ht _ _ z.2.1,z.2.2⟩
section
variable {P:Program} {w:World} {H:Hp} {h:Heap} {a:Addr}
theorem zST (ok:HOk P w H h) (e:Rd H a u):zAu P w H h a u:=e.ok ok
theorem zHY (ok:HOk P w H h) (e:Rd H a (.dK kvs)):kvs.length<=sizeLine/\(a==sysModules)=false /\ ∃ vs,KV kvs vs/\h.DictOf (zAW P w) a vs :=
 show zAu P w H h a (.dK kvs)from zST ok e
theorem zPf (ok:HOk P w H h) (e:H a=some (.dK kvs)):kvs.length<=sizeLine/\(a==sysModules)=false /\ ∃ vs,KV kvs vs/\h.DictOf (zAW P w) a vs:=zHY ok (.inl e)
theorem zEg (ok:HOk P w H h) (e:H a=some (.tup (ks.map kV))):(tupleKind (zAW P w)).is h ks a:=by
 obtain ⟨_,its,r,o,h1,h2,⟨n,h3⟩,_⟩:=(show zAu P w H h a (.tup (ks.map kV))from ok a _ e);exact ⟨o,its.toArray,n,h1,h2,h3,by simpa using zH8 r⟩
theorem zGo (ok:HOk P w H h) (e:Rd H a (.dT kvs)):kvs.length<=sizeLine/\(a==sysModules)=false /\
  ∃ xs,KT H kvs xs/\h.DictOfH (tupleKind (zAW P w)) a xs:=by
 obtain ⟨z,y,xs,r,o,es,ep,h1,h2,h3,h4,h5⟩:=(show zAu P w H h a (.dT kvs)from zST ok e);refine ⟨z,y,xs,r,o,es,ep,h1,h2,h3,h4,fun x hx=>?_,h5⟩;have all:∀ {l:List (List Key × V)} {m:List (List Key × Addr × Value)},KT H l m -> ∀ x∈m,(tupleKind (zAW P w)).is h x.1 x.2.1:=by
  intro l m q;induction q with
  |nil=>intro x hx;exact nomatch hx
  | @cons p q ps qs hq t ih=>
   intro x hx;rcases zWK.mp hx with e|hx
   ·subst e;exact zEg ok (by rw[<-hq.1];exact hq.2.1)
   ·exact ih x hx
 exact all r x hx
theorem zSS (ok:HOk P w H h) (e:H a=some (.dT kvs)):kvs.length<=sizeLine/\(a==sysModules)=false /\
  ∃ xs,KT H kvs xs/\h.DictOfH (tupleKind (zAW P w)) a xs:=zGo ok (.inl e)
end
def zDa (H:Hp) (a:Addr) (y:V) (r:Option V):Prop :=
 (∃ kvs k,Rd H a (.dK kvs)/\y=kV k/\r=zDo kvs k) \/ ∃ kvs k b,Rd H a (.dT kvs)/\y=.ref b/\H b=some (.tup (k.map kV))/\r=zDo kvs k
def zGI (H:Hp) (a:Addr) (y v:V) (H':Hp):Prop :=
 (∃ kvs k,H a=some (.dK kvs)/\y=kV k/\kvs.length<sizeLine/\H'=upd H a (.dK (zCT kvs k v))) \/
 ∃ kvs k b,H a=some (.dT kvs)/\y=.ref b/\H b=some (.tup (k.map kV))/\kvs.length<sizeLine/\H'=upd H a (.dT (zCT kvs k v))
theorem zDa.k {H:Hp} {a:Addr} {kvs:List (Key × V)} {k:Key} (e:H a=some (.dK kvs)):zDa H a (kV k) (zDo kvs k):=.inl ⟨kvs,k,.inl e,rfl,rfl⟩
theorem zDa.t {k:List Key} (e:H a=some (.dT kvs)) (eb:H b=some (.tup (k.map kV))):zDa H a (.ref b) (zDo kvs k):=.inr ⟨kvs,k,b,.inl e,rfl,eb,rfl⟩
theorem zGI.k {H:Hp} {a:Addr} {kvs:List (Key × V)} {k:Key} {v:V} (e:H a=some (.dK kvs)) (hl:kvs.length<sizeLine):zGI H a (kV k) v (upd H a (.dK (zCT kvs k v))):=.inl ⟨kvs,k,e,rfl,hl,rfl⟩
theorem zGI.t {kvs:List (List Key × V)} {k:List Key} (e:H a=some (.dT kvs)) (eb:H b=some (.tup (k.map kV))) (hl:kvs.length<sizeLine) :
  zGI H a (.ref b) v (upd H a (.dT (zCT kvs k v))):=.inr ⟨kvs,k,b,e,rfl,eb,hl,rfl⟩
section
variable {X:Cx} {zB:List (Addr × Obj)} {σ:St} {H:Hp} {s:Shared} {a:Addr} {y v:V} {u r:Value} {o:Option V} {A:Around} {E:Value->Shared->Prop}
theorem Inv.big (I:Inv X zB σ H s):sysModules<s.heap.objs.size:=by
 have h:mainGlobals<s.heap.objs.size:=(I.mod.glob.keeps I.bk).lt;exact Nat.lt_trans (by decide) h
theorem zOT (hu:A.units+1<cLine) (I:Inv X zB σ H s) (g:zDa H a y (some v)) (ry:zk y u) (h:∀ w' s',Inv X zB σ H s'->zk v w'->Q w' s') :
  wpAny (model X.prog X.w) A (getItem (.ref a) u) Q E s:=by
 rcases g with ⟨kvs,k,e,ey,l⟩|⟨kvs,k,b,e,ey,eb,l⟩
 ·subst ey;obtain ⟨z,hd,vs,rel,dd⟩:=zHY I.hok e;obtain ⟨w',hw,rw'⟩:=zGB.some_of (v:=v) (o:=valueAt vs k) (by rw[l];exact rel.val k);exact wpAny_getItem_of (zFw ry) dd.mapOf hw (h w' _ (I.tok _) rw')
 ·subst ey;cases (show u=Value.ref b from ry);obtain ⟨z,hd,xs,rel,dd⟩:=zGo I.hok e;obtain ⟨w',hw,rw'⟩:=zGB.some_of (v:=v) (o:=(atKey xs k).map (·.2)) (by rw[l];exact rel.val k);obtain ⟨p,hp,hp2⟩:=Option.map_eq_some_iff.mp hw;refine wpAny_getItem_heap (tupleKind_room_in1 hu) (zEg I.hok eb) dd hp ?_;rw[hp2];exact h w' _ (I.tok _) rw'
theorem zVv (hu:A.units+1<cLine) (I:Inv X zB σ H s) (g:zDa H a y o) (ry:zk y u) (h:∀ s',Inv X zB σ H s'->Q (.bool o.isSome) s') :
  wpAny (model X.prog X.w) A (compareOp .In u (.ref a)) Q E s:=by
 rcases g with ⟨kvs,k,e,ey,l⟩|⟨kvs,k,b,e,ey,eb,l⟩
 ·subst ey;obtain ⟨z,hd,vs,rel,dd⟩:=zHY I.hok e;refine wpAny_in_of (zFw ry) hd dd.mapOf ?_;rw[<-(rel.val k).isSome_eq,<-l];exact h _ (I.tok _)
 ·subst ey;cases (show u=Value.ref b from ry);obtain ⟨z,hd,xs,rel,dd⟩:=zGo I.hok e;refine wpAny_in_heap (tupleKind_room_in1 hu) (zEg I.hok eb) hd dd ?_;have q:=(rel.val k).isSome_eq;rw[Option.isSome_map]at q;rw[<-q,<-l];exact h _ (I.tok _)
theorem zR5 (hu:A.units+1<cLine) (I:Inv X zB σ H s) (g:zDa H a y o) (ry:zk y u) (h:∀ s',Inv X zB σ H s'->Q (.bool (!o.isSome)) s') :
  wpAny (model X.prog X.w) A (compareOp .NotIn u (.ref a)) Q E s:=by
 rcases g with ⟨kvs,k,e,ey,l⟩|⟨kvs,k,b,e,ey,eb,l⟩
 ·subst ey;obtain ⟨z,hd,vs,rel,dd⟩:=zHY I.hok e;refine wpAny_notIn_of (zFw ry) hd dd.mapOf ?_;rw[<-(rel.val k).isSome_eq,<-l];exact h _ (I.tok _)
 ·subst ey;cases (show u=Value.ref b from ry);obtain ⟨z,hd,xs,rel,dd⟩:=zGo I.hok e;refine wpAny_notIn_heap (tupleKind_room_in1 hu) (zEg I.hok eb) hd dd ?_;have q:=(rel.val k).isSome_eq;rw[Option.isSome_map]at q;rw[<-q,<-l];exact h _ (I.tok _)
theorem zFH (I:Inv X zB σ H s) (mu:Mut (H a)) (hs:Heap.SameBut a s.heap h') (he:∃ q,h'.get? a=some q) (new:zAu X.prog X.w (upd H a ob) h' a ob) :
  Inv X zB σ (upd H a ob) { s with heap:=h',toks:=t' } :=
 I.write (x:=a) (e:=a) mu (.inl rfl) (fun b q hb z=>(hs.2 b hb).trans z) he new
theorem zL4 (z:kvs.length<=sizeLine) (hd:(a==sysModules)=false) (rel:KV kvs vs) (dd:h'.DictOf (zAW P w) a vs) :
  zAu P w H' h' a (.dK kvs):=⟨z,hd,vs,rel,dd⟩
theorem zON (hu:A.units+1<cLine) (I:Inv X zB σ H s) (g:zGI H a y v H') (ry:zk y u) (rv:zk v r) (h:∀ s',Inv X zB σ H' s'->Q () s') :
  wpAny (model X.prog X.w) A (setItem (.ref a) u r) Q E s:=by
 rcases g with ⟨kvs,k,e,ey,l,eH⟩|⟨kvs,k,b,e,ey,eb,l,eH⟩
 ·subst ey eH;obtain ⟨z,hd,vs,rel,dd⟩:=zPf I.hok e;have hz:vs.length<=sizeLine:=by rw[<-rel.length];exact z
  have hl:(zCT kvs k v).length<=sizeLine:=by have:=zCD kvs k v;omega
  refine wpAny_setItem_pairs (hsz:=hz) (zFw ry) dd fun h' dd' hs=>h _ ?_;have he:∃ q,h'.get? a=some q:=let ⟨q,_,_,hq,_⟩:=dd';⟨q,hq⟩;exact zFH I (by rw[e];exact True.intro) hs he (zL4 hl hd (rel.put k rv) dd')
 ·subst ey eH;cases (show u=Value.ref b from ry);obtain ⟨z,hd,xs,rel,dd⟩:=zSS I.hok e;have hz:xs.length<=sizeLine:=by rw[<-Paired.length rel];exact z
  have hl:(zCT kvs k v).length<=sizeLine:=by have:=zCD kvs k v;omega
  refine wpAny_setItem_heap (hsz:=hz) (tupleKind_room_in1 hu) (zEg I.hok eb) dd fun h' dd' hs=>h _ ?_;obtain ⟨q,es,ep,hq,h2,h3,h4,_,h5⟩:=dd';refine zFH I (by rw[e];exact True.intro) hs ⟨q,hq⟩ ⟨hl,hd,_,(rel.put k eb rv).keeps fun c ys ec=>?_,q,es,ep,hq,h2,h3,h4,h5⟩;rw[zc (zH9 ec e (fun z=>nomatch z))];exact ec
end
def zSn (i:Expr):Prop:=∀ ov iv,subscripted i false ov iv=operate [ov,iv] (getItem ov iv)
theorem zRG {prog:Program} {w:World} {A:Around} {E:Value->Shared->Prop} {s:Shared} {env:Env} {value slice:Expr} {pos:Pos} {T id:String} {Q:Value->Shared->Prop}
  (hl:typeLookup (.type T) "__getitem__" = pure (some (.builtin id))) (hs:zSn slice)
  (h:wpAny (model prog w) A (eval value env) (fun o s₁=>wpAny (model prog w) A (eval slice env) (fun i s₂=>s₂.TypeIs o T/\wpAny (model prog w) A (getItem o i) Q E s₂) E s₁) E s) :
  wpAny (model prog w) A (eval (.Subscript value slice pos) env) Q E s:=by
 refine Subscript_ (zWe h (fun o s₁ h₁=>zWe h₁ (fun i s₂ h₂=>?_) fun _ _ x=>x) fun _ _ x=>x);obtain ⟨hT,h₂⟩:=h₂;unfold subscriptTail;refine zV8 ?_;rw[getitemInPython_of_ne hT.not_modules];refine zV8 (wpAny_specialOf hT hl ?_);have fin:wpAny (model prog w) A (subscripted slice false o i) (fun r s₃=>wpAny (model prog w) A (letTemporaryGo value o r >>= fun _=>pure r) Q E s₃) E s₂:=by
  rw[hs o i];exact wpAny_operating (zWe h₂ (fun r s₃ h₃=>zV8 (wpAny_letTemporaryGo (zWA h₃))) fun _ _ x=>x)
 first
  |exact zWA (zV8 fin)
  |exact zV8 (zWA (zV8 fin))
  |exact zV8 fin
theorem zK2 (I:Inv X zB σ H s) (g:zDa H a y o):s.TypeIs (.ref a) "dict" := by
 rcases g with ⟨kvs,k,e,_,_⟩|⟨kvs,k,b,e,_,_,_⟩
 ·obtain ⟨_,_,vs,_,dd⟩:=zHY I.hok e;exact dd.typeIs
 ·obtain ⟨_,_,xs,_,dd⟩:=zGo I.hok e;exact dd.typeIs
def zUt (td ty:TE):TE:=fun σ H Q=>td σ H fun x H1=>ty σ H1 fun y H2=>∃ a v,x=.ref a/\zDa H2 a y (some v)/\Q v H2
def zVm (ty td:TE):TE:=fun σ H Q=>ty σ H fun y H1=>td σ H1 fun x H2=>∃ a o,x=.ref a/\zDa H2 a y o/\Q (.bl o.isSome) H2
def zRe (ty td:TE):TE:=fun σ H Q=>ty σ H fun y H1=>td σ H1 fun x H2=>∃ a o,x=.ref a/\zDa H2 a y o/\Q (.bl (!o.isSome)) H2
def zVH (td ty tv:TE):TS:=fun D σ H=>tv σ H fun v H1=>td σ H1 fun x H2=>ty σ H2 fun y H3=>∃ a H4,x=.ref a/\zGI H3 a y v H4/\D.nx σ H4
section
variable {X:Cx} {o i e value:Expr} {pos pos' tpos:Pos} {td ty tv:TE}
theorem zRO (hu:X.A.units+1<cLine) (ho:PE X o td) (hi:PE X i ty) (hs:zSn i):PE X (.Subscript o i pos) (zUt td ty):=by
 intro zB s σ H Q I h;refine zRG PySem.F.slot_dict_getitem.lookup hs (thn (ho zB s σ H _ I h) fun u s1 ⟨x,H1,I1,rx,q1⟩=>thn (hi zB s1 σ H1 _ I1 q1) fun iv s2 ⟨y,H2,I2,ry,a,v,ex,g,q2⟩=>?_);subst ex;obtain rfl:u=Value.ref a:=rx;exact ⟨zK2 I2 g,zOT hu I2 g ry fun w' s3 I3 rw'=>⟨v,H2,I3,rw',q2⟩⟩
theorem zTU (hu:X.A.units+1<cLine) (hi:PE X i ty) (ho:PE X o td):PC X .In i o (zVm ty td):=by
 intro zB s σ H Q I h;refine thn (hi zB s σ H _ I h) fun iv s1 ⟨y,H1,I1,ry,q1⟩=>thn (ho zB s1 σ H1 _ I1 q1) fun u s2 ⟨x,H2,I2,rx,a,ov,ex,g,q2⟩=>?_;subst ex;obtain rfl:u=Value.ref a:=rx;exact zVv hu I2 g ry fun s3 I3=>⟨.bl ov.isSome,H2,I3,rfl,q2⟩
theorem zOb (hu:X.A.units+1<cLine) (hi:PE X i ty) (ho:PE X o td):PC X .NotIn i o (zRe ty td):=by
 intro zB s σ H Q I h;refine thn (hi zB s σ H _ I h) fun iv s1 ⟨y,H1,I1,ry,q1⟩=>thn (ho zB s1 σ H1 _ I1 q1) fun u s2 ⟨x,H2,I2,rx,a,ov,ex,g,q2⟩=>?_;subst ex;obtain rfl:u=Value.ref a:=rx;exact zR5 hu I2 g ry fun s3 I3=>⟨.bl (!ov.isSome),H2,I3,rfl,q2⟩
theorem zRh (hu:X.A.units+1<cLine) (ho:PE X o td) (hi:PE X i ty) (hv:PE X value tv) (hs:swapsWith value (some (.Subscript o i pos')) pos.line X.env=pure false) :
  PS X (.Assign [.Subscript o i pos'] value pos) (zVH td ty tv):=by
 intro zB s σ H D I h;refine wpAny_Assign_Subscript (thn (hv zB s σ H _ I h) fun r s1 ⟨v,H1,I1,rv,q1⟩=>thn (ho zB s1 σ H1 _ I1 q1) fun u s2 ⟨x,H2,I2,rx,q2⟩=>thn (hi zB s2 σ H2 _ I2 q2) fun iv s3 ⟨y,H3,I3,ry,a,H4,ex,g,q3⟩=>?_) hs;subst ex;obtain rfl:u=Value.ref a:=rx;exact zON hu I3 g ry rv fun s4 I4=>⟨σ,H4,I4,q3⟩
end
theorem zLY (h:Heap) (hb:sysModules<h.objs.size):zAu P w H (h.push { cls:=.type "dict", data:=.dict #[] }) h.objs.size (.dK []) :=
 ⟨zWu _,beq_eq_false_iff_ne.mpr (Ne.symm (zWT hb)),[],.nil,Heap.DictOf.new h⟩
theorem zO6 (h:Heap) (hb:sysModules<h.objs.size):zAu P w H (h.push { cls:=.type "dict", data:=.dict #[] }) h.objs.size (.dT []) :=
 ⟨zWu _,beq_eq_false_iff_ne.mpr (Ne.symm (zWT hb)),[],.nil,_,#[],0,zWI _ rfl,⟨rfl,rfl,rfl⟩,rfl,rfl,List.nodup_nil⟩
def zTE:TE:=fun _ H Q=>∀ p,H p=none->Q (.ref p) (upd H p (.dK []))
def zSi:TE:=fun _ H Q=>∀ p,H p=none->Q (.ref p) (upd H p (.dT []))
section
variable {X:Cx} {pos:Pos}
theorem zQe:PE X (.Dict [] [] pos) zTE:=fun zB s σ H Q I h=>
 wpAny_Dict_empty ⟨.ref s.heap.objs.size,_,I.laid (a:=s.heap.objs.size) (o:=.dK []) (t':=s.toks) (fun _ _ q=>zV9 _ q) (zWE _) (zLY s.heap I.big),rfl,h _ (I.hok.fresh (zWE _))⟩
theorem zPt:PE X (.Dict [] [] pos) zSi:=fun zB s σ H Q I h=>
 wpAny_Dict_empty ⟨.ref s.heap.objs.size,_,I.laid (a:=s.heap.objs.size) (o:=.dT []) (t':=s.toks) (fun _ _ q=>zV9 _ q) (zWE _) (zO6 s.heap I.big),rfl,h _ (I.hok.fresh (zWE _))⟩
end
def zMU:List (TE × TE)->St->Hp->(List (V × V)->Hp->Prop)->Prop
 |[],_,H,Q=>Q [] H
 | (tk,tv)::r,σ,H,Q=>tk σ H fun x H1=>tv σ H1 fun y H2=>zMU r σ H2 fun ps H3=>Q ((x,y)::ps) H3
abbrev VV:List (V × V)->List (Value × Value)->Prop:=Paired fun p q=>zk p.1 q.1/\zk p.2 q.2
def PPs (X:Cx) (pos:Pos) (keys:List (Option Expr)) (values:List Expr) (trs:List (TE × TE)):Prop :=
 ∀ (zB:List (Addr × Obj)) (s:Shared) (σ:St) (H:Hp) (Q:List (V × V)->Hp->Prop),Inv X zB σ H s->zMU trs σ H Q ->
  wpAny (model X.prog X.w) X.A (evalPairs (pairTrees keys values X.env pos)) (fun vs s'=>∃ ps H',Inv X zB σ H' s'/\VV ps vs/\Q ps H') X.xe s
theorem zRs:PPs X pos [] [] []:=fun zB s σ H Q I h=>pairTrees_nil_walk ⟨[],H,I,.nil,h⟩
theorem zLF (hk:PE X k tk) (hv:PE X v tv) (hr:PPs X pos ks vs trs) :
  PPs X pos (some k::ks) (v::vs) ((tk,tv)::trs):=fun zB s σ H Q I h=>
 pairTrees_cons_walk (thn (hk zB s σ H _ I h) fun u s1 ⟨x,H1,I1,rx,q1⟩=>thn (hv zB s1 σ H1 _ I1 q1) fun w2 s2 ⟨y,H2,I2,ry,q2⟩=>
  thn (hr zB s2 σ H2 _ I2 q2) fun ws s3 ⟨ps,H3,I3,rel,q3⟩=>⟨(x,y)::ps,H3,I3,.cons ⟨rx,ry⟩ rel,q3⟩)
def zEi (kvs more:List (Key × V)):List (Key × V):=more.foldl (fun acc kv=>zCT acc kv.1 kv.2) kvs
theorem KV.merge:∀ {more:List (Key × V)} {rs:List (Key × Value)} {kvs:List (Key × V)} {vs:List (Key × Value)},KV more rs->KV kvs vs->KV (zEi kvs more) (merged vs rs):=by
 intro more rs kvs vs r;unfold KV at r;induction r generalizing kvs vs with
 |nil=>intro q;exact q
 | @cons p q ps qs h t ih=>
  intro r0;have e:KV (zCT kvs p.1 p.2) (stored vs q.1 q.2):=by
   have:=r0.put p.1 h.2;rw[<-h.1];exact this
  exact ih e
theorem zEY:∀ (more kvs:List (Key × V)),(zEi kvs more).length<=kvs.length+more.length
 |[],kvs=>by show kvs.length<=kvs.length+0;omega
 |p::r,kvs=>by
  have h1:=zEY r (zCT kvs p.1 p.2);have h2:=zCD kvs p.1 p.2;show (zEi (zCT kvs p.1 p.2) r).length<=_;rw[zWf];omega
theorem zGf:∀ {kvs:List (Key × V)} {ws:List (Value × Value)},VV (kvs.map fun kv=>(kV kv.1,kv.2)) ws -> ∃ rs,Carries (zAW P w) ws rs/\KV kvs rs
 |[],_,r=>by rw[List.map_nil]at r;cases r;exact ⟨[],True.intro,.nil⟩
 |p::kvs,_,r=>by
  rw[zWR]at r;cases r with
  | @cons a b as bs h t=>
   obtain ⟨rs,c,q⟩:=zGf (P:=P) (w:=w) t;obtain ⟨b1,b2⟩:=b;exact ⟨(p.1,b2)::rs,⟨zFw h.1,rfl,c⟩,.cons ⟨rfl,h.2⟩ q⟩
def zUl (trs:List (TE × TE)):TE:=fun σ H Q=>∀ p,H p=none->zMU trs σ (upd H p (.dK [])) fun ps H2=>H2 p=some (.dK []) /\ ∃ kvs:List (Key × V),ps=kvs.map (fun kv=>(kV kv.1,kv.2))/\kvs.length<=15/\Q (.ref p) (upd H2 p (.dK (zEi [] kvs)))
theorem zRW (h:PPs X pos keys values trs) (hall:keys.all (·.isSome)=true) (hl:keys.length=values.length) (h0:keys≠[])
  (h15:keys.length<=15):PE X (.Dict keys values pos) (zUl trs):=by
 intro zB s σ H Q I q;have hn:=I.hok.fresh (zWE s.heap.objs.size);have I1:=I.laid (a:=s.heap.objs.size) (o:=.dK []) (h':=s.heap.push { cls:=.type "dict", data:=.dict #[] }) (t':=s.toks) (fun _ _ q=>zV9 _ q) (zWE _) (zLY s.heap I.big);refine wpAny_Dict_walk (knd:=zAW X.prog X.w) hall hl h0 h15 (thn (h zB _ σ _ _ I1 (q _ hn)) fun ws s2 ⟨ps,H2,I2,rel,e,kvs,ep,lk,q2⟩=>?_);subst ep;obtain ⟨rs,c,rk⟩:=zGf (P:=X.prog) (w:=X.w) rel;obtain ⟨z,hd,vs0,r0,dd⟩:=zPf I2.hok e;cases r0;refine ⟨rs,c,dd,fun h' dd' hs=>⟨.ref s.heap.objs.size,_,?_,rfl,q2⟩⟩;have hz:(zEi [] kvs).length<=sizeLine:=by
  have h1:=zEY kvs [];rw[List.length_nil]at h1;rw[sizeLine_eq];omega
 have he:∃ q,h'.get? s.heap.objs.size=some q:=let ⟨q,_,_,hq,_⟩:=dd';⟨q,hq⟩;exact zFH I2 (by rw[e];exact True.intro) hs he (zL4 hz hd (rk.merge .nil) dd')
structure M2 (X:Cx) (o:Expr) (m:Str) (apos:Pos) (e f:Expr) (cpos:Pos):Prop where
 base:attributeBase o m X.env (eval o X.env)=eval o X.env
 few:((backTo cpos (starEach [e,f] X.env)).all (fun x=> !x.1)&&(backToKw cpos (keywordEach [] X.env)).all (fun x=>x.1.isSome)
  && decide (([e,f]:List Expr).length+([]:List Keyword).length+(if ([]:List Keyword).isEmpty then 0 else 1)<30))=true
 line:(apos.endLine==cpos.line)=true
 trees:backTo cpos (starEach [e,f] X.env)=[(false,eval e X.env),(false,eval f X.env)]
def IsD (H:Hp) (a:Addr):Prop:=(∃ kvs,Rd H a (.dK kvs)) \/ ∃ kvs,Rd H a (.dT kvs)
theorem zTs (I:Inv X zB σ H s) (d:IsD H a) :
  s.TypeIs (.ref a) "dict" /\ (∀ b,Value.ref a=.ref b -> ∃ ob,s.heap.get? b=some ob/\ob.dict=none)/\(a==sysModules)=false:=by
 rcases d with ⟨kvs,e⟩|⟨kvs,e⟩
 ·obtain ⟨_,hd,vs,_,dd⟩:=zHY I.hok e;refine ⟨dd.typeIs,fun b q=>?_,hd⟩;cases q;obtain ⟨ob,_,_,h1,h2,_⟩:=dd;exact ⟨ob,h1,h2.2.1⟩
 ·obtain ⟨_,hd,xs,_,dd⟩:=zGo I.hok e;refine ⟨dd.typeIs,fun b q=>?_,hd⟩;cases q;obtain ⟨ob,_,_,h1,h2,_⟩:=dd;exact ⟨ob,h1,h2.2.1⟩
section
variable {X:Cx} {zB:List (Addr × Obj)} {σ:St} {H:Hp} {s:Shared} {a:Addr} {y d:V} {u r:Value} {o:Option V} {A:Around} {E:Value->Shared->Prop}
theorem zTA (hu:A.units+1<cLine) (I:Inv X zB σ H s) (g:zDa H a y o) (ry:zk y u) (rd:zk d r) (h:∀ w' s',Inv X zB σ H s'->zk (o.getD d) w'->Q w' s') :
  wpAny (model X.prog X.w) A (call (.builtin "dict.get") [.ref a,u,r]) Q E s:=by
 rcases g with ⟨kvs,k,e,ey,l⟩|⟨kvs,k,b,e,ey,eb,l⟩
 ·subst ey;obtain ⟨z,hd,vs,rel,dd⟩:=zHY I.hok e;refine call_meetsIn PySem.F.slot_dict_get dd.typeIs PySem.F.entry_dict_get (PySem.F.args_dict_get_3 _ _ _) (meets_dict_get_default (zAW X.prog X.w) a (zFw ry) hd r) ⟨_,dd.mapOf,h _ _ (I.tok _) ?_⟩;rw[l];exact (rel.val k).getD rd
 ·subst ey;cases (show u=Value.ref b from ry);obtain ⟨z,hd,xs,rel,dd⟩:=zGo I.hok e;refine call_meetsIn PySem.F.slot_dict_get dd.typeIs PySem.F.entry_dict_get (PySem.F.args_dict_get_3 _ _ _) (meetsH_dict_get_default (tupleKind (zAW X.prog X.w)) a b hd r) ⟨tupleKind_room_in1 hu,k,xs,zEg I.hok eb,dd,h _ _ (I.tok _) ?_⟩;rw[l];exact (rel.val k).getD rd
end
def zPh (td ty tx:TE):TE:=fun σ H Q=>td σ H fun x H1=>∃ a,x=.ref a/\IsD H1 a/\ty σ H1 fun y H2=>tx σ H2 fun z H3=>∃ o,zDa H3 a y o/\Q (o.getD z) H3
section
variable {X:Cx} {o e f:Expr} {apos cpos:Pos} {td ty tx:TE}
theorem zQO (hu:X.A.units+1<cLine) (ho:PE X o td) (he:PE X e ty) (hf:PE X f tx) (m:M2 X o "get" apos e f cpos):PE X (.Call (.Attribute o "get" apos) [e,f] [] cpos) (zPh td ty tx):=by
 intro zB s σ H Q I h;refine wpAny_Call_method m.base m.few m.line PySem.F.plainAttrs_dict PySem.F.slot_dict_get PySem.F.type_dict_get (thn (ho zB s σ H _ I h) fun u s1 ⟨x,H1,I1,rx,a,ex,d,q1⟩=>?_);subst ex;obtain rfl:u=Value.ref a:=rx;obtain ⟨t1,t2,_⟩:=zTs I1 d;refine ⟨t1,t2,?_⟩;rw[m.trees];refine Calls.callWith_builtin rfl (Calls.evalArgs_plain (Calls.spliced_cons (thn (he zB s1 σ H1 _ I1 q1) fun iv s2 ⟨y,H2,I2,ry,q2⟩=>
  Calls.spliced_cons (thn (hf zB s2 σ H2 _ I2 q2) fun fv s3 ⟨z,H3,I3,rz,ov,g,q3⟩=>Calls.spliced_nil ?_))))
 exact zTA hu I3 g ry rz fun w' s4 I4 rw'=>⟨_,H3,I4,rw',q3⟩
end
theorem zAm:∀ (names:List (Str × NameKind)) (n:Nat) (acc:List (Str × Addr)),cellsFrom n names acc=cellsFrom n names []++acc
 |[],_,_=>rfl
 | (name,kind)::r,n,acc=>by
  unfold cellsFrom;split
  ·rw[zAm r (n+1) ((name,n)::acc),zAm r (n+1) [(name,n)],zXE];rfl
  ·exact zAm r n acc
theorem zCp {α:Type} (x:Str):∀ (l r:List (Str × α)),(l++r).lookup x=(match l.lookup x with|some c=>some c|none=>r.lookup x)
 |[],r=>rfl
 | (k,v)::l,r=>by
  rw[List.cons_append,zYD,zYD];cases hb:x==k with
  |true=>rfl
  |false=>exact zCp x l r
theorem zEh:∀ (names:List (Str × NameKind)) (acc:List (Str × Addr)),
  (∀ y∈names,y.2=.free -> ∃ c,env.cells.lookup y.1=some c) ->
  (∀ x c,acc.lookup x=some c->env.cells.lookup x=some c) ->
  ∃ cl:List (Str × Addr),(forIn names acc (fun (p:Str × NameKind) (cs:List (Str × Addr))=>(do
    if p.2 == .free then
     let a <- cellOf env p.1;pure (ForInStep.yield ((p.1,a)::cs))
    else pure (ForInStep.yield cs):Sem (ForInStep (List (Str × Addr))))))=pure cl /\
   (∀ x c,cl.lookup x=some c->env.cells.lookup x=some c) /\
   (∀ x,(acc.lookup x).isSome=true->(cl.lookup x).isSome=true) /\ ∀ y∈names,y.2=.free->(cl.lookup y.1).isSome=true
 |[],acc,_,ha=>⟨acc,by rw[List.forIn_nil],ha,fun _ h=>h,fun _ h=>nomatch h⟩
 | (n,k)::r,acc,hf,ha=>by
  rw[List.forIn_cons];by_cases hk:k=.free
  ·subst hk;obtain ⟨c,hc⟩:=hf (n,.free) zWM rfl;have hco:cellOf env n=pure c:=by unfold cellOf;rw[hc]
   obtain ⟨cl,e,h1,h2,h3⟩:=zEh r ((n,c)::acc) (fun y hy=>hf y (zWL _ hy)) (fun x d hx=>by
    rw[zYD]at hx;cases hb:x==n with
    |true=>rw[hb]at hx;cases hx;rw[beq_iff_eq.mp hb];exact hc
    |false=>rw[hb]at hx;exact ha x d hx)
   refine ⟨cl,?_,h1,fun x hx=>h2 x ?_,fun y hy hk=>?_⟩
   ·rw[<-e];simp only[beq_self_eq_true,if_true,hco];rfl
   ·rw[zYD];cases hb:x==n with
    |true=>rfl
    |false=>exact hx
   ·rcases zWK.mp hy with z|z
    ·subst z;exact h2 n (by rw[zYD];simp)
    ·exact h3 y z hk
  ·obtain ⟨cl,e,h1,h2,h3⟩:=zEh r acc (fun y hy=>hf y (zWL _ hy)) ha;refine ⟨cl,?_,h1,h2,fun y hy hk'=>?_⟩
   ·rw[<-e];have:(k==NameKind.free)=false:=by simpa using hk
    simp only[this,zW9,if_false];rfl
   ·rcases zWK.mp hy with z|z
    ·subst z;exact absurd hk' hk
    ·exact h3 y z hk'
theorem zH1 (hf:∀ y∈scope.names,y.2=.free -> ∃ c,env.cells.lookup y.1=some c) :
  ∃ cl,closureFor scope env=pure cl/\(∀ x c,cl.lookup x=some c->env.cells.lookup x=some c) /\ ∀ y∈scope.names,y.2=.free->(cl.lookup y.1).isSome=true:=by
 obtain ⟨cl,e,h1,_,h3⟩:=zEh (env:=env) scope.names [] hf (fun x c h=>nomatch h);refine ⟨cl,?_,h1,h3⟩;unfold closureFor;rw[show (pure cl:Sem _)=pure cl >>= pure from rfl,<-e]
theorem zCw
  (hQ:Q (newEnv scope s.heap.objs.size globals (cellsFrom (s.heap.objs.size+1) scope.names cl) qual none .none (some env) builtinsNs)
   { s with heap:=pushCells (s.heap.push { cls:=.type "dict", data:=.dict #[] }) scope.names }) :
  wpAny M A (newFunctionEnv scope globals cl [] qual none .none (some env)) Q E s:=by
 simp only[newFunctionEnv,Option.isSome_some,if_true];refine zV8 (wpAny_alloc ?_);refine zV8 (wpAny_layCells _ (fun name kind cells=>by cases hkc:kind==NameKind.cell <;> simp[hkc]) _ _ _ _ ?_);rw[show ({ s with heap:=s.heap.push { cls:=.type "dict", data:=.dict #[] } }:Shared).heap.objs.size=s.heap.objs.size+1 from zWo ..];exact zV8 (zWA (zWA hQ))
def zL (X:Cx) (zB:List (Addr × Obj)) (scope:Scope) (cl:List (Str × Addr)) (s:Shared) (H:Hp) (fp:List Addr):Cx where
 prog:=X.prog
 w:=X.w
 K:=X.K
 mg:=X.mg
 base:=X.base
 A:=X.A
 N:=X.N
 s₀:=s
 H₀:=H
 env:={ scope:=relabel scope X.env,locals:=s.heap.objs.size+1,globals:=X.env.globals,cells:=cellsFrom (s.heap.objs.size+1+1) scope.names cl,qual:=X.env.qual,func:=none,code:=X.env.code,frame:=X.env.frame,builtins:=X.env.builtins }
 outer:=X.stack
 stack:=X.stack
 ex:=fp
 fn:=fun x=>decide (scope.names.lookup x=some .cell)
 calm:=X.calm
 pn:=X.pn++zB
 xe:=fun _ _=>False
theorem zBE {scope:Scope} {env:Env} (x:Str):∀ {names:List (Str × NameKind)} {k:NameKind},
  (names.map fun (n,k)=>if (k==NameKind.free&&env.scope.kind == .function&&env.kindOf n==some .cell) then (n,NameKind.cell) else (n,k)).lookup x=some k ->
  names.lookup x=some k\/(names.lookup x=some .free/\k=.cell)
 |[],_,h=>by simp at h
 | (n,k')::r,k,h=>by
  rw[zWR]at h;by_cases hc:(k'==NameKind.free&&env.scope.kind == .function&&env.kindOf n==some .cell)=true
  ·simp only[hc,if_true]at h;rw[zYD]at h ⊢;cases hb:x==n with
   |true=>
    rw[hb]at h;simp only[zWi,beq_iff_eq]at hc;exact .inr ⟨by rw[hc.1.1],(zW8 h).symm⟩
   |false=>rw[hb]at h;exact zBE (scope:=scope) x h
  ·simp only[hc,zW9,if_false]at h;rw[zYD]at h ⊢;cases hb:x==n with
   |true=>rw[hb]at h;exact .inl h
   |false=>rw[hb]at h;exact zBE (scope:=scope) x h
theorem zG0:∀ (names:List (Str × NameKind)) (n:Nat) (acc:List (Str × Addr)) (x:Str) (c:Addr),(x,c)∈cellsFrom n names acc->(x,c)∉acc->(x,NameKind.cell)∈names
 |[],_,_,_,_,h,h'=>absurd h h'
 | (name,kind)::r,n,acc,x,c,h,h'=>by
  unfold cellsFrom at h;split at h
  ·rename_i hk;by_cases e:(x,c)=(name,n)
   ·cases e;rw[beq_iff_eq]at hk;subst hk;exact zWM
   ·exact zWL _ (zG0 r _ _ x c h fun z=>(zWK.mp z).elim e h')
  ·exact zWL _ (zG0 r _ _ x c h h')
structure CompScope (X:Cx) (scope:Scope):Prop where
 kind:scope.kind=.function
 names:∀ y∈scope.names,y.2=.local->scope.names.lookup y.1=some .local
 cells:∀ y∈scope.names,y.2=.cell->scope.names.lookup y.1=some .cell
 free:∀ y∈scope.names,y.2=.free->X.env.kindOf y.1=some .cell\/X.env.kindOf y.1=some .free
section
variable {X:Cx} {zB:List (Addr × Obj)} {σ σc:St} {H:Hp} {s s4:Shared} {scope:Scope} {cl:List (Str × Addr)} {fp:List Addr}
theorem zE0 (S:CompScope X scope) (I:Inv X zB σ H s) (hf:∀ b∈fp,zCL X zB H b) (ho:∀ b:Nat,b∈fp->b<s.heap.objs.size)
  (c1:∀ x c,cl.lookup x=some c->X.env.cells.lookup x=some c) (c2:∀ y∈scope.names,y.2=.free->(cl.lookup y.1).isSome=true)
  (hl:σc.length=σ.length) (hσ:∀ (i:Nat) x v,X.N[i]?=some x->σc[i]?=some (some v)->(relabel scope X.env).names.lookup x≠none->scope.names.lookup x=some .free/\σ[i]?=some (some v))
  (lo:Obj) (hlo:∀ v,lo.data≠.cell v) (hfr:lo.isFreed=false)
  (h4:s4={ s with heap:=pushCells ((s.heap.push lo).push { cls:=.type "dict", data:=.dict #[] }) scope.names }) :
  Inv (zL X zB scope cl s H fp) [(s.heap.objs.size,lo)] σc H s4:=by
 subst h4;have sz1:(s.heap.push lo).objs.size=s.heap.objs.size+1:=zWo ..;have sz2:((s.heap.push lo).push { cls:=.type "dict", data:=.dict #[] }).objs.size=s.heap.objs.size+1+1:=by rw[zWo,sz1]
 have hk:∀ b o,s.heap.get? b=some o->(pushCells ((s.heap.push lo).push { cls:=.type "dict", data:=.dict #[] }) scope.names).get? b=some o:=fun b o e=>
  pushCells_keeps _ _ b o (zV9 _ (zV9 _ e))
 have ok:=cellsFrom_ok scope.names ((s.heap.push lo).push { cls:=.type "dict", data:=.dict #[] }) (s.heap.objs.size+1+1) [] ⟨fun _ _ hm=>(nomatch hm),List.Pairwise.nil⟩ (by rw[sz2];exact zWE _);rw[sz2]at ok;have look:∀ x c,(cellsFrom (s.heap.objs.size+1+1) scope.names cl).lookup x=some c->((cellsFrom (s.heap.objs.size+1+1) scope.names []).lookup x=some c)\/((cellsFrom (s.heap.objs.size+1+1) scope.names []).lookup x=none/\X.env.cells.lookup x=some c):=fun x c e=>by
  rw[zAm,zCp]at e;cases q:(cellsFrom (s.heap.objs.size+1+1) scope.names []).lookup x with
  |some d=>rw[q]at e;exact .inl e
  |none=>rw[q]at e;exact .inr ⟨rfl,c1 x c e⟩
 have old:∀ x (c:Nat),X.env.cells.lookup x=some c->c<s.heap.objs.size:=fun x c e=>let ⟨_,q⟩:=I.cell x c e;q.lt;have new:∀ x (c:Nat),(cellsFrom (s.heap.objs.size+1+1) scope.names []).lookup x=some c->s.heap.objs.size+1+1<=c:=fun x c e=>(ok.empty x c (zXA e)).2;have own:∀ x,scope.names.lookup x=some .cell -> ∃ c,(cellsFrom (s.heap.objs.size+1+1) scope.names []).lookup x=some c:=fun x e=>zHU e;have cne:∀ x (c:Nat),(cellsFrom (s.heap.objs.size+1+1) scope.names cl).lookup x=some c->c<s.heap.objs.size\/s.heap.objs.size+1+1<=c:=fun x c e=>by
  rcases look x c e with q|⟨_,q⟩
  ·exact .inr (new x c q)
  ·exact .inl (old x c q)
 refine ⟨⟨I.ok.mod,S.kind,I.ok.glob,I.ok.blt,Nat.le_succ _,fun x y c h1 h2=>?_,fun x hx=>?_,fun x c hx h=>?_,I.ok.hd,I.ok.frames,.inl rfl,fun b hb=>⟨?_,fun x c e z=>?_⟩,I.bs,zWZ I.ok.bsz I.sz,fun b o e hb=>?_,fun b hb z=>?_,I.stack,I.stkFree⟩,
  rfl,I.bare,Un.kept hk,⟨fun _=>none,?_,fun i x v h1 h2 h3=>?_⟩,fun x c e=>?_,I.hok.fresh (Nat.le_succ _),fun x c e=>?_,fun p hp=>?_,I.hok.kept hk,hl.trans I.len⟩
 ·rcases look x c h1 with a|⟨_,a⟩ <;> rcases look y c h2 with b|⟨_,b⟩
  ·exact name_of_addr ok.apart (zXA a) (zXA b)
  ·exact absurd (Nat.lt_of_le_of_lt (new x c a) (old y c b)) (by omega)
  ·exact absurd (Nat.lt_of_le_of_lt (new y c b) (old x c a)) (by omega)
  ·exact I.ok.inj x y c a b
 ·have hx':(relabel scope X.env).names.lookup x=some .cell\/(relabel scope X.env).names.lookup x=some .free:=hx;have go:scope.names.lookup x=some .cell\/scope.names.lookup x=some .free:=by
   rcases hx' with q|q
   ·rcases zBE (scope:=scope) x q with z|z
    ·exact .inl z
    ·exact .inr z.1
   ·rcases zBE (scope:=scope) x q with z|z
    ·exact .inr z
    ·exact .inr z.1
  show ∃ c,(cellsFrom (s.heap.objs.size+1+1) scope.names cl).lookup x=some c;rw[zAm,zCp];rcases go with q|q
  ·obtain ⟨c,e⟩:=own x q;exact ⟨c,by rw[e]⟩
  ·cases e:(cellsFrom (s.heap.objs.size+1+1) scope.names []).lookup x with
   |some d=>exact ⟨d,rfl⟩
   |none=>exact Option.isSome_iff_exists.mp (c2 (x,.free) (zXA q) rfl)
 ·obtain ⟨d,e⟩:=own x (zW4 hx);have h':(cellsFrom (s.heap.objs.size+1+1) scope.names cl).lookup x=some c:=h;rw[zAm,zCp,e]at h';cases h';exact zWZ (zWZ (Nat.le_succ _) (Nat.le_succ _)) (new x _ e)
 ·exact zWT (zWx (ho b hb))
 ·rcases look x c e with q|⟨_,q⟩
  ·have a:=new x c q;rw[z]at a;exact absurd (Nat.lt_of_le_of_lt a (ho b hb)) (by omega)
  ·exact (hf b hb).2.2.2.2.1 x c q z
 ·rcases (hf b hb).2.2.2.1 with z|z
  ·exact I.ok.noex b o e z
  ·exact absurd (zWX (zWJ e) (zWZ I.ok.bsz z)) (zWq _)
 ·rcases zWK.mp (I.stkSub b z)with q|q
  ·exact (hf b hb).2.1 q
  ·exact (hf b hb).2.2.1 q
 ·have q:((s.heap.push lo).push { cls:=.type "dict", data:=.dict #[] }).Ns (s.heap.push lo).objs.size (fun _=>none):=Heap.Ns.new ..;rw[sz1]at q;exact q.keeps (pushCells_keeps _ _)
 ·have h3':(relabel scope X.env).names.lookup x≠none:=by
   rcases h3 with z|z|z <;> (intro q;have z':(relabel scope X.env).names.lookup x=_:=z;rw[q]at z';cases z')
  obtain ⟨fr,hv⟩:=hσ i x v h1 h2 h3';obtain ⟨m,hn,hlk⟩:=I.loc;have kx:=S.free (x,.free) (zXA fr) rfl;obtain ⟨u,rv,lk⟩:=hlk i x v h1 hv (by rcases kx with z|z;exact .inr (.inl z);exact .inr (.inr z));refine ⟨u,rv,?_⟩;rcases lk with ⟨z,_⟩|⟨_,c,e,ic⟩
  ·rcases kx with k|k <;> (rw[k]at z;cases z)
  ·have kind:(relabel scope X.env).names.lookup x=some .cell\/(relabel scope X.env).names.lookup x=some .free:=by
    cases q:(relabel scope X.env).names.lookup x with
    |none=>exact absurd q h3'
    |some k=>
     rcases zBE (scope:=scope) x q with z|z
     ·rw[fr]at z;cases z;exact .inr rfl
     ·rw[z.2];exact .inl rfl
   refine .inr ⟨kind,c,?_,ic.keeps hk⟩;show (cellsFrom (s.heap.objs.size+1+1) scope.names cl).lookup x=some c;rw[zAm,zCp];obtain ⟨d,hd⟩:=Option.isSome_iff_exists.mp (c2 (x,.free) (zXA fr) rfl);have:=c1 x d hd;rw[e]at this;cases this;have nn:(cellsFrom (s.heap.objs.size+1+1) scope.names []).lookup x=none:=by
    cases q:(cellsFrom (s.heap.objs.size+1+1) scope.names []).lookup x with
    |none=>rfl
    |some d'=>
     have z:=S.cells (x,.cell) (zG0 scope.names _ [] x d' (zXA q) fun z=>nomatch z) rfl;rw[fr]at z;cases z
   rw[nn];exact hd
 ·rcases look x c e with q|⟨_,q⟩
  ·exact ⟨none,(ok.empty x c (zXA q)).1⟩
  ·obtain ⟨v,z⟩:=I.cell x c q;exact ⟨v,z.keeps hk⟩
 ·rcases look x c e with q|⟨_,q⟩
  ·exact I.hok.fresh (by have:=new x c q;omega)
  ·exact I.freeC x c q
 ·have hp':p∈X.pn++zB\/p=(s.heap.objs.size,lo):=by
   rcases zWY.mp hp with z|z
   ·exact .inl z
   ·exact .inr (by simpa using z)
  rcases hp' with z|z
  ·obtain ⟨e,n,ne,nf,d⟩:=I.pin p z;have lt:(p.1:Nat)<s.heap.objs.size:=zWJ e;refine ⟨hk _ _ e,n,?_,fun q=>?_,d⟩
   ·exact zWT (zWx lt)
   ·rcases zWK.mp (I.stkSub _ q)with r|r
    ·exact ne r
    ·exact nf r
  ·subst z;refine ⟨pushCells_keeps _ _ _ _ (zV9 _ (zWI _ hfr)),I.hok.fresh (zWE _),?_,fun q=>?_,hlo⟩
   ·show s.heap.objs.size≠s.heap.objs.size+1;omega
   ·rcases zWK.mp (I.stkSub _ q)with r|r
    ·exact absurd I.lt (by rw[<-r];exact zWq _)
    ·exact I.nofs (zWE _) r
end
def clr (own:List Nat) (σ:St):St:=own.foldl (fun σ i=>σ.set i none) σ
theorem zBT:∀ (own:List Nat) (σ:St),(clr own σ).length=σ.length
 |[],_=>rfl
 |i::r,σ=>by
  show (clr r (σ.set i none)).length=_;rw[zBT r,List.length_set]
theorem zCx:∀ (own:List Nat) (σ:St) (j:Nat) (v:V),(clr own σ)[j]?=some (some v)->σ[j]?=some (some v)/\j∉own
 |[],_,_,_,h=>⟨h,fun z=>nomatch z⟩
 |i::r,σ,j,v,h=>by
  have h':(clr r (σ.set i none))[j]?=some (some v):=h;obtain ⟨a,b⟩:=zCx r _ j v h';rw[zXh]at a;split at a
  ·split at a <;> cases a
  ·rename_i hne;exact ⟨a,fun z=>(zWK.mp z).elim (fun e=>hne e.symm) b⟩
def Ext (a b:St):Prop:=b.length=a.length /\ ∀ (i:Nat) v,a[i]?=some (some v)->b[i]?=some (some v)
theorem Ext.refl (a:St):Ext a a:=⟨rfl,fun _ _ h=>h⟩
theorem Ext.set (e:Ext (clr own σ) a) (h:i∈own):Ext (clr own σ) (a.set i (some v)):=by
 refine ⟨by rw[List.length_set];exact e.1,fun j u q=>?_⟩;rw[zXh];split
 ·rename_i z;exact absurd (z▸h) (zCx own σ j u q).2
 ·exact e.2 j u q
def zGD (X:Cx) (ifs:List Expr) (t:TT):Prop :=
 ∀ (zB:List (Addr × Obj)) (s:Shared) (σ:St) (H:Hp) (Q:Bool->Hp->Prop),Inv X zB σ H s->t σ H Q ->
  wpAny (model X.prog X.w) X.A (forIn ifs true fun c r=>if r=true then do let ok <- isTrue c X.env (eval c X.env);pure (ForInStep.yield ok) else pure (ForInStep.yield r)) (TP X zB σ Q) X.xe s
def zV5:TT:=fun _ H Q=>Q true H
theorem zPl:zGD X [] zV5:=fun _ _ _ H _ I h=>wpAny_tests_nil ⟨H,I,h⟩
theorem zPv (h:PT X c t):zGD X [c] t:=fun zB s σ H Q I hq=>wpAny_tests_one (h zB s σ H Q I hq)
section
variable {prog:Program} {w:World} {A:Around} {E:Value->Shared->Prop} {R:Result->Shared->Prop} {s:Shared}
theorem zJt (I:Nat->Shared->Prop)
  (turn:∀ n s,I n s->wpAny (model prog w) A (pyNext it) (fun r s₁=>match r with
   |none=>R (.ok .next) s₁
   |some v=>wpAny (model prog w) A (letOwnedTupleGo target it v) (fun _ s₁'=>wpAny (model prog w) A (assign target env v) (fun _ s₂=>
     wpAny (model prog w) A (forIn ifs true fun c r=>if r=true then do let ok <- isTrue c env (eval c env);pure (ForInStep.yield ok) else pure (ForInStep.yield r)) (fun ok s₃=>
      if ok=true then wpAny (model prog w) A (eval elt env) (fun x s₄=>
       wpAny (model prog w) A (call (.builtin "list.append") [acc,x]) (fun _ s₅=>∃ m,m<n/\I m s₅) (fun _ _=>False) s₄) (fun _ _=>False) s₃
      else ∃ m,m<n/\I m s₃) (fun _ _=>False) s₂) (fun _ _=>False) s₁') (fun _ _=>False) s₁) (fun _ _=>False) s)
  (n:Nat) (h:I n s) :
  codeAny (model prog w) A (.compLoop (.ListComp elt [⟨target,iter,ifs,0⟩] scope pos) 0 it acc env) R s:=by
 refine codeAny_loop rfl I (fun n s hI=>?_) n h;show wpAny _ A ((compTurn (.ListComp elt [⟨target,iter,ifs,0⟩] scope pos) 0 it acc env).onRaise (fun x=>do noteFrame x env;theTreesLotGoes x)) _ _ s;refine wpAny_noted ?_;rw[compTurn_list];refine zV8 (zW6 (zV8 (zWe (turn n s hI) (fun r s₁ h₁=>?_) fun _ _ h'=>h'.elim)));cases r with
 |none=>exact zWA h₁
 |some v=>
  refine zV8 (zWe h₁ (fun _ s₁' h₁'=>?_) fun _ _ h'=>h'.elim);refine zV8 (zWe h₁' (fun _ s₂ h₂=>zV8 (zWe h₂ (fun ok s₃ h₃=>?_) fun _ _ h'=>h'.elim)) fun _ _ h'=>h'.elim);cases ok with
  |false=>exact zWA ⟨rfl,h₃⟩
  |true=>
   exact zV8 (zV8 (zWe h₃ (fun x s₄ h₄=>zV8 (zWe h₄ (fun _ s₅ h₅=>zWA (zWA ⟨rfl,h₅⟩)) fun _ _ h'=>h'.elim)) fun _ _ h'=>h'.elim))
end
def zQH (own:List Nat) (wi:TI) (g:TG) (tc:TT) (te:TE):TE:=fun σ H Q=>wi σ H fun J H1=>∃ W:Nat->Nat->List V->Hp->Prop,(∃ m,W 0 m [] H1) /\ ∀ i m ys H,W i m ys H ->
 (J.stop i H/\ys.length<=sizeLine /\ ∀ D,H D=none->Q (.ref D) (upd H D (.lst ys))) \/
 (J.go i H /\ ∀ x H',J.yld i H x H'->g x (clr own σ) H' fun σ2 H2=>Ext (clr own σ) σ2/\tc σ2 H2 fun b H3=>
  if b=true then te σ2 H3 fun v H4=>ys.length<sizeLine /\ ∃ m',m'<m/\W (i+1) m' (ys++[v]) H4 else ∃ m',m'<m/\W (i+1) m' ys H3)
abbrev zh (its:List Value) (n:Nat):Obj:={ cls:=.type "list", data:=.seq its.toArray n }
section
variable {X:Cx} {zB:List (Addr × Obj)} {σ:St} {H:Hp} {s:Shared}
theorem Inv.repin (I:Inv X (pl++[(D,o)]) σ H s) (hpl:∀ p∈X.pn++pl,p.1≠D) (hs:Heap.SameBut D s.heap h') (hD:X.s₀.heap.objs.size<=D) (hc:∀ x c,X.env.cells.lookup x=some c->c≠D)
  (e:h'.get? D=some o') (hn:∀ v,o'.data≠.cell v):Inv X (pl++[(D,o')]) σ H { s with heap:=h' }:=by
 obtain ⟨e0,n0,ne0,nf0,d0⟩:=I.pin (D,o) (by simp);have I1:Inv X pl σ H s:=I.pins_of fun p hp=>I.pin p (by simp[hp]);have I2:Inv X pl σ H { s with heap:=h' }:=I1.turned (t':=s.toks) (it:=D) (fun b u hb q=>hs.extBut b u hb q) n0 ne0 (.inr hD) hc hpl;exact I2.pins_of fun p hp=>by
  rcases zWY.mp hp with z|z
  ·exact I2.pin p (zWS _ z)
  ·have:p=(D,o'):=by simpa using z
   subst this;exact ⟨e,n0,ne0,nf0,hn⟩
end
section
variable {X:Cx} {zB:List (Addr × Obj)} {σ:St} {H:Hp} {s:Shared} {scope:Scope} {cl:List (Str × Addr)} {fp:List Addr} {it:Addr} {tn:Nat->Heap->Prop} {J:It} {tg elt iter:Expr} {ifs:List Expr} {pos:Pos}
 {own:List Nat} {g:TG} {tc:TT} {te:TE} {E:Value->Shared->Prop}
structure CompIn (X:Cx) (scope:Scope) (own:List Nat):Prop where
 sc:CompScope X scope
 nm:∀ (i:Nat) x,X.N[i]?=some x->i∈own\/scope.names.lookup x=none\/scope.names.lookup x=some .free
theorem zCN (x:Str) (h:scope.names.lookup x=none):(relabel scope env).names.lookup x=none:=by
 cases q:(relabel scope env).names.lookup x with
 |none=>rfl
 |some k=>
  rcases zBE (scope:=scope) x q with z|z
  ·rw[h]at z;cases z
  ·rw[h]at z;cases z.1
theorem zGz (C:CompIn X scope own) (hcalm:X.calm=true) (I:Inv X zB σ H s) (T:Turn X.prog X.w X.K tg J fp it tn) (st:tn 0 s.heap) (hf:∀ b∈fp,zCL X zB H b)
  (c1:∀ x c,cl.lookup x=some c->X.env.cells.lookup x=some c) (c2:∀ y∈scope.names,y.2=.free->(cl.lookup y.1).isSome=true)
  (hg:PG (zL X zB scope cl s H fp) tg g) (hi:zGD (zL X zB scope cl s H fp) ifs tc) (he:PE (zL X zB scope cl s H fp) elt te)
  {RR:Value->Addr->Result->Shared->Prop} {QQ:List V->Hp->Prop} {W:Nat->Nat->List V->Hp->Prop} {m0:Nat} (w0:W 0 m0 [] H)
  (turn:∀ i m ys H,W i m ys H->(J.stop i H/\ys.length<=sizeLine/\QQ ys H) \/
   (J.go i H /\ ∀ x H',J.yld i H x H'->g x (clr own σ) H' fun σ2 H2=>Ext (clr own σ) σ2/\tc σ2 H2 fun b H3=>
    if b=true then te σ2 H3 fun v H4=>ys.length<sizeLine /\ ∃ m',m'<m/\W (i+1) m' (ys++[v]) H4 else ∃ m',m'<m/\W (i+1) m' ys H3))
  (fin:∀ σc H' s' its n ys,Inv (zL X zB scope cl s H fp) [(s.heap.objs.size,zh its n)] σc H' s'->ze ys its->ys.length<=sizeLine->QQ ys H'->RR (.ref s.heap.objs.size) (s.heap.objs.size+1) (.ok .next) s') :
  wpAny (model X.prog X.w) X.A (newList []) (fun acc s₃=>wpAny (model X.prog X.w) X.A (newFunctionEnv scope X.env.globals cl [] X.env.qual none .none (some X.env)) (fun cenv s₄=>
   codeAny (model X.prog X.w) X.A (.compStart (.ListComp elt [⟨tg,iter,ifs,0⟩] scope pos) 0 (.ref it) acc { cenv with scope:=relabel scope X.env }) (RR acc cenv.locals) s₄) E s₃) E s:=by
 have ob:∀ b:Nat,b∈fp->b<s.heap.objs.size:=fun b hb=>let ⟨_,e,_⟩:=T.obj 0 _ st b hb;zWJ e;refine zWb (zCw ?_);have sz1:(s.heap.push (zh [] 0)).objs.size=s.heap.objs.size+1:=zWo ..;have I4:=zE0 (X:=X) (zB:=zB) (σ:=σ) (σc:=clr own σ) (H:=H) (s:=s) (scope:=scope) (cl:=cl) (fp:=fp) C.sc I hf ob c1 c2 (zBT own σ) (fun i x v h1 h2 h3=>by
  obtain ⟨a,b⟩:=zCx own σ i v h2;rcases C.nm i x h1 with z|z|z
  ·exact absurd z b
  ·exact absurd (zCN x z) h3
  ·exact ⟨z,a⟩) (zh [] 0) (by intro v z;cases z) rfl rfl
 have st4:tn 0 (pushCells ((s.heap.push (zh [] 0)).push { cls:=.type "dict", data:=.dict #[] }) scope.names):=T.keep 0 _ _ st fun b _ o e=>pushCells_keeps _ _ b o (zV9 _ (zV9 _ e));unfold newEnv;rw[sz1];have hDfp:s.heap.objs.size∉fp:=fun z=>zWq _ (ob _ z);have hcD:∀ x c,(zL X zB scope cl s H fp).env.cells.lookup x=some c->c≠s.heap.objs.size:=fun x c e z=>by
  obtain ⟨v,o,ho,hd⟩:=I4.cell x c e;obtain ⟨q,_⟩:=I4.pin (s.heap.objs.size,zh [] 0) (by simp);rw[z,q]at ho;cases ho;cases hd
 have fpk:∀ {H':Hp} {pl:List (Addr × Obj)},(∀ b∈fp,H' b=none)->(∀ p∈pl,p.1=s.heap.objs.size) -> ∀ b∈fp,zCL (zL X zB scope cl s H fp) pl H' b:=fun {H' pl} hn hp b hb=>
  ⟨hn b hb,(I4.ok.exf b hb).1,I4.ok.exfs b hb,.inl hb,(I4.ok.exf b hb).2,fun p hq=>by
   rcases zWY.mp hq with z|z
   ·exact (hf b hb).2.2.2.2.2 p z
   ·intro e;have e2:=hp p z;rw[e]at e2;exact hDfp (e2▸hb)⟩
 have loop:codeAny (model X.prog X.w) X.A (.compLoop (.ListComp elt [⟨tg,iter,ifs,0⟩] scope pos) 0 (.ref it) (.ref s.heap.objs.size) (zL X zB scope cl s H fp).env) (RR (.ref s.heap.objs.size) (s.heap.objs.size+1))
   { s with heap:=pushCells ((s.heap.push (zh [] 0)).push { cls:=.type "dict", data:=.dict #[] }) scope.names }:=by
  refine zJt (fun n s'=>∃ i H' ys its k,Inv (zL X zB scope cl s H fp) [(s.heap.objs.size,zh its k)] (clr own σ) H' s'/\ze ys its/\tn i s'.heap/\(∀ b∈fp,H' b=none)/\W i n ys H') ?_ m0
   ⟨0,H,[],[],0,I4,.nil,st4,fun b hb=>(hf b hb).1,w0⟩
  rintro n s5 ⟨i,H5,ys,its,k,I5,r5,st5,f5,w5⟩;have pinD:∀ p∈[(s.heap.objs.size,zh its k)],p.1=s.heap.objs.size:=fun p hp=>by
   have:p=(s.heap.objs.size,zh its k):=by simpa using hp
   rw[this]
  rcases turn i n ys H5 w5 with ⟨stop,hz,qq⟩|⟨go,step⟩
  ·refine thn (T.done (zL X zB scope cl s H fp) rfl rfl rfl hcalm i _ s5 _ H5 _ I5 (fpk f5 pinD) st5 stop) fun r s6 ⟨hr,I6⟩=>?_;subst hr;exact fin _ H5 s6 its k ys I6 r5 hz qq
  ·refine thn (T.item (zL X zB scope cl s H fp) rfl rfl rfl hcalm i _ s5 _ H5 _ I5 (fpk f5 pinD) st5 go) fun r s6 ⟨u,hr,h6⟩=>?_;subst hr;refine thn h6 fun _ s7 ⟨x,H7,I7,r7,y7,st7,f7⟩=>?_;have I7':=I7.pinned (fpk f7 pinD) (T.obj _ _ st7);refine thn (hg _ s7 _ H7 x u _ I7' r7 (step x H7 y7)) fun _ s8 ⟨σ8,H8,I8,x8,q8⟩=>?_;refine thn (hi _ s8 σ8 H8 _ I8 q8) fun ok s9 ⟨H9,I9,q9⟩=>?_;have back:∀ {s':Shared} {Hx:Hp},Inv (zL X zB scope cl s H fp) ([(s.heap.objs.size,zh its k)]++zC3 fp s7.heap) σ8 Hx s'->tn (i+1) s'.heap /\ ∀ b∈fp,Hx b=none:=fun {s' Hx} Ix=>
    ⟨T.keep _ _ _ st7 fun b hb o e=>(Ix.pin (b,o) (zWS _ (zWS _ (zAX hb e)))).1,fun b hb=>by
     obtain ⟨o,e,d⟩:=T.obj _ _ st7 b hb;exact (Ix.pin (b,o) (zWS _ (zWS _ (zAX hb e)))).2.1⟩
   cases ok with
   |false=>
    obtain ⟨m',hm,w'⟩:=q9;obtain ⟨b1,b2⟩:=back I9;exact ⟨m',hm,i+1,H9,ys,its,k,(I9.weak (by rw[x8.1]) x8.2).unpinned,r5,b1,b2,w'⟩
   |true=>
    refine thn (he _ s9 σ8 H9 _ I9 q9) fun v s10 ⟨y,H10,I10,r10,hlt,m',hm,w'⟩=>?_;obtain ⟨b1,b2⟩:=back I10;have J10:=(I10.weak (by rw[x8.1]) x8.2).unpinned;obtain ⟨e10,n10,ne10,nf10,d10⟩:=J10.pin (s.heap.objs.size,zh its k) (by simp);have hlen:its.toArray.size<=sizeLine:=by
     have:=r5.length;rw[zWG,<-this];exact Nat.le_of_lt hlt
    refine wpAny_list_append_plain (hsz:=hlen) (show s10.heap.PlainList s.heap.objs.size its.toArray from ⟨k,e10⟩) fun h' hl' hs'=>?_;obtain ⟨k',e'⟩:=hl';have e'':h'.get? s.heap.objs.size=some (zh (its++[v]) k'):=by rw[e'];simp[zh]
    refine ⟨m',hm,i+1,H10,ys++[y],its++[v],k',?_,r5.append (.cons r10 .nil),T.keep _ _ _ b1 fun b hb o e=>hs'.extBut b o (fun z=>hDfp (z▸hb)) e,b2,w'⟩;refine Inv.repin (pl:=[]) J10 (fun p hp=>?_) hs' (zWE _) hcD e'' (by intro v z;cases z);rw[zWs]at hp;have hp':p∈X.pn++zB:=hp;exact zWT (zWJ (I.pin p hp').1)
 exact codeAny_compStart_list loop (T.self _ 0 _ _ _ st4 loop)
end
section
variable {X:Cx} {zB:List (Addr × Obj)} {σ:St} {H:Hp} {s:Shared} {scope:Scope} {cl:List (Str × Addr)} {fp:List Addr}
theorem zHf (I:Inv X zB σ H s) (hf:∀ b∈fp,zCL X zB H b)
  (Ic:Inv (zL X zB scope cl s H fp) [(s.heap.objs.size,zh its n)] σc H' s') (rv:ze ys its) (hz:ys.length<=sizeLine) (hs:Heap.SameBut (s.heap.objs.size+1) s'.heap h') :
  Inv X zB σ (upd H' s.heap.objs.size (.lst ys)) { s' with heap:=h' }/\H' s.heap.objs.size=none:=by
 obtain ⟨eD,nD,_⟩:=Ic.pin (s.heap.objs.size,zh its n) (by simp);have nC:H' (s.heap.objs.size+1)=none:=Ic.free;have eD':h'.get? s.heap.objs.size=some (zh its n):=hs.extBut _ _ (zWT (zW5 _)) eD;have lt1:∀ {b:Addr} {o:Obj},s.heap.get? b=some o->b≠s.heap.objs.size+1/\b≠s.heap.objs.size:=fun e=>⟨zWT (zWx (zWJ e)),zWT (zWJ e)⟩;have tr:∀ b u,H' b=some u->b≠s.heap.objs.size+1/\b≠s.heap.objs.size:=fun b u e=>⟨fun z=>(by rw[z,nC]at e;cases e),fun z=>(by rw[z,nD]at e;cases e)⟩;refine ⟨?_,nD⟩;have B:=Ic.base;have un:Un (frs X.stack) fp H (upd H' s.heap.objs.size (.lst ys)) s.heap h':=by
  refine ⟨fun b o e q hb hx=>hs.extBut b o (lt1 e).1 (B.keep b o e q hb hx),fun b o e q hb hx=>?_,fun b o e q hx=>?_,fun b o e hx=>?_,fun b xs e=>?_,fun b o xs e=>?_,fun b ps e=>?_⟩
  ·obtain ⟨sl,e1⟩:=B.slot b o e q hb hx;exact ⟨sl,hs.extBut b _ (lt1 e).1 e1⟩
  ·rw[zc (lt1 e).2];exact B.free b o e q hx
  ·obtain ⟨o',e1⟩:=B.there b o e hx;exact ⟨o',hs.extBut b _ (lt1 e).1 e1⟩
  ·have q:=B.tups b xs e;rw[zc (tr b _ q).2];exact q
  ·have q:=B.frzs b o xs e;rw[zc (tr b _ q).2];exact q
  ·obtain ⟨more,q⟩:=B.tbls b ps e;exact ⟨more,by rw[zc (tr b _ q).2];exact q⟩
 have hok:HOk X.prog X.w (upd H' s.heap.objs.size (.lst ys)) h':=fun b u e=>by
  by_cases hb:b=s.heap.objs.size
  ·subst hb;rw[zAK]at e;cases e;exact ⟨hz,its,n,rv,eD'⟩
  ·rw[zc hb]at e;refine (Ic.hok b u e).stay (fun c v hc q=>hs.extBut c v ?_ q) (fun c q=>by rw[zc (tr c _ q).2];exact q) fun c xs q=>by rw[zc (tr c _ q).2];exact q
   rcases hc with z|z
   ·rw[z];exact (tr b u e).1
   ·exact (tr c _ z).1
 exact I.call' (s':={ s' with heap:=h' }) (ch:=fp) Ic.os un hok Ic.bare fun b hb=>⟨(hf b hb).2.2.2.1,(hf b hb).2.1,(hf b hb).2.2.2.2.1,(hf b hb).2.2.2.2.2⟩
end
section
variable {X:Cx} {scope:Scope} {tg elt iter:Expr} {ifs:List Expr} {pos:Pos} {own:List Nat} {wi:TI} {g:TG} {tc:TT} {te:TE}
structure CompParts (X:Cx) (scope:Scope) (tg:Expr) (ifs:List Expr) (elt:Expr) (g:TG) (tc:TT) (te:TE):Prop where
 g:∀ zB cl s H fp,PG (zL X zB scope cl s H fp) tg g
 c:∀ zB cl s H fp,zGD (zL X zB scope cl s H fp) ifs tc
 e:∀ zB cl s H fp,PE (zL X zB scope cl s H fp) elt te
theorem CompScope.closure (S:CompScope X scope) (I:Inv X zB σ H s) :
  ∃ cl,closureFor scope X.env=pure cl/\(∀ x c,cl.lookup x=some c->X.env.cells.lookup x=some c) /\ ∀ y∈scope.names,y.2=.free->(cl.lookup y.1).isSome=true :=
 zH1 fun y hy hk=>I.ok.has y.1 (S.free y hy hk)
theorem zQ3 (C:CompIn X scope own) (hcalm:X.calm=true) (hi:PI X tg iter wi) (p:CompParts X scope tg ifs elt g tc te) (hs:∀ x,foldedSetIterable iter X.env x=pure x:=by intro _;rfl) :
  PE X (.ListComp elt [⟨tg,iter,ifs,0⟩] scope pos) (zQH own wi g tc te):=by
 intro zB s σ H Q I h;obtain ⟨cl,hcl,c1,c2⟩:=C.sc.closure I;rw[eval_ListComp];refine zX2 (use:=none) rfl hs hcl C.sc.kind C.sc.names (thn (hi zB s σ H _ I h) fun v s1 h1=>thn h1 fun itv s2 h2=>?_);obtain ⟨it,fp,tn,J,H2,e,I2,T,st2,f2,W,⟨m0,w0⟩,turn⟩:=h2;subst e;refine zGz C hcalm I2 T st2 f2 c1 c2 (p.g _ _ _ _ _) (p.c _ _ _ _ _) (p.e _ _ _ _ _) (RR:=fun acc C r s'=>compPost (model X.prog X.w) X.A X.xe none (EP X zB σ Q) acc C r s') (QQ:=fun ys H=>∀ D,H D=none->Q (.ref D) (upd H D (.lst ys))) w0 turn ?_;intro σc H' s' its n ys Ic rv hz qq;obtain ⟨m,hn,_⟩:=Ic.loc;refine ⟨m,hn,fun h' hs'=>?_⟩;obtain ⟨J',nD⟩:=zHf I2 f2 Ic rv hz hs';exact ⟨.ref s2.heap.objs.size,_,J',rfl,qq _ nD⟩
theorem zMc (hN:X.N.Nodup) (hi':X.N[i]?=some x) (hx:Loc X.env.scope x) (hfn:X.fn x=true\/X.env.scope.names.lookup x=some .local)
  (C:CompIn X scope own) (hcalm:X.calm=true) (hi:PI X tg iter wi) (p:CompParts X scope tg ifs elt g tc te)
  (hsw:swapsWith (.ListComp elt [⟨tg,iter,ifs,0⟩] scope pos) (some (.Name x pos')) pos''.line X.env=pure true) (hs:∀ x,foldedSetIterable iter X.env x=pure x:=by intro _;rfl) :
  PS X (.Assign [.Name x pos'] (.ListComp elt [⟨tg,iter,ifs,0⟩] scope pos) pos'') (zPz (zQH own wi g tc te) (zDk i)):=by
 intro zB s σ H D I h;obtain ⟨cl,hcl,c1,c2⟩:=C.sc.closure I;rw[exec_Assign_Name_used _ _ _ _ hsw];refine zV8 (zW6 (zV8 ?_))
 refine zV8 (zWe (zX2 (use:=some (assign (.Name x pos') X.env)) (Q:=fun _ s'=>SP X zB D .next s') rfl hs hcl C.sc.kind C.sc.names
  (thn (hi zB s σ H _ I h) fun v s1 h1=>thn h1 fun itv s2 h2=>?_)) (fun _ s' hq=>zWA (zWA hq)) fun _ _ e=>e)
 obtain ⟨it,fp,tn,J,H2,e,I2,T,st2,f2,W,⟨m0,w0⟩,turn⟩:=h2;subst e
 refine zGz C hcalm I2 T st2 f2 c1 c2 (p.g _ _ _ _ _) (p.c _ _ _ _ _) (p.e _ _ _ _ _) (RR:=fun acc C r s'=>compPost (model X.prog X.w) X.A X.xe (some (assign (.Name x pos') X.env)) (fun _ s'=>SP X zB D .next s') acc C r s')
  (QQ:=fun ys H=>∀ E,H E=none->zDk i (.ref E) σ (upd H E (.lst ys)) D.nx) w0 turn ?_
 intro σc H' s' its n ys Ic rv hz qq;obtain ⟨m,hn,_⟩:=Ic.loc;obtain ⟨J',nD⟩:=zHf (h':=s'.heap) I2 f2 Ic rv hz (.refl ..);obtain ⟨oC,es,ep,hoC,hdC,r1,r2⟩:=id hn;have nC:upd H' s2.heap.objs.size (.lst ys) (s2.heap.objs.size+1)=none:=by rw[zc (zXd (zW5 _))];exact Ic.free
 have K':Inv X (zB++[(s2.heap.objs.size+1,oC)]) σ (upd H' s2.heap.objs.size (.lst ys)) s':=J'.pins_of fun q hq=>by
  rcases zWY.mp hq with z|z
  ·exact J'.pin q (zWS _ z)
  ·have e:q=(s2.heap.objs.size+1,oC):=by simpa using z
   subst e;refine ⟨hoC,nC,zXd (zWx I2.lt),I2.nofs (Nat.le_succ _),fun v z=>?_⟩;have z':oC.data=.cell v:=z;rw[hdC]at z';cases z'
 refine thn (zJT hN hi' hx hfn _ s' σ _ (.ref s2.heap.objs.size) (.ref s2.heap.objs.size) _ K' rfl (qq _ nD)) fun _ s'' ⟨σ'',H'',I'',q''⟩=>?_;obtain ⟨eC,_⟩:=I''.pin (s2.heap.objs.size+1,oC) (by simp);refine ⟨m,⟨oC,es,ep,eC,hdC,r1,r2⟩,fun h' hs'=>⟨σ'',H'',?_,q''⟩⟩;have I3:Inv X zB σ'' H'' s'':=I''.unpinned;obtain ⟨_,nC'',neC,_,_⟩:=I''.pin (s2.heap.objs.size+1,oC) (by simp);refine I3.turned (t':=s''.toks) (it:=s2.heap.objs.size+1) (fun b o hb e=>hs'.extBut b o hb e) nC'' neC (.inr (zWZ I2.sz (Nat.le_succ _))) (fun x c e z=>?_) (fun q hq z=>?_)
 ·obtain ⟨v,o,ho,hd⟩:=I3.cell x c e;rw[z,eC]at ho;cases ho;rw[hdC]at hd;cases hd
 ·obtain ⟨e,_⟩:=I2.pin q hq;exact zWT (zWx (zWJ e)) z
end
abbrev zBV (elt t1 i1:Expr) (f1:List Expr) (t2 i2:Expr) (f2:List Expr) (scope:Scope) (pos:Pos):Expr:=.ListComp elt [⟨t1,i1,f1,0⟩,⟨t2,i2,f2,0⟩] scope pos
theorem zHh (elt t1 i1:Expr) (f1:List Expr) (t2 i2:Expr) (f2:List Expr) (scope:Scope) (pos:Pos) (it acc:Value) (env:Env) :
  compTurn (zBV elt t1 i1 f1 t2 i2 f2 scope pos) 0 it acc env=(do
   standAt i1.pos;match <- pyNext it with
   |none=>pure (.done .next)
   |some v=>
    letOwnedTupleGo t1 it v;assign t1 env v;let mut ok:=true
    for c in f1 do
     if ok then ok <- isTrue c env (eval c env)
    if ok then
     let x <- eval i2 env;standAt i2.pos;let x <- foldedSetIterable i2 env x;let _ <- runOwn (.compStart (zBV elt t1 i1 f1 t2 i2 f2 scope pos) 1 (<- holding [x] (pyIter x)) acc env) env
    again (.compLoop (zBV elt t1 i1 f1 t2 i2 f2 scope pos) 0 it acc env)):=by rfl
theorem zJz (elt t1 i1:Expr) (f1:List Expr) (t2 i2:Expr) (f2:List Expr) (scope:Scope) (pos:Pos) (it acc:Value) (env:Env) :
  compTurn (zBV elt t1 i1 f1 t2 i2 f2 scope pos) 1 it acc env=(do
   standAt i2.pos;match <- pyNext it with
   |none=>pure (.done .next)
   |some v=>
    letOwnedTupleGo t2 it v;assign t2 env v;let mut ok:=true
    for c in f2 do
     if ok then ok <- isTrue c env (eval c env)
    if ok then
     (do let _ <- call (.builtin "list.append") [acc,<-eval elt env])
    again (.compLoop (zBV elt t1 i1 f1 t2 i2 f2 scope pos) 1 it acc env)):=by rfl
section
variable {prog:Program} {w:World} {A:Around} {E:Value->Shared->Prop} {R:Result->Shared->Prop} {s:Shared}
variable {elt t1 i1 t2 i2:Expr} {f1 f2:List Expr} {scope:Scope} {pos:Pos} {it acc:Value} {env:Env}
theorem zJ0 (I:Nat->Shared->Prop)
  (turn:∀ n s,I n s->wpAny (model prog w) A (pyNext it) (fun r s₁=>match r with
   |none=>R (.ok .next) s₁
   |some v=>wpAny (model prog w) A (letOwnedTupleGo t2 it v) (fun _ s₁'=>wpAny (model prog w) A (assign t2 env v) (fun _ s₂=>
     wpAny (model prog w) A (forIn f2 true fun c r=>if r=true then do let ok <- isTrue c env (eval c env);pure (ForInStep.yield ok) else pure (ForInStep.yield r)) (fun ok s₃=>
      if ok=true then wpAny (model prog w) A (eval elt env) (fun x s₄=>
       wpAny (model prog w) A (call (.builtin "list.append") [acc,x]) (fun _ s₅=>∃ m,m<n/\I m s₅) (fun _ _=>False) s₄) (fun _ _=>False) s₃
      else ∃ m,m<n/\I m s₃) (fun _ _=>False) s₂) (fun _ _=>False) s₁') (fun _ _=>False) s₁) (fun _ _=>False) s)
  (n:Nat) (h:I n s) :
  codeAny (model prog w) A (.compLoop (zBV elt t1 i1 f1 t2 i2 f2 scope pos) 1 it acc env) R s:=by
 refine codeAny_loop rfl I (fun n s hI=>?_) n h;show wpAny _ A ((compTurn (zBV elt t1 i1 f1 t2 i2 f2 scope pos) 1 it acc env).onRaise (fun x=>do noteFrame x env;theTreesLotGoes x)) _ _ s;refine wpAny_noted ?_;rw[zJz];refine zV8 (zW6 (zV8 (zWe (turn n s hI) (fun r s₁ h₁=>?_) fun _ _ h'=>h'.elim)));cases r with
 |none=>exact zWA h₁
 |some v=>
  refine zV8 (zWe h₁ (fun _ s₁' h₁'=>?_) fun _ _ h'=>h'.elim);refine zV8 (zWe h₁' (fun _ s₂ h₂=>zV8 (zWe h₂ (fun ok s₃ h₃=>?_) fun _ _ h'=>h'.elim)) fun _ _ h'=>h'.elim);cases ok with
  |false=>exact zWA ⟨rfl,h₃⟩
  |true=>
   exact zV8 (zV8 (zWe h₃ (fun x s₄ h₄=>zV8 (zWe h₄ (fun _ s₅ h₅=>zWA (zWA ⟨rfl,h₅⟩)) fun _ _ h'=>h'.elim)) fun _ _ h'=>h'.elim))
theorem zH2
  (h0:codeAny (model prog w) A (.compLoop (zBV elt t1 i1 f1 t2 i2 f2 scope pos) 1 it acc env) R s)
  (h:wpAny (model prog w) A (pyIter it) (fun it' s'=>codeAny (model prog w) A (.compLoop (zBV elt t1 i1 f1 t2 i2 f2 scope pos) 1 it' acc env) R s')
   (notedBy (model prog w) A env fun x s'=>R (.error x) s') s) :
  codeAny (model prog w) A (.compStart (zBV elt t1 i1 f1 t2 i2 f2 scope pos) 1 it acc env) R s:=by
 refine codeAny_of_tree ?_;show wpAny _ _ ((compStart (zBV elt t1 i1 f1 t2 i2 f2 scope pos) 1 it acc env).onRaise (fun x=>do noteFrame x env;standAt theWindowsPlace)) _ _ s;refine wpAny_notedAt ?_;unfold compStart;refine zV8 (wpAny_askSetting (wpAny_ite ?_));split
 ·first
   |exact zV8 (zWA (zWA (And.intro rfl h0)))
   |exact zWA (And.intro rfl h0)
 ·first
   |exact zV8 (zXV (zV8 (zW6 (zV8 (zWe h (fun it' s' h'=>zWA (And.intro rfl h')) fun _ _ x=>x)))))
   | (refine zV8 (zXV ?_);show wpAny _ _ (standAt i2.pos >>= _) _ _ s;exact zV8 (zW6 (zV8 (zWe h (fun it' s' h'=>zWA (And.intro rfl h')) fun _ _ x=>x))))
theorem zHv (hs2:∀ x,foldedSetIterable i2 env x=pure x) (I:Nat->Shared->Prop)
  (turn:∀ n s,I n s->wpAny (model prog w) A (pyNext it) (fun r s₁=>match r with
   |none=>R (.ok .next) s₁
   |some v=>wpAny (model prog w) A (letOwnedTupleGo t1 it v) (fun _ s₁'=>wpAny (model prog w) A (assign t1 env v) (fun _ s₂=>
     wpAny (model prog w) A (forIn f1 true fun c r=>if r=true then do let ok <- isTrue c env (eval c env);pure (ForInStep.yield ok) else pure (ForInStep.yield r)) (fun ok s₃=>
      if ok=true then wpAny (model prog w) A (eval i2 env) (fun x s₄=>wpAny (model prog w) A (pyIter x) (fun it2 s₅=>
       codeAny (model prog w) A (.compStart (zBV elt t1 i1 f1 t2 i2 f2 scope pos) 1 it2 acc env) (fun r s₆=>r=.ok .next /\ ∃ m,m<n/\I m s₆) s₅) (fun _ _=>False) s₄) (fun _ _=>False) s₃
      else ∃ m,m<n/\I m s₃) (fun _ _=>False) s₂) (fun _ _=>False) s₁') (fun _ _=>False) s₁) (fun _ _=>False) s)
  (n:Nat) (h:I n s) :
  codeAny (model prog w) A (.compLoop (zBV elt t1 i1 f1 t2 i2 f2 scope pos) 0 it acc env) R s:=by
 refine codeAny_loop rfl I (fun n s hI=>?_) n h;show wpAny _ A ((compTurn (zBV elt t1 i1 f1 t2 i2 f2 scope pos) 0 it acc env).onRaise (fun x=>do noteFrame x env;theTreesLotGoes x)) _ _ s;refine wpAny_noted ?_;rw[zHh];refine zV8 (zW6 (zV8 (zWe (turn n s hI) (fun r s₁ h₁=>?_) fun _ _ h'=>h'.elim)));cases r with
 |none=>exact zWA h₁
 |some v=>
  refine zV8 (zWe h₁ (fun _ s₁' h₁'=>?_) fun _ _ h'=>h'.elim);refine zV8 (zWe h₁' (fun _ s₂ h₂=>zV8 (zWe h₂ (fun ok s₃ h₃=>?_) fun _ _ h'=>h'.elim)) fun _ _ h'=>h'.elim);cases ok with
  |false=>exact zWA ⟨rfl,h₃⟩
  |true=>
   refine zV8 (zWe h₃ (fun x s₄ h₄=>zV8 (zW6 (zV8 (wpAny_of_eq (hs2 x) (zV8 (zW1 (zWe h₄ (fun it2 s₅ h₅=>?_) fun _ _ h'=>h'.elim))))))) fun _ _ h'=>h'.elim);refine zV8 (wpAny_runOwn (codeAny_mono h₅ fun r s₆ hr=>?_));obtain ⟨rfl,hr⟩:=hr;exact zWA ⟨rfl,hr⟩
end
def tIn (own2:List Nat) (wi2:TI) (g2:TG) (tc2:TT) (te:TE) (σ2:St) (H3:Hp) (ys:List V) (QQ:List V->Hp->Prop):Prop :=
 wi2 σ2 H3 fun J2 H4=>∃ W2:Nat->Nat->List V->Hp->Prop,(∃ m,W2 0 m ys H4) /\ ∀ j m zs H,W2 j m zs H ->
  (J2.stop j H/\QQ zs H) \/
  (J2.go j H /\ ∀ x H',J2.yld j H x H'->g2 x (clr own2 σ2) H' fun σ3 H5=>Ext (clr own2 σ2) σ3/\tc2 σ3 H5 fun b H6=>
   if b=true then te σ3 H6 fun v H7=>zs.length<sizeLine /\ ∃ m',m'<m/\W2 (j+1) m' (zs++[v]) H7 else ∃ m',m'<m/\W2 (j+1) m' zs H6)
section
variable {C:Cx} {elt t1 i1 t2 i2:Expr} {f1 f2:List Expr} {scope:Scope} {pos:Pos} {pl:List (Addr × Obj)} {σ:St} {H:Hp} {s:Shared} {D:Addr}
 {own2:List Nat} {wi2:TI} {g2:TG} {tc2:TT} {te:TE} {R:Result->Shared->Prop}
theorem zQV (hxe:C.xe=fun _ _=>False) (hcalm:C.calm=true) (hi:PI C t2 i2 wi2) (hg:PG C t2 g2) (hc:zGD C f2 tc2) (he:PE C elt te) (hD:C.s₀.heap.objs.size<=D)
  (hcD:∀ x c,C.env.cells.lookup x=some c->c≠D) (hpl:∀ p∈C.pn++pl,p.1≠D) (I:Inv C (pl++[(D,zh its k)]) σ H s) (rv:ze ys its) (h:tIn own2 wi2 g2 tc2 te σ H ys QQ)
  (fin:∀ s' H' its' k' zs,Inv C (pl++[(D,zh its' k')]) (clr own2 σ) H' s'->ze zs its'->QQ zs H'->R (.ok .next) s') :
  wpAny (model C.prog C.w) C.A (eval i2 C.env) (fun x s₄=>wpAny (model C.prog C.w) C.A (pyIter x) (fun it2 s₅=>
   codeAny (model C.prog C.w) C.A (.compStart (zBV elt t1 i1 f1 t2 i2 f2 scope pos) 1 it2 (.ref D) C.env) R s₅) (fun _ _=>False) s₄) (fun _ _=>False) s:=by
 have hpi:=hi _ s σ H _ I h;rw[hxe]at hpi;refine thn hpi fun v s1 h1=>thn h1 fun itv s2 h2=>?_;obtain ⟨it,fp,tn,J,H2,e,I2,T,st2,f2',W,⟨m0,w0⟩,turn⟩:=h2;subst e;have hDfp:D∉fp:=fun z=>(f2' D z).2.2.2.2.2 (D,zh its k) (by simp) rfl;have loop:∀ s',(∃ H',Inv C (pl++[(D,zh its k)]) (clr own2 σ) H' s'/\tn 0 s'.heap/\(∀ b∈fp,H' b=none)/\W 0 m0 ys H')->codeAny (model C.prog C.w) C.A (.compLoop (zBV elt t1 i1 f1 t2 i2 f2 scope pos) 1 (.ref it) (.ref D) C.env) R s':=by
  rintro s' ⟨H',I',st',hn',w'⟩;have fpk:∀ {H':Hp} {its:List Value} {k:Nat},(∀ b∈fp,H' b=none) -> ∀ b∈fp,zCL C (pl++[(D,zh its k)]) H' b:=fun {H' its k} hn b hb=>by
   obtain ⟨_,a2,a3,a4,a5,a6⟩:=f2' b hb;refine ⟨hn b hb,a2,a3,a4,a5,fun p hp=>?_⟩;rcases zWY.mp hp with z|z
   ·exact a6 p (zXN _ z)
   ·rcases zWY.mp z with z|z
    ·exact a6 p (zWS _ (zXN _ z))
    ·have:p=(D,zh its k):=by simpa using z
     rw[this];intro q;have q':D=b:=q;exact hDfp (q'▸hb)
  refine zJ0 (fun n s'=>∃ i H' ys its k,Inv C (pl++[(D,zh its k)]) (clr own2 σ) H' s'/\ze ys its/\tn i s'.heap/\(∀ b∈fp,H' b=none)/\W i n ys H') ?_ m0 ⟨0,H',ys,its,k,I',rv,st',hn',w'⟩;rintro n s5 ⟨i,H5,ys,its,k,I5,r5,st5,f5,w5⟩;rcases turn i n ys H5 w5 with ⟨stop,qq⟩|⟨go,step⟩
  ·refine thn (T.done C rfl rfl rfl hcalm i _ s5 _ H5 _ I5 (fpk f5) st5 stop) fun r s6 ⟨hr,I6⟩=>?_;subst hr;exact fin s6 H5 its k ys I6 r5 qq
  ·refine thn (T.item C rfl rfl rfl hcalm i _ s5 _ H5 _ I5 (fpk f5) st5 go) fun r s6 ⟨u,hr,h6⟩=>?_;subst hr;refine thn h6 fun _ s7 ⟨x,H7,I7,r7,y7,st7,f7⟩=>?_;have I7':=I7.pinned (fpk f7) (T.obj _ _ st7);have hgg:=hg _ s7 _ H7 x u _ I7' r7 (step x H7 y7);rw[hxe]at hgg;refine thn hgg fun _ s8 ⟨σ8,H8,I8,x8,q8⟩=>?_;have hcc:=hc _ s8 σ8 H8 _ I8 q8;rw[hxe]at hcc;refine thn hcc fun ok s9 ⟨H9,I9,q9⟩=>?_;have back:∀ {s':Shared} {Hx:Hp},Inv C ((pl++[(D,zh its k)])++zC3 fp s7.heap) σ8 Hx s'->tn (i+1) s'.heap /\ ∀ b∈fp,Hx b=none:=fun {s' Hx} Ix=>
    ⟨T.keep _ _ _ st7 fun b hb o e=>(Ix.pin (b,o) (zWS _ (zWS _ (zAX hb e)))).1,fun b hb=>by
     obtain ⟨o,e,d⟩:=T.obj _ _ st7 b hb;exact (Ix.pin (b,o) (zWS _ (zWS _ (zAX hb e)))).2.1⟩
   cases ok with
   |false=>
    obtain ⟨m',hm,w'⟩:=q9;obtain ⟨b1,b2⟩:=back I9;exact ⟨m',hm,i+1,H9,ys,its,k,(I9.weak (by rw[x8.1]) x8.2).unpinned,r5,b1,b2,w'⟩
   |true=>
    have hee:=he _ s9 σ8 H9 _ I9 q9;rw[hxe]at hee;refine thn hee fun v s10 ⟨y,H10,I10,r10,hlt,m',hm,w'⟩=>?_;obtain ⟨b1,b2⟩:=back I10;have J10:=(I10.weak (by rw[x8.1]) x8.2).unpinned;obtain ⟨e10,n10,ne10,nf10,d10⟩:=J10.pin (D,zh its k) (by simp);have hlen:its.toArray.size<=sizeLine:=by
     have:=r5.length;rw[zWG,<-this];exact Nat.le_of_lt hlt
    refine wpAny_list_append_plain (hsz:=hlen) (show s10.heap.PlainList D its.toArray from ⟨k,e10⟩) fun h' hl' hs'=>?_;obtain ⟨k',e'⟩:=hl';have e'':h'.get? D=some (zh (its++[v]) k'):=by rw[e'];simp[zh]
    refine ⟨m',hm,i+1,H10,ys++[y],its++[v],k',?_,r5.append (.cons r10 .nil),T.keep _ _ _ b1 fun b hb o e=>hs'.extBut b o (fun z=>hDfp (z▸hb)) e,b2,w'⟩;exact Inv.repin (pl:=pl) J10 hpl hs' hD hcD e'' (by intro v z;cases z)
 have l0:=loop s2 ⟨H2,I2.weak (zBT own2 σ) (fun i v h=>(zCx own2 σ i v h).1),st2,fun b hb=>(f2' b hb).1,w0⟩;exact zH2 l0 (T.self _ 0 _ _ _ st2 l0)
end
section
variable {X:Cx} {zB:List (Addr × Obj)} {σ:St} {H:Hp} {s:Shared} {scope:Scope} {cl:List (Str × Addr)} {fp:List Addr} {it:Addr} {tn:Nat->Heap->Prop} {J:It} {elt t1 i1 t2 i2:Expr} {f1 f2:List Expr} {pos:Pos}
 {own own2:List Nat} {g g2:TG} {tc tc2:TT} {te:TE} {wi wi2:TI} {E:Value->Shared->Prop}
theorem zKg:∀ (own:List Nat) (σ:St) (j:Nat),j∉own->(clr own σ)[j]?=σ[j]?
 |[],_,_,_=>rfl
 |i::r,σ,j,h=>by
  show (clr r (σ.set i none))[j]?=_;rw[zKg r _ j (fun z=>h (zWL _ z)),zWc (fun z=>h (by rw[z];exact zWM))]
theorem zKq (hsub:∀ i∈own2,i∈own) (C:CompIn X scope own) (hcalm:X.calm=true) (I:Inv X zB σ H s) (T:Turn X.prog X.w X.K t1 J fp it tn) (st:tn 0 s.heap) (hf:∀ b∈fp,zCL X zB H b)
  (c1:∀ x c,cl.lookup x=some c->X.env.cells.lookup x=some c) (c2:∀ y∈scope.names,y.2=.free->(cl.lookup y.1).isSome=true)
  (hg:PG (zL X zB scope cl s H fp) t1 g) (hi:zGD (zL X zB scope cl s H fp) f1 tc)
  (hi2:PI (zL X zB scope cl s H fp) t2 i2 wi2) (hg2:PG (zL X zB scope cl s H fp) t2 g2) (hc2:zGD (zL X zB scope cl s H fp) f2 tc2) (he:PE (zL X zB scope cl s H fp) elt te)
  (hs2:∀ x,foldedSetIterable i2 (zL X zB scope cl s H fp).env x=pure x)
  {RR:Value->Addr->Result->Shared->Prop} {QQ:List V->Hp->Prop} {W:Nat->Nat->List V->Hp->Prop} {m0:Nat} (w0:W 0 m0 [] H)
  (turn:∀ i m ys H,W i m ys H->(J.stop i H/\ys.length<=sizeLine/\QQ ys H) \/
   (J.go i H /\ ∀ x H',J.yld i H x H'->g x (clr own σ) H' fun σ2 H2=>Ext (clr own σ) σ2/\tc σ2 H2 fun b H3=>
    if b=true then tIn own2 wi2 g2 tc2 te σ2 H3 ys fun zs H4=>∃ m',m'<m/\W (i+1) m' zs H4 else ∃ m',m'<m/\W (i+1) m' ys H3))
  (fin:∀ σc H' s' its n ys,Inv (zL X zB scope cl s H fp) [(s.heap.objs.size,zh its n)] σc H' s'->ze ys its->ys.length<=sizeLine->QQ ys H'->RR (.ref s.heap.objs.size) (s.heap.objs.size+1) (.ok .next) s') :
  wpAny (model X.prog X.w) X.A (newList []) (fun acc s₃=>wpAny (model X.prog X.w) X.A (newFunctionEnv scope X.env.globals cl [] X.env.qual none .none (some X.env)) (fun cenv s₄=>
   codeAny (model X.prog X.w) X.A (.compStart (zBV elt t1 i1 f1 t2 i2 f2 scope pos) 0 (.ref it) acc { cenv with scope:=relabel scope X.env }) (RR acc cenv.locals) s₄) E s₃) E s:=by
 have ob:∀ b:Nat,b∈fp->b<s.heap.objs.size:=fun b hb=>let ⟨_,e,_⟩:=T.obj 0 _ st b hb;zWJ e;refine zWb (zCw ?_);have sz1:(s.heap.push (zh [] 0)).objs.size=s.heap.objs.size+1:=zWo ..;have I4:=zE0 (X:=X) (zB:=zB) (σ:=σ) (σc:=clr own σ) (H:=H) (s:=s) (scope:=scope) (cl:=cl) (fp:=fp) C.sc I hf ob c1 c2 (zBT own σ) (fun i x v h1 h2 h3=>by
  obtain ⟨a,b⟩:=zCx own σ i v h2;rcases C.nm i x h1 with z|z|z
  ·exact absurd z b
  ·exact absurd (zCN x z) h3
  ·exact ⟨z,a⟩) (zh [] 0) (by intro v z;cases z) rfl rfl
 have st4:tn 0 (pushCells ((s.heap.push (zh [] 0)).push { cls:=.type "dict", data:=.dict #[] }) scope.names):=T.keep 0 _ _ st fun b _ o e=>pushCells_keeps _ _ b o (zV9 _ (zV9 _ e));unfold newEnv;rw[sz1];have hDfp:s.heap.objs.size∉fp:=fun z=>zWq _ (ob _ z);have hcD:∀ x c,(zL X zB scope cl s H fp).env.cells.lookup x=some c->c≠s.heap.objs.size:=fun x c e z=>by
  obtain ⟨v,o,ho,hd⟩:=I4.cell x c e;obtain ⟨q,_⟩:=I4.pin (s.heap.objs.size,zh [] 0) (by simp);rw[z,q]at ho;cases ho;cases hd
 have fpk:∀ {H':Hp} {pl:List (Addr × Obj)},(∀ b∈fp,H' b=none)->(∀ p∈pl,p.1=s.heap.objs.size) -> ∀ b∈fp,zCL (zL X zB scope cl s H fp) pl H' b:=fun {H' pl} hn hp b hb=>
  ⟨hn b hb,(I4.ok.exf b hb).1,I4.ok.exfs b hb,.inl hb,(I4.ok.exf b hb).2,fun p hq=>by
   rcases zWY.mp hq with z|z
   ·exact (hf b hb).2.2.2.2.2 p z
   ·intro e;have e2:=hp p z;rw[e]at e2;exact hDfp (e2▸hb)⟩
 have loop:codeAny (model X.prog X.w) X.A (.compLoop (zBV elt t1 i1 f1 t2 i2 f2 scope pos) 0 (.ref it) (.ref s.heap.objs.size) (zL X zB scope cl s H fp).env) (RR (.ref s.heap.objs.size) (s.heap.objs.size+1))
   { s with heap:=pushCells ((s.heap.push (zh [] 0)).push { cls:=.type "dict", data:=.dict #[] }) scope.names }:=by
  refine zHv hs2 (fun n s'=>∃ i H' ys its k,Inv (zL X zB scope cl s H fp) [(s.heap.objs.size,zh its k)] (clr own σ) H' s'/\ze ys its/\tn i s'.heap/\(∀ b∈fp,H' b=none)/\W i n ys H') ?_ m0
   ⟨0,H,[],[],0,I4,.nil,st4,fun b hb=>(hf b hb).1,w0⟩
  rintro n s5 ⟨i,H5,ys,its,k,I5,r5,st5,f5,w5⟩;have pinD:∀ p∈[(s.heap.objs.size,zh its k)],p.1=s.heap.objs.size:=fun p hp=>by
   have:p=(s.heap.objs.size,zh its k):=by simpa using hp
   rw[this]
  rcases turn i n ys H5 w5 with ⟨stop,hz,qq⟩|⟨go,step⟩
  ·refine thn (T.done (zL X zB scope cl s H fp) rfl rfl rfl hcalm i _ s5 _ H5 _ I5 (fpk f5 pinD) st5 stop) fun r s6 ⟨hr,I6⟩=>?_;subst hr;exact fin _ H5 s6 its k ys I6 r5 hz qq
  ·refine thn (T.item (zL X zB scope cl s H fp) rfl rfl rfl hcalm i _ s5 _ H5 _ I5 (fpk f5 pinD) st5 go) fun r s6 ⟨u,hr,h6⟩=>?_;subst hr;refine thn h6 fun _ s7 ⟨x,H7,I7,r7,y7,st7,f7⟩=>?_;have I7':=I7.pinned (fpk f7 pinD) (T.obj _ _ st7);refine thn (hg _ s7 _ H7 x u _ I7' r7 (step x H7 y7)) fun _ s8 ⟨σ8,H8,I8,x8,q8⟩=>?_;refine thn (hi _ s8 σ8 H8 _ I8 q8) fun ok s9 ⟨H9,I9,q9⟩=>?_;have back:∀ {σx:St} {s':Shared} {Hx:Hp} {its:List Value} {k:Nat},(clr own σ).length=σx.length->(∀ (i:Nat) v,(clr own σ)[i]?=some (some v)->σx[i]?=some (some v))->Inv (zL X zB scope cl s H fp) (zC3 fp s7.heap++[(s.heap.objs.size,zh its k)]) σx Hx s'->Inv (zL X zB scope cl s H fp) [(s.heap.objs.size,zh its k)] (clr own σ) Hx s'/\tn (i+1) s'.heap /\ ∀ b∈fp,Hx b=none:=fun {σx s' Hx its k} hl hk Ix=>
    ⟨(Ix.weak hl hk).pins_of fun p hp=>Ix.pin p (zWS _ (zWS _ hp)),
     T.keep _ _ _ st7 fun b hb o e=>(Ix.pin (b,o) (zWS _ (zXN _ (zAX hb e)))).1,fun b hb=>by
     obtain ⟨o,e,d⟩:=T.obj _ _ st7 b hb;exact (Ix.pin (b,o) (zWS _ (zXN _ (zAX hb e)))).2.1⟩
   have I9':Inv (zL X zB scope cl s H fp) (zC3 fp s7.heap++[(s.heap.objs.size,zh its k)]) σ8 H9 s9:=I9.pins_of fun p hp=>I9.pin p (zWS _ (by
    rcases zWY.mp hp with z|z
    ·exact zWS _ z
    ·exact zXN _ z))
   cases ok with
   |false=>
    obtain ⟨m',hm,w'⟩:=q9;obtain ⟨b0,b1,b2⟩:=back (by rw[x8.1]) x8.2 I9';exact ⟨m',hm,i+1,H9,ys,its,k,b0,r5,b1,b2,w'⟩
   |true=>
    refine zQV (C:=zL X zB scope cl s H fp) rfl hcalm hi2 hg2 hc2 he (zWE _) hcD (fun p hp=>?_) I9' r5 q9 fun s' H' its' k' zs I' rv' q'=>?_
    ·rcases zWY.mp hp with z|z
     ·exact zWT (zWJ (I.pin p z).1)
     ·obtain ⟨hb,_⟩:=zIr z;exact zWT (ob _ hb)
    ·obtain ⟨m',hm,w'⟩:=q';obtain ⟨b0,b1,b2⟩:=back (by rw[zBT own2,x8.1]) (fun i v hv=>by rw[zKg own2 _ i (fun z=>(zCx own σ i v hv).2 (hsub i z))];exact x8.2 i v hv) I';exact ⟨rfl,m',hm,i+1,H',zs,its',k',b0,rv',b1,b2,w'⟩
 exact codeAny_compStart_list loop (T.self _ 0 _ _ _ st4 loop)
def zPu (own own2:List Nat) (wi:TI) (g:TG) (tc:TT) (wi2:TI) (g2:TG) (tc2:TT) (te:TE):TE:=fun σ H Q=>wi σ H fun J H1=>∃ W:Nat->Nat->List V->Hp->Prop,(∃ m,W 0 m [] H1) /\ ∀ i m ys H,W i m ys H ->
 (J.stop i H/\ys.length<=sizeLine /\ ∀ D,H D=none->Q (.ref D) (upd H D (.lst ys))) \/
 (J.go i H /\ ∀ x H',J.yld i H x H'->g x (clr own σ) H' fun σ2 H2=>Ext (clr own σ) σ2/\tc σ2 H2 fun b H3=>
  if b=true then tIn own2 wi2 g2 tc2 te σ2 H3 ys fun zs H4=>∃ m',m'<m/\W (i+1) m' zs H4 else ∃ m',m'<m/\W (i+1) m' ys H3)
structure CompParts2 (X:Cx) (scope:Scope) (t1:Expr) (f1:List Expr) (t2 i2:Expr) (f2:List Expr) (elt:Expr) (g:TG) (tc:TT) (wi2:TI) (g2:TG) (tc2:TT) (te:TE):Prop where
 g:∀ zB cl s H fp,PG (zL X zB scope cl s H fp) t1 g
 c:∀ zB cl s H fp,zGD (zL X zB scope cl s H fp) f1 tc
 w2:∀ zB cl s H fp,PI (zL X zB scope cl s H fp) t2 i2 wi2
 g2:∀ zB cl s H fp,PG (zL X zB scope cl s H fp) t2 g2
 c2:∀ zB cl s H fp,zGD (zL X zB scope cl s H fp) f2 tc2
 e:∀ zB cl s H fp,PE (zL X zB scope cl s H fp) elt te
 s2:∀ zB cl s H fp x,foldedSetIterable i2 (zL X zB scope cl s H fp).env x=pure x
theorem zPk (hsub:∀ i∈own2,i∈own) (C:CompIn X scope own) (hcalm:X.calm=true) (hi:PI X t1 i1 wi) (p:CompParts2 X scope t1 f1 t2 i2 f2 elt g tc wi2 g2 tc2 te) (hs:∀ x,foldedSetIterable i1 X.env x=pure x:=by intro _;rfl) :
  PE X (zBV elt t1 i1 f1 t2 i2 f2 scope pos) (zPu own own2 wi g tc wi2 g2 tc2 te):=by
 intro zB s σ H Q I h;obtain ⟨cl,hcl,c1,c2⟩:=C.sc.closure I;rw[eval_ListComp];refine zX2 (use:=none) rfl hs hcl C.sc.kind C.sc.names (thn (hi zB s σ H _ I h) fun v s1 h1=>thn h1 fun itv s2 h2=>?_);obtain ⟨it,fp,tn,J,H2,e,I2,T,st2,f2,W,⟨m0,w0⟩,turn⟩:=h2;subst e;refine zKq hsub C hcalm I2 T st2 f2 c1 c2 (p.g _ _ _ _ _) (p.c _ _ _ _ _) (p.w2 _ _ _ _ _) (p.g2 _ _ _ _ _) (p.c2 _ _ _ _ _) (p.e _ _ _ _ _) (p.s2 _ _ _ _ _) (RR:=fun acc C r s'=>compPost (model X.prog X.w) X.A X.xe none (EP X zB σ Q) acc C r s') (QQ:=fun ys H=>∀ D,H D=none->Q (.ref D) (upd H D (.lst ys))) w0 turn ?_;intro σc H' s' its n ys Ic rv hz qq;obtain ⟨m,hn,_⟩:=Ic.loc;refine ⟨m,hn,fun h' hs'=>?_⟩;obtain ⟨J',nD⟩:=zHf I2 f2 Ic rv hz hs';exact ⟨.ref s2.heap.objs.size,_,J',rfl,qq _ nD⟩
end
end L2
namespace L3
open PySem PySem.Spec PyProof.Rows L2
abbrev Sv:=List (Option V)
set_option genInjectivity true in
inductive D where
 |non|bl (b:Bool)|int (i:Int)|str (x:Str)|tup (xs:List D)|ref (n:Nat)
set_option genInjectivity true in
inductive MO where
 |lst (xs:List D)|fro (xs:List D)|dict (kvs:List (D × D))|dicT (kvs:List (D × D))|set (xs:List D)|froT (kvs:List (D × D))|froK (kvs:List (D × D))
mutual
def Rep (L:List Addr) (H:Hp):D->V->Prop
 |.non,v=>v=.non
 |.bl b,v=>v=.bl b
 |.int i,v=>v=.int i
 |.str x,v=>v=.str x
 |.tup ds,v=>∃ a vs,v=.ref a/\H a=some (.tup vs)/\zP L H ds vs
 |.ref n,v=>∃ a,v=.ref a/\L[n]?=some a
def zP (L:List Addr) (H:Hp):List D->List V->Prop
 |[],vs=>vs=[]
 |d::ds,vs=>∃ v r,vs=v::r/\Rep L H d v/\zP L H ds r
end
theorem zP.length:∀ {ds:List D} {vs:List V},zP L H ds vs->vs.length=ds.length
 |[],_,h=>by unfold zP at h;subst h;rfl
 |d::ds,_,h=>by
  unfold zP at h;obtain ⟨v,r,rfl,_,h2⟩:=h;simp[zP.length h2]
theorem zP.nil:zP L H [] []:=by unfold zP;rfl
theorem zP.cons (h:Rep L H d v) (t:zP L H ds vs):zP L H (d::ds) (v::vs):=by
 unfold zP;exact ⟨v,vs,rfl,h,t⟩
theorem zP.get:∀ {ds:List D} {vs:List V} {i:Nat} {d:D},zP L H ds vs->ds[i]?=some d -> ∃ v,vs[i]?=some v/\Rep L H d v
 |[],_,_,_,_,e=>by simp at e
 |d::ds,_,0,d',h,e=>by
  unfold zP at h;obtain ⟨v,r,rfl,h1,h2⟩:=h;simp at e;subst e;exact ⟨v,rfl,h1⟩
 |d::ds,_,i+1,d',h,e=>by
  unfold zP at h;obtain ⟨v,r,rfl,h1,h2⟩:=h;obtain ⟨u,e1,e2⟩:=zP.get (i:=i) h2 (by simpa using e);exact ⟨u,by simpa using e1,e2⟩
theorem zP.app:∀ {ds es:List D} {vs ws:List V},zP L H ds vs->zP L H es ws->zP L H (ds++es) (vs++ws)
 |[],_,_,_,h,t=>by unfold zP at h;subst h;exact t
 |d::ds,_,_,_,h,t=>by
  unfold zP at h;obtain ⟨v,r,rfl,h1,h2⟩:=h;exact .cons h1 (zP.app h2 t)
theorem zP.set (h:Rep L H d v):∀ {ds:List D} {vs:List V} (i:Nat),zP L H ds vs->zP L H (ds.set i d) (vs.set i v)
 |[],_,_,t=>by unfold zP at t;subst t;exact .nil
 |_::_,_,0,t=>by
  unfold zP at t;obtain ⟨v',r,rfl,h1,h2⟩:=t;exact .cons h h2
 |_::_,_,i+1,t=>by
  unfold zP at t;obtain ⟨v',r,rfl,h1,h2⟩:=t;exact .cons h1 (zP.set h i h2)
theorem zP.drop:∀ {ds:List D} {vs:List V} (n:Nat),zP L H ds vs->zP L H (ds.drop n) (vs.drop n)
 |_,_,0,t=>t
 |[],_,n+1,t=>by unfold zP at t;subst t;exact .nil
 |_::_,_,n+1,t=>by
  unfold zP at t;obtain ⟨v',r,rfl,h1,h2⟩:=t;exact zP.drop n h2
theorem zP.take:∀ {ds:List D} {vs:List V} (n:Nat),zP L H ds vs->zP L H (ds.take n) (vs.take n)
 |_,_,0,t=> .nil
 |[],_,n+1,t=>by unfold zP at t;subst t;exact .nil
 |_::_,_,n+1,t=>by
  unfold zP at t;obtain ⟨v',r,rfl,h1,h2⟩:=t;exact .cons h1 (zP.take n h2)
theorem zP.eraseIdx:∀ {ds:List D} {vs:List V} (n:Nat),zP L H ds vs->zP L H (ds.eraseIdx n) (vs.eraseIdx n)
 |[],_,n,t=>by unfold zP at t;subst t;exact .nil
 |_::_,_,0,t=>by
  unfold zP at t;obtain ⟨v',r,rfl,h1,h2⟩:=t;exact h2
 |_::_,_,n+1,t=>by
  unfold zP at t;obtain ⟨v',r,rfl,h1,h2⟩:=t;exact .cons h1 (zP.eraseIdx n h2)
structure Stp (L:List Addr) (H:Hp) (L':List Addr) (H':Hp):Prop where
 pre:∃ N,L'=L++N
 new:∀ a∈L',a∈L\/H a=none
 old:∀ a o,H a=some o->a∉L->H' a=some o
 tup:∀ a xs,H a=some (.tup xs)->H' a=some (.tup xs)
 frz:∀ a o u,H a=some (.frz o u)->H' a=some (.frz o u)
theorem Stp.refl (L:List Addr) (H:Hp):Stp L H L H:=⟨⟨[],by simp⟩,fun _ h=> .inl h,fun _ _ h _=>h,fun _ _ h=>h,fun _ _ _ h=>h⟩
theorem Stp.trans (a:Stp L H L1 H1) (b:Stp L1 H1 L2 H2):Stp L H L2 H2:=by
 obtain ⟨N,rfl⟩:=a.pre;obtain ⟨N',rfl⟩:=b.pre;have back:∀ c,c∉L->H1 c=none->H c=none:=fun c hc h1=>by
  cases q:H c with
  |none=>rfl
  |some o=>rw[a.old c o q hc]at h1;cases h1
 refine ⟨⟨N++N',by simp⟩,fun c hc=>?_,fun c o e hc=>?_,fun c xs e=>b.tup c xs (a.tup c xs e),fun c o u e=>b.frz c o u (a.frz c o u e)⟩
 ·by_cases hL:c∈L
  ·exact .inl hL
  ·rcases b.new c hc with z|z
   ·exact a.new c z
   ·exact .inr (back c hL z)
 ·refine b.old c o (a.old c o e hc) fun z=>?_;rcases a.new c z with q|q
  ·exact hc q
  ·rw[q]at e;cases e
theorem Stp.grow (h:∀ a o,H a=some o->H' a=some o):Stp L H L H':=⟨⟨[],by simp⟩,fun _ h=> .inl h,fun a o e _=>h a o e,fun a _ e=>h a _ e,fun a _ _ e=>h a _ e⟩
theorem Stp.upd (h:H p=none):Stp L H L (upd H p o):=.grow fun a u e=>by rw[zc (zAN e h)];exact e
theorem zB0 {L N:List Addr} {n:Nat} {a:Addr} (h:L[n]?=some a):(L++N)[n]?=some a:=by
 rw[zWF (zWB.mp h).1];exact h
mutual
theorem Rep.stp {L L':List Addr} {H H':Hp} (s:Stp L H L' H'):∀ {d:D} {v:V},Rep L H d v->Rep L' H' d v
 |.non,_,h=>by unfold Rep at h ⊢;exact h
 |.bl _,_,h=>by unfold Rep at h ⊢;exact h
 |.int _,_,h=>by unfold Rep at h ⊢;exact h
 |.str _,_,h=>by unfold Rep at h ⊢;exact h
 |.tup ds,_,h=>by
  unfold Rep at h ⊢;obtain ⟨a,vs,rfl,e,r⟩:=h;exact ⟨a,vs,rfl,s.tup a vs e,zP.stp s r⟩
 |.ref n,_,h=>by
  unfold Rep at h ⊢;obtain ⟨a,rfl,e⟩:=h;obtain ⟨N,rfl⟩:=s.pre;exact ⟨a,rfl,zB0 e⟩
theorem zP.stp (s:Stp L H L' H'):∀ {ds:List D} {vs:List V},zP L H ds vs->zP L' H' ds vs
 |[],_,h=>by unfold zP at h ⊢;exact h
 |d::ds,_,h=>by
  unfold zP at h ⊢;obtain ⟨v,r,rfl,h1,h2⟩:=h;exact ⟨v,r,rfl,Rep.stp s h1,zP.stp s h2⟩
end
def zCM:D->Option Key
 |.int i=>some (.inl i)
 |.str x=>some (.inr x)
 |_=>none
def zGi:List D->Option (List Key)
 |[]=>some []
 |d::r=>match zCM d,zGi r with
  |some k,some ks=>some (k::ks)
  |_,_=>none
def tkD:D->Option (List Key)
 |.tup ds=>zGi ds
 |_=>none
def zAz {κ:Type} (kf:D->Option κ) (L:List Addr) (H:Hp):List (D × D)->List (κ × V)->Prop
 |[],vs=>vs=[]
 |p::r,vs=>∃ k v r',vs=(k,v)::r'/\kf p.1=some k/\Rep L H p.2 v/\zAz kf L H r r'
theorem zAz.stp {κ:Type} {kf:D->Option κ} {L L':List Addr} {H H':Hp} (s:Stp L H L' H'):∀ {ps:List (D × D)} {vs:List (κ × V)},zAz kf L H ps vs->zAz kf L' H' ps vs
 |[],_,h=>h
 |p::r,_,h=>by
  obtain ⟨k,v,r',rfl,e,h1,h2⟩:=h;exact ⟨k,v,r',rfl,e,h1.stp s,zAz.stp s h2⟩
theorem zAz.length {κ:Type} {kf:D->Option κ} {L:List Addr} {H:Hp}:∀ {ps:List (D × D)} {vs:List (κ × V)},zAz kf L H ps vs->vs.length=ps.length
 |[],_,h=>by unfold zAz at h;subst h;rfl
 |p::r,_,h=>by
  obtain ⟨k,v,r',rfl,e,h1,h2⟩:=h;simp[zAz.length h2]
def zG6 (K:PySem.W.Frag) (L:List Addr) (H:Hp) (a:Addr):MO->Prop
 |.lst xs=>∃ vs,H a=some (.lst vs)/\zP L H xs vs
 |.fro xs=>∃ o vs,H a=some (.frz o (.lst vs))/\zP L H xs vs
 |.dict ps=>∃ vs,H a=some (.dK vs)/\zAz zCM L H ps vs
 |.dicT ps=>∃ vs,H a=some (.dT vs)/\zAz tkD L H ps vs
 |.set _=>∃ o u,H a=some (.frz o u)
 |.froT ps=>∃ o vs,H a=some (.frz o (.dT vs))/\zAz tkD L H ps vs
 |.froK ps=>∃ o vs,H a=some (.frz o (.dK vs))/\zAz zCM L H ps vs
theorem zG6.there {K:PySem.W.Frag} {L:List Addr} {H:Hp} {a:Addr} {m:MO} (h:zG6 K L H a m):∃ o,H a=some o:=by
 cases m with
 |lst xs=>obtain ⟨vs,e,_⟩:=h;exact ⟨_,e⟩
 |fro xs=>obtain ⟨o,vs,e,_⟩:=h;exact ⟨_,e⟩
 |dict ps=>obtain ⟨vs,e,_⟩:=h;exact ⟨_,e⟩
 |dicT ps=>obtain ⟨vs,e,_⟩:=h;exact ⟨_,e⟩
 |set _=>obtain ⟨o,u,e⟩:=h;exact ⟨_,e⟩
 |froT ps=>obtain ⟨o,vs,e,_⟩:=h;exact ⟨_,e⟩
 |froK ps=>obtain ⟨o,vs,e,_⟩:=h;exact ⟨_,e⟩
theorem zG6.stp {K:PySem.W.Frag} {L L':List Addr} {H H':Hp} {a:Addr} {m:MO} (s:Stp L H L' H') (hk:∀ o,H a=some o->H' a=some o) (h:zG6 K L H a m):zG6 K L' H' a m:=by
 cases m with
 |lst xs=>obtain ⟨vs,e,r⟩:=h;exact ⟨vs,hk _ e,r.stp s⟩
 |fro xs=>obtain ⟨o,vs,e,r⟩:=h;exact ⟨o,vs,hk _ e,r.stp s⟩
 |dict ps=>obtain ⟨vs,e,r⟩:=h;exact ⟨vs,hk _ e,r.stp s⟩
 |dicT ps=>obtain ⟨vs,e,r⟩:=h;exact ⟨vs,hk _ e,r.stp s⟩
 |set _=>obtain ⟨o,u,e⟩:=h;exact ⟨o,u,hk _ e⟩
 |froT ps=>obtain ⟨o,vs,e,r⟩:=h;exact ⟨o,vs,hk _ e,r.stp s⟩
 |froK ps=>obtain ⟨o,vs,e,r⟩:=h;exact ⟨o,vs,hk _ e,r.stp s⟩
structure Cor (K:PySem.W.Frag) (L:List Addr) (M:List MO) (H:Hp):Prop where
 len:L.length=M.length
 nd:L.Nodup
 obj:∀ (n:Nat) a m,L[n]?=some a->M[n]?=some m->zG6 K L H a m
def zBZ (L:List Addr) (H:Hp) (σ:List (Option D)) (τ:Sv):Prop:=τ.length=σ.length /\ ∀ (i:Nat) d,σ[i]?=some (some d) -> ∃ v,τ[i]?=some (some v)/\Rep L H d v
theorem zBZ.stp (s:Stp L H L' H') (h:zBZ L H σ τ):zBZ L' H' σ τ :=
 ⟨h.1,fun i d e=>let ⟨v,e1,r⟩:=h.2 i d e;⟨v,e1,r.stp s⟩⟩
theorem Cor.tracked {K:PySem.W.Frag} {L:List Addr} {M:List MO} {H:Hp} (c:Cor K L M H) {a:Addr} (h:a∈L):∃ o,H a=some o:=by
 obtain ⟨n,hn⟩:=List.getElem?_of_mem h;have hl:n<M.length:=by rw[<-c.len];exact (zWB.mp hn).1
 have m:=c.obj n a M[n] hn (zWC hl);exact m.there
theorem Cor.grow {K:PySem.W.Frag} {L:List Addr} {M:List MO} {H H':Hp} (c:Cor K L M H) (h:∀ a o,H a=some o->H' a=some o):Cor K L M H':=by
 exact ⟨c.len,c.nd,fun n a m e1 e2=>(c.obj n a m e1 e2).stp (.grow h) fun o e=>h a o e⟩
theorem Cor.upd {K:PySem.W.Frag} {L:List Addr} {M:List MO} {H:Hp} {p:Addr} {o:HO} (c:Cor K L M H) (h:H p=none):Cor K L M (upd H p o):=c.grow fun a u e=>by rw[zc (zAN e h)];exact e
theorem Cor.write {K:PySem.W.Frag} {L:List Addr} {M:List MO} {H:Hp} {n:Nat} {p:Addr} {xs xs':List D} {vs':List V} (c:Cor K L M H) (h1:L[n]?=some p) (h2:M[n]?=some (.lst xs)) (r:zP L H xs' vs') :
  Cor K L (M.set n (.lst xs')) (L2.upd H p (.lst vs'))/\Stp L H L (L2.upd H p (.lst vs')):=by
 obtain ⟨vs,hp,_⟩:=c.obj n p _ h1 h2;have st:Stp L H L (L2.upd H p (.lst vs')):=by
  refine ⟨⟨[],by simp⟩,fun a ha=> .inl ha,fun a o e ha=>?_,fun a o e=>?_,fun a o u e=>?_⟩
  ·rw[zc (show a≠p from fun z=>ha (by rw[z];exact zWz h1))];exact e
  ·rw[zc (zH9 e hp (by intro z;cases z))];exact e
  ·rw[zc (zH9 e hp (by intro z;cases z))];exact e
 refine ⟨⟨by simp[c.len],c.nd,fun k a m e1 e2=>?_⟩,st⟩;rw[zXh]at e2;split at e2
 ·rename_i hk;subst hk;rw[h1]at e1;cases e1;split at e2
  ·cases e2;exact ⟨vs',zAK,r.stp st⟩
  ·cases e2
 ·rename_i hk;have hne:a≠p:=fun z=>hk (by
   subst z;exact (List.getElem?_inj (zWB.mp h1).1 c.nd).mp (h1.trans e1.symm))
  exact (c.obj k a m e1 e2).stp st fun o e=>by rw[zc hne];exact e
set_option genInjectivity true in
inductive EV where
 |dat (d:D)|fl (xs:List D)
def zg (H0:Hp) (L:List Addr) (H:Hp):EV->V->Prop
 |.dat d,v=>Rep L H d v
 |.fl xs,v=>∃ p vs,v=.ref p/\H0 p=none/\H p=some (.lst vs)/\p∉L/\zP L H xs vs
abbrev Sd:=List (Option D)
abbrev Mem:=List MO
abbrev FE:=Sd->Mem->Option (EV × Mem)
abbrev FD:=Sd->Mem->Option (D × Mem)
abbrev FT:=Sd->Mem->Option (Bool × Mem)
abbrev FA:=Sd->Mem->Option (List D × Mem)
theorem Stp.out (s:Stp L H L' H') (h:H p=some o) (hp:p∉L):p∉L':=fun z=>by
 rcases s.new p z with q|q
 ·exact hp q
 ·rw[h]at q;cases q
theorem zg.stp (s:Stp L H L' H') (h:zg H0 L H e v):zg H0 L' H' e v:=by
 cases e with
 |dat d=>exact Rep.stp s h
 |fl xs=>
  obtain ⟨p,vs,rfl,e0,e1,e2,r⟩:=h;exact ⟨p,vs,rfl,e0,s.old p _ e1 e2,s.out e1 e2,r.stp s⟩
theorem zg.back {H0 H1:Hp} {L0 L1 L:List Addr} {H:Hp} (s:Stp L0 H0 L1 H1) {M:List MO} {K:PySem.W.Frag} (c:Cor K L0 M H0) {e:EV} {v:V} (h:zg H1 L H e v) (hL:∀ a∈L1,a∈L):zg H0 L H e v:=by
 cases e with
 |dat d=>exact h
 |fl xs=>
  obtain ⟨p,vs,rfl,e0,e1,e2,r⟩:=h;refine ⟨p,vs,rfl,?_,e1,e2,r⟩;cases q:H0 p with
  |none=>rfl
  |some o=>
   by_cases hp:p∈L0
   ·obtain ⟨N,hN⟩:=s.pre;exact absurd (hL p (by rw[hN];exact zXN _ hp)) e2
   ·rw[s.old p o q hp]at e0;cases e0
section
variable (K:PySem.W.Frag)
def trE (f:FE):TE:=fun τ H Q=>∃ L σ M d M',Cor K L M H/\zBZ L H σ τ/\f σ M=some (d,M') /\ ∀ L' H' v,Stp L H L' H'->Cor K L' M' H'->zg H L' H' d v->Q v H'
def trD (f:FD):TE:=fun τ H Q=>∃ L σ M d M',Cor K L M H/\zBZ L H σ τ/\f σ M=some (d,M') /\ ∀ L' H' v,Stp L H L' H'->Cor K L' M' H'->Rep L' H' d v->Q v H'
def trT (f:FT):TT:=fun τ H Q=>∃ L σ M d M',Cor K L M H/\zBZ L H σ τ/\f σ M=some (d,M') /\ ∀ L' H',Stp L H L' H'->Cor K L' M' H'->Q d H'
def trA (f:FA):TA:=fun τ H Q=>∃ L σ M ds M',Cor K L M H/\zBZ L H σ τ/\f σ M=some (ds,M') /\ ∀ L' H' vs,Stp L H L' H'->Cor K L' M' H'->zP L' H' ds vs->Q vs H'
end
section
variable {X:Cx} {e:Expr}
theorem PE.imp (h:PE X e t) (hi:∀ τ H Q,t' τ H Q->t τ H Q):PE X e t':=fun zB s σ H Q I q=>h zB s σ H Q I (hi _ _ _ q)
theorem PT.imp (h:PT X e t) (hi:∀ τ H Q,t' τ H Q->t τ H Q):PT X e t':=fun zB s σ H Q I q=>h zB s σ H Q I (hi _ _ _ q)
theorem PS.imp {st:Stmt} {t t':TS} (h:PS X st t) (hi:∀ D τ H,t' D τ H->t D τ H):PS X st t':=fun zB s σ H D I q=>h zB s σ H D I (hi _ _ _ q)
theorem PSs.imp {st:List Stmt} {t t':TS} (h:PSs X st t) (hi:∀ D τ H,t' D τ H->t D τ H):PSs X st t':=fun zB s σ H D I q=>h zB s σ H D I (hi _ _ _ q)
structure QE (X:Cx) (e:Expr) (f:FE):Prop where
 un:PE X e (trE X.K f)
structure QD (X:Cx) (e:Expr) (f:FD):Prop where
 un:PE X e (trD X.K f)
structure QT (X:Cx) (e:Expr) (f:FT):Prop where
 un:PT X e (trT X.K f)
structure QA (X:Cx) (es:List Expr) (f:FA):Prop where
 un:PA X es (trA X.K f)
def toD (f:FE):FD:=fun σ M=>match f σ M with
 |some (.dat d,M')=>some (d,M')
 |some (.fl xs,M')=>some (.ref M'.length,M'++[.lst xs])
 |none=>none
mutual
theorem Rep.more (N:List Addr):∀ {d:D} {v:V},Rep L H d v->Rep (L++N) H d v
 |.non,_,h=>by unfold Rep at h ⊢;exact h
 |.bl _,_,h=>by unfold Rep at h ⊢;exact h
 |.int _,_,h=>by unfold Rep at h ⊢;exact h
 |.str _,_,h=>by unfold Rep at h ⊢;exact h
 |.tup ds,_,h=>by
  unfold Rep at h ⊢;obtain ⟨a,vs,rfl,e,r⟩:=h;exact ⟨a,vs,rfl,e,zP.more N r⟩
 |.ref n,_,h=>by
  unfold Rep at h ⊢;obtain ⟨a,rfl,e⟩:=h;exact ⟨a,rfl,zB0 e⟩
theorem zP.more (N:List Addr):∀ {ds:List D} {vs:List V},zP L H ds vs->zP (L++N) H ds vs
 |[],_,h=>by unfold zP at h ⊢;exact h
 |d::ds,_,h=>by
  unfold zP at h ⊢;obtain ⟨v,r,rfl,h1,h2⟩:=h;exact ⟨v,r,rfl,Rep.more N h1,zP.more N h2⟩
end
theorem zAz.more {κ:Type} {kf:D->Option κ} {L:List Addr} {H:Hp} (N:List Addr):∀ {ps:List (D × D)} {vs:List (κ × V)},zAz kf L H ps vs->zAz kf (L++N) H ps vs
 |[],_,h=>h
 |p::r,_,h=>by
  obtain ⟨k,v,r',rfl,e,h1,h2⟩:=h;exact ⟨k,v,r',rfl,e,h1.more N,zAz.more N h2⟩
theorem zG6.more {K:PySem.W.Frag} {L:List Addr} {H:Hp} {a:Addr} {m:MO} (N:List Addr) (h:zG6 K L H a m):zG6 K (L++N) H a m:=by
 cases m with
 |lst xs=>obtain ⟨vs,e,r⟩:=h;exact ⟨vs,e,r.more N⟩
 |fro xs=>obtain ⟨o,vs,e,r⟩:=h;exact ⟨o,vs,e,r.more N⟩
 |dict ps=>obtain ⟨vs,e,r⟩:=h;exact ⟨vs,e,r.more N⟩
 |dicT ps=>obtain ⟨vs,e,r⟩:=h;exact ⟨vs,e,r.more N⟩
 |set _=>exact h
 |froT ps=>obtain ⟨o,vs,e,r⟩:=h;exact ⟨o,vs,e,r.more N⟩
 |froK ps=>obtain ⟨o,vs,e,r⟩:=h;exact ⟨o,vs,e,r.more N⟩
theorem zSP {K:PySem.W.Frag} {L L':List Addr} {M':List MO} {H H':Hp} {p:Addr} {xs:List D} {vs:List V} (s:Stp L H L' H') (c:Cor K L' M' H') (h0:H p=none) (h1:H' p=some (.lst vs)) (h2:p∉L') (r:zP L' H' xs vs) :
  Cor K (L'++[p]) (M'++[.lst xs]) H'/\Stp L H (L'++[p]) H':=by
 refine ⟨⟨by simp[c.len],?_,fun n a m e1 e2=>?_⟩,?_⟩
 ·rw[zXM];exact ⟨c.nd,by simp,fun a ha b hb z=>by
   have:b=p:=by simpa using hb
   subst this;subst z;exact h2 ha⟩
 ·by_cases hn:n<L'.length
  ·rw[zWF hn]at e1;rw[zWF (by rw[<-c.len];exact hn)]at e2;exact (c.obj n a m e1 e2).more [p]
  ·have hn':n=L'.length:=by
    have:=(zWB.mp e1).1;rw[zWO]at this;simp at this;omega
   subst hn';simp at e1;rw[c.len]at e2;simp at e2;subst e1;subst e2;exact ⟨vs,h1,r.more [p]⟩
 ·obtain ⟨N,hN⟩:=s.pre;refine ⟨⟨N++[p],by rw[hN];simp⟩,fun a ha=>?_,s.old,s.tup,s.frz⟩;rcases zWY.mp ha with z|z
  ·exact s.new a z
  ·have:a=p:=by simpa using z
   subst this;exact .inr h0
theorem Rep.last {L:List Addr} {M:List MO} {H:Hp} {K:PySem.W.Frag} {p:Addr} (c:Cor K L M H):Rep (L++[p]) H (.ref M.length) (.ref p):=by
 unfold Rep;exact ⟨p,rfl,by rw[<-c.len];simp⟩
theorem zBn {f:FE} (h:QE X e f):QD X e (toD f):=.mk <| PE.imp h.un fun τ H Q zz=>by
 obtain ⟨L,σ,M,d,M',c,rs,hf,q⟩:=zz;unfold toD at hf;split at hf
 ·rename_i d' M1 e1;cases hf;exact ⟨L,σ,M,_,_,c,rs,e1,fun L' H' v s c' r=>q L' H' v s c' r⟩
 ·rename_i xs M1 e1;cases hf;refine ⟨L,σ,M,_,_,c,rs,e1,fun L' H' v s c' r=>?_⟩;obtain ⟨p,vs,rfl,e0,e2,e3,r⟩:=r;obtain ⟨c2,s2⟩:=zSP s c' e0 e2 e3 r;exact q _ H' _ s2 c2 (Rep.last c')
 ·cases hf
def zC (i:Nat):FE:=fun σ M=>match σ[i]? with
 |some (some d)=>some (.dat d,M)
 |_=>none
theorem zU5 (h:PE X (.Name x pos) (zTY i)):QE X (.Name x pos) (zC i):=.mk <| PE.imp h fun τ H Q zz=>by
 obtain ⟨L,σ,M,d,M',c,rs,hf,q⟩:=zz;unfold zC at hf;split at hf
 ·rename_i d' e1;cases hf;obtain ⟨v,e2,r⟩:=rs.2 i d' e1;exact ⟨v,e2,q L H v (.refl L H) c r⟩
 ·cases hf
def fC (d:D):FE:=fun _ M=>some (.dat d,M)
theorem zGP (hd:∀ L H,Rep L H d v) (h:PE X e (tC v)):QE X e (fC d):=.mk <| PE.imp h fun τ H Q zz=>by
 obtain ⟨L,σ,M,d',M',c,rs,hf,q⟩:=zz;unfold fC at hf;cases hf;exact q L H v (.refl L H) c (hd L H)
theorem zVL {i j pos}:QE X (.Constant (.int i) j pos) (fC (.int i)):=zGP (fun _ _=>by unfold Rep;rfl) zSm
theorem zVj {b j pos}:QE X (.Constant (.bool b) j pos) (fC (.bl b)):=zGP (fun _ _=>by unfold Rep;rfl) zVT
theorem zVZ {j pos}:QE X (.Constant .none j pos) (fC .non):=zGP (fun _ _=>by unfold Rep;rfl) zSs
theorem zU4 {x j pos}:QE X (.Constant (.str x) j pos) (fC (.str x)):=zGP (fun _ _=>by unfold Rep;rfl) zTV
def zH:FA:=fun _ M=>some ([],M)
def zD (f:FD) (g:FA):FA:=fun σ M=>match f σ M with
 |some (d,M1)=>match g σ M1 with
  |some (ds,M2)=>some (d::ds,M2)
  |none=>none
 |none=>none
theorem PA.imp (h:PA X es t) (hi:∀ τ H Q,t' τ H Q->t τ H Q):PA X es t':=fun pos zB s σ H Q I q=>h pos zB s σ H Q I (hi _ _ _ q)
theorem zTk:QA X [] zH:=.mk <| PA.imp zFp fun τ H Q zz=>by
 obtain ⟨L,σ,M,d,M',c,rs,hf,q⟩:=zz;unfold zH at hf;cases hf;exact q L H [] (.refl L H) c .nil
theorem zSO (h1:QD X e f) (h2:QA X es g) (hs:starEach (e::es) X.env=(false,eval e X.env)::starEach es X.env:=by rfl):QA X (e::es) (zD f g) :=
 .mk <| PA.imp (zEI h1.un h2.un hs) fun τ H Q zz=>by
  obtain ⟨L,σ,M,d,M',c,rs,hf,q⟩:=zz;unfold zD at hf;split at hf
  ·rename_i d1 M1 e1;split at hf
   ·rename_i ds M2 e2;cases hf;refine ⟨L,σ,M,_,_,c,rs,e1,fun L1 H1 v s1 c1 r1=>⟨L1,σ,M1,_,_,c1,rs.stp s1,e2,fun L2 H2 vs s2 c2 r2=>?_⟩⟩;exact q L2 H2 _ (s1.trans s2) c2 (.cons (r1.stp s2) r2)
   ·cases hf
  ·cases hf
def zAr (g:FA):FE:=fun σ M=>match g σ M with
 |some (ds,M1)=>if ds.length<=sizeLine then some (.dat (.tup ds),M1) else none
 |none=>none
def zAw (g:FA):FE:=fun σ M=>match g σ M with
 |some (ds,M1)=>if ds.length<=sizeLine then some (.fl ds,M1) else none
 |none=>none
theorem Rep.newTup (h:H p=none) (r:zP L H ds vs):Rep L (upd H p (.tup vs)) (.tup ds) (.ref p):=by
 unfold Rep;exact ⟨p,vs,rfl,zAK,r.stp (.upd h)⟩
theorem zVY {x1 pos} (h:QA X es g):QE X (.Tuple es x1 pos) (zAr g):=.mk <| PE.imp (zTK h.un) fun τ H Q zz=>by
 obtain ⟨L,σ,M,d,M',c,rs,hf,q⟩:=zz;unfold zAr at hf;split at hf
 ·rename_i ds M1 e1;split at hf
  ·rename_i hz;cases hf;refine ⟨L,σ,M,_,_,c,rs,e1,fun L1 H1 vs s1 c1 r1=>⟨by rw[r1.length];exact hz,fun p hp=>?_⟩⟩;exact q L1 _ _ (s1.trans (.upd hp)) (c1.upd hp) (Rep.newTup hp r1)
  ·cases hf
 ·cases hf
theorem zOS {L L1:List Addr} {H H1:Hp} {K:PySem.W.Frag} {M M1:List MO} (s:Stp L H L1 H1) (c:Cor K L M H) (c1:Cor K L1 M1 H1) {p:Addr} (hp:H1 p=none):H p=none/\p∉L1:=by
 have hp1:p∉L1:=fun z=>by obtain ⟨o,e⟩:=c1.tracked z;rw[hp]at e;cases e
 refine ⟨?_,hp1⟩;cases q:H p with
 |none=>rfl
 |some o=>
  have:p∉L:=fun z=>hp1 (by obtain ⟨N,hN⟩:=s.pre;rw[hN];exact zXN _ z);rw[s.old p o q this]at hp;cases hp
theorem zg.newLst {L L1:List Addr} {H H1:Hp} {K:PySem.W.Frag} {M M1:List MO} {p:Addr} {ds:List D} {vs:List V} (s:Stp L H L1 H1) (c:Cor K L M H) (c1:Cor K L1 M1 H1) (hp:H1 p=none) (r:zP L1 H1 ds vs) :
  zg H L1 (upd H1 p (.lst vs)) (.fl ds) (.ref p):=by
 obtain ⟨a,b⟩:=zOS s c c1 hp;exact ⟨p,vs,rfl,a,zAK,b,r.stp (.upd hp)⟩
theorem zVS {pos} (h:QA X es g):QE X (.List es pos) (zAw g):=.mk <| PE.imp (zTa h.un) fun τ H Q zz=>by
 obtain ⟨L,σ,M,d,M',c,rs,hf,q⟩:=zz;unfold zAw at hf;split at hf
 ·rename_i ds M1 e1;split at hf
  ·rename_i hz;cases hf;refine ⟨L,σ,M,_,_,c,rs,e1,fun L1 H1 vs s1 c1 r1=>⟨by rw[r1.length];exact hz,fun p hp=>?_⟩⟩;exact q L1 _ _ (s1.trans (.upd hp)) (c1.upd hp) (zg.newLst s1 c c1 hp r1)
  ·cases hf
 ·cases hf
end
abbrev FAE:=Sd->Mem->Option (List EV × Mem)
def zCs (H0:Hp) (L:List Addr) (H:Hp):List EV->List V->Prop
 |[],vs=>vs=[]
 |e::es,vs=>∃ v r,vs=v::r/\zg H0 L H e v/\zCs H0 L H es r
theorem Stp.sub (s:Stp L H L' H'):∀ a∈L,a∈L':=fun a h=>by
 obtain ⟨N,hN⟩:=s.pre;rw[hN];exact zXN _ h
theorem zCs.back {H0 H1:Hp} {L0 L1 L:List Addr} {H:Hp} (s:Stp L0 H0 L1 H1) {M:List MO} {K:PySem.W.Frag} (c:Cor K L0 M H0) (hL:∀ a∈L1,a∈L):∀ {es:List EV} {vs:List V},zCs H1 L H es vs->zCs H0 L H es vs
 |[],_,h=>h
 |e::es,_,h=>by
  obtain ⟨v,r,rfl,h1,h2⟩:=h;exact ⟨v,r,rfl,h1.back s c hL,zCs.back s c hL h2⟩
def zVO (K:PySem.W.Frag) (f:FAE):TA:=fun τ H Q=>∃ L σ M ds M',Cor K L M H/\zBZ L H σ τ/\f σ M=some (ds,M') /\ ∀ L' H' vs,Stp L H L' H'->Cor K L' M' H'->zCs H L' H' ds vs->Q vs H'
structure QAE (X:Cx) (es:List Expr) (f:FAE):Prop where
 un:PA X es (zVO X.K f)
section
variable {X:Cx} {a b e:Expr} {es:List Expr} {pos:Pos}
def zo:FAE:=fun _ M=>some ([],M)
def zU (f:FE) (g:FAE):FAE:=fun σ M=>match f σ M with
 |some (d,M1)=>match g σ M1 with
  |some (ds,M2)=>some (d::ds,M2)
  |none=>none
 |none=>none
theorem zTZ:QAE X [] zo:=.mk <| PA.imp zFp fun τ H Q zz=>by
 obtain ⟨L,σ,M,d,M',c,rs,hf,q⟩:=zz;unfold zo at hf;cases hf;exact q L H [] (.refl L H) c rfl
theorem zRa (h1:QE X e f) (h2:QAE X es g) (hs:starEach (e::es) X.env=(false,eval e X.env)::starEach es X.env:=by rfl):QAE X (e::es) (zU f g) :=
 .mk <| PA.imp (zEI h1.un h2.un hs) fun τ H Q zz=>by
  obtain ⟨L,σ,M,d,M',c,rs,hf,q⟩:=zz;unfold zU at hf;split at hf
  ·rename_i d1 M1 e1;split at hf
   ·rename_i ds M2 e2;cases hf;refine ⟨L,σ,M,_,_,c,rs,e1,fun L1 H1 v s1 c1 r1=>⟨L1,σ,M1,_,_,c1,rs.stp s1,e2,fun L2 H2 vs s2 c2 r2=>?_⟩⟩;exact q L2 H2 _ (s1.trans s2) c2 ⟨v,vs,rfl,r1.stp s2,r2.back s1 c s2.sub⟩
   ·cases hf
  ·cases hf
abbrev K2:=EV->EV->Mem->Option (EV × Mem)
def zCV (K:PySem.W.Frag) (r:R2) (k:K2):Prop:=∀ {L:List Addr} {M M':Mem} {H H0:Hp} {x y d:EV} {v w:V} {Q:VK},Cor K L M H->zg H0 L H x v->zg H0 L H y w->k x y M=some (d,M') ->
 (∀ L' H' u,Stp L H L' H'->Cor K L' M' H'->zg H L' H' d u->Q u H')->r v w H Q
def fOp (k:K2) (f g:FE):FE:=fun σ M=>match f σ M with
 |some (x,M1)=>match g σ M1 with
  |some (y,M2)=>k x y M2
  |none=>none
 |none=>none
theorem zDK {K:PySem.W.Frag} {r:R2} {k:K2} {f g:FE} (hk:zCV K r k) {τ:Sv} {H:Hp} {Q:VK} (h:trE K (fOp k f g) τ H Q):tOp r (trE K f) (trE K g) τ H Q:=by
 obtain ⟨L,σ,M,d,M',c,rs,hf,q⟩:=h;unfold fOp at hf;split at hf
 ·rename_i x M1 e1;split at hf
  ·rename_i y M2 e2;refine ⟨L,σ,M,_,_,c,rs,e1,fun L1 H1 v s1 c1 r1=>⟨L1,σ,M1,_,_,c1,rs.stp s1,e2,fun L2 H2 w s2 c2 r2=>?_⟩⟩;refine hk (H0:=H) c2 (r1.stp s2) (r2.back s1 c s2.sub) hf fun L3 H3 u s3 c3 r3=>?_;exact q L3 H3 u ((s1.trans s2).trans s3) c3 (r3.back (s1.trans s2) c s3.sub)
  ·cases hf
 ·cases hf
theorem zKs (hk:zCV X.K r k) (ho:OpR X (binaryOp op) r) (h1:QE X a f) (h2:QE X b g):QE X (.BinOp a op b pos) (fOp k f g):=.mk <| PE.imp (zUy ho h1.un h2.un) fun _ _ _ h=>zDK hk h
theorem zUN (hk:zCV X.K r k) (ho:OpR X (compareOp op) r) (h1:QE X a f) (h2:QE X b g) (hm:behindInMarks op b=false):QE X (.Compare a [op] [b] pos) (fOp k f g) :=
 .mk <| PE.imp (zRV ho h1.un h2.un hm) fun _ _ _ h=>zDK hk h
def tst (f:FE):FT:=fun σ M=>match f σ M with
 |some (.dat (.bl c),M')=>some (c,M')
 |_=>none
theorem zEL {K:PySem.W.Frag} {f:FE} {τ:Sv} {H:Hp} {Q:Bool->Hp->Prop} (h:trT K (tst f) τ H Q):zM1 (trE K f) τ H Q:=by
 obtain ⟨L,σ,M,d,M',c,rs,hf,q⟩:=h;unfold tst at hf;split at hf
 ·rename_i k M1 e1;cases hf;refine ⟨L,σ,M,_,_,c,rs,e1,fun L1 H1 v s1 c1 r1=>?_⟩;have:v=.bl d:=by unfold zg Rep at r1;exact r1
  exact ⟨d,this,q L1 H1 s1 c1⟩
 ·cases hf
theorem zEj (h:∀ τ H Q,t τ H Q->t' τ H Q) (q:zM1 t τ H Q):zM1 t' τ H Q:=h _ _ _ q
theorem zCg {op:CmpOp} {r:R2} {k:K2} {f g:FE} (hk:zCV X.K r k) (ho:OpR X (compareOp op) r) (h1:QE X a f) (h2:QE X b g) (hm:behindInMarks op b=false):QT X (.Compare a [op] [b] pos) (tst (fOp k f g)) :=
 .mk <| PT.imp (zRl ho h1.un h2.un hm) fun _ _ _ h=>zEj (fun _ _ _ z=>zDK hk z) (zEL h)
theorem zSe (h:QE X e f) (he:∀ whole,isTrue e X.env whole=(do let v <- whole;standAt e.pos;holding [v] (truthy v)):=by intro _;rfl):QT X e (tst f) :=
 .mk <| PT.imp (zSz h.un he) fun _ _ _ h=>zEL h
def kI (C:Int->Int->Bool) (g:Int->Int->D):K2:=fun x y M=>match x,y with
 |.dat (.int i),.dat (.int j)=>if C i j then some (.dat (g i j),M) else none
 |_,_=>none
def kI0 (g:Int->Int->D):K2:=kI (fun _ _=>true) g
theorem zKi {K:PySem.W.Frag} {C:Int->Int->Bool} {C':Int->Int->Prop} {g:Int->Int->D} {g':Int->Int->V} (hC:∀ i j,C i j=true->C' i j) (hg:∀ L H i j,Rep L H (g i j) (g' i j)):zCV K (rI C' g') (kI C g):=by
 intro L M M' H H0 x y d v w Q c rx ry hk q;unfold kI at hk;split at hk
 ·rename_i i j;split at hk
  ·rename_i hc;cases hk;refine ⟨i,j,by unfold zg Rep at rx;exact rx,by unfold zg Rep at ry;exact ry,hC i j hc,q L H _ (.refl L H) c (hg L H i j)⟩
  ·cases hk
 ·cases hk
theorem zFY {K:PySem.W.Frag} {g:Int->Int->D} {g':Int->Int->V} (hg:∀ L H i j,Rep L H (g i j) (g' i j)):zCV K (rI0 g') (kI0 g):=by
 intro L M M' H H0 x y d v w Q c rx ry hk q;obtain ⟨i,j,h1,h2,_,h4⟩:=zKi (C:=fun _ _=>true) (C':=fun _ _=>True) (fun _ _ _=>trivial) hg c rx ry hk q;exact ⟨i,j,h1,h2,h4⟩
theorem zAk:Rep L H (.int i) (.int i):=by unfold Rep;rfl
theorem zBk:Rep L H (.bl i) (.bl i):=by unfold Rep;rfl
def zOW (i j:Int):Bool:=(decide (-(2 ^ 64)<i)&&decide (i<2 ^ 64))||(decide (-(2 ^ 64)<j)&&decide (j<2 ^ 64))
abbrev zVo:K2:=kI0 fun i j=> .int (i+j)
abbrev zHz:K2:=kI0 fun i j=> .int (i-j)
abbrev zMV:K2:=kI zOW fun i j=> .int (i*j)
abbrev zDI:K2:=kI (fun _ j=>decide (0<j)) fun i j=> .int (i % j)
abbrev zLj:K2:=kI (fun _ j=>decide (0<j)&&decide (j<1073741824)) fun i j=> .int (i / j)
abbrev zOm:K2:=kI (fun i j=>decide (0<=j)&&decide (j<=1000000)&&decide (i.natAbs<2 ^ 64)) fun i j=> .int (i ^ j.toNat)
abbrev kLt:K2:=kI0 fun i j=> .bl (decide (i<j))
abbrev kLe:K2:=kI0 fun i j=> .bl (decide (i<=j))
abbrev kGt:K2:=kI0 fun i j=> .bl (decide (j<i))
abbrev kGe:K2:=kI0 fun i j=> .bl (decide (j<=i))
section
variable {f g:FE}
theorem zUv (h1:QE X a f) (h2:QE X b g):QE X (.BinOp a .Sub b pos) (fOp zHz f g):=zKs (zFY fun _ _ _ _=>zAk) zTD h1 h2
theorem zVM (h1:QE X a f) (h2:QE X b g):QE X (.BinOp a .Mult b pos) (fOp zMV f g):=zKs (zKi (fun i j h=>by
 unfold zOW at h;simp only[Bool.or_eq_true,zWi,zXL]at h;exact h) fun _ _ _ _=>zAk) zSq h1 h2
theorem zVF (h1:QE X a f) (h2:QE X b g):QE X (.BinOp a .Mod b pos) (fOp zDI f g):=zKs (zKi (fun i j h=>zW4 h) fun _ _ _ _=>zAk) zTl h1 h2
theorem zUg (h1:QE X a f) (h2:QE X b g):QE X (.BinOp a .FloorDiv b pos) (fOp zLj f g):=zKs (zKi (fun i j h=>by
 simp only[zWi,zXL]at h;exact h) fun _ _ _ _=>zAk) zQ2 h1 h2
theorem zVW (h1:QE X a f) (h2:QE X b g):QE X (.BinOp a .Pow b pos) (fOp zOm f g):=zKs (zKi (fun i j h=>by
 simp only[zWi,zXL]at h;exact ⟨h.1.1,h.1.2,h.2⟩) fun _ _ _ _=>zAk) zSv h1 h2
theorem zUq (h1:QE X a f) (h2:QE X b g):QT X (.Compare a [.Lt] [b] pos) (tst (fOp kLt f g)):=zCg (zFY fun _ _ _ _=>zBk) zU7 h1 h2 (zDO _)
theorem zU1 (h1:QE X a f) (h2:QE X b g):QT X (.Compare a [.LtE] [b] pos) (tst (fOp kLe f g)):=zCg (zFY fun _ _ _ _=>zBk) zU6 h1 h2 (zDO _)
theorem zVR (h1:QE X a f) (h2:QE X b g):QT X (.Compare a [.Gt] [b] pos) (tst (fOp kGt f g)):=zCg (zFY fun _ _ _ _=>zBk) zVB h1 h2 (zDO _)
theorem zVE (h1:QE X a f) (h2:QE X b g):QT X (.Compare a [.GtE] [b] pos) (tst (fOp kGe f g)):=zCg (zFY fun _ _ _ _=>zBk) zUS h1 h2 (zDO _)
end
end
def zBW (M:Mem):EV->Option (List D)
 |.fl xs=>some xs
 |.dat (.ref n)=>match M[n]? with
  |some (.lst xs)=>some xs
  |some (.fro xs)=>some xs
  |_=>none
 |_=>none
def zBc:EV->Option (List D)
 |.dat (.tup xs)=>some xs
 |_=>none
def zAF (M:Mem) (x:EV):Option (List D):=match zBc x with
 |some xs=>some xs
 |none=>zBW M x
theorem zA6 {K:PySem.W.Frag} {L:List Addr} {M:Mem} {H H0:Hp} {x:EV} {v:V} {xs:List D} (c:Cor K L M H) (r:zg H0 L H x v) (h:zBW M x=some xs):∃ a vs,v=.ref a/\Rd H a (.lst vs)/\zP L H xs vs:=by
 cases x with
 |fl ys=>
  cases h;obtain ⟨p,vs,rfl,_,e,_,r⟩:=r;exact ⟨p,vs,rfl,.inl e,r⟩
 |dat d=>
  cases d with
  |ref n=>
   unfold zg Rep at r;obtain ⟨a,rfl,e⟩:=r;unfold zBW at h;dsimp only at h;cases q:M[n]? with
   |none=>rw[q]at h;cases h
   |some m=>
    rw[q]at h;have z:=c.obj n a m e q;cases m with
    |lst ys=>cases h;obtain ⟨vs,e1,r1⟩:=z;exact ⟨a,vs,rfl,.inl e1,r1⟩
    |fro ys=>cases h;obtain ⟨o,vs,e1,r1⟩:=z;exact ⟨a,vs,rfl,.inr ⟨o,e1⟩,r1⟩
    |dict _=>cases h
    |dicT _=>cases h
    |set _=>cases h
    |froT _=>cases h
    |froK _=>cases h
  |_=>cases h
theorem zBS {L:List Addr} {H H0:Hp} {x:EV} {v:V} {xs:List D} (r:zg H0 L H x v) (h:zBc x=some xs):∃ a vs,v=.ref a/\H a=some (.tup vs)/\zP L H xs vs:=by
 cases x with
 |fl ys=>cases h
 |dat d=>
  cases d with
  |tup ys=>cases h;unfold zg Rep at r;exact r
  |_=>cases h
theorem zEy {K:PySem.W.Frag} {L:List Addr} {M:Mem} {H H0:Hp} {x:EV} {v:V} {xs:List D} (c:Cor K L M H) (r:zg H0 L H x v) (h:zAF M x=some xs):∃ a vs,v=.ref a/\(SqL K H a vs\/SqT K H a vs)/\zP L H xs vs:=by
 unfold zAF at h;cases q:zBc x with
 |some ys=>
  rw[q]at h;cases h;obtain ⟨a,vs,e,h1,h2⟩:=zBS r q;exact ⟨a,vs,e,.inr (.of h1),h2⟩
 |none=>
  rw[q]at h;obtain ⟨a,vs,e,h1,h2⟩:=zA6 c r h;exact ⟨a,vs,e,.inl (.inl h1),h2⟩
theorem zUD {L:List Addr} {H:Hp} {xs:List D} {vs:List V} {i:Int} {d:D} (r:zP L H xs vs) (h:atI xs i=some d):∃ v,atI vs i=some v/\Rep L H d v:=by
 unfold atI at h ⊢;rw[r.length];cases q:ixN xs.length i with
 |none=>rw[q]at h;cases h
 |some j=>rw[q]at h;exact r.get h
theorem zSF {L:List Addr} {H:Hp} {i:Str}:Rep L H (.str i) (.str i):=by unfold Rep;rfl
def kIx:K2:=fun x y M=>match y with
 |.dat (.int i)=>match zAF M x with
  |some xs=>match atI xs i with
   |some d=>some (.dat d,M)
   |none=>none
  |none=>match x with
   |.dat (.str z)=>if z.length<=sizeLine then match atI z.cps.toList i with
     |some c=>some (.dat (.str ⟨#[c]⟩),M)
     |none=>none
    else none
   |_=>none
 |_=>none
theorem zTP {K:PySem.W.Frag}:zCV K (rIx K) kIx:=by
 intro L M M' H H0 x y d v w Q c rx ry hk q;unfold kIx at hk;split at hk
 ·rename_i i;have ew:w=.int i:=by unfold zg Rep at ry;exact ry
  split at hk
  ·rename_i xs e1;split at hk
   ·rename_i d' e2;cases hk;obtain ⟨a,vs,rfl,hs,r⟩:=zEy c rx e1;obtain ⟨u,e3,r3⟩:=zUD r e2;rcases hs with hs|hs
    ·exact .inl ⟨a,vs,i,u,rfl,ew,hs,e3,q L H u (.refl L H) c r3⟩
    ·exact .inr (.inl ⟨a,vs,i,u,rfl,ew,hs,e3,q L H u (.refl L H) c r3⟩)
   ·cases hk
  ·split at hk
   ·rename_i z _;split at hk
    ·rename_i hz;split at hk
     ·rename_i ch e2;cases hk;have ev:v=.str z:=by unfold zg Rep at rx;exact rx
      exact .inr (.inr ⟨z,i,ch,ev,ew,hz,e2,q L H _ (.refl L H) c (zSF (L:=L) (H:=H))⟩)
     ·cases hk
    ·cases hk
   ·cases hk
 ·cases hk
section
variable {prog:Program} {w:World} {A:Around} {E:Value->Shared->Prop} {s:Shared}
theorem zLt {t sl:Addr} {items:Array Value} {vl vu:Value} {lo hi:Option Int} {Q:Value->Shared->Prop} (T:IsTup s.heap t items) (S:s.heap.IsSliceOf sl vl vu .none) (pl:IsPart vl lo) (pu:IsPart vu hi)
  (h1:HT.sIx items.size 0 lo=0) (h2:HT.sIx items.size items.size hi=items.size) (h:Q (.ref t) s):wpAny (model prog w) A (getItem (.ref t) (.ref sl)) Q E s:=by
 obtain ⟨o,O,C,G⟩:=id S;have TS:s.TypeIs (.ref sl) "slice" := ⟨o,O,C⟩;unfold getItem;try with_reducible refine zW1 ?_
 first|refine zV8 (zWA ?_)|skip
 refine zV8 (wpAny_sequenceKey T.typeIs (by decide) ?_);refine zV8 (zWk (name:=Str.ofString "__getitem__") T.typeIs zXg (zWl zXg T.typeIs entry_tuple_getitem ?_ (args_tuple_getitem _ _)));refine zV8 (m:=Builtin.Tuple.tupleItemsOf (.ref t)) (tupleItemsOf_ T (zV8 (wpAny_typeOf TS ?_)));rw[zWN (by decide)];refine zV8 (HT.zDC S pl pu ?_);rw[h1,h2];show wpAny _ _ (if ((((0:Nat):Int)==0&&(1:Int)==1&&(items.size-0)==items.size))=true then _ else _) _ _ s;rw[zWN (by simp)];unfold Builtin.Tuple.tupleIsExact;refine zV8 (zV8 (wpAny_typeOf T.typeIs (zWA ?_)));rw[zWN (by decide)];exact zV8 (zXV (zWA ⟨_,rfl,zWA h⟩))
end
def zVq (K:PySem.W.Frag):V->Option Int->Option Int->Hp->VK->Prop:=fun x lo hi H Q=>∃ a xs,x=.ref a/\SqT K H a xs/\(HT.sIx xs.length 0 lo=0/\HT.sIx xs.length xs.length hi=xs.length)/\Q (.ref a) H
theorem zRJ {X:Cx}:SlR X (zVq X.K):=by
 intro zB s σ H x v vl vu lo hi sl Q I rx hs pl pu h;obtain ⟨a,xs,rfl,hx,hw,q⟩:=h;cases rx;obtain ⟨its,r,ht,hz⟩:=I.tuple hx;have hlen:its.toArray.size=xs.length:=by rw[zWG];exact r.length.symm
 exact ⟨"tuple", _,zXg.lookup,ht.typeIs,zLt ht hs pl pu (by rw[hlen];exact hw.1) (by rw[hlen];exact hw.2) ⟨.ref a,H,I,rfl,q⟩⟩
section
variable {X:Cx} {a b e:Expr} {es:List Expr} {pos:Pos} {f g:FE}
theorem zV6 (h1:QE X a f) (h2:QE X b g) (hs:zM9 b:=by intro _ _;rfl):QE X (.Subscript a b pos) (fOp kIx f g):=.mk <| PE.imp (zUH zTX h1.un h2.un hs) fun _ _ _ h=>zDK zTP h
abbrev FO:=Sd->Mem->Option (Option Int × Mem)
def trO (K:PySem.W.Frag) (f:FO):TO:=fun τ H Q=>∃ L σ M d M',Cor K L M H/\zBZ L H σ τ/\f σ M=some (d,M') /\ ∀ L' H',Stp L H L' H'->Cor K L' M' H'->Q d H'
structure QO (X:Cx) (e:Option Expr) (f:FO):Prop where
 un:PO X e (trO X.K f)
def zBm:FO:=fun _ M=>some (none,M)
def zBO (f:FE):FO:=fun σ M=>match f σ M with
 |some (.dat (.int i),M')=>some (some i,M')
 |_=>none
theorem PO.imp {e:Option Expr} {t t':TO} (h:PO X e t) (hi:∀ τ H Q,t' τ H Q->t τ H Q):PO X e t':=fun zB s σ H Q I q=>h zB s σ H Q I (hi _ _ _ q)
theorem zR1:QO X none zBm:=.mk <| PO.imp zSI fun τ H Q zz=>by
 obtain ⟨L,σ,M,d,M',c,rs,hf,q⟩:=zz;unfold zBm at hf;cases hf;exact q L H (.refl L H) c
theorem zRA (h:QE X e f):QO X (some e) (zBO f):=.mk <| PO.imp (zRU h.un) fun τ H Q zz=>by
 obtain ⟨L,σ,M,d,M',c,rs,hf,q⟩:=zz;unfold zBO at hf;split at hf
 ·rename_i i M1 e1;cases hf;refine ⟨L,σ,M,_,_,c,rs,e1,fun L1 H1 v s1 c1 r1=>?_⟩;exact ⟨i,by unfold zg Rep at r1;exact r1,q L1 H1 s1 c1⟩
 ·cases hf
def zDS (xs:List D) (lo hi:Option Int):List D:=(xs.drop (HT.sIx xs.length 0 lo)).take (HT.sIx xs.length xs.length hi-HT.sIx xs.length 0 lo)
theorem zMp {L:List Addr} {H:Hp} {xs:List D} {vs:List V} {lo hi:Option Int} (r:zP L H xs vs):zP L H (zDS xs lo hi) (zKy vs lo hi):=by
 unfold zDS zKy;rw[r.length];exact (r.drop _).take _
def kSl (x:EV) (lo hi:Option Int) (M:Mem):Option (EV × Mem):=match zBc x with
 |some xs=>some (.dat (.tup (zDS xs lo hi)),M)
 |none=>match zBW M x with
  |some xs=>some (.fl (zDS xs lo hi),M)
  |none=>none
def fSl (f:FE) (fl fh:FO):FE:=fun σ M=>match f σ M with
 |some (x,M1)=>match fl σ M1 with
  |some (lo,M2)=>match fh σ M2 with
   |some (hi,M3)=>kSl x lo hi M3
   |none=>none
  |none=>none
 |none=>none
theorem zSK {lo hi:Option Expr} {p2:Pos} {fl fh:FO} (h:QE X e f) (hl:QO X lo fl) (hh:QO X hi fh):QE X (.Subscript e (.Slice lo hi none p2) pos) (fSl f fl fh) :=
 .mk <| PE.imp (zP7 (SlR.or zRL (SlR.or zTn zRJ)) h.un hl.un hh.un) fun τ H Q zz=>by
  obtain ⟨L,σ,M,d,M',c,rs,hf,q⟩:=zz;unfold fSl at hf;split at hf
  ·rename_i x M1 e1;split at hf
   ·rename_i l M2 e2;split at hf
    ·rename_i u M3 e3;refine ⟨L,σ,M,_,_,c,rs,e1,fun L1 H1 v s1 c1 r1=>⟨L1,σ,M1,_,_,c1,rs.stp s1,e2,fun L2 H2 s2 c2=>⟨L2,σ,M2,_,_,c2,rs.stp (s1.trans s2),e3,fun L3 H3 s3 c3=>?_⟩⟩⟩;have s:=(s1.trans s2).trans s3;have r3:zg H L3 H3 x v:=(r1.stp s2).stp s3;unfold kSl at hf;cases t:zBc x with
     |some xs=>
      rw[t]at hf;cases hf;obtain ⟨a,vs,rfl,e4,r4⟩:=zBS r3 t;by_cases hw:HT.sIx vs.length 0 l=0/\HT.sIx vs.length vs.length u=vs.length
      ·refine .inr (.inr ⟨a,vs,rfl,.of e4,hw,?_⟩);have ec:zDS xs l u=xs:=by
        unfold zDS;rw[<-r4.length,hw.1,hw.2,r4.length];simp
       rw[ec]at q;refine q L3 H3 _ s c3 ?_;unfold zg Rep;exact ⟨a,vs,rfl,e4,r4⟩
      ·refine .inr (.inl ⟨a,vs,rfl,.of e4,hw,fun p hp=>?_⟩);exact q L3 _ _ (s.trans (.upd hp)) (c3.upd hp) (Rep.newTup hp (zMp r4))
     |none=>
      rw[t]at hf;dsimp only at hf;split at hf
      ·rename_i xs e4;cases hf;obtain ⟨a,vs,rfl,e5,r5⟩:=zA6 c3 r3 e4;refine .inl ⟨a,vs,rfl,.inl e5,fun p hp=>?_⟩;exact q L3 _ _ (s.trans (.upd hp)) (c3.upd hp) (zg.newLst s c c3 hp (zMp r5))
      ·cases hf
    ·cases hf
   ·cases hf
  ·cases hf
abbrev KB:=List EV->Mem->Option (EV × Mem)
def zHi (K:PySem.W.Frag) (r:List V->Hp->VK->Prop) (k:KB):Prop:=∀ {L:List Addr} {M M':Mem} {H H0:Hp} {xs:List EV} {d:EV} {vs:List V} {Q:VK},Cor K L M H->zCs H0 L H xs vs->k xs M=some (d,M') ->
 (∀ L' H' u,Stp L H L' H'->Cor K L' M' H'->zg H L' H' d u->Q u H')->r vs H Q
def fB (k:KB) (f:FAE):FE:=fun σ M=>match f σ M with
 |some (xs,M1)=>k xs M1
 |none=>none
theorem zPw {K:PySem.W.Frag} {r:List V->Hp->VK->Prop} {k:KB} {f:FAE} (hk:zHi K r k) {τ:Sv} {H:Hp} {Q:VK} (h:trE K (fB k f) τ H Q):tCB r (zVO K f) τ H Q:=by
 obtain ⟨L,σ,M,d,M',c,rs,hf,q⟩:=h;unfold fB at hf;split at hf
 ·rename_i xs M1 e1;refine ⟨L,σ,M,_,_,c,rs,e1,fun L1 H1 vs s1 c1 r1=>?_⟩;refine hk c1 r1 hf fun L2 H2 u s2 c2 r2=>?_;exact q L2 H2 u (s1.trans s2) c2 (r2.back s1 c s2.sub)
 ·cases hf
theorem zCs.one {H0:Hp} {L:List Addr} {H:Hp} {x:EV} {vs:List V} (h:zCs H0 L H [x] vs):∃ v,vs=[v]/\zg H0 L H x v:=by
 obtain ⟨v,r,rfl,h1,h2⟩:=h;unfold zCs at h2;subst h2;exact ⟨v,rfl,h1⟩
def zBD:KB:=fun xs M=>match xs with
 |[x]=>match zAF M x with
  |some ys=>some (.dat (.int ys.length),M)
  |none=>none
 |_=>none
theorem zSB:zHi X.K (fun xs H Q=>∃ p ys,xs=[.ref p]/\(SqL X.K H p ys\/SqT X.K H p ys)/\Q (.int ys.length) H) zBD:=by
 intro L M M' H H0 xs d vs Q c r hk q;unfold zBD at hk;split at hk
 ·rename_i x;split at hk
  ·rename_i ys e1;cases hk;obtain ⟨v,rfl,r1⟩:=r.one;obtain ⟨a,ws,rfl,hs,r2⟩:=zEy c r1 e1;refine ⟨a,ws,rfl,hs,q L H _ (.refl L H) c ?_⟩;rw[r2.length];exact (zAk (L:=L) (H:=H))
  ·cases hk
 ·cases hk
theorem zE7 {x:Str} {p:Pos} {id:String} {r:List V->Hp->VK->Prop} {k:KB} {f:FAE} (hk:zHi X.K r k) (hc:zCu X (.builtin id) r) (hv:bootBuiltins x=some (.builtin id)) (hg:Gl X x) (hm:X.mg x=none) (ha:QAE X (e::es) f) (hn:x ≠ "__name__" := by decide) (hdb:(x==("__debug__" : Str))=false:=by decide)
  (he:starEach (e::es) X.env=(false,eval e X.env)::starEach es X.env:=by rfl) (hpl:(backTo pos (starEach es X.env)).any (·.1)=false:=by rfl):QE X (.Call (.Name x p) (e::es) [] pos) (fB k f) :=
 .mk <| PE.imp (zOz hc hg hm hv ha.un hn hdb he hpl) fun _ _ _ h=>zPw hk h
theorem zLU {x:Str} {p:Pos} {T:String} {r:List V->Hp->VK->Prop} {k:KB} {f:FAE} (hk:zHi X.K r k) (hc:zCu X (.type T) r) (hv:bootBuiltins x=some (.type T)) (hg:Gl X x) (hm:X.mg x=none) (ha:QAE X (e::es) f) (hn:x ≠ "__name__" := by decide) (hdb:(x==("__debug__" : Str))=false:=by decide)
  (he:starEach (e::es) X.env=(false,eval e X.env)::starEach es X.env:=by rfl) (hpl:(backTo pos (starEach es X.env)).any (·.1)=false:=by rfl):QE X (.Call (.Name x p) (e::es) [] pos) (fB k f) :=
 .mk <| PE.imp (zC4 hc hg hm hv ha.un hn hdb he hpl) fun _ _ _ h=>zPw hk h
def zAo:KB:=fun xs M=>match xs with
 |[x]=>match zAF M x with
  |some ys=>some (.dat (.tup ys),M)
  |none=>none
 |_=>none
theorem zNQ:zHi X.K (fun xs H Q=>∃ p ys,xs=[.ref p]/\((SqL X.K H p ys /\ ∀ l,H l=none->Q (.ref l) (upd H l (.tup ys)))\/(SqT X.K H p ys/\Q (.ref p) H))) zAo:=by
 intro L M M' H H0 xs d vs Q c r hk q;unfold zAo at hk;split at hk
 ·rename_i x;split at hk
  ·rename_i ys e1;cases hk;obtain ⟨v,rfl,r1⟩:=r.one;unfold zAF at e1;cases t:zBc x with
   |some zs=>
    rw[t]at e1;cases e1;obtain ⟨a,ws,rfl,e2,r2⟩:=zBS r1 t;refine ⟨a,ws,rfl,.inr ⟨.of e2,q L H _ (.refl L H) c ?_⟩⟩;unfold zg Rep;exact ⟨a,ws,rfl,e2,r2⟩
   |none=>
    rw[t]at e1;obtain ⟨a,ws,rfl,e2,r2⟩:=zA6 c r1 e1;refine ⟨a,ws,rfl,.inl ⟨.inl e2,fun p hp=>?_⟩⟩;exact q L _ _ (.upd hp) (c.upd hp) (Rep.newTup hp r2)
  ·cases hk
 ·cases hk
end
set_option genInjectivity true in
inductive Out where
 |nx|ret (d:D)|brk|cnt
abbrev FS:=Sd->Mem->Option (Out × Sd × Mem)
def zU9 (E:Ends) (L:List Addr) (H:Hp) (σ:Sd):Out->Prop
 |.nx=>∀ τ,zBZ L H σ τ->E.nx τ H
 |.ret d=>∀ v,Rep L H d v->E.rt v H
 |.brk=>∀ τ,zBZ L H σ τ->E.bk τ H
 |.cnt=>∀ τ,zBZ L H σ τ->E.ct τ H
def trS (K:PySem.W.Frag) (f:FS):TS:=fun E τ H=>∃ L σ M o σ' M',Cor K L M H/\zBZ L H σ τ/\f σ M=some (o,σ',M') /\ ∀ L' H',Stp L H L' H'->Cor K L' M' H'->zU9 E L' H' σ' o
structure QS (X:Cx) (st:Stmt) (f:FS):Prop where
 un:PS X st (trS X.K f)
structure QSs (X:Cx) (st:List Stmt) (f:FS):Prop where
 un:PSs X st (trS X.K f)
theorem zBZ.set (h:zBZ L H σ τ) (r:Rep L H d v):zBZ L H (σ.set i (some d)) (τ.set i (some v)):=by
 refine ⟨by simp[h.1],fun j e q=>?_⟩;rw[zXh]at q ⊢;split at q
 ·rename_i z;subst z;split at q
  ·rename_i hl;cases q;rw[zWN rfl,zWN (by rw[h.1];exact hl)];exact ⟨v,rfl,r⟩
  ·cases q
 ·rename_i z;rw[zWQ z];exact h.2 j e q
theorem zK3 {K:PySem.W.Frag} {f:FE} {τ:Sv} {H:Hp} {Q:VK} (h:trD K (toD f) τ H Q):trE K f τ H Q:=by
 obtain ⟨L,σ,M,d,M',c,rs,hf,q⟩:=h;unfold toD at hf;split at hf
 ·rename_i d' M1 e1;cases hf;exact ⟨L,σ,M,_,_,c,rs,e1,fun L' H' v s c' r=>q L' H' v s c' r⟩
 ·rename_i xs M1 e1;cases hf;refine ⟨L,σ,M,_,_,c,rs,e1,fun L' H' v s c' r=>?_⟩;obtain ⟨p,vs,rfl,e0,e2,e3,r⟩:=r;obtain ⟨c2,s2⟩:=zSP s c' e0 e2 e3 r;exact q _ H' _ s2 c2 (Rep.last c')
 ·cases hf
def zBC:FS:=fun σ M=>some (.nx,σ,M)
def zX (f g:FS):FS:=fun σ M=>match f σ M with
 |some (.nx,σ1,M1)=>g σ1 M1
 |r=>r
def sIf (c:FT) (f g:FS):FS:=fun σ M=>match c σ M with
 |some (true,M1)=>f σ M1
 |some (false,M1)=>g σ M1
 |none=>none
def zAV (f:FE):FS:=fun σ M=>match toD f σ M with
 |some (d,M1)=>some (.ret d,σ,M1)
 |none=>none
def zq (i:Nat) (f:FE):FS:=fun σ M=>match toD f σ M with
 |some (d,M1)=>some (.nx,σ.set i (some d),M1)
 |none=>none
def zBP (f:FE):FS:=fun σ M=>match f σ M with
 |some (_,M1)=>some (.nx,σ,M1)
 |none=>none
section
variable {X:Cx} {st:Stmt} {rest:List Stmt} {e c:Expr} {pos:Pos}
theorem zUB:QSs X [] zBC:=.mk <| PSs.imp zSE fun E τ H zz=>by
 obtain ⟨L,σ,M,o,σ',M',c,rs,hf,q⟩:=zz;unfold zBC at hf;cases hf;exact q L H (.refl L H) c τ rs
theorem zQ0 (h1:QS X st f) (h2:QSs X rest g):QSs X (st::rest) (zX f g):=.mk <| PSs.imp (zO4 h1.un h2.un) fun E τ H zz=>by
 obtain ⟨L,σ,M,o,σ',M',c,rs,hf,q⟩:=zz;unfold zX at hf;split at hf
 ·rename_i σ1 M1 e1;refine ⟨L,σ,M,_,_,_,c,rs,e1,fun L1 H1 s1 c1 τ1 r1=>⟨L1,σ1,M1,_,_,_,c1,r1,hf,fun L2 H2 s2 c2=>q L2 H2 (s1.trans s2) c2⟩⟩
 ·rename_i hne;refine ⟨L,σ,M,_,_,_,c,rs,hf,fun L1 H1 s1 c1=>?_⟩;have z:=q L1 H1 s1 c1;cases o with
  |nx=>exact absurd hf (hne σ' M')
  |ret d=>exact z
  |brk=>exact z
  |cnt=>exact z
theorem zUF (h1:QS X st f):QSs X [st] f:=.mk <| PSs.imp (zRr h1.un) fun _ _ _ h=>h
theorem zV1 (hc:QT X c fc) (ha:QSs X a f) (hb:QSs X b g):QS X (.If c a b pos) (sIf fc f g):=.mk <| PS.imp (zVA hc.un ha.un hb.un) fun E τ H zz=>by
 obtain ⟨L,σ,M,o,σ',M',c,rs,hf,q⟩:=zz;unfold sIf at hf;split at hf
 ·rename_i M1 e1;refine ⟨L,σ,M,_,_,c,rs,e1,fun L1 H1 s1 c1=>?_⟩;exact zHy ⟨L1,σ,M1,_,_,_,c1,rs.stp s1,hf,fun L2 H2 s2 c2=>q L2 H2 (s1.trans s2) c2⟩
 ·rename_i M1 e1;refine ⟨L,σ,M,_,_,c,rs,e1,fun L1 H1 s1 c1=>?_⟩;exact zHl ⟨L1,σ,M1,_,_,_,c1,rs.stp s1,hf,fun L2 H2 s2 c2=>q L2 H2 (s1.trans s2) c2⟩
 ·cases hf
theorem zUW (h:QE X e f):QS X (.Return (some e) pos) (zAV f):=.mk <| PS.imp (zTt (zBn h).un) fun E τ H zz=>by
 obtain ⟨L,σ,M,o,σ',M',c,rs,hf,q⟩:=zz;unfold zAV at hf;split at hf
 ·rename_i d M1 e1;cases hf;exact ⟨L,σ,M,_,_,c,rs,e1,fun L1 H1 v s1 c1 r1=>q L1 H1 s1 c1 v r1⟩
 ·cases hf
theorem zHO {K:PySem.W.Frag} {i:Nat} {f:FE} {t:TE} (ht:∀ τ H Q,trE K f τ H Q->t τ H Q) {E:Ends} {τ:Sv} {H:Hp} (h:trS K (zq i f) E τ H):zPz t (zDk i) E τ H:=by
 obtain ⟨L,σ,M,o,σ',M',c,rs,hf,q⟩:=h;unfold zq at hf;split at hf
 ·rename_i d M1 e1;cases hf;exact ht _ _ _ (zK3 ⟨L,σ,M,_,_,c,rs,e1,fun L1 H1 v s1 c1 r1=>q L1 H1 s1 c1 _ ((rs.stp s1).set r1)⟩)
 ·cases hf
theorem zUG {i:Nat} {x:Str} {f:FE} {pos':Pos} (hN:X.N.Nodup) (hi:X.N[i]?=some x) (hx:Loc X.env.scope x) (h:QE X e f) (hs:swapsWith e (some (.Name x pos')) pos.line X.env=pure false:=by rfl)
  (hf:X.fn x=true\/X.env.scope.names.lookup x=some .local:=by first|exact .inl rfl|exact .inr rfl|assumption):QS X (.Assign [.Name x pos'] e pos) (zq i f) :=
 .mk <| PS.imp (zTW hN hi hx h.un hs hf) fun _ _ _ z=>zHO (fun _ _ _ z=>z) z
theorem zTM (h:QE X e f) (hs:swapsWith e none pos.line X.env=pure false:=by rfl):QS X (.Expr e pos) (zBP f):=.mk <| PS.imp (zRn h.un hs) fun E τ H zz=>by
 obtain ⟨L,σ,M,o,σ',M',c,rs,hf,q⟩:=zz;unfold zBP at hf;split at hf
 ·rename_i d M1 e1;cases hf;exact ⟨L,σ,M,_,_,c,rs,e1,fun L1 H1 v s1 c1 r1=>q L1 H1 s1 c1 τ (rs.stp s1)⟩
 ·cases hf
abbrev FG:=D->Sd->Option Sd
def GOk (g:TG) (fg:FG):Prop:=∀ {L:List Addr} {H:Hp} {σ σ':Sd} {τ:Sv} {d:D} {v:V} {Q:Sv->Hp->Prop},zBZ L H σ τ->Rep L H d v->fg d σ=some σ'->(∀ τ',zBZ L H σ' τ'->Q τ' H)->g v τ H Q
def gN (i:Nat):FG:=fun d σ=>some (σ.set i (some d))
theorem zPq:GOk (zDk i) (gN i):=by
 intro L H σ σ' τ d v Q rs r hf q;unfold gN at hf;cases hf;exact q _ (rs.set r)
abbrev FI:=Sd->Mem->Option (List D × Option (Mem->Prop) × Mem)
def zAs (g:Option (Mem->Prop)) (xs:List D) (M:Mem):Prop:=match g with
 |none=>True
 |some p=>p M
def zUM (K:PySem.W.Frag) (J:It) (L:List Addr) (H:Hp) (xs:List D) (g:Option (Mem->Prop)):Prop:=∀ L' H' M',Stp L H L' H'->Cor K L' M' H'->zAs g xs M' ->
 (∀ (i:Nat) d,xs[i]?=some d->J.go i H' /\ ∀ v H'',J.yld i H' v H''->(∀ a o,H' a=some o->H'' a=some o)/\Rep L' H'' d v)/\J.stop xs.length H'
def trI (K:PySem.W.Frag) (f:FI):TI:=fun τ H R=>∃ L σ M xs g M',Cor K L M H/\zBZ L H σ τ/\f σ M=some (xs,g,M') /\ ∀ L' H' J,Stp L H L' H'->Cor K L' M' H'->zUM K J L' H' xs g->R J H'
structure QI (X:Cx) (tg e:Expr) (f:FI):Prop where
 un:PI X tg e (trI X.K f)
theorem PI.imp (h:PI X tg e t) (hi:∀ τ H R,t' τ H R->t τ H R):PI X tg e t':=fun zB s σ H R I q=>h zB s σ H R I (hi _ _ _ q)
noncomputable def zCK (g:FG) (b:FS) (all:List D) (gd:Option (Mem->Prop)):List D->Sd->Mem->Option (Out × Sd × Mem)
 |[],σ,M=>open Classical in if zAs gd all M then some (.nx,σ,M) else none
 |x::r,σ,M=>open Classical in if zAs gd all M then match g x σ with
   |some σ1=>match b σ1 M with
    |some (.nx,σ2,M2)=>zCK g b all gd r σ2 M2
    |some (.cnt,σ2,M2)=>zCK g b all gd r σ2 M2
    |some (.brk,σ2,M2)=>some (.nx,σ2,M2)
    |some (.ret d,σ2,M2)=>some (.ret d,σ2,M2)
    |none=>none
   |none=>none
  else none
noncomputable def zBs (fi:FI) (g:FG) (b:FS):FS:=fun σ M=>match fi σ M with
 |some (xs,gd,M1)=>zCK g b xs gd xs σ M1
 |none=>none
theorem zCQ {α:Type} {xs:List α} (h:i<xs.length):xs.drop i=xs[i]::xs.drop (i+1):=List.drop_eq_getElem_cons h
theorem Stp.yld (s:Stp L H L' H') (h:∀ a o,H' a=some o->H'' a=some o):Stp L H L' H'':=s.trans (.grow h)
theorem zPL {K:PySem.W.Frag} {fi:FI} {g:TG} {fg:FG} {b:FS} (hg:GOk g fg) {E:Ends} {τ:Sv} {H:Hp} (h:trS K (zBs fi fg b) E τ H):zUm (trI K fi) g (trS K b) E τ H:=by
 obtain ⟨L,σ,M,o,σf,Mf,c,rs,hf,q⟩:=h;unfold zBs at hf;split at hf
 ·rename_i xs gd M1 e1;refine ⟨L,σ,M,_,_,_,c,rs,e1,fun L1 H1 J s1 c1 it=>?_⟩
  refine ⟨fun i m τ' H'=>m=xs.length-i/\i<=xs.length /\ ∃ L' σ' M',Stp L1 H1 L' H'/\Cor K L' M' H'/\zBZ L' H' σ' τ'/\zCK fg b xs gd (xs.drop i) σ' M'=some (o,σf,Mf),
   ⟨xs.length,by simp,zWu _,L1,σ,M1,.refl _ _,c1,rs.stp s1,by simpa using hf⟩,?_⟩
  rintro i m τ' H' ⟨rfl,hi,L',σ',M',s',c',rs',e'⟩;by_cases hlt:i<xs.length
  ·rw[zCQ hlt]at e';unfold zCK at e';split at e'
   ·rename_i hgd;obtain ⟨step,_⟩:=it L' H' M' s' c' hgd;obtain ⟨go,yl⟩:=step i xs[i] (zWC hlt);cases eg:fg xs[i] σ' with
    |none=>rw[eg]at e';cases e'
    |some σ1=>
     rw[eg]at e';dsimp only at e';refine .inr ⟨go,fun τ2 H2=>∃ L2 σ2 M2,Stp L1 H1 L2 H2/\Cor K L2 M2 H2/\zBZ L2 H2 σ2 τ2/\zCK fg b xs gd (xs.drop (i+1)) σ2 M2=some (o,σf,Mf),fun τ2 H2 ⟨L2,σ2,M2,a1,a2,a3,a4⟩=>⟨xs.length-(i+1),by omega,rfl,hlt,L2,σ2,M2,a1,a2,a3,a4⟩,fun v H2 hy=>?_⟩;obtain ⟨gr,rv⟩:=yl v H2 hy;refine hg (zBZ.stp (.grow gr) rs') rv eg fun τ2 r2=>?_;cases eb:b σ1 M' with
     |none=>rw[eb]at e';cases e'
     |some r=>
      obtain ⟨o2,σ2,M2⟩:=r;rw[eb]at e';refine ⟨L',σ1,M',_,_,_,c'.grow gr,r2,eb,fun L3 H3 s3 c3=>?_⟩;have s13:Stp L1 H1 L3 H3:=(s'.yld gr).trans s3;cases o2 with
      |nx=>exact fun τ3 r3=>⟨L3,σ2,M2,s13,c3,r3,e'⟩
      |cnt=>exact fun τ3 r3=>⟨L3,σ2,M2,s13,c3,r3,e'⟩
      |brk=>cases e';exact q L3 H3 (s1.trans s13) c3
      |ret d=>cases e';exact q L3 H3 (s1.trans s13) c3
   ·cases e'
  ·have hi':i=xs.length:=by omega
   subst hi';rw[List.drop_length]at e';unfold zCK at e';split at e'
   ·rename_i hgd;cases e';obtain ⟨_,stop⟩:=it L' H' _ s' c' hgd;exact .inl ⟨stop,q L' H' (s1.trans s') c' τ' rs'⟩
   ·cases e'
 ·cases hf
theorem zSX (hg:GOk g fg) (hp:PassesOwn (model X.prog X.w) X.A X.env X.xe) (hc:X.calm=true) (hi:QI X tg iter fi) (ht:PG X tg g) (hb:QSs X body b)
  (hs:∀ x,foldedSetIterable iter X.env x=pure x:=by intro _;rfl):QS X (.For tg iter body [] pos) (zBs fi fg b):=.mk <| PS.imp (zS4 hp hc hi.un ht hb.un hs) fun _ _ _ h=>zPL hg h
end
section
variable {X:Cx} {e c iter tg elt:Expr} {pos:Pos} {scope:Scope} {ifs:List Expr}
def zBp (c:FT) (b:FS):Nat->Sd->Mem->Option (Out × Sd × Mem)
 |0,_,_=>none
 |n+1,σ,M=>match c σ M with
  |some (true,M1)=>match b σ M1 with
   |some (.nx,σ2,M2)=>zBp c b n σ2 M2
   |some (.cnt,σ2,M2)=>zBp c b n σ2 M2
   |some (.brk,σ2,M2)=>some (.nx,σ2,M2)
   |some (.ret d,σ2,M2)=>some (.ret d,σ2,M2)
   |none=>none
  |some (false,M1)=>some (.nx,σ,M1)
  |none=>none
theorem zLk {K:PySem.W.Frag} {fc:FT} {b:FS} {n:Nat} {E:Ends} {τ:Sv} {H:Hp} (h:trS K (zBp fc b n) E τ H):zOu (trT K fc) (trS K b) E τ H:=by
 obtain ⟨L,σ,M,o,σf,Mf,c,rs,hf,q⟩:=h;refine ⟨fun m τ' H'=>∃ L' σ' M',Stp L H L' H'/\Cor K L' M' H'/\zBZ L' H' σ' τ'/\zBp fc b m σ' M'=some (o,σf,Mf),⟨n,L,σ,M,.refl _ _,c,rs,hf⟩,?_⟩;rintro m τ' H' ⟨L',σ',M',s',c',rs',e'⟩;cases m with
 |zero=>unfold zBp at e';cases e'
 |succ m=>
  unfold zBp at e';split at e'
  ·rename_i M1 e1;refine ⟨L',σ',M',_,_,c',rs',e1,fun L1 H1 s1 c1=>zHy ?_⟩;refine ⟨fun τ2 H2=>∃ L2 σ2 M2,Stp L H L2 H2/\Cor K L2 M2 H2/\zBZ L2 H2 σ2 τ2/\zBp fc b m σ2 M2=some (o,σf,Mf),fun τ2 H2 h2=>⟨m,zW5 m,h2⟩,?_⟩;cases eb:b σ' M1 with
   |none=>rw[eb]at e';cases e'
   |some r=>
    obtain ⟨o2,σ2,M2⟩:=r;rw[eb]at e';refine ⟨L1,σ',M1,_,_,_,c1,rs'.stp s1,eb,fun L3 H3 s3 c3=>?_⟩;have s13:Stp L H L3 H3:=(s'.trans s1).trans s3;cases o2 with
    |nx=>exact fun τ3 r3=>⟨L3,σ2,M2,s13,c3,r3,e'⟩
    |cnt=>exact fun τ3 r3=>⟨L3,σ2,M2,s13,c3,r3,e'⟩
    |brk=>cases e';exact q L3 H3 s13 c3
    |ret d=>cases e';exact q L3 H3 s13 c3
  ·rename_i M1 e1;cases e';exact ⟨L',_,M',_,_,c',rs',e1,fun L1 H1 s1 c1=>zHl (q L1 H1 (s'.trans s1) c1 τ' (rs'.stp s1))⟩
  ·cases e'
theorem zR3 (n:Nat) (hp:PassesOwn (model X.prog X.w) X.A X.env X.xe) (hc:QT X c fc) (hb:QSs X body b):QS X (.While c body [] pos) (zBp fc b n) :=
 .mk <| PS.imp (zPM hp hc.un hb.un) fun _ _ _ h=>zLk h
def zBB (own:List Nat) (σ:Sd):Sd:=own.foldl (fun σ i=>σ.set i none) σ
theorem zEV:∀ (own:List Nat) {σ:Sd} {τ:Sv},zBZ L H σ τ->zBZ L H (zBB own σ) (clr own τ)
 |[],_,_,h=>h
 |i::r,σ,τ,h=>by
  refine zEV r (σ:=σ.set i none) (τ:=τ.set i none) ⟨by simp[h.1],fun j d q=>?_⟩;rw[zXh]at q ⊢;split at q
  ·split at q <;> cases q
  ·rename_i z;rw[zWQ z];exact h.2 j d q
noncomputable def zA0 (g:FG) (tc:FT) (te:FE) (σ:Sd) (all:List D) (gd:Option (Mem->Prop)):List D->Mem->Option (List D × Mem)
 |[],M=>open Classical in if zAs gd all M then some ([],M) else none
 |x::r,M=>open Classical in if zAs gd all M then match g x σ with
   |some σ1=>match tc σ1 M with
    |some (true,M1)=>match toD te σ1 M1 with
     |some (d,M2)=>match zA0 g tc te σ all gd r M2 with
      |some (ds,M3)=>some (d::ds,M3)
      |none=>none
     |none=>none
    |some (false,M1)=>zA0 g tc te σ all gd r M1
    |none=>none
   |none=>none
  else none
noncomputable def zw (own:List Nat) (fi:FI) (g:FG) (tc:FT) (te:FE):FE:=fun σ M=>match fi σ M with
 |some (xs,gd,M1)=>if xs.length<=sizeLine then match zA0 g tc te (zBB own σ) xs gd xs M1 with
   |some (ys,M2)=>some (.fl ys,M2)
   |none=>none
  else none
 |none=>none
def zE4 (own:List Nat) (g:TG) (fg:FG):Prop:=∀ {L:List Addr} {H:Hp} {σ σ':Sd} {τ τ0:Sv} {d:D} {v:V} {Q:Sv->Hp->Prop},zBZ L H σ τ->Ext (clr own τ0) τ->Rep L H d v->fg d σ=some σ'->(∀ τ',zBZ L H σ' τ'->Ext (clr own τ0) τ'->Q τ' H)->g v τ H Q
theorem zBY (hi:i∈own):zE4 own (zDk i) (gN i):=by
 intro L H σ σ' τ τ0 d v Q rs ex r hf q;unfold gN at hf;cases hf;exact q _ (rs.set r) (ex.set hi)
theorem zIj {K:PySem.W.Frag} {own:List Nat} {fi:FI} {g:TG} {fg:FG} {tc:FT} {te:FE} (hg:zE4 own g fg) {τ:Sv} {H:Hp} {Q:VK} (h:trE K (zw own fi fg tc te) τ H Q):zQH own (trI K fi) g (trT K tc) (trD K (toD te)) τ H Q:=by
 obtain ⟨L,σ,M,d,Mf,c,rs,hf,q⟩:=h;unfold zw at hf;split at hf
 ·rename_i xs gd M1 e1;split at hf
  ·rename_i hz;split at hf
   ·rename_i zs M2 e2;cases hf;refine ⟨L,σ,M,_,_,_,c,rs,e1,fun L1 H1 J s1 c1 it=>?_⟩
    refine ⟨fun i m ys H'=>m=xs.length-i/\i<=xs.length /\ ∃ L' M' as bs,Stp L1 H1 L' H'/\Cor K L' M' H'/\zP L' H' as ys/\as.length<=i/\zA0 fg tc te (zBB own σ) xs gd (xs.drop i) M'=some (bs,Mf)/\as++bs=zs,
     ⟨xs.length,by simp,zWu _,L1,M1,[],zs,.refl _ _,c1,.nil,zWE _,by simpa using e2,rfl⟩,?_⟩
    rintro i m ys H' ⟨rfl,hi,L',M',as,bs,s',c',r',hl,e',hab⟩;have hys:ys.length<=i:=by rw[r'.length];exact hl
    by_cases hlt:i<xs.length
    ·rw[zCQ hlt]at e';unfold zA0 at e';split at e'
     ·rename_i hgd;obtain ⟨step,_⟩:=it L' H' M' s' c' hgd;obtain ⟨go,yl⟩:=step i xs[i] (zWC hlt);split at e'
      ·rename_i σ1 eg;refine .inr ⟨go,fun v H2 hy=>?_⟩;obtain ⟨gr,rv⟩:=yl v H2 hy;have s2:Stp L1 H1 L' H2:=s'.yld gr;refine hg (zEV own ((rs.stp s1).stp s2)) (.refl _) rv eg fun τ2 r2 x2=>⟨x2,?_⟩;split at e'
       ·rename_i M3 e3;split at e'
        ·rename_i d M4 e4;split at e'
         ·rename_i ds M5 e5;cases e';refine ⟨L',σ1,M',_,_,c'.grow gr,r2,e3,fun L3 H3 s3 c3=>zHy ?_⟩;refine ⟨L3,σ1,M3,_,_,c3,r2.stp s3,e4,fun L4 H4 w s4 c4 r4=>?_⟩;have st:Stp L' H' L4 H4:=((Stp.grow gr).trans s3).trans s4;refine ⟨Nat.lt_of_le_of_lt hys (zWX hlt hz),xs.length-(i+1),by omega,rfl,hlt,L4,M4,as++[d],ds,s'.trans st,c4,(r'.stp st).app (.cons r4 .nil),by simp;omega,e5,by rw[<-hab];simp⟩
         ·cases e'
        ·cases e'
       ·rename_i M3 e3;refine ⟨L',σ1,M',_,_,c'.grow gr,r2,e3,fun L3 H3 s3 c3=>zHl ?_⟩;have st:Stp L' H' L3 H3:=(Stp.grow gr).trans s3;exact ⟨xs.length-(i+1),by omega,rfl,hlt,L3,M3,as,bs,s'.trans st,c3,r'.stp st,by omega,e',hab⟩
       ·cases e'
      ·cases e'
     ·cases e'
    ·have hi':i=xs.length:=by omega
     subst hi';rw[List.drop_length]at e';unfold zA0 at e';split at e'
     ·rename_i hgd;cases e';obtain ⟨_,stop⟩:=it L' H' _ s' c' hgd;refine .inl ⟨stop,zWZ hys hz,fun p hp=>?_⟩;rw[zWs]at hab;subst hab;exact q L' _ _ ((s1.trans s').trans (.upd hp)) (c'.upd hp) (zg.newLst (s1.trans s') c c' hp r')
     ·cases e'
   ·cases hf
  ·cases hf
 ·cases hf
structure QIfs (X:Cx) (ifs:List Expr) (f:FT):Prop where
 un:zGD X ifs (trT X.K f)
def zAD:FT:=fun _ M=>some (true,M)
theorem zT9:QIfs X [] zAD:=.mk fun zB s σ H Q I h=>by
 obtain ⟨L,σ',M,d,M',c,rs,hf,q⟩:=h;unfold zAD at hf;cases hf;exact zPl zB s σ H Q I (q L H (.refl L H) c)
theorem zSd (h:QT X c f):QIfs X [c] f:=.mk (zPv h.un)
structure QParts (X:Cx) (scope:Scope) (tg:Expr) (ifs:List Expr) (elt:Expr) (g:TG) (tc:FT) (te:FE):Prop where
 g:∀ zB cl s H fp,PG (zL X zB scope cl s H fp) tg g
 c:∀ zB cl s H fp,QIfs (zL X zB scope cl s H fp) ifs tc
 e:∀ zB cl s H fp,QE (zL X zB scope cl s H fp) elt te
theorem QParts.parts {g:TG} {tc:FT} {te:FE} (p:QParts X scope tg ifs elt g tc te):CompParts X scope tg ifs elt g (trT X.K tc) (trD X.K (toD te)) :=
 ⟨p.g,fun zB cl s H fp=>(p.c zB cl s H fp).un,fun zB cl s H fp=>(zBn (p.e zB cl s H fp)).un⟩
theorem zMK (hg:zE4 own g fg) (C:CompIn X scope own) (hcalm:X.calm=true) (hi:QI X tg iter fi) (p:QParts X scope tg ifs elt g tc te) (hs:∀ x,foldedSetIterable iter X.env x=pure x:=by intro _;rfl) :
  QE X (.ListComp elt [⟨tg,iter,ifs,0⟩] scope pos) (zw own fi fg tc te):=.mk <| PE.imp (zQ3 C hcalm hi.un p.parts hs) fun _ _ _ h=>zIj hg h
theorem zNv (hN:X.N.Nodup) (hi':X.N[i]?=some x) (hx:Loc X.env.scope x) (hfn:X.fn x=true\/X.env.scope.names.lookup x=some .local)
  (hsw:swapsWith (.ListComp elt [⟨tg,iter,ifs,0⟩] scope pos) (some (.Name x pos')) pos''.line X.env=pure true)
  (hg:zE4 own g fg) (C:CompIn X scope own) (hcalm:X.calm=true) (hi:QI X tg iter fi) (p:QParts X scope tg ifs elt g tc te) (hs:∀ x,foldedSetIterable iter X.env x=pure x:=by intro _;rfl) :
  QS X (.Assign [.Name x pos'] (.ListComp elt [⟨tg,iter,ifs,0⟩] scope pos) pos'') (zq i (zw own fi fg tc te)) :=
 .mk <| PS.imp (zMc hN hi' hx hfn C hcalm hi.un p.parts hsw hs) fun _ _ _ z=>zHO (fun _ _ _ z=>zIj hg z) z
end
abbrev FF:=List D->Mem->Option (D × Mem)
def spF (K:PySem.W.Frag) (n:Nat) (g:FF):Sp:=fun vs H Q _=>∃ L ds M d M',Cor K L M H/\zP L H ds vs/\ds.length=n/\g ds M=some (d,M') /\ ∀ L' H' v,Stp L H L' H'->Cor K L' M' H'->Rep L' H' d v->Q v H'
def zN (g:FF) (fa:FA):FE:=fun σ M=>match fa σ M with
 |some (ds,M1)=>match g ds M1 with
  |some (d,M2)=>some (.dat d,M2)
  |none=>none
 |none=>none
section
variable {X:Cx} {e:Expr} {es:List Expr} {pos p:Pos} {x:Str} {k:Nat} {f:Addr} {fd:FuncData} {ps:List Str}
theorem zTj (F:FnOk X.prog X.w X.K X.mg X.base CX0 k f fd ps (spF X.K (e::es).length g)) (hr:Room k X.A) (hg:Gl X x) (hm:X.mg x=some (.ref f)) (hk:PySem.W.keepIn X.K (.ref f)=true) (hb:zHb X.K fd ps [])
  (ha:QA X (e::es) fa) (hl:∀ σ M ds M1,fa σ M=some (ds,M1)->ds.length=(e::es).length) (hdb:(x==("__debug__" : Str))=false:=by decide) (he:starEach (e::es) X.env=(false,eval e X.env)::starEach es X.env:=by rfl) (hpl:(backTo pos (starEach es X.env)).any (·.1)=false:=by rfl) :
  QE X (.Call (.Name x p) (e::es) [] pos) (zN g fa) :=
 .mk <| PE.imp (zRm F hr hg hm hk hb .nil zUf ha.un hdb he hpl) fun τ H Q zz=>by
  obtain ⟨L,σ,M,d,M',c,rs,hf,q⟩:=zz;unfold zN at hf;split at hf
  ·rename_i ds M1 e1;split at hf
   ·rename_i d' M2 e2;cases hf;refine ⟨L,σ,M,_,_,c,rs,e1,fun L1 H1 vs s1 c1 r1=>?_⟩;dsimp only;rw[zWs];exact ⟨L1,ds,M1,d',_,c1,r1,hl _ _ _ _ e1,e2,fun L2 H2 v s2 c2 r2=>q L2 H2 v (s1.trans s2) c2 r2⟩
   ·cases hf
  ·cases hf
def zPc (fa:FA) (n:Nat):Prop:=∀ σ M ds M1,fa σ M=some (ds,M1)->ds.length=n
theorem zPa:zPc zH 0:=fun σ M ds M1 h=>by unfold zH at h;cases h;rfl
theorem zNq {f:FD} {g:FA} {n:Nat} (h:zPc g n):zPc (zD f g) (n+1):=fun σ M ds M1 q=>by
 unfold zD at q;split at q
 ·split at q
  ·rename_i e2;cases q;simp[h _ _ _ _ e2]
  ·cases q
 ·cases q
def zA7 (n:Nat) (b:FS):FF:=fun ds M=>match b (ds.map some++List.replicate (n-ds.length) none) M with
 |some (.ret d,_,M')=>some (d,M')
 |some (.nx,_,M')=>some (.non,M')
 |_=>none
theorem zIn:∀ {ds:List D} {vs:List V},zP L H ds vs->zBZ L H (ds.map some++List.replicate (N.length-ds.length) none) (L2.zEW N vs):=fun {ds vs} r=>by
 unfold L2.zEW;have hl:=r.length;refine ⟨by simp[hl],fun i d q=>?_⟩;by_cases hi:i<ds.length
 ·rw[zWF (by simpa using hi),zWV]at q;rw[zWF (by simpa [hl] using hi),zWV];cases e1:ds[i]? with
  |none=>rw[e1]at q;cases q
  |some d'=>
   rw[e1]at q;cases q;obtain ⟨v,e2,r2⟩:=r.get e1;exact ⟨v,by rw[e2];rfl,r2⟩
 ·rw[zXI (by simpa using hi),List.getElem?_replicate]at q;split at q <;> cases q
theorem zAB {P:Program} {w:World} {K:PySem.W.Frag} {mg:Str->Option Value} {base:Heap} {qual:Str} {st:Stmt} {N:List Str} {b:FS} {n:Nat} (F:Fun K x qual st f fd) (S:FnScope N ps (zR st)) (hn:ps.length=n)
  (hb:∀ (cdv:Value) (A:Around) (outer:List Env) (s:Shared) (H:Hp) (E:XK),Room k (A.deeper (envOfC qual (zR st) s.heap.objs.size f cdv))->QSs (zMS CX0 P w K mg base N qual (zR st) f cdv A outer s H E).nox (zCq st) b) :
  FnOk P w K mg base CX0 (k+1) f fd ps (spF K n (zA7 N.length b)):=by
 refine F.ok S (fun vs H Q E h=>?_) (fun cdv A outer s H vs Q E hr h=>⟨_,(hb cdv A outer s H E hr).un,?_⟩)
 ·obtain ⟨L,ds,M,d,M',c,r,hl,_⟩:=h;rw[r.length,hl,hn]
 ·obtain ⟨L,ds,M,d,M',c,r,hl,hf,q⟩:=h;unfold zA7 at hf;split at hf
  ·rename_i d' σ' M1 e1;cases hf;exact ⟨L,_,M,_,_,_,c,zIn r,e1,fun L1 H1 s1 c1 v r1=>q L1 H1 v s1 c1 r1⟩
  ·rename_i σ' M1 e1;cases hf;exact ⟨L,_,M,_,_,_,c,zIn r,e1,fun L1 H1 s1 c1 τ' r1=>q L1 H1 .non s1 c1 (by unfold Rep;rfl)⟩
  ·cases hf
mutual
def D.und (n:Nat):D->Bool
 |.tup ds=>D.unds n ds
 |.ref k=>decide (k<n)
 |_=>true
def D.unds (n:Nat):List D->Bool
 |[]=>true
 |d::ds=>D.und n d&&D.unds n ds
end
mutual
theorem Rep.less:∀ {d:D} {v:V},D.und L.length d=true->Rep (L++N) H d v->Rep L H d v
 |.non,_,_,h=>by unfold Rep at h ⊢;exact h
 |.bl _,_,_,h=>by unfold Rep at h ⊢;exact h
 |.int _,_,_,h=>by unfold Rep at h ⊢;exact h
 |.str _,_,_,h=>by unfold Rep at h ⊢;exact h
 |.tup ds,_,hb,h=>by
  unfold D.und at hb;unfold Rep at h ⊢;obtain ⟨a,vs,rfl,e,r⟩:=h;exact ⟨a,vs,rfl,e,zP.less hb r⟩
 |.ref n,_,hb,h=>by
  unfold D.und at hb;unfold Rep at h ⊢;obtain ⟨a,rfl,e⟩:=h;exact ⟨a,rfl,by rwa [zWF (zW4 hb)]at e⟩
theorem zP.less:∀ {ds:List D} {vs:List V},D.unds L.length ds=true->zP (L++N) H ds vs->zP L H ds vs
 |[],_,_,h=>by unfold zP at h ⊢;exact h
 |d::ds,_,hb,h=>by
  unfold D.unds at hb;rw[zWi]at hb;unfold zP at h ⊢;obtain ⟨v,r,rfl,h1,h2⟩:=h;exact ⟨v,r,rfl,Rep.less hb.1 h1,zP.less hb.2 h2⟩
end
theorem zAz.less {κ:Type} {kf:D->Option κ} {L N:List Addr} {H:Hp}:∀ {ps:List (D × D)} {vs:List (κ × V)},(ps.all fun p=>D.und L.length p.1&&D.und L.length p.2)=true->zAz kf (L++N) H ps vs->zAz kf L H ps vs
 |[],_,_,h=>h
 |p::r,_,hb,h=>by
  rw[List.all_cons,zWi,zWi]at hb;obtain ⟨k,v,r',rfl,e,h1,h2⟩:=h;exact ⟨k,v,r',rfl,e,Rep.less hb.1.2 h1,zAz.less hb.2 h2⟩
def MO.und (n:Nat):MO->Bool
 |.lst xs=>D.unds n xs
 |.fro xs=>D.unds n xs
 |.dict kvs=>kvs.all fun p=>D.und n p.1&&D.und n p.2
 |.dicT kvs=>kvs.all fun p=>D.und n p.1&&D.und n p.2
 |.set xs=>D.unds n xs
 |.froT kvs=>kvs.all fun p=>D.und n p.1&&D.und n p.2
 |.froK kvs=>kvs.all fun p=>D.und n p.1&&D.und n p.2
def zHZ (g:FF):FF:=fun ds M=>match g ds M with
 |some (d,M')=>if D.und M.length d&&(M'.take M.length).all (MO.und M.length)&&decide (M.length<=M'.length) then some (d,M'.take M.length) else none
 |none=>none
theorem zIw {P:Program} {w:World} {K:PySem.W.Frag} {mg:Str->Option Value} {base:Heap} {n:Nat} {g:FF} (h:FnOk P w K mg base CX0 k f fd ps (spF K n g)):FnOk P w K mg base CX0 k f fd ps (spF K n (zHZ g)) :=
 h.imp fun vs H Q E ⟨L,ds,M,d,M',c,r,hl,hf,q⟩=>by
  unfold zHZ at hf;split at hf
  ·rename_i d' M1 e1;split at hf
   ·rename_i hb;cases hf;simp only[zWi,zXL,zWj]at hb;obtain ⟨⟨hb1,hb2⟩,hb3⟩:=hb;refine ⟨L,ds,M,_,_,c,r,hl,e1,fun L1 H1 v s1 c1 r1=>?_⟩;obtain ⟨N,rfl⟩:=s1.pre;rw[<-c.len]at hb1 hb2 hb3;refine q L H1 v ⟨⟨[],by simp⟩,fun a ha=> .inl ha,s1.old,s1.tup,s1.frz⟩ ⟨?_,?_,fun i a m e2 e3=>?_⟩ (Rep.less hb1 r1)
    ·rw[zXW,<-c.len];omega
    ·exact (zXM.mp c1.nd).1
    ·rw[<-c.len]at e3;have hi:i<L.length:=(zWB.mp e2).1;have hm:m∈M1.take L.length:=zWz e3;rw[List.getElem?_take_of_lt hi]at e3;have z:=c1.obj i a m (zB0 e2) e3;have bl:=hb2 m hm;cases m with
     |lst xs=>obtain ⟨ws,e4,r4⟩:=z;exact ⟨ws,e4,zP.less bl r4⟩
     |fro xs=>obtain ⟨o,ws,e4,r4⟩:=z;exact ⟨o,ws,e4,zP.less bl r4⟩
     |dict ps=>obtain ⟨vs,e,r⟩:=z;exact ⟨vs,e,zAz.less bl r⟩
     |dicT ps=>obtain ⟨vs,e,r⟩:=z;exact ⟨vs,e,zAz.less bl r⟩
     |set _=>exact z
     |froT ps=>obtain ⟨o,vs,e,r⟩:=z;exact ⟨o,vs,e,zAz.less bl r⟩
     |froK ps=>obtain ⟨o,vs,e,r⟩:=z;exact ⟨o,vs,e,zAz.less bl r⟩
   ·cases hf
  ·cases hf
def zFJ (g:FF):FF:=fun ds M=>if D.unds 0 ds then match g ds [] with
  |some (d,_)=>if D.und 0 d then some (d,M) else none
  |none=>none
 else none
theorem zFK {P:Program} {w:World} {K:PySem.W.Frag} {mg:Str->Option Value} {base:Heap} {n:Nat} {g:FF} (h:FnOk P w K mg base CX0 k f fd ps (spF K n g)):FnOk P w K mg base CX0 k f fd ps (spF K n (zFJ g)) :=
 h.imp fun vs H Q E ⟨L,ds,M,d,M',c,r,hl,hf,q⟩=>by
  unfold zFJ at hf;split at hf
  ·rename_i hb0;split at hf
   ·rename_i d' M1 e1;split at hf
    ·rename_i hb;cases hf;refine ⟨[],ds,[],_,_,⟨rfl,.nil,fun i a m e=>by simp at e⟩,zP.less (L:=[]) (N:=L) hb0 (by simpa using r),hl,e1,fun L1 H1 v s1 c1 r1=>?_⟩;have gr:∀ a o,H a=some o->H1 a=some o:=fun a o e=>s1.old a o e (by simp);exact q L H1 v (.grow gr) (c.grow gr) ((Rep.less (L:=[]) (N:=L1) hb (by simpa using r1)).more L |> fun z=>by simpa using z)
    ·cases hf
   ·cases hf
  ·cases hf
theorem zTb (hl:PE X l tl):PI X tg l (fun σ H R=>tl σ H fun x H1=>∃ a,x=.ref a/\((∃ xs,SqL X.K H1 a xs)/\R (Itl X.K a) H1\/(∃ xs,SqT X.K H1 a xs)/\R (Itt X.K a) H1)):=by
 intro zB s σ H R I h;refine thn (hl zB s σ H _ I h) fun v s1 ⟨y,H1,I1,r1,a,hy,h1⟩=>?_;subst hy;cases r1;have fpk:∀ b∈[s1.heap.objs.size],zCL X zB H1 b:=fun b hb=>by
  have e:b=s1.heap.objs.size:=by simpa using hb
  subst e;exact I1.fpOk (zWE _) (I1.hok.fresh (zWE _))
 rcases h1 with ⟨⟨xs,hq⟩,q⟩|⟨⟨xs,hq⟩,q⟩
 ·obtain ⟨its,rv,pl,hz⟩:=I1.list hq;exact wpAny_pyIter_list pl.isList ⟨s1.heap.objs.size,[s1.heap.objs.size],_,_,H1,rfl,I1.kept (t':=s1.toks) fun b o e=>zV9 _ e,zNp a _,⟨_,zWI _ rfl,rfl,rfl⟩,fpk,q⟩
 ·obtain ⟨its,rv,pl,hz⟩:=I1.tuple hq;exact wpAny_pyIter_tuple (show s1.heap.IsTuple a its.toArray from pl) ⟨s1.heap.objs.size,[s1.heap.objs.size],_,_,H1,rfl,I1.kept (t':=s1.toks) fun b o e=>zV9 _ e,zMj a _,⟨_,zWI _ rfl,rfl,rfl⟩,fpk,q⟩
def zDA (x:EV) (xs:List D):Option (Mem->Prop):=match x with
 |.dat (.ref n)=>some fun M=>M[n]?=some (.lst xs)\/M[n]?=some (.fro xs)
 |_=>none
def zr (f:FE):FI:=fun σ M=>match f σ M with
 |some (x,M1)=>match zAF M1 x with
  |some xs=>some (xs,zDA x xs,M1)
  |none=>none
 |none=>none
def zAM (f:FA):FI:=fun σ M=>match f σ M with
 |some ([.int j],M1)=>if -(2 ^ 62)<=j/\j<2 ^ 62 then some ((List.range j.toNat).map fun (k:Nat)=>D.int k,none,M1) else none
 |some ([.int i,.int j],M1)=>if -(2 ^ 62)<=i/\i<2 ^ 62 /\ -(2 ^ 62)<=j/\j<2 ^ 62 then some ((List.range (j-i).toNat).map fun (k:Nat)=>D.int (i+k),none,M1) else none
 |_=>none
theorem zT1 (h:QE X e g):QI X tg e (zr g):=.mk <| PI.imp (zTb h.un) fun τ H R zz=>by
 obtain ⟨L,σ,M,xs,gd,M',c,rs,hf,q⟩:=zz;unfold zr at hf;split at hf
 ·rename_i y M1 e1;split at hf
  ·rename_i zs e2;cases hf;refine ⟨L,σ,M,_,_,c,rs,e1,fun L1 H1 v s1 c1 r1=>?_⟩;unfold zAF at e2;cases t:zBc y with
   |some ws=>
    rw[t]at e2;cases e2;obtain ⟨a,vs,rfl,e3,r3⟩:=zBS r1 t;refine ⟨a,rfl,.inr ⟨⟨vs,.of e3⟩,q L1 H1 _ s1 c1 fun L2 H2 M2 s2 c2 _=>?_⟩⟩;have e4:=s2.tup a vs e3;have r4:=r3.stp s2;refine ⟨fun i d hd=>?_,⟨vs,.of e4,by rw[r4.length];exact zWE _⟩⟩;obtain ⟨u,hu,ru⟩:=r4.get hd;refine ⟨⟨vs,u,.of e4,hu⟩,fun v H3 ⟨hH,hv⟩=>?_⟩;subst hH;have:=hv vs (.of e4);rw[hu]at this;cases this;exact ⟨fun _ _ z=>z,ru⟩
   |none=>
    rw[t]at e2;obtain ⟨a,vs,rfl,e3,r3⟩:=zA6 c1 r1 e2;refine ⟨a,rfl,.inl ⟨⟨vs,.inl e3⟩,q L1 H1 _ s1 c1 fun L2 H2 M2 s2 c2 hgd=>?_⟩⟩;have key:∃ vs',SqL X.K H2 a vs'/\zP L2 H2 xs vs':=by
     cases y with
     |fl ys=>
      cases e2;obtain ⟨p',vs',hp',_,e5,e6,r6⟩:=r1;cases hp';exact ⟨vs',.of (s2.old _ _ e5 e6),r6.stp s2⟩
     |dat d=>
      cases d with
      |ref n=>
       unfold zg Rep at r1;obtain ⟨a',ha',e5⟩:=r1;cases ha';have e6:L2[n]?=some a:=by obtain ⟨N,hN⟩:=s2.pre;rw[hN];exact zB0 e5
       rcases hgd with z|z
       ·obtain ⟨vs',e7,r7⟩:=c2.obj n a _ e6 z;exact ⟨vs',.of e7,r7⟩
       ·obtain ⟨o,vs',e7,r7⟩:=c2.obj n a _ e6 z;exact ⟨vs',.inl (.inr ⟨o,e7⟩),r7⟩
      |_=>cases e2
    obtain ⟨vs',hq,r7⟩:=key;refine ⟨fun i d hd=>?_,⟨vs',hq,by rw[r7.length];exact zWE _⟩⟩;obtain ⟨u,hu,ru⟩:=r7.get hd;refine ⟨⟨vs',u,hq,hu⟩,fun v H3 ⟨hH,hv⟩=>?_⟩;subst hH;have:=hv vs' hq;rw[hu]at this;cases this;exact ⟨fun _ _ z=>z,ru⟩
  ·cases hf
 ·cases hf
theorem zEO (h:zP L H [.int j] vs):vs=[.int j]:=by
 unfold zP at h;obtain ⟨v,r,rfl,h1,h2⟩:=h;unfold zP at h2;unfold Rep at h1;subst h1 h2;rfl
theorem zOd (h:zP L H [.int i,.int j] vs):vs=[.int i,.int j]:=by
 unfold zP at h;obtain ⟨v,r,rfl,h1,h2⟩:=h;unfold Rep at h1;rw[zEO h2,h1]
theorem zKt {K:PySem.W.Frag} {L:List Addr} {H:Hp} {lo:Int} {n:Nat}:zUM K (Itr lo n) L H ((List.range n).map fun (k:Nat)=>D.int (lo+k)) none:=by
 intro L' H' M' s c _;refine ⟨fun i d hd=>?_,by simp[Itr]⟩;rw[zWV]at hd;cases q:(List.range n)[i]? with
 |none=>rw[q]at hd;cases hd
 |some k=>
  rw[q]at hd;cases hd;have hi:i<n:=by have:=(zWB.mp q).1;simpa using this
  rw[zYC hi]at q;cases q;refine ⟨hi,fun v H'' ⟨hH,hv⟩=>?_⟩;subst hH hv;exact ⟨fun _ _ z=>z,zAk⟩
theorem zNt {tg a:Expr} {g:FA} (hg:Gl X "range") (hm:X.mg "range" = none) (ha:QA X [a] g) (hl:zPc g 1) (hs:starEach [a] X.env=[(false,eval a X.env)]:=by rfl):QI X tg (.Call (.Name "range" p) [a] [] pos) (zAM g) :=
 .mk <| PI.imp (zOL hg hm ha.un hs) fun τ H R zz=>by
  obtain ⟨L,σ,M,xs,gd,M',c,rs,hf,q⟩:=zz;unfold zAM at hf;split at hf
  ·rename_i j M1 e1;split at hf
   ·rename_i hb;cases hf;refine ⟨L,σ,M,_,_,c,rs,e1,fun L1 H1 vs s1 c1 r1=>⟨j,zEO r1,hb.1,hb.2,q L1 H1 _ s1 c1 ?_⟩⟩;have z:=zKt (K:=X.K) (L:=L1) (H:=H1) (lo:=0) (n:=j.toNat);simpa using z
   ·cases hf
  ·rename_i e1;have:=hl _ _ _ _ e1;simp at this
  ·cases hf
theorem zOK (hg:Gl X "range") (hm:X.mg "range" = none) (ha:QA X [a,b] g) (hl:zPc g 2) (hs:starEach [a,b] X.env=[(false,eval a X.env),(false,eval b X.env)]:=by rfl) (hs2:starEach [b] X.env=[(false,eval b X.env)]:=by rfl):QI X tg (.Call (.Name "range" p) [a,b] [] pos) (zAM g) :=
 .mk <| PI.imp (zNl hg hm ha.un hs hs2) fun τ H R zz=>by
  obtain ⟨L,σ,M,xs,gd,M',c,rs,hf,q⟩:=zz;unfold zAM at hf;split at hf
  ·rename_i e1;have:=hl _ _ _ _ e1;simp at this
  ·rename_i i j M1 e1;split at hf
   ·rename_i hb;cases hf;exact ⟨L,σ,M,_,_,c,rs,e1,fun L1 H1 vs s1 c1 r1=>⟨i,j,zOd r1,hb,q L1 H1 _ s1 c1 zKt⟩⟩
   ·cases hf
  ·cases hf
end
section
variable {X:Cx} {a b c e:Expr} {es rest:List Expr} {pos p apos cpos:Pos}
def zDg (f g:FT):FT:=fun σ M=>match f σ M with
 |some (true,M1)=>g σ M1
 |r=>r
def zHu (f g:FT):FT:=fun σ M=>match f σ M with
 |some (false,M1)=>g σ M1
 |r=>r
def zF1 (f:FT):FT:=fun σ M=>match f σ M with
 |some (k,M1)=>some (!k,M1)
 |none=>none
structure QW (X:Cx) (e:Expr) (f:FT):Prop where
 un:PW X e (trT X.K f)
theorem PW.imp (h:PW X e t) (hi:∀ τ H Q,t' τ H Q->t τ H Q):PW X e t':=fun wh zB s σ H Q I q=>h wh zB s σ H Q I (hi _ _ _ q)
theorem zSM (h:QT X a f):QW X (.BoolOp .And [a] pos) f:=.mk (zQz h.un)
theorem zTS (h:QT X a f):QW X (.BoolOp .Or [a] pos) f:=.mk (zSl h.un)
theorem zSc (h1:QT X a f) (h2:QW X (.BoolOp .And (b::rest) pos) g):QW X (.BoolOp .And (a::b::rest) pos) (zDg f g):=.mk <| PW.imp (zTJ h1.un h2.un) fun τ H Q zz=>by
 obtain ⟨L,σ,M,d,M',c,rs,hf,q⟩:=zz;unfold zDg at hf;split at hf
 ·rename_i M1 e1;exact ⟨L,σ,M,_,_,c,rs,e1,fun L1 H1 s1 c1=>zHy ⟨L1,σ,M1,_,_,c1,rs.stp s1,hf,fun L2 H2 s2 c2=>q L2 H2 (s1.trans s2) c2⟩⟩
 ·rename_i hne;cases d with
  |true=>exact absurd hf (hne M')
  |false=>exact ⟨L,σ,M,_,_,c,rs,hf,fun L1 H1 s1 c1=>zHl (q L1 H1 s1 c1)⟩
theorem zVX (h1:QT X a f) (h2:QW X (.BoolOp .Or (b::rest) pos) g):QW X (.BoolOp .Or (a::b::rest) pos) (zHu f g):=.mk <| PW.imp (zUs h1.un h2.un) fun τ H Q zz=>by
 obtain ⟨L,σ,M,d,M',c,rs,hf,q⟩:=zz;unfold zHu at hf;split at hf
 ·rename_i M1 e1;exact ⟨L,σ,M,_,_,c,rs,e1,fun L1 H1 s1 c1=>zHl ⟨L1,σ,M1,_,_,c1,rs.stp s1,hf,fun L2 H2 s2 c2=>q L2 H2 (s1.trans s2) c2⟩⟩
 ·rename_i hne;cases d with
  |false=>exact absurd hf (hne M')
  |true=>exact ⟨L,σ,M,_,_,c,rs,hf,fun L1 H1 s1 c1=>zHy (q L1 H1 s1 c1)⟩
theorem zU8 (h:QW X e f):QT X e f:=.mk (PW.pt h.un)
theorem zTu (h:QT X a f):QT X (.UnaryOp .Not a pos) (zF1 f):=.mk <| PT.imp (zSy h.un) fun τ H Q zz=>by
 obtain ⟨L,σ,M,d,M',c,rs,hf,q⟩:=zz;unfold zF1 at hf;split at hf
 ·rename_i k M1 e1;cases hf;exact ⟨L,σ,M,_,_,c,rs,e1,fun L1 H1 s1 c1=>q L1 H1 s1 c1⟩
 ·cases hf
def vIf (t:FT) (f g:FE):FE:=fun σ M=>match t σ M with
 |some (true,M1)=>f σ M1
 |some (false,M1)=>g σ M1
 |none=>none
theorem zRX (hc:QT X c t) (h1:QE X a f) (h2:QE X b g):QE X (.IfExp c a b pos) (vIf t f g):=.mk <| PE.imp (zQE hc.un h1.un h2.un) fun τ H Q zz=>by
 obtain ⟨L,σ,M,d,M',c,rs,hf,q⟩:=zz;unfold vIf at hf;split at hf
 ·rename_i M1 e1;exact ⟨L,σ,M,_,_,c,rs,e1,fun L1 H1 s1 c1=>zHy ⟨L1,σ,M1,_,_,c1,rs.stp s1,hf,fun L2 H2 w s2 c2 r2=>q L2 H2 w (s1.trans s2) c2 (r2.back s1 c s2.sub)⟩⟩
 ·rename_i M1 e1;exact ⟨L,σ,M,_,_,c,rs,e1,fun L1 H1 s1 c1=>zHl ⟨L1,σ,M1,_,_,c1,rs.stp s1,hf,fun L2 H2 w s2 c2 r2=>q L2 H2 w (s1.trans s2) c2 (r2.back s1 c s2.sub)⟩⟩
 ·cases hf
abbrev KM:=EV->List D->Mem->Option (D × Mem)
def fM (k:KM) (f:FE) (g:FA):FE:=fun σ M=>match f σ M with
 |some (x,M1)=>match zBW M1 x with
  |some _=>match g σ M1 with
   |some (ds,M2)=>match k x ds M2 with
    |some (d,M3)=>some (.dat d,M3)
    |none=>none
   |none=>none
  |none=>none
 |none=>none
def zPZ (K:PySem.W.Frag) (r:V->List V->Hp->VK->Prop) (k:KM):Prop:=∀ {L:List Addr} {M M':Mem} {H H0:Hp} {x:EV} {ds:List D} {d:D} {v:V} {vs:List V} {Q:VK},Cor K L M H->zg H0 L H x v->zP L H ds vs->k x ds M=some (d,M') ->
 (∀ L' H' u,Stp L H L' H'->Cor K L' M' H'->Rep L' H' d u->Q u H')->r v vs H Q
theorem zJG {K:PySem.W.Frag} {r:V->List V->Hp->VK->Prop} {k:KM} {f:FE} {g:FA} (hk:zPZ K r k) {τ:Sv} {H:Hp} {Q:VK} (h:trE K (fM k f g) τ H Q):tBM K "list" r (trE K f) (trA K g) τ H Q:=by
 obtain ⟨L,σ,M,d,M',c,rs,hf,q⟩:=h;unfold fM at hf;split at hf
 ·rename_i x M1 e1;split at hf
  ·rename_i xs e2;split at hf
   ·rename_i ds M2 e3;split at hf
    ·rename_i d' M3 e4;cases hf;refine ⟨L,σ,M,_,_,c,rs,e1,fun L1 H1 v s1 c1 r1=>?_⟩;obtain ⟨a,vs,rfl,e5,r5⟩:=zA6 c1 r1 e2;refine ⟨.inl ⟨rfl,vs,.inl e5⟩,L1,σ,M1,_,_,c1,rs.stp s1,e3,fun L2 H2 ws s2 c2 r2=>?_⟩;exact hk c2 (r1.stp s2) r2 e4 fun L3 H3 u s3 c3 r3=>q L3 H3 u ((s1.trans s2).trans s3) c3 r3
    ·cases hf
   ·cases hf
  ·cases hf
 ·cases hf
def zAP:KM:=fun x ds M=>match x,ds with
 |.dat (.ref n),[d]=>match M[n]? with
  |some (.lst xs)=>if xs.length<sizeLine then some (.non,M.set n (.lst (xs++[d]))) else none
  |_=>none
 |_,_=>none
theorem zP.one (h:zP L H [d] vs):∃ v,vs=[v]/\Rep L H d v:=by
 unfold zP at h;obtain ⟨v,r,rfl,h1,h2⟩:=h;unfold zP at h2;subst h2;exact ⟨v,rfl,h1⟩
theorem zMR {K:PySem.W.Frag}:zPZ K zNH zAP:=by
 intro L M M' H H0 x ds d v vs Q c rx rd hk q;unfold zAP at hk;split at hk
 ·rename_i n d';split at hk
  ·rename_i xs e1;split at hk
   ·rename_i hz;cases hk;unfold zg Rep at rx;obtain ⟨a,rfl,e2⟩:=rx;obtain ⟨ws,e3,r3⟩:=c.obj n a _ e2 e1;obtain ⟨w,rfl,r4⟩:=rd.one;obtain ⟨c5,s5⟩:=c.write e2 e1 (r3.app (.cons r4 .nil));exact ⟨a,ws,w,rfl,rfl,e3,by rw[r3.length];exact hz,q L _ _ s5 c5 (by unfold Rep;rfl)⟩
   ·cases hk
  ·cases hk
 ·cases hk
theorem zP8 (h:QE X a f) (hg:QA X [e] g) (hbase:attributeBase a "append" X.env (eval a X.env)=eval a X.env:=by rfl)
  (hfew:((backTo cpos (starEach [e] X.env)).all (fun x=> !x.1)&&(backToKw cpos (keywordEach [] X.env)).all (fun x=>x.1.isSome)&&decide ([e].length+([]:List Keyword).length+(if ([]:List Keyword).isEmpty then 0 else 1)<30))=true:=by rfl)
  (hline:(apos.endLine==cpos.line)=true:=by rfl) (hs:starEach [e] X.env=(false,eval e X.env)::starEach [] X.env:=by rfl) (hplain:(backTo cpos (starEach [] X.env)).any (·.1)=false:=by rfl) :
  QE X (.Call (.Attribute a "append" apos) [e] [] cpos) (fM zAP f g) :=
 .mk <| PE.imp (zMn PySem.F.plainAttrs_list PySem.F.slot_list_append PySem.F.type_list_append zNP h.un hg.un hbase hfew hline hs hplain) fun _ _ _ z=>zJG zMR z
def zHp:KM:=fun x ds M=>match x,ds with
 |.dat (.ref n),[.int i]=>match M[n]? with
  |some (.lst xs)=>match ixN xs.length i with
   |some k=>match xs[k]? with
    |some d=>if -(2 ^ 63)<=i/\i<2 ^ 63 then some (d,M.set n (.lst (xs.eraseIdx k))) else none
    |none=>none
   |none=>none
  |_=>none
 |_,_=>none
theorem zR7 {K:PySem.W.Frag}:zPZ K zQd zHp:=by
 intro L M M' H H0 x ds d v vs Q c rx rd hk q;unfold zHp at hk;split at hk
 ·rename_i n i;split at hk
  ·rename_i xs e1;split at hk
   ·rename_i k e2;split at hk
    ·rename_i d' e3;split at hk
     ·rename_i hb;cases hk;unfold zg Rep at rx;obtain ⟨a,rfl,e4⟩:=rx;obtain ⟨ws,e5,r5⟩:=c.obj n a _ e4 e1;obtain ⟨u,e6,r6⟩:=r5.get e3;obtain ⟨c5,s5⟩:=c.write e4 e1 (r5.eraseIdx k);exact ⟨a,ws,i,k,u,rfl,zEO rd,e5,hb.1,hb.2,by rw[r5.length];exact (zJJ e2).1,e6,q L _ _ s5 c5 (r6.stp s5)⟩
     ·cases hk
    ·cases hk
   ·cases hk
  ·cases hk
 ·cases hk
theorem zU0 (h:QE X a f) (hg:QA X [e] g) (hbase:attributeBase a "pop" X.env (eval a X.env)=eval a X.env:=by rfl)
  (hfew:((backTo cpos (starEach [e] X.env)).all (fun x=> !x.1)&&(backToKw cpos (keywordEach [] X.env)).all (fun x=>x.1.isSome)&&decide ([e].length+([]:List Keyword).length+(if ([]:List Keyword).isEmpty then 0 else 1)<30))=true:=by rfl)
  (hline:(apos.endLine==cpos.line)=true:=by rfl) (hs:starEach [e] X.env=(false,eval e X.env)::starEach [] X.env:=by rfl) (hplain:(backTo cpos (starEach [] X.env)).any (·.1)=false:=by rfl) :
  QE X (.Call (.Attribute a "pop" apos) [e] [] cpos) (fM zHp f g) :=
 .mk <| PE.imp (zMn PySem.F.plainAttrs_list PySem.F.slot_list_pop PySem.F.type_list_pop zPn h.un hg.un hbase hfew hline hs hplain) fun _ _ _ z=>zJG zR7 z
def zKX (x:EV) (i:D) (d:D) (M:Mem):Option Mem:=match x,i with
 |.dat (.ref n),.int i=>match M[n]? with
  |some (.lst xs)=>match ixN xs.length i with
   |some j=>some (M.set n (.lst (xs.set j d)))
   |none=>none
  |_=>none
 |_,_=>none
def zME (fv fo fi:FE):FS:=fun σ M=>match toD fv σ M with
 |some (d,M1)=>match fo σ M1 with
  |some (x,M2)=>match toD fi σ M2 with
   |some (i,M3)=>match zKX x i d M3 with
    |some M4=>some (.nx,σ,M4)
    |none=>none
   |none=>none
  |none=>none
 |none=>none
theorem zQM (hv:QE X v fv) (ho:QE X o fo) (hi:QE X i fi)
  (ha:∀ v,assign (.Subscript o i p) X.env v=(do
   let ov <- holding [v] (eval o X.env);let iv <- holding [v,ov] (eval i X.env);standAt p;holding [v,ov,iv] (setItem ov iv v);release [v,ov,iv] []):=by intro _;rfl)
  (hs:swapsWithSole [.Subscript o i p] v pos.line X.env=pure false:=by rfl) (hw:swappedStores [.Subscript o i p] v X.env=pure none:=by rfl) (h1:(assignEach [.Subscript o i p] X.env).map (·.2)=[assign (.Subscript o i p) X.env]:=by rfl) :
  QS X (.Assign [.Subscript o i p] v pos) (zME fv fo fi):=.mk <| PS.imp (zPe (zBn hv).un (zT3 ho.un (zBn hi).un zP4 ha) hs hw h1) fun E τ H zz=>by
 obtain ⟨L,σ,M,out,σ',M',c,rs,hf,q⟩:=zz;unfold zME at hf;split at hf
 ·rename_i d M1 e1;split at hf
  ·rename_i x M2 e2;split at hf
   ·rename_i j M3 e3;split at hf
    ·rename_i M4 e4;cases hf;refine ⟨L,σ,M,_,_,c,rs,e1,fun L1 H1 u s1 c1 r1=>⟨L1,σ,M1,_,_,c1,rs.stp s1,e2,fun L2 H2 w s2 c2 r2=>⟨L2,σ,M2,_,_,c2,rs.stp (s1.trans s2),e3,fun L3 H3 z s3 c3 r3=>?_⟩⟩⟩;have st:=(s1.trans s2).trans s3;unfold zKX at e4;split at e4
     ·rename_i n k;split at e4
      ·rename_i xs e5;split at e4
       ·rename_i m e6;cases e4;have r2':=r2.stp s3;unfold zg Rep at r2';obtain ⟨a,rfl,e7⟩:=r2';obtain ⟨ws,e8,r8⟩:=c3.obj n a _ e7 e5;obtain ⟨c9,s9⟩:=c3.write e7 e5 (zP.set ((r1.stp s2).stp s3) m r8);exact ⟨a,ws,k,m,rfl,by unfold Rep at r3;exact r3,e8,by rw[r8.length];exact e6,q L3 _ (st.trans s9) c9 τ ((rs.stp st).stp s9)⟩
       ·cases e4
      ·cases e4
     ·cases e4
    ·cases hf
   ·cases hf
  ·cases hf
 ·cases hf
def zIE:D->Option V
 |.non=>some .non
 |.bl k=>some (.bl k)
 |.int i=>some (.int i)
 |.str x=>some (.str x)
 |_=>none
theorem zE5 (h:Rep L H d v) (e:zIE d=some u):v=u:=by
 cases d with
 |non=>cases e;unfold Rep at h;exact h
 |bl _=>cases e;unfold Rep at h;exact h
 |int _=>cases e;unfold Rep at h;exact h
 |str _=>cases e;unfold Rep at h;exact h
 |tup _=>cases e
 |ref _=>cases e
def zMT (neg:Bool):K2:=fun x y M=>match x,y with
 |.dat d,.dat d'=>match zIE d,zIE d' with
  |some u,some w=>if zQw u w then some (.dat (.bl (if neg then !decide (u=w) else decide (u=w))),M) else none
  |_,_=>none
 |_,_=>none
theorem zIe (h:zMT neg x y M=some (r,M')):∃ d d' u w,x=.dat d/\y=.dat d'/\zIE d=some u/\zIE d'=some w/\zQw u w=true/\r=.dat (.bl (if neg then !decide (u=w) else decide (u=w)))/\M'=M:=by
 unfold zMT at h;split at h
 ·rename_i d d';split at h
  ·rename_i u w e1 e2;split at h
   ·rename_i hs;cases h;exact ⟨d,d',u,w,rfl,rfl,e1,e2,hs,rfl,rfl⟩
   ·cases h
  ·cases h
 ·cases h
theorem zM3 {K:PySem.W.Frag}:zCV K rEq (zMT false):=by
 intro L M M' H H0 x y d v w Q c rx ry hk q;obtain ⟨d1,d2,u,z,rfl,rfl,e1,e2,hs,rfl,rfl⟩:=zIe hk;have a1:=zE5 rx e1;have a2:=zE5 ry e2;subst a1 a2;exact ⟨hs,q L H _ (.refl L H) c (zBk (L:=L) (H:=H))⟩
theorem zQv {K:PySem.W.Frag}:zCV K rNe (zMT true):=by
 intro L M M' H H0 x y d v w Q c rx ry hk q;obtain ⟨d1,d2,u,z,rfl,rfl,e1,e2,hs,rfl,rfl⟩:=zIe hk;have a1:=zE5 rx e1;have a2:=zE5 ry e2;subst a1 a2;exact ⟨hs,q L H _ (.refl L H) c (zBk (L:=L) (H:=H))⟩
def zTH (neg:Bool) (K:PySem.W.Frag):R2:=fun x y H Q=>∃ p q xs,x=.ref p/\y=.ref q/\SqL K H p xs/\SqL K H q []/\Q (.bl (if neg then !xs.isEmpty else xs.isEmpty)) H
theorem zI1 (r:ze [] its):its=[]:=by cases r;rfl
theorem zLW (hu:X.A.units<cLine):OpR X (compareOp .Eq) (zTH false X.K):=by
 intro zB s σ H x y v u Q I rx ry h;obtain ⟨p,q,xs,rfl,rfl,h1,h2,hq⟩:=h;cases rx;cases ry;obtain ⟨its,rv,pl,_⟩:=I.list h1;obtain ⟨its2,rv2,pl2,_⟩:=I.list h2;cases zI1 rv2;cases rv with
 |nil=>exact SeqAt.eq_listAt (e:=fun _=>true) pl.isList pl2.isList rfl hu (fun j h1=>by simp at h1) ⟨.bl true,H,I,rfl,hq⟩
 |cons _ _=>exact SeqAt.eq_list_lengthsAt pl.isList pl2.isList (by simp) hu ⟨.bl false,H,I,rfl,hq⟩
theorem zO9 (hu:X.A.units<cLine):OpR X (compareOp .NotEq) (zTH true X.K):=by
 intro zB s σ H x y v u Q I rx ry h;obtain ⟨p,q,xs,rfl,rfl,h1,h2,hq⟩:=h;cases rx;cases ry;obtain ⟨its,rv,pl,_⟩:=I.list h1;obtain ⟨its2,rv2,pl2,_⟩:=I.list h2;cases zI1 rv2;cases rv with
 |nil=>exact SeqAt.RcNeAt.lists (e:=fun _=>true) pl.isList pl2.isList rfl hu (fun j h1=>by simp at h1) _ _ _ _ ⟨.bl false,H,I,rfl,hq⟩
 |cons _ _=>exact SeqAt.RcNeAt.lists_lengths pl.isList pl2.isList (by simp) hu _ _ _ _ ⟨.bl true,H,I,rfl,hq⟩
def zPI (neg:Bool):K2:=fun x y M=>match zBW M x,zBW M y with
 |some xs,some []=>some (.dat (.bl (if neg then !xs.isEmpty else xs.isEmpty)),M)
 |_,_=>none
theorem zJq {K:PySem.W.Frag} {neg:Bool}:zCV K (zTH neg K) (zPI neg):=by
 intro L M M' H H0 x y d v w Q c rx ry hk q;unfold zPI at hk;split at hk
 ·rename_i xs e1 e2;cases hk;obtain ⟨p1,vs,rfl,h1,r1⟩:=zA6 c rx e1;obtain ⟨p2,ws,rfl,h2,r2⟩:=zA6 c ry e2;unfold zP at r2;subst r2;refine ⟨p1,p2,vs,rfl,rfl,.inl h1,.inl h2,q L H _ (.refl L H) c ?_⟩;have:vs.isEmpty=xs.isEmpty:=by
   have:=r1.length;cases vs <;> cases xs <;> simp_all
  rw[this];exact (zBk (L:=L) (H:=H))
 ·cases hk
def kOr (k1 k2:K2):K2:=fun x y M=>match k1 x y M with
 |some r=>some r
 |none=>k2 x y M
theorem zJ4 {K:PySem.W.Frag} {r1 r2:R2} {k1 k2:K2} (h1:zCV K r1 k1) (h2:zCV K r2 k2):zCV K (fun x y H Q=>r1 x y H Q\/r2 x y H Q) (kOr k1 k2):=by
 intro L M M' H H0 x y d v w Q c rx ry hk q;unfold kOr at hk;split at hk
 ·rename_i r e1;cases hk;exact .inl (h1 c rx ry e1 q)
 ·exact .inr (h2 c rx ry hk q)
abbrev kEq:K2:=kOr (zMT false) (zPI false)
abbrev kNe:K2:=kOr (zMT true) (zPI true)
variable {f g:FE}
theorem zVu (hu:X.A.units<cLine) (h1:QE X a f) (h2:QE X b g):QE X (.Compare a [.Eq] [b] pos) (fOp kEq f g):=zUN (zJ4 zM3 zJq) (zSU.or (zLW hu)) h1 h2 (zDO _)
theorem zUX (hu:X.A.units<cLine) (h1:QE X a f) (h2:QE X b g):QT X (.Compare a [.Eq] [b] pos) (tst (fOp kEq f g)):=zCg (zJ4 zM3 zJq) (zSU.or (zLW hu)) h1 h2 (zDO _)
theorem zUb (hu:X.A.units<cLine) (h1:QE X a f) (h2:QE X b g):QT X (.Compare a [.NotEq] [b] pos) (tst (fOp kNe f g)):=zCg (zJ4 zQv zJq) (zVC.or (zO9 hu)) h1 h2 (zDO _)
end
section
variable {X:Cx} {a b c e:Expr} {es rest:List Expr} {pos p apos cpos:Pos}
theorem zQl {prog:Program} {w:World} {A:Around} {E:Value->Shared->Prop} {s:Shared} {t b:Addr} {ws:List Value} {Q:Value->Shared->Prop} (ht:IsTup s.heap t #[]) (hb:IsTup s.heap b ws.toArray) (h1:Q (.ref b) s) :
  wpAny (model prog w) A (binaryOp .Add (.ref t) (.ref b)) Q E s:=by
 obtain ⟨⟨cls,dd,data,sl⟩,ho,hc,n,hd⟩:=id ht;obtain ⟨⟨cls2,dd2,data2,sl2⟩,ho2,hc2,n2,hd2⟩:=id hb;simp only at hc hd hc2 hd2;subst hc hd hc2 hd2
 exact concat_meets ⟨_,ho,rfl⟩ ⟨_,ho2,rfl⟩ noFill_tuple_add seq_tuple_add PySem.F.slot_tuple_add PySem.F.entry_tuple_add (PySem.F.args_tuple_add_2 _ _)
   (tuple_addW0 t b #[] ws.toArray n n2 dd dd2 sl sl2 (by simp)) ⟨ho,ho2,h1⟩
def zPQ (K:PySem.W.Frag):R2:=fun x y H Q=>∃ a b ys,x=.ref a/\y=.ref b/\SqT K H a []/\SqT K H b ys/\Q (.ref b) H
theorem zP3:OpR X (binaryOp .Add) (zPQ X.K):=by
 intro zB s σ H x y v u Q I rx ry h;obtain ⟨a,b,ys,rfl,rfl,ha,hb,q⟩:=h;cases rx;cases ry;obtain ⟨its,r1,p1,_⟩:=I.tuple ha;obtain ⟨its2,r2,p2,_⟩:=I.tuple hb;cases zI1 r1;exact zQl p1 p2 ⟨.ref b,H,I,rfl,q⟩
def zKT:K2:=fun x y M=>match zBc x,zBc y with
 |some xs,some ys=>if xs.length+ys.length<=sizeLine then some (.dat (.tup (xs++ys)),M) else none
 |_,_=>none
theorem zPi {K:PySem.W.Frag}:zCV K (fun x y H Q=>zSb K x y H Q\/zPQ K x y H Q) zKT:=by
 intro L M M' H H0 x y d v w Q c rx ry hk q;unfold zKT at hk;split at hk
 ·rename_i xs ys e1 e2;split at hk
  ·rename_i hz;cases hk;obtain ⟨p1,vs,rfl,h1,r1⟩:=zBS rx e1;obtain ⟨p2,ws,rfl,h2,r2⟩:=zBS ry e2;cases xs with
   |nil=>
    refine .inr ⟨p1,p2,ws,rfl,rfl,.of (by unfold zP at r1;subst r1;exact h1),.of h2,q L H _ (.refl L H) c ?_⟩;unfold zg Rep;exact ⟨p2,ws,rfl,h2,r2⟩
   |cons x0 xr=>
    have hv:vs≠[]:=fun z=>by have:=r1.length;rw[z]at this;simp at this
    refine .inl ⟨p1,p2,vs,ws,rfl,rfl,.of h1,.of h2,hv,by rw[r1.length,r2.length];exact hz,fun z=>?_,fun z pp hp=>?_⟩
    ·have:ys=[]:=by
      have:=r2.length;rw[z]at this;cases ys with
      |nil=>rfl
      |cons _ _=>simp at this
     subst this;refine q L H _ (.refl L H) c ?_;unfold zg Rep;rw[zWs];exact ⟨p1,vs,rfl,h1,r1⟩
    ·exact q L _ _ (.upd hp) (c.upd hp) (Rep.newTup hp (r1.app r2))
  ·cases hk
 ·cases hk
abbrev zAS:K2:=kOr zVo zKT
variable {f g:FE}
theorem zTm (h1:QE X a f) (h2:QE X b g):QE X (.BinOp a .Add b pos) (fOp zAS f g):=zKs (zJ4 (zFY fun _ _ _ _=>zAk) zPi) (zTi.or (zSC.or zP3)) h1 h2
def isT (t T:String):Bool:=decide (t=T)||(decide (t = "bool")&&decide (T = "int"))
theorem zP.two (h:zP L H [d,d'] vs):∃ v v',vs=[v,v']/\Rep L H d v/\Rep L H d' v':=by
 unfold zP at h;obtain ⟨v,r,rfl,h1,h2⟩:=h;obtain ⟨v',rfl,h3⟩:=h2.one;exact ⟨v,v',rfl,h1,h3⟩
section
variable {fa:FAE}
theorem zUw (hg:Gl X "len") (hm:X.mg "len" = none) (ha:QAE X [e] fa) (he:starEach [e] X.env=(false,eval e X.env)::starEach [] X.env:=by rfl) (hpl:(backTo pos (starEach [] X.env)).any (·.1)=false:=by rfl):QE X (.Call (.Name "len" p) [e] [] pos) (fB zBD fa) :=
 zE7 zSB zJs PySem.boot_len hg hm ha (by decide) (by decide) he hpl
theorem zSG (hg:Gl X "tuple") (hm:X.mg "tuple" = none) (ha:QAE X [e] fa) (he:starEach [e] X.env=(false,eval e X.env)::starEach [] X.env:=by rfl) (hpl:(backTo pos (starEach [] X.env)).any (·.1)=false:=by rfl):QE X (.Call (.Name "tuple" p) [e] [] pos) (fB zAo fa) :=
 zLU zNQ zH7 (by rfl) hg hm ha (by decide) (by decide) he hpl
end
end
def zFF (sc scope:Scope):Bool:=scope.names.all fun y=>
 (y.2 != .local||scope.names.lookup y.1==some .local)&&(y.2 != .cell||scope.names.lookup y.1==some .cell)&&(y.2 != .free||(sc.names.lookup y.1==some .cell||sc.names.lookup y.1==some .free))
def zGU (N:List Str) (scope:Scope) (own:List Nat):Bool:=(List.range N.length).all fun i=>match N[i]? with
 |some x=>decide (i∈own)||(scope.names.lookup x==none)||(scope.names.lookup x==some .free)
 |none=>true
theorem zIR (hk:scope.kind=.function) (hs:X.env.scope=sc) (hN:X.N=N) (h1:zFF sc scope=true) (h2:zGU N scope own=true):CompIn X scope own:=by
 unfold zFF at h1;rw[zWj]at h1;refine ⟨⟨hk,fun y hy e=>?_,fun y hy e=>?_,fun y hy e=>?_⟩,fun i x e=>?_⟩
 ·have:=h1 y hy;simp[e]at this;exact this
 ·have:=h1 y hy;simp[e]at this;exact this
 ·have:=h1 y hy;simp[e]at this;show X.env.scope.names.lookup y.1=_\/X.env.scope.names.lookup y.1=_;rw[hs];exact this
 ·unfold zGU at h2;rw[zWj]at h2;rw[hN]at e;have hi:i<N.length:=(zWB.mp e).1;have:=h2 i (by simpa using hi);rw[e]at this;simp only[Bool.or_eq_true,zXL,beq_iff_eq,or_assoc]at this;exact this
def zJy (K:PySem.W.Frag):Bool:=K.all fun p=>match p.2.cls with
 |.type n=>n != "list"
 |_=>true
theorem zLC:∀ {K:PySem.W.Frag},K.lookup a=some o->(a,o)∈K
 |[],h=>by cases h
 | (b,u)::r,h=>by
  have h':List.lookup a ((b,u)::r)=some o:=h;rw[zYD]at h';cases q:a==b with
  |true=>rw[q]at h';cases h';rw[beq_iff_eq.mp q];exact zWM
  |false=>rw[q]at h';exact zWL _ (zLC h')
theorem zNW {K:PySem.W.Frag} (h:zJy K=true) {o:Obj} (e:K.lookup a=some o) (hc:o.cls=.type "list"):False:=by
 unfold zJy at h;rw[zWj]at h;have:=h (a,o) (zLC e);simp[hc]at this
theorem zIq:∀ (ns:List Int),zP L H (ns.map D.int) (ns.map V.int)
 |[]=> .nil
 |n::r=> .cons (by unfold Rep;rfl) (zIq r)
theorem zOl {K:PySem.W.Frag} {m:FF} {H:Hp} {a:Addr} {ns:List Int} {E:XK} (hL:zJy K=true) (hO:zR0 H) (hS:SqL K H a (ns.map V.int)) (h:∃ M',m [.ref 0] [.fro (ns.map D.int)]=some (.bl true,M')) :
  spF K 1 m [.ref a] H (fun v _=>v=.bl true) E:=by
 obtain ⟨M',e⟩:=h;have hf:∃ o,H a=some (.frz o (.lst (ns.map V.int))):=by
  rcases hS with (h1|h1)|⟨o,its,n,h1,h2,_⟩
  ·rcases hO a with z|⟨o,xs,z⟩
   ·rw[h1]at z;cases z
   ·rw[h1]at z;cases z
  ·exact h1
  ·exact (zNW hL h1 h2).elim
 obtain ⟨o,hf⟩:=hf;refine ⟨[a],[.ref 0],[.fro (ns.map D.int)],_,_,⟨rfl,by simp,fun n b m e1 e2=>?_⟩,.cons ?_ .nil,rfl,e,fun L' H' v s c r=>?_⟩
 ·cases n with
  |zero=>simp at e1 e2;subst e1;subst e2;exact ⟨o,_,hf,zIq ns⟩
  |succ n=>simp at e1
 ·unfold Rep;exact ⟨a,rfl,rfl⟩
 ·unfold Rep at r;exact r
def Ok {α:Type} (x:Option (α × Mem)) (P:α->Mem->Prop):Prop:=∃ a M,x=some (a,M)/\P a M
def OkS (x:Option (Out × Sd × Mem)) (P:Out->Sd->Mem->Prop):Prop:=∃ o σ M,x=some (o,σ,M)/\P o σ M
theorem Ok.mono {α:Type} {x:Option (α × Mem)} {P Q:α->Mem->Prop} (h:Ok x P) (hq:∀ a M,P a M->Q a M):Ok x Q:=let ⟨a,M,e,p⟩:=h;⟨a,M,e,hq a M p⟩
theorem OkS.mono {x:Option (Out × Sd × Mem)} {P Q:Out->Sd->Mem->Prop} (h:OkS x P) (hq:∀ o σ M,P o σ M->Q o σ M):OkS x Q:=let ⟨a,σ,M,e,p⟩:=h;⟨a,σ,M,e,hq a σ M p⟩
theorem zAG {α:Type} {a:α} {M:Mem} {P:α->Mem->Prop}:Ok (some (a,M)) P ↔ P a M:=⟨fun ⟨_,_,e,p⟩=>by cases e;exact p,fun p=>⟨a,M,rfl,p⟩⟩
theorem zFU {α:Type} {P:α->Mem->Prop}:Ok (none:Option (α × Mem)) P ↔ False:=⟨(fun ⟨_,_,e,_⟩=>(nomatch e)),fun h=>h.elim⟩
theorem zQn {o:Out} {σ:Sd} {M:Mem} {P:Out->Sd->Mem->Prop}:OkS (some (o,σ,M)) P ↔ P o σ M:=⟨fun ⟨_,_,_,e,p⟩=>by cases e;exact p,fun p=>⟨o,σ,M,rfl,p⟩⟩
section
variable {σ:Sd} {M:Mem} {f g:FE} {P:EV->Mem->Prop}
theorem zAb {i:Nat}:Ok (zC i σ M) P ↔ ∃ d,σ[i]?=some (some d)/\P (.dat d) M:=by
 unfold zC;constructor
 ·rintro ⟨a,M1,e,p⟩;split at e
  ·rename_i d e1;cases e;exact ⟨d,e1,p⟩
  ·cases e
 ·rintro ⟨d,e1,p⟩;rw[e1];exact ⟨_,_,rfl,p⟩
theorem zFS {d:D}:Ok (fC d σ M) P ↔ P (.dat d) M:=zAG
theorem zBQ {k:K2}:Ok (fOp k f g σ M) P ↔ Ok (f σ M) fun x M1=>Ok (g σ M1) fun y M2=>Ok (k x y M2) P:=by
 unfold fOp;constructor
 ·rintro ⟨a,M1,e,p⟩;split at e
  ·rename_i x M2 e1;split at e
   ·rename_i y M3 e2;exact ⟨x,M2,e1,y,M3,e2,a,M1,e,p⟩
   ·cases e
  ·cases e
 ·rintro ⟨x,M2,e1,y,M3,e2,a,M1,e,p⟩;rw[e1];dsimp only;rw[e2];exact ⟨a,M1,e,p⟩
def zGA (P:D->Mem->Prop):EV->Mem->Prop
 |.dat d,M=>P d M
 |.fl xs,M=>P (.ref M.length) (M++[.lst xs])
theorem zAU {P:D->Mem->Prop}:Ok (toD f σ M) P ↔ Ok (f σ M) (zGA P):=by
 unfold toD;constructor
 ·rintro ⟨a,M1,e,p⟩;split at e
  ·rename_i d M2 e1;cases e;exact ⟨_,_,e1,p⟩
  ·rename_i xs M2 e1;cases e;exact ⟨_,_,e1,p⟩
  ·cases e
 ·rintro ⟨x,M2,e1,p⟩;rw[e1];cases x with
  |dat d=>exact ⟨d,M2,rfl,p⟩
  |fl xs=>exact ⟨_,_,rfl,p⟩
theorem zI {P:D->Mem->Prop} {d:D} {M:Mem}:zGA P (.dat d) M ↔ P d M:=Iff.rfl
theorem zI9 {P:D->Mem->Prop} {xs:List D} {M:Mem}:zGA P (.fl xs) M ↔ P (.ref M.length) (M++[.lst xs]):=Iff.rfl
section
variable {P:List D->Mem->Prop}
theorem zAa:Ok (zH σ M) P ↔ P [] M:=zAG
theorem zm {f:FD} {g:FA}:Ok (zD f g σ M) P ↔ Ok (f σ M) fun d M1=>Ok (g σ M1) fun ds M2=>P (d::ds) M2:=by
 unfold zD;constructor
 ·rintro ⟨a,M1,e,p⟩;split at e
  ·rename_i x M2 e1;split at e
   ·rename_i y M3 e2;cases e;exact ⟨x,M2,e1,y,_,e2,p⟩
   ·cases e
  ·cases e
 ·rintro ⟨x,M2,e1,y,M3,e2,p⟩;rw[e1];dsimp only;rw[e2];exact ⟨_,_,rfl,p⟩
end
section
variable {P:List EV->Mem->Prop}
theorem zES:Ok (zo σ M) P ↔ P [] M:=zAG
theorem zDE {f:FE} {g:FAE}:Ok (zU f g σ M) P ↔ Ok (f σ M) fun d M1=>Ok (g σ M1) fun ds M2=>P (d::ds) M2:=by
 unfold zU;constructor
 ·rintro ⟨a,M1,e,p⟩;split at e
  ·rename_i x M2 e1;split at e
   ·rename_i y M3 e2;cases e;exact ⟨x,M2,e1,y,_,e2,p⟩
   ·cases e
  ·cases e
 ·rintro ⟨x,M2,e1,y,M3,e2,p⟩;rw[e1];dsimp only;rw[e2];exact ⟨_,_,rfl,p⟩
end
theorem zPV {a:FA}:Ok (zAr a σ M) P ↔ Ok (a σ M) fun ds M1=>ds.length<=sizeLine/\P (.dat (.tup ds)) M1:=by
 unfold zAr;constructor
 ·rintro ⟨x,M1,e,p⟩;split at e
  ·rename_i ds M2 e1;split at e
   ·rename_i hz;cases e;exact ⟨ds,_,e1,hz,p⟩
   ·cases e
  ·cases e
 ·rintro ⟨ds,M1,e1,hz,p⟩;rw[e1];dsimp only;rw[zWN hz];exact ⟨_,_,rfl,p⟩
theorem zDH {a:FA}:Ok (zAw a σ M) P ↔ Ok (a σ M) fun ds M1=>ds.length<=sizeLine/\P (.fl ds) M1:=by
 unfold zAw;constructor
 ·rintro ⟨x,M1,e,p⟩;split at e
  ·rename_i ds M2 e1;split at e
   ·rename_i hz;cases e;exact ⟨ds,_,e1,hz,p⟩
   ·cases e
  ·cases e
 ·rintro ⟨ds,M1,e1,hz,p⟩;rw[e1];dsimp only;rw[zWN hz];exact ⟨_,_,rfl,p⟩
theorem zNT {k:KB} {a:FAE}:Ok (fB k a σ M) P ↔ Ok (a σ M) fun xs M1=>Ok (k xs M1) P:=by
 unfold fB;constructor
 ·rintro ⟨x,M1,e,p⟩;split at e
  ·rename_i ds M2 e1;exact ⟨ds,_,e1,x,M1,e,p⟩
  ·cases e
 ·rintro ⟨ds,M1,e1,p⟩;rw[e1];exact p
theorem zAJ {m:FF} {a:FA}:Ok (zN m a σ M) P ↔ Ok (a σ M) fun ds M1=>Ok (m ds M1) fun d M2=>P (.dat d) M2:=by
 unfold zN;constructor
 ·rintro ⟨x,M1,e,p⟩;split at e
  ·rename_i ds M2 e1;split at e
   ·rename_i d M3 e2;cases e;exact ⟨ds,_,e1,d,_,e2,p⟩
   ·cases e
  ·cases e
 ·rintro ⟨ds,M1,e1,d,M2,e2,p⟩;rw[e1];dsimp only;rw[e2];exact ⟨_,_,rfl,p⟩
theorem zHM {k:KM} {a:FA}:Ok (fM k f a σ M) P ↔ Ok (f σ M) fun x M1=>(∃ xs,zBW M1 x=some xs)/\Ok (a σ M1) fun ds M2=>Ok (k x ds M2) fun d M3=>P (.dat d) M3:=by
 unfold fM;constructor
 ·rintro ⟨x,M1,e,p⟩;split at e
  ·rename_i y M2 e1;split at e
   ·rename_i xs e2;split at e
    ·rename_i ds M3 e3;split at e
     ·rename_i d M4 e4;cases e;exact ⟨y,_,e1,⟨xs,e2⟩,ds,_,e3,d,_,e4,p⟩
     ·cases e
    ·cases e
   ·cases e
  ·cases e
 ·rintro ⟨y,M1,e1,⟨xs,e2⟩,ds,M2,e3,d,M3,e4,p⟩;rw[e1];dsimp only;rw[e2];dsimp only;rw[e3];dsimp only;rw[e4];exact ⟨_,_,rfl,p⟩
section
variable {P:Option Int->Mem->Prop}
theorem zPy:Ok (zBm σ M) P ↔ P none M:=zAG
def zUi (P:Option Int->Mem->Prop):EV->Mem->Prop
 |.dat (.int i),M=>P (some i) M
 |_,_=>False
theorem zQW {i:Int} {M:Mem}:zUi P (.dat (.int i)) M ↔ P (some i) M:=Iff.rfl
theorem zPT:Ok (zBO f σ M) P ↔ Ok (f σ M) (zUi P):=by
 unfold zBO;constructor
 ·rintro ⟨x,M1,e,p⟩;split at e
  ·rename_i i M2 e1;cases e;exact ⟨_,_,e1,p⟩
  ·cases e
 ·rintro ⟨x,M1,e1,p⟩;rw[e1];cases x with
  |fl xs=>exact p.elim
  |dat d=>
   cases d with
   |int i=>exact ⟨_,_,rfl,p⟩
   |_=>exact p.elim
end
theorem zUK {l h:FO}:Ok (fSl f l h σ M) P ↔ Ok (f σ M) fun x M1=>Ok (l σ M1) fun lo M2=>Ok (h σ M2) fun hi M3=>Ok (kSl x lo hi M3) P:=by
 unfold fSl;constructor
 ·rintro ⟨x,M1,e,p⟩;split at e
  ·rename_i y M2 e1;split at e
   ·rename_i lo M3 e2;split at e
    ·rename_i hi M4 e3;exact ⟨y,_,e1,lo,_,e2,hi,_,e3,x,M1,e,p⟩
    ·cases e
   ·cases e
  ·cases e
 ·rintro ⟨y,M1,e1,lo,M2,e2,hi,M3,e3,p⟩;rw[e1];dsimp only;rw[e2];dsimp only;rw[e3];exact p
def blP (P:Bool->Mem->Prop):EV->Mem->Prop
 |.dat (.bl k),M=>P k M
 |_,_=>False
theorem zL2 {P:Bool->Mem->Prop} {k:Bool} {M:Mem}:blP P (.dat (.bl k)) M ↔ P k M:=Iff.rfl
theorem zLf {P:Bool->Mem->Prop}:Ok (tst f σ M) P ↔ Ok (f σ M) (blP P):=by
 unfold tst;constructor
 ·rintro ⟨x,M1,e,p⟩;split at e
  ·rename_i i M2 e1;cases e;exact ⟨_,_,e1,p⟩
  ·cases e
 ·rintro ⟨x,M1,e1,p⟩;rw[e1];cases x with
  |fl xs=>exact p.elim
  |dat d=>
   cases d with
   |bl i=>exact ⟨_,_,rfl,p⟩
   |_=>exact p.elim
section
variable {P:Bool->Mem->Prop} {s t:FT}
theorem zE1:Ok (zAD σ M) P ↔ P true M:=zAG
theorem zRi:Ok (zF1 s σ M) P ↔ Ok (s σ M) fun k M1=>P (!k) M1:=by
 unfold zF1;constructor
 ·rintro ⟨x,M1,e,p⟩;split at e
  ·rename_i k M2 e1;cases e;exact ⟨k,_,e1,p⟩
  ·cases e
 ·rintro ⟨k,M1,e1,p⟩;rw[e1];exact ⟨_,_,rfl,p⟩
end
theorem zT0 {t:FT}:Ok (vIf t f g σ M) P ↔ Ok (t σ M) fun k M1=>if k then Ok (f σ M1) P else Ok (g σ M1) P:=by
 unfold vIf;constructor
 ·rintro ⟨x,M1,e,p⟩;split at e
  ·rename_i M2 e1;exact ⟨_,_,e1,by dsimp only;rw[zWN rfl];exact ⟨x,M1,e,p⟩⟩
  ·rename_i M2 e1;exact ⟨_,_,e1,by simpa using ⟨x,M1,e,p⟩⟩
  ·cases e
 ·rintro ⟨x,M1,e1,p⟩;rw[e1];cases x with
  |true=>simpa using p
  |false=>simpa using p
end
section
variable {σ:Sd} {M:Mem} {f g:FS} {P:Out->Sd->Mem->Prop}
def nxP (k:Sd->Mem->Prop) (P:Out->Sd->Mem->Prop):Out->Sd->Mem->Prop
 |.nx,σ,M=>k σ M
 |o,σ,M=>P o σ M
theorem zM {k:Sd->Mem->Prop}:nxP k P .nx σ M ↔ k σ M:=Iff.rfl
theorem zJZ {k:Sd->Mem->Prop} {d:D}:nxP k P (.ret d) σ M ↔ P (.ret d) σ M:=Iff.rfl
theorem zAf:OkS (zBC σ M) P ↔ P .nx σ M:=zQn
theorem zJ:OkS (zX f g σ M) P ↔ OkS (f σ M) (nxP (fun σ1 M1=>OkS (g σ1 M1) P) P):=by
 unfold zX;constructor
 ·rintro ⟨o,σ1,M1,e,p⟩;split at e
  ·rename_i σ2 M2 e1;exact ⟨_,_,_,e1,o,σ1,M1,e,p⟩
  ·rename_i hn;refine ⟨o,σ1,M1,e,?_⟩;cases o with
   |nx=>exact absurd e (hn σ1 M1)
   |_=>exact p
 ·rintro ⟨o,σ1,M1,e1,p⟩;rw[e1];cases o with
  |nx=>exact p
  |_=>exact ⟨_,_,_,rfl,p⟩
theorem zAx {c:FT}:OkS (sIf c f g σ M) P ↔ Ok (c σ M) fun k M1=>if k then OkS (f σ M1) P else OkS (g σ M1) P:=by
 unfold sIf;constructor
 ·rintro ⟨o,σ1,M1,e,p⟩;split at e
  ·rename_i M2 e1;exact ⟨_,_,e1,by dsimp only;rw[zWN rfl];exact ⟨o,σ1,M1,e,p⟩⟩
  ·rename_i M2 e1;exact ⟨_,_,e1,by simpa using ⟨o,σ1,M1,e,p⟩⟩
  ·cases e
 ·rintro ⟨x,M1,e1,p⟩;rw[e1];cases x with
  |true=>simpa using p
  |false=>simpa using p
theorem zAh {h:FE}:OkS (zAV h σ M) P ↔ Ok (h σ M) (zGA fun d M1=>P (.ret d) σ M1):=by
 rw[<-zAU];unfold zAV;constructor
 ·rintro ⟨o,σ1,M1,e,p⟩;split at e
  ·rename_i d M2 e1;cases e;exact ⟨_,_,e1,p⟩
  ·cases e
 ·rintro ⟨x,M1,e1,p⟩;rw[e1];exact ⟨_,_,_,rfl,p⟩
theorem zQ {i:Nat} {h:FE}:OkS (zq i h σ M) P ↔ Ok (h σ M) (zGA fun d M1=>P .nx (σ.set i (some d)) M1):=by
 rw[<-zAU];unfold zq;constructor
 ·rintro ⟨o,σ1,M1,e,p⟩;split at e
  ·rename_i d M2 e1;cases e;exact ⟨_,_,e1,p⟩
  ·cases e
 ·rintro ⟨x,M1,e1,p⟩;rw[e1];exact ⟨_,_,_,rfl,p⟩
theorem zBj {h:FE}:OkS (zBP h σ M) P ↔ Ok (h σ M) fun _ M1=>P .nx σ M1:=by
 unfold zBP;constructor
 ·rintro ⟨o,σ1,M1,e,p⟩;split at e
  ·rename_i d M2 e1;cases e;exact ⟨_,_,e1,p⟩
  ·cases e
 ·rintro ⟨x,M1,e1,p⟩;rw[e1];exact ⟨_,_,_,rfl,p⟩
theorem zM2 {v o i:FE}:OkS (zME v o i σ M) P ↔ Ok (v σ M) (zGA fun d M1=>Ok (o σ M1) fun x M2=>Ok (i σ M2) (zGA fun j M3=>∃ M4,zKX x j d M3=some M4/\P .nx σ M4)):=by
 rw[<-zAU];unfold zME;constructor
 ·rintro ⟨o,σ1,M1,e,p⟩;split at e
  ·rename_i d M2 e1;split at e
   ·rename_i x M3 e2;split at e
    ·rename_i j M4 e3;split at e
     ·rename_i M5 e4;cases e;refine ⟨_,_,e1,_,_,e2,?_⟩;dsimp only;rw[<-zAU];exact ⟨_,_,e3,_,e4,p⟩
     ·cases e
    ·cases e
   ·cases e
  ·cases e
 ·rintro ⟨d,M1,e1,x,M2,e2,p⟩;rw[<-zAU]at p;obtain ⟨j,M3,e3,M4,e4,p⟩:=p;rw[e1];dsimp only;rw[e2];dsimp only;rw[e3];dsimp only;rw[e4];exact ⟨_,_,_,rfl,p⟩
theorem zv {n:Nat} {ds:List D} {Q:D->Mem->Prop}:Ok (zA7 n f ds M) Q ↔ OkS (f (ds.map some++List.replicate (n-ds.length) none) M) fun o _ M1=>match o with|.ret d=>Q d M1|.nx=>Q .non M1|_=>False:=by
 unfold zA7;constructor
 ·rintro ⟨o,M1,e,p⟩;split at e
  ·rename_i d σ1 M2 e1;cases e;exact ⟨_,_,_,e1,p⟩
  ·rename_i σ1 M2 e1;cases e;exact ⟨_,_,_,e1,p⟩
  ·cases e
 ·rintro ⟨o,σ1,M1,e1,p⟩;rw[e1];cases o with
  |ret d=>exact ⟨_,_,rfl,p⟩
  |nx=>exact ⟨_,_,rfl,p⟩
  |brk=>exact p.elim
  |cnt=>exact p.elim
theorem zC9 {c:FT} {b:FS} (I:Nat->Sd->Mem->Prop) (hs:∀ m σ M,I m σ M->Ok (c σ M) fun k M1=>if k then OkS (b σ M1) fun o σ2 M2=>match o with|.nx=>∃ m',m'<m/\I m' σ2 M2|.cnt=>∃ m',m'<m/\I m' σ2 M2|.brk=>P .nx σ2 M2|.ret d=>P (.ret d) σ2 M2 else P .nx σ M1) :
  ∀ (n m:Nat) (σ:Sd) (M:Mem),m<n->I m σ M->OkS (zBp c b n σ M) P
 |0,m,σ,M,h,_=>absurd h (Nat.not_lt_zero _)
 |n+1,m,σ,M,h,hi=>by
  obtain ⟨k,M1,e,q⟩:=hs m σ M hi;unfold zBp;rw[e];cases k with
  |false=>exact ⟨_,_,_,rfl,by simpa using q⟩
  |true=>
   rw[zWN rfl]at q;obtain ⟨o,σ2,M2,e2,q⟩:=q;dsimp only;rw[e2];cases o with
   |nx=>obtain ⟨m',hm,q⟩:=q;exact zC9 I hs n m' σ2 M2 (by omega) q
   |cnt=>obtain ⟨m',hm,q⟩:=q;exact zC9 I hs n m' σ2 M2 (by omega) q
   |brk=>exact ⟨_,_,_,rfl,q⟩
   |ret d=>exact ⟨_,_,_,rfl,q⟩
theorem zAZ {g:FG} {b:FS} {all:List D} {gd:Option (Mem->Prop)} (I:List D->Sd->Mem->Prop)
  (hs:∀ x r σ M,I (x::r) σ M->zAs gd all M /\ ∃ σ1,g x σ=some σ1/\OkS (b σ1 M) fun o σ2 M2=>match o with|.nx=>I r σ2 M2|.cnt=>I r σ2 M2|.brk=>P .nx σ2 M2|.ret d=>P (.ret d) σ2 M2)
  (he:∀ σ M,I [] σ M->zAs gd all M/\P .nx σ M):∀ (xs:List D) (σ:Sd) (M:Mem),I xs σ M->OkS (zCK g b all gd xs σ M) P
 |[],σ,M,hi=>by
  unfold zCK;obtain ⟨h1,h2⟩:=he σ M hi;rw[zWN h1];exact ⟨_,_,_,rfl,h2⟩
 |x::r,σ,M,hi=>by
  unfold zCK;obtain ⟨h1,σ1,e1,o,σ2,M2,e2,q⟩:=hs x r σ M hi;rw[zWN h1,e1];dsimp only;rw[e2];cases o with
  |nx=>exact zAZ I hs he r σ2 M2 q
  |cnt=>exact zAZ I hs he r σ2 M2 q
  |brk=>exact ⟨_,_,_,rfl,q⟩
  |ret d=>exact ⟨_,_,_,rfl,q⟩
theorem zAi {i:FI} {g:FG} {b:FS}:OkS (zBs i g b σ M) P ↔ ∃ xs gd M1,i σ M=some (xs,gd,M1)/\OkS (zCK g b xs gd xs σ M1) P:=by
 unfold zBs;constructor
 ·rintro ⟨o,σ1,M1,e,p⟩;split at e
  ·rename_i xs gd M2 e1;exact ⟨_,_,_,e1,_,_,_,e,p⟩
  ·cases e
 ·rintro ⟨xs,gd,M1,e1,p⟩;rw[e1];exact p
theorem zBR {g:FG} {tc:FT} {te:FE} {all:List D} {gd:Option (Mem->Prop)} (I:List D->List D->Mem->Prop)
  (hs:∀ x r acc M,I (x::r) acc M->zAs gd all M /\ ∃ σ1,g x σ=some σ1/\Ok (tc σ1 M) fun k M1=>if k then Ok (te σ1 M1) (zGA fun d M2=>I r (acc++[d]) M2) else I r acc M1)
  {Q:List D->Mem->Prop} (he:∀ acc M,I [] acc M->zAs gd all M/\Q acc M):∀ (xs acc:List D) (M:Mem),I xs acc M->Ok (zA0 g tc te σ all gd xs M) fun ys M1=>Q (acc++ys) M1
 |[],acc,M,hi=>by
  unfold zA0;obtain ⟨h1,h2⟩:=he acc M hi;rw[zWN h1];exact ⟨_,_,rfl,by simpa using h2⟩
 |x::r,acc,M,hi=>by
  unfold zA0;obtain ⟨h1,σ1,e1,k,M1,e2,q⟩:=hs x r acc M hi;rw[zWN h1,e1];dsimp only;rw[e2];cases k with
  |false=>exact zBR I hs he r acc M1 (by simpa using q)
  |true=>
   rw[zWN rfl,<-zAU]at q;obtain ⟨d,M2,e3,q⟩:=q;dsimp only;rw[e3];obtain ⟨ys,M3,e4,p⟩:=zBR I hs he r (acc++[d]) M2 q;dsimp only;rw[e4];exact ⟨_,_,rfl,by simpa using p⟩
theorem zB1 {own:List Nat} {i:FI} {g:FG} {tc:FT} {te:FE} {Q:EV->Mem->Prop}:Ok (zw own i g tc te σ M) Q ↔ ∃ xs gd M1,i σ M=some (xs,gd,M1)/\xs.length<=sizeLine/\Ok (zA0 g tc te (zBB own σ) xs gd xs M1) fun ys M2=>Q (.fl ys) M2:=by
 unfold zw;constructor
 ·rintro ⟨o,M1,e,p⟩;split at e
  ·rename_i xs gd M2 e1;split at e
   ·rename_i hz;split at e
    ·rename_i ys M3 e2;cases e;exact ⟨_,_,_,e1,hz,_,_,e2,p⟩
    ·cases e
   ·cases e
  ·cases e
 ·rintro ⟨xs,gd,M1,e1,hz,ys,M2,e2,p⟩;rw[e1];dsimp only;rw[zWN hz,e2];exact ⟨_,_,rfl,p⟩
theorem zBb {h:FE} {x:EV} {M1:Mem} {xs:List D} (e:h σ M=some (x,M1)) (e2:zAF M1 x=some xs):zr h σ M=some (xs,zDA x xs,M1):=by
 unfold zr;rw[e];dsimp only;rw[e2]
theorem zHJ {a:FA} {M1:Mem} {j:Int} (e:a σ M=some ([.int j],M1)) (h1:0<=j) (h2:j<2 ^ 62):zAM a σ M=some ((List.range j.toNat).map fun (k:Nat)=>D.int k,none,M1):=by
 unfold zAM;rw[e];dsimp only;rw[zWN ⟨by omega,h2⟩]
end
section
variable {M:Mem} {P:EV->Mem->Prop} {i j:Int}
theorem zFu:Ok (zAS (.dat (.int i)) (.dat (.int j)) M) P ↔ P (.dat (.int (i+j))) M:=zAG
theorem zPb:Ok (zMV (.dat (.int i)) (.dat (.int j)) M) P ↔ zOW i j=true/\P (.dat (.int (i*j))) M:=by
 unfold zMV kI;dsimp only;split
 ·rename_i h;rw[zAG];simp[h]
 ·rename_i h;rw[zFU];simp[h]
theorem zSY:Ok (zDI (.dat (.int i)) (.dat (.int j)) M) P ↔ 0<j/\P (.dat (.int (i % j))) M:=by
 unfold zDI kI;dsimp only;split
 ·rename_i h;rw[zAG];simp at h;simp[h]
 ·rename_i h;rw[zFU];simp at h;simp;intro h';omega
theorem zSV:Ok (zLj (.dat (.int i)) (.dat (.int j)) M) P ↔ (0<j/\j<1073741824)/\P (.dat (.int (i / j))) M:=by
 unfold zLj kI;dsimp only;split
 ·rename_i h;rw[zAG];simp at h;simp[h]
 ·rename_i h;rw[zFU];simp at h;simp;intro h' h2;have:=h h';omega
theorem zUT:Ok (zOm (.dat (.int i)) (.dat (.int j)) M) P ↔ (0<=j/\j<=1000000/\i.natAbs<2 ^ 64)/\P (.dat (.int (i ^ j.toNat))) M:=by
 unfold zOm kI;dsimp only;split
 ·rename_i h;rw[zAG];simp only[zWi,zXL]at h;simp[h]
 ·rename_i h;rw[zFU];simp only[zWi,zXL,not_and]at h;simp only[false_iff,not_and];intro ⟨a,b,c⟩;exact absurd c (h ⟨a,b⟩)
theorem zTr:Ok (kLt (.dat (.int i)) (.dat (.int j)) M) P ↔ P (.dat (.bl (decide (i<j)))) M:=zAG
theorem zVk:Ok (kLe (.dat (.int i)) (.dat (.int j)) M) P ↔ P (.dat (.bl (decide (i<=j)))) M:=zAG
theorem zVp:Ok (kGe (.dat (.int i)) (.dat (.int j)) M) P ↔ P (.dat (.bl (decide (j<=i)))) M:=zAG
theorem zKa:Ok (kEq (.dat (.int i)) (.dat (.int j)) M) P ↔ P (.dat (.bl (decide (i=j)))) M:=by
 have:kEq (.dat (.int i)) (.dat (.int j)) M=some (.dat (.bl (decide (V.int i=V.int j))),M):=rfl;rw[this,zAG];simp
theorem zQx:Ok (kNe (.dat (.int i)) (.dat (.int j)) M) P ↔ P (.dat (.bl (decide (i≠j)))) M:=by
 have:kNe (.dat (.int i)) (.dat (.int j)) M=some (.dat (.bl (!decide (V.int i=V.int j))),M):=rfl;rw[this,zAG];simp
theorem zUQ {xs ys:List D}:Ok (zAS (.dat (.tup xs)) (.dat (.tup ys)) M) P ↔ xs.length+ys.length<=sizeLine/\P (.dat (.tup (xs++ys))) M:=by
 have:zAS (.dat (.tup xs)) (.dat (.tup ys)) M=zKT (.dat (.tup xs)) (.dat (.tup ys)) M:=rfl;rw[this];unfold zKT;dsimp only[zBc];split
 ·rename_i h;rw[zAG];simp[h]
 ·rename_i h;rw[zFU];simp[h]
theorem zRt {x:EV} {xs:List D} (h:zBW M x=some xs) (hx:∀ d,x=.dat d->zIE d=none):Ok (kNe x (.fl []) M) P ↔ P (.dat (.bl (!xs.isEmpty))) M:=by
 have e1:zMT true x (.fl []) M=none:=by cases x <;> rfl
 have e2:kNe x (.fl []) M=some (.dat (.bl (!xs.isEmpty)),M):=by
  unfold kNe kOr;rw[e1];unfold zPI;rw[h];rfl
 rw[e2,zAG]
theorem zRx {x:EV} {xs:List D} {d:D} (h:zAF M x=some xs) (hd:atI xs i=some d) (p:P (.dat d) M):Ok (kIx x (.dat (.int i)) M) P:=by
 have:kIx x (.dat (.int i)) M=some (.dat d,M):=by unfold kIx;dsimp only;rw[h];dsimp only;rw[hd]
 rw[this,zAG];exact p
theorem zSo {xs:List D} {k:Nat} {d:D} (h:xs[k]?=some d):atI xs (k:Int)=some d:=zNJ h
theorem zLi {xs:List D} {i:Int} {d:D} (h0:0<=i) (h:xs[i.toNat]?=some d):atI xs i=some d:=by
 have:i=((i.toNat:Nat):Int):=by omega
 rw[this];exact zNJ h
theorem zUa {x:EV} {xs:List D} (h:zAF M x=some xs):Ok (zBD [x] M) P ↔ P (.dat (.int xs.length)) M:=by
 have:zBD [x] M=some (.dat (.int xs.length),M):=by unfold zBD;dsimp only;rw[h]
 rw[this,zAG]
theorem zFX {x:EV} {xs:List D} (h:zAF M x=some xs):Ok (zAo [x] M) P ↔ P (.dat (.tup xs)) M:=by
 have:zAo [x] M=some (.dat (.tup xs),M):=by unfold zAo;dsimp only;rw[h]
 rw[this,zAG]
theorem zTv {x:EV} {xs:List D} {lo hi:Option Int} (h:zBW M x=some xs) (ht:zBc x=none):Ok (kSl x lo hi M) P ↔ P (.fl (zDS xs lo hi)) M:=by
 have:kSl x lo hi M=some (.fl (zDS xs lo hi),M):=by unfold kSl;rw[ht];dsimp only;rw[h]
 rw[this,zAG]
theorem zi {xs:List D}:zAF M (.dat (.tup xs))=some xs:=rfl
theorem zCZ {xs:List D}:zAF M (.fl xs)=some xs:=rfl
theorem zAd {n:Nat} {xs:List D} (h:M[n]?=some (.lst xs)):zBW M (.dat (.ref n))=some xs:=by unfold zBW;dsimp only;rw[h]
theorem zMv {n:Nat} {xs:List D} (h:M[n]?=some (.fro xs)):zBW M (.dat (.ref n))=some xs:=by unfold zBW;dsimp only;rw[h]
theorem zf {n:Nat} {xs:List D} (h:M[n]?=some (.lst xs)):zAF M (.dat (.ref n))=some xs:=zAd h
theorem zRg {n:Nat} {xs:List D} (h:M[n]?=some (.fro xs)):zAF M (.dat (.ref n))=some xs:=zMv h
theorem zCW {n:Nat} {xs:List D} {d:D} {Q:D->Mem->Prop} (h:M[n]?=some (.lst xs)) (hz:xs.length<sizeLine):Ok (zAP (.dat (.ref n)) [d] M) Q ↔ Q .non (M.set n (.lst (xs++[d]))):=by
 have:zAP (.dat (.ref n)) [d] M=some (.non,M.set n (.lst (xs++[d]))):=by unfold zAP;dsimp only;rw[h];dsimp only;rw[zWN hz]
 rw[this,zAG]
theorem zTT {n:Nat} {x:D} {xs:List D} {Q:D->Mem->Prop} (h:M[n]?=some (.lst (x::xs))):Ok (zHp (.dat (.ref n)) [.int 0] M) Q ↔ Q x (M.set n (.lst xs)):=by
 have:zHp (.dat (.ref n)) [.int 0] M=some (x,M.set n (.lst xs)):=by
  unfold zHp;dsimp only;rw[h];dsimp only;have e:ixN (x::xs).length 0=some 0:=by unfold ixN;rw[zWN (by omega),zWN (by simp)];rfl
  rw[e];dsimp only[List.getElem?_cons_zero];rw[zWN (by decide)];rfl
 rw[this,zAG]
theorem zKp {n k:Nat} {xs:List D} {d:D} (h:M[n]?=some (.lst xs)) (hk:k<xs.length):zKX (.dat (.ref n)) (.int k) d M=some (M.set n (.lst (xs.set k d))):=by
 unfold zKX;dsimp only;rw[h];dsimp only;have e:ixN xs.length (k:Int)=some k:=by unfold ixN;rw[zWN (by omega),zWN (by omega)];simp
 rw[e]
end
theorem zJM {m:FF} {ds:List D} {M:Mem} {Q:D->Mem->Prop} (h:Ok (m ds M) fun d M1=>(D.und M.length d=true/\M.length<=M1.length /\ ∀ (j:Nat) u,j<M.length->M1[j]?=some u->MO.und M.length u=true)/\Q d (M1.take M.length)):Ok (zHZ m ds M) Q:=by
 obtain ⟨d,M1,e,⟨h1,h2,h3⟩,q⟩:=h;unfold zHZ;rw[e];dsimp only;rw[zWN]
 ·exact ⟨_,_,rfl,q⟩
 ·simp only[zWi,zXL,zWj];refine ⟨⟨h1,fun u hu=>?_⟩,h2⟩;obtain ⟨j,hj⟩:=List.getElem?_of_mem hu;have hlt:j<M.length:=by
   have:=(zWB.mp hj).1;rw[zXW]at this;omega
  rw[List.getElem?_take_of_lt hlt]at hj;exact h3 j u hlt hj
theorem zER {m:FF} {ds:List D} {M:Mem} {Q:D->Mem->Prop} (h0:D.unds 0 ds=true) (h:Ok (m ds []) fun d _=>D.und 0 d=true/\Q d M):Ok (zFJ m ds M) Q:=by
 obtain ⟨d,M1,e,h1,q⟩:=h;unfold zFJ;rw[zWN h0,e];dsimp only;rw[zWN h1];exact ⟨_,_,rfl,q⟩
section
variable {prog:Program} {w:World} {A:Around} {E:Value->Shared->Prop} {s:Shared}
theorem Tup.but (x:h.IsTuple a its) (hs:Heap.ExtBut b h h') (n:a≠b):h'.IsTuple a its:=x.extBut hs n
theorem zHT (I:s.heap.IsTupleIter it t i) (T:s.heap.IsTuple t its) (hx:its[i]?=some x)
  (q:∀ h',h'.IsTupleIter it t (i+1)->Heap.SameBut it s.heap h'->Q x { s with heap:=h' }):wpAny (model prog w) A (Builtin.SmallTypes.nextOf (.ref it)) Q E s:=by
 obtain ⟨o,O,C,FD⟩:=id I;obtain ⟨u,U,_,m,G⟩:=T;unfold Builtin.SmallTypes.nextOf;refine zV8 (zWk (name:=Str.ofString "__next__") I.typeIs PySem.F.slot_tuple_iterator_next (zWl PySem.F.slot_tuple_iterator_next I.typeIs PySem.F.entry_tuple_iterator_next ?_ (PySem.F.args_tuple_iterator_next_1 _)));refine zV8 (m:=field (.ref it) 0) (zWn O FD (x:=.ref t) rfl ?_);rw[zWQ (show ¬ ((Value.ref t==Value.none)=true) by exact zWU)];refine zV8 (m:=field (.ref it) 1) (zWn O FD (x:=.int i 0) rfl ?_);refine zV8 (m:=seqItems? (.ref t)) (zWy U G ?_);simp only[hx,Int.toNat_natCast];refine zV8 (wpAny_setField O FD (by simp) (zWA ⟨x,rfl,zWA (q _ ⟨_,zWv _ O (Obj.isFreed_of_fields (zXP FD _)),(Obj.cls_mapFields ..).trans C,?_⟩ (zXB ..))⟩));rw[zXP FD];simp[rawInt]
theorem zFk (hh:A.handled=none) (I:s.heap.IsTupleIter it t i) (T:s.heap.IsTuple t its) (hx:its[i]?=none)
  (q:∀ h' e,Heap.ExtBut it s.heap h'->(∃ o,h'.get? e=some o/\o.cls=.type "StopIteration")->E (.ref e) { s with heap:=h' }):wpAny (model prog w) A (Builtin.SmallTypes.nextOf (.ref it)) Q E s:=by
 obtain ⟨o,O,C,FD⟩:=id I;obtain ⟨u,U,_,m,G⟩:=T;unfold Builtin.SmallTypes.nextOf;refine zV8 (zWk (name:=Str.ofString "__next__") I.typeIs PySem.F.slot_tuple_iterator_next (zWl PySem.F.slot_tuple_iterator_next I.typeIs PySem.F.entry_tuple_iterator_next ?_ (PySem.F.args_tuple_iterator_next_1 _)));refine zV8 (m:=field (.ref it) 0) (zWn O FD (x:=.ref t) rfl ?_);rw[zWQ (show ¬ ((Value.ref t==Value.none)=true) by exact zWU)];refine zV8 (m:=field (.ref it) 1) (zWn O FD (x:=.int i 0) rfl ?_);refine zV8 (m:=seqItems? (.ref t)) (zWy U G ?_);simp only[hx,Int.toNat_natCast];refine zV8 (zXV (zV8 (wpAny_setField O FD (by simp) ?_)));refine zV8 (m:=newExc (.type "StopIteration") []) ?_;simp only[newTuple,newExc];refine zV8 (zWb (zV8 (m:=firstArgMember _ _) (wpAny_of_eq (a:=Value.none) (by first|rfl|(simp only[firstArgMember];rfl)) (zWb ?_ (by size_fits)))) (by size_fits));simp only[raiseNew];refine zV8 (wpAny_handled ?_);first|rw[hh]|rw[show A.in1.handled=none from hh]
 exact zV8 (zWA (wpAny_throw (q _ _ (((zXB ..).extBut.push _).push _) ⟨_,zWI _ rfl,rfl⟩)))
end
theorem zFx {X:Cx} {zB:List (Addr × Obj)} {σ:L2.St} {H:Hp} {s:Shared} {h':Heap} {t':Nat} {ch:List Addr} {T:Addr} {o:HO} (I:Inv X zB σ H s) (hf:∀ b∈ch,zCL X zB H b)
  (k:∀ b u,b∉ch->s.heap.get? b=some u->h'.get? b=some u) (hT:s.heap.objs.size<=T) (new:zAu X.prog X.w (upd H T o) h' T o):Inv X zB σ (upd H T o) { s with heap:=h',toks:=t' }:=by
 have hn:H T=none:=I.hok.fresh hT;have nch:∀ b u,H b=some u->b∉ch:=fun b u e z=>by rw[(hf b z).1]at e;cases e
 have un:∀ b u,H b=some u->upd H T o b=some u:=fun b u e=>by rw[zc (zAN e hn)];exact e
 refine I.step (g':=s.gens) (d':=s.drawn) (ch:=ch) (fun b hb=>⟨(hf b hb).2.2.2.1,(hf b hb).2.1,(hf b hb).2.2.2.2.1,(hf b hb).2.2.2.2.2⟩) (fun b u _ _ hc e _=>k b u hc e) (fun b u _ _ hc e _=>⟨u.slots,k b u hc e⟩)
  (fun b u _ e n=>by rw[zc (fun z=>by rw[z]at e;exact absurd (zWJ e) (Nat.not_lt.mpr hT))];exact n) (fun b u hc e=>⟨u,k b u hc e⟩) (fun b xs e=>un b _ e) (fun b p u e=>un b _ e) (fun b ps e=>⟨#[],by rw[un b _ e];simp⟩) (fun m hm=>?_) (fun b u e=>?_) I.bare
 ·obtain ⟨p,es,ep,ho,r⟩:=hm;exact ⟨p,es,ep,k _ p (fun z=>(hf _ z).2.1 rfl) ho,r⟩
 ·by_cases hb:b=T
  ·subst hb;rw[zAK]at e;cases e;exact new
  ·rw[zc hb]at e;refine (I.hok b u e).stay (fun c v hc q=>k c v ?_ q) (fun c q=>un c _ q) fun c xs q=>un c _ q;rcases hc with z|z
   ·rw[z];exact nch b u e
   ·exact nch c _ z
theorem zIJ {X:Cx} {zB:List (Addr × Obj)} {σ:L2.St} {H:Hp} {s:Shared} {h':Heap} {t':Nat} {ch:List Addr} (I:Inv X zB σ H s) (hf:∀ b∈ch,zCL X zB H b)
  (k:∀ b u,b∉ch->s.heap.get? b=some u->h'.get? b=some u):Inv X zB σ H { s with heap:=h',toks:=t' }:=by
 have nch:∀ b u,H b=some u->b∉ch:=fun b u e z=>by rw[(hf b z).1]at e;cases e
 refine I.step (g':=s.gens) (d':=s.drawn) (ch:=ch) (fun b hb=>⟨(hf b hb).2.2.2.1,(hf b hb).2.1,(hf b hb).2.2.2.2.1,(hf b hb).2.2.2.2.2⟩) (fun b u _ _ hc e _=>k b u hc e) (fun b u _ _ hc e _=>⟨u.slots,k b u hc e⟩)
  (fun b u _ e n=>n) (fun b u hc e=>⟨u,k b u hc e⟩) (fun b xs e=>e) (fun b p u e=>e) (fun b ps e=>⟨#[],by rw[e];simp⟩) (fun m hm=>?_) (fun b u e=>?_) I.bare
 ·obtain ⟨p,es,ep,ho,r⟩:=hm;exact ⟨p,es,ep,k _ p (fun z=>(hf _ z).2.1 rfl) ho,r⟩
 ·refine (I.hok b u e).stay (fun c v hc q=>k c v ?_ q) (fun c q=>q) fun c xs q=>q;rcases hc with z|z
  ·rw[z];exact nch b u e
  ·exact nch c _ z
section
variable {X:Cx} {a b:Expr} {es:List Expr} {ek:Nat} {ep p pos:Pos}
def zB3 (i j:Nat):FG:=fun d σ=>match d with
 |.tup [x,y]=>some ((σ.set i (some x)).set j (some y))
 |_=>none
abbrev gP2 (K:PySem.W.Frag) (i j:Nat):TG:=zUn K 2 (zQJ (zDk i) (zQJ (zDk j) zU3))
theorem zLV {K:PySem.W.Frag} {i j:Nat}:GOk (gP2 K i j) (zB3 i j):=by
 intro L H σ σ' τ d v Q rs r hf q;unfold zB3 at hf;split at hf
 ·rename_i x y;cases hf;unfold Rep at r;obtain ⟨a,vs,rfl,e,r⟩:=r;obtain ⟨v1,v2,rfl,r1,r2⟩:=r.two;exact ⟨a,_,rfl,.of e,rfl,v1,[v2],rfl,v2,[],rfl,rfl,q _ ((rs.set r1).set r2)⟩
 ·cases hf
theorem zNn {K:PySem.W.Frag} {own:List Nat} {i j:Nat} (hi:i∈own) (hj:j∈own):zE4 own (gP2 K i j) (zB3 i j):=by
 intro L H σ σ' τ τ0 d v Q rs ex r hf q;unfold zB3 at hf;split at hf
 ·rename_i x y;cases hf;unfold Rep at r;obtain ⟨a,vs,rfl,e,r⟩:=r;obtain ⟨v1,v2,rfl,r1,r2⟩:=r.two;exact ⟨a,_,rfl,.of e,rfl,v1,[v2],rfl,v2,[],rfl,rfl,q _ ((rs.set r1).set r2) ((ex.set hi).set hj)⟩
 ·cases hf
end
section
variable {X:Cx} {a b c e:Expr} {es:List Expr} {pos p p2 pos2:Pos} {f g h:FE}
def zLz:V->Bool
 |.non=>true
 |.bl _=>true
 |_=>false
theorem zSt:OpR X (compareOp .Is) (fun x y H Q=>zLz y=true/\Q (.bl (decide (x=y))) H):=by
 intro zB s σ H x y v u Q I rx ry h;obtain ⟨hp,q⟩:=h;cases y with
 |non=>
  cases ry;refine wpAny_is_plain (by cases x <;> first|(cases rx;rfl)|(obtain ⟨t,rfl⟩:=rx;rfl)) (zy I q ?_);cases x <;> first|(cases rx;rfl)|(obtain ⟨t,rfl⟩:=rx;rfl)
 |bl k=>
  cases ry;refine wpAny_is_plain (by cases x <;> first|(cases rx;rfl)|(obtain ⟨t,rfl⟩:=rx;rfl)) (zy I q ?_);cases x with
  |bl k'=>cases rx;cases k <;> cases k' <;> rfl
  |_=>first|(cases rx;rfl)|(obtain ⟨t,rfl⟩:=rx;rfl)
 |_=>cases hp
def isD:EV->D->Option Bool
 |x,.non=>match x with
  |.dat .non=>some true
  |_=>some false
 |x,.bl k=>match x with
  |.dat (.bl k')=>some (decide (k'=k))
  |_=>some false
 |_,_=>none
def kIs (neg:Bool):K2:=fun x y M=>match y with
 |.dat d=>match isD x d with
  |some k=>some (.dat (.bl (if neg then !k else k)),M)
  |none=>none
 |_=>none
theorem zQy (rx:zg H0 L H x v) (ry:Rep L H d w) (e:isD x d=some k):zLz w=true/\decide (v=w)=k:=by
 cases d with
 |non=>
  unfold Rep at ry;subst ry;refine ⟨rfl,?_⟩;cases x with
  |fl xs=>obtain ⟨q,vs,rfl,_⟩:=rx;cases e;rfl
  |dat d'=>
   cases d' with
   |non=>unfold zg Rep at rx;subst rx;cases e;rfl
   |bl _=>unfold zg Rep at rx;subst rx;cases e;rfl
   |int _=>unfold zg Rep at rx;subst rx;cases e;rfl
   |str _=>unfold zg Rep at rx;subst rx;cases e;rfl
   |tup _=>unfold zg Rep at rx;obtain ⟨q,vs,rfl,_⟩:=rx;cases e;rfl
   |ref _=>unfold zg Rep at rx;obtain ⟨q,rfl,_⟩:=rx;cases e;rfl
 |bl k'=>
  unfold Rep at ry;subst ry;refine ⟨rfl,?_⟩;cases x with
  |fl xs=>obtain ⟨q,vs,rfl,_⟩:=rx;cases e;rfl
  |dat d'=>
   cases d' with
   |non=>unfold zg Rep at rx;subst rx;cases e;rfl
   |bl j=>unfold zg Rep at rx;subst rx;cases e;cases j <;> cases k' <;> rfl
   |int _=>unfold zg Rep at rx;subst rx;cases e;rfl
   |str _=>unfold zg Rep at rx;subst rx;cases e;rfl
   |tup _=>unfold zg Rep at rx;obtain ⟨q,vs,rfl,_⟩:=rx;cases e;rfl
   |ref _=>unfold zg Rep at rx;obtain ⟨q,rfl,_⟩:=rx;cases e;rfl
 |_=>cases e
theorem zPs (h:kIs neg x y M=some (r,M')):∃ d k,y=.dat d/\isD x d=some k/\r=.dat (.bl (if neg then !k else k))/\M'=M:=by
 unfold kIs at h;split at h
 ·rename_i d;split at h
  ·rename_i k e1;cases h;exact ⟨d,k,rfl,e1,rfl,rfl⟩
  ·cases h
 ·cases h
theorem zS3 {K:PySem.W.Frag}:zCV K (fun x y H Q=>zLz y=true/\Q (.bl (decide (x=y))) H) (kIs false):=by
 intro L M M' H H0 x y d v w Q cc rx ry hk q;obtain ⟨d',k,rfl,e,rfl,rfl⟩:=zPs hk;obtain ⟨h1,h2⟩:=zQy rx ry e;refine ⟨h1,?_⟩;rw[h2];exact q L H _ (.refl L H) cc (zBk (L:=L) (H:=H))
theorem zUR (h1:QE X a f) (h2:QE X b g):QT X (.Compare a [.Is] [b] pos) (tst (fOp (kIs false) f g)):=zCg zS3 zSt h1 h2 (zDO _)
def zSJ (f:FE):FE:=fun σ M=>match f σ M with
 |some (.dat (.int i),M1)=>some (.dat (.int (-i)),M1)
 |_=>none
theorem zUO (h1:QE X a f):QE X (.UnaryOp .USub a pos) (zSJ f):=.mk <| PE.imp (zVJ zSw h1.un) fun τ H Q zz=>by
 obtain ⟨L,σ,M,d,M',cc,rs,hf,q⟩:=zz;unfold zSJ at hf;split at hf
 ·rename_i i M1 e1;cases hf;refine ⟨L,σ,M,_,_,cc,rs,e1,fun L1 H1 v s1 c1 r1=>?_⟩;exact ⟨i,by unfold zg Rep at r1;exact r1,q L1 H1 _ s1 c1 (zAk (L:=L1) (H:=H1))⟩
 ·cases hf
def zGu:KB:=fun xs M=>match xs with
 |[x]=>match zAF M x with
  |some ys=>some (.fl ys,M)
  |none=>none
 |_=>none
theorem zPo:zHi X.K (fun xs H Q=>∃ q ys,xs=[.ref q]/\(SqL X.K H q ys\/SqT X.K H q ys) /\ ∀ l,H l=none->Q (.ref l) (upd H l (.lst ys))) zGu:=by
 intro L M M' H H0 xs d vs Q cc r hk q;unfold zGu at hk;split at hk
 ·rename_i x;split at hk
  ·rename_i ys e1;cases hk;obtain ⟨v,rfl,r1⟩:=r.one;obtain ⟨l,ws,rfl,hs,r2⟩:=zEy cc r1 e1;refine ⟨l,ws,rfl,hs,fun k hk=>?_⟩;exact q L _ _ (.upd hk) (cc.upd hk) (zg.newLst (.refl L H) cc cc hk r2)
  ·cases hk
 ·cases hk
theorem zSr (hg:Gl X "list") (hm:X.mg "list" = none) (ha:QAE X [e] fa) (he:starEach [e] X.env=(false,eval e X.env)::starEach [] X.env:=by rfl) (hpl:(backTo pos (starEach [] X.env)).any (·.1)=false:=by rfl):QE X (.Call (.Name "list" p) [e] [] pos) (fB zGu fa) :=
 zLU zPo zI2 (by rfl) hg hm ha (by decide) (by decide) he hpl
theorem zPA (hh:zAF M x=some xs):Ok (zGu [x] M) P ↔ P (.fl xs) M:=by
 have:zGu [x] M=some (.fl xs,M):=by unfold zGu;dsimp only;rw[hh]
 rw[this,zAG]
end
open AutoSeq1 (wpAny_loadPart')
section
variable {prog:Program} {w:World} {A:Around} {E:Value->Shared->Prop} {s:Shared}
theorem zQX {r:Addr} {lo hi:Int} {t u v:Tok} {n:Nat} {Q:List Value->Shared->Prop} (hh:A.handled=none) (R:IsRange s.heap r lo hi 1 t u v) (sm:Builtin.Range.small lo hi 1=true) (hn:Builtin.Range.rangeSize lo hi 1=n) (hz:n<=2 ^ 24)
  (q:∀ h' tk (acc:Array Value),(∀ b o,s.heap.get? b=some o->h'.get? b=some o)->ItemsOf (fun i v=>∃ t,v=.int (lo+i*1) t) acc n->Q acc.toList { s with heap:=h',toks:=tk }):wpAny (model prog w) A (collect (.ref r)) Q E s:=by
 unfold collect;refine zV8 (wpAny_runValue (codeAny_builtin PySem.F.entry_proto_collect ?_));rw[Around.under_plainId PySem.F.plain_proto_collect _];refine zV8 (m:=newList []) (zWb (zWA ⟨plainId_quiet PySem.F.plain_list_iadd _,codeAny_builtin PySem.F.entry_list_iadd ?_⟩));rw[Around.under_plainId PySem.F.plain_list_iadd _];have S0:(s.heap.push { cls:=.type "list", data:=.seq ([]:List Value).toArray }).get? s.heap.objs.size=some { cls:=.type "list", data:=.seq #[] 0 }:=zWI _ rfl
 have fin:∀ (h':Heap) (tk:Nat) (acc:Array Value) (k:Nat),(∀ b o,b≠s.heap.objs.size->(s.heap.push { cls:=.type "list", data:=.seq ([]:List Value).toArray }).get? b=some o->h'.get? b=some o) ->
   h'.get? s.heap.objs.size=some { cls:=.type "list", dict:=none,data:=.seq acc k,slots:=#[] }->ItemsOf (fun i v=>∃ t,v=.int (lo+i*1) t) acc n ->
   wpAny (model prog w) A (match Value.ref s.heap.objs.size with
    |Value.ref a=>do
     match (<- load a).data with
      |Data.seq xs _=>pure xs.toList
      |_=>unsupported "internal:collect"
    |_=>unsupported "internal:collect") Q E { s with heap:=h',toks:=tk }:=fun h' tk acc k kp e it=>by
  refine zV8 (m:=load s.heap.objs.size) (wpAny_load e (zWA (q h' tk acc (fun b o m=>kp b o (zWT (zWJ m)) (zV9 _ m)) it)))
 refine zWe (wpAny_extend_range (A:=A) (s:={ s with heap:=s.heap.push { cls:=.type "list", data:=.seq ([]:List Value).toArray } })
  (R:=fun r s'=>r=.ok (.ret (.ref s.heap.objs.size)) /\ ∃ h' tk acc k,s'={ s with heap:=h',toks:=tk }/\(∀ b o,b≠s.heap.objs.size->(s.heap.push { cls:=.type "list", data:=.seq ([]:List Value).toArray }).get? b=some o->h'.get? b=some o) /\
   h'.get? s.heap.objs.size=some { cls:=.type "list", dict:=none,data:=.seq acc k,slots:=#[] }/\ItemsOf (fun i v=>∃ t,v=.int (lo+i*1) t) acc n)
  hh (zV9 _ R) sm hn hz s.heap.objs.size (.ref s.heap.objs.size) 0 S0 fun h' tk acc k kp e it=>⟨rfl,h',tk,acc,k,rfl,kp,e,it⟩) (fun f s' z=>?_) (fun e s' z=>?_)
 ·cases f with
  |done f=>
   obtain ⟨e,h',tk,acc,k,rfl,z1,z2,z3⟩:=z;cases e;exact fin h' tk acc k z1 z2 z3
  |again c'=>exact ⟨z.1,codeAny_mono z.2 fun r s'' z=>by obtain ⟨rfl,h',tk,acc,k,rfl,z1,z2,z3⟩:=z;exact fin h' tk acc k z1 z2 z3⟩
 ·exact absurd z.1 (by simp)
end
theorem zJ6 (r:Addr) (lo hi:Int) (t u v:Tok) (n:Nat) (sm:Builtin.Range.small lo hi 1=true) (hn:Builtin.Range.rangeSize lo hi 1=n) (hz:n<=2 ^ 24) :
  Meets (Builtin.«tuple.__new__» ⟨[.type "tuple", .ref r],[]⟩) (fun A R s=>A.handled=none/\IsRange s.heap r lo hi 1 t u v /\
   ∀ (h':Heap) (tk:Nat) (acc:Array Value),(∀ b o,s.heap.get? b=some o->h'.get? b=some o)->ItemsOf (fun i v=>∃ t,v=.int (lo+i*1) t) acc n->R (.ok (.ret (.ref h'.objs.size))) { s with heap:=h'.push { cls:=.type "tuple", data:=.seq acc },toks:=tk }) :=
 .of_wp fun prog w A R s h=>by
  obtain ⟨hp,g,d,tk,os⟩:=s;obtain ⟨hh,Ra,h⟩:=h;have h1:=sub_tuple_self;have h2:=init_tuple_lookup;have h3:=madeHere_tuple;have T:Shared.TypeIs ⟨hp,g,d,tk,os⟩ (.ref r) "range" := ⟨_,Ra,rfl⟩;wp_walk using wpAny_loadPart' Ra,wpAny_typeOf T,zQX (show A.in1.handled=none from hh) Ra sm hn hz;intro h' tk' acc kp it;refine zV8 (m:=Builtin.Tuple.tupleExact acc.toList.toArray) ?_;unfold Builtin.Tuple.tupleExact;have sz:acc.toList.toArray.size<=sizeLine:=by rw[zWG,zWr,it.1,sizeLine_eq];omega
  refine zWb (zWA ⟨_,rfl,?_⟩) sz;have e:acc.toList.toArray=acc:=by simp
  rw[e];exact h h' tk' acc kp it
section
variable {X:Cx} {a e:Expr} {es:List Expr} {pos p p2 pos2:Pos} {f:FE}
theorem zKV:zCu X (.type "range") (fun xs H Q=>∃ j,xs=[.int j] /\ ∀ l,H l=none->Q (.ref l) (upd H l (.rng 0 j))):=by
 intro zB s σ H xs us Q I r h;obtain ⟨j,rfl,q⟩:=h;obtain ⟨u,rfl,rx⟩:=zF0 r;obtain ⟨t,rfl⟩:=rx;refine call_range_1 ⟨.ref s.heap.objs.size,_,I.laid (fun b o z=>zV9 _ z) (zWE _) ?_,rfl,q _ (I.hok.fresh (zWE _))⟩;exact ⟨_,_,_,zWI _ rfl⟩
def upV (n:Nat):List V:=(List.range n).map fun (k:Nat)=>V.int k
theorem zKO (h:ItemsOf (fun i v=>∃ t,v=.int ((0:Int)+i*1) t) acc n):ze (upV n) acc.toList:=by
 obtain ⟨hz,hi⟩:=h;have:∀ (xs:List Value) (k:Nat),(∀ j v,xs[j]?=some v -> ∃ t,v=Value.int ((k+j:Nat):Int) t)->ze ((List.range' k xs.length).map fun (k:Nat)=>V.int k) xs:=by
  intro xs;induction xs with
  |nil=>intro k _;exact .nil
  |cons x xs ih=>
   intro k hk;rw[zWf,List.range'_succ,zWR];refine .cons ?_ (ih (k+1) fun j v e=>?_)
   ·obtain ⟨t,e⟩:=hk 0 x rfl;exact ⟨t,by simpa using e⟩
   ·obtain ⟨t,e'⟩:=hk (j+1) v (by simpa using e);exact ⟨t,by rw[e'];congr 2;omega⟩
 have q:=this acc.toList 0 (fun j v e=>by
  obtain ⟨t,e'⟩:=hi j v (by simpa using e);exact ⟨t,by rw[e'];congr 1;omega⟩)
 unfold upV;rw[List.range_eq_range'];rw[zWr,hz]at q;exact q
theorem zIN (h0:0<=j) (h1:j<=16777216):Builtin.Range.small 0 j 1=true/\Builtin.Range.rangeSize 0 j 1=(j.toNat:Int):=by
 refine ⟨small_one (by omega) (by omega) (by omega) (by omega),?_⟩;rw[rangeSize_one];split <;> omega
def zVG (mk:List V->HO):List V->Hp->VK->Prop:=fun xs H Q=>∃ r j,xs=[.ref r]/\H r=some (.rng 0 j)/\0<=j/\j<=16777216 /\ ∀ l,H l=none->Q (.ref l) (upd H l (mk (upV j.toNat)))
theorem zHD (n:Nat):(upV n).length=n:=by unfold upV;simp
theorem zOi (hc:X.calm=true):zCu X (.type "tuple") (zVG HO.tup):=by
 intro zB s σ H xs us Q I r h;obtain ⟨l,j,rfl,hr,h0,h1,q⟩:=h;obtain ⟨u,rfl,rx⟩:=zF0 r;cases rx;obtain ⟨t,u,v,er⟩:=(show zAu X.prog X.w H s.heap l (.rng 0 j)from I.hok l _ hr);obtain ⟨sm,sz⟩:=zIN h0 h1
 refine callType_new PySem.F.called_tuple (by decide) (PySem.F.typeCall_tuple_1 _) (PySem.F.newCall_tuple_1 _) (fun obj=>PySem.F.args_object_init_2 obj _) PySem.F.entry_tuple_new (zJ6 l 0 j t u v j.toNat sm sz (by omega))
  ⟨I.ok.hd hc,er,fun h' tk acc kp it=>⟨⟨_,zWI _ rfl,rfl⟩,?_⟩⟩
 have I1:Inv X zB σ H { s with heap:=h',toks:=tk }:=I.kept kp;refine ⟨.ref h'.objs.size,_,I1.laid (t':=tk) (fun b o z=>zV9 _ z) (zWE _) ?_,rfl,q _ (I1.hok.fresh (zWE _))⟩;exact ⟨by rw[zHD,sizeLine_eq];omega,acc.toList,zKO it,by simpa using zCH.new h' acc⟩
theorem zOq (hc:X.calm=true):zCu X (.type "list") (zVG HO.lst):=by
 intro zB s σ H xs us Q I r h;obtain ⟨l,j,rfl,hr,h0,h1,q⟩:=h;obtain ⟨u,rfl,rx⟩:=zF0 r;cases rx;obtain ⟨t,u,v,er⟩:=(show zAu X.prog X.w H s.heap l (.rng 0 j)from I.hok l _ hr);obtain ⟨sm,sz⟩:=zIN h0 h1;refine call_list_range (I.ok.hd hc) er sm sz (by omega) fun h' tk acc k kp z it=>?_;refine ⟨.ref s.heap.objs.size,_,I.laid (t':=tk) kp (zWE _) (show zAu X.prog X.w _ h' _ (.lst (upV j.toNat))from ⟨by rw[zHD,sizeLine_eq];omega,acc.toList,k,zKO it,by simpa using z⟩),rfl,q _ (I.hok.fresh (zWE _))⟩
def upD (n:Nat):List D:=(List.range n).map fun (k:Nat)=>D.int k
theorem zNB (n:Nat):zP L H (upD n) (upV n):=by
 have:∀ xs:List Nat,zP L H (xs.map fun (k:Nat)=>D.int k) (xs.map fun (k:Nat)=>V.int k):=by
  intro xs;induction xs with
  |nil=>exact .nil
  |cons x xs ih=>exact .cons zAk ih
 exact this _
def zNK (f:FE):FE:=fun σ M=>match f σ M with
 |some (.dat (.int j),M1)=>if 0<=j/\j<=16777216 then some (.dat (.tup (upD j.toNat)),M1) else none
 |_=>none
def zFP (f:FE):FE:=fun σ M=>match f σ M with
 |some (.dat (.int j),M1)=>if 0<=j/\j<=16777216 then some (.fl (upD j.toNat),M1) else none
 |_=>none
theorem zTI (hc:X.calm=true) (hg:Gl X "tuple") (hm:X.mg "tuple" = none) (hg2:Gl X "range") (hm2:X.mg "range" = none) (ha:QE X a f)
  (he:starEach [Expr.Call (.Name "range" p2) [a] [] pos2] X.env=(false,eval (Expr.Call (.Name "range" p2) [a] [] pos2) X.env)::starEach [] X.env:=by rfl) (hpl:(backTo pos (starEach [] X.env)).any (·.1)=false:=by rfl)
  (he2:starEach [a] X.env=(false,eval a X.env)::starEach [] X.env:=by rfl) (hpl2:(backTo pos2 (starEach [] X.env)).any (·.1)=false:=by rfl) :
  QE X (.Call (.Name "tuple" p) [.Call (.Name "range" p2) [a] [] pos2] [] pos) (zNK f) :=
 .mk <| PE.imp (zC4 (zOi hc) hg hm (by rfl) (zEI (zC4 zKV hg2 hm2 boot_range (zEI ha.un zFp he2) (by decide) (by decide) he2 hpl2) zFp he) (by decide) (by decide) he hpl) fun τ H Q zz=>by
  obtain ⟨L,σ,M,d,M',c,rs,hf,q⟩:=zz;unfold zNK at hf;split at hf
  ·rename_i j M1 e1;split at hf
   ·rename_i hb;cases hf;refine ⟨L,σ,M,_,_,c,rs,e1,fun L1 H1 v s1 c1 r1=>⟨j,by unfold zg Rep at r1;rw[r1],fun l hl=>⟨l,j,rfl,zAK,hb.1,hb.2,fun k hk=>?_⟩⟩⟩;exact q L1 _ _ ((s1.trans (.upd hl)).trans (.upd hk)) ((c1.upd hl).upd hk) (Rep.newTup hk (zNB _))
   ·cases hf
  ·cases hf
theorem zT2 (hc:X.calm=true) (hg:Gl X "list") (hm:X.mg "list" = none) (hg2:Gl X "range") (hm2:X.mg "range" = none) (ha:QE X a f)
  (he:starEach [Expr.Call (.Name "range" p2) [a] [] pos2] X.env=(false,eval (Expr.Call (.Name "range" p2) [a] [] pos2) X.env)::starEach [] X.env:=by rfl) (hpl:(backTo pos (starEach [] X.env)).any (·.1)=false:=by rfl)
  (he2:starEach [a] X.env=(false,eval a X.env)::starEach [] X.env:=by rfl) (hpl2:(backTo pos2 (starEach [] X.env)).any (·.1)=false:=by rfl) :
  QE X (.Call (.Name "list" p) [.Call (.Name "range" p2) [a] [] pos2] [] pos) (zFP f) :=
 .mk <| PE.imp (zC4 (zOq hc) hg hm (by rfl) (zEI (zC4 zKV hg2 hm2 boot_range (zEI ha.un zFp he2) (by decide) (by decide) he2 hpl2) zFp he) (by decide) (by decide) he hpl) fun τ H Q zz=>by
  obtain ⟨L,σ,M,d,M',c,rs,hf,q⟩:=zz;unfold zFP at hf;split at hf
  ·rename_i j M1 e1;split at hf
   ·rename_i hb;cases hf;refine ⟨L,σ,M,_,_,c,rs,e1,fun L1 H1 v s1 c1 r1=>⟨j,by unfold zg Rep at r1;rw[r1],fun l hl=>⟨l,j,rfl,zAK,hb.1,hb.2,fun k hk=>?_⟩⟩⟩;have s2:Stp L H L1 (upd H1 l (.rng 0 j)):=s1.trans (.upd hl);exact q L1 _ _ (s2.trans (.upd hk)) ((c1.upd hl).upd hk) (zg.newLst s2 c (c1.upd hl) hk (zNB _))
   ·cases hf
  ·cases hf
end
def zEz:Expr->Bool
 |.Starred .. =>false
 |_=>true
theorem zt (h:zEz e=true):starEach (e::es) env=(false,eval e env)::starEach es env:=by
 cases e <;> first|rfl|cases h
theorem zFL (h:zEz e=true):starEach [e] env=[(false,eval e env)]:=zt h
theorem zLE (h:zEz e=true) (h':zEz e'=true):starEach [e,e'] env=[(false,eval e env),(false,eval e' env)]:=by rw[zt h,zFL h']
theorem zFM:∀ {es:List Expr},es.all zEz=true->(backTo pos (starEach es env)).any (·.1)=false
 |[],_=>rfl
 |e::es,h=>by
  rw[List.all_cons,zWi]at h;rw[zt h.1];have:=zFM (pos:=pos) (env:=env) h.2;simpa [backTo] using this
theorem Cor.pushO {K:PySem.W.Frag} {L:List Addr} {M:List MO} {H:Hp} {p:Addr} {o:HO} {m:MO} (c:Cor K L M H) (h:H p=none) (new:zG6 K (L++[p]) (L2.upd H p o) p m) :
  Cor K (L++[p]) (M++[m]) (L2.upd H p o)/\Stp L H (L++[p]) (L2.upd H p o):=by
 have hp:p∉L:=fun z=>by obtain ⟨o,e⟩:=c.tracked z;rw[h]at e;cases e
 have st:Stp L H (L++[p]) (L2.upd H p o):=by
  refine ⟨⟨[p],rfl⟩,fun a ha=>?_,fun a o e _=>?_,fun a o e=>?_,fun a o u e=>?_⟩
  ·rcases zWY.mp ha with z|z
   ·exact .inl z
   ·have:a=p:=by simpa using z
    subst this;exact .inr h
  all_goals (rw[zc (zAN e h)];exact e)
 refine ⟨⟨by simp[c.len],?_,fun n a m e1 e2=>?_⟩,st⟩
 ·rw[zXM];exact ⟨c.nd,by simp,fun a ha b hb z=>by
   have:b=p:=by simpa using hb
   subst this;subst z;exact hp ha⟩
 ·by_cases hn:n<L.length
  ·rw[zWF hn]at e1;rw[zWF (by rw[<-c.len];exact hn)]at e2;exact (c.obj n a m e1 e2).stp st fun o e=>by rw[zc (zAN e h)];exact e
  ·have hn':n=L.length:=by
    have:=(zWB.mp e1).1;rw[zWO]at this;simp at this;omega
   subst hn';simp at e1;rw[c.len]at e2;simp at e2;subst e1;subst e2;exact new
theorem Cor.put {K:PySem.W.Frag} {L:List Addr} {M:List MO} {H:Hp} {n:Nat} {p:Addr} {o o':HO} {m:MO} (c:Cor K L M H) (h1:L[n]?=some p) (ho:H p=some o) (ht:∀ xs,o≠.tup xs) (hf:∀ a u,o≠.frz a u)
  (new:Stp L H L (L2.upd H p o')->zG6 K L (L2.upd H p o') p m):Cor K L (M.set n m) (L2.upd H p o')/\Stp L H L (L2.upd H p o'):=by
 have st:Stp L H L (L2.upd H p o'):=by
  refine ⟨⟨[],by simp⟩,fun a ha=> .inl ha,fun a o e ha=>?_,fun a xs e=>?_,fun a b u e=>?_⟩
  ·rw[zc (show a≠p from fun z=>ha (by rw[z];exact zWz h1))];exact e
  ·rw[zc (zH9 e ho (fun z=>ht xs z.symm))];exact e
  ·rw[zc (zH9 e ho (fun z=>hf b u z.symm))];exact e
 refine ⟨⟨by simp[c.len],c.nd,fun k a m' e1 e2=>?_⟩,st⟩;rw[zXh]at e2;split at e2
 ·rename_i hk;subst hk;rw[h1]at e1;cases e1;split at e2
  ·cases e2;exact new st
  ·cases e2
 ·rename_i hk;have hne:a≠p:=fun z=>hk (by
   subst z;exact (List.getElem?_inj (zWB.mp h1).1 c.nd).mp (h1.trans e1.symm))
  exact (c.obj k a m' e1 e2).stp st fun o e=>by rw[zc hne];exact e
section
variable {X:Cx} {a b e:Expr} {pos:Pos} {f g:FE}
def zMH:FE:=fun _ M=>some (.dat (.ref M.length),M++[.dict []])
def zLg:FE:=fun _ M=>some (.dat (.ref M.length),M++[.dicT []])
theorem zRE:QE X (.Dict [] [] pos) zMH:=.mk <| PE.imp zQe fun τ H Q ⟨L,σ,M,d,M',c,rs,hf,q⟩ p hp=>by
 unfold zMH at hf;cases hf;obtain ⟨c2,s2⟩:=c.pushO (m:=.dict []) hp ⟨[],zAK,rfl⟩;refine q _ _ _ s2 c2 ?_;unfold zg Rep;exact ⟨p,rfl,by rw[<-c.len];simp⟩
theorem zRH:QE X (.Dict [] [] pos) zLg:=.mk <| PE.imp zPt fun τ H Q ⟨L,σ,M,d,M',c,rs,hf,q⟩ p hp=>by
 unfold zLg at hf;cases hf;obtain ⟨c2,s2⟩:=c.pushO (m:=.dicT []) hp ⟨[],zAK,rfl⟩;refine q _ _ _ s2 c2 ?_;unfold zg Rep;exact ⟨p,rfl,by rw[<-c.len];simp⟩
theorem zGW (h:Rep L H d v) (e:zCM d=some k):v=kV k:=by
 cases d with
 |int i=>cases e;unfold Rep at h;exact h
 |str x=>cases e;unfold Rep at h;exact h
 |_=>cases e
def zFc (M:Mem):EV->Option (List D)
 |.fl xs=>some xs
 |.dat (.ref n)=>match M[n]? with
  |some (.lst xs)=>some xs
  |_=>none
 |_=>none
theorem zL5 {K:PySem.W.Frag} {L:List Addr} {M:Mem} {H H0:Hp} {x:EV} {v:V} {xs:List D} (c:Cor K L M H) (r:zg H0 L H x v) (h:zFc M x=some xs):∃ a vs,v=.ref a/\H a=some (.lst vs)/\zP L H xs vs:=by
 cases x with
 |fl ys=>
  cases h;obtain ⟨p,vs,rfl,_,e,_,r⟩:=r;exact ⟨p,vs,rfl,e,r⟩
 |dat d=>
  cases d with
  |ref n=>
   unfold zg Rep at r;obtain ⟨a,rfl,e⟩:=r;unfold zFc at h;dsimp only at h;split at h
   ·rename_i ys q;cases h;obtain ⟨vs,e1,r1⟩:=c.obj n a _ e q;exact ⟨a,vs,rfl,e1,r1⟩
   ·cases h
  |_=>cases h
def zDj:K2:=fun x y M=>match zFc M x,zFc M y with
 |some xs,some ys=>if xs.length+ys.length<=sizeLine then some (.fl (xs++ys),M) else none
 |_,_=>none
theorem zPN {K:PySem.W.Frag}:zCV K zUd zDj:=by
 intro L M M' H H0 x y d v w Q c rx ry hk q;unfold zDj at hk;split at hk
 ·rename_i xs ys e1 e2;split at hk
  ·rename_i hz;cases hk;obtain ⟨l,vs,rfl,h1,r1⟩:=zL5 c rx e1;obtain ⟨l2,ws,rfl,h2,r2⟩:=zL5 c ry e2;refine ⟨l,l2,vs,ws,rfl,rfl,h1,h2,by rw[r1.length,r2.length];exact hz,fun p hp=>?_⟩;exact q L _ _ (.upd hp) (c.upd hp) (zg.newLst (.refl L H) c c hp (r1.app r2))
  ·cases hk
 ·cases hk
theorem zT6 (h1:QE X a f) (h2:QE X b g):QE X (.BinOp a .Add b pos) (fOp zDj f g):=zKs zPN zT8 h1 h2
theorem zLd (h1:zFc M x=some xs) (h2:zFc M y=some ys) (hz:xs.length+ys.length<=100000) (q:P (.fl (xs++ys)) M):Ok (zDj x y M) P:=by
 refine ⟨_,_,?_,q⟩;unfold zDj;rw[h1,h2];dsimp only;rw[zWN (zWZ hz (by decide))]
end
end L3
namespace LR
open PySem PySem.Spec PyProof.Rows
open Sem (wp)
open Sem (wp)
open AutoSeq1 (wpAny_loadPart')
open Sem (wp)
open AutoSeq1 (wpAny_loadPart')
end LR
namespace L3
open PySem PySem.Spec PyProof.Rows L2
section
variable {X:Cx} {a b e o:Expr} {pos p apos cpos:Pos} {f g:FE}
def zAp:List D->Option (List Int)
 |[]=>some []
 |.int i::r=>match zAp r with
  |some bs=>some (i::bs)
  |none=>none
 |_=>none
theorem zCf:∀ {ds:List D} {bs:List Int} {vs:List V},zAp ds=some bs->zP L H ds vs->vs=bs.map V.int
 |[],bs,vs,e,r=>by cases e;unfold zP at r;exact r
 |d::ds,bs,vs,e,r=>by
  unfold zP at r;obtain ⟨v,r',rfl,r1,r2⟩:=r;cases d with
  |int k=>
   unfold zAp at e;cases q:zAp ds with
   |none=>rw[q]at e;cases e
   |some bs'=>
    rw[q]at e;cases e;unfold Rep at r1;rw[r1,zCf q r2];rfl
  |_=>cases e
theorem zCm:∀ xs:List Int,zAp (xs.map D.int)=some xs
 |[]=>rfl
 |x::r=>by rw[zWR];unfold zAp;rw[zCm r]
theorem zNd (xs:List Int):(xs.map V.int).all zFT=true:=by
 rw[zWj];intro x hx;obtain ⟨i,_,rfl⟩:=zWP.mp hx;rfl
theorem zQu (i:Int) (xs:List Int):inV (.int i) (xs.map V.int)=xs.any fun y=>decide (y=i):=by
 unfold inV;rw[List.any_map];congr 1
def kIn (neg:Bool):K2:=fun x y M=>match x with
 |.dat (.int i)=>match zAF M y with
  |some ds=>match zAp ds with
   |some xs=>some (.dat (.bl (if neg then !(xs.any fun y=>decide (y=i)) else xs.any fun y=>decide (y=i))),M)
   |none=>none
  |none=>none
 |_=>none
theorem zPF {K:PySem.W.Frag} {neg:Bool}:zCV K (rIn K neg) (kIn neg):=by
 intro L M M' H H0 x y d v w Q cc rx ry hk q;unfold kIn at hk;split at hk
 ·rename_i i;split at hk
  ·rename_i ds e1;split at hk
   ·rename_i xs e2;cases hk;have ev:v=.int i:=by unfold zg Rep at rx;exact rx
    obtain ⟨p,vs,rfl,hs,r⟩:=zEy cc ry e1;have:=zCf e2 r;subst this;refine ⟨p,_,rfl,hs,by rw[ev];rfl,zNd xs,?_⟩;rw[ev,zQu];exact q L H _ (.refl L H) cc (zBk (L:=L) (H:=H))
   ·cases hk
  ·cases hk
 ·cases hk
theorem zUj (h1:QE X a f) (h2:QE X b g) (hm:behindInMarks .In b=false:=by rfl):QT X (.Compare a [.In] [b] pos) (tst (fOp (kIn false) f g)):=zCg zPF zOG h1 h2 hm
theorem zQj (h1:QE X a f) (h2:QE X b g) (hm:behindInMarks .NotIn b=false:=by rfl):QT X (.Compare a [.NotIn] [b] pos) (tst (fOp (kIn true) f g)):=zCg zPF zIu h1 h2 hm
end
end L3
namespace L2
open PySem PySem.Spec PyProof.Rows
section
variable {prog:Program} {w:World} {A:Around} {E:Value->Shared->Prop} {R:Result->Shared->Prop} {s:Shared}
theorem zH4 (I:Nat->Shared->Prop)
  (turn:∀ n s,I n s->wpAny (model prog w) A (pyNext it) (fun r s₁=>match r with
   |none=>R (.ok .next) s₁
   |some v=>wpAny (model prog w) A (letOwnedTupleGo target it v) (fun _ s₁'=>wpAny (model prog w) A (assign target env v) (fun _ s₂=>
     wpAny (model prog w) A (forIn ifs true fun c r=>if r=true then do let ok <- isTrue c env (eval c env);pure (ForInStep.yield ok) else pure (ForInStep.yield r)) (fun ok s₃=>
      if ok=true then wpAny (model prog w) A (eval kx env) (fun kv s₄=>wpAny (model prog w) A (eval vx env) (fun vv s₅=>
       wpAny (model prog w) A (dictSet D kv vv) (fun _ s₆=>∃ m,m<n/\I m s₆) (fun _ _=>False) s₅) (fun _ _=>False) s₄) (fun _ _=>False) s₃
      else ∃ m,m<n/\I m s₃) (fun _ _=>False) s₂) (fun _ _=>False) s₁') (fun _ _=>False) s₁) (fun _ _=>False) s)
  (n:Nat) (h:I n s) :
  codeAny (model prog w) A (.compLoop (.DictComp kx vx [⟨target,iter,ifs,0⟩] scope pos) 0 it (.ref D) env) R s:=by
 refine codeAny_loop rfl I (fun n s hI=>?_) n h;show wpAny _ A ((compTurn (.DictComp kx vx [⟨target,iter,ifs,0⟩] scope pos) 0 it (.ref D) env).onRaise (fun x=>do noteFrame x env;theTreesLotGoes x)) _ _ s;refine wpAny_noted ?_;rw[compTurn_dict];refine zV8 (zW6 (zV8 (zWe (turn n s hI) (fun r s₁ h₁=>?_) fun _ _ h'=>h'.elim)));cases r with
 |none=>exact zWA h₁
 |some v=>
  refine zV8 (zWe h₁ (fun _ s₁' h₁'=>?_) fun _ _ h'=>h'.elim);refine zV8 (zWe h₁' (fun _ s₂ h₂=>zV8 (zWe h₂ (fun ok s₃ h₃=>?_) fun _ _ h'=>h'.elim)) fun _ _ h'=>h'.elim);cases ok with
  |false=>exact zWA ⟨rfl,h₃⟩
  |true=>
   exact zV8 (zV8 (zWe h₃ (fun kv s₄ h₄=>zV8 (zW1 (zWe h₄ (fun vv s₅ h₅=>zV8 (zW6 (zW1 (zWe h₅ (fun _ s₆ h₆=>zWA ⟨rfl,h₆⟩) fun _ _ h'=>h'.elim)))) fun _ _ h'=>h'.elim))) fun _ _ h'=>h'.elim))
theorem zJP (elt target iter:Expr) (ifs:List Expr) (scope:Scope) (pos:Pos) (it acc:Value) (env:Env) :
  compTurn (.SetComp elt [⟨target,iter,ifs,0⟩] scope pos) 0 it acc env=(do
   standAt iter.pos;match <- pyNext it with
   |none=>pure (.done .next)
   |some v=>
    letOwnedTupleGo target it v;assign target env v;let mut ok:=true
    for c in ifs do
     if ok then ok <- isTrue c env (eval c env)
    if ok then (do let v <- eval elt env;standAt elt.pos;let _ <- call (.builtin "set.add") [acc,v])
    again (.compLoop (.SetComp elt [⟨target,iter,ifs,0⟩] scope pos) 0 it acc env)):=by rfl
theorem zI3 (I:Nat->Shared->Prop)
  (turn:∀ n s,I n s->wpAny (model prog w) A (pyNext it) (fun r s₁=>match r with
   |none=>R (.ok .next) s₁
   |some v=>wpAny (model prog w) A (letOwnedTupleGo target it v) (fun _ s₁'=>wpAny (model prog w) A (assign target env v) (fun _ s₂=>
     wpAny (model prog w) A (forIn ifs true fun c r=>if r=true then do let ok <- isTrue c env (eval c env);pure (ForInStep.yield ok) else pure (ForInStep.yield r)) (fun ok s₃=>
      if ok=true then wpAny (model prog w) A (eval elt env) (fun x s₄=>
       wpAny (model prog w) A (call (.builtin "set.add") [acc,x]) (fun _ s₅=>∃ m,m<n/\I m s₅) (fun _ _=>False) s₄) (fun _ _=>False) s₃
      else ∃ m,m<n/\I m s₃) (fun _ _=>False) s₂) (fun _ _=>False) s₁') (fun _ _=>False) s₁) (fun _ _=>False) s)
  (n:Nat) (h:I n s) :
  codeAny (model prog w) A (.compLoop (.SetComp elt [⟨target,iter,ifs,0⟩] scope pos) 0 it acc env) R s:=by
 refine codeAny_loop rfl I (fun n s hI=>?_) n h;show wpAny _ A ((compTurn (.SetComp elt [⟨target,iter,ifs,0⟩] scope pos) 0 it acc env).onRaise (fun x=>do noteFrame x env;theTreesLotGoes x)) _ _ s;refine wpAny_noted ?_;rw[zJP];refine zV8 (zW6 (zV8 (zWe (turn n s hI) (fun r s₁ h₁=>?_) fun _ _ h'=>h'.elim)));cases r with
 |none=>exact zWA h₁
 |some v=>
  refine zV8 (zWe h₁ (fun _ s₁' h₁'=>?_) fun _ _ h'=>h'.elim);refine zV8 (zWe h₁' (fun _ s₂ h₂=>zV8 (zWe h₂ (fun ok s₃ h₃=>?_) fun _ _ h'=>h'.elim)) fun _ _ h'=>h'.elim);cases ok with
  |false=>exact zWA ⟨rfl,h₃⟩
  |true=>
   exact zV8 (zV8 (zWe h₃ (fun x s₄ h₄=>zV8 (zW6 (zV8 (zWe h₄ (fun _ s₅ h₅=>zWA (zWA ⟨rfl,h₅⟩)) fun _ _ h'=>h'.elim)))) fun _ _ h'=>h'.elim))
end
end L2
namespace LR
open PySem PySem.Spec PyProof.Rows
open Sem (wp)
end LR
namespace L3
open PySem PySem.Spec PyProof.Rows L2
end L3
namespace ST
open PySem
abbrev Up (xs:Array Nat):Prop:=xs.toList.Pairwise (· < ·)
theorem Up.get (h:Up xs) (hik:i<k) (hk:k<xs.size):xs[i]'(by omega)<xs[k]:=by
 have:=List.pairwise_iff_getElem.mp h i k (by simpa using (show i<xs.size by omega)) (by simpa using hk) hik;simpa using this
theorem zJm (h:Up xs) (j:Nat):∀ (fuel lo hi:Nat),lo<=hi->hi<=xs.size->hi-lo<=fuel->(∀ i (hi':i<xs.size),i<lo->xs[i]<j)->(∀ i (hi':i<xs.size),hi<=i->j<=xs[i]) ->
  (SetTable.below.go xs j fuel lo hi<=xs.size)/\(∀ i (hi':i<xs.size),i<SetTable.below.go xs j fuel lo hi->xs[i]<j)/\(∀ i (hi':i<xs.size),SetTable.below.go xs j fuel lo hi<=i->j<=xs[i])
 |0,lo,hi,h1,h2,h3,a,b=>by
  have:lo=hi:=by omega
  subst this;unfold SetTable.below.go;exact ⟨h2,a,b⟩
 |fuel+1,lo,hi,h1,h2,h3,a,b=>by
  unfold SetTable.below.go;by_cases hl:lo<hi
  ·rw[zWN hl];dsimp only;have hm:(lo+hi) / 2<xs.size:=by omega
   have eg:xs.getD ((lo+hi) / 2) j=xs[(lo+hi) / 2]:=by simp[Array.getD,hm]
   rw[eg];by_cases hc:xs[(lo+hi) / 2]<j
   ·rw[zWN hc];refine zJm h j fuel _ _ (by omega) h2 (by omega) (fun i hi' hlt=>?_) b;rcases zXU i ((lo+hi) / 2)with z|z
    ·exact Nat.lt_trans (h.get z hm) hc
    ·have:i=(lo+hi) / 2:=by omega
     subst this;exact hc
   ·rw[zWQ hc];refine zJm h j fuel _ _ (by omega) (by omega) (by omega) a (fun i hi' hge=>?_);rcases zXU ((lo+hi) / 2) i with z|z
    ·have:=h.get z hi';omega
    ·have:i=(lo+hi) / 2:=by omega
     subst this;omega
  ·rw[zWQ hl];have:lo=hi:=by omega
   subst this;exact ⟨h2,a,b⟩
theorem zDT (h:Up xs) (j:Nat):SetTable.below xs j<=xs.size/\(∀ i (hi':i<xs.size),i<SetTable.below xs j->xs[i]<j)/\(∀ i (hi':i<xs.size),SetTable.below xs j<=i->j<=xs[i]):=by
 unfold SetTable.below;exact zJm h j xs.size 0 xs.size (zWu _) (zWE _) (by omega) (fun i _ z=>by omega) (fun i hi' z=>by omega)
theorem zLq (h:Up xs):SetTable.below xs 0=0:=by
 obtain ⟨a,b,c⟩:=zDT h 0;rcases Nat.eq_zero_or_pos (SetTable.below xs 0)with z|z
 ·exact z
 ·have:=b 0 (by omega) z;omega
theorem zLp (h:Up xs) (hk:k<xs.size):SetTable.below xs (xs[k]+1)=k+1:=by
 obtain ⟨a,b,c⟩:=zDT h (xs[k]+1);rcases Nat.lt_trichotomy (SetTable.below xs (xs[k]+1)) (k+1)with z|z|z
 ·have:=c k hk (by omega);omega
 ·exact z
 ·have h1:k+1<xs.size:=by omega
  have:=b (k+1) h1 z;have:=h.get (show k<k+1 by omega) h1;omega
theorem zF8 {α:Type} (xs:Array α) (p:Nat) (x:α):(SetTable.insertAt xs p x).toList=xs.toList.take p++x::xs.toList.drop p:=by
  unfold SetTable.insertAt;simp;have:xs.toList.length<=xs.size:=by simp
  rw[List.take_of_length_le (by simp)]
theorem zOY (h : Up xs) (hj : j ∉ xs.toList) : Up (SetTable.insertAt xs (SetTable.below xs j) j) := by
  obtain ⟨a, b, c⟩ := zDT h j;unfold Up;rw [zF8];rw [List.pairwise_append];have hT : ∀ x ∈ xs.toList.take (SetTable.below xs j), x < j := fun x hx => by
    obtain ⟨i,hi,e⟩:=zYB hx;rw[List.getElem_take]at e;rw[zXW]at hi
    have h1 : i < xs.size := by have : xs.toList.length = xs.size := by simp
                                omega
    have:=b i h1 (by omega);rw[<-e];simpa using this
  have hD : ∀ x ∈ xs.toList.drop (SetTable.below xs j), j < x := fun x hx => by
    obtain ⟨i,hi,e⟩:=zYB hx;rw[List.getElem_drop]at e;rw[List.length_drop]at hi
    have h1 : SetTable.below xs j + i < xs.size := by have : xs.toList.length = xs.size := by simp
                                                      omega
    have h2:=c _ h1 (by omega);have h3:x≠j:=fun z=>hj (z▸List.mem_of_mem_drop hx);have e':xs[SetTable.below xs j+i]=x:=by simpa using e
    omega
  refine ⟨h.sublist (List.take_sublist _ _),zYI.mpr ⟨hD,h.sublist (List.drop_sublist _ _)⟩,fun x hx y hy=>?_⟩;rcases zWK.mp hy with z|z
  ·rw[z];exact hT x hx
  ·exact Nat.lt_trans (hT x hx) (hD y z)
theorem zIG (j:Nat):SetTable.has #[] j=false:=by
 unfold SetTable.has;simp
theorem zLl {t:SetTable} (h:Up t.place) (he:t.slot j=.empty):j∉t.place.toList:=fun hm=>by
 obtain ⟨a,b,c⟩:=zDT h j;obtain ⟨k,hk,e⟩:=zYB hm;have hk':k<t.place.size:=by simpa using hk
 have e':t.place[k]=j:=by simpa using e
 have eb:SetTable.below t.place j=k:=by
  rcases Nat.lt_trichotomy (SetTable.below t.place j) k with z|z|z
  ·have h1:SetTable.below t.place j<t.place.size:=by omega
   have:=c _ h1 (zWE _);have:=h.get z hk';omega
  ·exact z
  ·have:=b k hk' z;omega
 unfold SetTable.slot at he;rw[eb,zWN (by simp[hk',e'])]at he;cases he
theorem zKC (hd:t.dummies = #[]):∀ (fuel:Nat) (p:SetTable.Probe) {j:Nat} {d:Option Nat},p.dummy=none->SetTable.probe.go t hashAt h fuel p=some (.empty j d)->d=none/\t.slot j=.empty
 |0,_,_,_,_,e=>by unfold SetTable.probe.go at e;cases e
 |fuel+1,p,j,d,hp,e=>by
  unfold SetTable.probe.go at e;split at e
  ·rename_i hs;cases e;exact ⟨hp,hs⟩
  ·rename_i hs;unfold SetTable.slot at hs;dsimp only at hs;rw[hd,zIG]at hs;split at hs <;> first|cases hs|simp at hs
  ·split at e
   ·cases e
   ·refine zKC hd fuel _ ?_ e;unfold SetTable.advance;split <;> simp[hp]
theorem zNh {t:SetTable} (hu:Up t.place) (hd:t.dummies = #[]) (e:t.freeSlot h=some (j,b)):b=false/\j∉t.place.toList:=by
 unfold SetTable.freeSlot at e;split at e
 ·rename_i j' d hp;unfold SetTable.probe at hp;obtain ⟨h1,h2⟩:=zKC hd _ _ (by rfl) hp;subst h1;simp at e;obtain ⟨rfl,rfl⟩:=e;exact ⟨rfl,zLl hu h2⟩
 ·cases e
structure TabOk (w:World) (t:SetTable):Prop where
 led:t.led = !w.params.followText "set-order"
 up:Up t.place
 nod:t.dummies = #[]
theorem zPK (n:Nat):Up (Array.range n):=by
 unfold Up;rw[Array.toList_range];exact List.pairwise_lt_range
theorem TabOk.standIn (h:TabOk w t) (n:Nat):TabOk w (t.standIn n):=⟨h.led,zPK n,rfl⟩
theorem TabOk.orStandIn (h:TabOk w t) (n:Nat):TabOk w (t.orStandIn n):=by
 unfold SetTable.orStandIn;split
 ·exact h
 ·exact h.standIn n
theorem TabOk.put (h:TabOk w t) (hj:j∉t.place.toList):TabOk w (t.put j).1:=by
 unfold SetTable.put;refine ⟨h.led,zOY h.up hj,?_⟩;rw[h.nod,zIG];rfl
theorem TabOk.layNew (h:TabOk w t) (es:Array (Int × Value)) (hh:Int) (x:Value):TabOk w (layNew t es hh x).2.1:=by
 unfold PySem.layNew;split
 ·rename_i j b e;exact (h.put (zNh h.up h.nod e).2).orStandIn _
 ·exact h.standIn _
theorem TabOk.relaid (h:TabOk w t) (e:t.relaid hs wanted=some (t',order)):TabOk w t':=by
 unfold SetTable.relaid SetTable.laid at e;cases q:SetTable.layClean (SetTable.sizeAbove wanted-1) hs with
 |none=>rw[q]at e;cases e
 |some owner=>
  rw[q]at e;simp only[Option.bind_eq_bind,Option.bind_some,Option.pure_def,Option.some.injEq,Prod.mk.injEq]at e;obtain ⟨rfl,_⟩:=e;refine ⟨h.led,?_,rfl⟩;unfold Up;rw[List.pairwise_map,List.pairwise_filterMap];refine List.pairwise_lt_range.imp fun {a b} hab x hx y hy=>?_;cases o1:owner.getD a none with
  |none=>rw[o1]at hx;cases hx
  |some u=>
   cases o2:owner.getD b none with
   |none=>rw[o2]at hy;cases hy
   |some v=>
    rw[o1]at hx;rw[o2]at hy;cases hx;cases hy;exact hab
theorem TabOk.relayAll (h:TabOk w t) (es:Array (Int × Value)) (wanted:Nat):TabOk w (relayAll t es wanted).2.1:=by
 unfold PySem.relayAll;split
 ·rename_i t' order e;dsimp only;split
  ·exact h.relaid e
  ·exact h.standIn _
 ·exact h.standIn _
theorem TabOk.plain (h:TabOk w t) (b:Bool):TabOk w { t with plain:=b }:=⟨h.led,h.up,h.nod⟩
theorem TabOk.fresh:TabOk w (SetTable.fresh 0 0 (!w.params.followText "set-order")):=⟨rfl,List.Pairwise.nil,rfl⟩
open Sem (wp)
set_option genInjectivity true in
inductive F2 {α β:Type} (R:α->β->Prop):List α->List β->Prop
 |nil:F2 R [] []
 |cons {x y xs ys}:R x y->F2 R xs ys->F2 R (x::xs) (y::ys)
section
variable {prog:Program} {w:World} {K:Type} [DecidableEq K]
def zTq (knd:KeyKind prog w K) (e:Int × Value) (k:K):Prop:=(knd.is k e.2=true/\e.1=knd.hash k)/\e.2.scannable=true
structure SetK (knd:KeyKind prog w K) (o:Obj) (es:Array (Int × Value)) (ep:Nat) (t:SetTable) (ks:List K):Prop where
 ex:o.ExactSet
 data:o.data=.set es ep t
 tab:TabOk w t
 fits:t.fits es.size=true
 bound:es.size<scanBound
 ent:∃ ks',ks'.Perm ks/\F2 (zTq knd) es.toList ks'
def ins (ks:List K) (k:K):List K:=if k∈ks then ks else ks++[k]
variable {knd:KeyKind prog w K} {o:Obj} {es:Array (Int × Value)} {ep:Nat} {t:SetTable} {ks:List K}
theorem zEC {α β:Type} {R:α->β->Prop}:∀ {xs:List α} {ys:List β},F2 R xs ys->xs.length=ys.length
 |_,_,.nil=>rfl
 |_,_,.cons _ h=>by simp[zEC h]
theorem zDs {α β:Type} {R:α->β->Prop}:∀ {xs:List α} {ys:List β},F2 R xs ys -> ∀ x∈xs,∃ y∈ys,R x y
 |_,_,.nil,x,hx=>by cases hx
 |_,_,.cons h r,x,hx=>by
  rcases zWK.mp hx with z|z
  ·subst z;exact ⟨_,zWM,h⟩
  ·obtain ⟨y,hy,q⟩:=zDs r x z;exact ⟨y,zWL _ hy,q⟩
theorem zFC {α β:Type} {R:α->β->Prop}:∀ {xs:List α} {ys:List β},F2 R xs ys -> ∀ y∈ys,∃ x∈xs,R x y
 |_,_,.nil,x,hx=>by cases hx
 |_,_,.cons h r,x,hx=>by
  rcases zWK.mp hx with z|z
  ·subst z;exact ⟨_,zWM,h⟩
  ·obtain ⟨y,hy,q⟩:=zFC r x z;exact ⟨y,zWL _ hy,q⟩
theorem zD0 {α β:Type} {R:α->β->Prop}:∀ {xs:List α} {ys:List β} {us:List α} {vs:List β},F2 R xs ys->F2 R us vs->F2 R (xs++us) (ys++vs)
 |_,_,_,_,.nil,h=>h
 |_,_,_,_,.cons h r,q=> .cons h (zD0 r q)
theorem zFQ {α β:Type} {R:α->β->Prop} {xs xs':List α} (p:xs'.Perm xs):∀ {ys:List β},F2 R xs ys -> ∃ ys',ys'.Perm ys/\F2 R xs' ys':=by
 have p':=p.symm;clear p;induction p' with
 |nil=>intro ys h;exact ⟨ys,.refl _,h⟩
 |cons x _ ih=>
  intro ys h;cases h with
  |cons h r=>
   obtain ⟨ys',q1,q2⟩:=ih r;exact ⟨_,q1.cons _,.cons h q2⟩
 |swap x y l=>
  intro ys h;cases h with
  |cons h r=>
   cases r with
   |cons h2 r=>
    exact ⟨_,List.Perm.swap _ _ _,.cons h2 (.cons h r)⟩
 |trans _ _ ih1 ih2=>
  intro ys h;obtain ⟨ys',q1,q2⟩:=ih1 h;obtain ⟨ys'',r1,r2⟩:=ih2 q2;exact ⟨ys'',r1.trans q1,r2⟩
theorem SetK.size (h:SetK knd o es ep t ks):es.size=ks.length:=by
 obtain ⟨ks',p,f⟩:=h.ent;rw[<-p.length_eq,<-zEC f,zWr]
theorem SetK.elems (h:SetK knd o es ep t ks):ElemsOf knd es.toList:=fun e he=>by
 obtain ⟨ks',p,f⟩:=h.ent;obtain ⟨k,_,q⟩:=zDs f e he;exact ⟨⟨k,q.1⟩,q.2⟩
theorem SetK.mem (h:SetK knd o es ep t ks) (k:K):k∈ks ↔ ∃ e∈es.toList,knd.is k e.2=true:=by
 obtain ⟨ks',p,f⟩:=h.ent;rw[<-p.mem_iff];constructor
 ·intro hk;obtain ⟨e,he,q⟩:=zFC f k hk;exact ⟨e,he,q.1.1⟩
 ·rintro ⟨e,he,q⟩;obtain ⟨k',hk',q'⟩:=zDs f e he;rw[knd.inj e.2 k k' q q'.1.1];exact hk'
variable {A:Around} {E:Value->Shared->Prop} {s:Shared} {a:Addr} {k:K} {x:Value}
theorem SetK.typeIs (h:SetK knd o es ep t ks) (ho:s.heap.get? a=some o):s.TypeIs (.ref a) "set" := ⟨o,ho,h.ex.1⟩
theorem zIF {h:Heap} (ho:h.get? a=some o) (hd:o.data=.set es ep t) :
  (h.update a (Obj.putSet es' t')).get? a=some { o with data:=.set es' (ep+1) t' }:=by
 have:=zWv (Obj.putSet es' t') ho (by rw[putSet_of es' t' hd];rfl);rw[putSet_of es' t' hd]at this;exact this
theorem zGH {Q:Bool->Shared->Prop} (hkey:knd.is k x=true) (hsc:x.scannable=true) (ho:s.heap.get? a=some o) (hS:SetK knd o es ep t ks) (hroom:ks.length+1<scanBound)
  (h:∀ h' o' es' ep' t' b,Heap.SameBut a s.heap h'->h'.get? a=some o'->SetK knd o' es' ep' t' (ins ks k)->Q b { s with heap:=h' }) :
  wpAny (model prog w) A (setAddHashed a x (knd.hash k)) Q E s:=by
 have hd:=hS.data;have hf:=hS.fits;have hel:=hS.elems;have hb:=hS.bound;have hb1:es.size+1<scanBound:=by rw[hS.size];exact hroom
 unfold setAddHashed setAddHashedIn;refine zW1 (zV8 (wpAny_setState_of ho hd hf ?_));dsimp only;rw[byScan_of hsc hb hel];simp only[↓reduceIte];unfold setAddByScan;refine zV8 ?_;refine zV8 (zXV ?_);refine zV8 (wpAny_setScan_of hkey ho hd hf hel ?_);cases hr:List.findIdx? (fun e=>knd.is k e.2) es.toList with
 |some j=>
  obtain ⟨hj,hpj,_⟩:=List.findIdx?_eq_some_iff_getElem.mp hr;have hSk:k∈ks:=(hS.mem k).mpr ⟨es.toList[j],zWg hj,hpj⟩;refine zWA (zWA ?_);have e:s={ s with heap:=s.heap }:=by cases s;rfl
  rw[e];refine h s.heap o es ep t _ (Heap.SameBut.refl a s.heap) ho ?_;unfold ins;rw[zWN hSk];exact hS
 |none=>
  have hSk:k∉ks:=fun hk=>by
   obtain ⟨e,he,hp⟩:=(hS.mem k).mp hk;have:=List.findIdx?_eq_none_iff.mp hr e he;rw[hp]at this;exact Bool.noConfusion this
  have hgw:∀ (b:Bool) {s₁:Shared} {Q':Unit->Shared->Prop},Q' () s₁->wpAny (model prog w) A (match b with|true=>rule "set.scan.the-table-gave-way" |false=>pure ()) Q' E s₁ :=
   fun b s₁ Q' hq=>by cases b <;> first|exact zWA hq|exact zXV hq
  have hperm:=layNew_perm t es (knd.hash k) x;have hfits:=layNew_fits t es (knd.hash k) x;have htab:=hS.tab.layNew es (knd.hash k) x;generalize hL:layNew t es (knd.hash k) x=L at hperm hfits htab ⊢;obtain ⟨es1,t1,wasDummy,gave⟩:=L;rw[Array.toList_push]at hperm;have hb1':es1.size<scanBound:=by rw[<-zWr,hperm.length_eq,zWO,zWr];simpa using hb1
  obtain ⟨ks',p,f⟩:=hS.ent;have f1:F2 (zTq knd) (es.toList++[(knd.hash k,x)]) (ks'++[k]):=zD0 f (.cons ⟨⟨hkey,rfl⟩,hsc⟩ .nil);obtain ⟨ks1,p1,f2⟩:=zFQ hperm f1;have pI:ks1.Perm (ins ks k):=by
   unfold ins;rw[zWQ hSk];exact p1.trans (p.append_right _)
  refine zV8 (hgw _ ?_)
  have tail:∀ t2:SetTable,TabOk w t2->t2.fits es1.size=true->wpAny (model prog w) A (do
    storeSet a es1 t2
    if (!wasDummy&&t2.tooFull)=true then do
      (match (relayAll t2 es1 (SetTable.grown es1.size)).2.2 with|true=>rule "set.scan.the-table-gave-way" |false=>pure ())
      storeSet a (relayAll t2 es1 (SetTable.grown es1.size)).1 (relayAll t2 es1 (SetTable.grown es1.size)).2.1;pure (some true)
     else pure (some true)) (fun r s'=>wpAny (model prog w) A (match r with|some added=>pure added|none=>setAddHashedIn a x (knd.hash k) 99999) Q E s') E s:=by
   intro t2 T2 F2;refine zV8 (wpAny_storeSet_of ho hd ?_ (fits_of_scanBound hb1'));have g1:=zIF (es':=es1) (t':=t2) ho hd;have sb1:=zXB s.heap a (Obj.putSet es1 t2);have S1:SetK knd { o with data:=.set es1 (ep+1) t2 } es1 (ep+1) t2 (ins ks k):=⟨hS.ex,rfl,T2,F2,hb1',ks1,pI,f2⟩;split
   ·have hp:=relayAll_perm t2 es1 (SetTable.grown es1.size);have hfr:=relayAll_fits t2 es1 (SetTable.grown es1.size);have htr:=T2.relayAll es1 (SetTable.grown es1.size);generalize hRl:relayAll t2 es1 (SetTable.grown es1.size)=Rl at hp hfr htr ⊢;obtain ⟨es2,t3,gave2⟩:=Rl;have hsz:es2.size=es1.size:=by rw[<-zWr,hp.length_eq,zWr]
    have hb2:es2.size<scanBound:=by rw[hsz];exact hb1'
    obtain ⟨ks2,p2,f3⟩:=zFQ hp f2;refine zV8 (hgw _ ?_);refine zV8 (wpAny_storeSet_of g1 rfl ?_ (fits_of_scanBound hb2));have g2:=zIF (es':=es2) (t':=t3) g1 rfl;exact zWA (zWA (h _ _ _ _ _ _ (sb1.trans (zXB _ a _)) g2 ⟨hS.ex,rfl,htr,hfr,hb2,ks2,p2.trans pI,f3⟩))
   ·exact zWA (zWA (h _ _ _ _ _ _ sb1 g1 S1))
  split
  ·refine zV8 ?_;rw[hashByValue_scannable 8 hsc];refine zWA ?_;refine tail _ ?_ ?_
   ·split
    ·exact htab
    ·exact htab.plain _
   ·split
    ·exact hfits
    ·exact SetTable.fits_plain_off hfits
  ·refine zV8 (zWA ?_);simp only[↓reduceIte];exact tail _ htab hfits
theorem zP9 (hkey:knd.is k x=true) (hsc:x.scannable=true) (ho:s.heap.get? a=some o) (hS:SetK knd o es ep t ks) (hroom:ks.length+1<scanBound)
  (h:∀ h' o' es' ep' t',Heap.SameBut a s.heap h'->h'.get? a=some o'->SetK knd o' es' ep' t' (ins ks k)->Q .none { s with heap:=h',toks:=s.toks+1 }) :
  wpAny (model prog w) A (call (.builtin "set.add") [.ref a,x]) Q E s:=by
 refine zWl F.slot_set_add (hS.typeIs ho) F.entry_set_add ?_ (F.args_set_add_2 _ _);unfold Builtin.«set.add» Builtin.Frozenset.oneOther;simp only[List.isEmpty_nil,bind_assoc];unfold Builtin.Frozenset.addrOf setAdd;refine zV8 (zWA ?_);try dsimp only
 refine zV8 (zWA ?_);try dsimp only
 refine zV8 ?_;refine zW1 ?_;refine zV8 (knd.pyHash hkey ?_);refine zGH (s:={ s with toks:=s.toks+1 }) hkey hsc ho hS hroom fun h' o' es' ep' t' b hsb ho' hS'=>?_;exact zWA ⟨_,rfl,h h' o' es' ep' t' hsb ho' hS'⟩
def zB9 (w:World):Obj:={ cls:=.type "set", dict:=none,data:=.set #[] 0 (.fresh 0 0 (!w.params.followText "set-order")) }
theorem SetK.fresh:SetK knd (zB9 w) #[] 0 (.fresh 0 0 (!w.params.followText "set-order")) []:=⟨⟨rfl,rfl,rfl⟩,rfl,.fresh,by rfl,by decide,[],.refl _,.nil⟩
theorem zNe (h:Q (.ref s.heap.objs.size) { s with heap:=s.heap.push (zB9 w) }) :
  wpAny (model prog w) A (newSet (.type "set")) Q E s:=by
 unfold newSet setsByText;refine zV8 (zV8 (wpAny_askSetting (zWA ?_)));simp only[newObj];exact zV8 (wpAny_alloc (zWA h))
end
open PySem.Spec PyProof.Rows
open Sem (wp)
theorem zKG:Manifest.owners.lookup (String.ofList ['r','o','t','a','r','e','t','i','_','t','e','s'].reverse)=some Manifest.sig_set_iterator:=by kernel_rfl
theorem zAQ:Slot "set_iterator" "__next__" "set_iterator.__next__" := .of (owner := "set_iterator") (n := "__next__") (by rw[typeLookup_type,builtinLookup_eq_fast];kernel_rfl) (by decide +kernel) (by decide +kernel) (by decide +kernel) (by first|exact .inl (by decide +kernel)|exact .inr (by decide +kernel)) (by rw[isSubtype_type];kernel_rfl)
theorem zFA:Slot "set_iterator" "__iter__" "set_iterator.__iter__" := .of (owner := "set_iterator") (n := "__iter__") (by rw[typeLookup_type,builtinLookup_eq_fast];kernel_rfl) (by decide +kernel) (by decide +kernel) (by decide +kernel) (by first|exact .inl (by decide +kernel)|exact .inr (by decide +kernel)) (by rw[isSubtype_type];kernel_rfl)
theorem zCP (a:Value):argsOk "set_iterator.__next__" ⟨[a],[]⟩:=by
 unfold argsOk;rw[signature?_of (id := "set_iterator.__next__") (n:=['_','_','t','x','e','n','_','_']) (o:=['r','o','t','a','r','e','t','i','_','t','e','s']) (by kernel_rfl) zKG];kernel_rfl
theorem zJi (a:Value):argsOk "set_iterator.__iter__" ⟨[a],[]⟩:=by
 unfold argsOk;rw[signature?_of (id := "set_iterator.__iter__") (n:=['_','_','r','e','t','i','_','_']) (o:=['r','o','t','a','r','e','t','i','_','t','e','s']) (by kernel_rfl) zKG];kernel_rfl
theorem zB2:entryFor table "set_iterator.__next__" = some Builtin.«set_iterator.__next__»:=entryFor_of_tree (by kernel_rfl)
theorem zH0:entryFor table "set_iterator.__iter__" = some Builtin.«dict_keyiterator.__iter__» :=
 entryFor_alias (id' := "dict_keyiterator.__iter__") (by kernel_rfl) (by first|rfl|decide +kernel|(unfold String.splitOn;simp +decide [String.splitOnAux])) (by decide +kernel) (by kernel_rfl)
theorem zHa:entryFor table "set.__iter__" = some Builtin.«frozenset.__iter__» :=
 entryFor_alias (id' := "frozenset.__iter__") (by kernel_rfl) rfl (by decide +kernel) (by kernel_rfl)
def zBM (f:Value) (i:Nat) (a:Addr) (n ep:Nat):Obj:={ cls:=.type "set_iterator", data:=.fields #[f,rawInt i,.ref a,rawInt n,rawInt ep] }
theorem zEq {α:Type}:∀ {l:List α} {i:Nat} (h:i<l.length),(l[i]::l.eraseIdx i).Perm l
 |[],i,h=>by simp at h
 |x::l,0,h=>by simp
 |x::l,i+1,h=>by
  have:=zEq (l:=l) (i:=i) (by simpa using h);rw[List.getElem_cons_succ,List.eraseIdx_cons_succ];exact (List.Perm.swap _ _ _).trans (this.cons x)
theorem zId {α:Type} {l:List α} (h:i<l.length) (e:n+1=l.length):n=(l.eraseIdx i).length:=by
 rw[List.length_eraseIdx,zWN h];omega
theorem zIk {α:Type} (next:Nat->Nat):∀ (fuel k:Nat) (left:List α) (out:Array α),fuel=left.length->(pickOrder.go next fuel k left out).toList.Perm (out.toList++left)
 |0,k,left,out,h=>by
  have:left=[]:=List.length_eq_zero_iff.mp h.symm;subst this;unfold pickOrder.go;simp
 |fuel+1,k,left,out,h=>by
  unfold pickOrder.go;have hl:0<left.length:=by omega
  have hm:next k % left.length<left.length:=Nat.mod_lt _ hl
  rw[zWC hm];refine (zIk next fuel (k+1) _ _ (zId hm h)).trans ?_;rw[Array.toList_push,zXE];exact (zEq hm).append_left _
theorem zD3 {α:Type} (next:Nat->Nat) (xs:Array α):(pickOrder next xs).toList.Perm xs.toList:=by
 unfold pickOrder;simpa using zIk next xs.size 0 xs.toList #[] (by simp)
section
variable {prog:Program} {w:World} {A:Around} {E:Value->Shared->Prop} {s:Shared}
theorem zJ5 (h0:n≠0) (h:∀ r d,r<n->Q r { s with drawn:=d }):wpAny (model prog w) A (choose src n) Q E s :=
 fun Γ p hΓ=>⟨h0,h _ _ (Nat.mod_lt _ (by omega))⟩
theorem zDl {α:Type}:∀ (n:Nat) (xs:List α) {s:Shared} {Q:List α->Shared->Prop},n=xs.length->(∀ ys d,ys.Perm xs->Q ys { s with drawn:=d })->wpAny (model prog w) A (drawOrder n xs) Q E s
 |0,xs,s,Q,h,q=>by
  have:xs=[]:=List.length_eq_zero_iff.mp h.symm;subst this;have e:s={ s with drawn:=s.drawn }:=by cases s;rfl
  rw[e];exact zWA (q [] s.drawn (.refl _))
 |n+1,[],s,Q,h,q=>by cases h
 |n+1,x::xs,s,Q,h,q=>by
  unfold drawOrder;refine zV8 (zJ5 (by simp) fun r d hr=>?_);rw[zWC hr];refine zV8 (zDl n _ (zId hr h) fun ys d' hp=>zWA ?_);exact q _ d' ((hp.cons _).trans (zEq hr))
variable {K:Type} [DecidableEq K] {knd:KeyKind prog w K} {o:Obj} {es:Array (Int × Value)} {ep:Nat} {t:SetTable} {ks:List K} {a I:Addr}
theorem zG7 (h:s.heap.get? I=some (zBM f i a n ep)):s.TypeIs (.ref I) "set_iterator" := ⟨_,h,rfl⟩
theorem zNE (hI:s.heap.get? I=some (zBM f i a n ep)) (h:Q (.ref I) s):wpAny (model prog w) A (pyIter (.ref I)) Q E s:=by
 refine wpAny_pyIter_slot (zG7 hI) zFA (zWl zFA (zG7 hI) zH0 ?_ (zJi _));exact zWA ⟨_,rfl, "set_iterator", _,zG7 hI,zAQ.lookup,h⟩
structure Nexts (prog:Program) (w:World) (o:Obj) (a:Addr) (ep:Nat) (n:Nat) (at_:Nat->Nat) (ord:List Value):Prop where
 len:ord.length=n
 nx:∀ (A:Around) (E:Value->Shared->Prop) (i:Nat) (s:Shared) (Q:Option (Value × Nat)->Shared->Prop),i<=n->s.heap.get? a=some o->Q ((ord[i]?).map fun x=>(x,at_ (i+1))) s->wpAny (model prog w) A (setNext a (at_ i) i ep) Q E s
theorem zOV (N:Nexts prog w o a ep ks.length at_ ord) (hS:SetK knd o es ep t ks) (hI:s.heap.get? I=some (zBM (rawInt (at_ i)) i a ks.length ep)) (ho:s.heap.get? a=some o)
  (hx:ord[i]?=some x) (hQ:∀ h',h'.get? I=some (zBM (rawInt (at_ (i+1))) (i+1) a ks.length ep)->Heap.SameBut I s.heap h'->Q (some x) { s with heap:=h' }):wpAny (model prog w) A (pyNext (.ref I)) Q E s:=by
 have hT:=zG7 hI;have hi:i<ks.length:=by have:=(zWB.mp hx).1;rw[N.len]at this;exact this
 unfold pyNext;refine zV8 (wpAny_attempt (zWk (name:=Str.ofString "__next__") hT zAQ (zWl zAQ hT zB2 ?_ (zCP _))));unfold Builtin.«set_iterator.__next__» slotArgs;simp only[List.isEmpty_nil,Bool.not_true,zW9,↓reduceIte,List.length_nil,bne_self_eq_false,pure_bind,bind_assoc];refine zV8 (wpAny_fieldsOf hI rfl ?_);dsimp only[rawInt];refine zV8 (wpAny_setEntries_of ho hS.data hS.fits ?_);rw[zWQ (by rw[hS.size];simp)];refine zV8 (N.nx _ _ i s _ (by omega) ho ?_);rw[hx];dsimp only[Option.map];refine zV8 (wpAny_setField hI rfl (by simp) ?_);have e1:=zWv (Obj.mapFields fun vs=>vs.set! 0 (rawInt (at_ (i+1)))) hI (Obj.isFreed_of_fields (zXP rfl _));refine zV8 (wpAny_setField e1 (zXP rfl _) (by simp) ?_);have e2:=zWv (Obj.mapFields fun vs=>vs.set! 1 (rawInt ((i:Int)+1))) e1 (Obj.isFreed_of_fields (zXP (zXP rfl _) _));refine zWA ⟨x,rfl,zWA (hQ _ ?_ ((zXB ..).trans (zXB ..)))⟩;refine e2.trans ?_;simp[Obj.mapFields,zBM,rawInt]
end
open Sem (wp)
section
variable {prog:Program} {w:World} {A:Around} {E:Value->Shared->Prop} {s:Shared}
variable {K:Type} [DecidableEq K] {knd:KeyKind prog w K} {o:Obj} {es:Array (Int × Value)} {ep:Nat} {t:SetTable} {ks:List K} {a I:Addr}
theorem zP2 (hh:A.handled=none) (N:Nexts prog w o a ep ks.length at_ ord) (hS:SetK knd o es ep t ks) (hI:s.heap.get? I=some (zBM (rawInt (at_ ks.length)) ks.length a ks.length ep)) (ho:s.heap.get? a=some o)
  (hQ:∀ h',Heap.ExtBut I s.heap h'->Q none { s with heap:=h' }):wpAny (model prog w) A (pyNext (.ref I)) Q E s:=by
 have hT:=zG7 hI;unfold pyNext;refine zV8 (wpAny_attempt (zWk (name:=Str.ofString "__next__") hT zAQ (zWl zAQ hT zB2 ?_ (zCP _))));unfold Builtin.«set_iterator.__next__» slotArgs;simp only[List.isEmpty_nil,Bool.not_true,zW9,↓reduceIte,List.length_nil,bne_self_eq_false,pure_bind,bind_assoc];refine zV8 (wpAny_fieldsOf hI rfl ?_);dsimp only[rawInt];refine zV8 (wpAny_setEntries_of ho hS.data hS.fits ?_);rw[zWQ (by rw[hS.size];simp)];refine zV8 (N.nx _ _ ks.length s _ (zWE _) ho ?_);rw[zXH (by rw[N.len];exact zWE _)];dsimp only[Option.map];refine zV8 (wpAny_setField hI rfl (by simp) ?_);simp only[newExc,newTuple,bind_assoc,pure_bind];refine zV8 (zWb (zV8 (m:=firstArgMember _ _) (wpAny_of_eq (a:=Value.none) (by first|rfl|(simp only[firstArgMember];rfl)) (zV8 (zWb ?_ (by size_fits))))) (by size_fits));simp only[raiseNew];refine zV8 (wpAny_handled ?_);rw[show A.in1.handled=none from hh];refine zV8 (zWA (wpAny_throw ?_));refine zV8 (wpAny_isInstance (T := "StopIteration") (b:=true) ⟨_,zWI _ rfl,rfl⟩ isSubtype_stop (zWA ?_));exact hQ _ (((zXB ..).extBut.push _).push _)
theorem zLB (hh:A.handled=none) (hne:a≠I) (N:Nexts prog w o a ep ks.length at_ ord) (hS:SetK knd o es ep t ks) :
  Walks prog w A I [I,a] [I] ks.length (fun i v=>ord[i]?=some v) (fun i h=>h.get? I=some (zBM (rawInt (at_ i)) i a ks.length ep)/\h.get? a=some o) where
 sub:=fun b hb=>by simp at hb;simp[hb]
 frame:=fun _ _ _ st hk=>⟨hk I (by simp) _ st.1,hk a (by simp) _ st.2⟩;item:=fun i s Q E hi st hQ=>by
  have hx:ord[i]?=some (ord[i]'(by rw[N.len];exact hi)):=zWC _;refine zOV N hS st.1 st.2 hx fun h' hI' hs'=>?_;exact hQ _ h' s.toks hx ⟨hI',hs'.extBut a o hne st.2⟩ fun b u hb ee=>hs'.extBut b u (fun h=>hb (by simp[h])) ee
 done:=fun s Q E st hQ=>zP2 hh N hS st.1 st.2 fun h' he'=>hQ h' s.toks fun b u hb ee=>he' b u (fun h=>hb (by simp[h])) ee;self:=fun _ _ _ _ st hQ=>zNE st.1 hQ
theorem zMM {pl:List Nat} (hS:SetK knd o es ep t ks) (hl:pl.length=ks.length) (hI:s.heap.get? I=some (zBM (.ref T) i a ks.length ep)) (ho:s.heap.get? a=some o)
  (hT:IsTup s.heap T (pl.map fun (k:Nat)=>rawInt k).toArray)
  (hx:(pl[i]?).bind (fun k=>(es[k]?).map (·.2))=some x) (hQ:∀ h',h'.get? I=some (zBM (.ref T) (i+1) a ks.length ep)->Heap.SameBut I s.heap h'->Q (some x) { s with heap:=h' }):wpAny (model prog w) A (pyNext (.ref I)) Q E s:=by
 have hTy:=zG7 hI;obtain ⟨oT,hoT,hcT,nT,hdT⟩:=id hT;cases hp:pl[i]? with
 |none=>rw[hp]at hx;cases hx
 |some k=>
  rw[hp]at hx;cases he:es[k]? with
  |none=>simp only[Option.bind_some]at hx;rw[he]at hx;cases hx
  |some e=>
   simp only[Option.bind_some]at hx;rw[he]at hx;cases hx;unfold pyNext;refine zV8 (wpAny_attempt (zWk (name:=Str.ofString "__next__") hTy zAQ (zWl zAQ hTy zB2 ?_ (zCP _))));unfold Builtin.«set_iterator.__next__» slotArgs;simp only[List.isEmpty_nil,Bool.not_true,zW9,↓reduceIte,List.length_nil,bne_self_eq_false,pure_bind,bind_assoc];refine zV8 (wpAny_fieldsOf hI rfl ?_);dsimp only[rawInt];refine zV8 (wpAny_setEntries_of ho hS.data hS.fits ?_);rw[zWQ (by rw[hS.size];simp)];refine zV8 (zWy hoT hdT ?_);dsimp only;have e5:(List.map (fun (k:Nat)=>rawInt k) pl).toArray[(i:Int).toNat]?=some (rawInt k):=by simp[hp]
   rw[e5];dsimp only[rawInt];unfold setNextDrawn;simp only[bind_assoc];refine zV8 (wpAny_setState_of ho hS.data hS.fits ?_);rw[zWQ (by simp)];have e6:es[(k:Int).toNat]?=some e:=by simpa using he
   rw[e6];obtain ⟨e1,e2⟩:=e;simp only[pure_bind];refine zV8 (wpAny_setField hI rfl (by simp) ?_);refine zWA ⟨e2,rfl,zWA (hQ _ ?_ (zXB ..))⟩;refine (zWv _ hI (Obj.isFreed_of_fields (zXP rfl _))).trans ?_;simp[Obj.mapFields,zBM,rawInt]
theorem zOA {pl:List Nat} (hh:A.handled=none) (hS:SetK knd o es ep t ks) (hl:pl.length=ks.length) (hI:s.heap.get? I=some (zBM (.ref T) ks.length a ks.length ep)) (ho:s.heap.get? a=some o)
  (hT:IsTup s.heap T (pl.map fun (k:Nat)=>rawInt k).toArray) (hQ:∀ h',Heap.ExtBut I s.heap h'->Q none { s with heap:=h' }):wpAny (model prog w) A (pyNext (.ref I)) Q E s:=by
 have hTy:=zG7 hI;obtain ⟨oT,hoT,hcT,nT,hdT⟩:=id hT;unfold pyNext;refine zV8 (wpAny_attempt (zWk (name:=Str.ofString "__next__") hTy zAQ (zWl zAQ hTy zB2 ?_ (zCP _))));unfold Builtin.«set_iterator.__next__» slotArgs;simp only[List.isEmpty_nil,Bool.not_true,zW9,↓reduceIte,List.length_nil,bne_self_eq_false,pure_bind,bind_assoc];refine zV8 (wpAny_fieldsOf hI rfl ?_);dsimp only[rawInt];refine zV8 (wpAny_setEntries_of ho hS.data hS.fits ?_);rw[zWQ (by rw[hS.size];simp)];refine zV8 (zWy hoT hdT ?_);dsimp only;have e5:(List.map (fun (k:Nat)=>rawInt k) pl).toArray[(ks.length:Int).toNat]?=none:=by simp[hl]
 rw[e5];dsimp only[rawInt];refine zV8 (wpAny_setField hI rfl (by simp) ?_);have e1:=zWv (Obj.mapFields fun vs=>vs.set! 0 (rawInt 0)) hI (Obj.isFreed_of_fields (zXP rfl _));refine zV8 (wpAny_setField e1 (zXP rfl _) (by simp) ?_);simp only[newExc,newTuple,bind_assoc,pure_bind];refine zV8 (zWb (zV8 (m:=firstArgMember _ _) (wpAny_of_eq (a:=Value.none) (by first|rfl|(simp only[firstArgMember];rfl)) (zV8 (zWb ?_ (by size_fits))))) (by size_fits));simp only[raiseNew];refine zV8 (wpAny_handled ?_);rw[show A.in1.handled=none from hh];refine zV8 (zWA (wpAny_throw ?_));refine zV8 (wpAny_isInstance (T := "StopIteration") (b:=true) ⟨_,zWI _ rfl,rfl⟩ isSubtype_stop (zWA ?_));exact hQ _ ((((zXB ..).trans (zXB ..)).extBut.push _).push _)
theorem zKE {pl:List Nat} (hh:A.handled=none) (hne:a≠I) (hneT:T≠I) (hS:SetK knd o es ep t ks) (hl:pl.length=ks.length) (hb:∀ k∈pl,k<es.size) :
  Walks prog w A I [I,a,T] [I] ks.length (fun i v=>(pl[i]?).bind (fun k=>(es[k]?).map (·.2))=some v) (fun i h=>h.get? I=some (zBM (.ref T) i a ks.length ep)/\h.get? a=some o/\IsTup h T (pl.map fun (k:Nat)=>rawInt k).toArray) where
 sub:=fun b hb=>by simp at hb;simp[hb]
 frame:=fun _ _ _ st hk=>⟨hk I (by simp) _ st.1,hk a (by simp) _ st.2.1,let ⟨oT,ho,r⟩:=st.2.2;⟨oT,hk T (by simp) oT ho,r⟩⟩;item:=fun i s Q E hi st hQ=>by
  have hi':i<pl.length:=by rw[hl];exact hi
  have hk:pl[i]<es.size:=hb _ (zWg hi');have hx:(pl[i]?).bind (fun k=>(es[k]?).map (·.2))=some (es[pl[i]].2):=by
   rw[zWC hi'];simp[hk]
  refine zMM hS hl st.1 st.2.1 st.2.2 hx fun h' hI' hs'=>?_;exact hQ _ h' s.toks hx ⟨hI',hs'.extBut a o hne st.2.1,st.2.2.extBut hs'.extBut hneT⟩ fun b u hb ee=>hs'.extBut b u (fun h=>hb (by simp[h])) ee
 done:=fun s Q E st hQ=>zOA hh hS hl st.1 st.2.1 st.2.2 fun h' he'=>hQ h' s.toks fun b u hb ee=>he' b u (fun h=>hb (by simp[h])) ee;self:=fun _ _ _ _ st hQ=>zNE st.1 hQ
end
open Sem (wp)
theorem zNr {prog:Program} {w:World} {A:Around} {I:Addr} {fp wr:List Addr} {n:Nat} {P P':Nat->Value->Prop} {St:Nat->Heap->Prop} (W:Walks prog w A I fp wr n P St) (h:∀ i v,P i v->P' i v):Walks prog w A I fp wr n P' St where
 sub:=W.sub;frame:=W.frame;item:=fun i s Q E hi st hQ=>W.item i s Q E hi st fun v h' tk hP=>hQ v h' tk (h i v hP);done:=W.done;self:=W.self
section
variable {prog:Program} {w:World} {A:Around} {E:Value->Shared->Prop} {s:Shared}
variable {K:Type} [DecidableEq K] {knd:KeyKind prog w K} {o:Obj} {es:Array (Int × Value)} {ep:Nat} {t:SetTable} {ks:List K} {a I:Addr}
theorem zCv (h:Q (w.params.followText "set-order") s):wpAny (model prog w) A setsByText Q E s:=by
 unfold setsByText;exact zV8 (wpAny_askSetting (zWA h))
theorem zL9 (hS:SetK knd o es ep t ks) (hT:w.params.followText "set-order" = true):Nexts prog w o a ep ks.length (fun _=>0) ((pickOrder (w.params.setOrder a ep) es).toList.map (·.2)) where
 len:=by rw[zWH,(zD3 _ es).length_eq,zWr,hS.size]
 nx:=fun A E i s Q hi ho hQ=>by
  unfold setNext;refine zV8 (wpAny_setState_of ho hS.data hS.fits ?_);refine zV8 (zCv ?_);rw[hT,zWN rfl,zWQ (by simp)];refine zV8 ?_;unfold setWalk;refine zV8 (wpAny_setState_of ho hS.data hS.fits ?_);refine zV8 (zCv ?_);rw[hT,zWN rfl];refine zV8 (wpAny_askSetting (zWA ?_));refine zWA ?_;have e:(Option.map (fun (e:Int × Value)=>(e.2,0)) (pickOrder (w.params.setOrder a ep) es)[i]?)=Option.map (fun x=>(x,0)) ((pickOrder (w.params.setOrder a ep) es).toList.map (·.2))[i]?:=by
   rw[zWV,Array.getElem?_toList];cases (pickOrder (w.params.setOrder a ep) es)[i]? <;> rfl
  show Q (Option.map (fun (e:Int × Value)=>(e.2,0)) (pickOrder (w.params.setOrder a ep) es)[i]?) s;rw[e];exact hQ
def zLc (t:SetTable):Nat->Nat
 |0=>0
 |i+1=>t.place.getD i 0+1
theorem zQF (h:Up t.place) (hi:i<=t.place.size):SetTable.below t.place (zLc t i)=i:=by
 cases i with
 |zero=>exact zLq h
 |succ i=>
  show SetTable.below t.place (t.place.getD i 0+1)=i+1;have hl:i<t.place.size:=by omega
  have e:t.place.getD i 0=t.place[i]:=by simp[Array.getD,hl]
  rw[e];exact zLp h hl
theorem zOF (hS:SetK knd o es ep t ks):t.place.size=es.size:=by
 have:=hS.fits;simp only[SetTable.fits,zWi,beq_iff_eq]at this;exact this.1
theorem zLI (hS:SetK knd o es ep t ks) (hT:w.params.followText "set-order" = false) (hd:(!t.plain&&decide (es.size>1))=false):Nexts prog w o a ep ks.length (zLc t) (es.toList.map (·.2)) where
 len:=by rw[zWH,zWr,hS.size]
 nx:=fun A E i s Q hi ho hQ=>by
  have hz:=zOF hS;unfold setNext;refine zV8 (wpAny_setState_of ho hS.data hS.fits ?_);refine zV8 (zCv ?_);rw[hT,zWQ (by decide)];show wpAny _ _ (if (!t.plain&&decide (es.size>1))=true then _ else _) _ _ _;rw[zWQ (by rw[hd];decide)];have hl:t.led=true:=by rw[hS.tab.led,hT];rfl
  refine zV8 ?_;show wpAny _ _ (if (!t.led && !es.isEmpty)=true then unsupported "set:maker-not-led" else pure ()) _ _ _;rw[zWQ (by rw[hl];simp)];refine zWA ?_;rw[zQF hS.tab.up (by rw[hz,hS.size];exact hi)];refine zWA ?_;rw[zWV,Array.getElem?_toList]at hQ;by_cases q:i<es.size
  ·have q2:i<t.place.size:=by rw[hz];exact q
   rw[zWt q,zWt q2];rw[zWt q]at hQ;have e:zLc t (i+1)=t.place[i]+1:=by
    show t.place.getD i 0+1=_;simp[Array.getD,q2]
   simp only[Option.map]at hQ;rw[e]at hQ;exact hQ
  ·have:i=es.size:=by rw[hS.size]at q ⊢;omega
   rw[Array.getElem?_eq_none (by omega)]at hQ ⊢;exact hQ
theorem zQf (ho:s.heap.get? a=some o) (hS:SetK knd o es ep t ks)
  (h:∀ (h':Heap) (d:Drawn) (I:Addr) (fp:List Addr) (ord:List Value) (St:Nat->Heap->Prop),(∀ b u,s.heap.get? b=some u->h'.get? b=some u)->s.heap.objs.size<=I->(∀ b∈fp,b<h'.objs.size/\(b=a\/s.heap.objs.size<=b)) ->
   (∀ A:Around,A.handled=none->Walks prog w A I fp [I] ks.length (fun i v=>ord[i]?=some v) St)->St 0 h'->ord.Perm (es.toList.map (·.2))->Q (.ref I) { s with heap:=h',drawn:=d }) :
  wpAny (model prog w) A (pyIter (.ref a)) Q E s:=by
 have hT:=hS.typeIs ho;have hal:a<s.heap.objs.size:=zWJ ho;refine wpAny_pyIter_slot hT F.slot_set_iter (zWl F.slot_set_iter hT zHa ?_ (F.args_set_iter_1 _));unfold Builtin.«frozenset.__iter__» Builtin.Frozenset.slot0 slotArgs Builtin.Frozenset.addrOf Builtin.Frozenset.sizeOf;simp only[List.isEmpty_nil,Bool.not_true,zW9,↓reduceIte,List.length_nil,bne_self_eq_false,pure_bind,bind_assoc];refine zV8 (wpAny_setEntries_of ho hS.data hS.fits ?_);unfold setDrawn;simp only[bind_assoc];refine zV8 (wpAny_setState_of ho hS.data hS.fits ?_);refine zV8 (zCv ?_);simp only[pure_bind];have hsz:=hS.size;have plain:∀ (at_:Nat->Nat) (ord:List Value),at_ 0=0->Nexts prog w o a ep ks.length at_ ord->ord.Perm (es.toList.map (·.2))->Q (.ref s.heap.objs.size) { s with heap:=s.heap.push (zBM (rawInt 0) 0 a ks.length ep) }:=by
  intro at_ ord h0 N hp;have e:s.heap.push (zBM (rawInt 0) 0 a ks.length ep)=s.heap.push (zBM (rawInt 0) 0 a ks.length ep):=rfl
  have:=h (s.heap.push (zBM (rawInt 0) 0 a ks.length ep)) s.drawn s.heap.objs.size [s.heap.objs.size,a] ord (fun i h=>h.get? s.heap.objs.size=some (zBM (rawInt (at_ i)) i a ks.length ep)/\h.get? a=some o)
   (fun b u e=>zV9 _ e) (zWE _) (fun b hb=>by
    rw[zWo];rcases zWK.mp hb with z|z
    ·rw[z];exact ⟨zW5 _,.inr (zWE _)⟩
    ·rw[List.mem_singleton.mp z];exact ⟨zWx hal,.inl rfl⟩)
   (fun A hh=>zLB hh (zWT hal) N hS) ⟨by rw[h0];exact zWI _ rfl,zV9 _ ho⟩ hp
  exact this
 have mk:∀ (s1:Shared) (f:Value) (hv:s1.heap.get? a=some o) {Q':Fin->Shared->Prop},Q' (.done (.ret (.ref s1.heap.objs.size))) { s1 with heap:=s1.heap.push (zBM f 0 a ks.length ep) }->wpAny (model prog w) A.in1 (do
   let e <- setEpoch a;let r <- newFields "set_iterator" [f,rawInt 0,Value.ref a,rawInt es.size,rawInt e];ret r) Q' E s1:=by
  intro s1 f hv Q' hq;refine zV8 (wpAny_setEpoch_of hv hS.data hS.fits ?_);unfold newFields;refine zV8 (zWb (zWA ?_));rw[hsz];exact hq
 have ty:∀ (s1:Shared) (f:Value),(∃ T' r,Shared.TypeIs { s1 with heap:=s1.heap.push (zBM f 0 a ks.length ep) } (.ref s1.heap.objs.size) T'/\typeLookup (Value.type T') (Str.ofString "__next__")=pure (some r)/\True):=fun s1 f=>⟨"set_iterator", _,⟨_,zWI _ rfl,rfl⟩,zAQ.lookup,trivial⟩;show wpAny _ _ (if (!w.params.followText "set-order" && (!t.plain&&decide (es.size>1)))=true then _ else _) _ _ _;by_cases hc:(!w.params.followText "set-order" && (!t.plain&&decide (es.size>1)))=true
 ·rw[zWN hc];refine zV8 (zDl _ _ (by simp) fun pl d hp=>?_);refine zV8 ?_;unfold newTuple;have hpl:pl.length=ks.length:=by rw[hp.length_eq,zX5,hsz]
  refine zWb ?_ (by
   show (List.map (fun (i:Nat)=>rawInt i) pl).toArray.size<=sizeLine;rw[zWG,zWH,hpl,<-hsz];exact fits_of_scanBound hS.bound)
  generalize hH:s.heap.push { cls:=.type "tuple", data:=.seq (List.map (fun (i:Nat)=>rawInt i) pl).toArray }=H;have kH:∀ b u,s.heap.get? b=some u->H.get? b=some u:=fun b u e=>by rw[<-hH];exact zV9 _ e
  have hT1:IsTup H s.heap.objs.size (pl.map fun (k:Nat)=>rawInt k).toArray:=⟨_,by rw[<-hH];exact zWI _ rfl,rfl,0,rfl⟩;have szH:H.objs.size=s.heap.objs.size+1:=by rw[<-hH];exact zWo ..
  have szlt:s.heap.objs.size<H.objs.size:=by rw[szH];exact zW5 _
  have alt:a<H.objs.size:=Nat.lt_trans hal szlt;refine mk { s with heap:=H,drawn:=d } (.ref s.heap.objs.size) (kH _ _ ho) ?_;obtain ⟨T',r,e1,e2,_⟩:=ty { s with heap:=H,drawn:=d } (.ref s.heap.objs.size);refine ⟨_,rfl,T',r,e1,e2,?_⟩;have kH2:∀ b u,s.heap.get? b=some u->(H.push (zBM (.ref s.heap.objs.size) 0 a ks.length ep)).get? b=some u:=fun b u e=>zV9 _ (kH b u e);refine h _ d H.objs.size [H.objs.size,a,s.heap.objs.size] (pl.map fun k=>((es[k]?).map (·.2)).getD .none) (fun i h=>h.get? H.objs.size=some (zBM (.ref s.heap.objs.size) i a ks.length ep)/\h.get? a=some o/\IsTup h s.heap.objs.size (pl.map fun (k:Nat)=>rawInt k).toArray) kH2 (by rw[szH];exact Nat.le_succ _) (fun b hb=>?_) (fun A hh=>?_) ⟨zWI _ rfl,kH2 a o ho,?_⟩ ?_
  ·rw[zWo];simp only[zWK,zWd,zXT]at hb;rcases hb with z|z|z
   ·rw[z];exact ⟨zW5 _,.inr (Nat.le_of_lt szlt)⟩
   ·rw[z];exact ⟨zWx alt,.inl rfl⟩
   ·rw[z];exact ⟨zWx szlt,.inr (zWE _)⟩
  ·have hb:∀ k∈pl,k<es.size:=fun k hk=>by have:=hp.mem_iff.mp hk;simpa using this
   refine zNr (zKE hh (a:=a) (I:=H.objs.size) (T:=s.heap.objs.size) (zWT alt) (zWT szlt) hS hpl hb) fun i v hv=>?_;rw[zWV];cases q:pl[i]? with
   |none=>rw[q]at hv;cases hv
   |some k=>
    rw[q]at hv;simp only[Option.bind_some]at hv;rw[Option.map_some,hv];rfl
  ·exact hT1.push _
  ·have e:es.toList.map (·.2)=(List.range es.size).map fun k=>((es[k]?).map (·.2)).getD .none:=by
    apply List.ext_getElem?;intro i;rw[zWV,zWV,Array.getElem?_toList];by_cases q:i<es.size
    ·rw[zYC q,zWt q];simp[q]
    ·rw[Array.getElem?_eq_none (by omega),zXH (by simp;omega)];rfl
   rw[e];exact hp.map _
 ·rw[zWQ hc];refine mk s (rawInt 0) ho ?_;obtain ⟨T',r,e1,e2,_⟩:=ty s (rawInt 0);refine ⟨_,rfl,T',r,e1,e2,?_⟩;cases hX:w.params.followText "set-order" with
  |true=>exact plain _ _ rfl (zL9 hS hX) ((zD3 _ es).map _)
  |false=>
   rw[hX]at hc;exact plain _ _ rfl (zLI hS hX (by simpa using hc)) (.refl _)
end
open Sem (wp)
section
variable {prog:Program} {w:World} {A:Around} {E:Value->Shared->Prop} {s:Shared}
variable {K:Type} [DecidableEq K] {knd:KeyKind prog w K} {o:Obj} {es:Array (Int × Value)} {ep:Nat} {t:SetTable} {ks:List K} {a I:Addr}
theorem zQR:isSubtype (.type "set") (.type "set")=pure true:=sub_set_self
theorem zNX (hT:s.TypeIs (.ref a) "set") (h:Q false s):wpAny (model prog w) A (Builtin.List.listLengthHint (.ref a)) Q E s:=by
 unfold Builtin.List.listLengthHint;refine zV8 (wpAny_specialOf hT F.slot_set_len.lookup ?_);have hsp:splitId "set.__len__" = some ("set", "__len__"):=by decide +kernel
 dsimp only;rw[hsp];refine zV8 (wpAny_isInstance hT zQR ?_);rw[zWQ (by decide),zWN (by decide +kernel)];refine zV8 (wpAny_typeOf hT ?_);exact zWA h
theorem zLA (hh:A.handled=none) (ho:s.heap.get? a=some o) (hS:SetK knd o es ep t ks)
  (hQ:∀ (s':Shared) (acc:List Value),(∀ b u,s.heap.get? b=some u->s'.heap.get? b=some u)->s'.os=s.os->s'.gens=s.gens->acc.Perm (es.toList.map (·.2))->Q acc s'):wpAny (model prog w) A (collect (.ref a)) Q E s:=by
 have hal:a<s.heap.objs.size:=zWJ ho;have hn:ks.length<=sizeLine:=by rw[<-hS.size];exact fits_of_scanBound hS.bound
 unfold collect;refine zV8 (wpAny_runValue (codeAny_builtin F.entry_proto_collect ?_));rw[Around.under_plainId F.plain_proto_collect _];refine zV8 (zWb (zWA ⟨plainId_quiet F.plain_list_iadd _,codeAny_builtin F.entry_list_iadd ?_⟩));rw[Around.under_plainId F.plain_list_iadd _];generalize hH:s.heap.push { cls:=.type "list", data:=.seq ([]:List Value).toArray }=H;have kH:∀ b u,s.heap.get? b=some u->H.get? b=some u:=fun b u e=>by rw[<-hH];exact zV9 _ e
 have szH:H.objs.size=s.heap.objs.size+1:=by rw[<-hH];exact zWo ..
 have hL1:H.get? s.heap.objs.size=some { cls:=.type "list", data:=.seq ([]:List Value).toArray }:=by rw[<-hH];exact zWI _ rfl
 have ho1:=kH a o ho;show wpAny _ A.in1 (Builtin.List.listExtendWith (.ref s.heap.objs.size) (.ref a) (.ref s.heap.objs.size)) _ _ { s with heap:=H };unfold Builtin.List.listExtendWith;have hT1:Shared.TypeIs { s with heap:=H } (.ref a) "set" := ⟨o,ho1,hS.ex.1⟩;refine zV8 (wpAny_typeOf hT1 ?_);have hneL:s.heap.objs.size≠a:=zXd hal;have h1:Builtin.List.listSameRef (.ref s.heap.objs.size) (.ref a)=false:=by simp[Builtin.List.listSameRef,hneL]
 have h2:(Value.type "set" == Value.type "list")=false:=by decide
 have h3:(Value.type "set" == Value.type "tuple")=false:=by decide
 simp only[h1,h2,h3,Bool.or_false,zW9,if_false];refine zV8 (zQf (s:={ s with heap:=H }) ho1 hS fun h2 d I fp ord St k2 hI2 hfp W st0 hp=>?_);have ho2:=k2 a o ho1;refine zV8 (zW1 (zNX (s:={ s with heap:=h2,drawn:=d }) ⟨o,ho2,hS.ex.1⟩ ?_));rw[zWN (by decide +kernel)];refine zV8 (zXV (zV8 ?_));have hL2:=k2 _ _ hL1;refine zV8 (wpAny_updateSeq (s:={ s with heap:=h2,drawn:=d }) hL2 rfl ?_);have hS2:=zWv (Obj.mapSeq (·.push Value.none)) hL2 rfl;refine wpAny_updateSeq hS2 rfl ?_;have hS3:=zWv (Obj.mapSeq (·.pop)) hS2 rfl;generalize hH3:(h2.update s.heap.objs.size (Obj.mapSeq (·.push Value.none))).update s.heap.objs.size (Obj.mapSeq (·.pop))=H3 at hS3;have oth:∀ b u,b≠s.heap.objs.size->h2.get? b=some u->H3.get? b=some u:=fun b u hb e=>by
  rw[<-hH3];exact (zWp _ _ (Ne.symm hb)).trans ((zWp _ _ (Ne.symm hb)).trans e)
 have hSf:s.heap.objs.size∉fp:=fun hm=>by
  rcases (hfp _ hm).2 with z|z
  ·exact hneL z
  ·have z':H.objs.size<=s.heap.objs.size:=z;rw[szH]at z';exact absurd z' (Nat.not_succ_le_self _)
 have WS:=(W A.in1.in1 hh).toS;have st3:St 0 H3:=(W A.in1.in1 hh).frame 0 _ _ st0 fun b hb u e=>oth b u (fun z=>hSf (z▸hb)) e;have hI3:I≠s.heap.objs.size:=fun z=>by
  have z':H.objs.size<=I:=hI2;rw[szH,z]at z';exact absurd z' (Nat.not_succ_le_self _)
 refine zWA ⟨plainId_quiet F.plain_extend_loop _,codeAny_extend_loopS (A:=A) (WalksS.of_in1 WS) hn _ hSf _ ks.length 0 { s with heap:=H3,drawn:=d } _ _ rfl (zWu _) st3 hS3 (ItemsOf.nil _) fun s' acc' c' hm hS' hacc=>?_⟩;refine zV8 (wpAny_load hS' (zWA (hQ s' _ (fun b u e=>hm.heap b u (fun q=>?_) (oth b u (fun z=>zWq _ (z▸zWJ e)) (k2 b u (kH b u e)))) hm.os hm.gens ?_)))
 ·rcases zWK.mp q with z|z
  ·exact zWq _ (z▸zWJ e)
  ·have z':H.objs.size<=I:=hI2;rw[<-List.mem_singleton.mp z,szH]at z';exact zWq _ (Nat.lt_trans (zWX (zW5 _) z') (zWJ e))
 ·have e:acc'.toList=ord:=by
   have hl:ord.length=ks.length:=by rw[hp.length_eq,zWH,zWr,hS.size]
   apply List.ext_getElem?;intro i;rw[Array.getElem?_toList];by_cases q:i<ks.length
   ·have q':i<acc'.size:=by rw[hacc.1];exact q
    rw[zWt q'];exact (hacc.2 i _ (zWt q')).symm
   ·rw[Array.getElem?_eq_none (by rw[hacc.1];omega),zXH (by omega)]
  rw[e];exact hp
end
end ST
namespace L2
open PySem PySem.Spec PyProof.Rows ST
section
variable {prog:Program} {w:World} {A:Around} {R:Result->Shared->Prop} {s:Shared}
theorem zDn {elt target iter ifs rest scope pos it acc env}
  (h0:codeAny (model prog w) A (.compLoop (.SetComp elt (⟨target,iter,ifs,0⟩::rest) scope pos) 0 it acc env) R s)
  (h:wpAny (model prog w) A (pyIter it) (fun it' s'=>codeAny (model prog w) A (.compLoop (.SetComp elt (⟨target,iter,ifs,0⟩::rest) scope pos) 0 it' acc env) R s')
   (notedBy (model prog w) A env fun x s'=>R (.error x) s') s) :
  codeAny (model prog w) A (.compStart (.SetComp elt (⟨target,iter,ifs,0⟩::rest) scope pos) 0 it acc env) R s:=by
 refine codeAny_of_tree ?_;show wpAny _ _ ((compStart (.SetComp elt (⟨target,iter,ifs,0⟩::rest) scope pos) 0 it acc env).onRaise (fun x=>do noteFrame x env;standAt theWindowsPlace)) _ _ s;refine wpAny_notedAt ?_;unfold compStart;refine zV8 (wpAny_askSetting (wpAny_ite ?_));split
 ·first
   |exact zV8 (zWA (zWA (And.intro rfl h0)))
   |exact zWA (And.intro rfl h0)
 ·first
   |exact zV8 (zXV (zV8 (zW6 (zV8 (zWe h (fun it' s' h'=>zWA (And.intro rfl h')) fun _ _ x=>x)))))
   | (refine zV8 (zXV ?_);show wpAny _ _ (standAt iter.pos >>= _) _ _ s;exact zV8 (zW6 (zV8 (zWe h (fun it' s' h'=>zWA (And.intro rfl h')) fun _ _ x=>x))))
end
section
variable {X:Cx} {zB:List (Addr × Obj)} {σ:St} {H:Hp} {s:Shared} {scope:Scope} {cl:List (Str × Addr)} {fp:List Addr} {it:Addr} {tn:Nat->Heap->Prop} {J:It} {tg elt iter:Expr} {ifs:List Expr} {pos:Pos}
 {own:List Nat} {g:TG} {tc:TT} {te:TE} {E:Value->Shared->Prop}
theorem zMC (h:SetK (intKind prog w) o es ep t ks):∀ v,o.data≠.cell v:=fun v z=>by rw[h.data]at z;cases z
theorem zHB (C:CompIn X scope own) (hcalm:X.calm=true) (I:Inv X zB σ H s) (T:Turn X.prog X.w X.K tg J fp it tn) (st:tn 0 s.heap) (hf:∀ b∈fp,zCL X zB H b)
  (c1:∀ x c,cl.lookup x=some c->X.env.cells.lookup x=some c) (c2:∀ y∈scope.names,y.2=.free->(cl.lookup y.1).isSome=true)
  (hg:PG (zL X zB scope cl s H fp) tg g) (hi:zGD (zL X zB scope cl s H fp) ifs tc) (he:PE (zL X zB scope cl s H fp) elt te)
  {RR:Value->Addr->Result->Shared->Prop} {QQ:List Int->Hp->Prop} {W:Nat->Nat->List Int->Hp->Prop} {m0:Nat} (w0:W 0 m0 [] H)
  (turn:∀ i m ys H,W i m ys H->(J.stop i H/\QQ ys H) \/
   (J.go i H /\ ∀ x H',J.yld i H x H'->g x (clr own σ) H' fun σ2 H2=>Ext (clr own σ) σ2/\tc σ2 H2 fun b H3=>
    if b=true then te σ2 H3 fun v H4=>∃ k,v=.int k/\ys.length+1<scanBound /\ ∃ m',m'<m/\W (i+1) m' (ins ys k) H4 else ∃ m',m'<m/\W (i+1) m' ys H3))
  (fin:∀ σc H' s' o es ep t ys,Inv (zL X zB scope cl s H fp) [(s.heap.objs.size,o)] σc H' s'->SetK (intKind X.prog X.w) o es ep t ys->QQ ys H'->RR (.ref s.heap.objs.size) (s.heap.objs.size+1) (.ok .next) s') :
  wpAny (model X.prog X.w) X.A (newSet (.type "set")) (fun acc s₃=>wpAny (model X.prog X.w) X.A (newFunctionEnv scope X.env.globals cl [] X.env.qual none .none (some X.env)) (fun cenv s₄=>
   codeAny (model X.prog X.w) X.A (.compStart (.SetComp elt [⟨tg,iter,ifs,0⟩] scope pos) 0 (.ref it) acc { cenv with scope:=relabel scope X.env }) (RR acc cenv.locals) s₄) E s₃) E s:=by
 have ob:∀ b:Nat,b∈fp->b<s.heap.objs.size:=fun b hb=>let ⟨_,e,_⟩:=T.obj 0 _ st b hb;zWJ e;refine zNe (zCw ?_);have sz1:(s.heap.push (zB9 X.w)).objs.size=s.heap.objs.size+1:=zWo ..;have I4:=zE0 (X:=X) (zB:=zB) (σ:=σ) (σc:=clr own σ) (H:=H) (s:=s) (scope:=scope) (cl:=cl) (fp:=fp) C.sc I hf ob c1 c2 (zBT own σ) (fun i x v h1 h2 h3=>by
  obtain ⟨a,b⟩:=zCx own σ i v h2;rcases C.nm i x h1 with z|z|z
  ·exact absurd z b
  ·exact absurd (zCN x z) h3
  ·exact ⟨z,a⟩) (zB9 X.w) (by intro v z;cases z) rfl rfl
 have st4:tn 0 (pushCells ((s.heap.push (zB9 X.w)).push { cls:=.type "dict", data:=.dict #[] }) scope.names):=T.keep 0 _ _ st fun b _ o e=>pushCells_keeps _ _ b o (zV9 _ (zV9 _ e));unfold newEnv;rw[sz1];have hDfp:s.heap.objs.size∉fp:=fun z=>zWq _ (ob _ z);have hcD:∀ x c,(zL X zB scope cl s H fp).env.cells.lookup x=some c->c≠s.heap.objs.size:=fun x c e z=>by
  obtain ⟨v,o,ho,hd⟩:=I4.cell x c e;obtain ⟨q,_⟩:=I4.pin (s.heap.objs.size,zB9 X.w) (by simp);rw[z,q]at ho;cases ho;cases hd
 have fpk:∀ {H':Hp} {pl:List (Addr × Obj)},(∀ b∈fp,H' b=none)->(∀ p∈pl,p.1=s.heap.objs.size) -> ∀ b∈fp,zCL (zL X zB scope cl s H fp) pl H' b:=fun {H' pl} hn hp b hb=>
  ⟨hn b hb,(I4.ok.exf b hb).1,I4.ok.exfs b hb,.inl hb,(I4.ok.exf b hb).2,fun p hq=>by
   rcases zWY.mp hq with z|z
   ·exact (hf b hb).2.2.2.2.2 p z
   ·intro e;have e2:=hp p z;rw[e]at e2;exact hDfp (e2▸hb)⟩
 have loop:codeAny (model X.prog X.w) X.A (.compLoop (.SetComp elt [⟨tg,iter,ifs,0⟩] scope pos) 0 (.ref it) (.ref s.heap.objs.size) (zL X zB scope cl s H fp).env) (RR (.ref s.heap.objs.size) (s.heap.objs.size+1))
   { s with heap:=pushCells ((s.heap.push (zB9 X.w)).push { cls:=.type "dict", data:=.dict #[] }) scope.names }:=by
  refine zI3 (fun n s'=>∃ i H' ys o es ep t,Inv (zL X zB scope cl s H fp) [(s.heap.objs.size,o)] (clr own σ) H' s'/\SetK (intKind X.prog X.w) o es ep t ys/\tn i s'.heap/\(∀ b∈fp,H' b=none)/\W i n ys H') ?_ m0
   ⟨0,H,[],zB9 X.w,_,_,_,I4,.fresh,st4,fun b hb=>(hf b hb).1,w0⟩
  rintro n s5 ⟨i,H5,ys,o,es,ep,t,I5,r5,st5,f5,w5⟩;have pinD:∀ p∈[(s.heap.objs.size,o)],p.1=s.heap.objs.size:=fun p hp=>by
   have:p=(s.heap.objs.size,o):=by simpa using hp
   rw[this]
  rcases turn i n ys H5 w5 with ⟨stop,qq⟩|⟨go,step⟩
  ·refine thn (T.done (zL X zB scope cl s H fp) rfl rfl rfl hcalm i _ s5 _ H5 _ I5 (fpk f5 pinD) st5 stop) fun r s6 ⟨hr,I6⟩=>?_;subst hr;exact fin _ H5 s6 o es ep t ys I6 r5 qq
  ·refine thn (T.item (zL X zB scope cl s H fp) rfl rfl rfl hcalm i _ s5 _ H5 _ I5 (fpk f5 pinD) st5 go) fun r s6 ⟨u,hr,h6⟩=>?_;subst hr;refine thn h6 fun _ s7 ⟨x,H7,I7,r7,y7,st7,f7⟩=>?_;have I7':=I7.pinned (fpk f7 pinD) (T.obj _ _ st7);refine thn (hg _ s7 _ H7 x u _ I7' r7 (step x H7 y7)) fun _ s8 ⟨σ8,H8,I8,x8,q8⟩=>?_;refine thn (hi _ s8 σ8 H8 _ I8 q8) fun ok s9 ⟨H9,I9,q9⟩=>?_;have back:∀ {s':Shared} {Hx:Hp},Inv (zL X zB scope cl s H fp) ([(s.heap.objs.size,o)]++zC3 fp s7.heap) σ8 Hx s'->tn (i+1) s'.heap /\ ∀ b∈fp,Hx b=none:=fun {s' Hx} Ix=>
    ⟨T.keep _ _ _ st7 fun b hb o e=>(Ix.pin (b,o) (zWS _ (zWS _ (zAX hb e)))).1,fun b hb=>by
     obtain ⟨o,e,d⟩:=T.obj _ _ st7 b hb;exact (Ix.pin (b,o) (zWS _ (zWS _ (zAX hb e)))).2.1⟩
   cases ok with
   |false=>
    obtain ⟨m',hm,w'⟩:=q9;obtain ⟨b1,b2⟩:=back I9;exact ⟨m',hm,i+1,H9,ys,o,es,ep,t,(I9.weak (by rw[x8.1]) x8.2).unpinned,r5,b1,b2,w'⟩
   |true=>
    refine thn (he _ s9 σ8 H9 _ I9 q9) fun v s10 ⟨y,H10,I10,r10,k,hk,hlt,m',hm,w'⟩=>?_;subst hk;obtain ⟨b1,b2⟩:=back I10;have J10:=(I10.weak (by rw[x8.1]) x8.2).unpinned;obtain ⟨e10,n10,ne10,nf10,d10⟩:=J10.pin (s.heap.objs.size,o) (by simp);obtain ⟨tk,hv⟩:∃ tk,v=.int k tk:=r10;subst hv;refine zP9 (knd:=intKind X.prog X.w) (intKind_is _ _ _ _) rfl e10 r5 hlt fun h' o' es' ep' t' hs' e' S'=>?_;refine ⟨m',hm,i+1,H10,ins ys k,o',es',ep',t',?_,S',T.keep _ _ _ b1 fun b hb o e=>hs'.extBut b o (fun z=>hDfp (z▸hb)) e,b2,w'⟩;refine (Inv.repin (pl:=[]) J10 (fun p hp=>?_) hs' (zWE _) hcD e' (zMC S')).tok _;rw[zWs]at hp;have hp':p∈X.pn++zB:=hp;exact zWT (zWJ (I.pin p hp').1)
 exact zDn loop (T.self _ 0 _ _ _ st4 loop)
theorem zJn (I:Inv X zB σ H s) (hf:∀ b∈fp,zCL X zB H b)
  (Ic:Inv (zL X zB scope cl s H fp) [(s.heap.objs.size,oD)] σc H' s') (hs:Heap.SameBut (s.heap.objs.size+1) s'.heap h') :
  Inv X zB σ H' { s' with heap:=h' }/\h'.get? s.heap.objs.size=some oD:=by
 obtain ⟨eD,nD,_⟩:=Ic.pin (s.heap.objs.size,oD) (by simp);have nC:H' (s.heap.objs.size+1)=none:=Ic.free;have eD':h'.get? s.heap.objs.size=some oD:=hs.extBut _ _ (zWT (zW5 _)) eD;have lt1:∀ {b:Addr} {o:Obj},s.heap.get? b=some o->b≠s.heap.objs.size+1:=fun e=>zWT (zWx (zWJ e));have tr:∀ b u,H' b=some u->b≠s.heap.objs.size+1:=fun b u e z=>by rw[z,nC]at e;cases e
 refine ⟨?_,eD'⟩;have B:=Ic.base;have un:Un (frs X.stack) fp H H' s.heap h':=by
  refine ⟨fun b o e q hb hx=>hs.extBut b o (lt1 e) (B.keep b o e q hb hx),fun b o e q hb hx=>?_,fun b o e q hx=>B.free b o e q hx,fun b o e hx=>?_,fun b xs e=>B.tups b xs e,fun b o xs e=>B.frzs b o xs e,fun b ps e=>B.tbls b ps e⟩
  ·obtain ⟨sl,e1⟩:=B.slot b o e q hb hx;exact ⟨sl,hs.extBut b _ (lt1 e) e1⟩
  ·obtain ⟨o',e1⟩:=B.there b o e hx;exact ⟨o',hs.extBut b _ (lt1 e) e1⟩
 have hok:HOk X.prog X.w H' h':=fun b u e=>by
  refine (Ic.hok b u e).stay (fun c v hc q=>hs.extBut c v ?_ q) (fun c q=>q) fun c xs q=>q;rcases hc with z|z
  ·rw[z];exact tr b u e
  ·exact tr c _ z
 exact I.call' (s':={ s' with heap:=h' }) (ch:=fp) Ic.os un hok Ic.bare fun b hb=>⟨(hf b hb).2.2.2.1,(hf b hb).2.1,(hf b hb).2.2.2.2.1,(hf b hb).2.2.2.2.2⟩
end
abbrev TZ:=St->Hp->(List Int->Hp->Prop)->Prop
def PZ (X:Cx) (e:Expr) (t:TZ):Prop:=∀ (zB:List (Addr × Obj)) (s:Shared) (σ:St) (H:Hp) (Q:List Int->Hp->Prop),Inv X zB σ H s->t σ H Q ->
 wpAny (model X.prog X.w) X.A (eval e X.env) (fun v s'=>∃ a o es ep tb ks H',v=.ref a/\s'.heap.get? a=some o/\SetK (intKind X.prog X.w) o es ep tb ks/\Inv X zB σ H' s'/\Q ks H') X.xe s
def zLL (own:List Nat) (wi:TI) (g:TG) (tc:TT) (te:TE):TZ:=fun σ H Q=>wi σ H fun J H1=>∃ W:Nat->Nat->List Int->Hp->Prop,(∃ m,W 0 m [] H1) /\ ∀ i m ys H,W i m ys H ->
 (J.stop i H/\Q ys H) \/
 (J.go i H /\ ∀ x H',J.yld i H x H'->g x (clr own σ) H' fun σ2 H2=>Ext (clr own σ) σ2/\tc σ2 H2 fun b H3=>
  if b=true then te σ2 H3 fun v H4=>∃ k,v=.int k/\ys.length+1<scanBound /\ ∃ m',m'<m/\W (i+1) m' (ins ys k) H4 else ∃ m',m'<m/\W (i+1) m' ys H3)
section
variable {X:Cx} {scope:Scope} {tg elt iter:Expr} {ifs:List Expr} {pos:Pos} {own:List Nat} {wi:TI} {g:TG} {tc:TT} {te:TE}
theorem zRP (C:CompIn X scope own) (hcalm:X.calm=true) (hi:PI X tg iter wi) (p:CompParts X scope tg ifs elt g tc te) (hs:∀ x,foldedSetIterable iter X.env x=pure x:=by intro _;rfl) :
  PZ X (.SetComp elt [⟨tg,iter,ifs,0⟩] scope pos) (zLL own wi g tc te):=by
 intro zB s σ H Q I h;obtain ⟨cl,hcl,c1,c2⟩:=C.sc.closure I;rw[arm_eval_SetComp];refine zX2 (use:=none) rfl hs hcl C.sc.kind C.sc.names (thn (hi zB s σ H _ I h) fun v s1 h1=>thn h1 fun itv s2 h2=>?_);obtain ⟨it,fp,tn,J,H2,e,I2,T,st2,f2,W,⟨m0,w0⟩,turn⟩:=h2;subst e;refine zHB C hcalm I2 T st2 f2 c1 c2 (p.g _ _ _ _ _) (p.c _ _ _ _ _) (p.e _ _ _ _ _) (RR:=fun acc C r s'=>compPost (model X.prog X.w) X.A X.xe none (fun v s'=>∃ a o es ep tb ks H',v=.ref a/\s'.heap.get? a=some o/\SetK (intKind X.prog X.w) o es ep tb ks/\Inv X zB σ H' s'/\Q ks H') acc C r s') (QQ:=Q) w0 turn ?_;intro σc H' s' o es ep t ys Ic rv qq;obtain ⟨m,hn,_⟩:=Ic.loc;refine ⟨m,hn,fun h' hs'=>?_⟩;obtain ⟨J',eD⟩:=zJn I2 f2 Ic hs';exact ⟨_,o,es,ep,t,ys,H',rfl,eD,rv,J',qq⟩
end
end L2
namespace ST
open PySem PySem.Spec PyProof.Rows
open Sem (wp)
section
variable {prog:Program} {w:World} {A:Around} {E:Value->Shared->Prop} {s:Shared}
variable {K:Type} [DecidableEq K] {knd:KeyKind prog w K}
def zS (ks:List K):List K:=ks.foldl ins []
theorem zD4 (ks:List K) (k:K):zS (ks++[k])=ins (zS ks) k:=by unfold zS;rw[List.foldl_append];rfl
theorem zSA (ks:List K) (k:K):(ins ks k).length<=ks.length+1:=by unfold ins;split <;> simp
theorem zBz (ks:List K):(zS ks).length<=ks.length:=by
 have:∀ (l acc:List K),(l.foldl ins acc).length<=acc.length+l.length:=by
  intro l;induction l with
  |nil=>intro acc;simp
  |cons x r ih=>intro acc;have:=ih (ins acc x);have:=zSA acc x;simp only[List.foldl_cons,zWf];omega
 simpa [zS] using this ks []
theorem zSH (ks:List K) (k x:K):x∈ins ks k ↔ x∈ks\/x=k:=by
 unfold ins;split
 ·rename_i h;constructor
  ·exact .inl
  ·rintro (z|z)
   ·exact z
   ·rw[z];exact h
 ·simp
theorem zDb (ks:List K) (x:K):x∈zS ks ↔ x∈ks:=by
  have:∀ (l acc:List K),x∈l.foldl ins acc ↔ x∈acc\/x∈l:=by
    intro l;induction l with
    |nil=>intro acc;simp
    |cons y r ih=>intro acc;rw[List.foldl_cons,ih,zSH,zWK];simp[or_assoc]
  simpa [zS] using this ks []
theorem zOX (h : ks.Nodup) (k : K) : (ins ks k).Nodup := by
  unfold ins;split
  ·exact h
  · rename_i q
    rw[zXM]
    exact ⟨h, by simp, fun a ha b hb z => by have : b = k := by simpa using hb
                                             subst this;subst z;exact q ha⟩
theorem zJE (ks:List K):(zS ks).Nodup:=by
 have:∀ (l acc:List K),acc.Nodup->(l.foldl ins acc).Nodup:=by
  intro l;induction l with
  |nil=>intro acc h;exact h
  |cons y r ih=>intro acc h;exact ih _ (zOX h y)
 exact this ks [] (by simp)
variable {R:Result->Shared->Prop} {I:Addr} {fp wr:List Addr} {G:Array GenState->Array GenState->Prop} {n:Nat} {P:Nat->Value->Prop} {St:Nat->Shared->Prop}
end
def zDf (ks:List Int):List Int:=ks.mergeSort fun a b=>decide (a<=b)
theorem zBq (ks:List Int):(zDf ks).Perm ks:=List.mergeSort_perm _ _
theorem zGr (ks:List Int):(zDf ks).Pairwise (· <= ·):=by
 have:=List.pairwise_mergeSort (le:=fun (a b:Int)=>decide (a<=b)) (fun a b c h1 h2=>by simp at h1 h2 ⊢;omega) (fun a b=>by simp;omega) ks;exact this.imp fun h=>by simpa using h
theorem zIL:∀ {xs ys:List Int},xs.Perm ys->xs.Pairwise (· <= ·)->ys.Pairwise (· <= ·)->xs=ys
 |[],ys,p,_,_=>by have:=p.length_eq;simp at this;rw[List.length_eq_zero_iff.mp this.symm]
 |x::xs,[],p,_,_=>by have:=p.length_eq;simp at this
 |x::xs,y::ys,p,h1,h2=>by
  have hx:=zYI.mp h1;have hy:=zYI.mp h2;have e:x=y:=by
   have a:x∈y::ys:=p.mem_iff.mp zWM;have b:y∈x::xs:=p.mem_iff.mpr zWM;rcases zWK.mp a with z|z
   ·exact z
   ·rcases zWK.mp b with q|q
    ·exact q.symm
    ·exact Int.le_antisymm (hx.1 y q) (hy.1 x z)
  subst e;rw[zIL (p.cons_inv) hx.2 hy.2]
theorem zLD (p:xs.Perm ys) (h:xs.Pairwise (· <= ·)):xs=zDf ys:=zIL (p.trans (zBq ys).symm) h (zGr ys)
section
variable {prog:Program} {w:World} {A:Around} {E:Value->Shared->Prop} {s:Shared}
theorem zLu
  (hc:wpAny (model prog w) A.in1 (collect v) (fun vs s1=>∃ ns,IntsAre vs ns/\vs.length<64 /\ ∀ (h':Heap) (out:List Value) (n:Nat),(∀ b u,s1.heap.get? b=some u->h'.get? b=some u)->h'.get? s1.heap.objs.size=some (seqObj "list" out.toArray n)->IntsAre out (zDf ns)->Q (.ref s1.heap.objs.size) { s1 with heap:=h' }) E s) :
  wpAny (model prog w) A (call (.builtin "sorted") [v]) Q E s:=by
 refine Calls.call_function_entry kind_sorted plain_sorted entry_sorted (args_sorted1 _) ?_;unfold Builtin.«sorted»;refine zV8 (m:=checkCount "sorted" 1 1 _) (zWA ?_);refine zV8 (zWe hc (fun vs s1 h1=>?_) fun _ _ h'=>h');obtain ⟨ns,hI,h64,h⟩:=h1;refine zV8 (wpAny_newList ?_ (by rw[sizeLine_eq];omega));have hoL:(s1.heap.push (seqObj "list" vs.toArray 0)).get? s1.heap.objs.size=some (seqObj "list" vs.toArray 0):=zWI _ rfl;refine zV8 (zW1 (zWl slot_list_sort ⟨_,hoL,rfl⟩ entry_list_sort (list_sort_tree (s:={ s1 with heap:=s1.heap.push (seqObj "list" vs.toArray 0) }) hoL hI h64 fun out ns' a1 a2 a3=>⟨_,rfl,?_⟩) (args_list_sort _)));refine zWA ⟨_,rfl,?_⟩;have g1:=get?_update_seq hoL (fun _=> #[]);have g2:(((s1.heap.push (seqObj "list" vs.toArray 0)).update s1.heap.objs.size (Obj.mapSeq fun _=> #[])).push (seqObj "tuple" vs.toArray 0)).get? s1.heap.objs.size=_:=zV9 _ g1;have g3:=zV9 (seqObj "list" #[] 0) g2;have g4:=get?_update_seq g3 (fun _=>out);have eS:=zLD a2 a3;subst eS;refine h _ out.toList _ (fun b u e=>?_) (by rw[Array.toArray_toList];exact g4) a1;have hb:s1.heap.objs.size≠b:=fun z=>zWq _ (z▸zWJ e);exact (zWp _ _ hb).trans (zV9 _ (zV9 _ ((zWp _ _ hb).trans (zV9 _ e))))
theorem zN0 (h:F2 (zTq (intKind prog w)) es ks):IntsAre (es.map (·.2)) ks:=by
 induction h with
 |nil=>exact .nil
 |cons h _ ih=>
  obtain ⟨⟨h1,_⟩,_⟩:=h;obtain ⟨t,e⟩:=Value.isInt_shape h1;rw[zWR,e];exact .cons _ _ ih
theorem zNx (p:us.Perm vs):∀ {ks:List Int},IntsAre vs ks -> ∃ ks',ks'.Perm ks/\IntsAre us ks':=by
 have p':=p.symm;clear p;induction p' with
 |nil=>intro ks h;exact ⟨ks,.refl _,h⟩
 |cons x _ ih=>
  intro ks h;cases h with
  |cons n t r=>
   obtain ⟨ys',q1,q2⟩:=ih r;exact ⟨_,q1.cons _,.cons _ _ q2⟩
 |swap x y l=>
  intro ks h;cases h with
  |cons n t r=>
   cases r with
   |cons n2 t2 r=>exact ⟨_,List.Perm.swap _ _ _,.cons _ _ (.cons _ _ r)⟩
 |trans _ _ ih1 ih2=>
  intro ks h;obtain ⟨ys',q1,q2⟩:=ih1 h;obtain ⟨ys'',r1,r2⟩:=ih2 q2;exact ⟨ys'',r1.trans q1,r2⟩
theorem zLK (p:xs.Perm ys):zDf xs=zDf ys:=zLD ((zBq xs).trans p) (zGr xs)
theorem zLm (hh:A.handled=none) (ho:s.heap.get? a=some o) (hS:SetK (intKind prog w) o es ep t ks) (h64:ks.length<64)
  (h:∀ (s1:Shared) (h':Heap) (out:List Value) (n:Nat),(∀ b u,s.heap.get? b=some u->s1.heap.get? b=some u)->s1.os=s.os->s1.gens=s.gens->(∀ b u,s1.heap.get? b=some u->h'.get? b=some u)->h'.get? s1.heap.objs.size=some (seqObj "list" out.toArray n)->IntsAre out (zDf ks)->Q (.ref s1.heap.objs.size) { s1 with heap:=h' }) :
  wpAny (model prog w) A (call (.builtin "sorted") [.ref a]) Q E s:=by
 refine zLu (zLA (A:=A.in1) hh ho hS fun s' acc k1 k2 k3 hp=>?_);obtain ⟨ks',p,f⟩:=hS.ent;obtain ⟨ks2,p2,f2⟩:=zNx hp (zN0 f);refine ⟨ks2,f2,?_,fun h' out n e1 e2 e3=>?_⟩
 ·rw[hp.length_eq,zWH,zWr,hS.size];exact h64
 ·rw[zLK (p2.trans p)]at e3;exact h s' h' out n k1 k2 k3 e1 e2 e3
end
end ST
namespace L2
open PySem PySem.Spec PyProof.Rows ST
section
variable {X:Cx} {e:Expr} {p pos:Pos} {zB:List (Addr × Obj)} {σ:St} {H:Hp} {s:Shared}
theorem Inv.kept' (I:Inv X zB σ H s) (k:∀ b u,s.heap.get? b=some u->s1.heap.get? b=some u) (ho:s1.os=s.os) (hg:s1.gens=s.gens):Inv X zB σ H s1 :=
 I.call' (ch:=[]) ho (Un.kept k) (I.hok.kept k) (by rw[hg];exact I.bare) fun b hb=>nomatch hb
theorem zHC:∀ {ns:List Int} {us:List Value},IntsAre us ns->ze (ns.map V.int) us
 |_,_,.nil=> .nil
 |_,_,.cons n t h=> .cons ⟨t,rfl⟩ (zHC h)
theorem zQk (ks:List Int):(zDf ks).length=ks.length:=(zBq ks).length_eq
theorem zPJ (hc:X.calm=true) (hg:Gl X "sorted") (hm:X.mg "sorted" = none) (ha:PZ X e t) (hs:starEach [e] X.env=(false,eval e X.env)::starEach [] X.env:=by rfl) (hpl:(backTo pos (starEach [] X.env)).any (·.1)=false:=by rfl) :
  PE X (.Call (.Name "sorted" p) [e] [] pos) (fun σ H Q=>t σ H fun ks H1=>ks.length<64 /\ ∀ q,H1 q=none->Q (.ref q) (upd H1 q (.lst ((zDf ks).map V.int)))):=by
 intro zB s σ H Q I h;refine wpAny_Call_Name_kw (zEr I hg hm (by rfl) ?_ (by decide) (by decide));refine callWith_builtin1 ?_ hs hpl;rw[hs];refine Calls.spliced_cons (thn (ha zB s σ H _ I h) fun u s1 ⟨a,o,es,ep,tb,ks,H1,hv,ho,hS,I1,h64,q⟩=>Calls.spliced_nil ?_);subst hv;refine zLm (I1.ok.hd hc) ho hS h64 fun s2 h' out n k1 k2 k3 k4 e4 i4=>?_;have I2:Inv X zB σ H1 s2:=I1.kept' k1 k2 k3;have hf:H1 s2.heap.objs.size=none:=I2.hok.fresh (zWE _);refine ⟨.ref s2.heap.objs.size,upd H1 s2.heap.objs.size (.lst ((zDf ks).map V.int)),I2.laid (t':=s2.toks) k4 (zWE _) ⟨by rw[zWH,zQk,sizeLine_eq];omega,out,n,zHC i4,e4⟩,rfl,q _ hf⟩
end
end L2
namespace L3
open PySem PySem.Spec PyProof.Rows L2 ST
abbrev FZ:=Sd->Mem->Option (List Int × Mem)
def trZ (K:PySem.W.Frag) (f:FZ):TZ:=fun τ H Q=>∃ L σ M ks M',Cor K L M H/\zBZ L H σ τ/\f σ M=some (ks,M') /\ ∀ L' H',Stp L H L' H'->Cor K L' M' H'->Q ks H'
structure QZ (X:Cx) (e:Expr) (f:FZ):Prop where
 un:PZ X e (trZ X.K f)
theorem PZ.imp (h:PZ X e t) (hi:∀ τ H Q,t' τ H Q->t τ H Q):PZ X e t':=fun zB s σ H Q I q=>h zB s σ H Q I (hi _ _ _ q)
noncomputable def zIg (own:List Nat) (fi:FI) (g:FG) (tc:FT) (te:FE):FZ:=fun σ M=>match zw own fi g tc te σ M with
 |some (.fl ys,M2)=>match zAp ys with
  |some ks=>if ks.length+1<scanBound then some (zS ks,M2) else none
  |none=>none
 |_=>none
theorem zHI:∀ {as bs:List D} {zs:List Int},zAp (as++bs)=some zs -> ∃ xs ys,zAp as=some xs/\zAp bs=some ys/\zs=xs++ys
 |[],bs,zs,h=>⟨[],zs,rfl,h,rfl⟩
 |a::as,bs,zs,h=>by
  cases a with
  |int i=>
   rw[List.cons_append]at h;unfold zAp at h;split at h
   ·rename_i us e;cases h;obtain ⟨xs,ys,e1,e2,e3⟩:=zHI e;refine ⟨i::xs,ys,?_,e2,by rw[e3];rfl⟩;unfold zAp;rw[e1]
   ·cases h
  |_=>cases h
theorem zKe (h:zAp as=some xs):zAp (as++[.int i])=some (xs++[i]):=by
 induction as generalizing xs with
 |nil=>cases h;rfl
 |cons a as ih=>
  cases a with
  |int j=>
   unfold zAp at h;split at h
   ·rename_i us e;cases h;rw[List.cons_append];unfold zAp;rw[ih e];rfl
   ·cases h
  |_=>cases h
theorem zN2 {K:PySem.W.Frag} {own:List Nat} {fi:FI} {g:TG} {fg:FG} {tc:FT} {te:FE} (hg:zE4 own g fg) {τ:Sv} {H:Hp} {Q:List Int->Hp->Prop} (h:trZ K (zIg own fi fg tc te) τ H Q):zLL own (trI K fi) g (trT K tc) (trD K (toD te)) τ H Q:=by
 obtain ⟨L,σ,M,d,Mf,c,rs,hf,q⟩:=h;unfold zIg zw at hf;cases e1:fi σ M with
 |none=>rw[e1]at hf;cases hf
 |some r=>
  obtain ⟨xs,gd,M1⟩:=r;rw[e1]at hf;dsimp only at hf;by_cases hz:xs.length<=sizeLine
  ·rw[zWN hz]at hf;cases e2:zA0 fg tc te (zBB own σ) xs gd xs M1 with
   |none=>rw[e2]at hf;cases hf
   |some r=>
    obtain ⟨zs,M2⟩:=r;rw[e2]at hf;dsimp only at hf;split at hf
    ·rename_i kz ez;split at hf
     ·rename_i hb;cases hf;refine ⟨L,σ,M,_,_,_,c,rs,e1,fun L1 H1 J s1 c1 it=>?_⟩
      refine ⟨fun i m ys H'=>m=xs.length-i/\i<=xs.length /\ ∃ L' M' as bs ka,Stp L1 H1 L' H'/\Cor K L' M' H'/\zAp as=some ka/\ys=zS ka/\zA0 fg tc te (zBB own σ) xs gd (xs.drop i) M'=some (bs,Mf)/\as++bs=zs,
       ⟨xs.length,by simp,zWu _,L1,M1,[],zs,[],.refl _ _,c1,rfl,rfl,by simpa using e2,rfl⟩,?_⟩
      rintro i m ys H' ⟨rfl,hi,L',M',as,bs,ka,s',c',r',hl,e',hab⟩;by_cases hlt:i<xs.length
      ·rw[zCQ hlt]at e';unfold zA0 at e';split at e'
       ·rename_i hgd;obtain ⟨step,_⟩:=it L' H' M' s' c' hgd;obtain ⟨go,yl⟩:=step i xs[i] (zWC hlt);split at e'
        ·rename_i σ1 eg;refine .inr ⟨go,fun v H2 hy=>?_⟩;obtain ⟨gr,rv⟩:=yl v H2 hy;have s2:Stp L1 H1 L' H2:=s'.yld gr;refine hg (zEV own ((rs.stp s1).stp s2)) (.refl _) rv eg fun τ2 r2 x2=>⟨x2,?_⟩;split at e'
         ·rename_i M3 e3;split at e'
          ·rename_i d M4 e4;split at e'
           ·rename_i ds M5 e5;cases e';refine ⟨L',σ1,M',_,_,c'.grow gr,r2,e3,fun L3 H3 s3 c3=>zHy ?_⟩;refine ⟨L3,σ1,M3,_,_,c3,r2.stp s3,e4,fun L4 H4 w s4 c4 r4=>?_⟩;have st:Stp L' H' L4 H4:=((Stp.grow gr).trans s3).trans s4;have ez':=ez;rw[<-hab]at ez';obtain ⟨x1,y1,g1,g2,g3⟩:=zHI ez';obtain ⟨k,hk⟩:∃ k,d=.int k:=by
             cases d with
             |int k=>exact ⟨k,rfl⟩
             |_=>cases g2
            subst hk;have ew:w=.int k:=by unfold Rep at r4;exact r4
            have hka:ka.length<=kz.length:=by
             rw[r']at g1;cases g1;rw[g3,zWO];omega
            refine ⟨k,ew,?_,xs.length-(i+1),by omega,rfl,hlt,L4,M4,as++[.int k],ds,ka++[k],s'.trans st,c4,zKe r',by rw[hl,zD4],e5,by rw[<-hab];simp⟩;rw[hl];have:=zBz ka;omega
           ·cases e'
          ·cases e'
         ·rename_i M3 e3;refine ⟨L',σ1,M',_,_,c'.grow gr,r2,e3,fun L3 H3 s3 c3=>zHl ?_⟩;have st:Stp L' H' L3 H3:=(Stp.grow gr).trans s3;exact ⟨xs.length-(i+1),by omega,rfl,hlt,L3,M3,as,bs,ka,s'.trans st,c3,r',hl,e',hab⟩
         ·cases e'
        ·cases e'
       ·cases e'
      ·have hi':i=xs.length:=by omega
       subst hi';rw[List.drop_length]at e';unfold zA0 at e';split at e'
       ·rename_i hgd;cases e';obtain ⟨_,stop⟩:=it L' H' _ s' c' hgd;rw[zWs]at hab;subst hab;rw[r']at ez;cases ez;refine .inl ⟨stop,?_⟩;rw[hl];exact q L' H' (s1.trans s') c'
       ·cases e'
     ·cases hf
    ·cases hf
  ·rw[zWQ hz]at hf;cases hf
section
variable {X:Cx} {scope:Scope} {tg elt iter:Expr} {ifs:List Expr} {pos p:Pos} {own:List Nat} {e:Expr} {f:FE}
theorem zTF (hg:zE4 own g fg) (C:CompIn X scope own) (hcalm:X.calm=true) (hi:QI X tg iter fi) (p:QParts X scope tg ifs elt g tc te) (hs:∀ x,foldedSetIterable iter X.env x=pure x:=by intro _;rfl) :
  QZ X (.SetComp elt [⟨tg,iter,ifs,0⟩] scope pos) (zIg own fi fg tc te) :=
 .mk <| PZ.imp (zRP C hcalm hi.un p.parts hs) fun _ _ _ h=>zN2 hg h
def zGk (f:FZ):FE:=fun σ M=>match f σ M with
 |some (ks,M1)=>if ks.length<64 then some (.fl ((zDf ks).map D.int),M1) else none
 |none=>none
theorem zIC:∀ (ns:List Int),zP L H (ns.map D.int) (ns.map V.int)
 |[]=> .nil
 |n::ns=> .cons zAk (zIC ns)
theorem zRw (hc:X.calm=true) (hg:Gl X "sorted") (hm:X.mg "sorted" = none) (h:QZ X e fz) (hs:starEach [e] X.env=(false,eval e X.env)::starEach [] X.env:=by rfl) (hpl:(backTo pos (starEach [] X.env)).any (·.1)=false:=by rfl) :
  QE X (.Call (.Name "sorted" p) [e] [] pos) (zGk fz):=.mk <| PE.imp (zPJ hc hg hm h.un hs hpl) fun τ H Q zz=>by
 obtain ⟨L,σ,M,d,M',c,rs,hf,q⟩:=zz;unfold zGk at hf;split at hf
 ·rename_i ks M1 e1;split at hf
  ·rename_i hb;cases hf;refine ⟨L,σ,M,_,_,c,rs,e1,fun L1 H1 s1 c1=>⟨hb,fun p hp=>?_⟩⟩;exact q L1 _ _ (s1.trans (.upd hp)) (c1.upd hp) (zg.newLst s1 c c1 hp (zIC _))
  ·cases hf
 ·cases hf
end
open AutoSeq1 (wpAny_loadPart')
theorem zUA (hh:A.handled=none) (it l:Addr) (hne:l≠it) (items:Array Value) :
  Draws prog w A it [it,l] items.size (fun i v=>items[i]?=some v) (fun i h=>h.IsTupleIter it l i/\h.IsTuple l items) where
 live:=fun _ _ st=>let ⟨o,ho,_⟩:=st.1;⟨o,ho⟩;frame:=fun _ _ _ st hk=>⟨let ⟨o,ho,r⟩:=st.1;⟨o,hk it (by simp) o ho,r⟩,let ⟨o,ho,r⟩:=st.2;⟨o,hk l (by simp) o ho,r⟩⟩;item:=fun i s Q E hi st hQ=>by
  refine zHT st.1 st.2 (x:=items[i]) (by simp[hi]) fun h' hit' hs'=>?_;exact hQ _ h' s.toks (by simp[hi]) ⟨hit',Tup.but st.2 hs'.extBut hne⟩ hs'
 done:=fun s Q E st hE=>zFk hh st.1 st.2 (by simp) hE
theorem zKn (l:Addr) (items:Array Value) (n:Nat) (dct:Option Addr) (sl:Array (Option Value)) :
  Meets (Builtin.«enumerate.__new__» ⟨[.type "enumerate", .ref l],[]⟩) (fun _ R s=>s.heap.get? l=some { cls:=.type "tuple", dict:=dct,data:=.seq items n,slots:=sl } /\
   R (.ok (.ret (.ref (s.heap.push { cls:=.type "tuple_iterator", data:=.fields #[.ref l,.int 0 0] }).objs.size)))
    { s with heap:=(s.heap.push { cls:=.type "tuple_iterator", data:=.fields #[.ref l,.int 0 0] }).push { cls:=.type "enumerate", data:=.fields #[.none,.bool false,.ref s.heap.objs.size,rawInt 0,.none,.none] } }) :=
 .of_wp fun prog w A R s h=>by
  obtain ⟨hp,g,d,tk,os⟩:=s;obtain ⟨hl,h⟩:=h;have hsub:=sub_enumerate;have hL:Heap.IsTuple (Shared.heap ⟨hp,g,d,tk,os⟩) l items:=⟨_,hl,rfl,n,rfl⟩;wp_walk using wpAny_loadPart' hl;refine wpAny_stack_any fun st=>zWA ?_;split
  ·rename_i c _ _ _ _ _;cases (c==Value.type "enumerate")
   ·wp_walk using wpAny_loadPart' hl,wpAny_pyIter_tuple hL;exact ⟨_,rfl,h⟩
   ·wp_walk using wpAny_loadPart' hl,wpAny_pyIter_tuple hL;exact ⟨_,rfl,h⟩
  ·wp_walk using wpAny_loadPart' hl,wpAny_pyIter_tuple hL;exact ⟨_,rfl,h⟩
section
variable {prog:Program} {w:World} {A:Around} {E:Value->Shared->Prop} {s:Shared}
theorem zMf (hL:s.heap.IsTuple l items)
  (h:∀ h',IsEnum h' (s.heap.objs.size+1) s.heap.objs.size 0 .none->h'.IsTupleIter s.heap.objs.size l 0->(∀ c o,s.heap.get? c=some o->h'.get? c=some o)->Q (.ref (s.heap.objs.size+1)) { s with heap:=h' }) :
  wpAny (model prog w) A (call (.type "enumerate") [.ref l]) Q E s:=by
 obtain ⟨o,ho,hc,n,hd⟩:=hL;obtain ⟨ocls,odict,odata,oslots⟩:=o;simp only at hc hd;subst hc;subst hd;refine callType_new PySem.F.called_enumerate (by decide) (PySem.F.typeCall_enumerate_1 _) (PySem.F.newCall_enumerate_1 _) (fun obj=>PySem.F.args_object_init_2 obj _) PySem.F.entry_enumerate_new (zKn l items n odict oslots) ⟨ho,?_⟩;have q1:(s.heap.push { cls:=.type "tuple_iterator", data:=.fields #[.ref l,.int 0 0] }).objs.size=s.heap.objs.size+1:=zWo ..;have p2:((s.heap.push { cls:=.type "tuple_iterator", data:=.fields #[.ref l,.int 0 0] }).push { cls:=.type "enumerate", data:=.fields #[.none,.bool false,.ref s.heap.objs.size,rawInt 0,.none,.none] }).get? (s.heap.push { cls:=.type "tuple_iterator", data:=.fields #[.ref l,.int 0 0] }).objs.size=some _:=zWI _ rfl;rw[q1]at p2;rw[q1];exact ⟨⟨_,p2,rfl⟩,h _ p2 ⟨_,zV9 _ (zWI _ rfl),rfl,rfl⟩ fun c o x=>zV9 _ (zV9 _ x)⟩
theorem zKY (he:IsEnum s.heap e it i old)
  (hn:∀ (Q':Value->Shared->Prop) (E':Value->Shared->Prop),(∀ h' x,Heap.ExtBut it s.heap h'->(∃ o,h'.get? x=some o/\o.cls=.type "StopIteration")->E' (.ref x) { s with heap:=h' })->wpAny (model prog w) A.in1 (Builtin.SmallTypes.nextOf (.ref it)) Q' E' s)
  (hQ:∀ h',Heap.ExtBut it s.heap h'->Q none { s with heap:=h' }):wpAny (model prog w) A (pyNext (.ref e)) Q E s:=by
 have hT:s.TypeIs (.ref e) "enumerate" := ⟨_,he,rfl⟩;unfold pyNext
 refine zV8 (wpAny_attempt (zWk (name:=Str.ofString "__next__") hT PySem.F.slot_enumerate_next
  (zWl PySem.F.slot_enumerate_next hT PySem.F.entry_enumerate_next ?_ (PySem.F.args_enumerate_next_1 _))))
 show wpAny _ _ (field (.ref e) 2 >>= _) _ _ _;refine zV8 (zWn he rfl (x:=.ref it) rfl ?_);refine zV8 (hn _ _ fun h' x he' hx'=>?_);obtain ⟨o,ho,hc⟩:=hx';refine zV8 (wpAny_isInstance (T := "StopIteration") (b:=true) ⟨o,ho,hc⟩ isSubtype_stop ?_);exact zWA (hQ _ he')
end
def zLQ (K:PySem.W.Frag) (isT:Bool) (a:Addr):It :=
 ⟨fun i H=>∃ xs x,(if isT then SqT K H a xs else SqL K H a xs)/\xs[i]?=some x,
  fun i H v H'=>∃ T x,v=.ref T/\H T=none/\H'=upd H T (.tup [.int i,x]) /\ ∀ xs,(if isT then SqT K H a xs else SqL K H a xs)->xs[i]?=some x,
  fun i H=>∃ xs,(if isT then SqT K H a xs else SqL K H a xs)/\xs.length<=i⟩
def zR2 (isT:Bool) (it a:Addr) (i:Nat) (h:Heap):Prop:=if isT then h.IsTupleIter it a i else h.IsListIter it a i
theorem zN5 {P:Program} {w:World} {K:PySem.W.Frag} {es:List Expr} {ek:Nat} {ep:Pos} {isT:Bool} {e it a:Addr} (hei:e≠it) (hae:a≠e) (hai:a≠it) :
  Turn P w K (.Tuple es ek ep) (zLQ K isT a) [e,it] e (fun i h=>(∃ old,IsEnum h e it i old)/\zR2 isT it a i h) where
 mem:=by simp
 obj:=fun i h ⟨⟨old,he⟩,st⟩ c hc=>by
  simp only[zWK,zWd,zXT]at hc;rcases hc with rfl|rfl
  ·exact ⟨_,he,fun v m=>by cases m⟩
  ·cases isT with
   |true=>obtain ⟨o1,e1,_,d1⟩:=(show h.IsTupleIter c a i from st);exact ⟨_,e1,fun v m=>by rw[d1]at m;cases m⟩
   |false=>obtain ⟨o1,e1,_,d1⟩:=(show h.IsListIter c a i from st);exact ⟨_,e1,fun v m=>by rw[d1]at m;cases m⟩
 keep:=fun i h h' ⟨⟨old,he⟩,st⟩ k=>by
  refine ⟨⟨old,k e (by simp) _ he⟩,?_⟩;cases isT with
  |true=>obtain ⟨o1,e1,r⟩:=(show h.IsTupleIter it a i from st);exact ⟨o1,k it (by simp) _ e1,r⟩
  |false=>obtain ⟨o1,e1,r⟩:=(show h.IsListIter it a i from st);exact ⟨o1,k it (by simp) _ e1,r⟩
 item:=by
  intro X hP hw hK hc i zB s σ H E I hf Z hg;subst hP hw hK;obtain ⟨⟨old,he⟩,st⟩:=Z;obtain ⟨xs,x,sa,hx⟩:=hg;have hch:∀ c∈[e,it],zCL X zB H c:=hf;have elt:e<s.heap.objs.size:=zWJ he
  have fin:∀ (its:List Value) (u:Value) (h':Heap) (tk:Nat),ze xs its->its[i]?=some u->IsEnumOut h' e it ((i:Int)+1) u s.heap.objs.size->zR2 isT it a (i+1) h'->h'.get? s.heap.objs.size=some { cls:=.type "tuple", data:=.seq #[.int i tk,u] } ->
    (∀ b o,b≠e->b≠it->s.heap.get? b=some o->h'.get? b=some o)->it<s.heap.objs.size ->
    ∃ u',some (Value.ref s.heap.objs.size)=some u'/\wpAny (model X.prog X.w) X.A (letOwnedTupleGo (.Tuple es ek ep) (.ref e) u') (fun _ s2=>∃ x H',Inv X zB σ H' s2/\zk x u'/\(zLQ X.K isT a).yld i H x H'/\((∃ old,IsEnum s2.heap e it ((i+1:Nat):Int) old)/\zR2 isT it a (i+1) s2.heap) /\ ∀ b∈[e,it],H' b=none) E { s with heap:=h',toks:=tk+1 }:=by
   intro its u h' tk rv hu ho st' hT hk ilt;refine ⟨_,rfl,wpAny_letOwnedTupleGo_enum ho fun h2 he2 e2=>?_⟩;have kk:∀ c o,c∉[e,it]->s.heap.get? c=some o->h2.get? c=some o:=fun c o n q=>by
    simp only[zWK,zWd,zXT,not_or]at n;exact e2.extBut _ _ n.1 (hk c o n.1 n.2 q)
   have NT:=e2.extBut _ _ (zXd elt) hT;have hfr:H s.heap.objs.size=none:=I.hok.fresh (zWE _);obtain ⟨u2,hu2,ru⟩:=rv.get hx;rw[hu]at hu2;cases hu2;refine ⟨.ref s.heap.objs.size,upd H s.heap.objs.size (.tup [.int i,x]),zFx (s:=s) (h':=h2) (t':=tk+1) I hch kk (zWE _) ?_,rfl,⟨_,x,rfl,hfr,rfl,fun ws hw=>?_⟩,⟨⟨u,by simpa using he2⟩,?_⟩,fun c hm=>?_⟩
   ·exact ⟨by show 2<=sizeLine;decide,[.int i tk,u],.cons ⟨tk,rfl⟩ (.cons ru .nil),⟨_,NT,rfl,⟨_,rfl⟩,rfl⟩⟩
   ·cases isT with
    |true=>rw[I.tuple_inj hw sa];exact hx
    |false=>rw[I.list_inj hw sa];exact hx
   ·cases isT with
    |true=>obtain ⟨o1,e1,r⟩:=(show h'.IsTupleIter it a (i+1)from st');exact ⟨o1,e2.extBut _ _ hei.symm e1,r⟩
    |false=>obtain ⟨o1,e1,r⟩:=(show h'.IsListIter it a (i+1)from st');exact ⟨o1,e2.extBut _ _ hei.symm e1,r⟩
   ·have lt:c<s.heap.objs.size:=by
     simp only[zWK,zWd,zXT]at hm;rcases hm with rfl|rfl
     ·exact elt
     ·exact ilt
    rw[zc (zWT lt)];exact (hf c hm).1
  have hef:e∉[it,a]:=by simp only[zWK,zWd,zXT,not_or];exact ⟨hei,hae.symm⟩
  cases isT with
  |true=>
   obtain ⟨its,rv,p1,z1⟩:=I.tuple sa;have st':s.heap.IsTupleIter it a i:=st;obtain ⟨o1,e1,_⟩:=id st';refine wpAny_pyNext_enum_itemD (zUA (prog:=X.prog) (w:=X.w) (A:=X.A.in1) (I.ok.hd hc) it a hai its.toArray) he ⟨st',show s.heap.IsTuple a its.toArray from p1⟩ (by have:=rv.length;have:=(zWB.mp hx).1;rw[zWG];omega) hei hef fun u h' tk hu ho hs hT _ hk=>?_;exact fin its u h' tk rv (by simpa using hu) ho hs.1 hT hk (zWJ e1)
  |false=>
   obtain ⟨its,rv,p1,z1⟩:=I.list sa;have st':s.heap.IsListIter it a i:=st;obtain ⟨o1,e1,_⟩:=id st';refine wpAny_pyNext_enum_itemD (Draws.list (prog:=X.prog) (w:=X.w) (A:=X.A.in1) (I.ok.hd hc) it a hai its.toArray) he ⟨st',p1.isList⟩ (by have:=rv.length;have:=(zWB.mp hx).1;rw[zWG];omega) hei hef fun u h' tk hu ho hs hT _ hk=>?_;exact fin its u h' tk rv (by simpa using hu) ho hs.1 hT hk (zWJ e1)
 done:=by
  intro X hP hw hK hc i zB s σ H E I hf Z hg;subst hP hw hK;obtain ⟨⟨old,he⟩,st⟩:=Z;obtain ⟨xs,sa,hz⟩:=hg;have out:∀ h',Heap.ExtBut it s.heap h'->(none:Option Value)=none/\Inv X zB σ H { s with heap:=h' }:=fun h' x=>⟨rfl,zIJ (s:=s) (h':=h') (t':=s.toks) I hf fun c o n q=>x c o (fun m=>n (by simp[m])) q⟩;cases isT with
  |true=>
   obtain ⟨its,rv,p1,z1⟩:=I.tuple sa;refine zKY he (fun Q' E' hq=>zFk (I.ok.hd hc) (show s.heap.IsTupleIter it a i from st) (show s.heap.IsTuple a its.toArray from p1) (by have:=rv.length;simp;omega) hq) out
  |false=>
   obtain ⟨its,rv,p1,z1⟩:=I.list sa;refine zKY he (fun Q' E' hq=>wpAny_nextOf_list_end (I.ok.hd hc) (show s.heap.IsListIter it a i from st) p1.isList (by have:=rv.length;simp;omega) hq) out
 self:=fun _ _ _ _ _ Z h=>let ⟨⟨_,he⟩,_⟩:=Z;wpAny_pyIter_enum he h
section
variable {X:Cx} {a:Expr} {es:List Expr} {ek:Nat} {ep p pos:Pos}
theorem zRR {te:TE} (hg:Gl X "enumerate") (hm:X.mg "enumerate" = none) (ha:PE X a te) (hs:starEach [a] X.env=(false,eval a X.env)::starEach [] X.env:=by rfl) (hpl:(backTo pos (starEach [] X.env)).any (·.1)=false:=by rfl) :
  PI X (.Tuple es ek ep) (.Call (.Name "enumerate" p) [a] [] pos) (fun σ H R=>te σ H fun x H1=>∃ l,x=.ref l/\((∃ xs,SqT X.K H1 l xs)/\R (zLQ X.K true l) H1\/(∃ xs,SqL X.K H1 l xs)/\R (zLQ X.K false l) H1)):=by
 intro zB s σ H R I h;refine wpAny_Call_Name_kw (zEr I hg hm (by rfl) ?_ (by decide) (by decide));refine callWith_type1 ?_ hs hpl;rw[hs];refine Calls.spliced_cons (thn (ha zB s σ H _ I h) fun u s1 ⟨x,H1,I1,r1,l,hx,q⟩=>Calls.spliced_nil ?_);subst hx;cases r1
 have out:∀ (isT:Bool) (h':Heap),l<s1.heap.objs.size->IsEnum h' (s1.heap.objs.size+1) s1.heap.objs.size 0 .none->zR2 isT s1.heap.objs.size l 0 h'->(∀ c o,s1.heap.get? c=some o->h'.get? c=some o)->R (zLQ X.K isT l) H1 ->
   wpAny (model X.prog X.w) X.A (pyIter (.ref (s1.heap.objs.size+1))) (PIE X zB σ (.Tuple es ek ep) R) X.xe { s1 with heap:=h' }:=by
  intro isT h' hl he st kp q;refine wpAny_pyIter_enum (s:={ s1 with heap:=h' }) he ?_;refine ⟨s1.heap.objs.size+1,[s1.heap.objs.size+1,s1.heap.objs.size],_,_,H1,rfl,I1.kept (t':=s1.toks) kp,zN5 (isT:=isT) (zXd (zW5 _)) (zWT (zWx hl)) (zWT hl),⟨⟨_,he⟩,st⟩,fun c hc=>?_,q⟩;have ge:s1.heap.objs.size<=c:=by
   simp only[zWK,zWd,zXT]at hc;rcases hc with rfl|rfl
   ·exact Nat.le_succ _
   ·exact zWE _
  exact I1.fpOk ge (I1.hok.fresh ge)
 rcases q with ⟨⟨xs,hq⟩,q⟩|⟨⟨xs,hq⟩,q⟩
 ·obtain ⟨its,rv,p1,_⟩:=I1.tuple hq;have hl:l<s1.heap.objs.size:=by obtain ⟨_,e,_⟩:=p1;exact zWJ e
  exact zMf (show s1.heap.IsTuple l its.toArray from p1) fun h' he st kp=>out true h' hl he st kp q
 ·obtain ⟨its,rv,p1,_⟩:=I1.list hq;have hl:l<s1.heap.objs.size:=by obtain ⟨_,_,e,_⟩:=p1;exact zWJ e
  exact call_enumerate_list p1.isList fun h' he st _ kp=>out false h' hl he st kp q
def zJF (xs:List D):List D:=((List.range xs.length).zip xs).map fun q=>D.tup [.int (q.1:Nat),q.2]
theorem zQG {xs:List D} {i:Nat} {d:D} (h:(zJF xs)[i]?=some d):∃ x,xs[i]?=some x/\d=.tup [.int (i:Nat),x]:=by
 unfold zJF at h;rw[zWV]at h;cases e:((List.range xs.length).zip xs)[i]? with
 |none=>rw[e]at h;cases h
 |some pr=>
  rw[e]at h;cases h;obtain ⟨f1,f2⟩:=List.getElem?_zip_eq_some.mp e;have hi:i<xs.length:=(zWB.mp f2).1;rw[zYC hi]at f1;cases f1;exact ⟨pr.2,f2,rfl⟩
theorem zQL (xs:List D):(zJF xs).length=xs.length:=by unfold zJF;simp
def zFv (f:FE):FI:=fun σ M=>match f σ M with
 |some (x,M1)=>match zAF M1 x with
  |some xs=>some (zJF xs,zDA x xs,M1)
  |none=>none
 |none=>none
theorem zRk {g:FE} (hg:Gl X "enumerate") (hm:X.mg "enumerate" = none) (h:QE X a g) (hs:starEach [a] X.env=(false,eval a X.env)::starEach [] X.env:=by rfl) (hpl:(backTo pos (starEach [] X.env)).any (·.1)=false:=by rfl) :
  QI X (.Tuple es ek ep) (.Call (.Name "enumerate" p) [a] [] pos) (zFv g):=.mk <| PI.imp (zRR hg hm h.un hs hpl) fun τ H R zz=>by
 obtain ⟨L,σ,M,xs,gd,M',c,rs,hf,q⟩:=zz;unfold zFv at hf;split at hf
 ·rename_i y M1 e1;split at hf
  ·rename_i zs e2;cases hf;refine ⟨L,σ,M,_,_,c,rs,e1,fun L1 H1 v s1 c1 r1=>?_⟩
   have step:∀ (isT:Bool) (l:Addr) (L2:List Addr) (H2:Hp) (vs:List V),(if isT then SqT X.K H2 l vs else SqL X.K H2 l vs)->zP L2 H2 zs vs ->
     (∀ (i:Nat) d,(zJF zs)[i]?=some d->(zLQ X.K isT l).go i H2 /\ ∀ v H'',(zLQ X.K isT l).yld i H2 v H''->(∀ a o,H2 a=some o->H'' a=some o)/\Rep L2 H'' d v)/\(zLQ X.K isT l).stop (zJF zs).length H2:=by
    intro isT l L2 H2 vs hq r;refine ⟨fun i d hd=>?_,⟨vs,hq,by rw[zQL,r.length];exact zWE _⟩⟩;obtain ⟨x,hx,rfl⟩:=zQG hd;obtain ⟨u,hu,ru⟩:=r.get hx;refine ⟨⟨vs,u,hq,hu⟩,fun v H3 hy=>?_⟩;obtain ⟨T,x',rfl,hT,rfl,hxx⟩:=hy;have ex:=hxx vs hq;rw[hu]at ex;cases ex;exact ⟨fun a o e=>by rw[zc (zAN e hT)];exact e,Rep.newTup hT (.cons zAk (.cons ru .nil))⟩
   unfold zAF at e2;cases t:zBc y with
   |some ws=>
    rw[t]at e2;cases e2;obtain ⟨a,vs,rfl,e3,r3⟩:=zBS r1 t;refine ⟨a,rfl,.inl ⟨⟨vs,.of e3⟩,q L1 H1 _ s1 c1 fun L2 H2 M2 s2 c2 _=>?_⟩⟩;exact step true a L2 H2 vs (.of (s2.tup a vs e3)) (r3.stp s2)
   |none=>
    rw[t]at e2;obtain ⟨a,vs,rfl,e3,r3⟩:=zA6 c1 r1 e2;refine ⟨a,rfl,.inr ⟨⟨vs,.inl e3⟩,q L1 H1 _ s1 c1 fun L2 H2 M2 s2 c2 hgd=>?_⟩⟩;have key:∃ vs',SqL X.K H2 a vs'/\zP L2 H2 zs vs':=by
     cases y with
     |fl ys=>
      cases e2;obtain ⟨p',vs',hp',_,e5,e6,r6⟩:=r1;cases hp';exact ⟨vs',.of (s2.old _ _ e5 e6),r6.stp s2⟩
     |dat d=>
      cases d with
      |ref n=>
       unfold zg Rep at r1;obtain ⟨a',ha',e5⟩:=r1;cases ha';have e6:L2[n]?=some a:=by obtain ⟨N,hN⟩:=s2.pre;rw[hN];exact zB0 e5
       rcases hgd with z|z
       ·obtain ⟨vs',e7,r7⟩:=c2.obj n a _ e6 z;exact ⟨vs',.of e7,r7⟩
       ·obtain ⟨o,vs',e7,r7⟩:=c2.obj n a _ e6 z;exact ⟨vs',.inl (.inr ⟨o,e7⟩),r7⟩
      |_=>cases e2
    obtain ⟨vs',hq,r7⟩:=key;exact step false a L2 H2 vs' hq r7
  ·cases hf
 ·cases hf
end
section
variable {κ:Type} [DecidableEq κ]
def zB8 (kf:D->Option κ) (kvs:List (D × D)) (k:κ):Option D:=(kvs.find? fun p=>decide (kf p.1=some k)).map (·.2)
def zHs (kf:D->Option κ) (kvs:List (D × D)) (k:κ) (kd v:D):List (D × D) :=
 if (kvs.any fun p=>decide (kf p.1=some k))=true then kvs.map fun p=>if kf p.1=some k then (p.1,v) else p else kvs++[(kd,v)]
theorem zDp (k:κ):∀ {kvs:List (D × D)} {vs:List (κ × V)},zAz kf L H kvs vs->(zB8 kf kvs k=none/\zDo vs k=none) \/ ∃ d v,zB8 kf kvs k=some d/\zDo vs k=some v/\Rep L H d v
 |[],vs,h=>by unfold zAz at h;subst h;exact .inl ⟨rfl,rfl⟩
 |p::r,vs,h=>by
  obtain ⟨k',v,r',rfl,e,h1,h2⟩:=h;by_cases q:k'=k
  ·subst q;exact .inr ⟨p.2,v,by unfold zB8;rw[zXu,e];simp,by rw[zFB rfl],h1⟩
  ·have e1:zB8 kf (p::r) k=zB8 kf r k:=by unfold zB8;rw[zXu,e];simp[q]
   rw[e1,zE8 q];exact zDp k h2
theorem zKw (k:κ):∀ {kvs:List (D × D)} {vs:List (κ × V)},zAz kf L H kvs vs->(kvs.any fun p=>decide (kf p.1=some k))=(vs.any fun kv=>decide (kv.1=k))
 |[],vs,h=>by unfold zAz at h;subst h;rfl
 |p::r,vs,h=>by
  obtain ⟨k',v,r',rfl,e,h1,h2⟩:=h;rw[List.any_cons,List.any_cons,zKw k h2,e];simp
theorem zHA (k:κ) (hd:Rep L H d u):∀ {kvs:List (D × D)} {vs:List (κ × V)},zAz kf L H kvs vs->zAz kf L H (kvs.map fun p=>if kf p.1=some k then (p.1,d) else p) (vs.map fun kv=>if kv.1=k then (kv.1,u) else kv)
 |[],vs,h=>by unfold zAz at h;subst h;rfl
 |p::r,vs,h=>by
  obtain ⟨k',v,r',rfl,e,h1,h2⟩:=h;rw[zWR,zWR];by_cases q:k'=k
  ·subst q;rw[zWN e,zWN rfl];exact ⟨k',u,_,rfl,e,hd,zHA k' hd h2⟩
  ·rw[zWQ (by rw[e];simpa using q),zWQ q];exact ⟨k',v,_,rfl,e,h1,zHA k hd h2⟩
theorem zIf (hk:kf kd=some k) (hd:Rep L H d u):∀ {kvs:List (D × D)} {vs:List (κ × V)},zAz kf L H kvs vs->zAz kf L H (kvs++[(kd,d)]) (vs++[(k,u)])
 |[],vs,h=>by unfold zAz at h;subst h;exact ⟨k,u,[],rfl,hk,hd,rfl⟩
 |p::r,vs,h=>by
  obtain ⟨k',v,r',rfl,e,h1,h2⟩:=h;exact ⟨k',v,_,rfl,e,h1,zIf hk hd h2⟩
theorem zM7 {kf:D->Option κ} {L:List Addr} {H:Hp} {k:κ} {kd d:D} {u:V} (hk:kf kd=some k) (hd:Rep L H d u) {kvs:List (D × D)} {vs:List (κ × V)} (h:zAz kf L H kvs vs):zAz kf L H (zHs kf kvs k kd d) (zCT vs k u):=by
 unfold zHs zCT;rw[zKw k h];split
 ·exact zHA k hd h
 ·exact zIf hk hd h
end
theorem zKh:∀ {ds:List D} {vs:List V} {ks:List Key},zP L H ds vs->zGi ds=some ks->vs=ks.map kV
 |[],vs,ks,h,e=>by cases e;unfold zP at h;exact h
 |d::ds,vs,ks,h,e=>by
  unfold zP at h;obtain ⟨v,r,rfl,h1,h2⟩:=h;unfold zGi at e;cases e1:zCM d with
  |none=>rw[e1]at e;cases e
  |some k=>
   cases e2:zGi ds with
   |none=>rw[e1,e2]at e;cases e
   |some ks'=>
    rw[e1,e2]at e;cases e;rw[zGW h1 e1,zKh h2 e2];rfl
theorem zMF (h:Rep L H d v) (e:tkD d=some ks):∃ b,v=.ref b/\H b=some (.tup (ks.map kV)):=by
 cases d with
 |tup ds=>
  unfold Rep at h;obtain ⟨a,vs,rfl,e1,r⟩:=h;exact ⟨a,rfl,by rw[e1,zKh r e]⟩
 |_=>cases e
def zDD (M:Mem) (x:EV) (k:D):Option (Option D):=match x with
 |.dat (.ref n)=>match M[n]? with
  |some (.dict kvs)=>match zCM k with
   |some kk=>some (zB8 zCM kvs kk)
   |none=>none
  |some (.dicT kvs)=>match tkD k with
   |some kk=>some (zB8 tkD kvs kk)
   |none=>none
  |some (.froK kvs)=>match zCM k with
   |some kk=>some (zB8 zCM kvs kk)
   |none=>none
  |some (.froT kvs)=>match tkD k with
   |some kk=>some (zB8 tkD kvs kk)
   |none=>none
  |_=>none
 |_=>none
def zVU (L:List Addr) (H:Hp):Option D->Option V->Prop
 |none,o=>o=none
 |some d,o=>∃ v,o=some v/\Rep L H d v
theorem zFV {K:PySem.W.Frag} {L:List Addr} {M:Mem} {H H0:Hp} {x:EV} {v w:V} {k:D} {o:Option D} (c:Cor K L M H) (rx:zg H0 L H x v) (rk:Rep L H k w) (e:zDD M x k=some o):∃ a ov,v=.ref a/\zDa H a w ov/\zVU L H o ov:=by
 cases x with
 |fl xs=>cases e
 |dat d=>
  cases d with
  |ref n=>
   unfold zg Rep at rx;obtain ⟨a,rfl,ea⟩:=rx;unfold zDD at e;dsimp only at e;cases q:M[n]? with
   |none=>rw[q]at e;cases e
   |some m=>
    rw[q]at e;have z:=c.obj n a m ea q;cases m with
    |dict kvs=>
     cases e2:zCM k with
     |none=>rw[e2]at e;cases e
     |some kk=>
      rw[e2]at e;cases e;obtain ⟨vs,e3,r⟩:=z;refine ⟨a,zDo vs kk,rfl,?_,?_⟩
      ·rw[zGW rk e2];exact zDa.k e3
      ·rcases zDp kk r with ⟨h1,h2⟩|⟨d,v,h1,h2,h3⟩
       ·rw[h1,h2];rfl
       ·rw[h1,h2];exact ⟨v,rfl,h3⟩
    |dicT kvs=>
     cases e2:tkD k with
     |none=>rw[e2]at e;cases e
     |some kk=>
      rw[e2]at e;cases e;obtain ⟨vs,e3,r⟩:=z;obtain ⟨b,rfl,eb⟩:=zMF rk e2;refine ⟨a,zDo vs kk,rfl,zDa.t e3 eb,?_⟩;rcases zDp kk r with ⟨h1,h2⟩|⟨d,v,h1,h2,h3⟩
      ·rw[h1,h2];rfl
      ·rw[h1,h2];exact ⟨v,rfl,h3⟩
    |froK kvs=>
     cases e2:zCM k with
     |none=>rw[e2]at e;cases e
     |some kk=>
      rw[e2]at e;cases e;obtain ⟨ob,vs,e3,r⟩:=z;refine ⟨a,zDo vs kk,rfl,.inl ⟨vs,kk,.inr ⟨ob,e3⟩,zGW rk e2,rfl⟩,?_⟩;rcases zDp kk r with ⟨h1,h2⟩|⟨d,v,h1,h2,h3⟩
      ·rw[h1,h2];rfl
      ·rw[h1,h2];exact ⟨v,rfl,h3⟩
    |froT kvs=>
     cases e2:tkD k with
     |none=>rw[e2]at e;cases e
     |some kk=>
      rw[e2]at e;cases e;obtain ⟨ob,vs,e3,r⟩:=z;obtain ⟨b,rfl,eb⟩:=zMF rk e2;refine ⟨a,zDo vs kk,rfl,.inr ⟨vs,kk,b,.inr ⟨ob,e3⟩,rfl,eb,rfl⟩,?_⟩;rcases zDp kk r with ⟨h1,h2⟩|⟨d,v,h1,h2,h3⟩
      ·rw[h1,h2];rfl
      ·rw[h1,h2];exact ⟨v,rfl,h3⟩
    |_=>cases e
  |_=>cases e
def zED (M:Mem) (n:Nat) (k v:D):Option Mem:=match M[n]? with
 |some (.dict kvs)=>match zCM k with
  |some kk=>if kvs.length<sizeLine then some (M.set n (.dict (zHs zCM kvs kk k v))) else none
  |none=>none
 |some (.dicT kvs)=>match tkD k with
  |some kk=>if kvs.length<sizeLine then some (M.set n (.dicT (zHs tkD kvs kk k v))) else none
  |none=>none
 |_=>none
theorem zKu {K:PySem.W.Frag} {L:List Addr} {M M':Mem} {H:Hp} {n:Nat} {a:Addr} {k v:D} {w u:V} (c:Cor K L M H) (ea:L[n]?=some a) (rk:Rep L H k w) (rv:Rep L H v u) (e:zED M n k v=some M'):∃ H',zGI H a w u H'/\Cor K L M' H'/\Stp L H L H':=by
 unfold zED at e;cases q:M[n]? with
 |none=>rw[q]at e;cases e
 |some m=>
  rw[q]at e;have z:=c.obj n a m ea q;cases m with
  |dict kvs=>
   cases e2:zCM k with
   |none=>rw[e2]at e;cases e
   |some kk=>
    rw[e2]at e;dsimp only at e;split at e
    ·rename_i hl;cases e;obtain ⟨vs,e3,r⟩:=z;obtain ⟨c3,s3⟩:=c.put (m:=.dict (zHs zCM kvs kk k v)) (o':=.dK (zCT vs kk u)) ea e3 (fun _ z=>by cases z) (fun _ _ z=>by cases z) fun s3=>⟨_,zAK,(zM7 e2 rv r).stp s3⟩;refine ⟨_,?_,c3,s3⟩;rw[zGW rk e2];exact zGI.k e3 (by rw[r.length];exact hl)
    ·cases e
  |dicT kvs=>
   cases e2:tkD k with
   |none=>rw[e2]at e;cases e
   |some kk=>
    rw[e2]at e;dsimp only at e;split at e
    ·rename_i hl;cases e;obtain ⟨vs,e3,r⟩:=z;obtain ⟨b,rfl,eb⟩:=zMF rk e2;obtain ⟨c3,s3⟩:=c.put (m:=.dicT (zHs tkD kvs kk k v)) (o':=.dT (zCT vs kk u)) ea e3 (fun _ z=>by cases z) (fun _ _ z=>by cases z) fun s3=>⟨_,zAK,(zM7 e2 rv r).stp s3⟩;exact ⟨_,zGI.t e3 eb (by rw[r.length];exact hl),c3,s3⟩
    ·cases e
  |_=>cases e
section
variable {X:Cx} {a b e o i value:Expr} {pos pos' apos cpos:Pos} {f g h:FE}
def zAA:K2:=fun x y M=>match y with
 |.dat k=>match zDD M x k with
  |some (some d)=>some (.dat d,M)
  |_=>none
 |_=>none
theorem zQY {K:PySem.W.Frag}:zCV K (fun x y H Q=>∃ a v,x=.ref a/\zDa H a y (some v)/\Q v H) zAA:=by
 intro L M M' H H0 x y d v w Q c rx ry hk q;unfold zAA at hk;split at hk
 ·rename_i k;split at hk
  ·rename_i d' e1;cases hk;obtain ⟨a,ov,rfl,h1,h2⟩:=zFV c rx ry e1;obtain ⟨u,rfl,r⟩:=h2;exact ⟨a,u,rfl,h1,q L H u (.refl L H) c r⟩
  ·cases hk
 ·cases hk
theorem zSk (hu:X.A.units+1<cLine) (h1:QE X o f) (h2:QE X i g) (hs:zSn i:=by intro _ _;rfl):QE X (.Subscript o i pos) (fOp zAA f g):=.mk <| PE.imp (zRO hu h1.un h2.un hs) fun _ _ _ h=>zDK zQY h
def zA8 (neg:Bool):K2:=fun x y M=>match x with
  |.dat k=>match zDD M y k with
    |some o=>some (.dat (.bl (if neg then !o.isSome else o.isSome)),M)
    |none=>none
  |_=>none
theorem zLT {o:Option D} {ov:Option V} (h:zVU L H o ov):ov.isSome=o.isSome:=by
  cases o with
  | none => have h' : ov = none := h
            rw[h'];rfl
  |some d=>obtain ⟨v,rfl,_⟩:=h;rfl
theorem zQ6 {K:PySem.W.Frag}:zCV K (fun y x H Q=>∃ a o,x=.ref a/\zDa H a y o/\Q (.bl o.isSome) H) (zA8 false):=by
 intro L M M' H H0 x y d v w Q c rx ry hk q;unfold zA8 at hk;split at hk
 ·rename_i k;split at hk
  ·rename_i o e1;cases hk;obtain ⟨a,ov,rfl,h1,h2⟩:=zFV c ry rx e1;refine ⟨a,ov,rfl,h1,?_⟩;rw[zLT h2];exact q L H _ (.refl L H) c (zBk (L:=L) (H:=H))
  ·cases hk
 ·cases hk
theorem zLr {K:PySem.W.Frag}:zCV K (fun y x H Q=>∃ a o,x=.ref a/\zDa H a y o/\Q (.bl (!o.isSome)) H) (zA8 true):=by
 intro L M M' H H0 x y d v w Q c rx ry hk q;unfold zA8 at hk;split at hk
 ·rename_i k;split at hk
  ·rename_i o e1;cases hk;obtain ⟨a,ov,rfl,h1,h2⟩:=zFV c ry rx e1;refine ⟨a,ov,rfl,h1,?_⟩;rw[zLT h2];exact q L H _ (.refl L H) c (zBk (L:=L) (H:=H))
  ·cases hk
 ·cases hk
theorem zS9 (hu:X.A.units+1<cLine) (h1:QE X a f) (h2:QE X b g) (hm:behindInMarks .In b=false:=by rfl):QT X (.Compare a [.In] [b] pos) (tst (fOp (zA8 false) f g)):=.mk <| PT.imp (zQc (zTU hu h1.un h2.un) hm) fun _ _ _ h=>zEj (fun _ _ _ z=>zDK zQ6 z) (zEL h)
theorem zOO (hu:X.A.units+1<cLine) (h1:QE X a f) (h2:QE X b g) (hm:behindInMarks .NotIn b=false:=by rfl):QT X (.Compare a [.NotIn] [b] pos) (tst (fOp (zA8 true) f g)):=.mk <| PT.imp (zQc (zOb hu h1.un h2.un) hm) fun _ _ _ h=>zEj (fun _ _ _ z=>zDK zLr z) (zEL h)
def zCJ (fv fo fi:FE):FS:=fun σ M=>match toD fv σ M with
 |some (v,M1)=>match toD fo σ M1 with
  |some (.ref n,M2)=>match toD fi σ M2 with
   |some (k,M3)=>match zED M3 n k v with
    |some M4=>some (.nx,σ,M4)
    |none=>none
   |none=>none
  |_=>none
 |none=>none
theorem zUC (hu:X.A.units+1<cLine) (hv:QE X value f) (ho:QE X o g) (hi:QE X i h) (hs:swapsWith value (some (.Subscript o i pos')) pos.line X.env=pure false:=by rfl):QS X (.Assign [.Subscript o i pos'] value pos) (zCJ f g h) :=
 .mk <| PS.imp (zRh hu (zBn ho).un (zBn hi).un (zBn hv).un hs) fun E τ H zz=>by
  obtain ⟨L,σ,M,out,σ',M',c,rs,hf,q⟩:=zz;unfold zCJ at hf;split at hf
  ·rename_i v M1 e1;split at hf
   ·rename_i n M2 e2;split at hf
    ·rename_i k M3 e3;split at hf
     ·rename_i M4 e4;cases hf;refine ⟨L,σ,M,_,_,c,rs,e1,fun L1 H1 u s1 c1 r1=>⟨L1,σ,M1,_,_,c1,rs.stp s1,e2,fun L2 H2 y s2 c2 r2=>⟨L2,σ,M2,_,_,c2,(rs.stp s1).stp s2,e3,fun L3 H3 z s3 c3 r3=>?_⟩⟩⟩;unfold Rep at r2;obtain ⟨a,rfl,ea⟩:=r2;have ea3:L3[n]?=some a:=by obtain ⟨N,hN⟩:=s3.pre;rw[hN];exact zB0 ea
      obtain ⟨H4,h1,h2,h3⟩:=zKu c3 ea3 r3 ((r1.stp s2).stp s3) e4;exact ⟨a,H4,rfl,h1,q L3 H4 (((s1.trans s2).trans s3).trans h3) h2 τ ((((rs.stp s1).stp s2).stp s3).stp h3)⟩
     ·cases hf
    ·cases hf
   ·cases hf
  ·cases hf
def zBw (fo fi fx:FE):FE:=fun σ M=>match toD fo σ M with
 |some (.ref n,M1)=>match M1[n]? with
  |some (.dict _)|some (.dicT _)=>match toD fi σ M1 with
   |some (k,M2)=>match toD fx σ M2 with
    |some (x,M3)=>match zDD M3 (.dat (.ref n)) k with
     |some o=>some (.dat (o.getD x),M3)
     |none=>none
    |none=>none
   |none=>none
  |_=>none
 |_=>none
theorem zRY (hu:X.A.units+1<cLine) (ho:QE X o f) (hi:QE X i g) (hx:QE X e h) (m:M2 X o "get" apos i e cpos):QE X (.Call (.Attribute o "get" apos) [i,e] [] cpos) (zBw f g h) :=
 .mk <| PE.imp (zQO hu (zBn ho).un (zBn hi).un (zBn hx).un m) fun τ H Q zz=>by
  obtain ⟨L,σ,M,d,M',c,rs,hf,q⟩:=zz
  have key:∀ n M1,toD f σ M=some (.ref n,M1)->(∃ kvs,M1[n]?=some (.dict kvs)\/M1[n]?=some (.dicT kvs))->(match toD g σ M1 with
   |some (k,M2)=>match toD h σ M2 with
    |some (x,M3)=>match zDD M3 (.dat (.ref n)) k with
     |some o=>some (EV.dat (o.getD x),M3)
     |none=>none
    |none=>none
   |none=>none)=some (d,M')->zPh (trD X.K (toD f)) (trD X.K (toD g)) (trD X.K (toD h)) τ H Q:=by
   intro n M1 e1 hd hf;split at hf
   ·rename_i k M2 e2;split at hf
    ·rename_i x M3 e3;split at hf
     ·rename_i ov e4;cases hf;refine ⟨L,σ,M,_,_,c,rs,e1,fun L1 H1 u s1 c1 r1=>?_⟩;unfold Rep at r1;obtain ⟨a,rfl,ea⟩:=r1;refine ⟨a,rfl,?_,L1,σ,M1,_,_,c1,rs.stp s1,e2,fun L2 H2 y s2 c2 r2=>⟨L2,σ,M2,_,_,c2,(rs.stp s1).stp s2,e3,fun L3 H3 z s3 c3 r3=>?_⟩⟩
      ·obtain ⟨kvs,hk|hk⟩:=hd
       ·obtain ⟨vs,e5,_⟩:=c1.obj n a _ ea hk;exact .inl ⟨vs,.inl e5⟩
       ·obtain ⟨vs,e5,_⟩:=c1.obj n a _ ea hk;exact .inr ⟨vs,.inl e5⟩
      ·have ra:zg H L3 H3 (.dat (.ref n)) (.ref a):=by
        unfold zg Rep;exact ⟨a,rfl,by obtain ⟨N,hN⟩:=(s2.trans s3).pre;rw[hN];exact zB0 ea⟩
       obtain ⟨a',o',e6,h1,h2⟩:=zFV c3 ra (r2.stp s3) e4;cases e6;refine ⟨o',h1,?_⟩;cases ov with
       |none=>
        have h':o'=none:=h2;subst h';exact q L3 H3 _ ((s1.trans s2).trans s3) c3 r3
       |some dd=>
        obtain ⟨v,rfl,rv⟩:=h2;exact q L3 H3 _ ((s1.trans s2).trans s3) c3 rv
     ·cases hf
    ·cases hf
   ·cases hf
  unfold zBw at hf;split at hf
  ·rename_i n M1 e1;split at hf
   ·rename_i kvs e5;exact key n M1 e1 ⟨kvs,.inl e5⟩ hf
   ·rename_i kvs e5;exact key n M1 e1 ⟨kvs,.inr e5⟩ hf
   ·cases hf
  ·cases hf
end
end L3
namespace L2
open PySem PySem.Spec PyProof.Rows
section
variable {prog:Program} {w:World} {A:Around} {R:Result->Shared->Prop} {s:Shared}
theorem zDF {kx vx target iter ifs rest scope pos it acc env}
  (h0:codeAny (model prog w) A (.compLoop (.DictComp kx vx (⟨target,iter,ifs,0⟩::rest) scope pos) 0 it acc env) R s)
  (h:wpAny (model prog w) A (pyIter it) (fun it' s'=>codeAny (model prog w) A (.compLoop (.DictComp kx vx (⟨target,iter,ifs,0⟩::rest) scope pos) 0 it' acc env) R s')
   (notedBy (model prog w) A env fun x s'=>R (.error x) s') s) :
  codeAny (model prog w) A (.compStart (.DictComp kx vx (⟨target,iter,ifs,0⟩::rest) scope pos) 0 it acc env) R s:=by
 refine codeAny_of_tree ?_;show wpAny _ _ ((compStart (.DictComp kx vx (⟨target,iter,ifs,0⟩::rest) scope pos) 0 it acc env).onRaise (fun x=>do noteFrame x env;standAt theWindowsPlace)) _ _ s;refine wpAny_notedAt ?_;unfold compStart;refine zV8 (wpAny_askSetting (wpAny_ite ?_));split
 ·first
   |exact zV8 (zWA (zWA (And.intro rfl h0)))
   |exact zWA (And.intro rfl h0)
 ·first
   |exact zV8 (zXV (zV8 (zW6 (zV8 (zWe h (fun it' s' h'=>zWA (And.intro rfl h')) fun _ _ x=>x)))))
   | (refine zV8 (zXV ?_);show wpAny _ _ (standAt iter.pos >>= _) _ _ s;exact zV8 (zW6 (zV8 (zWe h (fun it' s' h'=>zWA (And.intro rfl h')) fun _ _ x=>x))))
end
section
variable {X:Cx} {zB:List (Addr × Obj)} {σ:St} {H:Hp} {s:Shared}
theorem Inv.trackAt (I:Inv X zB σ H s) (ho:s.heap.get? D=some o) (hn:H D=none) (h0:X.s₀.heap.objs.size<=D) (hL:D≠X.env.locals) (hc:∀ x c,X.env.cells.lookup x=some c->c≠D) (hp:∀ p∈X.pn++zB,p.1≠D)
  (new:zAu X.prog X.w (upd H D u) s.heap D u):Inv X zB σ (upd H D u) s:=by
 have un:∀ b v,H b=some v->upd H D u b=some v:=fun b v e=>by rw[zc (zAN e hn)];exact e
 have e0:s={ s with heap:=s.heap,gens:=s.gens,drawn:=s.drawn,toks:=s.toks }:=by cases s;rfl
 rw[e0];refine I.step (g':=s.gens) (d':=s.drawn) (ch:=[D]) (fun b hb=>?_) (fun b v _ _ _ e _=>e) (fun b v _ _ _ e _=>⟨v.slots,e⟩) (fun b v hb e n=>?_) (fun b v _ e=>⟨v,e⟩) (fun b xs e=>un b _ e) (fun b p v e=>un b _ e) (fun b ps e=>⟨#[],by rw[un b _ e];simp⟩) (fun m hm=>hm) (fun b v e=>?_) I.bare
 ·have:b=D:=by simpa using hb
  subst this;exact ⟨.inr h0,hL,hc,hp⟩
 ·rw[zc (fun z=>hb (by simp[z]))];exact n
 ·by_cases hb:b=D
  ·subst hb;rw[zAK]at e;cases e;exact new
  ·rw[zc hb]at e;exact (I.hok b v e).stay (fun c v hc q=>q) (fun c q=>un c _ q) fun c xs q=>un c _ q
theorem zNz (hu:A.units+1<cLine) (I:Inv X zB σ H s) (g:zGI H a y v H') (ry:zk y u) (rv:zk v r) (h:∀ s',Inv X zB σ H' s'->Heap.SameBut a s.heap s'.heap->Q () s') :
  wpAny (model X.prog X.w) A (dictSet a u r) Q E s:=by
 rcases g with ⟨kvs,k,e,ey,l,eH⟩|⟨kvs,k,b,e,ey,eb,l,eH⟩
 ·subst ey eH;obtain ⟨z,hd,vs,rel,dd⟩:=zPf I.hok e;have hz:vs.length<=sizeLine:=by rw[<-rel.length];exact z
  have hl:(zCT kvs k v).length<=sizeLine:=by have:=zCD kvs k v;omega
  refine wpAny_dictSet_pairs (hsz:=hz) (zFw ry) dd fun h' dd' hs=>h _ ?_ hs;have he:∃ q,h'.get? a=some q:=let ⟨q,_,_,hq,_⟩:=dd';⟨q,hq⟩;exact zFH I (by rw[e];exact True.intro) hs he (zL4 hl hd (rel.put k rv) dd')
 ·subst ey eH;cases (show u=Value.ref b from ry);obtain ⟨z,hd,xs,rel,dd⟩:=zSS I.hok e;have hz:xs.length<=sizeLine:=by rw[<-Paired.length rel];exact z
  have hl:(zCT kvs k v).length<=sizeLine:=by have:=zCD kvs k v;omega
  refine wpAny_dictSet_heap (hsz:=hz) (show (tupleKind (zAW X.prog X.w)).room A from Nat.lt_of_succ_lt hu) (zEg I.hok eb) dd fun h' dd' hs=>h _ ?_ hs;obtain ⟨q,es,ep,hq,h2,h3,h4,_,h5⟩:=dd';refine zFH I (by rw[e];exact True.intro) hs ⟨q,hq⟩ ⟨hl,hd,_,(rel.put k eb rv).keeps fun c ys ec=>?_,q,es,ep,hq,h2,h3,h4,h5⟩;rw[zc (zH9 ec e (fun z=>nomatch z))];exact ec
end
def zEf (isT:Bool):HO:=if isT then .dT [] else .dK []
abbrev zCO:Obj:={ cls:=.type "dict", data:=.dict #[] }
section
variable {X:Cx} {zB:List (Addr × Obj)} {σ:St} {H:Hp} {s:Shared} {scope:Scope} {cl:List (Str × Addr)} {fp:List Addr} {it:Addr} {tn:Nat->Heap->Prop} {J:It} {tg kx vx iter:Expr} {ifs:List Expr} {pos:Pos}
 {own:List Nat} {g:TG} {tc:TT} {tk tv:TE} {E:Value->Shared->Prop} {isT:Bool}
theorem zDi (hu:X.A.units+1<cLine) (C:CompIn X scope own) (hcalm:X.calm=true) (I:Inv X zB σ H s) (T:Turn X.prog X.w X.K tg J fp it tn) (st:tn 0 s.heap) (hf:∀ b∈fp,zCL X zB H b)
  (c1:∀ x c,cl.lookup x=some c->X.env.cells.lookup x=some c) (c2:∀ y∈scope.names,y.2=.free->(cl.lookup y.1).isSome=true)
  (hg:PG (zL X zB scope cl s H fp) tg g) (hi:zGD (zL X zB scope cl s H fp) ifs tc) (hk:PE (zL X zB scope cl s H fp) kx tk) (hv:PE (zL X zB scope cl s H fp) vx tv)
  {RR:Value->Addr->Result->Shared->Prop} {QQ:Hp->Prop} {W:Nat->Nat->Hp->Prop} {m0:Nat} (w0:W 0 m0 (upd H s.heap.objs.size (zEf isT)))
  (turn:∀ i m H,W i m H->(J.stop i H/\QQ H) \/
   (J.go i H /\ ∀ x H',J.yld i H x H'->g x (clr own σ) H' fun σ2 H2=>Ext (clr own σ) σ2/\tc σ2 H2 fun b H3=>
    if b=true then tk σ2 H3 fun k H4=>tv σ2 H4 fun v H5=>∃ H6 m',zGI H5 s.heap.objs.size k v H6/\m'<m/\W (i+1) m' H6 else ∃ m',m'<m/\W (i+1) m' H3))
  (fin:∀ σc H' s',Inv (zL X zB scope cl s H fp) [] σc H' s'->QQ H'->RR (.ref s.heap.objs.size) (s.heap.objs.size+1) (.ok .next) s') :
  wpAny (model X.prog X.w) X.A newDict (fun acc s₃=>wpAny (model X.prog X.w) X.A (newFunctionEnv scope X.env.globals cl [] X.env.qual none .none (some X.env)) (fun cenv s₄=>
   codeAny (model X.prog X.w) X.A (.compStart (.DictComp kx vx [⟨tg,iter,ifs,0⟩] scope pos) 0 (.ref it) acc { cenv with scope:=relabel scope X.env }) (RR acc cenv.locals) s₄) E s₃) E s:=by
 have ob:∀ b:Nat,b∈fp->b<s.heap.objs.size:=fun b hb=>let ⟨_,e,_⟩:=T.obj 0 _ st b hb;zWJ e;refine zWb (zCw ?_);have sz1:(s.heap.push zCO).objs.size=s.heap.objs.size+1:=zWo ..;have I4:=zE0 (X:=X) (zB:=zB) (σ:=σ) (σc:=clr own σ) (H:=H) (s:=s) (scope:=scope) (cl:=cl) (fp:=fp) C.sc I hf ob c1 c2 (zBT own σ) (fun i x v h1 h2 h3=>by
  obtain ⟨a,b⟩:=zCx own σ i v h2;rcases C.nm i x h1 with z|z|z
  ·exact absurd z b
  ·exact absurd (zCN x z) h3
  ·exact ⟨z,a⟩) zCO (by intro v z;cases z) rfl rfl
 have st4:tn 0 (pushCells ((s.heap.push zCO).push { cls:=.type "dict", data:=.dict #[] }) scope.names):=T.keep 0 _ _ st fun b _ o e=>pushCells_keeps _ _ b o (zV9 _ (zV9 _ e));unfold newEnv;rw[sz1];have hDfp:s.heap.objs.size∉fp:=fun z=>zWq _ (ob _ z);obtain ⟨pD,nD,neD,nfD,dD⟩:=I4.pin (s.heap.objs.size,zCO) (by simp);have hcD:∀ x c,(zL X zB scope cl s H fp).env.cells.lookup x=some c->c≠s.heap.objs.size:=fun x c e z=>by
  obtain ⟨v,o,ho,hd⟩:=I4.cell x c e;rw[z,pD]at ho;cases ho;cases hd
 have hpn:∀ p∈(zL X zB scope cl s H fp).pn++[],p.1≠s.heap.objs.size:=fun p hp=>by
  rw[zWs]at hp;have hp':p∈X.pn++zB:=hp;exact zWT (zWJ (I.pin p hp').1)
 have big:sysModules<s.heap.objs.size:=I.big;have hsm:(s.heap.objs.size==sysModules)=false:=by rw[beq_eq_false_iff_ne];exact zXd big
 have I5:Inv (zL X zB scope cl s H fp) [] (clr own σ) (upd H s.heap.objs.size (zEf isT)) { s with heap:=pushCells ((s.heap.push zCO).push { cls:=.type "dict", data:=.dict #[] }) scope.names }:=by
  have I4':Inv (zL X zB scope cl s H fp) [] (clr own σ) H { s with heap:=pushCells ((s.heap.push zCO).push { cls:=.type "dict", data:=.dict #[] }) scope.names }:=I4.pins_of fun p hp=>nomatch hp;refine I4'.trackAt pD nD (zWE _) neD hcD hpn ?_;cases isT with
  |false=>exact ⟨zWu _,hsm,[],.nil,zCO,#[],0,pD,⟨rfl,rfl,rfl⟩,rfl,fun _ he=>by simp at he,.nil,List.nodup_nil⟩
  |true=>exact ⟨zWu _,hsm,[],.nil,zCO,#[],0,pD,⟨rfl,rfl,rfl⟩,rfl,rfl,List.nodup_nil⟩
 have fpk:∀ {H':Hp},(∀ b∈fp,H' b=none) -> ∀ b∈fp,zCL (zL X zB scope cl s H fp) [] H' b:=fun {H'} hn b hb=>
  ⟨hn b hb,(I4.ok.exf b hb).1,I4.ok.exfs b hb,.inl hb,(I4.ok.exf b hb).2,fun p hq=>by
   rw[zWs]at hq;exact (hf b hb).2.2.2.2.2 p hq⟩
 have loop:codeAny (model X.prog X.w) X.A (.compLoop (.DictComp kx vx [⟨tg,iter,ifs,0⟩] scope pos) 0 (.ref it) (.ref s.heap.objs.size) (zL X zB scope cl s H fp).env) (RR (.ref s.heap.objs.size) (s.heap.objs.size+1))
   { s with heap:=pushCells ((s.heap.push zCO).push { cls:=.type "dict", data:=.dict #[] }) scope.names }:=by
  refine zH4 (fun n s'=>∃ i H',Inv (zL X zB scope cl s H fp) [] (clr own σ) H' s'/\tn i s'.heap/\(∀ b∈fp,H' b=none)/\W i n H') ?_ m0
   ⟨0,_,I5,st4,fun b hb=>by rw[zc (show b≠s.heap.objs.size from fun z=>hDfp (by rw[<-z];exact hb))];exact (hf b hb).1,w0⟩
  rintro n s5 ⟨i,H5,J5,st5,f5,w5⟩;rcases turn i n H5 w5 with ⟨stop,qq⟩|⟨go,step⟩
  ·refine thn (T.done (zL X zB scope cl s H fp) rfl rfl rfl hcalm i _ s5 _ H5 _ J5 (fpk f5) st5 stop) fun r s6 ⟨hr,I6⟩=>?_;subst hr;exact fin _ H5 s6 I6 qq
  ·refine thn (T.item (zL X zB scope cl s H fp) rfl rfl rfl hcalm i _ s5 _ H5 _ J5 (fpk f5) st5 go) fun r s6 ⟨u,hr,h6⟩=>?_;subst hr;refine thn h6 fun _ s7 ⟨x,H7,I7,r7,y7,st7,f7⟩=>?_;have I7':=I7.pinned (fpk f7) (T.obj _ _ st7);refine thn (hg _ s7 _ H7 x u _ I7' r7 (step x H7 y7)) fun _ s8 ⟨σ8,H8,I8,x8,q8⟩=>?_;refine thn (hi _ s8 σ8 H8 _ I8 q8) fun ok s9 ⟨H9,I9,q9⟩=>?_;have back:∀ {s':Shared} {Hx:Hp},Inv (zL X zB scope cl s H fp) ([]++zC3 fp s7.heap) σ8 Hx s'->tn (i+1) s'.heap /\ ∀ b∈fp,Hx b=none:=fun {s' Hx} Ix=>
    ⟨T.keep _ _ _ st7 fun b hb o e=>(Ix.pin (b,o) (zWS _ (zWS _ (zAX hb e)))).1,fun b hb=>by
     obtain ⟨o,e,d⟩:=T.obj _ _ st7 b hb;exact (Ix.pin (b,o) (zWS _ (zWS _ (zAX hb e)))).2.1⟩
   cases ok with
   |false=>
    obtain ⟨m',hm,w'⟩:=q9;obtain ⟨b1,b2⟩:=back I9;exact ⟨m',hm,i+1,H9,(I9.weak (by rw[x8.1]) x8.2).unpinned,b1,b2,w'⟩
   |true=>
    refine thn (hk _ s9 σ8 H9 _ I9 q9) fun kv s10 ⟨y,H10,I10,r10,q10⟩=>?_;refine thn (hv _ s10 σ8 H10 _ I10 q10) fun vv s11 ⟨z,H11,I11,r11,H12,m',hp,hm,w'⟩=>?_;refine zNz (X:=zL X zB scope cl s H fp) hu I11 hp r10 r11 fun s12 I12 hs=>?_;obtain ⟨b1,b2⟩:=back I12;exact ⟨m',hm,i+1,H12,(I12.weak (by rw[x8.1]) x8.2).unpinned,b1,b2,w'⟩
 exact zDF loop (T.self _ 0 _ _ _ st4 loop)
theorem zEZ (I:Inv X zB σ H s) (hf:∀ b∈fp,zCL X zB H b)
  (Ic:Inv (zL X zB scope cl s H fp) [] σc H' s') (hs:Heap.SameBut (s.heap.objs.size+1) s'.heap h'):Inv X zB σ H' { s' with heap:=h' }:=by
 have nC:H' (s.heap.objs.size+1)=none:=Ic.free;have lt1:∀ {b:Addr} {o:Obj},s.heap.get? b=some o->b≠s.heap.objs.size+1:=fun e=>zWT (zWx (zWJ e));have tr:∀ b u,H' b=some u->b≠s.heap.objs.size+1:=fun b u e z=>by rw[z,nC]at e;cases e
 have B:=Ic.base;have un:Un (frs X.stack) fp H H' s.heap h':=by
  refine ⟨fun b o e q hb hx=>hs.extBut b o (lt1 e) (B.keep b o e q hb hx),fun b o e q hb hx=>?_,fun b o e q hx=>B.free b o e q hx,fun b o e hx=>?_,fun b xs e=>B.tups b xs e,fun b o xs e=>B.frzs b o xs e,fun b ps e=>B.tbls b ps e⟩
  ·obtain ⟨sl,e1⟩:=B.slot b o e q hb hx;exact ⟨sl,hs.extBut b _ (lt1 e) e1⟩
  ·obtain ⟨o',e1⟩:=B.there b o e hx;exact ⟨o',hs.extBut b _ (lt1 e) e1⟩
 have hok:HOk X.prog X.w H' h':=fun b u e=>by
  refine (Ic.hok b u e).stay (fun c v hc q=>hs.extBut c v ?_ q) (fun c q=>q) fun c xs q=>q;rcases hc with z|z
  ·rw[z];exact tr b u e
  ·exact tr c _ z
 exact I.call' (s':={ s' with heap:=h' }) (ch:=fp) Ic.os un hok Ic.bare fun b hb=>⟨(hf b hb).2.2.2.1,(hf b hb).2.1,(hf b hb).2.2.2.2.1,(hf b hb).2.2.2.2.2⟩
end
def zFd (isT:Bool) (own:List Nat) (wi:TI) (g:TG) (tc:TT) (tk tv:TE):TE:=fun σ H Q=>wi σ H fun J H1=>∀ D,H1 D=none -> ∃ W:Nat->Nat->Hp->Prop,(∃ m,W 0 m (upd H1 D (zEf isT))) /\ ∀ i m H,W i m H ->
 (J.stop i H/\Q (.ref D) H) \/
 (J.go i H /\ ∀ x H',J.yld i H x H'->g x (clr own σ) H' fun σ2 H2=>Ext (clr own σ) σ2/\tc σ2 H2 fun b H3=>
  if b=true then tk σ2 H3 fun k H4=>tv σ2 H4 fun v H5=>∃ H6 m',zGI H5 D k v H6/\m'<m/\W (i+1) m' H6 else ∃ m',m'<m/\W (i+1) m' H3)
section
variable {X:Cx} {scope:Scope} {tg kx vx iter:Expr} {ifs:List Expr} {pos:Pos} {own:List Nat} {wi:TI} {g:TG} {tc:TT} {tk tv:TE} {isT:Bool}
theorem zLb (hu:X.A.units+1<cLine) (C:CompIn X scope own) (hcalm:X.calm=true) (hi:PI X tg iter wi) (p:CompParts X scope tg ifs kx g tc tk) (p2:∀ zB cl s H fp,PE (zL X zB scope cl s H fp) vx tv) (hs:∀ x,foldedSetIterable iter X.env x=pure x:=by intro _;rfl) :
  PE X (.DictComp kx vx [⟨tg,iter,ifs,0⟩] scope pos) (zFd isT own wi g tc tk tv):=by
 intro zB s σ H Q I h;obtain ⟨cl,hcl,c1,c2⟩:=C.sc.closure I;rw[arm_eval_DictComp];refine zX2 (use:=none) rfl hs hcl C.sc.kind C.sc.names (thn (hi zB s σ H _ I h) fun v s1 h1=>thn h1 fun itv s2 h2=>?_);obtain ⟨it,fp,tn,J,H2,e,I2,T,st2,f2,hD⟩:=h2;subst e;obtain ⟨W,⟨m0,w0⟩,turn⟩:=hD s2.heap.objs.size (I2.hok.fresh (zWE _));refine zDi hu C hcalm I2 T st2 f2 c1 c2 (p.g _ _ _ _ _) (p.c _ _ _ _ _) (p.e _ _ _ _ _) (p2 _ _ _ _ _) (RR:=fun acc C r s'=>compPost (model X.prog X.w) X.A X.xe none (EP X zB σ Q) acc C r s') (QQ:=fun H=>Q (.ref s2.heap.objs.size) H) w0 turn ?_;intro σc H' s' Ic qq;obtain ⟨m,hn,_⟩:=Ic.loc;refine ⟨m,hn,fun h' hs'=>?_⟩;exact ⟨.ref s2.heap.objs.size,_,zEZ I2 f2 Ic hs',rfl,qq⟩
end
end L2
namespace L3
open PySem PySem.Spec PyProof.Rows L2
def zJl (isT:Bool):MO:=if isT then .dicT [] else .dict []
noncomputable def zCY (g:FG) (tc:FT) (tk tv:FE) (σ:Sd) (n:Nat) (all:List D) (gd:Option (Mem->Prop)):List D->Mem->Option Mem
 |[],M=>open Classical in if zAs gd all M then some M else none
 |x::r,M=>open Classical in if zAs gd all M then match g x σ with
   |some σ1=>match tc σ1 M with
    |some (true,M1)=>match toD tk σ1 M1 with
     |some (k,M2)=>match toD tv σ1 M2 with
      |some (v,M3)=>match zED M3 n k v with
       |some M4=>zCY g tc tk tv σ n all gd r M4
       |none=>none
      |none=>none
     |none=>none
    |some (false,M1)=>zCY g tc tk tv σ n all gd r M1
    |none=>none
   |none=>none
  else none
noncomputable def zC0 (isT:Bool) (own:List Nat) (fi:FI) (g:FG) (tc:FT) (tk tv:FE):FE:=fun σ M=>match fi σ M with
 |some (xs,gd,M1)=>match zCY g tc tk tv (zBB own σ) M1.length xs gd xs (M1++[zJl isT]) with
  |some M2=>some (.dat (.ref M1.length),M2)
  |none=>none
 |none=>none
theorem zGj {K:PySem.W.Frag} {isT:Bool} {own:List Nat} {fi:FI} {g:TG} {fg:FG} {tc:FT} {tk tv:FE} (hg:zE4 own g fg) {τ:Sv} {H:Hp} {Q:VK} (h:trE K (zC0 isT own fi fg tc tk tv) τ H Q):zFd isT own (trI K fi) g (trT K tc) (trD K (toD tk)) (trD K (toD tv)) τ H Q:=by
 obtain ⟨L,σ,M,d,Mf,c,rs,hf,q⟩:=h;unfold zC0 at hf;split at hf
 ·rename_i xs gd M1 e1;split at hf
  ·rename_i M2 e2;cases hf;refine ⟨L,σ,M,_,_,_,c,rs,e1,fun L1 H1 J s1 c1 it p hp=>?_⟩;obtain ⟨c0,s0⟩:Cor K (L1++[p]) (M1++[zJl isT]) (upd H1 p (zEf isT))/\Stp L1 H1 (L1++[p]) (upd H1 p (zEf isT)):=by
    cases isT with
    |true=>exact c1.pushO (m:=.dicT []) hp ⟨[],zAK,rfl⟩
    |false=>exact c1.pushO (m:=.dict []) hp ⟨[],zAK,rfl⟩
   have lp0:(L1++[p])[M1.length]?=some p:=by rw[<-c1.len];simp
   refine ⟨fun i m H'=>m=xs.length-i/\i<=xs.length /\ ∃ L' M',Stp (L1++[p]) (upd H1 p (zEf isT)) L' H'/\Cor K L' M' H'/\zCY fg tc tk tv (zBB own σ) M1.length xs gd (xs.drop i) M'=some Mf,
    ⟨xs.length,by simp,zWu _,_,_,.refl _ _,c0,by simpa using e2⟩,?_⟩
   rintro i m H' ⟨rfl,hi,L',M',s',c',e'⟩;have lp:L'[M1.length]?=some p:=by obtain ⟨N,hN⟩:=s'.pre;rw[hN];exact zB0 lp0
   by_cases hlt:i<xs.length
   ·rw[zCQ hlt]at e';unfold zCY at e';split at e'
    ·rename_i hgd;obtain ⟨step,_⟩:=it L' H' M' (s0.trans s') c' hgd;obtain ⟨go,yl⟩:=step i xs[i] (zWC hlt);split at e'
     ·rename_i σ1 eg;refine .inr ⟨go,fun v H2 hy=>?_⟩;obtain ⟨gr,rv⟩:=yl v H2 hy;have s2:Stp (L1++[p]) (upd H1 p (zEf isT)) L' H2:=s'.yld gr;refine hg (zEV own (((rs.stp s1).stp s0).stp s2)) (.refl _) rv eg fun τ2 r2 x2=>⟨x2,?_⟩;split at e'
      ·rename_i M3 e3;split at e'
       ·rename_i kd M4 e4;split at e'
        ·rename_i vd M5 e5;split at e'
         ·rename_i M6 e6;refine ⟨L',σ1,M',_,_,c'.grow gr,r2,e3,fun L3 H3 s3 c3=>zHy ?_⟩;refine ⟨L3,σ1,M3,_,_,c3,r2.stp s3,e4,fun L4 H4 w s4 c4 r4=>?_⟩;refine ⟨L4,σ1,M4,_,_,c4,(r2.stp s3).stp s4,e5,fun L5 H5 u s5 c5 r5=>?_⟩;have st:Stp L' H' L5 H5:=(((Stp.grow gr).trans s3).trans s4).trans s5;have lp5:L5[M1.length]?=some p:=by obtain ⟨N,hN⟩:=st.pre;rw[hN];exact zB0 lp
          obtain ⟨H6,h1,h2,h3⟩:=zKu c5 lp5 (r4.stp s5) r5 e6;exact ⟨H6,xs.length-(i+1),h1,by omega,rfl,hlt,L5,M6,(s'.trans st).trans h3,h2,e'⟩
         ·cases e'
        ·cases e'
       ·cases e'
      ·rename_i M3 e3;refine ⟨L',σ1,M',_,_,c'.grow gr,r2,e3,fun L3 H3 s3 c3=>zHl ?_⟩;have st:Stp L' H' L3 H3:=(Stp.grow gr).trans s3;exact ⟨xs.length-(i+1),by omega,rfl,hlt,L3,M3,s'.trans st,c3,e'⟩
      ·cases e'
     ·cases e'
    ·cases e'
   ·have hi':i=xs.length:=by omega
    subst hi';rw[List.drop_length]at e';unfold zCY at e';split at e'
    ·rename_i hgd;cases e';obtain ⟨_,stop⟩:=it L' H' _ (s0.trans s') c' hgd;refine .inl ⟨stop,?_⟩;refine q L' _ _ ((s1.trans s0).trans s') c' ?_;unfold zg Rep;exact ⟨p,rfl,lp⟩
    ·cases e'
  ·cases hf
 ·cases hf
section
variable {X:Cx} {scope:Scope} {tg kx vx iter:Expr} {ifs:List Expr} {pos:Pos} {own:List Nat} {isT:Bool}
theorem zRu {fi:FI} {g:TG} {fg:FG} {tc:FT} {tk tv:FE} (hu:X.A.units+1<cLine) (hg:zE4 own g fg) (C:CompIn X scope own) (hcalm:X.calm=true) (hi:QI X tg iter fi) (p:QParts X scope tg ifs kx g tc tk) (p2:∀ zB cl s H fp,QE (zL X zB scope cl s H fp) vx tv) (hs:∀ x,foldedSetIterable iter X.env x=pure x:=by intro _;rfl) :
  QE X (.DictComp kx vx [⟨tg,iter,ifs,0⟩] scope pos) (zC0 isT own fi fg tc tk tv) :=
 .mk <| PE.imp (zLb (isT:=isT) hu C hcalm hi.un p.parts (fun _ _ _ _ _=>(zBn (p2 _ _ _ _ _)).un) hs) fun _ _ _ h=>zGj hg h
end
def zx:Nat->D->Bool
 |0,.int _=>true
 |n+1,.tup ds=>ds.all (zx n)
 |_,_=>false
def zA4:Nat->D->D->Bool
 |0,.int i,.int j=>decide (i=j)
 |n+1,.tup xs,.tup ys=>xs.length==ys.length&&(xs.zip ys).all fun q=>zA4 n q.1 q.2
 |_,_,_=>false
theorem zEP:∀ (n:Nat) (x:D),zx n x=true->zA4 n x x=true
 |0,.int i,_=>by simp[zA4]
 |n+1,.tup xs,h=>by
  unfold zx at h;unfold zA4;rw[zWj]at h;simp only[beq_self_eq_true,Bool.true_and];rw[zWj];intro q hq;have:q.1=q.2:=by
   obtain ⟨i,hi,e⟩:=zYB hq;rw[List.getElem_zip]at e;rw[<-e]
  rw[<-this];exact zEP n _ (h q.1 (List.of_mem_zip hq).1)
 |0,.non,h=>by cases h
 |0,.bl _,h=>by cases h
 |0,.str _,h=>by cases h
 |0,.tup _,h=>by cases h
 |0,.ref _,h=>by cases h
 |n+1,.non,h=>by cases h
 |n+1,.bl _,h=>by cases h
 |n+1,.int _,h=>by cases h
 |n+1,.str _,h=>by cases h
 |n+1,.ref _,h=>by cases h
theorem zRc:∀ (n:Nat) (x y:D),zx n x=true->zx n y=true->zA4 n x y=true->x=y:=by
 intro n;induction n with
 |zero=>
  intro x y hx hy h;cases x <;> first|cases hx|skip
  cases y <;> first|cases hy|skip
  unfold zA4 at h;rw[zW4 h]
 |succ n ih=>
  intro x y hx hy h;cases x <;> first|cases hx|skip
  cases y <;> first|cases hy|skip
  rename_i xs ys;unfold zx at hx hy;unfold zA4 at h;rw[zWj]at hx hy;rw[zWi,beq_iff_eq,zWj]at h;congr 1;apply List.ext_getElem h.1;intro i h1 h2;refine ih _ _ (hx _ (zWg h1)) (hy _ (zWg h2)) ?_;exact h.2 (xs[i],ys[i]) (by
   have hz:i<(xs.zip ys).length:=by rw[List.length_zip];omega
   have:=zWg hz;rw[List.getElem_zip]at this;exact this)
theorem zKz:∀ (n:Nat) (x y:D) (v:V),zx n x=true->zx n y=true->Rep L H x v->Rep L H y v->x=y:=by
 intro n;induction n with
 |zero=>
  intro x y v hx hy rx ry;cases x <;> first|cases hx|skip
  cases y <;> first|cases hy|skip
  unfold Rep at rx ry;rw[rx]at ry;cases ry;rfl
 |succ n ih=>
  intro x y v hx hy rx ry;cases x <;> first|cases hx|skip
  cases y <;> first|cases hy|skip
  rename_i xs ys;unfold zx at hx hy;rw[zWj]at hx hy;unfold Rep at rx ry;obtain ⟨a,vs,rfl,e,r⟩:=rx;obtain ⟨a',vs',e1,e2,r'⟩:=ry;cases e1;rw[e]at e2;cases e2;congr 1;have hl:xs.length=ys.length:=by rw[<-r.length,r'.length]
  apply List.ext_getElem hl;intro i h1 h2;obtain ⟨u,hu,ru⟩:=r.get (zWC h1);obtain ⟨u',hu',ru'⟩:=r'.get (zWC h2);rw[hu]at hu';cases hu';exact ih _ _ u (hx _ (zWg h1)) (hy _ (zWg h2)) ru ru'
section
variable {X:Cx} {zB:List (Addr × Obj)} {σ:L2.St} {H:Hp} {s:Shared} {L:List Addr}
theorem zMs {xs ys:List D} (f:D->D->Bool) (h:xs.length=ys.length):((List.range xs.length).all fun j=>f (xs.getD j .non) (ys.getD j .non))=(xs.zip ys).all fun q=>f q.1 q.2:=by
  rw[Bool.eq_iff_iff,zWj,zWj];constructor
  · intro hh q hq
    obtain ⟨i,hi,e⟩:=zYB hq;rw[List.getElem_zip]at e;rw[List.length_zip]at hi;have:=hh i (by simp;omega);rw[<-e];simpa [zWD,show i<xs.length by omega,show i<ys.length by omega] using this
  · intro hh i hi
    have h1:i<xs.length:=by simpa using hi
    have h2:i<ys.length:=by omega
    have hz:i<(xs.zip ys).length:=by rw[List.length_zip];omega
    have:=hh (xs.zip ys)[i] (zWg hz);rw[List.getElem_zip]at this;simpa [zWD,h1,h2] using this
theorem zIi (I : Inv X zB σ H s) : ∀ (n : Nat) (A : Around) (x y : D) (v w : V) (u u' : Value), A.units + n < cLine -> zx n x = true -> zx n y = true -> Rep L H x v -> Rep L H y w -> zk v u -> zk w u' -> SeqAt.EqAt A s u u' (zA4 n x y) := by
  intro n;induction n with
  |zero=>
    intro A x y v w u u' hu hx hy rx ry ru ru';cases x <;> first|cases hx|skip
    cases y <;> first|cases hy|skip
    unfold Rep at rx ry;subst rx;subst ry;obtain ⟨t,rfl⟩:=ru;obtain ⟨t',rfl⟩:=ru';have:=SeqAt.EqAt.int_int (A:=A) (s:=s) ‹Int› t ‹Int› t';unfold zA4;rename_i i j;have h:=SeqAt.EqAt.int_int (A:=A) (s:=s) i t j t';have e:(i==j)=decide (i=j):=by by_cases q:i=j <;> simp[q]
    rw[e]at h;exact h
  | succ n ih =>
    intro A x y v w u u' hu hx hy rx ry ru ru';cases x <;> first|cases hx|skip
    cases y <;> first|cases hy|skip
    rename_i xs ys;have hx':=hx;have hy':=hy;have rx':=rx;have ry':=ry;unfold zx at hx hy;rw[zWj]at hx hy;unfold Rep at rx ry;obtain ⟨a,vs,rfl,e,r⟩:=rx;obtain ⟨b,ws,rfl,e2,r2⟩:=ry;cases ru;cases ru';by_cases hab:a=b
    · subst hab
      have:=zKz (n+1) _ _ _ hx' hy' rx' ry';rw[this,zEP (n+1) _ hy'];exact SeqAt.EqAt.same _
    · refine SeqAt.EqAt.of_refs hab ?_
      obtain ⟨its,rv,p1,_⟩:=I.tuple (.of e);obtain ⟨its2,rv2,p2,_⟩:=I.tuple (.of e2);have l1:its.toArray.size=xs.length:=by rw[zWG,<-rv.length,r.length]
      have l2:its2.toArray.size=ys.length:=by rw[zWG,<-rv2.length,r2.length]
      have key := SeqAt.RcAt.tuples (A := A) (s := s) (l := a) (b := b) (items := its.toArray) (items2 := its2.toArray) (e := fun j => zA4 n (xs.getD j .non) (ys.getD j .non)) p1 p2 (by omega) (fun j h1 h2 => by
        have j1:j<xs.length:=by omega
        have j2:j<ys.length:=by omega
        obtain ⟨q1,g1,t1⟩:=r.get (zWC j1);obtain ⟨q2,g2,t2⟩:=r2.get (zWC j2);obtain ⟨o1,k1,m1⟩:=rv.get g1;obtain ⟨o2,k2,m2⟩:=rv2.get g2
        have z1 : its.toArray[j] = o1 := by have : its.toArray[j]? = some o1 := by simpa using k1
                                            rw[zWt h1]at this;exact zW8 this
        have z2 : its2.toArray[j] = o2 := by have : its2.toArray[j]? = some o2 := by simpa using k2
                                             rw[zWt h2]at this;exact zW8 this
        rw[z1,z2];have w1:xs.getD j .non=xs[j]:=by simp[zWD,j1]
        have w2:ys.getD j .non=ys[j]:=by simp[zWD,j2]
        rw[w1,w2];exact ih A.in1 _ _ _ _ _ _ (by show A.units+1+n<cLine;omega) (hx _ (zWg j1)) (hy _ (zWg j2)) t1 t2 m1 m2)
      have fin:((List.range (min its.toArray.size its2.toArray.size)).all (fun j=>zA4 n (xs.getD j .non) (ys.getD j .non))&&its.toArray.size==its2.toArray.size)=zA4 (n+1) (.tup xs) (.tup ys):=by
        rw[l1,l2];show _=(xs.length==ys.length&&(xs.zip ys).all fun q=>zA4 n q.1 q.2);by_cases hl:xs.length=ys.length
        ·rw[hl,Nat.min_self,<-hl,zMs (zA4 n) hl,Bool.and_comm]
        · have:(xs.length==ys.length)=false:=by simpa using hl
          rw[this];simp
      rw[fin]at key;exact key
end
def nb (neg b:Bool):Bool:=if neg then !b else b
def rTr (neg:Bool) (K:PySem.W.Frag) (n:Nat):R2:=fun x y H Q=>∃ (L:List Addr) (xs ys:List D),(xs.all (zx n)=true/\ys.all (zx n)=true) /\
 ((Rep L H (.tup xs) x/\Rep L H (.tup ys) y) \/ ∃ a b vs ws,x=.ref a/\y=.ref b/\SqL K H a vs/\SqL K H b ws/\zP L H xs vs/\zP L H ys ws)/\Q (.bl (nb neg (zA4 (n+1) (.tup xs) (.tup ys)))) H
section
variable {X:Cx}
theorem zHV (I:Inv X zB σ H s) (hu:A.units+n<cLine) (hx:xs.all (zx n)=true) (hy:ys.all (zx n)=true) (r:zP L H xs vs) (r2:zP L H ys ws) (rv:ze vs its) (rv2:ze ws its2) (j:Nat) (h1:j<its.toArray.size) (h2:j<its2.toArray.size) :
  SeqAt.EqAt A s its.toArray[j] its2.toArray[j] (zA4 n (xs.getD j .non) (ys.getD j .non)):=by
 rw[zWj]at hx hy;have l1:its.toArray.size=xs.length:=by rw[zWG,<-rv.length,r.length]
 have l2:its2.toArray.size=ys.length:=by rw[zWG,<-rv2.length,r2.length]
 have j1:j<xs.length:=by omega
 have j2:j<ys.length:=by omega
 obtain ⟨q1,g1,t1⟩:=r.get (zWC j1);obtain ⟨q2,g2,t2⟩:=r2.get (zWC j2);obtain ⟨o1,k1,m1⟩:=rv.get g1;obtain ⟨o2,k2,m2⟩:=rv2.get g2;have z1:its.toArray[j]=o1:=by
  have:its.toArray[j]?=some o1:=by simpa using k1
  rw[zWt h1]at this;exact zW8 this
 have z2:its2.toArray[j]=o2:=by
  have:its2.toArray[j]?=some o2:=by simpa using k2
  rw[zWt h2]at this;exact zW8 this
 have w1:xs.getD j .non=xs[j]:=by simp[zWD,j1]
 have w2:ys.getD j .non=ys[j]:=by simp[zWD,j2]
 rw[z1,z2,w1,w2];exact zIi I n A _ _ _ _ _ _ hu (hx _ (zWg j1)) (hy _ (zWg j2)) t1 t2 m1 m2
theorem zQg (l1:a=xs.length) (l2:b=ys.length):((List.range (min a b)).all (fun j=>zA4 n (xs.getD j .non) (ys.getD j .non))&&a==b)=zA4 (n+1) (.tup xs) (.tup ys):=by
 subst l1 l2;show _=(xs.length==ys.length&&(xs.zip ys).all fun q=>zA4 n q.1 q.2);by_cases hl:xs.length=ys.length
 ·rw[hl,Nat.min_self,<-hl,zMs (zA4 n) hl,Bool.and_comm]
 ·have:(xs.length==ys.length)=false:=by simpa using hl
  rw[this];simp
theorem zT7 (hl:xs.length=ys.length):((List.range xs.length).all fun j=>zA4 n (xs.getD j .non) (ys.getD j .non))=zA4 (n+1) (.tup xs) (.tup ys):=by
 rw[<-zQg (n:=n) rfl rfl,hl,Nat.min_self];simp
theorem zTB (hl:xs.length≠ys.length):zA4 (n+1) (.tup xs) (.tup ys)=false:=by
 show (xs.length==ys.length&&_)=false;rw[show (xs.length==ys.length)=false by simpa using hl];rfl
theorem zQ1 (n:Nat) (hu:X.A.units+1+n<cLine):OpR X (compareOp .NotEq) (rTr true X.K n):=by
 intro zB s σ H x y v u Q I rx ry h;obtain ⟨L,xs,ys,⟨hx,hy⟩,hc,q⟩:=h;have hu1:X.A.in1.units+n<cLine:=hu;rcases hc with ⟨p1,p2⟩|⟨a,b,vs,ws,rfl,rfl,s1,s2,r1,r2⟩
 ·unfold Rep at p1 p2;obtain ⟨a,vs,rfl,e1,r1⟩:=p1;obtain ⟨b,ws,rfl,e2,r2⟩:=p2;cases rx;cases ry;obtain ⟨its,rv,t1,_⟩:=I.tuple (.of e1);obtain ⟨its2,rv2,t2,_⟩:=I.tuple (.of e2);refine SeqAt.RcNeAt.tuples (e:=fun j=>zA4 n (xs.getD j .non) (ys.getD j .non)) t1 t2 (by omega) (fun j h1 h2=>zHV I hu1 hx hy r1 r2 rv rv2 j h1 h2) _ _ _ _ ?_;rw[zQg (by rw[zWG,<-rv.length,r1.length]) (by rw[zWG,<-rv2.length,r2.length])];exact ⟨.bl _,H,I,rfl,q⟩
 ·cases rx;cases ry;obtain ⟨its,rv,t1,_⟩:=I.list s1;obtain ⟨its2,rv2,t2,_⟩:=I.list s2;have l1:its.toArray.size=xs.length:=by rw[zWG,<-rv.length,r1.length]
  have l2:its2.toArray.size=ys.length:=by rw[zWG,<-rv2.length,r2.length]
  by_cases hl:xs.length=ys.length
  ·refine SeqAt.RcNeAt.lists (e:=fun j=>zA4 n (xs.getD j .non) (ys.getD j .non)) t1.isList t2.isList (by omega) (by omega) (fun j h1 h2=>zHV I hu1 hx hy r1 r2 rv rv2 j h1 h2) _ _ _ _ ?_;rw[l1,zT7 hl];exact ⟨.bl _,H,I,rfl,q⟩
  ·refine SeqAt.RcNeAt.lists_lengths t1.isList t2.isList (by rw[l1,l2];simpa using hl) (by omega) _ _ _ _ ?_;rw[zTB hl]at q;exact ⟨.bl true,H,I,rfl,q⟩
end
section
variable {X:Cx} {a b e o:Expr} {pos apos cpos:Pos} {f g:FE}
def kTr (neg:Bool) (n:Nat):K2:=fun x y M=>match zBc x,zBc y with
 |some xs,some ys=>if xs.all (zx n)&&ys.all (zx n) then some (.dat (.bl (nb neg (zA4 (n+1) (.tup xs) (.tup ys)))),M) else none
 |_,_=>match zBW M x,zBW M y with
  |some xs,some ys=>if xs.all (zx n)&&ys.all (zx n) then some (.dat (.bl (nb neg (zA4 (n+1) (.tup xs) (.tup ys)))),M) else none
  |_,_=>none
theorem zTO {K:PySem.W.Frag} {neg:Bool} {n:Nat}:zCV K (rTr neg K n) (kTr neg n):=by
 intro L M M' H H0 x y d v w Q c rx ry hk q;unfold kTr at hk;split at hk
 ·rename_i xs ys e1 e2;split at hk
  ·rename_i hb;cases hk;rw[zWi]at hb;obtain ⟨p,vs,rfl,h1,r1⟩:=zBS rx e1;obtain ⟨p',ws,rfl,h2,r2⟩:=zBS ry e2;refine ⟨L,xs,ys,hb,.inl ⟨?_,?_⟩,q L H _ (.refl L H) c (zBk (L:=L) (H:=H))⟩
   ·unfold Rep;exact ⟨p,vs,rfl,h1,r1⟩
   ·unfold Rep;exact ⟨p',ws,rfl,h2,r2⟩
  ·cases hk
 ·split at hk
  ·rename_i xs ys e1 e2;split at hk
   ·rename_i hb;cases hk;rw[zWi]at hb;obtain ⟨p,vs,rfl,h1,r1⟩:=zA6 c rx e1;obtain ⟨p',ws,rfl,h2,r2⟩:=zA6 c ry e2;exact ⟨L,xs,ys,hb,.inr ⟨p,p',vs,ws,rfl,rfl,.inl h1,.inl h2,r1,r2⟩,q L H _ (.refl L H) c (zBk (L:=L) (H:=H))⟩
   ·cases hk
  ·cases hk
theorem zRT (n:Nat) (hu:X.A.units+1+n<cLine) (h1:QE X a f) (h2:QE X b g):QT X (.Compare a [.NotEq] [b] pos) (tst (fOp (kTr true n) f g)):=zCg zTO (zQ1 n hu) h1 h2 (zDO _)
theorem zSZ (n:Nat) (hn:n<=8) (hr:Room k A):A.units+1+n<cLine:=by
 have:=hr.units;omega
end
open Builtin
theorem zHR:fillsNumberSlot (.type "tuple") "mul" = pure false :=
 PySem.fillsNumberSlot_seq (id := "tuple.__mul__") (r:=some (.builtin "tuple.__rmul__")) F.slot_tuple_mul.lookup (by decide +kernel) F.slot_tuple_rmul.lookup (by decide +kernel)
theorem zMP:seqRepeat? (.type "tuple")=pure (some (.builtin "tuple.__mul__")):=by
 unfold seqRepeat?;rw[PySem.seqSlot_of (T := "tuple") (name := "__mul__") (id := "tuple.__mul__") F.slot_tuple_mul.lookup (by decide +kernel),PySem.seqSlot_of (T := "tuple") (name := "__rmul__") (id := "tuple.__rmul__") F.slot_tuple_rmul.lookup (by decide +kernel)];rfl
theorem zQq (a:Int) (t:Tok) (l:Addr) (items:Array Value) (n:Nat) (dd:Option Addr) (sl:Array (Option Value)) :
  Meets (Builtin.«int.__rmul__» ⟨[.int a t,.ref l],[]⟩) (fun _ R s=>s.heap.get? l=some { cls:=.type "tuple", dict:=dd,data:=.seq items n,slots:=sl }/\R (.ok (.ret Value.notImplemented)) s) :=
 .of_wp fun prog w A R s h=>by obtain ⟨hp,g,d,tk,os⟩:=s;obtain ⟨hl,h⟩:=h;wp_walk using wpAny_loadPart' hl;exact ⟨_,rfl,h⟩
theorem zKk (l:Addr) (items:Array Value) (n:Nat) (dd:Option Addr) (sl:Array (Option Value)) (u:Tok) :
  Meets (Builtin.«tuple.__mul__» ⟨[.ref l,.int 1 u],[]⟩) (fun _ R s=>s.heap.get? l=some { cls:=.type "tuple", dict:=dd,data:=.seq items n,slots:=sl }/\R (.ok (.ret (.ref l))) s) :=
 .of_wp fun prog w A R s h=>by
  obtain ⟨hp,g,d,tk,os⟩:=s;obtain ⟨hl,h⟩:=h;have f1:=AutoSeq1.idx_int;wp_walk using wpAny_loadPart' hl;exact ⟨_,rfl,h⟩
theorem zKD (l:Addr) (items:Array Value) (n:Nat) (dd:Option Addr) (sl:Array (Option Value)) (x:Int) (u:Tok) (h0:¬ (decide (x < -(2 ^ 63))||decide (x≥2 ^ 63))=true) (h1:¬ (items.isEmpty||x==1)=true) (h2:¬ (decide (x<=0)||items.isEmpty)=true) (h3:¬ (items.size:Int)*x>(2 ^ 63-1) / 8) (h4:¬ Builtin.Tuple.tupleTooMany (items.size*x)=true)
  (hsz:(List.foldl (fun x1 x2=>x1++x2) #[] (List.replicate x.toNat items)).size<=sizeLine) :
  Meets (Builtin.«tuple.__mul__» ⟨[.ref l,.int x u],[]⟩) (fun _ R s=>s.heap.get? l=some { cls:=.type "tuple", dict:=dd,data:=.seq items n,slots:=sl }/\R (.ok (.ret (Value.ref s.heap.objs.size))) { s with heap:=s.heap.push { cls:=Value.type "tuple", data:=Data.seq (List.foldl (fun x1 x2=>x1++x2) #[] (List.replicate x.toNat items)) },toks:=s.toks }) :=
 .of_wp fun prog w A R s h=>by
  obtain ⟨hp,g,d,tk,os⟩:=s;obtain ⟨hl,h⟩:=h;have f1:=AutoSeq1.idx_int;wp_walk using wpAny_loadPart' hl;rw[zWQ h0];wp_walk using wpAny_loadPart' hl;rw[zWQ h3];wp_walk using wpAny_loadPart' hl;all_goals first|exact ⟨_,rfl,h⟩|skip
section
variable {X:Cx} {a b o e e2:Expr} {pos p apos cpos:Pos} {f g:FE}
def zSR (K:PySem.W.Frag):R2:=fun x y H Q=>∃ a k xs,x=.ref a/\y=.int k/\SqT K H a xs/\xs≠[]/\1<=k/\xs.length*k.toNat<=sizeLine /\
 (k=1->Q (.ref a) H)/\(k≠1 -> ∀ p,H p=none->Q (.ref p) (upd H p (.tup (List.replicate k.toNat xs).flatten)))
theorem zRZ:OpR X (binaryOp .Mult) (zSR X.K):=by
 intro zB s σ H x y v u Q I rx ry h;obtain ⟨a,k,xs,rfl,rfl,ha,hx,hk,hz,q1,q2⟩:=h;cases rx;obtain ⟨t,rfl⟩:=ry;obtain ⟨its,r,p1,_⟩:=I.tuple ha;obtain ⟨⟨cls,dd,data,sl⟩,ho,hc,n,hd⟩:=id p1;simp only at hc hd;subst hc hd;have hl:its.toArray.size=xs.length:=by rw[zWG];exact r.length.symm
 have hx0:0<xs.length:=List.length_pos_iff.mpr hx;have hkz:k.toNat<=sizeLine:=zWZ (Nat.le_mul_of_pos_left _ hx0) hz;have hk63:k<2 ^ 63:=by
  have:(sizeLine:Nat)<2 ^ 62:=by decide
  omega
 refine wpAny_binaryOp_repeat_ref (T := "tuple") (U := "int") (by decide) ⟨_,ho,rfl⟩ (fun s'=>typeIs_int s' k t) zHR F.fills_int_mul F.slot_int_rmul zMP F.slot_int_index.lookup
  (call_meets F.slot_int_rmul (typeIs_int s k t) F.entry_int_rmul (F.args_int_rmul_2 _ _) (zQq k t a its.toArray n dd sl)
   ⟨ho,rfl,⟨_,ho,rfl⟩,?_⟩)
 by_cases h1:k=1
 ·subst h1;exact call_meets F.slot_tuple_mul ⟨_,ho,rfl⟩ F.entry_tuple_mul (F.args_tuple_mul_2 _ _) (zKk a its.toArray n dd sl t) ⟨ho,⟨.ref a,H,I,rfl,q1 rfl⟩⟩
 ·have hnew:List.foldl (fun x1 x2=>x1++x2) #[] (List.replicate k.toNat its.toArray)=(List.replicate k.toNat its).flatten.toArray:=by
   have:=zFa its k.toNat [];rw[zYQ]at this;exact this
  have hlr:(List.replicate k.toNat its).flatten.length<=sizeLine:=by
   rw[zJL,<-r.length,Nat.mul_comm];exact hz
  have hem:its.toArray.isEmpty=false:=by
   rw[Array.isEmpty_eq_false_iff];intro z;rw[z]at hl;simp at hl;omega
  have hprod:((its.toArray.size:Int))*k=((xs.length*k.toNat:Nat):Int):=by
   rw[hl];rw[Int.natCast_mul,show ((k.toNat:Nat):Int)=k by omega]
  refine call_meets F.slot_tuple_mul ⟨_,ho,rfl⟩ F.entry_tuple_mul (F.args_tuple_mul_2 _ _) (zKD a its.toArray n dd sl k t ?_ ?_ ?_ ?_ ?_ ?_) ⟨ho,?_⟩
  ·rw[zWh (by omega),zWh (by omega)];decide
  ·rw[hem,Bool.false_or];intro z;exact h1 (eq_of_beq z)
  ·rw[hem,Bool.or_false,zWh (by omega)];decide
  ·rw[hprod];have:(sizeLine:Nat)<=(2 ^ 63-1) / 8:=by decide
   omega
  ·rw[hprod];unfold Builtin.Tuple.tupleTooMany;rw[zWh (by omega)];decide
  ·rw[hnew,zWG];exact hlr
  ·rw[hnew];refine ⟨.ref s.heap.objs.size,_,I.laid (t':=s.toks) (o:=.tup (List.replicate k.toNat xs).flatten) (fun b ob q=>zV9 _ q) (zWE _) ?_,rfl,q2 h1 _ (I.hok.fresh (zWE _))⟩;exact ⟨by rw[zJL,Nat.mul_comm];exact hz,_,r.rep k.toNat,zCH.new _ _⟩
theorem zP.rep (h:zP L H ds vs):∀ k:Nat,zP L H (List.replicate k ds).flatten (List.replicate k vs).flatten
 |0=> .nil
 |k+1=>by
  rw[zXR,zXR,zX7,zX7];exact zP.app h (zP.rep h k)
def zJX:K2:=fun x y M=>match y with
 |.dat (.int k)=>match zBc x with
  |some xs=>if 0<xs.length/\1<=k/\xs.length*k.toNat<=sizeLine then some (.dat (.tup (List.replicate k.toNat xs).flatten),M) else none
  |none=>match zFc M x with
   |some xs=>if -(2 ^ 63)<=k/\k<2 ^ 63/\xs.length*k.toNat<=sizeLine then some (.fl (List.replicate k.toNat xs).flatten,M) else none
   |none=>none
 |_=>none
theorem zRy {K:PySem.W.Frag}:zCV K (fun x y H Q=>zUp x y H Q\/zSR K x y H Q) zJX:=by
 intro L M M' H H0 x y d v w Q c rx ry hk q;unfold zJX at hk;split at hk
 ·rename_i k;have hw:w=.int k:=by unfold zg Rep at ry;exact ry
  subst hw;split at hk
  ·rename_i xs e1;split at hk
   ·rename_i hz;cases hk;obtain ⟨p1,vs,rfl,h1,r1⟩:=zBS rx e1;refine .inr ⟨p1,k,vs,rfl,rfl,.of h1,?_,hz.2.1,by rw[r1.length];exact hz.2.2,fun z=>?_,fun z pp hp=>?_⟩
    ·intro z;have:=r1.length;rw[z]at this;simp at this;omega
    ·subst z;refine q L H _ (.refl L H) c ?_;have:(List.replicate (1:Int).toNat xs).flatten=xs:=by simp
     rw[this];unfold zg Rep;exact ⟨p1,vs,rfl,h1,r1⟩
    ·exact q L _ _ (.upd hp) (c.upd hp) (Rep.newTup hp (r1.rep k.toNat))
   ·cases hk
  ·split at hk
   ·rename_i xs e1;split at hk
    ·rename_i hz;cases hk;obtain ⟨l,vs,rfl,h1,r1⟩:=zL5 c rx e1;refine .inl ⟨l,k,vs,rfl,rfl,h1,hz.1,hz.2.1,by rw[r1.length];exact hz.2.2,fun p hp=>?_⟩;exact q L _ _ (.upd hp) (c.upd hp) (zg.newLst (.refl L H) c c hp (r1.rep k.toNat))
    ·cases hk
   ·cases hk
 ·cases hk
theorem zUe (h1:QE X a f) (h2:QE X b g):QE X (.BinOp a .Mult b pos) (fOp zJX f g):=zKs zRy (zS6.or zRZ) h1 h2
def zIb:KB:=fun xs M=>match xs with
 |[.dat (.int i),.dat (.int j)]=>some (.dat (.int (if j>i then j else i)),M)
 |_=>none
def zFE:KB:=fun xs M=>match xs with
 |[.dat (.int i),.dat (.int j)]=>some (.dat (.int (if j<i then j else i)),M)
 |_=>none
theorem zF3 (r:zCs H0 L H [.dat (.int i),.dat (.int j)] vs):vs=[.int i,.int j]:=by
 unfold zCs at r;obtain ⟨v,r1,rfl,a1,a2⟩:=r;unfold zCs at a2;obtain ⟨v2,r2,rfl,b1,b2⟩:=a2;unfold zCs at b2;subst b2;unfold zg Rep at a1 b1;subst a1 b1;rfl
theorem zPU {K:PySem.W.Frag}:zHi K (fun xs H Q=>∃ i j,xs=[.int i,.int j]/\Q (.int (if j>i then j else i)) H) zIb:=by
 intro L M M' H H0 xs d vs Q c r hk q;unfold zIb at hk;split at hk
 ·rename_i i j;cases hk;exact ⟨i,j,zF3 r,q L H _ (.refl L H) c (zAk (L:=L) (H:=H))⟩
 ·cases hk
theorem zOw {K:PySem.W.Frag}:zHi K (fun xs H Q=>∃ i j,xs=[.int i,.int j]/\Q (.int (if j<i then j else i)) H) zFE:=by
 intro L M M' H H0 xs d vs Q c r hk q;unfold zFE at hk;split at hk
 ·rename_i i j;cases hk;exact ⟨i,j,zF3 r,q L H _ (.refl L H) c (zAk (L:=L) (H:=H))⟩
 ·cases hk
theorem zTy (hcalm:X.calm=true) (hg:Gl X "max") (hm:X.mg "max" = none) (ha:QAE X [e,e2] fa) (he:starEach [e,e2] X.env=(false,eval e X.env)::starEach [e2] X.env:=by rfl) (hpl:(backTo pos (starEach [e2] X.env)).any (·.1)=false:=by rfl):QE X (.Call (.Name "max" p) [e,e2] [] pos) (fB zIb fa) :=
 zE7 zPU (zNf hcalm) (by rfl) hg hm ha (by decide) (by decide) he hpl
theorem zS1 (hcalm:X.calm=true) (hg:Gl X "min") (hm:X.mg "min" = none) (ha:QAE X [e,e2] fa) (he:starEach [e,e2] X.env=(false,eval e X.env)::starEach [e2] X.env:=by rfl) (hpl:(backTo pos (starEach [e2] X.env)).any (·.1)=false:=by rfl):QE X (.Call (.Name "min" p) [e,e2] [] pos) (fB zFE fa) :=
 zE7 zOw (zN1 hcalm) (by rfl) hg hm ha (by decide) (by decide) he hpl
def zEK:KM:=fun x ds M=>match x,ds with
 |.dat (.ref n),[.ref m]=>match M[n]?,M[m]? with
  |some (.lst xs),some (.lst ys)=>if xs.length+ys.length<=sizeLine then some (.non,M.set n (.lst (xs++ys))) else none
  |_,_=>none
 |_,_=>none
theorem zL1 {K:PySem.W.Frag}:zPZ K zNG zEK:=by
 intro L M M' H H0 x ds d v vs Q c rx rd hk q;unfold zEK at hk;split at hk
 ·rename_i n m;split at hk
  ·rename_i xs ys e1 e1';split at hk
   ·rename_i hz;cases hk;unfold zg Rep at rx;obtain ⟨a,rfl,e2⟩:=rx;obtain ⟨ws,e3,r3⟩:=c.obj n a _ e2 e1;obtain ⟨w,rfl,r4⟩:=rd.one;unfold Rep at r4;obtain ⟨b,rfl,e4⟩:=r4;obtain ⟨zs,e5,r5⟩:=c.obj m b _ e4 e1';obtain ⟨c5,s5⟩:=c.write e2 e1 (r3.app r5);exact ⟨a,b,ws,zs,rfl,rfl,e3,e5,by rw[r3.length,r5.length];exact hz,q L _ _ s5 c5 (by unfold Rep;rfl)⟩
   ·cases hk
  ·cases hk
 ·cases hk
theorem zPm (h:QE X a f) (hg:QA X [e] fg) (hbase:attributeBase a "extend" X.env (eval a X.env)=eval a X.env:=by rfl)
  (hfew:((backTo cpos (starEach [e] X.env)).all (fun x=> !x.1)&&(backToKw cpos (keywordEach [] X.env)).all (fun x=>x.1.isSome)&&decide ([e].length+([]:List Keyword).length+(if ([]:List Keyword).isEmpty then 0 else 1)<30))=true:=by rfl)
  (hline:(apos.endLine==cpos.line)=true:=by rfl) (hs:starEach [e] X.env=(false,eval e X.env)::starEach [] X.env:=by rfl) (hplain:(backTo cpos (starEach [] X.env)).any (·.1)=false:=by rfl) :
  QE X (.Call (.Attribute a "extend" apos) [e] [] cpos) (fM zEK f fg) :=
 .mk <| PE.imp (zMn PySem.F.plainAttrs_list PySem.F.slot_list_extend PySem.F.type_list_extend zOU h.un hg.un hbase hfew hline hs hplain) fun _ _ _ z=>zJG zL1 z
end
end L3
namespace HT
open PySem PySem.Spec PyProof.Rows
end HT
namespace L3
open PySem PySem.Spec PyProof.Rows L2
section
variable {X:Cx} {a b o e e2 st:Expr} {pos p p2 apos cpos:Pos} {f g:FE} {te:TE} {ts:TO}
theorem zOC:MtM X "list.index" (fun x vs H Q=>∃ (l:Addr) (i:Int) (xs:List Int),x=.ref l/\vs=[.int i]/\H l=some (.lst (xs.map V.int))/\xs.length<=90000/\i∈xs/\Q (.int (xs.idxOf i)) H):=by
 intro zB s σ H x xs v us Q I rx rv z;obtain ⟨p,i,ns,rfl,rfl,hp,hz,hi,q⟩:=z;cases rx;obtain ⟨u,rfl,ru⟩:=rv.one;obtain ⟨t,rfl⟩:=ru;obtain ⟨z,its,n,r,hl,ee⟩:=I.lstM hp;have hia:=zMB r;have hlen:=hia.length;have hj:ns.idxOf i<ns.length:=List.idxOf_lt_length_iff.mpr hi
 refine call_meets PySem.F.slot_list_index ⟨_,ee,rfl⟩ PySem.F.entry_list_index (PySem.F.args_list_index_2 _ _)
  (PySem.SeqAt.list_indexAt p its.toArray n none #[] (.int i t) (isInt i) (ns.idxOf i) (by simpa [hlen] using hj) (by omega) ?_ ?_) ⟨ee,fun y hy=>(eq_isInt i t hia y (by simpa using hy)).at _ _,⟨.int (ns.idxOf i),H,I.tok _,⟨_,rfl⟩,q⟩⟩
 ·show isInt i its[ns.idxOf i]=true;rw[isInt_at i hia _ (by omega) hj];simpa using List.getElem_idxOf hj
 ·intro j hjs hlt;show isInt i its[j]=false;rw[isInt_at i hia j (by simpa using hjs) (by omega)];exact ne_of_lt_idxOf hlt _
def zET:KM:=fun x ds M=>match x,ds with
 |.dat (.ref n),[.int i]=>match M[n]? with
  |some (.lst ds)=>match zAp ds with
   |some xs=>if i∈xs/\xs.length<=90000 then some (.int (xs.idxOf i),M) else none
   |none=>none
  |_=>none
 |_,_=>none
theorem zLh {K:PySem.W.Frag}:zPZ K (fun x vs H Q=>∃ (l:Addr) (i:Int) (xs:List Int),x=.ref l/\vs=[.int i]/\H l=some (.lst (xs.map V.int))/\xs.length<=90000/\i∈xs/\Q (.int (xs.idxOf i)) H) zET:=by
 intro L M M' H H0 x ds d v vs Q c rx rd hk q;unfold zET at hk;split at hk
 ·rename_i n i;split at hk
  ·rename_i ds e1;split at hk
   ·rename_i xs e2;split at hk
    ·rename_i hi;cases hk;unfold zg Rep at rx;obtain ⟨a,rfl,e4⟩:=rx;obtain ⟨ws,e5,r5⟩:=c.obj n a _ e4 e1;have ev:=zCf e2 r5;subst ev;exact ⟨a,i,xs,rfl,zEO rd,e5,hi.2,hi.1,q L H _ (.refl L H) c (by unfold Rep;rfl)⟩
    ·cases hk
   ·cases hk
  ·cases hk
 ·cases hk
theorem zQT (h:QE X a f) (hg:QA X [e] fg) (hbase:attributeBase a "index" X.env (eval a X.env)=eval a X.env:=by rfl)
  (hfew:((backTo cpos (starEach [e] X.env)).all (fun x=> !x.1)&&(backToKw cpos (keywordEach [] X.env)).all (fun x=>x.1.isSome)&&decide ([e].length+([]:List Keyword).length+(if ([]:List Keyword).isEmpty then 0 else 1)<30))=true:=by rfl)
  (hline:(apos.endLine==cpos.line)=true:=by rfl) (hs:starEach [e] X.env=(false,eval e X.env)::starEach [] X.env:=by rfl) (hplain:(backTo cpos (starEach [] X.env)).any (·.1)=false:=by rfl) :
  QE X (.Call (.Attribute a "index" apos) [e] [] cpos) (fM zET f fg) :=
 .mk <| PE.imp (zMn PySem.F.plainAttrs_list PySem.F.slot_list_index PySem.F.type_list_index zOC h.un hg.un hbase hfew hline hs hplain) fun _ _ _ z=>zJG zLh z
end
section
variable {X:Cx} {a b a2 b2 o e e2:Expr} {pos p apos cpos:Pos}
def zIt (k1:Str) (fv:FE) (k2:Str) (fw:FE):FE:=fun σ M=>match toD fv σ (M++[.dict []]) with
 |some (v,M1)=>match toD fw σ M1 with
  |some (w,M2)=>match M2[M.length]? with
   |some (.dict [])=>if k1=k2 then none else some (.dat (.ref M.length),M2.set M.length (.dict [(.str k1,v),(.str k2,w)]))
   |_=>none
  |none=>none
 |none=>none
theorem zRK (h1:QE X a (fC (.str k1))) (h2:QE X b fv) (h3:QE X a2 (fC (.str k2))) (h4:QE X b2 fw):QE X (.Dict [some a,some a2] [b,b2] pos) (zIt k1 fv k2 fw):=.mk <| PE.imp (zRW (zLF (zBn h1).un (zBn h2).un (zLF (zBn h3).un (zBn h4).un zRs)) rfl rfl (by simp) (by simp)) fun τ H Q ⟨L,σ,M,d,M',c,rs,hf,q⟩ p hp=>by
 unfold zIt at hf;split at hf
 ·rename_i v M1 e2;split at hf
  ·rename_i w M2 e4;split at hf
   ·rename_i e5;split at hf
    ·cases hf
    ·rename_i hne;cases hf;obtain ⟨c0,s0⟩:=c.pushO (m:=.dict []) (o:=.dK []) hp ⟨[],zAK,rfl⟩;refine ⟨L++[p],σ,_,_,_,c0,rs.stp s0,(rfl:toD (fC (.str k1)) σ (M++[.dict []])=some (.str k1,_)),fun L1 H1 x st1 c1 r1=>⟨L1,σ,_,_,_,c1,(rs.stp s0).stp st1,e2,fun L2 H2 y st2 c2 r2=>?_⟩⟩;refine ⟨L2,σ,_,_,_,c2,((rs.stp s0).stp st1).stp st2,(rfl:toD (fC (.str k2)) σ M1=some (.str k2,_)),fun L3 H3 x' st3 c3 r3=>⟨L3,σ,_,_,_,c3,(((rs.stp s0).stp st1).stp st2).stp st3,e4,fun L4 H4 y' st4 c4 r4=>?_⟩⟩;have st:=(((s0.trans st1).trans st2).trans st3).trans st4;have hx:x=.str k1:=by unfold Rep at r1;exact r1
     have hx':x'=.str k2:=by unfold Rep at r3;exact r3
     have lp:L4[M.length]?=some p:=by
      obtain ⟨N,hN⟩:=((st1.trans st2).trans st3).trans st4 |>.pre;rw[hN,<-c.len];simp
     obtain ⟨vs,ev,dv⟩:=c4.obj _ p _ lp e5;unfold zAz at dv;subst dv;have hm:zEi [] [((Sum.inr k1:Key),y),(Sum.inr k2,y')]=[((Sum.inr k1:Key),y),(Sum.inr k2,y')]:=by
      unfold zEi zCT;have h12:¬ ((Sum.inr k1:Key)=Sum.inr k2):=fun z=>hne (Sum.inr.inj z);simp[h12]
     refine ⟨ev,[(Sum.inr k1,y),(Sum.inr k2,y')],by rw[hx,hx'];rfl,by simp,?_⟩;rw[hm];obtain ⟨c5,s5⟩:=c4.put (m:=.dict [(.str k1,v),(.str k2,w)]) (o':=.dK [(Sum.inr k1,y),(Sum.inr k2,y')]) lp ev (fun _ z=>by cases z) (fun _ _ z=>by cases z) fun s5=>⟨_,zAK,_,y,[(Sum.inr k2,y')],rfl,rfl,(r2.stp (st3.trans st4)).stp s5,_,y',[],rfl,rfl,r4.stp s5,rfl⟩;refine q _ _ _ (st.trans s5) c5 ?_;unfold zg Rep;exact ⟨p,rfl,lp⟩
   ·cases hf
  ·cases hf
 ·cases hf
end
section
variable {X:Cx} {e tg:Expr} {pos:Pos}
def zLa (fg:FG) (f:FE):FS:=fun σ M=>match toD f σ M with
 |some (d,M1)=>match fg d σ with
  |some σ1=>some (.nx,σ1,M1)
  |none=>none
 |none=>none
theorem zU2 (hk:GOk g fg) (h:QE X e f) (hg:PG X tg g) (hs:swapsWithSole [tg] e pos.line X.env=pure false:=by rfl) (hw:swappedStores [tg] e X.env=pure none:=by rfl)
  (h1:(assignEach [tg] X.env).map (·.2)=[assign tg X.env]:=by rfl):QS X (.Assign [tg] e pos) (zLa fg f) :=
 .mk <| PS.imp (zPe h.un hg hs hw h1) fun E τ H zz=>by
  obtain ⟨L,σ,M,o,σ',M',c,rs,hf,q⟩:=zz;unfold zLa at hf;split at hf
  ·rename_i d M1 e1;split at hf
   ·rename_i σ1 e2;cases hf;refine zK3 ⟨L,σ,M,_,_,c,rs,e1,fun L1 H1 v s1 c1 r1=>?_⟩;exact hk (rs.stp s1) r1 e2 fun τ' rs'=>q L1 H1 s1 c1 τ' rs'
   ·cases hf
  ·cases hf
variable {σ:Sd} {M:Mem} {P:Out->Sd->Mem->Prop} {fg:FG} {f:FE}
theorem zGQ:OkS (zLa fg f σ M) P ↔ Ok (f σ M) (zGA fun d M1=>∃ σ1,fg d σ=some σ1/\P .nx σ1 M1):=by
 rw[<-zAU];unfold zLa;constructor
 ·rintro ⟨o,σ',M',e,p⟩;split at e
  ·rename_i d M1 e1;split at e
   ·rename_i σ1 e2;cases e;exact ⟨d,_,e1,_,e2,p⟩
   ·cases e
  ·cases e
 ·rintro ⟨d,M1,e1,σ1,e2,p⟩;refine ⟨.nx,σ1,M1,?_,p⟩;rw[e1];dsimp only;rw[e2]
end
def SI (b:Bool) (h:Heap) (it t:Addr) (k:Nat):Prop:=if b then h.IsTupleIter it t k else h.IsListIter it t k
def SO (b:Bool) (h:Heap) (t:Addr) (xs:Array Value):Prop:=if b then h.IsTuple t xs else h.IsList t xs
abbrev itO (b:Bool) (t:Addr):Obj:={ cls:=.type (if b then "tuple_iterator" else "list_iterator"),data:=.fields #[.ref t,.int 0 0] }
theorem SI.keep (x:SI b h it t k) (e:∀ o,h.get? it=some o->h'.get? it=some o):SI b h' it t k:=by
 cases b with
 |true=>obtain ⟨o,q,r⟩:=(show h.IsTupleIter it t k from x);exact (show h'.IsTupleIter it t k from ⟨o,e o q,r⟩)
 |false=>obtain ⟨o,q,r⟩:=(show h.IsListIter it t k from x);exact (show h'.IsListIter it t k from ⟨o,e o q,r⟩)
theorem SO.keep (x:SO b h t xs) (e:∀ o,h.get? t=some o->h'.get? t=some o):SO b h' t xs:=by
 cases b with
 |true=>obtain ⟨o,q,r⟩:=(show h.IsTuple t xs from x);exact (show h'.IsTuple t xs from ⟨o,e o q,r⟩)
 |false=>obtain ⟨o,q,r⟩:=(show h.IsList t xs from x);exact (show h'.IsList t xs from ⟨o,e o q,r⟩)
theorem SI.but (x:SI b h a t i) (hs:Heap.ExtBut c h h') (n:a≠c):SI b h' a t i:=x.keep fun o e=>hs a o n e
theorem SO.but (x:SO b h a its) (hs:Heap.ExtBut c h h') (n:a≠c):SO b h' a its:=x.keep fun o e=>hs a o n e
theorem SI.obj (x:SI b h it t k):∃ o,h.get? it=some o /\ ∀ v,o.data≠.cell v:=by
 cases b with
 |true=>obtain ⟨o,q,_,r⟩:=(show h.IsTupleIter it t k from x);exact ⟨o,q,fun v m=>by rw[r]at m;cases m⟩
 |false=>obtain ⟨o,q,_,r⟩:=(show h.IsListIter it t k from x);exact ⟨o,q,fun v m=>by rw[r]at m;cases m⟩
section
variable {prog:Program} {w:World} {A:Around} {E:Value->Shared->Prop} {s:Shared}
theorem zEv (I:SI b s.heap it t i) (T:SO b s.heap t its) (hx:its[i]?=some x)
  (q:∀ h',SI b h' it t (i+1)->Heap.SameBut it s.heap h'->Q x { s with heap:=h' }):wpAny (model prog w) A (Builtin.SmallTypes.nextOf (.ref it)) Q E s:=by
 cases b with
 |true=>exact zHT (show s.heap.IsTupleIter it t i from I) (show s.heap.IsTuple t its from T) hx q
 |false=>exact wpAny_nextOf_list_item (show s.heap.IsListIter it t i from I) (show s.heap.IsList t its from T) hx q
theorem zIa (hh:A.handled=none) (I:SI b s.heap it t i) (T:SO b s.heap t its) (hx:its[i]?=none)
  (q:∀ h' e,Heap.ExtBut it s.heap h'->(∃ o,h'.get? e=some o/\o.cls=.type "StopIteration")->E (.ref e) { s with heap:=h' }):wpAny (model prog w) A (Builtin.SmallTypes.nextOf (.ref it)) Q E s:=by
 cases b with
 |true=>exact zFk hh (show s.heap.IsTupleIter it t i from I) (show s.heap.IsTuple t its from T) hx q
 |false=>exact wpAny_nextOf_list_end hh (show s.heap.IsListIter it t i from I) (show s.heap.IsList t its from T) hx q
theorem zM0 (hl:SO b s.heap l items) (hQ:Q (.ref s.heap.objs.size) { s with heap:=s.heap.push (itO b l) }):wpAny (model prog w) A (pyIter (.ref l)) Q E s:=by
 cases b with
 |true=>exact wpAny_pyIter_tuple (show s.heap.IsTuple l items from hl) hQ
 |false=>exact wpAny_pyIter_list (show s.heap.IsList l items from hl) hQ
structure ZipG (b1 b2:Bool) (h:Heap) (z TI TO i1 i2 t1 t2:Addr) (f:Value) (k1 k2:Nat):Prop where
 z:IsZip h z TI TO f
 ti:IsPair h TI (.ref i1) (.ref i2)
 to:∃ a b,IsPair h TO a b
 a:SI b1 h i1 t1 k1
 b:SI b2 h i2 t2 k2
theorem zNY {b1 b2:Bool} {z TI TO i1 i2 t1 t2:Addr} {k:Nat} {xs ys:Array Value} {x y:Value} {Q:Option Value->Shared->Prop} (D:ZipApart z TI TO i1 i2 t1 t2) (Z:ZipG b1 b2 s.heap z TI TO i1 i2 t1 t2 .none k k)
  (T1:SO b1 s.heap t1 xs) (T2:SO b2 s.heap t2 ys) (hx:xs[k]?=some x) (hy:ys[k]?=some y)
  (q:∀ h',ZipG b1 b2 h' z TI TO i1 i2 t1 t2 (rawInt s.heap.objs.size) (k+1) (k+1)->IsPair h' s.heap.objs.size x y ->
   (∀ c o,c∉[z,TO,i1,i2]->s.heap.get? c=some o->h'.get? c=some o)->Q (some (.ref s.heap.objs.size)) { s with heap:=h' }):wpAny (model prog w) A (pyNext (.ref z)) Q E s:=by
 obtain ⟨Z0,P0,⟨a,b,O0⟩,I1,I2⟩:=Z;have ty:s.TypeIs (.ref z) "zip" := ⟨_,Z0,rfl⟩;unfold pyNext;refine zV8 (wpAny_attempt (zWk (name:=Str.ofString "__next__") ty PySem.F.slot_zip_next (zWl PySem.F.slot_zip_next ty PySem.F.entry_zip_next ?_ (PySem.F.args_zip_next_1 _))));refine zV8 (m:=field (.ref z) 2) (zWn Z0 rfl (x:=.bool false) rfl ?_);refine zV8 (m:=field (.ref z) 3) (zWn Z0 rfl (x:=.ref TI) rfl ?_);refine zV8 (zWy P0 rfl ?_);refine zV8 (m:=Builtin.SmallTypes.ownedTupleIsFree (.ref z)) ?_;unfold Builtin.SmallTypes.ownedTupleIsFree;refine zV8 (zWn Z0 rfl (x:=.none) rfl (zWA ?_));simp only[if_true];refine zV8 (zXV (zV8 (zWn Z0 rfl (x:=.ref TO) rfl (zV8 (wpAny_setField_rec Z0 (by simp) fun h1 Z1 e1=>?_)))));replace Z1:IsZip h1 z TI TO .ellipsis:=Z1;refine zV8 ?_;simp only[List.forIn_cons,List.forIn_nil,List.zipIdx_cons,List.zipIdx_nil];refine zV8 (zV8 (wpAny_onRaise (zV8 (m:=Builtin.SmallTypes.nextOf (.ref i1)) (zEv (SI.but I1 e1.extBut D.i1z) (SO.but T1 e1.extBut D.l1z) hx fun h2 J1 e2=>zWA ?_))));have O2:IsPair h2 TO a b:=e2.extBut _ _ D.TOi1 (e1.extBut _ _ D.TOz O0);refine zV8 (zWy O2 rfl (zV8 (wpAny_updateSeq_pair O2 fun h3 O3 e3=>zV8 (wpAny_letGo (zWA ?_)))));replace O3:IsPair h3 TO x b:=O3
 refine zV8 (zV8 (wpAny_onRaise (zV8 (m:=Builtin.SmallTypes.nextOf (.ref i2)) (zEv (SI.but (SI.but (SI.but I2 e1.extBut D.i2z) e2.extBut D.i12.symm) e3.extBut D.TOi2.symm)
  (SO.but (SO.but (SO.but T2 e1.extBut D.l2z) e2.extBut D.l2i1) e3.extBut D.l2TO) hy fun h4 J2 e4=>zWA ?_))))
 have O4:IsPair h4 TO x b:=e4.extBut _ _ D.TOi2 O3;refine zV8 (zWy O4 rfl (zV8 (wpAny_updateSeq_pair O4 fun h5 O5 e5=>zV8 (wpAny_letGo (zWA (zWA ?_))))));replace O5:IsPair h5 TO x y:=O5;refine zV8 (zWy O5 rfl (zV8 (wpAny_newTuple ?_)));have sz:h5.objs.size=s.heap.objs.size:=by rw[e5.1,e4.1,e3.1,e2.1,e1.1]
 have Z5:IsZip h5 z TI TO .ellipsis:=e5.extBut _ _ D.TOz.symm (e4.extBut _ _ D.i2z.symm (e3.extBut _ _ D.TOz.symm (e2.extBut _ _ D.i1z.symm Z1)));have kp:∀ c o,c∉[z,TO,i1,i2]->s.heap.get? c=some o->h5.get? c=some o:=fun c o n e=>by
  simp only[zWK,zWd,zXT,not_or]at n;obtain ⟨n1,n2,n3,n4⟩:=n;exact e5.extBut _ _ n2 (e4.extBut _ _ n4 (e3.extBut _ _ n2 (e2.extBut _ _ n3 (e1.extBut _ _ n1 e))))
 have A5:SI b1 h5 i1 t1 (k+1):=SI.but (SI.but (SI.but J1 e3.extBut D.TOi1.symm) e4.extBut D.i12) e5.extBut D.TOi1.symm;have B5:SI b2 h5 i2 t2 (k+1):=SI.but J2 e5.extBut D.TOi2.symm;have zl:z<h5.objs.size:=zWJ Z5;refine zV8 (m:=Builtin.SmallTypes.ownedTupleHandOut (.ref z) (.ref h5.objs.size)) ?_;unfold Builtin.SmallTypes.ownedTupleHandOut;have Z6:IsZip (h5.push { cls:=.type "tuple", data:=.seq #[x,y] }) z TI TO .ellipsis:=zV9 _ Z5;refine zV8 (wpAny_setField_rec Z6 (by simp) fun h7 Z7 e7=>?_);replace Z7:IsZip h7 z TI TO (rawInt h5.objs.size):=Z7;refine wpAny_setField_rec Z7 (by simp) fun h8 Z8 e8=>?_;replace Z8:IsZip h8 z TI TO (rawInt h5.objs.size):=Z8;have up:∀ c o,c≠z->h5.get? c=some o->h8.get? c=some o:=fun c o n e=>e8.extBut _ _ n (e7.extBut _ _ n (zV9 _ e));have N8:IsPair h8 h5.objs.size x y:=e8.extBut _ _ (zXd zl) (e7.extBut _ _ (zXd zl) (zWI _ rfl));rw[sz]at Z8 N8;refine zWA ⟨_,rfl,?_⟩;rw[sz];refine zWA (q h8 ⟨Z8,up _ _ D.TIz (kp _ _ (by simp[D.TIz,D.TITO,D.TIi1,D.TIi2]) P0),⟨_,_,up _ _ D.TOz O5⟩,?_,?_⟩ N8 fun c o n e=>up c o (fun m=>n (by simp[m])) (kp c o n e))
 ·exact A5.keep fun o e=>up _ o D.i1z e
 ·exact B5.keep fun o e=>up _ o D.i2z e
theorem zO8 {b1 b2:Bool} {z TI TO i1 i2 t1 t2:Addr} {k:Nat} {xs ys:Array Value} {Q:Option Value->Shared->Prop} (hh:A.handled=none) (D:ZipApart z TI TO i1 i2 t1 t2) (Z:ZipG b1 b2 s.heap z TI TO i1 i2 t1 t2 .none k k)
  (T1:SO b1 s.heap t1 xs) (T2:SO b2 s.heap t2 ys) (he:xs[k]?=none\/ys[k]?=none)
  (q:∀ h',(∀ c o,c∉[z,TO,i1,i2]->s.heap.get? c=some o->h'.get? c=some o)->Q none { s with heap:=h' }):wpAny (model prog w) A (pyNext (.ref z)) Q E s:=by
 obtain ⟨Z0,P0,⟨a,b,O0⟩,I1,I2⟩:=Z;have ty:s.TypeIs (.ref z) "zip" := ⟨_,Z0,rfl⟩
 have stop:∀ (e:Addr) (h':Heap),(∀ c o,c∉[z,TO,i1,i2]->s.heap.get? c=some o->h'.get? c=some o)->(∃ o,h'.get? e=some o/\o.cls=.type "StopIteration") ->
   wpAny (model prog w) A (do if (<- isInstance (.ref e) (.type "StopIteration")) then pure none else throw (.ref e):Sem (Option Value)) Q E { s with heap:=h' }:=fun e h' k1 ⟨o,e1,e2⟩=>
  zV8 (wpAny_isInstance (T := "StopIteration") (b:=true) ⟨o,e1,e2⟩ isSubtype_stop (zWA (q h' k1)))
 unfold pyNext;refine zV8 (wpAny_attempt (zWk (name:=Str.ofString "__next__") ty PySem.F.slot_zip_next (zWl PySem.F.slot_zip_next ty PySem.F.entry_zip_next ?_ (PySem.F.args_zip_next_1 _))));refine zV8 (m:=field (.ref z) 2) (zWn Z0 rfl (x:=.bool false) rfl ?_);refine zV8 (m:=field (.ref z) 3) (zWn Z0 rfl (x:=.ref TI) rfl ?_);refine zV8 (zWy P0 rfl ?_);refine zV8 (m:=Builtin.SmallTypes.ownedTupleIsFree (.ref z)) ?_;unfold Builtin.SmallTypes.ownedTupleIsFree;refine zV8 (zWn Z0 rfl (x:=.none) rfl (zWA ?_));simp only[if_true];refine zV8 (zXV (zV8 (zWn Z0 rfl (x:=.ref TO) rfl (zV8 (wpAny_setField_rec Z0 (by simp) fun h1 Z1 e1=>?_)))));replace Z1:IsZip h1 z TI TO .ellipsis:=Z1;refine zV8 ?_;simp only[List.forIn_cons,List.forIn_nil,List.zipIdx_cons,List.zipIdx_nil];cases hx:xs[k]? with
 |none=>
  refine zV8 (zV8 (wpAny_onRaise (zV8 (m:=Builtin.SmallTypes.nextOf (.ref i1)) (zIa hh (SI.but I1 e1.extBut D.i1z) (SO.but T1 e1.extBut D.l1z) hx fun h2 e e2 he=>?_))));obtain ⟨oe,o1,o2⟩:=he;have Z2:IsZip h2 z TI TO .ellipsis:=e2 _ _ D.i1z.symm Z1;have ne:e≠z:=fun m=>by subst m;rw[Z2]at o1;cases o1;simp at o2
  refine wpAny_setField_rec Z2 (by simp) fun h3 _ e3=>stop e h3 (fun c o n x=>?_) ⟨oe,e3.extBut _ _ ne o1,o2⟩;simp only[zWK,zWd,zXT,not_or]at n;exact e3.extBut _ _ n.1 (e2 _ _ n.2.2.1 (e1.extBut _ _ n.1 x))
 |some x=>
  have hy:ys[k]?=none:=by
   rcases he with m|m
   ·rw[hx]at m;cases m
   ·exact m
  refine zV8 (zV8 (wpAny_onRaise (zV8 (m:=Builtin.SmallTypes.nextOf (.ref i1)) (zEv (SI.but I1 e1.extBut D.i1z) (SO.but T1 e1.extBut D.l1z) hx fun h2 J1 e2=>zWA ?_))));have O2:IsPair h2 TO a b:=e2.extBut _ _ D.TOi1 (e1.extBut _ _ D.TOz O0);refine zV8 (zWy O2 rfl (zV8 (wpAny_updateSeq_pair O2 fun h3 O3 e3=>zV8 (wpAny_letGo (zWA ?_)))))
  refine zV8 (zV8 (wpAny_onRaise (zV8 (m:=Builtin.SmallTypes.nextOf (.ref i2)) (zIa hh (SI.but (SI.but (SI.but I2 e1.extBut D.i2z) e2.extBut D.i12.symm) e3.extBut D.TOi2.symm)
   (SO.but (SO.but (SO.but T2 e1.extBut D.l2z) e2.extBut D.l2i1) e3.extBut D.l2TO) hy fun h4 e e4 he=>?_))))
  obtain ⟨oe,o1,o2⟩:=he;have Z4:IsZip h4 z TI TO .ellipsis:=e4 _ _ D.i2z.symm (e3.extBut _ _ D.TOz.symm (e2.extBut _ _ D.i1z.symm Z1));have ne:e≠z:=fun m=>by subst m;rw[Z4]at o1;cases o1;simp at o2
  refine wpAny_setField_rec Z4 (by simp) fun h5 _ e5=>stop e h5 (fun c o n x=>?_) ⟨oe,e5.extBut _ _ ne o1,o2⟩;simp only[zWK,zWd,zXT,not_or]at n;exact e5.extBut _ _ n.1 (e4 _ _ n.2.2.2 (e3.extBut _ _ n.2.1 (e2.extBut _ _ n.2.2.1 (e1.extBut _ _ n.1 x))))
theorem zQD (e:h.get? it=some (itO b t)):SI b h it t 0:=by
 cases b with
 |true=>exact (show h.IsTupleIter it t 0 from ⟨_,e,rfl,rfl⟩)
 |false=>exact (show h.IsListIter it t 0 from ⟨_,e,rfl,rfl⟩)
abbrev zG1 (b1:Bool) (h:Heap) (a:Addr):Heap:=h.push (itO b1 a)
abbrev zG2 (b1 b2:Bool) (h:Heap) (a b:Addr):Heap:=zG1 b2 (zG1 b1 h a) b
abbrev zG3 (b1 b2:Bool) (h:Heap) (a b:Addr):Heap:=(zG2 b1 b2 h a b).push { cls:=.type "tuple", data:=.seq #[.ref h.objs.size,.ref (zG1 b1 h a).objs.size] }
abbrev zG4 (b1 b2:Bool) (h:Heap) (a b:Addr):Heap:=(zG3 b1 b2 h a b).push { cls:=.type "tuple", data:=.seq #[.none,.none] }
abbrev zG5 (b1 b2:Bool) (h:Heap) (a b:Addr):Heap:=(zG4 b1 b2 h a b).push { cls:=.type "zip", data:=.fields #[.none,.bool false,.bool false,.ref (zG2 b1 b2 h a b).objs.size,.ref (zG3 b1 b2 h a b).objs.size] }
theorem zLx (b1 b2:Bool) (a b:Addr) (xs ys:Array Value):Meets (Builtin.«zip.__new__» ⟨[.type "zip", .ref a,.ref b],[]⟩) (fun _ R s=>SO b1 s.heap a xs/\SO b2 s.heap b ys/\R (.ok (.ret (.ref (zG4 b1 b2 s.heap a b).objs.size))) { s with heap:=zG5 b1 b2 s.heap a b }) :=
 .of_wp fun prog w A R s h=>by
  obtain ⟨hp,g,d,tk,os⟩:=s;obtain ⟨Ta,Tb,h⟩:=h;have sz:=sub_zip;have U1:SO b1 (Shared.heap ⟨hp,g,d,tk,os⟩) a xs:=Ta;have U2:SO b2 (Shared.heap ⟨hp.push (itO b1 a),g,d,tk,os⟩) b ys:=Tb.keep fun o e=>zV9 _ e;wp_walk using zM0 U1,zM0 U2;exact ⟨_,rfl,h⟩
theorem zPW (Ta:SO b1 s.heap a xs) (Tb:SO b2 s.heap b ys)
  (h:∀ h',ZipG b1 b2 h' (s.heap.objs.size+4) (s.heap.objs.size+2) (s.heap.objs.size+3) s.heap.objs.size (s.heap.objs.size+1) a b .none 0 0->(∀ c o,s.heap.get? c=some o->h'.get? c=some o)->Q (.ref (s.heap.objs.size+4)) { s with heap:=h' }) :
  wpAny (model prog w) A (call (.type "zip") [.ref a,.ref b]) Q E s:=by
 refine callType_new PySem.F.called_zip (by decide) (PySem.F.typeCall_zip_2 _ _) (PySem.F.newCall_zip_2 _ _) (fun obj=>PySem.F.args_object_init_3 obj _ _) PySem.F.entry_zip_new (zLx b1 b2 a b xs ys) ⟨Ta,Tb,?_⟩;have q1:(zG1 b1 s.heap a).objs.size=s.heap.objs.size+1:=zWo ..;have q2:(zG2 b1 b2 s.heap a b).objs.size=s.heap.objs.size+2:=by rw[zWo,q1]
 have q3:(zG3 b1 b2 s.heap a b).objs.size=s.heap.objs.size+3:=by rw[zWo,q2]
 have q4:(zG4 b1 b2 s.heap a b).objs.size=s.heap.objs.size+4:=by rw[zWo,q3]
 have u:∀ {h:Heap} {c:Addr} {o p:Obj},h.get? c=some o->(h.push p).get? c=some o:=fun e=>zV9 _ e;have p5:(zG5 b1 b2 s.heap a b).get? (zG4 b1 b2 s.heap a b).objs.size=some _:=zWI _ rfl;have p4:(zG5 b1 b2 s.heap a b).get? (zG3 b1 b2 s.heap a b).objs.size=some _:=u (zWI _ rfl);have p3:(zG5 b1 b2 s.heap a b).get? (zG2 b1 b2 s.heap a b).objs.size=some _:=u (u (zWI _ rfl));have p2:(zG5 b1 b2 s.heap a b).get? (zG1 b1 s.heap a).objs.size=some _:=u (u (u (zWI _ rfl)));have p1:(zG5 b1 b2 s.heap a b).get? s.heap.objs.size=some _:=u (u (u (u (zWI _ rfl))));rw[q2,q3,q4]at p5;rw[q1,q2]at p3;rw[q3]at p4;rw[q1]at p2;rw[q4];exact ⟨⟨_,p5,rfl⟩,h _ ⟨p5,p3,⟨_,_,p4⟩,zQD p1,zQD p2⟩ fun c o x=>u (u (u (u (u x))))⟩
end
def SqG (K:PySem.W.Frag) (b:Bool) (H:Hp) (a:Addr) (xs:List V):Prop:=if b then SqT K H a xs else SqL K H a xs
theorem zEx (I:Inv X zB σ H s) (h:SqG X.K b H a xs):∃ its,ze xs its/\SO b s.heap a its.toArray:=by
 cases b with
 |true=>obtain ⟨its,rv,p1,_⟩:=I.tuple h;exact ⟨its,rv,p1⟩
 |false=>obtain ⟨its,rv,p1,_⟩:=I.list h;exact ⟨its,rv,p1.isList⟩
theorem zMm (I:Inv X zB σ H s) (h:SqG X.K b H a xs) (h':SqG X.K b H a ys):xs=ys:=by
 cases b with
 |true=>exact I.tuple_inj h h'
 |false=>exact I.list_inj h h'
theorem zTo (x:SO b h a its):a<h.objs.size:=by
 cases b with
 |true=>obtain ⟨_,e,_⟩:=(show h.IsTuple a its from x);exact zWJ e
 |false=>obtain ⟨_,e,_⟩:=(show h.IsList a its from x);exact zWJ e
def zUz (K:PySem.W.Frag) (b1 b2:Bool) (a b:Addr):It :=
 ⟨fun i H=>∃ xs ys x y,SqG K b1 H a xs/\SqG K b2 H b ys/\xs[i]?=some x/\ys[i]?=some y,
  fun i H v H'=>∃ T x y,v=.ref T/\H T=none/\H'=upd H T (.tup [x,y])/\(∀ xs,SqG K b1 H a xs->xs[i]?=some x) /\ ∀ ys,SqG K b2 H b ys->ys[i]?=some y,
  fun i H=>∃ xs ys,SqG K b1 H a xs/\SqG K b2 H b ys/\(xs.length<=i\/ys.length<=i)⟩
theorem zNR {b1 b2:Bool} {P:Program} {w:World} {K:PySem.W.Frag} {es:List Expr} {ek:Nat} {ep:Pos} {z TI TO i1 i2 a b:Addr} (D:ZipApart z TI TO i1 i2 a b) :
  Turn P w K (.Tuple es ek ep) (zUz K b1 b2 a b) [z,TI,TO,i1,i2] z (fun i h=>ZipG b1 b2 h z TI TO i1 i2 a b .none i i) where
 mem:=by simp
 obj:=fun i h Z c hc=>by
  obtain ⟨Z0,P0,⟨x,y,O0⟩,S1,S2⟩:=Z;obtain ⟨o1,e1,d1⟩:=S1.obj;obtain ⟨o2,e2,d2⟩:=S2.obj;simp only[zWK,zWd,zXT]at hc;rcases hc with rfl|rfl|rfl|rfl|rfl
  ·exact ⟨_,Z0,fun v m=>by cases m⟩
  ·exact ⟨_,P0,fun v m=>by cases m⟩
  ·exact ⟨_,O0,fun v m=>by cases m⟩
  ·exact ⟨_,e1,d1⟩
  ·exact ⟨_,e2,d2⟩
 keep:=fun i h h' Z k=>by
  obtain ⟨Z0,P0,⟨x,y,O0⟩,S1,S2⟩:=Z;exact ⟨k z (by simp) _ Z0,k TI (by simp) _ P0,⟨x,y,k TO (by simp) _ O0⟩,S1.keep fun o e=>k i1 (by simp) o e,S2.keep fun o e=>k i2 (by simp) o e⟩
 item:=by
  intro X hP hw hK hc i zB s σ H E I hf Z hg;subst hP hw hK;obtain ⟨xs,ys,x,y,sa,sb,hx,hy⟩:=hg;obtain ⟨its,rv,p1⟩:=zEx I sa;obtain ⟨its2,rv2,p2⟩:=zEx I sb;obtain ⟨u,hu,ru⟩:=rv.get hx;obtain ⟨u2,hu2,ru2⟩:=rv2.get hy;refine zNY D Z p1 p2 (x:=u) (y:=u2) (by simpa using hu) (by simpa using hu2) fun h' Z' N' kp=>⟨_,rfl,?_⟩;refine wpAny_letOwnedTupleGo_zip Z'.z fun h2 Z2 e2=>?_;have hch:∀ c∈[z,TO,i1,i2],zCL X zB H c:=fun c hm=>hf c (by
   simp only[zWK,zWd,zXT]at hm ⊢;rcases hm with q|q|q|q <;> simp[q])
  have kk:∀ c o,c∉[z,TO,i1,i2]->s.heap.get? c=some o->h2.get? c=some o:=fun c o n e=>e2.extBut _ _ (fun m=>n (by simp[m])) (kp c o n e);have zlt:z<s.heap.objs.size:=zWJ Z.z;have NT:IsPair h2 s.heap.objs.size u u2:=e2.extBut _ _ (zXd zlt) N';have hfr:H s.heap.objs.size=none:=I.hok.fresh (zWE _);refine ⟨.ref s.heap.objs.size,upd H s.heap.objs.size (.tup [x,y]),zFx (s:=s) (h':=h2) (t':=s.toks) I hch kk (zWE _) ?_,rfl,⟨_,x,y,rfl,hfr,rfl,fun ws hw=>?_,fun ws hw=>?_⟩,?_,fun c hm=>?_⟩
  ·exact ⟨by show 2<=sizeLine;decide,[u,u2],.cons ru (.cons ru2 .nil),⟨_,NT,rfl,⟨_,rfl⟩,rfl⟩⟩
  ·rw[zMm I hw sa];exact hx
  ·rw[zMm I hw sb];exact hy
  ·obtain ⟨_,P1,⟨q1,q2,O1⟩,S1,S2⟩:=Z';exact ⟨Z2,e2.extBut _ _ D.TIz P1,⟨q1,q2,e2.extBut _ _ D.TOz O1⟩,S1.keep fun o e=>e2.extBut _ o D.i1z e,S2.keep fun o e=>e2.extBut _ o D.i2z e⟩
  ·have lt:c<s.heap.objs.size:=by
    obtain ⟨Z0,P0,⟨q1,q2,O0⟩,S1,S2⟩:=Z;obtain ⟨o1,f1,_⟩:=S1.obj;obtain ⟨o2,f2,_⟩:=S2.obj;simp only[zWK,zWd,zXT]at hm;rcases hm with rfl|rfl|rfl|rfl|rfl
    ·exact zWJ Z0
    ·exact zWJ P0
    ·exact zWJ O0
    ·exact zWJ f1
    ·exact zWJ f2
   rw[zc (zWT lt)];exact (hf c hm).1
 done:=by
  intro X hP hw hK hc i zB s σ H E I hf Z hg;subst hP hw hK;obtain ⟨xs,ys,sa,sb,hz⟩:=hg;obtain ⟨its,rv,p1⟩:=zEx I sa;obtain ⟨its2,rv2,p2⟩:=zEx I sb;have l1:=rv.length;have l2:=rv2.length;refine zO8 (I.ok.hd hc) D Z p1 p2 ?_ fun h' kp=>⟨rfl,zIJ (s:=s) (h':=h') (t':=s.toks) I (fun c hm=>hf c (by
   simp only[zWK,zWd,zXT]at hm ⊢;rcases hm with q|q|q|q <;> simp[q])) kp⟩
  rcases hz with q|q
  ·exact .inl (by simp;omega)
  ·exact .inr (by simp;omega)
 self:=fun _ _ _ _ _ Z h=>wpAny_pyIter_zip Z.z h
section
variable {X:Cx} {a b:Expr} {es:List Expr} {ek:Nat} {ep p pos:Pos}
theorem zRD {ta:TA} (hg:Gl X "zip") (hm:X.mg "zip" = none) (ha:PA X [a,b] ta) (hs:starEach [a,b] X.env=[(false,eval a X.env),(false,eval b X.env)]:=by rfl) (hs2:starEach [b] X.env=[(false,eval b X.env)]:=by rfl) :
  PI X (.Tuple es ek ep) (.Call (.Name "zip" p) [a,b] [] pos) (fun σ H R=>ta σ H fun vs H1=>∃ b1 b2 l1 l2 xs ys,vs=[.ref l1,.ref l2]/\SqG X.K b1 H1 l1 xs/\SqG X.K b2 H1 l2 ys/\R (zUz X.K b1 b2 l1 l2) H1):=by
 intro zB s σ H R I h;refine Call_ (zEr I hg hm (by rfl) (PyProof.Rows.callWith_type1 (thn (ha pos zB s σ H _ I h) fun us s1 ⟨vs,H1,I1,r1,q1⟩=>?_) (by rw[hs,hs2]) (by rw[hs2];rfl)));obtain ⟨b1,b2,l1,l2,xs,ys,rfl,s1',s2',q⟩:=q1;cases r1 with
 |cons r rr=>
  cases rr with
  |cons r' rr=>
   cases rr;cases r;cases r';obtain ⟨its,rv,p1⟩:=zEx I1 s1';obtain ⟨its2,rv2,p2⟩:=zEx I1 s2';have d1:l1<s1.heap.objs.size:=zTo p1;have d2:l2<s1.heap.objs.size:=zTo p2;refine zPW p1 p2 fun h' Z kp=>wpAny_pyIter_zip Z.z ?_;refine ⟨s1.heap.objs.size+4,[s1.heap.objs.size+4,s1.heap.objs.size+2,s1.heap.objs.size+3,s1.heap.objs.size,s1.heap.objs.size+1],_,_,H1,rfl,I1.kept (t':=s1.toks) kp,zNR (zipApart_new d1 d2),Z,fun c hc=>?_,q⟩;have ge:s1.heap.objs.size<=c:=by
    simp only[zWK,zWd,zXT]at hc;rcases hc with rfl|rfl|rfl|rfl|rfl
    ·exact Nat.le_add_right _ 4
    ·exact Nat.le_add_right _ 2
    ·exact Nat.le_add_right _ 3
    ·exact zWE _
    ·exact Nat.le_add_right _ 1
   exact I1.fpOk ge (I1.hok.fresh ge)
def zLS (g:FA):FI:=fun σ M=>match g σ M with
 |some ([x,y],M1)=>match zAF M1 (.dat x),zAF M1 (.dat y) with
  |some xs,some ys=>some ((xs.zip ys).map fun q=>D.tup [q.1,q.2],some fun M=>zAF M (.dat x)=some xs/\zAF M (.dat y)=some ys,M1)
  |_,_=>none
 |_=>none
theorem zL7 {K:PySem.W.Frag} {L1:List Addr} {M1:Mem} {H1:Hp} {x:D} {v:V} {xs:List D} (c1:Cor K L1 M1 H1) (r1:Rep L1 H1 x v) (e:zAF M1 (.dat x)=some xs) :
  ∃ b l,v=.ref l/\(∃ vs,SqG K b H1 l vs) /\ ∀ L2 H2 M2,Stp L1 H1 L2 H2->Cor K L2 M2 H2->zAF M2 (.dat x)=some xs -> ∃ vs',SqG K b H2 l vs'/\zP L2 H2 xs vs':=by
 have r1':zg H1 L1 H1 (.dat x) v:=r1;cases x with
 |tup ds=>
  cases e;obtain ⟨a,vs,rfl,e3,r3⟩:=zBS r1' (xs:=xs) rfl;exact ⟨true,a,rfl,⟨vs,(show SqT K H1 a vs from .of e3)⟩,fun L2 H2 M2 s2 c2 _=>⟨vs,(show SqT K H2 a vs from .of (s2.tup a vs e3)),r3.stp s2⟩⟩
 |ref n=>
  have e2:zBW M1 (.dat (.ref n))=some xs:=e;obtain ⟨a,vs,rfl,e3,r3⟩:=zA6 c1 r1' e2;refine ⟨false,a,rfl,⟨vs,(show SqL K H1 a vs from .inl e3)⟩,fun L2 H2 M2 s2 c2 hq=>?_⟩;unfold Rep at r1;obtain ⟨a',ha',e5⟩:=r1;cases ha';have e6:L2[n]?=some a:=by obtain ⟨N,hN⟩:=s2.pre;rw[hN];exact zB0 e5
  have r2:zg H2 L2 H2 (.dat (.ref n)) (.ref a):=by unfold zg Rep;exact ⟨a,rfl,e6⟩
  obtain ⟨a2,vs',h2,e7,r7⟩:=zA6 c2 r2 (show zBW M2 (.dat (.ref n))=some xs from hq);cases h2;exact ⟨vs',(show SqL K H2 a vs' from .inl e7),r7⟩
 |_=>cases e
theorem zRq (hg:Gl X "zip") (hm:X.mg "zip" = none) (ha:QA X [a,b] g) (hs:starEach [a,b] X.env=[(false,eval a X.env),(false,eval b X.env)]:=by rfl) (hs2:starEach [b] X.env=[(false,eval b X.env)]:=by rfl) :
  QI X (.Tuple es ek ep) (.Call (.Name "zip" p) [a,b] [] pos) (zLS g):=.mk <| PI.imp (zRD hg hm ha.un hs hs2) fun τ H R zz=>by
 obtain ⟨L,σ,M,xs,gd,M',c,rs,hf,q⟩:=zz;unfold zLS at hf;split at hf
 ·rename_i x y M1 e1;split at hf
  ·rename_i ds es' e2 e3;cases hf;refine ⟨L,σ,M,_,_,c,rs,e1,fun L1 H1 vs s1 c1 r1=>?_⟩;obtain ⟨v,v',rfl,r2,r3⟩:=r1.two;obtain ⟨b1,l1,rfl,⟨w1,h1⟩,k1⟩:=zL7 c1 r2 e2;obtain ⟨b2,l2,rfl,⟨w2,h2⟩,k2⟩:=zL7 c1 r3 e3;refine ⟨b1,b2,l1,l2,w1,w2,rfl,h1,h2,q L1 H1 _ s1 c1 fun L2 H2 M2 s2 c2 hgd=>?_⟩;obtain ⟨ws1,g1,p1⟩:=k1 L2 H2 M2 s2 c2 hgd.1;obtain ⟨ws2,g2,p2⟩:=k2 L2 H2 M2 s2 c2 hgd.2;refine ⟨fun i d hd=>?_,⟨ws1,ws2,g1,g2,?_⟩⟩
   ·rw[zWV]at hd;cases e2:(ds.zip es')[i]? with
    |none=>rw[e2]at hd;cases hd
    |some pr=>
     rw[e2]at hd;cases hd;obtain ⟨f1,f2⟩:=List.getElem?_zip_eq_some.mp e2;obtain ⟨u,hu,ru⟩:=p1.get f1;obtain ⟨u2,hu2,ru2⟩:=p2.get f2;refine ⟨⟨ws1,ws2,u,u2,g1,g2,hu,hu2⟩,fun v H3 hy=>?_⟩;obtain ⟨T,x,y,rfl,hT,rfl,hxx,hyy⟩:=hy;have ex:=hxx ws1 g1;have ey:=hyy ws2 g2;rw[hu]at ex;cases ex;rw[hu2]at ey;cases ey;exact ⟨fun a o e=>by rw[zc (zAN e hT)];exact e,Rep.newTup hT (.cons ru (.cons ru2 .nil))⟩
   ·rw[zWH,List.length_zip,p1.length,p2.length];omega
  ·cases hf
 ·cases hf
end
theorem zGl {ns:List Int} {its:List Value} (r:ze (ns.map V.int) its) {i:Nat} {v:Value} (h:its.toArray[i]?=some v):∃ t,v=.int (ns.getD i 0) t:=by
 have h':its[i]?=some v:=by simpa using h
 have hi:i<its.length:=(zWB.mp h').1;have hl:=r.length;rw[zWH]at hl;have hx:(ns.map V.int)[i]?=some (.int (ns.getD i 0)):=by
  rw[zWV,zWD,zWC (by omega)];rfl
 obtain ⟨u,hu,ru⟩:=r.get hx;rw[h']at hu;cases hu;obtain ⟨t,rfl⟩:=ru;exact ⟨t,rfl⟩
theorem zPE (hh:A.handled=none) (b:Bool) (I ax:Addr) (hne:ax≠I) (items:Array Value) :
  Walks prog w A I [I,ax] [I] items.size (fun i v=>items[i]?=some v) (fun i h=>SI b h I ax i/\SO b h ax items):=by
 cases b with
 |true=>exact Walks.tuple hh I ax hne items
 |false=>exact Walks.list hh I ax hne items
section
variable {X:Cx} {e:Expr} {pos p:Pos}
theorem zOn (gt:Bool) (hc:X.calm=true):zCu X (.builtin (if gt then "max" else "min")) (fun xs H Q=>∃ (b:Bool) (a:Addr) (ns:List Int) (m:Int),xs=[.ref a]/\SqG X.K b H a (ns.map V.int)/\m∈ns/\(∀ x∈ns,if gt then x<=m else m<=x)/\Q (.int m) H):=by
 intro zB s σ H xs us Q I r h;obtain ⟨b,a,ns,m,rfl,hs,hm,hb,q⟩:=h;obtain ⟨u,rfl,ru⟩:=zF0 r;cases ru;obtain ⟨its,rv,p1⟩:=zEx I hs;have hl:its.toArray.size=ns.length:=by have:=rv.length;simp at this ⊢;omega
 have hpos:0<ns.length:=List.length_pos_of_mem hm;have hlt:=zTo p1;have hfp:∀ c∈[s.heap.objs.size,a],c<(s.heap.push (itO b a)).objs.size:=fun c hc'=>by
  rw[zWo];simp only[zWK,zWd,zXT]at hc';rcases hc' with rfl|rfl
  ·exact zW5 _
  ·exact zWx hlt
 have st:SI b (s.heap.push (itO b a)) s.heap.objs.size a 0/\SO b (s.heap.push (itO b a)) a its.toArray:=⟨zQD (zWI _ rfl),p1.keep fun o e=>zV9 _ e⟩;have kp:∀ h':Heap,(∀ c o,c∉[s.heap.objs.size]->(s.heap.push (itO b a)).get? c=some o->h'.get? c=some o) -> ∀ c o,s.heap.get? c=some o->h'.get? c=some o:=fun h' hk c o e0=>
  hk c o (by simp only[zWK,zWd,zXT];exact zWT (zWJ e0)) (zV9 _ e0)
 have fin:∀ (i:Nat) (v:Value) (h':Heap) (tk:Nat),its.toArray[i]?=some v->ns.getD i 0=m->(∀ c o,s.heap.get? c=some o->h'.get? c=some o)->EP X zB σ Q v { s with heap:=h',toks:=tk }:=fun i v h' tk hv hi hk=>by
  obtain ⟨t,rfl⟩:=zGl rv hv;rw[hi];exact ⟨.int m,H,I.kept hk,⟨t,rfl⟩,q⟩
 cases gt with
 |true=>
  refine call_max_walk (zM0 p1 ⟨s.heap.objs.size,[s.heap.objs.size,a],[s.heap.objs.size],its.toArray.size,fun i v=>its.toArray[i]?=some v,fun i h=>SI b h s.heap.objs.size a i/\SO b h a its.toArray,_,rfl,zPE (A:=X.A.in1) (I.ok.hd hc) b _ a (zWT hlt) its.toArray,st,hfp,by omega,CmpOf.ints_gt (fun i=>ns.getD i 0) (fun _ _ hv=>zGl rv hv),fun v h' tk hP hk=>?_⟩);refine fin _ v h' tk hP ?_ (kp h' hk);obtain ⟨h1,h2⟩:=argBest_gt (fun i=>ns.getD i 0) (its.toArray.size-1);rw[hl]at h1 h2 ⊢;generalize argBest _ (ns.length-1)=q at h1 h2 ⊢;obtain ⟨j,hj,ej⟩:=List.mem_iff_getElem.mp hm;have h3:=h2 j (by omega);have e3:ns.getD j 0=m:=by rw[zWD,zWC hj];exact ej
  have hq:q<ns.length:=by omega
  have h4:ns.getD q 0<=m:=by
   have:=hb (ns.getD q 0) (by rw[zWD,zWC hq];exact zWg hq);simpa using this
  rw[e3]at h3;omega
 |false=>
  refine call_min_walk (zM0 p1 ⟨s.heap.objs.size,[s.heap.objs.size,a],[s.heap.objs.size],its.toArray.size,fun i v=>its.toArray[i]?=some v,fun i h=>SI b h s.heap.objs.size a i/\SO b h a its.toArray,_,rfl,zPE (A:=X.A.in1) (I.ok.hd hc) b _ a (zWT hlt) its.toArray,st,hfp,by omega,CmpOf.ints_lt (fun i=>ns.getD i 0) (fun _ _ hv=>zGl rv hv),fun v h' tk hP hk=>?_⟩);refine fin _ v h' tk hP ?_ (kp h' hk);obtain ⟨h1,h2⟩:=argBest_lt (fun i=>ns.getD i 0) (its.toArray.size-1);rw[hl]at h1 h2 ⊢;generalize argBest _ (ns.length-1)=q at h1 h2 ⊢;obtain ⟨j,hj,ej⟩:=List.mem_iff_getElem.mp hm;have h3:=h2 j (by omega);have e3:ns.getD j 0=m:=by rw[zWD,zWC hj];exact ej
  have hq:q<ns.length:=by omega
  have h4:m<=ns.getD q 0:=by
   have:=hb (ns.getD q 0) (by rw[zWD,zWC hq];exact zWg hq);simpa using this
  rw[e3]at h3;omega
def zC5 (gt:Bool):Int->List Int->Int
 |m,[]=>m
 |m,x::r=>zC5 gt (if (if gt then m<x else x<m) then x else m) r
theorem zDd (gt:Bool):∀ (r:List Int) (m:Int),zC5 gt m r∈m::r /\ ∀ x∈m::r,if gt then x<=zC5 gt m r else zC5 gt m r<=x
 |[],m=>by
  refine ⟨by simp[zC5],fun x hx=>?_⟩;have:x=m:=by simpa using hx
  subst this;cases gt <;> simp[zC5]
 |y::r,m=>by
  unfold zC5;obtain ⟨h1,h2⟩:=zDd gt r (if (if gt then m<y else y<m) then y else m);generalize hb:zC5 gt (if (if gt then m<y else y<m) then y else m) r=B at h1 h2;constructor
  ·rcases zWK.mp h1 with q|q
   ·rw[q];by_cases hc:(if gt=true then m<y else y<m)
    ·rw[zWN hc];simp
    ·rw[zWQ hc];simp
   ·simp[q]
  ·intro x hx;have h0:=h2 _ zWM;rcases zWK.mp hx with q|q
   ·subst q;cases gt with
    |true=>simp at h0 ⊢;split at h0 <;> omega
    |false=>simp at h0 ⊢;split at h0 <;> omega
   ·rcases zWK.mp q with z|z
    ·subst z;cases gt with
     |true=>simp at h0 ⊢;split at h0 <;> omega
     |false=>simp at h0 ⊢;split at h0 <;> omega
    ·exact h2 x (zWL _ z)
def zE9 (gt:Bool):KB:=fun xs M=>match xs with
 |[.dat d]=>match zAF M (.dat d) with
  |some ds=>match zAp ds with
   |some (n::ns)=>some (.dat (.int (zC5 gt n ns)),M)
   |_=>none
  |none=>none
 |[.fl ds]=>match zAp ds with
  |some (n::ns)=>some (.dat (.int (zC5 gt n ns)),M)
  |_=>none
 |_=>none
theorem zPX {K:PySem.W.Frag} {gt:Bool}:zHi K (fun xs H Q=>∃ (b:Bool) (a:Addr) (ns:List Int) (m:Int),xs=[.ref a]/\SqG K b H a (ns.map V.int)/\m∈ns/\(∀ x∈ns,if gt then x<=m else m<=x)/\Q (.int m) H) (zE9 gt):=by
 intro L M M' H H0 xs d vs Q c r hk q;unfold zE9 at hk;split at hk
 ·rename_i d0;split at hk
  ·rename_i ds e1;split at hk
   ·rename_i n ns e2;cases hk;obtain ⟨v,rfl,r1⟩:=r.one;have r1':Rep L H d0 v:=r1;obtain ⟨b,l,rfl,_,key⟩:=zL7 c r1' e1;obtain ⟨vs',hq,rr⟩:=key L H M (.refl L H) c e1;have ev:=zCf e2 rr;subst ev;obtain ⟨h1,h2⟩:=zDd gt ns n;exact ⟨b,l,n::ns,zC5 gt n ns,rfl,hq,h1,h2,q L H _ (.refl L H) c (zAk (L:=L) (H:=H))⟩
   ·cases hk
  ·cases hk
 ·rename_i ds;split at hk
  ·rename_i n ns e2;cases hk;obtain ⟨v,rfl,r1⟩:=r.one;obtain ⟨l,vs',rfl,hq,rr⟩:=zA6 c r1 (show zBW M (.fl ds)=some ds from rfl);have ev:=zCf e2 rr;subst ev;obtain ⟨h1,h2⟩:=zDd gt ns n;exact ⟨false,l,n::ns,zC5 gt n ns,rfl,.inl hq,h1,h2,q L H _ (.refl L H) c (zAk (L:=L) (H:=H))⟩
  ·cases hk
 ·cases hk
theorem zTz (hcalm:X.calm=true) (hg:Gl X "min") (hm:X.mg "min" = none) (ha:QAE X [e] fa) (he:starEach [e] X.env=(false,eval e X.env)::starEach [] X.env:=by rfl) (hpl:(backTo pos (starEach [] X.env)).any (·.1)=false:=by rfl):QE X (.Call (.Name "min" p) [e] [] pos) (fB (zE9 false) fa) :=
 zE7 zPX (zOn false hcalm) (by rfl) hg hm ha (by decide) (by decide) he hpl
end
section
variable {X:Cx} {a e e2 o:Expr} {pos p apos cpos:Pos} {f:FE}
def zNV (f:FE):FT:=fun σ M=>match f σ M with
 |some (x,M1)=>match zAF M1 x with
  |some xs=>some (!xs.isEmpty,M1)
  |none=>none
 |none=>none
theorem zRp (h:QE X a f) (he:∀ whole,isTrue a X.env whole=(do let v <- whole;standAt a.pos;holding [v] (truthy v)):=by intro _;rfl):QT X a (zNV f) :=
 .mk <| PT.imp (zP6 h.un he) fun τ H Q zz=>by
  obtain ⟨L,σ,M,d,M',c,rs,hf,q⟩:=zz;unfold zNV at hf;split at hf
  ·rename_i x M1 e1;split at hf
   ·rename_i xs e2;cases hf;refine ⟨L,σ,M,_,_,c,rs,e1,fun L1 H1 v s1 c1 r1=>⟨!xs.isEmpty,?_,q L1 H1 s1 c1⟩⟩;unfold zAF at e2;have emp:∀ {vs:List V},zP L1 H1 xs vs->(!xs.isEmpty) = !vs.isEmpty:=fun {vs} r=>by
     have:=r.length;cases xs <;> cases vs <;> first|rfl|simp at this
    cases t:zBc x with
    |some ws=>
     rw[t]at e2;cases e2;obtain ⟨l,vs,rfl,e3,r3⟩:=zBS r1 t;exact .inr (.inl ⟨vs,.of e3,emp r3⟩)
    |none=>
     rw[t]at e2;obtain ⟨l,vs,rfl,e3,r3⟩:=zA6 c1 r1 e2;exact .inl ⟨vs,.inl e3,emp r3⟩
   ·cases hf
  ·cases hf
theorem zOo:zCu X (.builtin "len") (fun xs H Q=>∃ (p:Addr) (kvs:List (Key × V)),xs=[.ref p]/\H p=some (.dK kvs)/\Q (.int kvs.length) H):=by
 intro zB s σ H xs us Q I r h;obtain ⟨p,kvs,rfl,hx,q⟩:=h;obtain ⟨u,rfl,rx⟩:=zF0 r;cases rx;have hn:=zEb;obtain ⟨hz,hS,vs,r',m⟩:kvs.length<=sizeLine/\(p==sysModules)=false /\ ∃ vs,KV kvs vs/\s.heap.DictOf (zAW X.prog X.w) p vs:=I.hok p _ hx;have hlen:kvs.length=vs.length:=Paired.length r';exact call_len_dict hS m (by omega) ⟨.int kvs.length,H,I.tok _,⟨s.toks+1,by rw[hlen]⟩,q⟩
def zIM:KB:=fun xs M=>match xs with
 |[.dat (.ref n)]=>match M[n]? with
  |some (.dict kvs)=>some (.dat (.int kvs.length),M)
  |_=>none
 |_=>none
theorem zOv {K:PySem.W.Frag}:zHi K (fun xs H Q=>∃ (p:Addr) (kvs:List (Key × V)),xs=[.ref p]/\H p=some (.dK kvs)/\Q (.int kvs.length) H) zIM:=by
 intro L M M' H H0 xs d vs Q c r hk q;unfold zIM at hk;split at hk
 ·rename_i n;split at hk
  ·rename_i kvs e1;cases hk;obtain ⟨v,rfl,r1⟩:=r.one;unfold zg Rep at r1;obtain ⟨a,rfl,e2⟩:=r1;obtain ⟨ws,e3,r3⟩:=c.obj n a _ e2 e1;have hl:=r3.length;refine ⟨a,ws,rfl,e3,?_⟩;have:=q L H (.int kvs.length) (.refl L H) c (zAk (L:=L) (H:=H));rw[<-hl]at this;exact this
  ·cases hk
 ·cases hk
theorem zSh (hg:Gl X "len") (hm:X.mg "len" = none) (ha:QAE X [e] fa) (he:starEach [e] X.env=(false,eval e X.env)::starEach [] X.env:=by rfl) (hpl:(backTo pos (starEach [] X.env)).any (·.1)=false:=by rfl):QE X (.Call (.Name "len" p) [e] [] pos) (fB zIM fa) :=
 zE7 zOv zOo PySem.boot_len hg hm ha (by decide) (by decide) he hpl
end
noncomputable def zJI (fg:FG) (tc:FT) (fi2:FI) (own2:List Nat) (fg2:FG) (tc2:FT) (te:FE) (σ:Sd) (all:List D) (gd:Option (Mem->Prop)):List D->List D->Mem->Option (List D × Mem)
 |[],acc,M=>open Classical in if zAs gd all M then some (acc,M) else none
 |x::r,acc,M=>open Classical in if zAs gd all M then match fg x σ with
   |some σ1=>match tc σ1 M with
    |some (true,M1)=>match fi2 σ1 M1 with
     |some (ys,gd2,M2)=>if acc.length+ys.length<=sizeLine then match zA0 fg2 tc2 te (zBB own2 σ1) ys gd2 ys M2 with
       |some (ds,M3)=>zJI fg tc fi2 own2 fg2 tc2 te σ all gd r (acc++ds) M3
       |none=>none
      else none
     |none=>none
    |some (false,M1)=>zJI fg tc fi2 own2 fg2 tc2 te σ all gd r acc M1
    |none=>none
   |none=>none
  else none
noncomputable def zFs (own own2:List Nat) (fi:FI) (fg:FG) (tc:FT) (fi2:FI) (fg2:FG) (tc2:FT) (te:FE):FE:=fun σ M=>match fi σ M with
 |some (xs,gd,M1)=>match zJI fg tc fi2 own2 fg2 tc2 te (zBB own σ) xs gd xs [] M1 with
  |some (ys,M2)=>some (.fl ys,M2)
  |none=>none
 |none=>none
theorem zMd {K:PySem.W.Frag} {own own2:List Nat} {fi fi2:FI} {g g2:TG} {fg fg2:FG} {tc tc2:FT} {te:FE} (hg:zE4 own g fg) (hg2:zE4 own2 g2 fg2) {τ:Sv} {H:Hp} {Q:VK} (h:trE K (zFs own own2 fi fg tc fi2 fg2 tc2 te) τ H Q) :
  zPu own own2 (trI K fi) g (trT K tc) (trI K fi2) g2 (trT K tc2) (trD K (toD te)) τ H Q:=by
 obtain ⟨L,σ,M,d,Mf,c,rs,hf,q⟩:=h;unfold zFs at hf;split at hf
 ·rename_i xs gd M1 e1;split at hf
  ·rename_i zs M2 e2;cases hf;refine ⟨L,σ,M,_,_,_,c,rs,e1,fun L1 H1 J s1 c1 it=>?_⟩
   refine ⟨fun i m ys H'=>m=xs.length-i/\i<=xs.length /\ ∃ L' M' as,Stp L1 H1 L' H'/\Cor K L' M' H'/\zP L' H' as ys/\as.length<=sizeLine/\zJI fg tc fi2 own2 fg2 tc2 te (zBB own σ) xs gd (xs.drop i) as M'=some (zs,Mf),
    ⟨xs.length,by simp,zWu _,L1,M1,[],.refl _ _,c1,.nil,zWu _,by simpa using e2⟩,?_⟩
   rintro i m ys H' ⟨rfl,hi,L',M',as,s',c',r',hl,e'⟩;by_cases hlt:i<xs.length
   ·rw[zCQ hlt]at e';unfold zJI at e';split at e'
    ·rename_i hgd;obtain ⟨step,_⟩:=it L' H' M' s' c' hgd;obtain ⟨go,yl⟩:=step i xs[i] (zWC hlt);split at e'
     ·rename_i σ1 eg;refine .inr ⟨go,fun v H2 hy=>?_⟩;obtain ⟨gr,rv⟩:=yl v H2 hy;have s2:Stp L1 H1 L' H2:=s'.yld gr;refine hg (zEV own ((rs.stp s1).stp s2)) (.refl _) rv eg fun τ2 r2 x2=>⟨x2,?_⟩;split at e'
      ·rename_i M3 e3;split at e'
       ·rename_i ys2 gd2 M4 e4;split at e'
        ·rename_i hz2;split at e'
         ·rename_i ds M5 e5;refine ⟨L',σ1,M',_,_,c'.grow gr,r2,e3,fun L3 H3 s3 c3=>zHy ?_⟩;have st3:Stp L' H' L3 H3:=(Stp.grow gr).trans s3;refine ⟨L3,σ1,M3,_,_,_,c3,r2.stp s3,e4,fun L4 H4 J2 s4 c4 it2=>?_⟩
          refine ⟨fun j m2 ws H5=>m2=ys2.length-j/\j<=ys2.length /\ ∃ L5 M6 bs cs,Stp L4 H4 L5 H5/\Cor K L5 M6 H5/\zP L5 H5 (as++bs) ws/\bs.length<=j/\zA0 fg2 tc2 te (zBB own2 σ1) ys2 gd2 (ys2.drop j) M6=some (cs,M5)/\bs++cs=ds,
           ⟨ys2.length,by simp,zWu _,L4,M4,[],ds,.refl _ _,c4,by simpa using (r'.stp st3).stp s4,zWE _,by simpa using e5,rfl⟩,?_⟩
          rintro j m2 ws H5 ⟨rfl,hj,L5,M6,bs,cs,s5,c5,r5,hbl,e6,hbc⟩;have hws:ws.length<=as.length+j:=by rw[r5.length,zWO];omega
          by_cases hlt2:j<ys2.length
          ·rw[zCQ hlt2]at e6;unfold zA0 at e6;split at e6
           ·rename_i hgd2;obtain ⟨step2,_⟩:=it2 L5 H5 M6 s5 c5 hgd2;obtain ⟨go2,yl2⟩:=step2 j ys2[j] (zWC hlt2);split at e6
            ·rename_i σ2 eg2;refine .inr ⟨go2,fun v2 H6 hy2=>?_⟩;obtain ⟨gr2,rv2⟩:=yl2 v2 H6 hy2;have s6:Stp L4 H4 L5 H6:=s5.yld gr2;refine hg2 (zEV own2 (((r2.stp s3).stp s4).stp s6)) (.refl _) rv2 eg2 fun τ3 r3 x3=>⟨x3,?_⟩;split at e6
             ·rename_i M7 e7;split at e6
              ·rename_i d M8 e8;split at e6
               ·rename_i ds' M9 e9;cases e6;refine ⟨L5,σ2,M6,_,_,c5.grow gr2,r3,e7,fun L7 H7 s7 c7=>zHy ?_⟩;refine ⟨L7,σ2,M7,_,_,c7,r3.stp s7,e8,fun L8 H8 w s8 c8 r8=>?_⟩;have st:Stp L5 H5 L8 H8:=((Stp.grow gr2).trans s7).trans s8;refine ⟨by omega,ys2.length-(j+1),by omega,rfl,hlt2,L8,M8,bs++[d],ds',s5.trans st,c8,?_,by simp;omega,e9,by rw[<-hbc];simp⟩;have:=(r5.stp st).app (.cons r8 .nil);simpa using this
               ·cases e6
              ·cases e6
             ·rename_i M7 e7;refine ⟨L5,σ2,M6,_,_,c5.grow gr2,r3,e7,fun L7 H7 s7 c7=>zHl ?_⟩;have st:Stp L5 H5 L7 H7:=(Stp.grow gr2).trans s7;exact ⟨ys2.length-(j+1),by omega,rfl,hlt2,L7,M7,bs,cs,s5.trans st,c7,r5.stp st,by omega,e6,hbc⟩
             ·cases e6
            ·cases e6
           ·cases e6
          ·have hj':j=ys2.length:=by omega
           subst hj';rw[List.drop_length]at e6;unfold zA0 at e6;split at e6
           ·rename_i hgd2;cases e6;obtain ⟨_,stop2⟩:=it2 L5 H5 _ s5 c5 hgd2;rw[zWs]at hbc;subst hbc;refine .inl ⟨stop2,xs.length-(i+1),by omega,rfl,hlt,L5,M5,as++bs,s'.trans ((st3.trans s4).trans s5),c5,r5,by rw[zWO];omega,e'⟩
           ·cases e6
         ·cases e'
        ·cases e'
       ·cases e'
      ·rename_i M3 e3;refine ⟨L',σ1,M',_,_,c'.grow gr,r2,e3,fun L3 H3 s3 c3=>zHl ?_⟩;have st:Stp L' H' L3 H3:=(Stp.grow gr).trans s3;exact ⟨xs.length-(i+1),by omega,rfl,hlt,L3,M3,as,s'.trans st,c3,r'.stp st,hl,e'⟩
      ·cases e'
     ·cases e'
    ·cases e'
   ·have hi':i=xs.length:=by omega
    subst hi';rw[List.drop_length]at e';unfold zJI at e';split at e'
    ·rename_i hgd;cases e';obtain ⟨_,stop⟩:=it L' H' _ s' c' hgd;refine .inl ⟨stop,by rw[r'.length];exact hl,fun p hp=>?_⟩;exact q L' _ _ ((s1.trans s').trans (.upd hp)) (c'.upd hp) (zg.newLst (s1.trans s') c c' hp r')
    ·cases e'
  ·cases hf
 ·cases hf
section
variable {X:Cx} {scope:Scope} {elt t1 i1 t2 i2:Expr} {f1 f2:List Expr} {pos:Pos}
structure QParts2 (X:Cx) (scope:Scope) (t1:Expr) (f1:List Expr) (t2 i2:Expr) (f2:List Expr) (elt:Expr) (g:TG) (tc:FT) (fi2:FI) (g2:TG) (tc2:FT) (te:FE):Prop where
 g:∀ zB cl s H fp,PG (zL X zB scope cl s H fp) t1 g
 c:∀ zB cl s H fp,QIfs (zL X zB scope cl s H fp) f1 tc
 w2:∀ zB cl s H fp,QI (zL X zB scope cl s H fp) t2 i2 fi2
 g2:∀ zB cl s H fp,PG (zL X zB scope cl s H fp) t2 g2
 c2:∀ zB cl s H fp,QIfs (zL X zB scope cl s H fp) f2 tc2
 e:∀ zB cl s H fp,QE (zL X zB scope cl s H fp) elt te
 s2:∀ zB cl s H fp x,foldedSetIterable i2 (zL X zB scope cl s H fp).env x=pure x
theorem zQ8 {own own2:List Nat} {fi fi2:FI} {g g2:TG} {fg fg2:FG} {tc tc2:FT} {te:FE} (hsub:∀ i∈own2,i∈own) (hg:zE4 own g fg) (hg2:zE4 own2 g2 fg2) (C:CompIn X scope own) (hcalm:X.calm=true) (hi:QI X t1 i1 fi) (p:QParts2 X scope t1 f1 t2 i2 f2 elt g tc fi2 g2 tc2 te) (hs:∀ x,foldedSetIterable i1 X.env x=pure x:=by intro _;rfl) :
  QE X (zBV elt t1 i1 f1 t2 i2 f2 scope pos) (zFs own own2 fi fg tc fi2 fg2 tc2 te) :=
 .mk <| PE.imp (zPk hsub C hcalm hi.un ⟨p.g,fun zB cl s H fp=>(p.c zB cl s H fp).un,fun zB cl s H fp=>(p.w2 zB cl s H fp).un,p.g2,fun zB cl s H fp=>(p.c2 zB cl s H fp).un,fun zB cl s H fp=>(zBn (p.e zB cl s H fp)).un,p.s2⟩ hs) fun _ _ _ h=>zMd hg hg2 h
end
end L3
namespace L2
open PySem PySem.Spec PyProof.Rows
section
variable {X:Cx} {scope:Scope} {tg kx vx iter:Expr} {ifs:List Expr} {pos:Pos} {own:List Nat} {isT:Bool} {wi:TI} {g:TG} {tc:TT} {tk tv:TE}
theorem zHd (hN:X.N.Nodup) (hi':X.N[i]?=some x) (hx:Loc X.env.scope x) (hfn:X.fn x=true\/X.env.scope.names.lookup x=some .local)
  (hsw:swapsWith (.DictComp kx vx [⟨tg,iter,ifs,0⟩] scope pos) (some (.Name x pos')) pos''.line X.env=pure true)
  (hu:X.A.units+1<cLine) (C:CompIn X scope own) (hcalm:X.calm=true) (hi:PI X tg iter wi) (p:CompParts X scope tg ifs kx g tc tk) (p2:∀ zB cl s H fp,PE (zL X zB scope cl s H fp) vx tv) (hs:∀ x,foldedSetIterable iter X.env x=pure x:=by intro _;rfl) :
  PS X (.Assign [.Name x pos'] (.DictComp kx vx [⟨tg,iter,ifs,0⟩] scope pos) pos'') (zPz (zFd isT own wi g tc tk tv) (zDk i)):=by
 intro zB s σ H D I h;obtain ⟨cl,hcl,c1,c2⟩:=C.sc.closure I;rw[exec_Assign_Name_used _ _ _ _ hsw];refine zV8 (zW6 (zV8 ?_));show wpAny _ X.A (do let _ <- comprehension (.DictComp kx vx [⟨tg,iter,ifs,0⟩] scope pos) scope X.env _ newDict false (eval iter X.env) (some (assign (.Name x pos') X.env))) _ _ s
 refine zV8 (zWe (zX2 (use:=some (assign (.Name x pos') X.env)) (Q:=fun _ s'=>SP X zB D .next s') rfl hs hcl C.sc.kind C.sc.names
  (thn (hi zB s σ H _ I h) fun v s1 h1=>thn h1 fun itv s2 h2=>?_)) (fun _ s' hq=>zWA (zWA hq)) fun _ _ e=>e)
 obtain ⟨it,fp,tn,J,H2,e,I2,T,st2,f2,hD⟩:=h2;subst e;obtain ⟨W,⟨m0,w0⟩,turn⟩:=hD s2.heap.objs.size (I2.hok.fresh (zWE _))
 refine zDi hu C hcalm I2 T st2 f2 c1 c2 (p.g _ _ _ _ _) (p.c _ _ _ _ _) (p.e _ _ _ _ _) (p2 _ _ _ _ _) (RR:=fun acc C r s'=>compPost (model X.prog X.w) X.A X.xe (some (assign (.Name x pos') X.env)) (fun _ s'=>SP X zB D .next s') acc C r s')
  (QQ:=fun H=>zDk i (.ref s2.heap.objs.size) σ H D.nx) w0 turn ?_
 intro σc H' s' Ic qq;obtain ⟨m,hn,_⟩:=Ic.loc;have J':=zEZ (h':=s'.heap) I2 f2 Ic (.refl ..);obtain ⟨oC,es,ep,hoC,hdC,r1,r2⟩:=id hn;have nC:H' (s2.heap.objs.size+1)=none:=Ic.free;have K':Inv X (zB++[(s2.heap.objs.size+1,oC)]) σ H' s':=J'.pins_of fun q hq=>by
  rcases zWY.mp hq with z|z
  ·exact J'.pin q (zWS _ z)
  ·have e:q=(s2.heap.objs.size+1,oC):=by simpa using z
   subst e;refine ⟨hoC,nC,zXd (zWx I2.lt),I2.nofs (Nat.le_succ _),fun v z=>?_⟩;have z':oC.data=.cell v:=z;rw[hdC]at z';cases z'
 show wpAny _ X.A (assign (.Name x pos') X.env (.ref s2.heap.objs.size)) _ _ _;refine thn (zJT hN hi' hx hfn _ s' σ _ (.ref s2.heap.objs.size) (.ref s2.heap.objs.size) _ K' rfl qq) fun _ s'' ⟨σ'',H'',I'',q''⟩=>?_;obtain ⟨eC,_⟩:=I''.pin (s2.heap.objs.size+1,oC) (by simp);refine ⟨m,⟨oC,es,ep,eC,hdC,r1,r2⟩,fun h' hs'=>⟨σ'',H'',?_,q''⟩⟩;have I3:Inv X zB σ'' H'' s'':=I''.unpinned;obtain ⟨_,nC'',neC,_,_⟩:=I''.pin (s2.heap.objs.size+1,oC) (by simp);refine I3.turned (t':=s''.toks) (it:=s2.heap.objs.size+1) (fun b o hb e=>hs'.extBut b o hb e) nC'' neC (.inr (zWZ I2.sz (Nat.le_succ _))) (fun x c e z=>?_) (fun q hq z=>?_)
 ·obtain ⟨v,o,ho,hd⟩:=I3.cell x c e;rw[z,eC]at ho;cases ho;rw[hdC]at hd;cases hd
 ·obtain ⟨e,_⟩:=I2.pin q hq;exact zWT (zWx (zWJ e)) z
end
end L2
namespace L3
open PySem PySem.Spec PyProof.Rows L2
section
variable {X:Cx} {scope:Scope} {tg kx vx iter:Expr} {ifs:List Expr} {pos:Pos} {own:List Nat} {isT:Bool}
theorem zLy (hN:X.N.Nodup) (hi':X.N[i]?=some x) (hx:Loc X.env.scope x) (hfn:X.fn x=true\/X.env.scope.names.lookup x=some .local)
  (hsw:swapsWith (.DictComp kx vx [⟨tg,iter,ifs,0⟩] scope pos) (some (.Name x pos')) pos''.line X.env=pure true)
  (hu:X.A.units+1<cLine) (hg:zE4 own g fg) (C:CompIn X scope own) (hcalm:X.calm=true) (hi:QI X tg iter fi) (p:QParts X scope tg ifs kx g tc tk) (p2:∀ zB cl s H fp,QE (zL X zB scope cl s H fp) vx tv) (hs:∀ x,foldedSetIterable iter X.env x=pure x:=by intro _;rfl) :
  QS X (.Assign [.Name x pos'] (.DictComp kx vx [⟨tg,iter,ifs,0⟩] scope pos) pos'') (zq i (zC0 isT own fi fg tc tk tv)) :=
 .mk <| PS.imp (zHd (isT:=isT) hN hi' hx hfn hsw hu C hcalm hi.un p.parts (fun _ _ _ _ _=>(zBn (p2 _ _ _ _ _)).un) hs) fun _ _ _ z=>zHO (fun _ _ _ z=>zGj hg z) z
end
end L3
namespace L2
open PySem PySem.Spec PyProof.Rows
end L2
namespace L3
open PySem PySem.Spec PyProof.Rows L2
open SeqAt
structure Df (K:PySem.W.Frag) (mg:Str->Option Value) (x:Str) (st:Stmt) (ps:List Str) where
 f:Addr
 fd:FuncData
 F:Fun K x x st f fd
 b:zHb K fd ps []
 m:mg x=some (.ref f)
structure Dg (K:PySem.W.Frag) (x:Str) (st:Stmt) where
 f:Addr
 {od an:Option Addr}
 {sl:Array (Option Value)}
 {oc kV dc pm cd ct:Value}
 a:PySem.W.nsIn K mainGlobals x=some (some (.ref f))
 l:K.lookup f=some ⟨oc,od,.func (PySem.W.fnOf x x (zEJ st) (zCq st) (zR st) .none kV dc pm an cd ct),sl⟩
 c:PySem.W.codeIn K cd x=true
 k:PySem.W.keepIn K (.ref f)=true
abbrev Dg.df {K:PySem.W.Frag} {x:Str} {st:Stmt} {ps:List Str} {h:Heap} {mg:Str->Option Value} (g:Dg K x st) (X:K.In h) (G:h.Ns mainGlobals mg)
  (hb:∀ (kV doc pm:Value) (an:Option Addr) (cdv ct:Value) (us:List Value),us.length=ps.length->bindArgs (PySem.W.fnOf x x (zEJ st) (zCq st) (zR st) .none kV doc pm an cdv ct) ⟨us,[]⟩=pure (ps.zip us)):Df K mg x st ps :=
 ⟨g.f,_,zPr g.l g.c g.k,(zPr g.l g.c g.k).binds hb,PySem.W.mg_of X G g.a⟩
abbrev Od (P:Program) (w:World) (base:Heap) (k:Nat) {K:PySem.W.Frag} {mg:Str->Option Value} {x:Str} {st:Stmt} {ps:List Str} (d:Df K mg x st ps) (m:FF):Prop:=FnOk P w K mg base CX0 k d.f d.fd ps (spF K ps.length m)
abbrev Zn (K:PySem.W.Frag) (x:Str):Prop:=PySem.W.nsIn K mainGlobals x=some none
abbrev Ki (K:PySem.W.Frag) (t T:String) (b:Bool):Prop:=PySem.W.kitOne K (.type t) (.type T)=some b
theorem zFq {P:List Value->Prop} (h:∀ a,P [a]):∀ us:List Value,us.length=1->P us
 |[a],_=>h a
theorem zLe {P:List Value->Prop} (h:∀ a b,P [a,b]):∀ us:List Value,us.length=2->P us
 |[a,b],_=>h a b
theorem zGm {P:List Value->Prop} (h:∀ a b c,P [a,b,c]):∀ us:List Value,us.length=3->P us
 |[a,b,c],_=>h a b c
section
variable {X:Cx} {e:Expr} {es:List Expr} {pos p:Pos} {x:Str} {k:Nat} {st:Stmt} {ps:List Str}
theorem zVz {d:Df X.K X.mg x st ps} (F:FnOk X.prog X.w X.K X.mg X.base CX0 k d.f d.fd ps (spF X.K (e::es).length g)) (hr:Room k X.A) (hg:Gl X x)
  (ha:QA X (e::es) fa) (hl:∀ σ M ds M1,fa σ M=some (ds,M1)->ds.length=(e::es).length) (hdb:(x==("__debug__" : Str))=false) (he:starEach (e::es) X.env=(false,eval e X.env)::starEach es X.env) (hpl:(backTo pos (starEach es X.env)).any (·.1)=false) :
  QE X (.Call (.Name x p) (e::es) [] pos) (zN g fa):=zTj F hr hg d.m d.F.kp d.b ha hl hdb he hpl
theorem zV2 (hN:X.N.Nodup) (hi:X.N[i]?=some x) (h:QE X e f) (hx:Loc X.env.scope x:=by first|exact Or.inl rfl|exact Or.inr rfl) (hs:swapsWith e (some (.Name x pos')) pos.line X.env=pure false:=by rfl)
  (hf:X.fn x=true\/X.env.scope.names.lookup x=some .local:=by first|exact .inl rfl|exact .inr rfl|assumption):QS X (.Assign [.Name x pos'] e pos) (zq i f):=zUG hN hi hx h hs hf
theorem zUu (hN:X.N.Nodup) (hi:X.N[i]?=some x) (hx:Loc X.env.scope x:=by first|exact Or.inl rfl|exact Or.inr rfl) (hf:X.fn x=true\/X.env.scope.names.lookup x=some .local:=by first|exact .inl rfl|exact .inr rfl|assumption):PG X (.Name x pos) (zDk i):=zJT hN hi hx hf
end
end L3
namespace ST
open PySem PySem.Spec PyProof.Rows
end ST
namespace L3
open PySem PySem.Spec PyProof.Rows L2 ST
end L3
namespace ST
open PySem PySem.Spec PyProof.Rows
end ST
namespace L3
open PySem PySem.Spec PyProof.Rows L2 ST
end L3
namespace L2
open PySem PySem.Spec PyProof.Rows
end L2
namespace L3
open PySem PySem.Spec PyProof.Rows L2
def zVK (neg:Bool) (K:PySem.W.Frag):R2:=fun x y H Q=>∃ (L:List Addr) (d:D) (ds:List D) (p:Addr) (xs:List V),y=.ref p/\(SqL K H p xs\/SqT K H p xs)/\zx 1 d=true/\ds.all (zx 1)=true/\Rep L H d x/\zP L H ds xs/\Q (.bl (nb neg (ds.any fun e=>zA4 1 e d))) H
section
variable {X:Cx} {a b:Expr} {pos:Pos} {f g:FE} {zB:List (Addr × Obj)} {σ:L2.St} {H:Hp} {s:Shared} {L:List Addr} {d:D} {ds:List D} {xs:List V} {its:List Value} {v:V} {u:Value}
open Classical in
noncomputable def eY (L:List Addr) (H:Hp) (ds:List D) (d:D) (y:Value):Bool:=decide (∃ e,e∈ds/\(∃ v,Rep L H e v/\zk v y)/\zA4 1 e d=true)
open Classical in
theorem zO7 (hs:ds.all (zx 1)=true) {e:D} {v:V} {y:Value} (he:e∈ds) (r:Rep L H e v) (q:zk v y):eY L H ds d y=zA4 1 e d:=by
 rw[zWj]at hs;have h1:=hs e he;have key:(∃ e,e∈ds/\(∃ v,Rep L H e v/\zk v y)/\zA4 1 e d=true) ↔ zA4 1 e d=true:=by
  constructor
  ·rintro ⟨e',h2,⟨v',r',q'⟩,h3⟩;have h4:=hs e' h2;have:v=v':=by
    cases e <;> first|cases h1|skip
    cases e' <;> first|cases h4|skip
    have r1:=r;have r2:=r';unfold Rep at r1 r2;obtain ⟨a1,_,rfl,_⟩:=r1;obtain ⟨a2,_,rfl,_⟩:=r2;cases q;cases q';rfl
   subst this;rw[zKz 1 e e' v h1 h4 r r'];exact h3
  ·intro h;exact ⟨e,he,⟨v,r,q⟩,h⟩
 unfold eY;cases z:zA4 1 e d with
 |true=>exact zXG (key.mpr z)
 |false=>exact zWh fun w=>by rw[key.mp w]at z;cases z
theorem zJ9 (rr:zP L H ds xs) (r:ze xs its) (h:j<its.length):∃ e v,e∈ds/\ds[j]?=some e/\Rep L H e v/\zk v its[j]:=by
 have l1:xs.length=its.length:=r.length;have l2:xs.length=ds.length:=rr.length;have hj:j<ds.length:=by omega
 obtain ⟨v,g1,t1⟩:=rr.get (zWC hj);obtain ⟨o,g2,t2⟩:=r.get g1;rw[zWC h]at g2;cases g2;exact ⟨_,v,zWg hj,zWC hj,t1,t2⟩
theorem zNA (I:Inv X zB σ H s) (hu:X.A.units+1+1<cLine) (hd:zx 1 d=true) (hs:ds.all (zx 1)=true) (rd:Rep L H d v) (rx:zk v u) (rr:zP L H ds xs) (r:ze xs its) (w:Value) (hw:w∈its):SeqAt.EqAt X.A.in1 s w u (eY L H ds d w):=by
 obtain ⟨j,hj,rfl⟩:=zYB hw;obtain ⟨e,v',he,_,re,q⟩:=zJ9 rr r hj;rw[zO7 hs he re q];rw[zWj]at hs;exact zIi I 1 X.A.in1 _ _ _ _ _ _ hu (hs e he) hd re rd q rx
theorem zNL (hs:ds.all (zx 1)=true) (rr:zP L H ds xs) (r:ze xs its):its.any (eY L H ds d)=ds.any fun e=>zA4 1 e d:=by
 have l1:xs.length=its.length:=r.length;have l2:xs.length=ds.length:=rr.length;rw[Bool.eq_iff_iff,List.any_eq_true,List.any_eq_true];constructor
 ·rintro ⟨w,hw,h⟩;obtain ⟨j,hj,rfl⟩:=zYB hw;obtain ⟨e,v',he,_,re,q⟩:=zJ9 rr r hj;rw[zO7 hs he re q]at h;exact ⟨e,he,h⟩
 ·rintro ⟨e,he,h⟩;obtain ⟨j,hj,rfl⟩:=zYB he;obtain ⟨e',v',he',g,re,q⟩:=zJ9 rr r (j:=j) (by omega);rw[zWC hj]at g;cases g;exact ⟨its[j],zWg (by omega),by rw[zO7 hs he' re q];exact h⟩
theorem zOh (hu:X.A.units+1+1<cLine):OpR X (compareOp .NotIn) (zVK true X.K):=by
 intro zB s σ H x y v u Q I rx ry h;obtain ⟨L,d,ds,p,xs,rfl,hq,hd,hs,rd,rr,q⟩:=h;cases ry;rcases hq with hq|hq
 ·obtain ⟨its,r,pl,hz⟩:=I.list hq;refine SeqAt.notIn_listAt (eY L H ds d) pl.isList (fun w hw=>zNA I hu hd hs rd rx rr r w (by simpa using hw)) ⟨.bl _,H,I,rfl,?_⟩;rw[show its.toArray.any (eY L H ds d)=its.any (eY L H ds d) by simp,zNL hs rr r];exact q
 ·obtain ⟨its,r,pl,hz⟩:=I.tuple hq;refine SeqAt.notIn_tupleAt (eY L H ds d) pl (fun w hw=>zNA I hu hd hs rd rx rr r w (by simpa using hw)) ⟨.bl _,H,I,rfl,?_⟩;rw[show its.toArray.any (eY L H ds d)=its.any (eY L H ds d) by simp,zNL hs rr r];exact q
def zJa (neg:Bool):K2:=fun x y M=>match x with
 |.dat d=>match zAF M y with
  |some ds=>if zx 1 d&&ds.all (zx 1) then some (.dat (.bl (nb neg (ds.any fun e=>zA4 1 e d))),M) else none
  |none=>none
 |_=>none
theorem zRj {K:PySem.W.Frag} {neg:Bool}:zCV K (zVK neg K) (zJa neg):=by
 intro L M M' H H0 x y d v w Q cc rx ry hk q;unfold zJa at hk;split at hk
 ·rename_i d';split at hk
  ·rename_i ds e1;split at hk
   ·rename_i hb;cases hk;rw[zWi]at hb;obtain ⟨p,vs,rfl,hs,r⟩:=zEy cc ry e1;exact ⟨L,d',ds,p,vs,rfl,hs,hb.1,hb.2,rx,r,q L H _ (.refl L H) cc (zBk (L:=L) (H:=H))⟩
   ·cases hk
  ·cases hk
 ·cases hk
theorem zOP (hu:X.A.units+1+1<cLine) (h1:QE X a f) (h2:QE X b g) (hm:behindInMarks .NotIn b=false:=by rfl):QT X (.Compare a [.NotIn] [b] pos) (tst (fOp (zJa true) f g)):=zCg zRj (zOh hu) h1 h2 hm
end
end L3
namespace Law
open PySem PySem.Spec PyProof.Rows L2 L3
theorem zu (n:Nat):∀ c:List Int,D.unds n (c.map D.int)=true
 |[]=>rfl
 |x::r=>by
  show (D.und n (D.int x)&&D.unds n (r.map D.int))=true;rw[zu n r];rfl
theorem zKQ {M:Mem} (h:M[k]?=some u):M.set k u=M:=by
 apply List.ext_getElem?;intro i;rw[zXh];split
 ·rename_i e;subst e;rw[zWN (zWB.mp h).1];exact h.symm
 ·rfl
theorem at0 {x:D} {xs:List D}:atI (x::xs) 0=some x:=zSo (k:=0) rfl
theorem zQs (ns:List Int) (lo hi:Option Int):∃ c:List Int,L3.zDS (ns.map D.int) lo hi=c.map D.int/\c.length<=ns.length:=by
 refine ⟨(ns.drop (HT.sIx ns.length 0 lo)).take (HT.sIx ns.length ns.length hi-HT.sIx ns.length 0 lo),?_,?_⟩
 ·unfold L3.zDS;rw[zWH,List.map_take,List.map_drop]
 ·rw[zXW,List.length_drop];omega
theorem zAq (h:x::r=c.map D.int):∃ y c',c=y::c'/\x=.int y/\r=c'.map D.int:=by
 cases c with
 |nil=>cases h
 |cons y c'=>rw[zWR]at h;exact ⟨y,c',rfl,(zXC h).1,(zXC h).2⟩
theorem zAC:zAs none xs M:=trivial
theorem zV (h:n<=100000):n<=sizeLine:=zWZ h (by decide)
mutual
theorem zHe (h:a<=b):∀ {d:D},D.und a d=true->D.und b d=true
 |.non,_=>by unfold D.und;rfl
 |.bl _,_=>by unfold D.und;rfl
 |.int _,_=>by unfold D.und;rfl
 |.str _,_=>by unfold D.und;rfl
 |.tup ds,e=>by unfold D.und at e ⊢;exact zCR h e
 |.ref k,e=>by unfold D.und at e ⊢;simp at e ⊢;omega
theorem zCR (h:a<=b):∀ {ds:List D},D.unds a ds=true->D.unds b ds=true
 |[],_=>by unfold D.unds;rfl
 |d::ds,e=>by
  unfold D.unds at e ⊢;rw[zWi]at e ⊢;exact ⟨zHe h e.1,zCR h e.2⟩
end
theorem zIX (h:a<=b) (e:MO.und a u=true):MO.und b u=true:=by
 cases u with
 |lst xs=>exact zCR h e
 |fro xs=>exact zCR h e
 |set xs=>exact zCR h e
 |dict kvs|dicT kvs|froT kvs|froK kvs=>
  unfold MO.und at e ⊢;rw[zWj]at e ⊢;intro p hp;have:=e p hp;rw[zWi]at this ⊢;exact ⟨zHe h this.1,zHe h this.2⟩
theorem zFN:∀ {xs ys:List D},D.unds n (xs++ys)=(D.unds n xs&&D.unds n ys)
 |[],ys=>by simp[D.unds]
 |x::xs,ys=>by
  show (D.und n x&&D.unds n (xs++ys))=((D.und n x&&D.unds n xs)&&D.unds n ys);rw[zFN,Bool.and_assoc]
theorem zFO:∀ {xs:List D},(∀ x∈xs,D.und n x=true)->D.unds n xs=true
 |[],_=>rfl
 |x::xs,h=>by
  show (D.und n x&&D.unds n xs)=true;rw[h x zWM,zFO fun y hy=>h y (zWL _ hy)];rfl
theorem zA1 (c:List Int):D.und n (.tup (c.map D.int))=true:=by unfold D.und;exact zu n c
def zCI (i:Nat):Nat->List D
 |0=>[]
 |n+1=> .int i::zCI (i+1) n
theorem zJA (n:Nat):∀ i,((List.range' i n).map fun (k:Nat)=>D.int k)=zCI i n:=by
 induction n with
 |zero=>intro i;rfl
 |succ n ih=>intro i;rw[List.range'_succ,zWR,ih];rfl
theorem zHQ (n:Nat):((List.range n).map fun (k:Nat)=>D.int k)=zCI 0 n:=by rw[List.range_eq_range',zJA]
theorem zC1:∀ (n i:Nat),(zCI i n).length=n
 |0,_=>rfl
 |n+1,i=>by show (zCI (i+1) n).length+1=_;rw[zC1 n]
theorem zJ8 (n:Nat) (I:Nat->Sd->Mem->Prop)
  (hs:∀ i σ M,i<n->I i σ M -> ∃ σ1,g (.int i) σ=some σ1/\OkS (b σ1 M) fun o σ2 M2=>match o with|.nx=>I (i+1) σ2 M2|.cnt=>I (i+1) σ2 M2|.brk=>P .nx σ2 M2|.ret d=>P (.ret d) σ2 M2)
  (he:∀ σ M,I n σ M->P .nx σ M) (σ:Sd) (M:Mem) (h0:I 0 σ M):OkS (zCK g b all none (zCI 0 n) σ M) P:=by
 refine zAZ (I:=fun r σ M=>∃ i,i<=n/\r=zCI i (n-i)/\I i σ M) ?_ ?_ _ _ _ ⟨0,zWu _,by simp,h0⟩
 ·rintro x r σ M ⟨i,hi,e,hI⟩;have hlt:i<n:=by
   rcases zXU i n with z|z
   ·exact z
   ·rw[show n-i=0 by omega]at e;cases e
  rw[show n-i=(n-(i+1))+1 by omega]at e;obtain ⟨rfl,rfl⟩:=zXC e;obtain ⟨σ1,e1,q⟩:=hs i σ M hlt hI;refine ⟨zAC,σ1,e1,OkS.mono q ?_⟩;intro o σ2 M2 z;cases o with
  |nx=>exact ⟨i+1,hlt,rfl,z⟩
  |cnt=>exact ⟨i+1,hlt,rfl,z⟩
  |brk=>exact z
  |ret d=>exact z
 ·rintro σ M ⟨i,hi,e,hI⟩;have:i=n:=by
   rcases zXU i n with z|z
   ·rw[show n-i=(n-(i+1))+1 by omega]at e;cases e
   ·omega
  subst this;exact ⟨zAC,he σ M hI⟩
theorem zPD (n:Nat) (I:Nat->List D->Mem->Prop)
  (hs:∀ i acc M,i<n->I i acc M -> ∃ σ1,g (.int i) σ=some σ1/\Ok (te σ1 M) (zGA fun d M2=>I (i+1) (acc++[d]) M2)) (h0:I 0 [] M) :
  Ok (zA0 g zAD te σ all none (zCI 0 n) M) fun ys M1=>I n ys M1:=by
 refine Ok.mono (zBR (I:=fun r acc M=>∃ i,i<=n/\r=zCI i (n-i)/\I i acc M) (Q:=fun acc M=>I n acc M) ?_ ?_ _ [] _ ⟨0,zWu _,by simp,h0⟩) fun ys M1 q=>by simpa using q
 ·rintro x r acc M ⟨i,hi,e,hI⟩;have hlt:i<n:=by
   rcases zXU i n with z|z
   ·exact z
   ·rw[show n-i=0 by omega]at e;cases e
  rw[show n-i=(n-(i+1))+1 by omega]at e;obtain ⟨rfl,rfl⟩:=zXC e;obtain ⟨σ1,e1,q⟩:=hs i acc M hlt hI;refine ⟨zAC,σ1,e1,zE1.mpr ?_⟩;rw[zWN rfl];refine Ok.mono q ?_;intro x M2 z;cases x with
  |dat d=>exact ⟨i+1,hlt,rfl,z⟩
  |fl xs=>exact ⟨i+1,hlt,rfl,z⟩
 ·rintro acc M ⟨i,hi,e,hI⟩;have:i=n:=by
   rcases zXU i n with z|z
   ·rw[show n-i=(n-(i+1))+1 by omega]at e;cases e
   ·omega
  subst this;exact ⟨zAC,hI⟩
theorem zCB (e:f σ M=some (.dat (.int j),M)) (h1:0<=j) (h2:j<2 ^ 62):zAM (zD (toD f) zH) σ M=some (zCI 0 j.toNat,none,M):=by
 have e':(zD (toD f) zH) σ M=some ([.int j],M):=by unfold zD toD zH;rw[e]
 rw[zHJ e' h1 h2,zHQ]
def mD (zA:List (List Int)):D:=.tup (zA.map fun r=> .tup (r.map D.int))
structure IsM (zA:List (List Int)) (l:Nat):Prop where
 r0:0<zA.length
 l0:0<l
 row:∀ r∈zA,r.length=l /\ ∀ g∈r,0<=g/\g<zA.length
theorem zEF (zA:List (List Int)):D.und n (mD zA)=true:=by
 unfold mD D.und;refine zFO fun x hx=>?_;obtain ⟨r,_,rfl⟩:=zWP.mp hx;exact zA1 r
theorem zPH (zA:List (List Int)):D.unds n (zA.map fun r=>D.tup (r.map D.int))=true:=by
 refine zFO fun x hx=>?_;obtain ⟨r,_,rfl⟩:=zWP.mp hx;exact zA1 r
theorem zT {α:Type} {x:Option (α × Mem)} {a:α} {M:Mem} (h:Ok x fun b M'=>b=a/\M'=M):x=some (a,M):=by
 obtain ⟨b,M',e,rfl,rfl⟩:=h;exact e
theorem zE {α:Type} {x:Option (α × Mem)} {a:α} {M:Mem} {P:α->Mem->Prop} (h:x=some (a,M)) (p:P a M):Ok x P:=⟨a,M,h,p⟩
theorem zGV {c:FT} {a g:FS} {σ:Sd} {M:Mem} {P:Out->Sd->Mem->Prop} (hc:c σ M=some (false,M)) (h:OkS (g σ M) P):OkS (zX (sIf c a zBC) g σ M) P:=by
 rw[zJ,zAx];refine zE hc ?_;rw[zWQ (by decide),zAf];exact h
theorem zKK {c:FT} {a:FS} {σ:Sd} {M:Mem} {P:Out->Sd->Mem->Prop} (hc:c σ M=some (false,M)) (h:P .nx σ M):OkS (sIf c a zBC σ M) P:=by
 rw[zAx];refine zE hc ?_;rw[zWQ (by decide),zAf];exact h
theorem zW {f:FE} {σ:Sd} {M:Mem} {d:D} (h:f σ M=some (.dat d,M)):zD (toD f) zH σ M=some ([d],M):=by
 unfold zD toD zH;rw[h]
theorem zd {f:FE} {g:FA} {σ:Sd} {M:Mem} {d:D} {ds:List D} (h:f σ M=some (.dat d,M)) (hg:g σ M=some (ds,M)):zD (toD f) g σ M=some (d::ds,M):=by
 unfold zD toD;rw[h];dsimp only;rw[hg]
theorem zj {m:FF} {a:FA} {σ:Sd} {M M':Mem} {ds:List D} {d:D} (h:a σ M=some (ds,M)) (hm:m ds M=some (d,M')):zN m a σ M=some (.dat d,M'):=by
 unfold zN;rw[h];dsimp only;rw[hm]
theorem zK {k:K2} {f g:FE} {σ:Sd} {M:Mem} {x y:EV} {r:Option (EV × Mem)} (hf:f σ M=some (x,M)) (hg:g σ M=some (y,M)) (hk:k x y M=r):fOp k f g σ M=r:=by
 unfold fOp;rw[hf];dsimp only;rw[hg];exact hk
theorem zA5 {x:EV} {xs:List D} {i:Int} {d:D} {M:Mem} (h:zAF M x=some xs) (hd:atI xs i=some d):kIx x (.dat (.int i)) M=some (.dat d,M):=zT (zRx h hd ⟨rfl,rfl⟩)
theorem zDt {f:FE} {x:EV} {xs:List D} {σ:Sd} {M:Mem} (hf:f σ M=some (x,M)) (h:zAF M x=some xs):fB zBD (zU f zo) σ M=some (.dat (.int xs.length),M):=by
 unfold fB zU zo;rw[hf];exact zT ((zUa h).mpr ⟨rfl,rfl⟩)
def zDh (zA:List (List Int)) (h g:Int):Int:=(zA.getD h.toNat []).getD g.toNat 0
def zAn (zA:List (List Int)) (room:Int) (word:List Int):Int:=word.foldl (zDh zA) room
theorem zMO {zA:List (List Int)} {h:Int} (h0:0<=h) (h1:h<zA.length):atI (zA.map fun r=>D.tup (r.map D.int)) h=some (.tup ((zA.getD h.toNat []).map D.int)):=by
 refine zLi h0 ?_;rw[zWV,zWD,zWC (by omega)];rfl
theorem zCF {r:List Int} {g:Int} (h0:0<=g) (h1:g<r.length):atI (r.map D.int) g=some (.int (r.getD g.toNat 0)):=by
 refine zLi h0 ?_;rw[zWV,zWD,zWC (by omega)];rfl
theorem IsM.get {zA:List (List Int)} {l:Nat} (m:IsM zA l) {h:Int} (h0:0<=h) (h1:h<zA.length):(zA.getD h.toNat []).length=l /\ ∀ g∈zA.getD h.toNat [],0<=g/\g<zA.length:=by
 refine m.row _ ?_;rw[zWD,zWC (by omega)];exact zWg _
theorem IsM.step {zA:List (List Int)} {l:Nat} (m:IsM zA l) {h g:Int} (h0:0<=h) (h1:h<zA.length) (g0:0<=g) (g1:g<l):0<=zDh zA h g/\zDh zA h g<zA.length:=by
 obtain ⟨q1,q2⟩:=m.get h0 h1;refine q2 _ ?_;unfold zDh;rw[zWD (l:=zA.getD h.toNat []),zWC (by omega)];exact zWg _
theorem IsM.ix {zA:List (List Int)} {l:Nat} (m:IsM zA l) {h g:Int} (h0:0<=h) (h1:h<zA.length) (g0:0<=g) (g1:g<l) {f1 f2 f3:FE} {σ:Sd} {M:Mem} (e1:f1 σ M=some (.dat (mD zA),M)) (e2:f2 σ M=some (.dat (.int h),M)) (e3:f3 σ M=some (.dat (.int g),M)) :
  fOp kIx (fOp kIx f1 f2) f3 σ M=some (.dat (.int (zDh zA h g)),M):=by
 obtain ⟨q1,_⟩:=m.get h0 h1;exact zK (zK e1 e2 (zA5 zi (zMO h0 h1))) e3 (zA5 zi (zCF g0 (by omega)))
theorem zn (h:f σ M=some (.dat (.bl k),M')):tst f σ M=some (k,M'):=by unfold tst;rw[h]
theorem zR8 (hc:c σ M=some (true,M)) (h:OkS (a σ M) (nxP (fun σ1 M1=>OkS (g σ1 M1) P) P)):OkS (zX (sIf c a b) g σ M) P:=by
 rw[zJ,zAx];refine zE hc ?_;rw[zWN rfl];exact h
theorem zAR (hf:f σ M=some (.dat d,M)) (h:P (.ret d) σ M):OkS (zAV f σ M) P:=by
 rw[zAh];exact zE hf h
theorem zBN {α:Type} (as:List α) (enc out:α->D) (hi:fi σ M=some (as.map enc,gd,M)) (hgd:zAs gd (as.map enc) M) (hz:as.length<=100000)
  (he:∀ a∈as,∃ σ1,g (enc a) (zBB own σ)=some σ1/\te σ1 M=some (.dat (out a),M)):zw own fi g zAD te σ M=some (.fl (as.map out),M):=by
 refine zT (zB1.mpr ⟨_,_,_,hi,by rw[zWH];exact zV hz,?_⟩);refine Ok.mono (zBR (I:=fun r acc M'=>M'=M /\ ∃ ra rb:List α,as=rb++ra/\r=ra.map enc/\acc=rb.map out) (Q:=fun acc M'=>M'=M/\acc=as.map out) ?_ ?_ _ [] _ ⟨rfl,as,[],rfl,rfl,rfl⟩) ?_
 ·rintro x r acc M' ⟨rfl,ra,rb,hab,hr,rfl⟩;cases ra with
  |nil=>cases hr
  |cons a ra=>
   rw[zWR]at hr;obtain ⟨rfl,rfl⟩:=zXC hr;obtain ⟨σ1,e1,e2⟩:=he a (by rw[hab];simp);refine ⟨hgd,σ1,e1,zE1.mpr ?_⟩;rw[zWN rfl];refine zE e2 ?_;rw[zI];exact ⟨rfl,ra,rb++[a],by rw[hab];simp,rfl,by simp⟩
 ·rintro acc M' ⟨rfl,ra,rb,hab,hr,rfl⟩;cases ra with
  |nil=>rw[zWs]at hab;subst hab;exact ⟨hgd,rfl,rfl⟩
  |cons a ra=>cases hr
 ·rintro ys M' ⟨rfl,h⟩;rw[zYQ]at h;subst h;exact ⟨rfl,rfl⟩
theorem zCC (hf:f σ M=some (x,M)) (h:zAF M x=some xs):fB zAo (zU f zo) σ M=some (.dat (.tup xs),M):=by
 unfold fB zU zo;rw[hf];exact zT ((zFX h).mpr ⟨rfl,rfl⟩)
theorem zFW (hf:f σ M=some (.dat (.tup xs),M)):zr f σ M=some (xs,none,M):=zBb hf zi
theorem zHS (n:Nat):zCI 0 n=(List.range n).map fun (k:Nat)=>D.int k:=(zHQ n).symm
theorem zIZ (e:f σ M=some (.dat (.int j),M)) (h1:0<=j) (h2:j<2 ^ 62):zAM (zD (toD f) zH) σ M=some ((List.range j.toNat).map (fun (k:Nat)=>D.int k),none,M):=by
 rw[zCB e h1 h2,zHS]
theorem zCE (hf:f σ M=some (.dat d,M)) (h:OkS (g (σ.set i (some d)) M) P):OkS (zX (zq i f) g σ M) P:=by
 rw[zJ,zQ];exact zE hf h
theorem zSQ (h:f σ M=some (.dat d,M')):zD (toD f) zH σ M=some ([d],M'):=by
 unfold zD toD zH;rw[h]
theorem zGZ {α β:Type} (f:α->β) (d:α):∀ xs:List α,(List.range xs.length).map (fun i=>f (xs.getD i d))=xs.map f
 |[]=>rfl
 |x::xs=>by
  rw[zWf,List.range_succ_eq_map,zWR,zWW,zWR,<-zGZ f d xs];rfl
open ST
def ris (xs:List Int):List Int:=zDf (zS xs)
theorem zCr (xs:List Int) (x:Int):x∈ris xs ↔ x∈xs:=by
 unfold ris;rw[(zBq _).mem_iff,zDb]
theorem zJw (xs:List Int):(ris xs).Pairwise (· < ·):=by
 have h1:=zGr (zS xs);have h2:(ris xs).Nodup:=(zBq _).nodup_iff.mpr (zJE xs);unfold ris at h2 ⊢;exact (h1.and h2).imp fun {a b} h=>by have:=h.1;have:=h.2;omega
theorem zFh:∀ {xs ys:List Int},xs.Pairwise (· < ·)->ys.Pairwise (· < ·)->(∀ x,x∈xs ↔ x∈ys)->xs=ys
 |[],[],_,_,_=>rfl
 |[],y::ys,_,_,h=>by have:=(h y).mpr zWM;cases this
 |x::xs,[],_,_,h=>by have:=(h x).mp zWM;cases this
 |x::xs,y::ys,h1,h2,h=>by
  have hx:=zYI.mp h1;have hy:=zYI.mp h2;have e:x=y:=by
   have a:=(h x).mp zWM;have b:=(h y).mpr zWM;rcases zWK.mp a with z|z
   ·exact z
   ·rcases zWK.mp b with q|q
    ·exact q.symm
    ·have:=hx.1 y q;have:=hy.1 x z;omega
  subst e;rw[zFh hx.2 hy.2 fun z=>?_];constructor
  ·intro hz;rcases zWK.mp ((h z).mp (zWL _ hz))with q|q
   ·subst q;have:=hx.1 _ hz;omega
   ·exact q
  ·intro hz;rcases zWK.mp ((h z).mpr (zWL _ hz))with q|q
   ·subst q;have:=hy.1 _ hz;omega
   ·exact q
theorem zJp (h:∀ x,x∈xs ↔ x∈ys):ris xs=ris ys:=zFh (zJw xs) (zJw ys) fun x=>by rw[zCr,zCr];exact h x
theorem zMQ (h:xs.Pairwise (· < ·)):ris xs=xs:=zFh (zJw xs) h fun x=>zCr xs x
theorem zMu (xs:List Int):(ris xs).length<=xs.length:=by
 unfold ris;rw[(zBq _).length_eq];exact zBz xs
theorem zTf (h:0<xs.length):0<(ris xs).length:=by
 cases xs with
 |nil=>cases h
 |cons x r=>exact List.length_pos_of_mem ((zCr (x::r) x).mpr zWM)
theorem zQ9 (f:Int->Int) (xs:List Int):ris ((ris xs).map f)=ris (xs.map f):=zJp fun x=>by simp[zCr]
theorem zQ4 (h:zw own fi g tc te σ M=some (.fl (ks.map D.int),M)) (hz:ks.length<=4000):zIg own fi g tc te σ M=some (zS ks,M):=by
 unfold zIg;rw[h];dsimp only;rw[zCm];dsimp only;rw[zWN (by unfold scanBound;omega)]
theorem zQZ (h:fz σ M=some (zS ks,M)) (hz:(zS ks).length<64):zGk fz σ M=some (.fl ((ris ks).map D.int),M):=by
 unfold zGk;rw[h];dsimp only;rw[zWN hz];rfl
noncomputable def zFe:FS:=(zAV (fB zAo (zU (zGk (zIg [3] (zr (zC 1)) (gN 3) zAD (fOp kIx (fOp kIx (zC 0) (zC 3)) (zC 2)))) zo)))
noncomputable def zBJ:FF:=zFJ (zA7 4 zFe)
def setR (zA:List (List Int)) (S:List Int) (g:Int):List Int:=ris (S.map fun h=>zDh zA h g)
def zHn (zA:List (List Int)) (S word:List Int):List Int:=word.foldl (setR zA) S
structure IsS (zA:List (List Int)) (S:List Int):Prop where
 pw:S.Pairwise (· < ·)
 n0:0<S.length
 mem:∀ x∈S,0<=x/\x<(zA.length:Int)
theorem zOt:∀ {S:List Int} {a:Int} {n:Nat},S.Pairwise (· < ·)->(∀ x∈S,a<=x/\x<a+(n:Int))->S.length<=n
 |[],_,_,_,_=>zWu _
 |x::S,a,n,h,hm=>by
  have hx:=zYI.mp h;obtain ⟨m0,m1⟩:=hm x zWM;have hn:0<n:=by omega
  have:=zOt (S:=S) (a:=x+1) (n:=(a+n-(x+1)).toNat) hx.2 fun y hy=>by
   have:=hx.1 y hy;have:=(hm y (zWL _ hy)).2;omega
  simp only[zWf];omega
theorem IsS.len (h:IsS zA S):S.length<=zA.length:=zOt h.pw (a:=0) fun x hx=>by have:=h.mem x hx;omega
theorem IsM.setR {zA:List (List Int)} {l:Nat} (m:IsM zA l) {S:List Int} (s:IsS zA S) {g:Int} (g0:0<=g) (g1:g<l):IsS zA (setR zA S g):=by
 refine ⟨zJw _,zTf (by rw[zWH];exact s.n0),fun x hx=>?_⟩;obtain ⟨y,hy,rfl⟩:=zWP.mp ((zCr _ _).mp hx);obtain ⟨y0,y1⟩:=s.mem y hy;exact m.step y0 y1 g0 g1
theorem zMo (zA:List (List Int)):∀ (word:List Int) (S:List Int),zHn zA (ris S) word=ris (S.map fun r=>zAn zA r word)
 |[],S=>by show ris S=ris (S.map fun r=>r);rw[List.map_id']
 |g::w,S=>by
  show zHn zA (setR zA (ris S) g) w=_;unfold setR;rw[zQ9];rw[zMo zA w];rw[zWW];rfl
theorem zPx (h:S.Pairwise (· < ·)) (word:List Int):zHn zA S word=ris (S.map fun r=>zAn zA r word):=by
 have:=zMo zA word S;rw[zMQ h]at this;exact this
def tI (xs:List Int):D:=.tup (xs.map D.int)
theorem zJN {zA:List (List Int)} {l:Nat} (m:IsM zA l) (hR:zA.length<64) {S:List Int} (s:IsS zA S) {g:Int} (g0:0<=g) (g1:g<l) {M:Mem}:zBJ [mD zA,tI S,.int g] M=some (tI (setR zA S g),M):=by
 refine zT ?_;unfold zBJ;refine zER (by unfold D.unds D.unds D.unds D.unds;rw[zEF];simp[tI,zA1,D.und,zu]) ?_;rw[zv];unfold zFe;have hl:=s.len;have hz:(zS (S.map fun h=>zDh zA h g)).length<64:=by have:=zBz (S.map fun h=>zDh zA h g);rw[zWH]at this;omega
 refine zAR (d:=tI (setR zA S g)) ?_ ⟨by unfold tI;exact zA1 _,rfl,rfl⟩;refine zCC (zQZ (ks:=S.map fun h=>zDh zA h g) (zQ4 ?_ (by rw[zWH];omega)) hz) zCZ;refine (zBN S D.int (fun h=> .int (zDh zA h g)) (zFW rfl) trivial (by omega) fun h hh=>⟨_,rfl,?_⟩).trans ?_
 ·obtain ⟨h0,h1⟩:=s.mem h hh;exact m.ix h0 h1 g0 g1 rfl rfl rfl
 ·rw[zWW];rfl
end Law
namespace Law
open PySem PySem.Spec PyProof.Rows L2 L3 ST
theorem zMb (hgd:zAs gd all M) (hg:g x σ=some σ1) (hk:tk σ1 M=some (.dat k,M)) (hv:tv σ1 M=some (.dat v,M)) (hp:zED M n k v=some M'):zCY g zAD tk tv σ n all gd (x::r) M=zCY g zAD tk tv σ n all gd r M':=by
 rw[zCY];rw[zWN hgd,hg];have et:zAD σ1 M=some (true,M):=rfl;have e1:toD tk σ1 M=some (k,M):=by unfold toD;rw[hk]
 have e2:toD tv σ1 M=some (v,M):=by unfold toD;rw[hv]
 dsimp only;rw[et];dsimp only;rw[e1];dsimp only;rw[e2];dsimp only;rw[hp]
theorem zIo (hgd:zAs gd all M):zCY g tc tk tv σ n all gd [] M=some M:=by
 rw[zCY,zWN hgd]
theorem zTN {M:Mem} {n:Nat} {xs:List D} {k:Nat} {d:D} {Q:D->Mem->Prop} (h:M[n]?=some (.lst xs)) (hk:xs[k]?=some d) (hz:k<90000) (q:Q d (M.set n (.lst (xs.eraseIdx k)))):Ok (zHp (.dat (.ref n)) [.int (k:Int)] M) Q:=by
 refine ⟨d,M.set n (.lst (xs.eraseIdx k)),?_,q⟩;have hl:k<xs.length:=(zWB.mp hk).1;unfold zHp;dsimp only;rw[h];dsimp only;have e:ixN xs.length (k:Int)=some k:=by unfold ixN;rw[zWN (by omega),zWN (by omega)];simp
 rw[e];dsimp only;rw[hk];dsimp only;rw[zWN ⟨by omega,by omega⟩]
theorem zB7 (e:f σ M=some (.dat (mD zA),M)):fB zBD (zU f zo) σ M=some (.dat (.int zA.length),M):=by
 have:=zDt e zi;rw[zWH]at this;exact this
theorem zIz (m:IsM zA l) (e:f σ M=some (.dat (mD zA),M)):fB zBD (zU (fOp kIx f (fC (.int 0))) zo) σ M=some (.dat (.int l),M):=by
 have r0:=m.r0;have:=zDt (zK (g:=fC (.int 0)) e rfl (zA5 zi (zMO (h:=0) (by omega) (by omega)))) zi;rw[zWH,(m.get (h:=0) (by omega) (by omega)).1]at this;exact this
end Law
namespace Law
open PySem PySem.Spec PyProof.Rows L2 L3 ST
theorem oS (h:f σ M=some (.dat (.int i),M)):zBO f σ M=some (some i,M):=by unfold zBO;rw[h]
theorem zOj (h0:0<p) (hx:0<xs.length):L3.zDS xs (some p) none=xs.drop p.toNat:=by
 have e:p=((p.toNat:Nat):Int):=by omega
 have s:HT.sIx xs.length 0 (some p)=min p.toNat xs.length:=by
  have q:=HT.zGX xs.length 0 p.toNat;rw[<-e]at q;exact q
 have z:HT.sIx xs.length xs.length none=xs.length:=rfl;unfold L3.zDS;rw[s,z];rcases Nat.le_total p.toNat xs.length with q|q
 ·rw[Nat.min_eq_left q,List.take_of_length_le (by simp)]
 ·rw[Nat.min_eq_right q,List.drop_of_length_le (zWE _),List.drop_of_length_le q];simp
end Law
namespace Lac
open PySem PySem.Spec PyProof.Rows L2 L3 ST Law
theorem zb (h:P (.ref M.length) (M++[.lst xs])):zGA P (.fl xs) M:=h
theorem zY (A:Mem) (u:MO):(A++[u])[A.length]?=some u:=by simp
noncomputable def zDu:FS:=(zAV (zNK (fB zBD (zU (zC 0) zo))))
noncomputable def zAE:FF:=zA7 1 zDu
noncomputable def zEp:FS:=(zAV (zFs [1,2] [2] (zr (zC 0)) (gN 1) zAD (zr (zC 0)) (gN 2) (tst (fOp kLt (zC 1) (zC 2))) (zAr (zD (toD (zC 1)) (zD (toD (zC 2)) zH)))))
noncomputable def zAO:FF:=zA7 3 zEp
theorem zK9 {α:Type} (enc out:α->D) (keep:α->Bool):∀ (as:List α),(∀ a∈as,∃ σ1,g (enc a) σ=some σ1/\tc σ1 M=some (keep a,M)/\(keep a=true->te σ1 M=some (.dat (out a),M)))->zA0 g tc te σ all none (as.map enc) M=some ((as.filter keep).map out,M)
 |[],_=>by
  rw[List.map_nil];unfold zA0;rw[zWN (show zAs none all M from trivial)];rfl
 |a::r,h=>by
  obtain ⟨σ1,e1,e2,e3⟩:=h a zWM;have ih:=zK9 (all:=all) (σ:=σ) enc out keep r fun b hb=>h b (zWL _ hb);rw[zWR];unfold zA0;rw[zWN (show zAs none all M from trivial),e1];dsimp only;rw[e2];cases hk:keep a with
  |false=>
   dsimp only;rw[ih,List.filter_cons_of_neg (by simp[hk])]
  |true=>
   dsimp only;rw[show toD te σ1 M=some (out a,M) by unfold toD;rw[e3 hk]];dsimp only;rw[ih,List.filter_cons_of_pos hk];rfl
theorem zPC {α β:Type} (as:List α) (enc:α->D) (bs:α->List β) (enc2:β->D) (keep:α->β->Bool) (out:α->β->D) (B:Nat)
  (hi:fi σ M=some (as.map enc,none,M)) (hB:∀ a∈as,(bs a).length<=B) (hz:as.length*B<=90000)
  (he:∀ a∈as,∃ σ1,fg (enc a) (zBB own σ)=some σ1/\fi2 σ1 M=some ((bs a).map enc2,none,M) /\ ∀ b∈bs a,∃ σ2,fg2 (enc2 b) (zBB own2 σ1)=some σ2/\tc2 σ2 M=some (keep a b,M)/\(keep a b=true->te σ2 M=some (.dat (out a b),M))) :
  zFs own own2 fi fg zAD fi2 fg2 tc2 te σ M=some (.fl (as.flatMap fun a=>((bs a).filter (keep a)).map (out a)),M):=by
 have key:∀ (r:List α) (acc:List D),(∀ a∈r,a∈as)->acc.length+r.length*B<=90000->zJI fg zAD fi2 own2 fg2 tc2 te (zBB own σ) (as.map enc) none (r.map enc) acc M=some (acc++r.flatMap fun a=>((bs a).filter (keep a)).map (out a),M):=by
  intro r;induction r with
  |nil=>
   intro acc _ _;rw[List.map_nil];unfold zJI;rw[zWN (show zAs none (as.map enc) M from trivial)];simp
  |cons a r ih=>
   intro acc hs hl;have ha:=hs a zWM;obtain ⟨σ1,e1,e2,e3⟩:=he a ha;have hb:=hB a ha;have hlen:(((bs a).filter (keep a)).map (out a)).length<=(bs a).length:=by rw[zWH];exact zYS _ _
   rw[zWf,Nat.add_mul]at hl;rw[zWR];unfold zJI;rw[zWN (show zAs none (as.map enc) M from trivial),e1];dsimp only;rw[show zAD σ1 M=some (true,M)from rfl];dsimp only;rw[e2];dsimp only;rw[zWN (zV (by rw[zWH];omega)),zK9 enc2 (out a) (keep a) (bs a) e3];dsimp only;rw[ih _ (fun b hb=>hs b (zWL _ hb)) (by rw[zWO];omega)];rw[List.flatMap_cons,zXE]
 unfold zFs;rw[hi];dsimp only;rw[key as [] (fun _ h=>h) (by simpa using hz)];simp
def zO (xs:List Int):List (List Int):=xs.flatMap fun a=>(xs.filter fun b=>decide (a<b)).map fun b=>[a,b]
theorem zEE (hz:xs.length<=200):zAO [tI xs] M=some (.ref M.length,M++[.lst ((zO xs).map tI)]):=by
 suffices h:Ok (zAO [tI xs] M) fun d M'=>d=.ref M.length/\M'=M++[.lst ((zO xs).map tI)] by
  obtain ⟨d,M',e,rfl,rfl⟩:=h;exact e
 unfold zAO;rw[zv];unfold zEp;rw[zAh];have hq:xs.length*xs.length<=90000:=zWZ (zXk hz hz) (by decide);refine zE (zPC xs D.int (fun _=>xs) D.int (fun a b=>decide (a<b)) (fun a b=>tI [a,b]) xs.length (zFW rfl) (fun _ _=>zWE _) hq fun a ha=>⟨_,rfl,zFW rfl,fun b hb=>⟨_,rfl,?_,fun _=>?_⟩⟩) (zb ⟨rfl,?_⟩)
 ·exact zn (zK (x:=.dat (.int a)) (y:=.dat (.int b)) rfl rfl (zT (zTr.mpr ⟨rfl,rfl⟩)))
 ·unfold zAr;rw[zd (d:=.int a) rfl (zW (d:=.int b) rfl)];dsimp only;rw[zWN (zV (by simp))];rfl
 ·congr 3;unfold zO;rw[List.map_flatMap];congr 1;funext a;rw[zWW];rfl
theorem zp:p∈zO xs ↔ ∃ a b,p=[a,b]/\a∈xs/\b∈xs/\a<b:=by
 unfold zO;rw[List.mem_flatMap];constructor
 ·rintro ⟨a,ha,h⟩;obtain ⟨b,hb,rfl⟩:=zWP.mp h;obtain ⟨h1,h2⟩:=zXJ.mp hb;exact ⟨a,b,rfl,ha,h1,zW4 h2⟩
 ·rintro ⟨a,b,rfl,ha,hb,hlt⟩;exact ⟨a,ha,zWP.mpr ⟨b,zXJ.mpr ⟨hb,zXG hlt⟩,rfl⟩⟩
theorem zC8 (hz:zA.length<=1000):zAE [mD zA] M=some (tI ((List.range zA.length).map fun (k:Nat)=>(k:Int)),M):=by
 refine zT ?_;unfold zAE;rw[zv];unfold zDu;refine zAR (d:=tI ((List.range zA.length).map fun (k:Nat)=>(k:Int))) ?_ ⟨rfl,rfl⟩;unfold zNK;rw[show fB zBD (zU (zC 0) zo) ([mD zA].map some++List.replicate (1 - [mD zA].length) none) M=some (.dat (.int zA.length),M)from zB7 rfl];dsimp only;rw[zWN ⟨by omega,by omega⟩];unfold upD tI;rw[zWW,show (zA.length:Int).toNat=zA.length by omega];rfl
def zIv (g:List Int):List Key:=g.map Sum.inl
theorem zKM:∀ {a b:List Int},zIv a=zIv b->a=b
 |[],[],_=>rfl
 |[],_::_,h=>by cases h
 |_::_,[],h=>by cases h
 |x::a,y::b,h=>by
  have h1:=(zXC h).1;have h2:=zKM (zXC h).2;cases h1;rw[h2]
theorem zHP:∀ g:List Int,zGi (g.map D.int)=some (zIv g)
 |[]=>rfl
 |x::r=>by
  rw[zWR];unfold zGi;rw[zHP r];rfl
theorem zHg (g:List Int):tkD (tI g)=some (zIv g):=zHP g
abbrev zIx (T:List (List Int × D)):List (D × D):=T.map fun q=>(tI q.1,q.2)
abbrev dT (T:List (List Int × D)):MO:=.dicT (zIx T)
def zG:List (List Int × D)->List Int->Option D
 |[],_=>none
 |q::r,g=>if q.1=g then some q.2 else zG r g
def zDM (T:List (List Int × D)) (g:List Int) (v:D):List (List Int × D):=match zG T g with
 |some _=>T.map fun q=>if q.1=g then (q.1,v) else q
 |none=>T++[(g,v)]
theorem zJV (a g:List Int):decide (tkD (tI a)=some (zIv g))=decide (a=g):=by
 rw[zHg];by_cases h:a=g
 ·subst h;simp
 ·rw[zWh h,zWh];intro e;exact h (zKM (zW8 e))
theorem zQo (g:List Int):∀ T:List (List Int × D),zB8 tkD (zIx T) (zIv g)=zG T g
 |[]=>rfl
 |q::r=>by
  have ih:=zQo g r;unfold zB8 at ih ⊢;unfold zIx at ih ⊢;rw[zWR,zXu];rw[zJV];unfold zG;by_cases h:q.1=g
  ·rw[zXG h,zWN h];rfl
  ·rw[zWh h,zWQ h];exact ih
theorem zSW (g:List Int):∀ T:List (List Int × D),((zIx T).any fun p=>decide (tkD p.1=some (zIv g)))=(zG T g).isSome
 |[]=>rfl
 |q::r=>by
  have ih:=zSW g r;unfold zIx at ih ⊢;rw[zWR,List.any_cons,zJV];unfold zG;by_cases h:q.1=g
  ·rw[zXG h,zWN h];rfl
  ·rw[zWh h,zWQ h,Bool.false_or];exact ih
theorem zUo (T:List (List Int × D)) (g:List Int) (v:D):zHs tkD (zIx T) (zIv g) (tI g) v=zIx (zDM T g v):=by
 unfold zHs zDM;rw[zSW];cases h:zG T g with
 |none=>
  rw[zWQ (by simp)];unfold zIx;rw[zW0];rfl
 |some d=>
  rw[zWN (by simp)];unfold zIx;rw[zWW,zWW];apply List.map_congr_left;intro q _;show (if tkD (tI q.1)=some (zIv g) then (tI q.1,v) else (tI q.1,q.2))=(tI (if q.1=g then (q.1,v) else q).1,(if q.1=g then (q.1,v) else q).2);have hd:=zJV q.1 g;by_cases hq:q.1=g
  ·rw[zXG hq]at hd;rw[zWN (zW4 hd),zWN hq]
  ·rw[zWh hq]at hd;rw[zWQ (of_decide_eq_false hd),zWQ hq]
theorem zEM (T:List (List Int × D)) (g h:List Int) (v:D):zG (zDM T g v) h=if g=h then some v else zG T h:=by
 have app:∀ (T:List (List Int × D)),zG T g=none->zG (T++[(g,v)]) h=if g=h then some v else zG T h:=by
  intro T;induction T with
  |nil=>intro _;rfl
  |cons q r ih=>
   intro e;unfold zG at e;by_cases hq:q.1=g
   ·rw[zWN hq]at e;cases e
   ·rw[zWQ hq]at e;show (if q.1=h then some q.2 else zG (r++[(g,v)]) h)=if g=h then some v else if q.1=h then some q.2 else zG r h
    rw[ih e];by_cases h1:q.1=h
    ·rw[zWN h1,zWN h1,zWQ (fun z=>hq (h1.trans z.symm))]
    ·rw[zWQ h1,zWQ h1]
 have mp:∀ (T:List (List Int × D)),(zG T g).isSome=true->zG (T.map fun q=>if q.1=g then (q.1,v) else q) h=if g=h then some v else zG T h:=by
  intro T;by_cases hgh:g=h
  ·subst hgh;induction T with
   |nil=>intro e;cases e
   |cons q r ih=>
    intro e;rw[zWR];unfold zG;by_cases hq:q.1=g
    ·rw[zWN hq];simp[hq]
    ·rw[zWQ hq,zWQ hq];unfold zG at e;rw[zWQ hq]at e;rw[ih e,zWN rfl,zWN rfl]
  ·intro hx;clear hx;rw[zWQ hgh];induction T with
   |nil=>rfl
   |cons q r ih=>
    rw[zWR];unfold zG;by_cases hq:q.1=g
    ·have:¬ q.1=h:=fun z=>hgh (hq.symm.trans z);rw[zWN hq];rw[zWQ this,zWQ this];exact ih
    ·rw[zWQ hq];by_cases h1:q.1=h
     ·rw[zWN h1,zWN h1]
     ·rw[zWQ h1,zWQ h1];exact ih
 unfold zDM;cases e:zG T g with
 |none=>exact app T e
 |some d=>exact mp T (by rw[e];rfl)
theorem zKB (T:List (List Int × D)) (g:List Int) (v:D):(zDM T g v).length<=T.length+1:=by
 unfold zDM;cases zG T g with
 |none=>simp
 |some d=>simp
section
variable {M:Mem} {n:Nat} {T:List (List Int × D)} {g:List Int}
theorem dgT (h:M[n]?=some (dT T)):zDD M (.dat (.ref n)) (tI g)=some (zG T g):=by
 unfold zDD;dsimp only;rw[h];dsimp only;rw[zHg];dsimp only;rw[zQo]
theorem zLZ (h:M[n]?=some (dT T)):zA8 neg (.dat (tI g)) (.dat (.ref n)) M=some (.dat (.bl (if neg then !(zG T g).isSome else (zG T g).isSome)),M):=by
 unfold zA8;dsimp only;rw[dgT h]
theorem zIU (h:M[n]?=some (dT T)) (hd:zG T g=some d):zAA (.dat (.ref n)) (.dat (tI g)) M=some (.dat d,M):=by
 unfold zAA;dsimp only;rw[dgT h,hd]
theorem zM6 (h:M[n]?=some (dT T)) (hz:T.length<90000):zED M n (tI g) v=some (M.set n (dT (zDM T g v))):=by
 unfold zED;rw[h];dsimp only;rw[zHg];dsimp only;rw[zWN (by rw[zWH];exact zWX hz (zV (by omega))),zUo]
end
end Lac
namespace Lac
open PySem PySem.Spec PyProof.Rows L2 L3 ST Law
noncomputable def zDz:FS:=(zX (zq 1 zLg)
  (zX (zBs (zr (zN zAO (zD (toD (zN zAE (zD (toD (zC 0)) zH))) zH))) (gN 2) (zBs (zAM (zD (toD (fB zBD (zU (fOp kIx (zC 0) (fC (.int 0))) zo))) zH)) (gN 3) (zX (zq 4 (zN zBJ (zD (toD (zC 0)) (zD (toD (zC 2)) (zD (toD (zC 3)) zH)))))
  (zX (sIf (tst (fOp (zA8 true) (zC 4) (zC 1))) (zCJ (zAw zH) (zC 1) (zC 4)) zBC)
  (zBP (fM zAP (fOp zAA (zC 1) (zC 4)) (zD (toD (zC 2)) zH)))))))
  (zAV (zC 1))))
noncomputable def zB5:FF:=zA7 5 zDz
def zDB (zA:List (List Int)) (ps:List (List Int × Int)) (g:List Int):List (List Int):=(ps.filter fun q=>decide (setR zA q.1 q.2=g)).map (·.1)
theorem zGg (zA:List (List Int)) (ps:List (List Int × Int)) (p:List Int) (x:Int) (g:List Int):zDB zA (ps++[(p,x)]) g=zDB zA ps g++(if setR zA p x=g then [p] else []):=by
 unfold zDB;rw[List.filter_append,zW0];congr 1;by_cases h:setR zA p x=g
 ·rw[zWN h,List.filter_cons_of_pos (by simpa using h)];rfl
 ·rw[zWQ h,List.filter_cons_of_neg (by simpa using h)];rfl
structure Sr (zA:List (List Int)) (M:Mem) (jd lo:Nat) (ps:List (List Int × Int)):Prop where
 ex:∃ T:List (List Int × D),M[jd]?=some (dT T)/\T.length<=ps.length/\(∀ g d,zG T g=some d -> ∃ j,d=.ref j/\lo<j/\M[j]?=some (.lst ((zDB zA ps g).map tI)))/\(∀ g,zG T g=none->zDB zA ps g=[]) /\ ∀ g g' j,zG T g=some (.ref j)->zG T g'=some (.ref j)->g=g'
theorem zNs {zA:List (List Int)} {l:Nat} (m:IsM zA l) (hR:zA.length<64) {M:Mem} {jd lo:Nat} {ps:List (List Int × Int)} (hps:ps.length<50000) (hlo:jd<lo) (hlo2:lo<M.length) (sr:Sr zA M jd lo ps) {p:List Int} (hp:IsS zA p) {x:Int} (x0:0<=x) (x1:x<l) {y4:Option D} :
  OkS (zX (zq 4 (zN zBJ (zD (toD (zC 0)) (zD (toD (zC 2)) (zD (toD (zC 3)) zH))))) (zX (sIf (tst (fOp (zA8 true) (zC 4) (zC 1))) (zCJ (zAw zH) (zC 1) (zC 4)) zBC) (zBP (fM zAP (fOp zAA (zC 1) (zC 4)) (zD (toD (zC 2)) zH)))) [some (mD zA),some (.ref jd),some (tI p),some (.int x),y4] M)
   fun o σ' M'=>o=.nx/\(∃ y,σ'=[some (mD zA),some (.ref jd),some (tI p),some (.int x),y])/\Sr zA M' jd lo (ps++[(p,x)])/\M.length<=M'.length /\ ∀ j,j<=lo->j≠jd->M'[j]?=M[j]?:=by
 obtain ⟨T,ed,hT,h1,h2,h3⟩:=sr.ex;refine zCE (zj (zd rfl (zd rfl (zW rfl))) (zJN m hR hp x0 x1)) ?_;generalize hg:setR zA p x=goal;show OkS (zX _ _ [some (mD zA),some (.ref jd),some (tI p),some (.int x),some (tI goal)] M) _;rw[zJ,zAx];refine zE (M:=M) (a:=!(zG T goal).isSome) (zn (zK (x:=.dat (tI goal)) (y:=.dat (.ref jd)) rfl rfl (zLZ ed))) ?_
 have last:∀ (A:Mem) (T':List (List Int × D)) (j:Nat),A[jd]?=some (dT T')->zG T' goal=some (.ref j)->lo<j->A[j]?=some (.lst ((zDB zA ps goal).map tI))->T'.length<=ps.length+1->M.length<=A.length->(∀ j,j<=lo->j≠jd->A[j]?=M[j]?) ->
   (∀ g d,zG T' g=some d -> ∃ j,d=.ref j/\lo<j/\A[j]?=some (.lst ((zDB zA ps g).map tI)))->(∀ g,zG T' g=none->zDB zA ps g=[])->(∀ g g' j,zG T' g=some (.ref j)->zG T' g'=some (.ref j)->g=g') ->
   OkS (zBP (fM zAP (fOp zAA (zC 1) (zC 4)) (zD (toD (zC 2)) zH)) [some (mD zA),some (.ref jd),some (tI p),some (.int x),some (tI goal)] A)
    fun o σ' M'=>o=.nx/\(∃ y,σ'=[some (mD zA),some (.ref jd),some (tI p),some (.int x),y])/\Sr zA M' jd lo (ps++[(p,x)])/\M.length<=M'.length /\ ∀ j,j<=lo->j≠jd->M'[j]?=M[j]?:=by
  intro A T' j ea el hj ej hz hle hfr k1 k2 k3;rw[zBj];have hfl:(zDB zA ps goal).length<=ps.length:=by unfold zDB;rw[zWH];exact zYS _ _
  have jl:j<A.length:=(zWB.mp ej).1;refine zHM.mpr (zE (zK (x:=.dat (.ref jd)) (y:=.dat (tI goal)) rfl rfl (zIU ea el)) ⟨⟨_,zAd ej⟩,zE (zW (d:=tI p) rfl) ?_⟩);rw[zCW ej (by rw[zWH];exact zWX (m:=95000) (by omega) (zV (by omega)))];refine ⟨rfl,⟨_,rfl⟩,⟨T',by rw[zWc (by omega)];exact ea,by simpa using hz,fun g d hd=>?_,fun g hd=>?_,k3⟩,by simpa using hle,fun i hi hn=>by rw[zWc (by omega)];exact hfr i hi hn⟩
  ·obtain ⟨j',rfl,hj',ej'⟩:=k1 g d hd;refine ⟨j',rfl,hj',?_⟩;rw[zGg,hg];by_cases hgg:goal=g
   ·subst hgg;rw[el]at hd;cases hd;rw[zW2 jl,zWN rfl,zW0];rfl
   ·rw[zWQ hgg,zWs];have:j≠j':=fun z=>hgg (k3 goal g j el (by rw[z];exact hd));rw[zWc this];exact ej'
  ·rw[zGg,hg,zWQ (fun z=>by rw[<-z,el]at hd;cases hd),zWs];exact k2 g hd
 cases hl:zG T goal with
 |some d=>
  obtain ⟨j,rfl,hj,ej⟩:=h1 goal d hl;rw[zWQ (by simp),zAf,zM];exact last M T j ed hl hj ej (by omega) (zWE _) (fun _ _ _=>rfl) h1 h2 h3
 |none=>
  rw[zWN (by simp)];have e0:=h2 goal hl;have jdl:jd<M.length:=(zWB.mp ed).1;have ed':(M++[MO.lst ([]:List D)])[jd]?=some (dT T):=by rw[zWF jdl];exact ed
  refine ⟨.nx,[some (mD zA),some (.ref jd),some (tI p),some (.int x),some (tI goal)],(M++[MO.lst ([]:List D)]).set jd (dT (zDM T goal (.ref M.length))),?_,?_⟩
  ·unfold zCJ;rw[show toD (zAw zH) [some (mD zA),some (.ref jd),some (tI p),some (.int x),some (tI goal)] M=some (.ref M.length,M++[.lst []]) by
    unfold toD zAw zH;dsimp only;rw[zWN (zV (by simp))]]
   dsimp only;rw[show toD (zC 1) [some (mD zA),some (.ref jd),some (tI p),some (.int x),some (tI goal)] (M++[.lst []])=some (.ref jd,M++[.lst []])from rfl];dsimp only;rw[show toD (zC 4) [some (mD zA),some (.ref jd),some (tI p),some (.int x),some (tI goal)] (M++[.lst []])=some (tI goal,M++[.lst []])from rfl];dsimp only;rw[zM6 ed' (by omega)]
  rw[zM];have hput:=fun g=>zEM T goal g (.ref M.length);refine last _ (zDM T goal (.ref M.length)) M.length (zW2 (by simp;omega)) (by rw[hput,zWN rfl]) hlo2 ?_ (by have:=zKB T goal (.ref M.length);omega) (by simp) (fun i hi hn=>?_) (fun g d hd=>?_) (fun g hd=>?_) (fun g g' j hd hd'=>?_)
  ·rw[zWc (by omega),e0];simp
  ·rw[zWc (Ne.symm hn),zWF (by omega)]
  ·rw[hput]at hd;by_cases hgg:goal=g
   ·subst hgg;rw[zWN rfl]at hd;cases hd;exact ⟨M.length,rfl,hlo2,by rw[zWc (by omega),e0];simp⟩
   ·rw[zWQ hgg]at hd;obtain ⟨j,rfl,hj,ej⟩:=h1 g d hd;exact ⟨j,rfl,hj,by rw[zWc (by omega),zWF (zWB.mp ej).1];exact ej⟩
  ·rw[hput]at hd;by_cases hgg:goal=g
   ·rw[zWN hgg]at hd;cases hd
   ·rw[zWQ hgg]at hd;exact h2 g hd
  ·rw[hput]at hd hd';by_cases a:goal=g
   ·by_cases b:goal=g'
    ·rw[<-a,<-b]
    ·rw[zWN a]at hd;rw[zWQ b]at hd';cases hd;obtain ⟨j,e,_,ej⟩:=h1 g' _ hd';cases e;exact absurd (zWB.mp ej).1 (zWq _)
   ·rw[zWQ a]at hd;by_cases b:goal=g'
    ·rw[zWN b]at hd';cases hd';obtain ⟨j,e,_,ej⟩:=h1 g _ hd;cases e;exact absurd (zWB.mp ej).1 (zWq _)
    ·rw[zWQ b]at hd';exact h3 g g' j hd hd'
def zF (zA:List (List Int)):List Int:=(List.range zA.length).map fun (k:Nat)=>(k:Int)
def zCd (l:Nat) (ps:List (List Int)):List (List Int × Int):=ps.flatMap fun p=>(List.range l).map fun (x:Nat)=>(p,(x:Int))
theorem zHX (l:Nat) (ps:List (List Int)):(zCd l ps).length=ps.length*l:=by
 unfold zCd;induction ps with
 |nil=>simp
 |cons p r ih=>rw[List.flatMap_cons,zWO,ih,zWH,zX5,zWf,Nat.add_mul];omega
theorem zCX (xs:List Int):(zO xs).length<=xs.length*xs.length:=by
 unfold zO;have:∀ (r:List Int),(r.flatMap fun a=>(xs.filter fun b=>decide (a<b)).map fun b=>[a,b]).length<=r.length*xs.length:=by
  intro r;induction r with
  |nil=>simp
  |cons a r ih=>
   rw[List.flatMap_cons,zWO,zWH,zWf,Nat.add_mul];have:=zYS (fun b=>decide (a<b)) xs;omega
 exact this xs
theorem zM4 (h:p∈zO (zF zA)):IsS zA p:=by
 obtain ⟨a,b,rfl,ha,hb,hlt⟩:=zp.mp h;obtain ⟨i,hi,rfl⟩:=zWP.mp ha;obtain ⟨j,hj,rfl⟩:=zWP.mp hb;have:=zWm.mp hi;have:=zWm.mp hj;refine ⟨by simp;omega,by simp,fun x hx=>?_⟩;simp only[zWK,zWd,zXT]at hx;omega
theorem zDW {M M1:Mem} (ha:a σ M=some (ds,M)) (hg:g ds M=some (.ref j,M1)) (hj:M1[j]?=some (.lst xs)):zr (zN g a) σ M=some (xs,zDA (.dat (.ref j)) xs,M1):=by
 have:zN g a σ M=some (.dat (.ref j),M1):=by unfold zN;rw[ha];dsimp only;rw[hg]
 unfold zr;rw[this];dsimp only;rw[zf hj]
theorem zR6 {zA:List (List Int)} {l:Nat} (m:IsM zA l) (hR:zA.length<64) (hl:l<=12) {M:Mem}:Ok (zB5 [mD zA] M) fun d M'=>d=.ref M.length/\Sr zA M' M.length (M.length+1) (zCd l (zO (zF zA)))/\M.length+1<M'.length /\ ∀ j,j<M.length->M'[j]?=M[j]?:=by
 unfold zB5;rw[zv];unfold zDz;rw[zJ,zQ];refine zE (M:=M++[.dicT []]) (a:=.dat (.ref M.length)) rfl ?_;rw[zI,zM,zJ,zAi];have hrl:(zF zA).length=zA.length:=by unfold zF;simp
 have epr:=zEE (xs:=zF zA) (by omega) (M:=M++[.dicT []]);refine ⟨_,_,_,zDW (zW (d:=tI (zF zA)) (zj (zW (d:=mD zA) rfl) (zC8 (by omega)))) epr (zY _ _),?_⟩;rw[show (M++[MO.dicT []]).length=M.length+1 by simp];generalize hP:zO (zF zA)=P;have hPl:P.length<=3969:=by
  rw[<-hP];have h1:=zCX (zF zA);rw[hrl]at h1;exact zWZ h1 (zXk (show zA.length<=63 by omega) (show zA.length<=63 by omega))
 have e1:(M++[MO.dicT []]++[MO.lst (P.map tI)])[M.length+1]?=some (.lst (P.map tI)):=by
  rw[zXE,zXI (by omega)];simp
 have e0:(M++[MO.dicT []]++[MO.lst (P.map tI)])[M.length]?=some (dT []):=by
  rw[zXE,zXI (by omega)];simp
 have ef:∀ j,j<M.length->(M++[MO.dicT []]++[MO.lst (P.map tI)])[j]?=M[j]?:=fun j hj=>by rw[zXE,zWF hj]
 have el:(M++[MO.dicT []]++[MO.lst (P.map tI)]).length=M.length+2:=by simp
 generalize M++[MO.dicT []]++[MO.lst (P.map tI)]=M1 at e1 e0 ef el;refine zAZ (I:=fun r σ M'=>(∃ y2 y3 y4,σ=[some (mD zA),some (.ref M.length),y2,y3,y4]) /\ ∃ us vs:List (List Int),P=us++vs/\r=vs.map tI/\Sr zA M' M.length (M.length+1) (zCd l us)/\M'[M.length+1]?=some (.lst (P.map tI))/\M.length+1<M'.length /\ ∀ j,j<M.length->M'[j]?=M[j]?) ?_ ?_ _ _ _ ⟨⟨_,_,_,rfl⟩,[],P,rfl,rfl,⟨[],e0,by simp,(fun g d h=>by cases h),(fun _ _=>rfl),(fun g g' j h=>by cases h)⟩,e1,by omega,ef⟩
 ·rintro x r σ M' ⟨⟨y2,y3,y4,rfl⟩,us,vs,hab,hr,sr,ep,hlen,hfr⟩;cases vs with
  |nil=>cases hr
  |cons p vs=>
   rw[zWR]at hr;obtain ⟨rfl,rfl⟩:=zXC hr;have hpm:p∈zO (zF zA):=by rw[hP,hab];simp
   have hul:us.length<3969:=by have:=congrArg List.length hab;simp at this;omega
   refine ⟨.inl ep,_,rfl,?_⟩;rw[zAi];refine ⟨_,_,_,zCB (zIz m rfl) (by omega) (by omega),?_⟩;rw[show (l:Int).toNat=l by omega];refine zJ8 (n:=l) (I:=fun i σ M''=>(∃ y3 y4,σ=[some (mD zA),some (.ref M.length),some (tI p),y3,y4])/\Sr zA M'' M.length (M.length+1) (zCd l us++(List.range i).map fun (x:Nat)=>(p,(x:Int)))/\M''[M.length+1]?=some (.lst (P.map tI))/\M.length+1<M''.length /\ ∀ j,j<M.length->M''[j]?=M[j]?) ?_ ?_ _ _ ⟨⟨_,_,rfl⟩,by simpa using sr,ep,hlen,hfr⟩
   ·rintro i σ M2 hi ⟨⟨y3,y4,rfl⟩,sr2,ep2,hlen2,hfr2⟩;refine ⟨_,rfl,?_⟩;have hcount:(zCd l us++(List.range i).map fun (x:Nat)=>(p,(x:Int))).length<50000:=by
     rw[zWO,zHX,zWH,zX5];have:=zXk (show us.length<=3968 by omega) hl;omega
    refine OkS.mono (zNs m hR hcount (zW5 _) hlen2 sr2 (zM4 hpm) (x:=(i:Int)) (by omega) (by omega)) ?_;rintro o σ' M3 ⟨rfl,⟨y,rfl⟩,sr3,hl3,hf3⟩;refine ⟨⟨_,_,rfl⟩,?_,by rw[hf3 _ (zWE _) (by omega)];exact ep2,by omega,fun j hj=>by rw[hf3 j (by omega) (by omega)];exact hfr2 j hj⟩;rw[List.range_succ,zW0,<-zXE];exact sr3
   ·rintro σ M2 ⟨⟨y3,y4,rfl⟩,sr2,ep2,hlen2,hfr2⟩;refine ⟨⟨_,_,_,rfl⟩,us++[p],vs,by rw[hab];simp,rfl,?_,ep2,hlen2,hfr2⟩;have:zCd l (us++[p])=zCd l us++(List.range l).map fun (x:Nat)=>(p,(x:Int)):=by
     unfold zCd;rw[List.flatMap_append];simp
    rw[this];exact sr2
 ·rintro σ M' ⟨⟨y2,y3,y4,rfl⟩,us,vs,hab,hr,sr,ep,hlen,hfr⟩;have:vs=[]:=by cases vs with|nil=>rfl|cons _ _=>cases hr
  subst this;rw[zWs]at hab;subst hab;refine ⟨.inl ep,?_⟩;rw[zM];exact zAR rfl ⟨rfl,sr,hlen,hfr⟩
noncomputable def zDN:FS:=(zX (zq 2 (zN zB5 (zD (toD (zC 0)) zH)))
  (zX (zq 3 (zC 1))
  (zX (zq 4 (zC0 true [5] (zr (zC 1)) (gN 5) zAD (zC 5) (fC (.int 0))))
  (zX (zBp (zNV (zC 3)) (zX (zq 6 (zAw zH))
  (zX (zBs (zr (zC 3)) (gN 5) (zBs (zr (zBw (zC 2) (zC 5) (zAw zH))) (gN 7) (sIf (tst (fOp (zA8 true) (zC 7) (zC 4))) (zX (zCJ (fOp zAS (fOp zAA (zC 4) (zC 5)) (fC (.int 1))) (zC 4) (zC 7))
  (zBP (fM zAP (zC 6) (zD (toD (zC 7)) zH)))) zBC)))
  (zq 3 (zC 6)))) 1000)
  (zAV (zC 4))))))
noncomputable def zBI:FF:=zA7 8 zDN
abbrev Fd:=List (List Int × D) × List (List Int)
def zBA (k:Int) (st:Fd) (p:List Int):Fd:=if (zG st.1 p).isSome then st else (zDM st.1 p (.int k),st.2++[p])
structure Lv (M0 M:Mem) (jf jb:Nat) (st:Fd):Prop where
 f:M[jf]?=some (dT st.1)
 b:M[jb]?=some (.lst (st.2.map tI))
 len:M0.length<=M.length
 fr:∀ j,j<M0.length->j≠jf->j≠jb->M[j]?=M0[j]?
theorem zPB (k:Int) (st:Fd) (p:List Int):(zBA k st p).1.length<=st.1.length+1/\(zBA k st p).2.length<=st.2.length+1:=by
 unfold zBA;split
 ·exact ⟨by omega,by omega⟩
 ·exact ⟨zKB _ _ _,by simp⟩
theorem zSL {M0:Mem} {jf jb js jd jl:Nat} {zA:List (List Int)} {x1 x3 y7:Option D} {goal:List Int} {k:Int} {ps:List (List Int)} (hne:jf≠jb) (h1:jf<M0.length) (h2:jb<M0.length) :
  ∀ (M:Mem) (st:Fd),Lv M0 M jf jb st->M[js]?=some (.lst (ps.map tI))->js≠jf->js≠jb->zG st.1 goal=some (.int k)->st.1.length+ps.length<=80000->st.2.length+ps.length<=80000 ->
  OkS (zCK (gN 7) (sIf (tst (fOp (zA8 true) (zC 7) (zC 4))) (zX (zCJ (fOp zAS (fOp zAA (zC 4) (zC 5)) (fC (.int 1))) (zC 4) (zC 7)) (zBP (fM zAP (zC 6) (zD (toD (zC 7)) zH)))) zBC) (ps.map tI) (zDA (.dat (.ref js)) (ps.map tI)) (ps.map tI) [some (mD zA),x1,some (.ref jd),x3,some (.ref jf),some (tI goal),some (.ref jb),y7] M)
   fun o σ' M'=>o=.nx/\(∃ y,σ'=[some (mD zA),x1,some (.ref jd),x3,some (.ref jf),some (tI goal),some (.ref jb),y])/\Lv M0 M' jf jb (ps.foldl (zBA (k+1)) st)/\M'.length=M.length /\ ∀ j,j≠jf->j≠jb->M'[j]?=M[j]?:=by
 intro M st lv ejs n1 n2 hgl z1 z2;refine zAZ (I:=fun r σ M'=>(∃ y,σ=[some (mD zA),x1,some (.ref jd),x3,some (.ref jf),some (tI goal),some (.ref jb),y]) /\ ∃ us vs:List (List Int),ps=us++vs/\r=vs.map tI/\Lv M0 M' jf jb (us.foldl (zBA (k+1)) st)/\zG (us.foldl (zBA (k+1)) st).1 goal=some (.int k)/\(us.foldl (zBA (k+1)) st).1.length<=st.1.length+us.length/\(us.foldl (zBA (k+1)) st).2.length<=st.2.length+us.length/\M'.length=M.length /\ ∀ j,j≠jf->j≠jb->M'[j]?=M[j]?) ?_ ?_ _ _ _ ⟨⟨_,rfl⟩,[],ps,rfl,rfl,lv,hgl,by simp,by simp,rfl,fun _ _ _=>rfl⟩
 ·rintro x r σ M' ⟨⟨y,rfl⟩,us,vs,hab,hr,lv',hg',l1,l2,hl,hfr⟩;cases vs with
  |nil=>cases hr
  |cons p vs=>
   rw[zWR]at hr;obtain ⟨rfl,rfl⟩:=zXC hr;have hul:us.length<ps.length:=by rw[hab];simp
   refine ⟨.inl (by rw[hfr js n1 n2];exact ejs),_,rfl,?_⟩;have hfold:(us++[p]).foldl (zBA (k+1)) st=zBA (k+1) (us.foldl (zBA (k+1)) st) p:=by rw[List.foldl_append];rfl
   generalize us.foldl (zBA (k+1)) st=st' at lv' hg' l1 l2 hfold;have al:=zPB (k+1) st' p;rw[zAx];refine zE (M:=M') (a:=!(zG st'.1 p).isSome) (zn (zK (x:=.dat (tI p)) (y:=.dat (.ref jf)) rfl rfl (zLZ lv'.f))) ?_;cases hlk:zG st'.1 p with
   |some d=>
    have ea:zBA (k+1) st' p=st':=by unfold zBA;rw[hlk];rfl
    rw[zWQ (by simp),zAf];refine ⟨⟨_,rfl⟩,us++[p],vs,by rw[hab];simp,rfl,?_⟩;rw[hfold,ea];exact ⟨lv',hg',by simp;omega,by simp;omega,hl,hfr⟩
   |none=>
    have ea:zBA (k+1) st' p=(zDM st'.1 p (.int (k+1)),st'.2++[p]):=by unfold zBA;rw[hlk];rfl
    have hgp:p≠goal:=fun z=>by rw[z,hg']at hlk;cases hlk
    rw[zWN (by simp),zJ];have ev:fOp zAS (fOp zAA (zC 4) (zC 5)) (fC (.int 1)) [some (mD zA),x1,some (.ref jd),x3,some (.ref jf),some (tI goal),some (.ref jb),some (tI p)] M'=some (.dat (.int (k+1)),M'):=zK (x:=.dat (.int k)) (zK (x:=.dat (.ref jf)) (y:=.dat (tI goal)) rfl rfl (zIU lv'.f hg')) rfl rfl;have hd:OkS (zCJ (fOp zAS (fOp zAA (zC 4) (zC 5)) (fC (.int 1))) (zC 4) (zC 7) [some (mD zA),x1,some (.ref jd),x3,some (.ref jf),some (tI goal),some (.ref jb),some (tI p)] M') fun o σ' M2=>o=.nx/\σ'=[some (mD zA),x1,some (.ref jd),x3,some (.ref jf),some (tI goal),some (.ref jb),some (tI p)]/\M2=M'.set jf (dT (zDM st'.1 p (.int (k+1)))):=by
     refine ⟨.nx,_,_,?_,rfl,rfl,rfl⟩;unfold zCJ;rw[show toD (fOp zAS (fOp zAA (zC 4) (zC 5)) (fC (.int 1))) [some (mD zA),x1,some (.ref jd),x3,some (.ref jf),some (tI goal),some (.ref jb),some (tI p)] M'=some (.int (k+1),M') by unfold toD;rw[ev]];dsimp only;rw[show toD (zC 4) [some (mD zA),x1,some (.ref jd),x3,some (.ref jf),some (tI goal),some (.ref jb),some (tI p)] M'=some (.ref jf,M')from rfl];dsimp only;rw[show toD (zC 7) [some (mD zA),x1,some (.ref jd),x3,some (.ref jf),some (tI goal),some (.ref jb),some (tI p)] M'=some (tI p,M')from rfl];dsimp only;rw[zM6 lv'.f (by omega)]
    refine OkS.mono hd ?_;rintro o σ' M2 ⟨rfl,rfl,rfl⟩;rw[zM,zBj];have eb:(M'.set jf (dT (zDM st'.1 p (.int (k+1)))))[jb]?=some (.lst (st'.2.map tI)):=by rw[zWc hne];exact lv'.b
    refine zHM.mpr (zAb.mpr ⟨_,rfl,⟨_,zAd eb⟩,zE (zW (d:=tI p) rfl) ?_⟩);rw[zCW eb (by rw[zWH];exact zWX (m:=95000) (by omega) (zV (by omega)))];have jfl:jf<M'.length:=zWX h1 lv'.len;have jbl:jb<M'.length:=zWX h2 lv'.len;refine ⟨⟨_,rfl⟩,us++[p],vs,by rw[hab];simp,rfl,?_⟩;rw[hfold];refine ⟨?_,?_,by simp;omega,by simp;omega,by simp[hl],fun j q1 q2=>by rw[zWc (Ne.symm q2),zWc (Ne.symm q1)];exact hfr j q1 q2⟩
    ·rw[ea];refine ⟨by rw[zWc (Ne.symm hne),zW2 jfl],by rw[zW2 (by simpa using jbl),zW0];rfl,by simpa using lv'.len,fun j q0 q1 q2=>by rw[zWc (Ne.symm q2),zWc (Ne.symm q1)];exact lv'.fr j q0 q1 q2⟩
    ·rw[ea];rw[zEM,zWQ hgp];exact hg'
 ·rintro σ M' ⟨⟨y,rfl⟩,us,vs,hab,hr,lv',hg',l1,l2,hl,hfr⟩;have:vs=[]:=by cases vs with|nil=>rfl|cons _ _=>cases hr
  subst this;rw[zWs]at hab;subst hab;exact ⟨.inl (by rw[hfr js n1 n2];exact ejs),rfl,⟨_,rfl⟩,lv',hl,hfr⟩
theorem zUr {f g:FE} {σ:Sd} {M:Mem} {n:Nat} {T:List (List Int × D)} {k:List Int} (hf:f σ M=some (.dat (.ref n),M)) (hn:M[n]?=some (dT T)) (hg:g σ M=some (.dat (tI k),M)):zBw f g (zAw zH) σ M=some (.dat ((zG T k).getD (.ref M.length)),M++[.lst []]):=by
 have nl:n<M.length:=(zWB.mp hn).1;unfold zBw;rw[show toD f σ M=some (.ref n,M) by unfold toD;rw[hf]];dsimp only;rw[hn];rw[show toD g σ M=some (tI k,M) by unfold toD;rw[hg]];dsimp only;rw[show toD (zAw zH) σ M=some (.ref M.length,M++[.lst []]) by
  unfold toD zAw zH;dsimp only;rw[zWN (zV (by simp))]]
 dsimp only;rw[dgT (g:=k) (show (M++[MO.lst ([]:List D)])[n]?=some (dT T) by rw[zWF nl];exact hn)]
def zBv (src:List Int->List (List Int)) (k:Int) (gs:List (List Int)) (st:Fd):Fd:=gs.foldl (fun st g=>(src g).foldl (zBA (k+1)) st) st
theorem zNa {k:Int} {st:Fd} {p g:List Int} {d:D} (h:zG st.1 g=some d):zG (zBA k st p).1 g=some d:=by
 unfold zBA;split
 ·exact h
 ·rename_i q;rw[zEM,zWQ (fun z=>q (by rw[z,h];rfl))];exact h
theorem zGw {k:Int} {g:List Int} {d:D}:∀ (ps:List (List Int)) {st:Fd},zG st.1 g=some d->zG (ps.foldl (zBA k) st).1 g=some d
 |[],_,h=>h
 |p::r,_,h=>zGw r (zNa h)
def zVP (M:Mem) (Ts:List (List Int × D)) (jf jb:Nat) (src:List Int->List (List Int)):Prop:=∀ g,(∃ j,zG Ts g=some (.ref j)/\j≠jf/\j≠jb/\M[j]?=some (.lst ((src g).map tI)))\/(zG Ts g=none/\src g=[])
theorem zRd {M0:Mem} {jf jb jd jl:Nat} {zA:List (List Int)} {x1 y5 y7:Option D} {k:Int} {gs:List (List Int)} {src:List Int->List (List Int)} {Ts:List (List Int × D)} (hne:jf≠jb) (h1:jf<M0.length) (h2:jb<M0.length) (hd:M0[jd]?=some (dT Ts)) (d1:jd≠jf) (d2:jd≠jb) (hl:M0[jl]?=some (.lst (gs.map tI))) (l1:jl≠jf) (l2:jl≠jb) (hs:zVP M0 Ts jf jb src) (B:Nat) (hB:∀ g∈gs,(src g).length<=B)
  {st:Fd} (hg:∀ g∈gs,zG st.1 g=some (.int k)) (Z:Nat) (hZB:Z+B<=80000) (hZ:∀ us vs,gs=us++vs->(zBv src k us st).1.length<=Z/\(zBv src k us st).2.length<=Z) (lv:Lv M0 M0 jf jb st) :
  OkS (zCK (gN 5) (zBs (zr (zBw (zC 2) (zC 5) (zAw zH))) (gN 7) (sIf (tst (fOp (zA8 true) (zC 7) (zC 4))) (zX (zCJ (fOp zAS (fOp zAA (zC 4) (zC 5)) (fC (.int 1))) (zC 4) (zC 7)) (zBP (fM zAP (zC 6) (zD (toD (zC 7)) zH)))) zBC)) (gs.map tI) (zDA (.dat (.ref jl)) (gs.map tI)) (gs.map tI) [some (mD zA),x1,some (.ref jd),some (.ref jl),some (.ref jf),y5,some (.ref jb),y7] M0)
   fun o σ' M'=>o=.nx/\(∃ y5 y7,σ'=[some (mD zA),x1,some (.ref jd),some (.ref jl),some (.ref jf),y5,some (.ref jb),y7])/\Lv M0 M' jf jb (zBv src k gs st):=by
 refine zAZ (I:=fun r σ M'=>(∃ y5 y7,σ=[some (mD zA),x1,some (.ref jd),some (.ref jl),some (.ref jf),y5,some (.ref jb),y7]) /\ ∃ us vs:List (List Int),gs=us++vs/\r=vs.map tI/\Lv M0 M' jf jb (zBv src k us st)/\(∀ g∈gs,zG (zBv src k us st).1 g=some (.int k))) ?_ ?_ _ _ _ ⟨⟨_,_,rfl⟩,[],gs,rfl,rfl,lv,hg⟩
 ·rintro x r σ M' ⟨⟨y5,y7,rfl⟩,us,vs,hab,hr,lv',hg'⟩;cases vs with
  |nil=>cases hr
  |cons g vs=>
   rw[zWR]at hr;obtain ⟨rfl,rfl⟩:=zXC hr;have hgm:g∈gs:=by rw[hab];simp
   have hsb:=hB g hgm;obtain ⟨b1,b2⟩:=hZ us (g::vs) hab;have keep:∀ {j:Nat} {u:MO},M0[j]?=some u->j≠jf->j≠jb->M'[j]?=some u:=fun {j u} e q1 q2=>(lv'.fr j (zWB.mp e).1 q1 q2).trans e;refine ⟨.inl (keep hl l1 l2),_,rfl,?_⟩;have hfold:zBv src k (us++[g]) st=(src g).foldl (zBA (k+1)) (zBv src k us st):=by unfold zBv;rw[List.foldl_append];rfl
   generalize zBv src k us st=st' at lv' hg' b1 b2 hfold;have e2:=zUr (f:=zC 2) (g:=zC 5) (σ:=[some (mD zA),x1,some (.ref jd),some (.ref jl),some (.ref jf),some (tI g),some (.ref jb),y7]) (M:=M') (k:=g) rfl (keep hd d1 d2) rfl;have lvA:Lv M0 (M'++[.lst []]) jf jb st':=by
    have f1:=(zWB.mp lv'.f).1;have f2:=(zWB.mp lv'.b).1;have f3:=lv'.len;exact ⟨by rw[zWF f1];exact lv'.f,by rw[zWF f2];exact lv'.b,by simp;omega,fun j q0 q1 q2=>by rw[zWF (by omega)];exact lv'.fr j q0 q1 q2⟩
   obtain ⟨js,ejs,n1,n2,el⟩:∃ js,(zG Ts g).getD (.ref M'.length)=.ref js/\js≠jf/\js≠jb/\(M'++[MO.lst ([]:List D)])[js]?=some (.lst ((src g).map tI)):=by
    rcases hs g with ⟨j,e,q1,q2,q3⟩|⟨e,q⟩
    ·have:=keep q3 q1 q2;exact ⟨j,by rw[e];rfl,q1,q2,by rw[zWF (zWB.mp this).1];exact this⟩
    ·have:=lv'.len;exact ⟨M'.length,by rw[e];rfl,by omega,by omega,by rw[q];simp⟩
   rw[ejs]at e2;rw[zAi];refine ⟨_,_,_,(show zr (zBw (zC 2) (zC 5) (zAw zH)) [some (mD zA),x1,some (.ref jd),some (.ref jl),some (.ref jf),some (tI g),some (.ref jb),y7] M'=some ((src g).map tI,zDA (.dat (.ref js)) ((src g).map tI),M'++[.lst []]) by unfold zr;rw[e2];dsimp only;rw[zf el]),?_⟩;refine OkS.mono (zSL (jl:=jl) (k:=k) hne h1 h2 _ st' lvA el n1 n2 (hg' g hgm) (by omega) (by omega)) ?_;rintro o σ' M2 ⟨rfl,⟨y,rfl⟩,lv2,_,_⟩;refine ⟨⟨_,_,rfl⟩,us++[g],vs,by rw[hab];simp,rfl,?_⟩;rw[hfold];exact ⟨lv2,fun g' hg''=>zGw _ (hg' g' hg'')⟩
 ·rintro σ M' ⟨⟨y5,y7,rfl⟩,us,vs,hab,hr,lv',hg'⟩;have:vs=[]:=by cases vs with|nil=>rfl|cons _ _=>cases hr
  subst this;rw[zWs]at hab;subst hab;have keep:∀ {j:Nat} {u:MO},M0[j]?=some u->j≠jf->j≠jb->M'[j]?=some u:=fun {j u} e q1 q2=>(lv'.fr j (zWB.mp e).1 q1 q2).trans e;exact ⟨.inl (keep hl l1 l2),rfl,⟨_,_,rfl⟩,lv'⟩
theorem zN6 (k:Int) (st:Fd) (p t:List Int):zG (zBA k st p).1 t=(if (zG st.1 t).isSome then zG st.1 t else if t=p then some (.int k) else none)/\(t∈(zBA k st p).2 ↔ t∈st.2\/(zG st.1 t=none/\t=p)):=by
 unfold zBA;by_cases h:(zG st.1 p).isSome=true
 ·rw[zWN h];constructor
  ·by_cases ht:(zG st.1 t).isSome=true
   ·rw[zWN ht]
   ·rw[zWQ ht,zWQ (fun z=>ht (by rw[z];exact h))];cases e:zG st.1 t with
    |none=>rfl
    |some d=>rw[e]at ht;simp at ht
  ·constructor
   ·exact .inl
   ·rintro (q|⟨q,rfl⟩)
    ·exact q
    ·rw[q]at h;cases h
 ·rw[zWQ h];have hn:zG st.1 p=none:=by
   cases e:zG st.1 p with
   |none=>rfl
   |some d=>rw[e]at h;simp at h
  constructor
  ·rw[zEM];by_cases ht:p=t
   ·subst ht;rw[zWN rfl,zWQ h,zWN rfl]
   ·rw[zWQ ht];by_cases hs:(zG st.1 t).isSome=true
    ·rw[zWN hs]
    ·rw[zWQ hs,zWQ (fun z=>ht z.symm)];cases e:zG st.1 t with
     |none=>rfl
     |some d=>rw[e]at hs;simp at hs
  ·rw[zWY,List.mem_singleton];constructor
   ·rintro (q|rfl)
    ·exact .inl q
    ·exact .inr ⟨hn,rfl⟩
   ·rintro (q|⟨_,q⟩)
    ·exact .inl q
    ·exact .inr q
theorem zG8 (k:Int):∀ (ps:List (List Int)) (st:Fd) (t:List Int),zG (ps.foldl (zBA k) st).1 t=(if (zG st.1 t).isSome then zG st.1 t else if t∈ps then some (.int k) else none)/\(t∈(ps.foldl (zBA k) st).2 ↔ t∈st.2\/(zG st.1 t=none/\t∈ps))
 |[],st,t=>by
  constructor
  ·by_cases h:(zG st.1 t).isSome=true
   ·rw[zWN h];rfl
   ·rw[zWQ h,zWQ (by simp)];cases e:zG st.1 t with
    |none=>exact e
    |some d=>rw[e]at h;simp at h
  ·simp
 |p::r,st,t=>by
  obtain ⟨a1,a2⟩:=zN6 k st p t;obtain ⟨b1,b2⟩:=zG8 k r (zBA k st p) t;rw[List.foldl_cons,b1,b2,a2,a1];by_cases h:(zG st.1 t).isSome=true
  ·rw[zWN h,zWN h,zWN h];refine ⟨rfl,?_⟩;have hn:¬ zG st.1 t=none:=fun z=>by rw[z]at h;cases h
   simp[hn]
  ·have hn:zG st.1 t=none:=by
    cases e:zG st.1 t with
    |none=>rfl
    |some d=>rw[e]at h;simp at h
   rw[zWQ h,zWQ h];by_cases hp:t=p
   ·rw[zWN hp];refine ⟨?_,?_⟩
    ·rw[zWN (show (some (D.int k)).isSome=true from rfl),zWN (by rw[hp];exact zWM)]
    ·simp[hn,hp]
   ·rw[zWQ hp];refine ⟨?_,?_⟩
    ·rw[zWQ (by simp)];by_cases hr:t∈r
     ·rw[zWN hr,zWN (zWL _ hr)]
     ·rw[zWQ hr,zWQ (by simp[hp,hr])]
    ·simp[hn,hp]
theorem zIA (src:List Int->List (List Int)) (k:Int) (gs:List (List Int)) (st:Fd) (t:List Int):zG (zBv src k gs st).1 t=(if (zG st.1 t).isSome then zG st.1 t else if t∈gs.flatMap src then some (.int (k+1)) else none)/\(t∈(zBv src k gs st).2 ↔ t∈st.2\/(zG st.1 t=none/\t∈gs.flatMap src)):=by
 have:∀ (gs:List (List Int)) (st:Fd),zBv src k gs st=(gs.flatMap src).foldl (zBA (k+1)) st:=by
  intro gs;induction gs with
  |nil=>intro st;rfl
  |cons g r ih=>
   intro st;show zBv src k r ((src g).foldl (zBA (k+1)) st)=_;rw[ih,List.flatMap_cons,List.foldl_append]
 rw[this gs st];exact zG8 (k+1) (gs.flatMap src) st t
def Rch (zA:List (List Int)) (l:Nat) (G:List Int->Prop) (t:List Int) (n:Nat):Prop:=∃ w:List Int,w.length=n/\(∀ x∈w,0<=x/\x<(l:Int))/\G (zHn zA t w)
def Dst (zA:List (List Int)) (l:Nat) (G:List Int->Prop) (t:List Int) (n:Nat):Prop:=Rch zA l G t n /\ ∀ m,m<n -> ¬ Rch zA l G t m
theorem zGx:Rch zA l G t (n+1) ↔ ∃ x:Int,(0<=x/\x<(l:Int))/\Rch zA l G (setR zA t x) n:=by
 constructor
 ·rintro ⟨w,hw,hb,hl⟩;cases w with
  |nil=>cases hw
  |cons x w=>exact ⟨x,hb x zWM,w,by simpa using hw,fun y hy=>hb y (zWL _ hy),hl⟩
 ·rintro ⟨x,hx,w,hw,hb,hl⟩;exact ⟨x::w,by simp[hw],fun y hy=>by rcases zWK.mp hy with rfl|q;exact hx;exact hb y q,hl⟩
theorem zKo:Rch zA l G t 0 ↔ G t:=by
 constructor
 ·rintro ⟨w,hw,_,hl⟩;have:w=[]:=List.length_eq_zero_iff.mp hw;subst this;exact hl
 ·intro h;exact ⟨[],rfl,(fun _ h=>by cases h),h⟩
theorem zAy:Dst zA l G t 0 ↔ G t:=by
 unfold Dst;rw[zKo];exact ⟨fun h=>h.1,fun h=>⟨h,fun m hm=>by omega⟩⟩
theorem zC7:Dst zA l G t (n+1) ↔ (∀ m,m<=n -> ¬ Rch zA l G t m) /\ ∃ x:Int,(0<=x/\x<(l:Int))/\Dst zA l G (setR zA t x) n:=by
 constructor
 ·rintro ⟨h1,h2⟩;obtain ⟨x,hx,hr⟩:=zGx.mp h1;exact ⟨fun m hm=>h2 m (by omega),x,hx,hr,fun m hm hq=>h2 (m+1) (by omega) (zGx.mpr ⟨x,hx,hq⟩)⟩
 ·rintro ⟨h1,x,hx,hr,_⟩;exact ⟨zGx.mpr ⟨x,hx,hr⟩,fun m hm=>h1 m (by omega)⟩
theorem zBr:∀ n,Rch zA l G t n -> ∃ m,m<=n/\Dst zA l G t m:=by
 intro n;induction n using Nat.strongRecOn with
 |ind n ih=>
  intro h;by_cases q:∃ m,m<n/\Rch zA l G t m
  ·obtain ⟨m,hm,hr⟩:=q;obtain ⟨m',h1,h2⟩:=ih m hm hr;exact ⟨m',by omega,h2⟩
  ·exact ⟨n,zWE _,h,fun m hm hr=>q ⟨m,hm,hr⟩⟩
theorem zAY (h1:Dst zA l G t a) (h2:Dst zA l G t b):a=b:=by
 rcases Nat.lt_trichotomy a b with q|q|q
 ·exact absurd h1.1 (h2.2 a q)
 ·exact q
 ·exact absurd h2.1 (h1.2 b q)
def zHc (zA:List (List Int)) (l:Nat) (G:List Int->Prop) (U:List Int->Prop) (k:Nat) (fd:List (List Int × D)) (lev:List (List Int)):Prop:=(∀ t d,zG fd t=some d ↔ U t /\ ∃ n:Nat,n<=k/\Dst zA l G t n/\d=.int (n:Int)) /\ ∀ t,t∈lev ↔ U t/\Dst zA l G t k
theorem zFr (h:zHc zA l G U k fd lev) (u:U t):zG fd t=none ↔ ∀ m,m<=k -> ¬ Rch zA l G t m:=by
 constructor
 ·intro e m hm hr;obtain ⟨n,hn,hd⟩:=zBr m hr;rw[(h.1 t (.int (n:Int))).mpr ⟨u,n,by omega,hd,rfl⟩]at e;cases e
 ·intro q;cases e:zG fd t with
  |none=>rfl
  |some d=>
   obtain ⟨_,n,hn,hd,_⟩:=(h.1 t d).mp e;exact absurd hd.1 (q n hn)
theorem zNj {zA:List (List Int)} {l:Nat} {U P:List Int->Prop} {src:List Int->List (List Int)} (hs:∀ g t,t∈src g ↔ P t /\ ∃ x:Int,(0<=x/\x<(l:Int))/\setR zA t x=g) (hP:∀ t,P t->U t) (hU:∀ t n,U t -> ¬ G t->Rch zA l G t n->P t) (hc:∀ t (x:Int),U t->0<=x/\x<(l:Int)->U (setR zA t x))
  {k:Nat} {fd:List (List Int × D)} {lev:List (List Int)} (h:zHc zA l G U k fd lev):zHc zA l G U (k+1) (zBv src (k:Int) lev (fd,[])).1 (zBv src (k:Int) lev (fd,[])).2:=by
 have key:∀ t,(zG fd t=none/\t∈lev.flatMap src) ↔ U t/\Dst zA l G t (k+1):=by
  intro t;constructor
  ·rintro ⟨e,hm⟩;obtain ⟨g,hg,ht⟩:=List.mem_flatMap.mp hm;obtain ⟨p,x,hx,hq⟩:=(hs g t).mp ht;have u:=hP t p;refine ⟨u,zC7.mpr ⟨(zFr h u).mp e,x,hx,?_⟩⟩;rw[hq];exact ((h.2 g).mp hg).2
  ·rintro ⟨u,hd⟩;obtain ⟨q,x,hx,hr⟩:=zC7.mp hd;refine ⟨(zFr h u).mpr q,List.mem_flatMap.mpr ⟨setR zA t x,(h.2 _).mpr ⟨hc t x u hx,hr⟩,(hs _ t).mpr ⟨hU t _ u ?_ hd.1,x,hx,rfl⟩⟩⟩;intro h1;exact q 0 (zWu _) (zKo.mpr h1)
 constructor
 ·intro t d;rw[(zIA src (k:Int) lev (fd,[]) t).1];cases e:zG fd t with
  |some d'=>
   rw[zWN (show (some d').isSome=true from rfl)];obtain ⟨u,n,hn,hd,rfl⟩:=(h.1 t d').mp e;constructor
   ·intro z;cases z;exact ⟨u,n,by omega,hd,rfl⟩
   ·rintro ⟨_,m,_,hm,rfl⟩;rw[zAY hm hd]
  |none=>
   rw[zWQ (by simp)];by_cases hm:t∈lev.flatMap src
   ·rw[zWN hm];obtain ⟨u,hd⟩:=(key t).mp ⟨e,hm⟩;constructor
    ·intro z;cases z;exact ⟨u,k+1,zWE _,hd,by simp⟩
    ·rintro ⟨_,m,_,hm',rfl⟩;rw[zAY hm' hd];simp
   ·rw[zWQ hm];constructor
    ·intro z;cases z
    ·rintro ⟨u,m,hk,hd,rfl⟩;exfalso;by_cases hmk:m<=k
     ·exact (zFr h u).mp e m hmk hd.1
     ·have:m=k+1:=by omega
      subst this;exact hm ((key t).mpr ⟨u,hd⟩).2
 ·intro t;rw[(zIA src (k:Int) lev (fd,[]) t).2];rw[key t];simp
theorem zO1 {zA:List (List Int)} {l:Nat} {G:List Int->Prop} {U:List Int->Prop} (hc:∀ t (x:Int),U t->0<=x/\x<(l:Int)->U (setR zA t x)) {k:Nat} {fd:List (List Int × D)} (h:zHc zA l G U k fd []) (t:List Int) (d:D):zG fd t=some d ↔ U t /\ ∃ n:Nat,Dst zA l G t n/\d=.int (n:Int):=by
 have far:∀ n t,U t -> ¬ Dst zA l G t (k+n):=by
  intro n;induction n with
  |zero=>intro t u hd;exact absurd ((h.2 t).mpr ⟨u,hd⟩) (by simp)
  |succ n ih=>
   intro t u hd;obtain ⟨_,x,hx,hr⟩:=zC7.mp (show Dst zA l G t ((k+n)+1)from hd);exact ih _ (hc t x u hx) hr
 rw[h.1 t d];constructor
 ·rintro ⟨u,n,_,a,b⟩;exact ⟨u,n,a,b⟩
 ·rintro ⟨u,n,a,b⟩;refine ⟨u,n,?_,a,b⟩;by_cases q:n<=k
  ·exact q
  ·exfalso;have e:n=k+(n-k):=by omega
   rw[e]at a;exact far _ t u a
def Th (zA:List (List Int)) (t:List Int):Prop:=IsS zA t/\t.length<=2
def zDm (zA:List (List Int)) (l:Nat) (g:List Int):List (List Int):=zDB zA (zCd l (zO (zF zA))) g
theorem zRb (g t:List Int):t∈zDm zA l g ↔ t∈zO (zF zA) /\ ∃ x:Int,(0<=x/\x<(l:Int))/\setR zA t x=g:=by
 unfold zDm zDB zCd;simp only[zWP,zXJ,List.mem_flatMap,zWm,zXL];constructor
 ·rintro ⟨q,⟨⟨p,hp,k,hk,rfl⟩,hq⟩,rfl⟩;exact ⟨hp,(k:Int),⟨by omega,by omega⟩,hq⟩
 ·rintro ⟨hp,x,⟨x0,x1⟩,hq⟩;refine ⟨(t,x),⟨⟨t,hp,x.toNat,by omega,?_⟩,hq⟩,rfl⟩;rw[show ((x.toNat:Nat):Int)=x by omega]
theorem zBx:x∈zF zA ↔ 0<=x/\x<(zA.length:Int):=by
 unfold zF;simp only[zWP,zWm];constructor
 ·rintro ⟨k,hk,rfl⟩;omega
 ·rintro ⟨h0,h1⟩;exact ⟨x.toNat,by omega,by omega⟩
theorem zBF (t:List Int) (h:t∈zO (zF zA)):Th zA t:=by
 refine ⟨zM4 h,?_⟩;obtain ⟨a,b,rfl,_⟩:=zp.mp h;exact zWE _
theorem zNN (t:List Int) (h:Th zA t) (h1:t.length≠1):t∈zO (zF zA):=by
 obtain ⟨⟨pw,n0,hm⟩,h2⟩:=h;match t,pw,n0,hm,h1,h2 with
 |[a,b],pw,_,hm,_,_=>
  exact zp.mpr ⟨a,b,rfl,zBx.mpr (hm a (by simp)),zBx.mpr (hm b (by simp)),by simpa using pw⟩
 |[a],_,_,_,h1,_=>exact absurd rfl h1
 |[],_,n0,_,_,_=>cases n0
 |_::_::_::_,_,_,_,_,h2=>simp at h2
theorem zDQ (m:IsM zA l) (t:List Int) (x:Int) (h:Th zA t) (hx:0<=x/\x<(l:Int)):Th zA (setR zA t x):=by
 refine ⟨m.setR h.1 hx.1 hx.2,?_⟩;have:=zMu (t.map fun h=>zDh zA h x);rw[zWH]at this;exact zWZ this h.2
def zCG (zA:List (List Int)) (G:List Int->Prop):Prop:=(∀ t,Th zA t->t.length=1->G t) \/ ∀ t,t.length=1 -> ¬ G t
theorem zIW (m:IsM zA l):∀ (w t:List Int),Th zA t->t.length=1->(∀ x∈w,0<=x/\x<(l:Int))->(zHn zA t w).length=1
 |[],_,_,h,_=>h
 |x::w,t,u,h,hw=>by
  have hx:=hw x zWM;have u':=zDQ m t x u hx;refine zIW m w (setR zA t x) u' ?_ fun y hy=>hw y (zWL _ hy);have h1:=zMu (t.map fun h=>zDh zA h x);rw[zWH,h]at h1;have h2:=u'.1.n0;have h3:(setR zA t x).length<=1:=h1;omega
theorem zFm (m:IsM zA l) (o:zCG zA G) (t:List Int) (n:Nat) (u:Th zA t) (g:¬ G t) (r:Rch zA l G t n):t∈zO (zF zA):=by
 refine zNN t u fun h1=>?_;rcases o with o|o
 ·exact g (o t u h1)
 ·obtain ⟨w,_,hw,hg⟩:=r;exact o _ (zIW m w t u h1 hw) hg
theorem zKU (m:IsM zA l) (o:zCG zA G) (h:zHc zA l G (Th zA) k fd lev):zHc zA l G (Th zA) (k+1) (zBv (zDm zA l) (k:Int) lev (fd,[])).1 (zBv (zDm zA l) (k:Int) lev (fd,[])).2 :=
 zNj (P:=fun t=>t∈zO (zF zA)) zRb zBF (zFm m o) (zDQ m) h
theorem zOc (hts:∀ t,t∈ts ↔ Th zA t/\G t) (h:∀ t d,zG fd t=some d ↔ t∈ts/\d=.int 0):zHc zA l G (Th zA) 0 fd ts:=by
 have key:∀ t,t∈ts ↔ Th zA t/\Dst zA l G t 0:=fun t=>by rw[zAy,hts]
 refine ⟨fun t d=>?_,key⟩;rw[h t d,key t];constructor
 ·rintro ⟨⟨a,b⟩,rfl⟩;exact ⟨a,0,zWE _,b,by simp⟩
 ·rintro ⟨a,n,hn,b,rfl⟩;have:n=0:=by omega
  subst this;exact ⟨⟨a,b⟩,by simp⟩
abbrev One (t:List Int):Prop:=t.length=1
theorem zQN (t:List Int):t∈(zF zA).map (fun r=>[r]) ↔ Th zA t/\One t:=by
 rw[zWP];constructor
 ·rintro ⟨r,hr,rfl⟩;have:=zBx.mp hr;refine ⟨⟨⟨by simp,by simp,fun x hx=>?_⟩,by simp⟩,rfl⟩;rw[List.mem_singleton]at hx;subst hx;exact this
 ·rintro ⟨⟨s,_⟩,h1⟩;obtain ⟨r,rfl⟩:=List.length_eq_one_iff.mp h1;exact ⟨r,zBx.mpr (s.mem r (by simp)),rfl⟩
theorem zMw:zCG zA One:=.inl fun _ _ h=>h
theorem whole (m:IsM zA l) (h:zHc zA l G (Th zA) k fd []) (t:List Int) (d:D):zG fd t=some d ↔ Th zA t /\ ∃ n:Nat,Dst zA l G t n/\d=.int (n:Int):=zO1 (zDQ m) h t d
theorem zFg {α:Type} [DecidableEq α]:∀ (xs ys:List α),xs.Nodup->(∀ x∈xs,x∈ys)->xs.length<=ys.length
 |[],_,_,_=>zWu _
 |x::r,ys,h,hm=>by
  obtain ⟨h1,h2⟩:=List.nodup_cons.mp h;have hx:x∈ys:=hm x zWM;have:=zFg r (ys.erase x) h2 fun y hy=>(List.mem_erase_of_ne (fun z=>h1 (by rw[<-z];exact hy))).mpr (hm y (zWL _ hy));rw[List.length_erase_of_mem hx]at this;have:=List.length_pos_of_mem hx;simp only[zWf];omega
theorem zD5:∀ {T:List (List Int × D)} {g:List Int},(zG T g).isSome=true ↔ g∈T.map (·.1)
 |[],g=>by simp[zG]
 |q::r,g=>by
  unfold zG;by_cases h:q.1=g
  ·simp[h]
  ·rw[zWQ h,zD5 (T:=r)];simp only[zWR,zWK];constructor
   ·exact .inr
   ·rintro (z|z)
    ·exact absurd z.symm h
    ·exact z
structure Sz (n:Nat) (st:Fd):Prop where
 ks:(st.1.map (·.1)).Nodup
 nd:st.2.Nodup
 sub:∀ t∈st.2,t∈st.1.map (·.1)
 len:st.1.length=n+st.2.length
theorem zRz {n:Nat} {st:Fd} (k:Int) (p:List Int) (h:Sz n st):Sz n (zBA k st p):=by
 unfold zBA;by_cases q:(zG st.1 p).isSome=true
 ·rw[zWN q];exact h
 ·rw[zWQ q];have hn:zG st.1 p=none:=by
   cases e:zG st.1 p with
   |none=>rfl
   |some d=>rw[e]at q;simp at q
  have hk:p∉st.1.map (·.1):=fun z=>q (zD5.mpr z);have e:zDM st.1 p (.int k)=st.1++[(p,.int k)]:=by unfold zDM;rw[hn]
  rw[e];refine ⟨?_,?_,?_,?_⟩
  ·rw[zW0,zXM];refine ⟨h.ks,by simp,fun a ha b hb=>?_⟩;simp at hb;subst hb;intro z;subst z;exact hk ha
  ·rw[zXM];refine ⟨h.nd,by simp,fun a ha b hb=>?_⟩;simp at hb;subst hb;intro z;subst z;exact hk (h.sub _ ha)
  ·intro t ht;rw[zW0,zWY];rcases zWY.mp (show t∈st.2++[p]from ht)with z|z
   ·exact .inl (h.sub t z)
   ·right;simpa using z
  ·rw[zWO,zWO,h.len];simp;omega
theorem zGS (src:List Int->List (List Int)) (k:Int):∀ (gs:List (List Int)) {st:Fd},Sz n st->Sz n (zBv src k gs st)
 |[],st,h=>h
 |g::r,st,h=>by
  refine zGS src k r ?_;have:∀ (ps:List (List Int)) {st:Fd},Sz n st->Sz n (ps.foldl (zBA (k+1)) st):=by
   intro ps;induction ps with
   |nil=>intro st h;exact h
   |cons p ps ih=>intro st h;exact ih (zRz (k+1) p h)
  exact this _ h
theorem zOk (k:Int) (st:Fd) (p:List Int):st.1.length<=(zBA k st p).1.length:=by
 unfold zBA;split
 ·exact zWE _
 ·unfold zDM;cases zG st.1 p <;> simp
theorem zIB (src:List Int->List (List Int)) (k:Int):∀ (gs:List (List Int)) (st:Fd),st.1.length<=(zBv src k gs st).1.length
 |[],st=>zWE _
 |g::r,st=>by
  have h1:∀ (ps:List (List Int)) (st:Fd),st.1.length<=(ps.foldl (zBA (k+1)) st).1.length:=by
   intro ps;induction ps with
   |nil=>intro st;exact zWE _
   |cons p ps ih=>intro st;exact zWZ (zOk (k+1) st p) (ih _)
  exact zWZ (h1 (src g) st) (zIB src k r _)
theorem zFZ (h:zHc zA l G (Th zA) k fd lev) (hk:(fd.map (·.1)).Nodup):fd.length<=zA.length+zA.length*zA.length:=by
 have hr:(zF zA).length=zA.length:=by unfold zF;simp
 have h1:=zFg (fd.map (·.1)) ((zF zA).map (fun r=>[r])++zO (zF zA)) hk fun t ht=>by
  have hs:=zD5.mpr ht;cases e:zG fd t with
  |none=>rw[e]at hs;cases hs
  |some d=>
   obtain ⟨u,_⟩:=(h.1 t d).mp e;rw[zWY];by_cases h1:t.length=1
   ·obtain ⟨r,rfl⟩:=List.length_eq_one_iff.mp h1;exact .inl (zWP.mpr ⟨r,zBx.mpr (u.1.mem r (by simp)),rfl⟩)
   ·exact .inr (zNN t u h1)
 have h2:=zCX (zF zA);rw[zWH,zWO,zWH,hr]at h1;rw[hr]at h2;omega
theorem zS2 (h:f σ M=some (.dat (.ref j),M)) (hj:M[j]?=some (.lst xs)):zNV f σ M=some (!xs.isEmpty,M):=by
 unfold zNV;rw[h];dsimp only;rw[zf hj]
theorem zRv (zA:List (List Int)) (l:Nat) (g:List Int):(zDm zA l g).length<=zA.length*zA.length*l:=by
 unfold zDm zDB;rw[zWH];refine zWZ (zYS _ _) ?_;rw[zHX];have:=zCX (zF zA);have hr:(zF zA).length=zA.length:=by unfold zF;simp
 rw[hr]at this;exact Nat.mul_le_mul_right l this
theorem zP0 (m:IsM zA l) (oa:zCG zA G) (hR:zA.length<=26) (hl:l<=12) (h1:jf<M0.length) (hd:M0[jd]?=some (dT Ts)) (d1:jd≠jf) (hs:∀ g,(∃ j,zG Ts g=some (.ref j)/\j≠jf/\M0[j]?=some (.lst ((zDm zA l g).map tI)))\/(zG Ts g=none/\zDm zA l g=[])) (hf:M0[jf]?=some (dT fd)) (hv:M0[jl]?=some (.lst (lev.map tI))) (l1:jl≠jf) (inv:zHc zA l G (Th zA) 0 fd lev) (nk:(fd.map (·.1)).Nodup) (nl:lev.length<=fd.length) :
  OkS (zBp (zNV (zC 3)) (zX (zq 6 (zAw zH)) (zX (zBs (zr (zC 3)) (gN 5) (zBs (zr (zBw (zC 2) (zC 5) (zAw zH))) (gN 7) (sIf (tst (fOp (zA8 true) (zC 7) (zC 4))) (zX (zCJ (fOp zAS (fOp zAA (zC 4) (zC 5)) (fC (.int 1))) (zC 4) (zC 7)) (zBP (fM zAP (zC 6) (zD (toD (zC 7)) zH)))) zBC))) (zq 3 (zC 6)))) 1000 [some (mD zA),x1,some (.ref jd),some (.ref jl),some (.ref jf),y5,y6,y7] M0)
   fun o σ' M'=>o=.nx/\(∃ y3 y5 y6 y7,σ'=[some (mD zA),x1,some (.ref jd),y3,some (.ref jf),y5,y6,y7])/\(∃ fd',M'[jf]?=some (dT fd')/\fd'.length<=702 /\ ∀ t d,zG fd' t=some d ↔ Th zA t /\ ∃ n:Nat,Dst zA l G t n/\d=.int (n:Int))/\M0.length<=M'.length /\ ∀ j,j<M0.length->j≠jf->M'[j]?=M0[j]?:=by
 have hN:zA.length+zA.length*zA.length<=702:=by
  have:=zXk hR hR;omega
 have hB:zA.length*zA.length*l<=8112:=zXk (zXk hR hR) hl;refine zC9 (I:=fun z σ M=>∃ (jl:Nat) (y5 y6 y7:Option D) (k:Nat) (fd:List (List Int × D)) (lev:List (List Int)),σ=[some (mD zA),x1,some (.ref jd),some (.ref jl),some (.ref jf),y5,y6,y7]/\M[jf]?=some (dT fd)/\M[jl]?=some (.lst (lev.map tI))/\jl≠jf/\zHc zA l G (Th zA) k fd lev/\(fd.map (·.1)).Nodup/\lev.length<=fd.length/\M0.length<=M.length/\(∀ j,j<M0.length->j≠jf->M[j]?=M0[j]?)/\z=(702-fd.length)+(if lev.isEmpty then 0 else 1)) ?_ 1000 ((702-fd.length)+(if lev.isEmpty then 0 else 1)) _ _ (by split <;> omega) ⟨jl,y5,y6,y7,0,fd,lev,rfl,hf,hv,l1,inv,nk,nl,zWE _,fun _ _ _=>rfl,rfl⟩;rintro z σ M ⟨jl,y5,y6,y7,k,fd,lev,rfl,hf,hv,l1,inv,nk,nl,hlen,fr,rfl⟩;have hfl:=zWZ (zFZ inv nk) hN;refine zE (M:=M) (a:=!(lev.map tI).isEmpty) (zS2 rfl hv) ?_;cases lev with
 |nil=>
  exact ⟨rfl,⟨_,_,_,_,rfl⟩,⟨fd,hf,hfl,whole m inv⟩,hlen,fr⟩
 |cons g0 lev0=>
  show OkS (zX _ _ [some (mD zA),x1,some (.ref jd),some (.ref jl),some (.ref jf),y5,y6,y7] M) _;generalize hlv:g0::lev0=lev at *;have hne0:lev.isEmpty=false:=by rw[<-hlv];rfl
  rw[zJ,zQ];refine zE (M:=M) (a:=.fl []) (by unfold zAw zH;dsimp only;rw[zWN (zV (by simp))]) ?_;rw[zI9,zM,zJ,zAi];have fl:=(zWB.mp hf).1;have vl:=(zWB.mp hv).1;have up:∀ {j:Nat},j<M.length->(M++[MO.lst ([]:List D)])[j]?=M[j]?:=fun h=>zWF h;have dl:=(zWB.mp hd).1;refine ⟨_,_,_,(show zr (zC 3) [some (mD zA),x1,some (.ref jd),some (.ref jl),some (.ref jf),y5,some (.ref M.length),y7] (M++[.lst []])=some (lev.map tI,zDA (.dat (.ref jl)) (lev.map tI),M++[.lst []]) by
   unfold zr;rw[show zC 3 [some (mD zA),x1,some (.ref jd),some (.ref jl),some (.ref jf),y5,some (.ref M.length),y7] (M++[.lst []])=some (.dat (.ref jl),M++[.lst []])from rfl];dsimp only;rw[zf ((up vl).trans hv)]),?_⟩
  have sz0:Sz fd.length (fd,([]:List (List Int))):=⟨nk,by simp,(fun t h=>by cases h),by simp⟩;have szw:Sz fd.length (zBv (zDm zA l) (k:Int) lev (fd,[])):=zGS _ _ lev sz0;have hflw:=zWZ (zFZ (zKU m oa inv) szw.ks) hN;refine OkS.mono (zRd (k:=(k:Int)) (src:=zDm zA l) (st:=(fd,[])) (Ts:=Ts) (by omega) (by simp;omega) (by simp) ((up (by omega)).trans ((fr _ dl d1).trans hd)) d1 (by omega) ((up vl).trans hv) l1 (by omega) ?_ 8112 (fun g _=>zWZ (zRv zA l g) hB) ?_ 702 (by omega) (fun us vs e=>?_) ⟨(up fl).trans hf,by simp,zWE _,fun _ _ _ _=>rfl⟩) ?_
  ·intro g;rcases hs g with ⟨j,e,q1,q2⟩|q
   ·have jl':=(zWB.mp q2).1;exact .inl ⟨j,e,q1,by omega,(up (by omega)).trans ((fr _ jl' q1).trans q2)⟩
   ·exact .inr q
  ·intro g hg;obtain ⟨u,hd'⟩:=(inv.2 g).mp hg;exact (inv.1 g _).mpr ⟨u,k,zWE _,hd',rfl⟩
  ·have h3:=zIB (zDm zA l) (k:Int) vs (zBv (zDm zA l) (k:Int) us (fd,[]));have h4:zBv (zDm zA l) (k:Int) vs (zBv (zDm zA l) (k:Int) us (fd,[]))=zBv (zDm zA l) (k:Int) lev (fd,[]):=by rw[e];unfold zBv;rw[List.foldl_append]
   rw[h4]at h3;have h5:=(zGS (zDm zA l) (k:Int) us sz0).len;omega
  ·rintro o σ' M' ⟨rfl,⟨y5,y7,rfl⟩,lv⟩;rw[zM,zQ];refine zE (M:=M') (a:=.dat (.ref M.length)) rfl ?_;rw[zI];have sz:Sz fd.length (zBv (zDm zA l) (k:Int) lev (fd,[])):=zGS _ _ lev ⟨nk,by simp,(fun t h=>by cases h),by simp⟩;have inv':=zKU m oa inv;generalize zBv (zDm zA l) (k:Int) lev (fd,[])=st at lv sz inv';have hfl':=zWZ (zFZ inv' sz.ks) hN;have hsl:=sz.len;refine ⟨(702-st.1.length)+(if st.2.isEmpty then 0 else 1),?_,M.length,y5,_,y7,k+1,st.1,st.2,rfl,lv.f,lv.b,by omega,inv',sz.ks,by omega,?_,?_,rfl⟩
   ·rw[hne0];cases e:st.2 with
    |nil=>simp;omega
    |cons a r=>rw[e]at hsl;simp at hsl ⊢;omega
   ·have:=lv.len;simp at this;omega
   ·intro j hj hjf;rw[lv.fr j (by simp;omega) hjf (by omega),up (by omega)];exact fr j hj hjf
theorem zNm {M:Mem} {ts:List (List Int)} (hf:f σ M=some (.dat (.ref jl),M)) (hj:M[jl]?=some (.lst (ts.map tI))) (nd:ts.Nodup) (hz:ts.length<=80000) (hg:∀ a,gN i a (zBB own σ)=some ((zBB own σ).set i (some a))) (hs:∀ (a:D) M',zC i ((zBB own σ).set i (some a)) M'=some (.dat a,M')) :
  zC0 true own (zr f) (gN i) zAD (zC i) (fC (.int 0)) σ M=some (.dat (.ref M.length),M++[dT (ts.map fun t=>(t,.int 0))]):=by
 have hjl:=(zWB.mp hj).1;unfold zC0 zr;rw[hf];dsimp only;rw[zf hj];dsimp only;have loop:∀ (r q:List (List Int)),q++r=ts->zCY (gN i) zAD (zC i) (fC (.int 0)) (zBB own σ) M.length (ts.map tI) (zDA (.dat (.ref jl)) (ts.map tI)) (r.map tI) (M++[dT (q.map fun t=>(t,.int 0))])=some (M++[dT (ts.map fun t=>(t,.int 0))]):=by
  intro r;induction r with
  |nil=>intro q e;rw[zWs]at e;subst e;exact zIo (.inl (by rw[zWF hjl];exact hj))
  |cons x r ih=>
   intro q e;have hx:x∉q:=fun z=>by
    rw[<-e,zXM]at nd;exact nd.2.2 x z x zWM rfl
   have hl:q.length<90000:=by have:=congrArg List.length e;simp at this;omega
   have hk:zG (q.map fun t=>(t,D.int 0)) x=none:=by
    cases e2:zG (q.map fun t=>(t,D.int 0)) x with
    |none=>rfl
    |some d=>
     have:=zD5.mp (show (zG (q.map fun t=>(t,D.int 0)) x).isSome=true by rw[e2];rfl);rw[zWW]at this;obtain ⟨y,hy,rfl⟩:=zWP.mp this;exact absurd hy hx
   have hgd:zAs (zDA (.dat (.ref jl)) (ts.map tI)) (ts.map tI) (M++[dT (q.map fun t=>(t,.int 0))]):=.inl (by rw[zWF hjl];exact hj);rw[zWR,zMb (σ1:=(zBB own σ).set i (some (tI x))) (k:=tI x) (v:=.int 0) (M':=M++[dT ((q++[x]).map fun t=>(t,.int 0))]) hgd (hg _) (hs _ _) rfl]
   ·exact ih (q++[x]) (by rw[<-e];simp)
   ·rw[zM6 (T:=q.map fun t=>(t,.int 0)) (by simp) (by rw[zWH];exact hl)];unfold zDM;rw[hk];simp
 have:=loop ts [] rfl;rw[show zJl true=dT []from rfl];rw[show (([]:List (List Int)).map fun t=>(t,D.int 0))=[]from rfl]at this;rw[this]
theorem zC2 {zA:List (List Int)} (m:IsM zA l) (oa:zCG zA G) (hR:zA.length<=26) (hl:l<=12) {M:Mem} {ts:List (List Int)} (hj:M[jg]?=some (.lst (ts.map tI))) (nd:ts.Nodup) (hts:∀ t,t∈ts ↔ Th zA t/\G t) (hz:ts.length<=80000):Ok (zBI [mD zA,.ref jg] M) fun d M'=>∃ jf,d=.ref jf/\M.length<=jf/\(∃ fd,M'[jf]?=some (dT fd)/\fd.length<=702 /\ ∀ t d,zG fd t=some d ↔ Th zA t /\ ∃ n:Nat,Dst zA l G t n/\d=.int (n:Int))/\M.length<=M'.length /\ ∀ j,j<M.length->M'[j]?=M[j]?:=by
 have hjl:=(zWB.mp hj).1;unfold zBI;rw[zv];unfold zDN;rw[zJ,zQ];refine zAJ.mpr (zE (zW rfl) (Ok.mono (zR6 m (by omega) hl) ?_));rintro d M1 ⟨rfl,sr,h1,fr⟩;rw[zI,zM];refine zCE (d:=.ref jg) rfl ?_;have hj1:=(fr _ hjl).trans hj;rw[zJ,zQ];refine zE (zNm (jl:=jg) (ts:=ts) rfl hj1 nd hz (fun _=>rfl) (fun _ _=>rfl)) ?_;rw[zI,zM];obtain ⟨T,ed,hT,a1,a2,a3⟩:=sr.ex;have up:∀ {j:Nat} {u:MO},M1[j]?=some u->(M1++[dT (ts.map fun t=>(t,D.int 0))])[j]?=some u:=fun {j u} h=>by rw[zWF (zWB.mp h).1];exact h
 have ed':=(zWB.mp ed).1;rw[zJ];refine OkS.mono (zP0 (jf:=M1.length) (jd:=M.length) (jl:=jg) (Ts:=T) (lev:=ts) (fd:=ts.map fun t=>(t,D.int 0)) m oa hR hl (by simp) (up ed) (by omega) ?_ (by simp) (up hj1) (by omega) (zOc hts ?_) ?_ (by simp)) ?_
 ·intro g;cases e:zG T g with
  |none=>exact .inr ⟨rfl,a2 g e⟩
  |some d=>
   obtain ⟨j,rfl,q1,q2⟩:=a1 g d e;have:=(zWB.mp q2).1;exact .inl ⟨j,rfl,by omega,up q2⟩
 ·intro t d;have gen:∀ (ts:List (List Int)),zG (ts.map fun t=>(t,D.int 0)) t=some d ↔ t∈ts/\d=.int 0:=by
   intro ts;induction ts with
   |nil=>simp[zG]
   |cons x r ih=>
    rw[zWR,zG];by_cases q:x=t
    ·subst q;simp[eq_comm]
    ·rw[zWQ q,ih,zWK];constructor
     ·rintro ⟨z1,z2⟩;exact ⟨.inr z1,z2⟩
     ·rintro ⟨z1|z1,z2⟩
      ·exact absurd z1.symm q
      ·exact ⟨z1,z2⟩
  exact gen _
 ·rw[zWW];rw[show ((fun (x:List Int × D)=>x.1)∘fun (t:List Int)=>(t,D.int 0))=id from rfl,List.map_id];exact nd
 ·rintro o σ' M' ⟨rfl,⟨y3,y5,y6,y7,rfl⟩,⟨fd,e1,e2,e3⟩,hlen,fr'⟩;rw[zM];rw[zWO]at hlen fr';refine zAR (d:=.ref M1.length) rfl ⟨M1.length,rfl,by omega,⟨fd,e1,e2,e3⟩,by omega,fun j hj=>?_⟩;rw[fr' j (by omega) (by omega),zWF (by omega)];exact fr j hj
noncomputable def zFn:FS:=(zAV (zN zBI (zD (toD (zC 0)) (zD (toD (zw [1] (zAM (zD (toD (fB zBD (zU (zC 0) zo))) zH)) (gN 1) zAD (zAr (zD (toD (zC 1)) zH)))) zH))))
noncomputable def zBu:FF:=zA7 2 zFn
theorem zHF (m:IsM zA l) (hR:zA.length<=26) (hl:l<=12):Ok (zBu [mD zA] M) fun d M'=>∃ jf,d=.ref jf/\M.length<=jf/\(∃ fd,M'[jf]?=some (dT fd)/\fd.length<=702 /\ ∀ t d,zG fd t=some d ↔ Th zA t /\ ∃ n:Nat,Dst zA l One t n/\d=.int (n:Int))/\M.length<=M'.length /\ ∀ j,j<M.length->M'[j]?=M[j]?:=by
 unfold zBu;rw[zv];unfold zFn;have er:zAM (zD (toD (fB zBD (zU (zC 0) zo))) zH) [some (mD zA),none] M=some ((List.range zA.length).map (fun (k:Nat)=>D.int k),none,M):=by
  rw[zCB (j:=(zA.length:Int)) (zB7 rfl) (by omega) (by omega),zHQ];rw[show (zA.length:Int).toNat=zA.length by omega]
 have ec:zw [1] (zAM (zD (toD (fB zBD (zU (zC 0) zo))) zH)) (gN 1) zAD (zAr (zD (toD (zC 1)) zH)) [some (mD zA),none] M=some (.fl ((List.range zA.length).map fun (k:Nat)=>tI [(k:Int)]),M) :=
  zBN (List.range zA.length) (fun (k:Nat)=>D.int k) (fun (k:Nat)=>tI [(k:Int)]) er trivial (by rw[zX5];omega) fun k _=>⟨_,rfl,rfl⟩
 have el:((List.range zA.length).map fun (k:Nat)=>tI [(k:Int)])=((zF zA).map fun r=>[r]).map tI:=by
  unfold zF;rw[zWW,zWW];rfl
 rw[el]at ec;rw[zAh];refine zAJ.mpr (zm.mpr (zAU.mpr (zAb.mpr ⟨_,rfl,?_⟩)));rw[zI];refine zm.mpr (zAU.mpr (zE ec ?_));rw[zI9,zAa];refine Ok.mono (zC2 m zMw hR hl (jg:=M.length) (ts:=(zF zA).map fun r=>[r]) (by simp) ?_ zQN ?_) ?_
 ·unfold zF;rw[zWW];exact List.pairwise_map.mpr (List.Pairwise.imp (fun {a b} h z=>h (by simp at z;omega)) List.nodup_range)
 ·unfold zF;simp;omega
 rintro d M' ⟨jf,rfl,h1,h2,h3,h4⟩;rw[zI];rw[zWO]at h1 h3 h4;refine ⟨jf,rfl,by omega,h2,by omega,fun j hj=>?_⟩;rw[h4 j (by omega),zWF hj]
set_option genInjectivity true in
inductive Climb (zA:List (List Int)) (l:Nat) (G:List Int->Prop):List Int->List Int->Prop
 |nil {t:List Int}:G t->Climb zA l G t []
 |cons {t:List Int} {x:Int} {w:List Int} {n:Nat}:Dst zA l G t (n+1)->0<=x->x<(l:Int)->Dst zA l G (setR zA t x) n->(∀ y,0<=y->y<x -> ¬ Dst zA l G (setR zA t y) n)->Climb zA l G (setR zA t x) w->Climb zA l G t (x::w)
theorem zE2:∀ {w v t:List Int},Climb zA l G t w->Climb zA l G t v->w=v
 |[],[],_,_,_=>rfl
 |[],_::_,_,.nil h,.cons d _ _ _ _ _=>by have:=zAY (zAy.mpr h) d;omega
 |_::_,[],_,.cons d _ _ _ _ _,.nil h=>by have:=zAY (zAy.mpr h) d;omega
 |x::w,y::v,t,.cons (n:=a) d1 x0 x1 e1 f1 c1,.cons (n:=b) d2 y0 y1 e2 f2 c2=>by
  have hab:a=b:=by have:=zAY d1 d2;omega
  subst hab;have hxy:x=y:=by
   rcases Int.lt_trichotomy x y with q|q|q
   ·exact absurd e1 (f2 x x0 q)
   ·exact q
   ·exact absurd e2 (f1 y y0 q)
  subst hxy;rw[zE2 c1 c2]
theorem zIV:∀ {w t:List Int} {n:Nat},Climb zA l G t w->Dst zA l G t n->w.length=n
 |[],_,_,.nil h,d=>by have:=zAY (zAy.mpr h) d;simpa using this
 |x::w,_,n,.cons (n:=a) d1 _ _ e1 _ c1,d=>by
  have h1:=zIV c1 e1;have h2:=zAY d1 d;rw[zWf];omega
theorem zDU:∀ {w t:List Int},Climb zA l G t w->(∀ x∈w,0<=x/\x<(l:Int))/\G (zHn zA t w)
 |[],_,.nil h=>⟨fun _ h=>(by cases h),h⟩
 |x::w,_,.cons _ x0 x1 _ _ c1=>by
  obtain ⟨h1,h2⟩:=zDU c1;refine ⟨fun y hy=>?_,h2⟩;rcases zWK.mp hy with rfl|q
  ·exact ⟨x0,x1⟩
  ·exact h1 y q
theorem zI5 {P:Int->Prop}:∀ (k:Nat),P (k:Int) -> ∃ x:Nat,x<=k/\P (x:Int) /\ ∀ y:Int,0<=y->y<(x:Int) -> ¬ P y:=by
 intro k;induction k using Nat.strongRecOn with
 |ind k ih=>
  intro h;by_cases q:∃ j:Nat,j<k/\P (j:Int)
  ·obtain ⟨j,hj,hp⟩:=q;obtain ⟨x,h1,h2,h3⟩:=ih j hj hp;exact ⟨x,by omega,h2,h3⟩
  ·refine ⟨k,zWE _,h,fun y y0 y1 hp=>q ⟨y.toNat,by omega,?_⟩⟩;rw[show ((y.toNat:Nat):Int)=y by omega];exact hp
theorem zBe:∀ (n:Nat) {t:List Int},Dst zA l G t n -> ∃ w,Climb zA l G t w
 |0,t,d=>⟨[],.nil (zAy.mp d)⟩
 |n+1,t,d=>by
  obtain ⟨_,x,hx,hd⟩:=zC7.mp d;obtain ⟨y,h1,h2,h3⟩:=zI5 (P:=fun x=>Dst zA l G (setR zA t x) n) x.toNat (by rw[show ((x.toNat:Nat):Int)=x by omega];exact hd);obtain ⟨w,hw⟩:=zBe n h2;exact ⟨(y:Int)::w,.cons d (by omega) (by omega) h2 h3 hw⟩
end Lac
namespace Lac
open PySem PySem.Spec PyProof.Rows L2 L3 ST Law
theorem aC' {f:FE} {g:FA} {σ:Sd} {M M1 M2:Mem} {d:D} {ds:List D} (h:toD f σ M=some (d,M1)) (hg:g σ M1=some (ds,M2)):zD (toD f) g σ M=some (d::ds,M2):=by
 unfold zD;rw[h];dsimp only;rw[hg]
theorem zLX (h:f σ M=some (.dat d,M)):toD f σ M=some (d,M):=by unfold toD;rw[h]
theorem zP5 {g:FA} {σ:Sd} {M M1:Mem} {ds:List D} (h:g σ M=some (ds,M1)) (hz:ds.length<=100000):zAw g σ M=some (.fl ds,M1):=by
 unfold zAw;rw[h];dsimp only;rw[zWN (zV hz)]
theorem zHG {g:FA} {σ:Sd} {M M1:Mem} {ds:List D} (h:g σ M=some (ds,M1)) (hz:ds.length<=100000):zAr g σ M=some (.dat (.tup ds),M1):=by
 unfold zAr;rw[h];dsimp only;rw[zWN (zV hz)]
theorem zGT (hf:f σ M=some (.dat (.int i),M)) (hg:g σ M=some (.dat (.int j),M)):fB zFE (zU f (zU g zo)) σ M=some (.dat (.int (if j<i then j else i)),M):=by
 unfold fB zU zo;rw[hf];dsimp only;rw[hg];rfl
theorem zND (hf:f σ M=some (.dat (.int i),M)) (hg:g σ M=some (.dat (.int j),M)):fB zIb (zU f (zU g zo)) σ M=some (.dat (.int (if j>i then j else i)),M):=by
 unfold fB zU zo;rw[hf];dsimp only;rw[hg];rfl
theorem zRM {m:FF} {a:FA} {σ:Sd} {M M1 M':Mem} {ds:List D} {d:D} (h:a σ M=some (ds,M1)) (hm:m ds M1=some (d,M')):zN m a σ M=some (.dat d,M'):=by
 unfold zN;rw[h];dsimp only;rw[hm]
end Lac
namespace Lac
open PySem PySem.Spec PyProof.Rows L2 L3 ST Law
noncomputable def zCa:FS:=(zX (zq 3 (zw [4] (zAM (zD (toD (fB zBD (zU (fOp kIx (zC 0) (fC (.int 0))) zo))) zH)) (gN 4) zAD (zN zBJ (zD (toD (zC 0)) (zD (toD (zC 1)) (zD (toD (zC 4)) zH))))))
  (zAV (fB (zE9 false) (zU (zw [4,5] (zFv (zC 3)) (zB3 4 5) (zDg (tst (fOp (zA8 false) (zC 5) (zC 2))) (tst (fOp kEq (fOp zAA (zC 2) (zC 5)) (fOp zHz (fOp zAA (zC 2) (zC 1)) (fC (.int 1)))))) (zC 4)) zo))))
noncomputable def zAT:FF:=zA7 6 zCa
noncomputable def zEt:FS:=(zX (zq 2 (zw [3] (zr (zN zAO (zD (toD (zN zAE (zD (toD (zC 0)) zH))) zH))) (gN 3) (tst (fOp kGt (zBw (zC 1) (zC 3) (fC (.int 0))) (fC (.int 0)))) (zC 3)))
  (zAV (zC0 true [3] (zr (zC 2)) (gN 3) zAD (zC 3) (zAr (zD (toD (fOp zAA (zC 1) (zC 3))) (zD (toD (zN zAT (zD (toD (zC 0)) (zD (toD (zC 3)) (zD (toD (zC 1)) zH))))) zH))))))
noncomputable def zBU:FF:=zA7 4 zEt
noncomputable def zJK:FS:=(zAV (zN zBU (zD (toD (zC 0)) (zD (toD (zN zBu (zD (toD (zC 0)) zH))) zH))))
noncomputable def zFD:FF:=zA7 1 zJK
noncomputable def zEU:FS:=(zX (zq 3 (zAw zH))
  (zX (zq 4 (zC 2))
  (zX (zBp (tst (fOp (zA8 false) (zC 4) (zC 1))) (zX (zq 5 (fOp kIx (fOp zAA (zC 1) (zC 4)) (fC (.int 1))))
  (zX (zBP (fM zAP (zC 3) (zD (toD (zC 5)) zH)))
  (zq 4 (zN zBJ (zD (toD (zC 0)) (zD (toD (zC 4)) (zD (toD (zC 5)) zH))))))) 1000)
  (zAV (fB zAo (zU (zC 3) zo))))))
noncomputable def zBK:FF:=zA7 6 zEU
noncomputable def zEw:FS:=(zX (zq 3 (zAr (zD (toD (fB zFE (zU (zC 1) (zU (zC 2) zo)))) (zD (toD (fB zIb (zU (zC 1) (zU (zC 2) zo)))) zH))))
  (zX (zq 4 (zN zFD (zD (toD (zC 0)) zH)))
  (zAV (vIf (tst (fOp (zA8 false) (zC 3) (zC 4))) (zN zBK (zD (toD (zC 0)) (zD (toD (zC 4)) (zD (toD (zC 3)) zH)))) (fC .non)))))
noncomputable def zCo:FF:=zFJ (zA7 5 zEw)
theorem zIO {α:Type} (hgd:zAs gd all M) (enc out:α->D) (keep:α->Bool):∀ (as:List α),(∀ a∈as,∃ σ1,g (enc a) σ=some σ1/\tc σ1 M=some (keep a,M)/\(keep a=true->te σ1 M=some (.dat (out a),M)))->zA0 g tc te σ all gd (as.map enc) M=some ((as.filter keep).map out,M)
 |[],_=>by
  rw[List.map_nil];unfold zA0;rw[zWN hgd];rfl
 |a::r,h=>by
  obtain ⟨σ1,e1,e2,e3⟩:=h a zWM;have ih:=zIO (σ:=σ) hgd enc out keep r fun b hb=>h b (zWL _ hb);rw[zWR];unfold zA0;rw[zWN hgd,e1];dsimp only;rw[e2];cases hk:keep a with
  |false=>
   dsimp only;rw[ih,List.filter_cons_of_neg (by simp[hk])]
  |true=>
   dsimp only;rw[show toD te σ1 M=some (out a,M) by unfold toD;rw[e3 hk]];dsimp only;rw[ih,List.filter_cons_of_pos hk];rfl
theorem zAv {α:Type} {own:List Nat} {fi:FI} {g:FG} {tc:FT} {te:FE} {σ:Sd} {M M1:Mem} {gd:Option (Mem->Prop)} (as:List α) (enc out:α->D) (keep:α->Bool) (hi:fi σ M=some (as.map enc,gd,M1)) (hgd:zAs gd (as.map enc) M1) (hz:as.length<=100000)
  (he:∀ a∈as,∃ σ1,g (enc a) (zBB own σ)=some σ1/\tc σ1 M1=some (keep a,M1)/\(keep a=true->te σ1 M1=some (.dat (out a),M1))):zw own fi g tc te σ M=some (.fl ((as.filter keep).map out),M1) :=
 zT (zB1.mpr ⟨_,_,_,hi,by rw[zWH];exact zV hz,zE (zIO hgd enc out keep as he) ⟨rfl,rfl⟩⟩)
theorem zNF {f:FE} {σ:Sd} {M M1:Mem} {xs:List Int} (hf:f σ M=some (.fl (xs.map D.int),M1)) (hx:xs≠[]):∃ b,fB (zE9 false) (zU f zo) σ M=some (.dat (.int b),M1)/\b∈xs /\ ∀ y∈xs,b<=y:=by
 cases xs with
 |nil=>exact absurd rfl hx
 |cons x r=>
  obtain ⟨h1,h2⟩:=zDd false r x;refine ⟨zC5 false x r,?_,h1,fun y hy=>by simpa using h2 y hy⟩;unfold fB zU zo;rw[hf];unfold zE9;dsimp only;rw[zCm]
def zPY (zA:List (List Int)) (l:Nat) (G:List Int->Prop) (fd:List (List Int × D)):Prop:=∀ t d,zG fd t=some d ↔ Th zA t /\ ∃ n:Nat,Dst zA l G t n/\d=.int (n:Int)
structure Fst (zA:List (List Int)) (l:Nat) (G:List Int->Prop) (p:List Int) (n:Nat) (x:Int):Prop where
 x0:0<=x
 x1:x<(l:Int)
 d:Dst zA l G (setR zA p x) n
 f:∀ y,0<=y->y<x -> ¬ Dst zA l G (setR zA p y) n
def isN (n:Nat):Option D->Bool
 |some (.int v)=>decide (v=(n:Int))
 |_=>false
theorem zJS (sp:zPY zA l G fd) (u:Th zA t):isN n (zG fd t)=true ↔ Dst zA l G t n:=by
 constructor
 ·intro h;cases e:zG fd t with
  |none=>rw[e]at h;cases h
  |some d=>
   obtain ⟨_,k,hk,rfl⟩:=(sp t d).mp e;rw[e]at h;have:(k:Int)=(n:Int):=zW4 h;rw[show n=k by omega];exact hk
 ·intro h;rw[(sp t _).mpr ⟨u,n,h,rfl⟩];exact zXG rfl
theorem eqE:kEq (.dat (.int a)) (.dat (.int b)) M=some (.dat (.bl (decide (a=b))),M):=zT (zKa.mpr ⟨rfl,rfl⟩)
theorem zVr:zHz (.dat (.int a)) (.dat (.int b)) M=some (.dat (.int (a-b)),M):=rfl
theorem gtE:kGt (.dat (.int a)) (.dat (.int b)) M=some (.dat (.bl (decide (b<a))),M):=rfl
theorem zNC (ha:a σ M=some (true,M)) (hb:b σ M=some (k,M)):zDg a b σ M=some (k,M):=by unfold zDg;rw[ha];exact hb
theorem zMr (ha:a σ M=some (false,M)):zDg a b σ M=some (false,M):=by unfold zDg;rw[ha]
theorem zO3 {zA:List (List Int)} {l:Nat} {G:List Int->Prop} (m:IsM zA l) (hR:zA.length<=26) (hl:l<=12) {M:Mem} {jf:Nat} {fd:List (List Int × D)} (hf:M[jf]?=some (dT fd)) (sp:zPY zA l G fd) {p:List Int} (u:Th zA p) {n:Nat} (hd:Dst zA l G p (n+1)) :
  Ok (zAT [mD zA,tI p,.ref jf] M) fun d M'=>∃ x:Int,d=.int x/\Fst zA l G p n x /\ ∃ us,M'=M++us:=by
 unfold zAT;rw[zv];unfold zCa;have hfl:=(zWB.mp hf).1;have er:=zIZ (σ:=[some (mD zA),some (tI p),some (.ref jf),none,none,none]) (M:=M) (zIz m (f:=zC 0) rfl) (by omega) (by omega);rw[show (l:Int).toNat=l by omega]at er;have ec:=zBN (own:=[4]) (g:=gN 4) (te:=zN zBJ (zD (toD (zC 0)) (zD (toD (zC 1)) (zD (toD (zC 4)) zH)))) (List.range l) (fun (k:Nat)=>D.int k) (fun (k:Nat)=>tI (setR zA p (k:Int))) er trivial (by rw[zX5];omega) fun k hk=>⟨_,rfl,zj (zd (d:=mD zA) rfl (zd (d:=tI p) rfl (zW (d:=.int (k:Int)) rfl))) (zJN m (by omega) u.1 (by omega) (by have:=zWm.mp hk;omega))⟩;rw[zJ,zQ];refine zE ec (zb ?_);rw[zM];generalize hA:M++[MO.lst ((List.range l).map fun (k:Nat)=>tI (setR zA p (k:Int)))]=A;have a1:A[M.length]?=some (.lst ((List.range l).map fun (k:Nat)=>tI (setR zA p (k:Int)))):=by rw[<-hA];simp
 have a2:A[jf]?=some (dT fd):=by rw[<-hA,zWF hfl];exact hf
 have hen:zFv (zC 3) [some (mD zA),some (tI p),some (.ref jf),some (.ref M.length),none,none] A=some ((List.range l).map (fun (k:Nat)=>D.tup [.int (k:Nat),tI (setR zA p (k:Int))]),zDA (.dat (.ref M.length)) ((List.range l).map fun (k:Nat)=>tI (setR zA p (k:Int))),A):=by
  unfold zFv;rw[show zC 3 [some (mD zA),some (tI p),some (.ref jf),some (.ref M.length),none,none] A=some (.dat (.ref M.length),A)from rfl];dsimp only;rw[zf a1];dsimp only;congr 2;unfold zJF;rw[zWH,zX5];apply List.ext_getElem?;intro i;by_cases hi:i<l
  ·rw[zWV,zWV,List.zip_eq_zipWith,List.getElem?_zipWith,zWV,zYC hi];rfl
  ·rw[zXH (by simp;omega),zXH (by simp;omega)]
 have lp:zG fd p=some (.int ((n+1:Nat):Int)):=(sp p _).mpr ⟨u,n+1,hd,rfl⟩;have ef:=zAv (own:=[4,5]) (g:=zB3 4 5) (tc:=zDg (tst (fOp (zA8 false) (zC 5) (zC 2))) (tst (fOp kEq (fOp zAA (zC 2) (zC 5)) (fOp zHz (fOp zAA (zC 2) (zC 1)) (fC (.int 1)))))) (te:=zC 4) (List.range l) _ (fun (k:Nat)=>D.int (k:Int)) (fun (k:Nat)=>isN n (zG fd (setR zA p (k:Int)))) hen (.inl a1) (by rw[zX5];omega) (fun k hk=>by
  have u':=zDQ m p (k:Int) u ⟨by omega,by have:=zWm.mp hk;omega⟩;refine ⟨[some (mD zA),some (tI p),some (.ref jf),some (.ref M.length),some (.int (k:Int)),some (tI (setR zA p (k:Int)))],rfl,?_,fun _=>rfl⟩;have e1:fOp (zA8 false) (zC 5) (zC 2) [some (mD zA),some (tI p),some (.ref jf),some (.ref M.length),some (.int (k:Int)),some (tI (setR zA p (k:Int)))] A=_:=zK (x:=.dat (tI (setR zA p (k:Int)))) (y:=.dat (.ref jf)) rfl rfl (zLZ a2);rw[zWQ (by decide)]at e1;cases e:zG fd (setR zA p (k:Int)) with
  |none=>
   rw[e]at e1;exact zMr (zn e1)
  |some d=>
   obtain ⟨_,v,_,rfl⟩:=(sp _ d).mp e;rw[e]at e1;refine zNC (zn e1) (zn ?_);refine zK (x:=.dat (.int (v:Int))) (y:=.dat (.int (((n+1:Nat):Int)-1))) (zK (x:=.dat (.ref jf)) (y:=.dat (tI (setR zA p (k:Int)))) rfl rfl (zIU a2 e)) (zK (x:=.dat (.int ((n+1:Nat):Int))) (y:=.dat (.int 1)) (zK (x:=.dat (.ref jf)) (y:=.dat (tI p)) rfl rfl (zIU a2 lp)) rfl zVr) ?_;rw[eqE];unfold isN;congr 5;exact propext ⟨fun h=>by omega,fun h=>by omega⟩)
 rw[show ((List.range l).filter fun (k:Nat)=>isN n (zG fd (setR zA p (k:Int)))).map (fun (k:Nat)=>D.int (k:Int))=(((List.range l).filter fun (k:Nat)=>isN n (zG fd (setR zA p (k:Int)))).map fun (k:Nat)=>(k:Int)).map D.int by rw[zWW];rfl]at ef;obtain ⟨b,eb,hb1,hb2⟩:=zNF ef (by
  obtain ⟨_,x,hx,hr⟩:=zC7.mp hd;have:((x.toNat:Nat):Int)∈((List.range l).filter fun (k:Nat)=>isN n (zG fd (setR zA p (k:Int)))).map fun (k:Nat)=>(k:Int):=zWP.mpr ⟨x.toNat,zXJ.mpr ⟨zWm.mpr (by omega),by rw[show ((x.toNat:Nat):Int)=x by omega];exact (zJS sp (zDQ m p x u hx)).mpr hr⟩,rfl⟩;exact List.ne_nil_of_mem this)
 obtain ⟨k,hk,rfl⟩:=zWP.mp hb1;obtain ⟨k1,k2⟩:=zXJ.mp hk;have k3:=zWm.mp k1;refine zAR eb ⟨(k:Int),rfl,⟨by omega,by omega,(zJS sp (zDQ m p _ u ⟨by omega,by omega⟩)).mp k2,fun y y0 y1 hy=>?_⟩,_,hA.symm⟩;have:=hb2 y (zWP.mpr ⟨y.toNat,zXJ.mpr ⟨zWm.mpr (by omega),by rw[show ((y.toNat:Nat):Int)=y by omega];exact (zJS sp (zDQ m p y u ⟨y0,by omega⟩)).mpr hy⟩,by omega⟩);omega
theorem zL8 (a:Fst zA l G p n x) (b:Fst zA l G p n y):x=y:=by
 rcases Int.lt_trichotomy x y with q|q|q
 ·exact absurd a.d (b.f x a.x0 q)
 ·exact q
 ·exact absurd b.d (a.f y b.x0 q)
open Classical in
noncomputable def zGM (zA:List (List Int)) (l:Nat) (G:List Int->Prop) (t:List Int):Nat:=if h:∃ n,Dst zA l G t n then Classical.choose h else 0
open Classical in
noncomputable def zSp (zA:List (List Int)) (l:Nat) (G:List Int->Prop) (t:List Int):Int:=if h:∃ x,Fst zA l G t (zGM zA l G t-1) x then Classical.choose h else 0
theorem zEH (h:Dst zA l G t n):zGM zA l G t=n:=by
 unfold zGM;have hx:∃ n,Dst zA l G t n:=⟨n,h⟩;rw[dif_pos hx];exact zAY (Classical.choose_spec hx) h
theorem zKS (h:0<zGM zA l G t):Dst zA l G t (zGM zA l G t):=by
 by_cases hx:∃ n,Dst zA l G t n
 ·obtain ⟨n,hn⟩:=hx;rw[zEH hn];exact hn
 ·unfold zGM at h;rw[dif_neg hx]at h;omega
theorem zNM (hd:Dst zA l G t (n+1)) (h:Fst zA l G t n x):zSp zA l G t=x:=by
 unfold zSp;rw[zEH hd];have hx:∃ x,Fst zA l G t (n+1-1) x:=⟨x,h⟩;rw[dif_pos hx];exact zL8 (Classical.choose_spec hx) h
noncomputable def zMq (zA:List (List Int)) (l:Nat) (G:List Int->Prop) (t:List Int):Bool:=decide (0<zGM zA l G t)
noncomputable def zGs (zA:List (List Int)) (l:Nat) (G:List Int->Prop) (t:List Int):D:=.tup [.int (zGM zA l G t:Nat),.int (zSp zA l G t)]
noncomputable def zBl (zA:List (List Int)) (l:Nat) (G:List Int->Prop):List (List Int):=(zO (zF zA)).filter (zMq zA l G)
noncomputable def zBd (zA:List (List Int)) (l:Nat) (G:List Int->Prop):List (List Int × D):=(zBl zA l G).map fun p=>(p,zGs zA l G p)
theorem zLH {f:List Int->D} {t:List Int}:∀ {ps:List (List Int)},zG (ps.map fun p=>(p,f p)) t=if t∈ps then some (f t) else none
 |[]=>rfl
 |p::r=>by
  rw[zWR,zG];by_cases h:p=t
  ·subst h;rw[zWN rfl,zWN zWM]
  ·rw[zWQ h,zLH (ps:=r)];by_cases hr:t∈r
   ·rw[zWN hr,zWN (zWL _ hr)]
   ·rw[zWQ hr,zWQ (by simp[hr,Ne.symm h])]
theorem zRI (h:g∉T.map (·.1)):zDM T g v=T++[(g,v)]:=by
 unfold zDM;cases e:zG T g with
 |none=>rfl
 |some d=>exact absurd (zD5.mp (show (zG T g).isSome=true by rw[e];rfl)) h
theorem zDX (h:xs.Nodup):(zO xs).Nodup:=by
 have gen:∀ r:List Int,r.Nodup->(r.flatMap fun a=>(xs.filter fun b=>decide (a<b)).map fun b=>[a,b]).Nodup:=by
  intro r;induction r with
  |nil=>intro _;simp
  |cons a r ih=>
   intro hr;obtain ⟨h1,h2⟩:=List.nodup_cons.mp hr;rw[List.flatMap_cons,zXM];refine ⟨?_,ih h2,fun u hu v hv=>?_⟩
   ·refine List.pairwise_map.mpr (List.Pairwise.imp (fun {x y} q z=>q (by simpa using z)) (List.Pairwise.filter _ h))
   ·obtain ⟨b,_,rfl⟩:=zWP.mp hu;obtain ⟨c,hc,hv⟩:=List.mem_flatMap.mp hv;obtain ⟨d,_,rfl⟩:=zWP.mp hv;intro z;have:a=c:=by simpa using (zXC z).1
    exact h1 (by rw[this];exact hc)
 exact gen xs h
theorem zD8 (zA:List (List Int)):(zF zA).Nodup:=by
 unfold zF;exact List.pairwise_map.mpr (List.Pairwise.imp (fun {a b} h z=>h (by omega)) List.nodup_range)
theorem zBH:t∈zBl zA l G ↔ t∈zO (zF zA) /\ ∃ n,Dst zA l G t (n+1):=by
 unfold zBl zMq;rw[zXJ];constructor
 ·rintro ⟨a,b⟩;have:=zKS (zW4 b);exact ⟨a,zGM zA l G t-1,by rw[show zGM zA l G t-1+1=zGM zA l G t by have:=zW4 b;omega];exact this⟩
 ·rintro ⟨a,n,h⟩;exact ⟨a,zXG (by rw[zEH h];omega)⟩
theorem zTw (hf:f σ M=some (.dat (.ref n),M)) (hn:M[n]?=some (dT T)) (hg:g σ M=some (.dat (tI k),M)):zBw f g (fC c) σ M=some (.dat ((zG T k).getD c),M):=by
 unfold zBw;rw[show toD f σ M=some (.ref n,M) by unfold toD;rw[hf]];dsimp only;rw[hn];rw[show toD g σ M=some (tI k,M) by unfold toD;rw[hg]];dsimp only;rw[show toD (fC c) σ M=some (c,M)from rfl];dsimp only;rw[dgT hn]
theorem zOa {own:List Nat} {i:Nat} {tv:FE} {σ:Sd} {M:Mem} {jl jk:Nat} {K:MO} {ts:List (List Int)} {val:List Int->D} (hj:M[jl]?=some (.lst (ts.map tI))) (hk:M[jk]?=some K) (nd:ts.Nodup) (hz:ts.length<=80000)
  (hg:∀ a,gN i a (zBB own σ)=some ((zBB own σ).set i (some a))) (hs:∀ (a:D) M',zC i ((zBB own σ).set i (some a)) M'=some (.dat a,M'))
  (hv:∀ t∈ts,∀ M':Mem,M'[jk]?=some K -> ∃ us,tv ((zBB own σ).set i (some (tI t))) M'=some (.dat (val t),M'++us)) {n:Nat} (hn:n=M.length) :
  ∃ us,zCY (gN i) zAD (zC i) tv (zBB own σ) n (ts.map tI) (zDA (.dat (.ref jl)) (ts.map tI)) (ts.map tI) (M++[dT []])=some (M++dT (ts.map fun t=>(t,val t))::us):=by
 subst hn;have hjl:=(zWB.mp hj).1;have hkl:=(zWB.mp hk).1;have loop:∀ (r q:List (List Int)) (ws:Mem),q++r=ts -> ∃ us,zCY (gN i) zAD (zC i) tv (zBB own σ) M.length (ts.map tI) (zDA (.dat (.ref jl)) (ts.map tI)) (r.map tI) (M++dT (q.map fun t=>(t,val t))::ws)=some (M++dT (ts.map fun t=>(t,val t))::us):=by
  intro r;induction r with
  |nil=>
   intro q ws e;rw[zWs]at e;subst e;exact ⟨ws,zIo (.inl (by rw[zWF hjl];exact hj))⟩
  |cons x r ih=>
   intro q ws e;have hx:x∉q:=fun z=>by
    rw[<-e,zXM]at nd;exact nd.2.2 x z x zWM rfl
   have hl:q.length<90000:=by have:=congrArg List.length e;simp at this;omega
   obtain ⟨us,hu⟩:=hv x (by rw[<-e];simp) (M++dT (q.map fun t=>(t,val t))::ws) (by rw[zWF hkl];exact hk);obtain ⟨vs,hvs⟩:=ih (q++[x]) (ws++us) (by rw[<-e];simp);refine ⟨vs,?_⟩;rw[<-hvs,zWR];have hgd:zAs (zDA (.dat (.ref jl)) (ts.map tI)) (ts.map tI) (M++dT (q.map fun t=>(t,val t))::ws):=.inl (by rw[zWF hjl];exact hj);rw[zCY,zWN hgd,hg];dsimp only;rw[show zAD ((zBB own σ).set i (some (tI x))) (M++dT (q.map fun t=>(t,val t))::ws)=some (true,M++dT (q.map fun t=>(t,val t))::ws)from rfl];dsimp only;rw[show toD (zC i) ((zBB own σ).set i (some (tI x))) (M++dT (q.map fun t=>(t,val t))::ws)=some (tI x,M++dT (q.map fun t=>(t,val t))::ws) by unfold toD;rw[hs]];dsimp only;rw[show toD tv ((zBB own σ).set i (some (tI x))) (M++dT (q.map fun t=>(t,val t))::ws)=some (val x,M++dT (q.map fun t=>(t,val t))::ws++us) by unfold toD;rw[hu]];dsimp only;rw[zM6 (T:=q.map fun t=>(t,val t)) (by simp) (by rw[zWH];exact hl),zRI (by rw[zWW];simpa using hx)];congr 1;rw[zXE,List.set_append_right _ _ (zWE _)];simp
 exact loop ts [] [] rfl
theorem zDy {zA:List (List Int)} {l:Nat} {G:List Int->Prop} (m:IsM zA l) (hR:zA.length<=26) (hl:l<=12) {M:Mem} {jf:Nat} {fd:List (List Int × D)} (hf:M[jf]?=some (dT fd)) (sp:zPY zA l G fd) :
  Ok (zBU [mD zA,.ref jf] M) fun d M'=>∃ jr us,d=.ref jr/\M'=M++us/\M.length<=jr/\M'[jr]?=some (dT (zBd zA l G)):=by
 unfold zBU;rw[zv];unfold zEt;have hfl:=(zWB.mp hf).1;have hrl:(zF zA).length=zA.length:=by unfold zF;simp
 have epr:=zEE (xs:=zF zA) (by omega) (M:=M);have ei:zr (zN zAO (zD (toD (zN zAE (zD (toD (zC 0)) zH))) zH)) [some (mD zA),some (.ref jf),none,none] M=_:=zDW (zW (d:=tI (zF zA)) (zj (zW (d:=mD zA) rfl) (zC8 (by omega)))) epr (zY _ _);have hPl:(zO (zF zA)).length<=676:=by
  have h1:=zCX (zF zA);rw[hrl]at h1;exact zWZ h1 (zXk hR hR)
 generalize hA:M++[MO.lst ((zO (zF zA)).map tI)]=A at ei;have a1:A[M.length]?=some (.lst ((zO (zF zA)).map tI)):=by rw[<-hA];simp
 have a2:A[jf]?=some (dT fd):=by rw[<-hA,zWF hfl];exact hf
 have ef:=zAv (own:=[3]) (g:=gN 3) (tc:=tst (fOp kGt (zBw (zC 1) (zC 3) (fC (.int 0))) (fC (.int 0)))) (te:=zC 3) (zO (zF zA)) tI tI (zMq zA l G) ei (.inl a1) (by omega) (fun p hp=>by
  refine ⟨[some (mD zA),some (.ref jf),none,some (tI p)],rfl,zn ?_,fun _=>rfl⟩;have e1:zBw (zC 1) (zC 3) (fC (.int 0)) [some (mD zA),some (.ref jf),none,some (tI p)] A=_:=zTw (k:=p) rfl a2 rfl;unfold zMq;cases e:zG fd p with
  |none=>
   rw[e]at e1;rw[zK (x:=.dat (.int 0)) (y:=.dat (.int 0)) e1 rfl gtE];have:¬ 0<zGM zA l G p:=fun h=>by
    rw[(sp p _).mpr ⟨zBF p hp,_,zKS h,rfl⟩]at e;cases e
   rw[zWh this];rfl
  |some d=>
   obtain ⟨_,v,hv,rfl⟩:=(sp _ d).mp e;rw[e]at e1;rw[zK (x:=.dat (.int (v:Int))) (y:=.dat (.int 0)) e1 rfl gtE,zEH hv];congr 5;exact propext ⟨fun h=>by omega,fun h=>by omega⟩)
 rw[zJ,zQ];refine zE ef (zb ?_);rw[zM];show OkS (zAV _ [some (mD zA),some (.ref jf),some (.ref A.length),none] (A++[.lst ((zBl zA l G).map tI)])) _;have nd:(zBl zA l G).Nodup:=List.Pairwise.filter _ (zDX (zD8 zA));have hrl2:(zBl zA l G).length<=676:=zWZ (zYS _ _) hPl;generalize hB:A++[MO.lst ((zBl zA l G).map tI)]=B;have b1:B[A.length]?=some (.lst ((zBl zA l G).map tI)):=by rw[<-hB];simp
 have b2:B[jf]?=some (dT fd):=by rw[<-hB,zWF (zWB.mp a2).1];exact a2
 obtain ⟨us,hu⟩:=zOa (own:=[3]) (i:=3) (σ:=[some (mD zA),some (.ref jf),some (.ref A.length),none]) (tv:=zAr (zD (toD (fOp zAA (zC 1) (zC 3))) (zD (toD (zN zAT (zD (toD (zC 0)) (zD (toD (zC 3)) (zD (toD (zC 1)) zH))))) zH))) (val:=zGs zA l G) b1 b2 nd (by omega) (fun _=>rfl) (fun _ _=>rfl) (fun t ht M' hM=>by
  obtain ⟨ht1,n,hn⟩:=zBH.mp ht;obtain ⟨d,M2,e,x,rfl,fx,us,rfl⟩:=zO3 m hR hl hM sp (zBF t ht1) hn;refine ⟨us,?_⟩;show zAr _ [some (mD zA),some (.ref jf),some (.ref A.length),some (tI t)] M'=_;have e1:fOp zAA (zC 1) (zC 3) [some (mD zA),some (.ref jf),some (.ref A.length),some (tI t)] M'=some (.dat (.int ((n+1:Nat):Int)),M'):=zK (x:=.dat (.ref jf)) (y:=.dat (tI t)) rfl rfl (zIU hM ((sp t _).mpr ⟨zBF t ht1,n+1,hn,rfl⟩));have e2:zN zAT (zD (toD (zC 0)) (zD (toD (zC 3)) (zD (toD (zC 1)) zH))) [some (mD zA),some (.ref jf),some (.ref A.length),some (tI t)] M'=some (.dat (.int x),M'++us):=zj (zd (d:=mD zA) rfl (zd (d:=tI t) rfl (zW (d:=.ref jf) rfl))) e;rw[zHG (aC' (zLX e1) (zSQ e2)) (by simp)];unfold zGs;rw[zEH hn,zNM hn fx]) rfl
 have ed:zC0 true [3] (zr (zC 2)) (gN 3) zAD (zC 3) (zAr (zD (toD (fOp zAA (zC 1) (zC 3))) (zD (toD (zN zAT (zD (toD (zC 0)) (zD (toD (zC 3)) (zD (toD (zC 1)) zH))))) zH))) [some (mD zA),some (.ref jf),some (.ref A.length),none] B=some (.dat (.ref B.length),B++dT (zBd zA l G)::us):=by
  unfold zC0 zr;rw[show zC 2 [some (mD zA),some (.ref jf),some (.ref A.length),none] B=some (.dat (.ref A.length),B)from rfl];dsimp only;rw[zf b1];dsimp only;rw[show zJl true=dT []from rfl,hu];rfl
 rw[zAh];refine zE ed ⟨B.length,[MO.lst ((zO (zF zA)).map tI)]++([MO.lst ((zBl zA l G).map tI)]++dT (zBd zA l G)::us),rfl,by rw[<-hB,<-hA];simp only[zXE],?_,by simp⟩;rw[<-hB,<-hA];simp only[zWO];omega
theorem zPO (m:IsM zA l) (hR:zA.length<=26) (hl:l<=12) :
  Ok (zFD [mD zA] M) fun d M'=>∃ jr,d=.ref jr/\M.length<=jr/\M'[jr]?=some (dT (zBd zA l One))/\M.length<=M'.length /\ ∀ j,j<M.length->M'[j]?=M[j]?:=by
 unfold zFD;rw[zv];unfold zJK;obtain ⟨d,M1,e,jf,rfl,h1,⟨fd,h2,_,sp⟩,h3,h4⟩:=zHF m hR hl (M:=M);obtain ⟨d2,M2,e2,jr,us,rfl,rfl,q1,q2⟩:=zDy m hR hl h2 sp;rw[zAh];have ec:zN zBU (zD (toD (zC 0)) (zD (toD (zN zBu (zD (toD (zC 0)) zH))) zH)) [some (mD zA)] M=some (.dat (.ref jr),M1++us):=by
  exact zRM (aC' (zLX (d:=mD zA) rfl) (zSQ (zj (zW (d:=mD zA) rfl) e))) e2
 refine zE ec ⟨jr,rfl,by omega,q2,by rw[zWO];omega,fun j hj=>?_⟩;rw[zWF (by omega)];exact h4 j hj
theorem zIm (m:IsM zA l) (o:zCG zA G):∀ (n:Nat) (t:List Int),Th zA t->Dst zA l G t n -> ∃ ts:List (List Int),ts.length=n/\ts.Nodup /\ ∀ s∈ts,s∈zO (zF zA) /\ ∃ k,k<=n/\Dst zA l G s k
 |0,_,_,_=>⟨[],rfl,List.nodup_nil,fun _ h=>by cases h⟩
 |n+1,t,u,d=>by
  obtain ⟨q,x,hx,hd⟩:=zC7.mp d;obtain ⟨ts,h1,h2,h3⟩:=zIm m o n (setR zA t x) (zDQ m t x u hx) hd;refine ⟨t::ts,by simp[h1],List.nodup_cons.mpr ⟨fun z=>?_,h2⟩,fun s hs=>?_⟩
  ·obtain ⟨_,k,hk,hk2⟩:=h3 t z;have:=zAY hk2 d;omega
  ·rcases zWK.mp hs with rfl|z
   ·exact ⟨zFm m o s (n+1) u (fun g=>by have:=zAY (zAy.mpr g) d;omega) d.1,n+1,zWE _,d⟩
   ·obtain ⟨a,k,hk,b⟩:=h3 s z;exact ⟨a,k,by omega,b⟩
theorem zQI (m:IsM zA l) (o:zCG zA G) (u:Th zA t) (d:Dst zA l G t n):n<=(zO (zF zA)).length:=by
 obtain ⟨ts,h1,h2,h3⟩:=zIm m o n t u d;rw[<-h1];exact zFg ts _ h2 fun s hs=>(h3 s hs).1
theorem zBG (hR:zA.length<=26):(zO (zF zA)).length<=676:=by
 have h1:=zCX (zF zA);have hrl:(zF zA).length=zA.length:=by unfold zF;simp
 rw[hrl]at h1;exact zWZ h1 (zXk hR hR)
theorem zFt (c:Climb zA l G t w):Dst zA l G t w.length:=by
 cases c with
 |nil g=>exact zAy.mpr g
 |cons d x0 x1 e f c=>rw[zWf,zIV c e];exact d
theorem zC6:zG (zBd zA l G) t=if t∈zBl zA l G then some (zGs zA l G t) else none:=zLH
theorem zEe (m:IsM zA l) (o:zCG zA G) (hR:zA.length<=26) (hr:M[jr]?=some (dT (zBd zA l G))) (u:Th zA p) (c:Climb zA l G p w) :
  Ok (zBK [mD zA,.ref jr,tI p] M) fun d M'=>d=tI w /\ ∃ us,M'=M++us:=by
 have hrl:=(zWB.mp hr).1;have hw:w.length<=676:=zWZ (zQI m o u (zFt c)) (zBG hR);unfold zBK;rw[zv];unfold zEU;rw[zJ,zQ];refine zE (M:=M) (a:=.fl []) (zP5 rfl (by simp)) (zb ?_);rw[zM];refine zCE (d:=tI p) rfl ?_;rw[zJ];refine zC9 (I:=fun z σ M'=>∃ (w1 w2 here:List Int) (y:Option D),w=w1++w2/\Climb zA l G here w2/\Th zA here/\z=w2.length/\σ=[some (mD zA),some (.ref jr),some (tI p),some (.ref M.length),some (tI here),y]/\M'=M++[.lst (w1.map D.int)]) ?_ 1000 w.length _ _ (by omega) ⟨[],w,p,none,rfl,c,u,rfl,rfl,rfl⟩;rintro z σ M' ⟨w1,w2,here,y,hw12,c2,u2,rfl,rfl,rfl⟩;have hM:(M++[MO.lst (w1.map D.int)])[jr]?=some (dT (zBd zA l G)):=by rw[zWF hrl];exact hr
 have hL:(M++[MO.lst (w1.map D.int)])[M.length]?=some (.lst (w1.map D.int)):=by simp
 have et:tst (fOp (zA8 false) (zC 4) (zC 1)) [some (mD zA),some (.ref jr),some (tI p),some (.ref M.length),some (tI here),y] (M++[MO.lst (w1.map D.int)])=some ((zG (zBd zA l G) here).isSome,M++[MO.lst (w1.map D.int)]):=by
  have:=zK (k:=zA8 false) (f:=zC 4) (g:=zC 1) (σ:=[some (mD zA),some (.ref jr),some (tI p),some (.ref M.length),some (tI here),y]) (x:=.dat (tI here)) (y:=.dat (.ref jr)) rfl rfl (zLZ hM);rw[zWQ (by decide)]at this;exact zn this
 refine zE et ?_;cases c2 with
 |nil g=>
  have hlk:zG (zBd zA l G) here=none:=by rw[zC6,zWQ (fun h=>by obtain ⟨_,n,hn⟩:=zBH.mp h;have:=zAY (zAy.mpr g) hn;omega)]
  rw[hlk];rw[zWs]at hw12;subst hw12;exact zAR (d:=tI w) (zCC (f:=zC 3) rfl (zf hL)) ⟨rfl,_,rfl⟩
 | @cons _ x w3 n d x0 x1 e f c3=>
  have hp:=zFm m o here (n+1) u2 (fun g=>by have:=zAY (zAy.mpr g) d;omega) d.1;have hin:here∈zBl zA l G:=zBH.mpr ⟨hp,n,d⟩;have fx:Fst zA l G here n x:=⟨x0,x1,e,f⟩;have hv:zGs zA l G here=.tup [.int ((n+1:Nat):Int),.int x]:=by unfold zGs;rw[zEH d,zNM d fx]
  have hlk:zG (zBd zA l G) here=some (.tup [.int ((n+1:Nat):Int),.int x]):=by rw[zC6,zWN hin,hv]
  rw[hlk];have hlen:=congrArg List.length hw12;rw[zWO,zWf]at hlen;refine zCE (d:=.int x) (zK (x:=.dat (.tup [.int ((n+1:Nat):Int),.int x])) (y:=.dat (.int 1)) (zK (x:=.dat (.ref jr)) (y:=.dat (tI here)) rfl rfl (zIU hM hlk)) rfl (zA5 zi rfl)) ?_;rw[zJ,zBj];refine zHM.mpr (zE (a:=.dat (.ref M.length)) (M:=M++[MO.lst (w1.map D.int)]) rfl ⟨⟨_,zAd hL⟩,zE (zW (d:=.int x) rfl) ((zCW hL (by rw[zWH];exact zWX (show w1.length<1000 by omega) (zV (by omega)))).mpr ?_)⟩);rw[zM];have hset:(M++[MO.lst (w1.map D.int)]).set M.length (.lst (w1.map D.int++[.int x]))=M++[MO.lst ((w1++[x]).map D.int)]:=by
   rw[List.set_append_right _ _ (zWE _)];simp
  rw[hset,zQ];refine zE (zj (zd (d:=mD zA) rfl (zd (d:=tI here) rfl (zW (d:=.int x) rfl))) (zJN m (by omega) u2.1 x0 x1)) ?_;exact ⟨w3.length,by simp,w1++[x],w3,setR zA here x,some (.int x),by rw[hw12];simp,c3,zDQ m here x u2 ⟨x0,x1⟩,rfl,rfl,rfl⟩
open Classical in
noncomputable def zQa (zA:List (List Int)) (l:Nat) (G:List Int->Prop) (t:List Int):D:=if h:∃ w,Climb zA l G t w then tI (Classical.choose h) else .non
theorem zIS (c:Climb zA l G t w):zQa zA l G t=tI w:=by
 unfold zQa;have hx:∃ w,Climb zA l G t w:=⟨w,c⟩;rw[dif_pos hx,zE2 (Classical.choose_spec hx) c]
theorem zOM (h:¬ ∃ w,Climb zA l G t w):zQa zA l G t=.non:=by
 unfold zQa;rw[dif_neg h]
def zAL (a b:Int):List Int:=[if b<a then b else a,if b>a then b else a]
theorem zNw (a0:0<=a) (a1:a<zA.length) (b0:0<=b) (b1:b<zA.length) (ne:a≠b):zAL a b∈zO (zF zA):=by
 unfold zAL;refine zp.mpr ⟨_,_,rfl,zBx.mpr ?_,zBx.mpr ?_,?_⟩
 ·split <;> omega
 ·split <;> omega
 ·split <;> split <;> omega
theorem zK4 {zA:List (List Int)} {l:Nat} (m:IsM zA l) (hR:zA.length<=26) (hl:l<=12) {a b:Int} (a0:0<=a) (a1:a<zA.length) (b0:0<=b) (b1:b<zA.length) (ne:a≠b) {M:Mem} :
  zCo [mD zA,.int a,.int b] M=some (zQa zA l One (zAL a b),M):=by
 have hp:=zNw a0 a1 b0 b1 ne;refine zT ?_;unfold zCo;refine zER ?_ ?_
 ·unfold D.unds D.unds D.unds D.unds;rw[zEF];rfl
 rw[zv];unfold zEw;refine zCE (d:=tI (zAL a b)) (zHG (aC' (zLX (zGT (i:=a) (j:=b) rfl rfl)) (zW (zND (i:=a) (j:=b) rfl rfl))) (by simp[zAL])) ?_;obtain ⟨d,M1,e,jr,rfl,_,h2,_,_⟩:=zPO m hR hl (M:=[]);rw[zJ,zQ];refine zE (zj (zW (d:=mD zA) rfl) e) ?_;rw[zI,zM];have et:tst (fOp (zA8 false) (zC 3) (zC 4)) [some (mD zA),some (.int a),some (.int b),some (tI (zAL a b)),some (.ref jr)] M1=some ((zG (zBd zA l One) (zAL a b)).isSome,M1):=by
  have:=zK (k:=zA8 false) (f:=zC 3) (g:=zC 4) (σ:=[some (mD zA),some (.int a),some (.int b),some (tI (zAL a b)),some (.ref jr)]) (x:=.dat (tI (zAL a b))) (y:=.dat (.ref jr)) rfl rfl (zLZ h2);rw[zWQ (by decide)]at this;exact zn this
 rw[zAh,zT0];refine zE et ?_;by_cases hin:zAL a b∈zBl zA l One
 ·rw[show zG (zBd zA l One) (zAL a b)=some (zGs zA l One (zAL a b)) by rw[zC6,zWN hin]];obtain ⟨_,n,hn⟩:=zBH.mp hin;obtain ⟨w,c⟩:=zBe _ hn;obtain ⟨d,M2,e2,rfl,us,rfl⟩:=zEe m zMw hR h2 (zBF _ hp) c;refine zE (zj (zd (d:=mD zA) rfl (zd (d:=.ref jr) rfl (zW (d:=tI (zAL a b)) rfl))) e2) ?_;exact ⟨zA1 _,(zIS c).symm,rfl⟩
 ·rw[show zG (zBd zA l One) (zAL a b)=none by rw[zC6,zWQ hin]];refine zE rfl ⟨rfl,?_,rfl⟩;refine (zOM ?_).symm;rintro ⟨w,c⟩;have hd:=zFt c;cases w with
  |nil=>have:=zAy.mp hd;exact absurd this (by unfold zAL;simp)
  |cons x w=>exact hin (zBH.mpr ⟨hp,w.length,hd⟩)
theorem zJO:(ris [a,b]).length=1 ↔ a=b:=by
 constructor
 ·intro h;obtain ⟨r,e⟩:=List.length_eq_one_iff.mp h;have ha:a∈ris [a,b]:=(zCr _ _).mpr (by simp);have hb:b∈ris [a,b]:=(zCr _ _).mpr (by simp);rw[e,List.mem_singleton]at ha hb;rw[ha,hb]
 ·rintro rfl;rw[show ris [a,a]=ris [a]from zJp (by simp),zMQ (by simp)];rfl
theorem zQm (h:a≠b):(zAL a b).Pairwise (· < ·):=by
 unfold zAL;simp only[zYI,List.mem_singleton,forall_eq,zWd,false_implies,implies_true,List.Pairwise.nil,and_true];split <;> split <;> omega
end Lac
namespace Lac
open PySem PySem.Spec PyProof.Rows L2 L3 ST Law
theorem zK0 {xs:List Int} (h:xs.Pairwise (· < ·)) (hi:i<xs.length):xs.filter (fun b=>decide (xs[i]<b))=xs.drop (i+1):=by
 have hg:=List.pairwise_iff_getElem.mp h;have h1:(xs.take (i+1)).filter (fun b=>decide (xs[i]<b))=[]:=by
  rw[List.filter_eq_nil_iff];intro b hb;obtain ⟨j,hj,rfl⟩:=zYB hb;rw[zXW]at hj;rw[List.getElem_take,zXL];rcases zXU j i with q|q
  ·have:=hg j i (by omega) hi q;omega
  ·have:j=i:=by omega
   subst this;omega
 have h2:(xs.drop (i+1)).filter (fun b=>decide (xs[i]<b))=xs.drop (i+1):=by
  rw[List.filter_eq_self];intro b hb;obtain ⟨j,hj,rfl⟩:=zYB hb;rw[List.length_drop]at hj;rw[List.getElem_drop,zXL];exact hg i (i+1+j) hi (by omega) (by omega)
 have key:∀ f:Int->Bool,(xs.take (i+1)).filter f=[]->(xs.drop (i+1)).filter f=xs.drop (i+1)->xs.filter f=xs.drop (i+1):=fun f a b=>by
  have:=List.filter_append (p:=f) (xs.take (i+1)) (xs.drop (i+1));rw[List.take_append_drop,a,b]at this;simpa using this
 exact key _ h1 h2
def zFo (xs:List Int) (k:Nat):List (List Int):=(List.range k).flatMap fun i=>(xs.drop (i+1)).map fun b=>[xs.getD i 0,b]
theorem zNo {xs:List Int} (h:xs.Pairwise (· < ·)):zFo xs xs.length=zO xs:=by
 have e:zO xs=(List.range xs.length).flatMap fun i=>(xs.filter fun b=>decide (xs.getD i 0<b)).map fun b=>[xs.getD i 0,b]:=by
  unfold zO;have:xs=(List.range xs.length).map fun i=>xs.getD i 0:=by
   have:=zGZ (fun x:Int=>x) 0 xs;simpa using this.symm
  conv=>lhs;arg 2;rw[this]
  rw[List.flatMap_map]
 rw[e];unfold zFo;have:∀ i∈List.range xs.length,(xs.drop (i+1)).map (fun b=>[xs.getD i 0,b])=(xs.filter fun b=>decide (xs.getD i 0<b)).map fun b=>[xs.getD i 0,b]:=fun i hi=>by
  have hi':=zWm.mp hi;rw[<-zK0 h hi'];congr 2;funext b;rw[zWD,zWC hi'];rfl
 rw[List.flatMap_def,List.flatMap_def,List.map_congr_left this]
theorem zQ7 (xs:List Int):∀ k,(zFo xs k).length<=k*xs.length:=by
 intro k;induction k with
 |zero=>simp[zFo]
 |succ k ih=>
  unfold zFo at ih ⊢;rw[List.range_succ,List.flatMap_append,zWO];simp only[List.flatMap_cons,List.flatMap_nil,zWs,zWH,List.length_drop];rw[Nat.add_mul];omega
theorem zE6 (n:Nat) (ps:List (List Int)):D.unds n (ps.map tI)=true:=by
 induction ps with
 |nil=>rfl
 |cons p r ih=>rw[zWR];unfold D.unds;rw[ih,show D.und n (tI p)=true from zA1 p];rfl
theorem zNu (h:p≠q):zAL p q=ris [p,q]:=by
 refine (zMQ (zQm h)).symm.trans (zJp fun x=>?_);unfold zAL;by_cases z:q<p
 ·rw[zWN z,zWQ (by omega)];simp[or_comm]
 ·rw[zWQ z,zWN (by omega)]
end Lac
namespace Lad
open PySem PySem.Spec PyProof.Rows L2 L3 ST Law
noncomputable def zDq:FS:=(zX (zq 1 (fC (.int 7)))
  (zX (zBs (zr (fSl (zC 0) zBm (zBO (fC (.int 63))))) (gN 2) (zq 1 (fOp zDI (fOp zAS (fOp zAS (fOp zMV (zC 1) (fC (.int 6364136223846793005))) (zC 2)) (fC (.int 1442695040888963407))) (fC (.int 2305843009213693951)))))
  (zAV (zIt "great" (zw [2] (zr (fSl (zC 0) zBm (zBO (fC (.int 63))))) (gN 2) (tst (fOp kGe (zC 2) (fOp zOm (fC (.int 10)) (fC (.int 18))))) (zC 2)) "seed" (zC 1)))))
noncomputable def zB6:FF:=zA7 3 zDq
noncomputable def zEm:FS:=(zX (sIf (tst (fOp kNe (fOp zAA (zC 0) (fC (.str "great"))) (zAw zH))) (zX (zq 2 (fOp zDI (fOp kIx (fOp zAA (zC 0) (fC (.str "great"))) (fC (.int 0))) (zC 1)))
  (zX (zME (fOp zLj (fOp kIx (fOp zAA (zC 0) (fC (.str "great"))) (fC (.int 0))) (zC 1)) (fOp zAA (zC 0) (fC (.str "great"))) (fC (.int 0)))
  (zX (sIf (tst (fOp kEq (fOp kIx (fOp zAA (zC 0) (fC (.str "great"))) (fC (.int 0))) (fC (.int 0)))) (zBP (fM zHp (fOp zAA (zC 0) (fC (.str "great"))) (zD (toD (fC (.int 0))) zH))) zBC)
  (zAV (zC 2))))) zBC)
  (zX (zCJ (fOp zDI (fOp zAS (fOp zMV (fOp zAA (zC 0) (fC (.str "seed"))) (fC (.int 3935559000370003845))) (fC (.int 2691343689449507681))) (fC (.int 2305843009213693951))) (zC 0) (fC (.str "seed")))
  (zX (zq 3 (fOp zLj (fOp zAA (zC 0) (fC (.str "seed"))) (fC (.int 65537))))
  (zAV (fOp zDI (fOp zLj (fOp zDI (fOp zMV (zC 3) (zC 3)) (fC (.int 998244353))) (fC (.int 3))) (zC 1))))))
noncomputable def zZ:FF:=zA7 4 zEm
abbrev gS (k:Nat) (s:Int):MO:=.dict [(.str "great", .ref k),(.str "seed", .int s)]
structure Gen (M:Mem) (n k:Nat):Prop where
 ex:∃ (c:List Int) (s:Int),M[n]?=some (gS k s)/\M[k]?=some (.lst (c.map D.int))/\(∀ x∈c,0<=x)/\c.length<=63/\0<=s/\s<2305843009213693951
 ne:n≠k
 wf:∀ (j:Nat) u,M[j]?=some u->MO.und M.length u=true
structure Nw (M M':Mem) (n k:Nat):Prop where
 gen:Gen M' n k
 len:M.length<=M'.length
 fr:∀ j,j<M.length->j≠n->j≠k->M'[j]?=M[j]?
theorem Nw.refl (h:Gen M n k):Nw M M n k:=⟨h,zWE _,fun _ _ _ _=>rfl⟩
theorem Nw.trans {M M1 M2:Mem} {n k:Nat} (a:Nw M M1 n k) (b:Nw M1 M2 n k):Nw M M2 n k :=
 ⟨b.gen,zWZ a.len b.len,fun j h h1 h2=>(b.fr j (zWX h a.len) h1 h2).trans (a.fr j h h1 h2)⟩
theorem Gen.lt (h:Gen M n k):n<M.length/\k<M.length:=by
 obtain ⟨c,s,e1,e2,_⟩:=h.ex;exact ⟨(zWB.mp e1).1,(zWB.mp e2).1⟩
theorem zPg (hk:k<N):MO.und N (gS k s)=true:=by
 unfold MO.und;simp[D.und,hk]
theorem Gen.put {M:Mem} (h:Gen M n k) {c:List Int} (hc:∀ x∈c,0<=x) (hl:c.length<=63) (h0:0<=s) (h1:s<2305843009213693951) :
  Nw M ((M.set k (.lst (c.map D.int))).set n (gS k s)) n k:=by
 obtain ⟨hn,hk⟩:=h.lt;refine ⟨⟨⟨c,s,?_,?_,hc,hl,h0,h1⟩,h.ne,fun j u e=>?_⟩,by simp,fun j _ h1 h2=>?_⟩
 ·rw[zW2 (by simpa using hn)]
 ·rw[zWc h.ne,zW2 hk]
 ·rw[List.length_set,List.length_set];rw[zXh]at e;split at e
  ·split at e
   ·cases e;exact zPg hk
   ·cases e
  ·rw[zXh]at e;split at e
   ·rename_i z;subst z;cases e;exact zu _ _
   ·exact h.wf j u e
 ·rw[zWc (Ne.symm h1),zWc (Ne.symm h2)]
theorem Gen.app (h:Gen A n k) (hu:∀ u∈us,MO.und (A.length+us.length) u=true):Nw A (A++us) n k:=by
 obtain ⟨c,s,e1,e2,r⟩:=h.ex;obtain ⟨hn,hk⟩:=h.lt;refine ⟨⟨⟨c,s,by rw[zWF hn];exact e1,by rw[zWF hk];exact e2,r⟩,h.ne,fun j u e=>?_⟩,by simp,fun j hj _ _=>zWF hj⟩;rw[zWO];by_cases hj:j<A.length
 ·rw[zWF hj]at e;exact zIX (by omega) (h.wf j u e)
 ·rw[zXI (by omega)]at e;exact hu u (zWz e)
theorem Gen.lst (h:Gen A n k) (xs:List D) (hx:D.unds A.length xs=true):Nw A (A++[.lst xs]) n k:=h.app fun u hu=>by
 have:u=.lst xs:=by simpa using hu
 subst this;exact zCR (by simp) hx
theorem Nw.setB (h:Nw M A n k) (g:Gen M n k) (hj:M.length<=j) (hu:MO.und A.length u=true):Nw M (A.set j u) n k:=by
 obtain ⟨hn,hk⟩:=g.lt;obtain ⟨c,s,e1,e2,r⟩:=h.gen.ex;refine ⟨⟨⟨c,s,by rw[zWc (by omega)];exact e1,by rw[zWc (by omega)];exact e2,r⟩,g.ne,fun i v e=>?_⟩,by rw[List.length_set];exact h.len,fun i hi h1 h2=>by rw[zWc (by omega)];exact h.fr i hi h1 h2⟩;rw[List.length_set];rw[zXh]at e;split at e
 ·split at e
  ·cases e;exact hu
  ·cases e
 ·exact h.gen.wf i v e
theorem Nw.wf0 (h:Nw M M' n k) (g:Gen M n k):∀ (j:Nat) u,j<M.length->M'[j]?=some u->MO.und M.length u=true:=fun j u hj e=>by
 obtain ⟨hn,hk⟩:=g.lt;obtain ⟨c,s,e1,e2,r⟩:=h.gen.ex;by_cases q1:j=n
 ·subst q1;rw[e1]at e;cases e;exact zPg hk
 ·by_cases q2:j=k
  ·subst q2;rw[e2]at e;cases e;exact zu _ _
  ·rw[h.fr j hj q1 q2]at e;exact g.wf j u e
theorem Nw.trim (h:Nw M M' n k) (g:Gen M n k):Nw M (M'.take M.length) n k:=by
 obtain ⟨hn,hk⟩:=g.lt;have tk:∀ j,j<M.length->(M'.take M.length)[j]?=M'[j]?:=fun j hj=>List.getElem?_take_of_lt hj;have tl:(M'.take M.length).length=M.length:=by have:=h.len;rw[zXW];omega
 obtain ⟨c,s,e1,e2,r⟩:=h.gen.ex;refine ⟨⟨⟨c,s,(tk n hn).trans e1,(tk k hk).trans e2,r⟩,g.ne,fun j u e=>?_⟩,by omega,fun j hj h1 h2=>(tk j hj).trans (h.fr j hj h1 h2)⟩;have hj:j<M.length:=by have:=(zWB.mp e).1;omega
 rw[tk j hj]at e;rw[tl];exact h.wf0 g j u hj e
theorem Nw.get (h:Nw M M' n k) (e:M[j]?=some u) (h1:j≠n) (h2:j≠k):M'[j]?=some u :=
 (h.fr j (zWB.mp e).1 h1 h2).trans e
theorem zIl (hf:f σ M=some (.dat (.ref n),M)) (hM:M[n]?=some (gS k s)):fOp zAA f (fC (.str "great")) σ M=some (.dat (.ref k),M)/\fOp zAA f (fC (.str "seed")) σ M=some (.dat (.int s),M):=by
 constructor
 ·refine zK hf rfl ?_;unfold zAA zDD;dsimp only;rw[hM];rfl
 ·refine zK hf rfl ?_;unfold zAA zDD;dsimp only;rw[hM];rfl
theorem zVi (hM:M[n]?=some (gS k s)):zED M n (.str "seed") (.int s')=some (M.set n (gS k s')):=by
 unfold zED;rw[hM];dsimp only[zCM];rw[zWN (show [(D.str (Str.ofString "great"),D.ref k),(D.str (Str.ofString "seed"),D.int s)].length<sizeLine from zV (n:=3) (by omega))];rfl
theorem zQp (h1:fv σ M=some (.dat v,M)) (h2:fo σ M=some (.dat (.ref n),M)) (h3:fi σ M=some (.dat k,M)) (h4:zED M n k v=some M4) (q:P .nx σ M4):OkS (zCJ fv fo fi σ M) P:=by
 refine ⟨.nx,σ,M4,?_,q⟩;unfold zCJ toD;rw[h1];dsimp only;rw[h2];dsimp only;rw[h3];dsimp only;rw[h4]
theorem zEB (h:0<b):zDI (.dat (.int a)) (.dat (.int b)) M=some (.dat (.int (a % b)),M):=zT (zSY.mpr ⟨h,rfl,rfl⟩)
theorem zQK (h:0<b/\b<1073741824):zLj (.dat (.int a)) (.dat (.int b)) M=some (.dat (.int (a / b)),M):=zT (zSV.mpr ⟨h,rfl,rfl⟩)
theorem zJo {M:Mem} (h:Gen M n k) (h0:0<m) (h1:m<1073741824) :
  Ok (zZ [.ref n,.int m] M) fun d M'=>(∃ i,d=.int i/\0<=i/\i<m)/\Nw M M' n k/\M'.length=M.length:=by
 unfold zZ;rw[zv];unfold zEm;obtain ⟨c,s,e1,e2,e3,e4,e5,e6⟩:=h.ex;obtain ⟨hn,hk⟩:=h.lt;rw[zJ,zAx];have ne:Ok (tst (fOp kNe (fOp zAA (zC 0) (fC (.str "great"))) (zAw zH)) [some (.ref n),some (.int m),none,none] M) fun b M'=>b=(!c.isEmpty)/\M'=M:=by
  refine zLf.mpr (zBQ.mpr (zE (zIl rfl e1).1 (zDH.mpr (zAa.mpr ⟨zWu _,?_⟩))));rw[zRt (zAd e2) (by intro d e;cases e;rfl)];rw[zL2];exact ⟨by simp,rfl⟩
 refine Ok.mono ne ?_;rintro b M' ⟨rfl,rfl⟩;cases c with
 |nil=>
  simp only[List.isEmpty_nil,Bool.not_true,zW9,if_false];rw[zAf,zM,zJ];have hs0:0<=(s*3935559000370003845+2691343689449507681) % 2305843009213693951:=Int.emod_nonneg _ (by decide);have hs1:(s*3935559000370003845+2691343689449507681) % 2305843009213693951<2305843009213693951:=Int.emod_lt_of_pos _ (by decide);have ev:fOp zDI (fOp zAS (fOp zMV (fOp zAA (zC 0) (fC (.str "seed"))) (fC (.int 3935559000370003845))) (fC (.int 2691343689449507681))) (fC (.int 2305843009213693951)) [some (.ref n),some (.int m),none,none] M'=some (.dat (.int ((s*3935559000370003845+2691343689449507681) % 2305843009213693951)),M') :=
   zK (zK (zK (zIl rfl e1).2 rfl (zT (zPb.mpr ⟨by simp[zOW] <;> omega,rfl,rfl⟩))) rfl rfl) rfl (zEB (by decide))
  generalize (s*3935559000370003845+2691343689449507681) % 2305843009213693951=s' at hs0 hs1 ev;refine zQp ev rfl rfl (zVi e1) ?_;rw[zM];have P:=h.put (c:=[]) (s:=s') (fun _ h=>by cases h) (by simp) hs0 hs1;rw[zKQ (show M'[k]?=some (.lst (([]:List Int).map D.int))from e2)]at P;have e1':(M'.set n (gS k s'))[n]?=some (gS k s'):=zW2 hn;refine zCE (zK (zIl rfl e1').2 rfl (zQK ⟨by decide,by decide⟩)) ?_;have hm0:0<=s' / 65537:=Int.ediv_nonneg hs0 (by decide);have hm1:s' / 65537<2305843009213693951:=by omega
  refine zAR (zK (zK (zK (zK (x:=.dat (.int (s' / 65537))) (y:=.dat (.int (s' / 65537))) rfl rfl (zT (zPb.mpr ⟨by simp[zOW] <;> omega,rfl,rfl⟩))) rfl (zEB (by decide))) rfl (zQK ⟨by decide,by decide⟩)) rfl (zEB h0)) ?_;exact ⟨⟨_,rfl,Int.emod_nonneg _ (by omega),Int.emod_lt_of_pos _ h0⟩,P,by simp⟩
 |cons x c=>
  simp only[List.isEmpty_cons,Bool.not_false,if_true];have hd:∀ {x:Int} {c:List Int} {M:Mem} {σ:Sd},zC 0 σ M=some (.dat (.ref n),M)->M[n]?=some (gS k s)->M[k]?=some (.lst ((x::c).map D.int))->fOp kIx (fOp zAA (zC 0) (fC (.str "great"))) (fC (.int 0)) σ M=some (.dat (.int x),M):=fun {x c M σ} hf hM hK=>
   zK (zIl hf hM).1 rfl (zA5 (zf hK) at0)
  refine zCE (zK (hd rfl e1 e2) rfl (zEB h0)) ?_;rw[zJ,zM2];refine zBQ.mpr (zE (hd rfl e1 e2) (zAb.mpr ⟨_,rfl,zSV.mpr ⟨⟨h0,h1⟩,?_⟩⟩));rw[zI];refine zE (zIl rfl e1).1 (zFS.mpr ?_);rw[zI];refine ⟨_,zKp (k:=0) e2 (by simp),?_⟩;rw[zM,zJ];have hx:=e3 x zWM;have hq:0<=x / m:=Int.ediv_nonneg hx (by omega);have e2':(M'.set k (.lst (((x / m)::c).map D.int)))[k]?=some (.lst (((x / m)::c).map D.int)):=zW2 hk;have e1':(M'.set k (.lst (((x / m)::c).map D.int)))[n]?=some (gS k s):=by rw[zWc (Ne.symm h.ne)];exact e1
  rw[zAx];refine zE (zn (zK (hd rfl e1' e2') rfl (zT (zKa.mpr ⟨rfl,rfl⟩)))) ?_;have fin:∀ (c':List Int),(∀ y∈c',0<=y)->c'.length<=63->Nw M' (M'.set k (.lst (c'.map D.int))) n k:=fun c' q1 q2=>by
   have P:=h.put (c:=c') (s:=s) q1 q2 e5 e6;rw[zKQ (k:=n) (by rw[zWc (Ne.symm h.ne)];exact e1)]at P;exact P
  by_cases hz:x / m=0
  ·rw[zWN (by simpa using hz),zBj];refine zHM.mpr (zE (zIl rfl e1').1 ⟨⟨_,zAd e2'⟩,zm.mpr (zAU.mpr (zFS.mpr (zI.mpr (zAa.mpr ?_))))⟩);rw[zWR]at e2' ⊢;rw[zTT e2',zM];refine zAR rfl ⟨⟨_,rfl,Int.emod_nonneg _ (by omega),Int.emod_lt_of_pos _ h0⟩,?_,by simp⟩;rw[List.set_set];exact fin c (fun y hy=>e3 y (zWL _ hy)) (by simp at e4;omega)
  ·rw[zWQ (by simpa using hz),zAf,zM];refine zAR rfl ⟨⟨_,rfl,Int.emod_nonneg _ (by omega),Int.emod_lt_of_pos _ h0⟩,fin ((x / m)::c) (fun y hy=>?_) (by simpa using e4),by simp⟩;rcases zWK.mp hy with z|z
   ·subst z;exact hq
   ·exact e3 y (zWL _ z)
theorem zAe (h:Gen M n k) (ha:fa σ M=some (.dat (.ref n),M)) (hb:fb σ M=some (.dat (.int m),M)) (h0:0<m) (h1:m<1073741824)
  (q:∀ i M',0<=i->i<m->Nw M M' n k->M'.length=M.length->P (.dat (.int i)) M'):Ok (zN zZ (zD (toD fa) (zD (toD fb) zH)) σ M) P:=by
 rw[zAJ,zm,zAU];refine ⟨_,_,ha,?_⟩;rw[zI,zm,zAU];refine ⟨_,_,hb,?_⟩;rw[zI,zAa];refine Ok.mono (zJo h h0 h1) ?_;rintro d M' ⟨⟨i,rfl,i0,i1⟩,nx,hl⟩;exact q i M' i0 i1 nx hl
theorem zQP {ns:List Int} (h:ns.length<=63):Ok (zB6 [.ref 0] [.fro (ns.map D.int)]) fun d M'=>d=.ref 1/\Gen M' 1 2/\M'[0]?=some (.fro (ns.map D.int)):=by
 unfold zB6;rw[zv];unfold zDq;have e0:([.fro (ns.map D.int)]:Mem)[0]?=some (.fro (ns.map D.int)):=rfl;obtain ⟨cut,ec,lc⟩:=zQs ns none (some 63);have sl:∀ {σ:Sd} {us:Mem},σ[0]?=some (some (.ref 0))->fSl (zC 0) zBm (zBO (fC (.int 63))) σ (.fro (ns.map D.int)::us)=some (.fl (cut.map D.int),.fro (ns.map D.int)::us):=fun {σ us} hσ=>by
  refine zT (zUK.mpr (zAb.mpr ⟨_,hσ,zPy.mpr (zPT.mpr (zFS.mpr (zQW.mpr ?_)))⟩));rw[zTv (zMv (xs:=ns.map D.int) rfl) rfl,ec];exact ⟨rfl,rfl⟩
 refine zCE rfl ?_;rw[zJ,zAi];refine ⟨_,_,_,zBb (sl rfl) zCZ,?_⟩;refine zAZ (I:=fun r σ M=>M=[.fro (ns.map D.int)]/\(∃ c:List Int,r=c.map D.int) /\ ∃ s y,σ=[some (.ref 0),some (.int s),y]/\0<=s/\s<2305843009213693951) ?_ ?_ _ _ _ ⟨rfl,⟨cut,rfl⟩,_,none,rfl,by decide,by decide⟩
 ·rintro x r σ M ⟨rfl,⟨c,hc⟩,s,y,rfl,h0,h1⟩;obtain ⟨z,c',rfl,rfl,rfl⟩:=zAq hc;refine ⟨zAC,_,rfl,?_⟩;rw[zQ];refine zBQ.mpr (zBQ.mpr (zBQ.mpr (zBQ.mpr (zAb.mpr ⟨_,rfl,zFS.mpr (zPb.mpr ⟨by simp[zOW],?_⟩)⟩))));refine zAb.mpr ⟨_,rfl,zFu.mpr (zFS.mpr (zFu.mpr (zFS.mpr (zSY.mpr ⟨by decide,?_⟩))))⟩;rw[zI];exact ⟨rfl,⟨c',rfl⟩,_,_,rfl,Int.emod_nonneg _ (by decide),Int.emod_lt_of_pos _ (by decide)⟩
 ·rintro σ M ⟨rfl,_,s,y,rfl,h0,h1⟩;refine ⟨zAC,?_⟩;rw[zM,zAh];have cp:Ok (zw [2] (zr (fSl (zC 0) zBm (zBO (fC (.int 63))))) (gN 2) (tst (fOp kGe (zC 2) (fOp zOm (fC (.int 10)) (fC (.int 18))))) (zC 2) [some (.ref 0),some (.int s),y] [.fro (ns.map D.int),.dict []]) fun x M=>M=[.fro (ns.map D.int),.dict []] /\ ∃ b:List Int,x=.fl (b.map D.int)/\b.length<=63 /\ ∀ x∈b,0<=x:=by
   rw[zB1];refine ⟨_,_,_,zBb (sl rfl) zCZ,by rw[zWH];exact zV (by omega),?_⟩;refine Ok.mono (zBR (I:=fun r acc M=>M=[.fro (ns.map D.int),.dict []]/\(∃ c:List Int,r=c.map D.int)/\r.length+acc.length<=63 /\ ∃ b:List Int,acc=b.map D.int /\ ∀ x∈b,0<=x) (Q:=fun acc M=>M=[.fro (ns.map D.int),.dict []]/\acc.length<=63 /\ ∃ b:List Int,acc=b.map D.int /\ ∀ x∈b,0<=x) ?_ ?_ _ [] _ ⟨rfl,⟨cut,rfl⟩,by simp;omega,[],rfl,fun _ h=>by cases h⟩) ?_
   ·rintro x r acc M ⟨rfl,⟨c,hc⟩,hl,b,rfl,hb⟩;obtain ⟨z,c',rfl,rfl,rfl⟩:=zAq hc;refine ⟨zAC,_,rfl,?_⟩;refine zLf.mpr (zBQ.mpr (zAb.mpr ⟨_,rfl,zBQ.mpr (zFS.mpr (zFS.mpr (zUT.mpr ⟨by decide,zVp.mpr (zL2.mpr ?_)⟩)))⟩));by_cases hz:(10:Int) ^ (18:Int).toNat<=z
    ·rw[zWN (by simpa using hz)];have big:(0:Int)<=10 ^ (18:Int).toNat:=by decide
     refine zAb.mpr ⟨_,rfl,zI.mpr ⟨rfl,⟨c',rfl⟩,?_,b++[z],by simp,?_⟩⟩
     ·simp at hl ⊢;omega
     ·intro y hy;rcases zWY.mp hy with q|q
      ·exact hb y q
      ·have:y=z:=by simpa using q
       rw[this];exact Int.le_trans big hz
    ·rw[zWQ (by simpa using hz)];exact ⟨rfl,⟨c',rfl⟩,by simp at hl ⊢;omega,b,rfl,hb⟩
   ·rintro acc M ⟨rfl,_,hl,hb⟩;exact ⟨zAC,rfl,by simpa using hl,hb⟩
   ·rintro ys M ⟨rfl,hl,b,hb,hp⟩;rw[zYQ]at hb hl;subst hb;exact ⟨rfl,b,rfl,by simpa using hl,hp⟩
  obtain ⟨x,M1,ex,rfl,b,rfl,hl,hb⟩:=cp;refine zE (M:=[.fro (ns.map D.int),gS 2 s,.lst (b.map D.int)]) (a:=.dat (.ref 1)) ?_ ?_
  ·unfold zIt;have e1:toD (zw [2] (zr (fSl (zC 0) zBm (zBO (fC (.int 63))))) (gN 2) (tst (fOp kGe (zC 2) (fOp zOm (fC (.int 10)) (fC (.int 18))))) (zC 2)) [some (.ref 0),some (.int s),y] ([.fro (ns.map D.int)]++[.dict []])=some (.ref 2,[.fro (ns.map D.int),.dict [],.lst (b.map D.int)]):=by
    unfold toD;rw[show ([.fro (ns.map D.int)]++[.dict []]:Mem)=[.fro (ns.map D.int),.dict []]from rfl,ex];rfl
   rw[e1];rfl
  ·rw[zI];refine ⟨rfl,⟨⟨b,s,rfl,rfl,hb,hl,h0,h1⟩,by decide,?_⟩,rfl⟩;intro j u e;match j,e with
   |0,e=>cases e;exact zu _ _
   |1,e=>cases e;rfl
   |2,e=>cases e;exact zu _ _
   |j+3,e=>simp at e
noncomputable def zDJ:FS:=(zX (zq 3 (zw [4] (zAM (zD (toD (zC 1)) zH)) (gN 4) zAD (zN zZ (zD (toD (zC 0)) (zD (toD (zC 1)) zH)))))
  (zX (zLa (zB3 5 6) (zAr (zD (toD (fOp kIx (zC 3) (fC (.int 0)))) (zD (toD (fOp kIx (zC 3) (zSJ (fC (.int 1))))) zH))))
  (zX (sIf (tst (fOp kEq (zC 2) (fC (.int 0)))) (zAV (zC 3)) zBC)
  (zX (sIf (tst (fOp kEq (zC 2) (fC (.int 5)))) (zAV (fOp zJX (zAw (zD (toD (zC 5)) zH)) (zC 1))) zBC)
  (zX (sIf (tst (fOp kEq (zC 2) (fC (.int 6)))) (zAV (zw [4,7] (zFv (zC 3)) (zB3 4 7) zAD (vIf (tst (fOp kLe (zC 4) (zC 5))) (fOp zDI (zC 7) (fOp zAS (zC 5) (fC (.int 1)))) (fOp zAS (fOp zAS (zC 5) (fC (.int 1))) (fOp zDI (zC 7) (fOp zHz (fOp zHz (zC 1) (zC 5)) (fC (.int 1)))))))) zBC)
  (zX (zq 8 (zFP (zC 1)))
  (zX (sIf (tst (fOp kEq (zC 2) (fC (.int 3)))) (zAV (fOp zDj (fSl (zC 8) (zBO (fC (.int 1))) zBm) (fSl (zC 8) zBm (zBO (fC (.int 1)))))) zBC)
  (zX (sIf (tst (fOp kLt (zC 2) (fC (.int 3)))) (zX (zq 9 (zFP (zC 1)))
  (zq 8 (zw [7] (zr (zC 3)) (gN 7) zAD (fM zHp (zC 9) (zD (toD (fOp zDI (zC 7) (fB zBD (zU (zC 9) zo)))) zH))))) zBC)
  (zX (sIf (tst (fOp (kIn false) (zC 2) (zAr (zD (toD (fC (.int 2))) (zD (toD (fC (.int 4))) zH))))) (zME (fOp kIx (zC 8) (zC 6)) (zC 8) (zC 5)) zBC)
  (zAV (zC 8)))))))))))
noncomputable def zAg:FF:=zA7 10 zDJ
noncomputable def zCz:FS:=(zX (zq 3 (fOp zAS (fC (.int 1)) (zN zZ (zD (toD (zC 0)) (zD (toD (fOp kIx (zAw (zD (toD (fC (.int 3))) (zD (toD (fC (.int 7))) (zD (toD (zC 1)) zH)))) (zN zZ (zD (toD (zC 0)) (zD (toD (fC (.int 3))) zH))))) zH)))))
  (zX (zq 4 (fOp zAS (fC (.int 1)) (zN zZ (zD (toD (zC 0)) (zD (toD (zC 2)) zH)))))
  (zX (zq 5 (zN zZ (zD (toD (zC 0)) (zD (toD (fC (.int 10))) zH))))
  (zX (zq 6 (zAw zH))
  (zX (zBs (zAM (zD (toD (zC 4)) zH)) (gN 7) (zX (zq 8 (fOp kIx (zAw (zD (toD (fC (.int 3))) (zD (toD (fC (.int 4))) zH))) (fOp zDI (zC 7) (fC (.int 2)))))
  (zX (sIf (tst (fOp kLt (zC 5) (fC (.int 7)))) (zq 8 (zC 5)) zBC)
  (zX (sIf (tst (fOp kEq (zC 5) (fC (.int 9)))) (zq 8 (zN zZ (zD (toD (zC 0)) (zD (toD (fC (.int 7))) zH)))) zBC)
  (zBP (fM zAP (zC 6) (zD (toD (zN zAg (zD (toD (zC 0)) (zD (toD (zC 3)) (zD (toD (zC 8)) zH))))) zH)))))))
  (zX (sIf (tst (fOp kEq (zC 5) (fC (.int 8)))) (zq 6 (fOp zJX (fSl (zC 6) zBm (zBO (fC (.int 1)))) (zC 4))) zBC)
  (zAV (fB zAo (zU (zw [10] (zAM (zD (toD (zC 3)) zH)) (gN 10) zAD (fB zAo (zU (zw [9] (zr (zC 6)) (gN 9) zAD (fOp kIx (zC 9) (zC 10))) zo))) zo)))))))))
noncomputable def zA3:FF:=zHZ (zA7 11 zCz)
def Col (many:Int) (c:List Int):Prop:=(c.length:Int)=many /\ ∀ x∈c,0<=x/\x<many
theorem zK6 (h:Gen M n k) (h0:0<few) (h1:few<1073741824) (m0:0<=many) (m1:many<=90000)
  (hf:f σ M=some (.dat (.int many),M)) (ha:∀ (x:D) (M:Mem),fa ((zBB own σ).set i (some x)) M=some (.dat (.ref n),M)) (hb:∀ (x:D) (M:Mem),fb ((zBB own σ).set i (some x)) M=some (.dat (.int few),M)) :
  Ok (zw own (zAM (zD (toD f) zH)) (gN i) zAD (zN zZ (zD (toD fa) (zD (toD fb) zH))) σ M) fun x M'=>(∃ c:List Int,x=.fl (c.map D.int)/\(c.length:Int)=many /\ ∀ y∈c,0<=y/\y<few)/\Nw M M' n k/\M'.length=M.length:=by
 refine zB1.mpr ⟨_,_,_,zCB hf m0 (by omega),by rw[zC1];exact zV (by omega),?_⟩;refine Ok.mono (zPD (n:=many.toNat) (I:=fun j acc M2=>(∃ c:List Int,acc=c.map D.int/\c.length=j /\ ∀ y∈c,0<=y/\y<few)/\Nw M M2 n k/\M2.length=M.length) ?_ ⟨⟨[],rfl,rfl,fun _ h=>by cases h⟩,Nw.refl h,rfl⟩) ?_
 ·rintro j acc M2 hj ⟨⟨c,rfl,hcl,hc⟩,nw,hl⟩;refine ⟨_,rfl,?_⟩;refine zAe nw.gen (ha _ _) (hb _ _) h0 h1 fun g M3 g0 g1 nw3 hl3=>?_;rw[zI];refine ⟨⟨c++[g],by simp,by simp[hcl],fun z hz=>?_⟩,nw.trans nw3,by omega⟩;rcases zWY.mp hz with q|q
  ·exact hc z q
  ·have:z=g:=by simpa using q
   subst this;exact ⟨g0,g1⟩
 ·rintro ys M2 ⟨⟨c,rfl,hcl,hc⟩,nw,hl⟩;exact ⟨⟨c,rfl,by omega,hc⟩,nw,hl⟩
theorem zM5 (j:Nat):upD j=((List.range j).map fun (k:Nat)=>(k:Int)).map D.int:=by
 unfold upD;rw[zWW];rfl
theorem zTL (h:0<=many):Col many ((List.range many.toNat).map fun (k:Nat)=>(k:Int)):=by
 refine ⟨by simp;omega,fun x hx=>?_⟩;obtain ⟨k,hk,rfl⟩:=zWP.mp hx;have:=zWm.mp hk;omega
theorem zb (h:P (.ref M.length) (M++[.lst xs])):zGA P (.fl xs) M:=h
theorem zY (A:Mem) (u:MO):(A++[u])[A.length]?=some u:=by simp
theorem zPS (h:Col many c) (hj:j<c.length):Col many (c.set i (c.getD j 0)):=by
 refine ⟨by rw[List.length_set];exact h.1,fun x hx=>?_⟩;rcases List.mem_or_eq_of_mem_set hx with q|q
 ·exact h.2 x q
 ·rw[q,zWD,zWC hj];exact h.2 _ (zWg hj)
theorem zJR (h:Col many c) (hj:j<c.length):0<=c.getD j 0/\c.getD j 0<many:=by
 rw[zWD,zWC hj];exact h.2 _ (zWg hj)
theorem zFG (xs:List Int) (i:Nat):(xs.eraseIdx i).map D.int=(xs.map D.int).eraseIdx i:=by
 induction xs generalizing i with
 |nil=>rfl
 |cons x r ih=>
  cases i with
  |zero=>rfl
  |succ i=>simp[ih]
theorem zIH:L3.zDS xs none (some 1)=xs.take 1:=by
 have s:HT.sIx xs.length xs.length (some 1)=min 1 xs.length:=HT.zGX xs.length xs.length 1;have z:HT.sIx xs.length 0 none=0:=rfl;unfold L3.zDS;rw[s,z];simp only[List.drop_zero,Nat.sub_zero];cases xs with
 |nil=>rfl
 |cons a r=>simp
theorem slL {f:FE} {fl fh:FO} {σ:Sd} {M:Mem} {x:EV} {xs:List D} {lo hi:Option Int} (hf:f σ M=some (x,M)) (ht:zBc x=none) (hx:zBW M x=some xs) (hl:fl σ M=some (lo,M)) (hh:fh σ M=some (hi,M)):fSl f fl fh σ M=some (.fl (L3.zDS xs lo hi),M):=by
 unfold fSl;rw[hf];dsimp only;rw[hl];dsimp only;rw[hh];dsimp only;unfold kSl;rw[ht];dsimp only;rw[hx]
theorem zNk {M:Mem} {n k:Nat} (h:Gen M n k) {many way:Int} (m0:0<many) (m1:many<=1000) :
  Ok (zAg [.ref n,.int many,.int way] M) fun d M'=>∃ j c,d=.ref j/\M'[j]?=some (.lst (c.map D.int))/\Col many c/\M.length<=j/\Nw M M' n k:=by
 obtain ⟨hn,hk⟩:=h.lt;unfold zAg;rw[zv];unfold zDJ;rw[zJ,zQ];refine Ok.mono (zK6 h m0 (by omega) (by omega) (by omega) rfl (fun _ _=>rfl) (fun _ _=>rfl)) ?_;rintro x M1 ⟨⟨c,rfl,hcl,hc⟩,nw1,hl1⟩;refine zb ?_;rw[zM];have nw2:=nw1.trans (nw1.gen.lst (c.map D.int) (zu _ _));have e3:(M1++[MO.lst (c.map D.int)])[M1.length]?=some (.lst (c.map D.int)):=zY _ _;generalize hM2:M1++[MO.lst (c.map D.int)]=M2 at nw2 e3;have hj3:M.length<=M1.length:=nw1.len;generalize hj:M1.length=j3 at e3 hj3;have cl:c.length=many.toNat:=by omega
 have cc:Col many c:=⟨hcl,hc⟩;have hfst:atI (c.map D.int) 0=some (.int (c.getD 0 0)):=zCF (by decide) (by omega);have hlst:atI (c.map D.int) (-1)=some (.int (c.getD (c.length-1) 0)):=by
  have hne:c≠[]:=by intro e;rw[e]at cl;simp at cl;omega
  have e:=(List.dropLast_concat_getLast hne).symm;have eg:c.getD (c.length-1) 0=c.getLast hne:=by
   rw[zWD,zWC (by omega),List.getLast_eq_getElem];rfl
  rw[eg];generalize c.getLast hne=z at e;rw[e,zW0];exact L2.zPG _ _
 obtain ⟨o0,o1⟩:=zJR cc (j:=0) (by omega);obtain ⟨p0,p1⟩:=zJR cc (j:=c.length-1) (by omega);generalize c.getD 0 0=one at hfst o0 o1;generalize c.getD (c.length-1) 0=oth at hlst p0 p1;rw[zJ,zGQ];have etup:zAr (zD (toD (fOp kIx (zC 3) (fC (.int 0)))) (zD (toD (fOp kIx (zC 3) (zSJ (fC (.int 1))))) zH)) [some (.ref n),some (.int many),some (.int way),some (.ref j3),none,none,none,none,none,none] M2=some (.dat (.tup [.int one,.int oth]),M2):=by
  unfold zAr;rw[zd (zK rfl rfl (zA5 (zf e3) hfst)) (zW (zK (y:=.dat (.int (-1))) rfl rfl (zA5 (zf e3) hlst)))];dsimp only;rw[zWN (zV (by simp))]
 refine zE etup ?_;rw[zI];refine ⟨_,rfl,?_⟩;rw[zM];have isw:∀ (j:Int) (σ:Sd) (M:Mem),σ[2]?=some (some (.int way))->tst (fOp kEq (zC 2) (fC (.int j))) σ M=some (decide (way=j),M):=fun j σ M e=>by
  have v4:zC 2 σ M=some (.dat (.int way),M):=by unfold zC;rw[e]
  exact zn (zK v4 rfl (zT (zKa.mpr ⟨rfl,rfl⟩)))
 have new:∀ (A:Mem) (c':List Int),Nw M A n k->Col many c' -> ∃ j c,D.ref A.length=D.ref j/\(A++[MO.lst (c'.map D.int)])[j]?=some (.lst (c.map D.int))/\Col many c/\M.length<=j/\Nw M (A++[MO.lst (c'.map D.int)]) n k:=fun A c' nw hc'=>
  ⟨A.length,c',rfl,zY _ _,hc',nw.len,nw.trans (nw.gen.lst _ (zu _ _))⟩
 rw[zJ,zAx];refine zE (isw 0 _ _ rfl) ?_;by_cases w0:way=0
 ·rw[zWN (by simpa using w0)];exact zAR rfl ⟨j3,c,rfl,e3,cc,hj3,nw2⟩
 rw[zWQ (by simpa using w0),zAf,zM,zJ,zAx];refine zE (isw 5 _ _ rfl) ?_;by_cases w5:way=5
 ·rw[zWN (by simpa using w5),zAh];refine zBQ.mpr (zDH.mpr (zm.mpr (zAU.mpr (zAb.mpr ⟨_,rfl,zI.mpr (zAa.mpr ⟨zV (by simp),zAb.mpr ⟨_,rfl,?_⟩⟩)⟩))));have er:zJX (.fl [.int one]) (.dat (.int many)) M2=some (.fl ((List.replicate many.toNat one).map D.int),M2):=by
   unfold zJX;dsimp only[zBc,zFc];rw[zWN ⟨by omega,by omega,zV (by simp;omega)⟩];have:(List.replicate many.toNat [D.int one]).flatten=(List.replicate many.toNat one).map D.int:=by
    rw[List.map_replicate];generalize many.toNat=q;induction q with
    |zero=>rfl
    |succ q ih=>rw[zXR,zX7,ih,zXR];rfl
   rw[this]
  refine zE er (zb ?_);rw[zJZ];refine new M2 _ nw2 ⟨by simp;omega,fun x hx=>?_⟩;rw[(List.mem_replicate.mp hx).2];exact ⟨o0,o1⟩
 rw[zWQ (by simpa using w5),zAf,zM,zJ,zAx];refine zE (isw 6 _ _ rfl) ?_;by_cases w6:way=6
 ·rw[zWN (by simpa using w6),zAh];have hen:zFv (zC 3) [some (.ref n),some (.int many),some (.int way),some (.ref j3),none,some (.int one),some (.int oth),none,none,none] M2=some (((List.range c.length).zip c).map fun q=>D.tup [.int (q.1:Nat),.int q.2],zDA (.dat (.ref j3)) (c.map D.int),M2):=by
   unfold zFv;rw[show zC 3 [some (.ref n),some (.int many),some (.int way),some (.ref j3),none,some (.int one),some (.int oth),none,none,none] M2=some (.dat (.ref j3),M2)from rfl];dsimp only;rw[zf e3];dsimp only;unfold zJF;rw[zWH,List.zip_map_right,zWW];rfl
  have step:∀ q∈(List.range c.length).zip c,(0<=(if (q.1:Int)<=one then q.2 % (one+1) else one+1+q.2 % (many-one-1))/\(if (q.1:Int)<=one then q.2 % (one+1) else one+1+q.2 % (many-one-1))<many)/\(one<(q.1:Int)->0<many-one-1):=by
   intro q hq;have hq1:=zWm.mp (List.of_mem_zip hq).1;by_cases hle:(q.1:Int)<=one
   ·rw[zWN hle];have:=Int.emod_nonneg q.2 (show one+1≠0 by omega);have:=Int.emod_lt_of_pos q.2 (show 0<one+1 by omega);omega
   ·rw[zWQ hle];have h1:0<many-one-1:=by omega
    have:=Int.emod_nonneg q.2 (show many-one-1≠0 by omega);have:=Int.emod_lt_of_pos q.2 h1;omega
  have ec:=zBN (own:=[4,7]) (g:=zB3 4 7) (te:=vIf (tst (fOp kLe (zC 4) (zC 5))) (fOp zDI (zC 7) (fOp zAS (zC 5) (fC (.int 1)))) (fOp zAS (fOp zAS (zC 5) (fC (.int 1))) (fOp zDI (zC 7) (fOp zHz (fOp zHz (zC 1) (zC 5)) (fC (.int 1)))))) ((List.range c.length).zip c) (fun q=>D.tup [.int (q.1:Nat),.int q.2]) (fun q=> .int (if (q.1:Int)<=one then q.2 % (one+1) else one+1+q.2 % (many-one-1))) hen ?_ ?_ ?_
  ·refine zE ec (zb ?_);rw[zJZ,show (fun q:Nat × Int=>D.int (if (q.1:Int)<=one then q.2 % (one+1) else one+1+q.2 % (many-one-1)))=D.int∘(fun q:Nat × Int=>(if (q.1:Int)<=one then q.2 % (one+1) else one+1+q.2 % (many-one-1)))from rfl,<-zWW];refine new M2 _ nw2 ⟨by simp;omega,fun x hx=>?_⟩;obtain ⟨q,hq,rfl⟩:=zWP.mp hx;exact (step q hq).1
  ·exact .inl e3
  ·simp;omega
  ·intro q hq;refine ⟨_,rfl,?_⟩;have hs:=step q hq;unfold vIf;have ht:tst (fOp kLe (zC 4) (zC 5)) [some (.ref n),some (.int many),some (.int way),some (.ref j3),some (.int (q.1:Nat)),some (.int one),some (.int oth),some (.int q.2),none,none] M2=some (decide ((q.1:Int)<=one),M2):=zn (zK rfl rfl (zT (zVk.mpr ⟨rfl,rfl⟩)));show (match tst (fOp kLe (zC 4) (zC 5)) [some (.ref n),some (.int many),some (.int way),some (.ref j3),some (.int (q.1:Nat)),some (.int one),some (.int oth),some (.int q.2),none,none] M2 with|some (true,M1)=>_|some (false,M1)=>_|none=>none)=_;rw[ht];by_cases hle:(q.1:Int)<=one
   ·rw[zXG hle,zWN hle];exact zK (x:=.dat (.int q.2)) (y:=.dat (.int (one+1))) rfl rfl (zEB (by omega))
   ·rw[zWh hle,zWQ hle];exact zK (x:=.dat (.int (one+1))) rfl (zK (x:=.dat (.int q.2)) (y:=.dat (.int (many-one-1))) rfl rfl (zEB (hs.2 (by omega)))) rfl
 rw[zWQ (by simpa using w6),zAf,zM,zJ,zQ];have elr:∀ {σ:Sd} {A:Mem},σ[1]?=some (some (.int many))->zFP (zC 1) σ A=some (.fl (((List.range many.toNat).map fun (k:Nat)=>(k:Int)).map D.int),A):=fun {σ A} e=>by
  unfold zFP zC;rw[e];dsimp only;rw[zWN ⟨by omega,by omega⟩,zM5]
 refine zE (elr rfl) (zb ?_);rw[zM];have nw4:=nw2.trans (nw2.gen.lst (((List.range many.toNat).map fun (k:Nat)=>(k:Int)).map D.int) (zu _ _));have e8:(M2++[MO.lst (((List.range many.toNat).map fun (k:Nat)=>(k:Int)).map D.int)])[M2.length]?=some (.lst (((List.range many.toNat).map fun (k:Nat)=>(k:Int)).map D.int)):=zY _ _;have e3':(M2++[MO.lst (((List.range many.toNat).map fun (k:Nat)=>(k:Int)).map D.int)])[j3]?=some (.lst (c.map D.int)):=by
  rw[zWF (zWB.mp e3).1];exact e3
 have hj8:M.length<=M2.length:=nw2.len;have hj38:j3<M2.length:=(zWB.mp e3).1;generalize hM4:M2++[MO.lst (((List.range many.toNat).map fun (k:Nat)=>(k:Int)).map D.int)]=M4 at nw4 e8 e3';generalize hj8':M2.length=j8 at e8 hj8 hj38;have cu:=zTL (many:=many) (by omega);generalize hup:((List.range many.toNat).map fun (k:Nat)=>(k:Int))=up at e8 cu elr;rw[zJ,zAx];refine zE (isw 3 _ _ rfl) ?_;by_cases w3:way=3
 ·rw[zWN (by simpa using w3),zAh];have s1:=slL (f:=zC 8) (fl:=zBO (fC (.int 1))) (fh:=zBm) (σ:=[some (.ref n),some (.int many),some (.int way),some (.ref j3),none,some (.int one),some (.int oth),none,some (.ref j8),none]) rfl rfl (zAd e8) (oS (i:=1) rfl) rfl;have s2:=slL (f:=zC 8) (fl:=zBm) (fh:=zBO (fC (.int 1))) (σ:=[some (.ref n),some (.int many),some (.int way),some (.ref j3),none,some (.int one),some (.int oth),none,some (.ref j8),none]) rfl rfl (zAd e8) rfl (oS (i:=1) rfl);have hul:up.length=many.toNat:=by have:=cu.1;omega
  rw[zOj (by decide) (by rw[zWH];omega)]at s1;rw[zIH]at s2;refine zBQ.mpr (zE s1 (zE s2 (zLd rfl rfl (by simp;omega) (zb ?_))));rw[zJZ,show (1:Int).toNat=1 from rfl,<-List.map_drop,<-List.map_take,<-zW0];refine new M4 _ nw4 ⟨by simp;omega,fun x hx=>?_⟩;rcases zWY.mp hx with q|q
  ·exact cu.2 x (List.mem_of_mem_drop q)
  ·exact cu.2 x (List.mem_of_mem_take q)
 rw[zWQ (by simpa using w3),zAf,zM,zJ]
 have tail:∀ (y7 y9:Option D) (A:Mem) (j:Nat) (c':List Int),Nw M A n k->M.length<=j->A[j]?=some (.lst (c'.map D.int))->Col many c' ->
   OkS (zX (sIf (tst (fOp (kIn false) (zC 2) (zAr (zD (toD (fC (.int 2))) (zD (toD (fC (.int 4))) zH))))) (zME (fOp kIx (zC 8) (zC 6)) (zC 8) (zC 5)) zBC) (zAV (zC 8)) [some (.ref n),some (.int many),some (.int way),some (.ref j3),none,some (.int one),some (.int oth),y7,some (.ref j),y9] A) fun o x M1=>match o with|.ret d=>∃ j c,d=.ref j/\M1[j]?=some (.lst (c.map D.int))/\Col many c/\M.length<=j/\Nw M M1 n k|.nx=>∃ j c,D.non=.ref j/\M1[j]?=some (.lst (c.map D.int))/\Col many c/\M.length<=j/\Nw M M1 n k|_=>False:=by
  intro y7 y9 A j c' nw hj ej hc';rw[zJ,zAx];have hin:tst (fOp (kIn false) (zC 2) (zAr (zD (toD (fC (.int 2))) (zD (toD (fC (.int 4))) zH)))) [some (.ref n),some (.int many),some (.int way),some (.ref j3),none,some (.int one),some (.int oth),y7,some (.ref j),y9] A=some ([2,4].any fun y:Int=>decide (y=way),A):=by
   refine zn (zK (x:=.dat (.int way)) (y:=.dat (.tup [.int 2,.int 4])) rfl ?_ rfl);unfold zAr;rw[zd (d:=.int 2) rfl (zW (d:=.int 4) rfl)];dsimp only;rw[zWN (zV (by simp))]
  refine zE hin ?_;have hcl':c'.length=many.toNat:=by have:=hc'.1;omega
  by_cases hb:([2,4].any fun y:Int=>decide (y=way))=true
  ·rw[zWN hb,zM2];refine zE (zK (x:=.dat (.ref j)) (y:=.dat (.int oth)) rfl rfl (zA5 (zf ej) (zCF p0 (by omega)))) ?_;rw[zI];refine zAb.mpr ⟨_,rfl,zAb.mpr ⟨_,rfl,?_⟩⟩;rw[zI];have eo:one=((one.toNat:Nat):Int):=by omega
   refine ⟨A.set j (.lst ((c'.map D.int).set one.toNat (.int (c'.getD oth.toNat 0)))),?_,?_⟩
   ·have:=zKp (k:=one.toNat) (d:=.int (c'.getD oth.toNat 0)) ej (by rw[zWH];omega);rw[<-eo]at this;exact this
   rw[zM];have hlj:j<A.length:=(zWB.mp ej).1;refine zAR rfl ⟨j,c'.set one.toNat (c'.getD oth.toNat 0),rfl,?_,zPS hc' (by omega),hj,?_⟩
   ·rw[zW2 hlj,List.map_set]
   ·refine nw.setB h hj ?_;rw[<-List.map_set];exact zu _ _
  ·rw[zWQ hb,zAf,zM];exact zAR rfl ⟨j,c',rfl,ej,hc',hj,nw⟩
 rw[zAx];refine zE (M:=M4) (a:=decide (way<3)) (zn (zK (x:=.dat (.int way)) rfl rfl (zT (zTr.mpr ⟨rfl,rfl⟩)))) ?_;by_cases wl:way<3
 ·rw[zWN (by simpa using wl),zJ,zQ];refine zE (elr rfl) (zb ?_);rw[zM,zQ];have nw5:=nw4.trans (nw4.gen.lst (up.map D.int) (zu _ _));have e9:(M4++[MO.lst (up.map D.int)])[M4.length]?=some (.lst (up.map D.int)):=zY _ _;have e3'':(M4++[MO.lst (up.map D.int)])[j3]?=some (.lst (c.map D.int)):=by
   rw[zWF (zWB.mp e3').1];exact e3'
  have hj9:M.length<=M4.length:=nw4.len;have hj39:j3<M4.length:=(zWB.mp e3').1;generalize hM5:M4++[MO.lst (up.map D.int)]=M5 at nw5 e9 e3'';generalize hj9':M4.length=j9 at e9 hj9 hj39;have hul:up.length=many.toNat:=by have:=cu.1;omega
  refine zB1.mpr ⟨_,_,_,zBb (x:=.dat (.ref j3)) rfl (zf e3''),by rw[zWH];exact zV (by omega),?_⟩
  refine Ok.mono (zBR (I:=fun r acc M'=>∃ (r' a left:List Int),r=r'.map D.int/\acc=a.map D.int/\(a.length+r'.length:Nat)=many.toNat/\(∀ x∈a,0<=x/\x<many)/\left.length=r'.length/\(∀ x∈left,0<=x/\x<many)/\M'[j9]?=some (.lst (left.map D.int))/\M'[j3]?=some (.lst (c.map D.int))/\(∀ x∈r',0<=x)/\Nw M M' n k)
   (Q:=fun acc M'=>∃ a:List Int,acc=a.map D.int/\Col many a/\Nw M M' n k) ?_ ?_ _ [] _ ⟨c,[],up,rfl,rfl,by simp;omega,(fun _ h=>by cases h),by omega,cu.2,e9,e3'',(fun x hx=>(hc x hx).1),nw5⟩) ?_
  ·rintro x r acc M' ⟨r',a,left,hr,rfl,hal,ha,hll,hlf,e9',e3s,hr0,nw⟩;obtain ⟨g,r'',rfl,rfl,rfl⟩:=zAq hr;refine ⟨.inl e3s,_,rfl,zE1.mpr ?_⟩;rw[zWN rfl];have hg0:=hr0 g zWM;have hlen0:0<left.length:=by rw[hll];simp
   have hz:left.length<=1000:=by rw[hll];omega
   have ei:fOp zDI (zC 7) (fB zBD (zU (zC 9) zo)) [some (.ref n),some (.int many),some (.int way),some (.ref j3),none,some (.int one),some (.int oth),some (.int g),some (.ref j8),some (.ref j9)] M'=some (.dat (.int ((g.toNat % left.length:Nat):Int)),M'):=by
    have:=zDt (f:=zC 9) (σ:=[some (.ref n),some (.int many),some (.int way),some (.ref j3),none,some (.int one),some (.int oth),some (.int g),some (.ref j8),some (.ref j9)]) (M:=M') rfl (zf e9');rw[zWH]at this;refine zK (x:=.dat (.int g)) rfl this ?_;rw[zEB (by omega)];rw[show ((g.toNat % left.length:Nat):Int)=g % left.length by rw[Int.natCast_emod,Int.toNat_of_nonneg hg0]]
   have hlt:g.toNat % left.length<left.length:=Nat.mod_lt _ hlen0;refine zHM.mpr (zAb.mpr ⟨_,rfl,⟨_,zAd e9'⟩,zE (zW ei) ?_⟩);have hget:(left.map D.int)[g.toNat % left.length]?=some (.int (left[g.toNat % left.length])):=by
    rw[zWV,zWC hlt];rfl
   refine zTN e9' hget (by omega) ?_;rw[zI];have hl9:j9<M'.length:=(zWB.mp e9').1;refine ⟨r'',a++[left[g.toNat % left.length]],left.eraseIdx (g.toNat % left.length),rfl,by simp,by simp at hal ⊢;omega,fun x hx=>?_,?_,fun x hx=>hlf x (List.mem_of_mem_eraseIdx hx),?_,?_,fun x hx=>hr0 x (zWL _ hx),?_⟩
   ·rcases zWY.mp hx with q|q
    ·exact ha x q
    ·have:x=left[g.toNat % left.length]:=by simpa using q
     rw[this];exact hlf _ (zWg hlt)
   ·rw[List.length_eraseIdx_of_lt hlt,hll];simp
   ·rw[zW2 hl9,zFG]
   ·rw[zWc (by omega)];exact e3s
   ·refine nw.setB h hj9 ?_;rw[<-zFG];exact zu _ _
  ·rintro acc M' ⟨r',a,left,hr,rfl,hal,ha,hll,hlf,e9',e3s,hr0,nw⟩;have:r'=[]:=by cases r' with|nil=>rfl|cons _ _=>cases hr
   subst this;exact ⟨.inl e3s,a,rfl,⟨by simp at hal;omega,ha⟩,nw⟩
  ·rintro ys M' ⟨a,ea,hca,nw⟩;rw[zYQ]at ea;subst ea;refine zb ?_;rw[zM];exact tail _ _ _ M'.length a (nw.trans (nw.gen.lst _ (zu _ _))) nw.len (zY _ _) hca
 ·rw[zWQ (by simpa using wl),zAf,zM];exact tail _ _ M4 j8 up nw4 hj8 e8 cu
def zDR (many:Int) (cs:List (List Int)):List (List Int):=(List.range many.toNat).map fun r=>cs.map fun c=>c.getD r 0
theorem zOp (h0:0<many) (hc:∀ c∈cs,Col many c) (hl:0<cs.length):IsM (zDR many cs) cs.length:=by
 have hlen:(zDR many cs).length=many.toNat:=by unfold zDR;simp
 refine ⟨by omega,hl,fun r hr=>?_⟩;rw[hlen];unfold zDR at hr;obtain ⟨k,hk,rfl⟩:=zWP.mp hr;refine ⟨by simp,fun g hg=>?_⟩;obtain ⟨c,hcm,rfl⟩:=zWP.mp hg;have:=hc c hcm;have h1:=this.1;have:=zJR this (j:=k) (by have:=zWm.mp hk;omega);omega
def zI6 (M:Mem) (lo:Nat) (many:Int) (js:List Nat) (cs:List (List Int)):Prop:=js.length=cs.length /\ ∀ (i:Nat) j c,js[i]?=some j->cs[i]?=some c->lo<j/\M[j]?=some (.lst (c.map D.int))/\Col many c
theorem zHN {M:Mem} {n k:Nat} {most lm:Int} (h:Gen M n k) (hm:0<most) (hm1:most<=900) (hl:0<lm) (hl1:lm<=900) :
  Ok (zA3 [.ref n,.int most,.int lm] M) fun d M'=>(∃ zA l,d=mD zA/\IsM zA l/\(zA.length<=8\/(zA.length:Int)<=most)/\(l:Int)<=lm)/\Nw M M' n k:=by
 obtain ⟨hn,hk⟩:=h.lt;unfold zA3;refine zJM ?_;rw[zv];unfold zCz;show OkS (zX _ _ [some (.ref n),some (.int most),some (.int lm),none,none,none,none,none,none,none,none] M) _;rw[zJ,zQ];refine zBQ.mpr (zFS.mpr ?_);refine zAJ.mpr (zm.mpr (zAU.mpr (zAb.mpr ⟨_,rfl,?_⟩)));rw[zI,zm,zAU,zBQ];simp only[zm,zAU,zFS,zAb,zI,zI9,zDH,zAa,List.getElem?_cons_succ,List.getElem?_cons_zero,Option.some.injEq,exists_eq_left'];refine ⟨zV (by simp),zAe h rfl rfl (by decide) (by decide) fun i M0 i0 i1 nw0 _=>?_⟩;obtain ⟨mm,em,m0,m1,m2⟩:∃ mm:Int,[D.int 3,D.int 7,D.int most][i.toNat]?=some (.int mm)/\0<mm/\mm<=900/\(mm<=7\/mm<=most):=by
  have hi:i=0\/i=1\/i=2:=by omega
  rcases hi with rfl|rfl|rfl
  ·exact ⟨3,rfl,by decide,by decide,.inl (by decide)⟩
  ·exact ⟨7,rfl,by decide,by decide,.inl (by decide)⟩
  ·exact ⟨most,rfl,hm,hm1,.inr (Int.le_refl _)⟩
 refine zRx zCZ (zLi i0 em) ?_;rw[zI];refine Ok.mono (zJo nw0.gen m0 (by omega)) ?_;rintro d M1 ⟨⟨R,rfl,R0,R1⟩,nw1,_⟩;rw[zFu,zI,zM];have nw1':=nw0.trans nw1;generalize eR:1+R=many;have r0:0<many:=by omega
 have r1:many<=900:=by omega
 have r2:many<=7\/many<=most:=by omega
 rw[zJ,zQ];refine zBQ.mpr (zFS.mpr (zAe nw1'.gen rfl rfl hl (by omega) fun L M2 L0 L1 nw2 _=>zFu.mpr ?_));rw[zI,zM,zJ,zQ];generalize eL:1+L=cnt;have nw2':=nw1'.trans nw2;refine zAe nw2'.gen rfl rfl (by decide) (by decide) fun srt M3 s0 s1 nw3 _=>?_;have nw3':=nw2'.trans nw3;rw[zI,zM,zJ,zQ];refine zDH.mpr (zAa.mpr ⟨zV (by simp),zb ?_⟩);rw[zM,zJ,zAi];have nw4:=nw3'.trans (nw3'.gen.lst [] rfl);have e6:(M3++[MO.lst ([]:List D)])[M3.length]?=some (.lst []):=zY _ _;have hj6:M.length<=M3.length:=nw3'.len;generalize hM4:M3++[MO.lst ([]:List D)]=M4 at nw4 e6;generalize hj6':M3.length=j6 at e6 hj6;refine ⟨_,_,_,zCB rfl (by omega) (by omega),?_⟩;refine zJ8 (n:=cnt.toNat) (I:=fun i σ M'=>∃ x y,σ=[some (.ref n),some (.int most),some (.int lm),some (.int many),some (.int cnt),some (.int srt),some (.ref j6),x,y,none,none] /\ ∃ (js:List Nat) (cs:List (List Int)),M'[j6]?=some (.lst (js.map D.ref))/\zI6 M' j6 many js cs/\cs.length=i/\Nw M M' n k) ?_ ?_ _ _ ⟨none,none,rfl,[],[],e6,⟨rfl,fun i j c h=>by simp at h⟩,rfl,nw4⟩
 ·rintro i σ M' hi ⟨x,y,rfl,js,cs,ej,hcs,hl,nw⟩;refine ⟨_,rfl,?_⟩;rw[zJ,zQ];have hmod:∃ w0:Int,fOp kIx (zAw (zD (toD (fC (.int 3))) (zD (toD (fC (.int 4))) zH))) (fOp zDI (zC 7) (fC (.int 2))) [some (.ref n),some (.int most),some (.int lm),some (.int many),some (.int cnt),some (.int srt),some (.ref j6),some (.int (i:Nat)),y,none,none] M'=some (.dat (.int w0),M'):=by
   have ei:fOp zDI (zC 7) (fC (.int 2)) [some (.ref n),some (.int most),some (.int lm),some (.int many),some (.int cnt),some (.int srt),some (.ref j6),some (.int (i:Nat)),y,none,none] M'=some (.dat (.int ((i:Int) % 2)),M'):=zK (x:=.dat (.int (i:Nat))) rfl rfl (zEB (by decide));have el:zAw (zD (toD (fC (.int 3))) (zD (toD (fC (.int 4))) zH)) [some (.ref n),some (.int most),some (.int lm),some (.int many),some (.int cnt),some (.int srt),some (.ref j6),some (.int (i:Nat)),y,none,none] M'=some (.fl [.int 3,.int 4],M'):=zT (zDH.mpr (zE (zd (d:=.int 3) rfl (zW (d:=.int 4) rfl)) ⟨zV (by simp),rfl,rfl⟩));have h2:(i:Int) % 2=0\/(i:Int) % 2=1:=by omega
   rcases h2 with q|q
   ·rw[q]at ei;exact ⟨3,zK el ei rfl⟩
   ·rw[q]at ei;exact ⟨4,zK el ei rfl⟩
  obtain ⟨w0,ew⟩:=hmod;refine zE ew ?_;rw[zI,zM]
  have fin:∀ (way:Int) (M5:Mem),Nw M' M5 n k->OkS (zBP (fM zAP (zC 6) (zD (toD (zN zAg (zD (toD (zC 0)) (zD (toD (zC 3)) (zD (toD (zC 8)) zH))))) zH)) [some (.ref n),some (.int most),some (.int lm),some (.int many),some (.int cnt),some (.int srt),some (.ref j6),some (.int (i:Nat)),some (.int way),none,none] M5)
    fun o σ2 M2=>match o with|.nx=>(∃ x y,σ2=[some (.ref n),some (.int most),some (.int lm),some (.int many),some (.int cnt),some (.int srt),some (.ref j6),x,y,none,none] /\ ∃ (js:List Nat) (cs:List (List Int)),M2[j6]?=some (.lst (js.map D.ref))/\zI6 M2 j6 many js cs/\cs.length=i+1/\Nw M M2 n k)|_=>False:=by
   intro way M5 nw5;have ej5:=nw5.get ej (by omega) (by omega);rw[zBj];refine zHM.mpr (zAb.mpr ⟨_,rfl,⟨_,zAd ej5⟩,zm.mpr (zAU.mpr (zAJ.mpr (zE (zd rfl (zd rfl (zW rfl))) ?_)))⟩);refine Ok.mono (zNk nw5.gen r0 (by omega)) ?_;rintro d M6 ⟨j,c,rfl,ec,cc,hj,nw6⟩;have ej6:=nw6.get ej5 (by omega) (by omega);rw[zI,zAa,zCW ej6 (by rw[zWH,hcs.1,hl];exact zWX (m:=95000) (by omega) (zV (by omega)))];have hlt6:j6<M5.length:=(zWB.mp ej5).1;have hlt6':j6<M6.length:=zWX hlt6 nw6.len;refine ⟨_,_,rfl,js++[j],cs++[c],?_,⟨by simp[hcs.1],fun a b c' h1 h2=>?_⟩,by simp[hl],?_⟩
   ·rw[zW2 hlt6',zW0];rfl
   ·have keep:∀ {b:Nat} {u:MO},j6<b->M6[b]?=some u->(M6.set j6 (.lst (js.map D.ref++[.ref j])))[b]?=some u:=fun {b u} hb e=>by rw[zWc (by omega)];exact e
    by_cases ha:a<js.length
    ·rw[zWF ha]at h1;rw[zWF (by rw[<-hcs.1];exact ha)]at h2;obtain ⟨q1,q2,q3⟩:=hcs.2 a b c' h1 h2;exact ⟨q1,keep q1 (nw6.get (nw5.get q2 (by omega) (by omega)) (by omega) (by omega)),q3⟩
    ·have ha':a=js.length:=by
      have:=(zWB.mp h1).1;simp at this;omega
     subst ha';rw[zXI (zWE _)]at h1;rw[zXI (by rw[hcs.1];exact zWE _)]at h2;simp at h1;rw[hcs.1]at h2;simp at h2;subst h1 h2;exact ⟨by omega,keep (by omega) ec,cc⟩
   ·refine ((nw.trans nw5).trans nw6).setB h hj6 ?_;show D.unds _ _=true;have w1:D.unds M6.length (js.map D.ref)=true:=nw6.gen.wf j6 _ ej6;have hlj:j<M6.length:=(zWB.mp ec).1;rw[zFN,w1];simp[D.unds,D.und,hlj]
  have two:∀ (way:Int) (R:Out->Sd->Mem->Prop),(∀ σ2 M2,(∃ x y,σ2=[some (.ref n),some (.int most),some (.int lm),some (.int many),some (.int cnt),some (.int srt),some (.ref j6),x,y,none,none] /\ ∃ (js:List Nat) (cs:List (List Int)),M2[j6]?=some (.lst (js.map D.ref))/\zI6 M2 j6 many js cs/\cs.length=i+1/\Nw M M2 n k)->R .nx σ2 M2) ->
    OkS (zX (sIf (tst (fOp kEq (zC 5) (fC (.int 9)))) (zq 8 (zN zZ (zD (toD (zC 0)) (zD (toD (fC (.int 7))) zH)))) zBC) (zBP (fM zAP (zC 6) (zD (toD (zN zAg (zD (toD (zC 0)) (zD (toD (zC 3)) (zD (toD (zC 8)) zH))))) zH))) [some (.ref n),some (.int most),some (.int lm),some (.int many),some (.int cnt),some (.int srt),some (.ref j6),some (.int (i:Nat)),some (.int way),none,none] M') R:=by
   intro way R hR;have go:∀ (way:Int) (M5:Mem),Nw M' M5 n k->OkS (zBP (fM zAP (zC 6) (zD (toD (zN zAg (zD (toD (zC 0)) (zD (toD (zC 3)) (zD (toD (zC 8)) zH))))) zH)) [some (.ref n),some (.int most),some (.int lm),some (.int many),some (.int cnt),some (.int srt),some (.ref j6),some (.int (i:Nat)),some (.int way),none,none] M5) R:=fun way M5 nw5=>OkS.mono (fin way M5 nw5) (by
    intro o σ2 M2 z;cases o with
    |nx=>exact hR _ _ z
    |_=>exact z.elim)
   rw[zJ,zAx];refine zE (M:=M') (a:=decide (srt=9)) (zn (zK (x:=.dat (.int srt)) rfl rfl (zT (zKa.mpr ⟨rfl,rfl⟩)))) ?_;by_cases h9:srt=9
   ·rw[zWN (by simpa using h9),zQ];refine zAe nw.gen rfl rfl (by decide) (by decide) fun w M5 _ _ nw5 _=>?_;rw[zI,zM];exact go w M5 nw5
   ·rw[zWQ (by simpa using h9),zAf,zM];exact go way M' (Nw.refl nw.gen)
  rw[zJ,zAx];refine zE (M:=M') (a:=decide (srt<7)) (zn (zK (x:=.dat (.int srt)) rfl rfl (zT (zTr.mpr ⟨rfl,rfl⟩)))) ?_;by_cases h7:srt<7
  ·rw[zWN (by simpa using h7),zQ];refine zAb.mpr ⟨_,rfl,?_⟩;rw[zI,zM];exact two srt _ fun σ2 M2 z=>z
  ·rw[zWQ (by simpa using h7),zAf,zM];exact two w0 _ fun σ2 M2 z=>z
 ·rintro σ M' ⟨x,y,rfl,js,cs,ej,hcs,hl,nw⟩;rw[zM]
  have last:∀ (A:Mem) (j:Nat) (js':List Nat) (cs':List (List Int)),Nw M A n k->A[j]?=some (.lst (js'.map D.ref))->zI6 A j6 many js' cs'->cs'.length=cnt.toNat ->
    OkS (zAV (fB zAo (zU (zw [10] (zAM (zD (toD (zC 3)) zH)) (gN 10) zAD (fB zAo (zU (zw [9] (zr (zC 6)) (gN 9) zAD (fOp kIx (zC 9) (zC 10))) zo))) zo)) [some (.ref n),some (.int most),some (.int lm),some (.int many),some (.int cnt),some (.int srt),some (.ref j),x,y,none,none] A)
     fun o x M1=>match o with
     |.ret d=>(D.und M.length d=true/\M.length<=M1.length /\ ∀ (j:Nat) u,j<M.length->M1[j]?=some u->MO.und M.length u=true)/\(∃ zA l,d=mD zA/\IsM zA l/\(zA.length<=8\/(zA.length:Int)<=most)/\(l:Int)<=lm)/\Nw M (M1.take M.length) n k
     |.nx=>(D.und M.length D.non=true/\M.length<=M1.length /\ ∀ (j:Nat) u,j<M.length->M1[j]?=some u->MO.und M.length u=true)/\(∃ zA l,D.non=mD zA/\IsM zA l/\(zA.length<=8\/(zA.length:Int)<=most)/\(l:Int)<=lm)/\Nw M (M1.take M.length) n k
     |_=>False:=by
   intro A j js' cs' nwA eA hA hlA;have hcol:∀ c∈cs',Col many c:=fun c hc=>by
    obtain ⟨i,hi,rfl⟩:=List.mem_iff_getElem.mp hc;exact (hA.2 i (js'[i]'(by rw[hA.1];exact hi)) cs'[i] (zWC _) (zWC _)).2.2
   have hlen:(zDR many cs').length=many.toNat:=by unfold zDR;simp
   refine zAR (d:=mD (zDR many cs')) ?_ ⟨⟨zEF _,nwA.len,nwA.wf0 h⟩,⟨zDR many cs',cs'.length,rfl,zOp r0 hcol (by omega),by omega,by omega⟩,nwA.trim h⟩;refine (zCC (zBN (List.range many.toNat) (fun k=>D.int k) (fun k=> .tup ((cs'.map fun c=>c.getD k 0).map D.int)) (zIZ (f:=zC 3) rfl (by omega) (by omega)) trivial (by simp;omega) fun r hr=>⟨_,rfl,?_⟩) zCZ).trans ?_
   ·have hr':=zWm.mp hr;refine (zCC (zBN (gd:=zDA (.dat (.ref j)) (js'.map D.ref)) (List.range js'.length) (fun i=>D.ref (js'.getD i 0)) (fun i=> .int ((cs'.getD i []).getD r 0)) ?_ ?_ (by rw[zX5,hA.1,hlA];omega) fun i hi=>⟨_,rfl,?_⟩) zCZ).trans ?_
    ·rw[show ((List.range js'.length).map fun i=>D.ref (js'.getD i 0))=js'.map D.ref by
      apply List.ext_getElem
      ·simp
      ·intro i h1 h2;simp at h1;simp[h1]]
     exact zBb (x:=.dat (.ref j)) rfl (zf eA)
    ·exact .inl eA
    ·have hi':=zWm.mp hi;have hc':i<cs'.length:=by rw[<-hA.1];exact hi'
     have ej':js'[i]?=some (js'.getD i 0):=by rw[zWD,zWC hi'];rfl
     have ec':cs'[i]?=some (cs'.getD i []):=by rw[zWD,zWC hc'];rfl
     obtain ⟨_,q2,q3⟩:=hA.2 i _ _ ej' ec';have hz:=q3.1;exact zK (x:=.dat (.ref (js'.getD i 0))) (y:=.dat (.int (r:Nat))) rfl rfl (zA5 (zf q2) (zCF (by omega) (by omega)))
    ·congr 3;rw[zWW];refine congrArg D.tup ?_;apply List.ext_getElem
     ·simp[hA.1]
     ·intro i h1 h2;simp at h1 h2;have h2':i<cs'.length:=h2;simp[h2']
   ·unfold mD zDR;rw[zWW];rfl
  rw[zJ,zAx];refine zE (M:=M') (a:=decide (srt=8)) (zn (zK (x:=.dat (.int srt)) rfl rfl (zT (zKa.mpr ⟨rfl,rfl⟩)))) ?_;by_cases h8:srt=8
  ·rw[zWN (by simpa using h8),zQ];have s2:=slL (f:=zC 6) (fl:=zBm) (fh:=zBO (fC (.int 1))) (σ:=[some (.ref n),some (.int most),some (.int lm),some (.int many),some (.int cnt),some (.int srt),some (.ref j6),x,y,none,none]) rfl rfl (zAd ej) rfl (oS (i:=1) rfl);rw[zIH]at s2;have hjl:0<js.length:=by rw[hcs.1];omega
   have hcl:0<cs.length:=by omega
   obtain ⟨j0,jr,rfl⟩:∃ a b,js=a::b:=by cases js with|nil=>simp at hjl|cons a b=>exact ⟨a,b,rfl⟩
   obtain ⟨c0,cr,rfl⟩:∃ a b,cs=a::b:=by cases cs with|nil=>simp at hcl|cons a b=>exact ⟨a,b,rfl⟩
   rw[show ((j0::jr).map D.ref).take 1=[D.ref j0]from rfl]at s2;have er:zJX (.fl [D.ref j0]) (.dat (.int cnt)) M'=some (.fl ((List.replicate cnt.toNat j0).map D.ref),M'):=by
    unfold zJX;dsimp only[zBc,zFc];rw[zWN ⟨by omega,by omega,zV (by simp;omega)⟩];have:(List.replicate cnt.toNat [D.ref j0]).flatten=(List.replicate cnt.toNat j0).map D.ref:=by
     rw[List.map_replicate];generalize cnt.toNat=q;induction q with
     |zero=>rfl
     |succ q ih=>rw[zXR,zX7,ih,zXR];rfl
    rw[this]
   refine zBQ.mpr (zE s2 (zAb.mpr ⟨_,rfl,zE er (zb ?_)⟩));rw[zM];obtain ⟨q1,q2,q3⟩:=hcs.2 0 j0 c0 rfl rfl;have hlj:j0<M'.length:=(zWB.mp q2).1;refine last _ M'.length (List.replicate cnt.toNat j0) (List.replicate cnt.toNat c0) (nw.trans (nw.gen.lst _ (zFO fun z hz=>?_))) (zY _ _) ⟨by simp,fun i j c h1 h2=>?_⟩ (by simp)
   ·obtain ⟨a,ha,rfl⟩:=zWP.mp hz;rw[(List.mem_replicate.mp ha).2];simp[D.und,hlj]
   ·have e1:j=j0:=(List.mem_replicate.mp (zWz h1)).2;have e2:c=c0:=(List.mem_replicate.mp (zWz h2)).2;subst e1 e2;exact ⟨q1,by rw[zWF hlj];exact q2,q3⟩
  ·rw[zWQ (by simpa using h8),zAf,zM];exact last M' j6 js cs nw ej hcs hl
noncomputable def zCh:FS:=(zX (zq 1 (zAw zH))
  (zX (zBs (zr (zC 0)) (gN 2) (sIf (tst (fOp (kIn true) (zC 2) (zC 1))) (zBP (fM zAP (zC 1) (zD (toD (zC 2)) zH))) zBC))
  (zAV (fB zAo (zU (zw [2] (zr (zC 0)) (gN 2) zAD (fM zET (zC 1) (zD (toD (zC 2)) zH))) zo)))))
noncomputable def zAt:FF:=zHZ (zA7 3 zCh)
theorem zOB {xs:List Int} (h:zAF M y=some (xs.map D.int)):kIn neg (.dat (.int g)) y M=some (.dat (.bl (if neg then !(xs.any fun y=>decide (y=g)) else xs.any fun y=>decide (y=g))),M):=by
 unfold kIn;dsimp only;rw[h];dsimp only;rw[zCm]
theorem zQ5 (xs:List Int) (g:Int):(xs.any fun y=>decide (y=g))=decide (g∈xs):=by
 induction xs with
 |nil=>rfl
 |cons x r ih=>
  rw[List.any_cons,ih];by_cases h:x=g
  ·subst h;simp
  ·have:¬ g=x:=fun e=>h e.symm;simp[h,this]
def zCn (xs:List Int):List Int:=xs.map fun x=>((zS xs).idxOf x:Int)
theorem zFR (xs:List Int):(zCn xs).length=xs.length:=by unfold zCn;simp
theorem zNO {M:Mem} {xs:List Int} (h:M[j]?=some (.lst (xs.map D.int))) (hi:i∈xs) (hz:xs.length<=90000):zET (.dat (.ref j)) [.int i] M=some (.int (xs.idxOf i),M):=by
 unfold zET;dsimp only;rw[h];dsimp only;rw[zCm];dsimp only;rw[zWN ⟨hi,hz⟩]
theorem zK1 {M:Mem} (wf:∀ (j:Nat) u,M[j]?=some u->MO.und M.length u=true) {xs:List Int} (hj:M[j]?=some (.lst (xs.map D.int))) (hz:xs.length<=4000):zAt [.ref j] M=some (tI (zCn xs),M):=by
 refine zT ?_;unfold zAt;refine zJM ?_;rw[zv];unfold zCh;have hjl:j<M.length:=(zWB.mp hj).1;rw[zJ,zQ];refine zDH.mpr (zAa.mpr ⟨zV (by simp),zb ?_⟩);rw[zM,zJ,zAi];have ej:∀ u:MO,(M++[u])[j]?=some (.lst (xs.map D.int)):=fun u=>by rw[zWF hjl];exact hj
 refine ⟨_,_,_,zBb (x:=.dat (.ref j)) rfl (zf (ej _)),?_⟩;refine zAZ (I:=fun r σ M'=>∃ (y:Option D) (a b:List Int),σ=[some (.ref j),some (.ref M.length),y]/\r=b.map D.int/\a++b=xs/\M'=M++[.lst ((zS a).map D.int)]) ?_ ?_ _ _ _ ⟨none,[],xs,rfl,rfl,rfl,rfl⟩
 ·rintro x r σ M' ⟨y,a,b,rfl,hr,hab,rfl⟩;obtain ⟨g,b',rfl,rfl,rfl⟩:=zAq hr;refine ⟨.inl (ej _),_,rfl,?_⟩;have ek:(M++[MO.lst ((zS a).map D.int)])[M.length]?=some (.lst ((zS a).map D.int)):=zY _ _;have hin:zS (a++[g])=ins (zS a) g:=by unfold zS;rw[List.foldl_append];rfl
  rw[zAx];refine zE (M:=M++[MO.lst ((zS a).map D.int)]) (a:=!decide (g∈zS a)) ?_ ?_
  ·refine zn (zK (x:=.dat (.int g)) (y:=.dat (.ref M.length)) rfl rfl ?_);rw[zOB (zf ek),zQ5];rfl
  have hla:a.length<xs.length:=by rw[<-hab];simp
  have hli:=zBz a;by_cases hg:g∈zS a
  ·rw[zWQ (by simp[hg]),zAf];refine ⟨_,a++[g],b',rfl,rfl,by rw[<-hab];simp,?_⟩;rw[hin];unfold ins;rw[zWN hg]
  ·rw[zWN (by simp[hg]),zBj];refine zHM.mpr (zAb.mpr ⟨_,rfl,⟨_,zAd ek⟩,zE (zW (d:=.int g) rfl) ?_⟩);rw[zCW ek (by rw[zWH];exact zWX (m:=95000) (by omega) (zV (by omega)))];refine ⟨_,a++[g],b',rfl,rfl,by rw[<-hab];simp,?_⟩;rw[hin];unfold ins;rw[zWQ hg,List.set_append_right _ _ (zWE _)];simp
 ·rintro σ M' ⟨y,a,b,rfl,hr,hab,rfl⟩;have:b=[]:=by cases b with|nil=>rfl|cons _ _=>cases hr
  subst this;rw[zWs]at hab;subst hab;refine ⟨.inl (ej _),?_⟩;rw[zM];have ek:(M++[MO.lst ((zS a).map D.int)])[M.length]?=some (.lst ((zS a).map D.int)):=zY _ _;have hli:=zBz a;refine zAR (d:=tI (zCn a)) ?_ ⟨⟨zA1 _,by simp,fun i u hi e=>?_⟩,rfl,by simp⟩
  ·refine (zCC (zBN (gd:=zDA (.dat (.ref j)) (a.map D.int)) a D.int (fun x=> .int ((zS a).idxOf x:Int)) (zBb (x:=.dat (.ref j)) rfl (zf (ej _))) (.inl (ej _)) (by omega) fun x hx=>⟨_,rfl,?_⟩) zCZ).trans ?_
   ·refine zT (zHM.mpr (zAb.mpr ⟨_,rfl,⟨_,zAd ek⟩,zE (zW (d:=.int x) rfl) (zE (zNO ek ((zDb a x).mpr hx) (by omega)) ⟨rfl,rfl⟩)⟩))
   ·unfold zCn tI;rw[zWW];rfl
  ·rw[zWF hi]at e;exact wf i u e
theorem zSx (ha:a σ M=some (true,M)):zHu a b σ M=some (true,M):=by unfold zHu;rw[ha]
theorem zTx (ha:a σ M=some (false,M)) (hb:b σ M=some (k,M)):zHu a b σ M=some (k,M):=by unfold zHu;rw[ha];exact hb
theorem ntT (ha:a σ M=some (.dat (.bl k),M)):zF1 (tst a) σ M=some (!k,M):=by
 refine zT (zRi.mpr (zE (zn ha) ⟨rfl,rfl⟩))
theorem aC' {f:FE} {g:FA} {σ:Sd} {M M1 M2:Mem} {d:D} {ds:List D} (h:toD f σ M=some (d,M1)) (hg:g σ M1=some (ds,M2)):zD (toD f) g σ M=some (d::ds,M2):=by
 unfold zD;rw[h];dsimp only;rw[hg]
theorem zLX (h:f σ M=some (.dat d,M)):toD f σ M=some (d,M):=by unfold toD;rw[h]
theorem zP5 {g:FA} {σ:Sd} {M M1:Mem} {ds:List D} (h:g σ M=some (ds,M1)) (hz:ds.length<=100000):zAw g σ M=some (.fl ds,M1):=by
 unfold zAw;rw[h];dsimp only;rw[zWN (zV hz)]
theorem zHG {g:FA} {σ:Sd} {M M1:Mem} {ds:List D} (h:g σ M=some (ds,M1)) (hz:ds.length<=100000):zAr g σ M=some (.dat (.tup ds),M1):=by
 unfold zAr;rw[h];dsimp only;rw[zWN (zV hz)]
theorem zOs (hf:f σ M=some (.dat (.bl true),M)) (h:P .nx σ M):OkS (sIf (zF1 (tst f)) a zBC σ M) P:=zKK (ntT hf) h
theorem zGT (hf:f σ M=some (.dat (.int i),M)) (hg:g σ M=some (.dat (.int j),M)):fB zFE (zU f (zU g zo)) σ M=some (.dat (.int (if j<i then j else i)),M):=by
 unfold fB zU zo;rw[hf];dsimp only;rw[hg];rfl
theorem zUZ {m:FF} {a:FA} {σ:Sd} {M M1:Mem} {ds:List D} {d:D} (ha:a σ M=some (ds,M)) (h:m ds M=some (d,M1)):toD (zN m a) σ M=some (d,M1):=by
 unfold toD zN;rw[ha];dsimp only;rw[h]
theorem zMt {f:FE} {σ:Sd} {M M1:Mem} {xs:List D} (h:f σ M=some (.fl xs,M1)):zr f σ M=some (xs,none,M1):=by
 unfold zr;rw[h];rfl
theorem zID (a:List Int):(a.map D.int).all (zx 0)=true:=by
 rw[zWj];intro x hx;obtain ⟨i,_,rfl⟩:=zWP.mp hx;rfl
theorem zNU (h1:M[n]?=some (.lst xs)) (h2:M[m]?=some (.lst ys)) (hz:xs.length+ys.length<=90000):zEK (.dat (.ref n)) [.ref m] M=some (.non,M.set n (.lst (xs++ys))):=by
 unfold zEK;dsimp only;rw[h1,h2];dsimp only;rw[zWN (zV (by omega))]
theorem zNS (e1:f σ M=some (.dat (.int i),M)) (e2:g σ M=some (.dat (.int j),M)) (h1:0<=i) (h2:i<=90000) (h3:0<=j) (h4:j<=90000):zAM (zD (toD f) (zD (toD g) zH)) σ M=some ((List.range (j-i).toNat).map (fun (k:Nat)=>D.int (i+k)),none,M):=by
 unfold zAM;rw[zd e1 (zW e2)];dsimp only;rw[zWN ⟨by omega,by omega,by omega,by omega⟩]
noncomputable def zDG:FS:=(zX (zq 3 (zN zA3 (zD (toD (zC 0)) (zD (toD (fC (.int 7))) (zD (toD (zC 2)) zH)))))
  (zX (zq 4 (fOp zAS (fB zBD (zU (zC 3) zo)) (zN zZ (zD (toD (zC 0)) (zD (toD (fOp zHz (fOp zAS (zC 1) (fC (.int 1))) (fB zBD (zU (zC 3) zo)))) zH)))))
  (zX (zq 5 (fOp zDj (zFP (fB zBD (zU (zC 3) zo))) (zw [6] (zAM (zD (toD (fOp zHz (zC 4) (fB zBD (zU (zC 3) zo)))) zH)) (gN 6) zAD (zN zZ (zD (toD (zC 0)) (zD (toD (fB zBD (zU (zC 3) zo))) zH))))))
  (zX (zq 7 (zN zZ (zD (toD (zC 0)) (zD (toD (zC 4)) zH))))
  (zX (zq 5 (fOp zDj (fSl (zC 5) (zBO (zC 7)) zBm) (fSl (zC 5) zBm (zBO (zC 7)))))
  (zX (zq 8 (zAw zH))
  (zX (zBs (zr (zC 5)) (gN 9) (zX (zq 10 (zAw zH))
  (zX (zBs (zr (fOp kIx (zC 3) (zC 9))) (gN 11) (zX (zq 12 (zw [6] (zAM (zD (toD (zC 4)) zH)) (gN 6) (tst (fOp kEq (fOp kIx (zC 5) (zC 6)) (zC 11))) (zC 6)))
  (zBP (fM zAP (zC 10) (zD (toD (fOp kIx (zC 12) (zN zZ (zD (toD (zC 0)) (zD (toD (fB zBD (zU (zC 12) zo))) zH))))) zH)))))
  (zBP (fM zAP (zC 8) (zD (toD (fB zAo (zU (zC 10) zo))) zH))))))
  (zAV (zAr (zD (toD (fB zAo (zU (zC 8) zo))) (zD (toD (zC 5)) zH)))))))))))
noncomputable def zBh:FF:=zA7 13 zDG
noncomputable def zDP:FS:=(zX (sIf (tst (fOp kEq (zN zZ (zD (toD (zC 0)) (zD (toD (fC (.int 2))) zH))) (fC (.int 0)))) (zLa (zB3 3 4) (zN zBh (zD (toD (zC 0)) (zD (toD (zC 1)) (zD (toD (zC 2)) zH))))) (zX (zq 3 (zN zA3 (zD (toD (zC 0)) (zD (toD (zC 1)) (zD (toD (zC 2)) zH)))))
  (zX (zq 5 (fOp zAS (fC (.int 1)) (zN zZ (zD (toD (zC 0)) (zD (toD (fB zBD (zU (zC 3) zo))) zH)))))
  (zq 4 (zw [6] (zr (zC 3)) (gN 6) zAD (zN zZ (zD (toD (zC 0)) (zD (toD (zC 5)) zH))))))))
  (zAV (zAr (zD (toD (zC 3)) (zD (toD (zN zAt (zD (toD (zC 4)) zH))) zH)))))
noncomputable def zBg:FF:=zHZ (zA7 7 zDP)
theorem zOe (h:Gen M n k) (h0:0<few) (h1:few<1073741824) (m1:xs.length<=90000)
  (hf:f σ M=some (.dat (.tup xs),M)) (ha:∀ (x:D) (M:Mem),fa ((zBB own σ).set i (some x)) M=some (.dat (.ref n),M)) (hb:∀ (x:D) (M:Mem),fb ((zBB own σ).set i (some x)) M=some (.dat (.int few),M)) :
  Ok (zw own (zr f) (gN i) zAD (zN zZ (zD (toD fa) (zD (toD fb) zH))) σ M) fun x M'=>(∃ c:List Int,x=.fl (c.map D.int)/\c.length=xs.length /\ ∀ y∈c,0<=y/\y<few)/\Nw M M' n k:=by
 refine zB1.mpr ⟨_,_,_,zFW hf,zV (by omega),?_⟩;refine Ok.mono (zBR (I:=fun r acc M2=>(∃ c:List Int,acc=c.map D.int/\c.length+r.length=xs.length /\ ∀ y∈c,0<=y/\y<few)/\Nw M M2 n k) (Q:=fun acc M2=>(∃ c:List Int,acc=c.map D.int/\c.length=xs.length /\ ∀ y∈c,0<=y/\y<few)/\Nw M M2 n k) ?_ ?_ _ [] _ ⟨⟨[],rfl,by simp,fun _ h=>by cases h⟩,Nw.refl h⟩) ?_
 ·rintro x r acc M2 ⟨⟨c,rfl,hcl,hc⟩,nw⟩;refine ⟨zAC,_,rfl,zE1.mpr ?_⟩;rw[zWN rfl];refine zAe nw.gen (ha _ _) (hb _ _) h0 h1 fun g M3 g0 g1 nw3 hl3=>?_;rw[zI];refine ⟨⟨c++[g],by simp,by simp at hcl ⊢;omega,fun z hz=>?_⟩,nw.trans nw3⟩;rcases zWY.mp hz with q|q
  ·exact hc z q
  ·have:z=g:=by simpa using q
   subst this;exact ⟨g0,g1⟩
 ·rintro acc M2 ⟨⟨c,rfl,hcl,hc⟩,nw⟩;exact ⟨zAC,⟨c,rfl,by simpa using hcl,hc⟩,nw⟩
 ·rintro ys M2 ⟨⟨c,hc0,hcl,hc⟩,nw⟩;rw[zYQ]at hc0;exact ⟨⟨c,by rw[hc0],hcl,hc⟩,nw⟩
theorem zNc {xs:List D} (h:q<=xs.length):L3.zDS xs (some (q:Int)) none=xs.drop q:=by
 have s:HT.sIx xs.length 0 (some (q:Int))=q:=by rw[HT.zGX];omega
 have z:HT.sIx xs.length xs.length none=xs.length:=rfl;unfold L3.zDS;rw[s,z,List.take_of_length_le (by simp)]
theorem zOr {xs:List D} (h:q<=xs.length):L3.zDS xs none (some (q:Int))=xs.take q:=by
 have s:HT.sIx xs.length xs.length (some (q:Int))=q:=by rw[HT.zGX];omega
 have z:HT.sIx xs.length 0 none=0:=rfl;unfold L3.zDS;rw[s,z];simp
theorem zLn {M:Mem} {ow:List Int} (hz:many<=1000) (hl:ow.length=many) (ej:M[j]?=some (.lst (ow.map D.int))) (hg:g∈ow) :
  Ok (zw [6] (zAM (zD (toD (zC 4)) zH)) (gN 6) (tst (fOp kEq (fOp kIx (zC 5) (zC 6)) (zC 11))) (zC 6) [a0,a1,a2,a3,some (.int many),some (.ref j),a6,a7,a8,a9,a10,some (.int g),a12] M) fun x M'=>M'=M /\ ∃ c:List Int,x=.fl (c.map D.int)/\c≠[]/\c.length<=many /\ ∀ y∈c,0<=y/\y<(many:Int):=by
 refine zB1.mpr ⟨_,_,_,zCB (j:=(many:Int)) rfl (by omega) (by omega),by rw[zC1];exact zV (by omega),?_⟩;rw[show (many:Int).toNat=many by omega];refine Ok.mono (zBR (I:=fun r acc M2=>M2=M /\ ∃ (i:Nat) (c:List Int),i<=many/\r=zCI i (many-i)/\acc=c.map D.int/\c.length<=i/\(∀ y∈c,0<=y/\y<(many:Int)) /\ ∀ r,r<i->ow.getD r 0=g->c≠[]) (Q:=fun acc M2=>M2=M /\ ∃ c:List Int,acc=c.map D.int/\c≠[]/\c.length<=many /\ ∀ y∈c,0<=y/\y<(many:Int)) ?_ ?_ _ [] _ ⟨rfl,0,[],zWu _,by simp,rfl,by simp,(fun _ h=>by cases h),fun r h=>by omega⟩) ?_
 ·rintro x r acc M2 ⟨rfl,i,c,hi,e,rfl,hcl,hc,hne⟩;have hlt:i<many:=by
   rcases zXU i many with z|z
   ·exact z
   ·rw[show many-i=0 by omega]at e;cases e
  rw[show many-i=(many-(i+1))+1 by omega]at e;obtain ⟨rfl,rfl⟩:=zXC e;refine ⟨zAC,_,rfl,?_⟩;have hat:atI (ow.map D.int) ((i:Nat):Int)=some (.int (ow.getD i 0)):=by
   have:=zCF (r:=ow) (g:=((i:Nat):Int)) (by omega) (by omega);rw[Int.toNat_natCast]at this;exact this
  refine zE (M:=M2) (a:=decide (ow.getD i 0=g)) (zn (zK (x:=.dat (.int (ow.getD i 0))) (y:=.dat (.int g)) (zK (x:=.dat (.ref j)) (y:=.dat (.int ((i:Nat):Int))) rfl rfl (zA5 (zf ej) hat)) rfl (zT (zKa.mpr ⟨rfl,rfl⟩)))) ?_;by_cases he:ow.getD i 0=g
  ·rw[zWN (by simpa using he)];refine zE (M:=M2) (a:=.dat (.int ((i:Nat):Int))) rfl ?_;rw[zI];refine ⟨rfl,i+1,c++[((i:Nat):Int)],hlt,rfl,by simp,by simp;omega,fun y hy=>?_,fun _ _ _=>by simp⟩;rcases zWY.mp hy with q|q
   ·exact hc y q
   ·have:y=((i:Nat):Int):=by simpa using q
    omega
  ·rw[zWQ (by simpa using he)];refine ⟨rfl,i+1,c,hlt,rfl,rfl,by omega,hc,fun r hr hq=>?_⟩;rcases zXU r i with z|z
   ·exact hne r z hq
   ·have:r=i:=by omega
    subst this;exact absurd hq he
 ·rintro acc M2 ⟨rfl,i,c,hi,e,rfl,hcl,hc,hne⟩;have:i=many:=by
   rcases zXU i many with z|z
   ·rw[show many-i=(many-(i+1))+1 by omega]at e;cases e
   ·omega
  subst this;obtain ⟨q,hq,eq⟩:=List.mem_iff_getElem.mp hg;exact ⟨zAC,rfl,c,rfl,hne q (by omega) (by rw[zWD,zWC hq];exact eq),hcl,hc⟩
 ·rintro ys M2 ⟨rfl,c,e,h⟩;rw[zYQ]at e;exact ⟨rfl,c,by rw[e],h⟩
theorem zOg (h:Gen M n k) (hm:9<=most) (hm1:most<=900) (hl:0<lm) (hl1:lm<=900) :
  Ok (zBh [.ref n,.int most,.int lm] M) fun d M'=>∃ zA l j ow,d=.tup [mD zA,.ref j]/\IsM zA l/\(zA.length:Int)<=most/\(l:Int)<=lm/\M'[j]?=some (.lst ((ow:List Int).map D.int))/\ow.length=zA.length/\Nw M M' n k:=by
 obtain ⟨hn,hk⟩:=h.lt;unfold zBh;rw[zv];unfold zDG;rw[zJ,zQ];refine zAJ.mpr (zE (zd rfl (zd rfl (zW rfl))) ?_);refine Ok.mono (zHN h (by decide) (by decide) hl hl1) ?_;rintro d M1 ⟨⟨base,l,rfl,mb,hB,hL⟩,nw1⟩;have b0:=mb.r0;have l0:=mb.l0;have hB':base.length<=8:=by omega
 rw[zI,zM,zJ,zQ];refine zBQ.mpr (zE (zB7 rfl) ?_);refine zAe nw1.gen rfl (zK (x:=.dat (.int (most+1))) (zK rfl rfl rfl) (zB7 rfl) rfl) (by omega) (by omega) fun ex M2 x0 x1 nw2 _=>zFu.mpr ?_;rw[zI,zM,zJ,zQ];have nw2':=nw1.trans nw2;obtain ⟨many,hmany⟩:∃ many:Nat,(base.length:Int)+ex=(many:Int):=⟨((base.length:Int)+ex).toNat,by omega⟩;rw[hmany];have mB:base.length<=many:=by omega
 have mM:(many:Int)<=most:=by omega
 have elr:zFP (fB zBD (zU (zC 3) zo)) [some (.ref n),some (.int most),some (.int lm),some (mD base),some (.int many),none,none,none,none,none,none,none,none] M2=some (.fl (((List.range base.length).map fun (k:Nat)=>(k:Int)).map D.int),M2):=by
  unfold zFP;rw[zB7 (zA:=base) rfl];dsimp only;rw[zWN ⟨by omega,by omega⟩,zM5,show (base.length:Int).toNat=base.length by omega]
 refine zBQ.mpr (zE elr ?_);refine Ok.mono (zK6 nw2'.gen (few:=base.length) (many:=(many:Int)-base.length) (by omega) (by omega) (by omega) (by omega) (zK rfl (zB7 rfl) rfl) (fun _ _=>rfl) (fun _ _=>zB7 rfl)) ?_;rintro x M3 ⟨⟨cx,rfl,hcl,hcx⟩,nw3,_⟩;have nw3':=nw2'.trans nw3;refine zLd rfl rfl (by simp;omega) (zb ?_);rw[<-zW0,zM];generalize how:((List.range base.length).map fun (k:Nat)=>(k:Int))++cx=ow;have owl:ow.length=many:=by rw[<-how];simp;omega
 have owb:∀ x∈ow,0<=x/\x<base.length:=by
  intro x hx;rw[<-how]at hx;rcases zWY.mp hx with q|q
  ·obtain ⟨a,ha,rfl⟩:=zWP.mp q;have:=zWm.mp ha;omega
  ·exact hcx x q
 have ows:∀ g:Int,0<=g->g<base.length->g∈ow:=by
  intro g g0 g1;rw[<-how];exact zXN _ (zWP.mpr ⟨g.toNat,zWm.mpr (by omega),by omega⟩)
 have nw4:=nw3'.trans (nw3'.gen.lst (ow.map D.int) (zu _ _));have e5:(M3++[MO.lst (ow.map D.int)])[M3.length]?=some (.lst (ow.map D.int)):=zY _ _;have hj5:M.length<=M3.length:=nw3'.len;generalize hM4:M3++[MO.lst (ow.map D.int)]=M4 at nw4 e5;generalize M3.length=j5 at e5 hj5;rw[zJ,zQ];refine zAe nw4.gen rfl rfl (by omega) (by omega) fun tn M5 t0 t1 nw5 _=>?_;rw[zI,zM,zJ,zQ];have nw5':=nw4.trans nw5;have e5':=nw5.get e5 (by omega) (by omega);obtain ⟨t,ht⟩:∃ t:Nat,tn=(t:Int):=⟨tn.toNat,by omega⟩;subst ht;have s1:=slL (f:=zC 5) (fl:=zBO (zC 7)) (fh:=zBm) (σ:=[some (.ref n),some (.int most),some (.int lm),some (mD base),some (.int many),some (.ref j5),none,some (.int (t:Nat)),none,none,none,none,none]) rfl rfl (zAd e5') (oS (i:=(t:Int)) rfl) rfl;have s2:=slL (f:=zC 5) (fl:=zBm) (fh:=zBO (zC 7)) (σ:=[some (.ref n),some (.int most),some (.int lm),some (mD base),some (.int many),some (.ref j5),none,some (.int (t:Nat)),none,none,none,none,none]) rfl rfl (zAd e5') rfl (oS (i:=(t:Int)) rfl);rw[zNc (by simp;omega)]at s1;rw[zOr (by simp;omega)]at s2;refine zBQ.mpr (zE s1 (zE s2 (zLd rfl rfl (by simp;omega) (zb ?_))));rw[<-List.map_drop,<-List.map_take,<-zW0,zM];have hmem:∀ x,x∈ow.drop t++ow.take t ↔ x∈ow:=fun x=>by
  rw[zWY,Or.comm,<-zWY,List.take_append_drop]
 have hlen':(ow.drop t++ow.take t).length=many:=by simp;omega
 generalize ow.drop t++ow.take t=ow2 at hmem hlen';replace owb:∀ x∈ow2,0<=x/\x<base.length:=fun x hx=>owb x ((hmem x).mp hx);replace ows:∀ g:Int,0<=g->g<base.length->g∈ow2:=fun g g0 g1=>(hmem g).mpr (ows g g0 g1);have nw6:=nw5'.trans (nw5'.gen.lst (ow2.map D.int) (zu _ _));have e6:(M5++[MO.lst (ow2.map D.int)])[M5.length]?=some (.lst (ow2.map D.int)):=zY _ _;have hj6:M.length<=M5.length:=nw5'.len;generalize M5++[MO.lst (ow2.map D.int)]=M6 at nw6 e6;generalize M5.length=j at e6 hj6;rw[zJ,zQ];refine zDH.mpr (zAa.mpr ⟨zV (by simp),zb ?_⟩);rw[zM];have nw7:=nw6.trans (nw6.gen.lst [] rfl);have e8:(M6++[MO.lst ([]:List D)])[M6.length]?=some (.lst []):=zY _ _;have hj8:M.length<=M6.length:=nw6.len;have hjlt:j<M6.length:=(zWB.mp e6).1;have e6':(M6++[MO.lst ([]:List D)])[j]?=some (.lst (ow2.map D.int)):=by rw[zWF hjlt];exact e6
 generalize M6++[MO.lst ([]:List D)]=M7 at nw7 e8 e6';generalize M6.length=j8 at e8 hj8 hjlt;rw[zJ,zAi];refine ⟨_,_,_,zBb (x:=.dat (.ref j)) rfl (zf e6'),?_⟩;refine zAZ (I:=fun r σ M'=>(∃ y6 y9 y10 y11 y12,σ=[some (.ref n),some (.int most),some (.int lm),some (mD base),some (.int many),some (.ref j),y6,some (.int (t:Nat)),some (.ref j8),y9,y10,y11,y12]) /\ ∃ (r':List Int) (zA:List (List Int)),r=r'.map D.int/\(∀ x∈r',x∈ow2)/\zA.length+r'.length=many/\(∀ q∈zA,q.length=l /\ ∀ g∈q,0<=g/\g<(many:Int))/\M'[j]?=some (.lst (ow2.map D.int))/\M'[j8]?=some (.lst (zA.map fun r=>D.tup (r.map D.int)))/\Nw M M' n k) ?_ ?_ _ _ _ ⟨⟨_,_,_,_,_,rfl⟩,ow2,[],rfl,fun _ h=>h,by simpa using hlen',(fun _ h=>by cases h),e6',e8,nw7⟩
 ·rintro x r σ M' ⟨⟨y6,y9,y10,y11,y12,rfl⟩,r',zA,hr,hsub,hrl,hrw,ej,ej8,nw⟩;obtain ⟨o,r'',rfl,rfl,rfl⟩:=zAq hr;refine ⟨.inl ej,_,rfl,?_⟩;obtain ⟨o0,o1⟩:=owb o (hsub o zWM);obtain ⟨bl,bb⟩:=mb.get (h:=o) o0 o1;rw[zJ,zQ];refine zDH.mpr (zAa.mpr ⟨zV (by simp),zb ?_⟩);rw[zM];have nwa:=nw.trans (nw.gen.lst [] rfl);have e10:(M'++[MO.lst ([]:List D)])[M'.length]?=some (.lst []):=zY _ _;have hj10:M.length<=M'.length:=nw.len;have l8:j8<M'.length:=(zWB.mp ej8).1;have l5:j<M'.length:=(zWB.mp ej).1;have ej':(M'++[MO.lst ([]:List D)])[j]?=some (.lst (ow2.map D.int)):=by rw[zWF l5];exact ej
  have ej8':(M'++[MO.lst ([]:List D)])[j8]?=some (.lst (zA.map fun r=>D.tup (r.map D.int))):=by rw[zWF l8];exact ej8
  generalize M'++[MO.lst ([]:List D)]=Ma at nwa e10 ej' ej8';generalize M'.length=j10 at e10 hj10 l8 l5;generalize hrow:base.getD o.toNat []=row at bl bb;rw[zJ,zAi];have erow:fOp kIx (zC 3) (zC 9) [some (.ref n),some (.int most),some (.int lm),some (mD base),some (.int many),some (.ref j),y6,some (.int (t:Nat)),some (.ref j8),some (.int o),some (.ref j10),y11,y12] Ma=some (.dat (.tup (row.map D.int)),Ma):=by
   rw[<-hrow];exact zK rfl rfl (zA5 zi (zMO o0 o1))
  refine ⟨_,_,_,zFW erow,?_⟩;refine zAZ (I:=fun r σ M''=>(∃ y6 y11 y12,σ=[some (.ref n),some (.int most),some (.int lm),some (mD base),some (.int many),some (.ref j),y6,some (.int (t:Nat)),some (.ref j8),some (.int o),some (.ref j10),y11,y12]) /\ ∃ (r' q:List Int),r=r'.map D.int/\(∀ x∈r',x∈row)/\q.length+r'.length=l/\(∀ g∈q,0<=g/\g<(many:Int))/\M''[j]?=some (.lst (ow2.map D.int))/\M''[j8]?=some (.lst (zA.map fun r=>D.tup (r.map D.int)))/\M''[j10]?=some (.lst (q.map D.int))/\Nw M M'' n k) ?_ ?_ _ _ _ ⟨⟨_,_,_,rfl⟩,row,[],rfl,fun _ h=>h,by simpa using bl,(fun _ h=>by cases h),ej',ej8',e10,nwa⟩
  ·rintro x r σ Mx ⟨⟨y6,y11,y12,rfl⟩,r',q,hr',hsub',hql,hq,f5,f8,f10,nwx⟩;obtain ⟨g,rr,rfl,rfl,rfl⟩:=zAq hr';refine ⟨zAC,_,rfl,?_⟩;obtain ⟨g0,g1⟩:=bb g (hsub' g zWM);rw[zJ,zQ];refine Ok.mono (zLn (by omega) hlen' f5 (ows g g0 g1)) ?_;rintro x M9 ⟨rfl,c,rfl,hne,hcz,hc⟩;refine zb ?_;rw[zM,zBj];have nwb:=nwx.trans (nwx.gen.lst (c.map D.int) (zu _ _));have e12:(M9++[MO.lst (c.map D.int)])[M9.length]?=some (.lst (c.map D.int)):=zY _ _;have p5:j<M9.length:=(zWB.mp f5).1;have p8:j8<M9.length:=(zWB.mp f8).1;have p10:j10<M9.length:=(zWB.mp f10).1;have f5':(M9++[MO.lst (c.map D.int)])[j]?=some (.lst (ow2.map D.int)):=by rw[zWF p5];exact f5
   have f8':(M9++[MO.lst (c.map D.int)])[j8]?=some (.lst (zA.map fun r=>D.tup (r.map D.int))):=by rw[zWF p8];exact f8
   have f10':(M9++[MO.lst (c.map D.int)])[j10]?=some (.lst (q.map D.int)):=by rw[zWF p10];exact f10
   have hj12:M.length<=M9.length:=nwx.len;generalize M9++[MO.lst (c.map D.int)]=Mb at nwb e12 f5' f8' f10';generalize M9.length=j12 at e12 hj12 p5 p8 p10;have hcl0:0<c.length:=List.length_pos_iff.mpr hne;have elen:fB zBD (zU (zC 12) zo) [some (.ref n),some (.int most),some (.int lm),some (mD base),some (.int many),some (.ref j),y6,some (.int (t:Nat)),some (.ref j8),some (.int o),some (.ref j10),some (.int g),some (.ref j12)] Mb=some (.dat (.int c.length),Mb):=by
    have:=zDt (f:=zC 12) (σ:=[some (.ref n),some (.int most),some (.int lm),some (mD base),some (.int many),some (.ref j),y6,some (.int (t:Nat)),some (.ref j8),some (.int o),some (.ref j10),some (.int g),some (.ref j12)]) (M:=Mb) rfl (zf e12);rw[zWH]at this;exact this
   refine zHM.mpr (zAb.mpr ⟨_,rfl,⟨_,zAd f10'⟩,zm.mpr (zAU.mpr (zBQ.mpr (zAb.mpr ⟨_,rfl,?_⟩)))⟩);refine zAe nwb.gen rfl elen (by omega) (by omega) fun z Mc z0 z1 nwc _=>?_;have h12:=nwc.get e12 (by omega) (by omega);refine zRx (zf h12) (zCF z0 z1) ?_;have hcv:=hc (c.getD z.toNat 0) (by rw[zWD,zWC (by omega)];exact zWg _);have h5:=nwc.get f5' (by omega) (by omega);have h8:=nwc.get f8' (by omega) (by omega);have h10:=nwc.get f10' (by omega) (by omega);generalize c.getD z.toNat 0=v at hcv;have hql':q.length<l:=by simp at hql;omega
   rw[zI,zAa,zCW h10 (by rw[zWH];exact zWX (m:=95000) (by omega) (zV (by omega)))];refine ⟨⟨_,_,_,rfl⟩,rr,q++[v],rfl,fun x hx=>hsub' x (zWL _ hx),by simp at hql ⊢;omega,fun x hx=>?_,?_,?_,?_,?_⟩
   ·rcases zWY.mp hx with w|w
    ·exact hq x w
    ·have:x=v:=by simpa using w
     subst this;exact hcv
   ·rw[zWc (by omega)];exact h5
   ·rw[zWc (by omega)];exact h8
   ·rw[zW2 (zWB.mp h10).1,zW0];rfl
   ·refine (nwb.trans nwc).setB h (by omega) ?_;show D.unds _ _=true;rw[zFN,zu];rfl
  ·rintro σ Mx ⟨⟨y6,y11,y12,rfl⟩,r',q,hr',hsub',hql,hq,f5,f8,f10,nwx⟩;have:r'=[]:=by cases r' with|nil=>rfl|cons _ _=>cases hr'
   subst this;refine ⟨zAC,?_⟩;rw[zM,zBj];have et:fB zAo (zU (zC 10) zo) [some (.ref n),some (.int most),some (.int lm),some (mD base),some (.int many),some (.ref j),y6,some (.int (t:Nat)),some (.ref j8),some (.int o),some (.ref j10),y11,y12] Mx=some (.dat (.tup (q.map D.int)),Mx):=zCC (x:=.dat (.ref j10)) rfl (zf f10);refine zHM.mpr (zAb.mpr ⟨_,rfl,⟨_,zAd f8⟩,zE (zW et) ?_⟩);have hrl':zA.length<many:=by simp at hrl;omega
   rw[zCW f8 (by rw[zWH];exact zWX (m:=95000) (by omega) (zV (by omega)))];refine ⟨⟨_,_,_,_,_,rfl⟩,r'',zA++[q],rfl,fun x hx=>hsub x (zWL _ hx),by simp at hrl ⊢;omega,fun x hx=>?_,?_,?_,?_⟩
   ·rcases zWY.mp hx with w|w
    ·exact hrw x w
    ·have:x=q:=by simpa using w
     subst this;exact ⟨by simpa using hql,hq⟩
   ·rw[zWc (by omega)];exact f5
   ·rw[zW2 (zWB.mp f8).1,zW0];rfl
   ·refine nwx.setB h hj8 ?_;show D.unds _ _=true;rw[zFN,zPH];simp[D.unds,zA1]
 ·rintro σ M' ⟨⟨y6,y9,y10,y11,y12,rfl⟩,r',zA,hr,hsub,hrl,hrw,ej,ej8,nw⟩;have:r'=[]:=by cases r' with|nil=>rfl|cons _ _=>cases hr
  subst this;refine ⟨.inl ej,?_⟩;rw[zM];have hrl':zA.length=many:=by simpa using hrl
  refine zAR (zHG (zd (d:=mD zA) (zCC (x:=.dat (.ref j8)) rfl (zf ej8)) (zW (d:=.ref j) rfl)) (by simp)) ⟨zA,l,j,ow2,rfl,⟨by omega,l0,fun q hq=>?_⟩,by omega,hL,ej,by omega,nw⟩;obtain ⟨q1,q2⟩:=hrw q hq;exact ⟨q1,fun g hg=>by rw[hrl'];exact q2 g hg⟩
theorem zOJ (h:Gen M n k) (hm:9<=most) (hm1:most<=900) (hl:0<lm) (hl1:lm<=900) :
  Ok (zBg [.ref n,.int most,.int lm] M) fun d M'=>∃ zA l p,d=.tup [mD zA,tI p]/\IsM zA l/\(zA.length:Int)<=most/\(l:Int)<=lm/\p.length=zA.length/\Nw M M' n k:=by
 obtain ⟨hn,hk⟩:=h.lt;unfold zBg;refine zJM ?_;rw[zv];unfold zDP
 have tail:∀ (A:Mem) (zA:List (List Int)) (l j:Nat) (ow:List Int) (y5 y6:Option D),Nw M A n k->IsM zA l->(zA.length:Int)<=most->(l:Int)<=lm->A[j]?=some (.lst (ow.map D.int))->ow.length=zA.length ->
   OkS (zAV (zAr (zD (toD (zC 3)) (zD (toD (zN zAt (zD (toD (zC 4)) zH))) zH))) [some (.ref n),some (.int most),some (.int lm),some (mD zA),some (.ref j),y5,y6] A) fun o x M1=>match o with
    |.ret d=>(D.und M.length d=true/\M.length<=M1.length /\ ∀ (j:Nat) u,j<M.length->M1[j]?=some u->MO.und M.length u=true) /\ ∃ zA l p,d=.tup [mD zA,tI p]/\IsM zA l/\(zA.length:Int)<=most/\(l:Int)<=lm/\p.length=zA.length/\Nw M (M1.take M.length) n k
    |.nx=>(D.und M.length .non=true/\M.length<=M1.length /\ ∀ (j:Nat) u,j<M.length->M1[j]?=some u->MO.und M.length u=true) /\ ∃ zA l p,D.non=.tup [mD zA,tI p]/\IsM zA l/\(zA.length:Int)<=most/\(l:Int)<=lm/\p.length=zA.length/\Nw M (M1.take M.length) n k
    |_=>False:=by
  intro A zA l j ow y5 y6 nw m h1 h2 ej hol;refine zAR (zHG (zd (d:=mD zA) rfl (zW (d:=tI (zCn ow)) (zj (zW (d:=.ref j) rfl) (zK1 nw.gen.wf ej (by omega))))) (by simp)) ⟨⟨?_,nw.len,nw.wf0 h⟩,zA,l,zCn ow,rfl,m,h1,h2,by rw[zFR,hol],nw.trim h⟩;unfold D.und D.unds D.unds D.unds;rw[zEF];simp[tI,zA1]
 rw[zJ,zAx];refine zLf.mpr (zBQ.mpr (zAe h rfl rfl (by decide) (by decide) fun w M1 w0 w1 nw1 _=>zFS.mpr (zKa.mpr (zL2.mpr ?_))));by_cases hw:w=0
 ·rw[zWN (by simpa using hw),zGQ];refine zAJ.mpr (zE (zd rfl (zd rfl (zW rfl))) ?_);refine Ok.mono (zOg nw1.gen hm hm1 hl hl1) ?_;rintro d M2 ⟨zA,l,j,ow,rfl,m,h1,h2,ej,hol,nw2⟩;rw[zI];refine ⟨_,rfl,?_⟩;rw[zM];exact tail M2 zA l j ow _ _ (nw1.trans nw2) m h1 h2 ej hol
 ·rw[zWQ (by simpa using hw),zJ,zQ];refine zAJ.mpr (zE (zd rfl (zd rfl (zW rfl))) ?_);refine Ok.mono (zHN nw1.gen (by omega) hm1 hl hl1) ?_;rintro d M2 ⟨⟨zA,l,rfl,m,h1,h2⟩,nw2⟩;have r0:=m.r0;have nw2':=nw1.trans nw2;rw[zI,zM,zJ,zQ];refine zBQ.mpr (zFS.mpr (zAe nw2'.gen rfl (zB7 rfl) (by omega) (by omega) fun f M3 f0 f1 nw3 _=>zFu.mpr ?_));have nw3':=nw2'.trans nw3;rw[zI,zM,zQ];refine Ok.mono (zOe nw3'.gen (few:=1+f) (xs:=zA.map fun r=>D.tup (r.map D.int)) (by omega) (by omega) (by simp;omega) rfl (fun _ _=>rfl) (fun _ _=>rfl)) ?_;rintro x M4 ⟨⟨c,rfl,hcl,_⟩,nw4⟩;have nw4':=nw3'.trans nw4;refine zb ?_;rw[zM];exact tail _ zA l M4.length c _ _ (nw4'.trans (nw4'.gen.lst _ (zu _ _))) m (by omega) h2 (zY _ _) (by rw[hcl];simp)
open Lac
noncomputable def zEu:FS:=(zAV (zAr (zD (toD (fB zFE (zU (zC 0) (zU (zC 1) zo)))) (zD (toD (fB zIb (zU (zC 0) (zU (zC 1) zo)))) zH))))
noncomputable def zCk:FF:=zA7 2 zEu
noncomputable def zD7:FS:=(zX (zq 1 (zAw zH))
  (zX (zBs (zAM (zD (toD (zC 0)) zH)) (gN 2) (zBP (fM zEK (zC 1) (zD (toD (zw [3] (zAM (zD (toD (fOp zAS (zC 2) (fC (.int 1)))) (zD (toD (zC 0)) zH))) (gN 3) zAD (zAr (zD (toD (zC 2)) (zD (toD (zC 3)) zH))))) zH))))
  (zAV (zC 1))))
noncomputable def zB4:FF:=zA7 4 zD7
theorem zKj:zCk [.int a,.int b] M=some (tI (zAL a b),M):=by
 refine zT ?_;unfold zCk;rw[zv];unfold zEu;exact zAR (d:=tI (zAL a b)) (zHG (zd (zGT (i:=a) (j:=b) rfl rfl) (zW (zND (i:=a) (j:=b) rfl rfl))) (by simp[zAL])) ⟨rfl,rfl⟩
theorem zMg (hk:k<n):((List.range n).map fun (k:Nat)=>(k:Int)).drop (k+1)=(List.range (n-(k+1))).map fun (j:Nat)=>((k:Int)+1+(j:Int)):=by
 apply List.ext_getElem?;intro i;rw[List.getElem?_drop,zWV,zWV];by_cases h:i<n-(k+1)
 ·rw[zYC (by omega),zYC h];simp only[Option.map_some];all_goals (congr 1 <;> omega)
 ·rw[zXH (by rw[zX5];omega),zXH (by rw[zX5];omega)];rfl
theorem zI8 (hN:N=(zA.length:Int)) (hz:zA.length<=100) :
  Ok (zB4 [.int N] M) fun d M'=>d=.ref M.length /\ ∃ us:Mem,M'=M ++ .lst ((zO (zF zA)).map tI)::us /\ ∀ u∈us,MO.und 0 u=true:=by
 have hrl:(zF zA).length=zA.length:=by unfold zF;simp
 have hpw:(zF zA).Pairwise (· < ·):=by
  unfold zF;rw[List.pairwise_map];exact List.Pairwise.imp (fun h=>by omega) List.pairwise_lt_range
 unfold zB4;rw[zv];unfold zD7;rw[zJ,zQ];refine zE (M:=M) (a:=.fl []) (zP5 rfl (by simp)) (zb ?_);rw[zM];rw[zJ,zAi];refine ⟨_,_,_,zCB (j:=N) rfl (by omega) (by omega),?_⟩;rw[show N.toNat=zA.length by omega];refine zJ8 (n:=zA.length) (I:=fun k σ M'=>(∃ y2 y3,σ=[some (.int N),some (.ref M.length),y2,y3]) /\ ∃ us:Mem,M'=M ++ .lst ((zFo (zF zA) k).map tI)::us /\ ∀ u∈us,MO.und 0 u=true) ?_ ?_ _ _ ⟨⟨_,_,rfl⟩,[],by simp[zFo],(fun _ h=>by cases h)⟩
 ·rintro k σ M' hk ⟨⟨y2,y3,rfl⟩,us,rfl,hu⟩;refine ⟨_,rfl,?_⟩;generalize hA:M++MO.lst ((zFo (zF zA) k).map tI)::us=A;have a1:A[M.length]?=some (.lst ((zFo (zF zA) k).map tI)):=by rw[<-hA];simp
  have al:M.length<A.length:=(zWB.mp a1).1;rw[zBj];have ec:=zBN (own:=[3]) (g:=gN 3) (te:=zAr (zD (toD (zC 2)) (zD (toD (zC 3)) zH))) (σ:=[some (.int N),some (.ref M.length),some (.int (k:Int)),y3]) (M:=A) (List.range (N-((k:Int)+1)).toNat) (fun (j:Nat)=>D.int ((k:Int)+1+(j:Int))) (fun (j:Nat)=>tI [(k:Int),(k:Int)+1+(j:Int)]) (zNS (f:=fOp zAS (zC 2) (fC (.int 1))) (g:=zC 0) (i:=(k:Int)+1) (j:=N) rfl rfl (by omega) (by omega) (by omega) (by omega)) trivial (by rw[zX5];omega) fun b _=>⟨_,rfl,zHG (zd (d:=.int (k:Int)) rfl (zW (d:=.int ((k:Int)+1+(b:Int))) rfl)) (by simp)⟩;have htl:=zQ7 (zF zA) k;rw[hrl]at htl;have hmul:k*zA.length<=100*100:=zXk (by omega) hz;refine zHM.mpr (zE (a:=.dat (.ref M.length)) (M:=A) rfl ⟨⟨_,zAd a1⟩,zm.mpr (zAU.mpr (zE ec (zb ?_)))⟩);rw[zAa];have ey:((List.range (N-((k:Int)+1)).toNat).map fun (j:Nat)=>tI [(k:Int),(k:Int)+1+(j:Int)])=((zF zA).drop (k+1)).map fun b=>tI [(zF zA).getD k 0,b]:=by
   have e1:(zF zA).getD k 0=(k:Int):=by
    unfold zF;rw[zWD,zWV,zYC hk];rfl
   rw[e1];unfold zF;rw[zMg hk,zWW,show (N-((k:Int)+1)).toNat=zA.length-(k+1) by omega];rfl
  rw[ey];refine zE (zNU (n:=M.length) (m:=A.length) (xs:=(zFo (zF zA) k).map tI) (ys:=((zF zA).drop (k+1)).map fun b=>tI [(zF zA).getD k 0,b]) (by rw[zWF al];exact a1) (zY _ _) (by rw[zWH,zWH,List.length_drop,hrl];omega)) ?_;refine ⟨⟨_,_,rfl⟩,us++[.lst (((zF zA).drop (k+1)).map fun b=>tI [(zF zA).getD k 0,b])],?_,fun u hu'=>?_⟩
  ·rw[<-hA,zXE,List.set_append_right _ _ (zWE _)];have:(zFo (zF zA) (k+1)).map tI=(zFo (zF zA) k).map tI++((zF zA).drop (k+1)).map fun b=>tI [(zF zA).getD k 0,b]:=by
    unfold zFo;rw[List.range_succ,List.flatMap_append,zW0];simp[zWW,Function.comp_def]
   rw[this];simp
  ·rcases zWY.mp hu' with q|q
   ·exact hu u q
   ·rw[List.mem_singleton]at q;subst q;rw[show ((zF zA).drop (k+1)).map (fun b=>tI [(zF zA).getD k 0,b])=(((zF zA).drop (k+1)).map fun b=>[(zF zA).getD k 0,b]).map tI by rw[zWW];rfl];exact zE6 0 _
 ·rintro σ M' ⟨⟨y2,y3,rfl⟩,us,rfl,hu⟩;rw[zM];exact zAR (d:=.ref M.length) rfl ⟨rfl,us,by rw[<-hrl,zNo hpw],hu⟩
end Lad
namespace Lad
open PySem PySem.Spec PyProof.Rows L2 L3 ST Law Lac
end Lad
namespace Lac
open PySem PySem.Spec PyProof.Rows L2 L3 ST Law
end Lac
namespace Lac
open PySem PySem.Spec PyProof.Rows L2 L3 ST Law
noncomputable def zJ2:FS:=(zX (zq 1 (zN zBu (zD (toD (zC 0)) zH)))
  (zAV (fB zAo (zU (zw [2] (zr (zN zAO (zD (toD (zN zAE (zD (toD (zC 0)) zH))) zH))) (gN 2) (tst (fOp (zA8 true) (zC 2) (zC 1))) (zC 2)) zo))))
noncomputable def zEQ:FF:=zFJ (zA7 3 zJ2)
open Classical in
noncomputable def za (zA:List (List Int)) (l:Nat):List (List Int):=(zO (zF zA)).filter fun p=>decide (p∉zBl zA l One)
theorem zJW (n:Nat) (ps:List (List Int)):D.und n (.tup (ps.map tI))=true:=by unfold D.und;exact zE6 n ps
theorem zGe (m:IsM zA l) (hR:zA.length<=26) (hl:l<=12):zEQ [mD zA] M=some (.tup ((za zA l).map tI),M):=by
 refine zT ?_;unfold zEQ;refine zER ?_ ?_
 ·unfold D.unds D.unds;rw[zEF];rfl
 rw[zv];unfold zJ2;obtain ⟨d,M1,e,jf,rfl,_,⟨fd,h2,_,sp⟩,_,_⟩:=zHF m hR hl (M:=[]);rw[zJ,zQ];refine zE (zj (zW (d:=mD zA) rfl) e) ?_;rw[zI,zM];have hrl:(zF zA).length=zA.length:=by unfold zF;simp
 have epr:=zEE (xs:=zF zA) (by omega) (M:=M1);have ei:zr (zN zAO (zD (toD (zN zAE (zD (toD (zC 0)) zH))) zH)) [some (mD zA),some (.ref jf),none] M1=_:=zDW (zW (d:=tI (zF zA)) (zj (zW (d:=mD zA) rfl) (zC8 (by omega)))) epr (zY _ _);have hjl:=(zWB.mp h2).1;have hPl:=zBG hR;have ef:=zAv (own:=[2]) (g:=gN 2) (tc:=tst (fOp (zA8 true) (zC 2) (zC 1))) (te:=zC 2) (zO (zF zA)) tI tI (fun p=>open Classical in decide (p∉zBl zA l One)) ei (.inl (zY _ _)) (by omega) (fun p hp=>by
  refine ⟨[some (mD zA),some (.ref jf),some (tI p)],rfl,?_,fun _=>rfl⟩;have e1:fOp (zA8 true) (zC 2) (zC 1) [some (mD zA),some (.ref jf),some (tI p)] (M1++[MO.lst ((zO (zF zA)).map tI)])=_:=zK (x:=.dat (tI p)) (y:=.dat (.ref jf)) rfl rfl (zLZ (T:=fd) (by rw[zWF hjl];exact h2));rw[zWN rfl]at e1;have hb:(zG fd p).isSome=true ↔ p∈zBl zA l One:=by
   rw[zBH];constructor
   ·intro h;cases eL:zG fd p with
    |none=>rw[eL]at h;cases h
    |some d=>
     obtain ⟨_,n,hn,_⟩:=(sp p d).mp eL;cases n with
     |zero=>
      obtain ⟨a,b,rfl,_⟩:=zp.mp hp;exact absurd (zAy.mp hn) (by simp[One])
     |succ n=>exact ⟨hp,n,hn⟩
   ·rintro ⟨_,n,hn⟩;rw[(sp p _).mpr ⟨zBF p hp,n+1,hn,rfl⟩];rfl
  rw[zn e1];by_cases hin:p∈zBl zA l One
  ·rw[hb.mpr hin,zWh (by simpa using hin)];rfl
  ·have:(zG fd p).isSome=false:=by
    cases h:(zG fd p).isSome with
    |false=>rfl
    |true=>exact absurd (hb.mp h) hin
   rw[this,zXG hin];rfl)
 rw[zAh];refine zNT.mpr (zDE.mpr (zE ef (zES.mpr ((zFX zCZ).mpr ?_))));rw[zI];exact ⟨zJW 0 _,rfl,rfl⟩
end Lac
namespace Lad
open PySem PySem.Spec PyProof.Rows L2 L3 ST Law Lac
theorem zA2:r∈zF zA ↔ 0<=r/\r<(zA.length:Int):=by
 unfold zF;constructor
 ·intro h;obtain ⟨k,hk,rfl⟩:=zWP.mp h;have:=zWm.mp hk;omega
 ·rintro ⟨h1,h2⟩;exact zWP.mpr ⟨r.toNat,zWm.mpr (by omega),by omega⟩
theorem zA9:[a,b]∈zO (zF zA) ↔ (0<=a/\a<(zA.length:Int))/\(0<=b/\b<(zA.length:Int))/\a<b:=by
 rw[zp];constructor
 ·rintro ⟨a',b',e,h1,h2,h3⟩;cases e;exact ⟨zA2.mp h1,zA2.mp h2,h3⟩
 ·rintro ⟨h1,h2,h3⟩;exact ⟨a,b,rfl,zA2.mpr h1,zA2.mpr h2,h3⟩
theorem zMi (u:Int):zAL u u=[u,u]:=by unfold zAL;simp
theorem zLJ (hu:0<=u/\u<(zA.length:Int)) (hv:0<=v/\v<(zA.length:Int)) (ne:u≠v):zAL u v∈zO (zF zA):=by
 unfold zAL;rw[zA9];split <;> split <;> omega
end Lad
namespace Lad
open PySem PySem.Spec PyProof.Rows L2 L3 ST Law Lac
open Classical in
noncomputable def okL (bad:List Int->Prop) (r:Nat):List Nat:=(List.range (r+1)).filter fun (o:Nat)=>decide (o=r \/ ¬ bad [(o:Int),(r:Int)])
noncomputable def zGb (bad:List Int->Prop) (r:Nat):Int:=(((okL bad r).headD 0:Nat):Int)
noncomputable def zBt (bad:List Int->Prop) (n:Nat):List Int:=(List.range n).map (zGb bad)
noncomputable def zEA:FS:=(zX (zq 1 zMH)
  (zX (zBs (zr (zC 0)) (gN 2) (sIf (tst (fOp (zA8 true) (zC 2) (zC 1))) (zCJ (fB zIM (zU (zC 1) zo)) (zC 1) (zC 2)) zBC))
  (zAV (fB zAo (zU (zw [2] (zr (zC 0)) (gN 2) zAD (fOp zAA (zC 1) (zC 2))) zo)))))
noncomputable def zCA:FF:=zA7 3 zEA
def zBL:Nat->List Int->List (D × D)
 |_,[]=>[]
 |i,k::r=>(.int k,.int (i:Int))::zBL (i+1) r
theorem zGp:∀ (i:Nat) (ks:List Int),(zBL i ks).length=ks.length
 |_,[]=>rfl
 |i,k::r=>by unfold zBL;rw[zWf,zGp,zWf]
theorem zIQ:∀ (i:Nat) (ks:List Int) (k:Int),zBL i (ks++[k])=zBL i ks++[(.int k,.int ((i+ks.length:Nat):Int))]
 |i,[],k=>rfl
 |i,a::r,k=>by
  rw[List.cons_append];unfold zBL;rw[zIQ,List.cons_append,zWf,show i+1+r.length=i+(r.length+1) by omega]
theorem zI7:∀ (i:Nat) (ks:List Int) (k:Int),zB8 zCM (zBL i ks) (Sum.inl k)=if k∈ks then some (.int ((i+ks.idxOf k:Nat):Int)) else none
 |i,[],k=>rfl
 |i,a::r,k=>by
  have ih:=zI7 (i+1) r k;unfold zB8 at ih ⊢;rw[show zBL i (a::r)=(D.int a,D.int (i:Int))::zBL (i+1) r from rfl,zXu];by_cases h:a=k
  ·subst h;rw[show decide (zCM (D.int a)=some (Sum.inl a))=true from zXG rfl];simp
  ·rw[show decide (zCM (D.int a)=some (Sum.inl k))=false from zWh (fun z=>h (Sum.inl.inj (zW8 z)))];by_cases hk:k∈r
   ·rw[zWN (zWL _ hk)];rw[zWN hk]at ih;rw[List.idxOf_cons,show (a==k)=false from beq_false_of_ne h];simp only[cond_false];rw[show i+(List.idxOf k r+1)=i+1+List.idxOf k r by omega];exact ih
   ·rw[zWQ (by simp[hk,Ne.symm h])];rw[zWQ hk]at ih;exact ih
theorem zUU (ks:List Int) (k:Int) (h:k∉ks):zHs zCM (zBL 0 ks) (Sum.inl k) (.int k) (.int (ks.length:Int))=zBL 0 (ks++[k]):=by
 have hl:=zI7 0 ks k;rw[zWQ h]at hl;unfold zB8 at hl;have ha:((zBL 0 ks).any fun p=>decide (zCM p.1=some (Sum.inl k)))=false:=by
  rw[List.any_eq_false];intro p hp;have:=(Option.map_eq_none_iff.mp hl);rw[List.find?_eq_none]at this;exact this p hp
 unfold zHs;rw[ha,zWQ (by simp),zIQ];simp
theorem zJk (hj:M[j]?=some (.lst (xs.map D.int))) (hz:xs.length<=1000) :
  Ok (zCA [.ref j] M) fun d M'=>d=tI (zCn xs)/\M.length<=M'.length /\ ∀ i,i<M.length->M'[i]?=M[i]?:=by
 have hjl:=(zWB.mp hj).1;unfold zCA;rw[zv];unfold zEA;show OkS (zX _ _ [some (.ref j),none,none] M) _;rw[zJ,zQ];refine zE (M:=M++[.dict []]) (a:=.dat (.ref M.length)) rfl ?_;rw[zI,zM];simp only[List.set_cons_succ,List.set_cons_zero];have up:∀ u:MO,(M++[u])[j]?=some (.lst (xs.map D.int)):=fun u=>by rw[zWF hjl];exact hj
 rw[zJ,zAi];refine ⟨_,_,_,(show zr (zC 0) [some (.ref j),some (.ref M.length),none] (M++[.dict []])=some (xs.map D.int,zDA (.dat (.ref j)) (xs.map D.int),M++[.dict []]) by
  unfold zr;rw[show zC 0 [some (.ref j),some (.ref M.length),none] (M++[.dict []])=some (.dat (.ref j),M++[.dict []])from rfl];dsimp only;rw[zf (up _)]),?_⟩
 have insl:∀ us:List Int,(zS us).length<=us.length:=fun us=>zBz us;refine zAZ (I:=fun r σ M'=>∃ (us vs:List Int) (y:Option D),σ=[some (.ref j),some (.ref M.length),y]/\xs=us++vs/\r=vs.map D.int/\M'=M++[.dict (zBL 0 (zS us))]) ?_ ?_ _ _ _ ⟨[],xs,none,rfl,rfl,rfl,rfl⟩
 ·rintro x r σ M' ⟨us,vs,y,rfl,hab,hr,rfl⟩;cases vs with
  |nil=>cases hr
  |cons k vs=>
   rw[zWR]at hr;obtain ⟨rfl,rfl⟩:=zXC hr;refine ⟨.inl (up _),_,rfl,?_⟩;have hul:us.length<1000:=by have:=congrArg List.length hab;simp at this;omega
   have e0:(M++[MO.dict (zBL 0 (zS us))])[M.length]?=some (.dict (zBL 0 (zS us))):=zY _ _;show OkS (sIf _ _ _ [some (.ref j),some (.ref M.length),some (.int k)] _) _;rw[zAx];have eg:zDD (M++[MO.dict (zBL 0 (zS us))]) (.dat (.ref M.length)) (.int k)=some (if k∈zS us then some (.int ((0+(zS us).idxOf k:Nat):Int)) else none):=by
    unfold zDD;dsimp only;rw[e0];show some (zB8 zCM (zBL 0 (zS us)) (Sum.inl k))=_;rw[zI7]
   refine zE (M:=M++[MO.dict (zBL 0 (zS us))]) (a:=!decide (k∈zS us)) (zn (zK (x:=.dat (.int k)) (y:=.dat (.ref M.length)) rfl rfl (by unfold zA8;dsimp only;rw[eg];by_cases h:k∈zS us <;> simp[h]))) ?_;by_cases h:k∈zS us
   ·rw[zXG h,zWQ (by simp),zAf];refine ⟨us++[k],vs,_,rfl,by rw[hab];simp,rfl,?_⟩;rw[zD4];unfold ins;rw[zWN h]
   ·rw[zWh h,zWN (by simp)];have hil:=insl us;refine ⟨.nx,[some (.ref j),some (.ref M.length),some (.int k)],M++[.dict (zBL 0 (zS us++[k]))],?_,us++[k],vs,_,rfl,by rw[hab];simp,rfl,by rw[zD4];unfold ins;rw[zWQ h]⟩;unfold zCJ;rw[zLX (show fB zIM (zU (zC 1) zo) [some (.ref j),some (.ref M.length),some (.int k)] (M++[MO.dict (zBL 0 (zS us))])=some (.dat (.int ((zS us).length:Int)),M++[MO.dict (zBL 0 (zS us))]) by
     unfold fB zU zo;rw[show zC 1 [some (.ref j),some (.ref M.length),some (.int k)] (M++[MO.dict (zBL 0 (zS us))])=some (.dat (.ref M.length),M++[MO.dict (zBL 0 (zS us))])from rfl];unfold zIM;dsimp only;rw[e0];dsimp only;rw[zGp])]
    dsimp only;rw[show toD (zC 1) [some (.ref j),some (.ref M.length),some (.int k)] (M++[MO.dict (zBL 0 (zS us))])=some (.ref M.length,M++[MO.dict (zBL 0 (zS us))])from rfl];dsimp only;rw[show toD (zC 2) [some (.ref j),some (.ref M.length),some (.int k)] (M++[MO.dict (zBL 0 (zS us))])=some (.int k,M++[MO.dict (zBL 0 (zS us))])from rfl];dsimp only;unfold zED;rw[e0];rw[show zCM (.int k)=some (Sum.inl k)from rfl];dsimp only;rw[zWN (by rw[zGp];exact zWX (m:=95000) (by omega) (zV (by omega))),zUU _ _ h];simp
 ·rintro σ M' ⟨us,vs,y,rfl,hab,hr,rfl⟩;have:vs=[]:=by cases vs with|nil=>rfl|cons _ _=>cases hr
  subst this;rw[zWs]at hab;subst hab;refine ⟨.inl (up _),?_⟩;rw[zM];have e0:(M++[MO.dict (zBL 0 (zS xs))])[M.length]?=some (.dict (zBL 0 (zS xs))):=zY _ _;have ec:=zBN (own:=[2]) (g:=gN 2) (te:=fOp zAA (zC 1) (zC 2)) (fi:=zr (zC 0)) (σ:=[some (.ref j),some (.ref M.length),y]) (M:=M++[MO.dict (zBL 0 (zS xs))]) xs D.int (fun k=>D.int (((zS xs).idxOf k:Nat):Int)) (gd:=zDA (.dat (.ref j)) (xs.map D.int)) (by
   unfold zr;rw[show zC 0 [some (.ref j),some (.ref M.length),y] (M++[MO.dict (zBL 0 (zS xs))])=some (.dat (.ref j),M++[MO.dict (zBL 0 (zS xs))])from rfl];dsimp only;rw[zf (up _)]) (.inl (up _)) (by omega) fun k hk=>⟨_,rfl,zK (x:=.dat (.ref M.length)) (y:=.dat (.int k)) rfl rfl (by
    unfold zAA;unfold zDD;dsimp only;rw[e0];show (match some (zB8 zCM (zBL 0 (zS xs)) (Sum.inl k)) with|some (some d)=>_|_=>_)=_;rw[zI7,zWN ((zDb xs k).mpr hk),Nat.zero_add])⟩
  refine zAR (d:=tI (zCn xs)) ?_ ⟨rfl,by simp,fun i hi=>zWF hi⟩;unfold fB zU zo;rw[ec];unfold zCn tI;rw[zWW];rfl
noncomputable def zDc:FS:=(zX (zq 2 (zN zAE (zD (toD (zC 0)) zH)))
  (zAV (zN zCA (zD (toD (zw [4] (zr (zC 2)) (gN 4) zAD (fB (zE9 false) (zU (zw [3] (zr (zC 2)) (gN 3) (zHu (tst (fOp kEq (zC 3) (zC 4))) (zDg (tst (fOp kLt (zC 3) (zC 4))) (tst (fOp (zA8 true) (zAr (zD (toD (zC 3)) (zD (toD (zC 4)) zH))) (zC 1))))) (zC 3)) zo)))) zH))))
noncomputable def zBi:FF:=zA7 5 zDc
theorem zIc (h1:b∈okL bad r) (h2:∀ y∈okL bad r,b<=y):zGb bad r=(b:Int):=by
 have pw:(okL bad r).Pairwise (· < ·):=List.Pairwise.filter _ List.pairwise_lt_range;unfold zGb;cases e:okL bad r with
 |nil=>rw[e]at h1;cases h1
 |cons a t=>
  rw[e]at h1 h2 pw;have ha:=h2 a zWM;rcases zWK.mp h1 with z|z
  ·rw[z];rfl
  ·have:=(zYI.mp pw).1 b z;omega
open Classical in
theorem zGO {bad:List Int->Prop} {r o:Nat}:o∈okL bad r ↔ o<=r/\(o=r \/ ¬ bad [(o:Int),(r:Int)]):=by
 unfold okL;rw[zXJ,zWm,zXL];exact ⟨fun ⟨a,b⟩=>⟨by omega,b⟩,fun ⟨a,b⟩=>⟨by omega,b⟩⟩
theorem zEX (hR:zA.length<=26) (hf:M[jf]?=some (dT fd)) :
  Ok (zBi [mD zA,.ref jf] M) fun d M'=>d=tI (zCn (zBt (fun p=>(zG fd p).isSome=true) zA.length))/\M.length<=M'.length /\ ∀ i,i<M.length->M'[i]?=M[i]?:=by
 unfold zBi;rw[zv];unfold zDc;refine zCE (zj (zW (d:=mD zA) rfl) (zC8 (by omega))) ?_;have eI:∀ (y3 y4:Option D),zr (zC 2) [some (mD zA),some (.ref jf),some (tI ((List.range zA.length).map fun (k:Nat)=>(k:Int))),y3,y4] M=some ((List.range zA.length).map (fun (k:Nat)=>D.int (k:Int)),none,M):=fun y3 y4=>by
  unfold zr;rw[show zC 2 [some (mD zA),some (.ref jf),some (tI ((List.range zA.length).map fun (k:Nat)=>(k:Int))),y3,y4] M=some (.dat (tI ((List.range zA.length).map fun (k:Nat)=>(k:Int))),M)from rfl];dsimp only;rw[show zAF M (.dat (tI ((List.range zA.length).map fun (k:Nat)=>(k:Int))))=some (((List.range zA.length).map fun (k:Nat)=>(k:Int)).map D.int)from rfl,zWW];rfl
 have inner:∀ (r:Nat),r<zA.length->fB (zE9 false) (zU (zw [3] (zr (zC 2)) (gN 3) (zHu (tst (fOp kEq (zC 3) (zC 4))) (zDg (tst (fOp kLt (zC 3) (zC 4))) (tst (fOp (zA8 true) (zAr (zD (toD (zC 3)) (zD (toD (zC 4)) zH))) (zC 1))))) (zC 3)) zo) [some (mD zA),some (.ref jf),some (tI ((List.range zA.length).map fun (k:Nat)=>(k:Int))),none,some (.int (r:Int))] M=some (.dat (.int (zGb (fun p=>(zG fd p).isSome=true) r)),M):=fun r hr=>by
  have ef:=zAv (own:=[3]) (g:=gN 3) (tc:=zHu (tst (fOp kEq (zC 3) (zC 4))) (zDg (tst (fOp kLt (zC 3) (zC 4))) (tst (fOp (zA8 true) (zAr (zD (toD (zC 3)) (zD (toD (zC 4)) zH))) (zC 1))))) (te:=zC 3) (List.range zA.length) (fun (k:Nat)=>D.int (k:Int)) (fun (k:Nat)=>D.int (k:Int)) (fun (o:Nat)=>decide (o=r)||(decide (o<r) && !(zG fd [(o:Int),(r:Int)]).isSome)) (eI none (some (.int (r:Int)))) trivial (by rw[zX5];omega) (fun o ho=>by
   refine ⟨[some (mD zA),some (.ref jf),some (tI ((List.range zA.length).map fun (k:Nat)=>(k:Int))),some (.int (o:Int)),some (.int (r:Int))],rfl,?_,fun _=>rfl⟩;have e1:tst (fOp kEq (zC 3) (zC 4)) [some (mD zA),some (.ref jf),some (tI ((List.range zA.length).map fun (k:Nat)=>(k:Int))),some (.int (o:Int)),some (.int (r:Int))] M=some (decide (o=r),M):=by
    refine zn (zK (x:=.dat (.int (o:Int))) (y:=.dat (.int (r:Int))) rfl rfl (zT (zKa.mpr ⟨?_,rfl⟩)));by_cases h:o=r
    ·subst h;simp
    ·simp[h];omega
   have e2:tst (fOp kLt (zC 3) (zC 4)) [some (mD zA),some (.ref jf),some (tI ((List.range zA.length).map fun (k:Nat)=>(k:Int))),some (.int (o:Int)),some (.int (r:Int))] M=some (decide ((o:Int)<(r:Int)),M):=zn (zK (x:=.dat (.int (o:Int))) (y:=.dat (.int (r:Int))) rfl rfl rfl);have e3:=zn (zK (k:=zA8 true) (f:=zAr (zD (toD (zC 3)) (zD (toD (zC 4)) zH))) (g:=zC 1) (σ:=[some (mD zA),some (.ref jf),some (tI ((List.range zA.length).map fun (k:Nat)=>(k:Int))),some (.int (o:Int)),some (.int (r:Int))]) (M:=M) (x:=.dat (tI [(o:Int),(r:Int)])) (y:=.dat (.ref jf)) (zHG (zd (d:=.int (o:Int)) rfl (zW (d:=.int (r:Int)) rfl)) (by simp)) rfl (zLZ hf));rw[zWN rfl]at e3;by_cases h:o=r
   ·rw[zXG h]at e1 ⊢;exact zSx e1
   ·rw[zWh h]at e1 ⊢;rw[zTx e1 (k:=decide (o<r) && !(zG fd [(o:Int),(r:Int)]).isSome) ?_]
    ·rfl
    by_cases h2:o<r
    ·rw[zXG (by omega)]at e2;rw[zNC e2 e3,zXG h2];rfl
    ·rw[zWh (by omega)]at e2;rw[zMr e2,zWh h2];rfl)
  generalize hF:((List.range zA.length).filter fun (o:Nat)=>decide (o=r)||(decide (o<r) && !(zG fd [(o:Int),(r:Int)]).isSome))=F at ef;have hm:∀ o,o∈F ↔ o∈okL (fun p=>(zG fd p).isSome=true) r:=fun o=>by
   rw[zGO,<-hF,zXJ,zWm];simp only[Bool.or_eq_true,zWi,zXL,Bool.not_eq_true'];constructor
   ·rintro ⟨h1,h2|⟨h2,h3⟩⟩
    ·exact ⟨by omega,.inl h2⟩
    ·exact ⟨by omega,.inr (by rw[h3];simp)⟩
   ·rintro ⟨h1,h2|h2⟩
    ·exact ⟨by omega,.inl h2⟩
    ·rcases Nat.eq_or_lt_of_le h1 with z|z
     ·exact ⟨by omega,.inl z⟩
     ·exact ⟨by omega,.inr ⟨z,by simpa using h2⟩⟩
  have hne:F≠[]:=fun z=>by
   have:r∈F:=(hm r).mpr (zGO.mpr ⟨zWE _,.inl rfl⟩);rw[z]at this;cases this
  obtain ⟨b,eb,b1,b2⟩:=zNF (xs:=F.map fun (k:Nat)=>(k:Int)) (by rw[zWW];exact ef) (by simpa using hne);obtain ⟨b',hb',rfl⟩:=zWP.mp b1;rw[eb,zIc ((hm b').mp hb') fun y hy=>?_];have:=b2 (y:Int) (zWP.mpr ⟨y,(hm y).mpr hy,rfl⟩);omega
 have ec:=zBN (own:=[4]) (g:=gN 4) (te:=fB (zE9 false) (zU (zw [3] (zr (zC 2)) (gN 3) (zHu (tst (fOp kEq (zC 3) (zC 4))) (zDg (tst (fOp kLt (zC 3) (zC 4))) (tst (fOp (zA8 true) (zAr (zD (toD (zC 3)) (zD (toD (zC 4)) zH))) (zC 1))))) (zC 3)) zo)) (σ:=[some (mD zA),some (.ref jf),some (tI ((List.range zA.length).map fun (k:Nat)=>(k:Int))),none,none]) (M:=M) (List.range zA.length) (fun (k:Nat)=>D.int (k:Int)) (fun (k:Nat)=>D.int (zGb (fun p=>(zG fd p).isSome=true) k)) (eI none none) trivial (by rw[zX5];omega) fun r hr=>⟨_,rfl,inner r (zWm.mp hr)⟩;rw[zAh];refine zAJ.mpr (zm.mpr (zAU.mpr (zE ec (zb (zAa.mpr ?_)))));have eC:(List.range zA.length).map (fun (k:Nat)=>D.int (zGb (fun p=>(zG fd p).isSome=true) k))=(zBt (fun p=>(zG fd p).isSome=true) zA.length).map D.int:=by unfold zBt;rw[zWW];rfl
 rw[eC];refine Ok.mono (zJk (zY _ _) (by unfold zBt;rw[zWH,zX5];omega)) ?_;rintro d M' ⟨rfl,h1,h2⟩;rw[zWO,List.length_singleton]at h1 h2;rw[zI];exact ⟨rfl,by omega,fun i hi=>by rw[h2 i (by omega),zWF hi]⟩
theorem zIy (hr:M[jr]?=some (dT (zBd zA l G))) (h:p∉zBl zA l G) :
  Ok (zBK [mD zA,.ref jr,tI p] M) fun d M'=>d=tI [] /\ ∃ us,M'=M++us:=by
 have hrl:=(zWB.mp hr).1;unfold zBK;rw[zv];unfold zEU;rw[zJ,zQ];refine zE (M:=M) (a:=.fl []) (zP5 rfl (by simp)) (zb ?_);rw[zM];refine zCE (d:=tI p) rfl ?_;rw[zJ];have hM:(M++[MO.lst []])[jr]?=some (dT (zBd zA l G)):=by rw[zWF hrl];exact hr
 have hL:(M++[MO.lst []])[M.length]?=some (.lst (([]:List Int).map D.int)):=by simp
 have hlk:zG (zBd zA l G) p=none:=by rw[zC6,zWQ h]
 have et:tst (fOp (zA8 false) (zC 4) (zC 1)) [some (mD zA),some (.ref jr),some (tI p),some (.ref M.length),some (tI p),none] (M++[MO.lst []])=some (false,M++[MO.lst []]):=by
  have:=zK (k:=zA8 false) (f:=zC 4) (g:=zC 1) (σ:=[some (mD zA),some (.ref jr),some (tI p),some (.ref M.length),some (tI p),none]) (x:=.dat (tI p)) (y:=.dat (.ref jr)) rfl rfl (zLZ hM);rw[zWQ (by decide),hlk]at this;exact zn this
 refine zC9 (I:=fun z σ M'=>z=0/\σ=[some (mD zA),some (.ref jr),some (tI p),some (.ref M.length),some (tI p),none]/\M'=M++[.lst []]) ?_ 1000 0 _ _ (by omega) ⟨rfl,rfl,rfl⟩;rintro z σ M' ⟨rfl,rfl,rfl⟩;refine zE et ?_;exact zAR (d:=tI []) (zCC (f:=zC 3) rfl (zf hL)) ⟨rfl,_,rfl⟩
theorem zLM (m:IsM zA l) (o:zCG zA G) (hR:zA.length<=26) (hr:M[jr]?=some (dT (zBd zA l G))) (hp:p∈zO (zF zA)) :
  Ok (zBK [mD zA,.ref jr,tI p] M) fun d M'=>(∃ w:List Int,d=tI w) /\ ∃ us,M'=M++us:=by
 by_cases h:p∈zBl zA l G
 ·obtain ⟨_,n,hn⟩:=zBH.mp h;obtain ⟨w,c⟩:=zBe (n+1) hn;refine Ok.mono (zEe m o hR hr (zBF p hp) c) ?_;rintro d M' ⟨rfl,us⟩;exact ⟨⟨w,rfl⟩,us⟩
 ·refine Ok.mono (zIy hr h) ?_;rintro d M' ⟨rfl,us⟩;exact ⟨⟨[],rfl⟩,us⟩
noncomputable def zBa:FS:=(zAV (zw [2,3] (zr (zN zAO (zD (toD (zN zAE (zD (toD (zC 0)) zH))) zH))) (zB3 2 3) (tst (fOp kNe (fOp kIx (zC 1) (zC 2)) (fOp kIx (zC 1) (zC 3)))) (zAr (zD (toD (zC 2)) (zD (toD (zC 3)) zH)))))
noncomputable def zAc:FF:=zA7 4 zBa
theorem zHK (h:∀ o r:Nat,o<r->r<n->(bad [(o:Int),(r:Int)] ↔ bad' [(o:Int),(r:Int)])):zBt bad n=zBt bad' n:=by
 unfold zBt;refine List.map_congr_left fun r hr=>?_;have hrn:=zWm.mp hr;have e:okL bad r=okL bad' r:=by
  unfold okL;refine List.filter_congr fun o ho=>?_;have:=zWm.mp ho;rw[decide_eq_decide];by_cases z:o=r
  ·simp[z]
  ·rw[h o r (by omega) hrn]
 unfold zGb;rw[e]
theorem zGL (hR:zA.length<=26) (hP:P.length=zA.length) :
  Ok (zAc [mD zA,tI P] M) fun d M'=>∃ ps:List (List Int),d=.ref (M.length+1)/\M'=M++[.lst ((zO (zF zA)).map tI)]++[.lst (ps.map tI)]/\(∀ p∈ps,p∈zO (zF zA))/\ps.length<=676:=by
 unfold zAc;rw[zv];unfold zBa;have hrl:(zF zA).length=zA.length:=by unfold zF;simp
 have epr:=zEE (xs:=zF zA) (by omega) (M:=M);have ei:zr (zN zAO (zD (toD (zN zAE (zD (toD (zC 0)) zH))) zH)) [some (mD zA),some (tI P),none,none] M=_:=zDW (zW (d:=tI (zF zA)) (zj (zW (d:=mD zA) rfl) (zC8 (by omega)))) epr (zY _ _);have hPl:=zBG hR;have ef:=zAv (own:=[2,3]) (g:=zB3 2 3) (tc:=tst (fOp kNe (fOp kIx (zC 1) (zC 2)) (fOp kIx (zC 1) (zC 3)))) (te:=zAr (zD (toD (zC 2)) (zD (toD (zC 3)) zH))) (zO (zF zA)) tI tI (fun p=> !decide (P.getD (p.getD 0 0).toNat 0=P.getD (p.getD 1 0).toNat 0)) ei (.inl (zY _ _)) (by omega) (fun p hp=>by
  obtain ⟨a,b,rfl,ha,hb,_⟩:=zp.mp hp;obtain ⟨a0,a1⟩:=zA2.mp ha;obtain ⟨b0,b1⟩:=zA2.mp hb;refine ⟨[some (mD zA),some (tI P),some (.int a),some (.int b)],rfl,?_,fun _=>zHG (zd (d:=.int a) rfl (zW (d:=.int b) rfl)) (by simp)⟩;exact zn (zK (x:=.dat (.int (P.getD a.toNat 0))) (y:=.dat (.int (P.getD b.toNat 0))) (zK (x:=.dat (tI P)) (y:=.dat (.int a)) rfl rfl (zA5 zi (zCF a0 (by omega)))) (zK (x:=.dat (tI P)) (y:=.dat (.int b)) rfl rfl (zA5 zi (zCF b0 (by omega)))) (zT (zQx.mpr ⟨by simp,rfl⟩))))
 rw[zAh];refine zE ef (zb ?_);exact ⟨_,by simp,rfl,fun p hp=>(zXJ.mp hp).1,zWZ (zYS _ _) hPl⟩
noncomputable def zBf:FS:=(zX (zq 1 (zN zBI (zD (toD (zC 0)) (zD (toD (fB zGu (zU (zN zEQ (zD (toD (zC 0)) zH)) zo))) zH))))
  (zX (zq 2 (zN zBi (zD (toD (zC 0)) (zD (toD (zC 1)) zH))))
  (zX (zq 3 (zN zBU (zD (toD (zC 0)) (zD (toD (zC 1)) zH))))
  (zAV (zAr (zD (toD (zC 2)) (zD (toD (fB zAo (zU (zw [4] (zr (zN zAc (zD (toD (zC 0)) (zD (toD (zC 2)) zH)))) (gN 4) zAD (zN zBK (zD (toD (zC 0)) (zD (toD (zC 3)) (zD (toD (zC 4)) zH))))) zo))) zH)))))))
noncomputable def zAI:FF:=zFJ (zA7 5 zBf)
noncomputable def zG9:FS:=(zAV (fOp kIx (zN zAI (zD (toD (zC 0)) zH)) (fC (.int 0))))
noncomputable def zEG:FF:=zFJ (zA7 1 zG9)
theorem zCe (h:p∈za zA l):p∈zO (zF zA):=(zXJ.mp h).1
theorem zF4 (m:IsM zA l) (hR:zA.length<=26) (hl:l<=12) :
  ∃ ws:List (List Int),zAI [mD zA] M=some (.tup [tI (zCn (zBt (fun p=>∃ k,Rch zA l (· ∈ za zA l) p k) zA.length)),.tup (ws.map tI)],M):=by
 suffices h:Ok (zAI [mD zA] M) fun d M'=>M'=M /\ ∃ ws:List (List Int),d=.tup [tI (zCn (zBt (fun p=>∃ k,Rch zA l (· ∈ za zA l) p k) zA.length)),.tup (ws.map tI)] by
  obtain ⟨d,M',e,rfl,ws,rfl⟩:=h;exact ⟨ws,e⟩
 unfold zAI;refine zER ?_ ?_
 ·unfold D.unds D.unds;rw[zEF];rfl
 rw[zv];unfold zBf;rw[zJ,zQ];refine zAJ.mpr (zm.mpr (zE (a:=mD zA) (M:=[]) rfl (zm.mpr (zAU.mpr (zNT.mpr (zDE.mpr (zE (zj (zW (d:=mD zA) rfl) (zGe m hR hl)) (zES.mpr ((zPA (zi)).mpr (zb (zAa.mpr ?_)))))))))));have nd:(za zA l).Nodup:=(zDX (zD8 zA)).filter _;have hal:(za zA l).length<=676:=zWZ (zYS _ _) (zBG hR);have oa:zCG zA (· ∈ za zA l):=.inr fun t ht hin=>by
  obtain ⟨a,b,rfl,_⟩:=zp.mp (zCe hin);cases ht
 refine Ok.mono (zC2 m oa hR hl (zY _ _) nd (fun t=>⟨fun h=>⟨zBF t (zCe h),h⟩,fun h=>h.2⟩) (by omega)) ?_;rintro d M1 ⟨jf,rfl,_,⟨fd,h2,_,sp⟩,_,_⟩;rw[zI,zM];rw[zJ,zQ];refine zAJ.mpr (zE (zd (d:=mD zA) rfl (zW (d:=.ref jf) rfl)) (Ok.mono (zEX hR h2) ?_));have hjf:=(zWB.mp h2).1;rintro d M2 ⟨rfl,h3,fr2⟩;have ecl:zBt (fun p=>(zG fd p).isSome=true) zA.length=zBt (fun p=>∃ k,Rch zA l (· ∈ za zA l) p k) zA.length:=zHK fun o r ho hr=>by
  constructor
  ·intro z;cases e:zG fd [(o:Int),(r:Int)] with
   |none=>rw[e]at z;cases z
   |some d=>
    obtain ⟨_,n,hn,_⟩:=(sp _ _).mp e;exact ⟨n,hn.1⟩
  ·rintro ⟨k,hk⟩;obtain ⟨n,_,hn⟩:=zBr k hk;rw[(sp _ _).mpr ⟨zBF _ (zA9.mpr (by omega)),n,hn,rfl⟩];rfl
 rw[ecl];have hNl:(zCn (zBt (fun p=>∃ k,Rch zA l (· ∈ za zA l) p k) zA.length)).length=zA.length:=by rw[zFR];unfold zBt;simp
 generalize zCn (zBt (fun p=>∃ k,Rch zA l (· ∈ za zA l) p k) zA.length)=N at hNl ⊢;rw[zI,zM];rw[zJ,zQ];refine zAJ.mpr (zE (zd (d:=mD zA) rfl (zW (d:=.ref jf) rfl)) (Ok.mono (zDy m hR hl ((fr2 jf hjf).trans h2) sp) ?_));rintro d M3 ⟨jr,us,rfl,rfl,_,h4⟩;rw[zI,zM];generalize M2++us=A at h4 ⊢;rw[zAh];refine zPV.mpr (zm.mpr (zE (a:=tI N) (M:=A) rfl (zm.mpr (zAU.mpr (zNT.mpr (zDE.mpr (zB1.mpr ?_)))))));obtain ⟨d,A1,e1,ps,rfl,eA1,hps,hpl⟩:=zGL hR hNl (M:=A);have hA1:A1[A.length+1]?=some (.lst (ps.map tI)):=by
  have:=zY (A++[MO.lst ((zO (zF zA)).map tI)]) (MO.lst (ps.map tI));rw[zWO,List.length_singleton]at this;rw[eA1];exact this
 have hr1:A1[jr]?=some (dT (zBd zA l (· ∈ za zA l))):=by
  rw[eA1,zXE,zWF (zWB.mp h4).1];exact h4
 refine ⟨_,_,_,zDW (ds:=[mD zA,tI N]) (zd (d:=mD zA) rfl (zW (d:=tI N) rfl)) e1 hA1,by rw[zWH];exact zV (by omega),?_⟩;refine Ok.mono (zBR (I:=fun r acc M'=>(∃ us,M'=A1++us) /\ ∃ (vs:List (List Int)) (ws:List (List Int)),r=vs.map tI/\(∀ p∈vs,p∈zO (zF zA))/\acc=ws.map tI/\ws.length+vs.length=ps.length) (Q:=fun acc M'=>∃ ws:List (List Int),acc=ws.map tI/\ws.length=ps.length) ?_ ?_ _ [] _ ⟨⟨[],by simp⟩,ps,[],rfl,hps,rfl,by simp⟩) ?_
 ·rintro x r acc M' ⟨⟨us,rfl⟩,vs,ws,hr,hv,rfl,hc⟩;cases vs with
  |nil=>cases hr
  |cons p vs=>
   rw[zWR]at hr;obtain ⟨rfl,rfl⟩:=zXC hr;have up:∀ {j:Nat} {u:MO},A1[j]?=some u->(A1++us)[j]?=some u:=fun {j u} h=>by rw[zWF (zWB.mp h).1];exact h
   refine ⟨.inl (up hA1),[some (mD zA),some (.ref jf),some (tI N),some (.ref jr),some (tI p)],rfl,⟨true,_,rfl,?_⟩⟩;dsimp only;rw[zWN rfl];refine zAJ.mpr (zE (zd (d:=mD zA) rfl (zd (d:=.ref jr) rfl (zW (d:=tI p) rfl))) (Ok.mono (zLM m oa hR (up hr1) (hv p zWM)) ?_));rintro d M4 ⟨⟨w,rfl⟩,us2,rfl⟩;rw[zI];exact ⟨⟨us++us2,by simp⟩,vs,ws++[w],rfl,fun q hq=>hv q (zWL _ hq),by simp,by simp at hc ⊢;omega⟩
 ·rintro acc M' ⟨⟨us,rfl⟩,vs,ws,hr,_,rfl,hc⟩;have:vs=[]:=by cases vs with|nil=>rfl|cons _ _=>cases hr
  subst this;exact ⟨.inl (by rw[zWF (zWB.mp hA1).1];exact hA1),ws,rfl,by simpa using hc⟩
 ·rintro ys M5 ⟨ws,e,hwl⟩;rw[zYQ]at e;subst e;refine zES.mpr ((zFX zCZ).mpr ?_);rw[zI,zAa];refine ⟨zV (by simp),?_⟩;rw[zI];refine ⟨?_,rfl,ws,rfl⟩;unfold D.und D.unds D.unds D.unds;rw[show D.und 0 (tI N)=true from zA1 N,show D.und 0 (.tup (ws.map tI))=true from zJW 0 ws];rfl
theorem zOf (m:IsM zA l) (hR:zA.length<=26) (hl:l<=12) :
  zEG [mD zA] M=some (tI (zCn (zBt (fun p=>∃ k,Rch zA l (· ∈ za zA l) p k) zA.length)),M):=by
 refine zT ?_;unfold zEG;refine zER ?_ ?_
 ·unfold D.unds D.unds;rw[zEF];rfl
 rw[zv];unfold zG9;obtain ⟨ws,e⟩:=zF4 m hR hl (M:=[]);generalize zCn (zBt (fun p=>∃ k,Rch zA l (· ∈ za zA l) p k) zA.length)=N at e ⊢;exact zAR (d:=tI N) (zK (x:=.dat (.tup [tI N,.tup (ws.map tI)])) (y:=.dat (.int 0)) (zj (zW (d:=mD zA) rfl) e) rfl (zA5 zi rfl)) ⟨zA1 N,rfl,rfl⟩
end Lad
namespace Lad
open PySem PySem.Spec PyProof.Rows L2 L3 ST Law Lac
def Mt (zA:List (List Int)) (l:Nat) (a b:Int):Prop:=∃ w:List Int,(∀ x∈w,0<=x/\x<(l:Int))/\zAn zA a w=zAn zA b w
def Stb (zA:List (List Int)) (l:Nat) (a b:Int):Prop:=∀ w:List Int,(∀ x∈w,0<=x/\x<(l:Int))->Mt zA l (zAn zA a w) (zAn zA b w)
theorem zCt (zA:List (List Int)) (a:Int) (v w:List Int):zAn zA a (v++w)=zAn zA (zAn zA a v) w:=by unfold zAn;rw[List.foldl_append]
theorem Mt.of (e:a=b):Mt zA l a b:=⟨[],⟨fun _ h=>(by cases h),e⟩⟩
theorem Mt.refl (a:Int):Mt zA l a a:=Mt.of rfl
theorem Mt.symm (h:Mt zA l a b):Mt zA l b a:=let ⟨w,h1,h2⟩:=h;⟨w,h1,h2.symm⟩
theorem Stb.symm (h:Stb zA l a b):Stb zA l b a:=fun w hw=>(h w hw).symm
theorem Stb.refl (a:Int):Stb zA l a a:=fun w hw=>Mt.refl _
theorem Stb.trans (h:Stb zA l a b) (g:Stb zA l b c):Stb zA l a c:=fun w hw=>by
 obtain ⟨v,hv,e⟩:=h w hw;have hwv:∀ x∈w++v,0<=x/\x<(l:Int):=fun x hx=>(zWY.mp hx).elim (hw x) (hv x);obtain ⟨u,hu,e2⟩:=g (w++v) hwv;refine ⟨v++u,fun x hx=>(zWY.mp hx).elim (hv x) (hu x),?_⟩;rw[zCt,zCt]at e2;rw[zCt,zCt,e,e2]
theorem zEd (m:IsM zA l):∀ (w:List Int) {a:Int},0<=a/\a<(zA.length:Int)->(∀ x∈w,0<=x/\x<(l:Int))->0<=zAn zA a w/\zAn zA a w<(zA.length:Int)
 |[],a,h,_=>h
 |x::w,a,h,hw=>by
  have hx:=hw x zWM;exact zEd m w (m.step h.1 h.2 hx.1 hx.2) fun y hy=>hw y (zWL _ hy)
theorem zJd (h:a<b) (w:List Int):zHn zA [a,b] w=ris [zAn zA a w,zAn zA b w]:=zPx (by simpa using h) w
theorem zGR (h:a<b) (w:List Int):One (zHn zA [a,b] w) ↔ zAn zA a w=zAn zA b w:=by
 rw[zJd h];exact zJO
theorem zGt (hp:[a,b]∈zO (zF zA)):[a,b]∈za zA l ↔ ¬ Mt zA l a b:=by
 have hab:=(zA9.mp hp).2.2;unfold za;rw[zXJ];constructor
 ·rintro ⟨_,h⟩ ⟨w,hw,e⟩;have h:=zW4 h;apply h;have r:Rch zA l One [a,b] w.length:=⟨w,rfl,hw,(zGR hab w).mpr e⟩;obtain ⟨k,_,hk⟩:=zBr _ r;refine zBH.mpr ⟨hp,?_⟩;cases k with
  |zero=>exact absurd (zAy.mp hk) (by unfold Lac.One;simp)
  |succ k=>exact ⟨k,hk⟩
 ·intro h;refine ⟨hp,zXG fun z=>h ?_⟩;obtain ⟨_,n,hn⟩:=zBH.mp z;obtain ⟨w,_,hw,g⟩:=hn.1;exact ⟨w,hw,(zGR hab w).mp g⟩
theorem zKc (ne:u≠v):ris [u,v]=zAL u v:=(zNu ne).symm
theorem Mt.pair:(∀ a b,zAL u v=[a,b] -> ¬ Mt zA l a b) ↔ ¬ Mt zA l u v:=by
 unfold zAL;constructor
 ·intro h z;by_cases q:v<u
  ·exact h v u (by rw[zWN q,zWQ (by omega)]) z.symm
  ·by_cases q2:v>u
   ·exact h u v (by rw[zWQ q,zWN q2]) z
   ·exact h u u (by rw[zWQ q,zWQ q2]) (Mt.refl _)
 ·intro h a b e z;injection e with e1 e2
  injection e2 with e2 _
  subst e1;subst e2;by_cases q:v<u
  ·rw[zWN q,zWQ (by omega)]at z;exact h z.symm
  ·rw[zWQ q]at z;by_cases q2:v>u
   ·rw[zWN q2]at z;exact h z
   ·have:u=v:=by omega
    subst this;exact h (Mt.refl _)
def Rk (zA:List (List Int)) (l:Nat) (p:List Int):Prop:=∃ k,Rch zA l (· ∈ za zA l) p k
theorem zL3 (m:IsM zA l) (hp:[a,b]∈zO (zF zA)):Rk zA l [a,b] ↔ ¬ Stb zA l a b:=by
 obtain ⟨ha,hb,hab⟩:=zA9.mp hp;have key:∀ w:List Int,(∀ x∈w,0<=x/\x<(l:Int))->(zHn zA [a,b] w∈za zA l ↔ ¬ Mt zA l (zAn zA a w) (zAn zA b w)):=fun w hw=>by
  rw[zJd hab];have ua:=zEd m w ha hw;have ub:=zEd m w hb hw;by_cases e:zAn zA a w=zAn zA b w
  ·constructor
   ·intro h;obtain ⟨c,d,e2,_⟩:=zp.mp (zCe h);have:=zJO.mpr e;rw[e2]at this;simp at this
   ·intro h;exact absurd (Mt.of e) h
  ·rw[zKc e];have hin:=zLJ (zA:=zA) ua ub e;rw[<-Mt.pair];obtain ⟨c,d,e2,_⟩:=zp.mp hin;rw[e2]at hin ⊢;rw[zGt hin];constructor
   ·rintro h x y e3;injection e3 with e3 e4
    injection e4 with e4 _
    subst e3;subst e4;exact h
   ·exact fun h=>h c d rfl
 constructor
 ·rintro ⟨k,w,_,hw,g⟩ s;exact (key w hw).mp g (s w hw)
 ·intro h;apply Classical.byContradiction;intro z;apply h;intro w hw;apply Classical.byContradiction;intro z2;exact z ⟨w.length,w,rfl,hw,(key w hw).mpr z2⟩
theorem zQC (r:Nat):∃ b:Nat,zGb bad r=(b:Int)/\b∈okL bad r /\ ∀ y∈okL bad r,b<=y:=by
  obtain ⟨b,hb,hm⟩:∃ b,b∈okL bad r /\ ∀ y∈okL bad r,b<=y:=by
    have hr:r∈okL bad r:=zGO.mpr ⟨zWE _,.inl rfl⟩;generalize okL bad r=L at hr;induction L generalizing r with
    |nil=>cases hr
    |cons x xs ih=>
      cases xs with
      |nil=>exact ⟨x,zWM,fun y hy=>Nat.le_of_eq (show y=x by simpa using hy).symm⟩
      |cons z zs=>
        obtain ⟨b,hb,hm⟩:=ih z zWM;by_cases q:x<=b
        · refine ⟨x,zWM,fun y hy=>?_⟩
          rcases zWK.mp hy with e|e
          ·omega
          ·have:=hm y e;omega
        · refine ⟨b,zWL _ hb,fun y hy=>?_⟩
          rcases zWK.mp hy with e|e
          ·omega
          ·exact hm y e
  exact ⟨b,zIc hb hm,hb,hm⟩
theorem zRC {bad:List Int->Prop} {E:Int->Int->Prop} {n:Nat} (er:∀ a,E a a) (es:∀ {a b},E a b->E b a) (et:∀ {a b c},E a b->E b c->E a c) (h:∀ o r:Nat,o<r->r<n->(bad [(o:Int),(r:Int)] ↔ ¬ E o r)) {o r:Nat} (ho:o<r) (hr:r<n):zGb bad o=zGb bad r ↔ E o r:=by
 have mem:∀ {y k:Nat},k<n->(y∈okL bad k ↔ y<=k/\E y k):=fun {y k} hk=>by
  rw[zGO];constructor
  ·rintro ⟨h1,h2|h2⟩
   ·exact ⟨h1,by rw[h2];exact er _⟩
   ·refine ⟨h1,?_⟩;rcases zXU y k with q|q
    ·exact Classical.byContradiction fun z=>h2 ((h y k q hk).mpr z)
    ·have:y=k:=by omega
     rw[this];exact er _
  ·rintro ⟨h1,h2⟩;refine ⟨h1,?_⟩;rcases zXU y k with q|q
   ·exact .inr fun z=>(h y k q hk).mp z h2
   ·exact .inl (by omega)
 obtain ⟨b,e1,b1,b2⟩:=zQC (bad:=bad) o;obtain ⟨c,e2,c1,c2⟩:=zQC (bad:=bad) r;have b3:=(mem (by omega)).mp b1;have c3:=(mem hr).mp c1;rw[e1,e2];constructor
 ·intro e;have e:b=c:=by omega
  subst e;exact et (es b3.2) c3.2
 ·intro e;have h1:c<=b:=c2 b ((mem hr).mpr ⟨by omega,et b3.2 e⟩);have h2:b<=c:=by
   rcases zXU o c with q|q
   ·omega
   ·exact b2 c ((mem (by omega)).mpr ⟨q,et c3.2 (es e)⟩)
  omega
theorem zO5 (hi:i<xs.length) (hj:j<xs.length):(zCn xs).getD i 0=(zCn xs).getD j 0 ↔ xs.getD i 0=xs.getD j 0:=by
 unfold zCn;have g:∀ {k:Nat} (hk:k<xs.length),(xs.map fun x=>((zS xs).idxOf x:Int)).getD k 0=((zS xs).idxOf (xs.getD k 0):Int):=fun {k} hk=>by
  rw[zWD,zWD,zWV,zWC hk];rfl
 have mm:∀ {k:Nat} (hk:k<xs.length),xs.getD k 0∈zS xs:=fun {k} hk=>by
  rw[zDb,zWD,zWC hk];exact zWg hk
 rw[g hi,g hj];constructor
 ·intro e;have e:(zS xs).idxOf (xs.getD i 0)=(zS xs).idxOf (xs.getD j 0):=by omega
  have h1:=List.getElem_idxOf (List.idxOf_lt_length_of_mem (mm hi));have h2:=List.getElem_idxOf (List.idxOf_lt_length_of_mem (mm hj));rw[<-h1,<-h2];simp only[e]
 ·intro e;rw[e]
open Classical in
noncomputable def zAl (zA:List (List Int)) (l:Nat):List (List Int):=(zO (zF zA)).filter fun p=>decide (Rk zA l p)
noncomputable abbrev stN (zA:List (List Int)) (l:Nat):List Int:=zCn (zBt (fun p=>∃ k,Rch zA l (· ∈ za zA l) p k) zA.length)
theorem zMz (h:k<n):(zBt bad n).getD k 0=zGb bad k:=by
 unfold zBt;rw[zWD,zWV,zYC h];rfl
theorem zR9 {zA:List (List Int)} {l:Nat} (m:IsM zA l) {a b:Int} (hp:[a,b]∈zO (zF zA)):(stN zA l).getD a.toNat 0=(stN zA l).getD b.toNat 0 ↔ ¬ Rk zA l [a,b]:=by
 obtain ⟨ha,hb,hab⟩:=zA9.mp hp;have cl:∀ {bad:List Int->Prop},(zBt bad zA.length).length=zA.length:=fun {bad}=>by unfold zBt;simp
 rw[zO5 (by rw[cl];omega) (by rw[cl];omega),zMz (by omega),zMz (by omega)];have:=zRC (bad:=fun p=>∃ k,Rch zA l (fun x=>x∈za zA l) p k) (E:=Stb zA l) (n:=zA.length) Stb.refl (fun h=>h.symm) (fun h g=>h.trans g) (fun o r ho hr=>zL3 m (zA9.mpr (by omega))) (show a.toNat<b.toNat by omega) (show b.toNat<zA.length by omega);rw[this,zL3 m hp,Int.toNat_of_nonneg ha.1,Int.toNat_of_nonneg hb.1];exact ⟨fun h z=>z h,fun h=>Classical.byContradiction h⟩
theorem zFz (m:IsM zA l):(zO (zF zA)).filter (fun p=> !decide ((stN zA l).getD (p.getD 0 0).toNat 0=(stN zA l).getD (p.getD 1 0).toNat 0))=zAl zA l:=by
 have sti:∀ p∈zO (zF zA),(!decide ((stN zA l).getD (p.getD 0 0).toNat 0=(stN zA l).getD (p.getD 1 0).toNat 0)) = @decide (Rk zA l p) (Classical.propDecidable _):=fun p hp=>by
  obtain ⟨a,b,rfl,_⟩:=zp.mp hp;have:=zR9 m hp;by_cases h:Rk zA l [a,b]
  ·rw[@zXG _ (Classical.propDecidable _) h];simp only[List.getD_cons_zero,List.getD_cons_succ];rw[zWh fun z=>this.mp z h];rfl
  ·rw[@zWh _ (Classical.propDecidable _) h];simp only[List.getD_cons_zero,List.getD_cons_succ];rw[zXG (this.mpr h)];rfl
 exact List.filter_congr sti
theorem zOZ (m:IsM zA l) (hR:zA.length<=26) :
  zAc [mD zA,tI (stN zA l)] M=some (.ref (M.length+1),M++[.lst ((zO (zF zA)).map tI)]++[.lst ((zAl zA l).map tI)]):=by
 refine zT ?_;unfold zAc;rw[zv];unfold zBa;have hP:(stN zA l).length=zA.length:=by rw[zFR];unfold zBt;simp
 have fl:=zFz m;generalize stN zA l=P at hP fl;have hrl:(zF zA).length=zA.length:=by unfold zF;simp
 have epr:=zEE (xs:=zF zA) (by omega) (M:=M);have ei:zr (zN zAO (zD (toD (zN zAE (zD (toD (zC 0)) zH))) zH)) [some (mD zA),some (tI P),none,none] M=_:=zDW (zW (d:=tI (zF zA)) (zj (zW (d:=mD zA) rfl) (zC8 (by omega)))) epr (zY _ _);have hPl:=zBG hR;have ef:=zAv (own:=[2,3]) (g:=zB3 2 3) (tc:=tst (fOp kNe (fOp kIx (zC 1) (zC 2)) (fOp kIx (zC 1) (zC 3)))) (te:=zAr (zD (toD (zC 2)) (zD (toD (zC 3)) zH))) (zO (zF zA)) tI tI (fun p=> !decide (P.getD (p.getD 0 0).toNat 0=P.getD (p.getD 1 0).toNat 0)) ei (.inl (zY _ _)) (by omega) (fun p hp=>by
  obtain ⟨a,b,rfl,ha,hb,_⟩:=zp.mp hp;obtain ⟨a0,a1⟩:=zA2.mp ha;obtain ⟨b0,b1⟩:=zA2.mp hb;refine ⟨[some (mD zA),some (tI P),some (.int a),some (.int b)],rfl,?_,fun _=>zHG (zd (d:=.int a) rfl (zW (d:=.int b) rfl)) (by simp)⟩;exact zn (zK (x:=.dat (.int (P.getD a.toNat 0))) (y:=.dat (.int (P.getD b.toNat 0))) (zK (x:=.dat (tI P)) (y:=.dat (.int a)) rfl rfl (zA5 zi (zCF a0 (by omega)))) (zK (x:=.dat (tI P)) (y:=.dat (.int b)) rfl rfl (zA5 zi (zCF b0 (by omega)))) (zT (zQx.mpr ⟨by simp,rfl⟩))))
 rw[fl]at ef;rw[zAh];exact zE ef (zb ⟨by simp,rfl⟩)
noncomputable def upW (zA:List (List Int)) (l:Nat) (p:List Int):List Int:=open Classical in if h:∃ w,Climb zA l (· ∈ za zA l) p w then Classical.choose h else []
theorem zQb (h:Rk zA l p):Climb zA l (· ∈ za zA l) p (upW zA l p):=by
 obtain ⟨k,hk⟩:=h;obtain ⟨n,_,hn⟩:=zBr k hk;have h:=zBe n hn;unfold upW;rw[dif_pos h];exact Classical.choose_spec h
theorem zHH:p∈zAl zA l ↔ p∈zO (zF zA)/\Rk zA l p:=by
 unfold zAl;rw[zXJ];simp
theorem zIP:zCG zA (· ∈ za zA l):=.inr fun t ht hin=>by
 obtain ⟨a,b,rfl,_⟩:=zp.mp (zCe hin);cases ht
theorem zQS (m:IsM zA l) (hR:zA.length<=26) (hl:l<=12) :
  zAI [mD zA] M=some (.tup [tI (stN zA l),.tup ((zAl zA l).map fun p=>tI (upW zA l p))],M):=by
 refine zT ?_;unfold zAI;refine zER ?_ ?_
 ·unfold D.unds D.unds;rw[zEF];rfl
 rw[zv];unfold zBf;rw[zJ,zQ];refine zAJ.mpr (zm.mpr (zE (a:=mD zA) (M:=[]) rfl (zm.mpr (zAU.mpr (zNT.mpr (zDE.mpr (zE (zj (zW (d:=mD zA) rfl) (zGe m hR hl)) (zES.mpr ((zPA (zi)).mpr (zb (zAa.mpr ?_)))))))))));have nd:(za zA l).Nodup:=(zDX (zD8 zA)).filter _;have hal:(za zA l).length<=676:=zWZ (zYS _ _) (zBG hR);have oa:zCG zA (· ∈ za zA l):=zIP;refine Ok.mono (zC2 m oa hR hl (zY _ _) nd (fun t=>⟨fun h=>⟨zBF t (zCe h),h⟩,fun h=>h.2⟩) (by omega)) ?_;rintro d M1 ⟨jf,rfl,_,⟨fd,h2,_,sp⟩,_,_⟩;rw[zI,zM];rw[zJ,zQ];refine zAJ.mpr (zE (zd (d:=mD zA) rfl (zW (d:=.ref jf) rfl)) (Ok.mono (zEX hR h2) ?_));have hjf:=(zWB.mp h2).1;rintro d M2 ⟨rfl,h3,fr2⟩;have ecl:zBt (fun p=>(zG fd p).isSome=true) zA.length=zBt (fun p=>∃ k,Rch zA l (· ∈ za zA l) p k) zA.length:=zHK fun o r ho hr=>by
  constructor
  ·intro z;cases e:zG fd [(o:Int),(r:Int)] with
   |none=>rw[e]at z;cases z
   |some d=>
    obtain ⟨_,n,hn,_⟩:=(sp _ _).mp e;exact ⟨n,hn.1⟩
  ·rintro ⟨k,hk⟩;obtain ⟨n,_,hn⟩:=zBr k hk;rw[(sp _ _).mpr ⟨zBF _ (zA9.mpr (by omega)),n,hn,rfl⟩];rfl
 rw[ecl,show zCn (zBt (fun p=>∃ k,Rch zA l (· ∈ za zA l) p k) zA.length)=stN zA l from rfl,zI,zM];have eac:=fun A=>zOZ m hR (M:=A);have hfew:(zAl zA l).length<=676:=zWZ (zYS _ _) (zBG hR);generalize stN zA l=N at eac ⊢;rw[zJ,zQ];refine zAJ.mpr (zE (zd (d:=mD zA) rfl (zW (d:=.ref jf) rfl)) (Ok.mono (zDy m hR hl ((fr2 jf hjf).trans h2) sp) ?_));rintro d M3 ⟨jr,us,rfl,rfl,_,h4⟩;rw[zI,zM];generalize M2++us=A at h4 ⊢;rw[zAh];refine zPV.mpr (zm.mpr (zE (a:=tI N) (M:=A) rfl (zm.mpr (zAU.mpr (zNT.mpr (zDE.mpr (zB1.mpr ?_)))))));have e1:=eac A;have hA1:(A++[MO.lst ((zO (zF zA)).map tI)]++[MO.lst ((zAl zA l).map tI)])[A.length+1]?=some (.lst ((zAl zA l).map tI)):=by
  have:=zY (A++[MO.lst ((zO (zF zA)).map tI)]) (MO.lst ((zAl zA l).map tI));rw[zWO,List.length_singleton]at this;exact this
 have hr1:(A++[MO.lst ((zO (zF zA)).map tI)]++[MO.lst ((zAl zA l).map tI)])[jr]?=some (dT (zBd zA l (· ∈ za zA l))):=by
  rw[zXE,zWF (zWB.mp h4).1];exact h4
 generalize A++[MO.lst ((zO (zF zA)).map tI)]++[MO.lst ((zAl zA l).map tI)]=A1 at e1 hA1 hr1;refine ⟨_,_,_,zDW (ds:=[mD zA,tI N]) (zd (d:=mD zA) rfl (zW (d:=tI N) rfl)) e1 hA1,by rw[zWH];exact zV (by omega),?_⟩;refine Ok.mono (zBR (I:=fun r acc M'=>(∃ us,M'=A1++us) /\ ∃ vs ds:List (List Int),r=vs.map tI/\ds++vs=zAl zA l/\acc=ds.map fun p=>tI (upW zA l p)) (Q:=fun acc M'=>acc=(zAl zA l).map fun p=>tI (upW zA l p)) ?_ ?_ _ [] _ ⟨⟨[],by simp⟩,zAl zA l,[],rfl,rfl,rfl⟩) ?_
 ·rintro x r acc M' ⟨⟨us,rfl⟩,vs,ds,hr,hv,rfl⟩;cases vs with
  |nil=>cases hr
  |cons p vs=>
   rw[zWR]at hr;obtain ⟨rfl,rfl⟩:=zXC hr;have up:∀ {j:Nat} {u:MO},A1[j]?=some u->(A1++us)[j]?=some u:=fun {j u} h=>by rw[zWF (zWB.mp h).1];exact h
   refine ⟨.inl (up hA1),[some (mD zA),some (.ref jf),some (tI N),some (.ref jr),some (tI p)],rfl,⟨true,_,rfl,?_⟩⟩;dsimp only;rw[zWN rfl];obtain ⟨hp1,hp2⟩:=zHH.mp (show p∈zAl zA l by rw[<-hv];simp);refine zAJ.mpr (zE (zd (d:=mD zA) rfl (zd (d:=.ref jr) rfl (zW (d:=tI p) rfl))) (Ok.mono (zEe m oa hR (up hr1) (zBF p hp1) (zQb hp2)) ?_));rintro d M4 ⟨rfl,us2,rfl⟩;rw[zI];exact ⟨⟨us++us2,by simp⟩,vs,ds++[p],rfl,by rw[<-hv];simp,by simp⟩
 ·rintro acc M' ⟨⟨us,rfl⟩,vs,ds,hr,hv,rfl⟩;have:vs=[]:=by cases vs with|nil=>rfl|cons _ _=>cases hr
  subst this;rw[zWs]at hv;exact ⟨.inl (by rw[zWF (zWB.mp hA1).1];exact hA1),by rw[hv]⟩
 ·rintro ys M5 e;rw[zYQ]at e;subst e;refine zES.mpr ((zFX zCZ).mpr ?_);rw[zI,zAa];refine ⟨zV (by simp),?_⟩;rw[zI];refine ⟨?_,rfl,rfl⟩;have:=zJW 0 ((zAl zA l).map (upW zA l));rw[zWW]at this;unfold D.und D.unds D.unds D.unds;rw[show D.und 0 (tI N)=true from zA1 N,show D.und 0 (.tup ((zAl zA l).map fun p=>tI (upW zA l p)))=true from this];rfl
noncomputable def zFl:FS:=(zX (zBs (zr (zC 2)) (gN 3) (zq 1 (fOp kIx (fOp kIx (zC 0) (zC 1)) (zC 3))))
  (zAV (zC 1)))
noncomputable def zCS:FF:=zA7 4 zFl
noncomputable def zEa:FS:=(zAV (fB zAo (zU (zw [3] (zAM (zD (toD (zN zZ (zD (toD (zC 0)) (zD (toD (fOp zAS (zC 2) (fC (.int 1)))) zH)))) zH)) (gN 3) zAD (zN zZ (zD (toD (zC 0)) (zD (toD (fB zBD (zU (fOp kIx (zC 1) (fC (.int 0))) zo))) zH)))) zo)))
noncomputable def zBo:FF:=zA7 4 zEa
noncomputable def zCc:FS:=(zAV (zN zCk (zD (toD (zN zCS (zD (toD (zC 0)) (zD (toD (fOp kIx (zC 1) (fC (.int 0)))) (zD (toD (zC 2)) zH))))) (zD (toD (zN zCS (zD (toD (zC 0)) (zD (toD (fOp kIx (zC 1) (fC (.int 1)))) (zD (toD (zC 2)) zH))))) zH))))
noncomputable def zAH:FF:=zA7 3 zCc
noncomputable def zDx:FS:=(zX (sIf (tst (fOp kEq (fOp kIx (zC 1) (fC (.int 0))) (fOp kIx (zC 1) (fC (.int 1))))) (zAV (fC (.bl true))) zBC)
  (zX (zq 2 (zN zCo (zD (toD (zC 0)) (zD (toD (fOp kIx (zC 1) (fC (.int 1)))) (zD (toD (fOp kIx (zC 1) (fC (.int 0)))) zH)))))
  (zX (sIf (tst (fOp (kIs false) (zC 2) (fC .non))) (zAV (fC (.bl false))) zBC)
  (zX (zLa (zB3 3 4) (zN zAH (zD (toD (zC 0)) (zD (toD (zC 1)) (zD (toD (zC 2)) zH)))))
  (zAV (fOp kEq (zC 3) (zC 4)))))))
noncomputable def zBX:FF:=zA7 5 zDx
noncomputable def zQt:FS:=(zX (zq 1 (zN zB6 (zD (toD (zC 0)) zH)))
  (zX (zBs (zAM (zD (toD (fB zFE (zU (fC (.int 3)) (zU (fOp zAS (fC (.int 1)) (fB zBD (zU (zC 0) zo))) zo)))) zH)) (gN 2) (zX (zq 3 (fOp kIx (zN zBg (zD (toD (zC 1)) (zD (toD (fC (.int 12))) (zD (toD (fC (.int 6))) zH)))) (fC (.int 0))))
  (zX (zq 4 (zAw (zD (toD (zN zBo (zD (toD (zC 1)) (zD (toD (zC 3)) (zD (toD (fC (.int 12))) zH))))) (zD (toD (zN zBo (zD (toD (zC 1)) (zD (toD (zC 3)) (zD (toD (fC (.int 12))) zH))))) zH))))
  (zX (zLa (zB3 5 6) (zN zAI (zD (toD (zC 3)) zH)))
  (zX (zq 7 (zN zEQ (zD (toD (zC 3)) zH)))
  (zX (sIf (tst (fOp (kTr true 0) (zN zEG (zD (toD (zC 3)) zH)) (zC 5))) (zAV (fC (.bl false))) zBC)
  (zX (zq 8 (zN zB4 (zD (toD (fB zBD (zU (zC 3) zo))) zH)))
  (zX (zq 9 (zw [10] (zr (zC 8)) (gN 10) (tst (fOp kNe (fOp kIx (zC 5) (fOp kIx (zC 10) (fC (.int 0)))) (fOp kIx (zC 5) (fOp kIx (zC 10) (fC (.int 1)))))) (zC 10)))
  (zX (sIf (tst (fOp kNe (fB zBD (zU (zC 6) zo)) (fB zBD (zU (zC 9) zo)))) (zAV (fC (.bl false))) zBC)
  (zX (zBs (zr (zw [10] (zr (zC 8)) (gN 10) (tst (fOp (zJa true) (zC 10) (zC 9))) (zC 10))) (gN 10) (zBs (zr (zC 4)) (gN 11) (sIf (zF1 (tst (zN zBX (zD (toD (zC 3)) (zD (toD (zN zAH (zD (toD (zC 3)) (zD (toD (zC 10)) (zD (toD (zC 11)) zH))))) zH))))) (zAV (fC (.bl false))) zBC)))
  (zBs (zLS (zD (toD (zC 9)) (zD (toD (zC 6)) zH))) (zB3 10 12) (zBs (zr (fOp zDj (zAw (zD (toD (zAr zH)) zH)) (zC 4))) (gN 11) (sIf (tst (fOp (zJa true) (zN zAH (zD (toD (zC 3)) (zD (toD (zC 10)) (zD (toD (fOp zAS (zC 12) (zC 11))) zH)))) (zC 7))) (zAV (fC (.bl false))) zBC)))))))))))))
  (zAV (fC (.bl true)))))
noncomputable def zF2:FF:=zA7 13 zQt
theorem zMl {zA:List (List Int)} {l:Nat} (m:IsM zA l) {room:Int} {word:List Int} {M:Mem} (h0:0<=room) (h1:room<zA.length) (hw:∀ g∈word,0<=g/\g<(l:Int)):zCS [mD zA,.int room,tI word] M=some (.int (zAn zA room word),M):=by
 refine zT ?_;unfold zCS;rw[zv];unfold zFl;rw[zJ,zAi];refine ⟨_,_,_,zBb rfl zi,?_⟩;refine zAZ (I:=fun r σ M'=>M'=M /\ ∃ (h:Int) (y:Option D) (c:List Int),σ=[some (mD zA),some (.int h),some (tI word),y]/\r=c.map D.int/\(∀ g∈c,0<=g/\g<(l:Int))/\0<=h/\h<zA.length/\zAn zA h c=zAn zA room word) ?_ ?_ _ _ _ ⟨rfl,room,none,word,rfl,rfl,hw,h0,h1,rfl⟩
 ·rintro x r σ M' ⟨rfl,h,y,c,rfl,hc,hg,h0,h1,e⟩;obtain ⟨z,c',rfl,rfl,rfl⟩:=zAq hc;refine ⟨zAC,_,rfl,?_⟩;rw[zQ];obtain ⟨g0,g1⟩:=hg z zWM;refine zE (m.ix h0 h1 g0 g1 rfl rfl rfl) ?_;rw[zI];obtain ⟨s0,s1⟩:=m.step h0 h1 g0 g1;exact ⟨rfl,_,_,c',rfl,rfl,fun g hg'=>hg g (zWL _ hg'),s0,s1,e⟩
 ·rintro σ M' ⟨rfl,h,y,c,rfl,hc,hg,h0,h1,e⟩;refine ⟨zAC,?_⟩;rw[zM];have:c=[]:=by cases c with|nil=>rfl|cons _ _=>cases hc
  subst this;exact zAR (d:=.int h) rfl ⟨by rw[<-e];rfl,rfl⟩
theorem zJC {zA:List (List Int)} {l:Nat} (m:IsM zA l) {a b:Int} (ha:0<=a/\a<(zA.length:Int)) (hb:0<=b/\b<(zA.length:Int)) {w:List Int} (hw:∀ g∈w,0<=g/\g<(l:Int)) {M:Mem}:zAH [mD zA,tI [a,b],tI w] M=some (tI (zAL (zAn zA a w) (zAn zA b w)),M):=by
 refine zT ?_;unfold zAH;rw[zv];unfold zCc;refine zAR (zj (zd (zj (zd (d:=mD zA) rfl (zd (d:=.int a) (zK (x:=.dat (tI [a,b])) (y:=.dat (.int 0)) rfl rfl (zA5 zi rfl)) (zW (d:=tI w) rfl))) (zMl m ha.1 ha.2 hw)) (zW (zj (zd (d:=mD zA) rfl (zd (d:=.int b) (zK (x:=.dat (tI [a,b])) (y:=.dat (.int 1)) rfl rfl (zA5 zi rfl)) (zW (d:=tI w) rfl))) (zMl m hb.1 hb.2 hw)))) zKj) ⟨rfl,rfl⟩
theorem zGy (u v:Int):∃ x y,zAL u v=[x,y]/\x<=y/\((x=u/\y=v)\/(x=v/\y=u)):=by
 unfold zAL;by_cases q:v<u
 ·exact ⟨v,u,by rw[zWN q,zWQ (by omega)],by omega,.inr ⟨rfl,rfl⟩⟩
 ·by_cases q2:v>u
  ·exact ⟨u,v,by rw[zWQ q,zWN q2],by omega,.inl ⟨rfl,rfl⟩⟩
  ·exact ⟨u,u,by rw[zWQ q,zWQ q2],by omega,.inl ⟨rfl,by omega⟩⟩
theorem zQA (m:IsM zA l) (hR:zA.length<=26) (hl:l<=12) (hu:0<=u/\u<(zA.length:Int)) (hv:0<=v/\v<(zA.length:Int)) (h:Mt zA l u v):zBX [mD zA,tI (zAL u v)] M=some (.bl true,M):=by
 obtain ⟨x,y,e,hxy,hc⟩:=zGy u v;have hx:0<=x/\x<(zA.length:Int):=by rcases hc with ⟨rfl,rfl⟩|⟨rfl,rfl⟩ <;> assumption
 have hy:0<=y/\y<(zA.length:Int):=by rcases hc with ⟨rfl,rfl⟩|⟨rfl,rfl⟩ <;> assumption
 have hm:Mt zA l x y:=by rcases hc with ⟨rfl,rfl⟩|⟨rfl,rfl⟩ <;> first|exact h|exact h.symm
 rw[e];refine zT ?_;unfold zBX;rw[zv];unfold zDx;show OkS (zX _ _ [some (mD zA),some (tI [x,y]),none,none,none] M) _;have i0:∀ {y2 y3 y4:Option D},fOp kIx (zC 1) (fC (.int 0)) [some (mD zA),some (tI [x,y]),y2,y3,y4] M=some (.dat (.int x),M):=zK (x:=.dat (tI [x,y])) (y:=.dat (.int 0)) rfl rfl (zA5 zi rfl);have i1:∀ {y2 y3 y4:Option D},fOp kIx (zC 1) (fC (.int 1)) [some (mD zA),some (tI [x,y]),y2,y3,y4] M=some (.dat (.int y),M):=zK (x:=.dat (tI [x,y])) (y:=.dat (.int 1)) rfl rfl (zA5 zi rfl);have t0:=zn (zK (i0 (y2:=none) (y3:=none) (y4:=none)) i1 eqE);by_cases q:x=y
 ·rw[zXG q]at t0;exact zR8 t0 (zAR rfl ⟨rfl,rfl⟩)
 ·rw[zWh q]at t0;refine zGV t0 ?_;have hlt:x<y:=by omega
  have hp:[x,y]∈zO (zF zA):=zA9.mpr ⟨hx,hy,hlt⟩;obtain ⟨w0,hw0,e0⟩:=hm;obtain ⟨n,_,hn⟩:=zBr _ (show Rch zA l One [x,y] w0.length from ⟨w0,rfl,hw0,(zGR hlt w0).mpr e0⟩);obtain ⟨w,c⟩:=zBe n hn;obtain ⟨hw,hb⟩:=zDU c;have hled:=(zGR hlt w).mp hb;have et:=zK4 m hR hl hy.1 hy.2 hx.1 hx.2 (fun z=>q z.symm) (M:=M);rw[show zAL y x=[x,y] by unfold zAL;rw[zWN hlt,zWQ (by omega)],zIS c]at et;refine zCE (zj (zd (d:=mD zA) rfl (zd i1 (zW i0))) et) ?_;simp only[List.set_cons_succ,List.set_cons_zero];refine zGV (zn (zK (x:=.dat (tI w)) (y:=.dat .non) rfl rfl rfl)) ?_;rw[zJ,zGQ];refine zE (zj (zd (d:=mD zA) rfl (zd (d:=tI [x,y]) rfl (zW (d:=tI w) rfl))) (zJC m hx hy hw)) ?_;rw[hled,zMi,zI];refine ⟨[some (mD zA),some (tI [x,y]),some (tI w),some (.int (zAn zA y w)),some (.int (zAn zA y w))],rfl,?_⟩;rw[zM];exact zAR (zK (x:=.dat (.int (zAn zA y w))) (y:=.dat (.int (zAn zA y w))) rfl rfl eqE) ⟨by simp,rfl⟩
theorem zMx (m:IsM zA l) (hl:l<=12) (h:Gen M n k):Ok (zBo [.ref n,mD zA,.int 12] M) fun d M'=>∃ w:List Int,d=tI w/\(∀ g∈w,0<=g/\g<(l:Int))/\w.length<=12/\Nw M M' n k:=by
 have hl0:=m.l0;unfold zBo;rw[zv];unfold zEa;rw[zAh];refine zNT.mpr (zDE.mpr (zB1.mpr ?_));obtain ⟨d,M1,e1,⟨i,rfl,i0,i1⟩,nw1,hl1⟩:=zJo h (m:=13) (by decide) (by decide);have ec:zD (toD (zN zZ (zD (toD (zC 0)) (zD (toD (fOp zAS (zC 2) (fC (.int 1)))) zH)))) zH [some (.ref n),some (mD zA),some (.int 12),none] M=some ([.int i],M1):=aC' (zUZ (zd (d:=.ref n) rfl (zW (d:=.int 13) rfl)) e1) rfl;refine ⟨_,_,_,zHJ ec i0 (by omega),by rw[zWH,zX5];exact zV (by omega),?_⟩;rw[<-zHS];refine Ok.mono (zPD (n:=i.toNat) (I:=fun j acc M2=>(∃ c:List Int,acc=c.map D.int/\c.length=j /\ ∀ y∈c,0<=y/\y<(l:Int))/\Nw M M2 n k) ?_ ⟨⟨[],rfl,rfl,fun _ h=>by cases h⟩,nw1⟩) ?_
 ·rintro j acc M2 hj ⟨⟨c,rfl,hcl,hc⟩,nw⟩;refine ⟨_,rfl,?_⟩;refine zAe nw.gen rfl (zIz m (f:=zC 1) rfl) (by omega) (by omega) fun g M3 g0 g1 nw3 hl3=>?_;rw[zI];refine ⟨⟨c++[g],by simp,by simp[hcl],fun z hz=>?_⟩,nw.trans nw3⟩;rcases zWY.mp hz with q|q
  ·exact hc z q
  ·have:z=g:=by simpa using q
   subst this;exact ⟨g0,g1⟩
 ·rintro ys M2 ⟨⟨c,rfl,hcl,hc⟩,nw⟩;refine zES.mpr ((zFX zCZ).mpr ?_);rw[zI];exact ⟨c,rfl,hc,by omega,nw⟩
theorem zEN (p:List Int):zx 1 (tI p)=true:=zID p
theorem zSf (h:tI p=tI q):p=q:=(List.map_inj_right (f:=D.int) (fun _ _ h=>D.int.inj h)).mp (D.tup.inj h)
theorem zPP {ps:List (List Int)} (h:zAF M y=some (ps.map tI)):zJa neg (.dat (tI p)) y M=some (.dat (.bl (nb neg (decide (p∈ps)))),M):=by
 have ht:(ps.map tI).all (zx 1)=true:=by
  rw[zWj];intro x hx;obtain ⟨q,_,rfl⟩:=zWP.mp hx;exact zEN q
 have he:((ps.map tI).any fun e=>zA4 1 e (tI p))=decide (p∈ps):=by
  rw[Bool.eq_iff_iff,List.any_eq_true,decide_eq_true_iff];constructor
  ·rintro ⟨x,hx,e⟩;obtain ⟨q,hq,rfl⟩:=zWP.mp hx;have:=zRc 1 _ _ (zEN q) (zEN p) e;rw[<-zSf this];exact hq
  ·intro hp;exact ⟨tI p,zWP.mpr ⟨p,hp,rfl⟩,zEP 1 _ (zEN p)⟩
 unfold zJa;rw[h];dsimp only;rw[zEN,ht,he];rfl
theorem zOE:kTr true 0 (.dat (tI N)) (.dat (tI N)) M=some (.dat (.bl false),M):=by
 have h:=zID N;unfold kTr;show (if (N.map D.int).all (zx 0)&&(N.map D.int).all (zx 0) then _ else _)=_;have e:zA4 (0+1) (.tup (N.map D.int)) (.tup (N.map D.int))=true:=zEP 1 _ (zEN N);rw[h,Bool.and_self,zWN rfl,e];rfl
theorem zKf (m:IsM zA l) (hp:[a,b]∈zO (zF zA)) (hv:∀ x∈v,0<=x/\x<(l:Int)) (hw:∀ x∈w,0<=x/\x<(l:Int)) (h:zHn zA [a,b] v∈za zA l):zAL (zAn zA a (v++w)) (zAn zA b (v++w))∈za zA l:=by
 obtain ⟨ha,hb,hab⟩:=zA9.mp hp;have hvw:∀ x∈v++w,0<=x/\x<(l:Int):=fun x hx=>(zWY.mp hx).elim (hv x) (hw x);have n1:¬ Mt zA l (zAn zA a (v++w)) (zAn zA b (v++w)):=by
  rintro ⟨u,hu,e⟩;rw[<-zCt,<-zCt,zXE,zCt zA a,zCt zA b]at e;rw[zJd hab]at h;have ne:zAn zA a v≠zAn zA b v:=fun z=>by
   obtain ⟨c,d,e2,_⟩:=zp.mp (zCe h);have:=zJO.mpr z;rw[e2]at this;simp at this
  rw[zKc ne]at h;obtain ⟨x,y,exy,_,hc⟩:=zGy (zAn zA a v) (zAn zA b v);rw[exy]at h;have:=(zGt (zCe h)).mp h;rcases hc with ⟨rfl,rfl⟩|⟨rfl,rfl⟩
  ·exact this ⟨w++u,fun x hx=>(zWY.mp hx).elim (hw x) (hu x),e⟩
  ·exact this ⟨w++u,fun x hx=>(zWY.mp hx).elim (hw x) (hu x),e.symm⟩
 have ne:zAn zA a (v++w)≠zAn zA b (v++w):=fun z=>n1 (Mt.of z);have hin:=zLJ (zA:=zA) (zEd m _ ha hvw) (zEd m _ hb hvw) ne;obtain ⟨x,y,exy,_,hc⟩:=zGy (zAn zA a (v++w)) (zAn zA b (v++w));rw[exy]at hin ⊢;rw[zGt hin];rcases hc with ⟨rfl,rfl⟩|⟨rfl,rfl⟩
 ·exact n1
 ·exact fun z=>n1 z.symm
theorem Gen.more (g:Gen M n k) (hl:M.length<=M'.length) (f:∀ j,j<M.length->M'[j]?=M[j]?) (u:∀ (j:Nat) u,M'[j]?=some u->MO.und M'.length u=true):Nw M M' n k:=by
 obtain ⟨hn,hk⟩:=g.lt;obtain ⟨c,s,e1,e2,r⟩:=g.ex;exact ⟨⟨⟨c,s,(f n hn).trans e1,(f k hk).trans e2,r⟩,g.ne,u⟩,hl,fun j hj _ _=>f j hj⟩
abbrev lwS (i:Nat) (zA:List (List Int)) (j4:Nat) (N:List Int) (W ls:List D) (j8 j9:Nat) (y10 y11 y12:Option D):Sd:=[some (.ref 0),some (.ref 1),some (.int (i:Nat)),some (mD zA),some (.ref j4),some (tI N),some (.tup W),some (.tup ls),some (.ref j8),some (.ref j9),y10,y11,y12]
theorem zNb {zA:List (List Int)} (m:IsM zA l) (hR:zA.length<=26) (hl:l<=12) {M:Mem} {ws ps:List (List Int)} (h4:M[j4]?=some (.lst (ws.map tI))) (hws:∀ w∈ws,∀ g∈w,0<=g/\g<(l:Int))
  (hps:∀ p∈ps,p∈zO (zF zA) /\ ¬ Rk zA l p) (q:∀ y10 y11 y12,P .nx (lwS i zA j4 N W ls j8 j9 y10 y11 y12) M) :
  OkS (zCK (gN 10) (zBs (zr (zC 4)) (gN 11) (sIf (zF1 (tst (zN zBX (zD (toD (zC 3)) (zD (toD (zN zAH (zD (toD (zC 3)) (zD (toD (zC 10)) (zD (toD (zC 11)) zH))))) zH))))) (zAV (fC (.bl false))) zBC)) (ps.map tI) none (ps.map tI) (lwS i zA j4 N W ls j8 j9 y10 y11 y12) M) P:=by
 refine zAZ (I:=fun r σ M'=>M'=M/\(∃ y10 y11 y12,σ=lwS i zA j4 N W ls j8 j9 y10 y11 y12) /\ ∃ vs:List (List Int),r=vs.map tI /\ ∀ p∈vs,p∈zO (zF zA) /\ ¬ Rk zA l p) ?_ ?_ _ _ _ ⟨rfl,⟨_,_,_,rfl⟩,ps,rfl,hps⟩
 ·rintro x r σ M' ⟨rfl,⟨y10,y11,y12,rfl⟩,vs,hr,hv⟩;cases vs with
  |nil=>cases hr
  |cons p vs=>
   rw[zWR]at hr;obtain ⟨rfl,rfl⟩:=zXC hr;obtain ⟨hp,nr⟩:=hv p zWM;obtain ⟨a,b,rfl,_⟩:=zp.mp hp;obtain ⟨ha,hb,hab⟩:=zA9.mp hp;have st:Stb zA l a b:=Classical.byContradiction fun z=>nr ((zL3 m hp).mpr z);refine ⟨zAC,lwS i zA j4 N W ls j8 j9 (some (tI [a,b])) y11 y12,rfl,?_⟩;rw[zAi];refine ⟨_,_,_,zBb (x:=.dat (.ref j4)) rfl (zf h4),?_⟩;refine zAZ (I:=fun r2 σ M2=>M2=M'/\(∃ y11,σ=lwS i zA j4 N W ls j8 j9 (some (tI [a,b])) y11 y12) /\ ∃ us:List (List Int),r2=us.map tI /\ ∀ w∈us,∀ g∈w,0<=g/\g<(l:Int)) ?_ ?_ _ _ _ ⟨rfl,⟨_,rfl⟩,ws,rfl,hws⟩
   ·rintro x r2 σ M2 ⟨rfl,⟨y11,rfl⟩,us,hr2,hu⟩;cases us with
    |nil=>cases hr2
    |cons w us=>
     rw[zWR]at hr2;obtain ⟨rfl,rfl⟩:=zXC hr2;have hw:=hu w zWM;refine ⟨.inl h4,lwS i zA j4 N W ls j8 j9 (some (tI [a,b])) (some (tI w)) y12,rfl,?_⟩;refine zOs (zj (zd (d:=mD zA) rfl (zW (zj (zd (d:=mD zA) rfl (zd (d:=tI [a,b]) rfl (zW (d:=tI w) rfl))) (zJC m ha hb hw)))) (zQA m hR hl (zEd m w ha hw) (zEd m w hb hw) (st w hw))) ?_;exact ⟨rfl,⟨_,rfl⟩,us,rfl,fun z hz=>hu z (zWL _ hz)⟩
   ·rintro σ M2 ⟨rfl,⟨y11,rfl⟩,us,hr2,hu⟩;exact ⟨.inl h4,rfl,⟨_,_,_,rfl⟩,vs,rfl,fun z hz=>hv z (zWL _ hz)⟩
 ·rintro σ M' ⟨rfl,⟨y10,y11,y12,rfl⟩,vs,hr,hv⟩;exact ⟨zAC,q _ _ _⟩
theorem zT5 (h:M[n]?=some (.lst xs)):zFc M (.dat (.ref n))=some xs:=by
 unfold zFc;dsimp only;rw[h]
theorem zO2 {zA:List (List Int)} (m:IsM zA l) (hR:zA.length<=26) {M:Mem} {ws:List (List Int)} (h4:M[j4]?=some (.lst (ws.map tI))) (hws:∀ w∈ws,(∀ g∈w,0<=g/\g<(l:Int))/\w.length<=12) (hwl:ws.length<=10) (hgd:zAs gd all M)
  {ps:List (List Int)} (hps:∀ p∈ps,p∈zAl zA l) (q:∀ y10 y11 y12,P .nx (lwS i zA j4 N W ((za zA l).map tI) j8 j9 y10 y11 y12) M) :
  OkS (zCK (zB3 10 12) (zBs (zr (fOp zDj (zAw (zD (toD (zAr zH)) zH)) (zC 4))) (gN 11) (sIf (tst (fOp (zJa true) (zN zAH (zD (toD (zC 3)) (zD (toD (zC 10)) (zD (toD (fOp zAS (zC 12) (zC 11))) zH)))) (zC 7))) (zAV (fC (.bl false))) zBC)) all gd (ps.map fun p=>D.tup [tI p,tI (upW zA l p)]) (lwS i zA j4 N W ((za zA l).map tI) j8 j9 y10 y11 y12) M) P:=by
 refine zAZ (I:=fun r σ M'=>M'=M/\(∃ y10 y11 y12,σ=lwS i zA j4 N W ((za zA l).map tI) j8 j9 y10 y11 y12) /\ ∃ vs:List (List Int),r=vs.map (fun p=>D.tup [tI p,tI (upW zA l p)]) /\ ∀ p∈vs,p∈zAl zA l) ?_ ?_ _ _ _ ⟨rfl,⟨_,_,_,rfl⟩,ps,rfl,hps⟩
 ·rintro x r σ M' ⟨rfl,⟨y10,y11,y12,rfl⟩,vs,hr,hv⟩;cases vs with
  |nil=>cases hr
  |cons p vs=>
   rw[zWR]at hr;obtain ⟨rfl,rfl⟩:=zXC hr;obtain ⟨hp,hk⟩:=zHH.mp (hv p zWM);obtain ⟨a,b,rfl,_⟩:=zp.mp hp;obtain ⟨ha,hb,hab⟩:=zA9.mp hp;have c:=zQb hk;have hul:(upW zA l [a,b]).length<=676:=zWZ (zQI m zIP (zBF _ hp) (zFt c)) (zBG hR);obtain ⟨hu0,hg⟩:=zDU c;generalize upW zA l [a,b]=v at hul hu0 hg;refine ⟨hgd,lwS i zA j4 N W ((za zA l).map tI) j8 j9 (some (tI [a,b])) y11 (some (tI v)),rfl,?_⟩;rw[zAi];have ecat:fOp zDj (zAw (zD (toD (zAr zH)) zH)) (zC 4) (lwS i zA j4 N W ((za zA l).map tI) j8 j9 (some (tI [a,b])) y11 (some (tI v))) M'=some (.fl (([]::ws).map tI),M'):=by
    refine zK (x:=.fl [tI []]) (y:=.dat (.ref j4)) (zP5 (zW (zHG rfl (by simp))) (by simp)) rfl ?_;unfold zDj;rw[show zFc M' (.fl [tI []])=some [tI []]from rfl,show zFc M' (.dat (.ref j4))=some (ws.map tI)from zT5 h4];dsimp only;rw[zWN (zV (by simp;omega))];rfl
   refine ⟨_,_,_,zMt ecat,?_⟩;refine zAZ (I:=fun r2 σ M2=>M2=M'/\(∃ y11,σ=lwS i zA j4 N W ((za zA l).map tI) j8 j9 (some (tI [a,b])) y11 (some (tI v))) /\ ∃ us:List (List Int),r2=us.map tI /\ ∀ w∈us,(∀ g∈w,0<=g/\g<(l:Int))/\w.length<=12) ?_ ?_ _ _ _ ⟨rfl,⟨_,rfl⟩,[]::ws,rfl,fun w hw=>?_⟩
   ·rintro x r2 σ M2 ⟨rfl,⟨y11,rfl⟩,us,hr2,hu⟩;cases us with
    |nil=>cases hr2
    |cons w us=>
     rw[zWR]at hr2;obtain ⟨rfl,rfl⟩:=zXC hr2;obtain ⟨hw,hwz⟩:=hu w zWM;have hvw:∀ x∈v++w,0<=x/\x<(l:Int):=fun x hx=>(zWY.mp hx).elim (hu0 x) (hw x);refine ⟨zAC,lwS i zA j4 N W ((za zA l).map tI) j8 j9 (some (tI [a,b])) (some (tI w)) (some (tI v)),rfl,?_⟩;have epl:fOp zAS (zC 12) (zC 11) (lwS i zA j4 N W ((za zA l).map tI) j8 j9 (some (tI [a,b])) (some (tI w)) (some (tI v))) M2=some (.dat (tI (v++w)),M2):=by
      refine zK (x:=.dat (tI v)) (y:=.dat (tI w)) rfl rfl (zT (zUQ.mpr ⟨by rw[zWH,zWH];exact zV (by omega),?_,rfl⟩));unfold tI;rw[zW0]
     have ein:=zPP (neg:=true) (p:=zAL (zAn zA a (v++w)) (zAn zA b (v++w))) (ps:=za zA l) (y:=.dat (.tup ((za zA l).map tI))) (M:=M2) zi;rw[zXG (zKf m hp hu0 hw hg)]at ein;refine zKK (zn (zK (y:=.dat (.tup ((za zA l).map tI))) (zj (zd (d:=mD zA) rfl (zd (d:=tI [a,b]) rfl (zW epl))) (zJC m ha hb hvw)) rfl ein)) ?_;exact ⟨rfl,⟨_,rfl⟩,us,rfl,fun z hz=>hu z (zWL _ hz)⟩
   ·rintro σ M2 ⟨rfl,⟨y11,rfl⟩,us,hr2,hu⟩;exact ⟨zAC,rfl,⟨_,_,_,rfl⟩,vs,rfl,fun z hz=>hv z (zWL _ hz)⟩
   ·rcases zWK.mp hw with rfl|z
    ·exact ⟨fun _ h=>(by cases h),by simp⟩
    ·exact hws w z
 ·rintro σ M' ⟨rfl,⟨y10,y11,y12,rfl⟩,vs,hr,hv⟩;exact ⟨hgd,q _ _ _⟩
set_option maxHeartbeats 4000000 in
theorem zOy (ns:List Int) (h:ns.length<=63):∃ M',zF2 [.ref 0] [.fro (ns.map D.int)]=some (.bl true,M'):=by
 suffices hh:Ok (zF2 [.ref 0] [.fro (ns.map D.int)]) fun d _=>d=.bl true by
  obtain ⟨d,M',e,rfl⟩:=hh;exact ⟨M',e⟩
 unfold zF2;rw[zv];unfold zQt;rw[zJ,zQ];refine zAJ.mpr (zE (zW rfl) ?_);refine Ok.mono (zQP h) ?_;rintro d M1 ⟨rfl,g1,e0⟩;rw[zI,zM];rw[zJ,zAi];have el:fB zBD (zU (zC 0) zo) [some (.ref 0),some (.ref 1),none,none,none,none,none,none,none,none,none,none,none] M1=some (.dat (.int (ns.map D.int).length),M1):=zDt (x:=.dat (.ref 0)) rfl (zRg e0);rw[zWH]at el;have emin:fB zFE (zU (fC (.int 3)) (zU (fOp zAS (fC (.int 1)) (fB zBD (zU (zC 0) zo))) zo)) [some (.ref 0),some (.ref 1),none,none,none,none,none,none,none,none,none,none,none] M1=some (.dat (.int (if 1+(ns.length:Int)<3 then 1+(ns.length:Int) else 3)),M1):=zGT rfl (zK rfl el rfl);refine ⟨_,_,_,zCB emin (by split <;> omega) (by split <;> omega),?_⟩;refine zJ8 (n:=(if 1+(ns.length:Int)<3 then 1+(ns.length:Int) else 3).toNat) (I:=fun i σ M'=>(∃ y2 y3 y4 y5 y6 y7 y8 y9 y10 y11 y12,σ=[some (.ref 0),some (.ref 1),y2,y3,y4,y5,y6,y7,y8,y9,y10,y11,y12])/\Gen M' 1 2) ?_ ?_ _ _ ⟨⟨_,_,_,_,_,_,_,_,_,_,_,rfl⟩,g1⟩
 ·rintro i σ M' hi ⟨⟨y2,y3,y4,y5,y6,y7,y8,y9,y10,y11,y12,rfl⟩,g⟩;refine ⟨_,rfl,?_⟩;rw[zJ,zQ];refine zBQ.mpr (zAJ.mpr (zE (zd rfl (zd rfl (zW rfl))) ?_));refine Ok.mono (zOJ g (by decide) (by decide) (by decide) (by decide)) ?_;rintro d M3 ⟨zA,l,p,rfl,m,hR,hL,hp,nw3⟩;have hR':zA.length<=26:=by omega
  have hL':l<=12:=by omega
  refine zFS.mpr (zRx (d:=mD zA) zi at0 ?_);rw[zI,zM];simp only[List.set_cons_succ,List.set_cons_zero];rw[zJ,zQ];refine zDH.mpr (zm.mpr (zAU.mpr (zAJ.mpr (zE (zd (d:=.ref 1) rfl (zd (d:=mD zA) rfl (zW (d:=.int 12) rfl))) ?_))));refine Ok.mono (zMx m hL' nw3.gen) ?_;rintro d M4 ⟨w1,rfl,hw1,hz1,nw4⟩;rw[zI];refine zm.mpr (zAU.mpr (zAJ.mpr (zE (zd (d:=.ref 1) rfl (zd (d:=mD zA) rfl (zW (d:=.int 12) rfl))) ?_)));refine Ok.mono (zMx m hL' nw4.gen) ?_;rintro d M5 ⟨w2,rfl,hw2,hz2,nw5⟩;rw[zI,zAa];refine ⟨zV (by simp),zb ?_⟩;rw[zM];simp only[List.set_cons_succ,List.set_cons_zero];have nw6:=nw5.gen.lst ([w1,w2].map tI) (zE6 _ _);have e4:=zY M5 (MO.lst ([w1,w2].map tI));have hj4:2<M5.length:=nw5.gen.lt.2;have g6:=nw6.gen;rw[show [tI w1,tI w2]=[w1,w2].map tI from rfl];generalize M5++[MO.lst ([w1,w2].map tI)]=M6 at e4 g6 ⊢;generalize M5.length=j4 at e4 hj4 ⊢;have esh:=zQS m hR' hL' (M:=M6);have est:=zOf m hR' hL' (M:=M6);have hNl:(stN zA l).length=zA.length:=by rw[zFR];unfold zBt;simp
  have fl:=zFz m;rw[show zCn (zBt (fun p=>∃ k,Rch zA l (· ∈ za zA l) p k) zA.length)=stN zA l from rfl]at est;generalize stN zA l=N at esh est hNl fl;rw[zJ,zGQ];refine zE (zj (zW (d:=mD zA) rfl) esh) ?_;rw[zI];generalize hW:(zAl zA l).map (fun p=>tI (upW zA l p))=W;refine ⟨[some (.ref 0),some (.ref 1),some (.int (i:Nat)),some (mD zA),some (.ref j4),some (tI N),some (.tup W),y7,y8,y9,y10,y11,y12],rfl,?_⟩;rw[zM];refine zCE (zj (zW (d:=mD zA) rfl) (zGe m hR' hL')) ?_;simp only[List.set_cons_succ,List.set_cons_zero];refine zGV (zn (zK (x:=.dat (tI N)) (y:=.dat (tI N)) (zj (zW (d:=mD zA) rfl) est) rfl zOE)) ?_;rw[zJ,zQ];have eL:=zDt (f:=zC 3) (σ:=[some (.ref 0),some (.ref 1),some (.int (i:Nat)),some (mD zA),some (.ref j4),some (tI N),some (.tup W),some (.tup ((za zA l).map tI)),y8,y9,y10,y11,y12]) (M:=M6) (x:=.dat (mD zA)) rfl zi;rw[zWH]at eL;refine zAJ.mpr (zE (zW eL) (Ok.mono (zI8 (zA:=zA) (N:=(zA.length:Int)) rfl (by omega)) ?_));rintro d M7 ⟨rfl,us,rfl,hus⟩;rw[zI,zM];simp only[List.set_cons_succ,List.set_cons_zero];have nw7:Nw M6 (M6++MO.lst ((zO (zF zA)).map tI)::us) 1 2:=g6.app fun u hu=>by
   rcases zWK.mp hu with x|x
   ·subst x;exact zE6 _ _
   ·exact zIX (zWu _) (hus u x)
  have eP:(M6++MO.lst ((zO (zF zA)).map tI)::us)[M6.length]?=some (.lst ((zO (zF zA)).map tI)):=by simp
  have e47:=nw7.get e4 (by omega) (by omega);have hj8:2<M6.length:=g6.lt.2;have g7:=nw7.gen;generalize M6++MO.lst ((zO (zF zA)).map tI)::us=M7 at eP e47 g7 ⊢;generalize M6.length=j8 at eP hj8 ⊢;have hPl:(zO (zF zA)).length<=676:=zBG hR';have ei:∀ {y9 y10 y11 y12:Option D} {A:Mem},A[j8]?=some (.lst ((zO (zF zA)).map tI))->zr (zC 8) [some (.ref 0),some (.ref 1),some (.int (i:Nat)),some (mD zA),some (.ref j4),some (tI N),some (.tup W),some (.tup ((za zA l).map tI)),some (.ref j8),y9,y10,y11,y12] A=some ((zO (zF zA)).map tI,zDA (.dat (.ref j8)) ((zO (zF zA)).map tI),A):=fun h=>zBb (x:=.dat (.ref j8)) rfl (zf h);have ef:=zAv (own:=[10]) (g:=gN 10) (tc:=tst (fOp kNe (fOp kIx (zC 5) (fOp kIx (zC 10) (fC (.int 0)))) (fOp kIx (zC 5) (fOp kIx (zC 10) (fC (.int 1)))))) (te:=zC 10) (zO (zF zA)) tI tI (fun p=> !decide (N.getD (p.getD 0 0).toNat 0=N.getD (p.getD 1 0).toNat 0)) (ei (y9:=y9) (y10:=y10) (y11:=y11) (y12:=y12) eP) (.inl eP) (by omega) (fun p hp=>by
   obtain ⟨a,b,rfl,ha,hb,_⟩:=zp.mp hp;obtain ⟨a0,a1⟩:=zA2.mp ha;obtain ⟨b0,b1⟩:=zA2.mp hb;refine ⟨[some (.ref 0),some (.ref 1),some (.int (i:Nat)),some (mD zA),some (.ref j4),some (tI N),some (.tup W),some (.tup ((za zA l).map tI)),some (.ref j8),y9,some (tI [a,b]),y11,y12],rfl,?_,fun _=>rfl⟩;exact zn (zK (x:=.dat (.int (N.getD a.toNat 0))) (y:=.dat (.int (N.getD b.toNat 0))) (zK (x:=.dat (tI N)) (y:=.dat (.int a)) rfl (zK (x:=.dat (tI [a,b])) (y:=.dat (.int 0)) rfl rfl (zA5 zi rfl)) (zA5 zi (zCF a0 (by omega)))) (zK (x:=.dat (tI N)) (y:=.dat (.int b)) rfl (zK (x:=.dat (tI [a,b])) (y:=.dat (.int 1)) rfl rfl (zA5 zi rfl)) (zA5 zi (zCF b0 (by omega)))) (zT (zQx.mpr ⟨by simp,rfl⟩))))
  rw[fl]at ef;rw[zJ,zQ];refine zE ef (zb ?_);rw[zM];simp only[List.set_cons_succ,List.set_cons_zero];have nw8:=g7.lst ((zAl zA l).map tI) (zE6 _ _);have e9:=zY M7 (MO.lst ((zAl zA l).map tI));have eP8:=nw8.get eP (by omega) (by omega);have e48:=nw8.get e47 (by omega) (by omega);have g8:=nw8.gen;generalize M7++[MO.lst ((zAl zA l).map tI)]=M8 at e9 eP8 e48 g8 ⊢;generalize M7.length=j9 at e9 ⊢;refine zGV (zn (zK (zDt (f:=zC 6) (x:=.dat (.tup W)) rfl zi) (zDt (f:=zC 9) (x:=.dat (.ref j9)) rfl (zf e9)) (zT (zQx.mpr ⟨by rw[<-hW,zWH,zWH];simp,rfl⟩)))) ?_;rw[zJ,zAi];have ef2:=zAv (own:=[10]) (g:=gN 10) (tc:=tst (fOp (zJa true) (zC 10) (zC 9))) (te:=zC 10) (zO (zF zA)) tI tI (fun p=>nb true (decide (p∈zAl zA l))) (ei (y9:=some (.ref j9)) (y10:=y10) (y11:=y11) (y12:=y12) eP8) (.inl eP8) (by omega) (fun p hp=>by
   refine ⟨[some (.ref 0),some (.ref 1),some (.int (i:Nat)),some (mD zA),some (.ref j4),some (tI N),some (.tup W),some (.tup ((za zA l).map tI)),some (.ref j8),some (.ref j9),some (tI p),y11,y12],rfl,?_,fun _=>rfl⟩;exact zn (zK (x:=.dat (tI p)) (y:=.dat (.ref j9)) rfl rfl (zPP (zf e9))))
  refine ⟨_,_,_,zMt ef2,?_⟩;refine zNb m hR' hL' e48 (fun w hw=>?_) (fun p hp=>?_) fun y10 y11 y12=>?_
  ·simp only[zWK,zWd,zXT]at hw;rcases hw with rfl|rfl
   ·exact hw1
   ·exact hw2
  ·obtain ⟨h1,h2⟩:=zXJ.mp hp;refine ⟨h1,fun z=>?_⟩;rw[zXG (zHH.mpr ⟨h1,z⟩)]at h2;cases h2
  rw[zM,zAi];have hz:zLS (zD (toD (zC 9)) (zD (toD (zC 6)) zH)) (lwS i zA j4 N W ((za zA l).map tI) j8 j9 y10 y11 y12) M8=some ((zAl zA l).map (fun p=>D.tup [tI p,tI (upW zA l p)]),some fun M=>zAF M (.dat (.ref j9))=some ((zAl zA l).map tI)/\zAF M (.dat (.tup W))=some W,M8):=by
   unfold zLS;rw[zd (d:=.ref j9) rfl (zW (d:=.tup W) rfl)];dsimp only;rw[zf e9,zi];dsimp only;rw[show (((zAl zA l).map tI).zip W).map (fun q=>D.tup [q.1,q.2])=(zAl zA l).map (fun p=>D.tup [tI p,tI (upW zA l p)]) by
    rw[<-hW,List.zip_map',zWW];rfl]
  refine ⟨_,_,_,hz,?_⟩;refine zO2 m hR' e48 (fun w hw=>?_) (by simp) (show zAs (some fun M=>zAF M (.dat (.ref j9))=some ((zAl zA l).map tI)/\zAF M (.dat (.tup W))=some W) _ _ from ⟨zf e9,zi⟩) (fun _ h=>h) fun y10 y11 y12=>?_
  ·simp only[zWK,zWd,zXT]at hw;rcases hw with rfl|rfl
   ·exact ⟨hw1,hz1⟩
   ·exact ⟨hw2,hz2⟩
  exact ⟨⟨_,_,_,_,_,_,_,_,_,_,_,rfl⟩,g8⟩
 ·rintro σ M' ⟨⟨y2,y3,y4,y5,y6,y7,y8,y9,y10,y11,y12,rfl⟩,g⟩;rw[zM];exact zAR rfl rfl
end Lad
set_option maxHeartbeats 4000000
namespace Lad
open PySem PySem.Spec PyProof.Rows L2 L3 Law Lac
-- the text by places
def top (i:Nat):Stmt:=PySem.Challenge.pw_bringhome_k82_whole_stable_by_pairs.main.body.getD i (.Pass ⟨0,0,0,0⟩)
abbrev zDv:Stmt:=top 1
abbrev zFi:Stmt:=top 3
abbrev zEc:Stmt:=top 5
abbrev zD6:Stmt:=top 6
abbrev zDV:Stmt:=top 7
abbrev zFj:Stmt:=top 8
abbrev zCl:Stmt:=top 9
abbrev zEo:Stmt:=top 10
abbrev zI0:Stmt:=top 11
abbrev zFf:Stmt:=top 12
abbrev zEn:Stmt:=top 13
abbrev zJj:Stmt:=top 14
abbrev zD9:Stmt:=top 16
abbrev zCi:Stmt:=top 18
abbrev zDL:Stmt:=top 19
abbrev zCU:Stmt:=top 20
abbrev zGc:Stmt:=top 21
abbrev zDr:Stmt:=top 23
abbrev zEl:Stmt:=top 24
abbrev zDZ:Stmt:=top 25
abbrev zCy:Stmt:=top 26
abbrev zDe:Stmt:=top 27
abbrev zCj:Stmt:=top 28
abbrev zDY:Stmt:=top 29
abbrev zEs:Stmt:=top 30
abbrev zD2:Stmt:=top 31
abbrev zFb:Stmt:=top 32
abbrev zEk:Stmt:=top 33
abbrev zCb:Stmt:=top 34
abbrev zDw:Stmt:=top 35
abbrev zP1:Stmt:=top 36
structure Txt (K:PySem.W.Frag) (mg:Str->Option Value) where
  d_all_rooms:Df K mg "all_rooms" zDv ["machine"]
  d_stepped:Df K mg "stepped" zFi ["machine", "rooms", "letter"]
  d_pairs_of:Df K mg "pairs_of" zEc ["rooms"]
  d_ways_back:Df K mg "ways_back" zD6 ["machine"]
  d_lengths_to:Df K mg "lengths_to" zDV ["machine", "goals"]
  d_lengths:Df K mg "lengths" zFj ["machine"]
  d_first_letter:Df K mg "first_letter" zCl ["machine", "pair", "found"]
  d_rungs_to:Df K mg "rungs_to" zEo ["machine", "found"]
  d_rungs:Df K mg "rungs" zI0 ["machine"]
  d_climbed:Df K mg "climbed" zFf ["machine", "steps", "pair"]
  d_together:Df K mg "together" zEn ["machine", "one", "other"]
  d_apart:Df K mg "apart" zJj ["machine"]
  d_parted_by:Df K mg "parted_by" zD9 ["marks"]
  d_pairs_across:Df K mg "pairs_across" zCi ["machine", "parting"]
  d_parted_but:Df K mg "parted_but" zDL ["machine", "found"]
  d_stable_shown:Df K mg "stable_shown" zCU ["machine"]
  d_stable:Df K mg "stable" zGc ["machine"]
  d_law_begin:Df K mg "_law_begin" zDr ["_law_script"]
  d_law_next:Df K mg "_law_next" zEl ["_law_state", "_law_many"]
  d_law_column:Df K mg "_law_column" zDZ ["_law_state", "_law_many", "_law_way"]
  d_law_machine:Df K mg "_law_machine" zCy ["_law_state", "_law_most", "_law_letters"]
  d_law_copies:Df K mg "_law_copies" zDe ["_law_state", "_law_most", "_law_letters"]
  d_law_numbered:Df K mg "_law_numbered" zCj ["_law_classes"]
  d_law_either:Df K mg "_law_either" zDY ["_law_state", "_law_most", "_law_letters"]
  d_law_pair:Df K mg "_law_pair" zEs ["_law_one", "_law_other"]
  d_law_pairs:Df K mg "_law_pairs" zD2 ["_law_many"]
  d_law_led:Df K mg "_law_led" zFb ["_law_machine_here", "_law_room", "_law_word_here"]
  d_law_word:Df K mg "_law_word" zEk ["_law_state", "_law_machine_here", "_law_most"]
  d_law_pair_led:Df K mg "_law_pair_led" zCb ["_law_machine_here", "_law_pair_here", "_law_word_here"]
  d_law_meets:Df K mg "_law_meets" zDw ["_law_machine_here", "_law_pair_here"]
  d_law:Df K mg "law" zP1 ["_law_script"]
  z_tuple:mg "tuple" = none
  z_range:mg "range" = none
  z_len:mg "len" = none
  z_sorted:mg "sorted" = none
  z_min:mg "min" = none
  z_enumerate:mg "enumerate" = none
  z_max:mg "max" = none
  z_list:mg "list" = none
  z_zip:mg "zip" = none
section
variable {P:Program} {w:World} {K:PySem.W.Frag} {mg:Str->Option Value} {base:Heap}
theorem zBy {X:Cx} {scope sc:Scope} {own:List Nat} {N ps:List Str} (_:FnScope N ps sc) (hk:scope.kind=.function) (hs:X.env.scope=sc) (hN:X.N=N) (h1:zFF sc scope=true) (h2:zGU N scope own=true):CompIn X scope own:=zIR hk hs hN h1 h2
theorem zN3 {X:Cx} {scope sc sd:Scope} {own:List Nat} {N ps:List Str} (_:FnScope N ps sd) (hk:scope.kind=.function) (hs:X.env.scope=sc) (hN:X.N=N) (h1:zFF sc scope=true) (h2:zGU N scope own=true):CompIn X scope own:=zIR hk hs hN h1 h2
set_option hygiene false in
local macro_rules | `(tactic| decreasing_trivial)=> `(tactic| repeat' first
  |refine zU5 (pv _)
  |refine zBn ?_
  |refine zSO ?_ ?_ (zt rfl)
  |refine zNq ?_
  |refine zTk
  |refine zQ0 ?_ ?_
  |refine zVL
  |refine zPa
  |refine zUF ?_
  |refine zVz (by first|exact zLP T|exact zJu T|exact zK8 T|exact zMI T|exact zGC T|exact zMa T|exact zHt T|exact zHE T|exact zKH T|exact zMJ T|exact zL0 T|exact zQr T|exact zF5 T|exact zKJ T|exact zJv T|exact zKR T|exact zJx T|exact zGN T|exact zH6 T|exact zHr T|exact zGK T|exact zO0 T|exact zHm T|exact zF7 T|exact zKx T|exact zJg T|exact zH5 T|exact zOH T|exact zJ7 T|exact zJD T) (hr.mono (by omega)) rfl ?_ ?_ (by decide) (zt rfl) (zFM rfl)
  |refine zUu sc.nd rfl
  |refine zRa ?_ ?_ (zt rfl)
  |refine zUW ?_
  |refine zTZ
  |refine zV6 ?_ ?_
  |refine zT1 ?_
  |refine zV1 ?_ ?_ ?_
  |refine zUB
  |refine zT9
  |refine zUw rfl T.z_len ?_ (zt rfl) rfl
  |refine zSX zPq PassesOwn.never rfl ?_ ?_ ?_
  |refine zTm ?_ ?_
  |refine zQQ ?_ ?_
  |refine zSk (zGa hr) ?_ ?_
  |refine zVS ?_
  |refine zVY ?_
  |refine zMK (zBY (by decide)) (zBy sc rfl rfl rfl (by decide +kernel) (by decide +kernel)) rfl ?_ ⟨fun _ _ _ _ _=>?_,fun _ _ _ _ _=>?_,fun _ _ _ _ _=>?_⟩
  |refine zUX hr.units0 ?_ ?_
  |refine zSG rfl T.z_tuple ?_ (zt rfl) rfl
  |refine zU4
  |refine zNt rfl T.z_range ?_ ?_ (zFL rfl)
  |refine zSd ?_
  |refine zVF ?_ ?_
  |refine zTM ?_
  |refine zRS
  |refine zSj rfl ?_
  |refine zR1
  |refine zRA ?_
  |refine zSK ?_ ?_ ?_
  |refine zP8 ?_ ?_
  |refine zVj
  |refine zNv sc.nd rfl (by first|exact Or.inl rfl|exact Or.inr rfl) (by first|exact .inl rfl|exact .inr rfl) rfl (zBY (by decide)) (zBy sc rfl rfl rfl (by decide +kernel) (by decide +kernel)) rfl ?_ ⟨fun _ _ _ _ _=>?_,fun _ _ _ _ _=>?_,fun _ _ _ _ _=>?_⟩
  |refine zOO (zGa hr) ?_ ?_
  |refine zUv ?_ ?_
  |refine zUq ?_ ?_
  |refine zUC (zGa hr) ?_ ?_ ?_
  |refine zUb hr.units0 ?_ ?_
  |refine zU2 (zLV (K:=K)) ?_ ?_
  |refine zT6 ?_ ?_
  |refine zVM ?_ ?_
  |refine zUg ?_ ?_
  |refine zS1 rfl rfl T.z_min ?_ (zt rfl) (zFM rfl)
  |refine zS9 (zGa hr) ?_ ?_
  |refine zMK (zNn (K:=K) (by decide) (by decide)) (zBy sc rfl rfl rfl (by decide +kernel) (by decide +kernel)) rfl ?_ ⟨fun _ _ _ _ _=>?_,fun _ _ _ _ _=>?_,fun _ _ _ _ _=>?_⟩
  |refine zT2 rfl rfl T.z_list rfl T.z_range ?_ (zt rfl) rfl (zt rfl) rfl
  |refine zQM ?_ ?_ ?_
  |refine zU0 ?_ ?_
  |refine zTy rfl rfl T.z_max ?_ (zt rfl) (zFM rfl)
  |refine zRk rfl T.z_enumerate ?_ (zt rfl) rfl
  |refine zSM ?_
  |refine zTz rfl rfl T.z_min ?_ (zt rfl) rfl
  |refine zR3 _ PassesOwn.never ?_ ?_
  |refine zMK (zBY (by decide)) (zN3 sc rfl rfl rfl (by rfl) (by decide +kernel)) rfl ?_ ⟨fun _ _ _ _ _=>?_,fun _ _ _ _ _=>?_,fun _ _ _ _ _=>?_⟩
  |refine zUe ?_ ?_
  |refine zRX ?_ ?_ ?_
  |refine zRY (zGa hr) ?_ ?_ ?_ ⟨rfl,rfl,rfl,rfl⟩
  |refine zVZ
  |refine zOP (zSZ 1 (by decide) hr) ?_ ?_
  |refine zTI rfl rfl T.z_tuple rfl T.z_range ?_ (zt rfl) rfl (zt rfl) rfl
  |refine zTF (zBY (by decide)) (zBy sc rfl rfl rfl (by decide +kernel) (by decide +kernel)) rfl ?_ ⟨fun _ _ _ _ _=>?_,fun _ _ _ _ _=>?_,fun _ _ _ _ _=>?_⟩
  |refine zRw rfl rfl T.z_sorted ?_ (zt rfl) rfl
  |refine zQ8 (by decide) (zBY (by decide)) (zBY (by decide)) (zBy sc rfl rfl rfl (by decide +kernel) (by decide +kernel)) rfl ?_ ⟨fun _ _ _ _ _=>?_,fun _ _ _ _ _=>?_,fun _ _ _ _ _=>?_,fun _ _ _ _ _=>?_,fun _ _ _ _ _=>?_,fun _ _ _ _ _=>?_,fun _ _ _ _ _ _=>rfl⟩
  |refine zRE
  |refine zSh rfl T.z_len ?_ (zt rfl) rfl
  |refine zVW ?_ ?_
  |refine zVE ?_ ?_
  |refine zRK ?_ ?_ ?_ ?_
  |refine zQj ?_ ?_
  |refine zQT ?_ ?_
  |refine zOK rfl T.z_range ?_ ?_ (zLE rfl rfl) (zFL rfl)
  |refine zPm ?_ ?_
  |refine zRH
  |refine zTS ?_
  |refine zUO ?_
  |refine zU1 ?_ ?_
  |refine zUj ?_ ?_
  |refine zLy sc.nd rfl (by first|exact Or.inl rfl|exact Or.inr rfl) (by first|exact .inl rfl|exact .inr rfl) rfl (zGa hr) (zBY (by decide)) (zBy sc rfl rfl rfl (by decide +kernel) (by decide +kernel)) rfl ?_ ⟨fun _ _ _ _ _=>?_,fun _ _ _ _ _=>?_,fun _ _ _ _ _=>?_⟩ fun _ _ _ _ _=>?_
  |refine zRp ?_
  |refine zVR ?_ ?_
  |refine zRu (zGa hr) (zBY (by decide)) (zBy sc rfl rfl rfl (by decide +kernel) (by decide +kernel)) rfl ?_ ⟨fun _ _ _ _ _=>?_,fun _ _ _ _ _=>?_,fun _ _ _ _ _=>?_⟩ fun _ _ _ _ _=>?_
  |refine zSr rfl T.z_list ?_ (zt rfl) rfl
  |refine zUR ?_ ?_
  |refine zVu hr.units0 ?_ ?_
  |refine zRT 0 (zSZ 0 (by decide) hr) ?_ ?_
  |refine zTu ?_
  |refine zRq rfl T.z_zip ?_ (zLE rfl rfl) (zFL rfl)
  |refine zSX (zLV (K:=K)) PassesOwn.never rfl ?_ ?_ ?_
  |refine zV2 sc.nd rfl ?_
  |refine zU8 (zSc ?_ ?_)
  |refine zU8 (zVX ?_ ?_)
  |refine zSe ?_)
abbrev zLO:List Str:=["machine"]
theorem zJb:FnScope zLO ["machine"] (zR zDv):=⟨rfl,rfl,rfl,by decide +kernel,rfl,by decide +kernel,by decide +kernel⟩
theorem zJu (T:Txt K mg):Od P w base 1 T.d_all_rooms zAE:=by
  unfold zAE;have sc:=zJb;exact zAB (n:=1) T.d_all_rooms.F sc rfl (fun cdv A outer s H E hr=>by
    unfold zDu;decreasing_trivial)
abbrev zOI:List Str:=["machine", "rooms", "letter", "room"]
theorem zMN:FnScope zOI ["machine", "rooms", "letter"] (zR zFi):=⟨rfl,rfl,rfl,by decide +kernel,rfl,by decide +kernel,by decide +kernel⟩
theorem zMI (T:Txt K mg):Od P w base 1 T.d_stepped zBJ:=by
  unfold zBJ;have sc:=zMN;exact zFK (zAB (n:=3) T.d_stepped.F sc rfl (fun cdv A outer s H E hr=>by
    unfold zFe;decreasing_trivial))
abbrev zLv:List Str:=["rooms", "one", "other"]
theorem zKv:FnScope zLv ["rooms"] (zR zEc):=⟨rfl,rfl,rfl,by decide +kernel,rfl,by decide +kernel,by decide +kernel⟩
theorem zK8 (T:Txt K mg):Od P w base 1 T.d_pairs_of zAO:=by
  unfold zAO;have sc:=zKv;exact zAB (n:=1) T.d_pairs_of.F sc rfl (fun cdv A outer s H E hr=>by
    unfold zEp;decreasing_trivial)
abbrev zKW:List Str:=["marks", "numbers", "mark"]
theorem zJf:FnScope zKW ["marks"] (zR zD9):=⟨rfl,rfl,rfl,by decide +kernel,rfl,by decide +kernel,by decide +kernel⟩
theorem zJv (T:Txt K mg):Od P w base 1 T.d_parted_by zCA:=by
  unfold zCA;have sc:=zJf;exact zAB (n:=1) T.d_parted_by.F sc rfl (fun cdv A outer s H E hr=>by
    unfold zEA;decreasing_trivial)
abbrev zKZ:List Str:=["_law_script", "_law_seed", "_law_cell"]
theorem zJh:FnScope zKZ ["_law_script"] (zR zDr):=⟨rfl,rfl,rfl,by decide +kernel,rfl,by decide +kernel,by decide +kernel⟩
theorem zJg (T:Txt K mg):Od P w base 1 T.d_law_begin zB6:=by
  unfold zB6;have sc:=zJh;exact zAB (n:=1) T.d_law_begin.F sc rfl (fun cdv A outer s H E hr=>by
    unfold zDq;decreasing_trivial)
abbrev zMW:List Str:=["_law_state", "_law_many", "_law_digit", "_law_mixed"]
theorem zKm:FnScope zMW ["_law_state", "_law_many"] (zR zEl):=⟨rfl,rfl,rfl,by decide +kernel,rfl,by decide +kernel,by decide +kernel⟩
theorem zLP (T:Txt K mg):Od P w base 1 T.d_law_next zZ:=by
  unfold zZ;have sc:=zKm;exact zAB (n:=2) T.d_law_next.F sc rfl (fun cdv A outer s H E hr=>by
    unfold zEm;decreasing_trivial)
abbrev zHL:List Str:=["_law_classes", "_law_known", "_law_own"]
theorem zF6:FnScope zHL ["_law_classes"] (zR zCj):=⟨rfl,rfl,rfl,by decide +kernel,rfl,by decide +kernel,by decide +kernel⟩
theorem zGK (T:Txt K mg):Od P w base 1 T.d_law_numbered zAt:=by
  unfold zAt;have sc:=zF6;exact zIw (zAB (n:=1) T.d_law_numbered.F sc rfl (fun cdv A outer s H E hr=>by
    unfold zCh;decreasing_trivial))
abbrev zMh:List Str:=["_law_one", "_law_other"]
theorem zKd:FnScope zMh ["_law_one", "_law_other"] (zR zEs):=⟨rfl,rfl,rfl,by decide +kernel,rfl,by decide +kernel,by decide +kernel⟩
theorem zKR (T:Txt K mg):Od P w base 1 T.d_law_pair zCk:=by
  unfold zCk;have sc:=zKd;exact zAB (n:=2) T.d_law_pair.F sc rfl (fun cdv A outer s H E hr=>by
    unfold zEu;decreasing_trivial)
abbrev zKb:List Str:=["_law_many", "_law_found", "_law_one", "_law_other"]
theorem zJc:FnScope zKb ["_law_many"] (zR zD2):=⟨rfl,rfl,rfl,by decide +kernel,rfl,by decide +kernel,by decide +kernel⟩
theorem zJ7 (T:Txt K mg):Od P w base 1 T.d_law_pairs zB4:=by
  unfold zB4;have sc:=zJc;exact zAB (n:=1) T.d_law_pairs.F sc rfl (fun cdv A outer s H E hr=>by
    unfold zD7;decreasing_trivial)
abbrev zN4:List Str:=["_law_machine_here", "_law_room", "_law_word_here", "_law_letter"]
theorem zMe:FnScope zN4 ["_law_machine_here", "_law_room", "_law_word_here"] (zR zFb):=⟨rfl,rfl,rfl,by decide +kernel,rfl,by decide +kernel,by decide +kernel⟩
theorem zMa (T:Txt K mg):Od P w base 1 T.d_law_led zCS:=by
  unfold zCS;have sc:=zMe;exact zAB (n:=3) T.d_law_led.F sc rfl (fun cdv A outer s H E hr=>by
    unfold zFl;decreasing_trivial)
abbrev zLG:List Str:=["machine", "sources", "pair", "letter", "goal"]
theorem zJ3:FnScope zLG ["machine"] (zR zD6):=⟨rfl,rfl,rfl,by decide +kernel,rfl,by decide +kernel,by decide +kernel⟩
theorem zJx (T:Txt K mg):Od P w base 2 T.d_ways_back zB5:=by
  unfold zB5;have sc:=zJ3;exact zAB (n:=1) T.d_ways_back.F sc rfl (fun cdv A outer s H E hr=>by
    unfold zDz;decreasing_trivial)
abbrev zGd:List Str:=["machine", "pair", "found", "goals", "letter", "goal"]
theorem zGJ:FnScope zGd ["machine", "pair", "found"] (zR zCl):=⟨rfl,rfl,rfl,by decide +kernel,rfl,by decide +kernel,by decide +kernel⟩
theorem zGN (T:Txt K mg):Od P w base 2 T.d_first_letter zAT:=by
  unfold zAT;have sc:=zGJ;exact zAB (n:=3) T.d_first_letter.F sc rfl (fun cdv A outer s H E hr=>by
    unfold zCa;decreasing_trivial)
abbrev zNy:List Str:=["machine", "steps", "pair", "word", "here", "letter"]
theorem zMY:FnScope zNy ["machine", "steps", "pair"] (zR zFf):=⟨rfl,rfl,rfl,by decide +kernel,rfl,by decide +kernel,by decide +kernel⟩
theorem zL0 (T:Txt K mg):Od P w base 2 T.d_climbed zBK:=by
  unfold zBK;have sc:=zMY;exact zAB (n:=3) T.d_climbed.F sc rfl (fun cdv A outer s H E hr=>by
    unfold zEU;decreasing_trivial)
abbrev zGY:List Str:=["machine", "parting", "one", "other"]
theorem zGG:FnScope zGY ["machine", "parting"] (zR zCi):=⟨rfl,rfl,rfl,by decide +kernel,rfl,by decide +kernel,by decide +kernel⟩
theorem zF7 (T:Txt K mg):Od P w base 2 T.d_pairs_across zAc:=by
  unfold zAc;have sc:=zGG;exact zAB (n:=2) T.d_pairs_across.F sc rfl (fun cdv A outer s H E hr=>by
    unfold zBa;decreasing_trivial)
abbrev zJU:List Str:=["machine", "found", "rooms", "one", "room"]
theorem zHk:FnScope zJU ["machine", "found"] (zR zDL):=⟨rfl,rfl,rfl,by decide +kernel,rfl,by decide +kernel,by decide +kernel⟩
theorem zHm (T:Txt K mg):Od P w base 2 T.d_parted_but zBi:=by
  unfold zBi;have sc:=zHk;exact zAB (n:=2) T.d_parted_but.F sc rfl (fun cdv A outer s H E hr=>by
    unfold zDc;decreasing_trivial)
abbrev zJH:List Str:=["_law_state", "_law_many", "_law_way", "_law_column_here", "_law_room", "_law_one", "_law_other", "_law_goal", "_law_made", "_law_left"]
theorem zHw:FnScope zJH ["_law_state", "_law_many", "_law_way"] (zR zDZ):=⟨rfl,rfl,rfl,by decide +kernel,rfl,by decide +kernel,by decide +kernel⟩
theorem zH6 (T:Txt K mg):Od P w base 2 T.d_law_column zAg:=by
  unfold zAg;have sc:=zHw;exact zAB (n:=3) T.d_law_column.F sc rfl (fun cdv A outer s H E hr=>by
    unfold zDJ;decreasing_trivial)
abbrev zMD:List Str:=["_law_state", "_law_machine_here", "_law_most", "_law_turn"]
theorem zKF:FnScope zMD ["_law_state", "_law_machine_here", "_law_most"] (zR zEk):=⟨rfl,rfl,rfl,by decide +kernel,rfl,by decide +kernel,by decide +kernel⟩
theorem zKJ (T:Txt K mg):Od P w base 2 T.d_law_word zBo:=by
  unfold zBo;have sc:=zKF;exact zAB (n:=3) T.d_law_word.F sc rfl (fun cdv A outer s H E hr=>by
    unfold zEa;decreasing_trivial)
abbrev zGh:List Str:=["_law_machine_here", "_law_pair_here", "_law_word_here"]
theorem zGF:FnScope zGh ["_law_machine_here", "_law_pair_here", "_law_word_here"] (zR zCb):=⟨rfl,rfl,rfl,by decide +kernel,rfl,by decide +kernel,by decide +kernel⟩
theorem zGC (T:Txt K mg):Od P w base 2 T.d_law_pair_led zAH:=by
  unfold zAH;have sc:=zGF;exact zAB (n:=3) T.d_law_pair_led.F sc rfl (fun cdv A outer s H E hr=>by
    unfold zCc;decreasing_trivial)
abbrev zI4:List Str:=["machine", "goals", "sources", "level", "found", "goal", "behind", "pair"]
theorem zHo:FnScope zI4 ["machine", "goals"] (zR zDV):=⟨rfl,rfl,rfl,by decide +kernel,rfl,by decide +kernel,by decide +kernel⟩
theorem zHt (T:Txt K mg):Od P w base 3 T.d_lengths_to zBI:=by
  unfold zBI;have sc:=zHo;exact zAB (n:=2) T.d_lengths_to.F sc rfl (fun cdv A outer s H E hr=>by
    unfold zDN;decreasing_trivial)
abbrev zLo:List Str:=["machine", "found", "pairs", "pair"]
theorem zKI:FnScope zLo ["machine", "found"] (zR zEo):=⟨rfl,rfl,rfl,by decide +kernel,rfl,by decide +kernel,by decide +kernel⟩
theorem zKH (T:Txt K mg):Od P w base 3 T.d_rungs_to zBU:=by
  unfold zBU;have sc:=zKI;exact zAB (n:=2) T.d_rungs_to.F sc rfl (fun cdv A outer s H E hr=>by
    unfold zEt;decreasing_trivial)
abbrev zH3:List Str:=["_law_state", "_law_most", "_law_letters", "_law_many", "_law_count", "_law_sort", "_law_columns", "_law_letter", "_law_way", "_law_column_here", "_law_room"]
theorem zGq:FnScope zH3 ["_law_state", "_law_most", "_law_letters"] (zR zCy):=⟨rfl,rfl,rfl,by decide +kernel,rfl,by decide +kernel,by decide +kernel⟩
theorem zHE (T:Txt K mg):Od P w base 3 T.d_law_machine zA3:=by
  unfold zA3;have sc:=zGq;exact zIw (zAB (n:=3) T.d_law_machine.F sc rfl (fun cdv A outer s H E hr=>by
    unfold zCz;decreasing_trivial))
abbrev zOQ:List Str:=["machine", "room"]
theorem zMZ:FnScope zOQ ["machine"] (zR zFj):=⟨rfl,rfl,rfl,by decide +kernel,rfl,by decide +kernel,by decide +kernel⟩
theorem zMJ (T:Txt K mg):Od P w base 4 T.d_lengths zBu:=by
  unfold zBu;have sc:=zMZ;exact zAB (n:=1) T.d_lengths.F sc rfl (fun cdv A outer s H E hr=>by
    unfold zFn;decreasing_trivial)
abbrev zJB:List Str:=["_law_state", "_law_most", "_law_letters", "_law_base", "_law_many", "_law_owners", "_law_room", "_law_turn", "_law_rows", "_law_own", "_law_row", "_law_goal", "_law_copies_here"]
theorem zHj:FnScope zJB ["_law_state", "_law_most", "_law_letters"] (zR zDe):=⟨rfl,rfl,rfl,by decide +kernel,rfl,by decide +kernel,by decide +kernel⟩
theorem zHr (T:Txt K mg):Od P w base 4 T.d_law_copies zBh:=by
  unfold zBh;have sc:=zHj;exact zAB (n:=3) T.d_law_copies.F sc rfl (fun cdv A outer s H E hr=>by
    unfold zDG;decreasing_trivial)
abbrev zRQ:List Str:=["machine"]
theorem zQi:FnScope zRQ ["machine"] (zR zI0):=⟨rfl,rfl,rfl,by decide +kernel,rfl,by decide +kernel,by decide +kernel⟩
theorem zO0 (T:Txt K mg):Od P w base 5 T.d_rungs zFD:=by
  unfold zFD;have sc:=zQi;exact zAB (n:=1) T.d_rungs.F sc rfl (fun cdv A outer s H E hr=>by
    unfold zJK;decreasing_trivial)
abbrev zRB:List Str:=["machine", "found", "pair"]
theorem zQU:FnScope zRB ["machine"] (zR zJj):=⟨rfl,rfl,rfl,by decide +kernel,rfl,by decide +kernel,by decide +kernel⟩
theorem zQr (T:Txt K mg):Od P w base 5 T.d_apart zEQ:=by
  unfold zEQ;have sc:=zQU;exact zFK (zAB (n:=1) T.d_apart.F sc rfl (fun cdv A outer s H E hr=>by
    unfold zJ2;decreasing_trivial))
abbrev zJY:List Str:=["_law_state", "_law_most", "_law_letters", "_law_machine_here", "_law_owners", "_law_few", "_law_room"]
theorem zHx:FnScope zJY ["_law_state", "_law_most", "_law_letters"] (zR zDY):=⟨rfl,rfl,rfl,by decide +kernel,rfl,by decide +kernel,by decide +kernel⟩
theorem zH5 (T:Txt K mg):Od P w base 5 T.d_law_either zBg:=by
  unfold zBg;have sc:=zHx;exact zIw (zAB (n:=3) T.d_law_either.F sc rfl (fun cdv A outer s H E hr=>by
    unfold zDP;decreasing_trivial))
abbrev zL6:List Str:=["machine", "one", "other", "pair", "steps"]
theorem zLR:FnScope zL6 ["machine", "one", "other"] (zR zEn):=⟨rfl,rfl,rfl,by decide +kernel,rfl,by decide +kernel,by decide +kernel⟩
theorem zKx (T:Txt K mg):Od P w base 6 T.d_together zCo:=by
  unfold zCo;have sc:=zLR;exact zFK (zAB (n:=3) T.d_together.F sc rfl (fun cdv A outer s H E hr=>by
    unfold zEw;decreasing_trivial))
abbrev zGn:List Str:=["machine", "found", "parting", "steps", "pair"]
theorem zF9:FnScope zGn ["machine"] (zR zCU):=⟨rfl,rfl,rfl,by decide +kernel,rfl,by decide +kernel,by decide +kernel⟩
theorem zF5 (T:Txt K mg):Od P w base 6 T.d_stable_shown zAI:=by
  unfold zAI;have sc:=zF9;exact zFK (zAB (n:=1) T.d_stable_shown.F sc rfl (fun cdv A outer s H E hr=>by
    unfold zBf;decreasing_trivial))
abbrev zOx:List Str:=["machine"]
theorem zNi:FnScope zOx ["machine"] (zR zGc):=⟨rfl,rfl,rfl,by decide +kernel,rfl,by decide +kernel,by decide +kernel⟩
theorem zOH (T:Txt K mg):Od P w base 7 T.d_stable zEG:=by
  unfold zEG;have sc:=zNi;exact zFK (zAB (n:=1) T.d_stable.F sc rfl (fun cdv A outer s H E hr=>by
    unfold zG9;decreasing_trivial))
abbrev zKl:List Str:=["_law_machine_here", "_law_pair_here", "_law_word_here", "_law_one", "_law_other"]
theorem zJ1:FnScope zKl ["_law_machine_here", "_law_pair_here"] (zR zDw):=⟨rfl,rfl,rfl,by decide +kernel,rfl,by decide +kernel,by decide +kernel⟩
theorem zJD (T:Txt K mg):Od P w base 7 T.d_law_meets zBX:=by
  unfold zBX;have sc:=zJ1;exact zAB (n:=2) T.d_law_meets.F sc rfl (fun cdv A outer s H E hr=>by
    unfold zDx;decreasing_trivial)
abbrev zUI:List Str:=["_law_script", "_law_state", "_law_turn", "_law_machine_here", "_law_words", "_law_parting", "_law_ways", "_law_lost", "_law_pairs_here", "_law_parted", "_law_pair_here", "_law_word_here", "_law_way"]
theorem zTc:FnScope zUI ["_law_script"] (zR zP1):=⟨rfl,rfl,rfl,by decide +kernel,rfl,by decide +kernel,by decide +kernel⟩
theorem zUE (T:Txt K mg):Od P w base 8 T.d_law zF2:=by
  unfold zF2;have sc:=zTc;exact zAB (n:=1) T.d_law.F sc rfl (fun cdv A outer s H E hr=>by
    unfold zQt;decreasing_trivial)
end
theorem zS7 {l:PySem.W.OpenLaw} {w:World} {K:PySem.W.Frag} {h:Heap} {mg:Str->Option Value} {fa:Addr} (X:K.In h) (G:h.Ns mainGlobals mg) (hfa:mg "law" = some (.ref fa))
    (g1:Dg K "all_rooms" zDv) (g2:Dg K "stepped" zFi) (g3:Dg K "pairs_of" zEc) (g4:Dg K "ways_back" zD6) (g5:Dg K "lengths_to" zDV) (g6:Dg K "lengths" zFj) (g7:Dg K "first_letter" zCl) (g8:Dg K "rungs_to" zEo) (g9:Dg K "rungs" zI0) (g10:Dg K "climbed" zFf) (g11:Dg K "together" zEn) (g12:Dg K "apart" zJj) (g13:Dg K "parted_by" zD9) (g14:Dg K "pairs_across" zCi) (g15:Dg K "parted_but" zDL) (g16:Dg K "stable_shown" zCU) (g17:Dg K "stable" zGc) (g18:Dg K "_law_begin" zDr) (g19:Dg K "_law_next" zEl) (g20:Dg K "_law_column" zDZ) (g21:Dg K "_law_machine" zCy) (g22:Dg K "_law_copies" zDe) (g23:Dg K "_law_numbered" zCj) (g24:Dg K "_law_either" zDY) (g25:Dg K "_law_pair" zEs) (g26:Dg K "_law_pairs" zD2) (g27:Dg K "_law_led" zFb) (g28:Dg K "_law_word" zEk) (g29:Dg K "_law_pair_led" zCb) (g30:Dg K "_law_meets" zDw) (g31:Dg K "law" zP1) (z1:Zn K "tuple") (z2:Zn K "range") (z3:Zn K "len") (z4:Zn K "sorted") (z5:Zn K "min") (z6:Zn K "enumerate") (z7:Zn K "max") (z8:Zn K "list") (z9:Zn K "zip") :
    ∃ fd:FuncData,(∀ (s:Shared) (v:Value),BindsTo s fd ⟨[v],[]⟩ [("_law_script", v)]) /\ ∀ base:Heap,K.In base->base.Ns mainGlobals mg->FnOk l.prog w K mg base CX0 8 fa fd ["_law_script"] (spF K 1 zF2):=by
  have e:=hfa.symm.trans (PySem.W.mg_of X G g31.a);cases e;let T:Txt K mg:=⟨g1.df X G fun _ _ _ _ _ _=>zFq fun _=>rfl,g2.df X G fun _ _ _ _ _ _=>zGm fun _ _ _=>rfl,g3.df X G fun _ _ _ _ _ _=>zFq fun _=>rfl,g4.df X G fun _ _ _ _ _ _=>zFq fun _=>rfl,g5.df X G fun _ _ _ _ _ _=>zLe fun _ _=>rfl,g6.df X G fun _ _ _ _ _ _=>zFq fun _=>rfl,g7.df X G fun _ _ _ _ _ _=>zGm fun _ _ _=>rfl,g8.df X G fun _ _ _ _ _ _=>zLe fun _ _=>rfl,g9.df X G fun _ _ _ _ _ _=>zFq fun _=>rfl,g10.df X G fun _ _ _ _ _ _=>zGm fun _ _ _=>rfl,g11.df X G fun _ _ _ _ _ _=>zGm fun _ _ _=>rfl,g12.df X G fun _ _ _ _ _ _=>zFq fun _=>rfl,g13.df X G fun _ _ _ _ _ _=>zFq fun _=>rfl,g14.df X G fun _ _ _ _ _ _=>zLe fun _ _=>rfl,g15.df X G fun _ _ _ _ _ _=>zLe fun _ _=>rfl,g16.df X G fun _ _ _ _ _ _=>zFq fun _=>rfl,g17.df X G fun _ _ _ _ _ _=>zFq fun _=>rfl,g18.df X G fun _ _ _ _ _ _=>zFq fun _=>rfl,g19.df X G fun _ _ _ _ _ _=>zLe fun _ _=>rfl,g20.df X G fun _ _ _ _ _ _=>zGm fun _ _ _=>rfl,g21.df X G fun _ _ _ _ _ _=>zGm fun _ _ _=>rfl,g22.df X G fun _ _ _ _ _ _=>zGm fun _ _ _=>rfl,g23.df X G fun _ _ _ _ _ _=>zFq fun _=>rfl,g24.df X G fun _ _ _ _ _ _=>zGm fun _ _ _=>rfl,g25.df X G fun _ _ _ _ _ _=>zLe fun _ _=>rfl,g26.df X G fun _ _ _ _ _ _=>zFq fun _=>rfl,g27.df X G fun _ _ _ _ _ _=>zGm fun _ _ _=>rfl,g28.df X G fun _ _ _ _ _ _=>zGm fun _ _ _=>rfl,g29.df X G fun _ _ _ _ _ _=>zGm fun _ _ _=>rfl,g30.df X G fun _ _ _ _ _ _=>zLe fun _ _=>rfl,g31.df X G fun _ _ _ _ _ _=>zFq fun _=>rfl,zW7 X G z1,zW7 X G z2,zW7 X G z3,zW7 X G z4,zW7 X G z5,zW7 X G z6,zW7 X G z7,zW7 X G z8,zW7 X G z9⟩;refine ⟨T.d_law.fd,fun s v=> .of_eq rfl,fun base _ _=>?_⟩;exact zUE (P:=l.prog) (w:=w) (base:=base) T
theorem zVd {l:PySem.W.OpenLaw} {q:Program} {loose:List Str} {XP:(Str->Option Value)->Heap->Prop} {YP:World->Heap->Prop} {d:DefRec} {K:Params->PySem.W.Frag} (hn:l.most=some 63) (hdf:d.params.defaults=[])
    (hY:∀ (w:World) (h:Heap),YP w h->(K w.params).In h) (hL:∀ w:World,zJy (K w.params)=true)
    (F:∀ (w:World) (mg:Str->Option Value) (fa:Addr) (h:Heap),(K w.params).In h->h.Ns mainGlobals mg->mg d.name=some (.ref fa) ->
      ∃ fd:FuncData,(∀ (s:Shared) (u:Value),BindsTo s fd ⟨[u],[]⟩ [("_law_script", u)]) /\ ∀ base:Heap,(K w.params).In base->base.Ns mainGlobals mg->FnOk l.prog w (K w.params) mg base CX0 8 fa fd ["_law_script"] (spF (K w.params) 1 zF2)) :
    PySem.W.WalkO q loose XP YP l.row.toRowW d [] (fun f vs=>PySem.call f vs) :=
  L2.zRf (n:=63) (k:=8) (x := "_law_script") (CX:=fun _=>CX0) (sp:=fun w=>spF (K w.params) 1 zF2) hn (by decide) hdf ⟨rfl,by decide,by decide⟩ hY F
    (fun w H a ns hl hO hS=>zOl (hL w) hO hS (zOy ns hl)) fun _ _ _ _ _ z=>z
end Lad
open PySem PySem.W PyProof.Rows
set_option maxRecDepth 100000 in
set_option maxHeartbeats 0 in
theorem PySem.Challenge.cw_bringhome_k82_whole_stable_by_pairs_holds : PySem.Challenge.rw_bringhome_k82_whole_stable_by_pairs.Holds := by
  w_on;o_law;k_head;(case hw=>w_witness2);k_fill;refine Lad.zVd (l:=PySem.Challenge.rw_bringhome_k82_whole_stable_by_pairs) rfl rfl (fun w h Y=>PySem.W.kIn_of Y) (fun w=>by rfl) ?F
  case F=>
    intro w mg fa h KX G hmg;refine' Lad.zS7 KX G hmg ?_ ?_ ?_ ?_ ?_ ?_ ?_ ?_ ?_ ?_ ?_ ?_ ?_ ?_ ?_ ?_ ?_ ?_ ?_ ?_ ?_ ?_ ?_ ?_ ?_ ?_ ?_ ?_ ?_ ?_ ?_ ?_ ?_ ?_ ?_ ?_ ?_ ?_ ?_ ?_;all_goals first|exact ⟨_,by k_is,by k_is,by k_is,by k_is⟩|(unfold L3.Zn;k_is)|(unfold L3.Ki;kit_is)|k_is
