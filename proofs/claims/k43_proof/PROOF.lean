import PyProof.Rows.All
import Wide.All
import OpenK.AllK
import Wide.FinOn
import Lean
import PyProof.EqAt
import PyProof.EqKinds
import PyProof.TupleCall
import PyProof.NeKinds
import PyProof.ZipIter
import PyProof.ListRange
import PyProof.TupleOfSeq
import PyProof.ConsumeWalk
import PyProof.IsRules
import PyProof.SetKind
import PyProof.SetRoads
import PyProof.Rows.SetFrom
import PyProof.Draws
import PyProof.EnumMake
import PyProof.DictCompW
import PyProof.ListMulRoad
import PyProof.Rows.SeqMore2
import PyProof.WalkInts
import PyProof.DictRoadsH
import PyProof.DictItems
import KE.KDictList
import KE.KDictOf
import PyProof.AttrMissHeap
import PyProof.SliceList
import KE.KRevIter
import PySem.Challenge.RW_bringhome_k43_kept_by_pairs
namespace PySem.W.Fast
def tw6246468268270912050:=0
def tw4853844723137185143:=0
def tw2814142366284964635:=0
def tw7233048466993186216:=0
def tw247030921895189762:=0
def tw5406288763486517524:=0
def tw12514315940962992719:=0
def tw7021460554953937595:=0
def tw12031453584430715490:=0
def tw9941232423050858859:=0
def tw9261445472185688916:=0
def tw10669335618526258001:=0
def tw9565886794480551500:=0
def tw12435450566047964862:=0
def tw1891898418644167681:=0
def tw5764422266308406046:=0
def tw3242609124107054257:=0
def tw17024155511786131634:=0
def tw8996152420850315790:=0
def tw3939732961701523542:=0
def tw18062730403387518255:=0
def tw15792924315123869761:=0
def tw10880222972809959617:=0
def tw6916989806073891209:=0
def tw11043559587918140142:=0
def tw17440365381600008085:=0
def tw17487978568825882886:=0
def tw4315185620120736252:=0
def tw4293723938291101002:=0
def tw8024013561636593582:=0
end PySem.W.Fast
section
open PySem PySem.Spec PyProof.Rows
theorem zQG:type_of% @wpAny_bind:=@wpAny_bind
theorem zQH:type_of% @Heap.get?_push_of_some:=@Heap.get?_push_of_some
theorem zQI:type_of% @wpAny_pure:=@wpAny_pure
theorem zQJ:type_of% @List.getElem?_eq_some_iff:=@List.getElem?_eq_some_iff
theorem zQK:type_of% @List.getElem?_eq_getElem:=@List.getElem?_eq_getElem
theorem zQL:type_of% @List.getD_eq_getElem?_getD:=@List.getD_eq_getElem?_getD
theorem zQM:type_of% @Nat.le_refl:=@Nat.le_refl
theorem zQN:type_of% @List.getElem?_append_left:=@List.getElem?_append_left
theorem zQO:type_of% @List.size_toArray:=@List.size_toArray
theorem zQP:type_of% @List.length_map:=@List.length_map
theorem zQQ:type_of% @Heap.get?_push_size:=@Heap.get?_push_size
theorem zQR:type_of% @Heap.lt_size:=@Heap.lt_size
theorem zQS:type_of% @List.mem_cons:=@List.mem_cons
theorem zQT:type_of% @List.mem_cons_of_mem:=@List.mem_cons_of_mem
theorem zQU:type_of% @List.mem_cons_self:=@List.mem_cons_self
theorem zQV:type_of% @if_pos:=@if_pos
theorem zQW:type_of% @List.length_append:=@List.length_append
theorem zQX:type_of% @List.mem_map:=@List.mem_map
theorem zQY:type_of% @if_neg:=@if_neg
theorem zQZ:type_of% @List.map_cons:=@List.map_cons
theorem zQa:type_of% @List.mem_append_right:=@List.mem_append_right
theorem zQb:type_of% @Nat.ne_of_lt:=@Nat.ne_of_lt
theorem zQc:type_of% @Bool.false_ne_true:=@Bool.false_ne_true
theorem zQd:type_of% @List.getElem?_map:=@List.getElem?_map
theorem zQe:type_of% @List.map_map:=@List.map_map
theorem zQf:type_of% @Nat.lt_of_lt_of_le:=@Nat.lt_of_lt_of_le
theorem zQg:type_of% @List.mem_append:=@List.mem_append
theorem zQh:type_of% @Nat.le_trans:=@Nat.le_trans
theorem zQi:type_of% @List.mem_singleton:=@List.mem_singleton
theorem zQk:type_of% @List.getElem?_set_ne:=@List.getElem?_set_ne
theorem zQl:type_of% @List.not_mem_nil:=@List.not_mem_nil
theorem zQm:type_of% @wpAny_mono:=@wpAny_mono
theorem zQn:type_of% @List.length_cons:=@List.length_cons
theorem zQo:type_of% @List.getElem_mem:=@List.getElem_mem
theorem zQp:type_of% @decide_eq_false:=@decide_eq_false
theorem zQq:type_of% @Bool.and_eq_true:=@Bool.and_eq_true
theorem zQr:type_of% @List.all_eq_true:=@List.all_eq_true
theorem zQs:type_of% @wpAny_callSpecial?_slot:=@wpAny_callSpecial?_slot
theorem zQt:type_of% @wpAny_call_entry:=@wpAny_call_entry
theorem zQu:type_of% @List.mem_range:=@List.mem_range
theorem zQv:type_of% @wpAny_field:=@wpAny_field
theorem zQw:type_of% @Heap.size_push:=@Heap.size_push
theorem zQx:type_of% @Heap.get?_update_other:=@Heap.get?_update_other
theorem zQy:type_of% @Nat.lt_irrefl:=@Nat.lt_irrefl
theorem zQ0:type_of% @List.append_nil:=@List.append_nil
theorem zQ2:type_of% @Nat.zero_le:=@Nat.zero_le
theorem zQ6:type_of% @wpAny_seqItems:=@wpAny_seqItems
theorem zQ7:type_of% @List.mem_of_getElem?:=@List.mem_of_getElem?
theorem zQ8:type_of% @List.map_append:=@List.map_append
theorem zQ9:type_of% @wpAny_holding:=@wpAny_holding
theorem zRA:type_of% @List.getElem?_set_self:=@List.getElem?_set_self
theorem zRF:type_of% @PySem.W.mg_none_of:=@PySem.W.mg_none_of
theorem zRG:type_of% @Option.some.inj:=@Option.some.inj
theorem zRI:type_of% @PySem.mem_of_lookup:=@PySem.mem_of_lookup
theorem zRK:type_of% @List.cons.inj:=@List.cons.inj
theorem zRO:type_of% @decide_eq_true:=@decide_eq_true
theorem zRQ:type_of% @List.getElem?_append_right:=@List.getElem?_append_right
theorem zRT:type_of% @decide_eq_true_eq:=@decide_eq_true_eq
theorem zRV:type_of% @List.mem_append_left:=@List.mem_append_left
theorem zRW:type_of% @wpAny_setField_rec:=@wpAny_setField_rec
theorem zRZ:type_of% @List.replicate_succ:=@List.replicate_succ
theorem zRb:type_of% @or_false:=@or_false
theorem zRe:type_of% @List.length_take:=@List.length_take
theorem zRl:type_of% @Nat.ne_of_gt:=@Nat.ne_of_gt
theorem zRo:type_of% @PyProof.Rows.slot_tuple_getitem:=@PyProof.Rows.slot_tuple_getitem
theorem zRp:type_of% @List.getElem?_set:=@List.getElem?_set
theorem zRt:type_of% @PySem.W.kia_one:=@PySem.W.kia_one
theorem zRu:type_of% @PySem.F.slot_zip_next:=@PySem.F.slot_zip_next
theorem zR2:type_of% @List.find?_cons:=@List.find?_cons
theorem zR5:type_of% @Nat.le_add_right:=@Nat.le_add_right
theorem zSF:type_of% @List.flatten_cons:=@List.flatten_cons
theorem zSG:type_of% @wpAny_onRaise:=@wpAny_onRaise
theorem zSL:type_of% @List.lookup_cons:=@List.lookup_cons
theorem zUM:type_of% @List.getElem?_zip_eq_some:=@List.getElem?_zip_eq_some
end
set_option Elab.async false
set_option linter.all false
set_option maxRecDepth 100000
set_option genSizeOf false
set_option genInjectivity false
noncomputable section
namespace L2
open PySem PySem.Spec PyProof.Rows
abbrev Key:=Sum Int Str
def zE5:Key -> Value -> Bool
 | .inl k,v=>Value.isInt k v
 | .inr x,v=>Value.isStrOf x v
def zP9 (w:World):Key -> Int
 | .inl k=>hashInt k
 | .inr x=>hashStr w x
theorem zAG:∀ {k:Key} {v:Value},zE5 k v = true -> (∃ i t,k = Sum.inl i /\ v = Value.int i t) \/ (∃ x t,k = Sum.inr x /\ v = Value.str x t)
 | .inl i,v,h=>by
  obtain ⟨t,e⟩:=Value.isInt_shape (k:=i) (v:=v) h;exact .inl ⟨i,t,rfl,e⟩
 | .inr x,v,h=>by
  obtain ⟨t,e⟩:=Value.isStrOf_shape (x:=x) (v:=v) h;exact .inr ⟨x,t,rfl,e⟩
theorem zI1 (i:Int) (t:Tok):zE5 (.inl i) (.int i t) = true:=by simp [zE5,Value.isInt]
theorem zJI (x:Str) (t:Tok):zE5 (.inr x) (.str x t) = true:=by simp [zE5,Value.isStrOf]
theorem zOP (a b:Int):decide ((Sum.inl a:Key) = Sum.inl b) = (a == b):=by
 by_cases e:a = b
 ·subst e; simp
 ·have h:¬ (Sum.inl a:Key) = Sum.inl b:=fun q=>e (Sum.inl.inj q);rw [zQp h];exact (beq_eq_false_iff_ne.mpr e).symm
theorem zNE (a b:Str):decide ((Sum.inr a:Key) = Sum.inr b) = decide (a = b):=by
 by_cases e:a = b
 ·subst e; simp
 ·have h:¬ (Sum.inr a:Key) = Sum.inr b:=fun q=>e (Sum.inr.inj q);rw [zQp h,zQp e]
theorem zNu (a:Int) (b:Str):decide ((Sum.inl a:Key) = Sum.inr b) = false:=zQp (fun q=>nomatch q)
theorem zN2 (a:Str) (b:Int):decide ((Sum.inr a:Key) = Sum.inl b) = false:=zQp (fun q=>nomatch q)
def zy (prog:Program) (w:World):PySem.KeyKind prog w Key where
 is:=zE5
 hash:=zP9 w
 inj:=fun v a b ha hb=>by
  rcases zAG ha with ⟨i,t,rfl,rfl⟩ | ⟨x,t,rfl,rfl⟩
  ·rcases zAG hb with ⟨j,u,rfl,e⟩ | ⟨y,u,rfl,e⟩
   ·injection e with e1 _; rw [e1]
   ·exact nomatch e
  ·rcases zAG hb with ⟨j,u,rfl,e⟩ | ⟨y,u,rfl,e⟩
   ·exact nomatch e
   ·injection e with e1 _; rw [e1]
 byValue:=fun k v h=>by
  rcases zAG h with ⟨i,t,rfl,rfl⟩ | ⟨x,t,rfl,rfl⟩ <;> rfl
 pyHash:=fun hv h=>by
  rcases zAG hv with ⟨i,t,rfl,rfl⟩ | ⟨x,t,rfl,rfl⟩
  ·exact wpAny_pyHash_int h
  ·exact wpAny_pyHash_str h
 eqBool:=fun hu hv h=>by
  rcases zAG hu with ⟨i,t,rfl,rfl⟩ | ⟨x,t,rfl,rfl⟩
  ·rcases zAG hv with ⟨j,u,rfl,rfl⟩ | ⟨y,u,rfl,rfl⟩
   ·rw [zOP] at h; exact wpAny_eqBool_int h
   ·rw [zNu] at h; exact SeqAt.EqAt.int_str i t y u _ _ _ _ h
  ·rcases zAG hv with ⟨j,u,rfl,rfl⟩ | ⟨y,u,rfl,rfl⟩
   ·rw [zN2] at h; exact SeqAt.EqAt.str_int x t j u _ _ _ _ h
   ·rw [zNE] at h; exact wpAny_eqBool_str h
 «strs»:=fun k x t v h=>by
  rcases zAG h with ⟨i,u,rfl,e⟩ | ⟨y,u,rfl,e⟩
  ·exact nomatch e
  ·injection e with e1 _
   subst e1
   cases v <;> rfl
theorem zGh (prog:Program) (w:World) (i:Int) (t:Tok):(zy prog w).is (.inl i) (.int i t) = true:=zI1 i t
theorem zGm (prog:Program) (w:World) (x:Str) (t:Tok):(zy prog w).is (.inr x) (.str x t) = true:=zJI x t
set_option genInjectivity true in
inductive V where
 | non | bl (b:Bool) | int (i:Int) | str (x:Str) | byt (b:Array UInt8) | flt (b:UInt64) | ref (a:Addr) | ty (n:String)
 deriving DecidableEq
def ze:V -> Value -> Prop
 | .non,u=>u = Value.none
 | .bl b,u=>u = Value.bool b
 | .int i,u=>∃ t,u = Value.int i t
 | .str x,u=>∃ t,u = Value.str x t
 | .byt b,u=>∃ t,u = Value.bytes b t
 | .flt b,u=>∃ t,u = Value.float b t
 | .ref a,u=>u = Value.ref a
 | .ty n,u=>u = Value.type n
abbrev zV:List V -> List Value -> Prop:=Paired ze
theorem zV.length {xs:List V} {us:List Value} (r:zV xs us):xs.length = us.length:=Paired.length r
theorem zV.get:∀ {xs:List V} {us:List Value} {i:Nat} {x:V},zV xs us -> xs[i]? = some x -> ∃ u,us[i]? = some u /\ ze x u
 | _,_,_,_,.nil,e=>by simp at e
 | _,_,0,_,.cons r _,e=>by simp at e; subst e; exact ⟨_,rfl,r⟩
 | _,_,i + 1,x,.cons _ t,e=>by
  obtain ⟨u,h1,h2⟩:=zV.get (i:=i) (x:=x) t (by simpa using e);exact ⟨u,by simpa using h1,h2⟩
theorem zV.set {x:V} {u:Value} (r:ze x u):∀ {xs:List V} {us:List Value} (i:Nat),zV xs us -> zV (xs.set i x) (us.set i u)
 | _,_,_,.nil=> .nil
 | _,_,0,.cons _ t=> .cons r t
 | _,_,i + 1,.cons q t=> .cons q (zV.set r i t)
theorem zV.append:∀ {xs ys:List V} {us ws:List Value},zV xs us -> zV ys ws -> zV (xs ++ ys) (us ++ ws)
 | _,_,_,_,.nil,s=>s
 | _,_,_,_,.cons r t,s=> .cons r (zV.append t s)
theorem zV.take:∀ {xs:List V} {us:List Value} (n:Nat),zV xs us -> zV (xs.take n) (us.take n)
 | _,_,0,_=> .nil
 | _,_,_ + 1,.nil=> .nil
 | _,_,n + 1,.cons r t=> .cons r (zV.take n t)
theorem zV.drop:∀ {xs:List V} {us:List Value} (n:Nat),zV xs us -> zV (xs.drop n) (us.drop n)
 | _,_,0,r=>r
 | _,_,_ + 1,.nil=> .nil
 | _,_,n + 1,.cons _ t=>zV.drop n t
def zEV:Option V -> Option Value -> Prop
 | some v,some u=>ze v u
 | none,none=>True
 | _,_=>False
def KV {κ:Type}:List (κ × V) -> List (κ × Value) -> Prop:=Paired fun (p:κ × V) (q:κ × Value)=>p.1 = q.1 /\ ze p.2 q.2
def kV:Key -> V
 | .inl i=> .int i
 | .inr x=> .str x
set_option genInjectivity true in
inductive HO where
 | lst (xs:List V)
 | tup (xs:List V)
 | dK (kvs:List (Key × V)) | dT (kvs:List (List Key × V))
 | set (S:Int -> Bool) (n:Nat)
 | ins (C dx:Addr) (fs:List (Str × V))
 | own (x:Addr)
 | xd (fs:List (Str × V))
 | met (f x:Addr)
 | rng (lo hi:Int)
 | frz (o:Obj) (u:HO)
 | tbl (ps:Array Value)
 | ext (φ:Heap -> Prop)
abbrev Hp:=Addr -> Option HO
def upd (H:Hp) (a:Addr) (o:HO):Hp:=fun b=>if b = a then some o else H b
theorem zm {H:Hp} {a:Addr} {o:HO}:upd H a o a = some o:=by unfold upd; rw [zQV rfl]
theorem zO {H:Hp} {a b:Addr} {o:HO} (h:b ≠ a):upd H a o b = H b:=by unfold upd; rw [zQY h]
theorem zFC {H:Hp} {a b:Addr} {o u:HO} (h:H a = some o) (h':H b = some u) (d:o ≠ u):a ≠ b:=by
 intro e; subst e; rw [h] at h'; exact d (zRG h')
theorem zd {H:Hp} {a b:Addr} {o:HO} (h:H a = some o) (h':H b = none):a ≠ b:=by
 intro e; subst e; rw [h] at h'; cases h'
def zBQ (h:Heap) (a:Addr) (items:Array Value):Prop:=∃ o,h.get? a = some o /\ o.cls = .type "tuple" /\ (∃ n,o.data = .seq items n) /\ o.dict = none
theorem zBQ.tup {h:Heap} {a:Addr} {items:Array Value} (x:zBQ h a items):IsTup h a items:=let ⟨o,e,c,d,_⟩:=x; ⟨o,e,c,d⟩
theorem zBQ.lt {h:Heap} {a:Addr} {items:Array Value} (x:zBQ h a items):a < h.objs.size:=let ⟨_,e,_⟩:=x; zQR e
theorem zBQ.new (h:Heap) (items:Array Value):zBQ (h.push { cls:=.type "tuple", data:=.seq items }) h.objs.size items:=⟨_,zQQ _ rfl,rfl,⟨_,rfl⟩,rfl⟩
section
variable (P:Program) (w:World)
def zt (H:Hp) (h:Heap) (a:Addr):HO -> Prop
 | .lst xs=>xs.length <= sizeLine /\ ∃ (its:List Value) (n:Nat),zV xs its /\ h.get? a = some { cls:=.type "list", data:=.seq its.toArray n }
 | .tup xs=>xs.length <= sizeLine /\ ∃ its:List Value,zV xs its /\ zBQ h a its.toArray
 | .dK kvs=>kvs.length <= sizeLine /\ (a == sysModules) = false /\ ∃ vs,KV kvs vs /\ h.DictOf (zy P w) a vs
 | .dT kvs=>kvs.length <= sizeLine /\ (a == sysModules) = false /\ ∃ xs:List (List Key × Addr × Value),
   Paired (fun (p:List Key × V) (q:List Key × Addr × Value)=>p.1 = q.1 /\ H q.2.1 = some (.tup (p.1.map kV)) /\ ze p.2 q.2.2) kvs xs /\
   ∃ o es ep,h.get? a = some o /\ o.ExactDict /\ o.data = .dict es ep /\ es.toList = xs.map (entryOfKey (tupleKind (zy P w))) /\ (xs.map (·.1)).Nodup
 | .set S n=>h.SetOf (intKind P w) a S n
 | .ins C dx fs=>H dx = some (.own a) /\ fs.length <= 1000 /\ dx ≠ a /\ h.get? a = some (PySem.W.instObj C dx) /\
   ∃ mA,h.Ns1 dx mA /\ (∀ f,zEV (fs.lookup f) (mA f)) /\ PySem.Within mA (fs.map (·.1))
 | .own _=>∃ o,h.get? a = some o
 | .xd fs=>∃ mA,h.Ns1 a mA /\ ∀ f,zEV (fs.lookup f) (mA f)
 | .rng lo hi=>∃ t u v,h.get? a = some { cls:=.type "range", data:=.fields #[.int lo t,.int hi u,.int 1 v] }
 | .frz o u=>h.get? a = some o /\ zt H h a u
 | .tbl ps=>h.get? a = some { cls:=.none,data:=.fields ps }
 | .met f x=>h.get? a = some (PySem.W.methodObj (.ref f) (.ref x))
 | .ext φ=>φ h /\ (∃ o,h.get? a = some o) /\ ∀ h1 h2:Heap,φ h1 -> (∀ o,h1.get? a = some o -> h2.get? a = some o) -> φ h2
def HOk (H:Hp) (h:Heap):Prop:=∀ a o,H a = some o -> zt P w H h a o
end
section
variable {P:Program} {w:World} {H H':Hp} {h h':Heap} {a:Addr} {o:HO}
theorem zt.lt (x:zt P w H h a o):a < h.objs.size:=by
 cases o with
 | lst xs=>obtain ⟨_,_,_,_,e⟩:=x; exact zQR e
 | tup xs=>obtain ⟨_,_,_,p⟩:=x; exact p.lt
 | dK kvs=>obtain ⟨_,_,_,_,o,_,_,e,_⟩:=x; exact zQR e
 | dT kvs=>obtain ⟨_,_,_,_,o,_,_,e,_⟩:=x; exact zQR e
 | set S n=>obtain ⟨o,_,_,_,e,_⟩:=x; exact zQR e
 | ins C dx fs=>obtain ⟨_,_,_,e,_⟩:=x; exact zQR e
 | own y=>obtain ⟨_,e⟩:=x; exact zQR e
 | xd fs=>obtain ⟨_,⟨_,_,_,e,_⟩,_⟩:=x; exact zQR e
 | rng lo hi=>obtain ⟨_,_,_,e⟩:=x; exact zQR e
 | frz ob u=>obtain ⟨e,_⟩:=x; exact zQR e
 | tbl ps=>exact zQR (show h.get? a = some _ from x)
 | met f y=>exact zQR (show h.get? a = some _ from x)
 | ext φ=>obtain ⟨_,⟨_,e⟩,_⟩:=x; exact zQR e
theorem Paired.mapP {α β:Type} {F G:α -> β -> Prop}:∀ {l₁:List α} {l₂:List β},Paired F l₁ l₂ -> (∀ a b,F a b -> G a b) -> Paired G l₁ l₂
 | _,_,.nil,_=> .nil
 | _,_,.cons r t,f=> .cons (f _ _ r) (Paired.mapP t f)
theorem zt.stay (x:zt P w H h a o) (k:∀ b u,(b = a \/ H b = some (.own a)) -> h.get? b = some u -> h'.get? b = some u)
  (ho:∀ b,H b = some (.own a) -> H' b = some (.own a)) (ht:∀ b xs,H b = some (.tup xs) -> H' b = some (.tup xs)):zt P w H' h' a o:=by
 induction o with
 | lst xs=>obtain ⟨z,its,n,r,e⟩:=x; exact ⟨z,its,n,r,k _ _ (.inl rfl) e⟩
 | tup xs=>obtain ⟨z,its,r,ob,e,c⟩:=x; exact ⟨z,its,r,ob,k _ _ (.inl rfl) e,c⟩
 | dK kvs=>obtain ⟨z,y,vs,r,ob,es,ep,e,c⟩:=x; exact ⟨z,y,vs,r,ob,es,ep,k _ _ (.inl rfl) e,c⟩
 | dT kvs=>
  obtain ⟨z,y,xs,r,ob,es,ep,e,c⟩:=x;exact ⟨z,y,xs,Paired.mapP r fun p q z=>⟨z.1,ht _ _ z.2.1,z.2.2⟩,ob,es,ep,k _ _ (.inl rfl) e,c⟩
 | set S n=>obtain ⟨ob,es,ep,t,e,c⟩:=x; exact ⟨ob,es,ep,t,k _ _ (.inl rfl) e,c⟩
 | ins C dx fs=>
  obtain ⟨d,z,ne,e,mA,⟨od,es,ep,e2,c⟩,r⟩:=x;exact ⟨ho _ d,z,ne,k _ _ (.inl rfl) e,mA,⟨od,es,ep,k _ _ (.inr d) e2,c⟩,r⟩
 | own y=>obtain ⟨ob,e⟩:=x; exact ⟨ob,k _ _ (.inl rfl) e⟩
 | xd fs=>obtain ⟨mA,⟨od,es,ep,e,c⟩,r⟩:=x; exact ⟨mA,⟨od,es,ep,k _ _ (.inl rfl) e,c⟩,r⟩
 | rng lo hi=>obtain ⟨t,u,v,e⟩:=x; exact ⟨t,u,v,k _ _ (.inl rfl) e⟩
 | frz ob u ih=>obtain ⟨e,q⟩:=x; exact ⟨k _ _ (.inl rfl) e,ih q⟩
 | tbl ps=>
  have e:h.get? a = some { cls:=.none,data:=.fields ps }:=x;show h'.get? a = some { cls:=.none,data:=.fields ps };exact k a _ (.inl rfl) e
 | met f y=>
  have e:h.get? a = some (PySem.W.methodObj (.ref f) (.ref y)):=x;show h'.get? a = some (PySem.W.methodObj (.ref f) (.ref y));exact k a _ (.inl rfl) e
 | ext φ=>obtain ⟨p,⟨o,e⟩,st⟩:=x; exact ⟨st _ _ p fun o q=>k _ _ (.inl rfl) q,⟨o,k _ _ (.inl rfl) e⟩,st⟩
theorem HOk.lt (x:HOk P w H h) (e:H a = some o):a < h.objs.size:=(x a o e).lt
theorem HOk.fresh (x:HOk P w H h) (e:h.objs.size <= a):H a = none:=by
 cases q:H a with
 | none=>rfl
 | some u=>exact absurd (zQf (x.lt q) e) (zQy _)
theorem HOk.kept (x:HOk P w H h) (k:∀ b u,h.get? b = some u -> h'.get? b = some u):HOk P w H h':=fun a o e=>
 (x a o e).stay (fun b u _ q=>k b u q) (fun _ q=>q) fun _ _ q=>q
theorem HOk.laid (x:HOk P w H h) (k:∀ b u,h.get? b = some u -> h'.get? b = some u) (hp:h.objs.size <= a) (new:zt P w (upd H a o) h' a o):HOk P w (upd H a o) h':=fun b u e=>by
 have hn:=x.fresh hp;by_cases hb:b = a
 ·subst hb; rw [zm] at e; cases e; exact new
 ·rw [zO hb] at e;exact (x b u e).stay (fun c v _ q=>k c v q) (fun c q=>by rw [zO (zd q hn)]; exact q) fun c xs q=>by rw [zO (zd q hn)]; exact q
end
def Rd (H:Hp) (a:Addr) (u:HO):Prop:=H a = some u \/ ∃ o,H a = some (.frz o u)
theorem Rd.ok {P:Program} {w:World} {H:Hp} {h:Heap} {a:Addr} {u:HO} (r:Rd H a u) (x:HOk P w H h):zt P w H h a u:=by
 rcases r with r | ⟨o,r⟩
 ·exact x a u r
 ·obtain ⟨_,q⟩:=x a _ r;exact q
def Mut:Option HO -> Prop
 | some (.lst _)=>True
 | some (.dK _)=>True
 | some (.dT _)=>True
 | some (.set _ _)=>True
 | some (.ins _ _ _)=>True
 | some (.ext _)=>True
 | _=>False
section
variable {P:Program} {w:World} {H:Hp} {h h':Heap} {x e:Addr} {o':HO}
theorem HOk.write (ok:HOk P w H h) (mu:Mut (H x)) (he:e = x \/ H e = some (.own x)) (k:∀ b u,b ≠ e -> h.get? b = some u -> h'.get? b = some u) (heo:∃ u,h'.get? e = some u)
  (new:zt P w (upd H x o') h' x o'):HOk P w (upd H x o') h':=fun b u q=>by
 have nown:∀ c y,H c = some (.own y) -> c ≠ x:=fun c y r z=>by subst z; rw [r] at mu; exact mu
 have ntup:∀ c xs,H c = some (.tup xs) -> c ≠ x:=fun c xs r z=>by subst z; rw [r] at mu; exact mu
 by_cases hb:b = x
 ·subst hb; rw [zm] at q; cases q; exact new
 ·rw [zO hb] at q;by_cases hbe:b = e
  ·have q':H b = some (.own x):=by
    rcases he with z | z
    ·exact absurd (hbe.trans z) hb
    ·rw [hbe]; exact z
   rw [q] at q'; cases q';obtain ⟨v,hv⟩:=heo;exact ⟨v,by rw [hbe]; exact hv⟩
  ·refine (ok b u q).stay (fun c v hc r=>k c v ?_ r) (fun c r=>by rw [zO (nown c b r)]; exact r) fun c xs r=>by rw [zO (ntup c xs r)]; exact r
   rcases hc with rfl | hc
   ·exact hbe
   ·rintro rfl;rcases he with z | z
    ·exact nown c b hc z
    ·rw [hc] at z; cases z; exact hb rfl
end
structure Un (fs ex:List Addr) (H H':Hp) (h h':Heap):Prop where
 keep:∀ b o,h.get? b = some o -> H b = none -> b ∉ fs -> b ∉ ex -> h'.get? b = some o
 slot:∀ b o,h.get? b = some o -> H b = none -> b ∈ fs -> b ∉ ex -> ∃ sl,h'.get? b = some { o with slots:=sl }
 free:∀ b o,h.get? b = some o -> H b = none -> b ∉ ex -> H' b = none
 there:∀ b o,h.get? b = some o -> b ∉ ex -> ∃ o',h'.get? b = some o'
 tups:∀ b xs,H b = some (.tup xs) -> H' b = some (.tup xs)
 frzs:∀ b o u,H b = some (.frz o u) -> H' b = some (.frz o u)
 tbls:∀ b ps,H b = some (.tbl ps) -> ∃ more,H' b = some (.tbl (ps ++ more))
section
variable {fs fs' ex ex':List Addr} {H H1 H2:Hp} {h h1 h2 h':Heap} {a x e:Addr} {o:HO}
theorem Un.any (u:Un fs ex H H1 h h1) {b:Addr} {ob:Obj} (q:h.get? b = some ob) (n:H b = none) (hx:b ∉ ex):∃ sl,h1.get? b = some { ob with slots:=sl }:=by
 by_cases hb:b ∈ fs
 ·exact u.slot b ob q n hb hx
 ·exact ⟨ob.slots,u.keep b ob q n hb hx⟩
theorem Un.kept (k:∀ b u,h.get? b = some u -> h'.get? b = some u):Un fs ex H H h h' :=
 ⟨fun b ob q _ _ _=>k b ob q,fun b ob q _ _ _=>⟨ob.slots,k b ob q⟩,fun _ _ _ n _=>n,fun b ob q _=>⟨ob,k b ob q⟩,fun _ _ q=>q,fun _ _ _ q=>q,fun _ ps q=>⟨#[],by rw [q]; simp⟩⟩
theorem Un.refl:Un fs ex H H h h:=Un.kept fun _ _ q=>q
theorem Un.laid (k:∀ b u,h.get? b = some u -> h'.get? b = some u) (hp:h.objs.size <= a) (hn:H a = none):Un fs ex H (upd H a o) h h' where
 keep:=fun b u q _ _ _=>k b u q;slot:=fun b u q _ _ _=>⟨u.slots,k b u q⟩;free:=fun b u q n _=>by rw [zO (zQb (zQf (zQR q) hp))]; exact n
 there:=fun b u q _=>⟨u,k b u q⟩;tups:=fun b xs q=>by rw [zO (zd q hn)]; exact q
 frzs:=fun b u xs q=>by rw [zO (zd q hn)]; exact q
 tbls:=fun b ps q=>⟨#[],by rw [zO (zd q hn),q]; simp⟩
theorem Un.write (mu:Mut (H x)) (he:e = x \/ H e = some (.own x)) (k:∀ b u,b ≠ e -> h.get? b = some u -> h'.get? b = some u) (heo:∃ u,h'.get? e = some u):Un fs ex H (upd H x o) h h':=by
 have hx:∀ b,H b = none -> b ≠ x:=fun b n z=>by subst z; rw [n] at mu; exact mu
 have hb:∀ b,H b = none -> b ≠ e:=fun b n z=>by
  subst z;rcases he with r | r
  ·exact hx b n r
  ·rw [n] at r; cases r
 have hm:∀ b u,H b = some u -> ¬ Mut (some u) -> b ≠ x:=fun b u q nm z=>by subst z; rw [q] at mu; exact nm mu
 refine ⟨fun b u q n _ _=>k b u (hb b n) q,fun b u q n _ _=>⟨u.slots,k b u (hb b n) q⟩,fun b u q n _=>by rw [zO (hx b n)]; exact n,fun b u q _=>?_,
  fun b xs q=>by rw [zO (hm b _ q fun z=>z)]; exact q,fun b u xs q=>by rw [zO (hm b _ q fun z=>z)]; exact q,fun b ps q=>⟨#[],by rw [zO (hm b _ q fun z=>z),q]; simp⟩⟩
 by_cases hbe:b = e
 ·subst hbe; exact heo
 ·exact ⟨u,k b u hbe q⟩
end
def trk (h:Heap) (H:Hp):List Addr:=(List.range h.objs.size).filter fun a=>(H a).isSome
def zFm (h:Heap) (H:Hp):Heap:=PySem.W.hideAll h (trk h H)
theorem zJh (h:Heap) (H:Hp):(zFm h H).objs.size = h.objs.size:=PySem.W.hideAll_size _ _
theorem zLG {h:Heap} {H:Hp} {b:Addr} {o:Obj} (e:h.get? b = some o) (n:H b = none):(zFm h H).get? b = some o :=
 PySem.W.hideAll_get _ e fun hm=>by
  have q:(H b).isSome = true:=(List.mem_filter.mp hm).2;rw [n] at q; simp at q
theorem zMC {h:Heap} {H:Hp} {b:Addr} {o:Obj} (e:(zFm h H).get? b = some o):h.get? b = some o /\ H b = none:=by
 have e':h.get? b = some o:=PySem.W.of_hideAll (trk h H) e;refine ⟨e',?_⟩;cases q:H b with
 | none=>rfl
 | some x=>
  have hm:b ∈ trk h H:=List.mem_filter.mpr ⟨zQu.mpr (zQR e'),by simp [q]⟩;have z:(zFm h H).get? b = none:=PySem.W.hideAll_none (trk h H) hm;rw [z] at e; cases e
structure Mod (K:PySem.W.Frag) (mg:Str -> Option Value) (base:Heap):Prop where
 kin:K.In base
 glob:base.Ns mainGlobals mg
 blt:∃ mb,base.Ns builtinsNs mb /\ ∀ x:Str,x ≠ "__name__" -> mb x = bootBuiltins x
 nolimit:base.NoLimit
structure Cx where
 prog:Program
 w:World
 K:PySem.W.Frag
 mg:Str -> Option Value
 base:Heap
 A:Around
 N:List Str
 s₀:Shared
 H₀:Hp
 env:Env
 outer:List Env
 stack:List Env
 ex:List Addr
 fn:Str -> Bool
 calm:Bool
 pn:List (Addr × Obj)
 xe:Value -> Shared -> Prop
def frs (l:List Env):List Addr:=l.filterMap (·.frame)
abbrev Cx.fs (X:Cx):List Addr:=frs X.outer
def Vis (sc:Scope) (x:Str):Prop:=sc.names.lookup x = some .local \/ sc.names.lookup x = some .cell \/ sc.names.lookup x = some .free
def Loc (sc:Scope) (x:Str):Prop:=sc.names.lookup x = some .local \/ sc.names.lookup x = some .cell
def zPy (env:Env) (h:Heap) (m:Str -> Option Value) (x:Str) (u:Value):Prop :=
 (env.kindOf x = some .local /\ m x = some u) \/ ((env.kindOf x = some .cell \/ env.kindOf x = some .free) /\ ∃ c,env.cells.lookup x = some c /\ h.IsCell c (some u))
structure Cx.Ok (X:Cx):Prop where
 mod:Mod X.K X.mg X.base
 kind:X.env.scope.kind = .function
 glob:X.env.globals = mainGlobals
 blt:X.env.builtins = builtinsNs
 above:X.s₀.heap.objs.size <= X.env.locals
 inj:∀ x y c,X.env.cells.lookup x = some c -> X.env.cells.lookup y = some c -> x = y
 has:∀ x,(X.env.kindOf x = some .cell \/ X.env.kindOf x = some .free) -> ∃ c,X.env.cells.lookup x = some c
 cab:∀ x c,X.fn x = true -> X.env.cells.lookup x = some c -> X.s₀.heap.objs.size <= c
 hd:X.calm = true -> X.A.handled = none
 frames:X.A.frames = some X.stack
 stk:X.stack = X.outer \/ (X.stack = X.env :: X.outer /\ X.env.frame = some X.env.locals)
 exf:∀ b ∈ X.ex,b ≠ X.env.locals /\ ∀ x c,X.env.cells.lookup x = some c -> c ≠ b
 bs:∀ b o,X.base.get? b = some o -> X.s₀.heap.get? b = some o /\ X.H₀ b = none
 bsz:X.base.objs.size <= X.s₀.heap.objs.size
 noex:∀ b o,X.base.get? b = some o -> b ∉ X.ex
 exfs:∀ b ∈ X.ex,b ∉ X.fs
 funs:X.s₀.heap.FunFrames X.base X.outer
 frf:∀ b ∈ X.fs,X.H₀ b = none
structure Inv (X:Cx) (zB:List (Addr × Obj)) (σ:List (Option V)) (H:Hp) (s:Shared):Prop where
 ok:X.Ok
 os:s.os = X.s₀.os
 bare:AllBare s.gens
 base:Un X.fs X.ex X.H₀ H X.s₀.heap s.heap
 loc:∃ m,s.heap.Ns X.env.locals m /\ ∀ (i:Nat) (x:Str) (v:V),X.N[i]? = some x -> σ[i]? = some (some v) -> Vis X.env.scope x -> ∃ u,ze v u /\ zPy X.env s.heap m x u
 cell:∀ x c,X.env.cells.lookup x = some c -> ∃ v,s.heap.IsCell c v
 free:H X.env.locals = none
 freeC:∀ x c,X.env.cells.lookup x = some c -> H c = none
 pin:∀ p ∈ X.pn ++ zB,s.heap.get? p.1 = some p.2 /\ H p.1 = none /\ p.1 ≠ X.env.locals /\ p.1 ∉ X.fs /\ ∀ v,p.2.data ≠ .cell v
 hok:HOk X.prog X.w H s.heap
 len:σ.length = X.N.length
section
variable {X:Cx} {zB:List (Addr × Obj)} {σ:List (Option V)} {H H':Hp} {s:Shared} {h':Heap}
theorem Cx.Ok.nofr (ok:X.Ok) {b:Addr} {o:Obj} (e:X.base.get? b = some o):b ∉ X.fs:=fun hb=>by
 have:=(ok.funs.mem hb).1;rw [e] at this; cases this
theorem Inv.bs (I:Inv X zB σ H s):∀ b o,X.base.get? b = some o -> s.heap.get? b = some o /\ H b = none:=fun b o e=>
 ⟨I.base.keep b o (I.ok.bs b o e).1 (I.ok.bs b o e).2 (I.ok.nofr e) (I.ok.noex b o e),I.base.free b o (I.ok.bs b o e).1 (I.ok.bs b o e).2 (I.ok.noex b o e)⟩
theorem Inv.bk (I:Inv X zB σ H s):∀ b o,X.base.get? b = some o -> s.heap.get? b = some o:=fun b o e=>(I.bs b o e).1
theorem Inv.mod (I:Inv X zB σ H s):Mod X.K X.mg X.base:=I.ok.mod
theorem Inv.kIn (I:Inv X zB σ H s):X.K.In s.heap:=I.ok.mod.kin.keeps I.bk
theorem Inv.lt (I:Inv X zB σ H s):X.env.locals < s.heap.objs.size:=let ⟨_,hn,_⟩:=I.loc; hn.lt
theorem Inv.sz (I:Inv X zB σ H s):X.s₀.heap.objs.size <= s.heap.objs.size:=zQh I.ok.above (Nat.le_of_lt I.lt)
theorem Inv.nofs (I:Inv X zB σ H s) {a:Addr} (h:s.heap.objs.size <= a):a ∉ X.fs:=fun hb=>by
 obtain ⟨_,o,ho,_⟩:=I.ok.funs.mem hb;exact absurd (zQf (zQR ho) (zQh I.sz h)) (zQy _)
theorem Inv.cne (I:Inv X zB σ H s):∀ x c,X.env.cells.lookup x = some c -> c ≠ X.env.locals:=fun x c e z=>by
 obtain ⟨v,o,ho,hd⟩:=I.cell x c e;obtain ⟨m,⟨o',es,ep,ho',hd',_⟩,_⟩:=I.loc;rw [z,ho'] at ho; cases ho; rw [hd'] at hd; cases hd
theorem Inv.funs (I:Inv X zB σ H s):s.heap.FunFrames X.base X.outer:=by
 have all:∀ (l:List Env),(∀ b ∈ frs l,b ∈ X.fs) -> X.s₀.heap.FunFrames X.base l -> s.heap.FunFrames X.base l:=by
  intro l;induction l with
  | nil=>intro _ _; trivial
  | cons env r ih=>
   intro hs hl;obtain ⟨hk,⟨L,o,hf,hn,ho,hd⟩,hr⟩:=hl;have hL:L ∈ X.fs:=hs L (by unfold frs; rw [List.filterMap_cons,hf]; exact zQU);obtain ⟨sl,e⟩:=I.base.slot L o ho (I.ok.frf L hL) hL fun z=>I.ok.exfs L z hL;exact ⟨hk,⟨L,_,hf,hn,e,hd⟩,ih (fun b hb=>hs b (by unfold frs; rw [List.filterMap_cons,hf]; exact zQT _ hb)) hr⟩
 exact all X.outer (fun _ hb=>hb) I.ok.funs
theorem Inv.stack (I:Inv X zB σ H s):s.heap.FunFrames X.base X.stack:=by
 rcases I.ok.stk with e | ⟨e,hf⟩
 ·rw [e]; exact I.funs
 ·rw [e];obtain ⟨m,hn,_⟩:=I.loc;refine .cons (by rw [I.ok.kind]; decide) hf hn ?_ I.funs;exact Heap.get?_none_of_le (zQh I.ok.bsz I.ok.above)
theorem Inv.stkSub (I:Inv X zB σ H s):∀ b ∈ frs X.stack,b ∈ X.env.locals :: X.fs:=fun b hb=>by
 rcases I.ok.stk with e | ⟨e,hf⟩
 ·rw [e] at hb; exact zQT _ hb
 ·rw [e] at hb;unfold frs at hb;rw [List.filterMap_cons,hf] at hb;exact hb
theorem Inv.stkFree (I:Inv X zB σ H s):∀ b ∈ frs X.stack,H b = none:=fun b hb=>by
 rcases zQS.mp (I.stkSub b hb) with e | hb
 ·rw [e]; exact I.free
 ·obtain ⟨_,o,ho,_⟩:=I.ok.funs.mem hb;exact I.base.free b o ho (I.ok.frf b hb) fun z=>I.ok.exfs b z hb
theorem Inv.step {g':Array GenState} {t':Nat} {d':Drawn} {ch:List Addr} (I:Inv X zB σ H s)
  (hch:∀ b ∈ ch,(b ∈ X.ex \/ X.s₀.heap.objs.size <= b) /\ b ≠ X.env.locals /\ (∀ x c,X.env.cells.lookup x = some c -> c ≠ b) /\ ∀ p ∈ X.pn ++ zB,p.1 ≠ b)
  (keep:∀ b o,b ≠ X.env.locals -> b ∉ X.fs -> b ∉ ch -> s.heap.get? b = some o -> H b = none -> h'.get? b = some o)
  (slot:∀ b o,b ≠ X.env.locals -> b ∈ X.fs -> b ∉ ch -> s.heap.get? b = some o -> H b = none -> ∃ sl,h'.get? b = some { o with slots:=sl }) (free:∀ b o,b ∉ ch -> s.heap.get? b = some o -> H b = none -> H' b = none)
  (there:∀ b o,b ∉ ch -> s.heap.get? b = some o -> ∃ o',h'.get? b = some o')
  (tups:∀ b xs,H b = some (.tup xs) -> H' b = some (.tup xs)) (frzs:∀ b o u,H b = some (.frz o u) -> H' b = some (.frz o u)) (tbls:∀ b ps,H b = some (.tbl ps) -> ∃ more,H' b = some (.tbl (ps ++ more)))
  (ns:∀ m,s.heap.Ns X.env.locals m -> h'.Ns X.env.locals m) (hok:HOk X.prog X.w H' h') (hg:AllBare g') :
  Inv X zB σ H' { s with heap:=h',gens:=g',drawn:=d',toks:=t' }:=by
 have neL:∀ b o,X.s₀.heap.get? b = some o -> b ≠ X.env.locals:=fun b o e=>zQb (zQf (zQR e) I.ok.above);have neC:∀ b o,X.s₀.heap.get? b = some o -> b ∉ X.ex -> b ∉ ch:=fun b o e hx hb=>by
  rcases (hch b hb).1 with z | z
  ·exact hx z
  ·exact absurd (zQf (zQR e) z) (zQy _)
 have cellK:∀ x c,X.env.cells.lookup x = some c -> ∀ v,s.heap.IsCell c v -> h'.IsCell c v:=fun x c e v ⟨o,ho,hd⟩=>by
  have nch:c ∉ ch:=fun z=>(hch c z).2.2.1 x c e rfl;by_cases hc:c ∈ X.fs
  ·obtain ⟨sl,q⟩:=slot c o (I.cne x c e) hc nch ho (I.freeC x c e);exact ⟨_,q,hd⟩
  ·exact ⟨o,keep c o (I.cne x c e) hc nch ho (I.freeC x c e),hd⟩
 refine ⟨I.ok,I.os,hg,⟨fun b o e n hb hx=>?_,fun b o e n hb hx=>?_,fun b o e n hx=>?_,fun b o e hx=>?_,fun b xs e=>tups b xs (I.base.tups b xs e),fun b o xs e=>frzs b o xs (I.base.frzs b o xs e),fun b ps e=>?_⟩,?_,fun x c e=>?_,?_,fun x c e=>?_,fun p hp=>?_,hok,I.len⟩
 ·exact keep b o (neL b o e) hb (neC b o e hx) (I.base.keep b o e n hb hx) (I.base.free b o e n hx)
 ·obtain ⟨sl,e1⟩:=I.base.slot b o e n hb hx;obtain ⟨sl',e2⟩:=slot b _ (neL b o e) hb (neC b o e hx) e1 (I.base.free b o e n hx);exact ⟨sl',e2⟩
 ·obtain ⟨o',e1⟩:=I.base.there b o e hx;exact free b o' (neC b o e hx) e1 (I.base.free b o e n hx)
 ·obtain ⟨o',e1⟩:=I.base.there b o e hx;exact there b o' (neC b o e hx) e1
 ·obtain ⟨m1,e1⟩:=I.base.tbls b ps e;obtain ⟨m2,e2⟩:=tbls b _ e1;exact ⟨m1 ++ m2,by rw [e2,Array.append_assoc]⟩
 ·obtain ⟨m,hn,hl⟩:=I.loc;refine ⟨m,ns m hn,fun i x v e1 e2 e3=>?_⟩;obtain ⟨u,r,l⟩:=hl i x v e1 e2 e3;refine ⟨u,r,?_⟩;rcases l with l | ⟨k,c,e,z⟩
  ·exact .inl l
  ·exact .inr ⟨k,c,e,cellK x c e _ z⟩
 ·obtain ⟨v,z⟩:=I.cell x c e;exact ⟨v,cellK x c e v z⟩
 ·obtain ⟨m,⟨o,_,_,ho,_⟩,_⟩:=I.loc;exact free _ o (fun z=>(hch _ z).2.1 rfl) ho I.free
 ·obtain ⟨v,o,ho,hd⟩:=I.cell x c e;exact free c o (fun z=>(hch c z).2.2.1 x c e rfl) ho (I.freeC x c e)
 ·obtain ⟨e,n,ne,nf,d⟩:=I.pin p hp;have nch:p.1 ∉ ch:=fun z=>(hch p.1 z).2.2.2 p hp rfl;exact ⟨keep p.1 p.2 ne nf nch e n,free p.1 p.2 nch e n,ne,nf,d⟩
theorem Inv.un {t':Nat} (I:Inv X zB σ H s) (u:Un X.fs [] H H' s.heap h') (hok:HOk X.prog X.w H' h'):Inv X zB σ H' { s with heap:=h',toks:=t' }:=by
 obtain ⟨m,⟨o,es,ep,ho,r⟩,_⟩:=id I.loc;obtain ⟨sl,hL⟩:=u.any ho I.free (by simp);exact I.step (g':=s.gens) (d':=s.drawn) (ch:=[]) (fun _ z=>nomatch z) (fun b o _ hb _ e n=>u.keep b o e n hb (by simp)) (fun b o _ hb _ e n=>u.slot b o e n hb (by simp)) (fun b o _ e n=>u.free b o e n (by simp)) (fun b o _ e=>u.there b o e (by simp)) u.tups u.frzs u.tbls (fun m' hm=>by
  obtain ⟨o',es',ep',ho',r'⟩:=hm;rw [ho] at ho'; cases ho';exact ⟨_,es',ep',hL,r'⟩) hok I.bare
theorem Inv.call {g':Array GenState} {t':Nat} {d':Drawn} {ch:List Addr} (I:Inv X zB σ H s) (u:Un (frs X.stack) ch H H' s.heap h') (hok:HOk X.prog X.w H' h') (hg:AllBare g')
  (hch:∀ b ∈ ch,(b ∈ X.ex \/ X.s₀.heap.objs.size <= b) /\ b ≠ X.env.locals /\ (∀ x c,X.env.cells.lookup x = some c -> c ≠ b) /\ ∀ p ∈ X.pn ++ zB,p.1 ≠ b) :
  Inv X zB σ H' { s with heap:=h',gens:=g',drawn:=d',toks:=t' }:=by
 obtain ⟨m,⟨o,es,ep,ho,r⟩,_⟩:=id I.loc;obtain ⟨sl,hL⟩:=u.any ho I.free fun z=>(hch _ z).2.1 rfl;exact I.step (ch:=ch) hch (fun b o hL hb hc e n=>u.keep b o e n (fun z=>(zQS.mp (I.stkSub b z)).elim hL hb) hc) (fun b o _ _ hc e n=>u.any e n hc) (fun b o hc e n=>u.free b o e n hc) (fun b o hc e=>u.there b o e hc) u.tups u.frzs u.tbls (fun m' hm=>by
  obtain ⟨o',es',ep',ho',r'⟩:=hm;rw [ho] at ho'; cases ho';exact ⟨_,es',ep',hL,r'⟩) hok hg
theorem Inv.turned {t':Nat} {it:Addr} (I:Inv X zB σ H s) (k:∀ b o,b ≠ it -> s.heap.get? b = some o -> h'.get? b = some o) (hn:H it = none) (hL:it ≠ X.env.locals)
  (h1:it ∈ X.ex \/ X.s₀.heap.objs.size <= it) (h2:∀ x c,X.env.cells.lookup x = some c -> c ≠ it) (h3:∀ p ∈ X.pn ++ zB,p.1 ≠ it):Inv X zB σ H { s with heap:=h',toks:=t' }:=by
 have nit:∀ b u,H b = some u -> b ≠ it:=fun b u e z=>by rw [z,hn] at e; cases e
 refine I.step (g':=s.gens) (d':=s.drawn) (ch:=[it]) (fun b hb=>?_) (fun b o _ _ hc e _=>k b o (fun z=>hc (by simp [z])) e) (fun b o _ _ hc e _=>⟨o.slots,k b o (fun z=>hc (by simp [z])) e⟩) (fun _ _ _ _ n=>n)
  (fun b o hc e=>⟨o,k b o (fun z=>hc (by simp [z])) e⟩) (fun _ _ e=>e) (fun _ _ _ e=>e) (fun b ps e=>⟨#[],by rw [e]; simp⟩) (fun m hm=>?_) (fun b u e=>?_) I.bare
 ·have e:b = it:=by simpa using hb
  subst e;exact ⟨h1,hL,h2,h3⟩
 ·obtain ⟨o,es,ep,ho,r⟩:=hm;exact ⟨o,es,ep,k _ o (Ne.symm hL) ho,r⟩
 ·refine (I.hok b u e).stay (fun c v hc q=>k c v ?_ q) (fun _ q=>q) fun _ _ q=>q;rcases hc with z | z
  ·rw [z]; exact nit b u e
  ·exact nit c _ z
theorem Inv.tok (I:Inv X zB σ H s) (t:Nat):Inv X zB σ H { s with toks:=t }:=I.un (h':=s.heap) (t':=t) Un.refl I.hok
theorem Inv.kept {t':Nat} (I:Inv X zB σ H s) (k:∀ b u,s.heap.get? b = some u -> h'.get? b = some u):Inv X zB σ H { s with heap:=h',toks:=t' }:=I.un (Un.kept k) (I.hok.kept k)
theorem Inv.laid {a:Addr} {o:HO} {t':Nat} (I:Inv X zB σ H s) (k:∀ b u,s.heap.get? b = some u -> h'.get? b = some u) (hp:s.heap.objs.size <= a) (new:zt X.prog X.w (upd H a o) h' a o) :
  Inv X zB σ (upd H a o) { s with heap:=h',toks:=t' }:=I.un (Un.laid k hp (I.hok.fresh hp)) (I.hok.laid k hp new)
theorem Inv.write {x e:Addr} {o:HO} {t':Nat} (I:Inv X zB σ H s) (mu:Mut (H x)) (he:e = x \/ H e = some (.own x)) (k:∀ b u,b ≠ e -> s.heap.get? b = some u -> h'.get? b = some u) (heo:∃ u,h'.get? e = some u)
  (new:zt X.prog X.w (upd H x o) h' x o):Inv X zB σ (upd H x o) { s with heap:=h',toks:=t' }:=I.un (Un.write mu he k heo) (I.hok.write mu he k heo new)
theorem Inv.weak {σ':List (Option V)} (I:Inv X zB σ H s) (hl:σ'.length = σ.length) (w:∀ (i:Nat) v,σ'[i]? = some (some v) -> σ[i]? = some (some v)):Inv X zB σ' H s :=
 ⟨I.ok,I.os,I.bare,I.base,let ⟨m,hn,hl'⟩:=I.loc; ⟨m,hn,fun i x v e1 e2 e3=>hl' i x v e1 (w i v e2) e3⟩,I.cell,I.free,I.freeC,I.pin,I.hok,hl.trans I.len⟩
theorem Inv.pins_of {pins':List (Addr × Obj)} (I:Inv X zB σ H s) (h:∀ p ∈ pins',s.heap.get? p.1 = some p.2 /\ H p.1 = none /\ p.1 ≠ X.env.locals /\ p.1 ∉ X.fs /\ ∀ v,p.2.data ≠ .cell v):Inv X pins' σ H s :=
 ⟨I.ok,I.os,I.bare,I.base,I.loc,I.cell,I.free,I.freeC,fun p hp=>(zQg.mp hp).elim (fun z=>I.pin p (zRV _ z)) (h p),I.hok,I.len⟩
theorem zGO {N:List Str} (hN:N.Nodup) {i j:Nat} {x:Str} (a:N[i]? = some x) (b:N[j]? = some x):i = j:=by
 obtain ⟨h1,e1⟩:=zQJ.mp a;obtain ⟨h2,e2⟩:=zQJ.mp b;exact (List.getElem_inj hN).mp (e1.trans e2.symm)
theorem zI4 {M:Model} {A:Around} {E:Value -> Shared -> Prop} {i:Nat} {x:Str} {v:V} {u:Value} {Q:Unit -> Shared -> Prop} (I:Inv X zB σ H s) (hN:X.N.Nodup) (hi:X.N[i]? = some x) (hx:Loc X.env.scope x) (r:ze v u)
  (h:∀ s',Inv X zB (σ.set i (some v)) H s' -> (∃ a,Heap.SameBut a s.heap s'.heap /\ (a = X.env.locals \/ X.env.cells.lookup x = some a)) -> Q () s') (hf:X.fn x = true \/ X.env.scope.names.lookup x = some .local:=by first | exact .inl rfl | exact .inr rfl | assumption):wpAny M A (storeName X.env x u) Q E s:=by
 obtain ⟨m,hn,hl⟩:=id I.loc;have hcls:(X.env.scope.kind == .class || (X.env.scope.kind == .module && X.env.locals != X.env.globals)) = false:=by rw [I.ok.kind]; rfl
 have hiσ:i < σ.length:=by rw [I.len]; exact (zQJ.mp hi).1
 have cne:=I.cne;have tracked:∀ {a:Addr} {h':Heap},(∃ o,s.heap.get? a = some o /\ H a = none) -> Heap.SameBut a s.heap h' -> HOk X.prog X.w H h':=fun {a h'} ha hs b ob e=>by
  obtain ⟨_,_,hfree⟩:=ha;refine (I.hok b ob e).stay (fun c w' hc q=>(hs.2 c ?_).trans q) (fun _ q=>q) fun _ _ q=>q;rintro rfl;rcases hc with rfl | hc
  ·rw [hfree] at e; cases e
  ·rw [hfree] at hc; cases hc
 rcases hx with hk | hk
 ·refine wpAny_storeName_local hk hn (fun h' hn' hs=>?_) hcls;obtain ⟨oL,_,_,hoL,_⟩:=id hn;refine h _ ⟨I.ok,I.os,I.bare,⟨fun b o e n hb hx=>?_,fun b o e n hb hx=>?_,I.base.free,fun b o e hx=>?_,I.base.tups,I.base.frzs,I.base.tbls⟩,⟨_,hn',fun j y v' e1 e2 e3=>?_⟩,fun y c e=>?_,I.free,I.freeC,fun p hp=>?_,tracked ⟨oL,hoL,I.free⟩ hs,by simpa using I.len⟩ ⟨_,hs,.inl rfl⟩
  ·exact (hs.2 b (zQb (zQf (zQR e) I.ok.above))).trans (I.base.keep b o e n hb hx)
  ·obtain ⟨sl,e1⟩:=I.base.slot b o e n hb hx;exact ⟨sl,(hs.2 b (zQb (zQf (zQR e) I.ok.above))).trans e1⟩
  ·obtain ⟨o',e1⟩:=I.base.there b o e hx;exact ⟨o',(hs.2 b (zQb (zQf (zQR e) I.ok.above))).trans e1⟩
  ·by_cases hj:j = i
   ·subst hj;rw [hi] at e1; cases e1;rw [zRA hiσ] at e2;cases e2;exact ⟨u,r,.inl ⟨hk,by simp⟩⟩
   ·rw [zQk (Ne.symm hj)] at e2;obtain ⟨u',r',q⟩:=hl j y v' e1 e2 e3;refine ⟨u',r',?_⟩;rcases q with ⟨k,e⟩ | ⟨k,c,e,z⟩
    ·refine .inl ⟨k,?_⟩;have:y ≠ x:=fun e=>hj (zGO hN e1 (e ▸ hi));simp [this,e]
    ·exact .inr ⟨k,c,e,z.sameBut hs (cne y c e)⟩
  ·obtain ⟨w',z⟩:=I.cell y c e;exact ⟨w',z.sameBut hs (cne y c e)⟩
  ·obtain ⟨e,n,ne,nf,d⟩:=I.pin p hp;exact ⟨(hs.2 p.1 ne).trans e,n,ne,nf,d⟩
 ·have hfn:X.fn x = true:=by
   rcases hf with z | z
   ·exact z
   ·rw [z] at hk; cases hk
  obtain ⟨c,hc⟩:=I.ok.has x (.inl hk);obtain ⟨w',z⟩:=I.cell x c hc;refine wpAny_storeName_cell I.ok.kind hk hc z (fun h' hc' hs=>?_);obtain ⟨oc,hoc,hocd⟩:=id z;refine h { s with heap:=h' } ⟨I.ok,I.os,I.bare,⟨fun b o e n hb hx=>?_,fun b o e n hb hx=>?_,I.base.free,fun b o e hx=>?_,I.base.tups,I.base.frzs,I.base.tbls⟩,⟨m,hn.sameBut hs (Ne.symm (cne x c hc)),fun j y v' e1 e2 e3=>?_⟩,fun y c' e=>?_,I.free,I.freeC,fun p hp=>?_,tracked ⟨oc,hoc,I.freeC x c hc⟩ hs,by simpa using I.len⟩ ⟨c,hs,.inr hc⟩
  ·exact (hs.2 b (zQb (zQf (zQR e) (I.ok.cab x c hfn hc)))).trans (I.base.keep b o e n hb hx)
  ·obtain ⟨sl,e1⟩:=I.base.slot b o e n hb hx;exact ⟨sl,(hs.2 b (zQb (zQf (zQR e) (I.ok.cab x c hfn hc)))).trans e1⟩
  ·obtain ⟨o',e1⟩:=I.base.there b o e hx;exact ⟨o',(hs.2 b (zQb (zQf (zQR e) (I.ok.cab x c hfn hc)))).trans e1⟩
  ·by_cases hj:j = i
   ·subst hj;rw [hi] at e1; cases e1;rw [zRA hiσ] at e2;cases e2;exact ⟨u,r,.inr ⟨.inl hk,c,hc,hc'⟩⟩
   ·rw [zQk (Ne.symm hj)] at e2;obtain ⟨u',r',q⟩:=hl j y v' e1 e2 e3;refine ⟨u',r',?_⟩;rcases q with q | ⟨k,c',e,z'⟩
    ·exact .inl q
    ·refine .inr ⟨k,c',e,z'.sameBut hs ?_⟩;rintro rfl;exact hj (zGO hN e1 (I.ok.inj _ _ _ e hc ▸ hi))
  ·by_cases hcc:c' = c
   ·subst hcc; exact ⟨_,hc'⟩
   ·obtain ⟨w2,z2⟩:=I.cell y c' e;exact ⟨w2,z2.sameBut hs hcc⟩
  ·obtain ⟨e,n,ne,nf,d⟩:=I.pin p hp;refine ⟨(hs.2 p.1 ?_).trans e,n,ne,nf,d⟩;intro q;rw [q,hoc] at e;have q':oc = p.2:=zRG e;exact d w' (by rw [<- q']; exact hocd)
theorem zGH {M:Model} {A:Around} {E:Value -> Shared -> Prop} {i:Nat} {x:Str} {v:V} {u:Value} {Q:Unit -> Shared -> Prop} (I:Inv X zB σ H s) (hN:X.N.Nodup) (hi:X.N[i]? = some x) (hx:Loc X.env.scope x) (r:ze v u)
  (h:∀ s',Inv X zB (σ.set i (some v)) H s' -> Q () s') (hf:X.fn x = true \/ X.env.scope.names.lookup x = some .local:=by first | exact .inl rfl | exact .inr rfl | assumption):wpAny M A (storeName X.env x u) Q E s :=
 zI4 I hN hi hx r (fun s' I' _=>h s' I') hf
theorem Inv.call' {s':Shared} {ch:List Addr} (I:Inv X zB σ H s) (ho:s'.os = s.os) (u:Un (frs X.stack) ch H H' s.heap s'.heap) (hok:HOk X.prog X.w H' s'.heap) (hg:AllBare s'.gens)
  (hch:∀ b ∈ ch,(b ∈ X.ex \/ X.s₀.heap.objs.size <= b) /\ b ≠ X.env.locals /\ (∀ x c,X.env.cells.lookup x = some c -> c ≠ b) /\ ∀ p ∈ X.pn ++ zB,p.1 ≠ b):Inv X zB σ H' s':=by
 obtain ⟨h',g',d',t',o'⟩:=s';have e:o' = s.os:=ho;subst e;exact I.call (g':=g') (t':=t') (d':=d') u hok hg hch
end
abbrev XK:=Value -> Option Addr -> Hp -> Prop
abbrev St:=List (Option V)
abbrev VK:=V -> Hp -> Prop
abbrev TE:=St -> Hp -> VK -> Prop
abbrev TT:=St -> Hp -> (Bool -> Hp -> Prop) -> Prop
abbrev TA:=St -> Hp -> (List V -> Hp -> Prop) -> Prop
structure Ends where
 nx:St -> Hp -> Prop
 rt:VK
 bk:St -> Hp -> Prop:=fun _ _=>False
 ct:St -> Hp -> Prop:=fun _ _=>False
abbrev TS:=Ends -> St -> Hp -> Prop
def EP (X:Cx) (zB:List (Addr × Obj)) (σ:St) (Q:VK) (u:Value) (s':Shared):Prop:=∃ v H',Inv X zB σ H' s' /\ ze v u /\ Q v H'
def TP (X:Cx) (zB:List (Addr × Obj)) (σ:St) (Q:Bool -> Hp -> Prop) (b:Bool) (s':Shared):Prop:=∃ H',Inv X zB σ H' s' /\ Q b H'
def AP (X:Cx) (zB:List (Addr × Obj)) (σ:St) (Q:List V -> Hp -> Prop) (us:List Value) (s':Shared):Prop:=∃ vs H',Inv X zB σ H' s' /\ zV vs us /\ Q vs H'
def SP (X:Cx) (zB:List (Addr × Obj)) (D:Ends) (f:Flow) (s':Shared):Prop :=
 match f with
 | .next=>∃ σ' H',Inv X zB σ' H' s' /\ D.nx σ' H'
 | .brk=>∃ σ' H',Inv X zB σ' H' s' /\ D.bk σ' H'
 | .cont=>∃ σ' H',Inv X zB σ' H' s' /\ D.ct σ' H'
 | .ret u=>∃ v σ' H',Inv X zB σ' H' s' /\ ze v u /\ D.rt v H'
def PE (X:Cx) (e:Expr) (t:TE):Prop :=
 ∀ (zB:List (Addr × Obj)) (s:Shared) (σ:St) (H:Hp) (Q:VK),Inv X zB σ H s -> t σ H Q -> wpAny (model X.prog X.w) X.A (eval e X.env) (EP X zB σ Q) X.xe s
def PT (X:Cx) (e:Expr) (t:TT):Prop :=
 ∀ (zB:List (Addr × Obj)) (s:Shared) (σ:St) (H:Hp) (Q:Bool -> Hp -> Prop),Inv X zB σ H s -> t σ H Q -> wpAny (model X.prog X.w) X.A (isTrue e X.env (eval e X.env)) (TP X zB σ Q) X.xe s
def PW (X:Cx) (e:Expr) (t:TT):Prop :=
 ∀ (whole:Sem Value) (zB:List (Addr × Obj)) (s:Shared) (σ:St) (H:Hp) (Q:Bool -> Hp -> Prop),Inv X zB σ H s -> t σ H Q -> wpAny (model X.prog X.w) X.A (isTrue e X.env whole) (TP X zB σ Q) X.xe s
theorem PW.pt {X:Cx} {e:Expr} {t:TT} (h:PW X e t):PT X e t:=h _
def PA (X:Cx) (es:List Expr) (t:TA):Prop :=
 ∀ (pos:Pos) (zB:List (Addr × Obj)) (s:Shared) (σ:St) (H:Hp) (Q:List V -> Hp -> Prop),Inv X zB σ H s -> t σ H Q -> wpAny (model X.prog X.w) X.A (spliced (backTo pos (starEach es X.env))) (AP X zB σ Q) X.xe s
def PS (X:Cx) (st:Stmt) (t:TS):Prop :=
 ∀ (zB:List (Addr × Obj)) (s:Shared) (σ:St) (H:Hp) (D:Ends),Inv X zB σ H s -> t D σ H -> wpAny (model X.prog X.w) X.A (exec st X.env) (SP X zB D) X.xe s
def PSs (X:Cx) (st:List Stmt) (t:TS):Prop :=
 ∀ (zB:List (Addr × Obj)) (s:Shared) (σ:St) (H:Hp) (D:Ends),Inv X zB σ H s -> t D σ H -> wpAny (model X.prog X.w) X.A (execs st X.env) (SP X zB D) X.xe s
theorem thn {α:Type} {t:Sem α} {Q Q':α -> Shared -> Prop} {M:Model} {A:Around} {E:Value -> Shared -> Prop} {s:Shared} (h:wpAny M A t Q E s) (hQ:∀ a s,Q a s -> Q' a s):wpAny M A t Q' E s:=zQm h hQ fun _ _ x=>x
section
variable {X:Cx}
def zNt (i:Nat):TE:=fun σ H Q=>∃ v,σ[i]? = some (some v) /\ Q v H
def tC (v:V):TE:=fun _ H Q=>Q v H
theorem zN6 {i:Nat} {x:Str} {pos:Pos} (hN:X.N[i]? = some x) (hv:Vis X.env.scope x) (hd:(x == ("__debug__" : Str)) = false:=by decide) (hcd:(x == ("__classdict__" : Str)) = false:=by decide):PE X (.Name x pos) (zNt i):=by
 intro zB s σ H Q I h;obtain ⟨v,e,h⟩:=h;obtain ⟨m,hn,hl⟩:=I.loc;obtain ⟨u,r,l⟩:=hl i x v hN e hv;have fin:EP X zB σ Q u s:=⟨v,H,I,r,h⟩;rcases l with ⟨hk,hm⟩ | ⟨hk,c,hc,hcell⟩
 ·exact wpAny_Name (wpAny_loadName_local I.ok.kind hk hn hm fin) hd
 ·rcases hk with hk | hk
  ·exact wpAny_Name (wpAny_loadName_cell I.ok.kind hk hc hcell fin) hd
  ·exact wpAny_Name (wpAny_loadName_free I.ok.kind hk hc hcell fin hcd) hd
theorem zN9 {i j pos}:PE X (.Constant (.int i) j pos) (tC (.int i)):=fun _ _ _ H _ I h=>wpAny_Constant_int ⟨.int i,H,I.tok _,⟨_,rfl⟩,h⟩
theorem zOc {b j pos}:PE X (.Constant (.bool b) j pos) (tC (.bl b)):=fun _ _ _ H _ I h=>Constant_bool ⟨.bl b,H,I,rfl,h⟩
theorem zNR {x j pos}:PE X (.Constant (.str x) j pos) (tC (.str x)):=fun _ _ _ H _ I h=>Calls.Constant_str ⟨.str x,H,I.tok _,⟨_,rfl⟩,h⟩
def Gl (X:Cx) (x:Str):Prop:=X.env.kindOf x = some .globalImplicit
theorem zLm {E:Value -> Shared -> Prop} {zB:List (Addr × Obj)} {s:Shared} {σ:St} {H:Hp} {x:Str} {u:Value} {pos:Pos} {Q:Value -> Shared -> Prop} (I:Inv X zB σ H s) (hg:Gl X x) (hm:X.mg x = some u) (h:Q u s)
  (hd:(x == ("__debug__" : Str)) = false:=by decide):wpAny (model X.prog X.w) X.A (eval (.Name x pos) X.env) Q E s :=
 Calls.Name_function_global I.ok.kind hg (Calls.loadGlobal_global (by rw [I.ok.glob]; exact I.mod.glob.keeps I.bk) hm h) hd
theorem zBd {E:Value -> Shared -> Prop} {zB:List (Addr × Obj)} {s:Shared} {σ:St} {H:Hp} {x:Str} {u:Value} {pos:Pos} {Q:Value -> Shared -> Prop} (I:Inv X zB σ H s) (hg:Gl X x) (hm:X.mg x = none) (hv:bootBuiltins x = some u) (h:Q u s)
  (hn:x ≠ "__name__" := by decide) (hd:(x == ("__debug__" : Str)) = false:=by decide):wpAny (model X.prog X.w) X.A (eval (.Name x pos) X.env) Q E s:=by
 obtain ⟨mb,h1,h2⟩:=I.mod.blt;exact Calls.Name_function_global I.ok.kind hg (Calls.loadGlobal_builtin (by rw [I.ok.glob]; exact I.mod.glob.keeps I.bk) hm (by rw [I.ok.blt]; exact h1.keeps I.bk) ((h2 x hn).trans hv) h) hd
theorem zMN {x:Str} {v:V} {u:Value} {pos:Pos} (hg:Gl X x) (hm:X.mg x = none) (hv:bootBuiltins x = some u) (r:ze v u) (hn:x ≠ "__name__" := by decide) (hd:(x == ("__debug__" : Str)) = false:=by decide):PE X (.Name x pos) (tC v) :=
 fun _ _ _ H _ I h=>zBd I hg hm hv ⟨v,H,I,r,h⟩ hn hd
variable {a b:Expr} {ta tb:TE} {pos:Pos}
def PC (X:Cx) (op:CmpOp) (a b:Expr) (t:TE):Prop :=
 ∀ (zB:List (Addr × Obj)) (s:Shared) (σ:St) (H:Hp) (Q:VK),Inv X zB σ H s -> t σ H Q ->
  wpAny (model X.prog X.w) X.A (eval a X.env) (fun v s₁=>wpAny (model X.prog X.w) X.A (eval b X.env) (fun u s₂=>wpAny (model X.prog X.w) X.A (compareOp op v u) (EP X zB σ Q) X.xe s₂) X.xe s₁) X.xe s
def tB (t:TE):TT:=fun σ H Q=>t σ H fun x H1=>∃ c,x = .bl c /\ Q c H1
theorem zM9 {op:CmpOp} {t:TE} (h:PC X op a b t) (h1:behindInMarks op b = false:=by first | exact nobehind _ (by decide) (by decide) | rfl):PT X (.Compare a [op] [b] pos) (tB t):=by
 intro zB s σ H Q I hw;refine wpAny_isTrue_Compare1 (thn (h zB s σ H _ I hw) fun v s1 h1=>thn h1 fun u s2 h2=>thn h2 fun c s3 ⟨x,H1,I1,r1,q1⟩=>?_) h1;obtain ⟨d,rfl,q⟩:=q1;cases r1;exact wpAny_truthy_bool ⟨H1,I1,q⟩
theorem zNK {e:Expr} {t:TE} (h:PE X e t) (he:∀ whole,isTrue e X.env whole = (do let v <- whole; standAt e.pos; holding [v] (truthy v)):=by intro _; rfl):PT X e (tB t):=by
 intro zB s σ H Q I hw;refine isTrue_plain (thn (h zB s σ H _ I hw) fun v s1 ⟨x,H1,I1,r1,q1⟩=>?_) (he _);obtain ⟨d,rfl,q⟩:=q1;cases r1;exact wpAny_truthy_bool ⟨H1,I1,q⟩
variable {tA tB':TT} {rest:List Expr}
def tOr (t u:TT):TT:=fun σ H Q=>t σ H fun c H1=>if c = true then Q true H1 else u σ H1 Q
def zP7 (t:TT):TT:=fun σ H Q=>t σ H fun c H1=>Q (!c) H1
theorem zNP (ha:PT X a tA):PW X (.BoolOp .Or [a] pos) tA:=by
 intro wh zB s σ H Q I h;refine isTrue_or (thn (ha zB s σ H Q I h) fun c s1 e=>?_);cases c with
 | false=>exact isTrue_or_nil e
 | true=>exact e
theorem zPW (ha:PT X a tA) (hb:PW X (.BoolOp .Or (b :: rest) pos) tB'):PW X (.BoolOp .Or (a :: b :: rest) pos) (tOr tA tB'):=by
 intro wh zB s σ H Q I h;refine isTrue_or (thn (ha zB s σ H _ I h) fun c s1 ⟨H1,I1,q1⟩=>?_);cases c with
 | true=>exact ⟨H1,I1,q1⟩
 | false=>exact hb wh zB s1 σ H1 Q I1 q1
theorem zNV (ha:PT X a tA):PT X (.UnaryOp .Not a pos) (zP7 tA):=by
 intro zB s σ H Q I h;exact isTrue_not (ha zB s σ H (fun c H1=>Q (!c) H1) I h)
def zOx (ta tb:TE):TE:=fun σ H Q=>ta σ H fun x H1=>∃ c,x = .bl c /\ if c = true then tb σ H1 Q else Q (.bl false) H1
def zPB (ta:TE):TE:=fun σ H Q=>ta σ H fun x H1=>∃ c,x = .bl c /\ Q (.bl (!c)) H1
theorem zNh {op} {t:TE} (h:PE X a t):PE X (.BoolOp op [a] pos) t:=fun zB s σ H Q I hw=>BoolOp_one (h zB s σ H Q I hw)
theorem zNS (ha:PE X a ta) (hb:PE X (.BoolOp .And (b :: rest) pos) tb):PE X (.BoolOp .And (a :: b :: rest) pos) (zOx ta tb):=by
 intro zB s σ H Q I h;refine BoolOp_and (thn (ha zB s σ H _ I h) fun v s1 ⟨x,H1,I1,r1,q1⟩=>?_);obtain ⟨c,rfl,q1⟩:=q1;cases r1;refine wpAny_truthy_bool ?_;cases c with
 | true=>exact hb zB s1 σ H1 Q I1 q1
 | false=>exact ⟨.bl false,H1,I1,rfl,q1⟩
theorem zOJ (ha:PE X a ta):PE X (.UnaryOp .Not a pos) (zPB ta):=by
 intro zB s σ H Q I h;refine UnaryOp_ (thn (ha zB s σ H _ I h) fun v s1 ⟨x,H1,I1,r1,q1⟩=>?_);obtain ⟨c,rfl,q1⟩:=q1;cases r1;exact not_of (wpAny_truthy_bool ⟨.bl (!c),H1,I1,rfl,q1⟩)
def tIf (t:TT) (ta tb:TE):TE:=fun σ H Q=>t σ H fun c H1=>if c = true then ta σ H1 Q else tb σ H1 Q
theorem zK6 {c:Expr} (hc:PT X c tA) (ha:PE X a ta) (hb:PE X b tb):PE X (.IfExp c a b pos) (tIf tA ta tb):=by
 intro zB s σ H Q I h;refine wpAny_IfExp (thn (hc zB s σ H _ I h) fun d s1 ⟨H1,I1,q1⟩=>?_);cases d with
 | true=>exact ha zB s1 σ H1 Q I1 q1
 | false=>exact hb zB s1 σ H1 Q I1 q1
end
def SqL (K:PySem.W.Frag) (H:Hp) (a:Addr) (xs:List V):Prop :=
 Rd H a (.lst xs) \/
  ∃ (o:Obj) (its:Array Value) (n:Nat),K.lookup a = some o /\ o.cls = .type "list" /\ o.dict = none /\ o.data = .seq its n /\ its.size <= sizeLine /\ zV xs its.toList
def SqT (K:PySem.W.Frag) (H:Hp) (a:Addr) (xs:List V):Prop :=
 Rd H a (.tup xs) \/
  ∃ (o:Obj) (its:Array Value) (n:Nat),K.lookup a = some o /\ o.cls = .type "tuple" /\ o.data = .seq its n /\ its.size <= sizeLine /\ zV xs its.toList
def zQB:Value -> Option V
 | .none=>some .non
 | .bool b=>some (.bl b)
 | .int i _=>some (.int i)
 | .str x _=>some (.str x)
 | .bytes b _=>some (.byt b)
 | .float b _=>some (.flt b)
 | .ref a=>some (.ref a)
 | .type n=>some (.ty n)
 | _=>none
theorem ze.abs {x:V} {u:Value} (r:ze x u):zQB u = some x:=by
 cases x with
 | non=>cases r; rfl
 | bl _=>cases r; rfl
 | int _=>obtain ⟨t,rfl⟩:=r; rfl
 | str _=>obtain ⟨t,rfl⟩:=r; rfl
 | byt _=>obtain ⟨t,rfl⟩:=r; rfl
 | flt _=>obtain ⟨t,rfl⟩:=r; rfl
 | ref _=>cases r; rfl
 | ty _=>cases r; rfl
theorem ze.inj {x y:V} {u:Value} (r:ze x u) (q:ze y u):x = y:=zRG (r.abs.symm.trans q.abs)
theorem zV.inj:∀ {xs ys:List V} {us:List Value},zV xs us -> zV ys us -> xs = ys
 | _,_,_,.nil,.nil=>rfl
 | _,_,_,.cons r t,.cons r' t'=>by rw [r.inj r',zV.inj t t']
section
variable {X:Cx} {zB:List (Addr × Obj)} {σ:St} {H:Hp} {s:Shared} {a:Addr} {xs ys:List V}
theorem SqL.of {K:PySem.W.Frag} (h:H a = some (.lst xs)):SqL K H a xs:=.inl (.inl h)
theorem SqT.of {K:PySem.W.Frag} (h:H a = some (.tup xs)):SqT K H a xs:=.inl (.inl h)
theorem Inv.list (I:Inv X zB σ H s) (h:SqL X.K H a xs):∃ its:List Value,zV xs its /\ PlainL s.heap a its.toArray /\ xs.length <= sizeLine:=by
 rcases h with h | ⟨o,its,n,hk,hc,hd,hs,hz,r⟩
 ·obtain ⟨z,its,n,r,e⟩:=h.ok I.hok;exact ⟨its,r,⟨_,n,e,rfl,rfl,rfl⟩,z⟩
 ·refine ⟨its.toList,r,⟨o,n,I.kIn a o hk,hc,hd,by simpa using hs⟩,?_⟩;have e:=r.length;simp only [Array.length_toList] at e;omega
theorem Inv.tuple (I:Inv X zB σ H s) (h:SqT X.K H a xs):∃ its:List Value,zV xs its /\ IsTup s.heap a its.toArray /\ xs.length <= sizeLine:=by
 rcases h with h | ⟨o,its,n,hk,hc,hs,hz,r⟩
 ·obtain ⟨z,its,r,p⟩:=h.ok I.hok;exact ⟨its,r,p.tup,z⟩
 ·refine ⟨its.toList,r,⟨o,I.kIn a o hk,hc,n,by simpa using hs⟩,?_⟩;have e:=r.length;simp only [Array.length_toList] at e;omega
theorem Inv.list_inj (I:Inv X zB σ H s) (h:SqL X.K H a xs) (h':SqL X.K H a ys):xs = ys:=by
 obtain ⟨its,r,⟨o,n,e,_,_,d⟩,_⟩:=I.list h;obtain ⟨its',r',⟨o',n',e',_,_,d'⟩,_⟩:=I.list h';rw [e] at e'; cases e';rw [d] at d';injection d' with d1 _
 have:its = its':=by simpa using congrArg Array.toList d1
 subst this;exact r.inj r'
theorem Inv.tuple_inj (I:Inv X zB σ H s) (h:SqT X.K H a xs) (h':SqT X.K H a ys):xs = ys:=by
 obtain ⟨its,r,⟨o,e,_,n,d⟩,_⟩:=I.tuple h;obtain ⟨its',r',⟨o',e',_,n',d'⟩,_⟩:=I.tuple h';rw [e] at e'; cases e';rw [d] at d';injection d' with d1 _
 have:its = its':=by simpa using congrArg Array.toList d1
 subst this;exact r.inj r'
end
abbrev Cx.wish (X:Cx) (E:Value -> Shared -> Prop):Cx:={ X with xe:=E }
abbrev Cx.nox (X:Cx):Cx:=X.wish fun _ _=>False
theorem Cx.Ok.wish {X:Cx} (ok:X.Ok) (E:Value -> Shared -> Prop):(X.wish E).Ok :=
 ⟨ok.mod,ok.kind,ok.glob,ok.blt,ok.above,ok.inj,ok.has,ok.cab,ok.hd,ok.frames,ok.stk,ok.exf,ok.bs,ok.bsz,ok.noex,ok.exfs,ok.funs,ok.frf⟩
theorem Cx.Ok.unwish {X:Cx} {E:Value -> Shared -> Prop} (ok:(X.wish E).Ok):X.Ok :=
 ⟨ok.mod,ok.kind,ok.glob,ok.blt,ok.above,ok.inj,ok.has,ok.cab,ok.hd,ok.frames,ok.stk,ok.exf,ok.bs,ok.bsz,ok.noex,ok.exfs,ok.funs,ok.frf⟩
section
variable {X:Cx} {zB:List (Addr × Obj)} {σ:St} {H:Hp} {s:Shared} {E:Value -> Shared -> Prop}
theorem Inv.wish (I:Inv X zB σ H s) (E:Value -> Shared -> Prop):Inv (X.wish E) zB σ H s:=⟨I.ok.wish E,I.os,I.bare,I.base,I.loc,I.cell,I.free,I.freeC,I.pin,I.hok,I.len⟩
theorem Inv.unwish (I:Inv (X.wish E) zB σ H s):Inv X zB σ H s:=⟨I.ok.unwish,I.os,I.bare,I.base,I.loc,I.cell,I.free,I.freeC,I.pin,I.hok,I.len⟩
theorem SP.unwish {D:Ends} {f:Flow} {s':Shared} (h:SP (X.wish E) zB D f s'):SP X zB D f s':=by
 cases f with
 | next=>obtain ⟨σ',H',I,q⟩:=h; exact ⟨σ',H',I.unwish,q⟩
 | brk=>obtain ⟨σ',H',I,q⟩:=h; exact ⟨σ',H',I.unwish,q⟩
 | cont=>obtain ⟨σ',H',I,q⟩:=h; exact ⟨σ',H',I.unwish,q⟩
 | ret u=>obtain ⟨v,σ',H',I,r,q⟩:=h; exact ⟨v,σ',H',I.unwish,r,q⟩
theorem PSs.nox {st:List Stmt} {t:TS} (h:PSs X.nox st t):PSs X st t:=fun zB s σ H D I hw=>
 zQm (h zB s σ H D (I.wish _) hw) (fun _ _ q=>q.unwish) fun _ _ z=>False.elim z
end
section
variable {X:Cx} {st:Stmt} {rest:List Stmt} {t u:TS} {e:Expr} {te:TE} {pos:Pos}
def zPg:TS:=fun D σ H=>D.nx σ H
def zPw (t u:TS):TS:=fun D σ H=>t { D with nx:=u D } σ H
theorem zLw:PSs X [] zPg:=fun _ _ σ H _ I h=>wpAny_execs_nil ⟨σ,H,I,h⟩
theorem zLQ (h1:PS X st t) (h2:PSs X rest u):PSs X (st :: rest) (zPw t u):=by
 intro zB s σ H D I h;refine wpAny_execs_cons (thn (h1 zB s σ H { D with nx:=u D } I h) fun f s1 q=>?_);cases f with
 | next=>
  obtain ⟨σ',H',I',q⟩:=q;exact h2 zB s1 σ' H' D I' q
 | ret v=>exact q
 | brk=>exact q
 | cont=>exact q
theorem zMg (h1:PS X st t):PSs X [st] t:=by
 intro zB s σ H D I h;refine wpAny_execs_cons (thn (h1 zB s σ H D I h) fun f s1 q=>?_);cases f with
 | next=>exact wpAny_execs_nil q
 | ret v=>exact q
 | brk=>exact q
 | cont=>exact q
theorem Inv.quiet {zB:List (Addr × Obj)} {σ:St} {H:Hp} {s:Shared} (I:Inv X zB σ H s):interactive X.env = false:=by simp [interactive,I.ok.kind]
def zOs (te:TE):TS:=fun D σ H=>te σ H fun _ H1=>D.nx σ H1
theorem zMF (he:PE X e te) (hs:swapsWith e none pos.line X.env = pure false:=by rfl):PS X (.Expr e pos) (zOs te):=by
 intro zB s σ H D I h;exact wpAny_Expr_any (thn (he zB s σ H _ I h) fun v s1 ⟨x,H1,I1,r1,q1⟩=>⟨σ,H1,I1,q1⟩) I.quiet hs
def zPz (te:TE):TS:=fun D σ H=>te σ H D.rt
theorem zNX (he:PE X e te):PS X (.Return (some e) pos) (zPz te):=by
 intro zB s σ H D I h;exact wpAny_Return_some (thn (he zB s σ H _ I h) fun v s1 ⟨x,H1,I1,r1,q1⟩=>⟨x,σ,H1,I1,r1,q1⟩)
def zP0 (c:TT) (t u:TS):TS:=fun D σ H=>c σ H fun b H1=>if b = true then t D σ H1 else u D σ H1
theorem zPi {c:Expr} {a b:List Stmt} {tc:TT} (hc:PT X c tc) (ha:PSs X a t) (hb:PSs X b u):PS X (.If c a b pos) (zP0 tc t u):=by
 intro zB s σ H D I h;refine wpAny_If (thn (hc zB s σ H _ I h) fun d s1 ⟨H1,I1,q1⟩=>?_);cases d with
 | true=>exact ha zB s1 σ H1 D I1 q1
 | false=>exact hb zB s1 σ H1 D I1 q1
end
abbrev TG:=V -> St -> Hp -> (St -> Hp -> Prop) -> Prop
abbrev TGs:=List V -> St -> Hp -> (St -> Hp -> Prop) -> Prop
def PG (X:Cx) (target:Expr) (t:TG):Prop :=
 ∀ (zB:List (Addr × Obj)) (s:Shared) (σ:St) (H:Hp) (v:V) (u:Value) (Q:St -> Hp -> Prop),Inv X zB σ H s -> ze v u -> t v σ H Q ->
  wpAny (model X.prog X.w) X.A (assign target X.env u) (fun _ s'=>∃ σ' H',Inv X zB σ' H' s' /\ Q σ' H') X.xe s
def PGs (X:Cx) (ts:List Expr) (t:TGs):Prop :=
 ∀ (zB:List (Addr × Obj)) (s:Shared) (σ:St) (H:Hp) (vs:List V) (us:List Value) (Q:St -> Hp -> Prop),Inv X zB σ H s -> zV vs us -> t vs σ H Q ->
  wpAny (model X.prog X.w) X.A (assignInOrder ((assignEach ts X.env).map (·.2)) us) (fun _ s'=>∃ σ' H',Inv X zB σ' H' s' /\ Q σ' H') X.xe s
abbrev zN3:=V -> V -> V -> Hp -> (Hp -> Prop) -> Prop
def zPl (X:Cx) (t:zN3):Prop :=
 ∀ (zB:List (Addr × Obj)) (s:Shared) (σ:St) (H:Hp) (o i v:V) (ov iv u:Value) (Q:Hp -> Prop),Inv X zB σ H s -> ze o ov -> ze i iv -> ze v u -> t o i v H Q ->
  wpAny (model X.prog X.w) X.A (setItem ov iv u) (fun _ s'=>∃ H',Inv X zB σ H' s' /\ Q H') X.xe s
section
variable {X:Cx} {pos:Pos}
def zCd (i:Nat):TG:=fun v σ H Q=>Q (σ.set i (some v)) H
theorem zIH {i:Nat} {x:Str} (hN:X.N.Nodup) (hi:X.N[i]? = some x) (hx:Loc X.env.scope x) (hf:X.fn x = true \/ X.env.scope.names.lookup x = some .local:=by first | exact .inl rfl | exact .inr rfl | assumption):PG X (.Name x pos) (zCd i):=by
 intro zB s σ H v u Q I r h;exact wpAny_assign_Name (zGH I hN hi hx r (fun s' I'=>⟨_,H,I',h⟩) hf)
def zO3:TGs:=fun vs σ H Q=>vs = [] /\ Q σ H
def zLN (t:TG) (u:TGs):TGs:=fun vs σ H Q=>∃ v r,vs = v :: r /\ t v σ H fun σ' H'=>u r σ' H' Q
theorem zIG:PGs X [] zO3:=by
 intro zB s σ H vs us Q I r h;obtain ⟨e,h⟩:=h;subst e;cases r;exact assignInOrder_nil ⟨σ,H,I,h⟩
theorem zD3 {e:Expr} {es:List Expr} {t:TG} {u:TGs} (h1:PG X e t) (h2:PGs X es u)
  (hs:(assignEach (e :: es) X.env).map (·.2) = assign e X.env :: (assignEach es X.env).map (·.2):=by rfl):PGs X (e :: es) (zLN t u):=by
 intro zB s σ H vs us Q I r h;obtain ⟨v,vr,e1,h⟩:=h;subst e1;cases r with
 | cons r rr=>
  rw [hs];refine assignInOrder_cons (thn (h1 zB s σ H _ _ _ I r h) fun _ s1 ⟨σ1,H1,I1,q1⟩=>?_);exact h2 zB s1 σ1 H1 _ _ Q I1 rr q1
def zO5 (K:PySem.W.Frag) (n:Nat) (t:TGs):TG:=fun v σ H Q=>∃ a xs,v = .ref a /\ SqT K H a xs /\ xs.length = n /\ t xs σ H Q
theorem zKZ {es:List Expr} {k:Nat} {t:TGs} {n:Nat} (hc:X.calm = true) (h:PGs X es t)
  (hn:(assignEach es X.env).length = n:=by rfl) (hst:(assignEach es X.env).findIdx? (·.1) = none:=by rfl):PG X (.Tuple es k pos) (zO5 X.K n t):=by
 intro zB s σ H v u Q I r hw;obtain ⟨a,xs,e1,hq,hl,hw⟩:=hw;subst e1;cases r;obtain ⟨its,rv,ht,hz⟩:=I.tuple hq;refine assign_Tuple_tuple (I.ok.hd hc) ht (by simp [hn,<- hl,rv.length]) hst fun h' hx=>?_;have I1:Inv X zB σ H { s with heap:=h' }:=I.kept (t':=s.toks) fun b o e=>hx b o (zQb (zQR e)) e;exact h zB _ σ H xs _ Q I1 (by simpa using rv) hw
def zQA (to ti:TE) (t:zN3):TG:=fun v σ H Q=>to σ H fun o H1=>ti σ H1 fun i H2=>t o i v H2 fun H3=>Q σ H3
theorem zOD {o i:Expr} {to ti:TE} {t:zN3} (ho:PE X o to) (hi:PE X i ti) (hs:zPl X t)
  (ha:∀ v,assign (.Subscript o i pos) X.env v = (do
   let ov <- holding [v] (eval o X.env);let iv <- holding [v,ov] (eval i X.env);standAt pos;holding [v,ov,iv] (setItem ov iv v);release [v,ov,iv] []):=by intro _; rfl):PG X (.Subscript o i pos) (zQA to ti t):=by
 intro zB s σ H v u Q I r h;rw [ha];refine zQG (zQ9 (thn (ho zB s σ H _ I h) fun ov s1 ⟨x,H1,I1,r1,q1⟩=>?_));refine zQG (zQ9 (thn (hi zB s1 σ H1 _ I1 q1) fun iv s2 ⟨y,H2,I2,r2,q2⟩=>?_));refine zQG (wpAny_standAt (zQG (zQ9 (thn (hs zB s2 σ H2 x y v ov iv u _ I2 r1 r2 r q2) fun _ s3 ⟨H3,I3,q3⟩=>?_))));exact wpAny_release ⟨σ,H3,I3,q3⟩
def zLt (te:TE) (g:TG):TS:=fun D σ H=>te σ H fun x H1=>g x σ H1 D.nx
theorem zKx {tg e:Expr} {te:TE} {g:TG} (he:PE X e te) (hg:PG X tg g) (hs:swapsWithSole [tg] e pos.line X.env = pure false:=by rfl) (hw:swappedStores [tg] e X.env = pure none:=by rfl)
  (h1:(assignEach [tg] X.env).map (·.2) = [assign tg X.env]:=by rfl):PS X (.Assign [tg] e pos) (zLt te g):=by
 intro zB s σ H D I h;refine wpAny_Assign_stores (thn (he zB s σ H _ I h) fun v s1 ⟨x,H1,I1,r1,q1⟩=>?_) hs hw;rw [h1];exact thn (hg zB s1 σ H1 x v _ I1 r1 q1) fun _ s2 q=>q
theorem zNN {i:Nat} {x:Str} {e:Expr} {te:TE} {pos':Pos} (hN:X.N.Nodup) (hi:X.N[i]? = some x) (hx:Loc X.env.scope x) (he:PE X e te) (hs:swapsWith e (some (.Name x pos')) pos.line X.env = pure false:=by rfl) (hf:X.fn x = true \/ X.env.scope.names.lookup x = some .local:=by first | exact .inl rfl | exact .inr rfl | assumption) :
  PS X (.Assign [.Name x pos'] e pos) (zLt te (zCd i)):=by
 intro zB s σ H D I h;refine wpAny_Assign_Name (thn (he zB s σ H _ I h) fun v s1 ⟨y,H1,I1,r1,q1⟩=>?_) hs;exact zGH I1 hN hi hx r1 (fun s2 I2=>⟨_,H1,I2,q1⟩) hf
def zJs (c:TT) (tb:TS):TS:=fun D σ H=>∃ W:Nat -> St -> Hp -> Prop,(∃ m,W m σ H) /\ ∀ m σ H,W m σ H ->
 c σ H fun b H1=>if b = true then ∃ N:St -> Hp -> Prop,(∀ σ' H',N σ' H' -> ∃ m',m' < m /\ W m' σ' H') /\ tb { D with nx:=N,ct:=N,bk:=D.nx } σ H1 else D.nx σ H1
theorem zKS {c:Expr} {body:List Stmt} {tc:TT} {tb:TS} (hp:PassesOwn (model X.prog X.w) X.A X.env X.xe) (hc:PT X c tc) (hb:PSs X body tb):PS X (.While c body [] pos) (zJs tc tb):=by
 intro zB s σ H D I h;obtain ⟨W,⟨m0,w0⟩,turn⟩:=h;refine wpAny_While (codeAny_whileLoop (fun n s'=>∃ σ' H',Inv X zB σ' H' s' /\ W n σ' H') ?_ m0 ⟨σ,H,I,w0⟩);rintro n s1 ⟨σ1,H1,I1,w1⟩;refine wpAny_passesOwn hp (thn (hc zB s1 σ1 H1 _ I1 (turn n σ1 H1 w1)) fun b s2 ⟨H2,I2,q2⟩=>?_);cases b with
 | true=>
  obtain ⟨N,hN,q2⟩:=q2;rw [zQV rfl];refine wpAny_passesOwn hp (thn (hb zB s2 σ1 H2 _ I2 q2) fun f s3 q3=>?_);cases f with
  | next=>
   obtain ⟨σ3,H3,I3,n3⟩:=q3;obtain ⟨m',hm,w3⟩:=hN σ3 H3 n3;exact ⟨m',hm,σ3,H3,I3,w3⟩
  | cont=>
   obtain ⟨σ3,H3,I3,n3⟩:=q3;obtain ⟨m',hm,w3⟩:=hN σ3 H3 n3;exact ⟨m',hm,σ3,H3,I3,w3⟩
  | brk=>exact q3
  | ret v=>exact q3
 | false=>
  rw [zQY zQc];exact wpAny_execs_nil ⟨σ1,H2,I2,q2⟩
end
structure It where
 go:Nat -> Hp -> Prop
 yld:Nat -> Hp -> V -> Hp -> Prop
 stop:Nat -> Hp -> Prop
def zBy (X:Cx) (zB:List (Addr × Obj)) (H:Hp) (b:Addr):Prop :=
 H b = none /\ b ≠ X.env.locals /\ b ∉ X.fs /\ (b ∈ X.ex \/ X.s₀.heap.objs.size <= b) /\ (∀ x c,X.env.cells.lookup x = some c -> c ≠ b) /\ ∀ p ∈ X.pn ++ zB,p.1 ≠ b
theorem Inv.fpOk {X:Cx} {zB:List (Addr × Obj)} {σ:St} {H H':Hp} {s:Shared} {b:Addr} (I:Inv X zB σ H s) (hb:s.heap.objs.size <= b) (hn:H' b = none):zBy X zB H' b:=by
 refine ⟨hn,zRl (zQf I.lt hb),I.nofs hb,.inr (zQh I.sz hb),fun x c e z=>?_,fun p hp z=>?_⟩
 ·obtain ⟨v,q⟩:=I.cell x c e;exact absurd (zQf q.lt (by rw [z]; exact hb)) (zQy _)
 ·exact absurd (zQf (zQR (I.pin p hp).1) (by rw [z]; exact hb)) (zQy _)
structure Turn (P:Program) (w:World) (K:PySem.W.Frag) (tg:Expr) (J:It) (fp:List Addr) (it:Addr) (tn:Nat -> Heap -> Prop):Prop where
 mem:it ∈ fp
 obj:∀ i h,tn i h -> ∀ b ∈ fp,∃ o,h.get? b = some o /\ ∀ v,o.data ≠ .cell v
 keep:∀ i h h',tn i h -> (∀ b ∈ fp,∀ o,h.get? b = some o -> h'.get? b = some o) -> tn i h'
 item:∀ (X:Cx),X.prog = P -> X.w = w -> X.K = K -> X.calm = true -> ∀ (i:Nat) (zB:List (Addr × Obj)) (s:Shared) (σ:St) (H:Hp) (E:Value -> Shared -> Prop),Inv X zB σ H s -> (∀ b ∈ fp,zBy X zB H b) -> tn i s.heap -> J.go i H ->
  wpAny (model P w) X.A (pyNext (.ref it)) (fun r s1=>∃ u,r = some u /\
   wpAny (model P w) X.A (letOwnedTupleGo tg (.ref it) u) (fun _ s2=>∃ x H',Inv X zB σ H' s2 /\ ze x u /\ J.yld i H x H' /\ tn (i + 1) s2.heap /\ ∀ b ∈ fp,H' b = none) E s1) E s
 done:∀ (X:Cx),X.prog = P -> X.w = w -> X.K = K -> X.calm = true -> ∀ (i:Nat) (zB:List (Addr × Obj)) (s:Shared) (σ:St) (H:Hp) (E:Value -> Shared -> Prop),Inv X zB σ H s -> (∀ b ∈ fp,zBy X zB H b) -> tn i s.heap -> J.stop i H ->
  wpAny (model P w) X.A (pyNext (.ref it)) (fun r s1=>r = none /\ Inv X zB σ H s1) E s
 self:∀ (A:Around) (i:Nat) (s:Shared) (Q:Value -> Shared -> Prop) (E:Value -> Shared -> Prop),tn i s.heap -> Q (.ref it) s -> wpAny (model P w) A (pyIter (.ref it)) Q E s
abbrev TI:=St -> Hp -> (It -> Hp -> Prop) -> Prop
def PIE (X:Cx) (zB:List (Addr × Obj)) (σ:St) (tg:Expr) (R:It -> Hp -> Prop) (itv:Value) (s2:Shared):Prop :=
 ∃ (it:Addr) (fp:List Addr) (tn:Nat -> Heap -> Prop) (J:It) (H':Hp),itv = .ref it /\ Inv X zB σ H' s2 /\ Turn X.prog X.w X.K tg J fp it tn /\ tn 0 s2.heap /\ (∀ b ∈ fp,zBy X zB H' b) /\ R J H'
def PI (X:Cx) (tg iter:Expr) (wi:TI):Prop :=
  ∀ (zB:List (Addr × Obj)) (s:Shared) (σ:St) (H:Hp) (R:It -> Hp -> Prop),Inv X zB σ H s -> wi σ H R ->
    wpAny (model X.prog X.w) X.A (eval iter X.env) (fun v s1=>wpAny (model X.prog X.w) X.A (pyIter v) (PIE X zB σ tg R) X.xe s1) X.xe s
theorem zIe {M:Model} {A:Around} {E:Value -> Shared -> Prop} {s:Shared} {tg:Expr} {it:Addr} {u:Value} {o:Obj} {n:String} {vs:Array Value} {Q:Unit -> Shared -> Prop} (ho:s.heap.get? it = some o) (hc:o.cls = .type n) (hd:o.data = .fields vs)
    (hn:["enumerate", "zip", "dict_itemiterator", "dict_reverseitemiterator", "odict_iterator", "itertools.zip_longest", "itertools.pairwise"].contains n = false) (hQ:Q () s):wpAny M A (letOwnedTupleGo tg (.ref it) u) Q E s:=by
  unfold letOwnedTupleGo
  cases tg <;> first
    | exact zQI hQ
    | (cases u <;> first
        | exact zQI hQ
        | (refine zQG (wpAny_load ho ?_)
           rw [hc,hd];show wpAny M A (if (["enumerate", "zip", "dict_itemiterator", "dict_reverseitemiterator", "odict_iterator", "itertools.zip_longest", "itertools.pairwise"].contains n && vs[0]? == some (rawInt _)) = true then _ else _) Q E s;rw [zQY (by intro h; rw [hn,Bool.false_and] at h; cases h)];exact zQI hQ))
def Itl (K:PySem.W.Frag) (a:Addr):It :=
 ⟨fun i H=>∃ xs x,SqL K H a xs /\ xs[i]? = some x,fun i H x H'=>H' = H /\ ∀ xs,SqL K H a xs -> xs[i]? = some x,fun i H=>∃ xs,SqL K H a xs /\ xs.length <= i⟩
def Itt (K:PySem.W.Frag) (a:Addr):It :=
 ⟨fun i H=>∃ xs x,SqT K H a xs /\ xs[i]? = some x,fun i H x H'=>H' = H /\ ∀ xs,SqT K H a xs -> xs[i]? = some x,fun i H=>∃ xs,SqT K H a xs /\ xs.length <= i⟩
def Itr (lo:Int) (n:Nat):It:=⟨fun i _=>i < n,fun i H x H'=>H' = H /\ x = .int (lo + i),fun i _=>n <= i⟩
theorem zIz {P:Program} {w:World} {K:PySem.W.Frag} {tg:Expr} (a it:Addr):Turn P w K tg (Itl K a) [it] it (fun i h=>h.IsListIter it a i) where
 mem:=by simp
 obj:=fun i h st b hb=>by
  have e:b = it:=by simpa using hb
  subst e;obtain ⟨o,e,c,d⟩:=st;exact ⟨o,e,fun v z=>by rw [d] at z; cases z⟩
 keep:=fun i h h' st k=>st.at fun o e=>k it (by simp) o e;item:=by
  intro X hP hw hK hc i zB s σ H E I hf st hg;subst hP hw hK;obtain ⟨xs,x,hq,hx⟩:=hg;obtain ⟨its,rv,p,hz⟩:=I.list hq;obtain ⟨u,hu,ru⟩:=rv.get hx;obtain ⟨f0,f1,f2,f3,f4,f5⟩:=hf it (by simp);refine wpAny_pyNext_list_item st p.isList (x:=u) (by simpa using hu) fun h' st' sb=>?_;have I1:Inv X zB σ H { s with heap:=h' }:=I.turned (t':=s.toks) (fun b o hb e=>(sb.2 b hb).trans e) f0 f1 f3 f4 f5;obtain ⟨o,e,c,d⟩:=id st';exact ⟨u,rfl,zIe (s:={ s with heap:=h' }) e c d (by decide) ⟨x,H,I1,ru,⟨rfl,fun ys hy=>by rw [I.list_inj hy hq]; exact hx⟩,st',fun b hb=>(hf b hb).1⟩⟩
 done:=by
  intro X hP hw hK hc i zB s σ H E I hf st hg;subst hP hw hK;obtain ⟨xs,hq,hx⟩:=hg;obtain ⟨its,rv,p,hz⟩:=I.list hq;obtain ⟨f0,f1,f2,f3,f4,f5⟩:=hf it (by simp);have hl:=rv.length;exact wpAny_pyNext_list_end (I.ok.hd hc) st p.isList (by simp; omega) fun h' eb=>⟨rfl,I.turned (t':=s.toks) (fun b o hb e=>eb b o hb e) f0 f1 f3 f4 f5⟩
 self:=fun _ _ _ _ _ st h=>wpAny_pyIter_listiter st h
theorem zHe {P:Program} {w:World} {K:PySem.W.Frag} {tg:Expr} (a it:Addr):Turn P w K tg (Itt K a) [it] it (fun i h=>h.IsTupleIter it a i) where
 mem:=by simp
 obj:=fun i h st b hb=>by
  have e:b = it:=by simpa using hb
  subst e;obtain ⟨o,e,c,d⟩:=st;exact ⟨o,e,fun v z=>by rw [d] at z; cases z⟩
 keep:=fun i h h' st k=>st.at fun o e=>k it (by simp) o e;item:=by
  intro X hP hw hK hc i zB s σ H E I hf st hg;subst hP hw hK;obtain ⟨xs,x,hq,hx⟩:=hg;obtain ⟨its,rv,p,hz⟩:=I.tuple hq;obtain ⟨u,hu,ru⟩:=rv.get hx;obtain ⟨f0,f1,f2,f3,f4,f5⟩:=hf it (by simp);refine wpAny_pyNext_tuple_item st (show s.heap.IsTuple a its.toArray from p) (x:=u) (by simpa using hu) fun h' st' sb=>?_;have I1:Inv X zB σ H { s with heap:=h' }:=I.turned (t':=s.toks) (fun b o hb e=>(sb.2 b hb).trans e) f0 f1 f3 f4 f5;obtain ⟨o,e,c,d⟩:=id st';exact ⟨u,rfl,zIe (s:={ s with heap:=h' }) e c d (by decide) ⟨x,H,I1,ru,⟨rfl,fun ys hy=>by rw [I.tuple_inj hy hq]; exact hx⟩,st',fun b hb=>(hf b hb).1⟩⟩
 done:=by
  intro X hP hw hK hc i zB s σ H E I hf st hg;subst hP hw hK;obtain ⟨xs,hq,hx⟩:=hg;obtain ⟨its,rv,p,hz⟩:=I.tuple hq;obtain ⟨f0,f1,f2,f3,f4,f5⟩:=hf it (by simp);have hl:=rv.length;exact wpAny_pyNext_tuple_end (I.ok.hd hc) st (show s.heap.IsTuple a its.toArray from p) (by simp; omega) fun h' eb=>⟨rfl,I.turned (t':=s.toks) (fun b o hb e=>eb b o hb e) f0 f1 f3 f4 f5⟩
 self:=fun _ _ _ _ _ st h=>wpAny_pyIter_tupleiter st h
theorem zHV {P:Program} {w:World} {K:PySem.W.Frag} {tg:Expr} (it:Addr) (lo:Int) (n:Nat):Turn P w K tg (Itr lo n) [it] it (fun i h=>IsRangeIter h it (lo + (i:Nat) * 1) ((n:Int) - (i:Nat)) 1) where
 mem:=by simp
 obj:=fun i h st b hb=>by
  have e:b = it:=by simpa using hb
  subst e;exact ⟨_,st,fun v z=>by
   have z':Data.fields _ = Data.cell v:=z;cases z'⟩
 keep:=fun i h h' st k=>k it (by simp) _ st;item:=by
  intro X hP hw hK hc i zB s σ H E I hf st hg;subst hP hw hK;obtain ⟨f0,f1,f2,f3,f4,f5⟩:=hf it (by simp);have W:=Walks.range (prog:=X.prog) (w:=X.w) (I.ok.hd hc) it lo 1 n;refine W.item i s _ _ hg st fun v h' tk hv st' kk=>?_;obtain ⟨t,rfl⟩:=hv;have I1:Inv X zB σ H { s with heap:=h',toks:=tk }:=I.turned (fun b o hb e=>kk b o (by simpa using hb) e) f0 f1 f3 f4 f5;refine ⟨_,rfl,zIe (s:={ s with heap:=h',toks:=tk }) (n := "range_iterator") st' rfl rfl (by decide) ⟨.int (lo + i),H,I1,⟨t,?_⟩,⟨rfl,rfl⟩,st',fun b hb=>(hf b hb).1⟩⟩;rw [Int.mul_one]
 done:=by
  intro X hP hw hK hc i zB s σ H E I hf st hg;subst hP hw hK;obtain ⟨f0,f1,f2,f3,f4,f5⟩:=hf it (by simp);exact wpAny_pyNext_range_end (I.ok.hd hc) st (by have:n <= i:=hg; omega) fun h' eb=>⟨rfl,I.turned (t':=s.toks) (fun b o hb e=>eb b o hb e) f0 f1 f3 f4 f5⟩
 self:=fun _ _ _ _ _ st h=>wpAny_pyIter_rangeiter st h
section
variable {X:Cx} {tg:Expr}
theorem zKc {zB:List (Addr × Obj)} {σ:St} {H:Hp} {s:Shared} {R:It -> Hp -> Prop} {E:Value -> Shared -> Prop} {lo hi:Int} {t u v:Tok} {tk:Nat} (I:Inv X zB σ H s) (h1 : -(2 ^ 62) <= lo) (h2:lo < 2 ^ 62) (h3 : -(2 ^ 62) <= hi) (h4:hi < 2 ^ 62)
  (q:R (Itr lo (hi - lo).toNat) H):wpAny (model X.prog X.w) X.A (pyIter (.ref s.heap.objs.size)) (PIE X zB σ tg R) E { s with heap:=s.heap.push { cls:=.type "range", data:=.fields #[.int lo t,.int hi u,.int 1 v] },toks:=tk }:=by
 refine wpAny_pyIter_range (IsRange.new ..) (small_one h1 h2 h3 h4) ?_;have I1:Inv X zB σ H { s with heap:=s.heap.push { cls:=.type "range", data:=.fields #[.int lo t,.int hi u,.int 1 v] },toks:=tk }:=I.kept fun b o e=>zQH _ e
 refine ⟨(s.heap.push { cls:=.type "range", data:=.fields #[.int lo t,.int hi u,.int 1 v] }).objs.size,[(s.heap.push { cls:=.type "range", data:=.fields #[.int lo t,.int hi u,.int 1 v] }).objs.size],_,_,H,rfl,
  I1.kept (t':=tk) fun b o e=>zQH _ e,zHV _ lo (hi - lo).toNat,?_,fun b hb=>?_,q⟩
 ·have e1:lo + ((0:Nat):Int) * 1 = lo:=by simp
  have e2:(((hi - lo).toNat:Nat):Int) - ((0:Nat):Int) = Builtin.Range.rangeSize lo hi 1:=by rw [rangeSize_one]; split <;> omega
  show IsRangeIter _ _ (lo + ((0:Nat):Int) * 1) ((((hi - lo).toNat:Nat):Int) - ((0:Nat):Int)) 1;rw [e1,e2];exact zQQ _ rfl
 ·have e:b = (s.heap.push { cls:=.type "range", data:=.fields #[.int lo t,.int hi u,.int 1 v] }).objs.size:=by simpa using hb
  subst e;exact I1.fpOk (zQM _) (I1.hok.fresh (zQM _))
def zPh (ta:TA):TI:=fun σ H R=>ta σ H fun vs H1=>∃ j:Int,vs = [.int j] /\ -(2 ^ 62) <= j /\ j < 2 ^ 62 /\ R (Itr 0 j.toNat) H1
theorem zI9 {a:Expr} {ta:TA} {p pos:Pos} (hg:Gl X "range") (hm:X.mg "range" = none) (ha:PA X [a] ta) (hs:starEach [a] X.env = [(false,eval a X.env)]:=by rfl):PI X tg (.Call (.Name "range" p) [a] [] pos) (zPh ta):=by
 intro zB s σ H R I h;refine Call_ (zBd I hg hm boot_range (PyProof.Rows.callWith_type1 (thn (ha pos zB s σ H _ I h) fun us s1 ⟨vs,H1,I1,r1,q1⟩=>?_) hs rfl));obtain ⟨j,e,q1,q2,q⟩:=q1;subst e;cases r1 with
 | cons r rr=>
  cases rr;obtain ⟨t,rfl⟩:=r;exact call_range_1 (zKc I1 (by omega) (by omega) q1 q2 (by simpa using q))
def zOW (wi:TI) (g:TG) (tb:TS):TS:=fun D σ H=>wi σ H fun J H1=>∃ W:Nat -> Nat -> St -> Hp -> Prop,(∃ m,W 0 m σ H1) /\ ∀ i m σ H,W i m σ H ->
 (J.stop i H /\ D.nx σ H) \/ (J.go i H /\ ∃ N:St -> Hp -> Prop,(∀ σ' H',N σ' H' -> ∃ m',m' < m /\ W (i + 1) m' σ' H') /\ ∀ x H',J.yld i H x H' -> g x σ H' fun σ2 H2=>tb { D with nx:=N,ct:=N,bk:=D.nx } σ2 H2)
def zDw (fp:List Addr) (h:Heap):List (Addr × Obj):=fp.filterMap fun b=>(h.get? b).map fun o=>(b,o)
theorem zB2 {fp:List Addr} {h:Heap} {b:Addr} {o:Obj} (hb:b ∈ fp) (e:h.get? b = some o):(b,o) ∈ zDw fp h:=List.mem_filterMap.mpr ⟨b,hb,by rw [e]; rfl⟩
theorem zJS {fp:List Addr} {h:Heap} {p:Addr × Obj} (hp:p ∈ zDw fp h):p.1 ∈ fp /\ h.get? p.1 = some p.2:=by
 obtain ⟨b,hb,e⟩:=List.mem_filterMap.mp hp;cases q:h.get? b with
 | none=>rw [q] at e; cases e
 | some o=>
  rw [q] at e;have e':(b,o) = p:=zRG e;subst e';exact ⟨hb,q⟩
theorem Inv.pinned {zB:List (Addr × Obj)} {σ:St} {H:Hp} {s:Shared} {fp:List Addr} (I:Inv X zB σ H s) (hf:∀ b ∈ fp,zBy X zB H b) (ho:∀ b ∈ fp,∃ o,s.heap.get? b = some o /\ ∀ v,o.data ≠ .cell v):Inv X (zB ++ zDw fp s.heap) σ H s :=
 I.pins_of fun p hp=>(zQg.mp hp).elim (fun z=>I.pin p (zQa _ z)) fun z=>by
  obtain ⟨hb,e⟩:=zJS z;obtain ⟨f0,f1,f2,_⟩:=hf p.1 hb;obtain ⟨o,e',d⟩:=ho p.1 hb;rw [e] at e'; cases e';exact ⟨e,f0,f1,f2,d⟩
theorem Inv.unpinned {zB pl:List (Addr × Obj)} {σ:St} {H:Hp} {s:Shared} (I:Inv X (zB ++ pl) σ H s):Inv X zB σ H s:=I.pins_of fun p hp=>I.pin p (zQa _ (zRV _ hp))
theorem zNA {iter:Expr} {body:List Stmt} {wi:TI} {g:TG} {tb:TS} {pos:Pos} (hp:PassesOwn (model X.prog X.w) X.A X.env X.xe) (hc:X.calm = true) (hi:PI X tg iter wi) (hg:PG X tg g) (hb:PSs X body tb)
  (hs:∀ x,foldedSetIterable iter X.env x = pure x:=by intro _; rfl):PS X (.For tg iter body [] pos) (zOW wi g tb):=by
 intro zB s σ H D I h;refine wpAny_For (thn (hi zB s σ H _ I h) fun v s1 h1=>thn h1 fun itv s2 h2=>?_) hs;obtain ⟨it,fp,tn,J,H2,e,I2,T,st2,f2,W,⟨m0,w0⟩,turn⟩:=h2;subst e;have stat:∀ {H':Hp},(∀ b ∈ fp,H' b = none) -> ∀ b ∈ fp,zBy X zB H' b:=fun hn b hb=>⟨hn b hb,(f2 b hb).2⟩;refine codeAny_forLoop_any (fun n s'=>∃ i σ' H',Inv X zB σ' H' s' /\ tn i s'.heap /\ (∀ b ∈ fp,H' b = none) /\ W i n σ' H') ?_ m0 ⟨0,σ,H2,I2,st2,fun b hb=>(f2 b hb).1,w0⟩;rintro n s3 ⟨i,σ3,H3,I3,st3,fr3,w3⟩;rcases turn i n σ3 H3 w3 with ⟨stop,qn⟩ | ⟨go,N,hN,step⟩
 ·refine wpAny_passesOwn hp (thn (T.done X rfl rfl rfl hc i zB s3 σ3 H3 X.xe I3 (stat fr3) st3 stop) fun r s4 ⟨hr,I4⟩=>?_);subst hr;exact wpAny_execs_nil ⟨σ3,H3,I4,qn⟩
 ·refine wpAny_passesOwn hp (thn (T.item X rfl rfl rfl hc i zB s3 σ3 H3 X.xe I3 (stat fr3) st3 go) fun r s4 ⟨u,hr,h4⟩=>?_);subst hr;refine wpAny_passesOwn hp (thn h4 fun _ s5 ⟨x,H5,I5,r5,y5,st5,fr5⟩=>?_);have I5':=I5.pinned (stat fr5) (T.obj _ _ st5);refine wpAny_passesOwn hp (thn (hg _ s5 σ3 H5 x u _ I5' r5 (step x H5 y5)) fun _ s6 ⟨σ6,H6,I6,q6⟩=>?_);refine wpAny_passesOwn hp (thn (hb _ s6 σ6 H6 _ I6 q6) fun f s7 q7=>?_);have again:∀ {σ7:St} {H7:Hp},Inv X (zB ++ zDw fp s5.heap) σ7 H7 s7 -> N σ7 H7 -> ∃ m,m < n /\ ∃ i σ' H',Inv X zB σ' H' s7 /\ tn i s7.heap /\ (∀ b ∈ fp,H' b = none) /\ W i m σ' H':=fun {σ7 H7} I7 n7=>by
   obtain ⟨m',hm,w7⟩:=hN σ7 H7 n7;refine ⟨m',hm,i + 1,σ7,H7,I7.unpinned,T.keep _ _ _ st5 fun b hb o e=>(I7.pin (b,o) (zQa _ (zQa _ (zB2 hb e)))).1,fun b hb=>?_,w7⟩;obtain ⟨o,e,d⟩:=T.obj _ _ st5 b hb;exact (I7.pin (b,o) (zQa _ (zQa _ (zB2 hb e)))).2.1
  cases f with
  | next=>obtain ⟨σ7,H7,I7,n7⟩:=q7; exact again I7 n7
  | cont=>obtain ⟨σ7,H7,I7,n7⟩:=q7; exact again I7 n7
  | brk=>obtain ⟨σ7,H7,I7,q7⟩:=q7; exact ⟨σ7,H7,I7.unpinned,q7⟩
  | ret v=>obtain ⟨x7,σ7,H7,I7,r7,q7⟩:=q7; exact ⟨x7,σ7,H7,I7.unpinned,r7,q7⟩
end
abbrev R2:=V -> V -> Hp -> VK -> Prop
def OpR (X:Cx) (f:Value -> Value -> Sem Value) (r:R2):Prop :=
 ∀ (zB:List (Addr × Obj)) (s:Shared) (σ:St) (H:Hp) (x y:V) (v u:Value) (Q:VK),Inv X zB σ H s -> ze x v -> ze y u -> r x y H Q ->
  wpAny (model X.prog X.w) X.A (f v u) (EP X zB σ Q) X.xe s
def UnR (X:Cx) (f:Value -> Sem Value) (r:V -> Hp -> VK -> Prop):Prop :=
 ∀ (zB:List (Addr × Obj)) (s:Shared) (σ:St) (H:Hp) (x:V) (v:Value) (Q:VK),Inv X zB σ H s -> ze x v -> r x H Q ->
  wpAny (model X.prog X.w) X.A (f v) (EP X zB σ Q) X.xe s
def zBa (X:Cx) (f:Value) (r:List V -> Hp -> VK -> Prop):Prop :=
 ∀ (zB:List (Addr × Obj)) (s:Shared) (σ:St) (H:Hp) (xs:List V) (us:List Value) (Q:VK),Inv X zB σ H s -> zV xs us -> r xs H Q ->
  wpAny (model X.prog X.w) X.A (call f us) (EP X zB σ Q) X.xe s
def zQF (X:Cx) (r:V -> Hp -> (Bool -> Hp -> Prop) -> Prop):Prop :=
 ∀ (zB:List (Addr × Obj)) (s:Shared) (σ:St) (H:Hp) (x:V) (v:Value) (Q:Bool -> Hp -> Prop),Inv X zB σ H s -> ze x v -> r x H Q ->
  wpAny (model X.prog X.w) X.A (truthy v) (TP X zB σ Q) X.xe s
def tOp (r:R2) (ta tb:TE):TE:=fun σ H Q=>ta σ H fun x H1=>tb σ H1 fun y H2=>r x y H2 Q
def tUn (r:V -> Hp -> VK -> Prop) (ta:TE):TE:=fun σ H Q=>ta σ H fun x H1=>r x H1 Q
def rI (C:Int -> Int -> Prop) (g:Int -> Int -> V):R2:=fun x y H Q=>∃ i j,x = .int i /\ y = .int j /\ C i j /\ Q (g i j) H
def rI0 (g:Int -> Int -> V):R2:=fun x y H Q=>∃ i j,x = .int i /\ y = .int j /\ Q (g i j) H
def rU (g:Int -> V):V -> Hp -> VK -> Prop:=fun x H Q=>∃ i,x = .int i /\ Q (g i) H
section
variable {X:Cx} {a b c:Expr} {ta tb tc:TE} {pos:Pos}
theorem zN7 (ha:PE X a ta) (hb:PE X b tb) {zB:List (Addr × Obj)} {s:Shared} {σ:St} {H:Hp} {R:V -> V -> Hp -> Prop} (I:Inv X zB σ H s)
  (h:ta σ H fun x H1=>tb σ H1 fun y H2=>R x y H2) {Q:Value -> Shared -> Prop} {f:Value -> Value -> Sem Value}
  (hf:∀ v u s2 x y H2,Inv X zB σ H2 s2 -> ze x v -> ze y u -> R x y H2 -> wpAny (model X.prog X.w) X.A (f v u) Q X.xe s2) :
  wpAny (model X.prog X.w) X.A (eval a X.env) (fun v s₁=>wpAny (model X.prog X.w) X.A (eval b X.env) (fun u s₂=>wpAny (model X.prog X.w) X.A (f v u) Q X.xe s₂) X.xe s₁) X.xe s:=by
 refine thn (ha zB s σ H _ I h) fun v s1 ⟨x,H1,I1,r1,q1⟩=>?_;refine thn (hb zB s1 σ H1 _ I1 q1) fun u s2 ⟨y,H2,I2,r2,q2⟩=>?_;exact hf v u s2 x y H2 I2 r1 r2 q2
theorem zOh {op:Operator} {r:R2} (ho:OpR X (binaryOp op) r) (ha:PE X a ta) (hb:PE X b tb):PE X (.BinOp a op b pos) (tOp r ta tb):=by
 intro zB s σ H Q I h;exact wpAny_BinOp (zN7 ha hb I h fun v u s2 x y H2 I2 rx ry q=>ho zB s2 σ H2 x y v u Q I2 rx ry q)
theorem zO4 {op:UnaryOp} {r:V -> Hp -> VK -> Prop} (ho:UnR X (unaryOp op) r) (ha:PE X a ta):PE X (.UnaryOp op a pos) (tUn r ta):=by
 intro zB s σ H Q I h;exact UnaryOp_ (thn (ha zB s σ H _ I h) fun v s1 ⟨x,H1,I1,r1,q1⟩=>ho zB s1 σ H1 x v Q I1 r1 q1)
theorem opI {f:Value -> Value -> Sem Value} {C:Int -> Int -> Prop} {g:Int -> Int -> Int}
  (rule:∀ (i j:Int) (t u:Tok) (s:Shared) (Q:Value -> Shared -> Prop) (E:Value -> Shared -> Prop),C i j -> Q (.int (g i j) s.toks) { s with toks:=s.toks + 1 } -> wpAny (model X.prog X.w) X.A (f (.int i t) (.int j u)) Q E s) :
  OpR X f (rI C fun i j=> .int (g i j)):=by
 intro zB s σ H x y v u Q I rx ry h;obtain ⟨i,j,rfl,rfl,hc,q⟩:=h;obtain ⟨t,rfl⟩:=rx;obtain ⟨t',rfl⟩:=ry;exact rule i j t t' s _ _ hc ⟨.int (g i j),H,I.tok _,⟨_,rfl⟩,q⟩
theorem zPZ {f:Value -> Value -> Sem Value} {g:Int -> Int -> Int}
  (rule:∀ (i j:Int) (t u:Tok) (s:Shared) (Q:Value -> Shared -> Prop) (E:Value -> Shared -> Prop),Q (.int (g i j) s.toks) { s with toks:=s.toks + 1 } -> wpAny (model X.prog X.w) X.A (f (.int i t) (.int j u)) Q E s) :
  OpR X f (rI0 fun i j=> .int (g i j)):=by
 intro zB s σ H x y v u Q I rx ry h;obtain ⟨i,j,rfl,rfl,q⟩:=h;obtain ⟨t,rfl⟩:=rx;obtain ⟨t',rfl⟩:=ry;exact rule i j t t' s _ _ ⟨.int (g i j),H,I.tok _,⟨_,rfl⟩,q⟩
theorem zNI {f:Value -> Value -> Sem Value} {g:Int -> Int -> Bool}
  (rule:∀ (i j:Int) (t u:Tok) (s:Shared) (Q:Value -> Shared -> Prop) (E:Value -> Shared -> Prop),Q (.bool (g i j)) s -> wpAny (model X.prog X.w) X.A (f (.int i t) (.int j u)) Q E s) :
  OpR X f (rI0 fun i j=> .bl (g i j)):=by
 intro zB s σ H x y v u Q I rx ry h;obtain ⟨i,j,rfl,rfl,q⟩:=h;obtain ⟨t,rfl⟩:=rx;obtain ⟨t',rfl⟩:=ry;exact rule i j t t' s _ _ ⟨.bl (g i j),H,I,rfl,q⟩
def zP3 (i j:Int):Prop:=0 < j /\ j < 1073741824
def zPr (i j:Int):Prop:=0 <= j /\ j <= 1000000 /\ i.natAbs < 2 ^ 64
def zOH (i j:Int):Prop:=(-(2 ^ 64) < i /\ i < 2 ^ 64) \/ (-(2 ^ 64) < j /\ j < 2 ^ 64)
theorem zOH.ok {i j:Int} (h:zOH i j):IntMulOk i j:=by
 rcases h with ⟨h1,h2⟩ | ⟨h1,h2⟩
 ·exact .of_left (intBits_le_64 h1 h2)
 ·exact .of_right (intBits_le_64 h1 h2)
theorem zNz:OpR X (binaryOp .Add) (rI0 fun i j=> .int (i + j)):=zPZ fun _ _ _ _ _ _ _ q=>add_int q
theorem zN8:OpR X (binaryOp .Sub) (rI0 fun i j=> .int (i - j)):=zPZ fun _ _ _ _ _ _ _ q=>sub_int q
theorem zNU:OpR X (binaryOp .Mult) (rI zOH fun i j=> .int (i * j)):=opI fun _ _ _ _ _ _ _ hc q=>mul_int q hc.ok
theorem zMj:OpR X (binaryOp .FloorDiv) (rI zP3 fun i j=> .int (i / j)):=opI fun i j _ _ _ _ _ hc q=>by
 have h1:(0:Int) < j:=hc.1;have h2:j < 1073741824:=hc.2;exact floordiv_int (by omega) (by rw [Int.fdiv_eq_ediv_of_nonneg i (by omega)]; exact q) (.inl (PyProof.noPylong_small (by omega)))
theorem zNy:OpR X (binaryOp .Mod) (rI (fun _ j=>0 < j) fun i j=> .int (i % j)):=opI fun i j _ _ _ _ _ hc q=>by
 have h1:(0:Int) < j:=hc;exact mod_int' (by omega) (by rw [Int.fmod_eq_emod_of_nonneg i (by omega)]; exact q)
theorem zOA:OpR X (binaryOp .Pow) (rI zPr fun i j=> .int (i ^ j.toNat)):=opI fun _ _ _ _ _ _ _ hc q=>pow_int_small hc.1 hc.2.1 hc.2.2 q
theorem unI {f:Value -> Sem Value} {g:Int -> Int}
  (rule:∀ (i:Int) (t:Tok) (s:Shared) (Q:Value -> Shared -> Prop) (E:Value -> Shared -> Prop),Q (.int (g i) s.toks) { s with toks:=s.toks + 1 } -> wpAny (model X.prog X.w) X.A (f (.int i t)) Q E s) :
  UnR X f (rU fun i=> .int (g i)):=by
 intro zB s σ H x v Q I rx h;obtain ⟨i,rfl,q⟩:=h;obtain ⟨t,rfl⟩:=rx;exact rule i t s _ _ ⟨.int (g i),H,I.tok _,⟨_,rfl⟩,q⟩
theorem zOL:UnR X (unaryOp .USub) (rU fun i=> .int (-i)):=unI fun _ _ _ _ _ q=>neg_int q
end
def zMB:V -> V -> Bool
 | .non,.non=>true | .non,.int _=>true | .int _,.non=>true | .non,.bl _=>true | .bl _,.non=>true | .non,.str _=>true | .str _,.non=>true
 | .int _,.int _=>true | .bl _,.bl _=>true | .str _,.str _=>true | .byt _,.byt _=>true
 | .int _,.str _=>true | .str _,.int _=>true | .bl _,.str _=>true | .str _,.bl _=>true
 | _,_=>false
def rEq:R2:=fun x y H Q=>zMB x y = true /\ Q (.bl (decide (x = y))) H
def rNe:R2:=fun x y H Q=>zMB x y = true /\ Q (.bl (!decide (x = y))) H
theorem zIT {i j:Int}:decide (V.int i = V.int j) = (i == j):=by
 rw [Bool.eq_iff_iff];simp
theorem zKH {i j:Bool}:decide (V.bl i = V.bl j) = (i == j):=by
 rw [Bool.eq_iff_iff];simp
theorem zIR {i j:Str}:decide (V.str i = V.str j) = (i == j):=by
 rw [Bool.eq_iff_iff];simp
theorem zIB {i j:Array UInt8}:decide (V.byt i = V.byt j) = (i.toList == j.toList):=by
 rw [Bool.eq_iff_iff];cases i;cases j;simp
section
variable {X:Cx} {a b c:Expr} {ta tb tc:TE} {pos:Pos}
theorem zi {zB:List (Addr × Obj)} {σ:St} {H:Hp} {s:Shared} {Q:VK} {k k':Bool} (I:Inv X zB σ H s) (q:Q (.bl k) H) (e:k = k'):EP X zB σ Q (.bool k') s:=by
 subst e;exact ⟨.bl k,H,I,rfl,q⟩
theorem zMw:OpR X (compareOp .Eq) rEq:=by
 intro zB s σ H x y v u Q I rx ry h;obtain ⟨hs,q⟩:=h;cases x with
 | non=>
  cases rx;cases y with
  | non=>cases ry; exact PySem.EqNone.eq_none_none (zi I q (by simp))
  | bl j=>cases ry; exact PySem.EqNone.eq_none_bool (zi I q (by simp))
  | int j=>obtain ⟨t',rfl⟩:=ry; exact PySem.EqNone.eq_none_int (zi I q (by simp))
  | str j=>obtain ⟨t',rfl⟩:=ry; exact PySem.EqNone.eq_none_str (zi I q (by simp))
  | _=>exact absurd (show false = true from hs) zQc
 | bl i=>
  cases rx;cases y with
  | non=>cases ry; exact PySem.EqNone.eq_bool_none (zi I q (by simp))
  | bl j=>cases ry; exact eq_bool (zi I q zKH)
  | str j=>obtain ⟨t',rfl⟩:=ry; exact PySem.EqMixed.eq_bool_str (zi I q (by simp))
  | _=>exact absurd (show false = true from hs) zQc
 | int i=>
  obtain ⟨t,rfl⟩:=rx;cases y with
  | non=>cases ry; exact PySem.EqNone.eq_int_none (zi I q (by simp))
  | int j=>obtain ⟨t',rfl⟩:=ry; exact eq_int (zi I q zIT)
  | str j=>obtain ⟨t',rfl⟩:=ry; exact PySem.EqMixed.eq_int_str (zi I q (by simp))
  | _=>exact absurd (show false = true from hs) zQc
 | str i=>
  obtain ⟨t,rfl⟩:=rx;cases y with
  | non=>cases ry; exact PySem.EqNone.eq_str_none (zi I q (by simp))
  | bl j=>cases ry; exact PySem.EqMixed.eq_str_bool (zi I q (by simp))
  | int j=>obtain ⟨t',rfl⟩:=ry; exact PySem.EqMixed.eq_str_int (zi I q (by simp))
  | str j=>obtain ⟨t',rfl⟩:=ry; exact eq_str (zi I q zIR)
  | _=>exact absurd (show false = true from hs) zQc
 | byt i=>
  obtain ⟨t,rfl⟩:=rx;cases y with
  | byt j=>obtain ⟨t',rfl⟩:=ry; exact PySem.W.eq_bytes (zi I q zIB)
  | _=>exact absurd (show false = true from hs) zQc
 | _=>cases y <;> exact absurd (show false = true from hs) zQc
theorem zPb:OpR X (compareOp .NotEq) rNe:=by
 intro zB s σ H x y v u Q I rx ry h;obtain ⟨hs,q⟩:=h;cases x with
 | non=>
  cases rx;cases y with
  | non=>cases ry; exact PySem.EqNone.ne_none_none (zi I q (by simp))
  | bl j=>cases ry; exact PySem.EqNone.ne_none_bool (zi I q (by simp))
  | int j=>obtain ⟨t',rfl⟩:=ry; exact PySem.EqNone.ne_none_int (zi I q (by simp))
  | str j=>obtain ⟨t',rfl⟩:=ry; exact PySem.EqNone.ne_none_str (zi I q (by simp))
  | _=>exact absurd (show false = true from hs) zQc
 | bl i=>
  cases rx;cases y with
  | non=>cases ry; exact PySem.EqNone.ne_bool_none (zi I q (by simp))
  | bl j=>cases ry; exact ne_bool (zi I q (congrArg not zKH))
  | str j=>obtain ⟨t',rfl⟩:=ry; exact PySem.EqMixed.ne_bool_str (zi I q (by simp))
  | _=>exact absurd (show false = true from hs) zQc
 | int i=>
  obtain ⟨t,rfl⟩:=rx;cases y with
  | non=>cases ry; exact PySem.EqNone.ne_int_none (zi I q (by simp))
  | int j=>obtain ⟨t',rfl⟩:=ry; exact ne_int (zi I q (congrArg not zIT))
  | str j=>obtain ⟨t',rfl⟩:=ry; exact PySem.EqMixed.ne_int_str (zi I q (by simp))
  | _=>exact absurd (show false = true from hs) zQc
 | str i=>
  obtain ⟨t,rfl⟩:=rx;cases y with
  | non=>cases ry; exact PySem.EqNone.ne_str_none (zi I q (by simp))
  | bl j=>cases ry; exact PySem.EqMixed.ne_str_bool (zi I q (by simp))
  | int j=>obtain ⟨t',rfl⟩:=ry; exact PySem.EqMixed.ne_str_int (zi I q (by simp))
  | str j=>obtain ⟨t',rfl⟩:=ry; exact ne_str (zi I q (congrArg not zIR))
  | _=>exact absurd (show false = true from hs) zQc
 | byt i=>
  obtain ⟨t,rfl⟩:=rx;cases y with
  | byt j=>obtain ⟨t',rfl⟩:=ry; exact PySem.W.ne_bytes (zi I q (congrArg not zIB))
  | _=>exact absurd (show false = true from hs) zQc
 | _=>cases y <;> exact absurd (show false = true from hs) zQc
theorem zPC:OpR X (compareOp .Lt) (rI0 fun i j=> .bl (decide (i < j))):=zNI fun _ _ _ _ _ _ _ q=>lt_int q
theorem zOb:OpR X (compareOp .LtE) (rI0 fun i j=> .bl (decide (i <= j))):=zNI fun _ _ _ _ _ _ _ q=>le_int q
theorem zOm:OpR X (compareOp .GtE) (rI0 fun i j=> .bl (decide (j <= i))):=zNI fun _ _ _ _ _ _ _ q=>ge_int q
theorem OpR.or {f:Value -> Value -> Sem Value} {r r':R2} (h:OpR X f r) (h':OpR X f r'):OpR X f (fun x y H Q=>r x y H Q \/ r' x y H Q):=by
 intro zB s σ H x y v u Q I rx ry q;rcases q with q | q
 ·exact h zB s σ H x y v u Q I rx ry q
 ·exact h' zB s σ H x y v u Q I rx ry q
theorem zDa (b:Expr) {op:CmpOp} (h:op ≠ .In:=by decide) (h2:op ≠ .NotIn:=by decide):behindInMarks op b = false:=by
 have e1:(op == CmpOp.In) = false:=by cases op <;> first | rfl | exact absurd rfl h
 have e2:(op == CmpOp.NotIn) = false:=by cases op <;> first | rfl | exact absurd rfl h2
 cases b <;> simp [behindInMarks,e1,e2]
theorem zMK {op:CmpOp} {r:R2} (ho:OpR X (compareOp op) r) (ha:PE X a ta) (hb:PE X b tb) (hm:behindInMarks op b = false):PE X (.Compare a [op] [b] pos) (tOp r ta tb):=by
 intro zB s σ H Q I h;exact wpAny_Compare1 (zN7 ha hb I h fun v u s2 x y H2 I2 rx ry q=>ho zB s2 σ H2 x y v u Q I2 rx ry q) hm
def zIh (t:TE):TT:=fun σ H Q=>t σ H fun x H'=>∃ k,x = .bl k /\ Q k H'
theorem zMJ {op:CmpOp} {r:R2} (ho:OpR X (compareOp op) r) (ha:PE X a ta) (hb:PE X b tb) (hm:behindInMarks op b = false):PT X (.Compare a [op] [b] pos) (zIh (tOp r ta tb)):=by
 intro zB s σ H Q I h;refine wpAny_isTrue_Compare1 (thn (ha zB s σ H _ I h) fun v s1 ⟨x,H1,I1,r1,q1⟩=>thn (hb zB s1 σ H1 _ I1 q1) fun u s2 ⟨y,H2,I2,r2,q2⟩=>
  thn (ho zB s2 σ H2 x y v u _ I2 r1 r2 q2) fun c s3 ⟨z,H3,I3,r3,k,e,q3⟩=>?_) hm
 subst e;cases r3;exact wpAny_truthy_bool ⟨H3,I3,q3⟩
def zPR (K:PySem.W.Frag) (x:V) (H:Hp) (k:Bool):Prop :=
 match x with
 | .non=>k = false
 | .bl b=>k = b
 | .int i=>k = (i != 0)
 | .str y=>y.length <= sizeLine /\ k = ((y.length:Int) != 0)
 | .byt y=>y.size <= sizeLine /\ k = ((y.size:Int) != 0)
 | .ref p=>(∃ xs,SqL K H p xs /\ k = !xs.isEmpty) \/ (∃ xs,SqT K H p xs /\ k = !xs.isEmpty) \/ ∃ kvs,H p = some (.dK kvs) /\ k = !kvs.isEmpty
 | _=>False
theorem zHm {κ:Type} {kvs:List (κ × V)} {vs:List (κ × Value)} (r:KV kvs vs):(!vs.isEmpty) = !kvs.isEmpty:=by
 cases r <;> rfl
theorem zEB {xs:List V} {its:List Value} (r:zV xs its):(!its.toArray.isEmpty) = !xs.isEmpty:=by
 cases r <;> simp
theorem zCp:(sizeLine:Nat) < 2 ^ 63:=by rw [sizeLine_eq]; decide
theorem zNw:zQF X (fun x H Q=>∃ k,zPR X.K x H k /\ Q k H):=by
 intro zB s σ H x v Q I rx h;obtain ⟨k,e,q⟩:=h;have hl:=zCp;have hs:sizeLine = 16777216:=sizeLine_eq;cases x with
 | non=>
  cases rx;have e':k = false:=e;subst e';exact truthy_none ⟨H,I,q⟩
 | bl b=>
  cases rx;have e':k = b:=e;subst e';exact wpAny_truthy_bool ⟨H,I,q⟩
 | int i=>
  obtain ⟨t,rfl⟩:=rx;have e':k = (i != 0):=e;subst e';exact PySem.P.truthy_int ⟨H,I,q⟩
 | str y=>
  obtain ⟨t,rfl⟩:=rx;obtain ⟨hy,e'⟩:y.length <= sizeLine /\ k = ((y.length:Int) != 0):=e;subst e';exact PySem.P.truthy_str (by omega) ⟨H,I.tok _,q⟩
 | byt y=>
  obtain ⟨t,rfl⟩:=rx;obtain ⟨hy,e'⟩:y.size <= sizeLine /\ k = ((y.size:Int) != 0):=e;subst e';exact PySem.W.truthy_bytes (by omega) ⟨H,I.tok _,q⟩
 | ref p=>
  cases rx;have e':(∃ xs,SqL X.K H p xs /\ k = !xs.isEmpty) \/ (∃ xs,SqT X.K H p xs /\ k = !xs.isEmpty) \/ ∃ kvs,H p = some (.dK kvs) /\ k = !kvs.isEmpty:=e;rcases e' with ⟨xs,hx,e'⟩ | ⟨xs,hx,e'⟩ | ⟨kvs,hx,e'⟩
  ·subst e';obtain ⟨its,r,pl,hz⟩:=I.list hx;have hlen:=r.length;exact wpAny_truthy_list pl.isList (by simp only [zQO]; omega) ⟨H,I.tok _,by rw [zEB r]; exact q⟩
  ·subst e';obtain ⟨its,r,pl,hz⟩:=I.tuple hx;have hlen:=r.length;exact truthy_tuple pl (by simp only [zQO]; omega) ⟨H,I.tok _,by rw [zEB r]; exact q⟩
  ·subst e';obtain ⟨hz,hS,vs,r,m⟩:kvs.length <= sizeLine /\ (p == sysModules) = false /\ ∃ vs,KV kvs vs /\ s.heap.DictOf (zy X.prog X.w) p vs:=I.hok p _ hx;have hlen:kvs.length = vs.length:=Paired.length r;exact wpAny_truthy_dict hS m (by omega) ⟨H,I.tok _,by rw [zHm r]; exact q⟩
 | _=>exact (show False from e).elim
theorem zJ9 (ha:PE X a ta) (he:∀ whole,isTrue a X.env whole = (do let v <- whole; standAt a.pos; holding [v] (truthy v))) :
  PT X a (fun σ H Q=>ta σ H fun x H'=>∃ k,zPR X.K x H' k /\ Q k H'):=by
 intro zB s σ H Q I h;exact isTrue_plain (thn (ha zB s σ H _ I h) fun v s1 ⟨x,H1,I1,r1,q1⟩=>zNw zB s1 σ H1 x v Q I1 r1 q1) (he _)
theorem zDf {x:V} {us:List Value} (r:zV [x] us):∃ u,us = [u] /\ ze x u:=by
 cases r with
 | cons r1 r2=>cases r2; exact ⟨_,rfl,r1⟩
theorem zMr {x y:V} {us:List Value} (r:zV [x,y] us):∃ u w',us = [u,w'] /\ ze x u /\ ze y w':=by
 cases r with
 | cons r1 r2=>
  cases r2 with
  | cons r3 r4=>cases r4; exact ⟨_,_,rfl,r1,r3⟩
theorem zIn (hc:X.calm = true):zBa X (.builtin "min") (fun xs H Q=>∃ i j,xs = [.int i,.int j] /\ Q (.int (if j < i then j else i)) H):=by
 intro zB s σ H xs us Q I r h;obtain ⟨i,j,rfl,q⟩:=h;obtain ⟨u,w',rfl,⟨t,rfl⟩,⟨t',rfl⟩⟩:=zMr r;refine min_two_ints (I.ok.hd hc) fun h' tk k=>⟨_,H,I.kept k,?_,q⟩;by_cases hj:j < i
 ·rw [zQV hj,zQV hj]; exact ⟨_,rfl⟩
 ·rw [zQY hj,zQY hj]; exact ⟨_,rfl⟩
end
structure ObjM (h:Heap) (x dx C:Addr) (mA:Str -> Option Value):Prop where
 obj:h.get? x = some (PySem.W.instObj C dx)
 ns:h.Ns1 dx mA
 ne:dx ≠ x
theorem zJC {h:Heap} {dx:Addr} {mA:Str -> Option Value} (n:h.Ns1 dx mA):∃ od,h.get? dx = some od /\ ∀ name,PySem.W.lookIn name od = some (mA name):=by
 obtain ⟨o,es,ep,ho,hd,hk,_,hm⟩:=n;refine ⟨o,ho,fun name=>?_⟩;have e:=hm name;unfold nsFind findBy at e;rw [<- Array.find?_toList] at e;unfold PySem.W.lookIn;rw [hd];dsimp only;split
 ·rename_i y q;rw [q] at e;exact congrArg some e
 ·rename_i q;rw [q] at e;have a:es.toList.any (·.refKey) = false:=by
   rw [List.any_eq_false];intro y hy;obtain ⟨z,t,hkey⟩:=hk y (Array.mem_toList_iff.mp hy);simp [DictEntry.refKey,hkey]
  have a':¬ es.toList.any (·.refKey) = true:=by rw [a]; exact zQc
  rw [zQY a'];exact congrArg some e
theorem ObjM.look {h:Heap} {x dx C:Addr} {mA:Str -> Option Value} (I:ObjM h x dx C mA):∃ od,PySem.W.InstAt h x (PySem.W.instObj C dx) C (some od) /\ ∀ name,PySem.W.lookIn name od = some (mA name) :=
 let ⟨od,ho,hl⟩:=zJC I.ns
 ⟨od,⟨I.obj,rfl,rfl,ho⟩,hl⟩
theorem zEV.some_of {v:V} {o:Option Value} (r:zEV (some v) o):∃ u,o = some u /\ ze v u:=by
 cases o with
 | none=>exact (show False from r).elim
 | some u=>exact ⟨u,rfl,r⟩
section
variable {P:Program} {w:World} {H H':Hp} {h h':Heap} {a C dx:Addr} {fs fs':List (Str × V)}
theorem zLj (hok:HOk P w H h) (e:H a = some (.ins C dx fs)):∃ mA,ObjM h a dx C mA /\ (∀ f,zEV (fs.lookup f) (mA f)) /\ PySem.Within mA (fs.map (·.1)) /\ fs.length <= 1000 /\ H dx = some (.own a):=by
 obtain ⟨d,z,ne,ob,mA,n,r,q⟩:=(show zt P w H h a (.ins C dx fs) from hok a _ e);exact ⟨mA,⟨ob,n,ne⟩,r,q,z,d⟩
end
structure Cls (K:PySem.W.Frag) (C:Addr):Prop where
 pg:PySem.W.plainGet K C Str.empty = true
 hd:PySem.W.hasDictIn K C = true
 po:PySem.W.plainOver K C = true
 sa:PySem.W.findIn K (.ref C) "__setattr__" = some (some (.builtin "object.__setattr__"))
theorem Cls.get {K:PySem.W.Frag} {C:Addr} (c:Cls K C) (f:Str):PySem.W.plainGet K C f = true:=c.pg
section
variable {X:Cx} {zB:List (Addr × Obj)} {σ:St} {H:Hp} {s:Shared} {A:Around} {E:Value -> Shared -> Prop} {Q:Value -> Shared -> Prop} {c:Value} {b:Bool}
set_option genInjectivity true in
inductive TyOf (K:PySem.W.Frag) (H:Hp):V -> Value -> Prop where
 | non:TyOf K H .non (.type "NoneType")
 | bl (x:Bool):TyOf K H (.bl x) (.type "bool")
 | int (i:Int):TyOf K H (.int i) (.type "int")
 | str (x:Str):TyOf K H (.str x) (.type "str")
 | flt (x:UInt64):TyOf K H (.flt x) (.type "float")
 | lst {a:Addr} {xs:List V} (e:H a = some (.lst xs)):TyOf K H (.ref a) (.type "list")
 | frz {a:Addr} {o:Obj} {xs:List V} (e:H a = some (.frz o (.lst xs))):TyOf K H (.ref a) (.type "list")
 | tup {a:Addr} {xs:List V} (e:H a = some (.tup xs)):TyOf K H (.ref a) (.type "tuple")
 | dK {a:Addr} {kvs:List (Key × V)} (e:H a = some (.dK kvs)):TyOf K H (.ref a) (.type "dict")
 | dT {a:Addr} {kvs:List (List Key × V)} (e:H a = some (.dT kvs)):TyOf K H (.ref a) (.type "dict")
 | ins {a C dx:Addr} {fs:List (Str × V)} (e:H a = some (.ins C dx fs)) (cl:Cls K C) (ha:PySem.W.findIn K (.ref C) "__class__" = some (some (.builtin "object.__class__")))
   (hn:PySem.W.specialIn K (.builtin "object.__class__") "__get__" = some (some (.builtin "getset_descriptor.__get__"))) (htk:PySem.W.takesIn K (.builtin "object.__class__") = some true)
   (hm:PySem.W.mroIn K C (.type "object") = some true):TyOf K H (.ref a) (.ref C)
theorem zIp {x:V} {u t:Value} (I:Inv X zB σ H s) (rx:ze x u) (ty:TyOf X.K H x t) (e:PySem.W.kitOne X.K t c = some b) (h:∀ tk,Q (.bool b) { s with toks:=tk }) :
  wpAny (model X.prog X.w) A (call (.builtin "isinstance") [u,c]) Q E s:=by
 cases ty with
 | non=>cases (show u = Value.none from rx); exact zRt PySem.W.kitx_none I.kIn True.intro e (fun z=>nomatch z) h
 | bl y=>cases (show u = Value.bool y from rx); exact zRt PySem.W.kitx_bool I.kIn True.intro e (fun z=>nomatch z) h
 | int i=>obtain ⟨t,q⟩:=(show ∃ t,u = Value.int i t from rx); cases q; exact zRt PySem.W.kitx_int I.kIn True.intro e (fun z=>nomatch z) h
 | str y=>obtain ⟨t,q⟩:=(show ∃ t,u = Value.str y t from rx); cases q; exact zRt PySem.W.kitx_str I.kIn True.intro e (fun z=>nomatch z) h
 | flt y=>obtain ⟨t,q⟩:=(show ∃ t,u = Value.float y t from rx); cases q; exact zRt PySem.W.kitx_float I.kIn True.intro e (fun z=>nomatch z) h
 | @lst a xs ea=>
  cases (show u = Value.ref a from rx);obtain ⟨_,_,n,_,h1⟩:=(show zt X.prog X.w H s.heap a (.lst xs) from I.hok a _ ea);exact zRt PySem.W.kitx_list I.kIn ⟨_,h1,rfl⟩ e (fun z=>nomatch z) h
 | @frz a ob xs ea=>
  cases (show u = Value.ref a from rx);obtain ⟨_,_,_,n,_,h1⟩:=(show zt X.prog X.w H s.heap a (.frz ob (.lst xs)) from I.hok a _ ea);exact zRt PySem.W.kitx_list I.kIn ⟨_,h1,rfl⟩ e (fun z=>nomatch z) h
 | @tup a xs ea=>
  cases (show u = Value.ref a from rx);obtain ⟨_,_,_,p⟩:=(show zt X.prog X.w H s.heap a (.tup xs) from I.hok a _ ea);obtain ⟨o,h1,h2,_⟩:=p;exact zRt PySem.W.kitx_tuple I.kIn ⟨o,h1,h2⟩ e (fun z=>nomatch z) h
 | @dK a kvs ea=>
  cases (show u = Value.ref a from rx);obtain ⟨_,_,vs,_,p⟩:=(show zt X.prog X.w H s.heap a (.dK kvs) from I.hok a _ ea);obtain ⟨o,es,ep,h1,h2,_⟩:=p;exact zRt PySem.W.kitx_dict I.kIn ⟨o,h1,h2.1⟩ e (fun z=>nomatch z) h
 | @dT a kvs ea=>
  cases (show u = Value.ref a from rx);obtain ⟨_,_,xs,_,o,es,ep,h1,h2,_⟩:=(show zt X.prog X.w H s.heap a (.dT kvs) from I.hok a _ ea);exact zRt PySem.W.kitx_dict I.kIn ⟨o,h1,h2.1⟩ e (fun z=>nomatch z) h
 | @ins a C dx fs ea cl ha hn htk hm=>
  cases (show u = Value.ref a from rx);obtain ⟨mA,O,_⟩:=zLj I.hok ea;obtain ⟨od,J,_⟩:=O.look;exact zRt (PySem.W.kitx_own (cl.get _) cl.hd ha hn htk hm) I.kIn J e (fun z=>nomatch z) h
end
structure Room (k:Nat) (A:Around):Prop where
 hd:A.handled = none
 dp:A.depth + 3 * k + 5 < recursionLimit
 un:A.units + 16 * k + 200 < cLine
theorem Room.mono {j k:Nat} {A:Around} (r:Room k A) (h:j <= k):Room j A:=⟨r.hd,by have:=r.dp; omega,by have:=r.un; omega⟩
theorem Room.deeper {k:Nat} {A:Around} (r:Room (k + 1) A) (env:Env):Room k (A.deeper env) :=
 ⟨r.hd,by have:=r.dp; show A.depth + 1 + 3 * k + 5 < _; omega,by have:=r.un; show A.units + 3 + 16 * k + 200 < _; omega⟩
theorem Room.depth {k:Nat} {A:Around} (r:Room k A):A.depth < recursionLimit:=by have:=r.dp; omega
theorem Room.units {k:Nat} {A:Around} (r:Room k A):A.units + 64 < cLine:=by have:=r.un; omega
theorem Room.units0 {k:Nat} {A:Around} (r:Room k A):A.units < cLine:=by have:=r.un; omega
def zPs:TA:=fun _ H Q=>Q [] H
def zPS (ta:TE) (tr:TA):TA:=fun σ H Q=>ta σ H fun x H1=>tr σ H1 fun xs H2=>Q (x :: xs) H2
section
variable {X:Cx} {e:Expr} {es:List Expr} {te:TE} {t:TA} {pos:Pos}
theorem zD2:PA X [] zPs:=fun _ _ _ _ H Q I h=>Calls.spliced_nil ⟨[],H,I,.nil,h⟩
theorem zCU (ha:PE X e te) (hr:PA X es t) (hs:starEach (e :: es) X.env = (false,eval e X.env) :: starEach es X.env:=by rfl):PA X (e :: es) (zPS te t):=by
 intro pos zB s σ H Q I h;rw [hs];show wpAny _ _ (spliced ((false,eval e X.env) :: backTo pos (starEach es X.env))) _ _ s;refine Calls.spliced_cons (thn (ha zB s σ H _ I h) fun u s1 ⟨x,H1,I1,r1,q1⟩=>?_);exact thn (hr pos zB s1 σ H1 _ I1 q1) fun us s2 ⟨xs,H2,I2,r2,q2⟩=>⟨x :: xs,H2,I2,.cons r1 r2,q2⟩
def zPm (t:TA):TE:=fun σ H Q=>t σ H fun xs H1=>xs.length <= sizeLine /\ ∀ p,H1 p = none -> Q (.ref p) (upd H1 p (.tup xs))
def zP5 (t:TA):TE:=fun σ H Q=>t σ H fun xs H1=>xs.length <= sizeLine /\ ∀ p,H1 p = none -> Q (.ref p) (upd H1 p (.lst xs))
theorem zNQ {x1} (h:PA X es t):PE X (.Tuple es x1 pos) (zPm t):=by
 intro zB s σ H Q I hq;refine wpAny_Tuple_spliced (thn (h pos zB s σ H _ I hq) fun us s1 ⟨xs,H1,I1,r,z,q⟩=>⟨by rw [<- r.length]; exact z,?_⟩);have hf:H1 s1.heap.objs.size = none:=I1.hok.fresh (zQM _);refine ⟨.ref s1.heap.objs.size,upd H1 s1.heap.objs.size (.tup xs),I1.laid (t':=s1.toks) (fun b u e=>zQH _ e) (zQM _) ?_,rfl,q _ hf⟩;exact ⟨z,us,r,⟨_,zQQ _ rfl,rfl,⟨_,rfl⟩,rfl⟩⟩
theorem zNv (h:PA X es t):PE X (.List es pos) (zP5 t):=by
 intro zB s σ H Q I hq;refine wpAny_List_spliced (thn (h pos zB s σ H _ I hq) fun us s1 ⟨xs,H1,I1,r,z,q⟩=>⟨by rw [<- r.length]; exact z,?_⟩);have hf:H1 s1.heap.objs.size = none:=I1.hok.fresh (zQM _);refine ⟨.ref s1.heap.objs.size,upd H1 s1.heap.objs.size (.lst xs),I1.laid (t':=s1.toks) (fun b u e=>zQH _ e) (zQM _) ?_,rfl,q _ hf⟩;exact ⟨z,us,0,r,zQQ _ rfl⟩
end
abbrev Sp:=List V -> Hp -> VK -> XK -> Prop
abbrev CXT:=List Env -> Hp -> Shared -> XK -> Value -> Shared -> Prop
structure Env0 (P:Program) (w:World) (K:PySem.W.Frag) (mg:Str -> Option Value) (base:Heap) (A:Around) (outer:List Env) (s:Shared) (H:Hp):Prop where
 frames:A.frames = some outer
 mod:Mod K mg base
 bs:∀ b o,base.get? b = some o -> s.heap.get? b = some o /\ H b = none
 bsz:base.objs.size <= s.heap.objs.size
 funs:s.heap.FunFrames base outer
 frf:∀ b ∈ frs outer,H b = none
 hok:HOk P w H s.heap
 bare:AllBare s.gens
def CE (outer:List Env) (P:Program) (w:World) (H:Hp) (s:Shared) (Q:VK) (u:Value) (s':Shared):Prop :=
 ∃ v H',s'.os = s.os /\ AllBare s'.gens /\ Un (frs outer) [] H H' s.heap s'.heap /\ HOk P w H' s'.heap /\ ze v u /\ Q v H'
def CR (CX:CXT) (outer:List Env) (P:Program) (w:World) (H:Hp) (s:Shared) (Q:VK) (E:XK) (r:Result) (s':Shared):Prop :=
 match r with
 | .ok (.ret u)=>CE outer P w H s Q u s'
 | .ok _=>False
 | .error e=>CX outer H s E e s'
structure FnOk (P:Program) (w:World) (K:PySem.W.Frag) (mg:Str -> Option Value) (base:Heap) (CX:CXT) (k:Nat) (f:Addr) (fd:FuncData) (ps:List Str) (sp:Sp):Prop where
 len:∀ vs H Q E,sp vs H Q E -> vs.length = ps.length
 run:∀ (A:Around) (outer:List Env) (s:Shared) (H:Hp) (args:Args) (us:List Value) (vs:List V) (Q:VK) (E:XK),Room k A -> Env0 P w K mg base A outer s H -> BindsTo s fd args (ps.zip us) -> zV vs us -> sp vs H Q E ->
  codeAny (model P w) A (.call (.ref f) args) (CR CX outer P w H s Q E) s
theorem FnOk.imp {P:Program} {w:World} {K:PySem.W.Frag} {mg:Str -> Option Value} {base:Heap} {CX:CXT} {k:Nat} {f:Addr} {fd:FuncData} {ps:List Str} {sp sp':Sp} (F:FnOk P w K mg base CX k f fd ps sp)
  (h:∀ vs H Q E,sp' vs H Q E -> sp vs H Q E):FnOk P w K mg base CX k f fd ps sp' :=
 ⟨fun vs H Q E q=>F.len vs H Q E (h _ _ _ _ q),fun A outer s H args us vs Q E hr he hb hv hs=>F.run A outer s H args us vs Q E hr he hb hv (h _ _ _ _ hs)⟩
section
variable {X:Cx} {zB:List (Addr × Obj)} {σ:St} {H:Hp} {s s':Shared}
theorem Inv.env0 (I:Inv X zB σ H s):Env0 X.prog X.w X.K X.mg X.base X.A X.stack s H :=
 ⟨I.ok.frames,I.ok.mod,I.bs,zQh I.ok.bsz I.sz,I.stack,I.stkFree,I.hok,I.bare⟩
theorem Inv.after {Q:VK} {u:Value} (I:Inv X zB σ H s) (h:CE X.stack X.prog X.w H s Q u s'):EP X zB σ Q u s':=by
 obtain ⟨v,H',os,bare,un,hok,r,q⟩:=h;obtain ⟨hh,g,d,t,os'⟩:=s';obtain rfl:os' = s.os:=os;exact ⟨v,H',I.call (h':=hh) (g':=g) (d':=d) (t':=t) (ch:=[]) un hok bare (fun b z=>absurd z (by simp)),r,q⟩
end
def zO6 (sp:Sp) (dvs:List V) (E:XK) (t:TA):TE:=fun σ H Q=>t σ H fun vs H1=>sp (vs ++ dvs) H1 Q E
def zEX (K:PySem.W.Frag) (fd:FuncData) (ps:List Str) (ds:List Value):Prop :=
 ∀ (s:Shared) (us:List Value),K.In s.heap -> (us ++ ds).length = ps.length -> BindsTo s fd ⟨us,[]⟩ (ps.zip (us ++ ds))
theorem zEX.all {K:PySem.W.Frag} {fd:FuncData} {ps:List Str} (h:∀ us:List Value,us.length = ps.length -> bindArgs fd ⟨us,[]⟩ = pure (ps.zip us)):zEX K fd ps []:=fun s us _ hl=>by
 rw [zQ0] at hl ⊢;exact .of_eq (h us hl)
def zHZ (CX:CXT) (X:Cx) (E:XK):Prop:=∀ (zB:List (Addr × Obj)) (σ:St) (H:Hp) (s:Shared) (e:Value) (s':Shared),Inv X zB σ H s -> CX X.stack H s E e s' -> X.xe e s'
section
variable {X:Cx} {CX:CXT} {k:Nat} {f C:Addr} {fd:FuncData} {ps:List Str} {sp:Sp} {dvs:List V} {ds:List Value} {E:XK} {x m:Str} {p pos apos:Pos} {e o:Expr} {es:List Expr} {ta:TE} {t:TA}
theorem zOB {zB:List (Addr × Obj)} {σ:St} {H:Hp} {s:Shared} {Q:VK} {us:List Value} {vs:List V} (F:FnOk X.prog X.w X.K X.mg X.base CX k f fd ps sp) (hr:Room k X.A) (hb:zEX X.K fd ps ds) (hd:zV dvs ds) (hx:zHZ CX X E)
  (I:Inv X zB σ H s) (r:zV vs us) (h:sp (vs ++ dvs) H Q E):wpAny (model X.prog X.w) X.A (call (.ref f) us) (EP X zB σ Q) X.xe s:=by
 have r2:zV (vs ++ dvs) (us ++ ds):=r.append hd;have hl:(us ++ ds).length = ps.length:=by rw [<- r2.length]; exact F.len _ _ _ _ h
 refine wpAny_call (codeAny_mono (F.run X.A X.stack s H ⟨us,[]⟩ (us ++ ds) (vs ++ dvs) Q E hr I.env0 (hb s us I.kIn hl) r2 h) fun r s' hq=>?_);cases r with
 | error e=>exact hx zB σ H s e s' I hq
 | ok fl=>
  cases fl with
  | ret u=>exact I.after hq
  | next=>exact False.elim hq
  | brk=>exact False.elim hq
  | cont=>exact False.elim hq
theorem zLl (F:FnOk X.prog X.w X.K X.mg X.base CX k f fd ps sp) (hr:Room k X.A) (hg:Gl X x) (hm:X.mg x = some (.ref f)) (hk:PySem.W.keepIn X.K (.ref f) = true) (hb:zEX X.K fd ps ds) (hd:zV dvs ds) (hx:zHZ CX X E)
  (ha:PA X (e :: es) t) (hdb:(x == ("__debug__" : Str)) = false:=by decide) (he:starEach (e :: es) X.env = (false,eval e X.env) :: starEach es X.env:=by rfl) (hpl:(backTo pos (starEach es X.env)).any (·.1) = false:=by rfl) :
  PE X (.Call (.Name x p) (e :: es) [] pos) (zO6 sp dvs E t):=by
 intro zB s σ H Q I h;refine wpAny_Call_Name_kw (zLm I hg hm ?_ hdb);refine PySem.W.callWith_K (h₀:=X.base) I.ok.mod.kin hk (thn (ha pos zB s σ H _ I h) fun us s1 ⟨vs,H1,I1,r,q⟩=>⟨I1.kIn,?_⟩) he hpl;exact zOB F hr hb hd hx I1 r q
end
structure FnScope (N P:List Str) (sc:Scope):Prop where
 kind:sc.kind = .function
 co:sc.isCoroutine = false
 gen:sc.isGenerator = false
 nd:N.Nodup
 pre:N.take P.length = P
 par:∀ x ∈ P,sc.names.lookup x = some .local \/ sc.names.lookup x = some .cell
 nofree:∀ y ∈ sc.names,y.2 ≠ .free
theorem zE8 {kindOf:Str -> Option NameKind} {x:Str}:∀ {binds:List (Str × Value)} {m:Str -> Option Value},(∀ v,(x,v) ∉ binds) -> bindL kindOf binds m x = m x
 | [],_,_=>rfl
 | (n,v) :: r,m,h=>by
  unfold bindL;rw [zE8 fun w hw=>h w (zQT _ hw)];split
  ·have:x ≠ n:=by rintro rfl; exact h v zQU
   simp [this]
  ·rfl
theorem zE6 {kindOf:Str -> Option NameKind} {x:Str}:∀ {binds:List (Str × Value)} {m:Str -> Option Value},(∀ v,(x,v) ∉ binds) -> bindC kindOf binds m x = m x
 | [],_,_=>rfl
 | (n,v) :: r,m,h=>by
  unfold bindC;rw [zE6 fun w hw=>h w (zQT _ hw)];split
  ·rfl
  ·have:x ≠ n:=by rintro rfl; exact h v zQU
   simp [this]
theorem zFM {kindOf:Str -> Option NameKind} {x:Str} {v:Value}:∀ {P:List Str} {vs:List Value} {i:Nat} {m:Str -> Option Value},P.Nodup -> P[i]? = some x -> vs[i]? = some v -> kindOf x = some .local ->
  bindL kindOf (P.zip vs) m x = some v
 | [],_,_,_,_,h,_,_=>by simp at h
 | _ :: _,[],_,_,_,_,h,_=>by simp at h
 | p :: P,w :: vs,0,m,nd,h1,h2,hk=>by
  simp at h1 h2; subst h1; subst h2;show bindL kindOf ((p,w) :: P.zip vs) m p = _;unfold bindL;rw [zE8 fun v hv=>(List.nodup_cons.mp nd).1 (List.of_mem_zip hv).1,zQV hk];simp
 | p :: P,w :: vs,i + 1,m,nd,h1,h2,hk=>by
  show bindL kindOf ((p,w) :: P.zip vs) m x = _;unfold bindL;exact zFM (i:=i) (List.nodup_cons.mp nd).2 (by simpa using h1) (by simpa using h2) hk
theorem zFD {kindOf:Str -> Option NameKind} {x:Str} {v:Value}:∀ {P:List Str} {vs:List Value} {i:Nat} {m:Str -> Option Value},P.Nodup -> P[i]? = some x -> vs[i]? = some v -> kindOf x ≠ some .local ->
  bindC kindOf (P.zip vs) m x = some v
 | [],_,_,_,_,h,_,_=>by simp at h
 | _ :: _,[],_,_,_,_,h,_=>by simp at h
 | p :: P,w :: vs,0,m,nd,h1,h2,hk=>by
  simp at h1 h2; subst h1; subst h2;show bindC kindOf ((p,w) :: P.zip vs) m p = _;unfold bindC;rw [zE6 fun v hv=>(List.nodup_cons.mp nd).1 (List.of_mem_zip hv).1,zQY hk];simp
 | p :: P,w :: vs,i + 1,m,nd,h1,h2,hk=>by
  show bindC kindOf ((p,w) :: P.zip vs) m x = _;unfold bindC;exact zFD (i:=i) (List.nodup_cons.mp nd).2 (by simpa using h1) (by simpa using h2) hk
def zCa (N:List Str) (vs:List V):St:=vs.map some ++ List.replicate (N.length - vs.length) none
def zH6 (CX:CXT) (P:Program) (w:World) (K:PySem.W.Frag) (mg:Str -> Option Value) (base:Heap) (N:List Str) (qual:Str) (scope:Scope) (f:Addr) (cd:Value) (A:Around) (outer:List Env) (s:Shared) (H:Hp) (E:XK):Cx where
 prog:=P
 w:=w
 K:=K
 mg:=mg
 base:=base
 A:=A.deeper (envOfC qual scope s.heap.objs.size f cd)
 N:=N
 s₀:=s
 H₀:=H
 env:=envOfC qual scope s.heap.objs.size f cd
 outer:=outer
 stack:=envOfC qual scope s.heap.objs.size f cd :: outer
 ex:=[]
 calm:=true
 fn:=fun _=>true
 pn:=[]
 xe:=fun e s'=>wpAny (model P w) (A.deeper (envOfC qual scope s.heap.objs.size f cd)) (leaving (envOfC qual scope s.heap.objs.size f cd) e) (fun _ s''=>CX outer H s E e s'') (fun e' s''=>CX outer H s E e' s'') s'
theorem zEQ {sc:Scope} {n:Nat} {x:Str} (h:sc.names.lookup x = some .cell):∃ c,(cellsFrom n sc.names []).lookup x = some c:=by
 have q:=PySem.W.cellsFrom_some sc.names n [] (.inl h);exact Option.isSome_iff_exists.mp q
theorem zJc {CX:CXT} {P:Program} {w:World} {K:PySem.W.Frag} {mg:Str -> Option Value} {base:Heap} {N ps:List Str} {qual:Str} {scope:Scope} {f:Addr} {cd:Value} {A:Around} {outer:List Env} {s s1:Shared} {H:Hp} {E:XK} {us:List Value} {vs:List V}
  (S:FnScope N ps scope) (hd:A.handled = none) (e0:Env0 P w K mg base A outer s H) (hl:vs.length = ps.length) (r:zV vs us)
  (x:InCallC s s.heap.objs.size (bindL (envOfC qual scope s.heap.objs.size f cd).kindOf (ps.zip us) fun _=>none) (cellsFrom (s.heap.objs.size + 1) scope.names []) (bindC (envOfC qual scope s.heap.objs.size f cd).kindOf (ps.zip us) fun _=>none) s1) :
  Inv (zH6 CX P w K mg base N qual scope f cd A outer s H E) [] (zCa N vs) H s1:=by
 have hpl:ps.length <= N.length:=by have:=congrArg List.length S.pre; rw [zRe] at this; omega
 obtain ⟨h1,tk,rfl,hk⟩:=x.done;have noA:∀ b:Addr,b ∉ (zH6 CX P w K mg base N qual scope f cd A outer s H E).ex:=fun b z=>absurd (show b ∈ ([]:List Addr) from z) (by simp)
 refine ⟨⟨e0.mod,S.kind,rfl,rfl,zQM _,fun y z c h1 h2=>?_,fun y hy=>?_,fun y c _ h=>?_,fun _=>hd,Around.frames_deeper e0.frames,.inr ⟨rfl,rfl⟩,fun b z=>absurd z (noA b),e0.bs,e0.bsz,fun b _ _=>noA b,fun b z=>absurd z (noA b),e0.funs,e0.frf⟩,
  rfl,e0.bare,Un.kept hk,⟨_,x.toInCall.ns,fun i y v h1 h2 h3=>?_⟩,fun y c h=>⟨_,x.cell y c h⟩,e0.hok.fresh (zQM _),fun y c h=>?_,fun p hp=>absurd (show p ∈ ([]:List (Addr × Obj)) from hp) (by simp),e0.hok.kept hk,?_⟩
 ·exact name_of_addr x.apart (zRI h1) (zRI h2)
 ·have hy:scope.names.lookup y = some .cell \/ scope.names.lookup y = some .free:=hy;rcases hy with hy | hy
  ·exact zEQ hy
  ·exact absurd rfl (S.nofree _ (zRI hy))
 ·exact Nat.le_of_lt (x.above y c (zRI h))
 ·have hi:i < vs.length:=by
   unfold zCa at h2;by_cases hi:i < vs.length
   ·exact hi
   ·rw [zRQ (by simpa using hi)] at h2;rw [List.getElem?_replicate] at h2;split at h2 <;> cases h2
  have ha:vs[i]? = some v:=by
   unfold zCa at h2;rw [zQN (by simpa using hi),zQd] at h2;cases e:vs[i]? with
   | none=>rw [e] at h2; cases h2
   | some a=>rw [e] at h2; cases h2; rfl
  obtain ⟨u,hu,rv⟩:=r.get ha;have hp:ps[i]? = some y:=by
   rw [<- S.pre,List.getElem?_take_of_lt (by omega)]; exact h1
  have ndP:ps.Nodup:=by rw [<- S.pre]; exact S.nd.sublist (List.take_sublist _ _)
  refine ⟨u,rv,?_⟩;rcases S.par y (zQ7 hp) with k | k
  ·exact .inl ⟨k,zFM ndP hp hu k⟩
  ·obtain ⟨c,e⟩:=zEQ (n:=s.heap.objs.size + 1) k;refine .inr ⟨.inl k,c,e,?_⟩;have q:=x.cell y c e;rw [zFD ndP hp hu (by show scope.names.lookup y ≠ _; rw [k]; decide)] at q;exact q
 ·exact e0.hok.fresh (Nat.le_of_lt (x.above y c (zRI h)))
 ·unfold zCa;show _ = N.length;rw [zQW,zQP,List.length_replicate];omega
theorem zOp {CX:CXT} {P:Program} {w:World} {K:PySem.W.Frag} {mg:Str -> Option Value} {base:Heap} {k:Nat} {f:Addr} {name qual:Str} {params:Arguments} {body:List Stmt} {scope:Scope} {dV kV doc pm cdv ct oc:Value} {an od:Option Addr}
  {osl:Array (Option Value)} {N ps:List Str} {sp:Sp} (lk:K.lookup f = some ⟨oc,od,.func (PySem.W.fnOf name qual params body scope dV kV doc pm an cdv ct),osl⟩) (hcd:PySem.W.codeIn K cdv qual = true) (S:FnScope N ps scope)
  (len:∀ vs H Q E,sp vs H Q E -> vs.length = ps.length)
  (hbody:∀ (A:Around) (outer:List Env) (s:Shared) (H:Hp) (vs:List V) (Q:VK) (E:XK),Room k (A.deeper (envOfC qual scope s.heap.objs.size f cdv)) -> sp vs H Q E ->
   ∃ t,PSs (zH6 CX P w K mg base N qual scope f cdv A outer s H E) body t /\ t { nx:=fun _ H'=>Q .non H',rt:=Q } (zCa N vs) H) :
  FnOk P w K mg base CX (k + 1) f (PySem.W.fnOf name qual params body scope dV kV doc pm an cdv ct) ps sp:=by
 refine ⟨len,fun A outer s H args us vs Q E hr e0 hb r hsp=>?_⟩;have hl:=len _ _ _ _ hsp;have KX:K.In s.heap:=e0.mod.kin.keeps fun b o e=>(e0.bs b o e).1;have lim:s.heap.NoLimit:=e0.mod.nolimit.keeps fun b o e=>(e0.bs b o e).1;have hkind:∀ y ∈ ps.zip us,scope.names.lookup y.1 = some .local \/ (scope.names.lookup y.1 = some .cell /\ ((cellsFrom (s.heap.objs.size + 1) scope.names []).lookup y.1).isSome = true):=fun ⟨n,v⟩ hy=>by
  rcases S.par n (List.of_mem_zip hy).1 with q | q
  ·exact .inl q
  ·exact .inr ⟨q,PySem.W.cellsFrom_some _ _ _ (.inl q)⟩
 refine codeAny_call_function hr.depth (KX _ _ lk) rfl S.co S.gen rfl (PySem.W.codeRec_of KX hcd) (hb _ _ _ _ ?_);refine wpAny_newFunctionEnv_cells S.kind hkind fun env he s1 x=>?_;subst he;refine ⟨lim.keeps x.toInCall.keep,codeAny_func ?_⟩;obtain ⟨t,ht,hq⟩:=hbody A outer s H vs Q E (hr.deeper _) hsp;have I:Inv (zH6 CX P w K mg base N qual scope f cdv A outer s H E) [] (zCa N vs) H s1:=zJc S hr.hd e0 hl r x;refine zQm (ht [] s1 (zCa N vs) H _ I hq) (fun fl s' hs=>?_) fun e s' hs=>hs;have fin:∀ {σ':St} {H':Hp} {v:V} {u:Value},Inv (zH6 CX P w K mg base N qual scope f cdv A outer s H E) [] σ' H' s' -> ze v u -> Q v H' -> CE outer P w H s Q u s' :=
  fun {σ' H' v u} J rv q=>⟨v,H',J.os,J.bare,J.base,J.hok,rv,q⟩
 cases fl with
 | ret u=>
  obtain ⟨v,σ',H',J,rv,q⟩:=hs;exact fin J rv q
 | next=>
  obtain ⟨σ',H',J,q⟩:=hs;exact fin (v:=V.non) (u:=Value.none) J rfl q
 | brk=>
  obtain ⟨_,_,_,q⟩:=hs;exact False.elim q
 | cont=>
  obtain ⟨_,_,_,q⟩:=hs;exact False.elim q
section
variable {X:Cx} {x:Str} {p pos:Pos} {e:Expr} {es:List Expr} {t:TA} {id T:String} {r:List V -> Hp -> VK -> Prop}
def tCB (r:List V -> Hp -> VK -> Prop) (t:TA):TE:=fun σ H Q=>t σ H fun vs H1=>r vs H1 Q
theorem zGk (hc:zBa X (.builtin id) r) (hg:Gl X x) (hm:X.mg x = none) (hv:bootBuiltins x = some (.builtin id)) (ha:PA X (e :: es) t) (hn:x ≠ "__name__" := by decide) (hdb:(x == ("__debug__" : Str)) = false:=by decide)
  (he:starEach (e :: es) X.env = (false,eval e X.env) :: starEach es X.env:=by rfl) (hpl:(backTo pos (starEach es X.env)).any (·.1) = false:=by rfl):PE X (.Call (.Name x p) (e :: es) [] pos) (tCB r t):=by
 intro zB s σ H Q I h;refine wpAny_Call_Name_kw (zBd I hg hm hv ?_ hn hdb);exact PyProof.Rows.callWith_builtin1 (thn (ha pos zB s σ H _ I h) fun us s1 ⟨vs,H1,I1,r1,q1⟩=>hc zB s1 σ H1 vs us Q I1 r1 q1) he hpl
theorem zDU (hc:zBa X (.type T) r) (hg:Gl X x) (hm:X.mg x = none) (hv:bootBuiltins x = some (.type T)) (ha:PA X (e :: es) t) (hn:x ≠ "__name__" := by decide) (hdb:(x == ("__debug__" : Str)) = false:=by decide)
  (he:starEach (e :: es) X.env = (false,eval e X.env) :: starEach es X.env:=by rfl) (hpl:(backTo pos (starEach es X.env)).any (·.1) = false:=by rfl):PE X (.Call (.Name x p) (e :: es) [] pos) (tCB r t):=by
 intro zB s σ H Q I h;refine wpAny_Call_Name_kw (zBd I hg hm hv ?_ hn hdb);exact PyProof.Rows.callWith_type1 (thn (ha pos zB s σ H _ I h) fun us s1 ⟨vs,H1,I1,r1,q1⟩=>hc zB s1 σ H1 vs us Q I1 r1 q1) he hpl
end
end L2
namespace HT
open PySem PyProof.Rows
section
variable {prog:Program} {w:World} {A:Around} {E:Value -> Shared -> Prop} {s:Shared}
theorem zMQ {t b:Addr} {vs ws:List Value} {Q:Value -> Shared -> Prop} (ht:IsTup s.heap t vs.toArray) (hb:IsTup s.heap b ws.toArray) (hv:vs ≠ [])
  (h1:ws = [] -> Q (.ref t) s) (h2:ws ≠ [] -> Q (.ref s.heap.objs.size) { s with heap:=s.heap.push { cls:=.type "tuple", data:=.seq (vs ++ ws).toArray } })
  (hsz:vs.length + ws.length <= sizeLine):wpAny (model prog w) A (binaryOp .Add (.ref t) (.ref b)) Q E s:=by
 obtain ⟨⟨cls,dd,data,sl⟩,ho,hc,n,hd⟩:=id ht;obtain ⟨⟨cls2,dd2,data2,sl2⟩,ho2,hc2,n2,hd2⟩:=id hb;simp only at hc hd hc2 hd2;subst hc hd hc2 hd2;have e:vs.toArray ++ ws.toArray = (vs ++ ws).toArray:=by simp
 by_cases hw:ws = []
 ·exact concat_meets ⟨_,ho,rfl⟩ ⟨_,ho2,rfl⟩ noFill_tuple_add seq_tuple_add PySem.F.slot_tuple_add PySem.F.entry_tuple_add (PySem.F.args_tuple_add_2 _ _)
   (tuple_addW1 t b vs.toArray ws.toArray n n2 dd dd2 sl sl2 (by simpa using hv) (by simp [hw])) ⟨ho,ho2,h1 hw⟩
 ·refine concat_meets ⟨_,ho,rfl⟩ ⟨_,ho2,rfl⟩ noFill_tuple_add seq_tuple_add PySem.F.slot_tuple_add PySem.F.entry_tuple_add (PySem.F.args_tuple_add_2 _ _)
   (tuple_addW2 t b vs.toArray ws.toArray n n2 dd dd2 sl sl2 (by simpa using hv) (by simpa using hw) (by rw [zQO,zQO]; exact hsz)) ⟨ho,ho2,?_⟩
  rw [e];exact h2 hw
def sIx (n d:Nat):Option Int -> Nat
 | none=>d
 | some v=>if v < 0 then (v + (n:Int)).toNat else min v.toNat n
theorem zCx (n d k:Nat):sIx n d (some (k:Int)) = min k n:=by
 show (if (k:Int) < 0 then ((k:Int) + (n:Int)).toNat else min (k:Int).toNat n) = min k n;rw [zQY (by omega),Int.toNat_natCast]
theorem zNq (n d:Nat) (hd:d <= n) (o:Option Int):sIx n d o <= n:=by
 cases o with
 | none=>exact hd
 | some v=>
  show (if v < 0 then (v + (n:Int)).toNat else min v.toNat n) <= n;by_cases hv:v < 0
  ·rw [zQV hv]; omega
  ·rw [zQY hv]; exact Nat.min_le_right _ _
theorem zIX (v:Int) (n d:Nat):(if v < 0 then max (v + (n:Int)) 0 else min v (n:Int)) = ((sIx n d (some v):Nat):Int):=by
 show (if v < 0 then max (v + (n:Int)) 0 else min v (n:Int)) = (((if v < 0 then (v + (n:Int)).toNat else min v.toNat n):Nat):Int);by_cases hv:v < 0
 ·simp only [zQV hv]; omega
 ·simp only [zQY hv]; omega
theorem zH2 (lo hi:Option Int) (n:Nat):Builtin.Slice.sliceAdjust lo hi 1 (n:Int) = (((sIx n 0 lo:Nat):Int),((sIx n n hi:Nat):Int)):=by
 have h1:¬ ((1:Int) < 0):=by omega
 unfold Builtin.Slice.sliceAdjust;simp only [h1,if_false];refine Prod.ext ?_ ?_
 ·cases lo with
  | none=>rfl
  | some v=>exact zIX v n 0
 ·cases hi with
  | none=>rfl
  | some v=>exact zIX v n n
theorem zHk (i j:Nat):Builtin.Slice.slicePlaces (i:Int) (j:Int) 1 = j - i:=by
 unfold Builtin.Slice.slicePlaces;have h1:(1:Int) > 0:=by omega
 simp only [h1,if_true,Int.ediv_one];split <;> omega
theorem zEO {v:Value} {o:Option Int} {Q:Option Int -> Shared -> Prop} (p:IsPart v o) (h:Q o s):wpAny (model prog w) A (Builtin.Slice.slicePartIndex v) Q E s:=by
 cases p with
 | none=>exact slicePart_none h
 | int i t=>exact slicePart_int h
theorem zBj {sl:Addr} {vl vu:Value} {lo hi:Option Int} {n:Nat} {Q:Int × Int × Nat -> Shared -> Prop} (hs:s.heap.IsSliceOf sl vl vu .none) (pl:IsPart vl lo) (pu:IsPart vu hi)
  (h:Q (((sIx n 0 lo:Nat):Int),1,sIx n n hi - sIx n 0 lo) s):wpAny (model prog w) A (Builtin.Slice.sliceApplied (.ref sl) (pure (n:Int))) Q E s:=by
 obtain ⟨os,hos,hcs,hds⟩:=id hs;unfold Builtin.Slice.sliceApplied Builtin.Slice.sliceFields;refine zQG (zQG (zQv hos hds (x:=vl) rfl (zQG (zQv hos hds (x:=vu) rfl (zQG (zQv hos hds (x:=.none) rfl (zQI ?_)))))));refine zQG (slicePart_none ?_);show wpAny _ _ (if ((1:Int) == 0) = true then _ else _) _ _ s;rw [zQY (by decide)];refine zQG (zEO pl (zQG (zEO pu (zQG (zQI ?_)))));show wpAny _ _ (match Builtin.Slice.sliceAdjust lo hi 1 (n:Int) with | (lo,hi)=>pure (lo,(1:Int),Builtin.Slice.slicePlaces lo hi 1)) _ _ s;rw [zH2 lo hi n];show wpAny _ _ (pure (((sIx n 0 lo:Nat):Int),(1:Int),Builtin.Slice.slicePlaces ((sIx n 0 lo:Nat):Int) ((sIx n n hi:Nat):Int) 1)) _ _ s;rw [zHk];exact zQI h
theorem zK4 (xs:Array Value) (i k:Nat):((List.range k).filterMap fun (m:Nat)=>xs[((i:Int) + (m:Int) * 1).toNat]?).toArray = ((xs.toList.drop i).take k).toArray:=by
 have e:(fun (m:Nat)=>xs[((i:Int) + (m:Int) * 1).toNat]?) = fun m=>xs[i + m]?:=by
  funext m;have:((i:Int) + (m:Int) * 1).toNat = i + m:=by omega
  rw [this]
 rw [e];have:=pick_run xs i k;rw [List.filterMap_map] at this;have e2:((fun x=>xs[x]?) ∘ fun x=>i + x) = fun m=>xs[i + m]?:=rfl;rw [e2] at this;rw [this]
theorem zC8 {t sl:Addr} {items:Array Value} {vl vu:Value} {lo hi:Option Int} {Q:Value -> Shared -> Prop} (ht:IsTup s.heap t items) (hs:s.heap.IsSliceOf sl vl vu .none) (pl:IsPart vl lo) (pu:IsPart vu hi)
  (hw:¬ (sIx items.size 0 lo = 0 /\ sIx items.size items.size hi = items.size))
  (h:Q (.ref s.heap.objs.size) { s with heap:=s.heap.push { cls:=.type "tuple", data:=.seq ((items.toList.drop (sIx items.size 0 lo)).take (sIx items.size items.size hi - sIx items.size 0 lo)).toArray } })
  (hsz:items.size <= sizeLine):wpAny (model prog w) A (getItem (.ref t) (.ref sl)) Q E s:=by
 have htake:sizeOk (.seq ((items.toList.drop (sIx items.size 0 lo)).take (sIx items.size items.size hi - sIx items.size 0 lo)).toArray):=by
  show ((items.toList.drop (sIx items.size 0 lo)).take (sIx items.size items.size hi - sIx items.size 0 lo)).toArray.size <= sizeLine;rw [zQO,zRe,List.length_drop,Array.length_toList];omega
 have hj:sIx items.size items.size hi <= items.size:=zNq _ _ (zQM _) hi;obtain ⟨os,hos,hcs,hds⟩:=id hs;have hTs:s.TypeIs (.ref sl) "slice" := ⟨os,hos,hcs⟩;unfold getItem;try with_reducible refine zQ9 ?_
 first | refine zQG (zQI ?_) | skip
 refine zQG (wpAny_sequenceKey ht.typeIs (by decide) ?_)
 refine zQG (zQs (name:=Str.ofString "__getitem__") ht.typeIs zRo
  (zQt zRo ht.typeIs entry_tuple_getitem ?_ (args_tuple_getitem _ _)))
 show wpAny _ _ (Builtin.Tuple.tupleItemsOf (.ref t) >>= _) _ _ s;refine zQG (tupleItemsOf_ ht ?_);refine zQG (wpAny_typeOf hTs ?_);rw [zQV (by decide)];refine zQG (zBj hs pl pu ?_);have hno:¬ ((((sIx items.size 0 lo:Nat):Int) == 0 && (1:Int) == 1 && (sIx items.size items.size hi - sIx items.size 0 lo) == items.size) = true):=by
  intro q;rw [zQq,zQq] at q;have q1:((sIx items.size 0 lo:Nat):Int) = 0:=eq_of_beq q.1.1;have q2:sIx items.size items.size hi - sIx items.size 0 lo = items.size:=eq_of_beq q.2;exact hw ⟨by omega,by omega⟩
 show wpAny _ _ (if (((sIx items.size 0 lo:Nat):Int) == 0 && (1:Int) == 1 && (sIx items.size items.size hi - sIx items.size 0 lo) == items.size) = true then _ else _) _ _ s;rw [zQY hno,zK4]
 first
  | exact zQG (m:=Builtin.Tuple.tupleExact _) (wpAny_newObj_type (zQI ⟨_,rfl,zQI h⟩) htake)
  | exact zQG (m:=Builtin.Tuple.tupleExact _) (wpAny_newObj_type (zQG (zQI (zQI ⟨_,rfl,zQI h⟩))) htake)
  | exact zQG (zQG (m:=Builtin.Tuple.tupleExact _) (wpAny_newObj_type (zQI (zQI ⟨_,rfl,zQI h⟩)) htake))
  | exact zQG (zQG (m:=Builtin.Tuple.tupleExact _) (wpAny_newObj_type (zQI ⟨_,rfl,zQI h⟩) htake))
end
end HT
namespace L2
open PySem PySem.Spec PyProof.Rows
abbrev TO:=St -> Hp -> (Option Int -> Hp -> Prop) -> Prop
def PO (X:Cx) (e:Option Expr) (t:TO):Prop :=
 ∀ (zB:List (Addr × Obj)) (s:Shared) (σ:St) (H:Hp) (Q:Option Int -> Hp -> Prop),Inv X zB σ H s -> t σ H Q ->
  wpAny (model X.prog X.w) X.A (evalPart e X.env) (fun u s'=>∃ o H',Inv X zB σ H' s' /\ IsPart u o /\ Q o H') X.xe s
def zMo:TO:=fun _ H Q=>Q none H
def zPD (t:TE):TO:=fun σ H Q=>t σ H fun x H1=>∃ i,x = .int i /\ Q (some i) H1
theorem zHM {ns:List Int}:∀ {us:List Value},zV (ns.map V.int) us -> IntsAre us ns:=by
 induction ns with
 | nil=>intro us r; rw [List.map_nil] at r; cases r; exact .nil
 | cons n ns ih=>
  intro us r;rw [zQZ] at r;cases r with
  | cons r1 r2=>
   obtain ⟨t,e⟩:=r1;subst e;exact .cons n t (ih r2)
section
variable {X:Cx} {e:Expr} {te:TE} {lo hi:Option Expr} {tl th:TO} {pos p2:Pos}
theorem zL6:PO X none zMo:=by
 intro zB s σ H Q I h;rw [evalPart_none];exact zQI ⟨none,H,I,.none,h⟩
theorem zLa (h:PE X e te):PO X (some e) (zPD te):=by
 intro zB s σ H Q I hw;rw [evalPart_some];refine thn (h zB s σ H _ I hw) fun u s1 ⟨x,H1,I1,r1,q1⟩=>?_;obtain ⟨i,rfl,q⟩:=q1;obtain ⟨t,rfl⟩:=r1;exact ⟨some i,H1,I1,.int i t,q⟩
def SlR (X:Cx) (r:V -> Option Int -> Option Int -> Hp -> VK -> Prop):Prop :=
 ∀ (zB:List (Addr × Obj)) (s:Shared) (σ:St) (H:Hp) (x:V) (v vl vu:Value) (lo hi:Option Int) (sl:Addr) (Q:VK),Inv X zB σ H s -> ze x v -> s.heap.IsSliceOf sl vl vu .none -> IsPart vl lo -> IsPart vu hi -> r x lo hi H Q ->
  ∃ T id,typeLookup (.type T) "__getitem__" = pure (some (.builtin id)) /\ s.TypeIs v T /\ wpAny (model X.prog X.w) X.A (getItem v (.ref sl)) (EP X zB σ Q) X.xe s
theorem SlR.or {r r':V -> Option Int -> Option Int -> Hp -> VK -> Prop} (h:SlR X r) (h':SlR X r'):SlR X (fun x lo hi H Q=>r x lo hi H Q \/ r' x lo hi H Q):=by
 intro zB s σ H x v vl vu lo hi sl Q I rx hs pl pu q;rcases q with q | q
 ·exact h zB s σ H x v vl vu lo hi sl Q I rx hs pl pu q
 ·exact h' zB s σ H x v vl vu lo hi sl Q I rx hs pl pu q
def tSl (r:V -> Option Int -> Option Int -> Hp -> VK -> Prop) (te:TE) (tl th:TO):TE:=fun σ H Q=>te σ H fun x H1=>tl σ H1 fun l H2=>th σ H2 fun u H3=>r x l u H3 Q
theorem zKV {r:V -> Option Int -> Option Int -> Hp -> VK -> Prop} (hr:SlR X r) (he:PE X e te) (hl:PO X lo tl) (hu:PO X hi th):PE X (.Subscript e (.Slice lo hi none p2) pos) (tSl r te tl th):=by
 intro zB s σ H Q I h;refine Subscript_ (thn (he zB s σ H _ I h) fun v s1 ⟨x,H1,I1,r1,q1⟩=>?_);refine wpAny_Slice (thn (hl zB s1 σ H1 _ I1 q1) fun vl s2 ⟨l,H2,I2,pl,q2⟩=>thn (hu zB s2 σ H2 _ I2 q2) fun vu s3 ⟨u,H3,I3,pu,q3⟩=>?_);rw [evalPart_none];refine zQI ?_;have I4:Inv X zB σ H3 { s3 with heap:=s3.heap.push { cls:=.type "slice", data:=.fields #[vl,vu,.none] } }:=I3.kept (t':=s3.toks) fun b ob q=>zQH _ q;obtain ⟨T,id,hT,ht,hg⟩:=hr zB { s3 with heap:=s3.heap.push { cls:=.type "slice", data:=.fields #[vl,vu,.none] } } σ H3 x v vl vu l u s3.heap.objs.size Q I4 r1 (Heap.IsSliceOf.new ..) pl pu q3;show wpAny (model X.prog X.w) X.A (subscriptTail e (.Slice lo hi none p2) v (.ref s3.heap.objs.size)) (EP X zB σ Q) X.xe { s3 with heap:=s3.heap.push { cls:=.type "slice", data:=.fields #[vl,vu,.none] } };exact tail_any (ops:=[.ref s3.heap.objs.size,v]) ht hT hg (by with_unfolding_all rfl)
def zGL (xs:List V) (lo hi:Option Int):List V:=(xs.drop (HT.sIx xs.length 0 lo)).take (HT.sIx xs.length xs.length hi - HT.sIx xs.length 0 lo)
theorem zDd (xs:List V) (lo hi:Option Int):(zGL xs lo hi).length <= xs.length:=by
 unfold zGL;rw [zRe,List.length_drop];omega
def zPu (K:PySem.W.Frag):V -> Option Int -> Option Int -> Hp -> VK -> Prop:=fun x lo hi H Q=>∃ a xs,x = .ref a /\ SqT K H a xs /\
 ¬ (HT.sIx xs.length 0 lo = 0 /\ HT.sIx xs.length xs.length hi = xs.length) /\ ∀ p,H p = none -> Q (.ref p) (upd H p (.tup (zGL xs lo hi)))
theorem zNB:SlR X (zPu X.K):=by
 intro zB s σ H x v vl vu lo hi sl Q I rx hs pl pu h;obtain ⟨a,xs,rfl,hx,hw,q⟩:=h;cases rx;obtain ⟨its,r,ht,hz⟩:=I.tuple hx;have hlen:its.toArray.size = xs.length:=by rw [zQO]; exact r.length.symm
 refine ⟨"tuple", _,zRo.lookup,ht.typeIs,?_⟩;refine HT.zC8 ht hs pl pu (by rw [hlen]; exact hw) ?_ (by rw [hlen]; exact hz);rw [hlen];refine ⟨.ref s.heap.objs.size,_,I.laid (t':=s.toks) (o:=.tup (zGL xs lo hi)) (fun b ob q=>zQH _ q) (zQM _) ?_,rfl,q _ (I.hok.fresh (zQM _))⟩;exact ⟨zQh (zDd xs lo hi) hz,_,(r.drop (HT.sIx xs.length 0 lo)).take (HT.sIx xs.length xs.length hi - HT.sIx xs.length 0 lo),zBQ.new _ _⟩
def zMt (K:PySem.W.Frag):R2:=fun x y H Q=>∃ a b xs ys,x = .ref a /\ y = .ref b /\ SqT K H a xs /\ SqT K H b ys /\ xs ≠ [] /\ xs.length + ys.length <= sizeLine /\
 (ys = [] -> Q (.ref a) H) /\ (ys ≠ [] -> ∀ p,H p = none -> Q (.ref p) (upd H p (.tup (xs ++ ys))))
theorem zV.nil_iff {xs:List V} {us:List Value} (r:zV xs us):us = [] ↔ xs = []:=by
 cases r with
 | nil=>simp
 | cons _ _=>simp
theorem zMi:OpR X (binaryOp .Add) (zMt X.K):=by
 intro zB s σ H x y v u Q I rx ry h;obtain ⟨a,b,xs,ys,rfl,rfl,ha,hb,hx,hz,q1,q2⟩:=h;cases rx;cases ry;obtain ⟨its,r1,p1,_⟩:=I.tuple ha;obtain ⟨its2,r2,p2,_⟩:=I.tuple hb;refine HT.zMQ p1 p2 (fun z=>hx (r1.nil_iff.mp z)) (fun z=>⟨.ref a,H,I,rfl,q1 (r2.nil_iff.mp z)⟩) (fun z=>?_) (by rw [<- r1.length,<- r2.length]; exact hz);refine ⟨.ref s.heap.objs.size,_,I.laid (t':=s.toks) (o:=.tup (xs ++ ys)) (fun b ob q=>zQH _ q) (zQM _) ?_,rfl,q2 (fun w=>z (r2.nil_iff.mpr w)) _ (I.hok.fresh (zQM _))⟩;exact ⟨by rw [zQW]; exact hz,_,r1.append r2,zBQ.new _ _⟩
end
def ixN (n:Nat) (i:Int):Option Nat:=if 0 <= i then (if i < n then some i.toNat else none) else if -(n:Int) <= i then some (i + n).toNat else none
def atI {α:Type} (xs:List α) (i:Int):Option α:=(ixN xs.length i).bind fun j=>xs[j]?
theorem zGA {n:Nat} {i:Int} {j:Nat} (h:ixN n i = some j):seqIndex? i n = some j /\ j < n /\ -(n:Int) <= i /\ i < n:=by
 unfold ixN at h;by_cases h0:0 <= i
 ·rw [zQV h0] at h;by_cases h1:i < n
  ·rw [zQV h1] at h;have e:i.toNat = j:=zRG h;exact ⟨by rw [seqIndex_of h0 h1,e],by omega,by omega,h1⟩
  ·rw [zQY h1] at h; cases h
 ·rw [zQY h0] at h;by_cases h1 : -(n:Int) <= i
  ·rw [zQV h1] at h;have e:(i + n).toNat = j:=zRG h;exact ⟨by rw [seqIndex_neg (by omega) h1,e],by omega,h1,by omega⟩
  ·rw [zQY h1] at h; cases h
theorem zFu {α:Type} {xs:List α} {i:Int} {v:α} (h:atI xs i = some v):∃ j,seqIndex? i xs.length = some j /\ xs[j]? = some v /\ j < xs.length /\ -(xs.length:Int) <= i /\ i < xs.length:=by
 unfold atI at h;cases e:ixN xs.length i with
 | none=>rw [e] at h; cases h
 | some j=>
  rw [e] at h;obtain ⟨h1,h2,h3,h4⟩:=zGA e;exact ⟨j,h1,h,h2,h3,h4⟩
theorem zIZ {α:Type} {xs:List α} {j:Nat} {v:α} (h:xs[j]? = some v):atI xs (j:Int) = some v:=by
 have hj:j < xs.length:=(zQJ.mp h).1;have e:ixN xs.length (j:Int) = some j:=by
  unfold ixN;rw [zQV (by omega),zQV (by omega)]; simp
 unfold atI; rw [e]; exact h
theorem zJl {α:Type} (xs:List α) (v:α):atI (xs ++ [v]) (-1) = some v:=by
 have hl:(xs ++ [v]).length = xs.length + 1:=by simp
 have e:ixN (xs ++ [v]).length (-1) = some xs.length:=by
  unfold ixN;rw [hl,zQY (by decide),zQV (by omega)];congr 1;omega
 unfold atI;rw [e];show (xs ++ [v])[xs.length]? = some v;simp
def zIP (b:Expr):Prop:=∀ o i,subscripted b false o i = operate [o,i] (getItem o i)
def IxR (X:Cx) (r:R2):Prop :=
 ∀ (value slice:Expr) (zB:List (Addr × Obj)) (s:Shared) (σ:St) (H:Hp) (x y:V) (v u:Value) (Q:VK),Inv X zB σ H s -> ze x v -> ze y u -> r x y H Q ->
  subscripted slice false v u = operate [v,u] (getItem v u) -> wpAny (model X.prog X.w) X.A (subscriptTail value slice v u) (EP X zB σ Q) X.xe s
def MtR (X:Cx) (id:String) (r:V -> List V -> Hp -> VK -> Prop):Prop :=
 ∀ (zB:List (Addr × Obj)) (s:Shared) (σ:St) (H:Hp) (x:V) (xs:List V) (v:Value) (us:List Value) (Q:VK),Inv X zB σ H s -> ze x v -> zV xs us -> r x xs H Q ->
  wpAny (model X.prog X.w) X.A (call (.builtin id) (v :: us)) (EP X zB σ Q) X.xe s
section
variable {X:Cx} {a b:Expr} {ta tb:TE} {pos:Pos}
theorem IxR.or {r r':R2} (h:IxR X r) (h':IxR X r'):IxR X (fun x y H Q=>r x y H Q \/ r' x y H Q):=by
 intro value slice zB s σ H x y v u Q I rx ry q hs;rcases q with q | q
 ·exact h value slice zB s σ H x y v u Q I rx ry q hs
 ·exact h' value slice zB s σ H x y v u Q I rx ry q hs
theorem zOX {r:R2} (hr:IxR X r) (ha:PE X a ta) (hb:PE X b tb) (hs:zIP b):PE X (.Subscript a b pos) (tOp r ta tb):=by
 intro zB s σ H Q I h;exact Subscript_ (zN7 ha hb I h fun v u s2 x y H2 I2 rx ry q=>hr a b zB s2 σ H2 x y v u Q I2 rx ry q (hs _ _))
def zOw (K:PySem.W.Frag):R2:=fun x y H Q=>∃ p xs i v,x = .ref p /\ y = .int i /\ SqL K H p xs /\ atI xs i = some v /\ Q v H
def zOl (K:PySem.W.Frag):R2:=fun x y H Q=>∃ p xs i v,x = .ref p /\ y = .int i /\ SqT K H p xs /\ atI xs i = some v /\ Q v H
def zPQ:R2:=fun x y H Q=>∃ z i c,x = .str z /\ y = .int i /\ z.length <= sizeLine /\ atI z.cps.toList i = some c /\ Q (.str ⟨#[c]⟩) H
theorem zLb:IxR X (zOw X.K):=by
 intro value slice zB s σ H x y v u Q I rx ry h hs;obtain ⟨p,xs,i,z,rfl,rfl,hq,he,q⟩:=h;cases rx;obtain ⟨t,rfl⟩:=ry;obtain ⟨its,r,pl,hz⟩:=I.list hq;obtain ⟨j,h1,h2,h3,h4,h5⟩:=zFu he;obtain ⟨w,ew,rw'⟩:=r.get h2;have hl:=r.length;have hn:=zCp;have fin:EP X zB σ Q w s:=⟨z,H,I,rw',q⟩;by_cases h0:0 <= i
 ·have hj:i.toNat = j:=by
   rw [seqIndex_of h0 h5] at h1;exact zRG h1
  exact item_listR pl.isList h0 (by omega) (by rw [hj]; simpa using ew) fin hs
 ·have hj:(i + (its.toArray.size:Int)).toNat = j:=by
   rw [seqIndex_neg (by omega) h4] at h1;rw [zQO,<- hl];exact zRG h1
  exact subscriptTail_builtinR (x:=w) pl.isList.typeIs slot_list_getitem.lookup
   (wpAny_getItem_list_neg (Q:=fun r s'=>r = w /\ EP X zB σ Q r s') pl.isList (by omega) (by rw [zQO] <;> omega) (by omega) (by rw [hj]; simpa using ew) ⟨rfl,fin⟩) hs
theorem zNe:IxR X (zOl X.K):=by
 intro value slice zB s σ H x y v u Q I rx ry h hs;obtain ⟨p,xs,i,z,rfl,rfl,hq,he,q⟩:=h;cases rx;obtain ⟨t,rfl⟩:=ry;obtain ⟨its,r,pl,hz⟩:=I.tuple hq;obtain ⟨j,h1,h2,h3,h4,h5⟩:=zFu he;obtain ⟨w,ew,rw'⟩:=r.get h2;have hl:=r.length;have hn:=zCp;have fin:EP X zB σ Q w s:=⟨z,H,I,rw',q⟩
 exact subscriptTail_builtinR (x:=w) pl.typeIs slot_tuple_getitem.lookup
  (getItem_tuple (j:=j) (Q:=fun r s'=>r = w /\ EP X zB σ Q r s') pl (by omega) (by omega) (by rw [zQO,<- hl]; exact h1) (by simpa using ew) ⟨rfl,fin⟩) hs
theorem zNn:IxR X zPQ:=by
 intro value slice zB s σ H x y v u Q I rx ry h hs;obtain ⟨z,i,c,rfl,rfl,hz,he,q⟩:=h;obtain ⟨t,rfl⟩:=rx;obtain ⟨t',rfl⟩:=ry;obtain ⟨j,h1,h2,h3,h4,h5⟩:=zFu he;have hl:z.cps.toList.length = z.length:=by simp [Str.length]
 rw [hl] at h1 h4 h5;have hn:=zCp;exact tail_any (typeIs_str s z t) slot_str_getitem.lookup (getItem_str (c:=c) (by
  have e1:decide (i < -(2 ^ 63:Int)) = false:=zQp (by omega);have e2:decide (i ≥ 2 ^ 63) = false:=zQp (by omega);rw [e1,e2,Bool.or_false]) (by rw [h1]; simpa using h2) ⟨.str ⟨#[c]⟩,H,I.tok _,⟨_,rfl⟩,q⟩) hs
def rIx (K:PySem.W.Frag):R2:=fun x y H Q=>zOw K x y H Q \/ zOl K x y H Q \/ zPQ x y H Q
theorem zOM:IxR X (rIx X.K):=zLb.or (zNe.or zNn)
theorem zHR (its:List Value) (n j:Nat) (u:Value):Obj.mapSeq (·.setIfInBounds j u) { cls:=.type "list", data:=.seq its.toArray n } = { cls:=.type "list", data:=.seq (its.set j u).toArray n }:=by
 simp [Obj.mapSeq]
theorem Inv.lst {zB:List (Addr × Obj)} {σ:St} {H:Hp} {s:Shared} {p:Addr} {xs:List V} (I:Inv X zB σ H s) (h:H p = some (.lst xs)) :
  ∃ (its:List Value) (n:Nat),zV xs its /\ s.heap.get? p = some { cls:=.type "list", data:=.seq its.toArray n } /\ xs.length <= sizeLine:=by
 obtain ⟨z,its,n,r,e⟩:=I.hok p _ h;exact ⟨its,n,r,e,z⟩
theorem Inv.lstUpd {zB:List (Addr × Obj)} {σ:St} {H:Hp} {s:Shared} {p:Addr} {xs ys:List V} {its its':List Value} {n n':Nat} {f:Obj -> Obj} (I:Inv X zB σ H s) (h:H p = some (.lst xs))
  (ho:s.heap.get? p = some { cls:=.type "list", data:=.seq its.toArray n }) (hf:f { cls:=.type "list", data:=.seq its.toArray n } = { cls:=.type "list", data:=.seq its'.toArray n' }) (r:zV ys its') (hz:ys.length <= sizeLine) (t:Nat) :
  Inv X zB σ (upd H p (.lst ys)) { s with heap:=s.heap.update p f,toks:=t }:=by
 have e:(s.heap.update p f).get? p = some { cls:=.type "list", data:=.seq its'.toArray n' }:=by
  rw [Heap.get?_update_self f ho (by rw [hf] <;> rfl),hf]
 refine I.write (x:=p) (e:=p) (by rw [h]; trivial) (.inl rfl) (fun b u hb q=>(zQx _ _ (Ne.symm hb)).trans q) ⟨_,e⟩ ?_;exact ⟨hz,its',n',r,e⟩
def zO2:V -> V -> V -> Hp -> (Hp -> Prop) -> Prop:=fun o i v H Q=>∃ p xs k j,o = .ref p /\ i = .int k /\ H p = some (.lst xs) /\ ixN xs.length k = some j /\ Q (upd H p (.lst (xs.set j v)))
theorem zKq:zPl X zO2:=by
 intro zB s σ H o i v ov iv u Q I ro ri rv h;obtain ⟨p,xs,k,j,rfl,rfl,hp,hj,q⟩:=h;cases ro;obtain ⟨t,rfl⟩:=ri;obtain ⟨its,n,r,ho,hz⟩:=I.lst hp;obtain ⟨h1,h2,h3,h4⟩:=zGA hj;have hl:=r.length;have hn:=zCp;have I':Inv X zB σ (upd H p (.lst (xs.set j v))) { s with heap:=s.heap.update p (Obj.mapSeq (·.setIfInBounds j u)) } :=
  I.lstUpd hp ho (zHR its n j u) (r.set rv j) (by rw [List.length_set]; exact hz) s.toks
 by_cases h0:0 <= k
 ·have hk:k.toNat = j:=by
   rw [seqIndex_of h0 h4] at h1;exact zRG h1
  exact PySem.W.ki_setAt ho h0 (by omega) (by rw [zQO,<- hl]; exact h4) (by rw [hk]; exact ⟨_,I',q⟩)
 ·have hk:(k + (its.toArray.size:Int)).toNat = j:=by
   rw [seqIndex_neg (by omega) h3] at h1;rw [zQO,<- hl];exact zRG h1
  exact PySem.W.ki_setBack ho (by omega) (by rw [zQO,<- hl]; exact h3) (by omega) (by rw [hk]; exact ⟨_,I',q⟩)
theorem zF9 (lo hi:Option Int) (n:Nat):(sliceBounds lo hi none n).1 = ((HT.sIx n 0 lo:Nat):Int) /\ (sliceBounds lo hi none n).2.1 = ((HT.sIx n n hi:Nat):Int) /\ (sliceBounds lo hi none n).2.2 = 1:=by
 refine ⟨?_,?_,rfl⟩
 ·cases lo with
  | none=>simp [sliceBounds,HT.sIx]
  | some i=>
   simp only [sliceBounds,HT.sIx,Option.getD_none,show (1:Int) > 0 by decide,if_true];by_cases h:i < 0
   ·simp only [h,if_true] <;> omega
   ·simp only [h,if_false] <;> omega
 ·cases hi with
  | none=>simp [sliceBounds,HT.sIx]
  | some i=>
   simp only [sliceBounds,HT.sIx,Option.getD_none,show (1:Int) > 0 by decide,if_true];by_cases h:i < 0
   ·simp only [h,if_true] <;> omega
   ·simp only [h,if_false] <;> omega
theorem zEb (its:List Value) (lo hi:Option Int):slicePick its.toArray lo hi none = ((its.drop (HT.sIx its.length 0 lo)).take (HT.sIx its.length its.length hi - HT.sIx its.length 0 lo)).toArray:=by
 obtain ⟨h1,h2,h3⟩:=zF9 lo hi its.toArray.size;unfold slicePick;rw [h1,h2,h3];simp only [sliceRange_one,pick_run,zQO] <;> rfl
def zQE (K:PySem.W.Frag):V -> Option Int -> Option Int -> Hp -> VK -> Prop:=fun x lo hi H Q=>∃ a xs,x = .ref a /\ SqL K H a xs /\ ∀ p,H p = none -> Q (.ref p) (upd H p (.lst (zGL xs lo hi)))
theorem zLr:SlR X (zQE X.K):=by
 intro zB s σ H x v vl vu lo hi sl Q I rx hs pl pu h;obtain ⟨a,xs,rfl,hx,q⟩:=h;cases rx;obtain ⟨its,r,ht,hz⟩:=I.list hx;have hlen:=r.length;refine ⟨"list", _,slot_list_getitem.lookup,ht.isList.typeIs,?_⟩;refine wpAny_getItem_list_slice ht.isList hs pl pu .none (by simp) ?_ (by rw [zQO] <;> omega);rw [zEb,<- hlen];refine ⟨.ref s.heap.objs.size,_,I.laid (t':=s.toks) (o:=.lst (zGL xs lo hi)) (fun b ob q=>zQH _ q) (zQM _) ?_,rfl,q _ (I.hok.fresh (zQM _))⟩;exact ⟨zQh (zDd xs lo hi) hz,_,0,(r.drop (HT.sIx xs.length 0 lo)).take (HT.sIx xs.length xs.length hi - HT.sIx xs.length 0 lo),zQQ _ rfl⟩
def zC1:V -> Bool
 | .non=>true
 | .bl _=>true
 | .int _=>true
 | .str _=>true
 | _=>false
def eqV:V -> V -> Bool
 | .non,.non=>true
 | .bl a,.bl b=>a == b
 | .bl a,.int b=>(if a then 1 else 0) == b
 | .int a,.bl b=>a == (if b then 1 else 0)
 | .int a,.int b=>a == b
 | .str a,.str b=>a == b
 | _,_=>false
theorem zNm {A:Around} {s:Shared} {y x:V} {u v:Value} (ry:ze y u) (rx:ze x v) (fy:zC1 y = true) (fx:zC1 x = true):SeqAt.EqAt A s u v (eqV y x):=by
 cases y with
 | non=>
  cases ry;cases x with
  | non=>cases rx; exact SeqAt.EqAt.same _
  | bl b=>cases rx; exact SeqAt.EqAt.none_bool b
  | int b=>obtain ⟨t,rfl⟩:=rx; exact SeqAt.EqAt.none_int b t
  | str b=>obtain ⟨t,rfl⟩:=rx; exact SeqAt.EqAt.none_str b t
  | _=>exact absurd (show false = true from fx) zQc
 | bl a=>
  cases ry;cases x with
  | non=>cases rx; exact SeqAt.EqAt.bool_none a
  | bl b=>cases rx; exact SeqAt.EqAt.bool_bool a b
  | int b=>obtain ⟨t,rfl⟩:=rx; exact SeqAt.EqAt.bool_int a b t
  | str b=>obtain ⟨t,rfl⟩:=rx; exact SeqAt.EqAt.bool_str a b t
  | _=>exact absurd (show false = true from fx) zQc
 | int a=>
  obtain ⟨t',rfl⟩:=ry;cases x with
  | non=>cases rx; exact SeqAt.EqAt.int_none a t'
  | bl b=>cases rx; exact SeqAt.EqAt.int_bool a t' b
  | int b=>obtain ⟨t,rfl⟩:=rx; exact SeqAt.EqAt.int_int a t' b t
  | str b=>obtain ⟨t,rfl⟩:=rx; exact SeqAt.EqAt.int_str a t' b t
  | _=>exact absurd (show false = true from fx) zQc
 | str a=>
  obtain ⟨t',rfl⟩:=ry;cases x with
  | non=>cases rx; exact SeqAt.EqAt.str_none a t'
  | bl b=>cases rx; exact SeqAt.EqAt.str_bool a t' b
  | int b=>obtain ⟨t,rfl⟩:=rx; exact SeqAt.EqAt.str_int a t' b t
  | str b=>obtain ⟨t,rfl⟩:=rx; exact SeqAt.EqAt.str_str a t' b t
  | _=>exact absurd (show false = true from fx) zQc
 | _=>exact absurd (show false = true from fy) zQc
def eqU (x:V) (u:Value):Bool:=match u with
 | .none=>eqV .non x
 | .bool b=>eqV (.bl b) x
 | .int i _=>eqV (.int i) x
 | .str z _=>eqV (.str z) x
 | _=>false
theorem zKf {x y:V} {u:Value} (r:ze y u) (f:zC1 y = true):eqU x u = eqV y x:=by
 cases y with
 | non=>cases r; rfl
 | bl b=>cases r; rfl
 | int i=>obtain ⟨t,rfl⟩:=r; rfl
 | str z=>obtain ⟨t,rfl⟩:=r; rfl
 | _=>exact absurd (show false = true from f) zQc
theorem zCs {x:V}:∀ {xs:List V} {us:List Value},zV xs us -> xs.all zC1 = true -> us.any (eqU x) = xs.any fun y=>eqV y x
 | _,_,.nil,_=>rfl
 | y :: xs,u :: us,.cons r t,f=>by
  rw [List.all_cons,zQq] at f;rw [List.any_cons,List.any_cons,zKf r f.1,zCs t f.2]
theorem zCK {A:Around} {s:Shared} {x:V} {v:Value} (rx:ze x v) (fx:zC1 x = true):∀ {xs:List V} {us:List Value},zV xs us -> xs.all zC1 = true -> ∀ u ∈ us,SeqAt.EqAt A s u v (eqU x u)
 | _,_,.nil,_=>fun u hu=>by cases hu
 | y :: xs,u :: us,.cons r t,f=>fun u' hu=>by
  rw [List.all_cons,zQq] at f;rcases zQS.mp hu with rfl | hu
  ·rw [zKf r f.1]; exact zNm r rx f.1 fx
  ·exact zCK rx fx t f.2 u' hu
def inV (x:V) (xs:List V):Bool:=xs.any fun y=>eqV y x
def rIn (K:PySem.W.Frag) (neg:Bool):R2:=fun x y H Q=>∃ p xs,y = .ref p /\ (SqL K H p xs \/ SqT K H p xs) /\ zC1 x = true /\ xs.all zC1 = true /\ Q (.bl (if neg then !inV x xs else inV x xs)) H
theorem zJg:OpR X (compareOp .In) (rIn X.K false):=by
 intro zB s σ H x y v u Q I rx ry h;obtain ⟨p,xs,rfl,hq,fx,fs,q⟩:=h;cases ry;rcases hq with hq | hq
 ·obtain ⟨its,r,pl,hz⟩:=I.list hq;refine SeqAt.in_listAt (eqU x) pl.isList (fun w hw=>zCK rx fx r fs w (by simpa using hw)) ⟨.bl _,H,I,rfl,?_⟩;rw [show its.toArray.any (eqU x) = its.any (eqU x) by simp,zCs r fs];exact q
 ·obtain ⟨its,r,pl,hz⟩:=I.tuple hq;refine SeqAt.in_tupleAt (eqU x) pl (fun w hw=>zCK rx fx r fs w (by simpa using hw)) ⟨.bl _,H,I,rfl,?_⟩;rw [show its.toArray.any (eqU x) = its.any (eqU x) by simp,zCs r fs];exact q
theorem zFq:OpR X (compareOp .NotIn) (rIn X.K true):=by
 intro zB s σ H x y v u Q I rx ry h;obtain ⟨p,xs,rfl,hq,fx,fs,q⟩:=h;cases ry;rcases hq with hq | hq
 ·obtain ⟨its,r,pl,hz⟩:=I.list hq;refine SeqAt.notIn_listAt (eqU x) pl.isList (fun w hw=>zCK rx fx r fs w (by simpa using hw)) ⟨.bl _,H,I,rfl,?_⟩;rw [show its.toArray.any (eqU x) = its.any (eqU x) by simp,zCs r fs];exact q
 ·obtain ⟨its,r,pl,hz⟩:=I.tuple hq;refine SeqAt.notIn_tupleAt (eqU x) pl (fun w hw=>zCK rx fx r fs w (by simpa using hw)) ⟨.bl _,H,I,rfl,?_⟩;rw [show its.toArray.any (eqU x) = its.any (eqU x) by simp,zCs r fs];exact q
theorem zFn:zBa X (.builtin "len") (fun xs H Q=>∃ p ys,xs = [.ref p] /\ (SqL X.K H p ys \/ SqT X.K H p ys) /\ Q (.int ys.length) H):=by
 intro zB s σ H xs us Q I r h;obtain ⟨p,ys,rfl,hq,q⟩:=h;obtain ⟨u,rfl,rx⟩:=zDf r;cases rx;have hn:=zCp;rcases hq with hq | hq
 ·obtain ⟨its,r',pl,hz⟩:=I.list hq;have hlen:=r'.length;exact Calls.call_len_list pl.isList (by simp only [zQO] <;> omega) ⟨.int ys.length,H,I.tok _,⟨s.toks + 1,by rw [zQO,hlen]⟩,q⟩
 ·obtain ⟨its,r',pl,hz⟩:=I.tuple hq;have hlen:=r'.length;exact len_tuple pl (by simp only [zQO] <;> omega) ⟨.int ys.length,H,I.tok _,⟨s.toks + 1,by rw [zQO,hlen]⟩,q⟩
theorem zGG:zBa X (.type "list") (fun xs H Q=>∃ p ys,xs = [.ref p] /\ (SqL X.K H p ys \/ SqT X.K H p ys) /\ ∀ l,H l = none -> Q (.ref l) (upd H l (.lst ys))):=by
 intro zB s σ H xs us Q I r h;obtain ⟨p,ys,rfl,hq,q⟩:=h;obtain ⟨u,rfl,rx⟩:=zDf r;cases rx
 have fin:∀ (its:List Value),zV ys its -> ys.length <= sizeLine -> ∀ (h':Heap) (c':Nat),(∀ b o',s.heap.get? b = some o' -> h'.get? b = some o') ->
   h'.get? s.heap.objs.size = some { cls:=.type "list", dict:=none,data:=.seq its.toArray c',slots:=#[] } -> EP X zB σ Q (.ref s.heap.objs.size) { s with heap:=h' }:=fun its r' hz h' c' kp e=>
  ⟨.ref s.heap.objs.size,_,I.laid (t':=s.toks) kp (zQM _) (show zt X.prog X.w _ h' _ (.lst ys) from ⟨hz,its,c',r',e⟩),rfl,q _ (I.hok.fresh (zQM _))⟩
 rcases hq with hq | hq
 ·obtain ⟨its,r',pl,hz⟩:=I.list hq;have hlen:=r'.length;obtain ⟨o,ho,hc,n,hd⟩:=pl.isList;exact call_list_seq p (.inl rfl) ho hc hd (fun h' c' kp e=>fin its r' hz h' c' kp e) (by simp only [zQO] <;> omega)
 ·obtain ⟨its,r',pl,hz⟩:=I.tuple hq;have hlen:=r'.length;obtain ⟨o,ho,hc,n,hd⟩:=pl;exact call_list_seq p (.inr rfl) ho hc hd (fun h' c' kp e=>fin its r' hz h' c' kp e) (by simp only [zQO] <;> omega)
theorem zEm:zBa X (.type "tuple") (fun xs H Q=>∃ p ys,xs = [.ref p] /\ ((SqL X.K H p ys /\ ∀ l,H l = none -> Q (.ref l) (upd H l (.tup ys))) \/ (SqT X.K H p ys /\ Q (.ref p) H))):=by
 intro zB s σ H xs us Q I r h;obtain ⟨p,ys,rfl,h⟩:=h;obtain ⟨u,rfl,rx⟩:=zDf r;cases rx;rcases h with ⟨hq,q⟩ | ⟨hq,q⟩
 ·obtain ⟨its,r',pl,hz⟩:=I.list hq;have hlen:=r'.length;refine call_tuple_list pl.isList (fun h' kp=>?_) (by simp only [zQO] <;> omega);have I1:Inv X zB σ H { s with heap:=h' }:=I.kept (t':=s.toks) kp;have I2:Inv X zB σ (upd H h'.objs.size (.tup ys)) { s with heap:=h'.push { cls:=.type "tuple", data:=.seq its.toArray } } :=
   I1.laid (t':=s.toks) (fun b o e=>zQH _ e) (zQM _) (show zt X.prog X.w _ _ _ (.tup ys) from ⟨hz,its,r',zBQ.new _ _⟩)
  exact ⟨.ref h'.objs.size,_,I2,rfl,q _ (I1.hok.fresh (zQM _))⟩
 ·obtain ⟨its,r',pl,hz⟩:=I.tuple hq;exact call_tuple_same pl ⟨.ref p,H,I,rfl,q⟩
def tyV (K:PySem.W.Frag) (T:String) (x:V) (H:Hp):Prop:=match x with
 | .str _=>T = "str"
 | .int _=>T = "int"
 | .ref p=>(T = "list" /\ ∃ xs,SqL K H p xs) \/ (T = "tuple" /\ ((∃ o,K.lookup p = some o /\ o.cls = .type "tuple" /\ o.dict = none) \/ ∃ xs,H p = some (.tup xs))) \/
   (T = "dict" /\ ((∃ kvs,H p = some (.dK kvs)) \/ ∃ kvs,H p = some (.dT kvs))) \/ (T = "set" /\ ∃ S n,H p = some (.set S n))
 | _=>False
theorem zLO {zB:List (Addr × Obj)} {σ:St} {H:Hp} {s:Shared} {T:String} {x:V} {v:Value} (I:Inv X zB σ H s) (r:ze x v) (ty:tyV X.K T x H) :
  s.TypeIs v T /\ ∀ a,v = .ref a -> ∃ ob,s.heap.get? a = some ob /\ ob.dict = none:=by
 cases x with
 | str z=>
  obtain ⟨t,rfl⟩:=r;cases (show T = "str" from ty);exact ⟨typeIs_str s z t,fun _ e=>nomatch e⟩
 | int i=>
  obtain ⟨t,rfl⟩:=r;cases (show T = "int" from ty);exact ⟨typeIs_int s i t,fun _ e=>nomatch e⟩
 | ref p=>
  cases r;rcases ty with ⟨rfl,xs,hq⟩ | ⟨rfl,⟨o,hk,hc,hd⟩ | ⟨xs,hq⟩⟩ | ⟨rfl,hk⟩ | ⟨rfl,S,n,hk⟩
  ·obtain ⟨its,_,pl,_⟩:=I.list hq;refine ⟨pl.isList.typeIs,fun a e=>?_⟩;cases e;obtain ⟨o,n,e,c,hd,_⟩:=pl;exact ⟨o,e,hd⟩
  ·refine ⟨⟨o,I.kIn p o hk,hc⟩,fun a e=>?_⟩;cases e;exact ⟨o,I.kIn _ o hk,hd⟩
  ·obtain ⟨_,its,_,o,e,c,_,hd⟩:=I.hok p _ hq;refine ⟨⟨o,e,c⟩,fun a e2=>?_⟩;cases e2;exact ⟨o,e,hd⟩
  ·have z:∃ o,s.heap.get? p = some o /\ o.ExactDict:=by
    rcases hk with ⟨kvs,hk⟩ | ⟨kvs,hk⟩
    ·obtain ⟨_,_,_,_,o,_,_,e,ex,_⟩:=I.hok p _ hk;exact ⟨o,e,ex⟩
    ·obtain ⟨_,_,_,_,o,_,_,e,ex,_⟩:=I.hok p _ hk;exact ⟨o,e,ex⟩
   obtain ⟨o,e,ex⟩:=z;refine ⟨⟨o,e,ex.1⟩,fun a e2=>?_⟩;cases e2;exact ⟨o,e,ex.2.1⟩
  ·obtain ⟨o,_,_,_,e,ex,_⟩:=I.hok p _ hk;refine ⟨⟨o,e,ex.1⟩,fun a e2=>?_⟩;cases e2;exact ⟨o,e,ex.2.1⟩
 | _=>exact False.elim ty
def zP8 (K:PySem.W.Frag) (T:String) (r:V -> List V -> Hp -> VK -> Prop) (to:TE):TE:=fun σ H Q=>to σ H fun x H1=>tyV K T x H1 /\ r x [] H1 Q
def tBM (K:PySem.W.Frag) (T:String) (r:V -> List V -> Hp -> VK -> Prop) (to:TE) (t:TA):TE:=fun σ H Q=>to σ H fun x H1=>tyV K T x H1 /\ t σ H1 fun xs H2=>r x xs H2 Q
variable {o e:Expr} {es:List Expr} {to:TE} {t:TA} {name:Str} {apos cpos:Pos} {T id:String} {r:V -> List V -> Hp -> VK -> Prop}
theorem zNs (pa:PlainAttrs T) (slot:Slot T name id) (hty:typeOf (.builtin id) = pure (.type "method_descriptor")) (hm:MtR X id r) (ho:PE X o to)
  (hbase:attributeBase o name X.env (eval o X.env) = eval o X.env:=by rfl) (hline:(apos.endLine == cpos.line) = true:=by rfl):PE X (.Call (.Attribute o name apos) [] [] cpos) (zP8 X.K T r to):=by
 intro zB s σ H Q I h;refine wpAny_Call_method0_late hbase hline (thn (ho zB s σ H _ I h) fun v s1 ⟨x,H1,I1,r1,ty,q1⟩=>?_);obtain ⟨h1,h2⟩:=zLO I1 r1 ty;exact ⟨T,id,pa,slot,hty,h1,h2,Calls.callWith_builtin rfl (PySem.evalArgs_none (hm zB s1 σ H1 x [] v [] Q I1 r1 .nil q1))⟩
theorem zIA (pa:PlainAttrs T) (slot:Slot T name id) (hty:typeOf (.builtin id) = pure (.type "method_descriptor")) (hm:MtR X id r) (ho:PE X o to) (ha:PA X (e :: es) t)
  (hbase:attributeBase o name X.env (eval o X.env) = eval o X.env:=by rfl)
  (hfew:((backTo cpos (starEach (e :: es) X.env)).all (fun x=> !x.1) && (backToKw cpos (keywordEach [] X.env)).all (fun x=>x.1.isSome)
   && decide ((e :: es).length + ([]:List Keyword).length + (if ([]:List Keyword).isEmpty then 0 else 1) < 30)) = true:=by rfl)
  (hline:(apos.endLine == cpos.line) = true:=by rfl) (hs:starEach (e :: es) X.env = (false,eval e X.env) :: starEach es X.env:=by rfl) (hplain:(backTo cpos (starEach es X.env)).any (·.1) = false:=by rfl) :
  PE X (.Call (.Attribute o name apos) (e :: es) [] cpos) (tBM X.K T r to t):=by
 intro zB s σ H Q I h;refine wpAny_Call_method_late hbase hfew hline rfl (thn (ho zB s σ H _ I h) fun v s1 ⟨x,H1,I1,r1,ty,q1⟩=>?_);obtain ⟨h1,h2⟩:=zLO I1 r1 ty;refine ⟨T,id,pa,slot,hty,h1,h2,?_⟩;have hA:=ha cpos zB s1 σ H1 _ I1 q1;rw [hs] at hA ⊢;refine Calls.callWith_builtin (by show (false || (backTo cpos (starEach es X.env)).any (·.1)) = false; rw [hplain] <;> rfl) (Calls.evalArgs_plain ?_);exact thn hA fun us s2 ⟨vs,H2,I2,r2,q2⟩=>hm zB s2 σ H2 x vs v us Q I2 r1 r2 q2
end
def MtM (X:Cx) (id:String) (r:V -> List V -> Hp -> VK -> Prop):Prop :=
 ∀ (zB:List (Addr × Obj)) (s:Shared) (σ:St) (H:Hp) (x:V) (xs:List V) (v:Value) (us:List Value) (Q:VK),Inv X zB σ H s -> ze x v -> zV xs us -> r x xs H Q ->
  wpAny (model X.prog X.w) X.A (call (.builtin id) (v :: us)) (EP X zB σ Q) X.xe s
theorem zV.one:∀ {x:V} {us:List Value},zV [x] us -> ∃ u,us = [u] /\ ze x u
 | _,_,.cons r .nil=>⟨_,rfl,r⟩
theorem zV.zero:∀ {us:List Value},zV [] us -> us = []
 | _,.nil=>rfl
theorem zV.dropLast {xs:List V} {us:List Value} (h:zV xs us):zV xs.dropLast us.dropLast:=by
 induction h with
 | nil=>exact .nil
 | cons r t ih=>
  cases t with
  | nil=>exact .nil
  | cons q t'=>exact .cons r ih
theorem zV.eraseIdx:∀ {xs:List V} {us:List Value} (i:Nat),zV xs us -> zV (xs.eraseIdx i) (us.eraseIdx i)
 | _,_,_,.nil=> .nil
 | _,_,0,.cons _ t=>t
 | _,_,i + 1,.cons r t=> .cons r (zV.eraseIdx i t)
theorem zV.rep {xs:List V} {us:List Value} (h:zV xs us):∀ k:Nat,zV (List.replicate k xs).flatten (List.replicate k us).flatten
 | 0=> .nil
 | k + 1=>by
  rw [zRZ,zRZ,zSF,zSF];exact zV.append h (zV.rep h k)
theorem zCj {α:Type} (l:List α):l.eraseIdx (l.length - 1) = l.dropLast:=by
 induction l with
 | nil=>rfl
 | cons a r ih=>
  cases r with
  | nil=>rfl
  | cons b r=>
   have e:(a :: b :: r).length - 1 = ((b :: r).length - 1) + 1:=by
    have h1:(a :: b :: r).length = r.length + 2:=rfl;have h2:(b :: r).length = r.length + 1:=rfl;omega
   rw [e,List.eraseIdx_cons_succ,ih];all_goals rfl
theorem zEx {α:Type}:∀ (l:List α) (i:Nat),(l.eraseIdx i).length <= l.length
 | [],_=>zQM _
 | _ :: _,0=>Nat.le_succ _
 | _ :: r,i + 1=>Nat.succ_le_succ (zEx r i)
theorem zDM (its:List Value):∀ (k:Nat) (acc:List Value),
  List.foldl (fun x1 x2=>x1 ++ x2) acc.toArray (List.replicate k its.toArray) = (acc ++ (List.replicate k its).flatten).toArray
 | 0,acc=>by simp
 | k + 1,acc=>by
  have e:acc.toArray ++ its.toArray = (acc ++ its).toArray:=by simp
  have e2:(acc ++ its) ++ (List.replicate k its).flatten = acc ++ (List.replicate (k + 1) its).flatten:=by
   rw [zRZ,zSF,List.append_assoc]
  rw [<- e2,<- zDM its k (acc ++ its),<- e,zRZ,List.foldl_cons]
section
variable {X:Cx} {zB:List (Addr × Obj)} {σ:St} {H:Hp} {s:Shared} {l b:Addr} {xs ys zs:List V}
theorem Inv.lset {its its':List Value} {n:Nat} {f:Array Value -> Array Value} {t':Nat} (I:Inv X zB σ H s) (hH:H l = some (.lst xs))
  (e:s.heap.get? l = some { cls:=.type "list", data:=.seq its.toArray n }) (hf:f its.toArray = its'.toArray) (hv:zV ys its') (hz:ys.length <= sizeLine) :
  Inv X zB σ (upd H l (.lst ys)) { s with heap:=s.heap.update l (Obj.mapSeq f),toks:=t' }:=by
 have q:=PySem.IsL.update e f;rw [hf] at q;refine I.write (x:=l) (e:=l) (by rw [hH]; exact trivial) (.inl rfl) (fun b' u hb hu=>(zQx s.heap (Obj.mapSeq f) (Ne.symm hb)).trans hu) ⟨_,q⟩ ?_;exact ⟨hz,its',_,hv,q⟩
theorem Inv.lnew {its:List Value} {t':Nat} (I:Inv X zB σ H s) (hv:zV ys its) (hz:ys.length <= sizeLine) :
  Inv X zB σ (upd H s.heap.objs.size (.lst ys)) { s with heap:=s.heap.push { cls:=.type "list", data:=.seq its.toArray },toks:=t' } :=
 I.laid (fun _ _ q=>zQH _ q) (zQM _) ⟨hz,its,0,hv,zQQ _ rfl⟩
theorem Inv.fresh (I:Inv X zB σ H s):H s.heap.objs.size = none:=I.hok.fresh (zQM _)
theorem Inv.lstM (I:Inv X zB σ H s) (hH:H l = some (.lst xs)):xs.length <= sizeLine /\ ∃ (its:List Value) (n:Nat),zV xs its /\ xs.length = its.length /\ s.heap.get? l = some { cls:=.type "list", data:=.seq its.toArray n }:=by
 obtain ⟨z,its,n,r,e⟩:=I.hok l _ hH;exact ⟨z,its,n,r,r.length,e⟩
theorem zGW {n:Nat} (h:n <= sizeLine):Builtin.List.listTooLong n = false:=by
 unfold Builtin.List.listTooLong;exact zQp (by omega)
end
section
variable {X:Cx}
def zIN:V -> List V -> Hp -> VK -> Prop:=fun x vs H Q=>∃ l xs y,x = .ref l /\ vs = [y] /\ H l = some (.lst xs) /\ xs.length < sizeLine /\ Q .non (upd H l (.lst (xs ++ [y])))
theorem zIj:MtM X "list.append" zIN:=by
 intro zB s σ H x vs v us Q I rx rv h;obtain ⟨l,xs,y,rfl,rfl,hH,hz,q⟩:=h;cases rx;obtain ⟨u,rfl,ru⟩:=rv.one;obtain ⟨z,its,n,r,hl,e⟩:=I.lstM hH;refine call_meets F.slot_list_append ⟨_,e,rfl⟩ F.entry_list_append (F.args_list_append_2 _ _) (PySem.list_append l its.toArray n u (by rw [zQO]; omega)) ⟨e,?_⟩;refine ⟨.non,_,I.lset (its':=its ++ [u]) hH e (by simp) (r.append (.cons ru .nil)) ?_,rfl,q⟩;rw [zQW,List.length_singleton];omega
def zIO:V -> List V -> Hp -> VK -> Prop:=fun x vs H Q=>∃ l b xs zs,x = .ref l /\ vs = [.ref b] /\ H l = some (.lst xs) /\ H b = some (.lst zs) /\ xs.length + zs.length <= sizeLine /\ Q .non (upd H l (.lst (xs ++ zs)))
theorem zJY:MtM X "list.extend" zIO:=by
 intro zB s σ H x vs v us Q I rx rv h;obtain ⟨l,b,xs,zs,rfl,rfl,hH,hB,hz,q⟩:=h;cases rx;obtain ⟨u,rfl,ru⟩:=rv.one;cases ru;obtain ⟨z,its,n,r,hl,e⟩:=I.lstM hH;obtain ⟨z2,its2,n2,r2,hl2,e2⟩:=I.lstM hB;have hsz:its.toArray.size + its2.toArray.size <= sizeLine:=by rw [zQO,zQO]; omega
 have hlong:¬ (!its.toArray.isEmpty && Builtin.List.listTooLong (its.toArray.size + its2.toArray.size)) = true:=by
  rw [zGW hsz,Bool.and_false];exact zQc
 refine call_meets F.slot_list_extend ⟨_,e,rfl⟩ F.entry_list_extend (F.args_list_extend_2 _ _)
  (AutoSeq1.list_extend_list_list_0 l its.toArray n b its2.toArray n2 hlong (by rw [zQO]; omega) (by omega)) ⟨e,e2,?_⟩
 refine ⟨.non,_,I.lset (its':=its ++ its2) hH e (by simp) (r.append r2) ?_,rfl,q⟩;rw [zQW];omega
def zP2:V -> List V -> Hp -> VK -> Prop:=fun x vs H Q=>∃ l xs y,x = .ref l /\ vs = [] /\ H l = some (.lst xs) /\ xs[xs.length - 1]? = some y /\ Q y (upd H l (.lst xs.dropLast))
theorem zOI:MtM X "list.pop" zP2:=by
 intro zB s σ H x vs v us Q I rx rv h;obtain ⟨l,xs,y,rfl,rfl,hH,hy,q⟩:=h;cases rx;have hus:=rv.zero;subst hus;obtain ⟨z,its,n,r,hl,e⟩:=I.lstM hH;obtain ⟨u,hu,ru⟩:=r.get hy;have hy':its.toArray[its.toArray.size - 1]? = some u:=by
  show its.toArray[its.length - 1]? = some u;rw [<- Array.getElem?_toList,<- hl];exact hu
 refine call_meets F.slot_list_pop ⟨_,e,rfl⟩ F.entry_list_pop (F.args_list_pop_1 _) (MeetsSeq.list_pop_last l its.toArray n u hy' (by rw [zQO]; omega)) ⟨e,?_⟩;refine ⟨y,_,I.lset (its':=its.dropLast) hH e ?_ r.dropLast ?_,ru,q⟩
 ·show its.toArray.eraseIdxIfInBounds (its.toArray.size - 1) = its.dropLast.toArray;rw [zQO,List.eraseIdxIfInBounds_toArray,zCj]
 ·rw [List.length_dropLast];omega
def zKt:V -> List V -> Hp -> VK -> Prop:=fun x vs H Q=>∃ l xs i k y,x = .ref l /\ vs = [.int i] /\ H l = some (.lst xs) /\ -(2 ^ 63) <= i /\ i < 2 ^ 63 /\ seqIndex? i xs.length = some k /\ xs[k]? = some y /\ Q y (upd H l (.lst (xs.eraseIdx k)))
theorem zLL:MtM X "list.pop" zKt:=by
 intro zB s σ H x vs v us Q I rx rv h;obtain ⟨l,xs,i,k,y,rfl,rfl,hH,h1,h2,hk,hy,q⟩:=h;cases rx;obtain ⟨u,rfl,ru⟩:=rv.one;obtain ⟨t,rfl⟩:=ru;obtain ⟨z,its,n,r,hl,e⟩:=I.lstM hH;obtain ⟨w,hw,rw'⟩:=r.get hy
 refine call_meets F.slot_list_pop ⟨_,e,rfl⟩ F.entry_list_pop (F.args_list_pop_2 _ _)
  (MeetsSeq.list_pop_at l its.toArray n i t k w (fitsIndex_both h1 h2) (by rw [zQO,<- hl]; exact hk) (by rw [<- Array.getElem?_toList]; exact hw) (by rw [zQO]; omega)) ⟨e,?_⟩
 refine ⟨y,_,I.lset (its':=its.eraseIdx k) hH e ?_ (r.eraseIdx k) ?_,rw',q⟩
 ·show its.toArray.eraseIdxIfInBounds k = (its.eraseIdx k).toArray;rw [List.eraseIdxIfInBounds_toArray]
 ·have:=zEx xs k;omega
def zOu:R2:=fun x y H Q=>∃ l b xs zs,x = .ref l /\ y = .ref b /\ H l = some (.lst xs) /\ H b = some (.lst zs) /\ xs.length + zs.length <= sizeLine /\ ∀ p,H p = none -> Q (.ref p) (upd H p (.lst (xs ++ zs)))
theorem zNc:OpR X (binaryOp .Add) zOu:=by
 intro zB s σ H x y v u Q I rx ry h;obtain ⟨l,b,xs,zs,rfl,rfl,hH,hB,hz,q⟩:=h;cases rx;cases ry;obtain ⟨z,its,n,r,hl,e⟩:=I.lstM hH;obtain ⟨z2,its2,n2,r2,hl2,e2⟩:=I.lstM hB;refine PySem.P.add_list e e2 ?_ (by rw [zQO,zQO]; omega);have ea:its.toArray ++ its2.toArray = (its ++ its2).toArray:=by simp
 rw [ea];exact ⟨.ref _,_,I.lnew (t':=s.toks) (r.append r2) (by rw [zQW]; omega),rfl,q _ I.fresh⟩
def zOY:R2:=fun x y H Q=>∃ l k xs,x = .ref l /\ y = .int k /\ H l = some (.lst xs) /\ -(2 ^ 63) <= k /\ k < 2 ^ 63 /\ xs.length * k.toNat <= sizeLine /\
 ∀ p,H p = none -> Q (.ref p) (upd H p (.lst (List.replicate k.toNat xs).flatten))
theorem zF2 {α:Type} (xs:List α) (k:Nat):(List.replicate k xs).flatten.length = k * xs.length:=by
 induction k with
 | zero=>simp
 | succ k ih=>rw [zRZ,zSF,zQW,ih,Nat.succ_mul,Nat.add_comm]
theorem zOE:OpR X (binaryOp .Mult) zOY:=by
 intro zB s σ H x y v u Q I rx ry h;obtain ⟨l,k,xs,rfl,rfl,hH,h1,h2,hz,q⟩:=h;cases rx;obtain ⟨t,rfl⟩:=ry;obtain ⟨z,its,n,r,hl,e⟩:=I.lstM hH;have hlen:its.toArray.size * k.toNat <= sizeLine:=by rw [zQO,<- hl]; exact hz
 have hcap:¬ its.toArray.size * k.toNat > (2 ^ 63 - 1) / 8:=by
  have:(sizeLine:Nat) <= (2 ^ 63 - 1) / 8:=by decide
  omega
 have hfit:¬ (!Builtin.List.listFitsIndex k) = true:=by
  rw [fitsIndex_both h1 h2];exact zQc
 have hlong:¬ Builtin.List.listTooLong (its.toArray.size * k.toNat) = true:=by
  rw [zGW hlen];exact zQc
 have hnew:List.foldl (fun x1 x2=>x1 ++ x2) #[] (List.replicate (if its.toArray.isEmpty = true then 0 else k.toNat) its.toArray) = (List.replicate k.toNat its).flatten.toArray:=by
  have f0:∀ m:Nat,List.foldl (fun x1 x2=>x1 ++ x2) #[] (List.replicate m its.toArray) = (List.replicate m its).flatten.toArray:=fun m=>by
   have:=zDM its m [];rw [List.nil_append] at this;exact this
  rw [f0];cases its with
  | nil=>simp
  | cons a r'=>rw [zQY (by simp)]
 refine wpAny_binaryOp_repeat_ref (T := "list") (U := "int") (by decide) ⟨_,e,rfl⟩ (fun s'=>typeIs_int s' k t) noFill_list_mul F.fills_int_mul F.slot_int_rmul repeat_list F.slot_int_index.lookup
  (call_meets F.slot_int_rmul (typeIs_int s k t) F.entry_int_rmul (F.args_int_rmul_2 _ _) (int___rmul___int_list k t l its.toArray n)
   ⟨e,rfl,⟨_,e,rfl⟩,call_meets F.slot_list_mul ⟨_,e,rfl⟩ F.entry_list_mul (F.args_list_mul_2 _ _) (AutoListH.list___mul___list_int_3 l its.toArray n k t hfit hcap hlong) ⟨e,?_⟩⟩)
 rw [hnew];exact ⟨.ref _,_,I.lnew (t':=s.toks) (r.rep k.toNat) (by rw [zF2,Nat.mul_comm]; exact hz),rfl,q _ I.fresh⟩
end
end L2
namespace Att
open PySem PySem.W PySem.Calls PyProof.Rows
theorem zDk {P:Params} {h:Heap}:∀ (ns:List Int) (vs:List Value),WellAll P h vs (ns.map WData.int) -> IntsAre vs ns:=by
 intro ns;induction ns with
 | nil=>
  intro vs w;rw [List.map_nil] at w;cases w;exact .nil
 | cons n ns ih=>
  intro vs w;rw [zQZ] at w;cases w with
  | cons a b=>
   cases a;exact .cons _ _ (ih _ b)
theorem zIy {l:OpenLaw} {n:Nat} (hn:l.most = some n) {P:Params} {h:Heap} {args:List WData} {vals:List Value}
  (hpre:l.row.toRowW.claim.pre args = true) (hwl:WellAll P h vals args) :
  ∃ a vs ns,vals = [Value.ref a] /\ args = [WData.list (ns.map WData.int)] /\ h.get? a = some { cls:=.type "list", data:=.seq vs.toArray } /\ IntsAre vs ns /\ ns.length <= n:=by
 have hsh:WShape.hasAll [] args [.list .int] = true:=(pre_splitW hpre).1;have hc:l.pre.holds [] { args:=args } = true:=(pre_splitW hpre).2;obtain ⟨d,r,rfl,h1,h2⟩:=hasAllW_cons hsh;obtain rfl:=hasAllW_nil h2;obtain ⟨xs,rfl,h3⟩:=hasW_list h1;obtain ⟨ns,rfl⟩:=items_int h3;have hlen:ns.length <= n:=by
  unfold OpenLaw.pre at hc;have h4:(WTm.not (.lt (.lit (.int (n:Int))) (.len (.arg 0)))).holds [] { args:=[.list (ns.map .int)] } = true:=by
   have h4:=(holds_andW hc).1;rw [hn] at h4;exact h4
  have h5:=condW_of h4 (w_not (w_lt w_lit (w_len_list (w_arg rfl))));rw [zQP] at h5;refine Nat.le_of_not_lt fun q=>?_;have q':(n:Int) < ((ns.length:Nat):Int):=by omega
  first
   | (rw [zRO q'] at h5; exact absurd h5 (by decide))
   | (simp at h5; omega)
 cases hwl with
 | cons w1 w2=>
  cases w2;cases w1 with
  | list ho hall=>exact ⟨_,_,ns,rfl,rfl,ho,zDk ns _ hall,hlen⟩
theorem zJB (l:OpenLaw) (args:List WData):l.row.toRowW.claim.post args (.bool true) args = true :=
 postW_of (r:=l.row.toRowW) (X:=(true == true))
  (show WShape.has [] (.bool true) .bool = true by first | rfl | decide | simp [WShape.has,WShape.arms,WShape.armsAll])
  (show (WTm.eq .res (.lit (.bool true))).value [] { args:=args,res:=some (.bool true),after:=args } = some (.bool (true == true)) from w_eq_bool (w_res rfl) w_lit) rfl
theorem zGf {l:OpenLaw} {n:Nat} {q:Program} {loose:List Str} {XP:(Str -> Option Value) -> Heap -> Prop} {YP:World -> Heap -> Prop} {d:DefRec}
  (hn:l.most = some n) (hdf:d.params.defaults = [])
  (call:∀ (w:World) (s₀ s₁:Shared) (mg mb:Str -> Option Value) (fa:Addr) (o:Obj) (pm cd doc:Value) (a:Addr) (vs:List Value) (ns:List Int),
   Ground q loose [] XP w s₀ mg mb s₁.heap -> YP w s₁.heap ->
   s₁.heap.get? fa = some o -> o.data = .func (docDef d.name d.params d.body d.scope pm cd doc) -> s₁.heap.CodeRec cd d.name -> mg d.name = some (.ref fa) ->
   s₁.heap.get? a = some { cls:=.type "list", data:=.seq vs.toArray } -> IntsAre vs ns -> ns.length <= n -> s₁.gens = #[] ->
   codeAny (model l.prog w) callerA (.call (.ref fa) ⟨[.ref a],[]⟩) (fun r s'=>r = .ok (.ret (.bool true)) /\ OldK s₁.heap s'.heap /\ s'.os = s₁.os /\ AllBare s'.gens) s₁) :
  WalkO q loose XP YP l.row.toRowW d [] (fun f vs=>PySem.call f vs):=by
 intro w s₀ s₁ mg mb G Y fa o pm cd doc dV kV ho hd hcd hD hmg hg args vals as hpre hlay hrd hwl hlo;obtain rfl:dV = .none:=Dflts.none hD hdf;obtain rfl:kV = .none:=Dflts.noKw hD;obtain ⟨a,vs,ns,rfl,rfl,hobj,hints,hlen⟩:=zIy hn hpre hwl;refine enter_call (codeAny_mono (call w s₀ s₁ mg mb fa o pm cd doc a vs ns G Y ho (fd_plain hd) hcd hmg hobj hints hlen hg) fun r s' hq=>?_);obtain ⟨rfl,h2,h3,h4⟩:=hq;exact ⟨.inl ⟨.bool true,.bool true,[],rfl,fun _=>rfl,.bool true,zJB l _,fun _=>⟨List.Pairwise.nil,fun _ hm=>(nomatch hm)⟩⟩,h2,h3,h4⟩
end Att
namespace L2
open PySem PySem.Spec PyProof.Rows
theorem zFG:∀ {vs:List Value} {ns:List Int},IntsAre vs ns -> zV (ns.map V.int) vs
 | _,_,.nil=> .nil
 | _,_,.cons n t h=> .cons ⟨t,rfl⟩ (zFG h)
def zMM (H:Hp):Prop:=∀ b,H b = none \/ ∃ o xs,H b = some (.frz o (.lst xs))
theorem zKT {P:Program} {w:World} {K:PySem.W.Frag} {mg mb:Str -> Option Value} {CX:CXT} {k:Nat} {fa a:Addr} {fd:FuncData} {x:Str} {sp:Sp} {s₁:Shared} {vs:List Value} {ns:List Int}
  (KX:K.In s₁.heap) (hns:s₁.heap.Ns mainGlobals mg) (hb:s₁.heap.Ns builtinsNs mb) (hbb:∀ x:Str,x ≠ "__name__" -> mb x = bootBuiltins x) (hlim:s₁.heap.NoLimit) (hg:s₁.gens = #[])
  (ha:s₁.heap.get? a = some { cls:=.type "list", data:=.seq vs.toArray }) (hi:IntsAre vs ns) (hl:ns.length <= sizeLine) (hr:Room k callerA)
  (F:∀ base:Heap,K.In base -> base.Ns mainGlobals mg -> FnOk P w K mg base CX k fa fd [x] sp) (hbind:∀ (s:Shared) (u:Value),BindsTo s fd ⟨[u],[]⟩ [(x,u)])
  (hsp:∀ H:Hp,zMM H -> SqL K H a (ns.map V.int) -> sp [.ref a] H (fun v _=>v = .bl true) fun _ _ _=>False)
  (hCX:∀ H e s',CX [] H s₁ (fun _ _ _=>False) e s' -> False) :
  codeAny (model P w) callerA (.call (.ref fa) ⟨[.ref a],[]⟩) (fun r s'=>r = .ok (.ret (.bool true)) /\ OldK s₁.heap s'.heap /\ s'.os = s₁.os /\ AllBare s'.gens) s₁:=by
 have rv:=zFG hi;have lenV:=hi.length
 have core:∀ H:Hp,zMM H -> SqL K H a (ns.map V.int) -> HOk P w H s₁.heap -> (∀ b,H b ≠ none -> b = a) -> (H a ≠ none -> K.lookup a = none) ->
   codeAny (model P w) callerA (.call (.ref fa) ⟨[.ref a],[]⟩) (fun r s'=>r = .ok (.ret (.bool true)) /\ OldK s₁.heap s'.heap /\ s'.os = s₁.os /\ AllBare s'.gens) s₁:=by
  intro H hO hS hok hA hK;have base_of:∀ {b:Addr} {o:Obj},s₁.heap.get? b = some o -> H b = none -> (zFm s₁.heap H).get? b = some o:=fun e n=>zLG e n;have noA:∀ {b:Addr} {o:Obj} {es:Array DictEntry} {ep:Nat},s₁.heap.get? b = some o -> o.data = .dict es ep -> H b = none:=fun {b o es ep} e d=>by
   cases q:H b with
   | none=>rfl
   | some u=>
    have e':b = a:=hA b (by rw [q]; simp);subst e';rw [ha] at e; cases e;have d':Data.seq vs.toArray _ = Data.dict es ep:=d;cases d'
  have nsK:∀ {b:Addr} {m:Str -> Option Value},s₁.heap.Ns b m -> (zFm s₁.heap H).Ns b m:=fun {b m} ⟨o,es,ep,e,d,r⟩=>⟨o,es,ep,base_of e (noA e d),d,r⟩;have hKb:K.In (zFm s₁.heap H):=fun b o e=>base_of (KX b o e) (by
   cases q:H b with
   | none=>rfl
   | some u=>
    have e':b = a:=hA b (by rw [q]; simp);subst e';rw [hK (by rw [q]; simp)] at e; cases e)
  have hM:Mod K mg (zFm s₁.heap H):=⟨hKb,nsK hns,⟨mb,nsK hb,hbb⟩,let ⟨mc,h1,h2⟩:=hlim; ⟨mc,nsK h1,h2⟩⟩;have e0:Env0 P w K mg (zFm s₁.heap H) callerA [] s₁ H:=⟨rfl,hM,fun b o e=>zMC e,Nat.le_of_eq (zJh _ _),trivial,fun b hb=>absurd (show b ∈ ([]:List Addr) from hb) (by simp),hok,.of_eq hg⟩;refine codeAny_mono ((F _ hKb (nsK hns)).run callerA [] s₁ H ⟨[.ref a],[]⟩ [.ref a] [.ref a] _ _ hr e0 (hbind s₁ (.ref a)) (.cons rfl .nil) (hsp H hO hS)) fun r s' h=>?_;cases r with
  | error e=>exact (hCX H e s' h).elim
  | ok fl=>
   cases fl with
   | next=>exact False.elim h
   | brk=>exact False.elim h
   | cont=>exact False.elim h
   | ret u=>
    obtain ⟨v,H',os,bare,un,hok',r',q⟩:=h;have q':v = .bl true:=q;subst q';obtain rfl:u = Value.bool true:=r';refine ⟨rfl,OldK.of_keep fun b o e=>?_,os,bare⟩;cases q:H b with
    | none=>exact un.keep b o e q (by intro z; exact absurd (show b ∈ ([]:List Addr) from z) (by simp)) (by simp)
    | some u=>
     rcases hO b with z | ⟨ob,xs,z⟩
     ·rw [q] at z; cases z
     ·have z2:=un.frzs b ob _ z;obtain ⟨e1,_⟩:=hok b _ z;obtain ⟨e2,_⟩:=hok' b _ z2;rw [e] at e1; cases e1;exact e2
 cases hk:K.lookup a with
 | some o=>
  have e:=KX a o hk;rw [ha] at e;cases e;refine core (fun _=>none) (fun _=> .inl rfl) (.inr ⟨_,vs.toArray,_,hk,rfl,rfl,rfl,by rw [zQO,lenV]; exact hl,by simpa using rv⟩) (fun b u z=>by have z':(none:Option HO) = some u:=z; cases z') (fun b z=>absurd rfl z) fun z=>absurd rfl z
 | none=>
  refine core (fun b=>if b = a then some (.frz { cls:=.type "list", data:=.seq vs.toArray } (.lst (ns.map V.int))) else none) (fun b=>?_) (.inl (.inr ⟨{ cls:=.type "list", data:=.seq vs.toArray },zQV rfl⟩)) (fun b u z=>?_) (fun b z=>?_) fun _=>hk
  ·by_cases hb:b = a
   ·exact .inr ⟨_,_,zQV hb⟩
   ·exact .inl (zQY hb)
  ·by_cases hb:b = a
   ·have z':=(zQV hb).symm.trans z;cases z';subst hb;exact ⟨ha,by rw [zQP]; exact hl,vs,_,rv,ha⟩
   ·have z':=(zQY hb).symm.trans z;cases z'
  ·by_cases hb:b = a
   ·exact hb
   ·exact absurd (zQY hb) z
theorem zMA {l:PySem.W.OpenLaw} {n k:Nat} {q:Program} {loose:List Str} {XP:(Str -> Option Value) -> Heap -> Prop} {YP:World -> Heap -> Prop} {d:DefRec} {K:Params -> PySem.W.Frag} {CX:World -> CXT} {sp:World -> Sp} {x:Str}
  (hn:l.most = some n) (hn2:n <= sizeLine) (hdf:d.params.defaults = []) (hr:Room k callerA)
  (hY:∀ (w:World) (h:Heap),YP w h -> (K w.params).In h)
  (F:∀ (w:World) (mg:Str -> Option Value) (fa:Addr) (h:Heap),(K w.params).In h -> h.Ns mainGlobals mg -> mg d.name = some (.ref fa) ->
   ∃ fd:FuncData,(∀ (s:Shared) (u:Value),BindsTo s fd ⟨[u],[]⟩ [(x,u)]) /\
    ∀ base:Heap,(K w.params).In base -> base.Ns mainGlobals mg -> FnOk l.prog w (K w.params) mg base (CX w) k fa fd [x] (sp w))
  (hsp:∀ (w:World) (H:Hp) (a:Addr) (ns:List Int),ns.length <= n -> zMM H -> SqL (K w.params) H a (ns.map V.int) -> sp w [.ref a] H (fun v _=>v = .bl true) fun _ _ _=>False)
  (hCX:∀ (w:World) (H:Hp) (s:Shared) (e:Value) (s':Shared),CX w [] H s (fun _ _ _=>False) e s' -> False) :
  PySem.W.WalkO q loose XP YP l.row.toRowW d [] (fun f vs=>PySem.call f vs):=by
 refine Att.zGf hn hdf fun w s₀ s₁ mg mb fa o pm cd doc a vs ns G Y ho hd hcd hmg hobj hints hlen hg=>?_;have KX:=hY w _ Y;obtain ⟨fd,hb,hF⟩:=F w mg fa _ KX G.T.g hmg;exact zKT KX G.T.g G.T.b G.T.builtins G.T.nolimit hg hobj hints (zQh hlen hn2) hr hF hb (fun H hO hS=>hsp w H a ns hlen hO hS) fun H e s'=>hCX w H s₁ e s'
def zCT (s:Stmt):Arguments:=match s with
 | .FunctionDef _ a _ _ _ _ _ _ _ _=>a
 | _=>{ posonlyargs:=[],args:=[],vararg:=none,kwonlyargs:=[],kw_defaults:=[],kwarg:=none,defaults:=[] }
def zBZ (s:Stmt):List Stmt:=match s with
 | .FunctionDef _ _ b _ _ _ _ _ _ _=>b
 | _=>[]
def zZ (s:Stmt):Scope:=match s with
 | .FunctionDef _ _ _ _ _ _ sc _ _ _=>sc
 | _=>{ kind:=.function,names:=[],isGenerator:=false,isCoroutine:=false }
abbrev CX0:CXT:=fun _ _ _ _ _ _=>False
abbrev E0:XK:=fun _ _ _=>False
theorem zPK {X:Cx}:zHZ CX0 X E0:=fun _ _ _ _ _ _ _ h=>h.elim
structure Fun (K:PySem.W.Frag) (x qual:Str) (st:Stmt) (f:Addr) (fd:FuncData):Prop where
 ex:∃ (oc:Value) (od:Option Addr) (kV doc pm:Value) (an:Option Addr) (cdv ct:Value) (osl:Array (Option Value)),
  fd = PySem.W.fnOf x qual (zCT st) (zBZ st) (zZ st) .none kV doc pm an cdv ct /\ K.lookup f = some ⟨oc,od,.func fd,osl⟩ /\ PySem.W.codeIn K cdv qual = true
 kp:PySem.W.keepIn K (.ref f) = true
section
variable {P:Program} {w:World} {K:PySem.W.Frag} {mg:Str -> Option Value} {base:Heap}
theorem Fun.ok {x qual:Str} {st:Stmt} {f:Addr} {fd:FuncData} {N ps:List Str} {k:Nat} {sp:Sp} (F:Fun K x qual st f fd) (S:FnScope N ps (zZ st)) (len:∀ vs H Q E,sp vs H Q E -> vs.length = ps.length)
  (hbody:∀ (cdv:Value) (A:Around) (outer:List Env) (s:Shared) (H:Hp) (vs:List V) (Q:VK) (E:XK),Room k (A.deeper (envOfC qual (zZ st) s.heap.objs.size f cdv)) -> sp vs H Q E ->
   ∃ t,PSs (zH6 CX0 P w K mg base N qual (zZ st) f cdv A outer s H E).nox (zBZ st) t /\ t { nx:=fun _ H'=>Q .non H',rt:=Q } (zCa N vs) H):FnOk P w K mg base CX0 (k + 1) f fd ps sp:=by
 obtain ⟨oc,od,kV,doc,pm,an,cdv,ct,osl,rfl,lk,hcd⟩:=F.ex;refine zOp lk hcd S len fun A outer s H vs Q E hr hsp=>?_;obtain ⟨t,h,q⟩:=hbody cdv A outer s H vs Q E hr hsp;exact ⟨t,h.nox,q⟩
theorem Fun.binds {x qual:Str} {st:Stmt} {f:Addr} {fd:FuncData} {ps:List Str} (F:Fun K x qual st f fd)
  (h:∀ (kV doc pm:Value) (an:Option Addr) (cdv ct:Value) (us:List Value),us.length = ps.length -> bindArgs (PySem.W.fnOf x qual (zCT st) (zBZ st) (zZ st) .none kV doc pm an cdv ct) ⟨us,[]⟩ = pure (ps.zip us)):zEX K fd ps []:=by
 obtain ⟨oc,od,kV,doc,pm,an,cdv,ct,osl,rfl,lk,hcd⟩:=F.ex;exact .all (h kV doc pm an cdv ct)
theorem zKK {x qual:Str} {st:Stmt} {f:Addr} {oc:Value} {od an:Option Addr} {osl:Array (Option Value)} {kV doc pm cdv ct:Value} (l:K.lookup f = some ⟨oc,od,.func (PySem.W.fnOf x qual (zCT st) (zBZ st) (zZ st) .none kV doc pm an cdv ct),osl⟩)
  (c:PySem.W.codeIn K cdv qual = true) (k:PySem.W.keepIn K (.ref f) = true):Fun K x qual st f (PySem.W.fnOf x qual (zCT st) (zBZ st) (zZ st) .none kV doc pm an cdv ct):=⟨⟨oc,od,kV,doc,pm,an,cdv,ct,osl,rfl,l,c⟩,k⟩
end
theorem zJt {A:Around} {k:Nat} (hr:Room k A):A.units + 1 < cLine:=Nat.lt_of_le_of_lt (Nat.add_le_add_left (by decide:1 <= 64) _) hr.units
section
variable {X:Cx}
theorem pv (i:Nat) {x:Str} {pos:Pos} (hN:X.N[i]? = some x:=by rfl) (hv:Vis X.env.scope x:=by first | exact Or.inl rfl | exact Or.inr (Or.inl rfl) | exact Or.inr (Or.inr rfl)) (hd:(x == ("__debug__" : Str)) = false:=by decide)
  (hcd:(x == ("__classdict__" : Str)) = false:=by decide):PE X (.Name x pos) (zNt i):=zN6 hN hv hd hcd
end
theorem zJF {A B:Prop} (h:B):if false = true then A else B:=by
 rw [zQY zQc];exact h
theorem zJH {A B:Prop} (h:A):if true = true then A else B:=by
 rw [zQV rfl];exact h
section
variable {κ:Type} [DecidableEq κ]
def zB6 (kvs:List (κ × V)) (k:κ):Option V:=(kvs.find? fun kv=>decide (kv.1 = k)).map (·.2)
def zBO (kvs:List (κ × V)) (k:κ) (v:V):List (κ × V) :=
 if (kvs.any fun kv=>decide (kv.1 = k)) = true then kvs.map (fun kv=>if kv.1 = k then (kv.1,v) else kv) else kvs ++ [(k,v)]
theorem zDD {p:κ × V} {r:List (κ × V)} {k:κ} (e:p.1 = k):zB6 (p :: r) k = some p.2:=by simp [zB6,zR2,e]
theorem zC5 {p:κ × V} {r:List (κ × V)} {k:κ} (e:¬ p.1 = k):zB6 (p :: r) k = zB6 r k:=by simp [zB6,zR2,e]
theorem zG7 (k:κ):∀ kvs:List (κ × V),(kvs.any fun kv=>decide (kv.1 = k)) = (zB6 kvs k).isSome
 | []=>rfl
 | p :: r=>by
  rw [List.any_cons];by_cases e:p.1 = k
  ·simp only [zDD e,zRO e,Bool.true_or,Option.isSome_some]
  ·rw [zC5 e,zQp e,Bool.false_or]; exact zG7 k r
theorem zA9 (kvs:List (κ × V)) (k:κ) (v:V):(zBO kvs k v).length <= kvs.length + 1:=by
 unfold zBO;split
 ·rw [zQP]; omega
 ·rw [zQW,zQn,List.length_nil]; omega
theorem zEV.isSome_eq (r:zEV o u):o.isSome = u.isSome:=by
 cases o with
 | none=>cases u with
  | none=>rfl
  | some _=>exact (show False from r).elim
 | some _=>cases u with
  | none=>exact (show False from r).elim
  | some _=>rfl
theorem KV.val {kvs:List (κ × V)} {vs:List (κ × Value)} (r:KV kvs vs) (k:κ):zEV (zB6 kvs k) (valueAt vs k):=by
 unfold KV at r;induction r with
 | nil=>exact True.intro
 | @cons p q ps qs h t ih=>
  obtain ⟨h1,h2⟩:=h;by_cases e:p.1 = k
  ·have e':q.1 = k:=h1.symm.trans e;have b:valueAt (q :: qs) k = some q.2:=by simp [valueAt,zR2,e']
   rw [zDD e,b]; exact h2
  ·have e':¬ q.1 = k:=fun z=>e (h1.trans z);have b:valueAt (q :: qs) k = valueAt qs k:=by simp [valueAt,zR2,e']
   rw [zC5 e,b]; exact ih
theorem KV.any (r:KV kvs vs) (k:κ):(kvs.any fun kv=>decide (kv.1 = k)) = vs.any fun kv=>decide (kv.1 = k):=by
 unfold KV at r;induction r with
 | nil=>rfl
 | cons h t ih=>rw [List.any_cons,List.any_cons,ih,h.1]
theorem KV.repl (r:KV kvs vs) (k:κ) (ry:ze y u) :
  KV (kvs.map fun kv=>if kv.1 = k then (kv.1,y) else kv) (vs.map fun kv=>if kv.1 = k then (kv.1,u) else kv):=by
 unfold KV at r ⊢;induction r with
 | nil=>exact .nil
 | @cons p q ps qs h t ih=>
  rw [zQZ,zQZ];refine .cons ?_ ih;obtain ⟨h1,h2⟩:=h;by_cases e:p.1 = k
  ·rw [zQV e,zQV (h1.symm.trans e)]; exact ⟨h1,ry⟩
  ·rw [zQY e,zQY (fun z=>e (h1.trans z))]; exact ⟨h1,h2⟩
theorem KV.put (r:KV kvs vs) (k:κ) (ry:ze y u):KV (zBO kvs k y) (stored vs k u):=by
 unfold zBO stored;rw [r.any k];by_cases e:(vs.any fun kv=>decide (kv.1 = k)) = true
 ·rw [zQV e,zQV e]; exact r.repl k ry
 ·rw [zQY e,zQY e]; exact Paired.snoc r ⟨rfl,ry⟩
theorem KV.length (r:KV kvs vs):kvs.length = vs.length:=Paired.length r
end
theorem zEw (r:ze (kV k) u):(zy P w).is k u = true:=by
 cases k with
 | inl i=>obtain ⟨t,e⟩:=(show ∃ t,u = Value.int i t from r); subst e; exact zGh P w i t
 | inr x=>obtain ⟨t,e⟩:=(show ∃ t,u = Value.str x t from r); subst e; exact zGm P w x t
theorem zFI:∀ {ks:List Key} {us:List Value},zV (ks.map kV) us -> ItemsAre (zy P w) ks us
 | [],_,r=>by rw [List.map_nil] at r; cases r; exact .nil
 | k :: ks,_,r=>by
  rw [zQZ] at r;cases r with
  | cons h t=>exact .cons (zEw h) (zFI t)
abbrev KT (H:Hp):List (List Key × V) -> List (List Key × Addr × Value) -> Prop:=Paired fun p q=>p.1 = q.1 /\ H q.2.1 = some (.tup (p.1.map kV)) /\ ze p.2 q.2.2
theorem KT.val {H:Hp} {kvs:List (List Key × V)} {xs:List (List Key × Addr × Value)} (r:KT H kvs xs) (k:List Key):zEV (zB6 kvs k) ((atKey xs k).map (·.2)):=by
 induction r with
 | nil=>exact True.intro
 | @cons p q ps qs h t ih=>
  obtain ⟨h1,_,h2⟩:=h;by_cases e:p.1 = k
  ·have e':q.1 = k:=h1.symm.trans e;have b:atKey (q :: qs) k = some q.2:=by simp [atKey,zR2,e']
   rw [zDD e,b]; exact h2
  ·have e':¬ q.1 = k:=fun z=>e (h1.trans z);have b:atKey (q :: qs) k = atKey qs k:=by simp [atKey,zR2,e']
   rw [zC5 e,b]; exact ih
theorem KT.repl (r:KT H kvs xs) (k:List Key) (ry:ze y u) :
  KT H (kvs.map fun kv=>if kv.1 = k then (kv.1,y) else kv) (xs.map (putAt k u)):=by
 induction r with
 | nil=>exact .nil
 | @cons p q ps qs h t ih=>
  rw [zQZ,zQZ];refine .cons ?_ ih;obtain ⟨h1,h2,h3⟩:=h;unfold putAt;by_cases e:p.1 = k
  ·rw [zQV e,zQV (h1.symm.trans e)]; exact ⟨h1,h2,ry⟩
  ·rw [zQY e,zQY (fun z=>e (h1.trans z))]; exact ⟨h1,h2,h3⟩
theorem KT.put (r:KT H kvs xs) (k:List Key) (hb:H b = some (.tup (k.map kV))) (ry:ze y u) :
  KT H (zBO kvs k y) (storedH xs k b u):=by
 have e:(kvs.any fun kv=>decide (kv.1 = k)) = (atKey xs k).isSome:=by
  rw [zG7,(r.val k).isSome_eq,Option.isSome_map]
 unfold zBO storedH;rw [e];by_cases q:(atKey xs k).isSome = true
 ·rw [zQV q,zQV q]; exact r.repl k ry
 ·rw [zQY q,zQY q]; exact Paired.snoc r ⟨rfl,hb,ry⟩
theorem KT.keeps (r:KT H kvs xs) (ht:∀ b ys,H b = some (.tup ys) -> H' b = some (.tup ys)):KT H' kvs xs :=
 Paired.mapP r fun _ _ z=>⟨z.1,ht _ _ z.2.1,z.2.2⟩
section
variable {P:Program} {w:World} {H:Hp} {h:Heap} {a:Addr}
theorem zMz (ok:HOk P w H h) (e:Rd H a u):zt P w H h a u:=e.ok ok
theorem zID (ok:HOk P w H h) (e:Rd H a (.dK kvs)):kvs.length <= sizeLine /\ (a == sysModules) = false /\ ∃ vs,KV kvs vs /\ h.DictOf (zy P w) a vs :=
 show zt P w H h a (.dK kvs) from zMz ok e
theorem zLC (ok:HOk P w H h) (e:H a = some (.dK kvs)):kvs.length <= sizeLine /\ (a == sysModules) = false /\ ∃ vs,KV kvs vs /\ h.DictOf (zy P w) a vs:=zID ok (.inl e)
theorem zDz (ok:HOk P w H h) (e:H a = some (.tup (ks.map kV))):(tupleKind (zy P w)).is h ks a:=by
 obtain ⟨_,its,r,o,h1,h2,⟨n,h3⟩,_⟩:=(show zt P w H h a (.tup (ks.map kV)) from ok a _ e);exact ⟨o,its.toArray,n,h1,h2,h3,by simpa using zFI r⟩
theorem zIV (ok:HOk P w H h) (e:Rd H a (.dT kvs)):kvs.length <= sizeLine /\ (a == sysModules) = false /\
  ∃ xs,KT H kvs xs /\ h.DictOfH (tupleKind (zy P w)) a xs:=by
 obtain ⟨z,y,xs,r,o,es,ep,h1,h2,h3,h4,h5⟩:=(show zt P w H h a (.dT kvs) from zMz ok e);refine ⟨z,y,xs,r,o,es,ep,h1,h2,h3,h4,fun x hx=>?_,h5⟩;have all:∀ {l:List (List Key × V)} {m:List (List Key × Addr × Value)},KT H l m -> ∀ x ∈ m,(tupleKind (zy P w)).is h x.1 x.2.1:=by
  intro l m q;induction q with
  | nil=>intro x hx; exact nomatch hx
  | @cons p q ps qs hq t ih=>
   intro x hx;rcases zQS.mp hx with e | hx
   ·subst e;exact zDz ok (by rw [<- hq.1]; exact hq.2.1)
   ·exact ih x hx
 exact all r x hx
theorem zMv (ok:HOk P w H h) (e:H a = some (.dT kvs)):kvs.length <= sizeLine /\ (a == sysModules) = false /\
  ∃ xs,KT H kvs xs /\ h.DictOfH (tupleKind (zy P w)) a xs:=zIV ok (.inl e)
end
def zCz (H:Hp) (a:Addr) (y:V) (r:Option V):Prop :=
 (∃ kvs k,Rd H a (.dK kvs) /\ y = kV k /\ r = zB6 kvs k) \/ ∃ kvs k b,Rd H a (.dT kvs) /\ y = .ref b /\ H b = some (.tup (k.map kV)) /\ r = zB6 kvs k
def zDZ (H:Hp) (a:Addr) (y v:V) (H':Hp):Prop :=
 (∃ kvs k,H a = some (.dK kvs) /\ y = kV k /\ kvs.length < sizeLine /\ H' = upd H a (.dK (zBO kvs k v))) \/
 ∃ kvs k b,H a = some (.dT kvs) /\ y = .ref b /\ H b = some (.tup (k.map kV)) /\ kvs.length < sizeLine /\ H' = upd H a (.dT (zBO kvs k v))
theorem zCz.k {H:Hp} {a:Addr} {kvs:List (Key × V)} {k:Key} (e:H a = some (.dK kvs)):zCz H a (kV k) (zB6 kvs k):=.inl ⟨kvs,k,.inl e,rfl,rfl⟩
theorem zCz.t {k:List Key} (e:H a = some (.dT kvs)) (eb:H b = some (.tup (k.map kV))):zCz H a (.ref b) (zB6 kvs k):=.inr ⟨kvs,k,b,.inl e,rfl,eb,rfl⟩
theorem zDZ.k {H:Hp} {a:Addr} {kvs:List (Key × V)} {k:Key} {v:V} (e:H a = some (.dK kvs)) (hl:kvs.length < sizeLine):zDZ H a (kV k) v (upd H a (.dK (zBO kvs k v))):=.inl ⟨kvs,k,e,rfl,hl,rfl⟩
theorem zDZ.t {kvs:List (List Key × V)} {k:List Key} (e:H a = some (.dT kvs)) (eb:H b = some (.tup (k.map kV))) (hl:kvs.length < sizeLine) :
  zDZ H a (.ref b) v (upd H a (.dT (zBO kvs k v))):=.inr ⟨kvs,k,b,e,rfl,eb,hl,rfl⟩
section
variable {X:Cx} {zB:List (Addr × Obj)} {σ:St} {H:Hp} {s:Shared} {a:Addr} {y v:V} {u r:Value} {o:Option V} {A:Around} {E:Value -> Shared -> Prop}
theorem Inv.big (I:Inv X zB σ H s):sysModules < s.heap.objs.size:=by
 have h:mainGlobals < s.heap.objs.size:=(I.mod.glob.keeps I.bk).lt;exact Nat.lt_trans (by decide) h
theorem zIv (hu:A.units + 1 < cLine) (I:Inv X zB σ H s) (g:zCz H a y (some v)) (ry:ze y u) (h:∀ w' s',Inv X zB σ H s' -> ze v w' -> Q w' s') :
  wpAny (model X.prog X.w) A (getItem (.ref a) u) Q E s:=by
 rcases g with ⟨kvs,k,e,ey,l⟩ | ⟨kvs,k,b,e,ey,eb,l⟩
 ·subst ey;obtain ⟨z,hd,vs,rel,dd⟩:=zID I.hok e;obtain ⟨w',hw,rw'⟩:=zEV.some_of (v:=v) (o:=valueAt vs k) (by rw [l]; exact rel.val k);exact wpAny_getItem_of (zEw ry) dd.mapOf hw (h w' _ (I.tok _) rw')
 ·subst ey;cases (show u = Value.ref b from ry);obtain ⟨z,hd,xs,rel,dd⟩:=zIV I.hok e;obtain ⟨w',hw,rw'⟩:=zEV.some_of (v:=v) (o:=(atKey xs k).map (·.2)) (by rw [l]; exact rel.val k);obtain ⟨p,hp,hp2⟩:=Option.map_eq_some_iff.mp hw;refine wpAny_getItem_heap (tupleKind_room_in1 hu) (zDz I.hok eb) dd hp ?_;rw [hp2];exact h w' _ (I.tok _) rw'
theorem zMY (hu:A.units + 1 < cLine) (I:Inv X zB σ H s) (g:zCz H a y o) (ry:ze y u) (h:∀ s',Inv X zB σ H s' -> Q (.bool (!o.isSome)) s') :
  wpAny (model X.prog X.w) A (compareOp .NotIn u (.ref a)) Q E s:=by
 rcases g with ⟨kvs,k,e,ey,l⟩ | ⟨kvs,k,b,e,ey,eb,l⟩
 ·subst ey;obtain ⟨z,hd,vs,rel,dd⟩:=zID I.hok e;refine wpAny_notIn_of (zEw ry) hd dd.mapOf ?_;rw [<- (rel.val k).isSome_eq,<- l];exact h _ (I.tok _)
 ·subst ey;cases (show u = Value.ref b from ry);obtain ⟨z,hd,xs,rel,dd⟩:=zIV I.hok e;refine wpAny_notIn_heap (tupleKind_room_in1 hu) (zDz I.hok eb) hd dd ?_;have q:=(rel.val k).isSome_eq;rw [Option.isSome_map] at q;rw [<- q,<- l];exact h _ (I.tok _)
theorem zC2 (I:Inv X zB σ H s) (mu:Mut (H a)) (hs:Heap.SameBut a s.heap h') (he:∃ q,h'.get? a = some q) (new:zt X.prog X.w (upd H a ob) h' a ob) :
  Inv X zB σ (upd H a ob) { s with heap:=h',toks:=t' } :=
 I.write (x:=a) (e:=a) mu (.inl rfl) (fun b q hb z=>(hs.2 b hb).trans z) he new
theorem zHt (z:kvs.length <= sizeLine) (hd:(a == sysModules) = false) (rel:KV kvs vs) (dd:h'.DictOf (zy P w) a vs) :
  zt P w H' h' a (.dK kvs):=⟨z,hd,vs,rel,dd⟩
theorem zJe (hu:A.units + 1 < cLine) (I:Inv X zB σ H s) (g:zDZ H a y v H') (ry:ze y u) (rv:ze v r) (h:∀ s',Inv X zB σ H' s' -> Q () s') :
  wpAny (model X.prog X.w) A (setItem (.ref a) u r) Q E s:=by
 rcases g with ⟨kvs,k,e,ey,l,eH⟩ | ⟨kvs,k,b,e,ey,eb,l,eH⟩
 ·subst ey eH;obtain ⟨z,hd,vs,rel,dd⟩:=zLC I.hok e;have hz:vs.length <= sizeLine:=by rw [<- rel.length]; exact z
  have hl:(zBO kvs k v).length <= sizeLine:=by have:=zA9 kvs k v; omega
  refine wpAny_setItem_pairs (hsz:=hz) (zEw ry) dd fun h' dd' hs=>h _ ?_;have he:∃ q,h'.get? a = some q:=let ⟨q,_,_,hq,_⟩:=dd'; ⟨q,hq⟩;exact zC2 I (by rw [e]; exact True.intro) hs he (zHt hl hd (rel.put k rv) dd')
 ·subst ey eH;cases (show u = Value.ref b from ry);obtain ⟨z,hd,xs,rel,dd⟩:=zMv I.hok e;have hz:xs.length <= sizeLine:=by rw [<- Paired.length rel]; exact z
  have hl:(zBO kvs k v).length <= sizeLine:=by have:=zA9 kvs k v; omega
  refine wpAny_setItem_heap (hsz:=hz) (tupleKind_room_in1 hu) (zDz I.hok eb) dd fun h' dd' hs=>h _ ?_;obtain ⟨q,es,ep,hq,h2,h3,h4,_,h5⟩:=dd';refine zC2 I (by rw [e]; exact True.intro) hs ⟨q,hq⟩ ⟨hl,hd,_,(rel.put k eb rv).keeps fun c ys ec=>?_,q,es,ep,hq,h2,h3,h4,h5⟩;rw [zO (zFC ec e (fun z=>nomatch z))];exact ec
end
def zNC (i:Expr):Prop:=∀ ov iv,subscripted i false ov iv = operate [ov,iv] (getItem ov iv)
theorem zMU {prog:Program} {w:World} {A:Around} {E:Value -> Shared -> Prop} {s:Shared} {env:Env} {value slice:Expr} {pos:Pos} {T id:String} {Q:Value -> Shared -> Prop}
  (hl:typeLookup (.type T) "__getitem__" = pure (some (.builtin id))) (hs:zNC slice)
  (h:wpAny (model prog w) A (eval value env) (fun o s₁=>wpAny (model prog w) A (eval slice env) (fun i s₂=>s₂.TypeIs o T /\ wpAny (model prog w) A (getItem o i) Q E s₂) E s₁) E s) :
  wpAny (model prog w) A (eval (.Subscript value slice pos) env) Q E s:=by
 refine Subscript_ (zQm h (fun o s₁ h₁=>zQm h₁ (fun i s₂ h₂=>?_) fun _ _ x=>x) fun _ _ x=>x);obtain ⟨hT,h₂⟩:=h₂;unfold subscriptTail;refine zQG ?_;rw [getitemInPython_of_ne hT.not_modules];refine zQG (wpAny_specialOf hT hl ?_);have fin:wpAny (model prog w) A (subscripted slice false o i) (fun r s₃=>wpAny (model prog w) A (letTemporaryGo value o r >>= fun _=>pure r) Q E s₃) E s₂:=by
  rw [hs o i];exact wpAny_operating (zQm h₂ (fun r s₃ h₃=>zQG (wpAny_letTemporaryGo (zQI h₃))) fun _ _ x=>x)
 first
  | exact zQI (zQG fin)
  | exact zQG (zQI (zQG fin))
  | exact zQG fin
theorem zGM (I:Inv X zB σ H s) (g:zCz H a y o):s.TypeIs (.ref a) "dict" := by
 rcases g with ⟨kvs,k,e,_,_⟩ | ⟨kvs,k,b,e,_,_,_⟩
 ·obtain ⟨_,_,vs,_,dd⟩:=zID I.hok e;exact dd.typeIs
 ·obtain ⟨_,_,xs,_,dd⟩:=zIV I.hok e;exact dd.typeIs
def zOt (td ty:TE):TE:=fun σ H Q=>td σ H fun x H1=>ty σ H1 fun y H2=>∃ a v,x = .ref a /\ zCz H2 a y (some v) /\ Q v H2
def zMP (ty td:TE):TE:=fun σ H Q=>ty σ H fun y H1=>td σ H1 fun x H2=>∃ a o,x = .ref a /\ zCz H2 a y o /\ Q (.bl (!o.isSome)) H2
def zPH (td ty tv:TE):TS:=fun D σ H=>tv σ H fun v H1=>td σ H1 fun x H2=>ty σ H2 fun y H3=>∃ a H4,x = .ref a /\ zDZ H3 a y v H4 /\ D.nx σ H4
section
variable {X:Cx} {o i e value:Expr} {pos pos' tpos:Pos} {td ty tv:TE}
theorem zMh (hu:X.A.units + 1 < cLine) (ho:PE X o td) (hi:PE X i ty) (hs:zNC i):PE X (.Subscript o i pos) (zOt td ty):=by
 intro zB s σ H Q I h;refine zMU PySem.F.slot_dict_getitem.lookup hs (thn (ho zB s σ H _ I h) fun u s1 ⟨x,H1,I1,rx,q1⟩=>thn (hi zB s1 σ H1 _ I1 q1) fun iv s2 ⟨y,H2,I2,ry,a,v,ex,g,q2⟩=>?_);subst ex;obtain rfl:u = Value.ref a:=rx;exact ⟨zGM I2 g,zIv hu I2 g ry fun w' s3 I3 rw'=>⟨v,H2,I3,rw',q2⟩⟩
theorem zJb (hu:X.A.units + 1 < cLine) (hi:PE X i ty) (ho:PE X o td):PC X .NotIn i o (zMP ty td):=by
 intro zB s σ H Q I h;refine thn (hi zB s σ H _ I h) fun iv s1 ⟨y,H1,I1,ry,q1⟩=>thn (ho zB s1 σ H1 _ I1 q1) fun u s2 ⟨x,H2,I2,rx,a,ov,ex,g,q2⟩=>?_;subst ex;obtain rfl:u = Value.ref a:=rx;exact zMY hu I2 g ry fun s3 I3=>⟨.bl (!ov.isSome),H2,I3,rfl,q2⟩
theorem zMb (hu:X.A.units + 1 < cLine) (ho:PE X o td) (hi:PE X i ty) (hv:PE X value tv) (hs:swapsWith value (some (.Subscript o i pos')) pos.line X.env = pure false) :
  PS X (.Assign [.Subscript o i pos'] value pos) (zPH td ty tv):=by
 intro zB s σ H D I h;refine wpAny_Assign_Subscript (thn (hv zB s σ H _ I h) fun r s1 ⟨v,H1,I1,rv,q1⟩=>thn (ho zB s1 σ H1 _ I1 q1) fun u s2 ⟨x,H2,I2,rx,q2⟩=>thn (hi zB s2 σ H2 _ I2 q2) fun iv s3 ⟨y,H3,I3,ry,a,H4,ex,g,q3⟩=>?_) hs;subst ex;obtain rfl:u = Value.ref a:=rx;exact zJe hu I3 g ry rv fun s4 I4=>⟨σ,H4,I4,q3⟩
end
theorem zGj (h:Heap) (hb:sysModules < h.objs.size):zt P w H (h.push { cls:=.type "dict", data:=.dict #[] }) h.objs.size (.dK []) :=
 ⟨zQ2 _,beq_eq_false_iff_ne.mpr (Ne.symm (zQb hb)),[],.nil,Heap.DictOf.new h⟩
def zNl:TE:=fun _ H Q=>∀ p,H p = none -> Q (.ref p) (upd H p (.dK []))
section
variable {X:Cx} {pos:Pos}
theorem zK0:PE X (.Dict [] [] pos) zNl:=fun zB s σ H Q I h=>
 wpAny_Dict_empty ⟨.ref s.heap.objs.size,_,I.laid (a:=s.heap.objs.size) (o:=.dK []) (t':=s.toks) (fun _ _ q=>zQH _ q) (zQM _) (zGj s.heap I.big),rfl,h _ (I.hok.fresh (zQM _))⟩
end
def zHr:List (TE × TE) -> St -> Hp -> (List (V × V) -> Hp -> Prop) -> Prop
 | [],_,H,Q=>Q [] H
 | (tk,tv) :: r,σ,H,Q=>tk σ H fun x H1=>tv σ H1 fun y H2=>zHr r σ H2 fun ps H3=>Q ((x,y) :: ps) H3
abbrev VV:List (V × V) -> List (Value × Value) -> Prop:=Paired fun p q=>ze p.1 q.1 /\ ze p.2 q.2
def PPs (X:Cx) (pos:Pos) (keys:List (Option Expr)) (values:List Expr) (trs:List (TE × TE)):Prop :=
 ∀ (zB:List (Addr × Obj)) (s:Shared) (σ:St) (H:Hp) (Q:List (V × V) -> Hp -> Prop),Inv X zB σ H s -> zHr trs σ H Q ->
  wpAny (model X.prog X.w) X.A (evalPairs (pairTrees keys values X.env pos)) (fun vs s'=>∃ ps H',Inv X zB σ H' s' /\ VV ps vs /\ Q ps H') X.xe s
theorem zMD:PPs X pos [] [] []:=fun zB s σ H Q I h=>pairTrees_nil_walk ⟨[],H,I,.nil,h⟩
theorem zGS (hk:PE X k tk) (hv:PE X v tv) (hr:PPs X pos ks vs trs) :
  PPs X pos (some k :: ks) (v :: vs) ((tk,tv) :: trs):=fun zB s σ H Q I h=>
 pairTrees_cons_walk (thn (hk zB s σ H _ I h) fun u s1 ⟨x,H1,I1,rx,q1⟩=>thn (hv zB s1 σ H1 _ I1 q1) fun w2 s2 ⟨y,H2,I2,ry,q2⟩=>
  thn (hr zB s2 σ H2 _ I2 q2) fun ws s3 ⟨ps,H3,I3,rel,q3⟩=>⟨(x,y) :: ps,H3,I3,.cons ⟨rx,ry⟩ rel,q3⟩)
def zCh (kvs more:List (Key × V)):List (Key × V):=more.foldl (fun acc kv=>zBO acc kv.1 kv.2) kvs
theorem KV.merge:∀ {more:List (Key × V)} {rs:List (Key × Value)} {kvs:List (Key × V)} {vs:List (Key × Value)},KV more rs -> KV kvs vs -> KV (zCh kvs more) (merged vs rs):=by
 intro more rs kvs vs r;unfold KV at r;induction r generalizing kvs vs with
 | nil=>intro q; exact q
 | @cons p q ps qs h t ih=>
  intro r0;have e:KV (zBO kvs p.1 p.2) (stored vs q.1 q.2):=by
   have:=r0.put p.1 h.2;rw [<- h.1]; exact this
  exact ih e
theorem zCb:∀ (more kvs:List (Key × V)),(zCh kvs more).length <= kvs.length + more.length
 | [],kvs=>by show kvs.length <= kvs.length + 0; omega
 | p :: r,kvs=>by
  have h1:=zCb r (zBO kvs p.1 p.2);have h2:=zA9 kvs p.1 p.2;show (zCh (zBO kvs p.1 p.2) r).length <= _;rw [zQn]; omega
theorem zEI:∀ {kvs:List (Key × V)} {ws:List (Value × Value)},VV (kvs.map fun kv=>(kV kv.1,kv.2)) ws -> ∃ rs,Carries (zy P w) ws rs /\ KV kvs rs
 | [],_,r=>by rw [List.map_nil] at r; cases r; exact ⟨[],True.intro,.nil⟩
 | p :: kvs,_,r=>by
  rw [zQZ] at r;cases r with
  | @cons a b as bs h t=>
   obtain ⟨rs,c,q⟩:=zEI (P:=P) (w:=w) t;obtain ⟨b1,b2⟩:=b;exact ⟨(p.1,b2) :: rs,⟨zEw h.1,rfl,c⟩,.cons ⟨rfl,h.2⟩ q⟩
def zOo (trs:List (TE × TE)):TE:=fun σ H Q=>∀ p,H p = none -> zHr trs σ (upd H p (.dK [])) fun ps H2=>H2 p = some (.dK []) /\ ∃ kvs:List (Key × V),ps = kvs.map (fun kv=>(kV kv.1,kv.2)) /\ kvs.length <= 15 /\ Q (.ref p) (upd H2 p (.dK (zCh [] kvs)))
theorem zL7 (h:PPs X pos keys values trs) (hall:keys.all (·.isSome) = true) (hl:keys.length = values.length) (h0:keys ≠ [])
  (h15:keys.length <= 15):PE X (.Dict keys values pos) (zOo trs):=by
 intro zB s σ H Q I q;have hn:=I.hok.fresh (zQM s.heap.objs.size);have I1:=I.laid (a:=s.heap.objs.size) (o:=.dK []) (h':=s.heap.push { cls:=.type "dict", data:=.dict #[] }) (t':=s.toks) (fun _ _ q=>zQH _ q) (zQM _) (zGj s.heap I.big);refine wpAny_Dict_walk (knd:=zy X.prog X.w) hall hl h0 h15 (thn (h zB _ σ _ _ I1 (q _ hn)) fun ws s2 ⟨ps,H2,I2,rel,e,kvs,ep,lk,q2⟩=>?_);subst ep;obtain ⟨rs,c,rk⟩:=zEI (P:=X.prog) (w:=X.w) rel;obtain ⟨z,hd,vs0,r0,dd⟩:=zLC I2.hok e;cases r0;refine ⟨rs,c,dd,fun h' dd' hs=>⟨.ref s.heap.objs.size,_,?_,rfl,q2⟩⟩;have hz:(zCh [] kvs).length <= sizeLine:=by
  have h1:=zCb kvs [];rw [List.length_nil] at h1;rw [sizeLine_eq]; omega
 have he:∃ q,h'.get? s.heap.objs.size = some q:=let ⟨q,_,_,hq,_⟩:=dd'; ⟨q,hq⟩;exact zC2 I2 (by rw [e]; exact True.intro) hs he (zHt hz hd (rk.merge .nil) dd')
theorem zAH:∀ (names:List (Str × NameKind)) (n:Nat) (acc:List (Str × Addr)),cellsFrom n names acc = cellsFrom n names [] ++ acc
 | [],_,_=>rfl
 | (name,kind) :: r,n,acc=>by
  unfold cellsFrom;split
  ·rw [zAH r (n + 1) ((name,n) :: acc),zAH r (n + 1) [(name,n)],List.append_assoc];rfl
  ·exact zAH r n acc
theorem zBP {α:Type} (x:Str):∀ (l r:List (Str × α)),(l ++ r).lookup x = (match l.lookup x with | some c=>some c | none=>r.lookup x)
 | [],r=>rfl
 | (k,v) :: l,r=>by
  rw [List.cons_append,zSL,zSL];cases hb:x == k with
  | true=>rfl
  | false=>exact zBP x l r
theorem zCi:∀ (names:List (Str × NameKind)) (acc:List (Str × Addr)),
  (∀ y ∈ names,y.2 = .free -> ∃ c,env.cells.lookup y.1 = some c) ->
  (∀ x c,acc.lookup x = some c -> env.cells.lookup x = some c) ->
  ∃ cl:List (Str × Addr),(forIn names acc (fun (p:Str × NameKind) (cs:List (Str × Addr))=>(do
    if p.2 == .free then
     let a <- cellOf env p.1;pure (ForInStep.yield ((p.1,a) :: cs))
    else pure (ForInStep.yield cs):Sem (ForInStep (List (Str × Addr)))))) = pure cl /\
   (∀ x c,cl.lookup x = some c -> env.cells.lookup x = some c) /\
   (∀ x,(acc.lookup x).isSome = true -> (cl.lookup x).isSome = true) /\ ∀ y ∈ names,y.2 = .free -> (cl.lookup y.1).isSome = true
 | [],acc,_,ha=>⟨acc,by rw [List.forIn_nil],ha,fun _ h=>h,fun _ h=>nomatch h⟩
 | (n,k) :: r,acc,hf,ha=>by
  rw [List.forIn_cons];by_cases hk:k = .free
  ·subst hk;obtain ⟨c,hc⟩:=hf (n,.free) zQU rfl;have hco:cellOf env n = pure c:=by unfold cellOf; rw [hc]
   obtain ⟨cl,e,h1,h2,h3⟩:=zCi r ((n,c) :: acc) (fun y hy=>hf y (zQT _ hy)) (fun x d hx=>by
    rw [zSL] at hx;cases hb:x == n with
    | true=>rw [hb] at hx; cases hx; rw [beq_iff_eq.mp hb]; exact hc
    | false=>rw [hb] at hx; exact ha x d hx)
   refine ⟨cl,?_,h1,fun x hx=>h2 x ?_,fun y hy hk=>?_⟩
   ·rw [<- e];simp only [beq_self_eq_true,if_true,hco];rfl
   ·rw [zSL];cases hb:x == n with
    | true=>rfl
    | false=>exact hx
   ·rcases zQS.mp hy with z | z
    ·subst z;exact h2 n (by rw [zSL]; simp)
    ·exact h3 y z hk
  ·obtain ⟨cl,e,h1,h2,h3⟩:=zCi r acc (fun y hy=>hf y (zQT _ hy)) ha;refine ⟨cl,?_,h1,h2,fun y hy hk'=>?_⟩
   ·rw [<- e];have:(k == NameKind.free) = false:=by simpa using hk
    simp only [this,Bool.false_eq_true,if_false];rfl
   ·rcases zQS.mp hy with z | z
    ·subst z; exact absurd hk' hk
    ·exact h3 y z hk'
theorem zEt (hf:∀ y ∈ scope.names,y.2 = .free -> ∃ c,env.cells.lookup y.1 = some c) :
  ∃ cl,closureFor scope env = pure cl /\ (∀ x c,cl.lookup x = some c -> env.cells.lookup x = some c) /\ ∀ y ∈ scope.names,y.2 = .free -> (cl.lookup y.1).isSome = true:=by
 obtain ⟨cl,e,h1,_,h3⟩:=zCi (env:=env) scope.names [] hf (fun x c h=>nomatch h);refine ⟨cl,?_,h1,h3⟩;unfold closureFor;rw [show (pure cl:Sem _) = pure cl >>= pure from rfl,<- e]
theorem zHF
  (hQ:Q (newEnv scope s.heap.objs.size globals (cellsFrom (s.heap.objs.size + 1) scope.names cl) qual none .none (some env) builtinsNs)
   { s with heap:=pushCells (s.heap.push { cls:=.type "dict", data:=.dict #[] }) scope.names }) :
  wpAny M A (newFunctionEnv scope globals cl [] qual none .none (some env)) Q E s:=by
 simp only [newFunctionEnv,Option.isSome_some,if_true];refine zQG (wpAny_alloc ?_);refine zQG (wpAny_layCells _ (fun name kind cells=>by cases hkc:kind == NameKind.cell <;> simp [hkc]) _ _ _ _ ?_);rw [show ({ s with heap:=s.heap.push { cls:=.type "dict", data:=.dict #[] } }:Shared).heap.objs.size = s.heap.objs.size + 1 from zQw ..];exact zQG (zQI (zQI hQ))
def zAN (X:Cx) (zB:List (Addr × Obj)) (scope:Scope) (cl:List (Str × Addr)) (s:Shared) (H:Hp) (fp:List Addr):Cx where
 prog:=X.prog
 w:=X.w
 K:=X.K
 mg:=X.mg
 base:=X.base
 A:=X.A
 N:=X.N
 s₀:=s
 H₀:=H
 env:={ scope:=relabel scope X.env,locals:=s.heap.objs.size + 1,globals:=X.env.globals,cells:=cellsFrom (s.heap.objs.size + 1 + 1) scope.names cl,qual:=X.env.qual,func:=none,code:=X.env.code,frame:=X.env.frame,builtins:=X.env.builtins }
 outer:=X.stack
 stack:=X.stack
 ex:=fp
 fn:=fun x=>decide (scope.names.lookup x = some .cell)
 calm:=X.calm
 pn:=X.pn ++ zB
 xe:=fun _ _=>False
theorem zAc {scope:Scope} {env:Env} (x:Str):∀ {names:List (Str × NameKind)} {k:NameKind},
  (names.map fun (n,k)=>if (k == NameKind.free && env.scope.kind == .function && env.kindOf n == some .cell) then (n,NameKind.cell) else (n,k)).lookup x = some k ->
  names.lookup x = some k \/ (names.lookup x = some .free /\ k = .cell)
 | [],_,h=>by simp at h
 | (n,k') :: r,k,h=>by
  rw [zQZ] at h;by_cases hc:(k' == NameKind.free && env.scope.kind == .function && env.kindOf n == some .cell) = true
  ·simp only [hc,if_true] at h;rw [zSL] at h ⊢;cases hb:x == n with
   | true=>
    rw [hb] at h;simp only [zQq,beq_iff_eq] at hc;exact .inr ⟨by rw [hc.1.1],(zRG h).symm⟩
   | false=>rw [hb] at h; exact zAc (scope:=scope) x h
  ·simp only [hc,Bool.false_eq_true,if_false] at h;rw [zSL] at h ⊢;cases hb:x == n with
   | true=>rw [hb] at h; exact .inl h
   | false=>rw [hb] at h; exact zAc (scope:=scope) x h
theorem zEY:∀ (names:List (Str × NameKind)) (n:Nat) (acc:List (Str × Addr)) (x:Str) (c:Addr),(x,c) ∈ cellsFrom n names acc -> (x,c) ∉ acc -> (x,NameKind.cell) ∈ names
 | [],_,_,_,_,h,h'=>absurd h h'
 | (name,kind) :: r,n,acc,x,c,h,h'=>by
  unfold cellsFrom at h;split at h
  ·rename_i hk;by_cases e:(x,c) = (name,n)
   ·cases e;rw [beq_iff_eq] at hk;subst hk;exact zQU
   ·exact zQT _ (zEY r _ _ x c h fun z=>(zQS.mp z).elim e h')
  ·exact zQT _ (zEY r _ _ x c h h')
structure CompScope (X:Cx) (scope:Scope):Prop where
 kind:scope.kind = .function
 names:∀ y ∈ scope.names,y.2 = .local -> scope.names.lookup y.1 = some .local
 cells:∀ y ∈ scope.names,y.2 = .cell -> scope.names.lookup y.1 = some .cell
 free:∀ y ∈ scope.names,y.2 = .free -> X.env.kindOf y.1 = some .cell \/ X.env.kindOf y.1 = some .free
section
theorem zKX (S:CompScope X scope) (I:Inv X zB σ H s) (hf:∀ b ∈ fp,zBy X zB H b) (ho:∀ b:Nat,b ∈ fp -> b < s.heap.objs.size)
  (c1:∀ x c,cl.lookup x = some c -> X.env.cells.lookup x = some c) (c2:∀ y ∈ scope.names,y.2 = .free -> (cl.lookup y.1).isSome = true)
  (hl:σc.length = σ.length) (hσ:∀ (i:Nat) x v,X.N[i]? = some x -> σc[i]? = some (some v) -> (relabel scope X.env).names.lookup x ≠ none -> scope.names.lookup x = some .free /\ σ[i]? = some (some v))
  (lo:Obj) (hlo:∀ v,lo.data ≠ .cell v) (hfr:lo.isFreed = false)
  (h4:s4 = { s with heap:=pushCells ((s.heap.push lo).push { cls:=.type "dict", data:=.dict #[] }) scope.names }) :
  Inv (zAN X zB scope cl s H fp) [(s.heap.objs.size,lo)] σc H s4:=by
 subst h4;have sz1:(s.heap.push lo).objs.size = s.heap.objs.size + 1:=zQw ..;have sz2:((s.heap.push lo).push { cls:=.type "dict", data:=.dict #[] }).objs.size = s.heap.objs.size + 1 + 1:=by rw [zQw,sz1]
 have hk:∀ b o,s.heap.get? b = some o -> (pushCells ((s.heap.push lo).push { cls:=.type "dict", data:=.dict #[] }) scope.names).get? b = some o:=fun b o e=>
  pushCells_keeps _ _ b o (zQH _ (zQH _ e))
 have ok:=cellsFrom_ok scope.names ((s.heap.push lo).push { cls:=.type "dict", data:=.dict #[] }) (s.heap.objs.size + 1 + 1) [] ⟨fun _ _ hm=>(nomatch hm),List.Pairwise.nil⟩ (by rw [sz2]; exact zQM _);rw [sz2] at ok;have look:∀ x c,(cellsFrom (s.heap.objs.size + 1 + 1) scope.names cl).lookup x = some c -> ((cellsFrom (s.heap.objs.size + 1 + 1) scope.names []).lookup x = some c) \/ ((cellsFrom (s.heap.objs.size + 1 + 1) scope.names []).lookup x = none /\ X.env.cells.lookup x = some c):=fun x c e=>by
  rw [zAH,zBP] at e;cases q:(cellsFrom (s.heap.objs.size + 1 + 1) scope.names []).lookup x with
  | some d=>rw [q] at e; exact .inl e
  | none=>rw [q] at e; exact .inr ⟨rfl,c1 x c e⟩
 have old:∀ x (c:Nat),X.env.cells.lookup x = some c -> c < s.heap.objs.size:=fun x c e=>let ⟨_,q⟩:=I.cell x c e; q.lt;have new:∀ x (c:Nat),(cellsFrom (s.heap.objs.size + 1 + 1) scope.names []).lookup x = some c -> s.heap.objs.size + 1 + 1 <= c:=fun x c e=>(ok.empty x c (zRI e)).2;have own:∀ x,scope.names.lookup x = some .cell -> ∃ c,(cellsFrom (s.heap.objs.size + 1 + 1) scope.names []).lookup x = some c:=fun x e=>zEQ e;have cne:∀ x (c:Nat),(cellsFrom (s.heap.objs.size + 1 + 1) scope.names cl).lookup x = some c -> c < s.heap.objs.size \/ s.heap.objs.size + 1 + 1 <= c:=fun x c e=>by
  rcases look x c e with q | ⟨_,q⟩
  ·exact .inr (new x c q)
  ·exact .inl (old x c q)
 refine ⟨⟨I.ok.mod,S.kind,I.ok.glob,I.ok.blt,Nat.le_succ _,fun x y c h1 h2=>?_,fun x hx=>?_,fun x c hx h=>?_,I.ok.hd,I.ok.frames,.inl rfl,fun b hb=>⟨?_,fun x c e z=>?_⟩,I.bs,zQh I.ok.bsz I.sz,fun b o e hb=>?_,fun b hb z=>?_,I.stack,I.stkFree⟩,
  rfl,I.bare,Un.kept hk,⟨fun _=>none,?_,fun i x v h1 h2 h3=>?_⟩,fun x c e=>?_,I.hok.fresh (Nat.le_succ _),fun x c e=>?_,fun p hp=>?_,I.hok.kept hk,hl.trans I.len⟩
 ·rcases look x c h1 with a | ⟨_,a⟩ <;> rcases look y c h2 with b | ⟨_,b⟩
  ·exact name_of_addr ok.apart (zRI a) (zRI b)
  ·exact absurd (Nat.lt_of_le_of_lt (new x c a) (old y c b)) (by omega)
  ·exact absurd (Nat.lt_of_le_of_lt (new y c b) (old x c a)) (by omega)
  ·exact I.ok.inj x y c a b
 ·have hx':(relabel scope X.env).names.lookup x = some .cell \/ (relabel scope X.env).names.lookup x = some .free:=hx;have go:scope.names.lookup x = some .cell \/ scope.names.lookup x = some .free:=by
   rcases hx' with q | q
   ·rcases zAc (scope:=scope) x q with z | z
    ·exact .inl z
    ·exact .inr z.1
   ·rcases zAc (scope:=scope) x q with z | z
    ·exact .inr z
    ·exact .inr z.1
  show ∃ c,(cellsFrom (s.heap.objs.size + 1 + 1) scope.names cl).lookup x = some c;rw [zAH,zBP];rcases go with q | q
  ·obtain ⟨c,e⟩:=own x q;exact ⟨c,by rw [e]⟩
  ·cases e:(cellsFrom (s.heap.objs.size + 1 + 1) scope.names []).lookup x with
   | some d=>exact ⟨d,rfl⟩
   | none=>exact Option.isSome_iff_exists.mp (c2 (x,.free) (zRI q) rfl)
 ·obtain ⟨d,e⟩:=own x (of_decide_eq_true hx);have h':(cellsFrom (s.heap.objs.size + 1 + 1) scope.names cl).lookup x = some c:=h;rw [zAH,zBP,e] at h';cases h';exact zQh (zQh (Nat.le_succ _) (Nat.le_succ _)) (new x _ e)
 ·exact zQb (Nat.lt_succ_of_lt (ho b hb))
 ·rcases look x c e with q | ⟨_,q⟩
  ·have a:=new x c q;rw [z] at a;exact absurd (Nat.lt_of_le_of_lt a (ho b hb)) (by omega)
  ·exact (hf b hb).2.2.2.2.1 x c q z
 ·rcases (hf b hb).2.2.2.1 with z | z
  ·exact I.ok.noex b o e z
  ·exact absurd (zQf (zQR e) (zQh I.ok.bsz z)) (zQy _)
 ·rcases zQS.mp (I.stkSub b z) with q | q
  ·exact (hf b hb).2.1 q
  ·exact (hf b hb).2.2.1 q
 ·have q:((s.heap.push lo).push { cls:=.type "dict", data:=.dict #[] }).Ns (s.heap.push lo).objs.size (fun _=>none):=Heap.Ns.new ..;rw [sz1] at q;exact q.keeps (pushCells_keeps _ _)
 ·have h3':(relabel scope X.env).names.lookup x ≠ none:=by
   rcases h3 with z | z | z <;> (intro q; have z':(relabel scope X.env).names.lookup x = _:=z; rw [q] at z'; cases z')
  obtain ⟨fr,hv⟩:=hσ i x v h1 h2 h3';obtain ⟨m,hn,hlk⟩:=I.loc;have kx:=S.free (x,.free) (zRI fr) rfl;obtain ⟨u,rv,lk⟩:=hlk i x v h1 hv (by rcases kx with z | z; exact .inr (.inl z); exact .inr (.inr z));refine ⟨u,rv,?_⟩;rcases lk with ⟨z,_⟩ | ⟨_,c,e,ic⟩
  ·rcases kx with k | k <;> (rw [k] at z; cases z)
  ·have kind:(relabel scope X.env).names.lookup x = some .cell \/ (relabel scope X.env).names.lookup x = some .free:=by
    cases q:(relabel scope X.env).names.lookup x with
    | none=>exact absurd q h3'
    | some k=>
     rcases zAc (scope:=scope) x q with z | z
     ·rw [fr] at z; cases z; exact .inr rfl
     ·rw [z.2]; exact .inl rfl
   refine .inr ⟨kind,c,?_,ic.keeps hk⟩;show (cellsFrom (s.heap.objs.size + 1 + 1) scope.names cl).lookup x = some c;rw [zAH,zBP];obtain ⟨d,hd⟩:=Option.isSome_iff_exists.mp (c2 (x,.free) (zRI fr) rfl);have:=c1 x d hd;rw [e] at this; cases this;have nn:(cellsFrom (s.heap.objs.size + 1 + 1) scope.names []).lookup x = none:=by
    cases q:(cellsFrom (s.heap.objs.size + 1 + 1) scope.names []).lookup x with
    | none=>rfl
    | some d'=>
     have z:=S.cells (x,.cell) (zEY scope.names _ [] x d' (zRI q) fun z=>nomatch z) rfl;rw [fr] at z; cases z
   rw [nn]; exact hd
 ·rcases look x c e with q | ⟨_,q⟩
  ·exact ⟨none,(ok.empty x c (zRI q)).1⟩
  ·obtain ⟨v,z⟩:=I.cell x c q;exact ⟨v,z.keeps hk⟩
 ·rcases look x c e with q | ⟨_,q⟩
  ·exact I.hok.fresh (by have:=new x c q; omega)
  ·exact I.freeC x c q
 ·have hp':p ∈ X.pn ++ zB \/ p = (s.heap.objs.size,lo):=by
   rcases zQg.mp hp with z | z
   ·exact .inl z
   ·exact .inr (by simpa using z)
  rcases hp' with z | z
  ·obtain ⟨e,n,ne,nf,d⟩:=I.pin p z;have lt:(p.1:Nat) < s.heap.objs.size:=zQR e;refine ⟨hk _ _ e,n,?_,fun q=>?_,d⟩
   ·exact zQb (Nat.lt_succ_of_lt lt)
   ·rcases zQS.mp (I.stkSub _ q) with r | r
    ·exact ne r
    ·exact nf r
  ·subst z;refine ⟨pushCells_keeps _ _ _ _ (zQH _ (zQQ _ hfr)),I.hok.fresh (zQM _),?_,fun q=>?_,hlo⟩
   ·show s.heap.objs.size ≠ s.heap.objs.size + 1;omega
   ·rcases zQS.mp (I.stkSub _ q) with r | r
    ·exact absurd I.lt (by rw [<- r]; exact zQy _)
    ·exact I.nofs (zQM _) r
end
def clr (own:List Nat) (σ:St):St:=own.foldl (fun σ i=>σ.set i none) σ
theorem zEW:∀ (own:List Nat) (σ:St),(clr own σ).length = σ.length
 | [],_=>rfl
 | i :: r,σ=>by
  show (clr r (σ.set i none)).length = _;rw [zEW r,List.length_set]
theorem zF4:∀ (own:List Nat) (σ:St) (j:Nat) (v:V),(clr own σ)[j]? = some (some v) -> σ[j]? = some (some v) /\ j ∉ own
 | [],_,_,_,h=>⟨h,fun z=>nomatch z⟩
 | i :: r,σ,j,v,h=>by
  have h':(clr r (σ.set i none))[j]? = some (some v):=h;obtain ⟨a,b⟩:=zF4 r _ j v h';rw [zRp] at a;split at a
  ·split at a <;> cases a
  ·rename_i hne;exact ⟨a,fun z=>(zQS.mp z).elim (fun e=>hne e.symm) b⟩
def Ext (a b:St):Prop:=b.length = a.length /\ ∀ (i:Nat) v,a[i]? = some (some v) -> b[i]? = some (some v)
theorem Ext.refl (a:St):Ext a a:=⟨rfl,fun _ _ h=>h⟩
theorem Ext.set (e:Ext (clr own σ) a) (h:i ∈ own):Ext (clr own σ) (a.set i (some v)):=by
 refine ⟨by rw [List.length_set]; exact e.1,fun j u q=>?_⟩;rw [zRp];split
 ·rename_i z;exact absurd (z ▸ h) (zF4 own σ j u q).2
 ·exact e.2 j u q
def zJw (X:Cx) (ifs:List Expr) (t:TT):Prop :=
 ∀ (zB:List (Addr × Obj)) (s:Shared) (σ:St) (H:Hp) (Q:Bool -> Hp -> Prop),Inv X zB σ H s -> t σ H Q ->
  wpAny (model X.prog X.w) X.A (forIn ifs true fun c r=>if r = true then do let ok <- isTrue c X.env (eval c X.env); pure (ForInStep.yield ok) else pure (ForInStep.yield r)) (TP X zB σ Q) X.xe s
def zPx:TT:=fun _ H Q=>Q true H
theorem zKR:zJw X [] zPx:=fun _ _ _ H _ I h=>wpAny_tests_nil ⟨H,I,h⟩
theorem zKh (h:PT X c t):zJw X [c] t:=fun zB s σ H Q I hq=>wpAny_tests_one (h zB s σ H Q I hq)
section
theorem zFy (I:Nat -> Shared -> Prop)
  (turn:∀ n s,I n s -> wpAny (model prog w) A (pyNext it) (fun r s₁=>match r with
   | none=>R (.ok .next) s₁
   | some v=>wpAny (model prog w) A (letOwnedTupleGo target it v) (fun _ s₁'=>wpAny (model prog w) A (assign target env v) (fun _ s₂=>
     wpAny (model prog w) A (forIn ifs true fun c r=>if r = true then do let ok <- isTrue c env (eval c env); pure (ForInStep.yield ok) else pure (ForInStep.yield r)) (fun ok s₃=>
      if ok = true then wpAny (model prog w) A (eval elt env) (fun x s₄=>
       wpAny (model prog w) A (call (.builtin "list.append") [acc,x]) (fun _ s₅=>∃ m,m < n /\ I m s₅) (fun _ _=>False) s₄) (fun _ _=>False) s₃
      else ∃ m,m < n /\ I m s₃) (fun _ _=>False) s₂) (fun _ _=>False) s₁') (fun _ _=>False) s₁) (fun _ _=>False) s)
  (n:Nat) (h:I n s) :
  codeAny (model prog w) A (.compLoop (.ListComp elt [⟨target,iter,ifs,0⟩] scope pos) 0 it acc env) R s:=by
 refine codeAny_loop rfl I (fun n s hI=>?_) n h;show wpAny _ A ((compTurn (.ListComp elt [⟨target,iter,ifs,0⟩] scope pos) 0 it acc env).onRaise (fun x=>do noteFrame x env; theTreesLotGoes x)) _ _ s;refine wpAny_noted ?_;rw [compTurn_list];refine zQG (wpAny_standAt (zQG (zQm (turn n s hI) (fun r s₁ h₁=>?_) fun _ _ h'=>h'.elim)));cases r with
 | none=>exact zQI h₁
 | some v=>
  refine zQG (zQm h₁ (fun _ s₁' h₁'=>?_) fun _ _ h'=>h'.elim);refine zQG (zQm h₁' (fun _ s₂ h₂=>zQG (zQm h₂ (fun ok s₃ h₃=>?_) fun _ _ h'=>h'.elim)) fun _ _ h'=>h'.elim);cases ok with
  | false=>exact zQI ⟨rfl,h₃⟩
  | true=>
   exact zQG (zQG (zQm h₃ (fun x s₄ h₄=>zQG (zQm h₄ (fun _ s₅ h₅=>zQI (zQI ⟨rfl,h₅⟩)) fun _ _ h'=>h'.elim)) fun _ _ h'=>h'.elim))
end
def zKy (own:List Nat) (wi:TI) (g:TG) (tc:TT) (te:TE):TE:=fun σ H Q=>wi σ H fun J H1=>∃ W:Nat -> Nat -> List V -> Hp -> Prop,(∃ m,W 0 m [] H1) /\ ∀ i m ys H,W i m ys H ->
 (J.stop i H /\ ys.length <= sizeLine /\ ∀ D,H D = none -> Q (.ref D) (upd H D (.lst ys))) \/
 (J.go i H /\ ∀ x H',J.yld i H x H' -> g x (clr own σ) H' fun σ2 H2=>Ext (clr own σ) σ2 /\ tc σ2 H2 fun b H3=>
  if b = true then te σ2 H3 fun v H4=>ys.length < sizeLine /\ ∃ m',m' < m /\ W (i + 1) m' (ys ++ [v]) H4 else ∃ m',m' < m /\ W (i + 1) m' ys H3)
abbrev zAg (its:List Value) (n:Nat):Obj:={ cls:=.type "list", data:=.seq its.toArray n }
section
theorem Inv.repin (I:Inv X (pl ++ [(D,o)]) σ H s) (hpl:∀ p ∈ X.pn ++ pl,p.1 ≠ D) (hs:Heap.SameBut D s.heap h') (hD:X.s₀.heap.objs.size <= D) (hc:∀ x c,X.env.cells.lookup x = some c -> c ≠ D)
  (e:h'.get? D = some o') (hn:∀ v,o'.data ≠ .cell v):Inv X (pl ++ [(D,o')]) σ H { s with heap:=h' }:=by
 obtain ⟨e0,n0,ne0,nf0,d0⟩:=I.pin (D,o) (by simp);have I1:Inv X pl σ H s:=I.pins_of fun p hp=>I.pin p (by simp [hp]);have I2:Inv X pl σ H { s with heap:=h' }:=I1.turned (t':=s.toks) (it:=D) (fun b u hb q=>hs.extBut b u hb q) n0 ne0 (.inr hD) hc hpl;exact I2.pins_of fun p hp=>by
  rcases zQg.mp hp with z | z
  ·exact I2.pin p (zQa _ z)
  ·have:p = (D,o'):=by simpa using z
   subst this;exact ⟨e,n0,ne0,nf0,hn⟩
end
section
variable {pos:Pos}
 {own:List Nat} {g:TG} {tc:TT} {te:TE} {E:Value -> Shared -> Prop}
structure CompIn (X:Cx) (scope:Scope) (own:List Nat):Prop where
 sc:CompScope X scope
 nm:∀ (i:Nat) x,X.N[i]? = some x -> i ∈ own \/ scope.names.lookup x = none \/ scope.names.lookup x = some .free
theorem zFx (x:Str) (h:scope.names.lookup x = none):(relabel scope env).names.lookup x = none:=by
 cases q:(relabel scope env).names.lookup x with
 | none=>rfl
 | some k=>
  rcases zAc (scope:=scope) x q with z | z
  ·rw [h] at z; cases z
  ·rw [h] at z; cases z.1
theorem zDv (C:CompIn X scope own) (hcalm:X.calm = true) (I:Inv X zB σ H s) (T:Turn X.prog X.w X.K tg J fp it tn) (st:tn 0 s.heap) (hf:∀ b ∈ fp,zBy X zB H b)
  (c1:∀ x c,cl.lookup x = some c -> X.env.cells.lookup x = some c) (c2:∀ y ∈ scope.names,y.2 = .free -> (cl.lookup y.1).isSome = true)
  (hg:PG (zAN X zB scope cl s H fp) tg g) (hi:zJw (zAN X zB scope cl s H fp) ifs tc) (he:PE (zAN X zB scope cl s H fp) elt te)
  {RR:Value -> Addr -> Result -> Shared -> Prop} {QQ:List V -> Hp -> Prop} {W:Nat -> Nat -> List V -> Hp -> Prop} {m0:Nat} (w0:W 0 m0 [] H)
  (turn:∀ i m ys H,W i m ys H -> (J.stop i H /\ ys.length <= sizeLine /\ QQ ys H) \/
   (J.go i H /\ ∀ x H',J.yld i H x H' -> g x (clr own σ) H' fun σ2 H2=>Ext (clr own σ) σ2 /\ tc σ2 H2 fun b H3=>
    if b = true then te σ2 H3 fun v H4=>ys.length < sizeLine /\ ∃ m',m' < m /\ W (i + 1) m' (ys ++ [v]) H4 else ∃ m',m' < m /\ W (i + 1) m' ys H3))
  (fin:∀ σc H' s' its n ys,Inv (zAN X zB scope cl s H fp) [(s.heap.objs.size,zAg its n)] σc H' s' -> zV ys its -> ys.length <= sizeLine -> QQ ys H' -> RR (.ref s.heap.objs.size) (s.heap.objs.size + 1) (.ok .next) s') :
  wpAny (model X.prog X.w) X.A (newList []) (fun acc s₃=>wpAny (model X.prog X.w) X.A (newFunctionEnv scope X.env.globals cl [] X.env.qual none .none (some X.env)) (fun cenv s₄=>
   codeAny (model X.prog X.w) X.A (.compStart (.ListComp elt [⟨tg,iter,ifs,0⟩] scope pos) 0 (.ref it) acc { cenv with scope:=relabel scope X.env }) (RR acc cenv.locals) s₄) E s₃) E s:=by
 have ob:∀ b:Nat,b ∈ fp -> b < s.heap.objs.size:=fun b hb=>let ⟨_,e,_⟩:=T.obj 0 _ st b hb; zQR e;refine wpAny_newObj_type (zHF ?_);have sz1:(s.heap.push (zAg [] 0)).objs.size = s.heap.objs.size + 1:=zQw ..;have I4:=zKX (X:=X) (zB:=zB) (σ:=σ) (σc:=clr own σ) (H:=H) (s:=s) (scope:=scope) (cl:=cl) (fp:=fp) C.sc I hf ob c1 c2 (zEW own σ) (fun i x v h1 h2 h3=>by
  obtain ⟨a,b⟩:=zF4 own σ i v h2;rcases C.nm i x h1 with z | z | z
  ·exact absurd z b
  ·exact absurd (zFx x z) h3
  ·exact ⟨z,a⟩) (zAg [] 0) (by intro v z; cases z) rfl rfl
 have st4:tn 0 (pushCells ((s.heap.push (zAg [] 0)).push { cls:=.type "dict", data:=.dict #[] }) scope.names):=T.keep 0 _ _ st fun b _ o e=>pushCells_keeps _ _ b o (zQH _ (zQH _ e));unfold newEnv;rw [sz1];have hDfp:s.heap.objs.size ∉ fp:=fun z=>zQy _ (ob _ z);have hcD:∀ x c,(zAN X zB scope cl s H fp).env.cells.lookup x = some c -> c ≠ s.heap.objs.size:=fun x c e z=>by
  obtain ⟨v,o,ho,hd⟩:=I4.cell x c e;obtain ⟨q,_⟩:=I4.pin (s.heap.objs.size,zAg [] 0) (by simp);rw [z,q] at ho;cases ho; cases hd
 have fpk:∀ {H':Hp} {pl:List (Addr × Obj)},(∀ b ∈ fp,H' b = none) -> (∀ p ∈ pl,p.1 = s.heap.objs.size) -> ∀ b ∈ fp,zBy (zAN X zB scope cl s H fp) pl H' b:=fun {H' pl} hn hp b hb=>
  ⟨hn b hb,(I4.ok.exf b hb).1,I4.ok.exfs b hb,.inl hb,(I4.ok.exf b hb).2,fun p hq=>by
   rcases zQg.mp hq with z | z
   ·exact (hf b hb).2.2.2.2.2 p z
   ·intro e;have e2:=hp p z;rw [e] at e2;exact hDfp (e2 ▸ hb)⟩
 have loop:codeAny (model X.prog X.w) X.A (.compLoop (.ListComp elt [⟨tg,iter,ifs,0⟩] scope pos) 0 (.ref it) (.ref s.heap.objs.size) (zAN X zB scope cl s H fp).env) (RR (.ref s.heap.objs.size) (s.heap.objs.size + 1))
   { s with heap:=pushCells ((s.heap.push (zAg [] 0)).push { cls:=.type "dict", data:=.dict #[] }) scope.names }:=by
  refine zFy (fun n s'=>∃ i H' ys its k,Inv (zAN X zB scope cl s H fp) [(s.heap.objs.size,zAg its k)] (clr own σ) H' s' /\ zV ys its /\ tn i s'.heap /\ (∀ b ∈ fp,H' b = none) /\ W i n ys H') ?_ m0
   ⟨0,H,[],[],0,I4,.nil,st4,fun b hb=>(hf b hb).1,w0⟩
  rintro n s5 ⟨i,H5,ys,its,k,I5,r5,st5,f5,w5⟩;have pinD:∀ p ∈ [(s.heap.objs.size,zAg its k)],p.1 = s.heap.objs.size:=fun p hp=>by
   have:p = (s.heap.objs.size,zAg its k):=by simpa using hp
   rw [this]
  rcases turn i n ys H5 w5 with ⟨stop,hz,qq⟩ | ⟨go,step⟩
  ·refine thn (T.done (zAN X zB scope cl s H fp) rfl rfl rfl hcalm i _ s5 _ H5 _ I5 (fpk f5 pinD) st5 stop) fun r s6 ⟨hr,I6⟩=>?_;subst hr;exact fin _ H5 s6 its k ys I6 r5 hz qq
  ·refine thn (T.item (zAN X zB scope cl s H fp) rfl rfl rfl hcalm i _ s5 _ H5 _ I5 (fpk f5 pinD) st5 go) fun r s6 ⟨u,hr,h6⟩=>?_;subst hr;refine thn h6 fun _ s7 ⟨x,H7,I7,r7,y7,st7,f7⟩=>?_;have I7':=I7.pinned (fpk f7 pinD) (T.obj _ _ st7);refine thn (hg _ s7 _ H7 x u _ I7' r7 (step x H7 y7)) fun _ s8 ⟨σ8,H8,I8,x8,q8⟩=>?_;refine thn (hi _ s8 σ8 H8 _ I8 q8) fun ok s9 ⟨H9,I9,q9⟩=>?_;have back:∀ {s':Shared} {Hx:Hp},Inv (zAN X zB scope cl s H fp) ([(s.heap.objs.size,zAg its k)] ++ zDw fp s7.heap) σ8 Hx s' -> tn (i + 1) s'.heap /\ ∀ b ∈ fp,Hx b = none:=fun {s' Hx} Ix=>
    ⟨T.keep _ _ _ st7 fun b hb o e=>(Ix.pin (b,o) (zQa _ (zQa _ (zB2 hb e)))).1,fun b hb=>by
     obtain ⟨o,e,d⟩:=T.obj _ _ st7 b hb;exact (Ix.pin (b,o) (zQa _ (zQa _ (zB2 hb e)))).2.1⟩
   cases ok with
   | false=>
    obtain ⟨m',hm,w'⟩:=q9;obtain ⟨b1,b2⟩:=back I9;exact ⟨m',hm,i + 1,H9,ys,its,k,(I9.weak (by rw [x8.1]) x8.2).unpinned,r5,b1,b2,w'⟩
   | true=>
    refine thn (he _ s9 σ8 H9 _ I9 q9) fun v s10 ⟨y,H10,I10,r10,hlt,m',hm,w'⟩=>?_;obtain ⟨b1,b2⟩:=back I10;have J10:=(I10.weak (by rw [x8.1]) x8.2).unpinned;obtain ⟨e10,n10,ne10,nf10,d10⟩:=J10.pin (s.heap.objs.size,zAg its k) (by simp);have hlen:its.toArray.size <= sizeLine:=by
     have:=r5.length;rw [zQO,<- this];exact Nat.le_of_lt hlt
    refine wpAny_list_append_plain (hsz:=hlen) (show s10.heap.PlainList s.heap.objs.size its.toArray from ⟨k,e10⟩) fun h' hl' hs'=>?_;obtain ⟨k',e'⟩:=hl';have e'':h'.get? s.heap.objs.size = some (zAg (its ++ [v]) k'):=by rw [e']; simp [zAg]
    refine ⟨m',hm,i + 1,H10,ys ++ [y],its ++ [v],k',?_,r5.append (.cons r10 .nil),T.keep _ _ _ b1 fun b hb o e=>hs'.extBut b o (fun z=>hDfp (z ▸ hb)) e,b2,w'⟩;refine Inv.repin (pl:=[]) J10 (fun p hp=>?_) hs' (zQM _) hcD e'' (by intro v z; cases z);rw [zQ0] at hp;have hp':p ∈ X.pn ++ zB:=hp;exact zQb (zQR (I.pin p hp').1)
 exact codeAny_compStart_list loop (T.self _ 0 _ _ _ st4 loop)
end
section
theorem zGq (I:Inv X zB σ H s) (hf:∀ b ∈ fp,zBy X zB H b)
  (Ic:Inv (zAN X zB scope cl s H fp) [(s.heap.objs.size,zAg its n)] σc H' s') (rv:zV ys its) (hz:ys.length <= sizeLine) (hs:Heap.SameBut (s.heap.objs.size + 1) s'.heap h') :
  Inv X zB σ (upd H' s.heap.objs.size (.lst ys)) { s' with heap:=h' } /\ H' s.heap.objs.size = none:=by
 obtain ⟨eD,nD,_⟩:=Ic.pin (s.heap.objs.size,zAg its n) (by simp);have nC:H' (s.heap.objs.size + 1) = none:=Ic.free;have eD':h'.get? s.heap.objs.size = some (zAg its n):=hs.extBut _ _ (zQb (Nat.lt_succ_self _)) eD;have lt1:∀ {b:Addr} {o:Obj},s.heap.get? b = some o -> b ≠ s.heap.objs.size + 1 /\ b ≠ s.heap.objs.size:=fun e=>⟨zQb (Nat.lt_succ_of_lt (zQR e)),zQb (zQR e)⟩;have tr:∀ b u,H' b = some u -> b ≠ s.heap.objs.size + 1 /\ b ≠ s.heap.objs.size:=fun b u e=>⟨fun z=>(by rw [z,nC] at e; cases e),fun z=>(by rw [z,nD] at e; cases e)⟩;refine ⟨?_,nD⟩;have B:=Ic.base;have un:Un (frs X.stack) fp H (upd H' s.heap.objs.size (.lst ys)) s.heap h':=by
  refine ⟨fun b o e q hb hx=>hs.extBut b o (lt1 e).1 (B.keep b o e q hb hx),fun b o e q hb hx=>?_,fun b o e q hx=>?_,fun b o e hx=>?_,fun b xs e=>?_,fun b o xs e=>?_,fun b ps e=>?_⟩
  ·obtain ⟨sl,e1⟩:=B.slot b o e q hb hx;exact ⟨sl,hs.extBut b _ (lt1 e).1 e1⟩
  ·rw [zO (lt1 e).2]; exact B.free b o e q hx
  ·obtain ⟨o',e1⟩:=B.there b o e hx;exact ⟨o',hs.extBut b _ (lt1 e).1 e1⟩
  ·have q:=B.tups b xs e;rw [zO (tr b _ q).2]; exact q
  ·have q:=B.frzs b o xs e;rw [zO (tr b _ q).2]; exact q
  ·obtain ⟨more,q⟩:=B.tbls b ps e;exact ⟨more,by rw [zO (tr b _ q).2]; exact q⟩
 have hok:HOk X.prog X.w (upd H' s.heap.objs.size (.lst ys)) h':=fun b u e=>by
  by_cases hb:b = s.heap.objs.size
  ·subst hb;rw [zm] at e; cases e;exact ⟨hz,its,n,rv,eD'⟩
  ·rw [zO hb] at e;refine (Ic.hok b u e).stay (fun c v hc q=>hs.extBut c v ?_ q) (fun c q=>by rw [zO (tr c _ q).2]; exact q) fun c xs q=>by rw [zO (tr c _ q).2]; exact q
   rcases hc with z | z
   ·rw [z]; exact (tr b u e).1
   ·exact (tr c _ z).1
 exact I.call' (s':={ s' with heap:=h' }) (ch:=fp) Ic.os un hok Ic.bare fun b hb=>⟨(hf b hb).2.2.2.1,(hf b hb).2.1,(hf b hb).2.2.2.2.1,(hf b hb).2.2.2.2.2⟩
end
section
structure CompParts (X:Cx) (scope:Scope) (tg:Expr) (ifs:List Expr) (elt:Expr) (g:TG) (tc:TT) (te:TE):Prop where
 g:∀ zB cl s H fp,PG (zAN X zB scope cl s H fp) tg g
 c:∀ zB cl s H fp,zJw (zAN X zB scope cl s H fp) ifs tc
 e:∀ zB cl s H fp,PE (zAN X zB scope cl s H fp) elt te
theorem CompScope.closure (S:CompScope X scope) (I:Inv X zB σ H s) :
  ∃ cl,closureFor scope X.env = pure cl /\ (∀ x c,cl.lookup x = some c -> X.env.cells.lookup x = some c) /\ ∀ y ∈ scope.names,y.2 = .free -> (cl.lookup y.1).isSome = true :=
 zEt fun y hy hk=>I.ok.has y.1 (S.free y hy hk)
theorem zLz (C:CompIn X scope own) (hcalm:X.calm = true) (hi:PI X tg iter wi) (p:CompParts X scope tg ifs elt g tc te) (hs:∀ x,foldedSetIterable iter X.env x = pure x:=by intro _; rfl) :
  PE X (.ListComp elt [⟨tg,iter,ifs,0⟩] scope pos) (zKy own wi g tc te):=by
 intro zB s σ H Q I h;obtain ⟨cl,hcl,c1,c2⟩:=C.sc.closure I;rw [eval_ListComp];refine wpAny_comprehension_free (use:=none) rfl hs hcl C.sc.kind C.sc.names (thn (hi zB s σ H _ I h) fun v s1 h1=>thn h1 fun itv s2 h2=>?_);obtain ⟨it,fp,tn,J,H2,e,I2,T,st2,f2,W,⟨m0,w0⟩,turn⟩:=h2;subst e;refine zDv C hcalm I2 T st2 f2 c1 c2 (p.g _ _ _ _ _) (p.c _ _ _ _ _) (p.e _ _ _ _ _) (RR:=fun acc C r s'=>compPost (model X.prog X.w) X.A X.xe none (EP X zB σ Q) acc C r s') (QQ:=fun ys H=>∀ D,H D = none -> Q (.ref D) (upd H D (.lst ys))) w0 turn ?_;intro σc H' s' its n ys Ic rv hz qq;obtain ⟨m,hn,_⟩:=Ic.loc;refine ⟨m,hn,fun h' hs'=>?_⟩;obtain ⟨J',nD⟩:=zGq I2 f2 Ic rv hz hs';exact ⟨.ref s2.heap.objs.size,_,J',rfl,qq _ nD⟩
theorem zH9 (hN:X.N.Nodup) (hi':X.N[i]? = some x) (hx:Loc X.env.scope x) (hfn:X.fn x = true \/ X.env.scope.names.lookup x = some .local)
  (C:CompIn X scope own) (hcalm:X.calm = true) (hi:PI X tg iter wi) (p:CompParts X scope tg ifs elt g tc te)
  (hsw:swapsWith (.ListComp elt [⟨tg,iter,ifs,0⟩] scope pos) (some (.Name x pos')) pos''.line X.env = pure true) (hs:∀ x,foldedSetIterable iter X.env x = pure x:=by intro _; rfl) :
  PS X (.Assign [.Name x pos'] (.ListComp elt [⟨tg,iter,ifs,0⟩] scope pos) pos'') (zLt (zKy own wi g tc te) (zCd i)):=by
 intro zB s σ H D I h;obtain ⟨cl,hcl,c1,c2⟩:=C.sc.closure I;rw [exec_Assign_Name_used _ _ _ _ hsw];refine zQG (wpAny_standAt (zQG ?_))
 refine zQG (zQm (wpAny_comprehension_free (use:=some (assign (.Name x pos') X.env)) (Q:=fun _ s'=>SP X zB D .next s') rfl hs hcl C.sc.kind C.sc.names
  (thn (hi zB s σ H _ I h) fun v s1 h1=>thn h1 fun itv s2 h2=>?_)) (fun _ s' hq=>zQI (zQI hq)) fun _ _ e=>e)
 obtain ⟨it,fp,tn,J,H2,e,I2,T,st2,f2,W,⟨m0,w0⟩,turn⟩:=h2;subst e
 refine zDv C hcalm I2 T st2 f2 c1 c2 (p.g _ _ _ _ _) (p.c _ _ _ _ _) (p.e _ _ _ _ _) (RR:=fun acc C r s'=>compPost (model X.prog X.w) X.A X.xe (some (assign (.Name x pos') X.env)) (fun _ s'=>SP X zB D .next s') acc C r s')
  (QQ:=fun ys H=>∀ E,H E = none -> zCd i (.ref E) σ (upd H E (.lst ys)) D.nx) w0 turn ?_
 intro σc H' s' its n ys Ic rv hz qq;obtain ⟨m,hn,_⟩:=Ic.loc;obtain ⟨J',nD⟩:=zGq (h':=s'.heap) I2 f2 Ic rv hz (.refl ..);obtain ⟨oC,es,ep,hoC,hdC,r1,r2⟩:=id hn;have nC:upd H' s2.heap.objs.size (.lst ys) (s2.heap.objs.size + 1) = none:=by rw [zO (zRl (Nat.lt_succ_self _))]; exact Ic.free
 have K':Inv X (zB ++ [(s2.heap.objs.size + 1,oC)]) σ (upd H' s2.heap.objs.size (.lst ys)) s':=J'.pins_of fun q hq=>by
  rcases zQg.mp hq with z | z
  ·exact J'.pin q (zQa _ z)
  ·have e:q = (s2.heap.objs.size + 1,oC):=by simpa using z
   subst e;refine ⟨hoC,nC,zRl (Nat.lt_succ_of_lt I2.lt),I2.nofs (Nat.le_succ _),fun v z=>?_⟩;have z':oC.data = .cell v:=z;rw [hdC] at z'; cases z'
 refine thn (zIH hN hi' hx hfn _ s' σ _ (.ref s2.heap.objs.size) (.ref s2.heap.objs.size) _ K' rfl (qq _ nD)) fun _ s'' ⟨σ'',H'',I'',q''⟩=>?_;obtain ⟨eC,_⟩:=I''.pin (s2.heap.objs.size + 1,oC) (by simp);refine ⟨m,⟨oC,es,ep,eC,hdC,r1,r2⟩,fun h' hs'=>⟨σ'',H'',?_,q''⟩⟩;have I3:Inv X zB σ'' H'' s'':=I''.unpinned;obtain ⟨_,nC'',neC,_,_⟩:=I''.pin (s2.heap.objs.size + 1,oC) (by simp);refine I3.turned (t':=s''.toks) (it:=s2.heap.objs.size + 1) (fun b o hb e=>hs'.extBut b o hb e) nC'' neC (.inr (zQh I2.sz (Nat.le_succ _))) (fun x c e z=>?_) (fun q hq z=>?_)
 ·obtain ⟨v,o,ho,hd⟩:=I3.cell x c e;rw [z,eC] at ho; cases ho;rw [hdC] at hd; cases hd
 ·obtain ⟨e,_⟩:=I2.pin q hq;exact zQb (Nat.lt_succ_of_lt (zQR e)) z
end
end L2
namespace L3
open PySem PySem.Spec PyProof.Rows L2
abbrev Sv:=List (Option V)
set_option genInjectivity true in
inductive D where
 | non | bl (b:Bool) | int (i:Int) | str (x:Str) | tup (xs:List D) | ref (n:Nat)
set_option genInjectivity true in
inductive MO where
 | lst (xs:List D) | fro (xs:List D) | dict (kvs:List (D × D)) | dicT (kvs:List (D × D)) | set (xs:List D) | froT (kvs:List (D × D)) | froK (kvs:List (D × D))
mutual
def Rep (L:List Addr) (H:Hp):D -> V -> Prop
 | .non,v=>v = .non
 | .bl b,v=>v = .bl b
 | .int i,v=>v = .int i
 | .str x,v=>v = .str x
 | .tup ds,v=>∃ a vs,v = .ref a /\ H a = some (.tup vs) /\ zJ L H ds vs
 | .ref n,v=>∃ a,v = .ref a /\ L[n]? = some a
def zJ (L:List Addr) (H:Hp):List D -> List V -> Prop
 | [],vs=>vs = []
 | d :: ds,vs=>∃ v r,vs = v :: r /\ Rep L H d v /\ zJ L H ds r
end
theorem zJ.length:∀ {ds:List D} {vs:List V},zJ L H ds vs -> vs.length = ds.length
 | [],_,h=>by unfold zJ at h; subst h; rfl
 | d :: ds,_,h=>by
  unfold zJ at h;obtain ⟨v,r,rfl,_,h2⟩:=h;simp [zJ.length h2]
theorem zJ.nil:zJ L H [] []:=by unfold zJ; rfl
theorem zJ.cons (h:Rep L H d v) (t:zJ L H ds vs):zJ L H (d :: ds) (v :: vs):=by
 unfold zJ; exact ⟨v,vs,rfl,h,t⟩
theorem zJ.get:∀ {ds:List D} {vs:List V} {i:Nat} {d:D},zJ L H ds vs -> ds[i]? = some d -> ∃ v,vs[i]? = some v /\ Rep L H d v
 | [],_,_,_,_,e=>by simp at e
 | d :: ds,_,0,d',h,e=>by
  unfold zJ at h;obtain ⟨v,r,rfl,h1,h2⟩:=h;simp at e; subst e;exact ⟨v,rfl,h1⟩
 | d :: ds,_,i + 1,d',h,e=>by
  unfold zJ at h;obtain ⟨v,r,rfl,h1,h2⟩:=h;obtain ⟨u,e1,e2⟩:=zJ.get (i:=i) h2 (by simpa using e);exact ⟨u,by simpa using e1,e2⟩
theorem zJ.app:∀ {ds es:List D} {vs ws:List V},zJ L H ds vs -> zJ L H es ws -> zJ L H (ds ++ es) (vs ++ ws)
 | [],_,_,_,h,t=>by unfold zJ at h; subst h; exact t
 | d :: ds,_,_,_,h,t=>by
  unfold zJ at h;obtain ⟨v,r,rfl,h1,h2⟩:=h;exact .cons h1 (zJ.app h2 t)
theorem zJ.set (h:Rep L H d v):∀ {ds:List D} {vs:List V} (i:Nat),zJ L H ds vs -> zJ L H (ds.set i d) (vs.set i v)
 | [],_,_,t=>by unfold zJ at t; subst t; exact .nil
 | _ :: _,_,0,t=>by
  unfold zJ at t;obtain ⟨v',r,rfl,h1,h2⟩:=t;exact .cons h h2
 | _ :: _,_,i + 1,t=>by
  unfold zJ at t;obtain ⟨v',r,rfl,h1,h2⟩:=t;exact .cons h1 (zJ.set h i h2)
theorem zJ.drop:∀ {ds:List D} {vs:List V} (n:Nat),zJ L H ds vs -> zJ L H (ds.drop n) (vs.drop n)
 | _,_,0,t=>t
 | [],_,n + 1,t=>by unfold zJ at t; subst t; exact .nil
 | _ :: _,_,n + 1,t=>by
  unfold zJ at t;obtain ⟨v',r,rfl,h1,h2⟩:=t;exact zJ.drop n h2
theorem zJ.take:∀ {ds:List D} {vs:List V} (n:Nat),zJ L H ds vs -> zJ L H (ds.take n) (vs.take n)
 | _,_,0,t=> .nil
 | [],_,n + 1,t=>by unfold zJ at t; subst t; exact .nil
 | _ :: _,_,n + 1,t=>by
  unfold zJ at t;obtain ⟨v',r,rfl,h1,h2⟩:=t;exact .cons h1 (zJ.take n h2)
theorem zJ.eraseIdx:∀ {ds:List D} {vs:List V} (n:Nat),zJ L H ds vs -> zJ L H (ds.eraseIdx n) (vs.eraseIdx n)
 | [],_,n,t=>by unfold zJ at t; subst t; exact .nil
 | _ :: _,_,0,t=>by
  unfold zJ at t;obtain ⟨v',r,rfl,h1,h2⟩:=t;exact h2
 | _ :: _,_,n + 1,t=>by
  unfold zJ at t;obtain ⟨v',r,rfl,h1,h2⟩:=t;exact .cons h1 (zJ.eraseIdx n h2)
structure Stp (L:List Addr) (H:Hp) (L':List Addr) (H':Hp):Prop where
 pre:∃ N,L' = L ++ N
 new:∀ a ∈ L',a ∈ L \/ H a = none
 old:∀ a o,H a = some o -> a ∉ L -> H' a = some o
 tup:∀ a xs,H a = some (.tup xs) -> H' a = some (.tup xs)
 frz:∀ a o u,H a = some (.frz o u) -> H' a = some (.frz o u)
theorem Stp.refl (L:List Addr) (H:Hp):Stp L H L H:=⟨⟨[],by simp⟩,fun _ h=> .inl h,fun _ _ h _=>h,fun _ _ h=>h,fun _ _ _ h=>h⟩
theorem Stp.trans (a:Stp L H L1 H1) (b:Stp L1 H1 L2 H2):Stp L H L2 H2:=by
 obtain ⟨N,rfl⟩:=a.pre;obtain ⟨N',rfl⟩:=b.pre;have back:∀ c,c ∉ L -> H1 c = none -> H c = none:=fun c hc h1=>by
  cases q:H c with
  | none=>rfl
  | some o=>rw [a.old c o q hc] at h1; cases h1
 refine ⟨⟨N ++ N',by simp⟩,fun c hc=>?_,fun c o e hc=>?_,fun c xs e=>b.tup c xs (a.tup c xs e),fun c o u e=>b.frz c o u (a.frz c o u e)⟩
 ·by_cases hL:c ∈ L
  ·exact .inl hL
  ·rcases b.new c hc with z | z
   ·exact a.new c z
   ·exact .inr (back c hL z)
 ·refine b.old c o (a.old c o e hc) fun z=>?_;rcases a.new c z with q | q
  ·exact hc q
  ·rw [q] at e; cases e
theorem Stp.grow (h:∀ a o,H a = some o -> H' a = some o):Stp L H L H':=⟨⟨[],by simp⟩,fun _ h=> .inl h,fun a o e _=>h a o e,fun a _ e=>h a _ e,fun a _ _ e=>h a _ e⟩
theorem Stp.upd (h:H p = none):Stp L H L (upd H p o):=.grow fun a u e=>by rw [zO (zd e h)]; exact e
theorem zBw {L N:List Addr} {n:Nat} {a:Addr} (h:L[n]? = some a):(L ++ N)[n]? = some a:=by
 rw [zQN (zQJ.mp h).1]; exact h
mutual
theorem Rep.stp {L L':List Addr} {H H':Hp} (s:Stp L H L' H'):∀ {d:D} {v:V},Rep L H d v -> Rep L' H' d v
 | .non,_,h=>by unfold Rep at h ⊢; exact h
 | .bl _,_,h=>by unfold Rep at h ⊢; exact h
 | .int _,_,h=>by unfold Rep at h ⊢; exact h
 | .str _,_,h=>by unfold Rep at h ⊢; exact h
 | .tup ds,_,h=>by
  unfold Rep at h ⊢;obtain ⟨a,vs,rfl,e,r⟩:=h;exact ⟨a,vs,rfl,s.tup a vs e,zJ.stp s r⟩
 | .ref n,_,h=>by
  unfold Rep at h ⊢;obtain ⟨a,rfl,e⟩:=h;obtain ⟨N,rfl⟩:=s.pre;exact ⟨a,rfl,zBw e⟩
theorem zJ.stp (s:Stp L H L' H'):∀ {ds:List D} {vs:List V},zJ L H ds vs -> zJ L' H' ds vs
 | [],_,h=>by unfold zJ at h ⊢; exact h
 | d :: ds,_,h=>by
  unfold zJ at h ⊢;obtain ⟨v,r,rfl,h1,h2⟩:=h;exact ⟨v,r,rfl,Rep.stp s h1,zJ.stp s h2⟩
end
def zBL:D -> Option Key
 | .int i=>some (.inl i)
 | .str x=>some (.inr x)
 | _=>none
def zEF:List D -> Option (List Key)
 | []=>some []
 | d :: r=>match zBL d,zEF r with
  | some k,some ks=>some (k :: ks)
  | _,_=>none
def tkD:D -> Option (List Key)
 | .tup ds=>zEF ds
 | _=>none
def zAP {κ:Type} (kf:D -> Option κ) (L:List Addr) (H:Hp):List (D × D) -> List (κ × V) -> Prop
 | [],vs=>vs = []
 | p :: r,vs=>∃ k v r',vs = (k,v) :: r' /\ kf p.1 = some k /\ Rep L H p.2 v /\ zAP kf L H r r'
theorem zAP.stp {κ:Type} {kf:D -> Option κ} {L L':List Addr} {H H':Hp} (s:Stp L H L' H'):∀ {ps:List (D × D)} {vs:List (κ × V)},zAP kf L H ps vs -> zAP kf L' H' ps vs
 | [],_,h=>h
 | p :: r,_,h=>by
  obtain ⟨k,v,r',rfl,e,h1,h2⟩:=h;exact ⟨k,v,r',rfl,e,h1.stp s,zAP.stp s h2⟩
theorem zAP.length {κ:Type} {kf:D -> Option κ} {L:List Addr} {H:Hp}:∀ {ps:List (D × D)} {vs:List (κ × V)},zAP kf L H ps vs -> vs.length = ps.length
 | [],_,h=>by unfold zAP at h; subst h; rfl
 | p :: r,_,h=>by
  obtain ⟨k,v,r',rfl,e,h1,h2⟩:=h;simp [zAP.length h2]
def zEZ (K:PySem.W.Frag) (L:List Addr) (H:Hp) (a:Addr):MO -> Prop
 | .lst xs=>∃ vs,H a = some (.lst vs) /\ zJ L H xs vs
 | .fro xs=>∃ o vs,H a = some (.frz o (.lst vs)) /\ zJ L H xs vs
 | .dict ps=>∃ vs,H a = some (.dK vs) /\ zAP zBL L H ps vs
 | .dicT ps=>∃ vs,H a = some (.dT vs) /\ zAP tkD L H ps vs
 | .set _=>∃ o u,H a = some (.frz o u)
 | .froT ps=>∃ o vs,H a = some (.frz o (.dT vs)) /\ zAP tkD L H ps vs
 | .froK ps=>∃ o vs,H a = some (.frz o (.dK vs)) /\ zAP zBL L H ps vs
theorem zEZ.there {K:PySem.W.Frag} {L:List Addr} {H:Hp} {a:Addr} {m:MO} (h:zEZ K L H a m):∃ o,H a = some o:=by
 cases m with
 | lst xs=>obtain ⟨vs,e,_⟩:=h; exact ⟨_,e⟩
 | fro xs=>obtain ⟨o,vs,e,_⟩:=h; exact ⟨_,e⟩
 | dict ps=>obtain ⟨vs,e,_⟩:=h; exact ⟨_,e⟩
 | dicT ps=>obtain ⟨vs,e,_⟩:=h; exact ⟨_,e⟩
 | set _=>obtain ⟨o,u,e⟩:=h; exact ⟨_,e⟩
 | froT ps=>obtain ⟨o,vs,e,_⟩:=h; exact ⟨_,e⟩
 | froK ps=>obtain ⟨o,vs,e,_⟩:=h; exact ⟨_,e⟩
theorem zEZ.stp {K:PySem.W.Frag} {L L':List Addr} {H H':Hp} {a:Addr} {m:MO} (s:Stp L H L' H') (hk:∀ o,H a = some o -> H' a = some o) (h:zEZ K L H a m):zEZ K L' H' a m:=by
 cases m with
 | lst xs=>obtain ⟨vs,e,r⟩:=h; exact ⟨vs,hk _ e,r.stp s⟩
 | fro xs=>obtain ⟨o,vs,e,r⟩:=h; exact ⟨o,vs,hk _ e,r.stp s⟩
 | dict ps=>obtain ⟨vs,e,r⟩:=h; exact ⟨vs,hk _ e,r.stp s⟩
 | dicT ps=>obtain ⟨vs,e,r⟩:=h; exact ⟨vs,hk _ e,r.stp s⟩
 | set _=>obtain ⟨o,u,e⟩:=h; exact ⟨o,u,hk _ e⟩
 | froT ps=>obtain ⟨o,vs,e,r⟩:=h; exact ⟨o,vs,hk _ e,r.stp s⟩
 | froK ps=>obtain ⟨o,vs,e,r⟩:=h; exact ⟨o,vs,hk _ e,r.stp s⟩
structure Cor (K:PySem.W.Frag) (L:List Addr) (M:List MO) (H:Hp):Prop where
 len:L.length = M.length
 nd:L.Nodup
 obj:∀ (n:Nat) a m,L[n]? = some a -> M[n]? = some m -> zEZ K L H a m
def zAv (L:List Addr) (H:Hp) (σ:List (Option D)) (τ:Sv):Prop:=τ.length = σ.length /\ ∀ (i:Nat) d,σ[i]? = some (some d) -> ∃ v,τ[i]? = some (some v) /\ Rep L H d v
theorem zAv.stp (s:Stp L H L' H') (h:zAv L H σ τ):zAv L' H' σ τ :=
 ⟨h.1,fun i d e=>let ⟨v,e1,r⟩:=h.2 i d e; ⟨v,e1,r.stp s⟩⟩
theorem Cor.tracked {K:PySem.W.Frag} {L:List Addr} {M:List MO} {H:Hp} (c:Cor K L M H) {a:Addr} (h:a ∈ L):∃ o,H a = some o:=by
 obtain ⟨n,hn⟩:=List.getElem?_of_mem h;have hl:n < M.length:=by rw [<- c.len]; exact (zQJ.mp hn).1
 have m:=c.obj n a M[n] hn (zQK hl);exact m.there
theorem Cor.grow {K:PySem.W.Frag} {L:List Addr} {M:List MO} {H H':Hp} (c:Cor K L M H) (h:∀ a o,H a = some o -> H' a = some o):Cor K L M H':=by
 exact ⟨c.len,c.nd,fun n a m e1 e2=>(c.obj n a m e1 e2).stp (.grow h) fun o e=>h a o e⟩
theorem Cor.upd {K:PySem.W.Frag} {L:List Addr} {M:List MO} {H:Hp} {p:Addr} {o:HO} (c:Cor K L M H) (h:H p = none):Cor K L M (upd H p o):=c.grow fun a u e=>by rw [zO (zd e h)]; exact e
theorem Cor.write {K:PySem.W.Frag} {L:List Addr} {M:List MO} {H:Hp} {n:Nat} {p:Addr} {xs xs':List D} {vs':List V} (c:Cor K L M H) (h1:L[n]? = some p) (h2:M[n]? = some (.lst xs)) (r:zJ L H xs' vs') :
  Cor K L (M.set n (.lst xs')) (L2.upd H p (.lst vs')) /\ Stp L H L (L2.upd H p (.lst vs')):=by
 obtain ⟨vs,hp,_⟩:=c.obj n p _ h1 h2;have st:Stp L H L (L2.upd H p (.lst vs')):=by
  refine ⟨⟨[],by simp⟩,fun a ha=> .inl ha,fun a o e ha=>?_,fun a o e=>?_,fun a o u e=>?_⟩
  ·rw [zO (show a ≠ p from fun z=>ha (by rw [z]; exact zQ7 h1))]; exact e
  ·rw [zO (zFC e hp (by intro z; cases z))]; exact e
  ·rw [zO (zFC e hp (by intro z; cases z))]; exact e
 refine ⟨⟨by simp [c.len],c.nd,fun k a m e1 e2=>?_⟩,st⟩;rw [zRp] at e2;split at e2
 ·rename_i hk;subst hk;rw [h1] at e1; cases e1;split at e2
  ·cases e2; exact ⟨vs',zm,r.stp st⟩
  ·cases e2
 ·rename_i hk;have hne:a ≠ p:=fun z=>hk (by
   subst z;exact (List.getElem?_inj (zQJ.mp h1).1 c.nd).mp (h1.trans e1.symm))
  exact (c.obj k a m e1 e2).stp st fun o e=>by rw [zO hne]; exact e
set_option genInjectivity true in
inductive EV where
 | dat (d:D) | fl (xs:List D)
def za (H0:Hp) (L:List Addr) (H:Hp):EV -> V -> Prop
 | .dat d,v=>Rep L H d v
 | .fl xs,v=>∃ p vs,v = .ref p /\ H0 p = none /\ H p = some (.lst vs) /\ p ∉ L /\ zJ L H xs vs
abbrev Sd:=List (Option D)
abbrev Mem:=List MO
abbrev FE:=Sd -> Mem -> Option (EV × Mem)
abbrev FD:=Sd -> Mem -> Option (D × Mem)
abbrev FT:=Sd -> Mem -> Option (Bool × Mem)
abbrev FA:=Sd -> Mem -> Option (List D × Mem)
theorem Stp.out (s:Stp L H L' H') (h:H p = some o) (hp:p ∉ L):p ∉ L':=fun z=>by
 rcases s.new p z with q | q
 ·exact hp q
 ·rw [h] at q; cases q
theorem za.stp (s:Stp L H L' H') (h:za H0 L H e v):za H0 L' H' e v:=by
 cases e with
 | dat d=>exact Rep.stp s h
 | fl xs=>
  obtain ⟨p,vs,rfl,e0,e1,e2,r⟩:=h;exact ⟨p,vs,rfl,e0,s.old p _ e1 e2,s.out e1 e2,r.stp s⟩
theorem za.back {H0 H1:Hp} {L0 L1 L:List Addr} {H:Hp} (s:Stp L0 H0 L1 H1) {M:List MO} {K:PySem.W.Frag} (c:Cor K L0 M H0) {e:EV} {v:V} (h:za H1 L H e v) (hL:∀ a ∈ L1,a ∈ L):za H0 L H e v:=by
 cases e with
 | dat d=>exact h
 | fl xs=>
  obtain ⟨p,vs,rfl,e0,e1,e2,r⟩:=h;refine ⟨p,vs,rfl,?_,e1,e2,r⟩;cases q:H0 p with
  | none=>rfl
  | some o=>
   by_cases hp:p ∈ L0
   ·obtain ⟨N,hN⟩:=s.pre;exact absurd (hL p (by rw [hN]; exact zRV _ hp)) e2
   ·rw [s.old p o q hp] at e0; cases e0
section
variable (K:PySem.W.Frag)
def trE (f:FE):TE:=fun τ H Q=>∃ L σ M d M',Cor K L M H /\ zAv L H σ τ /\ f σ M = some (d,M') /\ ∀ L' H' v,Stp L H L' H' -> Cor K L' M' H' -> za H L' H' d v -> Q v H'
def trD (f:FD):TE:=fun τ H Q=>∃ L σ M d M',Cor K L M H /\ zAv L H σ τ /\ f σ M = some (d,M') /\ ∀ L' H' v,Stp L H L' H' -> Cor K L' M' H' -> Rep L' H' d v -> Q v H'
def trT (f:FT):TT:=fun τ H Q=>∃ L σ M d M',Cor K L M H /\ zAv L H σ τ /\ f σ M = some (d,M') /\ ∀ L' H',Stp L H L' H' -> Cor K L' M' H' -> Q d H'
def trA (f:FA):TA:=fun τ H Q=>∃ L σ M ds M',Cor K L M H /\ zAv L H σ τ /\ f σ M = some (ds,M') /\ ∀ L' H' vs,Stp L H L' H' -> Cor K L' M' H' -> zJ L' H' ds vs -> Q vs H'
end
section
theorem PE.imp (h:PE X e t) (hi:∀ τ H Q,t' τ H Q -> t τ H Q):PE X e t':=fun zB s σ H Q I q=>h zB s σ H Q I (hi _ _ _ q)
theorem PT.imp (h:PT X e t) (hi:∀ τ H Q,t' τ H Q -> t τ H Q):PT X e t':=fun zB s σ H Q I q=>h zB s σ H Q I (hi _ _ _ q)
theorem PS.imp {st:Stmt} {t t':TS} (h:PS X st t) (hi:∀ D τ H,t' D τ H -> t D τ H):PS X st t':=fun zB s σ H D I q=>h zB s σ H D I (hi _ _ _ q)
theorem PSs.imp {st:List Stmt} {t t':TS} (h:PSs X st t) (hi:∀ D τ H,t' D τ H -> t D τ H):PSs X st t':=fun zB s σ H D I q=>h zB s σ H D I (hi _ _ _ q)
structure QE (X:Cx) (e:Expr) (f:FE):Prop where
 un:PE X e (trE X.K f)
structure QD (X:Cx) (e:Expr) (f:FD):Prop where
 un:PE X e (trD X.K f)
structure QT (X:Cx) (e:Expr) (f:FT):Prop where
 un:PT X e (trT X.K f)
structure QA (X:Cx) (es:List Expr) (f:FA):Prop where
 un:PA X es (trA X.K f)
def toD (f:FE):FD:=fun σ M=>match f σ M with
 | some (.dat d,M')=>some (d,M')
 | some (.fl xs,M')=>some (.ref M'.length,M' ++ [.lst xs])
 | none=>none
mutual
theorem Rep.more (N:List Addr):∀ {d:D} {v:V},Rep L H d v -> Rep (L ++ N) H d v
 | .non,_,h=>by unfold Rep at h ⊢; exact h
 | .bl _,_,h=>by unfold Rep at h ⊢; exact h
 | .int _,_,h=>by unfold Rep at h ⊢; exact h
 | .str _,_,h=>by unfold Rep at h ⊢; exact h
 | .tup ds,_,h=>by
  unfold Rep at h ⊢;obtain ⟨a,vs,rfl,e,r⟩:=h;exact ⟨a,vs,rfl,e,zJ.more N r⟩
 | .ref n,_,h=>by
  unfold Rep at h ⊢;obtain ⟨a,rfl,e⟩:=h;exact ⟨a,rfl,zBw e⟩
theorem zJ.more (N:List Addr):∀ {ds:List D} {vs:List V},zJ L H ds vs -> zJ (L ++ N) H ds vs
 | [],_,h=>by unfold zJ at h ⊢; exact h
 | d :: ds,_,h=>by
  unfold zJ at h ⊢;obtain ⟨v,r,rfl,h1,h2⟩:=h;exact ⟨v,r,rfl,Rep.more N h1,zJ.more N h2⟩
end
theorem zAP.more {κ:Type} {kf:D -> Option κ} {L:List Addr} {H:Hp} (N:List Addr):∀ {ps:List (D × D)} {vs:List (κ × V)},zAP kf L H ps vs -> zAP kf (L ++ N) H ps vs
 | [],_,h=>h
 | p :: r,_,h=>by
  obtain ⟨k,v,r',rfl,e,h1,h2⟩:=h;exact ⟨k,v,r',rfl,e,h1.more N,zAP.more N h2⟩
theorem zEZ.more {K:PySem.W.Frag} {L:List Addr} {H:Hp} {a:Addr} {m:MO} (N:List Addr) (h:zEZ K L H a m):zEZ K (L ++ N) H a m:=by
 cases m with
 | lst xs=>obtain ⟨vs,e,r⟩:=h; exact ⟨vs,e,r.more N⟩
 | fro xs=>obtain ⟨o,vs,e,r⟩:=h; exact ⟨o,vs,e,r.more N⟩
 | dict ps=>obtain ⟨vs,e,r⟩:=h; exact ⟨vs,e,r.more N⟩
 | dicT ps=>obtain ⟨vs,e,r⟩:=h; exact ⟨vs,e,r.more N⟩
 | set _=>exact h
 | froT ps=>obtain ⟨o,vs,e,r⟩:=h; exact ⟨o,vs,e,r.more N⟩
 | froK ps=>obtain ⟨o,vs,e,r⟩:=h; exact ⟨o,vs,e,r.more N⟩
theorem zM4 {K:PySem.W.Frag} {L L':List Addr} {M':List MO} {H H':Hp} {p:Addr} {xs:List D} {vs:List V} (s:Stp L H L' H') (c:Cor K L' M' H') (h0:H p = none) (h1:H' p = some (.lst vs)) (h2:p ∉ L') (r:zJ L' H' xs vs) :
  Cor K (L' ++ [p]) (M' ++ [.lst xs]) H' /\ Stp L H (L' ++ [p]) H':=by
 refine ⟨⟨by simp [c.len],?_,fun n a m e1 e2=>?_⟩,?_⟩
 ·rw [List.nodup_append];exact ⟨c.nd,by simp,fun a ha b hb z=>by
   have:b = p:=by simpa using hb
   subst this; subst z; exact h2 ha⟩
 ·by_cases hn:n < L'.length
  ·rw [zQN hn] at e1;rw [zQN (by rw [<- c.len]; exact hn)] at e2;exact (c.obj n a m e1 e2).more [p]
  ·have hn':n = L'.length:=by
    have:=(zQJ.mp e1).1;rw [zQW] at this;simp at this; omega
   subst hn';simp at e1;rw [c.len] at e2;simp at e2;subst e1; subst e2;exact ⟨vs,h1,r.more [p]⟩
 ·obtain ⟨N,hN⟩:=s.pre;refine ⟨⟨N ++ [p],by rw [hN]; simp⟩,fun a ha=>?_,s.old,s.tup,s.frz⟩;rcases zQg.mp ha with z | z
  ·exact s.new a z
  ·have:a = p:=by simpa using z
   subst this; exact .inr h0
theorem Rep.last {L:List Addr} {M:List MO} {H:Hp} {K:PySem.W.Frag} {p:Addr} (c:Cor K L M H):Rep (L ++ [p]) H (.ref M.length) (.ref p):=by
 unfold Rep;exact ⟨p,rfl,by rw [<- c.len]; simp⟩
theorem zBI {f:FE} (h:QE X e f):QD X e (toD f):=.mk <| PE.imp h.un fun τ H Q zz=>by
 obtain ⟨L,σ,M,d,M',c,rs,hf,q⟩:=zz;unfold toD at hf;split at hf
 ·rename_i d' M1 e1;cases hf;exact ⟨L,σ,M,_,_,c,rs,e1,fun L' H' v s c' r=>q L' H' v s c' r⟩
 ·rename_i xs M1 e1;cases hf;refine ⟨L,σ,M,_,_,c,rs,e1,fun L' H' v s c' r=>?_⟩;obtain ⟨p,vs,rfl,e0,e2,e3,r⟩:=r;obtain ⟨c2,s2⟩:=zM4 s c' e0 e2 e3 r;exact q _ H' _ s2 c2 (Rep.last c')
 ·cases hf
def zC (i:Nat):FE:=fun σ M=>match σ[i]? with
 | some (some d)=>some (.dat d,M)
 | _=>none
theorem zBF (h:PE X (.Name x pos) (zNt i)):QE X (.Name x pos) (zC i):=.mk <| PE.imp h fun τ H Q zz=>by
 obtain ⟨L,σ,M,d,M',c,rs,hf,q⟩:=zz;unfold zC at hf;split at hf
 ·rename_i d' e1;cases hf;obtain ⟨v,e2,r⟩:=rs.2 i d' e1;exact ⟨v,e2,q L H v (.refl L H) c r⟩
 ·cases hf
def fC (d:D):FE:=fun _ M=>some (.dat d,M)
theorem zFg (hd:∀ L H,Rep L H d v) (h:PE X e (tC v)):QE X e (fC d):=.mk <| PE.imp h fun τ H Q zz=>by
 obtain ⟨L,σ,M,d',M',c,rs,hf,q⟩:=zz;unfold fC at hf;cases hf;exact q L H v (.refl L H) c (hd L H)
theorem zPe {i j pos}:QE X (.Constant (.int i) j pos) (fC (.int i)):=zFg (fun _ _=>by unfold Rep; rfl) zN9
theorem zOZ {b j pos}:QE X (.Constant (.bool b) j pos) (fC (.bl b)):=zFg (fun _ _=>by unfold Rep; rfl) zOc
theorem zO8 {x j pos}:QE X (.Constant (.str x) j pos) (fC (.str x)):=zFg (fun _ _=>by unfold Rep; rfl) zNR
def zH:FA:=fun _ M=>some ([],M)
def zD (f:FD) (g:FA):FA:=fun σ M=>match f σ M with
 | some (d,M1)=>match g σ M1 with
  | some (ds,M2)=>some (d :: ds,M2)
  | none=>none
 | none=>none
theorem PA.imp (h:PA X es t) (hi:∀ τ H Q,t' τ H Q -> t τ H Q):PA X es t':=fun pos zB s σ H Q I q=>h pos zB s σ H Q I (hi _ _ _ q)
theorem zHn:QA X [] zH:=.mk <| PA.imp zD2 fun τ H Q zz=>by
 obtain ⟨L,σ,M,d,M',c,rs,hf,q⟩:=zz;unfold zH at hf;cases hf;exact q L H [] (.refl L H) c .nil
theorem zC4 (h1:QD X e f) (h2:QA X es g) (hs:starEach (e :: es) X.env = (false,eval e X.env) :: starEach es X.env:=by rfl):QA X (e :: es) (zD f g) :=
 .mk <| PA.imp (zCU h1.un h2.un hs) fun τ H Q zz=>by
  obtain ⟨L,σ,M,d,M',c,rs,hf,q⟩:=zz;unfold zD at hf;split at hf
  ·rename_i d1 M1 e1;split at hf
   ·rename_i ds M2 e2;cases hf;refine ⟨L,σ,M,_,_,c,rs,e1,fun L1 H1 v s1 c1 r1=>⟨L1,σ,M1,_,_,c1,rs.stp s1,e2,fun L2 H2 vs s2 c2 r2=>?_⟩⟩;exact q L2 H2 _ (s1.trans s2) c2 (.cons (r1.stp s2) r2)
   ·cases hf
  ·cases hf
def zAs (g:FA):FE:=fun σ M=>match g σ M with
 | some (ds,M1)=>if ds.length <= sizeLine then some (.dat (.tup ds),M1) else none
 | none=>none
def zBA (g:FA):FE:=fun σ M=>match g σ M with
 | some (ds,M1)=>if ds.length <= sizeLine then some (.fl ds,M1) else none
 | none=>none
theorem Rep.newTup (h:H p = none) (r:zJ L H ds vs):Rep L (upd H p (.tup vs)) (.tup ds) (.ref p):=by
 unfold Rep;exact ⟨p,vs,rfl,zm,r.stp (.upd h)⟩
theorem zPT {x1 pos} (h:QA X es g):QE X (.Tuple es x1 pos) (zAs g):=.mk <| PE.imp (zNQ h.un) fun τ H Q zz=>by
 obtain ⟨L,σ,M,d,M',c,rs,hf,q⟩:=zz;unfold zAs at hf;split at hf
 ·rename_i ds M1 e1;split at hf
  ·rename_i hz;cases hf;refine ⟨L,σ,M,_,_,c,rs,e1,fun L1 H1 vs s1 c1 r1=>⟨by rw [r1.length]; exact hz,fun p hp=>?_⟩⟩;exact q L1 _ _ (s1.trans (.upd hp)) (c1.upd hp) (Rep.newTup hp r1)
  ·cases hf
 ·cases hf
theorem zEv {L L1:List Addr} {H H1:Hp} {K:PySem.W.Frag} {M M1:List MO} (s:Stp L H L1 H1) (c:Cor K L M H) (c1:Cor K L1 M1 H1) {p:Addr} (hp:H1 p = none):H p = none /\ p ∉ L1:=by
 have hp1:p ∉ L1:=fun z=>by obtain ⟨o,e⟩:=c1.tracked z; rw [hp] at e; cases e
 refine ⟨?_,hp1⟩;cases q:H p with
 | none=>rfl
 | some o=>
  have:p ∉ L:=fun z=>hp1 (by obtain ⟨N,hN⟩:=s.pre; rw [hN]; exact zRV _ z);rw [s.old p o q this] at hp; cases hp
theorem za.newLst {L L1:List Addr} {H H1:Hp} {K:PySem.W.Frag} {M M1:List MO} {p:Addr} {ds:List D} {vs:List V} (s:Stp L H L1 H1) (c:Cor K L M H) (c1:Cor K L1 M1 H1) (hp:H1 p = none) (r:zJ L1 H1 ds vs) :
  za H L1 (upd H1 p (.lst vs)) (.fl ds) (.ref p):=by
 obtain ⟨a,b⟩:=zEv s c c1 hp;exact ⟨p,vs,rfl,a,zm,b,r.stp (.upd hp)⟩
theorem zPF {pos} (h:QA X es g):QE X (.List es pos) (zBA g):=.mk <| PE.imp (zNv h.un) fun τ H Q zz=>by
 obtain ⟨L,σ,M,d,M',c,rs,hf,q⟩:=zz;unfold zBA at hf;split at hf
 ·rename_i ds M1 e1;split at hf
  ·rename_i hz;cases hf;refine ⟨L,σ,M,_,_,c,rs,e1,fun L1 H1 vs s1 c1 r1=>⟨by rw [r1.length]; exact hz,fun p hp=>?_⟩⟩;exact q L1 _ _ (s1.trans (.upd hp)) (c1.upd hp) (za.newLst s1 c c1 hp r1)
  ·cases hf
 ·cases hf
end
abbrev FAE:=Sd -> Mem -> Option (List EV × Mem)
def zBX (H0:Hp) (L:List Addr) (H:Hp):List EV -> List V -> Prop
 | [],vs=>vs = []
 | e :: es,vs=>∃ v r,vs = v :: r /\ za H0 L H e v /\ zBX H0 L H es r
theorem Stp.sub (s:Stp L H L' H'):∀ a ∈ L,a ∈ L':=fun a h=>by
 obtain ⟨N,hN⟩:=s.pre;rw [hN]; exact zRV _ h
theorem zBX.back {H0 H1:Hp} {L0 L1 L:List Addr} {H:Hp} (s:Stp L0 H0 L1 H1) {M:List MO} {K:PySem.W.Frag} (c:Cor K L0 M H0) (hL:∀ a ∈ L1,a ∈ L):∀ {es:List EV} {vs:List V},zBX H1 L H es vs -> zBX H0 L H es vs
 | [],_,h=>h
 | e :: es,_,h=>by
  obtain ⟨v,r,rfl,h1,h2⟩:=h;exact ⟨v,r,rfl,h1.back s c hL,zBX.back s c hL h2⟩
def zPY (K:PySem.W.Frag) (f:FAE):TA:=fun τ H Q=>∃ L σ M ds M',Cor K L M H /\ zAv L H σ τ /\ f σ M = some (ds,M') /\ ∀ L' H' vs,Stp L H L' H' -> Cor K L' M' H' -> zBX H L' H' ds vs -> Q vs H'
structure QAE (X:Cx) (es:List Expr) (f:FAE):Prop where
 un:PA X es (zPY X.K f)
section
def zh:FAE:=fun _ M=>some ([],M)
def zQ (f:FE) (g:FAE):FAE:=fun σ M=>match f σ M with
 | some (d,M1)=>match g σ M1 with
  | some (ds,M2)=>some (d :: ds,M2)
  | none=>none
 | none=>none
theorem zGC:QAE X [] zh:=.mk <| PA.imp zD2 fun τ H Q zz=>by
 obtain ⟨L,σ,M,d,M',c,rs,hf,q⟩:=zz;unfold zh at hf;cases hf;exact q L H [] (.refl L H) c rfl
theorem zDt (h1:QE X e f) (h2:QAE X es g) (hs:starEach (e :: es) X.env = (false,eval e X.env) :: starEach es X.env:=by rfl):QAE X (e :: es) (zQ f g) :=
 .mk <| PA.imp (zCU h1.un h2.un hs) fun τ H Q zz=>by
  obtain ⟨L,σ,M,d,M',c,rs,hf,q⟩:=zz;unfold zQ at hf;split at hf
  ·rename_i d1 M1 e1;split at hf
   ·rename_i ds M2 e2;cases hf;refine ⟨L,σ,M,_,_,c,rs,e1,fun L1 H1 v s1 c1 r1=>⟨L1,σ,M1,_,_,c1,rs.stp s1,e2,fun L2 H2 vs s2 c2 r2=>?_⟩⟩;exact q L2 H2 _ (s1.trans s2) c2 ⟨v,vs,rfl,r1.stp s2,r2.back s1 c s2.sub⟩
   ·cases hf
  ·cases hf
abbrev K2:=EV -> EV -> Mem -> Option (EV × Mem)
def zBz (K:PySem.W.Frag) (r:R2) (k:K2):Prop:=∀ {L:List Addr} {M M':Mem} {H H0:Hp} {x y d:EV} {v w:V} {Q:VK},Cor K L M H -> za H0 L H x v -> za H0 L H y w -> k x y M = some (d,M') ->
 (∀ L' H' u,Stp L H L' H' -> Cor K L' M' H' -> za H L' H' d u -> Q u H') -> r v w H Q
def fOp (k:K2) (f g:FE):FE:=fun σ M=>match f σ M with
 | some (x,M1)=>match g σ M1 with
  | some (y,M2)=>k x y M2
  | none=>none
 | none=>none
theorem zCQ {K:PySem.W.Frag} {r:R2} {k:K2} {f g:FE} (hk:zBz K r k) {τ:Sv} {H:Hp} {Q:VK} (h:trE K (fOp k f g) τ H Q):tOp r (trE K f) (trE K g) τ H Q:=by
 obtain ⟨L,σ,M,d,M',c,rs,hf,q⟩:=h;unfold fOp at hf;split at hf
 ·rename_i x M1 e1;split at hf
  ·rename_i y M2 e2;refine ⟨L,σ,M,_,_,c,rs,e1,fun L1 H1 v s1 c1 r1=>⟨L1,σ,M1,_,_,c1,rs.stp s1,e2,fun L2 H2 w s2 c2 r2=>?_⟩⟩;refine hk (H0:=H) c2 (r1.stp s2) (r2.back s1 c s2.sub) hf fun L3 H3 u s3 c3 r3=>?_;exact q L3 H3 u ((s1.trans s2).trans s3) c3 (r3.back (s1.trans s2) c s3.sub)
  ·cases hf
 ·cases hf
theorem zGZ (hk:zBz X.K r k) (ho:OpR X (binaryOp op) r) (h1:QE X a f) (h2:QE X b g):QE X (.BinOp a op b pos) (fOp k f g):=.mk <| PE.imp (zOh ho h1.un h2.un) fun _ _ _ h=>zCQ hk h
theorem zO7 (hk:zBz X.K r k) (ho:OpR X (compareOp op) r) (h1:QE X a f) (h2:QE X b g) (hm:behindInMarks op b = false):QE X (.Compare a [op] [b] pos) (fOp k f g) :=
 .mk <| PE.imp (zMK ho h1.un h2.un hm) fun _ _ _ h=>zCQ hk h
def tst (f:FE):FT:=fun σ M=>match f σ M with
 | some (.dat (.bl c),M')=>some (c,M')
 | _=>none
theorem zDY {K:PySem.W.Frag} {f:FE} {τ:Sv} {H:Hp} {Q:Bool -> Hp -> Prop} (h:trT K (tst f) τ H Q):zIh (trE K f) τ H Q:=by
 obtain ⟨L,σ,M,d,M',c,rs,hf,q⟩:=h;unfold tst at hf;split at hf
 ·rename_i k M1 e1;cases hf;refine ⟨L,σ,M,_,_,c,rs,e1,fun L1 H1 v s1 c1 r1=>?_⟩;have:v = .bl d:=by unfold za Rep at r1; exact r1
  exact ⟨d,this,q L1 H1 s1 c1⟩
 ·cases hf
theorem zEN (h:∀ τ H Q,t τ H Q -> t' τ H Q) (q:zIh t τ H Q):zIh t' τ H Q:=h _ _ _ q
theorem zCf {op:CmpOp} {r:R2} {k:K2} {f g:FE} (hk:zBz X.K r k) (ho:OpR X (compareOp op) r) (h1:QE X a f) (h2:QE X b g) (hm:behindInMarks op b = false):QT X (.Compare a [op] [b] pos) (tst (fOp k f g)) :=
 .mk <| PT.imp (zMJ ho h1.un h2.un hm) fun _ _ _ h=>zEN (fun _ _ _ z=>zCQ hk z) (zDY h)
theorem zGF (h:QE X e f) (he:∀ whole,isTrue e X.env whole = (do let v <- whole; standAt e.pos; holding [v] (truthy v)):=by intro _; rfl):QT X e (tst f) :=
 .mk <| PT.imp (zNK h.un he) fun _ _ _ h=>zDY h
def kI (C:Int -> Int -> Bool) (g:Int -> Int -> D):K2:=fun x y M=>match x,y with
 | .dat (.int i),.dat (.int j)=>if C i j then some (.dat (g i j),M) else none
 | _,_=>none
def kI0 (g:Int -> Int -> D):K2:=kI (fun _ _=>true) g
theorem zGX {K:PySem.W.Frag} {C:Int -> Int -> Bool} {C':Int -> Int -> Prop} {g:Int -> Int -> D} {g':Int -> Int -> V} (hC:∀ i j,C i j = true -> C' i j) (hg:∀ L H i j,Rep L H (g i j) (g' i j)):zBz K (rI C' g') (kI C g):=by
 intro L M M' H H0 x y d v w Q c rx ry hk q;unfold kI at hk;split at hk
 ·rename_i i j;split at hk
  ·rename_i hc;cases hk;refine ⟨i,j,by unfold za Rep at rx; exact rx,by unfold za Rep at ry; exact ry,hC i j hc,q L H _ (.refl L H) c (hg L H i j)⟩
  ·cases hk
 ·cases hk
theorem zET {K:PySem.W.Frag} {g:Int -> Int -> D} {g':Int -> Int -> V} (hg:∀ L H i j,Rep L H (g i j) (g' i j)):zBz K (rI0 g') (kI0 g):=by
 intro L M M' H H0 x y d v w Q c rx ry hk q;obtain ⟨i,j,h1,h2,_,h4⟩:=zGX (C:=fun _ _=>true) (C':=fun _ _=>True) (fun _ _ _=>trivial) hg c rx ry hk q;exact ⟨i,j,h1,h2,h4⟩
theorem zAb:Rep L H (.int i) (.int i):=by unfold Rep; rfl
theorem zBg:Rep L H (.bl i) (.bl i):=by unfold Rep; rfl
def zJO (i j:Int):Bool:=(decide (-(2 ^ 64) < i) && decide (i < 2 ^ 64)) || (decide (-(2 ^ 64) < j) && decide (j < 2 ^ 64))
abbrev zPt:K2:=kI0 fun i j=> .int (i + j)
abbrev zHj:K2:=kI0 fun i j=> .int (i - j)
abbrev zHy:K2:=kI zJO fun i j=> .int (i * j)
abbrev zB0:K2:=kI (fun _ j=>decide (0 < j)) fun i j=> .int (i % j)
abbrev zH4:K2:=kI (fun _ j=>decide (0 < j) && decide (j < 1073741824)) fun i j=> .int (i / j)
abbrev zIw:K2:=kI (fun i j=>decide (0 <= j) && decide (j <= 1000000) && decide (i.natAbs < 2 ^ 64)) fun i j=> .int (i ^ j.toNat)
abbrev kLt:K2:=kI0 fun i j=> .bl (decide (i < j))
abbrev kLe:K2:=kI0 fun i j=> .bl (decide (i <= j))
abbrev kGe:K2:=kI0 fun i j=> .bl (decide (j <= i))
section
theorem zOv (h1:QE X a f) (h2:QE X b g):QE X (.BinOp a .Sub b pos) (fOp zHj f g):=zGZ (zET fun _ _ _ _=>zAb) zN8 h1 h2
theorem zOe (h1:QE X a f) (h2:QE X b g):QE X (.BinOp a .Mult b pos) (fOp zHy f g):=zGZ (zGX (fun i j h=>by
 unfold zJO at h;simp only [Bool.or_eq_true,zQq,zRT] at h;exact h) fun _ _ _ _=>zAb) zNU h1 h2
theorem zPd (h1:QE X a f) (h2:QE X b g):QE X (.BinOp a .Mod b pos) (fOp zB0 f g):=zGZ (zGX (fun i j h=>of_decide_eq_true h) fun _ _ _ _=>zAb) zNy h1 h2
theorem zPV (h1:QE X a f) (h2:QE X b g):QE X (.BinOp a .FloorDiv b pos) (fOp zH4 f g):=zGZ (zGX (fun i j h=>by
 simp only [zQq,zRT] at h;exact h) fun _ _ _ _=>zAb) zMj h1 h2
theorem zOU (h1:QE X a f) (h2:QE X b g):QE X (.BinOp a .Pow b pos) (fOp zIw f g):=zGZ (zGX (fun i j h=>by
 simp only [zQq,zRT] at h;exact ⟨h.1.1,h.1.2,h.2⟩) fun _ _ _ _=>zAb) zOA h1 h2
theorem zPO (h1:QE X a f) (h2:QE X b g):QT X (.Compare a [.Lt] [b] pos) (tst (fOp kLt f g)):=zCf (zET fun _ _ _ _=>zBg) zPC h1 h2 (zDa _)
theorem zPA (h1:QE X a f) (h2:QE X b g):QT X (.Compare a [.LtE] [b] pos) (tst (fOp kLe f g)):=zCf (zET fun _ _ _ _=>zBg) zOb h1 h2 (zDa _)
theorem zPX (h1:QE X a f) (h2:QE X b g):QT X (.Compare a [.GtE] [b] pos) (tst (fOp kGe f g)):=zCf (zET fun _ _ _ _=>zBg) zOm h1 h2 (zDa _)
end
end
def zAO (M:Mem):EV -> Option (List D)
 | .fl xs=>some xs
 | .dat (.ref n)=>match M[n]? with
  | some (.lst xs)=>some xs
  | some (.fro xs)=>some xs
  | _=>none
 | _=>none
def zA8:EV -> Option (List D)
 | .dat (.tup xs)=>some xs
 | _=>none
def zf (M:Mem) (x:EV):Option (List D):=match zA8 x with
 | some xs=>some xs
 | none=>zAO M x
theorem zAV {K:PySem.W.Frag} {L:List Addr} {M:Mem} {H H0:Hp} {x:EV} {v:V} {xs:List D} (c:Cor K L M H) (r:za H0 L H x v) (h:zAO M x = some xs):∃ a vs,v = .ref a /\ Rd H a (.lst vs) /\ zJ L H xs vs:=by
 cases x with
 | fl ys=>
  cases h;obtain ⟨p,vs,rfl,_,e,_,r⟩:=r;exact ⟨p,vs,rfl,.inl e,r⟩
 | dat d=>
  cases d with
  | ref n=>
   unfold za Rep at r;obtain ⟨a,rfl,e⟩:=r;unfold zAO at h;dsimp only at h;cases q:M[n]? with
   | none=>rw [q] at h; cases h
   | some m=>
    rw [q] at h;have z:=c.obj n a m e q;cases m with
    | lst ys=>cases h; obtain ⟨vs,e1,r1⟩:=z; exact ⟨a,vs,rfl,.inl e1,r1⟩
    | fro ys=>cases h; obtain ⟨o,vs,e1,r1⟩:=z; exact ⟨a,vs,rfl,.inr ⟨o,e1⟩,r1⟩
    | dict _=>cases h
    | dicT _=>cases h
    | set _=>cases h
    | froT _=>cases h
    | froK _=>cases h
  | _=>cases h
theorem zA4 {L:List Addr} {H H0:Hp} {x:EV} {v:V} {xs:List D} (r:za H0 L H x v) (h:zA8 x = some xs):∃ a vs,v = .ref a /\ H a = some (.tup vs) /\ zJ L H xs vs:=by
 cases x with
 | fl ys=>cases h
 | dat d=>
  cases d with
  | tup ys=>cases h; unfold za Rep at r; exact r
  | _=>cases h
theorem zDq {K:PySem.W.Frag} {L:List Addr} {M:Mem} {H H0:Hp} {x:EV} {v:V} {xs:List D} (c:Cor K L M H) (r:za H0 L H x v) (h:zf M x = some xs):∃ a vs,v = .ref a /\ (SqL K H a vs \/ SqT K H a vs) /\ zJ L H xs vs:=by
 unfold zf at h;cases q:zA8 x with
 | some ys=>
  rw [q] at h; cases h;obtain ⟨a,vs,e,h1,h2⟩:=zA4 r q;exact ⟨a,vs,e,.inr (.of h1),h2⟩
 | none=>
  rw [q] at h;obtain ⟨a,vs,e,h1,h2⟩:=zAV c r h;exact ⟨a,vs,e,.inl (.inl h1),h2⟩
theorem zND {L:List Addr} {H:Hp} {xs:List D} {vs:List V} {i:Int} {d:D} (r:zJ L H xs vs) (h:atI xs i = some d):∃ v,atI vs i = some v /\ Rep L H d v:=by
 unfold atI at h ⊢;rw [r.length];cases q:ixN xs.length i with
 | none=>rw [q] at h; cases h
 | some j=>rw [q] at h; exact r.get h
theorem zL9 {L:List Addr} {H:Hp} {i:Str}:Rep L H (.str i) (.str i):=by unfold Rep; rfl
def kIx:K2:=fun x y M=>match y with
 | .dat (.int i)=>match zf M x with
  | some xs=>match atI xs i with
   | some d=>some (.dat d,M)
   | none=>none
  | none=>match x with
   | .dat (.str z)=>if z.length <= sizeLine then match atI z.cps.toList i with
     | some c=>some (.dat (.str ⟨#[c]⟩),M)
     | none=>none
    else none
   | _=>none
 | _=>none
theorem zOR {K:PySem.W.Frag}:zBz K (rIx K) kIx:=by
 intro L M M' H H0 x y d v w Q c rx ry hk q;unfold kIx at hk;split at hk
 ·rename_i i;have ew:w = .int i:=by unfold za Rep at ry; exact ry
  split at hk
  ·rename_i xs e1;split at hk
   ·rename_i d' e2;cases hk;obtain ⟨a,vs,rfl,hs,r⟩:=zDq c rx e1;obtain ⟨u,e3,r3⟩:=zND r e2;rcases hs with hs | hs
    ·exact .inl ⟨a,vs,i,u,rfl,ew,hs,e3,q L H u (.refl L H) c r3⟩
    ·exact .inr (.inl ⟨a,vs,i,u,rfl,ew,hs,e3,q L H u (.refl L H) c r3⟩)
   ·cases hk
  ·split at hk
   ·rename_i z _;split at hk
    ·rename_i hz;split at hk
     ·rename_i ch e2;cases hk;have ev:v = .str z:=by unfold za Rep at rx; exact rx
      exact .inr (.inr ⟨z,i,ch,ev,ew,hz,e2,q L H _ (.refl L H) c (zL9 (L:=L) (H:=H))⟩)
     ·cases hk
    ·cases hk
   ·cases hk
 ·cases hk
section
theorem zHW {t sl:Addr} {items:Array Value} {vl vu:Value} {lo hi:Option Int} {Q:Value -> Shared -> Prop} (T:IsTup s.heap t items) (S:s.heap.IsSliceOf sl vl vu .none) (pl:IsPart vl lo) (pu:IsPart vu hi)
  (h1:HT.sIx items.size 0 lo = 0) (h2:HT.sIx items.size items.size hi = items.size) (h:Q (.ref t) s):wpAny (model prog w) A (getItem (.ref t) (.ref sl)) Q E s:=by
 obtain ⟨o,O,C,G⟩:=id S;have TS:s.TypeIs (.ref sl) "slice" := ⟨o,O,C⟩;unfold getItem;try with_reducible refine zQ9 ?_
 first | refine zQG (zQI ?_) | skip
 refine zQG (wpAny_sequenceKey T.typeIs (by decide) ?_);refine zQG (zQs (name:=Str.ofString "__getitem__") T.typeIs zRo (zQt zRo T.typeIs entry_tuple_getitem ?_ (args_tuple_getitem _ _)));refine zQG (m:=Builtin.Tuple.tupleItemsOf (.ref t)) (tupleItemsOf_ T (zQG (wpAny_typeOf TS ?_)));rw [zQV (by decide)];refine zQG (HT.zBj S pl pu ?_);rw [h1,h2];show wpAny _ _ (if ((((0:Nat):Int) == 0 && (1:Int) == 1 && (items.size - 0) == items.size)) = true then _ else _) _ _ s;rw [zQV (by simp)];unfold Builtin.Tuple.tupleIsExact;refine zQG (zQG (wpAny_typeOf T.typeIs (zQI ?_)));rw [zQV (by decide)];exact zQG (wpAny_rule (zQI ⟨_,rfl,zQI h⟩))
end
def zQC (K:PySem.W.Frag):V -> Option Int -> Option Int -> Hp -> VK -> Prop:=fun x lo hi H Q=>∃ a xs,x = .ref a /\ SqT K H a xs /\ (HT.sIx xs.length 0 lo = 0 /\ HT.sIx xs.length xs.length hi = xs.length) /\ Q (.ref a) H
theorem zLn {X:Cx}:SlR X (zQC X.K):=by
 intro zB s σ H x v vl vu lo hi sl Q I rx hs pl pu h;obtain ⟨a,xs,rfl,hx,hw,q⟩:=h;cases rx;obtain ⟨its,r,ht,hz⟩:=I.tuple hx;have hlen:its.toArray.size = xs.length:=by rw [zQO]; exact r.length.symm
 exact ⟨"tuple", _,zRo.lookup,ht.typeIs,zHW ht hs pl pu (by rw [hlen]; exact hw.1) (by rw [hlen]; exact hw.2) ⟨.ref a,H,I,rfl,q⟩⟩
section
variable {X:Cx}
theorem zQD (h1:QE X a f) (h2:QE X b g) (hs:zIP b:=by intro _ _; rfl):QE X (.Subscript a b pos) (fOp kIx f g):=.mk <| PE.imp (zOX zOM h1.un h2.un hs) fun _ _ _ h=>zCQ zOR h
abbrev FO:=Sd -> Mem -> Option (Option Int × Mem)
def trO (K:PySem.W.Frag) (f:FO):TO:=fun τ H Q=>∃ L σ M d M',Cor K L M H /\ zAv L H σ τ /\ f σ M = some (d,M') /\ ∀ L' H',Stp L H L' H' -> Cor K L' M' H' -> Q d H'
structure QO (X:Cx) (e:Option Expr) (f:FO):Prop where
 un:PO X e (trO X.K f)
def zAf:FO:=fun _ M=>some (none,M)
def zAQ (f:FE):FO:=fun σ M=>match f σ M with
 | some (.dat (.int i),M')=>some (some i,M')
 | _=>none
theorem PO.imp {e:Option Expr} {t t':TO} (h:PO X e t) (hi:∀ τ H Q,t' τ H Q -> t τ H Q):PO X e t':=fun zB s σ H Q I q=>h zB s σ H Q I (hi _ _ _ q)
theorem zMV:QO X none zAf:=.mk <| PO.imp zL6 fun τ H Q zz=>by
 obtain ⟨L,σ,M,d,M',c,rs,hf,q⟩:=zz;unfold zAf at hf;cases hf;exact q L H (.refl L H) c
theorem zLi (h:QE X e f):QO X (some e) (zAQ f):=.mk <| PO.imp (zLa h.un) fun τ H Q zz=>by
 obtain ⟨L,σ,M,d,M',c,rs,hf,q⟩:=zz;unfold zAQ at hf;split at hf
 ·rename_i i M1 e1;cases hf;refine ⟨L,σ,M,_,_,c,rs,e1,fun L1 H1 v s1 c1 r1=>?_⟩;exact ⟨i,by unfold za Rep at r1; exact r1,q L1 H1 s1 c1⟩
 ·cases hf
def zBG (xs:List D) (lo hi:Option Int):List D:=(xs.drop (HT.sIx xs.length 0 lo)).take (HT.sIx xs.length xs.length hi - HT.sIx xs.length 0 lo)
theorem zIJ {L:List Addr} {H:Hp} {xs:List D} {vs:List V} {lo hi:Option Int} (r:zJ L H xs vs):zJ L H (zBG xs lo hi) (zGL vs lo hi):=by
 unfold zBG zGL;rw [r.length];exact (r.drop _).take _
def kSl (x:EV) (lo hi:Option Int) (M:Mem):Option (EV × Mem):=match zA8 x with
 | some xs=>some (.dat (.tup (zBG xs lo hi)),M)
 | none=>match zAO M x with
  | some xs=>some (.fl (zBG xs lo hi),M)
  | none=>none
def fSl (f:FE) (fl fh:FO):FE:=fun σ M=>match f σ M with
 | some (x,M1)=>match fl σ M1 with
  | some (lo,M2)=>match fh σ M2 with
   | some (hi,M3)=>kSl x lo hi M3
   | none=>none
  | none=>none
 | none=>none
theorem zLo {lo hi:Option Expr} {p2:Pos} {fl fh:FO} (h:QE X e f) (hl:QO X lo fl) (hh:QO X hi fh):QE X (.Subscript e (.Slice lo hi none p2) pos) (fSl f fl fh) :=
 .mk <| PE.imp (zKV (SlR.or zLr (SlR.or zNB zLn)) h.un hl.un hh.un) fun τ H Q zz=>by
  obtain ⟨L,σ,M,d,M',c,rs,hf,q⟩:=zz;unfold fSl at hf;split at hf
  ·rename_i x M1 e1;split at hf
   ·rename_i l M2 e2;split at hf
    ·rename_i u M3 e3;refine ⟨L,σ,M,_,_,c,rs,e1,fun L1 H1 v s1 c1 r1=>⟨L1,σ,M1,_,_,c1,rs.stp s1,e2,fun L2 H2 s2 c2=>⟨L2,σ,M2,_,_,c2,rs.stp (s1.trans s2),e3,fun L3 H3 s3 c3=>?_⟩⟩⟩;have s:=(s1.trans s2).trans s3;have r3:za H L3 H3 x v:=(r1.stp s2).stp s3;unfold kSl at hf;cases t:zA8 x with
     | some xs=>
      rw [t] at hf;cases hf;obtain ⟨a,vs,rfl,e4,r4⟩:=zA4 r3 t;by_cases hw:HT.sIx vs.length 0 l = 0 /\ HT.sIx vs.length vs.length u = vs.length
      ·refine .inr (.inr ⟨a,vs,rfl,.of e4,hw,?_⟩);have ec:zBG xs l u = xs:=by
        unfold zBG;rw [<- r4.length,hw.1,hw.2,r4.length];simp
       rw [ec] at q;refine q L3 H3 _ s c3 ?_;unfold za Rep;exact ⟨a,vs,rfl,e4,r4⟩
      ·refine .inr (.inl ⟨a,vs,rfl,.of e4,hw,fun p hp=>?_⟩);exact q L3 _ _ (s.trans (.upd hp)) (c3.upd hp) (Rep.newTup hp (zIJ r4))
     | none=>
      rw [t] at hf;dsimp only at hf;split at hf
      ·rename_i xs e4;cases hf;obtain ⟨a,vs,rfl,e5,r5⟩:=zAV c3 r3 e4;refine .inl ⟨a,vs,rfl,.inl e5,fun p hp=>?_⟩;exact q L3 _ _ (s.trans (.upd hp)) (c3.upd hp) (za.newLst s c c3 hp (zIJ r5))
      ·cases hf
    ·cases hf
   ·cases hf
  ·cases hf
abbrev KB:=List EV -> Mem -> Option (EV × Mem)
def zEf (K:PySem.W.Frag) (r:List V -> Hp -> VK -> Prop) (k:KB):Prop:=∀ {L:List Addr} {M M':Mem} {H H0:Hp} {xs:List EV} {d:EV} {vs:List V} {Q:VK},Cor K L M H -> zBX H0 L H xs vs -> k xs M = some (d,M') ->
 (∀ L' H' u,Stp L H L' H' -> Cor K L' M' H' -> za H L' H' d u -> Q u H') -> r vs H Q
def fB (k:KB) (f:FAE):FE:=fun σ M=>match f σ M with
 | some (xs,M1)=>k xs M1
 | none=>none
theorem zKB {K:PySem.W.Frag} {r:List V -> Hp -> VK -> Prop} {k:KB} {f:FAE} (hk:zEf K r k) {τ:Sv} {H:Hp} {Q:VK} (h:trE K (fB k f) τ H Q):tCB r (zPY K f) τ H Q:=by
 obtain ⟨L,σ,M,d,M',c,rs,hf,q⟩:=h;unfold fB at hf;split at hf
 ·rename_i xs M1 e1;refine ⟨L,σ,M,_,_,c,rs,e1,fun L1 H1 vs s1 c1 r1=>?_⟩;refine hk c1 r1 hf fun L2 H2 u s2 c2 r2=>?_;exact q L2 H2 u (s1.trans s2) c2 (r2.back s1 c s2.sub)
 ·cases hf
theorem zBX.one {H0:Hp} {L:List Addr} {H:Hp} {x:EV} {vs:List V} (h:zBX H0 L H [x] vs):∃ v,vs = [v] /\ za H0 L H x v:=by
 obtain ⟨v,r,rfl,h1,h2⟩:=h;unfold zBX at h2;subst h2;exact ⟨v,rfl,h1⟩
def zAW:KB:=fun xs M=>match xs with
 | [x]=>match zf M x with
  | some ys=>some (.dat (.int ys.length),M)
  | none=>none
 | _=>none
theorem zMR:zEf X.K (fun xs H Q=>∃ p ys,xs = [.ref p] /\ (SqL X.K H p ys \/ SqT X.K H p ys) /\ Q (.int ys.length) H) zAW:=by
 intro L M M' H H0 xs d vs Q c r hk q;unfold zAW at hk;split at hk
 ·rename_i x;split at hk
  ·rename_i ys e1;cases hk;obtain ⟨v,rfl,r1⟩:=r.one;obtain ⟨a,ws,rfl,hs,r2⟩:=zDq c r1 e1;refine ⟨a,ws,rfl,hs,q L H _ (.refl L H) c ?_⟩;rw [r2.length]; exact (zAb (L:=L) (H:=H))
  ·cases hk
 ·cases hk
theorem zDm {x:Str} {p:Pos} {id:String} {r:List V -> Hp -> VK -> Prop} {k:KB} {f:FAE} (hk:zEf X.K r k) (hc:zBa X (.builtin id) r) (hv:bootBuiltins x = some (.builtin id)) (hg:Gl X x) (hm:X.mg x = none) (ha:QAE X (e :: es) f) (hn:x ≠ "__name__" := by decide) (hdb:(x == ("__debug__" : Str)) = false:=by decide)
  (he:starEach (e :: es) X.env = (false,eval e X.env) :: starEach es X.env:=by rfl) (hpl:(backTo pos (starEach es X.env)).any (·.1) = false:=by rfl):QE X (.Call (.Name x p) (e :: es) [] pos) (fB k f) :=
 .mk <| PE.imp (zGk hc hg hm hv ha.un hn hdb he hpl) fun _ _ _ h=>zKB hk h
theorem zEA {x:Str} {p:Pos} {T:String} {r:List V -> Hp -> VK -> Prop} {k:KB} {f:FAE} (hk:zEf X.K r k) (hc:zBa X (.type T) r) (hv:bootBuiltins x = some (.type T)) (hg:Gl X x) (hm:X.mg x = none) (ha:QAE X (e :: es) f) (hn:x ≠ "__name__" := by decide) (hdb:(x == ("__debug__" : Str)) = false:=by decide)
  (he:starEach (e :: es) X.env = (false,eval e X.env) :: starEach es X.env:=by rfl) (hpl:(backTo pos (starEach es X.env)).any (·.1) = false:=by rfl):QE X (.Call (.Name x p) (e :: es) [] pos) (fB k f) :=
 .mk <| PE.imp (zDU hc hg hm hv ha.un hn hdb he hpl) fun _ _ _ h=>zKB hk h
def zAU:KB:=fun xs M=>match xs with
 | [x]=>match zf M x with
  | some ys=>some (.dat (.tup ys),M)
  | none=>none
 | _=>none
theorem zI0:zEf X.K (fun xs H Q=>∃ p ys,xs = [.ref p] /\ ((SqL X.K H p ys /\ ∀ l,H l = none -> Q (.ref l) (upd H l (.tup ys))) \/ (SqT X.K H p ys /\ Q (.ref p) H))) zAU:=by
 intro L M M' H H0 xs d vs Q c r hk q;unfold zAU at hk;split at hk
 ·rename_i x;split at hk
  ·rename_i ys e1;cases hk;obtain ⟨v,rfl,r1⟩:=r.one;unfold zf at e1;cases t:zA8 x with
   | some zs=>
    rw [t] at e1; cases e1;obtain ⟨a,ws,rfl,e2,r2⟩:=zA4 r1 t;refine ⟨a,ws,rfl,.inr ⟨.of e2,q L H _ (.refl L H) c ?_⟩⟩;unfold za Rep;exact ⟨a,ws,rfl,e2,r2⟩
   | none=>
    rw [t] at e1;obtain ⟨a,ws,rfl,e2,r2⟩:=zAV c r1 e1;refine ⟨a,ws,rfl,.inl ⟨.inl e2,fun p hp=>?_⟩⟩;exact q L _ _ (.upd hp) (c.upd hp) (Rep.newTup hp r2)
  ·cases hk
 ·cases hk
end
set_option genInjectivity true in
inductive Out where
 | nx | ret (d:D) | brk | cnt
abbrev FS:=Sd -> Mem -> Option (Out × Sd × Mem)
def zOg (E:Ends) (L:List Addr) (H:Hp) (σ:Sd):Out -> Prop
 | .nx=>∀ τ,zAv L H σ τ -> E.nx τ H
 | .ret d=>∀ v,Rep L H d v -> E.rt v H
 | .brk=>∀ τ,zAv L H σ τ -> E.bk τ H
 | .cnt=>∀ τ,zAv L H σ τ -> E.ct τ H
def trS (K:PySem.W.Frag) (f:FS):TS:=fun E τ H=>∃ L σ M o σ' M',Cor K L M H /\ zAv L H σ τ /\ f σ M = some (o,σ',M') /\ ∀ L' H',Stp L H L' H' -> Cor K L' M' H' -> zOg E L' H' σ' o
structure QS (X:Cx) (st:Stmt) (f:FS):Prop where
 un:PS X st (trS X.K f)
structure QSs (X:Cx) (st:List Stmt) (f:FS):Prop where
 un:PSs X st (trS X.K f)
theorem zAv.set (h:zAv L H σ τ) (r:Rep L H d v):zAv L H (σ.set i (some d)) (τ.set i (some v)):=by
 refine ⟨by simp [h.1],fun j e q=>?_⟩;rw [zRp] at q ⊢;split at q
 ·rename_i z;subst z;split at q
  ·rename_i hl;cases q;rw [zQV rfl,zQV (by rw [h.1]; exact hl)];exact ⟨v,rfl,r⟩
  ·cases q
 ·rename_i z;rw [zQY z];exact h.2 j e q
theorem zGd {K:PySem.W.Frag} {f:FE} {τ:Sv} {H:Hp} {Q:VK} (h:trD K (toD f) τ H Q):trE K f τ H Q:=by
 obtain ⟨L,σ,M,d,M',c,rs,hf,q⟩:=h;unfold toD at hf;split at hf
 ·rename_i d' M1 e1;cases hf;exact ⟨L,σ,M,_,_,c,rs,e1,fun L' H' v s c' r=>q L' H' v s c' r⟩
 ·rename_i xs M1 e1;cases hf;refine ⟨L,σ,M,_,_,c,rs,e1,fun L' H' v s c' r=>?_⟩;obtain ⟨p,vs,rfl,e0,e2,e3,r⟩:=r;obtain ⟨c2,s2⟩:=zM4 s c' e0 e2 e3 r;exact q _ H' _ s2 c2 (Rep.last c')
 ·cases hf
def zAp:FS:=fun σ M=>some (.nx,σ,M)
def zT (f g:FS):FS:=fun σ M=>match f σ M with
 | some (.nx,σ1,M1)=>g σ1 M1
 | r=>r
def sIf (c:FT) (f g:FS):FS:=fun σ M=>match c σ M with
 | some (true,M1)=>f σ M1
 | some (false,M1)=>g σ M1
 | none=>none
def zAq (f:FE):FS:=fun σ M=>match toD f σ M with
 | some (d,M1)=>some (.ret d,σ,M1)
 | none=>none
def zn (i:Nat) (f:FE):FS:=fun σ M=>match toD f σ M with
 | some (d,M1)=>some (.nx,σ.set i (some d),M1)
 | none=>none
def zAY (f:FE):FS:=fun σ M=>match f σ M with
 | some (_,M1)=>some (.nx,σ,M1)
 | none=>none
section
variable {st:Stmt} {rest:List Stmt}
theorem zFz:QSs X [] zAp:=.mk <| PSs.imp zLw fun E τ H zz=>by
 obtain ⟨L,σ,M,o,σ',M',c,rs,hf,q⟩:=zz;unfold zAp at hf;cases hf;exact q L H (.refl L H) c τ rs
theorem zDr (h1:QS X st f) (h2:QSs X rest g):QSs X (st :: rest) (zT f g):=.mk <| PSs.imp (zLQ h1.un h2.un) fun E τ H zz=>by
 obtain ⟨L,σ,M,o,σ',M',c,rs,hf,q⟩:=zz;unfold zT at hf;split at hf
 ·rename_i σ1 M1 e1;refine ⟨L,σ,M,_,_,_,c,rs,e1,fun L1 H1 s1 c1 τ1 r1=>⟨L1,σ1,M1,_,_,_,c1,r1,hf,fun L2 H2 s2 c2=>q L2 H2 (s1.trans s2) c2⟩⟩
 ·rename_i hne;refine ⟨L,σ,M,_,_,_,c,rs,hf,fun L1 H1 s1 c1=>?_⟩;have z:=q L1 H1 s1 c1;cases o with
  | nx=>exact absurd hf (hne σ' M')
  | ret d=>exact z
  | brk=>exact z
  | cnt=>exact z
theorem zEE (h1:QS X st f):QSs X [st] f:=.mk <| PSs.imp (zMg h1.un) fun _ _ _ h=>h
theorem zMa (hc:QT X c fc) (ha:QSs X a f) (hb:QSs X b g):QS X (.If c a b pos) (sIf fc f g):=.mk <| PS.imp (zPi hc.un ha.un hb.un) fun E τ H zz=>by
 obtain ⟨L,σ,M,o,σ',M',c,rs,hf,q⟩:=zz;unfold sIf at hf;split at hf
 ·rename_i M1 e1;refine ⟨L,σ,M,_,_,c,rs,e1,fun L1 H1 s1 c1=>?_⟩;exact zJH ⟨L1,σ,M1,_,_,_,c1,rs.stp s1,hf,fun L2 H2 s2 c2=>q L2 H2 (s1.trans s2) c2⟩
 ·rename_i M1 e1;refine ⟨L,σ,M,_,_,c,rs,e1,fun L1 H1 s1 c1=>?_⟩;exact zJF ⟨L1,σ,M1,_,_,_,c1,rs.stp s1,hf,fun L2 H2 s2 c2=>q L2 H2 (s1.trans s2) c2⟩
 ·cases hf
theorem zG9 (h:QE X e f):QS X (.Return (some e) pos) (zAq f):=.mk <| PS.imp (zNX (zBI h).un) fun E τ H zz=>by
 obtain ⟨L,σ,M,o,σ',M',c,rs,hf,q⟩:=zz;unfold zAq at hf;split at hf
 ·rename_i d M1 e1;cases hf;exact ⟨L,σ,M,_,_,c,rs,e1,fun L1 H1 v s1 c1 r1=>q L1 H1 s1 c1 v r1⟩
 ·cases hf
theorem zHD {K:PySem.W.Frag} {i:Nat} {f:FE} {t:TE} (ht:∀ τ H Q,trE K f τ H Q -> t τ H Q) {E:Ends} {τ:Sv} {H:Hp} (h:trS K (zn i f) E τ H):zLt t (zCd i) E τ H:=by
 obtain ⟨L,σ,M,o,σ',M',c,rs,hf,q⟩:=h;unfold zn at hf;split at hf
 ·rename_i d M1 e1;cases hf;exact ht _ _ _ (zGd ⟨L,σ,M,_,_,c,rs,e1,fun L1 H1 v s1 c1 r1=>q L1 H1 s1 c1 _ ((rs.stp s1).set r1)⟩)
 ·cases hf
theorem zPa {i:Nat} {x:Str} {f:FE} {pos':Pos} (hN:X.N.Nodup) (hi:X.N[i]? = some x) (hx:Loc X.env.scope x) (h:QE X e f) (hs:swapsWith e (some (.Name x pos')) pos.line X.env = pure false:=by rfl)
  (hf:X.fn x = true \/ X.env.scope.names.lookup x = some .local:=by first | exact .inl rfl | exact .inr rfl | assumption):QS X (.Assign [.Name x pos'] e pos) (zn i f) :=
 .mk <| PS.imp (zNN hN hi hx h.un hs hf) fun _ _ _ z=>zHD (fun _ _ _ z=>z) z
theorem zNi (h:QE X e f) (hs:swapsWith e none pos.line X.env = pure false:=by rfl):QS X (.Expr e pos) (zAY f):=.mk <| PS.imp (zMF h.un hs) fun E τ H zz=>by
 obtain ⟨L,σ,M,o,σ',M',c,rs,hf,q⟩:=zz;unfold zAY at hf;split at hf
 ·rename_i d M1 e1;cases hf;exact ⟨L,σ,M,_,_,c,rs,e1,fun L1 H1 v s1 c1 r1=>q L1 H1 s1 c1 τ (rs.stp s1)⟩
 ·cases hf
abbrev FG:=D -> Sd -> Option Sd
def GOk (g:TG) (fg:FG):Prop:=∀ {L:List Addr} {H:Hp} {σ σ':Sd} {τ:Sv} {d:D} {v:V} {Q:Sv -> Hp -> Prop},zAv L H σ τ -> Rep L H d v -> fg d σ = some σ' -> (∀ τ',zAv L H σ' τ' -> Q τ' H) -> g v τ H Q
def gN (i:Nat):FG:=fun d σ=>some (σ.set i (some d))
theorem zKz:GOk (zCd i) (gN i):=by
 intro L H σ σ' τ d v Q rs r hf q;unfold gN at hf;cases hf;exact q _ (rs.set r)
abbrev FI:=Sd -> Mem -> Option (List D × Option (Mem -> Prop) × Mem)
def zCB (g:Option (Mem -> Prop)) (xs:List D) (M:Mem):Prop:=match g with
 | none=>True
 | some p=>p M
def zPk (K:PySem.W.Frag) (J:It) (L:List Addr) (H:Hp) (xs:List D) (g:Option (Mem -> Prop)):Prop:=∀ L' H' M',Stp L H L' H' -> Cor K L' M' H' -> zCB g xs M' ->
 (∀ (i:Nat) d,xs[i]? = some d -> J.go i H' /\ ∀ v H'',J.yld i H' v H'' -> (∀ a o,H' a = some o -> H'' a = some o) /\ Rep L' H'' d v) /\ J.stop xs.length H'
def trI (K:PySem.W.Frag) (f:FI):TI:=fun τ H R=>∃ L σ M xs g M',Cor K L M H /\ zAv L H σ τ /\ f σ M = some (xs,g,M') /\ ∀ L' H' J,Stp L H L' H' -> Cor K L' M' H' -> zPk K J L' H' xs g -> R J H'
structure QI (X:Cx) (tg e:Expr) (f:FI):Prop where
 un:PI X tg e (trI X.K f)
theorem PI.imp (h:PI X tg e t) (hi:∀ τ H R,t' τ H R -> t τ H R):PI X tg e t':=fun zB s σ H R I q=>h zB s σ H R I (hi _ _ _ q)
noncomputable def zBh (g:FG) (b:FS) (all:List D) (gd:Option (Mem -> Prop)):List D -> Sd -> Mem -> Option (Out × Sd × Mem)
 | [],σ,M=>open Classical in if zCB gd all M then some (.nx,σ,M) else none
 | x :: r,σ,M=>open Classical in if zCB gd all M then match g x σ with
   | some σ1=>match b σ1 M with
    | some (.nx,σ2,M2)=>zBh g b all gd r σ2 M2
    | some (.cnt,σ2,M2)=>zBh g b all gd r σ2 M2
    | some (.brk,σ2,M2)=>some (.nx,σ2,M2)
    | some (.ret d,σ2,M2)=>some (.ret d,σ2,M2)
    | none=>none
   | none=>none
  else none
noncomputable def zBb (fi:FI) (g:FG) (b:FS):FS:=fun σ M=>match fi σ M with
 | some (xs,gd,M1)=>zBh g b xs gd xs σ M1
 | none=>none
theorem zFJ {α:Type} {xs:List α} (h:i < xs.length):xs.drop i = xs[i] :: xs.drop (i + 1):=List.drop_eq_getElem_cons h
theorem Stp.yld (s:Stp L H L' H') (h:∀ a o,H' a = some o -> H'' a = some o):Stp L H L' H'':=s.trans (.grow h)
theorem zLB {K:PySem.W.Frag} {fi:FI} {g:TG} {fg:FG} {b:FS} (hg:GOk g fg) {E:Ends} {τ:Sv} {H:Hp} (h:trS K (zBb fi fg b) E τ H):zOW (trI K fi) g (trS K b) E τ H:=by
 obtain ⟨L,σ,M,o,σf,Mf,c,rs,hf,q⟩:=h;unfold zBb at hf;split at hf
 ·rename_i xs gd M1 e1;refine ⟨L,σ,M,_,_,_,c,rs,e1,fun L1 H1 J s1 c1 it=>?_⟩
  refine ⟨fun i m τ' H'=>m = xs.length - i /\ i <= xs.length /\ ∃ L' σ' M',Stp L1 H1 L' H' /\ Cor K L' M' H' /\ zAv L' H' σ' τ' /\ zBh fg b xs gd (xs.drop i) σ' M' = some (o,σf,Mf),
   ⟨xs.length,by simp,zQ2 _,L1,σ,M1,.refl _ _,c1,rs.stp s1,by simpa using hf⟩,?_⟩
  rintro i m τ' H' ⟨rfl,hi,L',σ',M',s',c',rs',e'⟩;by_cases hlt:i < xs.length
  ·rw [zFJ hlt] at e';unfold zBh at e';split at e'
   ·rename_i hgd;obtain ⟨step,_⟩:=it L' H' M' s' c' hgd;obtain ⟨go,yl⟩:=step i xs[i] (zQK hlt);cases eg:fg xs[i] σ' with
    | none=>rw [eg] at e'; cases e'
    | some σ1=>
     rw [eg] at e';dsimp only at e';refine .inr ⟨go,fun τ2 H2=>∃ L2 σ2 M2,Stp L1 H1 L2 H2 /\ Cor K L2 M2 H2 /\ zAv L2 H2 σ2 τ2 /\ zBh fg b xs gd (xs.drop (i + 1)) σ2 M2 = some (o,σf,Mf),fun τ2 H2 ⟨L2,σ2,M2,a1,a2,a3,a4⟩=>⟨xs.length - (i + 1),by omega,rfl,hlt,L2,σ2,M2,a1,a2,a3,a4⟩,fun v H2 hy=>?_⟩;obtain ⟨gr,rv⟩:=yl v H2 hy;refine hg (zAv.stp (.grow gr) rs') rv eg fun τ2 r2=>?_;cases eb:b σ1 M' with
     | none=>rw [eb] at e'; cases e'
     | some r=>
      obtain ⟨o2,σ2,M2⟩:=r;rw [eb] at e';refine ⟨L',σ1,M',_,_,_,c'.grow gr,r2,eb,fun L3 H3 s3 c3=>?_⟩;have s13:Stp L1 H1 L3 H3:=(s'.yld gr).trans s3;cases o2 with
      | nx=>exact fun τ3 r3=>⟨L3,σ2,M2,s13,c3,r3,e'⟩
      | cnt=>exact fun τ3 r3=>⟨L3,σ2,M2,s13,c3,r3,e'⟩
      | brk=>cases e'; exact q L3 H3 (s1.trans s13) c3
      | ret d=>cases e'; exact q L3 H3 (s1.trans s13) c3
   ·cases e'
  ·have hi':i = xs.length:=by omega
   subst hi';rw [List.drop_length] at e';unfold zBh at e';split at e'
   ·rename_i hgd;cases e';obtain ⟨_,stop⟩:=it L' H' _ s' c' hgd;exact .inl ⟨stop,q L' H' (s1.trans s') c' τ' rs'⟩
   ·cases e'
 ·cases hf
theorem zMs (hg:GOk g fg) (hp:PassesOwn (model X.prog X.w) X.A X.env X.xe) (hc:X.calm = true) (hi:QI X tg iter fi) (ht:PG X tg g) (hb:QSs X body b)
  (hs:∀ x,foldedSetIterable iter X.env x = pure x:=by intro _; rfl):QS X (.For tg iter body [] pos) (zBb fi fg b):=.mk <| PS.imp (zNA hp hc hi.un ht hb.un hs) fun _ _ _ h=>zLB hg h
end
section
def zAu (c:FT) (b:FS):Nat -> Sd -> Mem -> Option (Out × Sd × Mem)
 | 0,_,_=>none
 | n + 1,σ,M=>match c σ M with
  | some (true,M1)=>match b σ M1 with
   | some (.nx,σ2,M2)=>zAu c b n σ2 M2
   | some (.cnt,σ2,M2)=>zAu c b n σ2 M2
   | some (.brk,σ2,M2)=>some (.nx,σ2,M2)
   | some (.ret d,σ2,M2)=>some (.ret d,σ2,M2)
   | none=>none
  | some (false,M1)=>some (.nx,σ,M1)
  | none=>none
theorem zHo {K:PySem.W.Frag} {fc:FT} {b:FS} {n:Nat} {E:Ends} {τ:Sv} {H:Hp} (h:trS K (zAu fc b n) E τ H):zJs (trT K fc) (trS K b) E τ H:=by
 obtain ⟨L,σ,M,o,σf,Mf,c,rs,hf,q⟩:=h;refine ⟨fun m τ' H'=>∃ L' σ' M',Stp L H L' H' /\ Cor K L' M' H' /\ zAv L' H' σ' τ' /\ zAu fc b m σ' M' = some (o,σf,Mf),⟨n,L,σ,M,.refl _ _,c,rs,hf⟩,?_⟩;rintro m τ' H' ⟨L',σ',M',s',c',rs',e'⟩;cases m with
 | zero=>unfold zAu at e'; cases e'
 | succ m=>
  unfold zAu at e';split at e'
  ·rename_i M1 e1;refine ⟨L',σ',M',_,_,c',rs',e1,fun L1 H1 s1 c1=>zJH ?_⟩;refine ⟨fun τ2 H2=>∃ L2 σ2 M2,Stp L H L2 H2 /\ Cor K L2 M2 H2 /\ zAv L2 H2 σ2 τ2 /\ zAu fc b m σ2 M2 = some (o,σf,Mf),fun τ2 H2 h2=>⟨m,Nat.lt_succ_self m,h2⟩,?_⟩;cases eb:b σ' M1 with
   | none=>rw [eb] at e'; cases e'
   | some r=>
    obtain ⟨o2,σ2,M2⟩:=r;rw [eb] at e';refine ⟨L1,σ',M1,_,_,_,c1,rs'.stp s1,eb,fun L3 H3 s3 c3=>?_⟩;have s13:Stp L H L3 H3:=(s'.trans s1).trans s3;cases o2 with
    | nx=>exact fun τ3 r3=>⟨L3,σ2,M2,s13,c3,r3,e'⟩
    | cnt=>exact fun τ3 r3=>⟨L3,σ2,M2,s13,c3,r3,e'⟩
    | brk=>cases e'; exact q L3 H3 s13 c3
    | ret d=>cases e'; exact q L3 H3 s13 c3
  ·rename_i M1 e1;cases e';exact ⟨L',_,M',_,_,c',rs',e1,fun L1 H1 s1 c1=>zJF (q L1 H1 (s'.trans s1) c1 τ' (rs'.stp s1))⟩
  ·cases e'
theorem zME (n:Nat) (hp:PassesOwn (model X.prog X.w) X.A X.env X.xe) (hc:QT X c fc) (hb:QSs X body b):QS X (.While c body [] pos) (zAu fc b n) :=
 .mk <| PS.imp (zKS hp hc.un hb.un) fun _ _ _ h=>zHo h
def zFZ (own:List Nat) (σ:Sd):Sd:=own.foldl (fun σ i=>σ.set i none) σ
theorem zIF:∀ (own:List Nat) {σ:Sd} {τ:Sv},zAv L H σ τ -> zAv L H (zFZ own σ) (clr own τ)
 | [],_,_,h=>h
 | i :: r,σ,τ,h=>by
  refine zIF r (σ:=σ.set i none) (τ:=τ.set i none) ⟨by simp [h.1],fun j d q=>?_⟩;rw [zRp] at q ⊢;split at q
  ·split at q <;> cases q
  ·rename_i z;rw [zQY z];exact h.2 j d q
noncomputable def zCE (g:FG) (tc:FT) (te:FE) (σ:Sd) (all:List D) (gd:Option (Mem -> Prop)):List D -> Mem -> Option (List D × Mem)
 | [],M=>open Classical in if zCB gd all M then some ([],M) else none
 | x :: r,M=>open Classical in if zCB gd all M then match g x σ with
   | some σ1=>match tc σ1 M with
    | some (true,M1)=>match toD te σ1 M1 with
     | some (d,M2)=>match zCE g tc te σ all gd r M2 with
      | some (ds,M3)=>some (d :: ds,M3)
      | none=>none
     | none=>none
    | some (false,M1)=>zCE g tc te σ all gd r M1
    | none=>none
   | none=>none
  else none
noncomputable def zk (own:List Nat) (fi:FI) (g:FG) (tc:FT) (te:FE):FE:=fun σ M=>match fi σ M with
 | some (xs,gd,M1)=>if xs.length <= sizeLine then match zCE g tc te (zFZ own σ) xs gd xs M1 with
   | some (ys,M2)=>some (.fl ys,M2)
   | none=>none
  else none
 | none=>none
def zKQ (own:List Nat) (g:TG) (fg:FG):Prop:=∀ {L:List Addr} {H:Hp} {σ σ':Sd} {τ τ0:Sv} {d:D} {v:V} {Q:Sv -> Hp -> Prop},zAv L H σ τ -> Ext (clr own τ0) τ -> Rep L H d v -> fg d σ = some σ' -> (∀ τ',zAv L H σ' τ' -> Ext (clr own τ0) τ' -> Q τ' H) -> g v τ H Q
theorem zDT (hi:i ∈ own):zKQ own (zCd i) (gN i):=by
 intro L H σ σ' τ τ0 d v Q rs ex r hf q;unfold gN at hf;cases hf;exact q _ (rs.set r) (ex.set hi)
theorem zE1 {K:PySem.W.Frag} {own:List Nat} {fi:FI} {g:TG} {fg:FG} {tc:FT} {te:FE} (hg:zKQ own g fg) {τ:Sv} {H:Hp} {Q:VK} (h:trE K (zk own fi fg tc te) τ H Q):zKy own (trI K fi) g (trT K tc) (trD K (toD te)) τ H Q:=by
 obtain ⟨L,σ,M,d,Mf,c,rs,hf,q⟩:=h;unfold zk at hf;split at hf
 ·rename_i xs gd M1 e1;split at hf
  ·rename_i hz;split at hf
   ·rename_i zs M2 e2;cases hf;refine ⟨L,σ,M,_,_,_,c,rs,e1,fun L1 H1 J s1 c1 it=>?_⟩
    refine ⟨fun i m ys H'=>m = xs.length - i /\ i <= xs.length /\ ∃ L' M' as bs,Stp L1 H1 L' H' /\ Cor K L' M' H' /\ zJ L' H' as ys /\ as.length <= i /\ zCE fg tc te (zFZ own σ) xs gd (xs.drop i) M' = some (bs,Mf) /\ as ++ bs = zs,
     ⟨xs.length,by simp,zQ2 _,L1,M1,[],zs,.refl _ _,c1,.nil,zQM _,by simpa using e2,rfl⟩,?_⟩
    rintro i m ys H' ⟨rfl,hi,L',M',as,bs,s',c',r',hl,e',hab⟩;have hys:ys.length <= i:=by rw [r'.length]; exact hl
    by_cases hlt:i < xs.length
    ·rw [zFJ hlt] at e';unfold zCE at e';split at e'
     ·rename_i hgd;obtain ⟨step,_⟩:=it L' H' M' s' c' hgd;obtain ⟨go,yl⟩:=step i xs[i] (zQK hlt);split at e'
      ·rename_i σ1 eg;refine .inr ⟨go,fun v H2 hy=>?_⟩;obtain ⟨gr,rv⟩:=yl v H2 hy;have s2:Stp L1 H1 L' H2:=s'.yld gr;refine hg (zIF own ((rs.stp s1).stp s2)) (.refl _) rv eg fun τ2 r2 x2=>⟨x2,?_⟩;split at e'
       ·rename_i M3 e3;split at e'
        ·rename_i d M4 e4;split at e'
         ·rename_i ds M5 e5;cases e';refine ⟨L',σ1,M',_,_,c'.grow gr,r2,e3,fun L3 H3 s3 c3=>zJH ?_⟩;refine ⟨L3,σ1,M3,_,_,c3,r2.stp s3,e4,fun L4 H4 w s4 c4 r4=>?_⟩;have st:Stp L' H' L4 H4:=((Stp.grow gr).trans s3).trans s4;refine ⟨Nat.lt_of_le_of_lt hys (zQf hlt hz),xs.length - (i + 1),by omega,rfl,hlt,L4,M4,as ++ [d],ds,s'.trans st,c4,(r'.stp st).app (.cons r4 .nil),by simp; omega,e5,by rw [<- hab]; simp⟩
         ·cases e'
        ·cases e'
       ·rename_i M3 e3;refine ⟨L',σ1,M',_,_,c'.grow gr,r2,e3,fun L3 H3 s3 c3=>zJF ?_⟩;have st:Stp L' H' L3 H3:=(Stp.grow gr).trans s3;exact ⟨xs.length - (i + 1),by omega,rfl,hlt,L3,M3,as,bs,s'.trans st,c3,r'.stp st,by omega,e',hab⟩
       ·cases e'
      ·cases e'
     ·cases e'
    ·have hi':i = xs.length:=by omega
     subst hi';rw [List.drop_length] at e';unfold zCE at e';split at e'
     ·rename_i hgd;cases e';obtain ⟨_,stop⟩:=it L' H' _ s' c' hgd;refine .inl ⟨stop,zQh hys hz,fun p hp=>?_⟩;rw [zQ0] at hab;subst hab;exact q L' _ _ ((s1.trans s').trans (.upd hp)) (c'.upd hp) (za.newLst (s1.trans s') c c' hp r')
     ·cases e'
   ·cases hf
  ·cases hf
 ·cases hf
structure QIfs (X:Cx) (ifs:List Expr) (f:FT):Prop where
 un:zJw X ifs (trT X.K f)
def zx:FT:=fun _ M=>some (true,M)
theorem zJ1:QIfs X [] zx:=.mk fun zB s σ H Q I h=>by
 obtain ⟨L,σ',M,d,M',c,rs,hf,q⟩:=h;unfold zx at hf;cases hf;exact zKR zB s σ H Q I (q L H (.refl L H) c)
theorem zNj (h:QT X c f):QIfs X [c] f:=.mk (zKh h.un)
structure QParts (X:Cx) (scope:Scope) (tg:Expr) (ifs:List Expr) (elt:Expr) (g:TG) (tc:FT) (te:FE):Prop where
 g:∀ zB cl s H fp,PG (zAN X zB scope cl s H fp) tg g
 c:∀ zB cl s H fp,QIfs (zAN X zB scope cl s H fp) ifs tc
 e:∀ zB cl s H fp,QE (zAN X zB scope cl s H fp) elt te
theorem QParts.parts {g:TG} {tc:FT} {te:FE} (p:QParts X scope tg ifs elt g tc te):CompParts X scope tg ifs elt g (trT X.K tc) (trD X.K (toD te)) :=
 ⟨p.g,fun zB cl s H fp=>(p.c zB cl s H fp).un,fun zB cl s H fp=>(zBI (p.e zB cl s H fp)).un⟩
theorem zFs (hg:zKQ own g fg) (C:CompIn X scope own) (hcalm:X.calm = true) (hi:QI X tg iter fi) (p:QParts X scope tg ifs elt g tc te) (hs:∀ x,foldedSetIterable iter X.env x = pure x:=by intro _; rfl) :
  QE X (.ListComp elt [⟨tg,iter,ifs,0⟩] scope pos) (zk own fi fg tc te):=.mk <| PE.imp (zLz C hcalm hi.un p.parts hs) fun _ _ _ h=>zE1 hg h
theorem zIr (hN:X.N.Nodup) (hi':X.N[i]? = some x) (hx:Loc X.env.scope x) (hfn:X.fn x = true \/ X.env.scope.names.lookup x = some .local)
  (hsw:swapsWith (.ListComp elt [⟨tg,iter,ifs,0⟩] scope pos) (some (.Name x pos')) pos''.line X.env = pure true)
  (hg:zKQ own g fg) (C:CompIn X scope own) (hcalm:X.calm = true) (hi:QI X tg iter fi) (p:QParts X scope tg ifs elt g tc te) (hs:∀ x,foldedSetIterable iter X.env x = pure x:=by intro _; rfl) :
  QS X (.Assign [.Name x pos'] (.ListComp elt [⟨tg,iter,ifs,0⟩] scope pos) pos'') (zn i (zk own fi fg tc te)) :=
 .mk <| PS.imp (zH9 hN hi' hx hfn C hcalm hi.un p.parts hsw hs) fun _ _ _ z=>zHD (fun _ _ _ z=>zE1 hg z) z
end
abbrev FF:=List D -> Mem -> Option (D × Mem)
def spF (K:PySem.W.Frag) (n:Nat) (g:FF):Sp:=fun vs H Q _=>∃ L ds M d M',Cor K L M H /\ zJ L H ds vs /\ ds.length = n /\ g ds M = some (d,M') /\ ∀ L' H' v,Stp L H L' H' -> Cor K L' M' H' -> Rep L' H' d v -> Q v H'
def zW (g:FF) (fa:FA):FE:=fun σ M=>match fa σ M with
 | some (ds,M1)=>match g ds M1 with
  | some (d,M2)=>some (.dat d,M2)
  | none=>none
 | none=>none
section
theorem zN5 (F:FnOk X.prog X.w X.K X.mg X.base CX0 k f fd ps (spF X.K (e :: es).length g)) (hr:Room k X.A) (hg:Gl X x) (hm:X.mg x = some (.ref f)) (hk:PySem.W.keepIn X.K (.ref f) = true) (hb:zEX X.K fd ps [])
  (ha:QA X (e :: es) fa) (hl:∀ σ M ds M1,fa σ M = some (ds,M1) -> ds.length = (e :: es).length) (hdb:(x == ("__debug__" : Str)) = false:=by decide) (he:starEach (e :: es) X.env = (false,eval e X.env) :: starEach es X.env:=by rfl) (hpl:(backTo pos (starEach es X.env)).any (·.1) = false:=by rfl) :
  QE X (.Call (.Name x p) (e :: es) [] pos) (zW g fa) :=
 .mk <| PE.imp (zLl F hr hg hm hk hb .nil zPK ha.un hdb he hpl) fun τ H Q zz=>by
  obtain ⟨L,σ,M,d,M',c,rs,hf,q⟩:=zz;unfold zW at hf;split at hf
  ·rename_i ds M1 e1;split at hf
   ·rename_i d' M2 e2;cases hf;refine ⟨L,σ,M,_,_,c,rs,e1,fun L1 H1 vs s1 c1 r1=>?_⟩;dsimp only;rw [zQ0];exact ⟨L1,ds,M1,d',_,c1,r1,hl _ _ _ _ e1,e2,fun L2 H2 v s2 c2 r2=>q L2 H2 v (s1.trans s2) c2 r2⟩
   ·cases hf
  ·cases hf
def zMk (fa:FA) (n:Nat):Prop:=∀ σ M ds M1,fa σ M = some (ds,M1) -> ds.length = n
theorem zGr:zMk zH 0:=fun σ M ds M1 h=>by unfold zH at h; cases h; rfl
theorem zDI {f:FD} {g:FA} {n:Nat} (h:zMk g n):zMk (zD f g) (n + 1):=fun σ M ds M1 q=>by
 unfold zD at q;split at q
 ·split at q
  ·rename_i e2;cases q;simp [h _ _ _ _ e2]
  ·cases q
 ·cases q
def zCG (n:Nat) (b:FS):FF:=fun ds M=>match b (ds.map some ++ List.replicate (n - ds.length) none) M with
 | some (.ret d,_,M')=>some (d,M')
 | some (.nx,_,M')=>some (.non,M')
 | _=>none
theorem zFN:∀ {ds:List D} {vs:List V},zJ L H ds vs -> zAv L H (ds.map some ++ List.replicate (N.length - ds.length) none) (L2.zCa N vs):=fun {ds vs} r=>by
 unfold L2.zCa;have hl:=r.length;refine ⟨by simp [hl],fun i d q=>?_⟩;by_cases hi:i < ds.length
 ·rw [zQN (by simpa using hi),zQd] at q;rw [zQN (by simpa [hl] using hi),zQd];cases e1:ds[i]? with
  | none=>rw [e1] at q; cases q
  | some d'=>
   rw [e1] at q; cases q;obtain ⟨v,e2,r2⟩:=r.get e1;exact ⟨v,by rw [e2]; rfl,r2⟩
 ·rw [zRQ (by simpa using hi),List.getElem?_replicate] at q;split at q <;> cases q
theorem zA2 {P:Program} {w:World} {K:PySem.W.Frag} {mg:Str -> Option Value} {base:Heap} {qual:Str} {st:Stmt} {N:List Str} {b:FS} {n:Nat} (F:Fun K x qual st f fd) (S:FnScope N ps (zZ st)) (hn:ps.length = n)
  (hb:∀ (cdv:Value) (A:Around) (outer:List Env) (s:Shared) (H:Hp) (E:XK),Room k (A.deeper (envOfC qual (zZ st) s.heap.objs.size f cdv)) -> QSs (zH6 CX0 P w K mg base N qual (zZ st) f cdv A outer s H E).nox (zBZ st) b) :
  FnOk P w K mg base CX0 (k + 1) f fd ps (spF K n (zCG N.length b)):=by
 refine F.ok S (fun vs H Q E h=>?_) (fun cdv A outer s H vs Q E hr h=>⟨_,(hb cdv A outer s H E hr).un,?_⟩)
 ·obtain ⟨L,ds,M,d,M',c,r,hl,_⟩:=h;rw [r.length,hl,hn]
 ·obtain ⟨L,ds,M,d,M',c,r,hl,hf,q⟩:=h;unfold zCG at hf;split at hf
  ·rename_i d' σ' M1 e1;cases hf;exact ⟨L,_,M,_,_,_,c,zFN r,e1,fun L1 H1 s1 c1 v r1=>q L1 H1 v s1 c1 r1⟩
  ·rename_i σ' M1 e1;cases hf;exact ⟨L,_,M,_,_,_,c,zFN r,e1,fun L1 H1 s1 c1 τ' r1=>q L1 H1 .non s1 c1 (by unfold Rep; rfl)⟩
  ·cases hf
mutual
def D.und (n:Nat):D -> Bool
 | .tup ds=>D.unds n ds
 | .ref k=>decide (k < n)
 | _=>true
def D.unds (n:Nat):List D -> Bool
 | []=>true
 | d :: ds=>D.und n d && D.unds n ds
end
mutual
theorem Rep.less:∀ {d:D} {v:V},D.und L.length d = true -> Rep (L ++ N) H d v -> Rep L H d v
 | .non,_,_,h=>by unfold Rep at h ⊢; exact h
 | .bl _,_,_,h=>by unfold Rep at h ⊢; exact h
 | .int _,_,_,h=>by unfold Rep at h ⊢; exact h
 | .str _,_,_,h=>by unfold Rep at h ⊢; exact h
 | .tup ds,_,hb,h=>by
  unfold D.und at hb;unfold Rep at h ⊢;obtain ⟨a,vs,rfl,e,r⟩:=h;exact ⟨a,vs,rfl,e,zJ.less hb r⟩
 | .ref n,_,hb,h=>by
  unfold D.und at hb;unfold Rep at h ⊢;obtain ⟨a,rfl,e⟩:=h;exact ⟨a,rfl,by rwa [zQN (of_decide_eq_true hb)] at e⟩
theorem zJ.less:∀ {ds:List D} {vs:List V},D.unds L.length ds = true -> zJ (L ++ N) H ds vs -> zJ L H ds vs
 | [],_,_,h=>by unfold zJ at h ⊢; exact h
 | d :: ds,_,hb,h=>by
  unfold D.unds at hb;rw [zQq] at hb;unfold zJ at h ⊢;obtain ⟨v,r,rfl,h1,h2⟩:=h;exact ⟨v,r,rfl,Rep.less hb.1 h1,zJ.less hb.2 h2⟩
end
theorem zAP.less {κ:Type} {kf:D -> Option κ} {L N:List Addr} {H:Hp}:∀ {ps:List (D × D)} {vs:List (κ × V)},(ps.all fun p=>D.und L.length p.1 && D.und L.length p.2) = true -> zAP kf (L ++ N) H ps vs -> zAP kf L H ps vs
 | [],_,_,h=>h
 | p :: r,_,hb,h=>by
  rw [List.all_cons,zQq,zQq] at hb;obtain ⟨k,v,r',rfl,e,h1,h2⟩:=h;exact ⟨k,v,r',rfl,e,Rep.less hb.1.2 h1,zAP.less hb.2 h2⟩
def MO.und (n:Nat):MO -> Bool
 | .lst xs=>D.unds n xs
 | .fro xs=>D.unds n xs
 | .dict kvs=>kvs.all fun p=>D.und n p.1 && D.und n p.2
 | .dicT kvs=>kvs.all fun p=>D.und n p.1 && D.und n p.2
 | .set xs=>D.unds n xs
 | .froT kvs=>kvs.all fun p=>D.und n p.1 && D.und n p.2
 | .froK kvs=>kvs.all fun p=>D.und n p.1 && D.und n p.2
def zCw (g:FF):FF:=fun ds M=>match g ds M with
 | some (d,M')=>if D.und M.length d && (M'.take M.length).all (MO.und M.length) && decide (M.length <= M'.length) then some (d,M'.take M.length) else none
 | none=>none
theorem zDB {P:Program} {w:World} {K:PySem.W.Frag} {mg:Str -> Option Value} {base:Heap} {n:Nat} {g:FF} (h:FnOk P w K mg base CX0 k f fd ps (spF K n g)):FnOk P w K mg base CX0 k f fd ps (spF K n (zCw g)) :=
 h.imp fun vs H Q E ⟨L,ds,M,d,M',c,r,hl,hf,q⟩=>by
  unfold zCw at hf;split at hf
  ·rename_i d' M1 e1;split at hf
   ·rename_i hb;cases hf;simp only [zQq,zRT,zQr] at hb;obtain ⟨⟨hb1,hb2⟩,hb3⟩:=hb;refine ⟨L,ds,M,_,_,c,r,hl,e1,fun L1 H1 v s1 c1 r1=>?_⟩;obtain ⟨N,rfl⟩:=s1.pre;rw [<- c.len] at hb1 hb2 hb3;refine q L H1 v ⟨⟨[],by simp⟩,fun a ha=> .inl ha,s1.old,s1.tup,s1.frz⟩ ⟨?_,?_,fun i a m e2 e3=>?_⟩ (Rep.less hb1 r1)
    ·rw [zRe,<- c.len]; omega
    ·exact (List.nodup_append.mp c1.nd).1
    ·rw [<- c.len] at e3;have hi:i < L.length:=(zQJ.mp e2).1;have hm:m ∈ M1.take L.length:=zQ7 e3;rw [List.getElem?_take_of_lt hi] at e3;have z:=c1.obj i a m (zBw e2) e3;have bl:=hb2 m hm;cases m with
     | lst xs=>obtain ⟨ws,e4,r4⟩:=z; exact ⟨ws,e4,zJ.less bl r4⟩
     | fro xs=>obtain ⟨o,ws,e4,r4⟩:=z; exact ⟨o,ws,e4,zJ.less bl r4⟩
     | dict ps=>obtain ⟨vs,e,r⟩:=z; exact ⟨vs,e,zAP.less bl r⟩
     | dicT ps=>obtain ⟨vs,e,r⟩:=z; exact ⟨vs,e,zAP.less bl r⟩
     | set _=>exact z
     | froT ps=>obtain ⟨o,vs,e,r⟩:=z; exact ⟨o,vs,e,zAP.less bl r⟩
     | froK ps=>obtain ⟨o,vs,e,r⟩:=z; exact ⟨o,vs,e,zAP.less bl r⟩
   ·cases hf
  ·cases hf
def zGo (g:FF):FF:=fun ds M=>if D.unds 0 ds then match g ds [] with
  | some (d,_)=>if D.und 0 d then some (d,M) else none
  | none=>none
 else none
theorem zLp {P:Program} {w:World} {K:PySem.W.Frag} {mg:Str -> Option Value} {base:Heap} {n:Nat} {g:FF} (h:FnOk P w K mg base CX0 k f fd ps (spF K n g)):FnOk P w K mg base CX0 k f fd ps (spF K n (zGo g)) :=
 h.imp fun vs H Q E ⟨L,ds,M,d,M',c,r,hl,hf,q⟩=>by
  unfold zGo at hf;split at hf
  ·rename_i hb0;split at hf
   ·rename_i d' M1 e1;split at hf
    ·rename_i hb;cases hf;refine ⟨[],ds,[],_,_,⟨rfl,.nil,fun i a m e=>by simp at e⟩,zJ.less (L:=[]) (N:=L) hb0 (by simpa using r),hl,e1,fun L1 H1 v s1 c1 r1=>?_⟩;have gr:∀ a o,H a = some o -> H1 a = some o:=fun a o e=>s1.old a o e (by simp);exact q L H1 v (.grow gr) (c.grow gr) ((Rep.less (L:=[]) (N:=L1) hb (by simpa using r1)).more L |> fun z=>by simpa using z)
    ·cases hf
   ·cases hf
  ·cases hf
theorem zNx (hl:PE X l tl):PI X tg l (fun σ H R=>tl σ H fun x H1=>∃ a,x = .ref a /\ ((∃ xs,SqL X.K H1 a xs) /\ R (Itl X.K a) H1 \/ (∃ xs,SqT X.K H1 a xs) /\ R (Itt X.K a) H1)):=by
 intro zB s σ H R I h;refine thn (hl zB s σ H _ I h) fun v s1 ⟨y,H1,I1,r1,a,hy,h1⟩=>?_;subst hy;cases r1;have fpk:∀ b ∈ [s1.heap.objs.size],zBy X zB H1 b:=fun b hb=>by
  have e:b = s1.heap.objs.size:=by simpa using hb
  subst e;exact I1.fpOk (zQM _) (I1.hok.fresh (zQM _))
 rcases h1 with ⟨⟨xs,hq⟩,q⟩ | ⟨⟨xs,hq⟩,q⟩
 ·obtain ⟨its,rv,pl,hz⟩:=I1.list hq;exact wpAny_pyIter_list pl.isList ⟨s1.heap.objs.size,[s1.heap.objs.size],_,_,H1,rfl,I1.kept (t':=s1.toks) fun b o e=>zQH _ e,zIz a _,⟨_,zQQ _ rfl,rfl,rfl⟩,fpk,q⟩
 ·obtain ⟨its,rv,pl,hz⟩:=I1.tuple hq;exact wpAny_pyIter_tuple (show s1.heap.IsTuple a its.toArray from pl) ⟨s1.heap.objs.size,[s1.heap.objs.size],_,_,H1,rfl,I1.kept (t':=s1.toks) fun b o e=>zQH _ e,zHe a _,⟨_,zQQ _ rfl,rfl,rfl⟩,fpk,q⟩
def zGQ (x:EV) (xs:List D):Option (Mem -> Prop):=match x with
 | .dat (.ref n)=>some fun M=>M[n]? = some (.lst xs) \/ M[n]? = some (.fro xs)
 | _=>none
def zAT (f:FE):FI:=fun σ M=>match f σ M with
 | some (x,M1)=>match zf M1 x with
  | some xs=>some (xs,zGQ x xs,M1)
  | none=>none
 | none=>none
def zAC (f:FA):FI:=fun σ M=>match f σ M with
 | some ([.int j],M1)=>if -(2 ^ 62) <= j /\ j < 2 ^ 62 then some ((List.range j.toNat).map fun (k:Nat)=>D.int k,none,M1) else none
 | some ([.int i,.int j],M1)=>if -(2 ^ 62) <= i /\ i < 2 ^ 62 /\ -(2 ^ 62) <= j /\ j < 2 ^ 62 then some ((List.range (j - i).toNat).map fun (k:Nat)=>D.int (i + k),none,M1) else none
 | _=>none
theorem zNL (h:QE X e g):QI X tg e (zAT g):=.mk <| PI.imp (zNx h.un) fun τ H R zz=>by
 obtain ⟨L,σ,M,xs,gd,M',c,rs,hf,q⟩:=zz;unfold zAT at hf;split at hf
 ·rename_i y M1 e1;split at hf
  ·rename_i zs e2;cases hf;refine ⟨L,σ,M,_,_,c,rs,e1,fun L1 H1 v s1 c1 r1=>?_⟩;unfold zf at e2;cases t:zA8 y with
   | some ws=>
    rw [t] at e2; cases e2;obtain ⟨a,vs,rfl,e3,r3⟩:=zA4 r1 t;refine ⟨a,rfl,.inr ⟨⟨vs,.of e3⟩,q L1 H1 _ s1 c1 fun L2 H2 M2 s2 c2 _=>?_⟩⟩;have e4:=s2.tup a vs e3;have r4:=r3.stp s2;refine ⟨fun i d hd=>?_,⟨vs,.of e4,by rw [r4.length]; exact zQM _⟩⟩;obtain ⟨u,hu,ru⟩:=r4.get hd;refine ⟨⟨vs,u,.of e4,hu⟩,fun v H3 ⟨hH,hv⟩=>?_⟩;subst hH;have:=hv vs (.of e4);rw [hu] at this; cases this;exact ⟨fun _ _ z=>z,ru⟩
   | none=>
    rw [t] at e2;obtain ⟨a,vs,rfl,e3,r3⟩:=zAV c1 r1 e2;refine ⟨a,rfl,.inl ⟨⟨vs,.inl e3⟩,q L1 H1 _ s1 c1 fun L2 H2 M2 s2 c2 hgd=>?_⟩⟩;have key:∃ vs',SqL X.K H2 a vs' /\ zJ L2 H2 xs vs':=by
     cases y with
     | fl ys=>
      cases e2;obtain ⟨p',vs',hp',_,e5,e6,r6⟩:=r1;cases hp';exact ⟨vs',.of (s2.old _ _ e5 e6),r6.stp s2⟩
     | dat d=>
      cases d with
      | ref n=>
       unfold za Rep at r1;obtain ⟨a',ha',e5⟩:=r1;cases ha';have e6:L2[n]? = some a:=by obtain ⟨N,hN⟩:=s2.pre; rw [hN]; exact zBw e5
       rcases hgd with z | z
       ·obtain ⟨vs',e7,r7⟩:=c2.obj n a _ e6 z; exact ⟨vs',.of e7,r7⟩
       ·obtain ⟨o,vs',e7,r7⟩:=c2.obj n a _ e6 z; exact ⟨vs',.inl (.inr ⟨o,e7⟩),r7⟩
      | _=>cases e2
    obtain ⟨vs',hq,r7⟩:=key;refine ⟨fun i d hd=>?_,⟨vs',hq,by rw [r7.length]; exact zQM _⟩⟩;obtain ⟨u,hu,ru⟩:=r7.get hd;refine ⟨⟨vs',u,hq,hu⟩,fun v H3 ⟨hH,hv⟩=>?_⟩;subst hH;have:=hv vs' hq;rw [hu] at this; cases this;exact ⟨fun _ _ z=>z,ru⟩
  ·cases hf
 ·cases hf
theorem zDJ (h:zJ L H [.int j] vs):vs = [.int j]:=by
 unfold zJ at h;obtain ⟨v,r,rfl,h1,h2⟩:=h;unfold zJ at h2;unfold Rep at h1;subst h1 h2; rfl
theorem zLV {K:PySem.W.Frag} {L:List Addr} {H:Hp} {lo:Int} {n:Nat}:zPk K (Itr lo n) L H ((List.range n).map fun (k:Nat)=>D.int (lo + k)) none:=by
 intro L' H' M' s c _;refine ⟨fun i d hd=>?_,by simp [Itr]⟩;rw [zQd] at hd;cases q:(List.range n)[i]? with
 | none=>rw [q] at hd; cases hd
 | some k=>
  rw [q] at hd; cases hd;have hi:i < n:=by have:=(zQJ.mp q).1; simpa using this
  rw [List.getElem?_range hi] at q; cases q;refine ⟨hi,fun v H'' ⟨hH,hv⟩=>?_⟩;subst hH hv;exact ⟨fun _ _ z=>z,zAb⟩
theorem zIm {tg a:Expr} {g:FA} (hg:Gl X "range") (hm:X.mg "range" = none) (ha:QA X [a] g) (hl:zMk g 1) (hs:starEach [a] X.env = [(false,eval a X.env)]:=by rfl):QI X tg (.Call (.Name "range" p) [a] [] pos) (zAC g) :=
 .mk <| PI.imp (zI9 hg hm ha.un hs) fun τ H R zz=>by
  obtain ⟨L,σ,M,xs,gd,M',c,rs,hf,q⟩:=zz;unfold zAC at hf;split at hf
  ·rename_i j M1 e1;split at hf
   ·rename_i hb;cases hf;refine ⟨L,σ,M,_,_,c,rs,e1,fun L1 H1 vs s1 c1 r1=>⟨j,zDJ r1,hb.1,hb.2,q L1 H1 _ s1 c1 ?_⟩⟩;have z:=zLV (K:=X.K) (L:=L1) (H:=H1) (lo:=0) (n:=j.toNat);simpa using z
   ·cases hf
  ·rename_i e1;have:=hl _ _ _ _ e1;simp at this
  ·cases hf
end
section
variable {es rest:List Expr}
def zKu (f g:FT):FT:=fun σ M=>match f σ M with
 | some (false,M1)=>g σ M1
 | r=>r
def zCr (f:FT):FT:=fun σ M=>match f σ M with
 | some (k,M1)=>some (!k,M1)
 | none=>none
structure QW (X:Cx) (e:Expr) (f:FT):Prop where
 un:PW X e (trT X.K f)
theorem PW.imp (h:PW X e t) (hi:∀ τ H Q,t' τ H Q -> t τ H Q):PW X e t':=fun wh zB s σ H Q I q=>h wh zB s σ H Q I (hi _ _ _ q)
theorem zOF (h:QT X a f):QW X (.BoolOp .Or [a] pos) f:=.mk (zNP h.un)
theorem zPE (h1:QT X a f) (h2:QW X (.BoolOp .Or (b :: rest) pos) g):QW X (.BoolOp .Or (a :: b :: rest) pos) (zKu f g):=.mk <| PW.imp (zPW h1.un h2.un) fun τ H Q zz=>by
 obtain ⟨L,σ,M,d,M',c,rs,hf,q⟩:=zz;unfold zKu at hf;split at hf
 ·rename_i M1 e1;exact ⟨L,σ,M,_,_,c,rs,e1,fun L1 H1 s1 c1=>zJF ⟨L1,σ,M1,_,_,c1,rs.stp s1,hf,fun L2 H2 s2 c2=>q L2 H2 (s1.trans s2) c2⟩⟩
 ·rename_i hne;cases d with
  | false=>exact absurd hf (hne M')
  | true=>exact ⟨L,σ,M,_,_,c,rs,hf,fun L1 H1 s1 c1=>zJH (q L1 H1 s1 c1)⟩
theorem zP4 (h:QW X e f):QT X e f:=.mk (PW.pt h.un)
theorem zLK (h:QT X a f):QT X (.UnaryOp .Not a pos) (zCr f):=.mk <| PT.imp (zNV h.un) fun τ H Q zz=>by
 obtain ⟨L,σ,M,d,M',c,rs,hf,q⟩:=zz;unfold zCr at hf;split at hf
 ·rename_i k M1 e1;cases hf;exact ⟨L,σ,M,_,_,c,rs,e1,fun L1 H1 s1 c1=>q L1 H1 s1 c1⟩
 ·cases hf
def zGw (f g:FE):FE:=fun σ M=>match f σ M with
 | some (.dat (.bl true),M1)=>g σ M1
 | some (.dat (.bl false),M1)=>some (.dat (.bl false),M1)
 | _=>none
def zLA (f:FE):FE:=fun σ M=>match f σ M with
 | some (.dat (.bl k),M1)=>some (.dat (.bl (!k)),M1)
 | _=>none
theorem zCS (h:za H0 L H (.dat (.bl k)) v):v = .bl k:=by unfold za Rep at h; exact h
theorem zHq {op} (h:QE X a f):QE X (.BoolOp op [a] pos) f:=.mk (zNh h.un)
theorem zFc (h1:QE X a f) (h2:QE X (.BoolOp .And (b :: rest) pos) g):QE X (.BoolOp .And (a :: b :: rest) pos) (zGw f g):=.mk <| PE.imp (zNS h1.un h2.un) fun τ H Q zz=>by
 obtain ⟨L,σ,M,d,M',c,rs,hf,q⟩:=zz;unfold zGw at hf;split at hf
 ·rename_i M1 e1;exact ⟨L,σ,M,_,_,c,rs,e1,fun L1 H1 v s1 c1 r1=>⟨true,zCS r1,zJH ⟨L1,σ,M1,_,_,c1,rs.stp s1,hf,fun L2 H2 w s2 c2 r2=>q L2 H2 w (s1.trans s2) c2 (r2.back s1 c s2.sub)⟩⟩⟩
 ·rename_i M1 e1;cases hf;exact ⟨L,σ,M,_,_,c,rs,e1,fun L1 H1 v s1 c1 r1=>⟨false,zCS r1,zJF (q L1 H1 _ s1 c1 (by have:=zCS r1; subst this; exact r1))⟩⟩
 ·cases hf
theorem zOQ (h:QE X a f):QE X (.UnaryOp .Not a pos) (zLA f):=.mk <| PE.imp (zOJ h.un) fun τ H Q zz=>by
 obtain ⟨L,σ,M,d,M',c,rs,hf,q⟩:=zz;unfold zLA at hf;split at hf
 ·rename_i k M1 e1;cases hf;exact ⟨L,σ,M,_,_,c,rs,e1,fun L1 H1 v s1 c1 r1=>⟨k,zCS r1,q L1 H1 _ s1 c1 (by unfold za Rep; rfl)⟩⟩
 ·cases hf
def vIf (t:FT) (f g:FE):FE:=fun σ M=>match t σ M with
 | some (true,M1)=>f σ M1
 | some (false,M1)=>g σ M1
 | none=>none
theorem zLv (hc:QT X c t) (h1:QE X a f) (h2:QE X b g):QE X (.IfExp c a b pos) (vIf t f g):=.mk <| PE.imp (zK6 hc.un h1.un h2.un) fun τ H Q zz=>by
 obtain ⟨L,σ,M,d,M',c,rs,hf,q⟩:=zz;unfold vIf at hf;split at hf
 ·rename_i M1 e1;exact ⟨L,σ,M,_,_,c,rs,e1,fun L1 H1 s1 c1=>zJH ⟨L1,σ,M1,_,_,c1,rs.stp s1,hf,fun L2 H2 w s2 c2 r2=>q L2 H2 w (s1.trans s2) c2 (r2.back s1 c s2.sub)⟩⟩
 ·rename_i M1 e1;exact ⟨L,σ,M,_,_,c,rs,e1,fun L1 H1 s1 c1=>zJF ⟨L1,σ,M1,_,_,c1,rs.stp s1,hf,fun L2 H2 w s2 c2 r2=>q L2 H2 w (s1.trans s2) c2 (r2.back s1 c s2.sub)⟩⟩
 ·cases hf
abbrev KM:=EV -> List D -> Mem -> Option (D × Mem)
def fM (k:KM) (f:FE) (g:FA):FE:=fun σ M=>match f σ M with
 | some (x,M1)=>match zAO M1 x with
  | some _=>match g σ M1 with
   | some (ds,M2)=>match k x ds M2 with
    | some (d,M3)=>some (.dat d,M3)
    | none=>none
   | none=>none
  | none=>none
 | none=>none
def zJ6 (K:PySem.W.Frag) (r:V -> List V -> Hp -> VK -> Prop) (k:KM):Prop:=∀ {L:List Addr} {M M':Mem} {H H0:Hp} {x:EV} {ds:List D} {d:D} {v:V} {vs:List V} {Q:VK},Cor K L M H -> za H0 L H x v -> zJ L H ds vs -> k x ds M = some (d,M') ->
 (∀ L' H' u,Stp L H L' H' -> Cor K L' M' H' -> Rep L' H' d u -> Q u H') -> r v vs H Q
theorem zF7 {K:PySem.W.Frag} {r:V -> List V -> Hp -> VK -> Prop} {k:KM} {f:FE} {g:FA} (hk:zJ6 K r k) {τ:Sv} {H:Hp} {Q:VK} (h:trE K (fM k f g) τ H Q):tBM K "list" r (trE K f) (trA K g) τ H Q:=by
 obtain ⟨L,σ,M,d,M',c,rs,hf,q⟩:=h;unfold fM at hf;split at hf
 ·rename_i x M1 e1;split at hf
  ·rename_i xs e2;split at hf
   ·rename_i ds M2 e3;split at hf
    ·rename_i d' M3 e4;cases hf;refine ⟨L,σ,M,_,_,c,rs,e1,fun L1 H1 v s1 c1 r1=>?_⟩;obtain ⟨a,vs,rfl,e5,r5⟩:=zAV c1 r1 e2;refine ⟨.inl ⟨rfl,vs,.inl e5⟩,L1,σ,M1,_,_,c1,rs.stp s1,e3,fun L2 H2 ws s2 c2 r2=>?_⟩;exact hk c2 (r1.stp s2) r2 e4 fun L3 H3 u s3 c3 r3=>q L3 H3 u ((s1.trans s2).trans s3) c3 r3
    ·cases hf
   ·cases hf
  ·cases hf
 ·cases hf
def zAA:KM:=fun x ds M=>match x,ds with
 | .dat (.ref n),[d]=>match M[n]? with
  | some (.lst xs)=>if xs.length < sizeLine then some (.non,M.set n (.lst (xs ++ [d]))) else none
  | _=>none
 | _,_=>none
theorem zJ.one (h:zJ L H [d] vs):∃ v,vs = [v] /\ Rep L H d v:=by
 unfold zJ at h;obtain ⟨v,r,rfl,h1,h2⟩:=h;unfold zJ at h2;subst h2;exact ⟨v,rfl,h1⟩
theorem zHT {K:PySem.W.Frag}:zJ6 K zIN zAA:=by
 intro L M M' H H0 x ds d v vs Q c rx rd hk q;unfold zAA at hk;split at hk
 ·rename_i n d';split at hk
  ·rename_i xs e1;split at hk
   ·rename_i hz;cases hk;unfold za Rep at rx;obtain ⟨a,rfl,e2⟩:=rx;obtain ⟨ws,e3,r3⟩:=c.obj n a _ e2 e1;obtain ⟨w,rfl,r4⟩:=rd.one;obtain ⟨c5,s5⟩:=c.write e2 e1 (r3.app (.cons r4 .nil));exact ⟨a,ws,w,rfl,rfl,e3,by rw [r3.length]; exact hz,q L _ _ s5 c5 (by unfold Rep; rfl)⟩
   ·cases hk
  ·cases hk
 ·cases hk
theorem zJm (h:QE X a f) (hg:QA X [e] g) (hbase:attributeBase a "append" X.env (eval a X.env) = eval a X.env:=by rfl)
  (hfew:((backTo cpos (starEach [e] X.env)).all (fun x=> !x.1) && (backToKw cpos (keywordEach [] X.env)).all (fun x=>x.1.isSome) && decide ([e].length + ([]:List Keyword).length + (if ([]:List Keyword).isEmpty then 0 else 1) < 30)) = true:=by rfl)
  (hline:(apos.endLine == cpos.line) = true:=by rfl) (hs:starEach [e] X.env = (false,eval e X.env) :: starEach [] X.env:=by rfl) (hplain:(backTo cpos (starEach [] X.env)).any (·.1) = false:=by rfl) :
  QE X (.Call (.Attribute a "append" apos) [e] [] cpos) (fM zAA f g) :=
 .mk <| PE.imp (zIA PySem.F.plainAttrs_list PySem.F.slot_list_append PySem.F.type_list_append zIj h.un hg.un hbase hfew hline hs hplain) fun _ _ _ z=>zF7 zHT z
def zEj:KM:=fun x ds M=>match x,ds with
 | .dat (.ref n),[.int i]=>match M[n]? with
  | some (.lst xs)=>match ixN xs.length i with
   | some k=>match xs[k]? with
    | some d=>if -(2 ^ 63) <= i /\ i < 2 ^ 63 then some (d,M.set n (.lst (xs.eraseIdx k))) else none
    | none=>none
   | none=>none
  | _=>none
 | _,_=>none
theorem zLY {K:PySem.W.Frag}:zJ6 K zKt zEj:=by
 intro L M M' H H0 x ds d v vs Q c rx rd hk q;unfold zEj at hk;split at hk
 ·rename_i n i;split at hk
  ·rename_i xs e1;split at hk
   ·rename_i k e2;split at hk
    ·rename_i d' e3;split at hk
     ·rename_i hb;cases hk;unfold za Rep at rx;obtain ⟨a,rfl,e4⟩:=rx;obtain ⟨ws,e5,r5⟩:=c.obj n a _ e4 e1;obtain ⟨u,e6,r6⟩:=r5.get e3;obtain ⟨c5,s5⟩:=c.write e4 e1 (r5.eraseIdx k);exact ⟨a,ws,i,k,u,rfl,zDJ rd,e5,hb.1,hb.2,by rw [r5.length]; exact (zGA e2).1,e6,q L _ _ s5 c5 (r6.stp s5)⟩
     ·cases hk
    ·cases hk
   ·cases hk
  ·cases hk
 ·cases hk
theorem zO9 (h:QE X a f) (hg:QA X [e] g) (hbase:attributeBase a "pop" X.env (eval a X.env) = eval a X.env:=by rfl)
  (hfew:((backTo cpos (starEach [e] X.env)).all (fun x=> !x.1) && (backToKw cpos (keywordEach [] X.env)).all (fun x=>x.1.isSome) && decide ([e].length + ([]:List Keyword).length + (if ([]:List Keyword).isEmpty then 0 else 1) < 30)) = true:=by rfl)
  (hline:(apos.endLine == cpos.line) = true:=by rfl) (hs:starEach [e] X.env = (false,eval e X.env) :: starEach [] X.env:=by rfl) (hplain:(backTo cpos (starEach [] X.env)).any (·.1) = false:=by rfl) :
  QE X (.Call (.Attribute a "pop" apos) [e] [] cpos) (fM zEj f g) :=
 .mk <| PE.imp (zIA PySem.F.plainAttrs_list PySem.F.slot_list_pop PySem.F.type_list_pop zLL h.un hg.un hbase hfew hline hs hplain) fun _ _ _ z=>zF7 zLY z
def zGs (x:EV) (i:D) (d:D) (M:Mem):Option Mem:=match x,i with
 | .dat (.ref n),.int i=>match M[n]? with
  | some (.lst xs)=>match ixN xs.length i with
   | some j=>some (M.set n (.lst (xs.set j d)))
   | none=>none
  | _=>none
 | _,_=>none
def zHz (fv fo fi:FE):FS:=fun σ M=>match toD fv σ M with
 | some (d,M1)=>match fo σ M1 with
  | some (x,M2)=>match toD fi σ M2 with
   | some (i,M3)=>match zGs x i d M3 with
    | some M4=>some (.nx,σ,M4)
    | none=>none
   | none=>none
  | none=>none
 | none=>none
theorem zKW (hv:QE X v fv) (ho:QE X o fo) (hi:QE X i fi)
  (ha:∀ v,assign (.Subscript o i p) X.env v = (do
   let ov <- holding [v] (eval o X.env);let iv <- holding [v,ov] (eval i X.env);standAt p;holding [v,ov,iv] (setItem ov iv v);release [v,ov,iv] []):=by intro _; rfl)
  (hs:swapsWithSole [.Subscript o i p] v pos.line X.env = pure false:=by rfl) (hw:swappedStores [.Subscript o i p] v X.env = pure none:=by rfl) (h1:(assignEach [.Subscript o i p] X.env).map (·.2) = [assign (.Subscript o i p) X.env]:=by rfl) :
  QS X (.Assign [.Subscript o i p] v pos) (zHz fv fo fi):=.mk <| PS.imp (zKx (zBI hv).un (zOD ho.un (zBI hi).un zKq ha) hs hw h1) fun E τ H zz=>by
 obtain ⟨L,σ,M,out,σ',M',c,rs,hf,q⟩:=zz;unfold zHz at hf;split at hf
 ·rename_i d M1 e1;split at hf
  ·rename_i x M2 e2;split at hf
   ·rename_i j M3 e3;split at hf
    ·rename_i M4 e4;cases hf;refine ⟨L,σ,M,_,_,c,rs,e1,fun L1 H1 u s1 c1 r1=>⟨L1,σ,M1,_,_,c1,rs.stp s1,e2,fun L2 H2 w s2 c2 r2=>⟨L2,σ,M2,_,_,c2,rs.stp (s1.trans s2),e3,fun L3 H3 z s3 c3 r3=>?_⟩⟩⟩;have st:=(s1.trans s2).trans s3;unfold zGs at e4;split at e4
     ·rename_i n k;split at e4
      ·rename_i xs e5;split at e4
       ·rename_i m e6;cases e4;have r2':=r2.stp s3;unfold za Rep at r2';obtain ⟨a,rfl,e7⟩:=r2';obtain ⟨ws,e8,r8⟩:=c3.obj n a _ e7 e5;obtain ⟨c9,s9⟩:=c3.write e7 e5 (zJ.set ((r1.stp s2).stp s3) m r8);exact ⟨a,ws,k,m,rfl,by unfold Rep at r3; exact r3,e8,by rw [r8.length]; exact e6,q L3 _ (st.trans s9) c9 τ ((rs.stp st).stp s9)⟩
       ·cases e4
      ·cases e4
     ·cases e4
    ·cases hf
   ·cases hf
  ·cases hf
 ·cases hf
end
section
def zDc:D -> Option V
 | .non=>some .non
 | .bl k=>some (.bl k)
 | .int i=>some (.int i)
 | .str x=>some (.str x)
 | _=>none
theorem zDC (h:Rep L H d v) (e:zDc d = some u):v = u:=by
 cases d with
 | non=>cases e; unfold Rep at h; exact h
 | bl _=>cases e; unfold Rep at h; exact h
 | int _=>cases e; unfold Rep at h; exact h
 | str _=>cases e; unfold Rep at h; exact h
 | tup _=>cases e
 | ref _=>cases e
def zHi (neg:Bool):K2:=fun x y M=>match x,y with
 | .dat d,.dat d'=>match zDc d,zDc d' with
  | some u,some w=>if zMB u w then some (.dat (.bl (if neg then !decide (u = w) else decide (u = w))),M) else none
  | _,_=>none
 | _,_=>none
theorem zE0 (h:zHi neg x y M = some (r,M')):∃ d d' u w,x = .dat d /\ y = .dat d' /\ zDc d = some u /\ zDc d' = some w /\ zMB u w = true /\ r = .dat (.bl (if neg then !decide (u = w) else decide (u = w))) /\ M' = M:=by
 unfold zHi at h;split at h
 ·rename_i d d';split at h
  ·rename_i u w e1 e2;split at h
   ·rename_i hs;cases h;exact ⟨d,d',u,w,rfl,rfl,e1,e2,hs,rfl,rfl⟩
   ·cases h
  ·cases h
 ·cases h
theorem zIb {K:PySem.W.Frag}:zBz K rEq (zHi false):=by
 intro L M M' H H0 x y d v w Q c rx ry hk q;obtain ⟨d1,d2,u,z,rfl,rfl,e1,e2,hs,rfl,rfl⟩:=zE0 hk;have a1:=zDC rx e1;have a2:=zDC ry e2;subst a1 a2;exact ⟨hs,q L H _ (.refl L H) c (zBg (L:=L) (H:=H))⟩
theorem zLq {K:PySem.W.Frag}:zBz K rNe (zHi true):=by
 intro L M M' H H0 x y d v w Q c rx ry hk q;obtain ⟨d1,d2,u,z,rfl,rfl,e1,e2,hs,rfl,rfl⟩:=zE0 hk;have a1:=zDC rx e1;have a2:=zDC ry e2;subst a1 a2;exact ⟨hs,q L H _ (.refl L H) c (zBg (L:=L) (H:=H))⟩
def zNk (neg:Bool) (K:PySem.W.Frag):R2:=fun x y H Q=>∃ p q xs,x = .ref p /\ y = .ref q /\ SqL K H p xs /\ SqL K H q [] /\ Q (.bl (if neg then !xs.isEmpty else xs.isEmpty)) H
theorem zF1 (r:zV [] its):its = []:=by cases r; rfl
theorem zG8 (hu:X.A.units < cLine):OpR X (compareOp .Eq) (zNk false X.K):=by
 intro zB s σ H x y v u Q I rx ry h;obtain ⟨p,q,xs,rfl,rfl,h1,h2,hq⟩:=h;cases rx;cases ry;obtain ⟨its,rv,pl,_⟩:=I.list h1;obtain ⟨its2,rv2,pl2,_⟩:=I.list h2;cases zF1 rv2;cases rv with
 | nil=>exact SeqAt.eq_listAt (e:=fun _=>true) pl.isList pl2.isList rfl hu (fun j h1=>by simp at h1) ⟨.bl true,H,I,rfl,hq⟩
 | cons _ _=>exact SeqAt.eq_list_lengthsAt pl.isList pl2.isList (by simp) hu ⟨.bl false,H,I,rfl,hq⟩
theorem zJ2 (hu:X.A.units < cLine):OpR X (compareOp .NotEq) (zNk true X.K):=by
 intro zB s σ H x y v u Q I rx ry h;obtain ⟨p,q,xs,rfl,rfl,h1,h2,hq⟩:=h;cases rx;cases ry;obtain ⟨its,rv,pl,_⟩:=I.list h1;obtain ⟨its2,rv2,pl2,_⟩:=I.list h2;cases zF1 rv2;cases rv with
 | nil=>exact SeqAt.RcNeAt.lists (e:=fun _=>true) pl.isList pl2.isList rfl hu (fun j h1=>by simp at h1) _ _ _ _ ⟨.bl false,H,I,rfl,hq⟩
 | cons _ _=>exact SeqAt.RcNeAt.lists_lengths pl.isList pl2.isList (by simp) hu _ _ _ _ ⟨.bl true,H,I,rfl,hq⟩
def zLX (neg:Bool):K2:=fun x y M=>match zAO M x,zAO M y with
 | some xs,some []=>some (.dat (.bl (if neg then !xs.isEmpty else xs.isEmpty)),M)
 | _,_=>none
theorem zFV {K:PySem.W.Frag} {neg:Bool}:zBz K (zNk neg K) (zLX neg):=by
 intro L M M' H H0 x y d v w Q c rx ry hk q;unfold zLX at hk;split at hk
 ·rename_i xs e1 e2;cases hk;obtain ⟨p1,vs,rfl,h1,r1⟩:=zAV c rx e1;obtain ⟨p2,ws,rfl,h2,r2⟩:=zAV c ry e2;unfold zJ at r2;subst r2;refine ⟨p1,p2,vs,rfl,rfl,.inl h1,.inl h2,q L H _ (.refl L H) c ?_⟩;have:vs.isEmpty = xs.isEmpty:=by
   have:=r1.length;cases vs <;> cases xs <;> simp_all
  rw [this];exact (zBg (L:=L) (H:=H))
 ·cases hk
def kOr (k1 k2:K2):K2:=fun x y M=>match k1 x y M with
 | some r=>some r
 | none=>k2 x y M
theorem zFX {K:PySem.W.Frag} {r1 r2:R2} {k1 k2:K2} (h1:zBz K r1 k1) (h2:zBz K r2 k2):zBz K (fun x y H Q=>r1 x y H Q \/ r2 x y H Q) (kOr k1 k2):=by
 intro L M M' H H0 x y d v w Q c rx ry hk q;unfold kOr at hk;split at hk
 ·rename_i r e1;cases hk;exact .inl (h1 c rx ry e1 q)
 ·exact .inr (h2 c rx ry hk q)
abbrev kEq:K2:=kOr (zHi false) (zLX false)
abbrev kNe:K2:=kOr (zHi true) (zLX true)
theorem zOd (hu:X.A.units < cLine) (h1:QE X a f) (h2:QE X b g):QE X (.Compare a [.Eq] [b] pos) (fOp kEq f g):=zO7 (zFX zIb zFV) (zMw.or (zG8 hu)) h1 h2 (zDa _)
theorem zO0 (hu:X.A.units < cLine) (h1:QE X a f) (h2:QE X b g):QT X (.Compare a [.Eq] [b] pos) (tst (fOp kEq f g)):=zCf (zFX zIb zFV) (zMw.or (zG8 hu)) h1 h2 (zDa _)
theorem zMy (hu:X.A.units < cLine) (h1:QE X a f) (h2:QE X b g):QT X (.Compare a [.NotEq] [b] pos) (tst (fOp kNe f g)):=zCf (zFX zLq zFV) (zPb.or (zJ2 hu)) h1 h2 (zDa _)
end
section
theorem zK9 {prog:Program} {w:World} {A:Around} {E:Value -> Shared -> Prop} {s:Shared} {t b:Addr} {ws:List Value} {Q:Value -> Shared -> Prop} (ht:IsTup s.heap t #[]) (hb:IsTup s.heap b ws.toArray) (h1:Q (.ref b) s) :
  wpAny (model prog w) A (binaryOp .Add (.ref t) (.ref b)) Q E s:=by
 obtain ⟨⟨cls,dd,data,sl⟩,ho,hc,n,hd⟩:=id ht;obtain ⟨⟨cls2,dd2,data2,sl2⟩,ho2,hc2,n2,hd2⟩:=id hb;simp only at hc hd hc2 hd2;subst hc hd hc2 hd2
 exact concat_meets ⟨_,ho,rfl⟩ ⟨_,ho2,rfl⟩ noFill_tuple_add seq_tuple_add PySem.F.slot_tuple_add PySem.F.entry_tuple_add (PySem.F.args_tuple_add_2 _ _)
   (tuple_addW0 t b #[] ws.toArray n n2 dd dd2 sl sl2 (by simp)) ⟨ho,ho2,h1⟩
def zKi (K:PySem.W.Frag):R2:=fun x y H Q=>∃ a b ys,x = .ref a /\ y = .ref b /\ SqT K H a [] /\ SqT K H b ys /\ Q (.ref b) H
theorem zKs:OpR X (binaryOp .Add) (zKi X.K):=by
 intro zB s σ H x y v u Q I rx ry h;obtain ⟨a,b,ys,rfl,rfl,ha,hb,q⟩:=h;cases rx;cases ry;obtain ⟨its,r1,p1,_⟩:=I.tuple ha;obtain ⟨its2,r2,p2,_⟩:=I.tuple hb;cases zF1 r1;exact zK9 p1 p2 ⟨.ref b,H,I,rfl,q⟩
def zKC:K2:=fun x y M=>match zA8 x,zA8 y with
 | some xs,some ys=>if xs.length + ys.length <= sizeLine then some (.dat (.tup (xs ++ ys)),M) else none
 | _,_=>none
theorem zKr {K:PySem.W.Frag}:zBz K (fun x y H Q=>zMt K x y H Q \/ zKi K x y H Q) zKC:=by
 intro L M M' H H0 x y d v w Q c rx ry hk q;unfold zKC at hk;split at hk
 ·rename_i xs ys e1 e2;split at hk
  ·rename_i hz;cases hk;obtain ⟨p1,vs,rfl,h1,r1⟩:=zA4 rx e1;obtain ⟨p2,ws,rfl,h2,r2⟩:=zA4 ry e2;cases xs with
   | nil=>
    refine .inr ⟨p1,p2,ws,rfl,rfl,.of (by unfold zJ at r1; subst r1; exact h1),.of h2,q L H _ (.refl L H) c ?_⟩;unfold za Rep;exact ⟨p2,ws,rfl,h2,r2⟩
   | cons x0 xr=>
    have hv:vs ≠ []:=fun z=>by have:=r1.length; rw [z] at this; simp at this
    refine .inl ⟨p1,p2,vs,ws,rfl,rfl,.of h1,.of h2,hv,by rw [r1.length,r2.length]; exact hz,fun z=>?_,fun z pp hp=>?_⟩
    ·have:ys = []:=by
      have:=r2.length; rw [z] at this;cases ys with
      | nil=>rfl
      | cons _ _=>simp at this
     subst this;refine q L H _ (.refl L H) c ?_;unfold za Rep;rw [zQ0];exact ⟨p1,vs,rfl,h1,r1⟩
    ·exact q L _ _ (.upd hp) (c.upd hp) (Rep.newTup hp (r1.app r2))
  ·cases hk
 ·cases hk
abbrev zAk:K2:=kOr zPt zKC
theorem zOS (h1:QE X a f) (h2:QE X b g):QE X (.BinOp a .Add b pos) (fOp zAk f g):=zGZ (zFX (zET fun _ _ _ _=>zAb) zKr) (zNz.or (zMi.or zKs)) h1 h2
structure Kinds (K:PySem.W.Frag):Prop where
 k:∀ t T,t ∈ ["NoneType", "bool", "int", "str", "list", "tuple", "dict"] -> T ∈ ["int", "bool", "str", "tuple"] -> PySem.W.kitOne K (.type t) (.type T) = some (decide (t = T) || (decide (t = "bool") && decide (T = "int")))
def zH7 (M:Mem):EV -> Option String
 | .dat .non=>some "NoneType"
 | .dat (.bl _)=>some "bool"
 | .dat (.int _)=>some "int"
 | .dat (.str _)=>some "str"
 | .dat (.tup _)=>some "tuple"
 | .fl _=>some "list"
 | .dat (.ref n)=>match M[n]? with
  | some (.lst _)=>some "list"
  | some (.fro _)=>some "list"
  | some (.dict _)=>some "dict"
  | some (.dicT _)=>some "dict"
  | _=>none
theorem zNf {K:PySem.W.Frag} {L:List Addr} {M:Mem} {H H0:Hp} {x:EV} {v:V} {t:String} (c:Cor K L M H) (r:za H0 L H x v) (h:zH7 M x = some t):TyOf K H v (.type t) /\ t ∈ ["NoneType", "bool", "int", "str", "list", "tuple", "dict"]:=by
 unfold zH7 at h;split at h
 ·cases h; unfold za Rep at r; subst r; exact ⟨.non,by simp⟩
 ·cases h; unfold za Rep at r; subst r; exact ⟨.bl _,by simp⟩
 ·cases h; unfold za Rep at r; subst r; exact ⟨.int _,by simp⟩
 ·cases h; unfold za Rep at r; subst r; exact ⟨.str _,by simp⟩
 ·cases h; unfold za Rep at r; obtain ⟨a,vs,rfl,e,_⟩:=r; exact ⟨.tup e,by simp⟩
 ·cases h;obtain ⟨p,vs,rfl,_,e,_⟩:=r;exact ⟨.lst e,by simp⟩
 ·unfold za Rep at r;obtain ⟨a,rfl,e⟩:=r;split at h
  ·rename_i e1; cases h; obtain ⟨vs,q,_⟩:=c.obj _ a _ e e1; exact ⟨.lst q,by simp⟩
  ·rename_i e1; cases h; obtain ⟨o,vs,q,_⟩:=c.obj _ a _ e e1; exact ⟨.frz q,by simp⟩
  ·rename_i e1; cases h; obtain ⟨vs,q,_⟩:=c.obj _ a _ e e1; exact ⟨.dK q,by simp⟩
  ·rename_i e1; cases h; obtain ⟨vs,q,_⟩:=c.obj _ a _ e e1; exact ⟨.dT q,by simp⟩
  ·cases h
def isT (t T:String):Bool:=decide (t = T) || (decide (t = "bool") && decide (T = "int"))
def zDX (T:String) (f:FE):FE:=fun σ M=>match f σ M with
 | some (x,M1)=>match zH7 M1 x with
  | some t=>some (.dat (.bl (isT t T)),M1)
  | none=>none
 | none=>none
def zOV (K:PySem.W.Frag) (T:String):List V -> Hp -> VK -> Prop:=fun xs H Q=>∃ x t b,xs = [x,.ty T] /\ TyOf K H x t /\ PySem.W.kitOne K t (.type T) = some b /\ Q (.bl b) H
theorem zKY:zBa X (.builtin "isinstance") (zOV X.K T):=by
 intro zB s σ H xs us Q I r h;obtain ⟨x,t,b,rfl,ty,e,q⟩:=h;cases r with
 | cons r1 r2=>
  cases r2 with
  | cons r3 r4=>
   cases r4;cases r3;exact zIp I r1 ty e fun tk=>⟨.bl b,H,I.tok _,rfl,q⟩
theorem zFH (hK:Kinds X.K) (hT:T ∈ ["int", "bool", "str", "tuple"]) (hg:Gl X "isinstance") (hm:X.mg "isinstance" = none) (hg2:Gl X y) (hm2:X.mg y = none) (hv2:bootBuiltins y = some (.type T)) (hn2:y ≠ "__name__") (hd2:(y == ("__debug__" : Str)) = false) (h:QE X e f)
  (he:starEach (e :: [.Name y p2]) X.env = (false,eval e X.env) :: starEach [.Name y p2] X.env:=by rfl) (he2:starEach [.Name y p2] X.env = (false,eval (.Name y p2) X.env) :: starEach [] X.env:=by rfl) (hpl:(backTo pos (starEach [.Name y p2] X.env)).any (·.1) = false:=by rfl) :
  QE X (.Call (.Name "isinstance" p1) [e,.Name y p2] [] pos) (zDX T f) :=
 .mk <| PE.imp (zGk (r:=zOV X.K T) zKY hg hm (by rfl) (zCU h.un (zCU (zMN (v:=.ty T) hg2 hm2 hv2 rfl hn2 hd2) zD2 he2) he) (by decide) (by decide) he hpl) fun τ H Q zz=>by
  obtain ⟨L,σ,M,d,M',c,rs,hf,q⟩:=zz;unfold zDX at hf;split at hf
  ·rename_i x M1 e1;split at hf
   ·rename_i t e2;cases hf;refine ⟨L,σ,M,_,_,c,rs,e1,fun L1 H1 v s1 c1 r1=>?_⟩;obtain ⟨ty,ht⟩:=zNf c1 r1 e2;exact ⟨v,_,_,rfl,ty,hK.k t T ht hT,q L1 H1 _ s1 c1 (zBg (L:=L1) (H:=H1))⟩
   ·cases hf
  ·cases hf
theorem zJ.two (h:zJ L H [d,d'] vs):∃ v v',vs = [v,v'] /\ Rep L H d v /\ Rep L H d' v':=by
 unfold zJ at h;obtain ⟨v,r,rfl,h1,h2⟩:=h;obtain ⟨v',rfl,h3⟩:=h2.one;exact ⟨v,v',rfl,h1,h3⟩
section
theorem zKM (hg:Gl X "len") (hm:X.mg "len" = none) (ha:QAE X [e] fa) (he:starEach [e] X.env = (false,eval e X.env) :: starEach [] X.env:=by rfl) (hpl:(backTo pos (starEach [] X.env)).any (·.1) = false:=by rfl):QE X (.Call (.Name "len" p) [e] [] pos) (fB zAW fa) :=
 zDm zMR zFn PySem.boot_len hg hm ha (by decide) (by decide) he hpl
theorem zLu (hg:Gl X "tuple") (hm:X.mg "tuple" = none) (ha:QAE X [e] fa) (he:starEach [e] X.env = (false,eval e X.env) :: starEach [] X.env:=by rfl) (hpl:(backTo pos (starEach [] X.env)).any (·.1) = false:=by rfl):QE X (.Call (.Name "tuple" p) [e] [] pos) (fB zAU fa) :=
 zEA zI0 zEm (by rfl) hg hm ha (by decide) (by decide) he hpl
end
end
def zC6 (sc scope:Scope):Bool:=scope.names.all fun y=>
 (y.2 != .local || scope.names.lookup y.1 == some .local) && (y.2 != .cell || scope.names.lookup y.1 == some .cell) && (y.2 != .free || (sc.names.lookup y.1 == some .cell || sc.names.lookup y.1 == some .free))
def zDo (N:List Str) (scope:Scope) (own:List Nat):Bool:=(List.range N.length).all fun i=>match N[i]? with
 | some x=>decide (i ∈ own) || (scope.names.lookup x == none) || (scope.names.lookup x == some .free)
 | none=>true
theorem zDG (hk:scope.kind = .function) (hs:X.env.scope = sc) (hN:X.N = N) (h1:zC6 sc scope = true) (h2:zDo N scope own = true):CompIn X scope own:=by
 unfold zC6 at h1;rw [zQr] at h1;refine ⟨⟨hk,fun y hy e=>?_,fun y hy e=>?_,fun y hy e=>?_⟩,fun i x e=>?_⟩
 ·have:=h1 y hy;simp [e] at this;exact this
 ·have:=h1 y hy;simp [e] at this;exact this
 ·have:=h1 y hy;simp [e] at this;show X.env.scope.names.lookup y.1 = _ \/ X.env.scope.names.lookup y.1 = _;rw [hs];exact this
 ·unfold zDo at h2;rw [zQr] at h2;rw [hN] at e;have hi:i < N.length:=(zQJ.mp e).1;have:=h2 i (by simpa using hi);rw [e] at this;simp only [Bool.or_eq_true,zRT,beq_iff_eq,or_assoc] at this;exact this
def zFY (K:PySem.W.Frag):Bool:=K.all fun p=>match p.2.cls with
 | .type n=>n != "list"
 | _=>true
theorem zGV:∀ {K:PySem.W.Frag},K.lookup a = some o -> (a,o) ∈ K
 | [],h=>by cases h
 | (b,u) :: r,h=>by
  have h':List.lookup a ((b,u) :: r) = some o:=h;rw [zSL] at h';cases q:a == b with
  | true=>rw [q] at h'; cases h'; rw [beq_iff_eq.mp q]; exact zQU
  | false=>rw [q] at h'; exact zQT _ (zGV h')
theorem zJU {K:PySem.W.Frag} (h:zFY K = true) {o:Obj} (e:K.lookup a = some o) (hc:o.cls = .type "list"):False:=by
 unfold zFY at h;rw [zQr] at h;have:=h (a,o) (zGV e);simp [hc] at this
theorem zE7:∀ (ns:List Int),zJ L H (ns.map D.int) (ns.map V.int)
 | []=> .nil
 | n :: r=> .cons (by unfold Rep; rfl) (zE7 r)
theorem zJT {K:PySem.W.Frag} {m:FF} {H:Hp} {a:Addr} {ns:List Int} {E:XK} (hL:zFY K = true) (hO:zMM H) (hS:SqL K H a (ns.map V.int)) (h:∃ M',m [.ref 0] [.fro (ns.map D.int)] = some (.bl true,M')) :
  spF K 1 m [.ref a] H (fun v _=>v = .bl true) E:=by
 obtain ⟨M',e⟩:=h;have hf:∃ o,H a = some (.frz o (.lst (ns.map V.int))):=by
  rcases hS with (h1 | h1) | ⟨o,its,n,h1,h2,_⟩
  ·rcases hO a with z | ⟨o,xs,z⟩
   ·rw [h1] at z; cases z
   ·rw [h1] at z; cases z
  ·exact h1
  ·exact (zJU hL h1 h2).elim
 obtain ⟨o,hf⟩:=hf;refine ⟨[a],[.ref 0],[.fro (ns.map D.int)],_,_,⟨rfl,by simp,fun n b m e1 e2=>?_⟩,.cons ?_ .nil,rfl,e,fun L' H' v s c r=>?_⟩
 ·cases n with
  | zero=>simp at e1 e2; subst e1; subst e2; exact ⟨o,_,hf,zE7 ns⟩
  | succ n=>simp at e1
 ·unfold Rep; exact ⟨a,rfl,rfl⟩
 ·unfold Rep at r; exact r
def Ok {α:Type} (x:Option (α × Mem)) (P:α -> Mem -> Prop):Prop:=∃ a M,x = some (a,M) /\ P a M
def OkS (x:Option (Out × Sd × Mem)) (P:Out -> Sd -> Mem -> Prop):Prop:=∃ o σ M,x = some (o,σ,M) /\ P o σ M
theorem Ok.mono {α:Type} {x:Option (α × Mem)} {P Q:α -> Mem -> Prop} (h:Ok x P) (hq:∀ a M,P a M -> Q a M):Ok x Q:=let ⟨a,M,e,p⟩:=h; ⟨a,M,e,hq a M p⟩
theorem OkS.mono {x:Option (Out × Sd × Mem)} {P Q:Out -> Sd -> Mem -> Prop} (h:OkS x P) (hq:∀ o σ M,P o σ M -> Q o σ M):OkS x Q:=let ⟨a,σ,M,e,p⟩:=h; ⟨a,σ,M,e,hq a σ M p⟩
theorem zg {α:Type} {a:α} {M:Mem} {P:α -> Mem -> Prop}:Ok (some (a,M)) P ↔ P a M:=⟨fun ⟨_,_,e,p⟩=>by cases e; exact p,fun p=>⟨a,M,rfl,p⟩⟩
theorem zDs {α:Type} {P:α -> Mem -> Prop}:Ok (none:Option (α × Mem)) P ↔ False:=⟨(fun ⟨_,_,e,_⟩=>(nomatch e)),fun h=>h.elim⟩
theorem zKw {o:Out} {σ:Sd} {M:Mem} {P:Out -> Sd -> Mem -> Prop}:OkS (some (o,σ,M)) P ↔ P o σ M:=⟨fun ⟨_,_,_,e,p⟩=>by cases e; exact p,fun p=>⟨o,σ,M,rfl,p⟩⟩
section
theorem zj {i:Nat}:Ok (zC i σ M) P ↔ ∃ d,σ[i]? = some (some d) /\ P (.dat d) M:=by
 unfold zC;constructor
 ·rintro ⟨a,M1,e,p⟩;split at e
  ·rename_i d e1; cases e; exact ⟨d,e1,p⟩
  ·cases e
 ·rintro ⟨d,e1,p⟩;rw [e1]; exact ⟨_,_,rfl,p⟩
theorem zCo {d:D}:Ok (fC d σ M) P ↔ P (.dat d) M:=zg
theorem zAe {k:K2}:Ok (fOp k f g σ M) P ↔ Ok (f σ M) fun x M1=>Ok (g σ M1) fun y M2=>Ok (k x y M2) P:=by
 unfold fOp;constructor
 ·rintro ⟨a,M1,e,p⟩;split at e
  ·rename_i x M2 e1;split at e
   ·rename_i y M3 e2;exact ⟨x,M2,e1,y,M3,e2,a,M1,e,p⟩
   ·cases e
  ·cases e
 ·rintro ⟨x,M2,e1,y,M3,e2,a,M1,e,p⟩;rw [e1]; dsimp only; rw [e2]; exact ⟨a,M1,e,p⟩
def zES (P:D -> Mem -> Prop):EV -> Mem -> Prop
 | .dat d,M=>P d M
 | .fl xs,M=>P (.ref M.length) (M ++ [.lst xs])
theorem zAB {P:D -> Mem -> Prop}:Ok (toD f σ M) P ↔ Ok (f σ M) (zES P):=by
 unfold toD;constructor
 ·rintro ⟨a,M1,e,p⟩;split at e
  ·rename_i d M2 e1; cases e; exact ⟨_,_,e1,p⟩
  ·rename_i xs M2 e1; cases e; exact ⟨_,_,e1,p⟩
  ·cases e
 ·rintro ⟨x,M2,e1,p⟩;rw [e1];cases x with
  | dat d=>exact ⟨d,M2,rfl,p⟩
  | fl xs=>exact ⟨_,_,rfl,p⟩
theorem zG {P:D -> Mem -> Prop} {d:D} {M:Mem}:zES P (.dat d) M ↔ P d M:=Iff.rfl
theorem zII {P:D -> Mem -> Prop} {xs:List D} {M:Mem}:zES P (.fl xs) M ↔ P (.ref M.length) (M ++ [.lst xs]):=Iff.rfl
section
theorem zAJ:Ok (zH σ M) P ↔ P [] M:=zg
theorem zw {f:FD} {g:FA}:Ok (zD f g σ M) P ↔ Ok (f σ M) fun d M1=>Ok (g σ M1) fun ds M2=>P (d :: ds) M2:=by
 unfold zD;constructor
 ·rintro ⟨a,M1,e,p⟩;split at e
  ·rename_i x M2 e1;split at e
   ·rename_i y M3 e2;cases e;exact ⟨x,M2,e1,y,_,e2,p⟩
   ·cases e
  ·cases e
 ·rintro ⟨x,M2,e1,y,M3,e2,p⟩;rw [e1]; dsimp only; rw [e2]; exact ⟨_,_,rfl,p⟩
end
section
theorem zFj:Ok (zh σ M) P ↔ P [] M:=zg
theorem zDy {f:FE} {g:FAE}:Ok (zQ f g σ M) P ↔ Ok (f σ M) fun d M1=>Ok (g σ M1) fun ds M2=>P (d :: ds) M2:=by
 unfold zQ;constructor
 ·rintro ⟨a,M1,e,p⟩;split at e
  ·rename_i x M2 e1;split at e
   ·rename_i y M3 e2;cases e;exact ⟨x,M2,e1,y,_,e2,p⟩
   ·cases e
  ·cases e
 ·rintro ⟨x,M2,e1,y,M3,e2,p⟩;rw [e1]; dsimp only; rw [e2]; exact ⟨_,_,rfl,p⟩
end
theorem zNd {a:FA}:Ok (zAs a σ M) P ↔ Ok (a σ M) fun ds M1=>ds.length <= sizeLine /\ P (.dat (.tup ds)) M1:=by
 unfold zAs;constructor
 ·rintro ⟨x,M1,e,p⟩;split at e
  ·rename_i ds M2 e1;split at e
   ·rename_i hz; cases e; exact ⟨ds,_,e1,hz,p⟩
   ·cases e
  ·cases e
 ·rintro ⟨ds,M1,e1,hz,p⟩;rw [e1]; dsimp only; rw [zQV hz]; exact ⟨_,_,rfl,p⟩
theorem zBT {a:FA}:Ok (zBA a σ M) P ↔ Ok (a σ M) fun ds M1=>ds.length <= sizeLine /\ P (.fl ds) M1:=by
 unfold zBA;constructor
 ·rintro ⟨x,M1,e,p⟩;split at e
  ·rename_i ds M2 e1;split at e
   ·rename_i hz; cases e; exact ⟨ds,_,e1,hz,p⟩
   ·cases e
  ·cases e
 ·rintro ⟨ds,M1,e1,hz,p⟩;rw [e1]; dsimp only; rw [zQV hz]; exact ⟨_,_,rfl,p⟩
theorem zNF {k:KB} {a:FAE}:Ok (fB k a σ M) P ↔ Ok (a σ M) fun xs M1=>Ok (k xs M1) P:=by
 unfold fB;constructor
 ·rintro ⟨x,M1,e,p⟩;split at e
  ·rename_i ds M2 e1; exact ⟨ds,_,e1,x,M1,e,p⟩
  ·cases e
 ·rintro ⟨ds,M1,e1,p⟩;rw [e1]; exact p
theorem zA5 {m:FF} {a:FA}:Ok (zW m a σ M) P ↔ Ok (a σ M) fun ds M1=>Ok (m ds M1) fun d M2=>P (.dat d) M2:=by
 unfold zW;constructor
 ·rintro ⟨x,M1,e,p⟩;split at e
  ·rename_i ds M2 e1;split at e
   ·rename_i d M3 e2; cases e; exact ⟨ds,_,e1,d,_,e2,p⟩
   ·cases e
  ·cases e
 ·rintro ⟨ds,M1,e1,d,M2,e2,p⟩;rw [e1]; dsimp only; rw [e2]; exact ⟨_,_,rfl,p⟩
theorem zEL {k:KM} {a:FA}:Ok (fM k f a σ M) P ↔ Ok (f σ M) fun x M1=>(∃ xs,zAO M1 x = some xs) /\ Ok (a σ M1) fun ds M2=>Ok (k x ds M2) fun d M3=>P (.dat d) M3:=by
 unfold fM;constructor
 ·rintro ⟨x,M1,e,p⟩;split at e
  ·rename_i y M2 e1;split at e
   ·rename_i xs e2;split at e
    ·rename_i ds M3 e3;split at e
     ·rename_i d M4 e4; cases e; exact ⟨y,_,e1,⟨xs,e2⟩,ds,_,e3,d,_,e4,p⟩
     ·cases e
    ·cases e
   ·cases e
  ·cases e
 ·rintro ⟨y,M1,e1,⟨xs,e2⟩,ds,M2,e3,d,M3,e4,p⟩;rw [e1]; dsimp only; rw [e2]; dsimp only; rw [e3]; dsimp only; rw [e4]; exact ⟨_,_,rfl,p⟩
section
theorem zJp:Ok (zAf σ M) P ↔ P none M:=zg
def zO1 (P:Option Int -> Mem -> Prop):EV -> Mem -> Prop
 | .dat (.int i),M=>P (some i) M
 | _,_=>False
theorem zKI {i:Int} {M:Mem}:zO1 P (.dat (.int i)) M ↔ P (some i) M:=Iff.rfl
theorem zJ5:Ok (zAQ f σ M) P ↔ Ok (f σ M) (zO1 P):=by
 unfold zAQ;constructor
 ·rintro ⟨x,M1,e,p⟩;split at e
  ·rename_i i M2 e1; cases e; exact ⟨_,_,e1,p⟩
  ·cases e
 ·rintro ⟨x,M1,e1,p⟩;rw [e1];cases x with
  | fl xs=>exact p.elim
  | dat d=>
   cases d with
   | int i=>exact ⟨_,_,rfl,p⟩
   | _=>exact p.elim
end
theorem zOr {l h:FO}:Ok (fSl f l h σ M) P ↔ Ok (f σ M) fun x M1=>Ok (l σ M1) fun lo M2=>Ok (h σ M2) fun hi M3=>Ok (kSl x lo hi M3) P:=by
 unfold fSl;constructor
 ·rintro ⟨x,M1,e,p⟩;split at e
  ·rename_i y M2 e1;split at e
   ·rename_i lo M3 e2;split at e
    ·rename_i hi M4 e3; exact ⟨y,_,e1,lo,_,e2,hi,_,e3,x,M1,e,p⟩
    ·cases e
   ·cases e
  ·cases e
 ·rintro ⟨y,M1,e1,lo,M2,e2,hi,M3,e3,p⟩;rw [e1]; dsimp only; rw [e2]; dsimp only; rw [e3]; exact p
def blP (P:Bool -> Mem -> Prop):EV -> Mem -> Prop
 | .dat (.bl k),M=>P k M
 | _,_=>False
theorem zFe {P:Bool -> Mem -> Prop} {k:Bool} {M:Mem}:blP P (.dat (.bl k)) M ↔ P k M:=Iff.rfl
theorem zFv {P:Bool -> Mem -> Prop}:Ok (tst f σ M) P ↔ Ok (f σ M) (blP P):=by
 unfold tst;constructor
 ·rintro ⟨x,M1,e,p⟩;split at e
  ·rename_i i M2 e1; cases e; exact ⟨_,_,e1,p⟩
  ·cases e
 ·rintro ⟨x,M1,e1,p⟩;rw [e1];cases x with
  | fl xs=>exact p.elim
  | dat d=>
   cases d with
   | bl i=>exact ⟨_,_,rfl,p⟩
   | _=>exact p.elim
section
theorem zDA:Ok (zx σ M) P ↔ P true M:=zg
theorem zNJ:Ok (zKu s t σ M) P ↔ Ok (s σ M) fun k M1=>if k then P true M1 else Ok (t σ M1) P:=by
 unfold zKu;constructor
 ·rintro ⟨x,M1,e,p⟩;split at e
  ·rename_i M2 e1; exact ⟨false,M2,e1,by simpa using ⟨x,M1,e,p⟩⟩
  ·rename_i hn;cases x with
   | false=>exact absurd e (hn M1)
   | true=>exact ⟨true,M1,e,by simpa using p⟩
 ·rintro ⟨x,M1,e1,p⟩;rw [e1];cases x with
  | false=>simpa using p
  | true=>exact ⟨true,M1,rfl,by simpa using p⟩
theorem zIc:Ok (zCr s σ M) P ↔ Ok (s σ M) fun k M1=>P (!k) M1:=by
 unfold zCr;constructor
 ·rintro ⟨x,M1,e,p⟩;split at e
  ·rename_i k M2 e1; cases e; exact ⟨k,_,e1,p⟩
  ·cases e
 ·rintro ⟨k,M1,e1,p⟩;rw [e1]; exact ⟨_,_,rfl,p⟩
end
theorem zLW {t:FT}:Ok (vIf t f g σ M) P ↔ Ok (t σ M) fun k M1=>if k then Ok (f σ M1) P else Ok (g σ M1) P:=by
 unfold vIf;constructor
 ·rintro ⟨x,M1,e,p⟩;split at e
  ·rename_i M2 e1; exact ⟨_,_,e1,by dsimp only; rw [zQV rfl]; exact ⟨x,M1,e,p⟩⟩
  ·rename_i M2 e1; exact ⟨_,_,e1,by simpa using ⟨x,M1,e,p⟩⟩
  ·cases e
 ·rintro ⟨x,M1,e1,p⟩;rw [e1];cases x with
  | true=>simpa using p
  | false=>simpa using p
end
section
def nxP (k:Sd -> Mem -> Prop) (P:Out -> Sd -> Mem -> Prop):Out -> Sd -> Mem -> Prop
 | .nx,σ,M=>k σ M
 | o,σ,M=>P o σ M
theorem zK {k:Sd -> Mem -> Prop}:nxP k P .nx σ M ↔ k σ M:=Iff.rfl
theorem zFw {k:Sd -> Mem -> Prop} {d:D}:nxP k P (.ret d) σ M ↔ P (.ret d) σ M:=Iff.rfl
theorem zAE:OkS (zAp σ M) P ↔ P .nx σ M:=zKw
theorem zF:OkS (zT f g σ M) P ↔ OkS (f σ M) (nxP (fun σ1 M1=>OkS (g σ1 M1) P) P):=by
 unfold zT;constructor
 ·rintro ⟨o,σ1,M1,e,p⟩;split at e
  ·rename_i σ2 M2 e1; exact ⟨_,_,_,e1,o,σ1,M1,e,p⟩
  ·rename_i hn;refine ⟨o,σ1,M1,e,?_⟩;cases o with
   | nx=>exact absurd e (hn σ1 M1)
   | _=>exact p
 ·rintro ⟨o,σ1,M1,e1,p⟩;rw [e1];cases o with
  | nx=>exact p
  | _=>exact ⟨_,_,_,rfl,p⟩
theorem zAK {c:FT}:OkS (sIf c f g σ M) P ↔ Ok (c σ M) fun k M1=>if k then OkS (f σ M1) P else OkS (g σ M1) P:=by
 unfold sIf;constructor
 ·rintro ⟨o,σ1,M1,e,p⟩;split at e
  ·rename_i M2 e1; exact ⟨_,_,e1,by dsimp only; rw [zQV rfl]; exact ⟨o,σ1,M1,e,p⟩⟩
  ·rename_i M2 e1; exact ⟨_,_,e1,by simpa using ⟨o,σ1,M1,e,p⟩⟩
  ·cases e
 ·rintro ⟨x,M1,e1,p⟩;rw [e1];cases x with
  | true=>simpa using p
  | false=>simpa using p
theorem zBv {h:FE}:OkS (zAq h σ M) P ↔ Ok (h σ M) (zES fun d M1=>P (.ret d) σ M1):=by
 rw [<- zAB];unfold zAq;constructor
 ·rintro ⟨o,σ1,M1,e,p⟩;split at e
  ·rename_i d M2 e1; cases e; exact ⟨_,_,e1,p⟩
  ·cases e
 ·rintro ⟨x,M1,e1,p⟩;rw [e1]; exact ⟨_,_,_,rfl,p⟩
theorem zP {i:Nat} {h:FE}:OkS (zn i h σ M) P ↔ Ok (h σ M) (zES fun d M1=>P .nx (σ.set i (some d)) M1):=by
 rw [<- zAB];unfold zn;constructor
 ·rintro ⟨o,σ1,M1,e,p⟩;split at e
  ·rename_i d M2 e1; cases e; exact ⟨_,_,e1,p⟩
  ·cases e
 ·rintro ⟨x,M1,e1,p⟩;rw [e1]; exact ⟨_,_,_,rfl,p⟩
theorem zAz {h:FE}:OkS (zAY h σ M) P ↔ Ok (h σ M) fun _ M1=>P .nx σ M1:=by
 unfold zAY;constructor
 ·rintro ⟨o,σ1,M1,e,p⟩;split at e
  ·rename_i d M2 e1; cases e; exact ⟨_,_,e1,p⟩
  ·cases e
 ·rintro ⟨x,M1,e1,p⟩;rw [e1]; exact ⟨_,_,_,rfl,p⟩
theorem zIC {v o i:FE}:OkS (zHz v o i σ M) P ↔ Ok (v σ M) (zES fun d M1=>Ok (o σ M1) fun x M2=>Ok (i σ M2) (zES fun j M3=>∃ M4,zGs x j d M3 = some M4 /\ P .nx σ M4)):=by
 rw [<- zAB];unfold zHz;constructor
 ·rintro ⟨o,σ1,M1,e,p⟩;split at e
  ·rename_i d M2 e1;split at e
   ·rename_i x M3 e2;split at e
    ·rename_i j M4 e3;split at e
     ·rename_i M5 e4;cases e;refine ⟨_,_,e1,_,_,e2,?_⟩;dsimp only; rw [<- zAB];exact ⟨_,_,e3,_,e4,p⟩
     ·cases e
    ·cases e
   ·cases e
  ·cases e
 ·rintro ⟨d,M1,e1,x,M2,e2,p⟩;rw [<- zAB] at p;obtain ⟨j,M3,e3,M4,e4,p⟩:=p;rw [e1]; dsimp only; rw [e2]; dsimp only; rw [e3]; dsimp only; rw [e4]; exact ⟨_,_,_,rfl,p⟩
theorem zAx {n:Nat} {ds:List D} {Q:D -> Mem -> Prop}:Ok (zCG n f ds M) Q ↔ OkS (f (ds.map some ++ List.replicate (n - ds.length) none) M) fun o _ M1=>match o with | .ret d=>Q d M1 | .nx=>Q .non M1 | _=>False:=by
 unfold zCG;constructor
 ·rintro ⟨o,M1,e,p⟩;split at e
  ·rename_i d σ1 M2 e1; cases e; exact ⟨_,_,_,e1,p⟩
  ·rename_i σ1 M2 e1; cases e; exact ⟨_,_,_,e1,p⟩
  ·cases e
 ·rintro ⟨o,σ1,M1,e1,p⟩;rw [e1];cases o with
  | ret d=>exact ⟨_,_,rfl,p⟩
  | nx=>exact ⟨_,_,rfl,p⟩
  | brk=>exact p.elim
  | cnt=>exact p.elim
theorem zCV {c:FT} {b:FS} (I:Nat -> Sd -> Mem -> Prop) (hs:∀ m σ M,I m σ M -> Ok (c σ M) fun k M1=>if k then OkS (b σ M1) fun o σ2 M2=>match o with | .nx=>∃ m',m' < m /\ I m' σ2 M2 | .cnt=>∃ m',m' < m /\ I m' σ2 M2 | .brk=>P .nx σ2 M2 | .ret d=>P (.ret d) σ2 M2 else P .nx σ M1) :
  ∀ (n m:Nat) (σ:Sd) (M:Mem),m < n -> I m σ M -> OkS (zAu c b n σ M) P
 | 0,m,σ,M,h,_=>absurd h (Nat.not_lt_zero _)
 | n + 1,m,σ,M,h,hi=>by
  obtain ⟨k,M1,e,q⟩:=hs m σ M hi;unfold zAu;rw [e];cases k with
  | false=>exact ⟨_,_,_,rfl,by simpa using q⟩
  | true=>
   rw [zQV rfl] at q;obtain ⟨o,σ2,M2,e2,q⟩:=q;dsimp only;rw [e2];cases o with
   | nx=>obtain ⟨m',hm,q⟩:=q; exact zCV I hs n m' σ2 M2 (by omega) q
   | cnt=>obtain ⟨m',hm,q⟩:=q; exact zCV I hs n m' σ2 M2 (by omega) q
   | brk=>exact ⟨_,_,_,rfl,q⟩
   | ret d=>exact ⟨_,_,_,rfl,q⟩
theorem zAZ {g:FG} {b:FS} {all:List D} {gd:Option (Mem -> Prop)} (I:List D -> Sd -> Mem -> Prop)
  (hs:∀ x r σ M,I (x :: r) σ M -> zCB gd all M /\ ∃ σ1,g x σ = some σ1 /\ OkS (b σ1 M) fun o σ2 M2=>match o with | .nx=>I r σ2 M2 | .cnt=>I r σ2 M2 | .brk=>P .nx σ2 M2 | .ret d=>P (.ret d) σ2 M2)
  (he:∀ σ M,I [] σ M -> zCB gd all M /\ P .nx σ M):∀ (xs:List D) (σ:Sd) (M:Mem),I xs σ M -> OkS (zBh g b all gd xs σ M) P
 | [],σ,M,hi=>by
  unfold zBh;obtain ⟨h1,h2⟩:=he σ M hi;rw [zQV h1];exact ⟨_,_,_,rfl,h2⟩
 | x :: r,σ,M,hi=>by
  unfold zBh;obtain ⟨h1,σ1,e1,o,σ2,M2,e2,q⟩:=hs x r σ M hi;rw [zQV h1,e1];dsimp only;rw [e2];cases o with
  | nx=>exact zAZ I hs he r σ2 M2 q
  | cnt=>exact zAZ I hs he r σ2 M2 q
  | brk=>exact ⟨_,_,_,rfl,q⟩
  | ret d=>exact ⟨_,_,_,rfl,q⟩
theorem zAn {i:FI} {g:FG} {b:FS}:OkS (zBb i g b σ M) P ↔ ∃ xs gd M1,i σ M = some (xs,gd,M1) /\ OkS (zBh g b xs gd xs σ M1) P:=by
 unfold zBb;constructor
 ·rintro ⟨o,σ1,M1,e,p⟩;split at e
  ·rename_i xs gd M2 e1; exact ⟨_,_,_,e1,_,_,_,e,p⟩
  ·cases e
 ·rintro ⟨xs,gd,M1,e1,p⟩;rw [e1]; exact p
theorem zA7 {g:FG} {tc:FT} {te:FE} {all:List D} {gd:Option (Mem -> Prop)} (I:List D -> List D -> Mem -> Prop)
  (hs:∀ x r acc M,I (x :: r) acc M -> zCB gd all M /\ ∃ σ1,g x σ = some σ1 /\ Ok (tc σ1 M) fun k M1=>if k then Ok (te σ1 M1) (zES fun d M2=>I r (acc ++ [d]) M2) else I r acc M1)
  {Q:List D -> Mem -> Prop} (he:∀ acc M,I [] acc M -> zCB gd all M /\ Q acc M):∀ (xs acc:List D) (M:Mem),I xs acc M -> Ok (zCE g tc te σ all gd xs M) fun ys M1=>Q (acc ++ ys) M1
 | [],acc,M,hi=>by
  unfold zCE;obtain ⟨h1,h2⟩:=he acc M hi;rw [zQV h1];exact ⟨_,_,rfl,by simpa using h2⟩
 | x :: r,acc,M,hi=>by
  unfold zCE;obtain ⟨h1,σ1,e1,k,M1,e2,q⟩:=hs x r acc M hi;rw [zQV h1,e1];dsimp only;rw [e2];cases k with
  | false=>exact zA7 I hs he r acc M1 (by simpa using q)
  | true=>
   rw [zQV rfl,<- zAB] at q;obtain ⟨d,M2,e3,q⟩:=q;dsimp only;rw [e3];obtain ⟨ys,M3,e4,p⟩:=zA7 I hs he r (acc ++ [d]) M2 q;dsimp only;rw [e4];exact ⟨_,_,rfl,by simpa using p⟩
theorem zCX {own:List Nat} {i:FI} {g:FG} {tc:FT} {te:FE} {Q:EV -> Mem -> Prop}:Ok (zk own i g tc te σ M) Q ↔ ∃ xs gd M1,i σ M = some (xs,gd,M1) /\ xs.length <= sizeLine /\ Ok (zCE g tc te (zFZ own σ) xs gd xs M1) fun ys M2=>Q (.fl ys) M2:=by
 unfold zk;constructor
 ·rintro ⟨o,M1,e,p⟩;split at e
  ·rename_i xs gd M2 e1;split at e
   ·rename_i hz;split at e
    ·rename_i ys M3 e2; cases e; exact ⟨_,_,_,e1,hz,_,_,e2,p⟩
    ·cases e
   ·cases e
  ·cases e
 ·rintro ⟨xs,gd,M1,e1,hz,ys,M2,e2,p⟩;rw [e1]; dsimp only; rw [zQV hz,e2]; exact ⟨_,_,rfl,p⟩
theorem zAl {h:FE} {x:EV} {M1:Mem} {xs:List D} (e:h σ M = some (x,M1)) (e2:zf M1 x = some xs):zAT h σ M = some (xs,zGQ x xs,M1):=by
 unfold zAT; rw [e]; dsimp only; rw [e2]
theorem zEa {a:FA} {M1:Mem} {j:Int} (e:a σ M = some ([.int j],M1)) (h1:0 <= j) (h2:j < 2 ^ 62):zAC a σ M = some ((List.range j.toNat).map fun (k:Nat)=>D.int k,none,M1):=by
 unfold zAC; rw [e]; dsimp only; rw [zQV ⟨by omega,h2⟩]
end
section
theorem zDN:Ok (zAk (.dat (.int i)) (.dat (.int j)) M) P ↔ P (.dat (.int (i + j))) M:=zg
theorem zJv:Ok (zHy (.dat (.int i)) (.dat (.int j)) M) P ↔ zJO i j = true /\ P (.dat (.int (i * j))) M:=by
 unfold zHy kI; dsimp only; split
 ·rename_i h; rw [zg]; simp [h]
 ·rename_i h; rw [zDs]; simp [h]
theorem zM0:Ok (zB0 (.dat (.int i)) (.dat (.int j)) M) P ↔ 0 < j /\ P (.dat (.int (i % j))) M:=by
 unfold zB0 kI; dsimp only; split
 ·rename_i h; rw [zg]; simp at h; simp [h]
 ·rename_i h; rw [zDs]; simp at h; simp; intro h'; omega
theorem zM2:Ok (zH4 (.dat (.int i)) (.dat (.int j)) M) P ↔ (0 < j /\ j < 1073741824) /\ P (.dat (.int (i / j))) M:=by
 unfold zH4 kI; dsimp only; split
 ·rename_i h; rw [zg]; simp at h; simp [h]
 ·rename_i h; rw [zDs]; simp at h; simp; intro h' h2; have:=h h'; omega
theorem zPN:Ok (zIw (.dat (.int i)) (.dat (.int j)) M) P ↔ (0 <= j /\ j <= 1000000 /\ i.natAbs < 2 ^ 64) /\ P (.dat (.int (i ^ j.toNat))) M:=by
 unfold zIw kI; dsimp only; split
 ·rename_i h; rw [zg]; simp only [zQq,zRT] at h; simp [h]
 ·rename_i h; rw [zDs]; simp only [zQq,zRT,not_and] at h; simp only [false_iff,not_and]; intro ⟨a,b,c⟩; exact absurd c (h ⟨a,b⟩)
theorem zNp:Ok (kLt (.dat (.int i)) (.dat (.int j)) M) P ↔ P (.dat (.bl (decide (i < j)))) M:=zg
theorem zPo:Ok (kLe (.dat (.int i)) (.dat (.int j)) M) P ↔ P (.dat (.bl (decide (i <= j)))) M:=zg
theorem zP6:Ok (kGe (.dat (.int i)) (.dat (.int j)) M) P ↔ P (.dat (.bl (decide (j <= i)))) M:=zg
theorem zGc:Ok (kEq (.dat (.int i)) (.dat (.int j)) M) P ↔ P (.dat (.bl (decide (i = j)))) M:=by
 have:kEq (.dat (.int i)) (.dat (.int j)) M = some (.dat (.bl (decide (V.int i = V.int j))),M):=rfl;rw [this,zg]; simp
theorem zOf:Ok (kNe (.dat (.int i)) (.dat (.int j)) M) P ↔ P (.dat (.bl (decide (i ≠ j)))) M:=by
 have:kNe (.dat (.int i)) (.dat (.int j)) M = some (.dat (.bl (!decide (V.int i = V.int j))),M):=rfl;rw [this,zg]; simp
theorem zMl {x:EV} {xs:List D} (h:zAO M x = some xs) (hx:∀ d,x = .dat d -> zDc d = none):Ok (kNe x (.fl []) M) P ↔ P (.dat (.bl (!xs.isEmpty))) M:=by
 have e1:zHi true x (.fl []) M = none:=by cases x <;> rfl
 have e2:kNe x (.fl []) M = some (.dat (.bl (!xs.isEmpty)),M):=by
  unfold kNe kOr; rw [e1]; unfold zLX; rw [h]; rfl
 rw [e2,zg]
theorem zKd {x:EV} {xs:List D} {d:D} (h:zf M x = some xs) (hd:atI xs i = some d) (p:P (.dat d) M):Ok (kIx x (.dat (.int i)) M) P:=by
 have:kIx x (.dat (.int i)) M = some (.dat d,M):=by unfold kIx; dsimp only; rw [h]; dsimp only; rw [hd]
 rw [this,zg]; exact p
theorem zJr {xs:List D} {k:Nat} {d:D} (h:xs[k]? = some d):atI xs (k:Int) = some d:=zIZ h
theorem zFa {xs:List D} {i:Int} {d:D} (h0:0 <= i) (h:xs[i.toNat]? = some d):atI xs i = some d:=by
 have:i = ((i.toNat:Nat):Int):=by omega
 rw [this]; exact zIZ h
theorem zOT {x:EV} {xs:List D} (h:zf M x = some xs):Ok (zAW [x] M) P ↔ P (.dat (.int xs.length)) M:=by
 have:zAW [x] M = some (.dat (.int xs.length),M):=by unfold zAW; dsimp only; rw [h]
 rw [this,zg]
theorem zL0 {x:EV} {xs:List D} (h:zf M x = some xs):Ok (zAU [x] M) P ↔ P (.dat (.tup xs)) M:=by
 have:zAU [x] M = some (.dat (.tup xs),M):=by unfold zAU; dsimp only; rw [h]
 rw [this,zg]
theorem zOG {x:EV} {xs:List D} {lo hi:Option Int} (h:zAO M x = some xs) (ht:zA8 x = none):Ok (kSl x lo hi M) P ↔ P (.fl (zBG xs lo hi)) M:=by
 have:kSl x lo hi M = some (.fl (zBG xs lo hi),M):=by unfold kSl; rw [ht]; dsimp only; rw [h]
 rw [this,zg]
theorem zAd {xs:List D}:zf M (.dat (.tup xs)) = some xs:=rfl
theorem zCJ {xs:List D}:zf M (.fl xs) = some xs:=rfl
theorem zM8 {xs:List D}:zAO M (.fl xs) = some xs:=rfl
theorem zo {n:Nat} {xs:List D} (h:M[n]? = some (.lst xs)):zAO M (.dat (.ref n)) = some xs:=by unfold zAO; dsimp only; rw [h]
theorem zIK {n:Nat} {xs:List D} (h:M[n]? = some (.fro xs)):zAO M (.dat (.ref n)) = some xs:=by unfold zAO; dsimp only; rw [h]
theorem zY {n:Nat} {xs:List D} (h:M[n]? = some (.lst xs)):zf M (.dat (.ref n)) = some xs:=zo h
theorem zLc {n:Nat} {xs:List D} (h:M[n]? = some (.fro xs)):zf M (.dat (.ref n)) = some xs:=zIK h
theorem zBk {n:Nat} {xs:List D} {d:D} {Q:D -> Mem -> Prop} (h:M[n]? = some (.lst xs)) (hz:xs.length < sizeLine):Ok (zAA (.dat (.ref n)) [d] M) Q ↔ Q .non (M.set n (.lst (xs ++ [d]))):=by
 have:zAA (.dat (.ref n)) [d] M = some (.non,M.set n (.lst (xs ++ [d]))):=by unfold zAA; dsimp only; rw [h]; dsimp only; rw [zQV hz]
 rw [this,zg]
theorem zNg {n:Nat} {x:D} {xs:List D} {Q:D -> Mem -> Prop} (h:M[n]? = some (.lst (x :: xs))):Ok (zEj (.dat (.ref n)) [.int 0] M) Q ↔ Q x (M.set n (.lst xs)):=by
 have:zEj (.dat (.ref n)) [.int 0] M = some (x,M.set n (.lst xs)):=by
  unfold zEj; dsimp only; rw [h]; dsimp only;have e:ixN (x :: xs).length 0 = some 0:=by unfold ixN; rw [zQV (by omega),zQV (by simp)]; rfl
  rw [e]; dsimp only [List.getElem?_cons_zero]; rw [zQV (by decide)]; rfl
 rw [this,zg]
theorem zGx {n k:Nat} {xs:List D} {d:D} (h:M[n]? = some (.lst xs)) (hk:k < xs.length):zGs (.dat (.ref n)) (.int k) d M = some (M.set n (.lst (xs.set k d))):=by
 unfold zGs; dsimp only; rw [h]; dsimp only;have e:ixN xs.length (k:Int) = some k:=by unfold ixN; rw [zQV (by omega),zQV (by omega)]; simp
 rw [e]
end
theorem zCy {m:FF} {ds:List D} {M:Mem} {Q:D -> Mem -> Prop} (h:Ok (m ds M) fun d M1=>(D.und M.length d = true /\ M.length <= M1.length /\ ∀ (j:Nat) u,j < M.length -> M1[j]? = some u -> MO.und M.length u = true) /\ Q d (M1.take M.length)):Ok (zCw m ds M) Q:=by
 obtain ⟨d,M1,e,⟨h1,h2,h3⟩,q⟩:=h;unfold zCw;rw [e];dsimp only;rw [zQV]
 ·exact ⟨_,_,rfl,q⟩
 ·simp only [zQq,zRT,zQr];refine ⟨⟨h1,fun u hu=>?_⟩,h2⟩;obtain ⟨j,hj⟩:=List.getElem?_of_mem hu;have hlt:j < M.length:=by
   have:=(zQJ.mp hj).1;rw [zRe] at this; omega
  rw [List.getElem?_take_of_lt hlt] at hj;exact h3 j u hlt hj
theorem zMG {m:FF} {ds:List D} {M:Mem} {Q:D -> Mem -> Prop} (h0:D.unds 0 ds = true) (h:Ok (m ds []) fun d _=>D.und 0 d = true /\ Q d M):Ok (zGo m ds M) Q:=by
 obtain ⟨d,M1,e,h1,q⟩:=h;unfold zGo;rw [zQV h0,e];dsimp only;rw [zQV h1];exact ⟨_,_,rfl,q⟩
section
theorem TIt.but (x:h.IsTupleIter a t i) (hs:Heap.ExtBut b h h') (n:a ≠ b):h'.IsTupleIter a t i:=x.extBut hs n
theorem Tup.but (x:h.IsTuple a its) (hs:Heap.ExtBut b h h') (n:a ≠ b):h'.IsTuple a its:=x.extBut hs n
theorem zBW (I:s.heap.IsTupleIter it t i) (T:s.heap.IsTuple t its) (hx:its[i]? = some x)
  (q:∀ h',h'.IsTupleIter it t (i + 1) -> Heap.SameBut it s.heap h' -> Q x { s with heap:=h' }):wpAny (model prog w) A (Builtin.SmallTypes.nextOf (.ref it)) Q E s:=by
 obtain ⟨o,O,C,FD⟩:=id I;obtain ⟨u,U,_,m,G⟩:=T;unfold Builtin.SmallTypes.nextOf;refine zQG (zQs (name:=Str.ofString "__next__") I.typeIs PySem.F.slot_tuple_iterator_next (zQt PySem.F.slot_tuple_iterator_next I.typeIs PySem.F.entry_tuple_iterator_next ?_ (PySem.F.args_tuple_iterator_next_1 _)));refine zQG (m:=field (.ref it) 0) (zQv O FD (x:=.ref t) rfl ?_);rw [zQY (show ¬ ((Value.ref t == Value.none) = true) by exact zQc)];refine zQG (m:=field (.ref it) 1) (zQv O FD (x:=.int i 0) rfl ?_);refine zQG (m:=seqItems? (.ref t)) (zQ6 U G ?_);simp only [hx,Int.toNat_natCast];refine zQG (wpAny_setField O FD (by simp) (zQI ⟨x,rfl,zQI (q _ ⟨_,Heap.get?_update_self _ O (Obj.isFreed_of_fields (Obj.data_mapFields FD _)),(Obj.cls_mapFields ..).trans C,?_⟩ (Heap.SameBut.update ..))⟩));rw [Obj.data_mapFields FD];simp [rawInt]
theorem zBl (hh:A.handled = none) (I:s.heap.IsTupleIter it t i) (T:s.heap.IsTuple t its) (hx:its[i]? = none)
  (q:∀ h' e,Heap.ExtBut it s.heap h' -> (∃ o,h'.get? e = some o /\ o.cls = .type "StopIteration") -> E (.ref e) { s with heap:=h' }):wpAny (model prog w) A (Builtin.SmallTypes.nextOf (.ref it)) Q E s:=by
 obtain ⟨o,O,C,FD⟩:=id I;obtain ⟨u,U,_,m,G⟩:=T;unfold Builtin.SmallTypes.nextOf;refine zQG (zQs (name:=Str.ofString "__next__") I.typeIs PySem.F.slot_tuple_iterator_next (zQt PySem.F.slot_tuple_iterator_next I.typeIs PySem.F.entry_tuple_iterator_next ?_ (PySem.F.args_tuple_iterator_next_1 _)));refine zQG (m:=field (.ref it) 0) (zQv O FD (x:=.ref t) rfl ?_);rw [zQY (show ¬ ((Value.ref t == Value.none) = true) by exact zQc)];refine zQG (m:=field (.ref it) 1) (zQv O FD (x:=.int i 0) rfl ?_);refine zQG (m:=seqItems? (.ref t)) (zQ6 U G ?_);simp only [hx,Int.toNat_natCast];refine zQG (wpAny_rule (zQG (wpAny_setField O FD (by simp) ?_)));refine zQG (m:=newExc (.type "StopIteration") []) ?_;simp only [newTuple,newExc];refine zQG (wpAny_newObj_type (zQG (m:=firstArgMember _ _) (wpAny_of_eq (a:=Value.none) (by first | rfl | (simp only [firstArgMember]; rfl)) (wpAny_newObj_type ?_ (by size_fits)))) (by size_fits));simp only [raiseNew];refine zQG (wpAny_handled ?_);first | rw [hh] | rw [show A.in1.handled = none from hh]
 exact zQG (zQI (wpAny_throw (q _ _ (((Heap.SameBut.update ..).extBut.push _).push _) ⟨_,zQQ _ rfl,rfl⟩)))
structure ZipT (h:Heap) (z TI TO i1 i2 t1 t2:Addr) (f:Value) (k1 k2:Nat):Prop where
 z:IsZip h z TI TO f
 ti:IsPair h TI (.ref i1) (.ref i2)
 to:∃ a b,IsPair h TO a b
 a:h.IsTupleIter i1 t1 k1
 b:h.IsTupleIter i2 t2 k2
theorem zIo {z TI TO i1 i2 t1 t2:Addr} {k:Nat} {xs ys:Array Value} {x y:Value} {Q:Option Value -> Shared -> Prop} (D:ZipApart z TI TO i1 i2 t1 t2) (Z:ZipT s.heap z TI TO i1 i2 t1 t2 .none k k)
  (T1:s.heap.IsTuple t1 xs) (T2:s.heap.IsTuple t2 ys) (hx:xs[k]? = some x) (hy:ys[k]? = some y)
  (q:∀ h',ZipT h' z TI TO i1 i2 t1 t2 (rawInt s.heap.objs.size) (k + 1) (k + 1) -> IsPair h' s.heap.objs.size x y ->
   (∀ c o,c ∉ [z,TO,i1,i2] -> s.heap.get? c = some o -> h'.get? c = some o) -> Q (some (.ref s.heap.objs.size)) { s with heap:=h' }):wpAny (model prog w) A (pyNext (.ref z)) Q E s:=by
 obtain ⟨Z0,P0,⟨a,b,O0⟩,I1,I2⟩:=Z;have ty:s.TypeIs (.ref z) "zip" := ⟨_,Z0,rfl⟩;unfold pyNext;refine zQG (wpAny_attempt (zQs (name:=Str.ofString "__next__") ty zRu (zQt zRu ty PySem.F.entry_zip_next ?_ (PySem.F.args_zip_next_1 _))));refine zQG (m:=field (.ref z) 2) (zQv Z0 rfl (x:=.bool false) rfl ?_);refine zQG (m:=field (.ref z) 3) (zQv Z0 rfl (x:=.ref TI) rfl ?_);refine zQG (zQ6 P0 rfl ?_);refine zQG (m:=Builtin.SmallTypes.ownedTupleIsFree (.ref z)) ?_;unfold Builtin.SmallTypes.ownedTupleIsFree;refine zQG (zQv Z0 rfl (x:=.none) rfl (zQI ?_));simp only [if_true];refine zQG (wpAny_rule (zQG (zQv Z0 rfl (x:=.ref TO) rfl (zQG (zRW Z0 (by simp) fun h1 Z1 e1=>?_)))));replace Z1:IsZip h1 z TI TO .ellipsis:=Z1;refine zQG ?_;simp only [List.forIn_cons,List.forIn_nil,List.zipIdx_cons,List.zipIdx_nil];refine zQG (zQG (zSG (zQG (m:=Builtin.SmallTypes.nextOf (.ref i1)) (zBW (TIt.but I1 e1.extBut D.i1z) (Tup.but T1 e1.extBut D.l1z) hx fun h2 J1 e2=>zQI ?_))));have O2:IsPair h2 TO a b:=e2.extBut _ _ D.TOi1 (e1.extBut _ _ D.TOz O0);refine zQG (zQ6 O2 rfl (zQG (wpAny_updateSeq_pair O2 fun h3 O3 e3=>zQG (wpAny_letGo (zQI ?_)))));replace O3:IsPair h3 TO x b:=O3
 refine zQG (zQG (zSG (zQG (m:=Builtin.SmallTypes.nextOf (.ref i2)) (zBW (TIt.but (TIt.but (TIt.but I2 e1.extBut D.i2z) e2.extBut D.i12.symm) e3.extBut D.TOi2.symm)
  (Tup.but (Tup.but (Tup.but T2 e1.extBut D.l2z) e2.extBut D.l2i1) e3.extBut D.l2TO) hy fun h4 J2 e4=>zQI ?_))))
 have O4:IsPair h4 TO x b:=e4.extBut _ _ D.TOi2 O3;refine zQG (zQ6 O4 rfl (zQG (wpAny_updateSeq_pair O4 fun h5 O5 e5=>zQG (wpAny_letGo (zQI (zQI ?_))))));replace O5:IsPair h5 TO x y:=O5;refine zQG (zQ6 O5 rfl (zQG (wpAny_newTuple ?_)));have sz:h5.objs.size = s.heap.objs.size:=by rw [e5.1,e4.1,e3.1,e2.1,e1.1]
 have Z5:IsZip h5 z TI TO .ellipsis:=e5.extBut _ _ D.TOz.symm (e4.extBut _ _ D.i2z.symm (e3.extBut _ _ D.TOz.symm (e2.extBut _ _ D.i1z.symm Z1)));have kp:∀ c o,c ∉ [z,TO,i1,i2] -> s.heap.get? c = some o -> h5.get? c = some o:=fun c o n e=>by
  simp only [zQS,zQl,zRb,not_or] at n;obtain ⟨n1,n2,n3,n4⟩:=n;exact e5.extBut _ _ n2 (e4.extBut _ _ n4 (e3.extBut _ _ n2 (e2.extBut _ _ n3 (e1.extBut _ _ n1 e))))
 have A5:h5.IsTupleIter i1 t1 (k + 1):=TIt.but (TIt.but (TIt.but J1 e3.extBut D.TOi1.symm) e4.extBut D.i12) e5.extBut D.TOi1.symm;have B5:h5.IsTupleIter i2 t2 (k + 1):=TIt.but J2 e5.extBut D.TOi2.symm;have zl:z < h5.objs.size:=zQR Z5;refine zQG (m:=Builtin.SmallTypes.ownedTupleHandOut (.ref z) (.ref h5.objs.size)) ?_;unfold Builtin.SmallTypes.ownedTupleHandOut;have Z6:IsZip (h5.push { cls:=.type "tuple", data:=.seq #[x,y] }) z TI TO .ellipsis:=zQH _ Z5;refine zQG (zRW Z6 (by simp) fun h7 Z7 e7=>?_);replace Z7:IsZip h7 z TI TO (rawInt h5.objs.size):=Z7;refine zRW Z7 (by simp) fun h8 Z8 e8=>?_;replace Z8:IsZip h8 z TI TO (rawInt h5.objs.size):=Z8;have up:∀ c o,c ≠ z -> h5.get? c = some o -> h8.get? c = some o:=fun c o n e=>e8.extBut _ _ n (e7.extBut _ _ n (zQH _ e));have N8:IsPair h8 h5.objs.size x y:=e8.extBut _ _ (zRl zl) (e7.extBut _ _ (zRl zl) (zQQ _ rfl));rw [sz] at Z8 N8;refine zQI ⟨_,rfl,?_⟩;rw [sz];refine zQI (q h8 ⟨Z8,up _ _ D.TIz (kp _ _ (by simp [D.TIz,D.TITO,D.TIi1,D.TIi2]) P0),⟨_,_,up _ _ D.TOz O5⟩,?_,?_⟩ N8 fun c o n e=>up c o (fun m=>n (by simp [m])) (kp c o n e))
 ·obtain ⟨o,e,r⟩:=A5; exact ⟨o,up _ _ D.i1z e,r⟩
 ·obtain ⟨o,e,r⟩:=B5; exact ⟨o,up _ _ D.i2z e,r⟩
theorem zLT {z TI TO i1 i2 t1 t2:Addr} {k:Nat} {xs ys:Array Value} {Q:Option Value -> Shared -> Prop} (hh:A.handled = none) (D:ZipApart z TI TO i1 i2 t1 t2) (Z:ZipT s.heap z TI TO i1 i2 t1 t2 .none k k)
  (T1:s.heap.IsTuple t1 xs) (T2:s.heap.IsTuple t2 ys) (he:xs[k]? = none \/ ys[k]? = none)
  (q:∀ h',(∀ c o,c ∉ [z,TO,i1,i2] -> s.heap.get? c = some o -> h'.get? c = some o) -> Q none { s with heap:=h' }):wpAny (model prog w) A (pyNext (.ref z)) Q E s:=by
 obtain ⟨Z0,P0,⟨a,b,O0⟩,I1,I2⟩:=Z;have ty:s.TypeIs (.ref z) "zip" := ⟨_,Z0,rfl⟩
 have stop:∀ (e:Addr) (h':Heap),(∀ c o,c ∉ [z,TO,i1,i2] -> s.heap.get? c = some o -> h'.get? c = some o) -> (∃ o,h'.get? e = some o /\ o.cls = .type "StopIteration") ->
   wpAny (model prog w) A (do if (<- isInstance (.ref e) (.type "StopIteration")) then pure none else throw (.ref e):Sem (Option Value)) Q E { s with heap:=h' }:=fun e h' k1 ⟨o,e1,e2⟩=>
  zQG (wpAny_isInstance (T := "StopIteration") (b:=true) ⟨o,e1,e2⟩ isSubtype_stop (zQI (q h' k1)))
 unfold pyNext;refine zQG (wpAny_attempt (zQs (name:=Str.ofString "__next__") ty zRu (zQt zRu ty PySem.F.entry_zip_next ?_ (PySem.F.args_zip_next_1 _))));refine zQG (m:=field (.ref z) 2) (zQv Z0 rfl (x:=.bool false) rfl ?_);refine zQG (m:=field (.ref z) 3) (zQv Z0 rfl (x:=.ref TI) rfl ?_);refine zQG (zQ6 P0 rfl ?_);refine zQG (m:=Builtin.SmallTypes.ownedTupleIsFree (.ref z)) ?_;unfold Builtin.SmallTypes.ownedTupleIsFree;refine zQG (zQv Z0 rfl (x:=.none) rfl (zQI ?_));simp only [if_true];refine zQG (wpAny_rule (zQG (zQv Z0 rfl (x:=.ref TO) rfl (zQG (zRW Z0 (by simp) fun h1 Z1 e1=>?_)))));replace Z1:IsZip h1 z TI TO .ellipsis:=Z1;refine zQG ?_;simp only [List.forIn_cons,List.forIn_nil,List.zipIdx_cons,List.zipIdx_nil];cases hx:xs[k]? with
 | none=>
  refine zQG (zQG (zSG (zQG (m:=Builtin.SmallTypes.nextOf (.ref i1)) (zBl hh (TIt.but I1 e1.extBut D.i1z) (Tup.but T1 e1.extBut D.l1z) hx fun h2 e e2 he=>?_))));obtain ⟨oe,o1,o2⟩:=he;have Z2:IsZip h2 z TI TO .ellipsis:=e2 _ _ D.i1z.symm Z1;have ne:e ≠ z:=fun m=>by subst m; rw [Z2] at o1; cases o1; simp at o2
  refine zRW Z2 (by simp) fun h3 _ e3=>stop e h3 (fun c o n x=>?_) ⟨oe,e3.extBut _ _ ne o1,o2⟩;simp only [zQS,zQl,zRb,not_or] at n;exact e3.extBut _ _ n.1 (e2 _ _ n.2.2.1 (e1.extBut _ _ n.1 x))
 | some x=>
  have hy:ys[k]? = none:=by
   rcases he with m | m
   ·rw [hx] at m; cases m
   ·exact m
  refine zQG (zQG (zSG (zQG (m:=Builtin.SmallTypes.nextOf (.ref i1)) (zBW (TIt.but I1 e1.extBut D.i1z) (Tup.but T1 e1.extBut D.l1z) hx fun h2 J1 e2=>zQI ?_))));have O2:IsPair h2 TO a b:=e2.extBut _ _ D.TOi1 (e1.extBut _ _ D.TOz O0);refine zQG (zQ6 O2 rfl (zQG (wpAny_updateSeq_pair O2 fun h3 O3 e3=>zQG (wpAny_letGo (zQI ?_)))))
  refine zQG (zQG (zSG (zQG (m:=Builtin.SmallTypes.nextOf (.ref i2)) (zBl hh (TIt.but (TIt.but (TIt.but I2 e1.extBut D.i2z) e2.extBut D.i12.symm) e3.extBut D.TOi2.symm)
   (Tup.but (Tup.but (Tup.but T2 e1.extBut D.l2z) e2.extBut D.l2i1) e3.extBut D.l2TO) hy fun h4 e e4 he=>?_))))
  obtain ⟨oe,o1,o2⟩:=he;have Z4:IsZip h4 z TI TO .ellipsis:=e4 _ _ D.i2z.symm (e3.extBut _ _ D.TOz.symm (e2.extBut _ _ D.i1z.symm Z1));have ne:e ≠ z:=fun m=>by subst m; rw [Z4] at o1; cases o1; simp at o2
  refine zRW Z4 (by simp) fun h5 _ e5=>stop e h5 (fun c o n x=>?_) ⟨oe,e5.extBut _ _ ne o1,o2⟩;simp only [zQS,zQl,zRb,not_or] at n;exact e5.extBut _ _ n.1 (e4 _ _ n.2.2.2 (e3.extBut _ _ n.2.1 (e2.extBut _ _ n.2.2.1 (e1.extBut _ _ n.1 x))))
end
section
abbrev zT1 (h:Heap) (a:Addr):Heap:=h.push { cls:=.type "tuple_iterator", data:=.fields #[.ref a,.int 0 0] }
abbrev zT2 (h:Heap) (a b:Addr):Heap:=zT1 (zT1 h a) b
abbrev zT3 (h:Heap) (a b:Addr):Heap:=(zT2 h a b).push { cls:=.type "tuple", data:=.seq #[.ref h.objs.size,.ref (zT1 h a).objs.size] }
abbrev zT4 (h:Heap) (a b:Addr):Heap:=(zT3 h a b).push { cls:=.type "tuple", data:=.seq #[.none,.none] }
abbrev zT5 (h:Heap) (a b:Addr):Heap:=(zT4 h a b).push { cls:=.type "zip", data:=.fields #[.none,.bool false,.bool false,.ref (zT2 h a b).objs.size,.ref (zT3 h a b).objs.size] }
theorem zHY (a b:Addr) (xs ys:Array Value):Meets (Builtin.«zip.__new__» ⟨[.type "zip", .ref a,.ref b],[]⟩) (fun _ R s=>s.heap.IsTuple a xs /\ s.heap.IsTuple b ys /\ R (.ok (.ret (.ref (zT4 s.heap a b).objs.size))) { s with heap:=zT5 s.heap a b }) :=
 .of_wp fun prog w A R s h=>by
  obtain ⟨hp,g,d,tk,os⟩:=s;obtain ⟨Ta,Tb,h⟩:=h;have sz:=sub_zip;have U1:Heap.IsTuple (Shared.heap ⟨hp,g,d,tk,os⟩) a xs:=Ta;have U2:Heap.IsTuple (Shared.heap ⟨hp.push { cls:=.type "tuple_iterator", data:=.fields #[.ref a,.int 0 0] },g,d,tk,os⟩) b ys:=Heap.IsTuple.push Tb _;wp_walk using wpAny_pyIter_tuple U1,wpAny_pyIter_tuple U2;exact ⟨_,rfl,h⟩
theorem zJ0 (Ta:s.heap.IsTuple a xs) (Tb:s.heap.IsTuple b ys)
  (h:∀ h',ZipT h' (s.heap.objs.size + 4) (s.heap.objs.size + 2) (s.heap.objs.size + 3) s.heap.objs.size (s.heap.objs.size + 1) a b .none 0 0 -> (∀ c o,s.heap.get? c = some o -> h'.get? c = some o) -> Q (.ref (s.heap.objs.size + 4)) { s with heap:=h' }) :
  wpAny (model prog w) A (call (.type "zip") [.ref a,.ref b]) Q E s:=by
 refine callType_new PySem.F.called_zip (by decide) (PySem.F.typeCall_zip_2 _ _) (PySem.F.newCall_zip_2 _ _) (fun obj=>PySem.F.args_object_init_3 obj _ _) PySem.F.entry_zip_new (zHY a b xs ys) ⟨Ta,Tb,?_⟩;have q1:(zT1 s.heap a).objs.size = s.heap.objs.size + 1:=zQw ..;have q2:(zT2 s.heap a b).objs.size = s.heap.objs.size + 2:=by rw [zQw,q1]
 have q3:(zT3 s.heap a b).objs.size = s.heap.objs.size + 3:=by rw [zQw,q2]
 have q4:(zT4 s.heap a b).objs.size = s.heap.objs.size + 4:=by rw [zQw,q3]
 have u:∀ {h:Heap} {c:Addr} {o p:Obj},h.get? c = some o -> (h.push p).get? c = some o:=fun e=>zQH _ e;have p5:(zT5 s.heap a b).get? (zT4 s.heap a b).objs.size = some _:=zQQ _ rfl;have p4:(zT5 s.heap a b).get? (zT3 s.heap a b).objs.size = some _:=u (zQQ _ rfl);have p3:(zT5 s.heap a b).get? (zT2 s.heap a b).objs.size = some _:=u (u (zQQ _ rfl));have p2:(zT5 s.heap a b).get? (zT1 s.heap a).objs.size = some _:=u (u (u (zQQ _ rfl)));have p1:(zT5 s.heap a b).get? s.heap.objs.size = some _:=u (u (u (u (zQQ _ rfl))));rw [q2,q3,q4] at p5;rw [q1,q2] at p3;rw [q3] at p4;rw [q1] at p2;rw [q4];exact ⟨⟨_,p5,rfl⟩,h _ ⟨p5,p3,⟨_,_,p4⟩,⟨_,p1,rfl,rfl⟩,⟨_,p2,rfl,rfl⟩⟩ fun c o x=>u (u (u (u (u x))))⟩
end
theorem zCH {X:Cx} {zB:List (Addr × Obj)} {σ:L2.St} {H:Hp} {s:Shared} {h':Heap} {t':Nat} {ch:List Addr} {T:Addr} {o:HO} (I:Inv X zB σ H s) (hf:∀ b ∈ ch,zBy X zB H b)
  (k:∀ b u,b ∉ ch -> s.heap.get? b = some u -> h'.get? b = some u) (hT:s.heap.objs.size <= T) (new:zt X.prog X.w (upd H T o) h' T o):Inv X zB σ (upd H T o) { s with heap:=h',toks:=t' }:=by
 have hn:H T = none:=I.hok.fresh hT;have nch:∀ b u,H b = some u -> b ∉ ch:=fun b u e z=>by rw [(hf b z).1] at e; cases e
 have un:∀ b u,H b = some u -> upd H T o b = some u:=fun b u e=>by rw [zO (zd e hn)]; exact e
 refine I.step (g':=s.gens) (d':=s.drawn) (ch:=ch) (fun b hb=>⟨(hf b hb).2.2.2.1,(hf b hb).2.1,(hf b hb).2.2.2.2.1,(hf b hb).2.2.2.2.2⟩) (fun b u _ _ hc e _=>k b u hc e) (fun b u _ _ hc e _=>⟨u.slots,k b u hc e⟩)
  (fun b u _ e n=>by rw [zO (fun z=>by rw [z] at e; exact absurd (zQR e) (Nat.not_lt.mpr hT))]; exact n) (fun b u hc e=>⟨u,k b u hc e⟩) (fun b xs e=>un b _ e) (fun b p u e=>un b _ e) (fun b ps e=>⟨#[],by rw [un b _ e]; simp⟩) (fun m hm=>?_) (fun b u e=>?_) I.bare
 ·obtain ⟨p,es,ep,ho,r⟩:=hm;exact ⟨p,es,ep,k _ p (fun z=>(hf _ z).2.1 rfl) ho,r⟩
 ·by_cases hb:b = T
  ·subst hb; rw [zm] at e; cases e; exact new
  ·rw [zO hb] at e;refine (I.hok b u e).stay (fun c v hc q=>k c v ?_ q) (fun c q=>un c _ q) fun c xs q=>un c _ q;rcases hc with z | z
   ·rw [z]; exact nch b u e
   ·exact nch c _ z
theorem zBm {X:Cx} {zB:List (Addr × Obj)} {σ:L2.St} {H:Hp} {s:Shared} {h':Heap} {t':Nat} {ch:List Addr} (I:Inv X zB σ H s) (hf:∀ b ∈ ch,zBy X zB H b)
  (k:∀ b u,b ∉ ch -> s.heap.get? b = some u -> h'.get? b = some u):Inv X zB σ H { s with heap:=h',toks:=t' }:=by
 have nch:∀ b u,H b = some u -> b ∉ ch:=fun b u e z=>by rw [(hf b z).1] at e; cases e
 refine I.step (g':=s.gens) (d':=s.drawn) (ch:=ch) (fun b hb=>⟨(hf b hb).2.2.2.1,(hf b hb).2.1,(hf b hb).2.2.2.2.1,(hf b hb).2.2.2.2.2⟩) (fun b u _ _ hc e _=>k b u hc e) (fun b u _ _ hc e _=>⟨u.slots,k b u hc e⟩)
  (fun b u _ e n=>n) (fun b u hc e=>⟨u,k b u hc e⟩) (fun b xs e=>e) (fun b p u e=>e) (fun b ps e=>⟨#[],by rw [e]; simp⟩) (fun m hm=>?_) (fun b u e=>?_) I.bare
 ·obtain ⟨p,es,ep,ho,r⟩:=hm;exact ⟨p,es,ep,k _ p (fun z=>(hf _ z).2.1 rfl) ho,r⟩
 ·refine (I.hok b u e).stay (fun c v hc q=>k c v ?_ q) (fun c q=>q) fun c xs q=>q;rcases hc with z | z
  ·rw [z]; exact nch b u e
  ·exact nch c _ z
def Itz (K:PySem.W.Frag) (a b:Addr):It :=
 ⟨fun i H=>∃ xs ys x y,SqT K H a xs /\ SqT K H b ys /\ xs[i]? = some x /\ ys[i]? = some y,
  fun i H v H'=>∃ T x y,v = .ref T /\ H T = none /\ H' = upd H T (.tup [x,y]) /\ (∀ xs,SqT K H a xs -> xs[i]? = some x) /\ ∀ ys,SqT K H b ys -> ys[i]? = some y,
  fun i H=>∃ xs ys,SqT K H a xs /\ SqT K H b ys /\ (xs.length <= i \/ ys.length <= i)⟩
theorem zJQ {P:Program} {w:World} {K:PySem.W.Frag} {es:List Expr} {ek:Nat} {ep:Pos} {z TI TO i1 i2 a b:Addr} (D:ZipApart z TI TO i1 i2 a b) :
  Turn P w K (.Tuple es ek ep) (Itz K a b) [z,TI,TO,i1,i2] z (fun i h=>ZipT h z TI TO i1 i2 a b .none i i) where
 mem:=by simp
 obj:=fun i h Z c hc=>by
  obtain ⟨Z0,P0,⟨x,y,O0⟩,⟨o1,e1,_,d1⟩,⟨o2,e2,_,d2⟩⟩:=Z;simp only [zQS,zQl,zRb] at hc;rcases hc with rfl | rfl | rfl | rfl | rfl
  ·exact ⟨_,Z0,fun v m=>by cases m⟩
  ·exact ⟨_,P0,fun v m=>by cases m⟩
  ·exact ⟨_,O0,fun v m=>by cases m⟩
  ·exact ⟨_,e1,fun v m=>by rw [d1] at m; cases m⟩
  ·exact ⟨_,e2,fun v m=>by rw [d2] at m; cases m⟩
 keep:=fun i h h' Z k=>by
  obtain ⟨Z0,P0,⟨x,y,O0⟩,⟨o1,e1,r1⟩,⟨o2,e2,r2⟩⟩:=Z;exact ⟨k z (by simp) _ Z0,k TI (by simp) _ P0,⟨x,y,k TO (by simp) _ O0⟩,⟨o1,k i1 (by simp) _ e1,r1⟩,⟨o2,k i2 (by simp) _ e2,r2⟩⟩
 item:=by
  intro X hP hw hK hc i zB s σ H E I hf Z hg;subst hP hw hK;obtain ⟨xs,ys,x,y,sa,sb,hx,hy⟩:=hg;obtain ⟨its,rv,p1,z1⟩:=I.tuple sa;obtain ⟨its2,rv2,p2,z2⟩:=I.tuple sb;obtain ⟨u,hu,ru⟩:=rv.get hx;obtain ⟨u2,hu2,ru2⟩:=rv2.get hy;refine zIo D Z (show s.heap.IsTuple a its.toArray from p1) (show s.heap.IsTuple b its2.toArray from p2) (x:=u) (y:=u2) (by simpa using hu) (by simpa using hu2) fun h' Z' N' kp=>⟨_,rfl,?_⟩;refine wpAny_letOwnedTupleGo_zip Z'.z fun h2 Z2 e2=>?_;have hch:∀ c ∈ [z,TO,i1,i2],zBy X zB H c:=fun c hm=>hf c (by
   simp only [zQS,zQl,zRb] at hm ⊢;rcases hm with q | q | q | q <;> simp [q])
  have kk:∀ c o,c ∉ [z,TO,i1,i2] -> s.heap.get? c = some o -> h2.get? c = some o:=fun c o n e=>e2.extBut _ _ (fun m=>n (by simp [m])) (kp c o n e);have zlt:z < s.heap.objs.size:=zQR Z.z;have NT:IsPair h2 s.heap.objs.size u u2:=e2.extBut _ _ (zRl zlt) N';have hfr:H s.heap.objs.size = none:=I.hok.fresh (zQM _);refine ⟨.ref s.heap.objs.size,upd H s.heap.objs.size (.tup [x,y]),zCH (s:=s) (h':=h2) (t':=s.toks) I hch kk (zQM _) ?_,rfl,⟨_,x,y,rfl,hfr,rfl,fun ws hw=>?_,fun ws hw=>?_⟩,?_,fun c hm=>?_⟩
  ·exact ⟨by show 2 <= sizeLine; decide,[u,u2],.cons ru (.cons ru2 .nil),⟨_,NT,rfl,⟨_,rfl⟩,rfl⟩⟩
  ·rw [I.tuple_inj hw sa]; exact hx
  ·rw [I.tuple_inj hw sb]; exact hy
  ·obtain ⟨_,P1,⟨q1,q2,O1⟩,⟨o1,f1,r1⟩,⟨o2,f2,r2⟩⟩:=Z';exact ⟨Z2,e2.extBut _ _ D.TIz P1,⟨q1,q2,e2.extBut _ _ D.TOz O1⟩,⟨o1,e2.extBut _ _ D.i1z f1,r1⟩,⟨o2,e2.extBut _ _ D.i2z f2,r2⟩⟩
  ·have lt:c < s.heap.objs.size:=by
    obtain ⟨Z0,P0,⟨q1,q2,O0⟩,⟨o1,f1,_⟩,⟨o2,f2,_⟩⟩:=Z;simp only [zQS,zQl,zRb] at hm;rcases hm with rfl | rfl | rfl | rfl | rfl
    ·exact zQR Z0
    ·exact zQR P0
    ·exact zQR O0
    ·exact zQR f1
    ·exact zQR f2
   rw [zO (zQb lt)];exact (hf c hm).1
 done:=by
  intro X hP hw hK hc i zB s σ H E I hf Z hg;subst hP hw hK;obtain ⟨xs,ys,sa,sb,hz⟩:=hg;obtain ⟨its,rv,p1,z1⟩:=I.tuple sa;obtain ⟨its2,rv2,p2,z2⟩:=I.tuple sb;have l1:=rv.length;have l2:=rv2.length;refine zLT (I.ok.hd hc) D Z (show s.heap.IsTuple a its.toArray from p1) (show s.heap.IsTuple b its2.toArray from p2) ?_ fun h' kp=>⟨rfl,zBm (s:=s) (h':=h') (t':=s.toks) I (fun c hm=>hf c (by
   simp only [zQS,zQl,zRb] at hm ⊢;rcases hm with q | q | q | q <;> simp [q])) kp⟩
  rcases hz with q | q
  ·exact .inl (by simp; omega)
  ·exact .inr (by simp; omega)
 self:=fun _ _ _ _ _ Z h=>wpAny_pyIter_zip Z.z h
section
theorem zNY {ta:TA} (hg:Gl X "zip") (hm:X.mg "zip" = none) (ha:PA X [a,b] ta) (hs:starEach [a,b] X.env = [(false,eval a X.env),(false,eval b X.env)]:=by rfl) (hs2:starEach [b] X.env = [(false,eval b X.env)]:=by rfl) :
  PI X (.Tuple es ek ep) (.Call (.Name "zip" p) [a,b] [] pos) (fun σ H R=>ta σ H fun vs H1=>∃ l1 l2 xs ys,vs = [.ref l1,.ref l2] /\ SqT X.K H1 l1 xs /\ SqT X.K H1 l2 ys /\ R (Itz X.K l1 l2) H1):=by
 intro zB s σ H R I h;refine Call_ (zBd I hg hm (by rfl) (PyProof.Rows.callWith_type1 (thn (ha pos zB s σ H _ I h) fun us s1 ⟨vs,H1,I1,r1,q1⟩=>?_) (by rw [hs,hs2]) (by rw [hs2]; rfl)));obtain ⟨l1,l2,xs,ys,rfl,s1',s2',q⟩:=q1;cases r1 with
 | cons r rr=>
  cases rr with
  | cons r' rr=>
   cases rr;cases r;cases r';obtain ⟨its,rv,p1,_⟩:=I1.tuple s1';obtain ⟨its2,rv2,p2,_⟩:=I1.tuple s2';have d1:l1 < s1.heap.objs.size:=by obtain ⟨_,e,_⟩:=p1; exact zQR e
   have d2:l2 < s1.heap.objs.size:=by obtain ⟨_,e,_⟩:=p2; exact zQR e
   refine zJ0 (show s1.heap.IsTuple l1 its.toArray from p1) (show s1.heap.IsTuple l2 its2.toArray from p2) fun h' Z kp=>wpAny_pyIter_zip Z.z ?_;refine ⟨s1.heap.objs.size + 4,[s1.heap.objs.size + 4,s1.heap.objs.size + 2,s1.heap.objs.size + 3,s1.heap.objs.size,s1.heap.objs.size + 1],_,_,H1,rfl,I1.kept (t':=s1.toks) kp,zJQ (zipApart_new d1 d2),Z,fun c hc=>?_,q⟩;have ge:s1.heap.objs.size <= c:=by
    simp only [zQS,zQl,zRb] at hc;rcases hc with rfl | rfl | rfl | rfl | rfl
    ·exact zR5 _ 4
    ·exact zR5 _ 2
    ·exact zR5 _ 3
    ·exact zQM _
    ·exact zR5 _ 1
   exact I1.fpOk ge (I1.hok.fresh ge)
def zKD (g:FA):FI:=fun σ M=>match g σ M with
 | some ([.tup xs,.tup ys],M1)=>some ((xs.zip ys).map fun q=>D.tup [q.1,q.2],none,M1)
 | _=>none
theorem zNW (hg:Gl X "zip") (hm:X.mg "zip" = none) (ha:QA X [a,b] g) (hs:starEach [a,b] X.env = [(false,eval a X.env),(false,eval b X.env)]:=by rfl) (hs2:starEach [b] X.env = [(false,eval b X.env)]:=by rfl) :
  QI X (.Tuple es ek ep) (.Call (.Name "zip" p) [a,b] [] pos) (zKD g):=.mk <| PI.imp (zNY hg hm ha.un hs hs2) fun τ H R zz=>by
 obtain ⟨L,σ,M,xs,gd,M',c,rs,hf,q⟩:=zz;unfold zKD at hf;split at hf
 ·rename_i ds es' M1 e1;cases hf;refine ⟨L,σ,M,_,_,c,rs,e1,fun L1 H1 vs s1 c1 r1=>?_⟩;obtain ⟨v,v',rfl,r2,r3⟩:=r1.two;unfold Rep at r2 r3;obtain ⟨l1,ws1,rfl,h1,q1⟩:=r2;obtain ⟨l2,ws2,rfl,h2,q2⟩:=r3;refine ⟨l1,l2,ws1,ws2,rfl,.of h1,.of h2,q L1 H1 _ s1 c1 fun L2 H2 M2 s2 c2 _=>?_⟩;have k1:=s2.tup l1 ws1 h1;have k2:=s2.tup l2 ws2 h2;have p1:=q1.stp s2;have p2:=q2.stp s2;refine ⟨fun i d hd=>?_,⟨ws1,ws2,.of k1,.of k2,?_⟩⟩
  ·rw [zQd] at hd;cases e2:(ds.zip es')[i]? with
   | none=>rw [e2] at hd; cases hd
   | some pr=>
    rw [e2] at hd;cases hd;obtain ⟨f1,f2⟩:=zUM.mp e2;obtain ⟨u,hu,ru⟩:=p1.get f1;obtain ⟨u2,hu2,ru2⟩:=p2.get f2;refine ⟨⟨ws1,ws2,u,u2,.of k1,.of k2,hu,hu2⟩,fun v H3 hy=>?_⟩;obtain ⟨T,x,y,rfl,hT,rfl,hxx,hyy⟩:=hy;have ex:=hxx ws1 (.of k1);have ey:=hyy ws2 (.of k2);rw [hu] at ex; cases ex;rw [hu2] at ey; cases ey;exact ⟨fun a o e=>by rw [zO (zd e hT)]; exact e,Rep.newTup hT (.cons ru (.cons ru2 .nil))⟩
  ·rw [zQP,List.length_zip,p1.length,p2.length];omega
 ·cases hf
def zBE (i j:Nat):FG:=fun d σ=>match d with
 | .tup [x,y]=>some ((σ.set i (some x)).set j (some y))
 | _=>none
abbrev gP2 (K:PySem.W.Frag) (i j:Nat):TG:=zO5 K 2 (zLN (zCd i) (zLN (zCd j) zO3))
theorem zHA {K:PySem.W.Frag} {i j:Nat}:GOk (gP2 K i j) (zBE i j):=by
 intro L H σ σ' τ d v Q rs r hf q;unfold zBE at hf;split at hf
 ·rename_i x y;cases hf;unfold Rep at r;obtain ⟨a,vs,rfl,e,r⟩:=r;obtain ⟨v1,v2,rfl,r1,r2⟩:=r.two;exact ⟨a,_,rfl,.of e,rfl,v1,[v2],rfl,v2,[],rfl,rfl,q _ ((rs.set r1).set r2)⟩
 ·cases hf
theorem zE2 {K:PySem.W.Frag} {own:List Nat} {i j:Nat} (hi:i ∈ own) (hj:j ∈ own):zKQ own (gP2 K i j) (zBE i j):=by
 intro L H σ σ' τ τ0 d v Q rs ex r hf q;unfold zBE at hf;split at hf
 ·rename_i x y;cases hf;unfold Rep at r;obtain ⟨a,vs,rfl,e,r⟩:=r;obtain ⟨v1,v2,rfl,r1,r2⟩:=r.two;exact ⟨a,_,rfl,.of e,rfl,v1,[v2],rfl,v2,[],rfl,rfl,q _ ((rs.set r1).set r2) ((ex.set hi).set hj)⟩
 ·cases hf
end
section
variable {X:Cx}
theorem zIL:∀ {bs:List Bool} {its:List Value},zV (bs.map V.bl) its -> ∀ (i:Nat) v,its[i]? = some v -> ∃ k,bs[i]? = some k /\ v = .bool k
 | [],_,.nil,_,_,h=>by simp at h
 | k :: bs,_,.cons r t,0,v,h=>by
  simp at h; subst h;exact ⟨k,rfl,r⟩
 | k :: bs,_,.cons r t,i + 1,v,h=>by
  obtain ⟨k',e1,e2⟩:=zIL t i v (by simpa using h);exact ⟨k',by simpa using e1,e2⟩
theorem zHa (bs:List Bool):((List.range bs.length).all fun i=>(bs[i]?).getD true) = bs.all id:=by
 rw [Bool.eq_iff_iff,zQr,zQr];constructor
 ·intro q k hk;obtain ⟨i,hi,rfl⟩:=List.getElem_of_mem hk;have:=q i (zQu.mpr hi);rw [zQK hi] at this;exact this
 ·intro q i hi;rw [zQK (zQu.mp hi)];exact q _ (zQo _)
def zPj (K:PySem.W.Frag) (F:List Bool -> Bool):List V -> Hp -> VK -> Prop:=fun xs H Q=>∃ q bs,xs = [.ref q] /\ SqL K H q (bs.map V.bl) /\ Q (.bl (F bs)) H
theorem zJK (hc:X.calm = true):zBa X (.builtin "all") (zPj X.K fun bs=>bs.all id):=by
 intro zB s σ H xs us Q I r h;obtain ⟨l,bs,rfl,hq,q⟩:=h;obtain ⟨u,rfl,rx⟩:=zDf r;cases rx;obtain ⟨its,rv,pl,_⟩:=I.list hq;have hlt:l < s.heap.objs.size:=by obtain ⟨_,z,_⟩:=pl.isList; exact zQR z
 refine call_all_walk (wpAny_pyIter_list pl.isList ⟨s.heap.objs.size,[s.heap.objs.size,l],[s.heap.objs.size],its.toArray.size,_,_,fun i=>(bs[i]?).getD true,rfl,Walks.list (A:=X.A.in1) (I.ok.hd hc) _ l (zQb hlt) its.toArray,
  ⟨⟨_,zQQ _ rfl,rfl,rfl⟩,pl.isList.push _⟩,fun i v s' Q' E' hP hQ=>?_,fun h' tk hk=>?_⟩)
 ·obtain ⟨k,z,rfl⟩:=zIL rv i v (by simpa using hP);dsimp only at hQ; rw [z] at hQ;exact wpAny_truthy_bool hQ
 ·have hl:=rv.length;rw [zQP] at hl;rw [zQO,<- hl,zHa];exact ⟨.bl _,H,I.kept (t':=tk) fun b o z=>hk b o (fun m=>by rw [zQi.mp m] at z; exact zQy _ (zQR z)) (zQH _ z),rfl,q⟩
def zDi:List D -> Option (List Bool)
 | []=>some []
 | .bl k :: r=>match zDi r with
  | some bs=>some (k :: bs)
  | none=>none
 | _=>none
theorem zIE:∀ {ds:List D} {bs:List Bool} {vs:List V},zDi ds = some bs -> zJ L H ds vs -> vs = bs.map V.bl
 | [],bs,vs,e,r=>by cases e; unfold zJ at r; exact r
 | d :: ds,bs,vs,e,r=>by
  unfold zJ at r;obtain ⟨v,r',rfl,r1,r2⟩:=r;cases d with
  | bl k=>
   unfold zDi at e;cases q:zDi ds with
   | none=>rw [q] at e; cases e
   | some bs'=>
    rw [q] at e; cases e;unfold Rep at r1;rw [r1,zIE q r2]; rfl
  | _=>cases e
def zJf (F:List Bool -> Bool):KB:=fun xs M=>match xs with
 | [x]=>match zAO M x with
  | some ds=>match zDi ds with
   | some bs=>some (.dat (.bl (F bs)),M)
   | none=>none
  | none=>none
 | _=>none
theorem zL5 {K:PySem.W.Frag} {F:List Bool -> Bool}:zEf K (zPj K F) (zJf F):=by
 intro L M M' H H0 xs d vs Q c r hk q;unfold zJf at hk;split at hk
 ·rename_i x;split at hk
  ·rename_i ds e1;split at hk
   ·rename_i bs e2;cases hk;obtain ⟨v,rfl,r1⟩:=r.one;obtain ⟨l,ws,rfl,h1,r2⟩:=zAV c r1 e1;have:=zIE e2 r2;subst this;exact ⟨l,bs,rfl,.inl h1,q L H _ (.refl L H) c (zBg (L:=L) (H:=H))⟩
   ·cases hk
  ·cases hk
 ·cases hk
abbrev zPL:KB:=zJf fun bs=>bs.all id
section
theorem zOy (hc:X.calm = true) (hg:Gl X "all") (hm:X.mg "all" = none) (ha:QAE X [e] fa) (he:starEach [e] X.env = (false,eval e X.env) :: starEach [] X.env:=by rfl) (hpl:(backTo pos (starEach [] X.env)).any (·.1) = false:=by rfl):QE X (.Call (.Name "all" p) [e] [] pos) (fB zPL fa) :=
 zDm zL5 (zJK hc) (by rfl) hg hm ha (by decide) (by decide) he hpl
end
theorem zPf (h:zAO M x = some ds) (hb:zDi ds = some bs):Ok (zJf F [x] M) P ↔ P (.dat (.bl (F bs))) M:=by
 have:zJf F [x] M = some (.dat (.bl (F bs)),M):=by unfold zJf; dsimp only; rw [h]; dsimp only; rw [hb]
 rw [this,zg]
theorem zE3:∀ bs:List Bool,zDi (bs.map D.bl) = some bs
 | []=>rfl
 | k :: bs=>by rw [zQZ]; unfold zDi; rw [zE3 bs]
def zLg (f:FE):FE:=fun σ M=>match f σ M with
 | some (.dat (.int i),M1)=>some (.dat (.int (-i)),M1)
 | _=>none
theorem zPJ (h1:QE X a f):QE X (.UnaryOp .USub a pos) (zLg f):=.mk <| PE.imp (zO4 zOL h1.un) fun τ H Q zz=>by
 obtain ⟨L,σ,M,d,M',cc,rs,hf,q⟩:=zz;unfold zLg at hf;split at hf
 ·rename_i i M1 e1;cases hf;refine ⟨L,σ,M,_,_,cc,rs,e1,fun L1 H1 v s1 c1 r1=>?_⟩;exact ⟨i,by unfold za Rep at r1; exact r1,q L1 H1 _ s1 c1 (zAb (L:=L1) (H:=H1))⟩
 ·cases hf
def zDg:KB:=fun xs M=>match xs with
 | [x]=>match zf M x with
  | some ys=>some (.fl ys,M)
  | none=>none
 | _=>none
theorem zJn:zEf X.K (fun xs H Q=>∃ q ys,xs = [.ref q] /\ (SqL X.K H q ys \/ SqT X.K H q ys) /\ ∀ l,H l = none -> Q (.ref l) (upd H l (.lst ys))) zDg:=by
 intro L M M' H H0 xs d vs Q cc r hk q;unfold zDg at hk;split at hk
 ·rename_i x;split at hk
  ·rename_i ys e1;cases hk;obtain ⟨v,rfl,r1⟩:=r.one;obtain ⟨l,ws,rfl,hs,r2⟩:=zDq cc r1 e1;refine ⟨l,ws,rfl,hs,fun k hk=>?_⟩;exact q L _ _ (.upd hk) (cc.upd hk) (za.newLst (.refl L H) cc cc hk r2)
  ·cases hk
 ·cases hk
theorem zNM (hg:Gl X "list") (hm:X.mg "list" = none) (ha:QAE X [e] fa) (he:starEach [e] X.env = (false,eval e X.env) :: starEach [] X.env:=by rfl) (hpl:(backTo pos (starEach [] X.env)).any (·.1) = false:=by rfl):QE X (.Call (.Name "list" p) [e] [] pos) (fB zDg fa) :=
 zEA zJn zGG (by rfl) hg hm ha (by decide) (by decide) he hpl
theorem zKP (hh:zf M x = some xs):Ok (zDg [x] M) P ↔ P (.fl xs) M:=by
 have:zDg [x] M = some (.fl xs,M):=by unfold zDg; dsimp only; rw [hh]
 rw [this,zg]
end
open AutoSeq1 (wpAny_loadPart')
section
theorem zKL:zBa X (.type "range") (fun xs H Q=>∃ j,xs = [.int j] /\ ∀ l,H l = none -> Q (.ref l) (upd H l (.rng 0 j))):=by
 intro zB s σ H xs us Q I r h;obtain ⟨j,rfl,q⟩:=h;obtain ⟨u,rfl,rx⟩:=zDf r;obtain ⟨t,rfl⟩:=rx;refine call_range_1 ⟨.ref s.heap.objs.size,_,I.laid (fun b o z=>zQH _ z) (zQM _) ?_,rfl,q _ (I.hok.fresh (zQM _))⟩;exact ⟨_,_,_,zQQ _ rfl⟩
def upV (n:Nat):List V:=(List.range n).map fun (k:Nat)=>V.int k
theorem zK1 (h:ItemsOf (fun i v=>∃ t,v = .int ((0:Int) + i * 1) t) acc n):zV (upV n) acc.toList:=by
 obtain ⟨hz,hi⟩:=h;have:∀ (xs:List Value) (k:Nat),(∀ j v,xs[j]? = some v -> ∃ t,v = Value.int ((k + j:Nat):Int) t) -> zV ((List.range' k xs.length).map fun (k:Nat)=>V.int k) xs:=by
  intro xs;induction xs with
  | nil=>intro k _; exact .nil
  | cons x xs ih=>
   intro k hk;rw [zQn,List.range'_succ,zQZ];refine .cons ?_ (ih (k + 1) fun j v e=>?_)
   ·obtain ⟨t,e⟩:=hk 0 x rfl;exact ⟨t,by simpa using e⟩
   ·obtain ⟨t,e'⟩:=hk (j + 1) v (by simpa using e);exact ⟨t,by rw [e']; congr 2; omega⟩
 have q:=this acc.toList 0 (fun j v e=>by
  obtain ⟨t,e'⟩:=hi j v (by simpa using e);exact ⟨t,by rw [e']; congr 1; omega⟩)
 unfold upV;rw [List.range_eq_range'];rw [Array.length_toList,hz] at q;exact q
theorem zJk (h0:0 <= j) (h1:j <= 16777216):Builtin.Range.small 0 j 1 = true /\ Builtin.Range.rangeSize 0 j 1 = (j.toNat:Int):=by
 refine ⟨small_one (by omega) (by omega) (by omega) (by omega),?_⟩;rw [rangeSize_one]; split <;> omega
def zP1 (mk:List V -> HO):List V -> Hp -> VK -> Prop:=fun xs H Q=>∃ r j,xs = [.ref r] /\ H r = some (.rng 0 j) /\ 0 <= j /\ j <= 16777216 /\ ∀ l,H l = none -> Q (.ref l) (upd H l (mk (upV j.toNat)))
theorem zH1 (n:Nat):(upV n).length = n:=by unfold upV; simp
theorem zIt (hc:X.calm = true):zBa X (.type "list") (zP1 HO.lst):=by
 intro zB s σ H xs us Q I r h;obtain ⟨l,j,rfl,hr,h0,h1,q⟩:=h;obtain ⟨u,rfl,rx⟩:=zDf r;cases rx;obtain ⟨t,u,v,er⟩:=(show zt X.prog X.w H s.heap l (.rng 0 j) from I.hok l _ hr);obtain ⟨sm,sz⟩:=zJk h0 h1;refine call_list_range (I.ok.hd hc) er sm sz (by omega) fun h' tk acc k kp z it=>?_;refine ⟨.ref s.heap.objs.size,_,I.laid (t':=tk) kp (zQM _) (show zt X.prog X.w _ h' _ (.lst (upV j.toNat)) from ⟨by rw [zH1,sizeLine_eq]; omega,acc.toList,k,zK1 it,by simpa using z⟩),rfl,q _ (I.hok.fresh (zQM _))⟩
def upD (n:Nat):List D:=(List.range n).map fun (k:Nat)=>D.int k
theorem zLk (n:Nat):zJ L H (upD n) (upV n):=by
 have:∀ xs:List Nat,zJ L H (xs.map fun (k:Nat)=>D.int k) (xs.map fun (k:Nat)=>V.int k):=by
  intro xs;induction xs with
  | nil=>exact .nil
  | cons x xs ih=>exact .cons zAb ih
 exact this _
def zBU (f:FE):FE:=fun σ M=>match f σ M with
 | some (.dat (.int j),M1)=>if 0 <= j /\ j <= 16777216 then some (.fl (upD j.toNat),M1) else none
 | _=>none
theorem zN1 (hc:X.calm = true) (hg:Gl X "list") (hm:X.mg "list" = none) (hg2:Gl X "range") (hm2:X.mg "range" = none) (ha:QE X a f)
  (he:starEach [Expr.Call (.Name "range" p2) [a] [] pos2] X.env = (false,eval (Expr.Call (.Name "range" p2) [a] [] pos2) X.env) :: starEach [] X.env:=by rfl) (hpl:(backTo pos (starEach [] X.env)).any (·.1) = false:=by rfl)
  (he2:starEach [a] X.env = (false,eval a X.env) :: starEach [] X.env:=by rfl) (hpl2:(backTo pos2 (starEach [] X.env)).any (·.1) = false:=by rfl) :
  QE X (.Call (.Name "list" p) [.Call (.Name "range" p2) [a] [] pos2] [] pos) (zBU f) :=
 .mk <| PE.imp (zDU (zIt hc) hg hm (by rfl) (zCU (zDU zKL hg2 hm2 boot_range (zCU ha.un zD2 he2) (by decide) (by decide) he2 hpl2) zD2 he) (by decide) (by decide) he hpl) fun τ H Q zz=>by
  obtain ⟨L,σ,M,d,M',c,rs,hf,q⟩:=zz;unfold zBU at hf;split at hf
  ·rename_i j M1 e1;split at hf
   ·rename_i hb;cases hf;refine ⟨L,σ,M,_,_,c,rs,e1,fun L1 H1 v s1 c1 r1=>⟨j,by unfold za Rep at r1; rw [r1],fun l hl=>⟨l,j,rfl,zm,hb.1,hb.2,fun k hk=>?_⟩⟩⟩;have s2:Stp L H L1 (upd H1 l (.rng 0 j)):=s1.trans (.upd hl);exact q L1 _ _ (s2.trans (.upd hk)) ((c1.upd hl).upd hk) (za.newLst s2 c (c1.upd hl) hk (zLk _))
   ·cases hf
  ·cases hf
end
theorem zMS {P:Program} {w:World} {K:PySem.W.Frag} {mg:Str -> Option Value} {base:Heap} {k:Nat} {f:Addr} {fd:FuncData} {ps:List Str} {n:Nat}:FnOk P w K mg base CX0 k f fd ps (spF K n fun _ _=>none):=by
 have no:∀ vs H Q E,¬ spF K n (fun _ _=>none) vs H Q E:=fun vs H Q E ⟨_,_,_,_,_,_,_,_,h,_⟩=>by cases h
 exact ⟨fun vs H Q E h=>absurd h (no vs H Q E),fun A outer s H args us vs Q E _ _ _ _ h=>absurd h (no vs H Q E)⟩
def zCu:Expr -> Bool
 | .Starred .. =>false
 | _=>true
theorem zI (h:zCu e = true):starEach (e :: es) env = (false,eval e env) :: starEach es env:=by
 cases e <;> first | rfl | cases h
theorem zCM (h:zCu e = true):starEach [e] env = [(false,eval e env)]:=zI h
theorem zD8 (h:zCu e = true) (h':zCu e' = true):starEach [e,e'] env = [(false,eval e env),(false,eval e' env)]:=by rw [zI h,zCM h']
theorem zAi:∀ {es:List Expr},es.all zCu = true -> (backTo pos (starEach es env)).any (·.1) = false
 | [],_=>rfl
 | e :: es,h=>by
  rw [List.all_cons,zQq] at h;rw [zI h.1];have:=zAi (pos:=pos) (env:=env) h.2;simpa [backTo] using this
theorem Cor.pushO {K:PySem.W.Frag} {L:List Addr} {M:List MO} {H:Hp} {p:Addr} {o:HO} {m:MO} (c:Cor K L M H) (h:H p = none) (new:zEZ K (L ++ [p]) (L2.upd H p o) p m) :
  Cor K (L ++ [p]) (M ++ [m]) (L2.upd H p o) /\ Stp L H (L ++ [p]) (L2.upd H p o):=by
 have hp:p ∉ L:=fun z=>by obtain ⟨o,e⟩:=c.tracked z; rw [h] at e; cases e
 have st:Stp L H (L ++ [p]) (L2.upd H p o):=by
  refine ⟨⟨[p],rfl⟩,fun a ha=>?_,fun a o e _=>?_,fun a o e=>?_,fun a o u e=>?_⟩
  ·rcases zQg.mp ha with z | z
   ·exact .inl z
   ·have:a = p:=by simpa using z
    subst this; exact .inr h
  all_goals (rw [zO (zd e h)]; exact e)
 refine ⟨⟨by simp [c.len],?_,fun n a m e1 e2=>?_⟩,st⟩
 ·rw [List.nodup_append];exact ⟨c.nd,by simp,fun a ha b hb z=>by
   have:b = p:=by simpa using hb
   subst this; subst z; exact hp ha⟩
 ·by_cases hn:n < L.length
  ·rw [zQN hn] at e1;rw [zQN (by rw [<- c.len]; exact hn)] at e2;exact (c.obj n a m e1 e2).stp st fun o e=>by rw [zO (zd e h)]; exact e
  ·have hn':n = L.length:=by
    have:=(zQJ.mp e1).1;rw [zQW] at this;simp at this; omega
   subst hn';simp at e1;rw [c.len] at e2;simp at e2;subst e1; subst e2;exact new
theorem Cor.put {K:PySem.W.Frag} {L:List Addr} {M:List MO} {H:Hp} {n:Nat} {p:Addr} {o o':HO} {m:MO} (c:Cor K L M H) (h1:L[n]? = some p) (ho:H p = some o) (ht:∀ xs,o ≠ .tup xs) (hf:∀ a u,o ≠ .frz a u)
  (new:Stp L H L (L2.upd H p o') -> zEZ K L (L2.upd H p o') p m):Cor K L (M.set n m) (L2.upd H p o') /\ Stp L H L (L2.upd H p o'):=by
 have st:Stp L H L (L2.upd H p o'):=by
  refine ⟨⟨[],by simp⟩,fun a ha=> .inl ha,fun a o e ha=>?_,fun a xs e=>?_,fun a b u e=>?_⟩
  ·rw [zO (show a ≠ p from fun z=>ha (by rw [z]; exact zQ7 h1))]; exact e
  ·rw [zO (zFC e ho (fun z=>ht xs z.symm))]; exact e
  ·rw [zO (zFC e ho (fun z=>hf b u z.symm))]; exact e
 refine ⟨⟨by simp [c.len],c.nd,fun k a m' e1 e2=>?_⟩,st⟩;rw [zRp] at e2;split at e2
 ·rename_i hk;subst hk;rw [h1] at e1; cases e1;split at e2
  ·cases e2; exact new st
  ·cases e2
 ·rename_i hk;have hne:a ≠ p:=fun z=>hk (by
   subst z;exact (List.getElem?_inj (zQJ.mp h1).1 c.nd).mp (h1.trans e1.symm))
  exact (c.obj k a m' e1 e2).stp st fun o e=>by rw [zO hne]; exact e
section
def zHO:FE:=fun _ M=>some (.dat (.ref M.length),M ++ [.dict []])
theorem zMe:QE X (.Dict [] [] pos) zHO:=.mk <| PE.imp zK0 fun τ H Q ⟨L,σ,M,d,M',c,rs,hf,q⟩ p hp=>by
 unfold zHO at hf;cases hf;obtain ⟨c2,s2⟩:=c.pushO (m:=.dict []) hp ⟨[],zm,rfl⟩;refine q _ _ _ s2 c2 ?_;unfold za Rep;exact ⟨p,rfl,by rw [<- c.len]; simp⟩
theorem zDu (h:Rep L H d v) (e:zBL d = some k):v = kV k:=by
 cases d with
 | int i=>cases e; unfold Rep at h; exact h
 | str x=>cases e; unfold Rep at h; exact h
 | _=>cases e
def zEi (M:Mem):EV -> Option (List D)
 | .fl xs=>some xs
 | .dat (.ref n)=>match M[n]? with
  | some (.lst xs)=>some xs
  | _=>none
 | _=>none
theorem zHs {K:PySem.W.Frag} {L:List Addr} {M:Mem} {H H0:Hp} {x:EV} {v:V} {xs:List D} (c:Cor K L M H) (r:za H0 L H x v) (h:zEi M x = some xs):∃ a vs,v = .ref a /\ H a = some (.lst vs) /\ zJ L H xs vs:=by
 cases x with
 | fl ys=>
  cases h;obtain ⟨p,vs,rfl,_,e,_,r⟩:=r;exact ⟨p,vs,rfl,e,r⟩
 | dat d=>
  cases d with
  | ref n=>
   unfold za Rep at r;obtain ⟨a,rfl,e⟩:=r;unfold zEi at h;dsimp only at h;split at h
   ·rename_i ys q;cases h;obtain ⟨vs,e1,r1⟩:=c.obj n a _ e q;exact ⟨a,vs,rfl,e1,r1⟩
   ·cases h
  | _=>cases h
def zDh:K2:=fun x y M=>match zEi M x,zEi M y with
 | some xs,some ys=>if xs.length + ys.length <= sizeLine then some (.fl (xs ++ ys),M) else none
 | _,_=>none
theorem zKk {K:PySem.W.Frag}:zBz K zOu zDh:=by
 intro L M M' H H0 x y d v w Q c rx ry hk q;unfold zDh at hk;split at hk
 ·rename_i xs ys e1 e2;split at hk
  ·rename_i hz;cases hk;obtain ⟨l,vs,rfl,h1,r1⟩:=zHs c rx e1;obtain ⟨l2,ws,rfl,h2,r2⟩:=zHs c ry e2;refine ⟨l,l2,vs,ws,rfl,rfl,h1,h2,by rw [r1.length,r2.length]; exact hz,fun p hp=>?_⟩;exact q L _ _ (.upd hp) (c.upd hp) (za.newLst (.refl L H) c c hp (r1.app r2))
  ·cases hk
 ·cases hk
theorem zNZ (h1:QE X a f) (h2:QE X b g):QE X (.BinOp a .Add b pos) (fOp zDh f g):=zGZ zKk zNc h1 h2
theorem zHx (h1:zEi M x = some xs) (h2:zEi M y = some ys) (hz:xs.length + ys.length <= 100000) (q:P (.fl (xs ++ ys)) M):Ok (zDh x y M) P:=by
 refine ⟨_,_,?_,q⟩;unfold zDh; rw [h1,h2]; dsimp only; rw [zQV (zQh hz (by decide))]
end
end L3
namespace LR
open PySem PySem.Spec PyProof.Rows
open Sem (wp)
theorem zK2:bootBuiltins "reversed" = some (.type "reversed"):=by rfl
open Sem (wp)
open AutoSeq1 (wpAny_loadPart')
open Sem (wp)
open AutoSeq1 (wpAny_loadPart')
end LR
namespace L3
open PySem PySem.Spec PyProof.Rows L2
section
def zCD:List D -> Option (List Int)
 | []=>some []
 | .int i :: r=>match zCD r with
  | some bs=>some (i :: bs)
  | none=>none
 | _=>none
theorem zCk:∀ {ds:List D} {bs:List Int} {vs:List V},zCD ds = some bs -> zJ L H ds vs -> vs = bs.map V.int
 | [],bs,vs,e,r=>by cases e; unfold zJ at r; exact r
 | d :: ds,bs,vs,e,r=>by
  unfold zJ at r;obtain ⟨v,r',rfl,r1,r2⟩:=r;cases d with
  | int k=>
   unfold zCD at e;cases q:zCD ds with
   | none=>rw [q] at e; cases e
   | some bs'=>
    rw [q] at e; cases e;unfold Rep at r1;rw [r1,zCk q r2]; rfl
  | _=>cases e
theorem zCq:∀ xs:List Int,zCD (xs.map D.int) = some xs
 | []=>rfl
 | x :: r=>by rw [zQZ]; unfold zCD; rw [zCq r]
theorem zI3 (xs:List Int):(xs.map V.int).all zC1 = true:=by
 rw [zQr]; intro x hx; obtain ⟨i,_,rfl⟩:=zQX.mp hx; rfl
theorem zML (i:Int) (xs:List Int):inV (.int i) (xs.map V.int) = xs.any fun y=>decide (y = i):=by
 unfold inV;rw [List.any_map];congr 1
def kIn (neg:Bool):K2:=fun x y M=>match x with
 | .dat (.int i)=>match zf M y with
  | some ds=>match zCD ds with
   | some xs=>some (.dat (.bl (if neg then !(xs.any fun y=>decide (y = i)) else xs.any fun y=>decide (y = i))),M)
   | none=>none
  | none=>none
 | _=>none
theorem zKe {K:PySem.W.Frag} {neg:Bool}:zBz K (rIn K neg) (kIn neg):=by
 intro L M M' H H0 x y d v w Q cc rx ry hk q;unfold kIn at hk;split at hk
 ·rename_i i;split at hk
  ·rename_i ds e1;split at hk
   ·rename_i xs e2;cases hk;have ev:v = .int i:=by unfold za Rep at rx; exact rx
    obtain ⟨p,vs,rfl,hs,r⟩:=zDq cc ry e1;have:=zCk e2 r;subst this;refine ⟨p,_,rfl,hs,by rw [ev]; rfl,zI3 xs,?_⟩;rw [ev,zML];exact q L H _ (.refl L H) cc (zBg (L:=L) (H:=H))
   ·cases hk
  ·cases hk
 ·cases hk
theorem zPc (h1:QE X a f) (h2:QE X b g) (hm:behindInMarks .In b = false:=by rfl):QT X (.Compare a [.In] [b] pos) (tst (fOp (kIn false) f g)):=zCf zKe zJg h1 h2 hm
theorem zKn (h1:QE X a f) (h2:QE X b g) (hm:behindInMarks .NotIn b = false:=by rfl):QT X (.Compare a [.NotIn] [b] pos) (tst (fOp (kIn true) f g)):=zCf zKe zFq h1 h2 hm
end
end L3
namespace L2
open PySem PySem.Spec PyProof.Rows
end L2
namespace LR
open PySem PySem.Spec PyProof.Rows
open Sem (wp)
end LR
namespace L3
open PySem PySem.Spec PyProof.Rows L2
end L3
namespace ST
open PySem
open Sem (wp)
section
variable [DecidableEq K]
def ins (ks:List K) (k:K):List K:=if k ∈ ks then ks else ks ++ [k]
variable {knd:KeyKind prog w K}
variable {s:Shared}
end
open PySem.Spec PyProof.Rows
open Sem (wp)
open Sem (wp)
open Sem (wp)
open Sem (wp)
end ST
namespace L2
open PySem PySem.Spec PyProof.Rows ST
end L2
namespace ST
open PySem PySem.Spec PyProof.Rows
open Sem (wp)
section
variable {prog:Program} {w:World} {A:Around} {E:Value -> Shared -> Prop} {s:Shared}
variable {K:Type} [DecidableEq K] {knd:KeyKind prog w K}
def zL (ks:List K):List K:=ks.foldl ins []
theorem zBY (ks:List K) (k:K):zL (ks ++ [k]) = ins (zL ks) k:=by unfold zL; rw [List.foldl_append]; rfl
theorem zMX (ks:List K) (k:K):(ins ks k).length <= ks.length + 1:=by unfold ins; split <;> simp
theorem zB4 (ks:List K):(zL ks).length <= ks.length:=by
 have:∀ (l acc:List K),(l.foldl ins acc).length <= acc.length + l.length:=by
  intro l;induction l with
  | nil=>intro acc; simp
  | cons x r ih=>intro acc; have:=ih (ins acc x); have:=zMX acc x; simp only [List.foldl_cons,zQn]; omega
 simpa [zL] using this ks []
theorem zMf (ks:List K) (k x:K):x ∈ ins ks k ↔ x ∈ ks \/ x = k:=by
 unfold ins;split
 ·rename_i h; constructor
  ·exact .inl
  ·rintro (z | z)
   ·exact z
   ·rw [z]; exact h
 ·simp
theorem zA3 (ks:List K) (x:K):x ∈ zL ks ↔ x ∈ ks:=by
  have:∀ (l acc:List K),x ∈ l.foldl ins acc ↔ x ∈ acc \/ x ∈ l:=by
    intro l;induction l with
    | nil=>intro acc; simp
    | cons y r ih=>intro acc; rw [List.foldl_cons,ih,zMf,zQS]; simp [or_assoc]
  simpa [zL] using this ks []
theorem zJE (h : ks.Nodup) (k : K) : (ins ks k).Nodup := by
  unfold ins;split
  · exact h
  · rename_i q
    rw [List.nodup_append]
    exact ⟨h, by simp, fun a ha b hb z => by have : b = k := by simpa using hb
                                             subst this; subst z; exact q ha⟩
theorem zFl (ks:List K):(zL ks).Nodup:=by
 have:∀ (l acc:List K),acc.Nodup -> (l.foldl ins acc).Nodup:=by
  intro l;induction l with
  | nil=>intro acc h; exact h
  | cons y r ih=>intro acc h; exact ih _ (zJE h y)
 exact this ks [] (by simp)
variable {R:Result -> Shared -> Prop} {I:Addr} {fp wr:List Addr} {G:Array GenState -> Array GenState -> Prop} {n:Nat} {P:Nat -> Value -> Prop} {St:Nat -> Shared -> Prop}
end
end ST
namespace L2
open PySem PySem.Spec PyProof.Rows ST
end L2
namespace L3
open PySem PySem.Spec PyProof.Rows L2 ST
open AutoSeq1 (wpAny_loadPart')
theorem zNo (hh:A.handled = none) (it l:Addr) (hne:l ≠ it) (items:Array Value) :
  Draws prog w A it [it,l] items.size (fun i v=>items[i]? = some v) (fun i h=>h.IsTupleIter it l i /\ h.IsTuple l items) where
 live:=fun _ _ st=>let ⟨o,ho,_⟩:=st.1; ⟨o,ho⟩;frame:=fun _ _ _ st hk=>⟨let ⟨o,ho,r⟩:=st.1; ⟨o,hk it (by simp) o ho,r⟩,let ⟨o,ho,r⟩:=st.2; ⟨o,hk l (by simp) o ho,r⟩⟩;item:=fun i s Q E hi st hQ=>by
  refine zBW st.1 st.2 (x:=items[i]) (by simp [hi]) fun h' hit' hs'=>?_;exact hQ _ h' s.toks (by simp [hi]) ⟨hit',Tup.but st.2 hs'.extBut hne⟩ hs'
 done:=fun s Q E st hE=>zBl hh st.1 st.2 (by simp) hE
theorem zGR (l:Addr) (items:Array Value) (n:Nat) (dct:Option Addr) (sl:Array (Option Value)) :
  Meets (Builtin.«enumerate.__new__» ⟨[.type "enumerate", .ref l],[]⟩) (fun _ R s=>s.heap.get? l = some { cls:=.type "tuple", dict:=dct,data:=.seq items n,slots:=sl } /\
   R (.ok (.ret (.ref (s.heap.push { cls:=.type "tuple_iterator", data:=.fields #[.ref l,.int 0 0] }).objs.size)))
    { s with heap:=(s.heap.push { cls:=.type "tuple_iterator", data:=.fields #[.ref l,.int 0 0] }).push { cls:=.type "enumerate", data:=.fields #[.none,.bool false,.ref s.heap.objs.size,rawInt 0,.none,.none] } }) :=
 .of_wp fun prog w A R s h=>by
  obtain ⟨hp,g,d,tk,os⟩:=s; obtain ⟨hl,h⟩:=h;have hsub:=sub_enumerate;have hL:Heap.IsTuple (Shared.heap ⟨hp,g,d,tk,os⟩) l items:=⟨_,hl,rfl,n,rfl⟩;wp_walk using wpAny_loadPart' hl;refine wpAny_stack_any fun st=>zQI ?_;split
  ·rename_i c _ _ _ _ _;cases (c == Value.type "enumerate")
   ·wp_walk using wpAny_loadPart' hl,wpAny_pyIter_tuple hL;exact ⟨_,rfl,h⟩
   ·wp_walk using wpAny_loadPart' hl,wpAny_pyIter_tuple hL;exact ⟨_,rfl,h⟩
  ·wp_walk using wpAny_loadPart' hl,wpAny_pyIter_tuple hL;exact ⟨_,rfl,h⟩
section
theorem zH3 (hL:s.heap.IsTuple l items)
  (h:∀ h',IsEnum h' (s.heap.objs.size + 1) s.heap.objs.size 0 .none -> h'.IsTupleIter s.heap.objs.size l 0 -> (∀ c o,s.heap.get? c = some o -> h'.get? c = some o) -> Q (.ref (s.heap.objs.size + 1)) { s with heap:=h' }) :
  wpAny (model prog w) A (call (.type "enumerate") [.ref l]) Q E s:=by
 obtain ⟨o,ho,hc,n,hd⟩:=hL;obtain ⟨ocls,odict,odata,oslots⟩:=o;simp only at hc hd;subst hc; subst hd;refine callType_new PySem.F.called_enumerate (by decide) (PySem.F.typeCall_enumerate_1 _) (PySem.F.newCall_enumerate_1 _) (fun obj=>PySem.F.args_object_init_2 obj _) PySem.F.entry_enumerate_new (zGR l items n odict oslots) ⟨ho,?_⟩;have q1:(s.heap.push { cls:=.type "tuple_iterator", data:=.fields #[.ref l,.int 0 0] }).objs.size = s.heap.objs.size + 1:=zQw ..;have p2:((s.heap.push { cls:=.type "tuple_iterator", data:=.fields #[.ref l,.int 0 0] }).push { cls:=.type "enumerate", data:=.fields #[.none,.bool false,.ref s.heap.objs.size,rawInt 0,.none,.none] }).get? (s.heap.push { cls:=.type "tuple_iterator", data:=.fields #[.ref l,.int 0 0] }).objs.size = some _:=zQQ _ rfl;rw [q1] at p2;rw [q1];exact ⟨⟨_,p2,rfl⟩,h _ p2 ⟨_,zQH _ (zQQ _ rfl),rfl,rfl⟩ fun c o x=>zQH _ (zQH _ x)⟩
theorem zHE (he:IsEnum s.heap e it i old)
  (hn:∀ (Q':Value -> Shared -> Prop) (E':Value -> Shared -> Prop),(∀ h' x,Heap.ExtBut it s.heap h' -> (∃ o,h'.get? x = some o /\ o.cls = .type "StopIteration") -> E' (.ref x) { s with heap:=h' }) -> wpAny (model prog w) A.in1 (Builtin.SmallTypes.nextOf (.ref it)) Q' E' s)
  (hQ:∀ h',Heap.ExtBut it s.heap h' -> Q none { s with heap:=h' }):wpAny (model prog w) A (pyNext (.ref e)) Q E s:=by
 have hT:s.TypeIs (.ref e) "enumerate" := ⟨_,he,rfl⟩;unfold pyNext
 refine zQG (wpAny_attempt (zQs (name:=Str.ofString "__next__") hT PySem.F.slot_enumerate_next
  (zQt PySem.F.slot_enumerate_next hT PySem.F.entry_enumerate_next ?_ (PySem.F.args_enumerate_next_1 _))))
 show wpAny _ _ (field (.ref e) 2 >>= _) _ _ _;refine zQG (zQv he rfl (x:=.ref it) rfl ?_);refine zQG (hn _ _ fun h' x he' hx'=>?_);obtain ⟨o,ho,hc⟩:=hx';refine zQG (wpAny_isInstance (T := "StopIteration") (b:=true) ⟨o,ho,hc⟩ isSubtype_stop ?_);exact zQI (hQ _ he')
end
def zGz (K:PySem.W.Frag) (isT:Bool) (a:Addr):It :=
 ⟨fun i H=>∃ xs x,(if isT then SqT K H a xs else SqL K H a xs) /\ xs[i]? = some x,
  fun i H v H'=>∃ T x,v = .ref T /\ H T = none /\ H' = upd H T (.tup [.int i,x]) /\ ∀ xs,(if isT then SqT K H a xs else SqL K H a xs) -> xs[i]? = some x,
  fun i H=>∃ xs,(if isT then SqT K H a xs else SqL K H a xs) /\ xs.length <= i⟩
def zL4 (isT:Bool) (it a:Addr) (i:Nat) (h:Heap):Prop:=if isT then h.IsTupleIter it a i else h.IsListIter it a i
theorem zJZ {P:Program} {w:World} {K:PySem.W.Frag} {es:List Expr} {ek:Nat} {ep:Pos} {isT:Bool} {e it a:Addr} (hei:e ≠ it) (hae:a ≠ e) (hai:a ≠ it) :
  Turn P w K (.Tuple es ek ep) (zGz K isT a) [e,it] e (fun i h=>(∃ old,IsEnum h e it i old) /\ zL4 isT it a i h) where
 mem:=by simp
 obj:=fun i h ⟨⟨old,he⟩,st⟩ c hc=>by
  simp only [zQS,zQl,zRb] at hc;rcases hc with rfl | rfl
  ·exact ⟨_,he,fun v m=>by cases m⟩
  ·cases isT with
   | true=>obtain ⟨o1,e1,_,d1⟩:=(show h.IsTupleIter c a i from st); exact ⟨_,e1,fun v m=>by rw [d1] at m; cases m⟩
   | false=>obtain ⟨o1,e1,_,d1⟩:=(show h.IsListIter c a i from st); exact ⟨_,e1,fun v m=>by rw [d1] at m; cases m⟩
 keep:=fun i h h' ⟨⟨old,he⟩,st⟩ k=>by
  refine ⟨⟨old,k e (by simp) _ he⟩,?_⟩;cases isT with
  | true=>obtain ⟨o1,e1,r⟩:=(show h.IsTupleIter it a i from st); exact ⟨o1,k it (by simp) _ e1,r⟩
  | false=>obtain ⟨o1,e1,r⟩:=(show h.IsListIter it a i from st); exact ⟨o1,k it (by simp) _ e1,r⟩
 item:=by
  intro X hP hw hK hc i zB s σ H E I hf Z hg;subst hP hw hK;obtain ⟨⟨old,he⟩,st⟩:=Z;obtain ⟨xs,x,sa,hx⟩:=hg;have hch:∀ c ∈ [e,it],zBy X zB H c:=hf;have elt:e < s.heap.objs.size:=zQR he
  have fin:∀ (its:List Value) (u:Value) (h':Heap) (tk:Nat),zV xs its -> its[i]? = some u -> IsEnumOut h' e it ((i:Int) + 1) u s.heap.objs.size -> zL4 isT it a (i + 1) h' -> h'.get? s.heap.objs.size = some { cls:=.type "tuple", data:=.seq #[.int i tk,u] } ->
    (∀ b o,b ≠ e -> b ≠ it -> s.heap.get? b = some o -> h'.get? b = some o) -> it < s.heap.objs.size ->
    ∃ u',some (Value.ref s.heap.objs.size) = some u' /\ wpAny (model X.prog X.w) X.A (letOwnedTupleGo (.Tuple es ek ep) (.ref e) u') (fun _ s2=>∃ x H',Inv X zB σ H' s2 /\ ze x u' /\ (zGz X.K isT a).yld i H x H' /\ ((∃ old,IsEnum s2.heap e it ((i + 1:Nat):Int) old) /\ zL4 isT it a (i + 1) s2.heap) /\ ∀ b ∈ [e,it],H' b = none) E { s with heap:=h',toks:=tk + 1 }:=by
   intro its u h' tk rv hu ho st' hT hk ilt;refine ⟨_,rfl,wpAny_letOwnedTupleGo_enum ho fun h2 he2 e2=>?_⟩;have kk:∀ c o,c ∉ [e,it] -> s.heap.get? c = some o -> h2.get? c = some o:=fun c o n q=>by
    simp only [zQS,zQl,zRb,not_or] at n;exact e2.extBut _ _ n.1 (hk c o n.1 n.2 q)
   have NT:=e2.extBut _ _ (zRl elt) hT;have hfr:H s.heap.objs.size = none:=I.hok.fresh (zQM _);obtain ⟨u2,hu2,ru⟩:=rv.get hx;rw [hu] at hu2; cases hu2;refine ⟨.ref s.heap.objs.size,upd H s.heap.objs.size (.tup [.int i,x]),zCH (s:=s) (h':=h2) (t':=tk + 1) I hch kk (zQM _) ?_,rfl,⟨_,x,rfl,hfr,rfl,fun ws hw=>?_⟩,⟨⟨u,by simpa using he2⟩,?_⟩,fun c hm=>?_⟩
   ·exact ⟨by show 2 <= sizeLine; decide,[.int i tk,u],.cons ⟨tk,rfl⟩ (.cons ru .nil),⟨_,NT,rfl,⟨_,rfl⟩,rfl⟩⟩
   ·cases isT with
    | true=>rw [I.tuple_inj hw sa]; exact hx
    | false=>rw [I.list_inj hw sa]; exact hx
   ·cases isT with
    | true=>obtain ⟨o1,e1,r⟩:=(show h'.IsTupleIter it a (i + 1) from st'); exact ⟨o1,e2.extBut _ _ hei.symm e1,r⟩
    | false=>obtain ⟨o1,e1,r⟩:=(show h'.IsListIter it a (i + 1) from st'); exact ⟨o1,e2.extBut _ _ hei.symm e1,r⟩
   ·have lt:c < s.heap.objs.size:=by
     simp only [zQS,zQl,zRb] at hm;rcases hm with rfl | rfl
     ·exact elt
     ·exact ilt
    rw [zO (zQb lt)];exact (hf c hm).1
  have hef:e ∉ [it,a]:=by simp only [zQS,zQl,zRb,not_or]; exact ⟨hei,hae.symm⟩
  cases isT with
  | true=>
   obtain ⟨its,rv,p1,z1⟩:=I.tuple sa;have st':s.heap.IsTupleIter it a i:=st;obtain ⟨o1,e1,_⟩:=id st';refine wpAny_pyNext_enum_itemD (zNo (prog:=X.prog) (w:=X.w) (A:=X.A.in1) (I.ok.hd hc) it a hai its.toArray) he ⟨st',show s.heap.IsTuple a its.toArray from p1⟩ (by have:=rv.length; have:=(zQJ.mp hx).1; rw [zQO]; omega) hei hef fun u h' tk hu ho hs hT _ hk=>?_;exact fin its u h' tk rv (by simpa using hu) ho hs.1 hT hk (zQR e1)
  | false=>
   obtain ⟨its,rv,p1,z1⟩:=I.list sa;have st':s.heap.IsListIter it a i:=st;obtain ⟨o1,e1,_⟩:=id st';refine wpAny_pyNext_enum_itemD (Draws.list (prog:=X.prog) (w:=X.w) (A:=X.A.in1) (I.ok.hd hc) it a hai its.toArray) he ⟨st',p1.isList⟩ (by have:=rv.length; have:=(zQJ.mp hx).1; rw [zQO]; omega) hei hef fun u h' tk hu ho hs hT _ hk=>?_;exact fin its u h' tk rv (by simpa using hu) ho hs.1 hT hk (zQR e1)
 done:=by
  intro X hP hw hK hc i zB s σ H E I hf Z hg;subst hP hw hK;obtain ⟨⟨old,he⟩,st⟩:=Z;obtain ⟨xs,sa,hz⟩:=hg;have out:∀ h',Heap.ExtBut it s.heap h' -> (none:Option Value) = none /\ Inv X zB σ H { s with heap:=h' }:=fun h' x=>⟨rfl,zBm (s:=s) (h':=h') (t':=s.toks) I hf fun c o n q=>x c o (fun m=>n (by simp [m])) q⟩;cases isT with
  | true=>
   obtain ⟨its,rv,p1,z1⟩:=I.tuple sa;refine zHE he (fun Q' E' hq=>zBl (I.ok.hd hc) (show s.heap.IsTupleIter it a i from st) (show s.heap.IsTuple a its.toArray from p1) (by have:=rv.length; simp; omega) hq) out
  | false=>
   obtain ⟨its,rv,p1,z1⟩:=I.list sa;refine zHE he (fun Q' E' hq=>wpAny_nextOf_list_end (I.ok.hd hc) (show s.heap.IsListIter it a i from st) p1.isList (by have:=rv.length; simp; omega) hq) out
 self:=fun _ _ _ _ _ Z h=>let ⟨⟨_,he⟩,_⟩:=Z; wpAny_pyIter_enum he h
section
theorem zLZ {te:TE} (hg:Gl X "enumerate") (hm:X.mg "enumerate" = none) (ha:PE X a te) (hs:starEach [a] X.env = (false,eval a X.env) :: starEach [] X.env:=by rfl) (hpl:(backTo pos (starEach [] X.env)).any (·.1) = false:=by rfl) :
  PI X (.Tuple es ek ep) (.Call (.Name "enumerate" p) [a] [] pos) (fun σ H R=>te σ H fun x H1=>∃ l,x = .ref l /\ ((∃ xs,SqT X.K H1 l xs) /\ R (zGz X.K true l) H1 \/ (∃ xs,SqL X.K H1 l xs) /\ R (zGz X.K false l) H1)):=by
 intro zB s σ H R I h;refine wpAny_Call_Name_kw (zBd I hg hm (by rfl) ?_ (by decide) (by decide));refine callWith_type1 ?_ hs hpl;rw [hs];refine Calls.spliced_cons (thn (ha zB s σ H _ I h) fun u s1 ⟨x,H1,I1,r1,l,hx,q⟩=>Calls.spliced_nil ?_);subst hx;cases r1
 have out:∀ (isT:Bool) (h':Heap),l < s1.heap.objs.size -> IsEnum h' (s1.heap.objs.size + 1) s1.heap.objs.size 0 .none -> zL4 isT s1.heap.objs.size l 0 h' -> (∀ c o,s1.heap.get? c = some o -> h'.get? c = some o) -> R (zGz X.K isT l) H1 ->
   wpAny (model X.prog X.w) X.A (pyIter (.ref (s1.heap.objs.size + 1))) (PIE X zB σ (.Tuple es ek ep) R) X.xe { s1 with heap:=h' }:=by
  intro isT h' hl he st kp q;refine wpAny_pyIter_enum (s:={ s1 with heap:=h' }) he ?_;refine ⟨s1.heap.objs.size + 1,[s1.heap.objs.size + 1,s1.heap.objs.size],_,_,H1,rfl,I1.kept (t':=s1.toks) kp,zJZ (isT:=isT) (zRl (Nat.lt_succ_self _)) (zQb (Nat.lt_succ_of_lt hl)) (zQb hl),⟨⟨_,he⟩,st⟩,fun c hc=>?_,q⟩;have ge:s1.heap.objs.size <= c:=by
   simp only [zQS,zQl,zRb] at hc;rcases hc with rfl | rfl
   ·exact Nat.le_succ _
   ·exact zQM _
  exact I1.fpOk ge (I1.hok.fresh ge)
 rcases q with ⟨⟨xs,hq⟩,q⟩ | ⟨⟨xs,hq⟩,q⟩
 ·obtain ⟨its,rv,p1,_⟩:=I1.tuple hq;have hl:l < s1.heap.objs.size:=by obtain ⟨_,e,_⟩:=p1; exact zQR e
  exact zH3 (show s1.heap.IsTuple l its.toArray from p1) fun h' he st kp=>out true h' hl he st kp q
 ·obtain ⟨its,rv,p1,_⟩:=I1.list hq;have hl:l < s1.heap.objs.size:=by obtain ⟨_,_,e,_⟩:=p1; exact zQR e
  exact call_enumerate_list p1.isList fun h' he st _ kp=>out false h' hl he st kp q
def zGv (xs:List D):List D:=((List.range xs.length).zip xs).map fun q=>D.tup [.int (q.1:Nat),q.2]
theorem zJq {xs:List D} {i:Nat} {d:D} (h:(zGv xs)[i]? = some d):∃ x,xs[i]? = some x /\ d = .tup [.int (i:Nat),x]:=by
 unfold zGv at h;rw [zQd] at h;cases e:((List.range xs.length).zip xs)[i]? with
 | none=>rw [e] at h; cases h
 | some pr=>
  rw [e] at h;cases h;obtain ⟨f1,f2⟩:=zUM.mp e;have hi:i < xs.length:=(zQJ.mp f2).1;rw [List.getElem?_range hi] at f1;cases f1;exact ⟨pr.2,f2,rfl⟩
theorem zLJ (xs:List D):(zGv xs).length = xs.length:=by unfold zGv; simp
def zGu (f:FE):FI:=fun σ M=>match f σ M with
 | some (x,M1)=>match zf M1 x with
  | some xs=>some (zGv xs,zGQ x xs,M1)
  | none=>none
 | none=>none
theorem zMm {g:FE} (hg:Gl X "enumerate") (hm:X.mg "enumerate" = none) (h:QE X a g) (hs:starEach [a] X.env = (false,eval a X.env) :: starEach [] X.env:=by rfl) (hpl:(backTo pos (starEach [] X.env)).any (·.1) = false:=by rfl) :
  QI X (.Tuple es ek ep) (.Call (.Name "enumerate" p) [a] [] pos) (zGu g):=.mk <| PI.imp (zLZ hg hm h.un hs hpl) fun τ H R zz=>by
 obtain ⟨L,σ,M,xs,gd,M',c,rs,hf,q⟩:=zz;unfold zGu at hf;split at hf
 ·rename_i y M1 e1;split at hf
  ·rename_i zs e2;cases hf;refine ⟨L,σ,M,_,_,c,rs,e1,fun L1 H1 v s1 c1 r1=>?_⟩
   have step:∀ (isT:Bool) (l:Addr) (L2:List Addr) (H2:Hp) (vs:List V),(if isT then SqT X.K H2 l vs else SqL X.K H2 l vs) -> zJ L2 H2 zs vs ->
     (∀ (i:Nat) d,(zGv zs)[i]? = some d -> (zGz X.K isT l).go i H2 /\ ∀ v H'',(zGz X.K isT l).yld i H2 v H'' -> (∀ a o,H2 a = some o -> H'' a = some o) /\ Rep L2 H'' d v) /\ (zGz X.K isT l).stop (zGv zs).length H2:=by
    intro isT l L2 H2 vs hq r;refine ⟨fun i d hd=>?_,⟨vs,hq,by rw [zLJ,r.length]; exact zQM _⟩⟩;obtain ⟨x,hx,rfl⟩:=zJq hd;obtain ⟨u,hu,ru⟩:=r.get hx;refine ⟨⟨vs,u,hq,hu⟩,fun v H3 hy=>?_⟩;obtain ⟨T,x',rfl,hT,rfl,hxx⟩:=hy;have ex:=hxx vs hq;rw [hu] at ex; cases ex;exact ⟨fun a o e=>by rw [zO (zd e hT)]; exact e,Rep.newTup hT (.cons zAb (.cons ru .nil))⟩
   unfold zf at e2;cases t:zA8 y with
   | some ws=>
    rw [t] at e2; cases e2;obtain ⟨a,vs,rfl,e3,r3⟩:=zA4 r1 t;refine ⟨a,rfl,.inl ⟨⟨vs,.of e3⟩,q L1 H1 _ s1 c1 fun L2 H2 M2 s2 c2 _=>?_⟩⟩;exact step true a L2 H2 vs (.of (s2.tup a vs e3)) (r3.stp s2)
   | none=>
    rw [t] at e2;obtain ⟨a,vs,rfl,e3,r3⟩:=zAV c1 r1 e2;refine ⟨a,rfl,.inr ⟨⟨vs,.inl e3⟩,q L1 H1 _ s1 c1 fun L2 H2 M2 s2 c2 hgd=>?_⟩⟩;have key:∃ vs',SqL X.K H2 a vs' /\ zJ L2 H2 zs vs':=by
     cases y with
     | fl ys=>
      cases e2;obtain ⟨p',vs',hp',_,e5,e6,r6⟩:=r1;cases hp';exact ⟨vs',.of (s2.old _ _ e5 e6),r6.stp s2⟩
     | dat d=>
      cases d with
      | ref n=>
       unfold za Rep at r1;obtain ⟨a',ha',e5⟩:=r1;cases ha';have e6:L2[n]? = some a:=by obtain ⟨N,hN⟩:=s2.pre; rw [hN]; exact zBw e5
       rcases hgd with z | z
       ·obtain ⟨vs',e7,r7⟩:=c2.obj n a _ e6 z; exact ⟨vs',.of e7,r7⟩
       ·obtain ⟨o,vs',e7,r7⟩:=c2.obj n a _ e6 z; exact ⟨vs',.inl (.inr ⟨o,e7⟩),r7⟩
      | _=>cases e2
    obtain ⟨vs',hq,r7⟩:=key;exact step false a L2 H2 vs' hq r7
  ·cases hf
 ·cases hf
end
section
variable [DecidableEq κ]
def zBC (kf:D -> Option κ) (kvs:List (D × D)) (k:κ):Option D:=(kvs.find? fun p=>decide (kf p.1 = some k)).map (·.2)
def zEo (kf:D -> Option κ) (kvs:List (D × D)) (k:κ) (kd v:D):List (D × D) :=
 if (kvs.any fun p=>decide (kf p.1 = some k)) = true then kvs.map fun p=>if kf p.1 = some k then (p.1,v) else p else kvs ++ [(kd,v)]
theorem zCP (k:κ):∀ {kvs:List (D × D)} {vs:List (κ × V)},zAP kf L H kvs vs -> (zBC kf kvs k = none /\ zB6 vs k = none) \/ ∃ d v,zBC kf kvs k = some d /\ zB6 vs k = some v /\ Rep L H d v
 | [],vs,h=>by unfold zAP at h; subst h; exact .inl ⟨rfl,rfl⟩
 | p :: r,vs,h=>by
  obtain ⟨k',v,r',rfl,e,h1,h2⟩:=h;by_cases q:k' = k
  ·subst q;exact .inr ⟨p.2,v,by unfold zBC; rw [zR2,e]; simp,by rw [zDD rfl],h1⟩
  ·have e1:zBC kf (p :: r) k = zBC kf r k:=by unfold zBC; rw [zR2,e]; simp [q]
   rw [e1,zC5 q];exact zCP k h2
theorem zGi (k:κ):∀ {kvs:List (D × D)} {vs:List (κ × V)},zAP kf L H kvs vs -> (kvs.any fun p=>decide (kf p.1 = some k)) = (vs.any fun kv=>decide (kv.1 = k))
 | [],vs,h=>by unfold zAP at h; subst h; rfl
 | p :: r,vs,h=>by
  obtain ⟨k',v,r',rfl,e,h1,h2⟩:=h;rw [List.any_cons,List.any_cons,zGi k h2,e];simp
theorem zD5 (k:κ) (hd:Rep L H d u):∀ {kvs:List (D × D)} {vs:List (κ × V)},zAP kf L H kvs vs -> zAP kf L H (kvs.map fun p=>if kf p.1 = some k then (p.1,d) else p) (vs.map fun kv=>if kv.1 = k then (kv.1,u) else kv)
 | [],vs,h=>by unfold zAP at h; subst h; rfl
 | p :: r,vs,h=>by
  obtain ⟨k',v,r',rfl,e,h1,h2⟩:=h;rw [zQZ,zQZ];by_cases q:k' = k
  ·subst q;rw [zQV e,zQV rfl];exact ⟨k',u,_,rfl,e,hd,zD5 k' hd h2⟩
  ·rw [zQY (by rw [e]; simpa using q),zQY q];exact ⟨k',v,_,rfl,e,h1,zD5 k hd h2⟩
theorem zEy (hk:kf kd = some k) (hd:Rep L H d u):∀ {kvs:List (D × D)} {vs:List (κ × V)},zAP kf L H kvs vs -> zAP kf L H (kvs ++ [(kd,d)]) (vs ++ [(k,u)])
 | [],vs,h=>by unfold zAP at h; subst h; exact ⟨k,u,[],rfl,hk,hd,rfl⟩
 | p :: r,vs,h=>by
  obtain ⟨k',v,r',rfl,e,h1,h2⟩:=h;exact ⟨k',v,_,rfl,e,h1,zEy hk hd h2⟩
theorem zIW {kf:D -> Option κ} {L:List Addr} {H:Hp} {k:κ} {kd d:D} {u:V} (hk:kf kd = some k) (hd:Rep L H d u) {kvs:List (D × D)} {vs:List (κ × V)} (h:zAP kf L H kvs vs):zAP kf L H (zEo kf kvs k kd d) (zBO vs k u):=by
 unfold zEo zBO;rw [zGi k h];split
 ·exact zD5 k hd h
 ·exact zEy hk hd h
end
theorem zHI:∀ {ds:List D} {vs:List V} {ks:List Key},zJ L H ds vs -> zEF ds = some ks -> vs = ks.map kV
 | [],vs,ks,h,e=>by cases e; unfold zJ at h; exact h
 | d :: ds,vs,ks,h,e=>by
  unfold zJ at h;obtain ⟨v,r,rfl,h1,h2⟩:=h;unfold zEF at e;cases e1:zBL d with
  | none=>rw [e1] at e; cases e
  | some k=>
   cases e2:zEF ds with
   | none=>rw [e1,e2] at e; cases e
   | some ks'=>
    rw [e1,e2] at e; cases e;rw [zDu h1 e1,zHI h2 e2]; rfl
theorem zHv (h:Rep L H d v) (e:tkD d = some ks):∃ b,v = .ref b /\ H b = some (.tup (ks.map kV)):=by
 cases d with
 | tup ds=>
  unfold Rep at h;obtain ⟨a,vs,rfl,e1,r⟩:=h;exact ⟨a,rfl,by rw [e1,zHI r e]⟩
 | _=>cases e
def zCO (M:Mem) (x:EV) (k:D):Option (Option D):=match x with
 | .dat (.ref n)=>match M[n]? with
  | some (.dict kvs)=>match zBL k with
   | some kk=>some (zBC zBL kvs kk)
   | none=>none
  | some (.dicT kvs)=>match tkD k with
   | some kk=>some (zBC tkD kvs kk)
   | none=>none
  | some (.froK kvs)=>match zBL k with
   | some kk=>some (zBC zBL kvs kk)
   | none=>none
  | some (.froT kvs)=>match tkD k with
   | some kk=>some (zBC tkD kvs kk)
   | none=>none
  | _=>none
 | _=>none
def zPI (L:List Addr) (H:Hp):Option D -> Option V -> Prop
 | none,o=>o = none
 | some d,o=>∃ v,o = some v /\ Rep L H d v
theorem zGe {K:PySem.W.Frag} {L:List Addr} {M:Mem} {H H0:Hp} {x:EV} {v w:V} {k:D} {o:Option D} (c:Cor K L M H) (rx:za H0 L H x v) (rk:Rep L H k w) (e:zCO M x k = some o):∃ a ov,v = .ref a /\ zCz H a w ov /\ zPI L H o ov:=by
 cases x with
 | fl xs=>cases e
 | dat d=>
  cases d with
  | ref n=>
   unfold za Rep at rx;obtain ⟨a,rfl,ea⟩:=rx;unfold zCO at e;dsimp only at e;cases q:M[n]? with
   | none=>rw [q] at e; cases e
   | some m=>
    rw [q] at e;have z:=c.obj n a m ea q;cases m with
    | dict kvs=>
     cases e2:zBL k with
     | none=>rw [e2] at e; cases e
     | some kk=>
      rw [e2] at e;cases e;obtain ⟨vs,e3,r⟩:=z;refine ⟨a,zB6 vs kk,rfl,?_,?_⟩
      ·rw [zDu rk e2]; exact zCz.k e3
      ·rcases zCP kk r with ⟨h1,h2⟩ | ⟨d,v,h1,h2,h3⟩
       ·rw [h1,h2]; rfl
       ·rw [h1,h2]; exact ⟨v,rfl,h3⟩
    | dicT kvs=>
     cases e2:tkD k with
     | none=>rw [e2] at e; cases e
     | some kk=>
      rw [e2] at e;cases e;obtain ⟨vs,e3,r⟩:=z;obtain ⟨b,rfl,eb⟩:=zHv rk e2;refine ⟨a,zB6 vs kk,rfl,zCz.t e3 eb,?_⟩;rcases zCP kk r with ⟨h1,h2⟩ | ⟨d,v,h1,h2,h3⟩
      ·rw [h1,h2]; rfl
      ·rw [h1,h2]; exact ⟨v,rfl,h3⟩
    | froK kvs=>
     cases e2:zBL k with
     | none=>rw [e2] at e; cases e
     | some kk=>
      rw [e2] at e;cases e;obtain ⟨ob,vs,e3,r⟩:=z;refine ⟨a,zB6 vs kk,rfl,.inl ⟨vs,kk,.inr ⟨ob,e3⟩,zDu rk e2,rfl⟩,?_⟩;rcases zCP kk r with ⟨h1,h2⟩ | ⟨d,v,h1,h2,h3⟩
      ·rw [h1,h2]; rfl
      ·rw [h1,h2]; exact ⟨v,rfl,h3⟩
    | froT kvs=>
     cases e2:tkD k with
     | none=>rw [e2] at e; cases e
     | some kk=>
      rw [e2] at e;cases e;obtain ⟨ob,vs,e3,r⟩:=z;obtain ⟨b,rfl,eb⟩:=zHv rk e2;refine ⟨a,zB6 vs kk,rfl,.inr ⟨vs,kk,b,.inr ⟨ob,e3⟩,rfl,eb,rfl⟩,?_⟩;rcases zCP kk r with ⟨h1,h2⟩ | ⟨d,v,h1,h2,h3⟩
      ·rw [h1,h2]; rfl
      ·rw [h1,h2]; exact ⟨v,rfl,h3⟩
    | _=>cases e
  | _=>cases e
def zCc (M:Mem) (n:Nat) (k v:D):Option Mem:=match M[n]? with
 | some (.dict kvs)=>match zBL k with
  | some kk=>if kvs.length < sizeLine then some (M.set n (.dict (zEo zBL kvs kk k v))) else none
  | none=>none
 | some (.dicT kvs)=>match tkD k with
  | some kk=>if kvs.length < sizeLine then some (M.set n (.dicT (zEo tkD kvs kk k v))) else none
  | none=>none
 | _=>none
theorem zGl {K:PySem.W.Frag} {L:List Addr} {M M':Mem} {H:Hp} {n:Nat} {a:Addr} {k v:D} {w u:V} (c:Cor K L M H) (ea:L[n]? = some a) (rk:Rep L H k w) (rv:Rep L H v u) (e:zCc M n k v = some M'):∃ H',zDZ H a w u H' /\ Cor K L M' H' /\ Stp L H L H':=by
 unfold zCc at e;cases q:M[n]? with
 | none=>rw [q] at e; cases e
 | some m=>
  rw [q] at e;have z:=c.obj n a m ea q;cases m with
  | dict kvs=>
   cases e2:zBL k with
   | none=>rw [e2] at e; cases e
   | some kk=>
    rw [e2] at e;dsimp only at e;split at e
    ·rename_i hl;cases e;obtain ⟨vs,e3,r⟩:=z;obtain ⟨c3,s3⟩:=c.put (m:=.dict (zEo zBL kvs kk k v)) (o':=.dK (zBO vs kk u)) ea e3 (fun _ z=>by cases z) (fun _ _ z=>by cases z) fun s3=>⟨_,zm,(zIW e2 rv r).stp s3⟩;refine ⟨_,?_,c3,s3⟩;rw [zDu rk e2]; exact zDZ.k e3 (by rw [r.length]; exact hl)
    ·cases e
  | dicT kvs=>
   cases e2:tkD k with
   | none=>rw [e2] at e; cases e
   | some kk=>
    rw [e2] at e;dsimp only at e;split at e
    ·rename_i hl;cases e;obtain ⟨vs,e3,r⟩:=z;obtain ⟨b,rfl,eb⟩:=zHv rk e2;obtain ⟨c3,s3⟩:=c.put (m:=.dicT (zEo tkD kvs kk k v)) (o':=.dT (zBO vs kk u)) ea e3 (fun _ z=>by cases z) (fun _ _ z=>by cases z) fun s3=>⟨_,zm,(zIW e2 rv r).stp s3⟩;exact ⟨_,zDZ.t e3 eb (by rw [r.length]; exact hl),c3,s3⟩
    ·cases e
  | _=>cases e
section
def zAj:K2:=fun x y M=>match y with
 | .dat k=>match zCO M x k with
  | some (some d)=>some (.dat d,M)
  | _=>none
 | _=>none
theorem zJx {K:PySem.W.Frag}:zBz K (fun x y H Q=>∃ a v,x = .ref a /\ zCz H a y (some v) /\ Q v H) zAj:=by
 intro L M M' H H0 x y d v w Q c rx ry hk q;unfold zAj at hk;split at hk
 ·rename_i k;split at hk
  ·rename_i d' e1;cases hk;obtain ⟨a,ov,rfl,h1,h2⟩:=zGe c rx ry e1;obtain ⟨u,rfl,r⟩:=h2;exact ⟨a,u,rfl,h1,q L H u (.refl L H) c r⟩
  ·cases hk
 ·cases hk
theorem zOC (hu:X.A.units + 1 < cLine) (h1:QE X o f) (h2:QE X i g) (hs:zNC i:=by intro _ _; rfl):QE X (.Subscript o i pos) (fOp zAj f g):=.mk <| PE.imp (zMh hu h1.un h2.un hs) fun _ _ _ h=>zCQ zJx h
def zEg (neg:Bool):K2:=fun x y M=>match x with
  | .dat k=>match zCO M y k with
    | some o=>some (.dat (.bl (if neg then !o.isSome else o.isSome)),M)
    | none=>none
  | _=>none
theorem zLD {o:Option D} {ov:Option V} (h:zPI L H o ov):ov.isSome = o.isSome:=by
  cases o with
  | none => have h' : ov = none := h
            rw [h']; rfl
  | some d=>obtain ⟨v,rfl,_⟩:=h; rfl
theorem zHh {K:PySem.W.Frag}:zBz K (fun y x H Q=>∃ a o,x = .ref a /\ zCz H a y o /\ Q (.bl (!o.isSome)) H) (zEg true):=by
 intro L M M' H H0 x y d v w Q c rx ry hk q;unfold zEg at hk;split at hk
 ·rename_i k;split at hk
  ·rename_i o e1;cases hk;obtain ⟨a,ov,rfl,h1,h2⟩:=zGe c ry rx e1;refine ⟨a,ov,rfl,h1,?_⟩;rw [zLD h2];exact q L H _ (.refl L H) c (zBg (L:=L) (H:=H))
  ·cases hk
 ·cases hk
theorem zIx (hu:X.A.units + 1 < cLine) (h1:QE X a f) (h2:QE X b g) (hm:behindInMarks .NotIn b = false:=by rfl):QT X (.Compare a [.NotIn] [b] pos) (tst (fOp (zEg true) f g)):=.mk <| PT.imp (zM9 (zJb hu h1.un h2.un) hm) fun _ _ _ h=>zEN (fun _ _ _ z=>zCQ zHh z) (zDY h)
def zCe (fv fo fi:FE):FS:=fun σ M=>match toD fv σ M with
 | some (v,M1)=>match toD fo σ M1 with
  | some (.ref n,M2)=>match toD fi σ M2 with
   | some (k,M3)=>match zCc M3 n k v with
    | some M4=>some (.nx,σ,M4)
    | none=>none
   | none=>none
  | _=>none
 | none=>none
theorem zN4 (hu:X.A.units + 1 < cLine) (hv:QE X value f) (ho:QE X o g) (hi:QE X i h) (hs:swapsWith value (some (.Subscript o i pos')) pos.line X.env = pure false:=by rfl):QS X (.Assign [.Subscript o i pos'] value pos) (zCe f g h) :=
 .mk <| PS.imp (zMb hu (zBI ho).un (zBI hi).un (zBI hv).un hs) fun E τ H zz=>by
  obtain ⟨L,σ,M,out,σ',M',c,rs,hf,q⟩:=zz;unfold zCe at hf;split at hf
  ·rename_i v M1 e1;split at hf
   ·rename_i n M2 e2;split at hf
    ·rename_i k M3 e3;split at hf
     ·rename_i M4 e4;cases hf;refine ⟨L,σ,M,_,_,c,rs,e1,fun L1 H1 u s1 c1 r1=>⟨L1,σ,M1,_,_,c1,rs.stp s1,e2,fun L2 H2 y s2 c2 r2=>⟨L2,σ,M2,_,_,c2,(rs.stp s1).stp s2,e3,fun L3 H3 z s3 c3 r3=>?_⟩⟩⟩;unfold Rep at r2;obtain ⟨a,rfl,ea⟩:=r2;have ea3:L3[n]? = some a:=by obtain ⟨N,hN⟩:=s3.pre; rw [hN]; exact zBw ea
      obtain ⟨H4,h1,h2,h3⟩:=zGl c3 ea3 r3 ((r1.stp s2).stp s3) e4;exact ⟨a,H4,rfl,h1,q L3 H4 (((s1.trans s2).trans s3).trans h3) h2 τ ((((rs.stp s1).stp s2).stp s3).stp h3)⟩
     ·cases hf
    ·cases hf
   ·cases hf
  ·cases hf
end
end L3
namespace L2
open PySem PySem.Spec PyProof.Rows
section
theorem Inv.trackAt (I:Inv X zB σ H s) (ho:s.heap.get? D = some o) (hn:H D = none) (h0:X.s₀.heap.objs.size <= D) (hL:D ≠ X.env.locals) (hc:∀ x c,X.env.cells.lookup x = some c -> c ≠ D) (hp:∀ p ∈ X.pn ++ zB,p.1 ≠ D)
  (new:zt X.prog X.w (upd H D u) s.heap D u):Inv X zB σ (upd H D u) s:=by
 have un:∀ b v,H b = some v -> upd H D u b = some v:=fun b v e=>by rw [zO (zd e hn)]; exact e
 have e0:s = { s with heap:=s.heap,gens:=s.gens,drawn:=s.drawn,toks:=s.toks }:=by cases s; rfl
 rw [e0];refine I.step (g':=s.gens) (d':=s.drawn) (ch:=[D]) (fun b hb=>?_) (fun b v _ _ _ e _=>e) (fun b v _ _ _ e _=>⟨v.slots,e⟩) (fun b v hb e n=>?_) (fun b v _ e=>⟨v,e⟩) (fun b xs e=>un b _ e) (fun b p v e=>un b _ e) (fun b ps e=>⟨#[],by rw [un b _ e]; simp⟩) (fun m hm=>hm) (fun b v e=>?_) I.bare
 ·have:b = D:=by simpa using hb
  subst this;exact ⟨.inr h0,hL,hc,hp⟩
 ·rw [zO (fun z=>hb (by simp [z]))]; exact n
 ·by_cases hb:b = D
  ·subst hb; rw [zm] at e; cases e; exact new
  ·rw [zO hb] at e;exact (I.hok b v e).stay (fun c v hc q=>q) (fun c q=>un c _ q) fun c xs q=>un c _ q
theorem zJW (hu:A.units + 1 < cLine) (I:Inv X zB σ H s) (g:zDZ H a y v H') (ry:ze y u) (rv:ze v r) (h:∀ s',Inv X zB σ H' s' -> Heap.SameBut a s.heap s'.heap -> Q () s') :
  wpAny (model X.prog X.w) A (dictSet a u r) Q E s:=by
 rcases g with ⟨kvs,k,e,ey,l,eH⟩ | ⟨kvs,k,b,e,ey,eb,l,eH⟩
 ·subst ey eH;obtain ⟨z,hd,vs,rel,dd⟩:=zLC I.hok e;have hz:vs.length <= sizeLine:=by rw [<- rel.length]; exact z
  have hl:(zBO kvs k v).length <= sizeLine:=by have:=zA9 kvs k v; omega
  refine wpAny_dictSet_pairs (hsz:=hz) (zEw ry) dd fun h' dd' hs=>h _ ?_ hs;have he:∃ q,h'.get? a = some q:=let ⟨q,_,_,hq,_⟩:=dd'; ⟨q,hq⟩;exact zC2 I (by rw [e]; exact True.intro) hs he (zHt hl hd (rel.put k rv) dd')
 ·subst ey eH;cases (show u = Value.ref b from ry);obtain ⟨z,hd,xs,rel,dd⟩:=zMv I.hok e;have hz:xs.length <= sizeLine:=by rw [<- Paired.length rel]; exact z
  have hl:(zBO kvs k v).length <= sizeLine:=by have:=zA9 kvs k v; omega
  refine wpAny_dictSet_heap (hsz:=hz) (show (tupleKind (zy X.prog X.w)).room A from Nat.lt_of_succ_lt hu) (zDz I.hok eb) dd fun h' dd' hs=>h _ ?_ hs;obtain ⟨q,es,ep,hq,h2,h3,h4,_,h5⟩:=dd';refine zC2 I (by rw [e]; exact True.intro) hs ⟨q,hq⟩ ⟨hl,hd,_,(rel.put k eb rv).keeps fun c ys ec=>?_,q,es,ep,hq,h2,h3,h4,h5⟩;rw [zO (zFC ec e (fun z=>nomatch z))];exact ec
end
def zCg (isT:Bool):HO:=if isT then .dT [] else .dK []
abbrev zBq:Obj:={ cls:=.type "dict", data:=.dict #[] }
end L2
namespace L3
open PySem PySem.Spec PyProof.Rows L2
def zHP (isT:Bool):MO:=if isT then .dicT [] else .dict []
section
theorem zOa (n:Nat) (hn:n <= 8) (hr:Room k A):A.units + 1 + n < cLine:=by
 have:=hr.units;omega
end
open Builtin
theorem zEG:fillsNumberSlot (.type "tuple") "mul" = pure false :=
 PySem.fillsNumberSlot_seq (id := "tuple.__mul__") (r:=some (.builtin "tuple.__rmul__")) F.slot_tuple_mul.lookup (by decide +kernel) F.slot_tuple_rmul.lookup (by decide +kernel)
theorem zHu:seqRepeat? (.type "tuple") = pure (some (.builtin "tuple.__mul__")):=by
 unfold seqRepeat?;rw [PySem.seqSlot_of (T := "tuple") (name := "__mul__") (id := "tuple.__mul__") F.slot_tuple_mul.lookup (by decide +kernel),PySem.seqSlot_of (T := "tuple") (name := "__rmul__") (id := "tuple.__rmul__") F.slot_tuple_rmul.lookup (by decide +kernel)];rfl
theorem zKv (a:Int) (t:Tok) (l:Addr) (items:Array Value) (n:Nat) (dd:Option Addr) (sl:Array (Option Value)) :
  Meets (Builtin.«int.__rmul__» ⟨[.int a t,.ref l],[]⟩) (fun _ R s=>s.heap.get? l = some { cls:=.type "tuple", dict:=dd,data:=.seq items n,slots:=sl } /\ R (.ok (.ret Value.notImplemented)) s) :=
 .of_wp fun prog w A R s h=>by obtain ⟨hp,g,d,tk,os⟩:=s; obtain ⟨hl,h⟩:=h; wp_walk using wpAny_loadPart' hl; exact ⟨_,rfl,h⟩
theorem zGt (l:Addr) (items:Array Value) (n:Nat) (dd:Option Addr) (sl:Array (Option Value)) (u:Tok) :
  Meets (Builtin.«tuple.__mul__» ⟨[.ref l,.int 1 u],[]⟩) (fun _ R s=>s.heap.get? l = some { cls:=.type "tuple", dict:=dd,data:=.seq items n,slots:=sl } /\ R (.ok (.ret (.ref l))) s) :=
 .of_wp fun prog w A R s h=>by
  obtain ⟨hp,g,d,tk,os⟩:=s; obtain ⟨hl,h⟩:=h;have f1:=AutoSeq1.idx_int;wp_walk using wpAny_loadPart' hl;exact ⟨_,rfl,h⟩
theorem zHJ (l:Addr) (items:Array Value) (n:Nat) (dd:Option Addr) (sl:Array (Option Value)) (x:Int) (u:Tok) (h0:¬ (decide (x < -(2 ^ 63)) || decide (x ≥ 2 ^ 63)) = true) (h1:¬ (items.isEmpty || x == 1) = true) (h2:¬ (decide (x <= 0) || items.isEmpty) = true) (h3:¬ (items.size:Int) * x > (2 ^ 63 - 1) / 8) (h4:¬ Builtin.Tuple.tupleTooMany (items.size * x) = true)
  (hsz:(List.foldl (fun x1 x2=>x1 ++ x2) #[] (List.replicate x.toNat items)).size <= sizeLine) :
  Meets (Builtin.«tuple.__mul__» ⟨[.ref l,.int x u],[]⟩) (fun _ R s=>s.heap.get? l = some { cls:=.type "tuple", dict:=dd,data:=.seq items n,slots:=sl } /\ R (.ok (.ret (Value.ref s.heap.objs.size))) { s with heap:=s.heap.push { cls:=Value.type "tuple", data:=Data.seq (List.foldl (fun x1 x2=>x1 ++ x2) #[] (List.replicate x.toNat items)) },toks:=s.toks }) :=
 .of_wp fun prog w A R s h=>by
  obtain ⟨hp,g,d,tk,os⟩:=s; obtain ⟨hl,h⟩:=h;have f1:=AutoSeq1.idx_int;wp_walk using wpAny_loadPart' hl;rw [zQY h0];wp_walk using wpAny_loadPart' hl;rw [zQY h3];wp_walk using wpAny_loadPart' hl;all_goals first | exact ⟨_,rfl,h⟩ | skip
section
def zMp (K:PySem.W.Frag):R2:=fun x y H Q=>∃ a k xs,x = .ref a /\ y = .int k /\ SqT K H a xs /\ xs ≠ [] /\ 1 <= k /\ xs.length * k.toNat <= sizeLine /\
 (k = 1 -> Q (.ref a) H) /\ (k ≠ 1 -> ∀ p,H p = none -> Q (.ref p) (upd H p (.tup (List.replicate k.toNat xs).flatten)))
theorem zMT:OpR X (binaryOp .Mult) (zMp X.K):=by
 intro zB s σ H x y v u Q I rx ry h;obtain ⟨a,k,xs,rfl,rfl,ha,hx,hk,hz,q1,q2⟩:=h;cases rx;obtain ⟨t,rfl⟩:=ry;obtain ⟨its,r,p1,_⟩:=I.tuple ha;obtain ⟨⟨cls,dd,data,sl⟩,ho,hc,n,hd⟩:=id p1;simp only at hc hd;subst hc hd;have hl:its.toArray.size = xs.length:=by rw [zQO]; exact r.length.symm
 have hx0:0 < xs.length:=List.length_pos_iff.mpr hx;have hkz:k.toNat <= sizeLine:=zQh (Nat.le_mul_of_pos_left _ hx0) hz;have hk63:k < 2 ^ 63:=by
  have:(sizeLine:Nat) < 2 ^ 62:=by decide
  omega
 refine wpAny_binaryOp_repeat_ref (T := "tuple") (U := "int") (by decide) ⟨_,ho,rfl⟩ (fun s'=>typeIs_int s' k t) zEG F.fills_int_mul F.slot_int_rmul zHu F.slot_int_index.lookup
  (call_meets F.slot_int_rmul (typeIs_int s k t) F.entry_int_rmul (F.args_int_rmul_2 _ _) (zKv k t a its.toArray n dd sl)
   ⟨ho,rfl,⟨_,ho,rfl⟩,?_⟩)
 by_cases h1:k = 1
 ·subst h1;exact call_meets F.slot_tuple_mul ⟨_,ho,rfl⟩ F.entry_tuple_mul (F.args_tuple_mul_2 _ _) (zGt a its.toArray n dd sl t) ⟨ho,⟨.ref a,H,I,rfl,q1 rfl⟩⟩
 ·have hnew:List.foldl (fun x1 x2=>x1 ++ x2) #[] (List.replicate k.toNat its.toArray) = (List.replicate k.toNat its).flatten.toArray:=by
   have:=zDM its k.toNat [];rw [List.nil_append] at this;exact this
  have hlr:(List.replicate k.toNat its).flatten.length <= sizeLine:=by
   rw [zF2,<- r.length,Nat.mul_comm]; exact hz
  have hem:its.toArray.isEmpty = false:=by
   rw [Array.isEmpty_eq_false_iff]; intro z; rw [z] at hl; simp at hl; omega
  have hprod:((its.toArray.size:Int)) * k = ((xs.length * k.toNat:Nat):Int):=by
   rw [hl]; rw [Int.natCast_mul,show ((k.toNat:Nat):Int) = k by omega]
  refine call_meets F.slot_tuple_mul ⟨_,ho,rfl⟩ F.entry_tuple_mul (F.args_tuple_mul_2 _ _) (zHJ a its.toArray n dd sl k t ?_ ?_ ?_ ?_ ?_ ?_) ⟨ho,?_⟩
  ·rw [zQp (by omega),zQp (by omega)]; decide
  ·rw [hem,Bool.false_or]; intro z; exact h1 (eq_of_beq z)
  ·rw [hem,Bool.or_false,zQp (by omega)]; decide
  ·rw [hprod];have:(sizeLine:Nat) <= (2 ^ 63 - 1) / 8:=by decide
   omega
  ·rw [hprod];unfold Builtin.Tuple.tupleTooMany;rw [zQp (by omega)]; decide
  ·rw [hnew,zQO]; exact hlr
  ·rw [hnew];refine ⟨.ref s.heap.objs.size,_,I.laid (t':=s.toks) (o:=.tup (List.replicate k.toNat xs).flatten) (fun b ob q=>zQH _ q) (zQM _) ?_,rfl,q2 h1 _ (I.hok.fresh (zQM _))⟩;exact ⟨by rw [zF2,Nat.mul_comm]; exact hz,_,r.rep k.toNat,zBQ.new _ _⟩
theorem zJ.rep (h:zJ L H ds vs):∀ k:Nat,zJ L H (List.replicate k ds).flatten (List.replicate k vs).flatten
 | 0=> .nil
 | k + 1=>by
  rw [zRZ,zRZ,zSF,zSF];exact zJ.app h (zJ.rep h k)
def zDS:K2:=fun x y M=>match y with
 | .dat (.int k)=>match zA8 x with
  | some xs=>if 0 < xs.length /\ 1 <= k /\ xs.length * k.toNat <= sizeLine then some (.dat (.tup (List.replicate k.toNat xs).flatten),M) else none
  | none=>match zEi M x with
   | some xs=>if -(2 ^ 63) <= k /\ k < 2 ^ 63 /\ xs.length * k.toNat <= sizeLine then some (.fl (List.replicate k.toNat xs).flatten,M) else none
   | none=>none
 | _=>none
theorem zL3 {K:PySem.W.Frag}:zBz K (fun x y H Q=>zOY x y H Q \/ zMp K x y H Q) zDS:=by
 intro L M M' H H0 x y d v w Q c rx ry hk q;unfold zDS at hk;split at hk
 ·rename_i k;have hw:w = .int k:=by unfold za Rep at ry; exact ry
  subst hw;split at hk
  ·rename_i xs e1;split at hk
   ·rename_i hz;cases hk;obtain ⟨p1,vs,rfl,h1,r1⟩:=zA4 rx e1;refine .inr ⟨p1,k,vs,rfl,rfl,.of h1,?_,hz.2.1,by rw [r1.length]; exact hz.2.2,fun z=>?_,fun z pp hp=>?_⟩
    ·intro z; have:=r1.length; rw [z] at this; simp at this; omega
    ·subst z;refine q L H _ (.refl L H) c ?_;have:(List.replicate (1:Int).toNat xs).flatten = xs:=by simp
     rw [this];unfold za Rep;exact ⟨p1,vs,rfl,h1,r1⟩
    ·exact q L _ _ (.upd hp) (c.upd hp) (Rep.newTup hp (r1.rep k.toNat))
   ·cases hk
  ·split at hk
   ·rename_i xs e1;split at hk
    ·rename_i hz;cases hk;obtain ⟨l,vs,rfl,h1,r1⟩:=zHs c rx e1;refine .inl ⟨l,k,vs,rfl,rfl,h1,hz.1,hz.2.1,by rw [r1.length]; exact hz.2.2,fun p hp=>?_⟩;exact q L _ _ (.upd hp) (c.upd hp) (za.newLst (.refl L H) c c hp (r1.rep k.toNat))
    ·cases hk
   ·cases hk
 ·cases hk
theorem zPU (h1:QE X a f) (h2:QE X b g):QE X (.BinOp a .Mult b pos) (fOp zDS f g):=zGZ zL3 (zOE.or zMT) h1 h2
def zE4:KB:=fun xs M=>match xs with
 | [.dat (.int i),.dat (.int j)]=>some (.dat (.int (if j < i then j else i)),M)
 | _=>none
theorem zGP (r:zBX H0 L H [.dat (.int i),.dat (.int j)] vs):vs = [.int i,.int j]:=by
 unfold zBX at r;obtain ⟨v,r1,rfl,a1,a2⟩:=r;unfold zBX at a2;obtain ⟨v2,r2,rfl,b1,b2⟩:=a2;unfold zBX at b2;subst b2;unfold za Rep at a1 b1;subst a1 b1;rfl
theorem zK7 {K:PySem.W.Frag}:zEf K (fun xs H Q=>∃ i j,xs = [.int i,.int j] /\ Q (.int (if j < i then j else i)) H) zE4:=by
 intro L M M' H H0 xs d vs Q c r hk q;unfold zE4 at hk;split at hk
 ·rename_i i j;cases hk;exact ⟨i,j,zGP r,q L H _ (.refl L H) c (zAb (L:=L) (H:=H))⟩
 ·cases hk
theorem zNr (hcalm:X.calm = true) (hg:Gl X "min") (hm:X.mg "min" = none) (ha:QAE X [e,e2] fa) (he:starEach [e,e2] X.env = (false,eval e X.env) :: starEach [e2] X.env:=by rfl) (hpl:(backTo pos (starEach [e2] X.env)).any (·.1) = false:=by rfl):QE X (.Call (.Name "min" p) [e,e2] [] pos) (fB zE4 fa) :=
 zDm zK7 (zIn hcalm) (by rfl) hg hm ha (by decide) (by decide) he hpl
def zBK:KM:=fun x ds M=>match x,ds with
 | .dat (.ref n),[.ref m]=>match M[n]?,M[m]? with
  | some (.lst xs),some (.lst ys)=>if xs.length + ys.length <= sizeLine then some (.non,M.set n (.lst (xs ++ ys))) else none
  | _,_=>none
 | _,_=>none
theorem zHw {K:PySem.W.Frag}:zJ6 K zIO zBK:=by
 intro L M M' H H0 x ds d v vs Q c rx rd hk q;unfold zBK at hk;split at hk
 ·rename_i n m;split at hk
  ·rename_i xs ys e1 e1';split at hk
   ·rename_i hz;cases hk;unfold za Rep at rx;obtain ⟨a,rfl,e2⟩:=rx;obtain ⟨ws,e3,r3⟩:=c.obj n a _ e2 e1;obtain ⟨w,rfl,r4⟩:=rd.one;unfold Rep at r4;obtain ⟨b,rfl,e4⟩:=r4;obtain ⟨zs,e5,r5⟩:=c.obj m b _ e4 e1';obtain ⟨c5,s5⟩:=c.write e2 e1 (r3.app r5);exact ⟨a,b,ws,zs,rfl,rfl,e3,e5,by rw [r3.length,r5.length]; exact hz,q L _ _ s5 c5 (by unfold Rep; rfl)⟩
   ·cases hk
  ·cases hk
 ·cases hk
theorem zKE (h:QE X a f) (hg:QA X [e] fg) (hbase:attributeBase a "extend" X.env (eval a X.env) = eval a X.env:=by rfl)
  (hfew:((backTo cpos (starEach [e] X.env)).all (fun x=> !x.1) && (backToKw cpos (keywordEach [] X.env)).all (fun x=>x.1.isSome) && decide ([e].length + ([]:List Keyword).length + (if ([]:List Keyword).isEmpty then 0 else 1) < 30)) = true:=by rfl)
  (hline:(apos.endLine == cpos.line) = true:=by rfl) (hs:starEach [e] X.env = (false,eval e X.env) :: starEach [] X.env:=by rfl) (hplain:(backTo cpos (starEach [] X.env)).any (·.1) = false:=by rfl) :
  QE X (.Call (.Attribute a "extend" apos) [e] [] cpos) (fM zBK f fg) :=
 .mk <| PE.imp (zIA PySem.F.plainAttrs_list PySem.F.slot_list_extend PySem.F.type_list_extend zJY h.un hg.un hbase hfew hline hs hplain) fun _ _ _ z=>zF7 zHw z
end
end L3
namespace HT
open PySem PySem.Spec PyProof.Rows
end HT
namespace L3
open PySem PySem.Spec PyProof.Rows L2
section
variable {a b o e e2 st:Expr}
theorem zJi:MtM X "list.index" (fun x vs H Q=>∃ (l:Addr) (i:Int) (xs:List Int),x = .ref l /\ vs = [.int i] /\ H l = some (.lst (xs.map V.int)) /\ xs.length <= 90000 /\ i ∈ xs /\ Q (.int (xs.idxOf i)) H):=by
 intro zB s σ H x xs v us Q I rx rv z;obtain ⟨p,i,ns,rfl,rfl,hp,hz,hi,q⟩:=z;cases rx;obtain ⟨u,rfl,ru⟩:=rv.one;obtain ⟨t,rfl⟩:=ru;obtain ⟨z,its,n,r,hl,ee⟩:=I.lstM hp;have hia:=zHM r;have hlen:=hia.length;have hj:ns.idxOf i < ns.length:=List.idxOf_lt_length_iff.mpr hi
 refine call_meets PySem.F.slot_list_index ⟨_,ee,rfl⟩ PySem.F.entry_list_index (PySem.F.args_list_index_2 _ _)
  (PySem.SeqAt.list_indexAt p its.toArray n none #[] (.int i t) (isInt i) (ns.idxOf i) (by simpa [hlen] using hj) (by omega) ?_ ?_) ⟨ee,fun y hy=>(eq_isInt i t hia y (by simpa using hy)).at _ _,⟨.int (ns.idxOf i),H,I.tok _,⟨_,rfl⟩,q⟩⟩
 ·show isInt i its[ns.idxOf i] = true;rw [isInt_at i hia _ (by omega) hj];simpa using List.getElem_idxOf hj
 ·intro j hjs hlt;show isInt i its[j] = false;rw [isInt_at i hia j (by simpa using hjs) (by omega)];exact ne_of_lt_idxOf hlt _
def zCY:KM:=fun x ds M=>match x,ds with
 | .dat (.ref n),[.int i]=>match M[n]? with
  | some (.lst ds)=>match zCD ds with
   | some xs=>if i ∈ xs /\ xs.length <= 90000 then some (.int (xs.idxOf i),M) else none
   | none=>none
  | _=>none
 | _,_=>none
theorem zH8 {K:PySem.W.Frag}:zJ6 K (fun x vs H Q=>∃ (l:Addr) (i:Int) (xs:List Int),x = .ref l /\ vs = [.int i] /\ H l = some (.lst (xs.map V.int)) /\ xs.length <= 90000 /\ i ∈ xs /\ Q (.int (xs.idxOf i)) H) zCY:=by
 intro L M M' H H0 x ds d v vs Q c rx rd hk q;unfold zCY at hk;split at hk
 ·rename_i n i;split at hk
  ·rename_i ds e1;split at hk
   ·rename_i xs e2;split at hk
    ·rename_i hi;cases hk;unfold za Rep at rx;obtain ⟨a,rfl,e4⟩:=rx;obtain ⟨ws,e5,r5⟩:=c.obj n a _ e4 e1;have ev:=zCk e2 r5;subst ev;exact ⟨a,i,xs,rfl,zDJ rd,e5,hi.2,hi.1,q L H _ (.refl L H) c (by unfold Rep; rfl)⟩
    ·cases hk
   ·cases hk
  ·cases hk
 ·cases hk
theorem zKa (h:QE X a f) (hg:QA X [e] fg) (hbase:attributeBase a "index" X.env (eval a X.env) = eval a X.env:=by rfl)
  (hfew:((backTo cpos (starEach [e] X.env)).all (fun x=> !x.1) && (backToKw cpos (keywordEach [] X.env)).all (fun x=>x.1.isSome) && decide ([e].length + ([]:List Keyword).length + (if ([]:List Keyword).isEmpty then 0 else 1) < 30)) = true:=by rfl)
  (hline:(apos.endLine == cpos.line) = true:=by rfl) (hs:starEach [e] X.env = (false,eval e X.env) :: starEach [] X.env:=by rfl) (hplain:(backTo cpos (starEach [] X.env)).any (·.1) = false:=by rfl) :
  QE X (.Call (.Attribute a "index" apos) [e] [] cpos) (fM zCY f fg) :=
 .mk <| PE.imp (zIA PySem.F.plainAttrs_list PySem.F.slot_list_index PySem.F.type_list_index zJi h.un hg.un hbase hfew hline hs hplain) fun _ _ _ z=>zF7 zH8 z
end
section
def zFk (k1:Str) (fv:FE) (k2:Str) (fw:FE):FE:=fun σ M=>match toD fv σ (M ++ [.dict []]) with
 | some (v,M1)=>match toD fw σ M1 with
  | some (w,M2)=>match M2[M.length]? with
   | some (.dict [])=>if k1 = k2 then none else some (.dat (.ref M.length),M2.set M.length (.dict [(.str k1,v),(.str k2,w)]))
   | _=>none
  | none=>none
 | none=>none
theorem zMn (h1:QE X a (fC (.str k1))) (h2:QE X b fv) (h3:QE X a2 (fC (.str k2))) (h4:QE X b2 fw):QE X (.Dict [some a,some a2] [b,b2] pos) (zFk k1 fv k2 fw):=.mk <| PE.imp (zL7 (zGS (zBI h1).un (zBI h2).un (zGS (zBI h3).un (zBI h4).un zMD)) rfl rfl (by simp) (by simp)) fun τ H Q ⟨L,σ,M,d,M',c,rs,hf,q⟩ p hp=>by
 unfold zFk at hf;split at hf
 ·rename_i v M1 e2;split at hf
  ·rename_i w M2 e4;split at hf
   ·rename_i e5;split at hf
    ·cases hf
    ·rename_i hne;cases hf;obtain ⟨c0,s0⟩:=c.pushO (m:=.dict []) (o:=.dK []) hp ⟨[],zm,rfl⟩;refine ⟨L ++ [p],σ,_,_,_,c0,rs.stp s0,(rfl:toD (fC (.str k1)) σ (M ++ [.dict []]) = some (.str k1,_)),fun L1 H1 x st1 c1 r1=>⟨L1,σ,_,_,_,c1,(rs.stp s0).stp st1,e2,fun L2 H2 y st2 c2 r2=>?_⟩⟩;refine ⟨L2,σ,_,_,_,c2,((rs.stp s0).stp st1).stp st2,(rfl:toD (fC (.str k2)) σ M1 = some (.str k2,_)),fun L3 H3 x' st3 c3 r3=>⟨L3,σ,_,_,_,c3,(((rs.stp s0).stp st1).stp st2).stp st3,e4,fun L4 H4 y' st4 c4 r4=>?_⟩⟩;have st:=(((s0.trans st1).trans st2).trans st3).trans st4;have hx:x = .str k1:=by unfold Rep at r1; exact r1
     have hx':x' = .str k2:=by unfold Rep at r3; exact r3
     have lp:L4[M.length]? = some p:=by
      obtain ⟨N,hN⟩:=((st1.trans st2).trans st3).trans st4 |>.pre;rw [hN,<- c.len]; simp
     obtain ⟨vs,ev,dv⟩:=c4.obj _ p _ lp e5;unfold zAP at dv;subst dv;have hm:zCh [] [((Sum.inr k1:Key),y),(Sum.inr k2,y')] = [((Sum.inr k1:Key),y),(Sum.inr k2,y')]:=by
      unfold zCh zBO;have h12:¬ ((Sum.inr k1:Key) = Sum.inr k2):=fun z=>hne (Sum.inr.inj z);simp [h12]
     refine ⟨ev,[(Sum.inr k1,y),(Sum.inr k2,y')],by rw [hx,hx']; rfl,by simp,?_⟩;rw [hm];obtain ⟨c5,s5⟩:=c4.put (m:=.dict [(.str k1,v),(.str k2,w)]) (o':=.dK [(Sum.inr k1,y),(Sum.inr k2,y')]) lp ev (fun _ z=>by cases z) (fun _ _ z=>by cases z) fun s5=>⟨_,zm,_,y,[(Sum.inr k2,y')],rfl,rfl,(r2.stp (st3.trans st4)).stp s5,_,y',[],rfl,rfl,r4.stp s5,rfl⟩;refine q _ _ _ (st.trans s5) c5 ?_;unfold za Rep;exact ⟨p,rfl,lp⟩
   ·cases hf
  ·cases hf
 ·cases hf
end
section
def zEe (fg:FG) (f:FE):FS:=fun σ M=>match toD f σ M with
 | some (d,M1)=>match fg d σ with
  | some σ1=>some (.nx,σ1,M1)
  | none=>none
 | none=>none
theorem zOj (hk:GOk g fg) (h:QE X e f) (hg:PG X tg g) (hs:swapsWithSole [tg] e pos.line X.env = pure false:=by rfl) (hw:swappedStores [tg] e X.env = pure none:=by rfl)
  (h1:(assignEach [tg] X.env).map (·.2) = [assign tg X.env]:=by rfl):QS X (.Assign [tg] e pos) (zEe fg f) :=
 .mk <| PS.imp (zKx h.un hg hs hw h1) fun E τ H zz=>by
  obtain ⟨L,σ,M,o,σ',M',c,rs,hf,q⟩:=zz;unfold zEe at hf;split at hf
  ·rename_i d M1 e1;split at hf
   ·rename_i σ1 e2;cases hf;refine zGd ⟨L,σ,M,_,_,c,rs,e1,fun L1 H1 v s1 c1 r1=>?_⟩;exact hk (rs.stp s1) r1 e2 fun τ' rs'=>q L1 H1 s1 c1 τ' rs'
   ·cases hf
  ·cases hf
theorem zDn:OkS (zEe fg f σ M) P ↔ Ok (f σ M) (zES fun d M1=>∃ σ1,fg d σ = some σ1 /\ P .nx σ1 M1):=by
 rw [<- zAB];unfold zEe;constructor
 ·rintro ⟨o,σ',M',e,p⟩;split at e
  ·rename_i d M1 e1;split at e
   ·rename_i σ1 e2;cases e;exact ⟨d,_,e1,_,e2,p⟩
   ·cases e
  ·cases e
 ·rintro ⟨d,M1,e1,σ1,e2,p⟩;refine ⟨.nx,σ1,M1,?_,p⟩;rw [e1]; dsimp only; rw [e2]
end
def SI (b:Bool) (h:Heap) (it t:Addr) (k:Nat):Prop:=if b then h.IsTupleIter it t k else h.IsListIter it t k
def SO (b:Bool) (h:Heap) (t:Addr) (xs:Array Value):Prop:=if b then h.IsTuple t xs else h.IsList t xs
abbrev itO (b:Bool) (t:Addr):Obj:={ cls:=.type (if b then "tuple_iterator" else "list_iterator"),data:=.fields #[.ref t,.int 0 0] }
theorem SI.keep (x:SI b h it t k) (e:∀ o,h.get? it = some o -> h'.get? it = some o):SI b h' it t k:=by
 cases b with
 | true=>obtain ⟨o,q,r⟩:=(show h.IsTupleIter it t k from x); exact (show h'.IsTupleIter it t k from ⟨o,e o q,r⟩)
 | false=>obtain ⟨o,q,r⟩:=(show h.IsListIter it t k from x); exact (show h'.IsListIter it t k from ⟨o,e o q,r⟩)
theorem SO.keep (x:SO b h t xs) (e:∀ o,h.get? t = some o -> h'.get? t = some o):SO b h' t xs:=by
 cases b with
 | true=>obtain ⟨o,q,r⟩:=(show h.IsTuple t xs from x); exact (show h'.IsTuple t xs from ⟨o,e o q,r⟩)
 | false=>obtain ⟨o,q,r⟩:=(show h.IsList t xs from x); exact (show h'.IsList t xs from ⟨o,e o q,r⟩)
theorem SI.but (x:SI b h a t i) (hs:Heap.ExtBut c h h') (n:a ≠ c):SI b h' a t i:=x.keep fun o e=>hs a o n e
theorem SO.but (x:SO b h a its) (hs:Heap.ExtBut c h h') (n:a ≠ c):SO b h' a its:=x.keep fun o e=>hs a o n e
theorem SI.obj (x:SI b h it t k):∃ o,h.get? it = some o /\ ∀ v,o.data ≠ .cell v:=by
 cases b with
 | true=>obtain ⟨o,q,_,r⟩:=(show h.IsTupleIter it t k from x); exact ⟨o,q,fun v m=>by rw [r] at m; cases m⟩
 | false=>obtain ⟨o,q,_,r⟩:=(show h.IsListIter it t k from x); exact ⟨o,q,fun v m=>by rw [r] at m; cases m⟩
section
theorem zA1 (I:SI b s.heap it t i) (T:SO b s.heap t its) (hx:its[i]? = some x)
  (q:∀ h',SI b h' it t (i + 1) -> Heap.SameBut it s.heap h' -> Q x { s with heap:=h' }):wpAny (model prog w) A (Builtin.SmallTypes.nextOf (.ref it)) Q E s:=by
 cases b with
 | true=>exact zBW (show s.heap.IsTupleIter it t i from I) (show s.heap.IsTuple t its from T) hx q
 | false=>exact wpAny_nextOf_list_item (show s.heap.IsListIter it t i from I) (show s.heap.IsList t its from T) hx q
theorem zCR (hh:A.handled = none) (I:SI b s.heap it t i) (T:SO b s.heap t its) (hx:its[i]? = none)
  (q:∀ h' e,Heap.ExtBut it s.heap h' -> (∃ o,h'.get? e = some o /\ o.cls = .type "StopIteration") -> E (.ref e) { s with heap:=h' }):wpAny (model prog w) A (Builtin.SmallTypes.nextOf (.ref it)) Q E s:=by
 cases b with
 | true=>exact zBl hh (show s.heap.IsTupleIter it t i from I) (show s.heap.IsTuple t its from T) hx q
 | false=>exact wpAny_nextOf_list_end hh (show s.heap.IsListIter it t i from I) (show s.heap.IsList t its from T) hx q
theorem zMx (hl:SO b s.heap l items) (hQ:Q (.ref s.heap.objs.size) { s with heap:=s.heap.push (itO b l) }):wpAny (model prog w) A (pyIter (.ref l)) Q E s:=by
 cases b with
 | true=>exact wpAny_pyIter_tuple (show s.heap.IsTuple l items from hl) hQ
 | false=>exact wpAny_pyIter_list (show s.heap.IsList l items from hl) hQ
structure ZipG (b1 b2:Bool) (h:Heap) (z TI TO i1 i2 t1 t2:Addr) (f:Value) (k1 k2:Nat):Prop where
 z:IsZip h z TI TO f
 ti:IsPair h TI (.ref i1) (.ref i2)
 to:∃ a b,IsPair h TO a b
 a:SI b1 h i1 t1 k1
 b:SI b2 h i2 t2 k2
theorem zMu (e:h.get? it = some (itO b t)):SI b h it t 0:=by
 cases b with
 | true=>exact (show h.IsTupleIter it t 0 from ⟨_,e,rfl,rfl⟩)
 | false=>exact (show h.IsListIter it t 0 from ⟨_,e,rfl,rfl⟩)
abbrev zG1 (b1:Bool) (h:Heap) (a:Addr):Heap:=h.push (itO b1 a)
abbrev zG2 (b1 b2:Bool) (h:Heap) (a b:Addr):Heap:=zG1 b2 (zG1 b1 h a) b
abbrev zG3 (b1 b2:Bool) (h:Heap) (a b:Addr):Heap:=(zG2 b1 b2 h a b).push { cls:=.type "tuple", data:=.seq #[.ref h.objs.size,.ref (zG1 b1 h a).objs.size] }
abbrev zG4 (b1 b2:Bool) (h:Heap) (a b:Addr):Heap:=(zG3 b1 b2 h a b).push { cls:=.type "tuple", data:=.seq #[.none,.none] }
abbrev zG5 (b1 b2:Bool) (h:Heap) (a b:Addr):Heap:=(zG4 b1 b2 h a b).push { cls:=.type "zip", data:=.fields #[.none,.bool false,.bool false,.ref (zG2 b1 b2 h a b).objs.size,.ref (zG3 b1 b2 h a b).objs.size] }
theorem zH5 (b1 b2:Bool) (a b:Addr) (xs ys:Array Value):Meets (Builtin.«zip.__new__» ⟨[.type "zip", .ref a,.ref b],[]⟩) (fun _ R s=>SO b1 s.heap a xs /\ SO b2 s.heap b ys /\ R (.ok (.ret (.ref (zG4 b1 b2 s.heap a b).objs.size))) { s with heap:=zG5 b1 b2 s.heap a b }) :=
 .of_wp fun prog w A R s h=>by
  obtain ⟨hp,g,d,tk,os⟩:=s;obtain ⟨Ta,Tb,h⟩:=h;have sz:=sub_zip;have U1:SO b1 (Shared.heap ⟨hp,g,d,tk,os⟩) a xs:=Ta;have U2:SO b2 (Shared.heap ⟨hp.push (itO b1 a),g,d,tk,os⟩) b ys:=Tb.keep fun o e=>zQH _ e;wp_walk using zMx U1,zMx U2;exact ⟨_,rfl,h⟩
theorem zGY (Ta:SO b1 s.heap a xs) (Tb:SO b2 s.heap b ys)
  (h:∀ h',ZipG b1 b2 h' (s.heap.objs.size + 4) (s.heap.objs.size + 2) (s.heap.objs.size + 3) s.heap.objs.size (s.heap.objs.size + 1) a b .none 0 0 -> (∀ c o,s.heap.get? c = some o -> h'.get? c = some o) -> Q (.ref (s.heap.objs.size + 4)) { s with heap:=h' }) :
  wpAny (model prog w) A (call (.type "zip") [.ref a,.ref b]) Q E s:=by
 refine callType_new PySem.F.called_zip (by decide) (PySem.F.typeCall_zip_2 _ _) (PySem.F.newCall_zip_2 _ _) (fun obj=>PySem.F.args_object_init_3 obj _ _) PySem.F.entry_zip_new (zH5 b1 b2 a b xs ys) ⟨Ta,Tb,?_⟩;have q1:(zG1 b1 s.heap a).objs.size = s.heap.objs.size + 1:=zQw ..;have q2:(zG2 b1 b2 s.heap a b).objs.size = s.heap.objs.size + 2:=by rw [zQw,q1]
 have q3:(zG3 b1 b2 s.heap a b).objs.size = s.heap.objs.size + 3:=by rw [zQw,q2]
 have q4:(zG4 b1 b2 s.heap a b).objs.size = s.heap.objs.size + 4:=by rw [zQw,q3]
 have u:∀ {h:Heap} {c:Addr} {o p:Obj},h.get? c = some o -> (h.push p).get? c = some o:=fun e=>zQH _ e;have p5:(zG5 b1 b2 s.heap a b).get? (zG4 b1 b2 s.heap a b).objs.size = some _:=zQQ _ rfl;have p4:(zG5 b1 b2 s.heap a b).get? (zG3 b1 b2 s.heap a b).objs.size = some _:=u (zQQ _ rfl);have p3:(zG5 b1 b2 s.heap a b).get? (zG2 b1 b2 s.heap a b).objs.size = some _:=u (u (zQQ _ rfl));have p2:(zG5 b1 b2 s.heap a b).get? (zG1 b1 s.heap a).objs.size = some _:=u (u (u (zQQ _ rfl)));have p1:(zG5 b1 b2 s.heap a b).get? s.heap.objs.size = some _:=u (u (u (u (zQQ _ rfl))));rw [q2,q3,q4] at p5;rw [q1,q2] at p3;rw [q3] at p4;rw [q1] at p2;rw [q4];exact ⟨⟨_,p5,rfl⟩,h _ ⟨p5,p3,⟨_,_,p4⟩,zMu p1,zMu p2⟩ fun c o x=>u (u (u (u (u x))))⟩
end
def SqG (K:PySem.W.Frag) (b:Bool) (H:Hp) (a:Addr) (xs:List V):Prop:=if b then SqT K H a xs else SqL K H a xs
theorem zCA (I:Inv X zB σ H s) (h:SqG X.K b H a xs):∃ its,zV xs its /\ SO b s.heap a its.toArray:=by
 cases b with
 | true=>obtain ⟨its,rv,p1,_⟩:=I.tuple h; exact ⟨its,rv,p1⟩
 | false=>obtain ⟨its,rv,p1,_⟩:=I.list h; exact ⟨its,rv,p1.isList⟩
theorem zIY (I:Inv X zB σ H s) (h:SqG X.K b H a xs) (h':SqG X.K b H a ys):xs = ys:=by
 cases b with
 | true=>exact I.tuple_inj h h'
 | false=>exact I.list_inj h h'
theorem zMZ (x:SO b h a its):a < h.objs.size:=by
 cases b with
 | true=>obtain ⟨_,e,_⟩:=(show h.IsTuple a its from x); exact zQR e
 | false=>obtain ⟨_,e,_⟩:=(show h.IsList a its from x); exact zQR e
def zPP (K:PySem.W.Frag) (b1 b2:Bool) (a b:Addr):It :=
 ⟨fun i H=>∃ xs ys x y,SqG K b1 H a xs /\ SqG K b2 H b ys /\ xs[i]? = some x /\ ys[i]? = some y,
  fun i H v H'=>∃ T x y,v = .ref T /\ H T = none /\ H' = upd H T (.tup [x,y]) /\ (∀ xs,SqG K b1 H a xs -> xs[i]? = some x) /\ ∀ ys,SqG K b2 H b ys -> ys[i]? = some y,
  fun i H=>∃ xs ys,SqG K b1 H a xs /\ SqG K b2 H b ys /\ (xs.length <= i \/ ys.length <= i)⟩
section
def zEC (g:FA):FI:=fun σ M=>match g σ M with
 | some ([x,y],M1)=>match zf M1 (.dat x),zf M1 (.dat y) with
  | some xs,some ys=>some ((xs.zip ys).map fun q=>D.tup [q.1,q.2],some fun M=>zf M (.dat x) = some xs /\ zf M (.dat y) = some ys,M1)
  | _,_=>none
 | _=>none
theorem zFU {K:PySem.W.Frag} {L1:List Addr} {M1:Mem} {H1:Hp} {x:D} {v:V} {xs:List D} (c1:Cor K L1 M1 H1) (r1:Rep L1 H1 x v) (e:zf M1 (.dat x) = some xs) :
  ∃ b l,v = .ref l /\ (∃ vs,SqG K b H1 l vs) /\ ∀ L2 H2 M2,Stp L1 H1 L2 H2 -> Cor K L2 M2 H2 -> zf M2 (.dat x) = some xs -> ∃ vs',SqG K b H2 l vs' /\ zJ L2 H2 xs vs':=by
 have r1':za H1 L1 H1 (.dat x) v:=r1;cases x with
 | tup ds=>
  cases e;obtain ⟨a,vs,rfl,e3,r3⟩:=zA4 r1' (xs:=xs) rfl;exact ⟨true,a,rfl,⟨vs,(show SqT K H1 a vs from .of e3)⟩,fun L2 H2 M2 s2 c2 _=>⟨vs,(show SqT K H2 a vs from .of (s2.tup a vs e3)),r3.stp s2⟩⟩
 | ref n=>
  have e2:zAO M1 (.dat (.ref n)) = some xs:=e;obtain ⟨a,vs,rfl,e3,r3⟩:=zAV c1 r1' e2;refine ⟨false,a,rfl,⟨vs,(show SqL K H1 a vs from .inl e3)⟩,fun L2 H2 M2 s2 c2 hq=>?_⟩;unfold Rep at r1;obtain ⟨a',ha',e5⟩:=r1;cases ha';have e6:L2[n]? = some a:=by obtain ⟨N,hN⟩:=s2.pre; rw [hN]; exact zBw e5
  have r2:za H2 L2 H2 (.dat (.ref n)) (.ref a):=by unfold za Rep; exact ⟨a,rfl,e6⟩
  obtain ⟨a2,vs',h2,e7,r7⟩:=zAV c2 r2 (show zAO M2 (.dat (.ref n)) = some xs from hq);cases h2;exact ⟨vs',(show SqL K H2 a vs' from .inl e7),r7⟩
 | _=>cases e
end
section
def zJL (f:FE):FT:=fun σ M=>match f σ M with
 | some (x,M1)=>match zf M1 x with
  | some xs=>some (!xs.isEmpty,M1)
  | none=>none
 | none=>none
theorem zLx (h:QE X a f) (he:∀ whole,isTrue a X.env whole = (do let v <- whole; standAt a.pos; holding [v] (truthy v)):=by intro _; rfl):QT X a (zJL f) :=
 .mk <| PT.imp (zJ9 h.un he) fun τ H Q zz=>by
  obtain ⟨L,σ,M,d,M',c,rs,hf,q⟩:=zz;unfold zJL at hf;split at hf
  ·rename_i x M1 e1;split at hf
   ·rename_i xs e2;cases hf;refine ⟨L,σ,M,_,_,c,rs,e1,fun L1 H1 v s1 c1 r1=>⟨!xs.isEmpty,?_,q L1 H1 s1 c1⟩⟩;unfold zf at e2;have emp:∀ {vs:List V},zJ L1 H1 xs vs -> (!xs.isEmpty) = !vs.isEmpty:=fun {vs} r=>by
     have:=r.length;cases xs <;> cases vs <;> first | rfl | simp at this
    cases t:zA8 x with
    | some ws=>
     rw [t] at e2; cases e2;obtain ⟨l,vs,rfl,e3,r3⟩:=zA4 r1 t;exact .inr (.inl ⟨vs,.of e3,emp r3⟩)
    | none=>
     rw [t] at e2;obtain ⟨l,vs,rfl,e3,r3⟩:=zAV c1 r1 e2;exact .inl ⟨vs,.inl e3,emp r3⟩
   ·cases hf
  ·cases hf
def zE9 (f:FE):FE:=fun σ M=>match f σ M with
 | some (.dat (.ref n),M1)=>match M1[n]? with
  | some (.lst xs)=>match xs[xs.length - 1]? with
   | some d=>some (.dat d,M1.set n (.lst xs.dropLast))
   | none=>none
  | _=>none
 | _=>none
theorem zEc (h:zJ L H ds vs):zJ L H ds.dropLast vs.dropLast:=by
 have:=h.eraseIdx (ds.length - 1);rw [zCj] at this;have hl:=h.length;rw [<- hl,zCj] at this;exact this
theorem zM7 (h:QE X o f) (hbase:attributeBase o "pop" X.env (eval o X.env) = eval o X.env:=by rfl) (hline:(apos.endLine == cpos.line) = true:=by rfl):QE X (.Call (.Attribute o "pop" apos) [] [] cpos) (zE9 f) :=
 .mk <| PE.imp (zNs PySem.F.plainAttrs_list PySem.F.slot_list_pop PySem.F.type_list_pop zOI h.un hbase hline) fun τ H Q zz=>by
  obtain ⟨L,σ,M,d,M',c,rs,hf,q⟩:=zz;unfold zE9 at hf;split at hf
  ·rename_i n M1 e1;split at hf
   ·rename_i xs e2;split at hf
    ·rename_i d' e3;cases hf;refine ⟨L,σ,M,_,_,c,rs,e1,fun L1 H1 v s1 c1 r1=>?_⟩;unfold za Rep at r1;obtain ⟨l,rfl,e4⟩:=r1;obtain ⟨ws,e5,r5⟩:=c1.obj n l _ e4 e2;obtain ⟨u,e6,r6⟩:=r5.get e3;obtain ⟨c5,s5⟩:=c1.write e4 e2 (zEc r5);refine ⟨.inl ⟨rfl,⟨ws,.of e5⟩⟩,l,ws,u,rfl,rfl,e5,by rw [r5.length]; exact e6,q L1 _ _ (s1.trans s5) c5 (r6.stp s5)⟩
    ·cases hf
   ·cases hf
  ·cases hf
theorem zJA:zBa X (.builtin "len") (fun xs H Q=>∃ (p:Addr) (kvs:List (Key × V)),xs = [.ref p] /\ H p = some (.dK kvs) /\ Q (.int kvs.length) H):=by
 intro zB s σ H xs us Q I r h;obtain ⟨p,kvs,rfl,hx,q⟩:=h;obtain ⟨u,rfl,rx⟩:=zDf r;cases rx;have hn:=zCp;obtain ⟨hz,hS,vs,r',m⟩:kvs.length <= sizeLine /\ (p == sysModules) = false /\ ∃ vs,KV kvs vs /\ s.heap.DictOf (zy X.prog X.w) p vs:=I.hok p _ hx;have hlen:kvs.length = vs.length:=Paired.length r';exact call_len_dict hS m (by omega) ⟨.int kvs.length,H,I.tok _,⟨s.toks + 1,by rw [hlen]⟩,q⟩
def zFP:KB:=fun xs M=>match xs with
 | [.dat (.ref n)]=>match M[n]? with
  | some (.dict kvs)=>some (.dat (.int kvs.length),M)
  | _=>none
 | _=>none
theorem zJu {K:PySem.W.Frag}:zEf K (fun xs H Q=>∃ (p:Addr) (kvs:List (Key × V)),xs = [.ref p] /\ H p = some (.dK kvs) /\ Q (.int kvs.length) H) zFP:=by
 intro L M M' H H0 xs d vs Q c r hk q;unfold zFP at hk;split at hk
 ·rename_i n;split at hk
  ·rename_i kvs e1;cases hk;obtain ⟨v,rfl,r1⟩:=r.one;unfold za Rep at r1;obtain ⟨a,rfl,e2⟩:=r1;obtain ⟨ws,e3,r3⟩:=c.obj n a _ e2 e1;have hl:=r3.length;refine ⟨a,ws,rfl,e3,?_⟩;have:=q L H (.int kvs.length) (.refl L H) c (zAb (L:=L) (H:=H));rw [<- hl] at this; exact this
  ·cases hk
 ·cases hk
theorem zOO (hg:Gl X "len") (hm:X.mg "len" = none) (ha:QAE X [e] fa) (he:starEach [e] X.env = (false,eval e X.env) :: starEach [] X.env:=by rfl) (hpl:(backTo pos (starEach [] X.env)).any (·.1) = false:=by rfl):QE X (.Call (.Name "len" p) [e] [] pos) (fB zFP fa) :=
 zDm zJu zJA PySem.boot_len hg hm ha (by decide) (by decide) he hpl
end
end L3
namespace L2
open PySem PySem.Spec PyProof.Rows
end L2
namespace L3
open PySem PySem.Spec PyProof.Rows L2
end L3
namespace L2
open PySem PySem.Spec PyProof.Rows
end L2
namespace L3
open PySem PySem.Spec PyProof.Rows L2
open SeqAt
structure Df (K:PySem.W.Frag) (mg:Str -> Option Value) (x:Str) (st:Stmt) (ps:List Str) where
 f:Addr
 fd:FuncData
 F:Fun K x x st f fd
 b:zEX K fd ps []
 m:mg x = some (.ref f)
structure Dg (K:PySem.W.Frag) (x:Str) (st:Stmt) where
 f:Addr
 {od an:Option Addr}
 {sl:Array (Option Value)}
 {oc kV dc pm cd ct:Value}
 a:PySem.W.nsIn K mainGlobals x = some (some (.ref f))
 l:K.lookup f = some ⟨oc,od,.func (PySem.W.fnOf x x (zCT st) (zBZ st) (zZ st) .none kV dc pm an cd ct),sl⟩
 c:PySem.W.codeIn K cd x = true
 k:PySem.W.keepIn K (.ref f) = true
abbrev Dg.df {K:PySem.W.Frag} {x:Str} {st:Stmt} {ps:List Str} {h:Heap} {mg:Str -> Option Value} (g:Dg K x st) (X:K.In h) (G:h.Ns mainGlobals mg)
  (hb:∀ (kV doc pm:Value) (an:Option Addr) (cdv ct:Value) (us:List Value),us.length = ps.length -> bindArgs (PySem.W.fnOf x x (zCT st) (zBZ st) (zZ st) .none kV doc pm an cdv ct) ⟨us,[]⟩ = pure (ps.zip us)):Df K mg x st ps :=
 ⟨g.f,_,zKK g.l g.c g.k,(zKK g.l g.c g.k).binds hb,PySem.W.mg_of X G g.a⟩
abbrev Od (P:Program) (w:World) (base:Heap) (k:Nat) {K:PySem.W.Frag} {mg:Str -> Option Value} {x:Str} {st:Stmt} {ps:List Str} (d:Df K mg x st ps) (m:FF):Prop:=FnOk P w K mg base CX0 k d.f d.fd ps (spF K ps.length m)
abbrev Zn (K:PySem.W.Frag) (x:Str):Prop:=PySem.W.nsIn K mainGlobals x = some none
abbrev Ki (K:PySem.W.Frag) (t T:String) (b:Bool):Prop:=PySem.W.kitOne K (.type t) (.type T) = some b
theorem zMH {P:List Value -> Prop} (h:∀ a,P [a]):∀ us:List Value,us.length = 1 -> P us
 | [a],_=>h a
theorem zLU {P:List Value -> Prop} (h:∀ a b,P [a,b]):∀ us:List Value,us.length = 2 -> P us
 | [a,b],_=>h a b
theorem zLd {P:List Value -> Prop} (h:∀ a b c,P [a,b,c]):∀ us:List Value,us.length = 3 -> P us
 | [a,b,c],_=>h a b c
section
variable {st:Stmt}
theorem zOn {d:Df X.K X.mg x st ps} (F:FnOk X.prog X.w X.K X.mg X.base CX0 k d.f d.fd ps (spF X.K (e :: es).length g)) (hr:Room k X.A) (hg:Gl X x)
  (ha:QA X (e :: es) fa) (hl:∀ σ M ds M1,fa σ M = some (ds,M1) -> ds.length = (e :: es).length) (hdb:(x == ("__debug__" : Str)) = false) (he:starEach (e :: es) X.env = (false,eval e X.env) :: starEach es X.env) (hpl:(backTo pos (starEach es X.env)).any (·.1) = false) :
  QE X (.Call (.Name x p) (e :: es) [] pos) (zW g fa):=zN5 F hr hg d.m d.F.kp d.b ha hl hdb he hpl
theorem zPp (hN:X.N.Nodup) (hi:X.N[i]? = some x) (h:QE X e f) (hx:Loc X.env.scope x:=by first | exact Or.inl rfl | exact Or.inr rfl) (hs:swapsWith e (some (.Name x pos')) pos.line X.env = pure false:=by rfl)
  (hf:X.fn x = true \/ X.env.scope.names.lookup x = some .local:=by first | exact .inl rfl | exact .inr rfl | assumption):QS X (.Assign [.Name x pos'] e pos) (zn i f):=zPa hN hi hx h hs hf
theorem zKA (hN:X.N.Nodup) (hi:X.N[i]? = some x) (hx:Loc X.env.scope x:=by first | exact Or.inl rfl | exact Or.inr rfl) (hf:X.fn x = true \/ X.env.scope.names.lookup x = some .local:=by first | exact .inl rfl | exact .inr rfl | assumption):PG X (.Name x pos) (zCd i):=zIH hN hi hx hf
end
theorem zIM:∀ {ys:List V} {us:List Value},ys.length = us.length -> (∀ (i:Nat) y u,ys[i]? = some y -> us[i]? = some u -> ze y u) -> zV ys us
 | [],[],_,_=> .nil
 | [],_ :: _,h,_=>by cases h
 | _ :: _,[],h,_=>by cases h
 | y :: ys,u :: us,h,q=> .cons (q 0 y u rfl rfl) (zIM (Nat.succ.inj h) fun i y' u' e1 e2=>q (i + 1) y' u' (by simpa using e1) (by simpa using e2))
end L3
namespace ST
open PySem PySem.Spec PyProof.Rows
end ST
namespace L3
open PySem PySem.Spec PyProof.Rows L2 ST
end L3
namespace ST
open PySem PySem.Spec PyProof.Rows
end ST
namespace L3
open PySem PySem.Spec PyProof.Rows L2 ST
end L3
namespace L2
open PySem PySem.Spec PyProof.Rows
section
variable {prog:Program} {w:World} {A:Around} {E:Value -> Shared -> Prop} {s:Shared}
theorem zFr (hx:s.heap.get? a = some o) (hc:o.cls = .type "list") (hdat:o.data = .seq xs k) (hd:o.dict = none) (hA:A.handled = none)
  (h:∀ h' tk,(∀ b u,s.heap.get? b = some u -> h'.get? b = some u) -> Q none { s with heap:=h',toks:=tk }):wpAny (model prog w) A (getAttr? (.ref a) "keys") Q E s:=by
 obtain ⟨c,dct,dat,sl⟩:=o;simp only at hc hdat hd;subst hc hdat hd;obtain ⟨hp,g,d,tk,os⟩:=s;have hT:∀ tk',(⟨hp,g,d,tk',os⟩:Shared).TypeIs (.ref a) "list" := fun _=>⟨_,hx,rfl⟩;have f1:=sub_AttributeError;have f3:=F.slot_list_getattribute.lookup;have f4:=F.slot_list_getattribute.bind (.ref a);have f5:=am_list_getattr_none;have hmiss:typeLookup (.type "list") "keys" = pure none:=by rw [typeLookup_type,builtinLookup_eq_fast]; kernel_rfl
 unfold getAttr? getAttrBy? getAttrBy;repeat (any_goals (first | assumption | exact hT _ | ((with_reducible show wpAny _ _ (call (Value.builtin "list.__getattribute__") _ _) _ _ _); refine call_meets F.slot_list_getattribute (hT _) am_entry_list_getattribute (F.args_list_getattribute_2 _ _) (meets_getattribute_miss_list a xs k sl "keys" _ hmiss (by decide)) ⟨hx,hA,fun h' tk' e hx'=>?_⟩) | wp_step))
 obtain ⟨t',u',he⟩:=hx'.there;unfold getattributeRaised;repeat (any_goals (first | assumption | wp_step))
 exact h _ _ hx'.keeps
end
set_option genInjectivity true in
inductive Puts (d:Addr):List V -> Hp -> Hp -> Prop
 | nil {H:Hp}:Puts d [] H H
 | cons {b:Addr} {k x:V} {vs:List V} {H H1 H2:Hp}:H b = some (.tup [k,x]) -> zDZ H d k x H1 -> Puts d vs H1 H2 -> Puts d (.ref b :: vs) H H2
theorem zB5:entryFor table "dict.update.loop" = some Builtin.«dict.update.loop»:=entryFor_of_tree (by kernel_rfl)
theorem zAm:plainId "dict.update.loop" = true:=by decide +kernel
theorem zDZ.some {H H1:Hp} {d:Addr} {k x:V} (p:zDZ H d k x H1):H d ≠ none /\ ∀ b,b ≠ d -> H1 b = H b:=by
 rcases p with ⟨kvs,k,e,_,_,rfl⟩ | ⟨kvs,k,b,e,_,_,_,rfl⟩
 ·exact ⟨by rw [e]; simp,fun b hb=>zO hb⟩
 ·exact ⟨by rw [e]; simp,fun b hb=>zO hb⟩
section
variable {X:Cx} {zB:List (Addr × Obj)} {σ:St} {A:Around}
theorem zJP (hu:A.units + 2 < cLine) (hA:A.handled = none) (hai:a ≠ it) (had:a ≠ d) (P:Puts d vs H H2) :
  ∀ (pre its:List Value) (j:Int) (s:Shared),items.toList = pre ++ its -> zV vs its -> Inv X zB σ H s -> zBy X zB H it -> s.heap.IsListIter it a pre.length -> s.heap.IsList a items ->
   (∀ s',Inv X zB σ H2 s' -> R (.ok (.ret .none)) s') -> codeAny (model X.prog X.w) A (.builtin "dict.update.loop" ⟨[.ref d,.ref it,rawInt j,.none],[]⟩) R s:=by
 have W:=Walks.list (prog:=X.prog) (w:=X.w) (A:=A.in1) (by simpa using hA) it a hai items;induction P with
 | nil=>
  intro pre its j s hi hv I hf h1 h2 hR;cases hv;have hn:items.size = pre.length:=by rw [<- Array.length_toList,hi]; simp
  refine codeAny_builtin zB5 ?_;rw [Around.under_plainId zAm _];refine zQG (W.done s _ _ (by rw [hn]; exact ⟨h1,h2⟩) fun h' tk k=>?_);refine zQG (zQI ?_);exact zQI (hR _ (L3.zBm (s:=s) (h':=h') (t':=tk) I (ch:=[it]) (fun b hb=>by cases zQi.mp hb; exact hf) fun b u hb e=>k b u hb e))
 | @cons b k x vs H H1 H2 eb dp _ ih=>
  intro pre its j s hi hv I hf h1 h2 hR;cases hv with
  | @cons _ u _ its rb hv=>
  cases rb;have hlt:pre.length < items.size:=by rw [<- Array.length_toList,hi]; simp
  refine codeAny_builtin zB5 ?_;rw [Around.under_plainId zAm _];refine zQG (W.item pre.length s _ _ hlt ⟨h1,h2⟩ fun v h' tk hP hst kk=>?_);have hv':v = .ref b:=by
   rw [<- Array.getElem?_toList,hi] at hP;simpa using hP.symm
  subst hv';have I1:Inv X zB σ H { s with heap:=h',toks:=tk }:=L3.zBm (s:=s) (h':=h') (t':=tk) I (ch:=[it]) (fun b hb=>by cases zQi.mp hb; exact hf) fun b u hb e=>kk b u hb e;obtain ⟨us,ru,⟨o,eo,oc,no,od⟩,_⟩:=I1.tuple (a:=b) (xs:=[k,x]) (.inl (.inl eb));obtain ⟨u1,u2,rfl,r1,r2⟩:=zMr ru;refine zQG (zQ9 ?_);refine zQG (wpAny_tryCatch ?_);unfold Builtin.Dict.pairItems;refine zQG (wpAny_typeOf (T := "tuple") ⟨o,eo,oc⟩ ?_);rw [zQV (by decide)];refine zQG (zQ6 eo od (zQI ?_));refine zQ9 (zJW (show A.in1.units + 1 < cLine from hu) I1 dp r1 r2 fun s3 I3 hs=>?_);obtain ⟨dn,ds⟩:=dp.some;have hid:it ≠ d:=fun z=>dn (z ▸ hf.1);have hst3:=W.frame (pre.length + 1) h' s3.heap hst fun c hc o e=>by
   rw [hs.2 c (fun z=>by
    rcases zQS.mp hc with q | q
    ·exact hid (q.symm.trans z)
    ·exact had ((zQi.mp q).symm.trans z))]
   exact e
  refine zQI ⟨plainId_quiet zAm _,ih (pre ++ [.ref b]) its (j + 1) s3 (by rw [hi]; simp) hv I3 ⟨(ds it hid).trans hf.1,hf.2⟩ (by rw [zQW]; exact hst3.1) hst3.2 hR⟩
theorem zGy (hu:X.A.units + 1 + 4 < cLine) (hc:X.calm = true):zBa X (.type "dict") (fun xs H Q=>∃ a vs isT,xs = [.ref a] /\ H a = some (.lst vs) /\ ∀ p,H p = none -> ∃ H2,Puts p vs (upd H p (zCg isT)) H2 /\ Q (.ref p) H2):=by
 intro zB s σ H xs us Q I r h;obtain ⟨a,vs,isT,rfl,ea,q⟩:=h;obtain ⟨u,rfl,rx⟩:=zDf r;cases rx;obtain ⟨its,rv,⟨ol,nl,e1,e2,e3,e4⟩,hz⟩:=I.list (xs:=vs) (.inl (.inl ea));have hA:X.A.handled = none:=I.ok.hd hc;have hp:H s.heap.objs.size = none:=I.hok.fresh (zQM _);obtain ⟨H2,P,qq⟩:=q _ hp;refine callType_codes (Q₁:=fun obj s₁=>obj = .ref s.heap.objs.size /\ s₁ = { s with heap:=s.heap.push zBq }) F.kt_called_dict (F.kt_typeCall_dict_1 _) F.entry_dict_init (kt_code_dict_new _ ⟨rfl,rfl⟩) ?_;rintro obj s₁ ⟨rfl,rfl⟩;have big:sysModules < s.heap.objs.size:=I.big;have hsm:(s.heap.objs.size == sysModules) = false:=by rw [beq_eq_false_iff_ne]; exact zRl big
 have pD:(s.heap.push zBq).get? s.heap.objs.size = some zBq:=zQQ _ rfl;have I1:Inv X zB σ (upd H s.heap.objs.size (zCg isT)) { s with heap:=s.heap.push zBq }:=by
  refine I.laid (t':=s.toks) (fun b q z=>zQH _ z) (zQM _) ?_;cases isT with
  | false=>exact ⟨zQ2 _,hsm,[],.nil,zBq,#[],0,pD,⟨rfl,rfl,rfl⟩,rfl,fun _ he=>by simp at he,.nil,List.nodup_nil⟩
  | true=>exact ⟨zQ2 _,hsm,[],.nil,zBq,#[],0,pD,⟨rfl,rfl,rfl⟩,rfl,rfl,List.nodup_nil⟩
 have hl1:(s.heap.push zBq).get? a = some ol:=zQH _ e1;have hap:a ≠ s.heap.objs.size:=zQb (zQR e1);refine ⟨⟨_,pD,rfl⟩,F.args_dict_init_2 _ _,?_⟩;unfold Builtin.«dict.__init__»;refine zQG ?_;unfold Builtin.Dict.selfAndRest;refine zQG (wpAny_notOrdered_dict ⟨_,pD,rfl⟩ ?_);refine zQI ?_;show wpAny _ _ (Builtin.Dict.updateFrom "dict.__init__" s.heap.objs.size (.ref a) [] .none) _ _ _;unfold Builtin.Dict.updateFrom;refine zQG (wpAny_typeOf (T := "list") ⟨ol,hl1,e2⟩ ?_);rw [zQV (by decide)];refine zQG (zFr hl1 e2 e4 e3 (by simpa using hA) fun h' tk k=>?_);have I2:Inv X zB σ (upd H s.heap.objs.size (zCg isT)) { s with heap:=h',toks:=tk }:=I1.kept (t':=tk) k;rw [zQV (show (none:Option Value).isNone = true from rfl)];refine zQG (wpAny_rule ?_);have hl2:h'.IsList a its.toArray:=⟨ol,k _ _ hl1,e2,nl,e4⟩;refine zQG (wpAny_pyIter_list (s:={ s with heap:=h',toks:=tk }) hl2 ?_);refine zQI ⟨plainId_quiet zAm _,?_⟩;have I3:Inv X zB σ (upd H s.heap.objs.size (zCg isT)) { s with heap:=h'.push { cls:=.type "list_iterator", data:=.fields #[.ref a,.int 0 0] },toks:=tk }:=I2.kept (t':=tk) fun b u z=>zQH _ z;refine zJP (items:=its.toArray) (show X.A.in1.units + 2 < cLine from Nat.lt_of_le_of_lt (by show X.A.units + 1 + 2 <= _; omega) hu) (by simpa using hA) (zQb (zQR (k _ _ hl1))) hap P [] its 0 _ (by simp) rv I3 ?_ ?_ ?_ ?_
 ·exact I2.fpOk (zQM _) (I2.hok.fresh (zQM _))
 ·exact ⟨_,zQQ _ rfl,rfl,rfl⟩
 ·exact ⟨ol,zQH _ (k _ _ hl1),e2,nl,e4⟩
 ·exact fun s' I'=>⟨rfl,.ref s.heap.objs.size,H2,I',rfl,qq⟩
end
end L2
namespace L3
open PySem PySem.Spec PyProof.Rows L2
def zDO (n:Nat):List D -> Mem -> Option Mem
 | [],M=>some M
 | .tup [k,v] :: ds,M=>match zCc M n k v with
  | some M1=>zDO n ds M1
  | none=>none
 | _ :: _,_=>none
def zCZ (isT:Bool):KB:=fun xs M=>match xs with
 | [.fl ds]=>match zDO M.length ds (M ++ [zHP isT]) with
  | some M1=>some (.dat (.ref M.length),M1)
  | none=>none
 | _=>none
theorem zEU {K:PySem.W.Frag} {n:Nat} {p:Addr}:∀ {ds:List D} {L:List Addr} {M M':Mem} {H:Hp} {vs:List V},Cor K L M H -> L[n]? = some p -> zJ L H ds vs -> zDO n ds M = some M' -> ∃ H',Puts p vs H H' /\ Cor K L M' H' /\ Stp L H L H'
 | [],L,M,M',H,vs,c,lp,r,e=>by
  unfold zJ at r; subst r;cases e;exact ⟨H,.nil,c,.refl L H⟩
 | d :: ds,L,M,M',H,vs,c,lp,r,e=>by
  unfold zJ at r;obtain ⟨v,r',rfl,r1,r2⟩:=r;unfold zDO at e;split at e
  ·rename_i h; cases h
  ·rename_i k x ds' e0;cases e0;split at e
   ·rename_i M1 e1;unfold Rep at r1;obtain ⟨b,ws,rfl,e2,r3⟩:=r1;unfold zJ at r3;obtain ⟨vk,r4,rfl,rk,r5⟩:=r3;unfold zJ at r5;obtain ⟨vx,r6,rfl,rx,r7⟩:=r5;unfold zJ at r7;subst r7;obtain ⟨H1,dp,c1,s1⟩:=zGl c lp rk rx e1;obtain ⟨H2,P,c2,s2⟩:=zEU c1 lp (r2.stp s1) e;exact ⟨H2,.cons e2 dp P,c2,s1.trans s2⟩
   ·cases e
  ·cases e
section
variable {X:Cx}
theorem zHN (isT:Bool):zEf X.K (fun xs H Q=>∃ a vs isT,xs = [.ref a] /\ H a = some (.lst vs) /\ ∀ p,H p = none -> ∃ H2,Puts p vs (upd H p (zCg isT)) H2 /\ Q (.ref p) H2) (zCZ isT):=by
 intro L M M' H H0 xs d vs Q c r hk q;unfold zCZ at hk;split at hk
 ·rename_i ds;split at hk
  ·rename_i M1 e1;cases hk;obtain ⟨v,rfl,r1⟩:=r.one;unfold za at r1;obtain ⟨a,ws,rfl,_,e2,_,r2⟩:=r1;refine ⟨a,ws,isT,rfl,e2,fun p hp=>?_⟩;obtain ⟨c0,s0⟩:Cor X.K (L ++ [p]) (M ++ [zHP isT]) (upd H p (zCg isT)) /\ Stp L H (L ++ [p]) (upd H p (zCg isT)):=by
    cases isT with
    | true=>exact c.pushO (m:=.dicT []) hp ⟨[],zm,rfl⟩
    | false=>exact c.pushO (m:=.dict []) hp ⟨[],zm,rfl⟩
   have lp0:(L ++ [p])[M.length]? = some p:=by rw [<- c.len]; simp
   obtain ⟨H2,P,c2,s2⟩:=zEU c0 lp0 (r2.stp s0) e1;refine ⟨H2,P,q _ _ _ (s0.trans s2) c2 ?_⟩;unfold za Rep;exact ⟨p,rfl,lp0⟩
  ·cases hk
 ·cases hk
theorem zKF (isT:Bool) (hu:X.A.units + 1 + 4 < cLine) (hc:X.calm = true) (hg:Gl X "dict") (hm:X.mg "dict" = none) (ha:QAE X [e] fa) (he:starEach [e] X.env = (false,eval e X.env) :: starEach [] X.env:=by rfl) (hpl:(backTo pos (starEach [] X.env)).any (·.1) = false:=by rfl):QE X (.Call (.Name "dict" p) [e] [] pos) (fB (zCZ isT) fa) :=
 zEA (zHN isT) (zGy hu hc) (by rfl) hg hm ha (by decide) (by decide) he hpl
end
end L3
namespace L2
open PySem PySem.Spec PyProof.Rows ST
end L2
namespace L3
open PySem PySem.Spec PyProof.Rows L2 ST
section
variable {prog:Program} {w:World} {A:Around} {E:Value -> Shared -> Prop} {s:Shared}
theorem zCv (h:Q (s.heap.get? a) s):wpAny (model prog w) A (loadIfAlive a) Q E s:=fun Γ p _=>by
 unfold loadIfAlive;rw [Sem.wp_loadIfAlive];simpa using h
abbrev zDV (f:Value) (g:Bool) (TI TO:Addr):Obj:={ cls:=.type "zip", dict:=none,data:=.fields #[f,.bool g,.bool false,.ref TI,.ref TO],slots:=#[] }
structure ZipA (b1 b2:Bool) (h:Heap) (z TI TO i1 i2 t1 t2:Addr) (k:Nat):Prop where
 z:∃ f g,(f = .none \/ ∃ T:Addr,f = rawInt T) /\ h.get? z = some (zDV f g TI TO)
 ti:IsPair h TI (.ref i1) (.ref i2)
 to:∃ a b,IsPair h TO a b
 a:SI b1 h i1 t1 k
 b:SI b2 h i2 t2 k
theorem zIQ {z TI TO:Addr} {f:Value} {g:Bool} {Q:Bool -> Shared -> Prop} (hf:f = .none \/ ∃ T:Addr,f = rawInt T) (Z0:s.heap.get? z = some (zDV f g TI TO)) (qt:Q true s) (qf:∀ h' g',h'.get? z = some (zDV f g' TI TO) -> Heap.SameBut z s.heap h' -> Q false { s with heap:=h' }):wpAny (model prog w) A (Builtin.SmallTypes.ownedTupleIsFree (.ref z)) Q E s:=by
 unfold Builtin.SmallTypes.ownedTupleIsFree;rcases hf with rfl | ⟨T,rfl⟩
 ·exact zQG (zQv Z0 rfl (x:=.none) rfl (zQI qt))
 ·refine zQG (zQv Z0 rfl (x:=rawInt T) rfl ?_);unfold rawInt;dsimp only;refine zQG (zCv ?_);cases AT:s.heap.get? ((T:Int)).toNat with
  | none=>exact zQI qt
  | some o=>
   simp only [Option.isNone_some,Bool.false_eq_true,if_false];refine zQG (zQv Z0 rfl (x:=.bool g) rfl ?_);cases g
   ·rw [zQV (by decide)];exact zQG (zRW Z0 (by simp) fun h1 Z1 e1=>zQI (qf h1 true Z1 e1))
   ·rw [zQY (by decide)];exact zQI (qf s.heap true Z0 (Heap.SameBut.refl _ _))
theorem zFE {b1 b2:Bool} {z TI TO i1 i2 t1 t2:Addr} {k:Nat} {xs ys:Array Value} {x y:Value} {Q:Option Value -> Shared -> Prop} (D:ZipApart z TI TO i1 i2 t1 t2) (Z:ZipA b1 b2 s.heap z TI TO i1 i2 t1 t2 k)
  (T1:SO b1 s.heap t1 xs) (T2:SO b2 s.heap t2 ys) (hx:xs[k]? = some x) (hy:ys[k]? = some y)
  (q:∀ h',ZipA b1 b2 h' z TI TO i1 i2 t1 t2 (k + 1) -> IsPair h' s.heap.objs.size x y ->
   (∀ c o,c ∉ [z,TO,i1,i2] -> s.heap.get? c = some o -> h'.get? c = some o) -> Q (some (.ref s.heap.objs.size)) { s with heap:=h' }):wpAny (model prog w) A (pyNext (.ref z)) Q E s:=by
 obtain ⟨⟨f,g,hf,Z0⟩,P0,⟨a,b,O0⟩,I1,I2⟩:=Z;have ty:s.TypeIs (.ref z) "zip" := ⟨_,Z0,rfl⟩;unfold pyNext;refine zQG (wpAny_attempt (zQs (name:=Str.ofString "__next__") ty zRu (zQt zRu ty PySem.F.entry_zip_next ?_ (PySem.F.args_zip_next_1 _))));refine zQG (m:=field (.ref z) 2) (zQv Z0 rfl (x:=.bool false) rfl ?_);refine zQG (m:=field (.ref z) 3) (zQv Z0 rfl (x:=.ref TI) rfl ?_);refine zQG (zQ6 P0 rfl ?_);refine zQG (m:=Builtin.SmallTypes.ownedTupleIsFree (.ref z)) (zIQ hf Z0 ?_ fun h1 g' Z1 e1=>?_)
 ·rw [zQV rfl];refine zQG (wpAny_rule (zQG (zQv Z0 rfl (x:=.ref TO) rfl (zQG (zRW Z0 (by simp) fun h1 Z1 e1=>?_)))));replace Z1:h1.get? z = some (zDV .ellipsis g TI TO):=Z1;refine zQG ?_;simp only [List.forIn_cons,List.forIn_nil,List.zipIdx_cons,List.zipIdx_nil];refine zQG (zQG (zSG (zQG (m:=Builtin.SmallTypes.nextOf (.ref i1)) (zA1 (SI.but I1 e1.extBut D.i1z) (SO.but T1 e1.extBut D.l1z) hx fun h2 J1 e2=>zQI ?_))));have O2:IsPair h2 TO a b:=e2.extBut _ _ D.TOi1 (e1.extBut _ _ D.TOz O0);refine zQG (zQ6 O2 rfl (zQG (wpAny_updateSeq_pair O2 fun h3 O3 e3=>zQG (wpAny_letGo (zQI ?_)))));replace O3:IsPair h3 TO x b:=O3
  refine zQG (zQG (zSG (zQG (m:=Builtin.SmallTypes.nextOf (.ref i2)) (zA1 (SI.but (SI.but (SI.but I2 e1.extBut D.i2z) e2.extBut D.i12.symm) e3.extBut D.TOi2.symm)
   (SO.but (SO.but (SO.but T2 e1.extBut D.l2z) e2.extBut D.l2i1) e3.extBut D.l2TO) hy fun h4 J2 e4=>zQI ?_))))
  have O4:IsPair h4 TO x b:=e4.extBut _ _ D.TOi2 O3;refine zQG (zQ6 O4 rfl (zQG (wpAny_updateSeq_pair O4 fun h5 O5 e5=>zQG (wpAny_letGo (zQI (zQI ?_))))));replace O5:IsPair h5 TO x y:=O5;refine zQG (zQ6 O5 rfl (zQG (wpAny_newTuple ?_)));have sz:h5.objs.size = s.heap.objs.size:=by rw [e5.1,e4.1,e3.1,e2.1,e1.1]
  have Z5:h5.get? z = some (zDV .ellipsis g TI TO):=e5.extBut _ _ D.TOz.symm (e4.extBut _ _ D.i2z.symm (e3.extBut _ _ D.TOz.symm (e2.extBut _ _ D.i1z.symm Z1)));have kp:∀ c o,c ∉ [z,TO,i1,i2] -> s.heap.get? c = some o -> h5.get? c = some o:=fun c o n e=>by
   simp only [zQS,zQl,zRb,not_or] at n;obtain ⟨n1,n2,n3,n4⟩:=n;exact e5.extBut _ _ n2 (e4.extBut _ _ n4 (e3.extBut _ _ n2 (e2.extBut _ _ n3 (e1.extBut _ _ n1 e))))
  have A5:SI b1 h5 i1 t1 (k + 1):=SI.but (SI.but (SI.but J1 e3.extBut D.TOi1.symm) e4.extBut D.i12) e5.extBut D.TOi1.symm;have B5:SI b2 h5 i2 t2 (k + 1):=SI.but J2 e5.extBut D.TOi2.symm;have zl:z < h5.objs.size:=zQR Z5;refine zQG (m:=Builtin.SmallTypes.ownedTupleHandOut (.ref z) (.ref h5.objs.size)) ?_;unfold Builtin.SmallTypes.ownedTupleHandOut;have Z6:(h5.push { cls:=.type "tuple", data:=.seq #[x,y] }).get? z = some (zDV .ellipsis g TI TO):=zQH _ Z5;refine zQG (zRW Z6 (by simp) fun h7 Z7 e7=>?_);replace Z7:h7.get? z = some (zDV (rawInt h5.objs.size) g TI TO):=Z7;refine zRW Z7 (by simp) fun h8 Z8 e8=>?_;replace Z8:h8.get? z = some (zDV (rawInt h5.objs.size) false TI TO):=Z8;have up:∀ c o,c ≠ z -> h5.get? c = some o -> h8.get? c = some o:=fun c o n e=>e8.extBut _ _ n (e7.extBut _ _ n (zQH _ e));have N8:IsPair h8 h5.objs.size x y:=e8.extBut _ _ (zRl zl) (e7.extBut _ _ (zRl zl) (zQQ _ rfl));rw [sz] at Z8 N8;refine zQI ⟨_,rfl,?_⟩;rw [sz];refine zQI (q h8 ⟨⟨_,false,.inr ⟨_,rfl⟩,Z8⟩,up _ _ D.TIz (kp _ _ (by simp [D.TIz,D.TITO,D.TIi1,D.TIi2]) P0),⟨_,_,up _ _ D.TOz O5⟩,?_,?_⟩ N8 fun c o n e=>up c o (fun m=>n (by simp [m])) (kp c o n e))
  ·exact A5.keep fun o e=>up _ o D.i1z e
  ·exact B5.keep fun o e=>up _ o D.i2z e
 ·rw [zQY (by decide)];dsimp only;rw [<- Array.forIn_toList];simp only [List.forIn_cons,List.forIn_nil];refine zQG (zQG (zQG (zQ9 (zQG (m:=Builtin.SmallTypes.nextOf (.ref i1)) (zA1 (SI.but I1 e1.extBut D.i1z) (SO.but T1 e1.extBut D.l1z) hx fun h2 J1 e2=>zQI (zQI ?_))))));refine zQG (zQG (zQ9 (zQG (m:=Builtin.SmallTypes.nextOf (.ref i2)) (zA1 (SI.but (SI.but I2 e1.extBut D.i2z) e2.extBut D.i12.symm) (SO.but (SO.but T2 e1.extBut D.l2z) e2.extBut D.l2i1) hy fun h4 J2 e4=>zQI (zQI (zQI ?_))))));have sz:h4.objs.size = s.heap.objs.size:=by rw [e4.1,e2.1,e1.1]
  have kp:∀ c o,c ∉ [z,i1,i2] -> s.heap.get? c = some o -> h4.get? c = some o:=fun c o n e=>by
   simp only [zQS,zQl,zRb,not_or] at n;exact e4.extBut _ _ n.2.2 (e2.extBut _ _ n.2.1 (e1.extBut _ _ n.1 e))
  have Z4:h4.get? z = some (zDV f g' TI TO):=e4.extBut _ _ D.i2z.symm (e2.extBut _ _ D.i1z.symm Z1);refine zQG (wpAny_newTuple (hsz:=by show 2 <= sizeLine; rw [sizeLine_eq]; omega) (zQI ⟨_,rfl,?_⟩));have up:∀ c o,h4.get? c = some o -> (h4.push { cls:=.type "tuple", data:=.seq #[x,y] }).get? c = some o:=fun c o e=>zQH _ e;have N8:IsPair (h4.push { cls:=.type "tuple", data:=.seq #[x,y] }) h4.objs.size x y:=zQQ _ rfl;rw [sz] at N8;show wpAny _ _ (pure (some (Value.ref h4.objs.size))) _ _ _;rw [sz];refine zQI (q _ ⟨⟨f,g',hf,up _ _ Z4⟩,up _ _ (kp _ _ (by simp [D.TIz,D.TIi1,D.TIi2]) P0),⟨a,b,up _ _ (kp _ _ (by simp [D.TOz,D.TOi1,D.TOi2]) O0)⟩,?_,?_⟩ N8 fun c o n e=>up c o (kp c o (fun m=>n (by simp only [zQS,zQl,zRb] at m ⊢; rcases m with m | m | m <;> simp [m])) e))
  ·exact (SI.but J1 e4.extBut D.i12).keep fun o e=>up _ o e
  ·exact J2.keep fun o e=>up _ o e
theorem zHC {b1 b2:Bool} {z TI TO i1 i2 t1 t2:Addr} {k:Nat} {xs ys:Array Value} {Q:Option Value -> Shared -> Prop} (hh:A.handled = none) (D:ZipApart z TI TO i1 i2 t1 t2) (Z:ZipA b1 b2 s.heap z TI TO i1 i2 t1 t2 k)
  (T1:SO b1 s.heap t1 xs) (T2:SO b2 s.heap t2 ys) (he:xs[k]? = none \/ ys[k]? = none)
  (q:∀ h',(∀ c o,c ∉ [z,TO,i1,i2] -> s.heap.get? c = some o -> h'.get? c = some o) -> Q none { s with heap:=h' }):wpAny (model prog w) A (pyNext (.ref z)) Q E s:=by
 obtain ⟨⟨f,g,hf,Z0⟩,P0,⟨a,b,O0⟩,I1,I2⟩:=Z;have ty:s.TypeIs (.ref z) "zip" := ⟨_,Z0,rfl⟩
 have stop:∀ (e:Addr) (h':Heap),(∀ c o,c ∉ [z,TO,i1,i2] -> s.heap.get? c = some o -> h'.get? c = some o) -> (∃ o,h'.get? e = some o /\ o.cls = .type "StopIteration") ->
   wpAny (model prog w) A (do if (<- isInstance (.ref e) (.type "StopIteration")) then pure none else throw (.ref e):Sem (Option Value)) Q E { s with heap:=h' }:=fun e h' k1 ⟨o,e1,e2⟩=>
  zQG (wpAny_isInstance (T := "StopIteration") (b:=true) ⟨o,e1,e2⟩ isSubtype_stop (zQI (q h' k1)))
 unfold pyNext;refine zQG (wpAny_attempt (zQs (name:=Str.ofString "__next__") ty zRu (zQt zRu ty PySem.F.entry_zip_next ?_ (PySem.F.args_zip_next_1 _))));refine zQG (m:=field (.ref z) 2) (zQv Z0 rfl (x:=.bool false) rfl ?_);refine zQG (m:=field (.ref z) 3) (zQv Z0 rfl (x:=.ref TI) rfl ?_);refine zQG (zQ6 P0 rfl ?_);refine zQG (m:=Builtin.SmallTypes.ownedTupleIsFree (.ref z)) (zIQ hf Z0 ?_ fun h1 g' Z1 e1=>?_)
 ·rw [zQV rfl];refine zQG (wpAny_rule (zQG (zQv Z0 rfl (x:=.ref TO) rfl (zQG (zRW Z0 (by simp) fun h1 Z1 e1=>?_)))));replace Z1:h1.get? z = some (zDV .ellipsis g TI TO):=Z1;refine zQG ?_;simp only [List.forIn_cons,List.forIn_nil,List.zipIdx_cons,List.zipIdx_nil];cases hx:xs[k]? with
  | none=>
   refine zQG (zQG (zSG (zQG (m:=Builtin.SmallTypes.nextOf (.ref i1)) (zCR hh (SI.but I1 e1.extBut D.i1z) (SO.but T1 e1.extBut D.l1z) hx fun h2 e e2 he=>?_))));obtain ⟨oe,o1,o2⟩:=he;have Z2:h2.get? z = some (zDV .ellipsis g TI TO):=e2 _ _ D.i1z.symm Z1;have ne:e ≠ z:=fun m=>by subst m; rw [Z2] at o1; cases o1; simp at o2
   refine zRW Z2 (by simp) fun h3 _ e3=>stop e h3 (fun c o n x=>?_) ⟨oe,e3.extBut _ _ ne o1,o2⟩;simp only [zQS,zQl,zRb,not_or] at n;exact e3.extBut _ _ n.1 (e2 _ _ n.2.2.1 (e1.extBut _ _ n.1 x))
  | some x=>
   have hy:ys[k]? = none:=by
    rcases he with m | m
    ·rw [hx] at m; cases m
    ·exact m
   refine zQG (zQG (zSG (zQG (m:=Builtin.SmallTypes.nextOf (.ref i1)) (zA1 (SI.but I1 e1.extBut D.i1z) (SO.but T1 e1.extBut D.l1z) hx fun h2 J1 e2=>zQI ?_))));have O2:IsPair h2 TO a b:=e2.extBut _ _ D.TOi1 (e1.extBut _ _ D.TOz O0);refine zQG (zQ6 O2 rfl (zQG (wpAny_updateSeq_pair O2 fun h3 O3 e3=>zQG (wpAny_letGo (zQI ?_)))))
   refine zQG (zQG (zSG (zQG (m:=Builtin.SmallTypes.nextOf (.ref i2)) (zCR hh (SI.but (SI.but (SI.but I2 e1.extBut D.i2z) e2.extBut D.i12.symm) e3.extBut D.TOi2.symm)
    (SO.but (SO.but (SO.but T2 e1.extBut D.l2z) e2.extBut D.l2i1) e3.extBut D.l2TO) hy fun h4 e e4 he=>?_))))
   obtain ⟨oe,o1,o2⟩:=he;have Z4:h4.get? z = some (zDV .ellipsis g TI TO):=e4 _ _ D.i2z.symm (e3.extBut _ _ D.TOz.symm (e2.extBut _ _ D.i1z.symm Z1));have ne:e ≠ z:=fun m=>by subst m; rw [Z4] at o1; cases o1; simp at o2
   refine zRW Z4 (by simp) fun h5 _ e5=>stop e h5 (fun c o n x=>?_) ⟨oe,e5.extBut _ _ ne o1,o2⟩;simp only [zQS,zQl,zRb,not_or] at n;exact e5.extBut _ _ n.1 (e4 _ _ n.2.2.2 (e3.extBut _ _ n.2.1 (e2.extBut _ _ n.2.2.1 (e1.extBut _ _ n.1 x))))
 ·rw [zQY (by decide)];dsimp only;rw [<- Array.forIn_toList];simp only [List.forIn_cons,List.forIn_nil];cases hx:xs[k]? with
  | none=>
   refine zQG (zQG (zQG (zQ9 (zQG (m:=Builtin.SmallTypes.nextOf (.ref i1)) (zCR hh (SI.but I1 e1.extBut D.i1z) (SO.but T1 e1.extBut D.l1z) hx fun h2 e e2 he=>?_)))));refine stop e h2 (fun c o n x=>?_) he;simp only [zQS,zQl,zRb,not_or] at n;exact e2 _ _ n.2.2.1 (e1.extBut _ _ n.1 x)
  | some x=>
   have hy:ys[k]? = none:=by
    rcases he with m | m
    ·rw [hx] at m; cases m
    ·exact m
   refine zQG (zQG (zQG (zQ9 (zQG (m:=Builtin.SmallTypes.nextOf (.ref i1)) (zA1 (SI.but I1 e1.extBut D.i1z) (SO.but T1 e1.extBut D.l1z) hx fun h2 J1 e2=>zQI (zQI ?_))))));refine zQG (zQG (zQ9 (zQG (m:=Builtin.SmallTypes.nextOf (.ref i2)) (zCR hh (SI.but (SI.but I2 e1.extBut D.i2z) e2.extBut D.i12.symm) (SO.but (SO.but T2 e1.extBut D.l2z) e2.extBut D.l2i1) hy fun h4 e e4 he=>?_))));refine stop e h4 (fun c o n x=>?_) he;simp only [zQS,zQl,zRb,not_or] at n;exact e4 _ _ n.2.2.2 (e2.extBut _ _ n.2.2.1 (e1.extBut _ _ n.1 x))
theorem zM3 {z TI TO:Addr} {f:Value} {g:Bool} {Q:Value -> Shared -> Prop} (Z0:s.heap.get? z = some (zDV f g TI TO)) (h:Q (.ref z) s):wpAny (model prog w) A (pyIter (.ref z)) Q E s :=
 have ty:s.TypeIs (.ref z) "zip" := ⟨_,Z0,rfl⟩;wpAny_pyIter_slot ty PySem.F.slot_zip_iter (zQt PySem.F.slot_zip_iter ty PySem.F.entry_zip_iter (show wpAny _ _ (ret (.ref z)) _ _ s from zQI ⟨_,rfl, "zip", _,ty,zRu.lookup,h⟩) (PySem.F.args_zip_iter_1 _))
end
theorem zI5 {b1 b2:Bool} {P:Program} {w:World} {K:PySem.W.Frag} {nm:Str} {ep:Pos} {z TI TO i1 i2 a b:Addr} (D:ZipApart z TI TO i1 i2 a b) :
  Turn P w K (.Name nm ep) (zPP K b1 b2 a b) [z,TI,TO,i1,i2] z (fun i h=>ZipA b1 b2 h z TI TO i1 i2 a b i) where
 mem:=by simp
 obj:=fun i h Z c hc=>by
  obtain ⟨⟨f,g,hf,Z0⟩,P0,⟨x,y,O0⟩,S1,S2⟩:=Z;obtain ⟨o1,e1,d1⟩:=S1.obj;obtain ⟨o2,e2,d2⟩:=S2.obj;simp only [zQS,zQl,zRb] at hc;rcases hc with rfl | rfl | rfl | rfl | rfl
  ·exact ⟨_,Z0,fun v m=>by cases m⟩
  ·exact ⟨_,P0,fun v m=>by cases m⟩
  ·exact ⟨_,O0,fun v m=>by cases m⟩
  ·exact ⟨_,e1,d1⟩
  ·exact ⟨_,e2,d2⟩
 keep:=fun i h h' Z k=>by
  obtain ⟨⟨f,g,hf,Z0⟩,P0,⟨x,y,O0⟩,S1,S2⟩:=Z;exact ⟨⟨f,g,hf,k z (by simp) _ Z0⟩,k TI (by simp) _ P0,⟨x,y,k TO (by simp) _ O0⟩,S1.keep fun o e=>k i1 (by simp) o e,S2.keep fun o e=>k i2 (by simp) o e⟩
 item:=by
  intro X hP hw hK hc i zB s σ H E I hf Z hg;subst hP hw hK;obtain ⟨xs,ys,x,y,sa,sb,hx,hy⟩:=hg;obtain ⟨its,rv,p1⟩:=zCA I sa;obtain ⟨its2,rv2,p2⟩:=zCA I sb;obtain ⟨u,hu,ru⟩:=rv.get hx;obtain ⟨u2,hu2,ru2⟩:=rv2.get hy;refine zFE D Z p1 p2 (x:=u) (y:=u2) (by simpa using hu) (by simpa using hu2) fun h2 Z' N' kp=>⟨_,rfl,?_⟩;refine (show wpAny _ _ (pure ()) _ _ _ from zQI ?_);have hch:∀ c ∈ [z,TO,i1,i2],zBy X zB H c:=fun c hm=>hf c (by
   simp only [zQS,zQl,zRb] at hm ⊢;rcases hm with q | q | q | q <;> simp [q])
  have kk:∀ c o,c ∉ [z,TO,i1,i2] -> s.heap.get? c = some o -> h2.get? c = some o:=kp;have NT:IsPair h2 s.heap.objs.size u u2:=N';have hfr:H s.heap.objs.size = none:=I.hok.fresh (zQM _);refine ⟨.ref s.heap.objs.size,upd H s.heap.objs.size (.tup [x,y]),zCH (s:=s) (h':=h2) (t':=s.toks) I hch kk (zQM _) ?_,rfl,⟨_,x,y,rfl,hfr,rfl,fun ws hw=>?_,fun ws hw=>?_⟩,?_,fun c hm=>?_⟩
  ·exact ⟨by show 2 <= sizeLine; decide,[u,u2],.cons ru (.cons ru2 .nil),⟨_,NT,rfl,⟨_,rfl⟩,rfl⟩⟩
  ·rw [zIY I hw sa]; exact hx
  ·rw [zIY I hw sb]; exact hy
  ·exact Z'
  ·have lt:c < s.heap.objs.size:=by
    obtain ⟨⟨_,_,_,Z0⟩,P0,⟨q1,q2,O0⟩,S1,S2⟩:=Z;obtain ⟨o1,f1,_⟩:=S1.obj;obtain ⟨o2,f2,_⟩:=S2.obj;simp only [zQS,zQl,zRb] at hm;rcases hm with rfl | rfl | rfl | rfl | rfl
    ·exact zQR Z0
    ·exact zQR P0
    ·exact zQR O0
    ·exact zQR f1
    ·exact zQR f2
   rw [zO (zQb lt)];exact (hf c hm).1
 done:=by
  intro X hP hw hK hc i zB s σ H E I hf Z hg;subst hP hw hK;obtain ⟨xs,ys,sa,sb,hz⟩:=hg;obtain ⟨its,rv,p1⟩:=zCA I sa;obtain ⟨its2,rv2,p2⟩:=zCA I sb;have l1:=rv.length;have l2:=rv2.length;refine zHC (I.ok.hd hc) D Z p1 p2 ?_ fun h' kp=>⟨rfl,zBm (s:=s) (h':=h') (t':=s.toks) I (fun c hm=>hf c (by
   simp only [zQS,zQl,zRb] at hm ⊢;rcases hm with q | q | q | q <;> simp [q])) kp⟩
  rcases hz with q | q
  ·exact .inl (by simp; omega)
  ·exact .inr (by simp; omega)
 self:=fun _ _ _ _ _ Z h=>by
  obtain ⟨⟨f,g,hf,Z0⟩,_⟩:=Z;exact zM3 Z0 h
section
variable {X:Cx} {a b:Expr} {nm:Str} {ep p pos:Pos}
theorem zMc {ta:TA} (hg:Gl X "zip") (hm:X.mg "zip" = none) (ha:PA X [a,b] ta) (hs:starEach [a,b] X.env = [(false,eval a X.env),(false,eval b X.env)]:=by rfl) (hs2:starEach [b] X.env = [(false,eval b X.env)]:=by rfl) :
  PI X (.Name nm ep) (.Call (.Name "zip" p) [a,b] [] pos) (fun σ H R=>ta σ H fun vs H1=>∃ b1 b2 l1 l2 xs ys,vs = [.ref l1,.ref l2] /\ SqG X.K b1 H1 l1 xs /\ SqG X.K b2 H1 l2 ys /\ R (zPP X.K b1 b2 l1 l2) H1):=by
 intro zB s σ H R I h;refine Call_ (zBd I hg hm (by rfl) (PyProof.Rows.callWith_type1 (thn (ha pos zB s σ H _ I h) fun us s1 ⟨vs,H1,I1,r1,q1⟩=>?_) (by rw [hs,hs2]) (by rw [hs2]; rfl)));obtain ⟨b1,b2,l1,l2,xs,ys,rfl,s1',s2',q⟩:=q1;cases r1 with
 | cons r rr=>
  cases rr with
  | cons r' rr=>
   cases rr;cases r;cases r';obtain ⟨its,rv,p1⟩:=zCA I1 s1';obtain ⟨its2,rv2,p2⟩:=zCA I1 s2';have d1:l1 < s1.heap.objs.size:=zMZ p1;have d2:l2 < s1.heap.objs.size:=zMZ p2;refine zGY p1 p2 fun h' Z kp=>wpAny_pyIter_zip Z.z ?_;refine ⟨s1.heap.objs.size + 4,[s1.heap.objs.size + 4,s1.heap.objs.size + 2,s1.heap.objs.size + 3,s1.heap.objs.size,s1.heap.objs.size + 1],_,_,H1,rfl,I1.kept (t':=s1.toks) kp,zI5 (zipApart_new d1 d2),⟨⟨.none,false,.inl rfl,Z.z⟩,Z.ti,Z.to,Z.a,Z.b⟩,fun c hc=>?_,q⟩;have ge:s1.heap.objs.size <= c:=by
    simp only [zQS,zQl,zRb] at hc;rcases hc with rfl | rfl | rfl | rfl | rfl
    ·exact zR5 _ 4
    ·exact zR5 _ 2
    ·exact zR5 _ 3
    ·exact zQM _
    ·exact zR5 _ 1
   exact I1.fpOk ge (I1.hok.fresh ge)
theorem zL2 (hg:Gl X "zip") (hm:X.mg "zip" = none) (ha:QA X [a,b] g) (hs:starEach [a,b] X.env = [(false,eval a X.env),(false,eval b X.env)]:=by rfl) (hs2:starEach [b] X.env = [(false,eval b X.env)]:=by rfl) :
  QI X (.Name nm ep) (.Call (.Name "zip" p) [a,b] [] pos) (zEC g):=.mk <| PI.imp (zMc hg hm ha.un hs hs2) fun τ H R zz=>by
 obtain ⟨L,σ,M,xs,gd,M',c,rs,hf,q⟩:=zz;unfold zEC at hf;split at hf
 ·rename_i x y M1 e1;split at hf
  ·rename_i ds es' e2 e3;cases hf;refine ⟨L,σ,M,_,_,c,rs,e1,fun L1 H1 vs s1 c1 r1=>?_⟩;obtain ⟨v,v',rfl,r2,r3⟩:=r1.two;obtain ⟨b1,l1,rfl,⟨w1,h1⟩,k1⟩:=zFU c1 r2 e2;obtain ⟨b2,l2,rfl,⟨w2,h2⟩,k2⟩:=zFU c1 r3 e3;refine ⟨b1,b2,l1,l2,w1,w2,rfl,h1,h2,q L1 H1 _ s1 c1 fun L2 H2 M2 s2 c2 hgd=>?_⟩;obtain ⟨ws1,g1,p1⟩:=k1 L2 H2 M2 s2 c2 hgd.1;obtain ⟨ws2,g2,p2⟩:=k2 L2 H2 M2 s2 c2 hgd.2;refine ⟨fun i d hd=>?_,⟨ws1,ws2,g1,g2,?_⟩⟩
   ·rw [zQd] at hd;cases e2:(ds.zip es')[i]? with
    | none=>rw [e2] at hd; cases hd
    | some pr=>
     rw [e2] at hd;cases hd;obtain ⟨f1,f2⟩:=zUM.mp e2;obtain ⟨u,hu,ru⟩:=p1.get f1;obtain ⟨u2,hu2,ru2⟩:=p2.get f2;refine ⟨⟨ws1,ws2,u,u2,g1,g2,hu,hu2⟩,fun v H3 hy=>?_⟩;obtain ⟨T,x,y,rfl,hT,rfl,hxx,hyy⟩:=hy;have ex:=hxx ws1 g1;have ey:=hyy ws2 g2;rw [hu] at ex; cases ex;rw [hu2] at ey; cases ey;exact ⟨fun a o e=>by rw [zO (zd e hT)]; exact e,Rep.newTup hT (.cons ru (.cons ru2 .nil))⟩
   ·rw [zQP,List.length_zip,p1.length,p2.length];omega
  ·cases hf
 ·cases hf
end
theorem zHS:typeLookup (.type "zip") "__len__" = pure none:=by rw [typeLookup_type,builtinLookup_eq_fast]; kernel_rfl
theorem zGp:typeLookup (.type "zip") "__length_hint__" = pure none:=by rw [typeLookup_type,builtinLookup_eq_fast]; kernel_rfl
structure Col (h0:Heap) (S:Addr) (xs ys:List Value) (Ts:List Addr) (h:Heap):Prop where
 kp:∀ b o,h0.get? b = some o -> h.get? b = some o
 lst:∃ c,h.get? S = some { cls:=.type "list", dict:=none,data:=.seq (Ts.map Value.ref).toArray c,slots:=#[] }
 nd:Ts.Nodup
 up:∀ (j:Nat) T,Ts[j]? = some T -> S < T /\ ∃ x y,xs[j]? = some x /\ ys[j]? = some y /\ IsPair h T x y
theorem Col.move {h0 h h':Heap} {S:Addr} {xs ys:List Value} {Ts:List Addr} {ch:List Addr} (C:Col h0 S xs ys Ts h) (hc:∀ b ∈ ch,h0.objs.size <= b /\ b < S) (k:∀ c o,c ∉ ch -> h.get? c = some o -> h'.get? c = some o):Col h0 S xs ys Ts h' where
 kp:=fun b o e=>k b o (fun m=>absurd (zQR e) (Nat.not_lt.mpr (hc b m).1)) (C.kp b o e);lst:=let ⟨c,e⟩:=C.lst; ⟨c,k S _ (fun m=>absurd (hc S m).2 (zQy _)) e⟩;nd:=C.nd;up:=fun j T e=>by
  obtain ⟨l,x,y,e1,e2,p⟩:=C.up j T e;exact ⟨l,x,y,e1,e2,k T _ (fun m=>absurd (Nat.lt_trans l (hc T m).2) (zQy _)) p⟩
section
variable {prog:Program} {w:World} {A:Around} {E:Value -> Shared -> Prop} {R:Result -> Shared -> Prop} {s0:Shared}
theorem zLM {b1 b2:Bool} {z TI TO i1 i2 t1 t2 S:Addr} {xs ys:List Value} {res:Value} (hh:A.handled = none) (D:ZipApart z TI TO i1 i2 t1 t2) (T1:SO b1 s0.heap t1 xs.toArray) (T2:SO b2 s0.heap t2 ys.toArray) (hn:min xs.length ys.length <= sizeLine)
  (hch:∀ b ∈ [z,TO,i1,i2],s0.heap.objs.size <= b /\ b < S) (hTI:S ≠ TI)
  (hR:∀ h' Ts,Col s0.heap S xs ys Ts h' -> Ts.length = min xs.length ys.length -> R (.ok (.ret res)) { s0 with heap:=h' }) :
  ∀ (k:Nat) (h:Heap) (Ts:List Addr),min xs.length ys.length - Ts.length = k -> Ts.length <= min xs.length ys.length -> ZipA b1 b2 h z TI TO i1 i2 t1 t2 Ts.length -> Col s0.heap S xs ys Ts h ->
  codeAny (model prog w) A (.builtin "list.extend.loop" ⟨[.ref S,.ref z,res],[]⟩) R { s0 with heap:=h }:=by
 intro k;induction k with
 | zero=>
  intro h Ts hk hl Z C;refine codeAny_builtin PySem.F.entry_extend_loop ?_;rw [Around.under_plainId PySem.F.plain_extend_loop _];show wpAny _ A.in1 (pyNext (.ref z) >>= _) _ _ _;refine zQG (zHC (s:={ s0 with heap:=h }) hh D Z (T1.keep fun o e=>C.kp _ o e) (T2.keep fun o e=>C.kp _ o e) ?_ fun h' kp=>?_)
  ·rcases (show xs.length <= Ts.length \/ ys.length <= Ts.length by omega) with q | q
   ·exact .inl (by simp; omega)
   ·exact .inr (by simp; omega)
  ·exact zQI (hR h' Ts (C.move hch kp) (by omega))
 | succ k ih=>
  intro h Ts hk hl Z C;have l1:Ts.length < xs.length:=by omega
  have l2:Ts.length < ys.length:=by omega
  refine codeAny_builtin PySem.F.entry_extend_loop ?_;rw [Around.under_plainId PySem.F.plain_extend_loop _];show wpAny _ A.in1 (pyNext (.ref z) >>= _) _ _ _;refine zQG (zFE (s:={ s0 with heap:=h }) D Z (T1.keep fun o e=>C.kp _ o e) (T2.keep fun o e=>C.kp _ o e) (x:=xs[Ts.length]) (y:=ys[Ts.length]) (by simp [l1]) (by simp [l2]) fun h' Z' N' kp=>?_);have C':=C.move hch kp;obtain ⟨c,hS⟩:=C'.lst;obtain ⟨c0,hS0⟩:=C.lst;have Slt:S < h.objs.size:=zQR hS0;show wpAny _ A.in1 (updateSeq S (·.push (.ref h.objs.size)) >>= _) _ _ _;refine zQG ?_;have neS:∀ b,b ≠ S -> ∀ o,h'.get? b = some o -> (h'.update S (Obj.mapSeq (·.push (Value.ref h.objs.size)))).get? b = some o:=fun b n o e=>(zQx _ _ (Ne.symm n)).trans e;have zS:∀ b ∈ [z,TO,i1,i2],b ≠ S:=fun b hb=>zQb (hch b hb).2;refine wpAny_updateSeq (s:={ s0 with heap:=h' }) hS rfl (zQI ⟨plainId_quiet PySem.F.plain_extend_loop _,ih _ (Ts ++ [h.objs.size]) (by simp; omega) (by simp; omega) ?_ ?_⟩) (by simp; omega) (by simp; omega)
  ·obtain ⟨⟨f,g,hf,Z0⟩,P0,⟨x,y,O0⟩,I1,I2⟩:=Z';rw [zQW,List.length_singleton];exact ⟨⟨f,g,hf,neS z (zS z (by simp)) _ Z0⟩,neS TI (Ne.symm hTI) _ P0,⟨x,y,neS TO (zS TO (by simp)) _ O0⟩,I1.keep fun o e=>neS i1 (zS i1 (by simp)) o e,I2.keep fun o e=>neS i2 (zS i2 (by simp)) o e⟩
  ·refine ⟨fun b o e=>?_,?_,?_,fun j T e=>?_⟩
   ·by_cases hb:b = S
    ·subst hb;obtain ⟨z1,z2⟩:=hch z (by simp);exact absurd (zQR e) (Nat.not_lt.mpr (zQh z1 (Nat.le_of_lt z2)))
    ·exact neS b hb o (C'.kp b o e)
   ·have e:=Heap.get?_update_self (Obj.mapSeq (·.push (Value.ref h.objs.size))) hS rfl;rw [show (Ts ++ [h.objs.size]).map Value.ref = Ts.map Value.ref ++ [Value.ref h.objs.size] by simp];exact ⟨_,e.trans (by rw [<- List.push_toArray]; rfl)⟩
   ·rw [List.nodup_append];refine ⟨C.nd,by simp,fun a ha b hb q=>?_⟩;have:b = h.objs.size:=by simpa using hb
    subst this; subst q;obtain ⟨j,hj⟩:=List.getElem?_of_mem ha;obtain ⟨_,x,y,_,_,p⟩:=C.up j _ hj;exact absurd (zQR p) (zQy _)
   ·by_cases hj:j < Ts.length
    ·rw [zQN hj] at e;obtain ⟨l,x,y,e1,e2,p⟩:=C'.up j T e;exact ⟨l,x,y,e1,e2,neS T (zRl l) _ p⟩
    ·rw [zRQ (by omega)] at e;have hj2:j = Ts.length:=by
      have:=(zQJ.mp e).1;simp at this; omega
     subst hj2;simp at e;subst e;exact ⟨Slt,_,_,zQK l1,zQK l2,neS _ (zRl Slt) _ N'⟩
theorem zHl {b1 b2:Bool} {z TI TO i1 i2 t1 t2 S:Addr} {xs ys:List Value} {res:Value} {h:Heap} {c:Nat} (hh:A.handled = none) (D:ZipApart z TI TO i1 i2 t1 t2) (T1:SO b1 s0.heap t1 xs.toArray) (T2:SO b2 s0.heap t2 ys.toArray) (hn:min xs.length ys.length <= sizeLine)
  (hch:∀ b ∈ [z,TO,i1,i2],s0.heap.objs.size <= b /\ b < S) (hTI:S ≠ TI)
  (hR:∀ h' Ts,Col s0.heap S xs ys Ts h' -> Ts.length = min xs.length ys.length -> R (.ok (.ret res)) { s0 with heap:=h' })
  (Z:ZipA b1 b2 h z TI TO i1 i2 t1 t2 0) (hS:h.get? S = some { cls:=.type "list", data:=.seq #[] c }) (kp:∀ b o,s0.heap.get? b = some o -> h.get? b = some o) :
  wpAny (model prog w) A.in1 (Builtin.List.listExtendWith (.ref S) (.ref z) res)
   (fun fin s'=>match fin with | .done f=>R (.ok f) s' | .again c'=>c'.quiet = true /\ codeAny (model prog w) A c' R s') (fun e s'=>R (.error e) s') { s0 with heap:=h }:=by
 have zS:∀ b ∈ [z,TO,i1,i2],b ≠ S:=fun b hb=>zQb (hch b hb).2;have hSz:S ≠ z:=Ne.symm (zS z (by simp));obtain ⟨⟨f,g,hf,Z0⟩,P0,⟨x,y,O0⟩,I1,I2⟩:=Z;have ty:Shared.TypeIs { s0 with heap:=h } (.ref z) "zip" := ⟨_,Z0,rfl⟩;unfold Builtin.List.listExtendWith;refine zQG (wpAny_typeOf ty ?_);have h1:Builtin.List.listSameRef (.ref S) (.ref z) = false:=by simp [Builtin.List.listSameRef,hSz]
 have h2:(Value.type "zip" == Value.type "list") = false:=by decide
 have h3:(Value.type "zip" == Value.type "tuple") = false:=by decide
 simp only [h1,h2,h3,Bool.or_false,Bool.false_eq_true,if_false];refine zQG (zM3 (s:={ s0 with heap:=h }) Z0 ?_);refine zQG (zQ9 ?_);unfold Builtin.List.listLengthHint;refine zQG (wpAny_specialOf ty zHS ?_);show wpAny _ A.in1 (specialOf (Value.ref z) (Str.ofString "__length_hint__") >>= _) _ _ _;refine zQG (wpAny_specialOf ty zGp ?_);refine zQI ?_;show wpAny _ A.in1 (rule "list.extend.makes-room" >>= fun _=>Builtin.List.listTouch (.ref S) >>= fun _=>
  again (.builtin "list.extend.loop" ⟨[.ref S,.ref z,res],[]⟩)) _ _ _
 refine zQG (wpAny_rule ?_);refine zQG ?_;show wpAny _ A.in1 (updateSeq S (·.push .none) >>= fun _=>updateSeq S (·.pop)) _ _ _;refine zQG (wpAny_updateSeq (s:={ s0 with heap:=h }) hS rfl ?_);have hS₂:=Heap.get?_update_self (Obj.mapSeq (·.push Value.none)) hS rfl;refine wpAny_updateSeq (hz:=by seq_fits) hS₂ rfl ?_;have hS₃:=Heap.get?_update_self (Obj.mapSeq (·.pop)) hS₂ rfl;have oth:∀ b o,b ≠ S -> h.get? b = some o -> ((h.update S (Obj.mapSeq (·.push Value.none))).update S (Obj.mapSeq (·.pop))).get? b = some o :=
  fun b o hb e=>(zQx _ _ (Ne.symm hb)).trans ((zQx _ _ (Ne.symm hb)).trans e)
 refine zQI ⟨plainId_quiet PySem.F.plain_extend_loop _,zLM hh D T1 T2 hn hch hTI hR _ _ [] rfl (zQ2 _) ?_ ?_⟩
 ·exact ⟨⟨f,g,hf,oth z _ (zS z (by simp)) Z0⟩,oth TI _ (Ne.symm hTI) P0,⟨x,y,oth TO _ (zS TO (by simp)) O0⟩,I1.keep fun o e=>oth i1 o (zS i1 (by simp)) e,I2.keep fun o e=>oth i2 o (zS i2 (by simp)) e⟩
 ·refine ⟨fun b o e=>oth b o (fun m=>?_) (kp b o e),⟨_,hS₃⟩,.nil,fun j T e=>by simp at e⟩;subst m;obtain ⟨z1,z2⟩:=hch z (by simp);exact absurd (zQR e) (Nat.not_lt.mpr (zQh z1 (Nat.le_of_lt z2)))
theorem zKG {b1 b2:Bool} {z TI TO i1 i2 t1 t2:Addr} {xs ys:List Value} {h:Heap} {Q:Value -> Shared -> Prop} (hh:A.handled = none) (D:ZipApart z TI TO i1 i2 t1 t2) (T1:SO b1 s0.heap t1 xs.toArray) (T2:SO b2 s0.heap t2 ys.toArray) (hn:min xs.length ys.length <= sizeLine)
  (hch:∀ b ∈ [z,TO,i1,i2],s0.heap.objs.size <= b) (Z:ZipA b1 b2 h z TI TO i1 i2 t1 t2 0) (kp:∀ b o,s0.heap.get? b = some o -> h.get? b = some o)
  (hQ:∀ h' Ts,Col s0.heap h.objs.size xs ys Ts h' -> Ts.length = min xs.length ys.length -> Q (.ref h.objs.size) { s0 with heap:=h' }) :
  wpAny (model prog w) A (call (.type "list") [.ref z]) Q E { s0 with heap:=h }:=by
 refine callType_codes (Q₁:=fun obj s₁=>obj = .ref h.objs.size /\ s₁ = { s0 with heap:=h.push { cls:=.type "list", data:=.seq #[] } }) PySem.F.called_list (PySem.F.typeCall_list_1 _) PySem.F.entry_list_init
  (code_list_new _ ⟨rfl,rfl⟩) fun obj s₁ h₁=>?_
 obtain ⟨rfl,rfl⟩:=h₁;have hS:(h.push { cls:=.type "list", data:=.seq #[] }).get? h.objs.size = some { cls:=.type "list", data:=.seq #[] }:=zQQ _ rfl;obtain ⟨⟨f,g,hf,Z0⟩,P0,⟨x,y,O0⟩,I1,I2⟩:=Z;refine ⟨⟨_,hS,rfl⟩,PySem.F.args_list_init_2 _ _,?_⟩;show wpAny _ _ (do let old <- Builtin.List.listItems (.ref h.objs.size); Builtin.List.listUpdate (.ref h.objs.size) (fun _=> #[]); letGo old.toList.reverse; Builtin.List.listExtendWith (.ref h.objs.size) (.ref z) .none) _ _ _;refine zQG ?_;unfold Builtin.List.listItems;refine zQG (zQ6 hS rfl (zQI ?_));show wpAny _ _ (updateSeq h.objs.size (fun _=> #[]) >>= fun _=>letGo (#[]:Array Value).toList.reverse >>= fun _=>Builtin.List.listExtendWith (.ref h.objs.size) (.ref z) .none) _ _ _;refine zQG (wpAny_updateSeq hS rfl ?_);have hS₂:=Heap.get?_update_self (Obj.mapSeq (fun _=>(#[]:Array Value))) hS rfl;have oth:∀ b o,h.get? b = some o -> ((h.push { cls:=.type "list", data:=.seq #[] }).update h.objs.size (Obj.mapSeq (fun _=>(#[]:Array Value)))).get? b = some o :=
  fun b o e=>(zQx _ _ (zRl (zQR e))).trans (zQH _ e)
 refine zQG (wpAny_letGo ?_);have lt:∀ b ∈ [z,TO,i1,i2],b < h.objs.size:=fun b hb=>by
  obtain ⟨o1,e1,_⟩:=I1.obj;obtain ⟨o2,e2,_⟩:=I2.obj;simp only [zQS,zQl,zRb] at hb;rcases hb with rfl | rfl | rfl | rfl
  ·exact zQR Z0
  ·exact zQR O0
  ·exact zQR e1
  ·exact zQR e2
 refine zHl (s0:=s0) (A:=A.in1) hh D T1 T2 hn (fun b hb=>⟨hch b hb,lt b hb⟩) (zRl (zQR P0)) (fun h' Ts C l=>⟨rfl,hQ h' Ts C l⟩) ?_ hS₂ fun b o e=>oth b o (kp b o e);exact ⟨⟨f,g,hf,oth z _ Z0⟩,oth TI _ P0,⟨x,y,oth TO _ O0⟩,I1.keep fun o e=>oth i1 o e,I2.keep fun o e=>oth i2 o e⟩
end
section
variable {X:Cx} {zB:List (Addr × Obj)} {σ:L2.St} {s:Shared}
theorem zFB:∀ (Ts:List Addr) (ps:List (V × V)) (H:Hp),Inv X zB σ H s -> Ts.length = ps.length -> Ts.Nodup -> (∀ T ∈ Ts,zBy X zB H T /\ X.s₀.heap.objs.size <= T) ->
  (∀ (j:Nat) T p,Ts[j]? = some T -> ps[j]? = some p -> ∃ x y,ze p.1 x /\ ze p.2 y /\ IsPair s.heap T x y) ->
  ∃ H',Inv X zB σ H' s /\ (∀ a o,H a = some o -> H' a = some o) /\ (∀ a,a ∉ Ts -> H' a = H a) /\ ∀ (j:Nat) T p,Ts[j]? = some T -> ps[j]? = some p -> H' T = some (.tup [p.1,p.2])
 | [],ps,H,I,_,_,_,_=>⟨H,I,fun _ _ e=>e,fun _ _=>rfl,fun j T p e _=>by simp at e⟩
 | T :: Ts,[],H,I,hl,_,_,_=>by simp at hl
 | T :: Ts,p :: ps,H,I,hl,nd,fp,hp=>by
  obtain ⟨⟨f0,f1,f2,f3,f4,f5⟩,g0⟩:=fp T (by simp);obtain ⟨x,y,rx,ry,q⟩:=hp 0 T p rfl rfl;have nT:T ∉ Ts:=(List.nodup_cons.mp nd).1;have I2:Inv X zB σ (upd H T (.tup [p.1,p.2])) s:=I.trackAt q f0 g0 f1 f4 f5 ⟨by show 2 <= sizeLine; decide,[x,y],.cons rx (.cons ry .nil),⟨_,q,rfl,⟨_,rfl⟩,rfl⟩⟩;obtain ⟨H',I',up,ot,at'⟩:=zFB Ts ps _ I2 (by simpa using hl) (List.nodup_cons.mp nd).2 (fun U hU=>by
   obtain ⟨⟨a0,a1⟩,b0⟩:=fp U (by simp [hU]);exact ⟨⟨by rw [zO (show U ≠ T from fun m=>nT (m ▸ hU))]; exact a0,a1⟩,b0⟩) fun j U r e1 e2=>hp (j + 1) U r (by simpa using e1) (by simpa using e2)
  refine ⟨H',I',fun a o e=>up a o (by rw [zO (zd e f0)]; exact e),fun a ha=>?_,fun j U r e1 e2=>?_⟩
  ·rw [ot a (fun m=>ha (by simp [m])),zO (fun m=>ha (by simp [m]))]
  ·cases j with
   | zero=>
    simp at e1 e2;subst e1 e2;rw [ot T nT]; exact zm
   | succ j=>exact at' j U r (by simpa using e1) (by simpa using e2)
end
section
variable {X:Cx} {a b:Expr} {p p2 pos pos2:Pos}
theorem zHU (hc:X.calm = true) (hgT:Gl X "list") (hmT:X.mg "list" = none) (hg:Gl X "zip") (hm:X.mg "zip" = none) (ha:PA X [a,b] ta)
  (hs:starEach [a,b] X.env = [(false,eval a X.env),(false,eval b X.env)]:=by rfl) (hs2:starEach [b] X.env = [(false,eval b X.env)]:=by rfl)
  (hs':starEach [.Call (.Name "zip" p2) [a,b] [] pos2] X.env = (false,eval (.Call (.Name "zip" p2) [a,b] [] pos2) X.env) :: starEach [] X.env:=by rfl) (hpl':(backTo pos (starEach [] X.env)).any (·.1) = false:=by rfl) :
  PE X (.Call (.Name "list" p) [.Call (.Name "zip" p2) [a,b] [] pos2] [] pos) (fun σ H Q=>ta σ H fun vs H1=>∃ b1 b2 l1 l2 xs ys,vs = [.ref l1,.ref l2] /\ SqG X.K b1 H1 l1 xs /\ SqG X.K b2 H1 l2 ys /\ min xs.length ys.length <= sizeLine /\
   ∀ (l:Addr) (Ts:List Addr) (H':Hp),H1 l = none -> Ts.length = min xs.length ys.length -> (∀ a o,H1 a = some o -> H' a = some o) -> H' l = some (.lst (Ts.map V.ref)) ->
    (∀ (j:Nat) T x y,Ts[j]? = some T -> xs[j]? = some x -> ys[j]? = some y -> H' T = some (.tup [x,y])) -> Q (.ref l) H'):=by
 intro zB s σ H Q I h;refine wpAny_Call_Name_kw (zBd I hgT hmT (by rfl) ?_ (by decide) (by decide));refine callWith_type1 ?_ hs' hpl';rw [hs'];show wpAny _ _ (spliced ((false,eval (.Call (.Name "zip" p2) [a,b] [] pos2) X.env) :: backTo pos (starEach [] X.env))) _ _ s;refine Calls.spliced_cons ?_;refine Call_ (zBd I hg hm (by rfl) (PyProof.Rows.callWith_type1 (thn (ha pos2 zB s σ H _ I h) fun us s1 ⟨vs,H1,I1,r1,q1⟩=>?_) (by rw [hs,hs2]) (by rw [hs2]; rfl)));obtain ⟨b1,b2,l1,l2,xs,ys,rfl,s1',s2',hz,q⟩:=q1;cases r1 with
 | cons r rr=>
  cases rr with
  | cons r' rr=>
   cases rr;cases r;cases r';obtain ⟨its,rv,p1⟩:=zCA I1 s1';obtain ⟨its2,rv2,p2⟩:=zCA I1 s2';have d1:l1 < s1.heap.objs.size:=zMZ p1;have d2:l2 < s1.heap.objs.size:=zMZ p2;have n1:=rv.length;have n2:=rv2.length;refine zGY p1 p2 fun h' Z kp=>Calls.spliced_nil ?_;refine zKG (s0:=s1) (I1.ok.hd hc) (zipApart_new d1 d2) p1 p2 (by rw [<- n1,<- n2]; exact hz) (fun c hc=>?_) ⟨⟨.none,false,.inl rfl,Z.z⟩,Z.ti,Z.to,Z.a,Z.b⟩ kp fun h2 Ts C lT=>?_
   ·simp only [zQS,zQl,zRb] at hc;rcases hc with rfl | rfl | rfl | rfl
    ·exact zR5 _ 4
    ·exact zR5 _ 3
    ·exact zQM _
    ·exact zR5 _ 1
   ·have I2:Inv X zB σ H1 { s1 with heap:=h2 }:=I1.kept (t':=s1.toks) C.kp;have gz:s1.heap.objs.size <= h'.objs.size:=Nat.le_of_lt (Nat.lt_of_le_of_lt (zR5 _ 4) (zQR Z.z));have ge:∀ T ∈ Ts,h'.objs.size < T:=fun T hT=>by
     obtain ⟨j,hj⟩:=List.getElem?_of_mem hT;exact (C.up j T hj).1
    have gs:∀ T,s1.heap.objs.size <= T -> zBy X zB H1 T /\ X.s₀.heap.objs.size <= T:=fun T g=>⟨I1.fpOk g (I1.hok.fresh g),zQh I1.sz g⟩;have lps:(xs.zip ys).length = min xs.length ys.length:=List.length_zip;obtain ⟨H',I',up,ot,at'⟩:=zFB Ts (xs.zip ys) H1 I2 (by rw [lps,lT,<- n1,<- n2]) C.nd (fun T hT=>gs T (zQh gz (Nat.le_of_lt (ge T hT)))) fun j T pr e1 e2=>by
     obtain ⟨_,x,y,ex,ey,pp⟩:=C.up j T e1;obtain ⟨f1,f2⟩:=zUM.mp e2;obtain ⟨u,hu,ru⟩:=rv.get f1;obtain ⟨u2,hu2,ru2⟩:=rv2.get f2;rw [hu] at ex; rw [hu2] at ey;cases ex; cases ey;exact ⟨_,_,ru,ru2,pp⟩
    obtain ⟨c,hS⟩:=C.lst;obtain ⟨⟨f0,f1,f2,f3,f4,f5⟩,g0⟩:=gs h'.objs.size gz;have nS:h'.objs.size ∉ Ts:=fun m=>zQy _ (ge _ m);have nH':H' h'.objs.size = none:=by rw [ot _ nS]; exact f0
    have I3:Inv X zB σ (upd H' h'.objs.size (.lst (Ts.map V.ref))) { s1 with heap:=h2 }:=I'.trackAt hS nH' g0 f1 f4 f5 (show zt X.prog X.w _ h2 _ (.lst (Ts.map V.ref)) from
     ⟨by rw [zQP,lT,<- n1,<- n2]; exact hz,Ts.map Value.ref,c,zIM (by simp) (fun i y u e1 e2=>by
      rw [zQd] at e1 e2;cases e3:Ts[i]? with
      | none=>rw [e3] at e1; cases e1
      | some T=>rw [e3] at e1 e2; cases e1; cases e2; rfl),hS⟩)
    refine ⟨.ref h'.objs.size,_,I3,rfl,q _ Ts _ f0 (by rw [lT,<- n1,<- n2]) (fun a o e=>?_) zm fun j T x y e1 e2 e3=>?_⟩
    ·rw [zO (zd (up a o e) nH')]; exact up a o e
    ·have tt:=at' j T (x,y) e1 (zUM.mpr ⟨e2,e3⟩);rw [zO (zd tt nH')]; exact tt
def zFA (g:FA):FE:=fun σ M=>match g σ M with
 | some ([x,y],M1)=>match zf M1 (.dat x),zf M1 (.dat y) with
  | some xs,some ys=>if (xs.zip ys).length <= sizeLine then some (.fl ((xs.zip ys).map fun q=>D.tup [q.1,q.2]),M1) else none
  | _,_=>none
 | _=>none
theorem zIf:∀ {ds:List D} {vs:List V},vs.length = ds.length -> (∀ (i:Nat) d v,ds[i]? = some d -> vs[i]? = some v -> Rep L H d v) -> zJ L H ds vs
 | [],[],_,_=> .nil
 | [],_ :: _,h,_=>by cases h
 | _ :: _,[],h,_=>by cases h
 | d :: ds,v :: vs,h,q=> .cons (q 0 d v rfl rfl) (zIf (Nat.succ.inj h) fun i d' v' e1 e2=>q (i + 1) d' v' (by simpa using e1) (by simpa using e2))
theorem zI7 (hc:X.calm = true) (hgT:Gl X "list") (hmT:X.mg "list" = none) (hg:Gl X "zip") (hm:X.mg "zip" = none) (ha:QA X [a,b] g)
  (hs:starEach [a,b] X.env = [(false,eval a X.env),(false,eval b X.env)]:=by rfl) (hs2:starEach [b] X.env = [(false,eval b X.env)]:=by rfl)
  (hs':starEach [.Call (.Name "zip" p2) [a,b] [] pos2] X.env = (false,eval (.Call (.Name "zip" p2) [a,b] [] pos2) X.env) :: starEach [] X.env:=by rfl) (hpl':(backTo pos (starEach [] X.env)).any (·.1) = false:=by rfl) :
  QE X (.Call (.Name "list" p) [.Call (.Name "zip" p2) [a,b] [] pos2] [] pos) (zFA g):=.mk <| PE.imp (zHU hc hgT hmT hg hm ha.un hs hs2 hs' hpl') fun τ H Q zz=>by
 obtain ⟨L,σ,M,d,M',c,rs,hf,q⟩:=zz;unfold zFA at hf;split at hf
 ·rename_i x y M1 e1;split at hf
  ·rename_i ds es' e2 e3;split at hf
   ·rename_i hz;cases hf;refine ⟨L,σ,M,_,_,c,rs,e1,fun L1 H1 vs s1 c1 r1=>?_⟩;obtain ⟨v,v',rfl,r2,r3⟩:=r1.two;obtain ⟨b1,l1,rfl,_,k1⟩:=zFU c1 r2 e2;obtain ⟨b2,l2,rfl,_,k2⟩:=zFU c1 r3 e3;obtain ⟨ws1,g1,p1⟩:=k1 L1 H1 _ (.refl _ _) c1 e2;obtain ⟨ws2,g2,p2⟩:=k2 L1 H1 _ (.refl _ _) c1 e3;have hl:min ws1.length ws2.length = (ds.zip es').length:=by rw [List.length_zip,p1.length,p2.length]
    refine ⟨b1,b2,l1,l2,ws1,ws2,rfl,g1,g2,by rw [hl]; exact hz,fun l Ts H' h0 hT up hH at'=>?_⟩;obtain ⟨n0,n1⟩:=zEv s1 c c1 h0;have st:Stp L1 H1 L1 H':=.grow up;refine q L1 H' _ (s1.trans st) (c1.grow up) ⟨l,_,rfl,n0,hH,n1,zIf (by simp [hT,hl]) fun i d v e4 e5=>?_⟩;rw [zQd] at e4 e5;cases e6:(ds.zip es')[i]? with
    | none=>rw [e6] at e4; cases e4
    | some pr=>
     cases e7:Ts[i]? with
     | none=>rw [e7] at e5; cases e5
     | some T=>
      rw [e6] at e4; rw [e7] at e5;cases e4; cases e5;obtain ⟨f1,f2⟩:=zUM.mp e6;obtain ⟨u,hu,ru⟩:=p1.get f1;obtain ⟨u2,hu2,ru2⟩:=p2.get f2;unfold Rep;exact ⟨T,_,rfl,at' i T u u2 e7 hu hu2,.cons (ru.stp st) (.cons (ru2.stp st) .nil)⟩
   ·cases hf
  ·cases hf
 ·cases hf
end
def Itv (K:PySem.W.Frag) (a:Addr) (n:Nat):It :=
 ⟨fun i H=>∃ xs,SqL K H a xs /\ xs.length = n /\ i < n,fun i H v H'=>H' = H /\ ∀ xs,SqL K H a xs -> xs.length = n -> xs[n - 1 - i]? = some v,fun i H=>i = n⟩
theorem zKo {P:Program} {w:World} {K:PySem.W.Frag} {tg:Expr} (a it:Addr) (n:Nat):Turn P w K tg (Itv K a n) [it] it (fun i h=>h.IsRevIter it a ((n:Int) - 1 - (i:Int))) where
 mem:=by simp
 obj:=fun i h st b hb=>by
  have e:b = it:=by simpa using hb
  subst e;obtain ⟨o,e,c,d⟩:=st;exact ⟨o,e,fun v z=>by rw [d] at z; cases z⟩
 keep:=fun i h h' st k=>st.at fun o e=>k it (by simp) o e;item:=by
  intro X hP hw hK hc i zB s σ H E I hf st hg;subst hP hw hK;obtain ⟨xs,hq,hn,hi⟩:=hg;obtain ⟨its,rv,p,hz⟩:=I.list hq;have hx:xs[n - 1 - i]? = some (xs[n - 1 - i]'(by omega)):=zQK _;obtain ⟨u,hu,ru⟩:=rv.get hx;obtain ⟨f0,f1,f2,f3,f4,f5⟩:=hf it (by simp);have e1:(n:Int) - 1 - (i:Int) = ((n - 1 - i:Nat):Int):=by omega
  refine wpAny_pyNext_rev_item (i:=n - 1 - i) (by rw [<- e1]; exact st) p.isList (x:=u) (by simpa using hu) fun h' st' sb=>?_;have I1:Inv X zB σ H { s with heap:=h' }:=I.turned (t':=s.toks) (fun b o hb e=>(sb.2 b hb).trans e) f0 f1 f3 f4 f5;rw [show ((n - 1 - i:Nat):Int) - 1 = (n:Int) - 1 - ((i + 1:Nat):Int) by omega] at st';obtain ⟨o,e,c,d⟩:=id st';exact ⟨u,rfl,zIe (s:={ s with heap:=h' }) e c d (by decide) ⟨_,H,I1,ru,⟨rfl,fun ys hy _=>by rw [I.list_inj hy hq]; exact hx⟩,st',fun b hb=>(hf b hb).1⟩⟩
 done:=by
  intro X hP hw hK hc i zB s σ H E I hf st hg;subst hP hw hK;have hg:i = n:=hg;subst hg;obtain ⟨f0,f1,f2,f3,f4,f5⟩:=hf it (by simp);rw [show (i:Int) - 1 - (i:Int) = -1 by omega] at st;exact wpAny_pyNext_rev_end (I.ok.hd hc) st fun h' eb=>⟨rfl,I.turned (t':=s.toks) (fun b o hb e=>eb b o hb e) f0 f1 f3 f4 f5⟩
 self:=fun _ _ _ _ _ st h=>wpAny_pyIter_revIter st h
section
variable {X:Cx} {a tg:Expr} {p pos:Pos}
theorem zLe {te:TE} (hg:Gl X "reversed") (hm:X.mg "reversed" = none) (ha:PE X a te) (hs:starEach [a] X.env = (false,eval a X.env) :: starEach [] X.env:=by rfl) (hpl:(backTo pos (starEach [] X.env)).any (·.1) = false:=by rfl) :
  PI X tg (.Call (.Name "reversed" p) [a] [] pos) (fun σ H R=>te σ H fun x H1=>∃ l xs,x = .ref l /\ SqL X.K H1 l xs /\ R (Itv X.K l xs.length) H1):=by
 intro zB s σ H R I h;refine wpAny_Call_Name_kw (zBd I hg hm LR.zK2 ?_ (by decide) (by decide));refine callWith_type1 ?_ hs hpl;rw [hs];show wpAny _ _ (spliced ((false,eval a X.env) :: backTo pos (starEach [] X.env))) _ _ s;refine Calls.spliced_cons (thn (ha zB s σ H _ I h) fun u s1 ⟨x,H1,I1,r1,q⟩=>Calls.spliced_nil ?_);obtain ⟨l,xs,rfl,hx,q⟩:=q;cases r1;obtain ⟨its,rv,p,hz⟩:=I1.list hx;have hl:=rv.length;refine call_reversed_list p.isList ?_;have st:Heap.IsRevIter (s1.heap.push (revObj l ((its.toArray.size:Int) - 1))) s1.heap.objs.size l ((xs.length:Int) - 1 - ((0:Nat):Int)):=⟨_,zQQ _ rfl,rfl,by
  show Data.fields #[.ref l,rawInt ((its.toArray.size:Int) - 1)] = _;rw [zQO,<- hl,show (xs.length:Int) - 1 - ((0:Nat):Int) = (xs.length:Int) - 1 by omega]⟩
 refine wpAny_pyIter_revIter (i:=(xs.length:Int) - 1 - ((0:Nat):Int)) (s:={ s1 with heap:=s1.heap.push (revObj l ((its.toArray.size:Int) - 1)) }) st ?_;exact ⟨s1.heap.objs.size,[s1.heap.objs.size],_,_,H1,rfl,I1.kept (t':=s1.toks) fun b o e=>zQH _ e,zKo l _ xs.length,st,fun c hc=>by
  have:c = s1.heap.objs.size:=by simpa using hc
  subst this;exact I1.fpOk (zQM _) (I1.hok.fresh (zQM _)),q⟩
def zGb (f:FE):FI:=fun σ M=>match f σ M with
 | some (.dat x,M1)=>match zAO M1 (.dat x) with
  | some xs=>some (xs.reverse,some fun M=>zAO M (.dat x) = some xs,M1)
  | none=>none
 | _=>none
theorem zMW (hg:Gl X "reversed") (hm:X.mg "reversed" = none) (ha:QE X a f) (hs:starEach [a] X.env = (false,eval a X.env) :: starEach [] X.env:=by rfl) (hpl:(backTo pos (starEach [] X.env)).any (·.1) = false:=by rfl) :
  QI X tg (.Call (.Name "reversed" p) [a] [] pos) (zGb f):=.mk <| PI.imp (zLe hg hm ha.un hs hpl) fun τ H R zz=>by
 obtain ⟨L,σ,M,xs,gd,M',c,rs,hf,q⟩:=zz;unfold zGb at hf;split at hf
 ·rename_i x M1 e1;split at hf
  ·rename_i ds e2;cases hf;refine ⟨L,σ,M,_,_,c,rs,e1,fun L1 H1 v s1 c1 r1=>?_⟩;obtain ⟨n,rfl⟩:∃ n,x = .ref n:=by
    unfold zAO at e2;cases x <;> first | exact ⟨_,rfl⟩ | cases e2
   obtain ⟨l,vs,rfl,e3,r3⟩:=zAV c1 (show za H L1 H1 (.dat (.ref n)) v from r1) e2;have hl:=r3.length;refine ⟨l,vs,rfl,.inl e3,q L1 H1 _ s1 c1 fun L2 H2 M2 s2 c2 hgd=>?_⟩;have r1':Rep L1 H1 (.ref n) (.ref l):=r1;have r2:za H2 L2 H2 (.dat (.ref n)) (.ref l):=r1'.stp s2;obtain ⟨l',ws,hl',e4,r4⟩:=zAV c2 r2 (show zAO M2 (.dat (.ref n)) = some ds from hgd);cases hl';have hw:=r4.length;refine ⟨fun i d hd=>?_,by rw [List.length_reverse]; exact hl.symm⟩;have hi:i < ds.length:=by have:=(zQJ.mp hd).1; simpa using this
   rw [List.getElem?_reverse hi] at hd;obtain ⟨u,hu,ru⟩:=r4.get hd;refine ⟨⟨ws,.inl e4,by omega,by omega⟩,fun v H3 hy=>?_⟩;obtain ⟨rfl,hy⟩:=hy;have ey:=hy ws (.inl e4) (by omega);rw [hl,hu] at ey;cases ey;exact ⟨fun a o e=>e,ru⟩
  ·cases hf
 ·cases hf
end
end L3
namespace Law
open PySem PySem.Spec PyProof.Rows L2 L3
theorem zb (n:Nat):∀ c:List Int,D.unds n (c.map D.int) = true
 | []=>rfl
 | x :: r=>by
  show (D.und n (D.int x) && D.unds n (r.map D.int)) = true;rw [zb n r]; rfl
theorem zHL {M:Mem} (h:M[k]? = some u):M.set k u = M:=by
 apply List.ext_getElem?;intro i;rw [zRp];split
 ·rename_i e; subst e;rw [zQV (zQJ.mp h).1]; exact h.symm
 ·rfl
theorem at0 {x:D} {xs:List D}:atI (x :: xs) 0 = some x:=zJr (k:=0) rfl
theorem zKm (ns:List Int) (lo hi:Option Int):∃ c:List Int,L3.zBG (ns.map D.int) lo hi = c.map D.int /\ c.length <= ns.length:=by
 refine ⟨(ns.drop (HT.sIx ns.length 0 lo)).take (HT.sIx ns.length ns.length hi - HT.sIx ns.length 0 lo),?_,?_⟩
 ·unfold L3.zBG;rw [zQP,List.map_take,List.map_drop]
 ·rw [zRe,List.length_drop]; omega
theorem zAS (h:x :: r = c.map D.int):∃ y c',c = y :: c' /\ x = .int y /\ r = c'.map D.int:=by
 cases c with
 | nil=>cases h
 | cons y c'=>rw [zQZ] at h; exact ⟨y,c',rfl,(zRK h).1,(zRK h).2⟩
theorem zr:zCB none xs M:=trivial
theorem zU (h:n <= 100000):n <= sizeLine:=zQh h (by decide)
mutual
theorem zD1 (h:a <= b):∀ {d:D},D.und a d = true -> D.und b d = true
 | .non,_=>by unfold D.und; rfl
 | .bl _,_=>by unfold D.und; rfl
 | .int _,_=>by unfold D.und; rfl
 | .str _,_=>by unfold D.und; rfl
 | .tup ds,e=>by unfold D.und at e ⊢; exact zBN h e
 | .ref k,e=>by unfold D.und at e ⊢; simp at e ⊢; omega
theorem zBN (h:a <= b):∀ {ds:List D},D.unds a ds = true -> D.unds b ds = true
 | [],_=>by unfold D.unds; rfl
 | d :: ds,e=>by
  unfold D.unds at e ⊢;rw [zQq] at e ⊢;exact ⟨zD1 h e.1,zBN h e.2⟩
end
theorem zDK (h:a <= b) (e:MO.und a u = true):MO.und b u = true:=by
 cases u with
 | lst xs=>exact zBN h e
 | fro xs=>exact zBN h e
 | set xs=>exact zBN h e
 | dict kvs | dicT kvs | froT kvs | froK kvs=>
  unfold MO.und at e ⊢;rw [zQr] at e ⊢;intro p hp;have:=e p hp;rw [zQq] at this ⊢;exact ⟨zD1 h this.1,zD1 h this.2⟩
theorem zC7:∀ {xs ys:List D},D.unds n (xs ++ ys) = (D.unds n xs && D.unds n ys)
 | [],ys=>by simp [D.unds]
 | x :: xs,ys=>by
  show (D.und n x && D.unds n (xs ++ ys)) = ((D.und n x && D.unds n xs) && D.unds n ys);rw [zC7,Bool.and_assoc]
theorem zC9:∀ {xs:List D},(∀ x ∈ xs,D.und n x = true) -> D.unds n xs = true
 | [],_=>rfl
 | x :: xs,h=>by
  show (D.und n x && D.unds n xs) = true;rw [h x zQU,zC9 fun y hy=>h y (zQT _ hy)]; rfl
theorem zAy (c:List Int):D.und n (.tup (c.map D.int)) = true:=by unfold D.und; exact zb n c
def zBH (i:Nat):Nat -> List D
 | 0=>[]
 | n + 1=> .int i :: zBH (i + 1) n
theorem zFS (n:Nat):∀ i,((List.range' i n).map fun (k:Nat)=>D.int k) = zBH i n:=by
 induction n with
 | zero=>intro i; rfl
 | succ n ih=>intro i; rw [List.range'_succ,zQZ,ih]; rfl
theorem zED (n:Nat):((List.range n).map fun (k:Nat)=>D.int k) = zBH 0 n:=by rw [List.range_eq_range',zFS]
theorem zBe:∀ (n i:Nat),(zBH i n).length = n
 | 0,_=>rfl
 | n + 1,i=>by show (zBH (i + 1) n).length + 1 = _; rw [zBe n]
theorem zFR (n:Nat) (I:Nat -> Sd -> Mem -> Prop)
  (hs:∀ i σ M,i < n -> I i σ M -> ∃ σ1,g (.int i) σ = some σ1 /\ OkS (b σ1 M) fun o σ2 M2=>match o with | .nx=>I (i + 1) σ2 M2 | .cnt=>I (i + 1) σ2 M2 | .brk=>P .nx σ2 M2 | .ret d=>P (.ret d) σ2 M2)
  (he:∀ σ M,I n σ M -> P .nx σ M) (σ:Sd) (M:Mem) (h0:I 0 σ M):OkS (zBh g b all none (zBH 0 n) σ M) P:=by
 refine zAZ (I:=fun r σ M=>∃ i,i <= n /\ r = zBH i (n - i) /\ I i σ M) ?_ ?_ _ _ _ ⟨0,zQ2 _,by simp,h0⟩
 ·rintro x r σ M ⟨i,hi,e,hI⟩;have hlt:i < n:=by
   rcases Nat.lt_or_ge i n with z | z
   ·exact z
   ·rw [show n - i = 0 by omega] at e; cases e
  rw [show n - i = (n - (i + 1)) + 1 by omega] at e;obtain ⟨rfl,rfl⟩:=zRK e;obtain ⟨σ1,e1,q⟩:=hs i σ M hlt hI;refine ⟨zr,σ1,e1,OkS.mono q ?_⟩;intro o σ2 M2 z;cases o with
  | nx=>exact ⟨i + 1,hlt,rfl,z⟩
  | cnt=>exact ⟨i + 1,hlt,rfl,z⟩
  | brk=>exact z
  | ret d=>exact z
 ·rintro σ M ⟨i,hi,e,hI⟩;have:i = n:=by
   rcases Nat.lt_or_ge i n with z | z
   ·rw [show n - i = (n - (i + 1)) + 1 by omega] at e; cases e
   ·omega
  subst this;exact ⟨zr,he σ M hI⟩
theorem zNG (n:Nat) (I:Nat -> List D -> Mem -> Prop)
  (hs:∀ i acc M,i < n -> I i acc M -> ∃ σ1,g (.int i) σ = some σ1 /\ Ok (te σ1 M) (zES fun d M2=>I (i + 1) (acc ++ [d]) M2)) (h0:I 0 [] M) :
  Ok (zCE g zx te σ all none (zBH 0 n) M) fun ys M1=>I n ys M1:=by
 refine Ok.mono (zA7 (I:=fun r acc M=>∃ i,i <= n /\ r = zBH i (n - i) /\ I i acc M) (Q:=fun acc M=>I n acc M) ?_ ?_ _ [] _ ⟨0,zQ2 _,by simp,h0⟩) fun ys M1 q=>by simpa using q
 ·rintro x r acc M ⟨i,hi,e,hI⟩;have hlt:i < n:=by
   rcases Nat.lt_or_ge i n with z | z
   ·exact z
   ·rw [show n - i = 0 by omega] at e; cases e
  rw [show n - i = (n - (i + 1)) + 1 by omega] at e;obtain ⟨rfl,rfl⟩:=zRK e;obtain ⟨σ1,e1,q⟩:=hs i acc M hlt hI;refine ⟨zr,σ1,e1,zDA.mpr ?_⟩;rw [zQV rfl];refine Ok.mono q ?_;intro x M2 z;cases x with
  | dat d=>exact ⟨i + 1,hlt,rfl,z⟩
  | fl xs=>exact ⟨i + 1,hlt,rfl,z⟩
 ·rintro acc M ⟨i,hi,e,hI⟩;have:i = n:=by
   rcases Nat.lt_or_ge i n with z | z
   ·rw [show n - i = (n - (i + 1)) + 1 by omega] at e; cases e
   ·omega
  subst this;exact ⟨zr,hI⟩
theorem zBi (e:f σ M = some (.dat (.int j),M)) (h1:0 <= j) (h2:j < 2 ^ 62):zAC (zD (toD f) zH) σ M = some (zBH 0 j.toNat,none,M):=by
 have e':(zD (toD f) zH) σ M = some ([.int j],M):=by unfold zD toD zH; rw [e]
 rw [zEa e' h1 h2,zED]
def mD (zA:List (List Int)):D:=.tup (zA.map fun r=> .tup (r.map D.int))
structure IsM (zA:List (List Int)) (l:Nat):Prop where
 r0:0 < zA.length
 l0:0 < l
 row:∀ r ∈ zA,r.length = l /\ ∀ g ∈ r,0 <= g /\ g < zA.length
theorem zHc (zA:List (List Int)):D.und n (mD zA) = true:=by
 unfold mD D.und;refine zC9 fun x hx=>?_;obtain ⟨r,_,rfl⟩:=zQX.mp hx;exact zAy r
theorem zJy (zA:List (List Int)):D.unds n (zA.map fun r=>D.tup (r.map D.int)) = true:=by
 refine zC9 fun x hx=>?_;obtain ⟨r,_,rfl⟩:=zQX.mp hx;exact zAy r
theorem zR {α:Type} {x:Option (α × Mem)} {a:α} {M:Mem} (h:Ok x fun b M'=>b = a /\ M' = M):x = some (a,M):=by
 obtain ⟨b,M',e,rfl,rfl⟩:=h; exact e
theorem zE {α:Type} {x:Option (α × Mem)} {a:α} {M:Mem} {P:α -> Mem -> Prop} (h:x = some (a,M)) (p:P a M):Ok x P:=⟨a,M,h,p⟩
theorem zF0 {c:FT} {a g:FS} {σ:Sd} {M:Mem} {P:Out -> Sd -> Mem -> Prop} (hc:c σ M = some (false,M)) (h:OkS (g σ M) P):OkS (zT (sIf c a zAp) g σ M) P:=by
 rw [zF,zAK];refine zE hc ?_;rw [zQY (by decide),zAE];exact h
theorem zK5 {c:FT} {a:FS} {σ:Sd} {M:Mem} {P:Out -> Sd -> Mem -> Prop} (hc:c σ M = some (false,M)) (h:P .nx σ M):OkS (sIf c a zAp σ M) P:=by
 rw [zAK];refine zE hc ?_;rw [zQY (by decide),zAE];exact h
theorem zp {f:FE} {σ:Sd} {M:Mem} {d:D} (h:f σ M = some (.dat d,M)):zD (toD f) zH σ M = some ([d],M):=by
 unfold zD toD zH; rw [h]
theorem zAD {f:FE} {g:FA} {σ:Sd} {M:Mem} {d:D} {ds:List D} (h:f σ M = some (.dat d,M)) (hg:g σ M = some (ds,M)):zD (toD f) g σ M = some (d :: ds,M):=by
 unfold zD toD; rw [h]; dsimp only; rw [hg]
theorem zBJ {m:FF} {a:FA} {σ:Sd} {M M':Mem} {ds:List D} {d:D} (h:a σ M = some (ds,M)) (hm:m ds M = some (d,M')):zW m a σ M = some (.dat d,M'):=by
 unfold zW; rw [h]; dsimp only; rw [hm]
theorem zN {k:K2} {f g:FE} {σ:Sd} {M:Mem} {x y:EV} {r:Option (EV × Mem)} (hf:f σ M = some (x,M)) (hg:g σ M = some (y,M)) (hk:k x y M = r):fOp k f g σ M = r:=by
 unfold fOp; rw [hf]; dsimp only; rw [hg]; exact hk
theorem zA6 {x:EV} {xs:List D} {i:Int} {d:D} {M:Mem} (h:zf M x = some xs) (hd:atI xs i = some d):kIx x (.dat (.int i)) M = some (.dat d,M):=zR (zKd h hd ⟨rfl,rfl⟩)
theorem zCl {f:FE} {x:EV} {xs:List D} {σ:Sd} {M:Mem} (hf:f σ M = some (x,M)) (h:zf M x = some xs):fB zAW (zQ f zh) σ M = some (.dat (.int xs.length),M):=by
 unfold fB zQ zh; rw [hf]; exact zR ((zOT h).mpr ⟨rfl,rfl⟩)
def zu (zA:List (List Int)) (h g:Int):Int:=(zA.getD h.toNat []).getD g.toNat 0
theorem zD4 {zA:List (List Int)} {h:Int} (h0:0 <= h) (h1:h < zA.length):atI (zA.map fun r=>D.tup (r.map D.int)) h = some (.tup ((zA.getD h.toNat []).map D.int)):=by
 refine zFa h0 ?_;rw [zQd,zQL,zQK (by omega)];rfl
theorem zCC {r:List Int} {g:Int} (h0:0 <= g) (h1:g < r.length):atI (r.map D.int) g = some (.int (r.getD g.toNat 0)):=by
 refine zFa h0 ?_;rw [zQd,zQL,zQK (by omega)];rfl
theorem IsM.get {zA:List (List Int)} {l:Nat} (m:IsM zA l) {h:Int} (h0:0 <= h) (h1:h < zA.length):(zA.getD h.toNat []).length = l /\ ∀ g ∈ zA.getD h.toNat [],0 <= g /\ g < zA.length:=by
 refine m.row _ ?_;rw [zQL,zQK (by omega)];exact zQo _
theorem IsM.step {zA:List (List Int)} {l:Nat} (m:IsM zA l) {h g:Int} (h0:0 <= h) (h1:h < zA.length) (g0:0 <= g) (g1:g < l):0 <= zu zA h g /\ zu zA h g < zA.length:=by
 obtain ⟨q1,q2⟩:=m.get h0 h1;refine q2 _ ?_;unfold zu;rw [zQL (l:=zA.getD h.toNat []),zQK (by omega)];exact zQo _
theorem zHb (hf:f σ M = some (x,M)) (ht:zH7 M x = some t):zDX T f σ M = some (.dat (.bl (isT t T)),M):=by
 unfold zDX; rw [hf]; dsimp only; rw [ht]
theorem zAL (h:f σ M = some (.dat (.bl k),M')):tst f σ M = some (k,M'):=by unfold tst; rw [h]
theorem isV (hf:f σ M = some (x,M)) (ht:zH7 M x = some t) (h:isT t T = k):zDX T f σ M = some (.dat (.bl k),M):=by
 rw [zHb hf ht,h]
theorem isF (hf:f σ M = some (x,M)) (ht:zH7 M x = some t) (h:isT t T = false):tst (zDX T f) σ M = some (false,M):=by
 rw [zAL (zHb hf ht),h]
theorem zOi (hf:f σ M = some (x,M)) (ht:zH7 M x = some t) (h:isT t T = true):tst (zDX T f) σ M = some (true,M):=by
 rw [zAL (zHb hf ht),h]
theorem zL1 (hc:c σ M = some (true,M)) (h:OkS (a σ M) (nxP (fun σ1 M1=>OkS (g σ1 M1) P) P)):OkS (zT (sIf c a b) g σ M) P:=by
 rw [zF,zAK];refine zE hc ?_;rw [zQV rfl];exact h
theorem zAo (hf:f σ M = some (.dat d,M)) (h:P (.ret d) σ M):OkS (zAq f σ M) P:=by
 rw [zBv]; exact zE hf h
theorem zJ7 (h:(zDc d).isSome = true):kEq (.dat d) (.dat d) M = some (.dat (.bl true),M):=by
 cases d with
 | tup _=>cases h
 | ref _=>cases h
 | non=>rfl
 | bl k=>cases k <;> rfl
 | int i=>show some (EV.dat (.bl (decide (V.int i = V.int i))),M) = _; simp
 | str x=>show some (EV.dat (.bl (decide (V.str x = V.str x))),M) = _; simp
theorem zDQ (hf:f σ M = some (.dat (.bl true),M)) (hg:g σ M = some (.dat (.bl true),M)):zGw f g σ M = some (.dat (.bl true),M):=by
 unfold zGw; rw [hf]; exact hg
theorem zHp (hf:f σ M = some (.dat (.bl false),M)):zLA f σ M = some (.dat (.bl true),M):=by
 unfold zLA; rw [hf]; rfl
theorem zAX {α:Type} (as:List α) (enc out:α -> D) (hi:fi σ M = some (as.map enc,gd,M)) (hgd:zCB gd (as.map enc) M) (hz:as.length <= 100000)
  (he:∀ a ∈ as,∃ σ1,g (enc a) (zFZ own σ) = some σ1 /\ te σ1 M = some (.dat (out a),M)):zk own fi g zx te σ M = some (.fl (as.map out),M):=by
 refine zR (zCX.mpr ⟨_,_,_,hi,by rw [zQP]; exact zU hz,?_⟩);refine Ok.mono (zA7 (I:=fun r acc M'=>M' = M /\ ∃ ra rb:List α,as = rb ++ ra /\ r = ra.map enc /\ acc = rb.map out) (Q:=fun acc M'=>M' = M /\ acc = as.map out) ?_ ?_ _ [] _ ⟨rfl,as,[],rfl,rfl,rfl⟩) ?_
 ·rintro x r acc M' ⟨rfl,ra,rb,hab,hr,rfl⟩;cases ra with
  | nil=>cases hr
  | cons a ra=>
   rw [zQZ] at hr;obtain ⟨rfl,rfl⟩:=zRK hr;obtain ⟨σ1,e1,e2⟩:=he a (by rw [hab]; simp);refine ⟨hgd,σ1,e1,zDA.mpr ?_⟩;rw [zQV rfl];refine zE e2 ?_;rw [zG];exact ⟨rfl,ra,rb ++ [a],by rw [hab]; simp,rfl,by simp⟩
 ·rintro acc M' ⟨rfl,ra,rb,hab,hr,rfl⟩;cases ra with
  | nil=>rw [zQ0] at hab; subst hab; exact ⟨hgd,rfl,rfl⟩
  | cons a ra=>cases hr
 ·rintro ys M' ⟨rfl,h⟩;rw [List.nil_append] at h;subst h;exact ⟨rfl,rfl⟩
theorem zBS (hf:f σ M = some (x,M)) (h:zf M x = some xs):fB zAU (zQ f zh) σ M = some (.dat (.tup xs),M):=by
 unfold fB zQ zh; rw [hf]; exact zR ((zL0 h).mpr ⟨rfl,rfl⟩)
theorem zId (hf:f σ M = some (.dat (.tup xs),M)):zAT f σ M = some (xs,none,M):=zAl hf zAd
theorem zHQ (n:Nat):zBH 0 n = (List.range n).map fun (k:Nat)=>D.int k:=(zED n).symm
theorem zFF (e:f σ M = some (.dat (.int j),M)) (h1:0 <= j) (h2:j < 2 ^ 62):zAC (zD (toD f) zH) σ M = some ((List.range j.toNat).map (fun (k:Nat)=>D.int k),none,M):=by
 rw [zBi e h1 h2,zHQ]
theorem zDP (hf:f σ M = some (.dat d,M)) (h:OkS (g (σ.set i (some d)) M) P):OkS (zT (zn i f) g σ M) P:=by
 rw [zF,zP]; exact zE hf h
theorem zOz (h:f σ M = some (.dat d,M')):zD (toD f) zH σ M = some ([d],M'):=by
 unfold zD toD zH; rw [h]
open ST
def tI (xs:List Int):D:=.tup (xs.map D.int)
end Law
namespace Law
open PySem PySem.Spec PyProof.Rows L2 L3 ST
theorem zN0 {M:Mem} {n:Nat} {xs:List D} {k:Nat} {d:D} {Q:D -> Mem -> Prop} (h:M[n]? = some (.lst xs)) (hk:xs[k]? = some d) (hz:k < 90000) (q:Q d (M.set n (.lst (xs.eraseIdx k)))):Ok (zEj (.dat (.ref n)) [.int (k:Int)] M) Q:=by
 refine ⟨d,M.set n (.lst (xs.eraseIdx k)),?_,q⟩;have hl:k < xs.length:=(zQJ.mp hk).1;unfold zEj;dsimp only;rw [h];dsimp only;have e:ixN xs.length (k:Int) = some k:=by unfold ixN; rw [zQV (by omega),zQV (by omega)]; simp
 rw [e];dsimp only;rw [hk];dsimp only;rw [zQV ⟨by omega,by omega⟩]
theorem zAa (e:f σ M = some (.dat (mD zA),M)):fB zAW (zQ f zh) σ M = some (.dat (.int zA.length),M):=by
 have:=zCl e zAd;rw [zQP] at this; exact this
end Law
namespace Law
open PySem PySem.Spec PyProof.Rows L2 L3 ST
theorem oS (h:f σ M = some (.dat (.int i),M)):zAQ f σ M = some (some i,M):=by unfold zAQ; rw [h]
theorem zIl (h0:0 < p) (hx:0 < xs.length):L3.zBG xs (some p) none = xs.drop p.toNat:=by
 have e:p = ((p.toNat:Nat):Int):=by omega
 have s:HT.sIx xs.length 0 (some p) = min p.toNat xs.length:=by
  have q:=HT.zCx xs.length 0 p.toNat;rw [<- e] at q; exact q
 have z:HT.sIx xs.length xs.length none = xs.length:=rfl;unfold L3.zBG;rw [s,z];rcases Nat.le_total p.toNat xs.length with q | q
 ·rw [Nat.min_eq_left q,List.take_of_length_le (by simp)]
 ·rw [Nat.min_eq_right q,List.drop_of_length_le (zQM _),List.drop_of_length_le q]; simp
end Law
namespace Lac
open PySem PySem.Spec PyProof.Rows L2 L3 ST Law
end Lac
namespace Lac
open PySem PySem.Spec PyProof.Rows L2 L3 ST Law
def zFi (g:List Int):List Key:=g.map Sum.inl
theorem zGg:∀ {a b:List Int},zFi a = zFi b -> a = b
 | [],[],_=>rfl
 | [],_ :: _,h=>by cases h
 | _ :: _,[],h=>by cases h
 | x :: a,y :: b,h=>by
  have h1:=(zRK h).1;have h2:=zGg (zRK h).2;cases h1; rw [h2]
theorem zER:∀ g:List Int,zEF (g.map D.int) = some (zFi g)
 | []=>rfl
 | x :: r=>by
  rw [zQZ];unfold zEF;rw [zER r];rfl
theorem zD6 (g:List Int):tkD (tI g) = some (zFi g):=zER g
abbrev zEn (T:List (List Int × D)):List (D × D):=T.map fun q=>(tI q.1,q.2)
abbrev dT (T:List (List Int × D)):MO:=.dicT (zEn T)
def zAI:List (List Int × D) -> List Int -> Option D
 | [],_=>none
 | q :: r,g=>if q.1 = g then some q.2 else zAI r g
def zDF (T:List (List Int × D)) (g:List Int) (v:D):List (List Int × D):=match zAI T g with
 | some _=>T.map fun q=>if q.1 = g then (q.1,v) else q
 | none=>T ++ [(g,v)]
theorem zGB (a g:List Int):decide (tkD (tI a) = some (zFi g)) = decide (a = g):=by
 rw [zD6];by_cases h:a = g
 ·subst h; simp
 ·rw [zQp h,zQp];intro e;exact h (zGg (zRG e))
theorem zKO (g:List Int):∀ T:List (List Int × D),zBC tkD (zEn T) (zFi g) = zAI T g
 | []=>rfl
 | q :: r=>by
  have ih:=zKO g r;unfold zBC at ih ⊢;unfold zEn at ih ⊢;rw [zQZ,zR2];rw [zGB];unfold zAI;by_cases h:q.1 = g
  ·rw [zRO h,zQV h]; rfl
  ·rw [zQp h,zQY h]; exact ih
theorem zMq (g:List Int):∀ T:List (List Int × D),((zEn T).any fun p=>decide (tkD p.1 = some (zFi g))) = (zAI T g).isSome
 | []=>rfl
 | q :: r=>by
  have ih:=zMq g r;unfold zEn at ih ⊢;rw [zQZ,List.any_cons,zGB];unfold zAI;by_cases h:q.1 = g
  ·rw [zRO h,zQV h]; rfl
  ·rw [zQp h,zQY h,Bool.false_or]; exact ih
theorem zOk (T:List (List Int × D)) (g:List Int) (v:D):zEo tkD (zEn T) (zFi g) (tI g) v = zEn (zDF T g v):=by
 unfold zEo zDF;rw [zMq];cases h:zAI T g with
 | none=>
  rw [zQY (by simp)];unfold zEn; rw [zQ8]; rfl
 | some d=>
  rw [zQV (by simp)];unfold zEn;rw [zQe,zQe];apply List.map_congr_left;intro q _;show (if tkD (tI q.1) = some (zFi g) then (tI q.1,v) else (tI q.1,q.2)) = (tI (if q.1 = g then (q.1,v) else q).1,(if q.1 = g then (q.1,v) else q).2);have hd:=zGB q.1 g;by_cases hq:q.1 = g
  ·rw [zRO hq] at hd;rw [zQV (of_decide_eq_true hd),zQV hq]
  ·rw [zQp hq] at hd;rw [zQY (of_decide_eq_false hd),zQY hq]
theorem zIs (T:List (List Int × D)) (g h:List Int) (v:D):zAI (zDF T g v) h = if g = h then some v else zAI T h:=by
 have app:∀ (T:List (List Int × D)),zAI T g = none -> zAI (T ++ [(g,v)]) h = if g = h then some v else zAI T h:=by
  intro T;induction T with
  | nil=>intro _; rfl
  | cons q r ih=>
   intro e;unfold zAI at e;by_cases hq:q.1 = g
   ·rw [zQV hq] at e; cases e
   ·rw [zQY hq] at e;show (if q.1 = h then some q.2 else zAI (r ++ [(g,v)]) h) = if g = h then some v else if q.1 = h then some q.2 else zAI r h
    rw [ih e];by_cases h1:q.1 = h
    ·rw [zQV h1,zQV h1,zQY (fun z=>hq (h1.trans z.symm))]
    ·rw [zQY h1,zQY h1]
 have mp:∀ (T:List (List Int × D)),(zAI T g).isSome = true -> zAI (T.map fun q=>if q.1 = g then (q.1,v) else q) h = if g = h then some v else zAI T h:=by
  intro T;by_cases hgh:g = h
  ·subst hgh;induction T with
   | nil=>intro e; cases e
   | cons q r ih=>
    intro e;rw [zQZ];unfold zAI;by_cases hq:q.1 = g
    ·rw [zQV hq]; simp [hq]
    ·rw [zQY hq,zQY hq];unfold zAI at e;rw [zQY hq] at e;rw [ih e,zQV rfl,zQV rfl]
  ·intro hx;clear hx;rw [zQY hgh];induction T with
   | nil=>rfl
   | cons q r ih=>
    rw [zQZ];unfold zAI;by_cases hq:q.1 = g
    ·have:¬ q.1 = h:=fun z=>hgh (hq.symm.trans z);rw [zQV hq];rw [zQY this,zQY this]; exact ih
    ·rw [zQY hq];by_cases h1:q.1 = h
     ·rw [zQV h1,zQV h1]
     ·rw [zQY h1,zQY h1]; exact ih
 unfold zDF;cases e:zAI T g with
 | none=>exact app T e
 | some d=>exact mp T (by rw [e]; rfl)
theorem zLH (T:List (List Int × D)) (g:List Int) (v:D):(zDF T g v).length <= T.length + 1:=by
 unfold zDF;cases zAI T g with
 | none=>simp
 | some d=>simp
section
theorem dgT (h:M[n]? = some (dT T)):zCO M (.dat (.ref n)) (tI g) = some (zAI T g):=by
 unfold zCO; dsimp only; rw [h]; dsimp only; rw [zD6]; dsimp only; rw [zKO]
theorem zPn (h:M[n]? = some (dT T)):zEg neg (.dat (tI g)) (.dat (.ref n)) M = some (.dat (.bl (if neg then !(zAI T g).isSome else (zAI T g).isSome)),M):=by
 unfold zEg; dsimp only; rw [dgT h]
theorem zM1 (h:M[n]? = some (dT T)) (hz:T.length < 90000):zCc M n (tI g) v = some (M.set n (dT (zDF T g v))):=by
 unfold zCc; rw [h]; dsimp only; rw [zD6]; dsimp only; rw [zQV (by rw [zQP]; exact zQf hz (zU (by omega))),zOk]
end
end Lac
namespace Lac
open PySem PySem.Spec PyProof.Rows L2 L3 ST Law
end Lac
namespace Lac
open PySem PySem.Spec PyProof.Rows L2 L3 ST Law
end Lac
namespace Lac
open PySem PySem.Spec PyProof.Rows L2 L3 ST Law
end Lac
namespace Lac
open PySem PySem.Spec PyProof.Rows L2 L3 ST Law
theorem zNb (h:f σ M = some (.dat (.ref j),M)) (hj:M[j]? = some (.lst xs)):zJL f σ M = some (!xs.isEmpty,M):=by
 unfold zJL; rw [h]; dsimp only; rw [zY hj]
end Lac
namespace Lac
open PySem PySem.Spec PyProof.Rows L2 L3 ST Law
end Lac
namespace Lac
open PySem PySem.Spec PyProof.Rows L2 L3 ST Law
end Lac
namespace Lac
open PySem PySem.Spec PyProof.Rows L2 L3 ST Law
theorem zDx {α:Type} [DecidableEq α]:∀ (a b:List α),a.Nodup -> (∀ x ∈ a,x ∈ b) -> a.length <= b.length
 | [],_,_,_=>zQ2 _
 | x :: r,b,h,s=>by
  rw [List.nodup_cons] at h;have hx:=s x zQU;have:=zDx r (b.erase x) h.2 fun y hy=>(List.mem_erase_of_ne (fun e=>h.1 (by rw [<- e]; exact hy))).mpr (s y (zQT _ hy));rw [List.length_erase_of_mem hx] at this;have:0 < b.length:=List.length_pos_of_mem hx;simp only [zQn]; omega
end Lac
namespace Lac
open PySem PySem.Spec PyProof.Rows L2 L3 ST Law
end Lac
namespace Lac
open PySem PySem.Spec PyProof.Rows L2 L3 ST Law
end Lac
namespace Lac
open PySem PySem.Spec PyProof.Rows L2 L3 ST Law
def zJ3:D -> Bool
 | .non | .bl _ | .int _=>true
 | _=>false
theorem zHG (h:zJ3 d = true):(zDc d).isSome = true:=by cases d <;> first | rfl | cases h
theorem zKb (h:zJ3 d = true):kEq (.dat d) (.dat d) M = some (.dat (.bl true),M):=zJ7 (zHG h)
theorem zCW (n:Nat) (ps:List (List Int)):D.unds n (ps.map tI) = true:=by
 induction ps with
 | nil=>rfl
 | cons p r ih=>rw [zQZ]; unfold D.unds; rw [ih,show D.und n (tI p) = true from zAy p]; rfl
end Lac
namespace Lad
open PySem PySem.Spec PyProof.Rows L2 L3 ST Law
noncomputable def zB9:FS:=(zT (zn 1 (fC (.int 7)))
  (zT (zBb (zAT (fSl (zC 0) zAf (zAQ (fC (.int 63))))) (gN 2) (zn 1 (fOp zB0 (fOp zAk (fOp zAk (fOp zHy (zC 1) (fC (.int 6364136223846793005))) (zC 2)) (fC (.int 1442695040888963407))) (fC (.int 2305843009213693951)))))
  (zAq (zFk "great" (zk [2] (zAT (fSl (zC 0) zAf (zAQ (fC (.int 63))))) (gN 2) (tst (fOp kGe (zC 2) (fOp zIw (fC (.int 10)) (fC (.int 18))))) (zC 2)) "seed" (zC 1)))))
noncomputable def zBB:FF:=zCG 3 zB9
noncomputable def zCm:FS:=(zT (sIf (tst (fOp kNe (fOp zAj (zC 0) (fC (.str "great"))) (zBA zH))) (zT (zn 2 (fOp zB0 (fOp kIx (fOp zAj (zC 0) (fC (.str "great"))) (fC (.int 0))) (zC 1)))
  (zT (zHz (fOp zH4 (fOp kIx (fOp zAj (zC 0) (fC (.str "great"))) (fC (.int 0))) (zC 1)) (fOp zAj (zC 0) (fC (.str "great"))) (fC (.int 0)))
  (zT (sIf (tst (fOp kEq (fOp kIx (fOp zAj (zC 0) (fC (.str "great"))) (fC (.int 0))) (fC (.int 0)))) (zAY (fM zEj (fOp zAj (zC 0) (fC (.str "great"))) (zD (toD (fC (.int 0))) zH))) zAp)
  (zAq (zC 2))))) zAp)
  (zT (zCe (fOp zB0 (fOp zAk (fOp zHy (fOp zAj (zC 0) (fC (.str "seed"))) (fC (.int 3935559000370003845))) (fC (.int 2691343689449507681))) (fC (.int 2305843009213693951))) (zC 0) (fC (.str "seed")))
  (zT (zn 3 (fOp zH4 (fOp zAj (zC 0) (fC (.str "seed"))) (fC (.int 65537))))
  (zAq (fOp zB0 (fOp zH4 (fOp zB0 (fOp zHy (zC 3) (zC 3)) (fC (.int 998244353))) (fC (.int 3))) (zC 1))))))
noncomputable def zM:FF:=zCG 4 zCm
abbrev gS (k:Nat) (s:Int):MO:=.dict [(.str "great", .ref k),(.str "seed", .int s)]
structure Gen (M:Mem) (n k:Nat):Prop where
 ex:∃ (c:List Int) (s:Int),M[n]? = some (gS k s) /\ M[k]? = some (.lst (c.map D.int)) /\ (∀ x ∈ c,0 <= x) /\ c.length <= 63 /\ 0 <= s /\ s < 2305843009213693951
 ne:n ≠ k
 wf:∀ (j:Nat) u,M[j]? = some u -> MO.und M.length u = true
structure Nw (M M':Mem) (n k:Nat):Prop where
 gen:Gen M' n k
 len:M.length <= M'.length
 fr:∀ j,j < M.length -> j ≠ n -> j ≠ k -> M'[j]? = M[j]?
theorem Nw.refl (h:Gen M n k):Nw M M n k:=⟨h,zQM _,fun _ _ _ _=>rfl⟩
theorem Nw.trans {M M1 M2:Mem} {n k:Nat} (a:Nw M M1 n k) (b:Nw M1 M2 n k):Nw M M2 n k :=
 ⟨b.gen,zQh a.len b.len,fun j h h1 h2=>(b.fr j (zQf h a.len) h1 h2).trans (a.fr j h h1 h2)⟩
theorem Gen.lt (h:Gen M n k):n < M.length /\ k < M.length:=by
 obtain ⟨c,s,e1,e2,_⟩:=h.ex;exact ⟨(zQJ.mp e1).1,(zQJ.mp e2).1⟩
theorem zKJ (hk:k < N):MO.und N (gS k s) = true:=by
 unfold MO.und;simp [D.und,hk]
theorem Gen.put {M:Mem} (h:Gen M n k) {c:List Int} (hc:∀ x ∈ c,0 <= x) (hl:c.length <= 63) (h0:0 <= s) (h1:s < 2305843009213693951) :
  Nw M ((M.set k (.lst (c.map D.int))).set n (gS k s)) n k:=by
 obtain ⟨hn,hk⟩:=h.lt;refine ⟨⟨⟨c,s,?_,?_,hc,hl,h0,h1⟩,h.ne,fun j u e=>?_⟩,by simp,fun j _ h1 h2=>?_⟩
 ·rw [zRA (by simpa using hn)]
 ·rw [zQk h.ne,zRA hk]
 ·rw [List.length_set,List.length_set];rw [zRp] at e;split at e
  ·split at e
   ·cases e;exact zKJ hk
   ·cases e
  ·rw [zRp] at e;split at e
   ·rename_i z;subst z;cases e; exact zb _ _
   ·exact h.wf j u e
 ·rw [zQk (Ne.symm h1),zQk (Ne.symm h2)]
theorem Gen.app (h:Gen A n k) (hu:∀ u ∈ us,MO.und (A.length + us.length) u = true):Nw A (A ++ us) n k:=by
 obtain ⟨c,s,e1,e2,r⟩:=h.ex;obtain ⟨hn,hk⟩:=h.lt;refine ⟨⟨⟨c,s,by rw [zQN hn]; exact e1,by rw [zQN hk]; exact e2,r⟩,h.ne,fun j u e=>?_⟩,by simp,fun j hj _ _=>zQN hj⟩;rw [zQW];by_cases hj:j < A.length
 ·rw [zQN hj] at e;exact zDK (by omega) (h.wf j u e)
 ·rw [zRQ (by omega)] at e;exact hu u (zQ7 e)
theorem Gen.lst (h:Gen A n k) (xs:List D) (hx:D.unds A.length xs = true):Nw A (A ++ [.lst xs]) n k:=h.app fun u hu=>by
 have:u = .lst xs:=by simpa using hu
 subst this; exact zBN (by simp) hx
theorem Nw.setB (h:Nw M A n k) (g:Gen M n k) (hj:M.length <= j) (hu:MO.und A.length u = true):Nw M (A.set j u) n k:=by
 obtain ⟨hn,hk⟩:=g.lt;obtain ⟨c,s,e1,e2,r⟩:=h.gen.ex;refine ⟨⟨⟨c,s,by rw [zQk (by omega)]; exact e1,by rw [zQk (by omega)]; exact e2,r⟩,g.ne,fun i v e=>?_⟩,by rw [List.length_set]; exact h.len,fun i hi h1 h2=>by rw [zQk (by omega)]; exact h.fr i hi h1 h2⟩;rw [List.length_set];rw [zRp] at e;split at e
 ·split at e
  ·cases e; exact hu
  ·cases e
 ·exact h.gen.wf i v e
theorem Nw.wf0 (h:Nw M M' n k) (g:Gen M n k):∀ (j:Nat) u,j < M.length -> M'[j]? = some u -> MO.und M.length u = true:=fun j u hj e=>by
 obtain ⟨hn,hk⟩:=g.lt;obtain ⟨c,s,e1,e2,r⟩:=h.gen.ex;by_cases q1:j = n
 ·subst q1; rw [e1] at e; cases e; exact zKJ hk
 ·by_cases q2:j = k
  ·subst q2; rw [e2] at e; cases e; exact zb _ _
  ·rw [h.fr j hj q1 q2] at e; exact g.wf j u e
theorem Nw.trim (h:Nw M M' n k) (g:Gen M n k):Nw M (M'.take M.length) n k:=by
 obtain ⟨hn,hk⟩:=g.lt;have tk:∀ j,j < M.length -> (M'.take M.length)[j]? = M'[j]?:=fun j hj=>List.getElem?_take_of_lt hj;have tl:(M'.take M.length).length = M.length:=by have:=h.len; rw [zRe]; omega
 obtain ⟨c,s,e1,e2,r⟩:=h.gen.ex;refine ⟨⟨⟨c,s,(tk n hn).trans e1,(tk k hk).trans e2,r⟩,g.ne,fun j u e=>?_⟩,by omega,fun j hj h1 h2=>(tk j hj).trans (h.fr j hj h1 h2)⟩;have hj:j < M.length:=by have:=(zQJ.mp e).1; omega
 rw [tk j hj] at e;rw [tl];exact h.wf0 g j u hj e
theorem Nw.get (h:Nw M M' n k) (e:M[j]? = some u) (h1:j ≠ n) (h2:j ≠ k):M'[j]? = some u :=
 (h.fr j (zQJ.mp e).1 h1 h2).trans e
theorem zFQ (hf:f σ M = some (.dat (.ref n),M)) (hM:M[n]? = some (gS k s)):fOp zAj f (fC (.str "great")) σ M = some (.dat (.ref k),M) /\ fOp zAj f (fC (.str "seed")) σ M = some (.dat (.int s),M):=by
 constructor
 ·refine zN hf rfl ?_;unfold zAj zCO;dsimp only;rw [hM];rfl
 ·refine zN hf rfl ?_;unfold zAj zCO;dsimp only;rw [hM];rfl
theorem zPv (hM:M[n]? = some (gS k s)):zCc M n (.str "seed") (.int s') = some (M.set n (gS k s')):=by
 unfold zCc;rw [hM];dsimp only [zBL];rw [zQV (show [(D.str (Str.ofString "great"),D.ref k),(D.str (Str.ofString "seed"),D.int s)].length < sizeLine from zU (n:=3) (by omega))];rfl
theorem zHK (h1:fv σ M = some (.dat v,M)) (h2:fo σ M = some (.dat (.ref n),M)) (h3:fi σ M = some (.dat k,M)) (h4:zCc M n k v = some M4) (q:P .nx σ M4):OkS (zCe fv fo fi σ M) P:=by
 refine ⟨.nx,σ,M4,?_,q⟩;unfold zCe toD;rw [h1]; dsimp only; rw [h2]; dsimp only; rw [h3]; dsimp only; rw [h4]
theorem zCN (h:0 < b):zB0 (.dat (.int a)) (.dat (.int b)) M = some (.dat (.int (a % b)),M):=zR (zM0.mpr ⟨h,rfl,rfl⟩)
theorem zKl (h:0 < b /\ b < 1073741824):zH4 (.dat (.int a)) (.dat (.int b)) M = some (.dat (.int (a / b)),M):=zR (zM2.mpr ⟨h,rfl,rfl⟩)
theorem zFT {M:Mem} (h:Gen M n k) (h0:0 < m) (h1:m < 1073741824) :
  Ok (zM [.ref n,.int m] M) fun d M'=>(∃ i,d = .int i /\ 0 <= i /\ i < m) /\ Nw M M' n k /\ M'.length = M.length:=by
 unfold zM;rw [zAx];unfold zCm;obtain ⟨c,s,e1,e2,e3,e4,e5,e6⟩:=h.ex;obtain ⟨hn,hk⟩:=h.lt;rw [zF,zAK];have ne:Ok (tst (fOp kNe (fOp zAj (zC 0) (fC (.str "great"))) (zBA zH)) [some (.ref n),some (.int m),none,none] M) fun b M'=>b = (!c.isEmpty) /\ M' = M:=by
  refine zFv.mpr (zAe.mpr (zE (zFQ rfl e1).1 (zBT.mpr (zAJ.mpr ⟨zQ2 _,?_⟩))));rw [zMl (zo e2) (by intro d e; cases e; rfl)];rw [zFe];exact ⟨by simp,rfl⟩
 refine Ok.mono ne ?_;rintro b M' ⟨rfl,rfl⟩;cases c with
 | nil=>
  simp only [List.isEmpty_nil,Bool.not_true,Bool.false_eq_true,if_false];rw [zAE,zK,zF];have hs0:0 <= (s * 3935559000370003845 + 2691343689449507681) % 2305843009213693951:=Int.emod_nonneg _ (by decide);have hs1:(s * 3935559000370003845 + 2691343689449507681) % 2305843009213693951 < 2305843009213693951:=Int.emod_lt_of_pos _ (by decide);have ev:fOp zB0 (fOp zAk (fOp zHy (fOp zAj (zC 0) (fC (.str "seed"))) (fC (.int 3935559000370003845))) (fC (.int 2691343689449507681))) (fC (.int 2305843009213693951)) [some (.ref n),some (.int m),none,none] M' = some (.dat (.int ((s * 3935559000370003845 + 2691343689449507681) % 2305843009213693951)),M') :=
   zN (zN (zN (zFQ rfl e1).2 rfl (zR (zJv.mpr ⟨by simp [zJO] <;> omega,rfl,rfl⟩))) rfl rfl) rfl (zCN (by decide))
  generalize (s * 3935559000370003845 + 2691343689449507681) % 2305843009213693951 = s' at hs0 hs1 ev;refine zHK ev rfl rfl (zPv e1) ?_;rw [zK];have P:=h.put (c:=[]) (s:=s') (fun _ h=>by cases h) (by simp) hs0 hs1;rw [zHL (show M'[k]? = some (.lst (([]:List Int).map D.int)) from e2)] at P;have e1':(M'.set n (gS k s'))[n]? = some (gS k s'):=zRA hn;refine zDP (zN (zFQ rfl e1').2 rfl (zKl ⟨by decide,by decide⟩)) ?_;have hm0:0 <= s' / 65537:=Int.ediv_nonneg hs0 (by decide);have hm1:s' / 65537 < 2305843009213693951:=by omega
  refine zAo (zN (zN (zN (zN (x:=.dat (.int (s' / 65537))) (y:=.dat (.int (s' / 65537))) rfl rfl (zR (zJv.mpr ⟨by simp [zJO] <;> omega,rfl,rfl⟩))) rfl (zCN (by decide))) rfl (zKl ⟨by decide,by decide⟩)) rfl (zCN h0)) ?_;exact ⟨⟨_,rfl,Int.emod_nonneg _ (by omega),Int.emod_lt_of_pos _ h0⟩,P,by simp⟩
 | cons x c=>
  simp only [List.isEmpty_cons,Bool.not_false,if_true];have hd:∀ {x:Int} {c:List Int} {M:Mem} {σ:Sd},zC 0 σ M = some (.dat (.ref n),M) -> M[n]? = some (gS k s) -> M[k]? = some (.lst ((x :: c).map D.int)) -> fOp kIx (fOp zAj (zC 0) (fC (.str "great"))) (fC (.int 0)) σ M = some (.dat (.int x),M):=fun {x c M σ} hf hM hK=>
   zN (zFQ hf hM).1 rfl (zA6 (zY hK) at0)
  refine zDP (zN (hd rfl e1 e2) rfl (zCN h0)) ?_;rw [zF,zIC];refine zAe.mpr (zE (hd rfl e1 e2) (zj.mpr ⟨_,rfl,zM2.mpr ⟨⟨h0,h1⟩,?_⟩⟩));rw [zG];refine zE (zFQ rfl e1).1 (zCo.mpr ?_);rw [zG];refine ⟨_,zGx (k:=0) e2 (by simp),?_⟩;rw [zK,zF];have hx:=e3 x zQU;have hq:0 <= x / m:=Int.ediv_nonneg hx (by omega);have e2':(M'.set k (.lst (((x / m) :: c).map D.int)))[k]? = some (.lst (((x / m) :: c).map D.int)):=zRA hk;have e1':(M'.set k (.lst (((x / m) :: c).map D.int)))[n]? = some (gS k s):=by rw [zQk (Ne.symm h.ne)]; exact e1
  rw [zAK];refine zE (zAL (zN (hd rfl e1' e2') rfl (zR (zGc.mpr ⟨rfl,rfl⟩)))) ?_;have fin:∀ (c':List Int),(∀ y ∈ c',0 <= y) -> c'.length <= 63 -> Nw M' (M'.set k (.lst (c'.map D.int))) n k:=fun c' q1 q2=>by
   have P:=h.put (c:=c') (s:=s) q1 q2 e5 e6;rw [zHL (k:=n) (by rw [zQk (Ne.symm h.ne)]; exact e1)] at P;exact P
  by_cases hz:x / m = 0
  ·rw [zQV (by simpa using hz),zAz];refine zEL.mpr (zE (zFQ rfl e1').1 ⟨⟨_,zo e2'⟩,zw.mpr (zAB.mpr (zCo.mpr (zG.mpr (zAJ.mpr ?_))))⟩);rw [zQZ] at e2' ⊢;rw [zNg e2',zK];refine zAo rfl ⟨⟨_,rfl,Int.emod_nonneg _ (by omega),Int.emod_lt_of_pos _ h0⟩,?_,by simp⟩;rw [List.set_set];exact fin c (fun y hy=>e3 y (zQT _ hy)) (by simp at e4; omega)
  ·rw [zQY (by simpa using hz),zAE,zK];refine zAo rfl ⟨⟨_,rfl,Int.emod_nonneg _ (by omega),Int.emod_lt_of_pos _ h0⟩,fin ((x / m) :: c) (fun y hy=>?_) (by simpa using e4),by simp⟩;rcases zQS.mp hy with z | z
   ·subst z; exact hq
   ·exact e3 y (zQT _ z)
theorem zq (h:Gen M n k) (ha:fa σ M = some (.dat (.ref n),M)) (hb:fb σ M = some (.dat (.int m),M)) (h0:0 < m) (h1:m < 1073741824)
  (q:∀ i M',0 <= i -> i < m -> Nw M M' n k -> M'.length = M.length -> P (.dat (.int i)) M'):Ok (zW zM (zD (toD fa) (zD (toD fb) zH)) σ M) P:=by
 rw [zA5,zw,zAB];refine ⟨_,_,ha,?_⟩;rw [zG,zw,zAB];refine ⟨_,_,hb,?_⟩;rw [zG,zAJ];refine Ok.mono (zFT h h0 h1) ?_;rintro d M' ⟨⟨i,rfl,i0,i1⟩,nx,hl⟩;exact q i M' i0 i1 nx hl
theorem zLE {ns:List Int} (h:ns.length <= 63):Ok (zBB [.ref 0] [.fro (ns.map D.int)]) fun d M'=>d = .ref 1 /\ Gen M' 1 2 /\ M'[0]? = some (.fro (ns.map D.int)):=by
 unfold zBB;rw [zAx];unfold zB9;have e0:([.fro (ns.map D.int)]:Mem)[0]? = some (.fro (ns.map D.int)):=rfl;obtain ⟨cut,ec,lc⟩:=zKm ns none (some 63);have sl:∀ {σ:Sd} {us:Mem},σ[0]? = some (some (.ref 0)) -> fSl (zC 0) zAf (zAQ (fC (.int 63))) σ (.fro (ns.map D.int) :: us) = some (.fl (cut.map D.int),.fro (ns.map D.int) :: us):=fun {σ us} hσ=>by
  refine zR (zOr.mpr (zj.mpr ⟨_,hσ,zJp.mpr (zJ5.mpr (zCo.mpr (zKI.mpr ?_)))⟩));rw [zOG (zIK (xs:=ns.map D.int) rfl) rfl,ec]; exact ⟨rfl,rfl⟩
 refine zDP rfl ?_;rw [zF,zAn];refine ⟨_,_,_,zAl (sl rfl) zCJ,?_⟩;refine zAZ (I:=fun r σ M=>M = [.fro (ns.map D.int)] /\ (∃ c:List Int,r = c.map D.int) /\ ∃ s y,σ = [some (.ref 0),some (.int s),y] /\ 0 <= s /\ s < 2305843009213693951) ?_ ?_ _ _ _ ⟨rfl,⟨cut,rfl⟩,_,none,rfl,by decide,by decide⟩
 ·rintro x r σ M ⟨rfl,⟨c,hc⟩,s,y,rfl,h0,h1⟩;obtain ⟨z,c',rfl,rfl,rfl⟩:=zAS hc;refine ⟨zr,_,rfl,?_⟩;rw [zP];refine zAe.mpr (zAe.mpr (zAe.mpr (zAe.mpr (zj.mpr ⟨_,rfl,zCo.mpr (zJv.mpr ⟨by simp [zJO],?_⟩)⟩))));refine zj.mpr ⟨_,rfl,zDN.mpr (zCo.mpr (zDN.mpr (zCo.mpr (zM0.mpr ⟨by decide,?_⟩))))⟩;rw [zG];exact ⟨rfl,⟨c',rfl⟩,_,_,rfl,Int.emod_nonneg _ (by decide),Int.emod_lt_of_pos _ (by decide)⟩
 ·rintro σ M ⟨rfl,_,s,y,rfl,h0,h1⟩;refine ⟨zr,?_⟩;rw [zK,zBv];have cp:Ok (zk [2] (zAT (fSl (zC 0) zAf (zAQ (fC (.int 63))))) (gN 2) (tst (fOp kGe (zC 2) (fOp zIw (fC (.int 10)) (fC (.int 18))))) (zC 2) [some (.ref 0),some (.int s),y] [.fro (ns.map D.int),.dict []]) fun x M=>M = [.fro (ns.map D.int),.dict []] /\ ∃ b:List Int,x = .fl (b.map D.int) /\ b.length <= 63 /\ ∀ x ∈ b,0 <= x:=by
   rw [zCX];refine ⟨_,_,_,zAl (sl rfl) zCJ,by rw [zQP]; exact zU (by omega),?_⟩;refine Ok.mono (zA7 (I:=fun r acc M=>M = [.fro (ns.map D.int),.dict []] /\ (∃ c:List Int,r = c.map D.int) /\ r.length + acc.length <= 63 /\ ∃ b:List Int,acc = b.map D.int /\ ∀ x ∈ b,0 <= x) (Q:=fun acc M=>M = [.fro (ns.map D.int),.dict []] /\ acc.length <= 63 /\ ∃ b:List Int,acc = b.map D.int /\ ∀ x ∈ b,0 <= x) ?_ ?_ _ [] _ ⟨rfl,⟨cut,rfl⟩,by simp; omega,[],rfl,fun _ h=>by cases h⟩) ?_
   ·rintro x r acc M ⟨rfl,⟨c,hc⟩,hl,b,rfl,hb⟩;obtain ⟨z,c',rfl,rfl,rfl⟩:=zAS hc;refine ⟨zr,_,rfl,?_⟩;refine zFv.mpr (zAe.mpr (zj.mpr ⟨_,rfl,zAe.mpr (zCo.mpr (zCo.mpr (zPN.mpr ⟨by decide,zP6.mpr (zFe.mpr ?_)⟩)))⟩));by_cases hz:(10:Int) ^ (18:Int).toNat <= z
    ·rw [zQV (by simpa using hz)];have big:(0:Int) <= 10 ^ (18:Int).toNat:=by decide
     refine zj.mpr ⟨_,rfl,zG.mpr ⟨rfl,⟨c',rfl⟩,?_,b ++ [z],by simp,?_⟩⟩
     ·simp at hl ⊢; omega
     ·intro y hy;rcases zQg.mp hy with q | q
      ·exact hb y q
      ·have:y = z:=by simpa using q
       rw [this]; exact Int.le_trans big hz
    ·rw [zQY (by simpa using hz)];exact ⟨rfl,⟨c',rfl⟩,by simp at hl ⊢; omega,b,rfl,hb⟩
   ·rintro acc M ⟨rfl,_,hl,hb⟩;exact ⟨zr,rfl,by simpa using hl,hb⟩
   ·rintro ys M ⟨rfl,hl,b,hb,hp⟩;rw [List.nil_append] at hb hl;subst hb;exact ⟨rfl,b,rfl,by simpa using hl,hp⟩
  obtain ⟨x,M1,ex,rfl,b,rfl,hl,hb⟩:=cp;refine zE (M:=[.fro (ns.map D.int),gS 2 s,.lst (b.map D.int)]) (a:=.dat (.ref 1)) ?_ ?_
  ·unfold zFk;have e1:toD (zk [2] (zAT (fSl (zC 0) zAf (zAQ (fC (.int 63))))) (gN 2) (tst (fOp kGe (zC 2) (fOp zIw (fC (.int 10)) (fC (.int 18))))) (zC 2)) [some (.ref 0),some (.int s),y] ([.fro (ns.map D.int)] ++ [.dict []]) = some (.ref 2,[.fro (ns.map D.int),.dict [],.lst (b.map D.int)]):=by
    unfold toD;rw [show ([.fro (ns.map D.int)] ++ [.dict []]:Mem) = [.fro (ns.map D.int),.dict []] from rfl,ex];rfl
   rw [e1];rfl
  ·rw [zG];refine ⟨rfl,⟨⟨b,s,rfl,rfl,hb,hl,h0,h1⟩,by decide,?_⟩,rfl⟩;intro j u e;match j,e with
   | 0,e=>cases e; exact zb _ _
   | 1,e=>cases e; rfl
   | 2,e=>cases e; exact zb _ _
   | j + 3,e=>simp at e
noncomputable def zBs:FS:=(zT (zn 3 (zk [4] (zAC (zD (toD (zC 1)) zH)) (gN 4) zx (zW zM (zD (toD (zC 0)) (zD (toD (zC 1)) zH)))))
  (zT (zEe (zBE 5 6) (zAs (zD (toD (fOp kIx (zC 3) (fC (.int 0)))) (zD (toD (fOp kIx (zC 3) (zLg (fC (.int 1))))) zH))))
  (zT (sIf (tst (fOp kEq (zC 2) (fC (.int 0)))) (zAq (zC 3)) zAp)
  (zT (sIf (tst (fOp kEq (zC 2) (fC (.int 5)))) (zAq (fOp zDS (zBA (zD (toD (zC 5)) zH)) (zC 1))) zAp)
  (zT (sIf (tst (fOp kEq (zC 2) (fC (.int 6)))) (zAq (zk [4,7] (zGu (zC 3)) (zBE 4 7) zx (vIf (tst (fOp kLe (zC 4) (zC 5))) (fOp zB0 (zC 7) (fOp zAk (zC 5) (fC (.int 1)))) (fOp zAk (fOp zAk (zC 5) (fC (.int 1))) (fOp zB0 (zC 7) (fOp zHj (fOp zHj (zC 1) (zC 5)) (fC (.int 1)))))))) zAp)
  (zT (zn 8 (zBU (zC 1)))
  (zT (sIf (tst (fOp kEq (zC 2) (fC (.int 3)))) (zAq (fOp zDh (fSl (zC 8) (zAQ (fC (.int 1))) zAf) (fSl (zC 8) zAf (zAQ (fC (.int 1)))))) zAp)
  (zT (sIf (tst (fOp kLt (zC 2) (fC (.int 3)))) (zT (zn 9 (zBU (zC 1)))
  (zn 8 (zk [7] (zAT (zC 3)) (gN 7) zx (fM zEj (zC 9) (zD (toD (fOp zB0 (zC 7) (fB zAW (zQ (zC 9) zh)))) zH))))) zAp)
  (zT (sIf (tst (fOp (kIn false) (zC 2) (zAs (zD (toD (fC (.int 2))) (zD (toD (fC (.int 4))) zH))))) (zHz (fOp kIx (zC 8) (zC 6)) (zC 8) (zC 5)) zAp)
  (zAq (zC 8)))))))))))
noncomputable def zAF:FF:=zCG 10 zBs
noncomputable def zBc:FS:=(zT (zn 3 (fOp zAk (fC (.int 1)) (zW zM (zD (toD (zC 0)) (zD (toD (fOp kIx (zBA (zD (toD (fC (.int 3))) (zD (toD (fC (.int 7))) (zD (toD (zC 1)) zH)))) (zW zM (zD (toD (zC 0)) (zD (toD (fC (.int 3))) zH))))) zH)))))
  (zT (zn 4 (fOp zAk (fC (.int 1)) (zW zM (zD (toD (zC 0)) (zD (toD (zC 2)) zH)))))
  (zT (zn 5 (zW zM (zD (toD (zC 0)) (zD (toD (fC (.int 10))) zH))))
  (zT (zn 6 (zBA zH))
  (zT (zBb (zAC (zD (toD (zC 4)) zH)) (gN 7) (zT (zn 8 (fOp kIx (zBA (zD (toD (fC (.int 3))) (zD (toD (fC (.int 4))) zH))) (fOp zB0 (zC 7) (fC (.int 2)))))
  (zT (sIf (tst (fOp kLt (zC 5) (fC (.int 7)))) (zn 8 (zC 5)) zAp)
  (zT (sIf (tst (fOp kEq (zC 5) (fC (.int 9)))) (zn 8 (zW zM (zD (toD (zC 0)) (zD (toD (fC (.int 7))) zH)))) zAp)
  (zAY (fM zAA (zC 6) (zD (toD (zW zAF (zD (toD (zC 0)) (zD (toD (zC 3)) (zD (toD (zC 8)) zH))))) zH)))))))
  (zT (sIf (tst (fOp kEq (zC 5) (fC (.int 8)))) (zn 6 (fOp zDS (fSl (zC 6) zAf (zAQ (fC (.int 1)))) (zC 4))) zAp)
  (zAq (fB zAU (zQ (zk [10] (zAC (zD (toD (zC 3)) zH)) (gN 10) zx (fB zAU (zQ (zk [9] (zAT (zC 6)) (gN 9) zx (fOp kIx (zC 9) (zC 10))) zh))) zh)))))))))
noncomputable def zAR:FF:=zCw (zCG 11 zBc)
def Col (many:Int) (c:List Int):Prop:=(c.length:Int) = many /\ ∀ x ∈ c,0 <= x /\ x < many
theorem zGK (h:Gen M n k) (h0:0 < few) (h1:few < 1073741824) (m0:0 <= many) (m1:many <= 90000)
  (hf:f σ M = some (.dat (.int many),M)) (ha:∀ (x:D) (M:Mem),fa ((zFZ own σ).set i (some x)) M = some (.dat (.ref n),M)) (hb:∀ (x:D) (M:Mem),fb ((zFZ own σ).set i (some x)) M = some (.dat (.int few),M)) :
  Ok (zk own (zAC (zD (toD f) zH)) (gN i) zx (zW zM (zD (toD fa) (zD (toD fb) zH))) σ M) fun x M'=>(∃ c:List Int,x = .fl (c.map D.int) /\ (c.length:Int) = many /\ ∀ y ∈ c,0 <= y /\ y < few) /\ Nw M M' n k /\ M'.length = M.length:=by
 refine zCX.mpr ⟨_,_,_,zBi hf m0 (by omega),by rw [zBe]; exact zU (by omega),?_⟩;refine Ok.mono (zNG (n:=many.toNat) (I:=fun j acc M2=>(∃ c:List Int,acc = c.map D.int /\ c.length = j /\ ∀ y ∈ c,0 <= y /\ y < few) /\ Nw M M2 n k /\ M2.length = M.length) ?_ ⟨⟨[],rfl,rfl,fun _ h=>by cases h⟩,Nw.refl h,rfl⟩) ?_
 ·rintro j acc M2 hj ⟨⟨c,rfl,hcl,hc⟩,nw,hl⟩;refine ⟨_,rfl,?_⟩;refine zq nw.gen (ha _ _) (hb _ _) h0 h1 fun g M3 g0 g1 nw3 hl3=>?_;rw [zG];refine ⟨⟨c ++ [g],by simp,by simp [hcl],fun z hz=>?_⟩,nw.trans nw3,by omega⟩;rcases zQg.mp hz with q | q
  ·exact hc z q
  ·have:z = g:=by simpa using q
   subst this; exact ⟨g0,g1⟩
 ·rintro ys M2 ⟨⟨c,rfl,hcl,hc⟩,nw,hl⟩;exact ⟨⟨c,rfl,by omega,hc⟩,nw,hl⟩
theorem zDp (j:Nat):upD j = ((List.range j).map fun (k:Nat)=>(k:Int)).map D.int:=by
 unfold upD; rw [zQe]; rfl
theorem zON (h:0 <= many):Col many ((List.range many.toNat).map fun (k:Nat)=>(k:Int)):=by
 refine ⟨by simp; omega,fun x hx=>?_⟩;obtain ⟨k,hk,rfl⟩:=zQX.mp hx;have:=zQu.mp hk;omega
theorem zc (h:P (.ref M.length) (M ++ [.lst xs])):zES P (.fl xs) M:=h
theorem zX (A:Mem) (u:MO):(A ++ [u])[A.length]? = some u:=by simp
theorem zKU (h:Col many c) (hj:j < c.length):Col many (c.set i (c.getD j 0)):=by
 refine ⟨by rw [List.length_set]; exact h.1,fun x hx=>?_⟩;rcases List.mem_or_eq_of_mem_set hx with q | q
 ·exact h.2 x q
 ·rw [q,zQL,zQK hj]; exact h.2 _ (zQo hj)
theorem zFp (h:Col many c) (hj:j < c.length):0 <= c.getD j 0 /\ c.getD j 0 < many:=by
 rw [zQL,zQK hj]; exact h.2 _ (zQo hj)
theorem zC3 (xs:List Int) (i:Nat):(xs.eraseIdx i).map D.int = (xs.map D.int).eraseIdx i:=by
 induction xs generalizing i with
 | nil=>rfl
 | cons x r ih=>
  cases i with
  | zero=>rfl
  | succ i=>simp [ih]
theorem zFL:L3.zBG xs none (some 1) = xs.take 1:=by
 have s:HT.sIx xs.length xs.length (some 1) = min 1 xs.length:=HT.zCx xs.length xs.length 1;have z:HT.sIx xs.length 0 none = 0:=rfl;unfold L3.zBG;rw [s,z];simp only [List.drop_zero,Nat.sub_zero];cases xs with
 | nil=>rfl
 | cons a r=>simp
theorem slL {f:FE} {fl fh:FO} {σ:Sd} {M:Mem} {x:EV} {xs:List D} {lo hi:Option Int} (hf:f σ M = some (x,M)) (ht:zA8 x = none) (hx:zAO M x = some xs) (hl:fl σ M = some (lo,M)) (hh:fh σ M = some (hi,M)):fSl f fl fh σ M = some (.fl (L3.zBG xs lo hi),M):=by
 unfold fSl; rw [hf]; dsimp only; rw [hl]; dsimp only; rw [hh]; dsimp only; unfold kSl; rw [ht]; dsimp only; rw [hx]
theorem zIq {M:Mem} {n k:Nat} (h:Gen M n k) {many way:Int} (m0:0 < many) (m1:many <= 1000) :
  Ok (zAF [.ref n,.int many,.int way] M) fun d M'=>∃ j c,d = .ref j /\ M'[j]? = some (.lst (c.map D.int)) /\ Col many c /\ M.length <= j /\ Nw M M' n k:=by
 obtain ⟨hn,hk⟩:=h.lt;unfold zAF;rw [zAx];unfold zBs;rw [zF,zP];refine Ok.mono (zGK h m0 (by omega) (by omega) (by omega) rfl (fun _ _=>rfl) (fun _ _=>rfl)) ?_;rintro x M1 ⟨⟨c,rfl,hcl,hc⟩,nw1,hl1⟩;refine zc ?_;rw [zK];have nw2:=nw1.trans (nw1.gen.lst (c.map D.int) (zb _ _));have e3:(M1 ++ [MO.lst (c.map D.int)])[M1.length]? = some (.lst (c.map D.int)):=zX _ _;generalize hM2:M1 ++ [MO.lst (c.map D.int)] = M2 at nw2 e3;have hj3:M.length <= M1.length:=nw1.len;generalize hj:M1.length = j3 at e3 hj3;have cl:c.length = many.toNat:=by omega
 have cc:Col many c:=⟨hcl,hc⟩;have hfst:atI (c.map D.int) 0 = some (.int (c.getD 0 0)):=zCC (by decide) (by omega);have hlst:atI (c.map D.int) (-1) = some (.int (c.getD (c.length - 1) 0)):=by
  have hne:c ≠ []:=by intro e; rw [e] at cl; simp at cl; omega
  have e:=(List.dropLast_concat_getLast hne).symm;have eg:c.getD (c.length - 1) 0 = c.getLast hne:=by
   rw [zQL,zQK (by omega),List.getLast_eq_getElem]; rfl
  rw [eg];generalize c.getLast hne = z at e;rw [e,zQ8]; exact L2.zJl _ _
 obtain ⟨o0,o1⟩:=zFp cc (j:=0) (by omega);obtain ⟨p0,p1⟩:=zFp cc (j:=c.length - 1) (by omega);generalize c.getD 0 0 = one at hfst o0 o1;generalize c.getD (c.length - 1) 0 = oth at hlst p0 p1;rw [zF,zDn];have etup:zAs (zD (toD (fOp kIx (zC 3) (fC (.int 0)))) (zD (toD (fOp kIx (zC 3) (zLg (fC (.int 1))))) zH)) [some (.ref n),some (.int many),some (.int way),some (.ref j3),none,none,none,none,none,none] M2 = some (.dat (.tup [.int one,.int oth]),M2):=by
  unfold zAs;rw [zAD (zN rfl rfl (zA6 (zY e3) hfst)) (zp (zN (y:=.dat (.int (-1))) rfl rfl (zA6 (zY e3) hlst)))];dsimp only;rw [zQV (zU (by simp))]
 refine zE etup ?_;rw [zG];refine ⟨_,rfl,?_⟩;rw [zK];have isw:∀ (j:Int) (σ:Sd) (M:Mem),σ[2]? = some (some (.int way)) -> tst (fOp kEq (zC 2) (fC (.int j))) σ M = some (decide (way = j),M):=fun j σ M e=>by
  have v4:zC 2 σ M = some (.dat (.int way),M):=by unfold zC; rw [e]
  exact zAL (zN v4 rfl (zR (zGc.mpr ⟨rfl,rfl⟩)))
 have new:∀ (A:Mem) (c':List Int),Nw M A n k -> Col many c' -> ∃ j c,D.ref A.length = D.ref j /\ (A ++ [MO.lst (c'.map D.int)])[j]? = some (.lst (c.map D.int)) /\ Col many c /\ M.length <= j /\ Nw M (A ++ [MO.lst (c'.map D.int)]) n k:=fun A c' nw hc'=>
  ⟨A.length,c',rfl,zX _ _,hc',nw.len,nw.trans (nw.gen.lst _ (zb _ _))⟩
 rw [zF,zAK];refine zE (isw 0 _ _ rfl) ?_;by_cases w0:way = 0
 ·rw [zQV (by simpa using w0)];exact zAo rfl ⟨j3,c,rfl,e3,cc,hj3,nw2⟩
 rw [zQY (by simpa using w0),zAE,zK,zF,zAK];refine zE (isw 5 _ _ rfl) ?_;by_cases w5:way = 5
 ·rw [zQV (by simpa using w5),zBv];refine zAe.mpr (zBT.mpr (zw.mpr (zAB.mpr (zj.mpr ⟨_,rfl,zG.mpr (zAJ.mpr ⟨zU (by simp),zj.mpr ⟨_,rfl,?_⟩⟩)⟩))));have er:zDS (.fl [.int one]) (.dat (.int many)) M2 = some (.fl ((List.replicate many.toNat one).map D.int),M2):=by
   unfold zDS;dsimp only [zA8,zEi];rw [zQV ⟨by omega,by omega,zU (by simp; omega)⟩];have:(List.replicate many.toNat [D.int one]).flatten = (List.replicate many.toNat one).map D.int:=by
    rw [List.map_replicate];generalize many.toNat = q;induction q with
    | zero=>rfl
    | succ q ih=>rw [zRZ,zSF,ih,zRZ]; rfl
   rw [this]
  refine zE er (zc ?_);rw [zFw];refine new M2 _ nw2 ⟨by simp; omega,fun x hx=>?_⟩;rw [(List.mem_replicate.mp hx).2]; exact ⟨o0,o1⟩
 rw [zQY (by simpa using w5),zAE,zK,zF,zAK];refine zE (isw 6 _ _ rfl) ?_;by_cases w6:way = 6
 ·rw [zQV (by simpa using w6),zBv];have hen:zGu (zC 3) [some (.ref n),some (.int many),some (.int way),some (.ref j3),none,some (.int one),some (.int oth),none,none,none] M2 = some (((List.range c.length).zip c).map fun q=>D.tup [.int (q.1:Nat),.int q.2],zGQ (.dat (.ref j3)) (c.map D.int),M2):=by
   unfold zGu;rw [show zC 3 [some (.ref n),some (.int many),some (.int way),some (.ref j3),none,some (.int one),some (.int oth),none,none,none] M2 = some (.dat (.ref j3),M2) from rfl];dsimp only;rw [zY e3];dsimp only;unfold zGv;rw [zQP,List.zip_map_right,zQe];rfl
  have step:∀ q ∈ (List.range c.length).zip c,(0 <= (if (q.1:Int) <= one then q.2 % (one + 1) else one + 1 + q.2 % (many - one - 1)) /\ (if (q.1:Int) <= one then q.2 % (one + 1) else one + 1 + q.2 % (many - one - 1)) < many) /\ (one < (q.1:Int) -> 0 < many - one - 1):=by
   intro q hq;have hq1:=zQu.mp (List.of_mem_zip hq).1;by_cases hle:(q.1:Int) <= one
   ·rw [zQV hle];have:=Int.emod_nonneg q.2 (show one + 1 ≠ 0 by omega);have:=Int.emod_lt_of_pos q.2 (show 0 < one + 1 by omega);omega
   ·rw [zQY hle];have h1:0 < many - one - 1:=by omega
    have:=Int.emod_nonneg q.2 (show many - one - 1 ≠ 0 by omega);have:=Int.emod_lt_of_pos q.2 h1;omega
  have ec:=zAX (own:=[4,7]) (g:=zBE 4 7) (te:=vIf (tst (fOp kLe (zC 4) (zC 5))) (fOp zB0 (zC 7) (fOp zAk (zC 5) (fC (.int 1)))) (fOp zAk (fOp zAk (zC 5) (fC (.int 1))) (fOp zB0 (zC 7) (fOp zHj (fOp zHj (zC 1) (zC 5)) (fC (.int 1)))))) ((List.range c.length).zip c) (fun q=>D.tup [.int (q.1:Nat),.int q.2]) (fun q=> .int (if (q.1:Int) <= one then q.2 % (one + 1) else one + 1 + q.2 % (many - one - 1))) hen ?_ ?_ ?_
  ·refine zE ec (zc ?_);rw [zFw,show (fun q:Nat × Int=>D.int (if (q.1:Int) <= one then q.2 % (one + 1) else one + 1 + q.2 % (many - one - 1))) = D.int ∘ (fun q:Nat × Int=>(if (q.1:Int) <= one then q.2 % (one + 1) else one + 1 + q.2 % (many - one - 1))) from rfl,<- zQe];refine new M2 _ nw2 ⟨by simp; omega,fun x hx=>?_⟩;obtain ⟨q,hq,rfl⟩:=zQX.mp hx;exact (step q hq).1
  ·exact .inl e3
  ·simp; omega
  ·intro q hq;refine ⟨_,rfl,?_⟩;have hs:=step q hq;unfold vIf;have ht:tst (fOp kLe (zC 4) (zC 5)) [some (.ref n),some (.int many),some (.int way),some (.ref j3),some (.int (q.1:Nat)),some (.int one),some (.int oth),some (.int q.2),none,none] M2 = some (decide ((q.1:Int) <= one),M2):=zAL (zN rfl rfl (zR (zPo.mpr ⟨rfl,rfl⟩)));show (match tst (fOp kLe (zC 4) (zC 5)) [some (.ref n),some (.int many),some (.int way),some (.ref j3),some (.int (q.1:Nat)),some (.int one),some (.int oth),some (.int q.2),none,none] M2 with | some (true,M1)=>_ | some (false,M1)=>_ | none=>none) = _;rw [ht];by_cases hle:(q.1:Int) <= one
   ·rw [zRO hle,zQV hle];exact zN (x:=.dat (.int q.2)) (y:=.dat (.int (one + 1))) rfl rfl (zCN (by omega))
   ·rw [zQp hle,zQY hle];exact zN (x:=.dat (.int (one + 1))) rfl (zN (x:=.dat (.int q.2)) (y:=.dat (.int (many - one - 1))) rfl rfl (zCN (hs.2 (by omega)))) rfl
 rw [zQY (by simpa using w6),zAE,zK,zF,zP];have elr:∀ {σ:Sd} {A:Mem},σ[1]? = some (some (.int many)) -> zBU (zC 1) σ A = some (.fl (((List.range many.toNat).map fun (k:Nat)=>(k:Int)).map D.int),A):=fun {σ A} e=>by
  unfold zBU zC;rw [e];dsimp only;rw [zQV ⟨by omega,by omega⟩,zDp]
 refine zE (elr rfl) (zc ?_);rw [zK];have nw4:=nw2.trans (nw2.gen.lst (((List.range many.toNat).map fun (k:Nat)=>(k:Int)).map D.int) (zb _ _));have e8:(M2 ++ [MO.lst (((List.range many.toNat).map fun (k:Nat)=>(k:Int)).map D.int)])[M2.length]? = some (.lst (((List.range many.toNat).map fun (k:Nat)=>(k:Int)).map D.int)):=zX _ _;have e3':(M2 ++ [MO.lst (((List.range many.toNat).map fun (k:Nat)=>(k:Int)).map D.int)])[j3]? = some (.lst (c.map D.int)):=by
  rw [zQN (zQJ.mp e3).1]; exact e3
 have hj8:M.length <= M2.length:=nw2.len;have hj38:j3 < M2.length:=(zQJ.mp e3).1;generalize hM4:M2 ++ [MO.lst (((List.range many.toNat).map fun (k:Nat)=>(k:Int)).map D.int)] = M4 at nw4 e8 e3';generalize hj8':M2.length = j8 at e8 hj8 hj38;have cu:=zON (many:=many) (by omega);generalize hup:((List.range many.toNat).map fun (k:Nat)=>(k:Int)) = up at e8 cu elr;rw [zF,zAK];refine zE (isw 3 _ _ rfl) ?_;by_cases w3:way = 3
 ·rw [zQV (by simpa using w3),zBv];have s1:=slL (f:=zC 8) (fl:=zAQ (fC (.int 1))) (fh:=zAf) (σ:=[some (.ref n),some (.int many),some (.int way),some (.ref j3),none,some (.int one),some (.int oth),none,some (.ref j8),none]) rfl rfl (zo e8) (oS (i:=1) rfl) rfl;have s2:=slL (f:=zC 8) (fl:=zAf) (fh:=zAQ (fC (.int 1))) (σ:=[some (.ref n),some (.int many),some (.int way),some (.ref j3),none,some (.int one),some (.int oth),none,some (.ref j8),none]) rfl rfl (zo e8) rfl (oS (i:=1) rfl);have hul:up.length = many.toNat:=by have:=cu.1; omega
  rw [zIl (by decide) (by rw [zQP]; omega)] at s1;rw [zFL] at s2;refine zAe.mpr (zE s1 (zE s2 (zHx rfl rfl (by simp; omega) (zc ?_))));rw [zFw,show (1:Int).toNat = 1 from rfl,<- List.map_drop,<- List.map_take,<- zQ8];refine new M4 _ nw4 ⟨by simp; omega,fun x hx=>?_⟩;rcases zQg.mp hx with q | q
  ·exact cu.2 x (List.mem_of_mem_drop q)
  ·exact cu.2 x (List.mem_of_mem_take q)
 rw [zQY (by simpa using w3),zAE,zK,zF]
 have tail:∀ (y7 y9:Option D) (A:Mem) (j:Nat) (c':List Int),Nw M A n k -> M.length <= j -> A[j]? = some (.lst (c'.map D.int)) -> Col many c' ->
   OkS (zT (sIf (tst (fOp (kIn false) (zC 2) (zAs (zD (toD (fC (.int 2))) (zD (toD (fC (.int 4))) zH))))) (zHz (fOp kIx (zC 8) (zC 6)) (zC 8) (zC 5)) zAp) (zAq (zC 8)) [some (.ref n),some (.int many),some (.int way),some (.ref j3),none,some (.int one),some (.int oth),y7,some (.ref j),y9] A) fun o x M1=>match o with | .ret d=>∃ j c,d = .ref j /\ M1[j]? = some (.lst (c.map D.int)) /\ Col many c /\ M.length <= j /\ Nw M M1 n k | .nx=>∃ j c,D.non = .ref j /\ M1[j]? = some (.lst (c.map D.int)) /\ Col many c /\ M.length <= j /\ Nw M M1 n k | _=>False:=by
  intro y7 y9 A j c' nw hj ej hc';rw [zF,zAK];have hin:tst (fOp (kIn false) (zC 2) (zAs (zD (toD (fC (.int 2))) (zD (toD (fC (.int 4))) zH)))) [some (.ref n),some (.int many),some (.int way),some (.ref j3),none,some (.int one),some (.int oth),y7,some (.ref j),y9] A = some ([2,4].any fun y:Int=>decide (y = way),A):=by
   refine zAL (zN (x:=.dat (.int way)) (y:=.dat (.tup [.int 2,.int 4])) rfl ?_ rfl);unfold zAs;rw [zAD (d:=.int 2) rfl (zp (d:=.int 4) rfl)];dsimp only;rw [zQV (zU (by simp))]
  refine zE hin ?_;have hcl':c'.length = many.toNat:=by have:=hc'.1; omega
  by_cases hb:([2,4].any fun y:Int=>decide (y = way)) = true
  ·rw [zQV hb,zIC];refine zE (zN (x:=.dat (.ref j)) (y:=.dat (.int oth)) rfl rfl (zA6 (zY ej) (zCC p0 (by omega)))) ?_;rw [zG];refine zj.mpr ⟨_,rfl,zj.mpr ⟨_,rfl,?_⟩⟩;rw [zG];have eo:one = ((one.toNat:Nat):Int):=by omega
   refine ⟨A.set j (.lst ((c'.map D.int).set one.toNat (.int (c'.getD oth.toNat 0)))),?_,?_⟩
   ·have:=zGx (k:=one.toNat) (d:=.int (c'.getD oth.toNat 0)) ej (by rw [zQP]; omega);rw [<- eo] at this; exact this
   rw [zK];have hlj:j < A.length:=(zQJ.mp ej).1;refine zAo rfl ⟨j,c'.set one.toNat (c'.getD oth.toNat 0),rfl,?_,zKU hc' (by omega),hj,?_⟩
   ·rw [zRA hlj,List.map_set]
   ·refine nw.setB h hj ?_;rw [<- List.map_set]; exact zb _ _
  ·rw [zQY hb,zAE,zK];exact zAo rfl ⟨j,c',rfl,ej,hc',hj,nw⟩
 rw [zAK];refine zE (M:=M4) (a:=decide (way < 3)) (zAL (zN (x:=.dat (.int way)) rfl rfl (zR (zNp.mpr ⟨rfl,rfl⟩)))) ?_;by_cases wl:way < 3
 ·rw [zQV (by simpa using wl),zF,zP];refine zE (elr rfl) (zc ?_);rw [zK,zP];have nw5:=nw4.trans (nw4.gen.lst (up.map D.int) (zb _ _));have e9:(M4 ++ [MO.lst (up.map D.int)])[M4.length]? = some (.lst (up.map D.int)):=zX _ _;have e3'':(M4 ++ [MO.lst (up.map D.int)])[j3]? = some (.lst (c.map D.int)):=by
   rw [zQN (zQJ.mp e3').1]; exact e3'
  have hj9:M.length <= M4.length:=nw4.len;have hj39:j3 < M4.length:=(zQJ.mp e3').1;generalize hM5:M4 ++ [MO.lst (up.map D.int)] = M5 at nw5 e9 e3'';generalize hj9':M4.length = j9 at e9 hj9 hj39;have hul:up.length = many.toNat:=by have:=cu.1; omega
  refine zCX.mpr ⟨_,_,_,zAl (x:=.dat (.ref j3)) rfl (zY e3''),by rw [zQP]; exact zU (by omega),?_⟩
  refine Ok.mono (zA7 (I:=fun r acc M'=>∃ (r' a left:List Int),r = r'.map D.int /\ acc = a.map D.int /\ (a.length + r'.length:Nat) = many.toNat /\ (∀ x ∈ a,0 <= x /\ x < many) /\ left.length = r'.length /\ (∀ x ∈ left,0 <= x /\ x < many) /\ M'[j9]? = some (.lst (left.map D.int)) /\ M'[j3]? = some (.lst (c.map D.int)) /\ (∀ x ∈ r',0 <= x) /\ Nw M M' n k)
   (Q:=fun acc M'=>∃ a:List Int,acc = a.map D.int /\ Col many a /\ Nw M M' n k) ?_ ?_ _ [] _ ⟨c,[],up,rfl,rfl,by simp; omega,(fun _ h=>by cases h),by omega,cu.2,e9,e3'',(fun x hx=>(hc x hx).1),nw5⟩) ?_
  ·rintro x r acc M' ⟨r',a,left,hr,rfl,hal,ha,hll,hlf,e9',e3s,hr0,nw⟩;obtain ⟨g,r'',rfl,rfl,rfl⟩:=zAS hr;refine ⟨.inl e3s,_,rfl,zDA.mpr ?_⟩;rw [zQV rfl];have hg0:=hr0 g zQU;have hlen0:0 < left.length:=by rw [hll]; simp
   have hz:left.length <= 1000:=by rw [hll]; omega
   have ei:fOp zB0 (zC 7) (fB zAW (zQ (zC 9) zh)) [some (.ref n),some (.int many),some (.int way),some (.ref j3),none,some (.int one),some (.int oth),some (.int g),some (.ref j8),some (.ref j9)] M' = some (.dat (.int ((g.toNat % left.length:Nat):Int)),M'):=by
    have:=zCl (f:=zC 9) (σ:=[some (.ref n),some (.int many),some (.int way),some (.ref j3),none,some (.int one),some (.int oth),some (.int g),some (.ref j8),some (.ref j9)]) (M:=M') rfl (zY e9');rw [zQP] at this;refine zN (x:=.dat (.int g)) rfl this ?_;rw [zCN (by omega)];rw [show ((g.toNat % left.length:Nat):Int) = g % left.length by rw [Int.natCast_emod,Int.toNat_of_nonneg hg0]]
   have hlt:g.toNat % left.length < left.length:=Nat.mod_lt _ hlen0;refine zEL.mpr (zj.mpr ⟨_,rfl,⟨_,zo e9'⟩,zE (zp ei) ?_⟩);have hget:(left.map D.int)[g.toNat % left.length]? = some (.int (left[g.toNat % left.length])):=by
    rw [zQd,zQK hlt]; rfl
   refine zN0 e9' hget (by omega) ?_;rw [zG];have hl9:j9 < M'.length:=(zQJ.mp e9').1;refine ⟨r'',a ++ [left[g.toNat % left.length]],left.eraseIdx (g.toNat % left.length),rfl,by simp,by simp at hal ⊢; omega,fun x hx=>?_,?_,fun x hx=>hlf x (List.mem_of_mem_eraseIdx hx),?_,?_,fun x hx=>hr0 x (zQT _ hx),?_⟩
   ·rcases zQg.mp hx with q | q
    ·exact ha x q
    ·have:x = left[g.toNat % left.length]:=by simpa using q
     rw [this]; exact hlf _ (zQo hlt)
   ·rw [List.length_eraseIdx_of_lt hlt,hll]; simp
   ·rw [zRA hl9,zC3]
   ·rw [zQk (by omega)]; exact e3s
   ·refine nw.setB h hj9 ?_;rw [<- zC3]; exact zb _ _
  ·rintro acc M' ⟨r',a,left,hr,rfl,hal,ha,hll,hlf,e9',e3s,hr0,nw⟩;have:r' = []:=by cases r' with | nil=>rfl | cons _ _=>cases hr
   subst this;exact ⟨.inl e3s,a,rfl,⟨by simp at hal; omega,ha⟩,nw⟩
  ·rintro ys M' ⟨a,ea,hca,nw⟩;rw [List.nil_append] at ea;subst ea;refine zc ?_;rw [zK];exact tail _ _ _ M'.length a (nw.trans (nw.gen.lst _ (zb _ _))) nw.len (zX _ _) hca
 ·rw [zQY (by simpa using wl),zAE,zK];exact tail _ _ M4 j8 up nw4 hj8 e8 cu
def zBt (many:Int) (cs:List (List Int)):List (List Int):=(List.range many.toNat).map fun r=>cs.map fun c=>c.getD r 0
theorem zJj (h0:0 < many) (hc:∀ c ∈ cs,Col many c) (hl:0 < cs.length):IsM (zBt many cs) cs.length:=by
 have hlen:(zBt many cs).length = many.toNat:=by unfold zBt; simp
 refine ⟨by omega,hl,fun r hr=>?_⟩;rw [hlen];unfold zBt at hr;obtain ⟨k,hk,rfl⟩:=zQX.mp hr;refine ⟨by simp,fun g hg=>?_⟩;obtain ⟨c,hcm,rfl⟩:=zQX.mp hg;have:=hc c hcm;have h1:=this.1;have:=zFp this (j:=k) (by have:=zQu.mp hk; omega);omega
def zFt (M:Mem) (lo:Nat) (many:Int) (js:List Nat) (cs:List (List Int)):Prop:=js.length = cs.length /\ ∀ (i:Nat) j c,js[i]? = some j -> cs[i]? = some c -> lo < j /\ M[j]? = some (.lst (c.map D.int)) /\ Col many c
theorem zEH {M:Mem} {n k:Nat} {most lm:Int} (h:Gen M n k) (hm:0 < most) (hm1:most <= 900) (hl:0 < lm) (hl1:lm <= 900) :
  Ok (zAR [.ref n,.int most,.int lm] M) fun d M'=>(∃ zA l,d = mD zA /\ IsM zA l /\ (zA.length <= 8 \/ (zA.length:Int) <= most) /\ (l:Int) <= lm) /\ Nw M M' n k:=by
 obtain ⟨hn,hk⟩:=h.lt;unfold zAR;refine zCy ?_;rw [zAx];unfold zBc;show OkS (zT _ _ [some (.ref n),some (.int most),some (.int lm),none,none,none,none,none,none,none,none] M) _;rw [zF,zP];refine zAe.mpr (zCo.mpr ?_);refine zA5.mpr (zw.mpr (zAB.mpr (zj.mpr ⟨_,rfl,?_⟩)));rw [zG,zw,zAB,zAe];simp only [zw,zAB,zCo,zj,zG,zII,zBT,zAJ,List.getElem?_cons_succ,List.getElem?_cons_zero,Option.some.injEq,exists_eq_left'];refine ⟨zU (by simp),zq h rfl rfl (by decide) (by decide) fun i M0 i0 i1 nw0 _=>?_⟩;obtain ⟨mm,em,m0,m1,m2⟩:∃ mm:Int,[D.int 3,D.int 7,D.int most][i.toNat]? = some (.int mm) /\ 0 < mm /\ mm <= 900 /\ (mm <= 7 \/ mm <= most):=by
  have hi:i = 0 \/ i = 1 \/ i = 2:=by omega
  rcases hi with rfl | rfl | rfl
  ·exact ⟨3,rfl,by decide,by decide,.inl (by decide)⟩
  ·exact ⟨7,rfl,by decide,by decide,.inl (by decide)⟩
  ·exact ⟨most,rfl,hm,hm1,.inr (Int.le_refl _)⟩
 refine zKd zCJ (zFa i0 em) ?_;rw [zG];refine Ok.mono (zFT nw0.gen m0 (by omega)) ?_;rintro d M1 ⟨⟨R,rfl,R0,R1⟩,nw1,_⟩;rw [zDN,zG,zK];have nw1':=nw0.trans nw1;generalize eR:1 + R = many;have r0:0 < many:=by omega
 have r1:many <= 900:=by omega
 have r2:many <= 7 \/ many <= most:=by omega
 rw [zF,zP];refine zAe.mpr (zCo.mpr (zq nw1'.gen rfl rfl hl (by omega) fun L M2 L0 L1 nw2 _=>zDN.mpr ?_));rw [zG,zK,zF,zP];generalize eL:1 + L = cnt;have nw2':=nw1'.trans nw2;refine zq nw2'.gen rfl rfl (by decide) (by decide) fun srt M3 s0 s1 nw3 _=>?_;have nw3':=nw2'.trans nw3;rw [zG,zK,zF,zP];refine zBT.mpr (zAJ.mpr ⟨zU (by simp),zc ?_⟩);rw [zK,zF,zAn];have nw4:=nw3'.trans (nw3'.gen.lst [] rfl);have e6:(M3 ++ [MO.lst ([]:List D)])[M3.length]? = some (.lst []):=zX _ _;have hj6:M.length <= M3.length:=nw3'.len;generalize hM4:M3 ++ [MO.lst ([]:List D)] = M4 at nw4 e6;generalize hj6':M3.length = j6 at e6 hj6;refine ⟨_,_,_,zBi rfl (by omega) (by omega),?_⟩;refine zFR (n:=cnt.toNat) (I:=fun i σ M'=>∃ x y,σ = [some (.ref n),some (.int most),some (.int lm),some (.int many),some (.int cnt),some (.int srt),some (.ref j6),x,y,none,none] /\ ∃ (js:List Nat) (cs:List (List Int)),M'[j6]? = some (.lst (js.map D.ref)) /\ zFt M' j6 many js cs /\ cs.length = i /\ Nw M M' n k) ?_ ?_ _ _ ⟨none,none,rfl,[],[],e6,⟨rfl,fun i j c h=>by simp at h⟩,rfl,nw4⟩
 ·rintro i σ M' hi ⟨x,y,rfl,js,cs,ej,hcs,hl,nw⟩;refine ⟨_,rfl,?_⟩;rw [zF,zP];have hmod:∃ w0:Int,fOp kIx (zBA (zD (toD (fC (.int 3))) (zD (toD (fC (.int 4))) zH))) (fOp zB0 (zC 7) (fC (.int 2))) [some (.ref n),some (.int most),some (.int lm),some (.int many),some (.int cnt),some (.int srt),some (.ref j6),some (.int (i:Nat)),y,none,none] M' = some (.dat (.int w0),M'):=by
   have ei:fOp zB0 (zC 7) (fC (.int 2)) [some (.ref n),some (.int most),some (.int lm),some (.int many),some (.int cnt),some (.int srt),some (.ref j6),some (.int (i:Nat)),y,none,none] M' = some (.dat (.int ((i:Int) % 2)),M'):=zN (x:=.dat (.int (i:Nat))) rfl rfl (zCN (by decide));have el:zBA (zD (toD (fC (.int 3))) (zD (toD (fC (.int 4))) zH)) [some (.ref n),some (.int most),some (.int lm),some (.int many),some (.int cnt),some (.int srt),some (.ref j6),some (.int (i:Nat)),y,none,none] M' = some (.fl [.int 3,.int 4],M'):=zR (zBT.mpr (zE (zAD (d:=.int 3) rfl (zp (d:=.int 4) rfl)) ⟨zU (by simp),rfl,rfl⟩));have h2:(i:Int) % 2 = 0 \/ (i:Int) % 2 = 1:=by omega
   rcases h2 with q | q
   ·rw [q] at ei; exact ⟨3,zN el ei rfl⟩
   ·rw [q] at ei; exact ⟨4,zN el ei rfl⟩
  obtain ⟨w0,ew⟩:=hmod;refine zE ew ?_;rw [zG,zK]
  have fin:∀ (way:Int) (M5:Mem),Nw M' M5 n k -> OkS (zAY (fM zAA (zC 6) (zD (toD (zW zAF (zD (toD (zC 0)) (zD (toD (zC 3)) (zD (toD (zC 8)) zH))))) zH)) [some (.ref n),some (.int most),some (.int lm),some (.int many),some (.int cnt),some (.int srt),some (.ref j6),some (.int (i:Nat)),some (.int way),none,none] M5)
    fun o σ2 M2=>match o with | .nx=>(∃ x y,σ2 = [some (.ref n),some (.int most),some (.int lm),some (.int many),some (.int cnt),some (.int srt),some (.ref j6),x,y,none,none] /\ ∃ (js:List Nat) (cs:List (List Int)),M2[j6]? = some (.lst (js.map D.ref)) /\ zFt M2 j6 many js cs /\ cs.length = i + 1 /\ Nw M M2 n k) | _=>False:=by
   intro way M5 nw5;have ej5:=nw5.get ej (by omega) (by omega);rw [zAz];refine zEL.mpr (zj.mpr ⟨_,rfl,⟨_,zo ej5⟩,zw.mpr (zAB.mpr (zA5.mpr (zE (zAD rfl (zAD rfl (zp rfl))) ?_)))⟩);refine Ok.mono (zIq nw5.gen r0 (by omega)) ?_;rintro d M6 ⟨j,c,rfl,ec,cc,hj,nw6⟩;have ej6:=nw6.get ej5 (by omega) (by omega);rw [zG,zAJ,zBk ej6 (by rw [zQP,hcs.1,hl]; exact zQf (m:=95000) (by omega) (zU (by omega)))];have hlt6:j6 < M5.length:=(zQJ.mp ej5).1;have hlt6':j6 < M6.length:=zQf hlt6 nw6.len;refine ⟨_,_,rfl,js ++ [j],cs ++ [c],?_,⟨by simp [hcs.1],fun a b c' h1 h2=>?_⟩,by simp [hl],?_⟩
   ·rw [zRA hlt6',zQ8]; rfl
   ·have keep:∀ {b:Nat} {u:MO},j6 < b -> M6[b]? = some u -> (M6.set j6 (.lst (js.map D.ref ++ [.ref j])))[b]? = some u:=fun {b u} hb e=>by rw [zQk (by omega)]; exact e
    by_cases ha:a < js.length
    ·rw [zQN ha] at h1;rw [zQN (by rw [<- hcs.1]; exact ha)] at h2;obtain ⟨q1,q2,q3⟩:=hcs.2 a b c' h1 h2;exact ⟨q1,keep q1 (nw6.get (nw5.get q2 (by omega) (by omega)) (by omega) (by omega)),q3⟩
    ·have ha':a = js.length:=by
      have:=(zQJ.mp h1).1;simp at this; omega
     subst ha';rw [zRQ (zQM _)] at h1;rw [zRQ (by rw [hcs.1]; exact zQM _)] at h2;simp at h1;rw [hcs.1] at h2;simp at h2;subst h1 h2;exact ⟨by omega,keep (by omega) ec,cc⟩
   ·refine ((nw.trans nw5).trans nw6).setB h hj6 ?_;show D.unds _ _ = true;have w1:D.unds M6.length (js.map D.ref) = true:=nw6.gen.wf j6 _ ej6;have hlj:j < M6.length:=(zQJ.mp ec).1;rw [zC7,w1];simp [D.unds,D.und,hlj]
  have two:∀ (way:Int) (R:Out -> Sd -> Mem -> Prop),(∀ σ2 M2,(∃ x y,σ2 = [some (.ref n),some (.int most),some (.int lm),some (.int many),some (.int cnt),some (.int srt),some (.ref j6),x,y,none,none] /\ ∃ (js:List Nat) (cs:List (List Int)),M2[j6]? = some (.lst (js.map D.ref)) /\ zFt M2 j6 many js cs /\ cs.length = i + 1 /\ Nw M M2 n k) -> R .nx σ2 M2) ->
    OkS (zT (sIf (tst (fOp kEq (zC 5) (fC (.int 9)))) (zn 8 (zW zM (zD (toD (zC 0)) (zD (toD (fC (.int 7))) zH)))) zAp) (zAY (fM zAA (zC 6) (zD (toD (zW zAF (zD (toD (zC 0)) (zD (toD (zC 3)) (zD (toD (zC 8)) zH))))) zH))) [some (.ref n),some (.int most),some (.int lm),some (.int many),some (.int cnt),some (.int srt),some (.ref j6),some (.int (i:Nat)),some (.int way),none,none] M') R:=by
   intro way R hR;have go:∀ (way:Int) (M5:Mem),Nw M' M5 n k -> OkS (zAY (fM zAA (zC 6) (zD (toD (zW zAF (zD (toD (zC 0)) (zD (toD (zC 3)) (zD (toD (zC 8)) zH))))) zH)) [some (.ref n),some (.int most),some (.int lm),some (.int many),some (.int cnt),some (.int srt),some (.ref j6),some (.int (i:Nat)),some (.int way),none,none] M5) R:=fun way M5 nw5=>OkS.mono (fin way M5 nw5) (by
    intro o σ2 M2 z;cases o with
    | nx=>exact hR _ _ z
    | _=>exact z.elim)
   rw [zF,zAK];refine zE (M:=M') (a:=decide (srt = 9)) (zAL (zN (x:=.dat (.int srt)) rfl rfl (zR (zGc.mpr ⟨rfl,rfl⟩)))) ?_;by_cases h9:srt = 9
   ·rw [zQV (by simpa using h9),zP];refine zq nw.gen rfl rfl (by decide) (by decide) fun w M5 _ _ nw5 _=>?_;rw [zG,zK];exact go w M5 nw5
   ·rw [zQY (by simpa using h9),zAE,zK];exact go way M' (Nw.refl nw.gen)
  rw [zF,zAK];refine zE (M:=M') (a:=decide (srt < 7)) (zAL (zN (x:=.dat (.int srt)) rfl rfl (zR (zNp.mpr ⟨rfl,rfl⟩)))) ?_;by_cases h7:srt < 7
  ·rw [zQV (by simpa using h7),zP];refine zj.mpr ⟨_,rfl,?_⟩;rw [zG,zK];exact two srt _ fun σ2 M2 z=>z
  ·rw [zQY (by simpa using h7),zAE,zK];exact two w0 _ fun σ2 M2 z=>z
 ·rintro σ M' ⟨x,y,rfl,js,cs,ej,hcs,hl,nw⟩;rw [zK]
  have last:∀ (A:Mem) (j:Nat) (js':List Nat) (cs':List (List Int)),Nw M A n k -> A[j]? = some (.lst (js'.map D.ref)) -> zFt A j6 many js' cs' -> cs'.length = cnt.toNat ->
    OkS (zAq (fB zAU (zQ (zk [10] (zAC (zD (toD (zC 3)) zH)) (gN 10) zx (fB zAU (zQ (zk [9] (zAT (zC 6)) (gN 9) zx (fOp kIx (zC 9) (zC 10))) zh))) zh)) [some (.ref n),some (.int most),some (.int lm),some (.int many),some (.int cnt),some (.int srt),some (.ref j),x,y,none,none] A)
     fun o x M1=>match o with
     | .ret d=>(D.und M.length d = true /\ M.length <= M1.length /\ ∀ (j:Nat) u,j < M.length -> M1[j]? = some u -> MO.und M.length u = true) /\ (∃ zA l,d = mD zA /\ IsM zA l /\ (zA.length <= 8 \/ (zA.length:Int) <= most) /\ (l:Int) <= lm) /\ Nw M (M1.take M.length) n k
     | .nx=>(D.und M.length D.non = true /\ M.length <= M1.length /\ ∀ (j:Nat) u,j < M.length -> M1[j]? = some u -> MO.und M.length u = true) /\ (∃ zA l,D.non = mD zA /\ IsM zA l /\ (zA.length <= 8 \/ (zA.length:Int) <= most) /\ (l:Int) <= lm) /\ Nw M (M1.take M.length) n k
     | _=>False:=by
   intro A j js' cs' nwA eA hA hlA;have hcol:∀ c ∈ cs',Col many c:=fun c hc=>by
    obtain ⟨i,hi,rfl⟩:=List.mem_iff_getElem.mp hc;exact (hA.2 i (js'[i]'(by rw [hA.1]; exact hi)) cs'[i] (zQK _) (zQK _)).2.2
   have hlen:(zBt many cs').length = many.toNat:=by unfold zBt; simp
   refine zAo (d:=mD (zBt many cs')) ?_ ⟨⟨zHc _,nwA.len,nwA.wf0 h⟩,⟨zBt many cs',cs'.length,rfl,zJj r0 hcol (by omega),by omega,by omega⟩,nwA.trim h⟩;refine (zBS (zAX (List.range many.toNat) (fun k=>D.int k) (fun k=> .tup ((cs'.map fun c=>c.getD k 0).map D.int)) (zFF (f:=zC 3) rfl (by omega) (by omega)) trivial (by simp; omega) fun r hr=>⟨_,rfl,?_⟩) zCJ).trans ?_
   ·have hr':=zQu.mp hr;refine (zBS (zAX (gd:=zGQ (.dat (.ref j)) (js'.map D.ref)) (List.range js'.length) (fun i=>D.ref (js'.getD i 0)) (fun i=> .int ((cs'.getD i []).getD r 0)) ?_ ?_ (by rw [List.length_range,hA.1,hlA]; omega) fun i hi=>⟨_,rfl,?_⟩) zCJ).trans ?_
    ·rw [show ((List.range js'.length).map fun i=>D.ref (js'.getD i 0)) = js'.map D.ref by
      apply List.ext_getElem
      ·simp
      ·intro i h1 h2;simp at h1;simp [h1]]
     exact zAl (x:=.dat (.ref j)) rfl (zY eA)
    ·exact .inl eA
    ·have hi':=zQu.mp hi;have hc':i < cs'.length:=by rw [<- hA.1]; exact hi'
     have ej':js'[i]? = some (js'.getD i 0):=by rw [zQL,zQK hi']; rfl
     have ec':cs'[i]? = some (cs'.getD i []):=by rw [zQL,zQK hc']; rfl
     obtain ⟨_,q2,q3⟩:=hA.2 i _ _ ej' ec';have hz:=q3.1;exact zN (x:=.dat (.ref (js'.getD i 0))) (y:=.dat (.int (r:Nat))) rfl rfl (zA6 (zY q2) (zCC (by omega) (by omega)))
    ·congr 3;rw [zQe];refine congrArg D.tup ?_;apply List.ext_getElem
     ·simp [hA.1]
     ·intro i h1 h2;simp at h1 h2;have h2':i < cs'.length:=h2;simp [h2']
   ·unfold mD zBt; rw [zQe]; rfl
  rw [zF,zAK];refine zE (M:=M') (a:=decide (srt = 8)) (zAL (zN (x:=.dat (.int srt)) rfl rfl (zR (zGc.mpr ⟨rfl,rfl⟩)))) ?_;by_cases h8:srt = 8
  ·rw [zQV (by simpa using h8),zP];have s2:=slL (f:=zC 6) (fl:=zAf) (fh:=zAQ (fC (.int 1))) (σ:=[some (.ref n),some (.int most),some (.int lm),some (.int many),some (.int cnt),some (.int srt),some (.ref j6),x,y,none,none]) rfl rfl (zo ej) rfl (oS (i:=1) rfl);rw [zFL] at s2;have hjl:0 < js.length:=by rw [hcs.1]; omega
   have hcl:0 < cs.length:=by omega
   obtain ⟨j0,jr,rfl⟩:∃ a b,js = a :: b:=by cases js with | nil=>simp at hjl | cons a b=>exact ⟨a,b,rfl⟩
   obtain ⟨c0,cr,rfl⟩:∃ a b,cs = a :: b:=by cases cs with | nil=>simp at hcl | cons a b=>exact ⟨a,b,rfl⟩
   rw [show ((j0 :: jr).map D.ref).take 1 = [D.ref j0] from rfl] at s2;have er:zDS (.fl [D.ref j0]) (.dat (.int cnt)) M' = some (.fl ((List.replicate cnt.toNat j0).map D.ref),M'):=by
    unfold zDS;dsimp only [zA8,zEi];rw [zQV ⟨by omega,by omega,zU (by simp; omega)⟩];have:(List.replicate cnt.toNat [D.ref j0]).flatten = (List.replicate cnt.toNat j0).map D.ref:=by
     rw [List.map_replicate];generalize cnt.toNat = q;induction q with
     | zero=>rfl
     | succ q ih=>rw [zRZ,zSF,ih,zRZ]; rfl
    rw [this]
   refine zAe.mpr (zE s2 (zj.mpr ⟨_,rfl,zE er (zc ?_)⟩));rw [zK];obtain ⟨q1,q2,q3⟩:=hcs.2 0 j0 c0 rfl rfl;have hlj:j0 < M'.length:=(zQJ.mp q2).1;refine last _ M'.length (List.replicate cnt.toNat j0) (List.replicate cnt.toNat c0) (nw.trans (nw.gen.lst _ (zC9 fun z hz=>?_))) (zX _ _) ⟨by simp,fun i j c h1 h2=>?_⟩ (by simp)
   ·obtain ⟨a,ha,rfl⟩:=zQX.mp hz;rw [(List.mem_replicate.mp ha).2];simp [D.und,hlj]
   ·have e1:j = j0:=(List.mem_replicate.mp (zQ7 h1)).2;have e2:c = c0:=(List.mem_replicate.mp (zQ7 h2)).2;subst e1 e2;exact ⟨q1,by rw [zQN hlj]; exact q2,q3⟩
  ·rw [zQY (by simpa using h8),zAE,zK];exact last M' j6 js cs nw ej hcs hl
noncomputable def zBR:FS:=(zT (zn 1 (zBA zH))
  (zT (zBb (zAT (zC 0)) (gN 2) (sIf (tst (fOp (kIn true) (zC 2) (zC 1))) (zAY (fM zAA (zC 1) (zD (toD (zC 2)) zH))) zAp))
  (zAq (fB zAU (zQ (zk [2] (zAT (zC 0)) (gN 2) zx (fM zCY (zC 1) (zD (toD (zC 2)) zH))) zh)))))
noncomputable def zv:FF:=zCw (zCG 3 zBR)
theorem zJV {xs:List Int} (h:zf M y = some (xs.map D.int)):kIn neg (.dat (.int g)) y M = some (.dat (.bl (if neg then !(xs.any fun y=>decide (y = g)) else xs.any fun y=>decide (y = g))),M):=by
 unfold kIn; dsimp only; rw [h]; dsimp only; rw [zCq]
theorem zLf (xs:List Int) (g:Int):(xs.any fun y=>decide (y = g)) = decide (g ∈ xs):=by
 induction xs with
 | nil=>rfl
 | cons x r ih=>
  rw [List.any_cons,ih];by_cases h:x = g
  ·subst h; simp
  ·have:¬ g = x:=fun e=>h e.symm;simp [h,this]
def zBn (xs:List Int):List Int:=xs.map fun x=>((zL xs).idxOf x:Int)
theorem zGN (xs:List Int):(zBn xs).length = xs.length:=by unfold zBn; simp
theorem zI6 {M:Mem} {xs:List Int} (h:M[j]? = some (.lst (xs.map D.int))) (hi:i ∈ xs) (hz:xs.length <= 90000):zCY (.dat (.ref j)) [.int i] M = some (.int (xs.idxOf i),M):=by
 unfold zCY; dsimp only; rw [h]; dsimp only; rw [zCq]; dsimp only; rw [zQV ⟨hi,hz⟩]
theorem zDb {M:Mem} (wf:∀ (j:Nat) u,M[j]? = some u -> MO.und M.length u = true) {xs:List Int} (hj:M[j]? = some (.lst (xs.map D.int))) (hz:xs.length <= 4000):zv [.ref j] M = some (tI (zBn xs),M):=by
 refine zR ?_;unfold zv;refine zCy ?_;rw [zAx];unfold zBR;have hjl:j < M.length:=(zQJ.mp hj).1;rw [zF,zP];refine zBT.mpr (zAJ.mpr ⟨zU (by simp),zc ?_⟩);rw [zK,zF,zAn];have ej:∀ u:MO,(M ++ [u])[j]? = some (.lst (xs.map D.int)):=fun u=>by rw [zQN hjl]; exact hj
 refine ⟨_,_,_,zAl (x:=.dat (.ref j)) rfl (zY (ej _)),?_⟩;refine zAZ (I:=fun r σ M'=>∃ (y:Option D) (a b:List Int),σ = [some (.ref j),some (.ref M.length),y] /\ r = b.map D.int /\ a ++ b = xs /\ M' = M ++ [.lst ((zL a).map D.int)]) ?_ ?_ _ _ _ ⟨none,[],xs,rfl,rfl,rfl,rfl⟩
 ·rintro x r σ M' ⟨y,a,b,rfl,hr,hab,rfl⟩;obtain ⟨g,b',rfl,rfl,rfl⟩:=zAS hr;refine ⟨.inl (ej _),_,rfl,?_⟩;have ek:(M ++ [MO.lst ((zL a).map D.int)])[M.length]? = some (.lst ((zL a).map D.int)):=zX _ _;have hin:zL (a ++ [g]) = ins (zL a) g:=by unfold zL; rw [List.foldl_append]; rfl
  rw [zAK];refine zE (M:=M ++ [MO.lst ((zL a).map D.int)]) (a:=!decide (g ∈ zL a)) ?_ ?_
  ·refine zAL (zN (x:=.dat (.int g)) (y:=.dat (.ref M.length)) rfl rfl ?_);rw [zJV (zY ek),zLf]; rfl
  have hla:a.length < xs.length:=by rw [<- hab]; simp
  have hli:=zB4 a;by_cases hg:g ∈ zL a
  ·rw [zQY (by simp [hg]),zAE];refine ⟨_,a ++ [g],b',rfl,rfl,by rw [<- hab]; simp,?_⟩;rw [hin]; unfold ins; rw [zQV hg]
  ·rw [zQV (by simp [hg]),zAz];refine zEL.mpr (zj.mpr ⟨_,rfl,⟨_,zo ek⟩,zE (zp (d:=.int g) rfl) ?_⟩);rw [zBk ek (by rw [zQP]; exact zQf (m:=95000) (by omega) (zU (by omega)))];refine ⟨_,a ++ [g],b',rfl,rfl,by rw [<- hab]; simp,?_⟩;rw [hin]; unfold ins; rw [zQY hg,List.set_append_right _ _ (zQM _)];simp
 ·rintro σ M' ⟨y,a,b,rfl,hr,hab,rfl⟩;have:b = []:=by cases b with | nil=>rfl | cons _ _=>cases hr
  subst this;rw [zQ0] at hab;subst hab;refine ⟨.inl (ej _),?_⟩;rw [zK];have ek:(M ++ [MO.lst ((zL a).map D.int)])[M.length]? = some (.lst ((zL a).map D.int)):=zX _ _;have hli:=zB4 a;refine zAo (d:=tI (zBn a)) ?_ ⟨⟨zAy _,by simp,fun i u hi e=>?_⟩,rfl,by simp⟩
  ·refine (zBS (zAX (gd:=zGQ (.dat (.ref j)) (a.map D.int)) a D.int (fun x=> .int ((zL a).idxOf x:Int)) (zAl (x:=.dat (.ref j)) rfl (zY (ej _))) (.inl (ej _)) (by omega) fun x hx=>⟨_,rfl,?_⟩) zCJ).trans ?_
   ·refine zR (zEL.mpr (zj.mpr ⟨_,rfl,⟨_,zo ek⟩,zE (zp (d:=.int x) rfl) (zE (zI6 ek ((zA3 a x).mpr hx) (by omega)) ⟨rfl,rfl⟩)⟩))
   ·unfold zBn tI; rw [zQe]; rfl
  ·rw [zQN hi] at e;exact wf i u e
theorem ntT (ha:a σ M = some (.dat (.bl k),M)):zCr (tst a) σ M = some (!k,M):=by
 refine zR (zIc.mpr (zE (zAL ha) ⟨rfl,rfl⟩))
theorem aC' {f:FE} {g:FA} {σ:Sd} {M M1 M2:Mem} {d:D} {ds:List D} (h:toD f σ M = some (d,M1)) (hg:g σ M1 = some (ds,M2)):zD (toD f) g σ M = some (d :: ds,M2):=by
 unfold zD; rw [h]; dsimp only; rw [hg]
theorem zKj (h:f σ M = some (.dat d,M)):toD f σ M = some (d,M):=by unfold toD; rw [h]
theorem zIU {M M1:Mem} (h:f σ M = some (.fl xs,M1)):toD f σ M = some (.ref M1.length,M1 ++ [.lst xs]):=by unfold toD; rw [h]
theorem zPM {g:FA} {σ:Sd} {M M1:Mem} {ds:List D} (h:g σ M = some (ds,M1)) (hz:ds.length <= 100000):zBA g σ M = some (.fl ds,M1):=by
 unfold zBA; rw [h]; dsimp only; rw [zQV (zU hz)]
theorem zJR {g:FA} {σ:Sd} {M M1:Mem} {ds:List D} (h:g σ M = some (ds,M1)) (hz:ds.length <= 100000):zAs g σ M = some (.dat (.tup ds),M1):=by
 unfold zAs; rw [h]; dsimp only; rw [zQV (zU hz)]
theorem zKg (hf:f σ M = some (.dat (.bl true),M)) (h:P .nx σ M):OkS (sIf (zCr (tst f)) a zAp σ M) P:=zK5 (ntT hf) h
theorem zMd (hf:f σ M = some (.dat (.int i),M)) (hg:g σ M = some (.dat (.int j),M)):fB zE4 (zQ f (zQ g zh)) σ M = some (.dat (.int (if j < i then j else i)),M):=by
 unfold fB zQ zh; rw [hf]; dsimp only; rw [hg]; rfl
theorem zMO {f:FE} {σ:Sd} {M M1:Mem} {xs:List D} (h:f σ M = some (.fl xs,M1)):zAT f σ M = some (xs,none,M1):=by
 unfold zAT; rw [h]; rfl
theorem zEz (h1:M[n]? = some (.lst xs)) (h2:M[m]? = some (.lst ys)) (hz:xs.length + ys.length <= 90000):zBK (.dat (.ref n)) [.ref m] M = some (.non,M.set n (.lst (xs ++ ys))):=by
 unfold zBK; dsimp only; rw [h1,h2]; dsimp only; rw [zQV (zU (by omega))]
noncomputable def zBx:FS:=(zT (zn 3 (zW zAR (zD (toD (zC 0)) (zD (toD (fC (.int 7))) (zD (toD (zC 2)) zH)))))
  (zT (zn 4 (fOp zAk (fB zAW (zQ (zC 3) zh)) (zW zM (zD (toD (zC 0)) (zD (toD (fOp zHj (fOp zAk (zC 1) (fC (.int 1))) (fB zAW (zQ (zC 3) zh)))) zH)))))
  (zT (zn 5 (fOp zDh (zBU (fB zAW (zQ (zC 3) zh))) (zk [6] (zAC (zD (toD (fOp zHj (zC 4) (fB zAW (zQ (zC 3) zh)))) zH)) (gN 6) zx (zW zM (zD (toD (zC 0)) (zD (toD (fB zAW (zQ (zC 3) zh))) zH))))))
  (zT (zn 7 (zW zM (zD (toD (zC 0)) (zD (toD (zC 4)) zH))))
  (zT (zn 5 (fOp zDh (fSl (zC 5) (zAQ (zC 7)) zAf) (fSl (zC 5) zAf (zAQ (zC 7)))))
  (zT (zn 8 (zBA zH))
  (zT (zBb (zAT (zC 5)) (gN 9) (zT (zn 10 (zBA zH))
  (zT (zBb (zAT (fOp kIx (zC 3) (zC 9))) (gN 11) (zT (zn 12 (zk [6] (zAC (zD (toD (zC 4)) zH)) (gN 6) (tst (fOp kEq (fOp kIx (zC 5) (zC 6)) (zC 11))) (zC 6)))
  (zAY (fM zAA (zC 10) (zD (toD (fOp kIx (zC 12) (zW zM (zD (toD (zC 0)) (zD (toD (fB zAW (zQ (zC 12) zh))) zH))))) zH)))))
  (zAY (fM zAA (zC 8) (zD (toD (fB zAU (zQ (zC 10) zh))) zH))))))
  (zAq (zAs (zD (toD (fB zAU (zQ (zC 8) zh))) (zD (toD (zC 5)) zH)))))))))))
noncomputable def zAt:FF:=zCG 13 zBx
noncomputable def zBu:FS:=(zT (sIf (tst (fOp kEq (zW zM (zD (toD (zC 0)) (zD (toD (fC (.int 2))) zH))) (fC (.int 0)))) (zEe (zBE 3 4) (zW zAt (zD (toD (zC 0)) (zD (toD (zC 1)) (zD (toD (zC 2)) zH))))) (zT (zn 3 (zW zAR (zD (toD (zC 0)) (zD (toD (zC 1)) (zD (toD (zC 2)) zH)))))
  (zT (zn 5 (fOp zAk (fC (.int 1)) (zW zM (zD (toD (zC 0)) (zD (toD (fB zAW (zQ (zC 3) zh))) zH)))))
  (zn 4 (zk [6] (zAT (zC 3)) (gN 6) zx (zW zM (zD (toD (zC 0)) (zD (toD (zC 5)) zH))))))))
  (zAq (zAs (zD (toD (zC 3)) (zD (toD (zW zv (zD (toD (zC 4)) zH))) zH)))))
noncomputable def zAw:FF:=zCw (zCG 7 zBu)
theorem zJa (h:Gen M n k) (h0:0 < few) (h1:few < 1073741824) (m1:xs.length <= 90000)
  (hf:f σ M = some (.dat (.tup xs),M)) (ha:∀ (x:D) (M:Mem),fa ((zFZ own σ).set i (some x)) M = some (.dat (.ref n),M)) (hb:∀ (x:D) (M:Mem),fb ((zFZ own σ).set i (some x)) M = some (.dat (.int few),M)) :
  Ok (zk own (zAT f) (gN i) zx (zW zM (zD (toD fa) (zD (toD fb) zH))) σ M) fun x M'=>(∃ c:List Int,x = .fl (c.map D.int) /\ c.length = xs.length /\ ∀ y ∈ c,0 <= y /\ y < few) /\ Nw M M' n k:=by
 refine zCX.mpr ⟨_,_,_,zId hf,zU (by omega),?_⟩;refine Ok.mono (zA7 (I:=fun r acc M2=>(∃ c:List Int,acc = c.map D.int /\ c.length + r.length = xs.length /\ ∀ y ∈ c,0 <= y /\ y < few) /\ Nw M M2 n k) (Q:=fun acc M2=>(∃ c:List Int,acc = c.map D.int /\ c.length = xs.length /\ ∀ y ∈ c,0 <= y /\ y < few) /\ Nw M M2 n k) ?_ ?_ _ [] _ ⟨⟨[],rfl,by simp,fun _ h=>by cases h⟩,Nw.refl h⟩) ?_
 ·rintro x r acc M2 ⟨⟨c,rfl,hcl,hc⟩,nw⟩;refine ⟨zr,_,rfl,zDA.mpr ?_⟩;rw [zQV rfl];refine zq nw.gen (ha _ _) (hb _ _) h0 h1 fun g M3 g0 g1 nw3 hl3=>?_;rw [zG];refine ⟨⟨c ++ [g],by simp,by simp at hcl ⊢; omega,fun z hz=>?_⟩,nw.trans nw3⟩;rcases zQg.mp hz with q | q
  ·exact hc z q
  ·have:z = g:=by simpa using q
   subst this; exact ⟨g0,g1⟩
 ·rintro acc M2 ⟨⟨c,rfl,hcl,hc⟩,nw⟩;exact ⟨zr,⟨c,rfl,by simpa using hcl,hc⟩,nw⟩
 ·rintro ys M2 ⟨⟨c,hc0,hcl,hc⟩,nw⟩;rw [List.nil_append] at hc0;exact ⟨⟨c,by rw [hc0],hcl,hc⟩,nw⟩
theorem zJJ {xs:List D} (h:q <= xs.length):L3.zBG xs (some (q:Int)) none = xs.drop q:=by
 have s:HT.sIx xs.length 0 (some (q:Int)) = q:=by rw [HT.zCx]; omega
 have z:HT.sIx xs.length xs.length none = xs.length:=rfl;unfold L3.zBG;rw [s,z,List.take_of_length_le (by simp)]
theorem zJD {xs:List D} (h:q <= xs.length):L3.zBG xs none (some (q:Int)) = xs.take q:=by
 have s:HT.sIx xs.length xs.length (some (q:Int)) = q:=by rw [HT.zCx]; omega
 have z:HT.sIx xs.length 0 none = 0:=rfl;unfold L3.zBG;rw [s,z]; simp
theorem zHf {M:Mem} {ow:List Int} (hz:many <= 1000) (hl:ow.length = many) (ej:M[j]? = some (.lst (ow.map D.int))) (hg:g ∈ ow) :
  Ok (zk [6] (zAC (zD (toD (zC 4)) zH)) (gN 6) (tst (fOp kEq (fOp kIx (zC 5) (zC 6)) (zC 11))) (zC 6) [a0,a1,a2,a3,some (.int many),some (.ref j),a6,a7,a8,a9,a10,some (.int g),a12] M) fun x M'=>M' = M /\ ∃ c:List Int,x = .fl (c.map D.int) /\ c ≠ [] /\ c.length <= many /\ ∀ y ∈ c,0 <= y /\ y < (many:Int):=by
 refine zCX.mpr ⟨_,_,_,zBi (j:=(many:Int)) rfl (by omega) (by omega),by rw [zBe]; exact zU (by omega),?_⟩;rw [show (many:Int).toNat = many by omega];refine Ok.mono (zA7 (I:=fun r acc M2=>M2 = M /\ ∃ (i:Nat) (c:List Int),i <= many /\ r = zBH i (many - i) /\ acc = c.map D.int /\ c.length <= i /\ (∀ y ∈ c,0 <= y /\ y < (many:Int)) /\ ∀ r,r < i -> ow.getD r 0 = g -> c ≠ []) (Q:=fun acc M2=>M2 = M /\ ∃ c:List Int,acc = c.map D.int /\ c ≠ [] /\ c.length <= many /\ ∀ y ∈ c,0 <= y /\ y < (many:Int)) ?_ ?_ _ [] _ ⟨rfl,0,[],zQ2 _,by simp,rfl,by simp,(fun _ h=>by cases h),fun r h=>by omega⟩) ?_
 ·rintro x r acc M2 ⟨rfl,i,c,hi,e,rfl,hcl,hc,hne⟩;have hlt:i < many:=by
   rcases Nat.lt_or_ge i many with z | z
   ·exact z
   ·rw [show many - i = 0 by omega] at e; cases e
  rw [show many - i = (many - (i + 1)) + 1 by omega] at e;obtain ⟨rfl,rfl⟩:=zRK e;refine ⟨zr,_,rfl,?_⟩;have hat:atI (ow.map D.int) ((i:Nat):Int) = some (.int (ow.getD i 0)):=by
   have:=zCC (r:=ow) (g:=((i:Nat):Int)) (by omega) (by omega);rw [Int.toNat_natCast] at this; exact this
  refine zE (M:=M2) (a:=decide (ow.getD i 0 = g)) (zAL (zN (x:=.dat (.int (ow.getD i 0))) (y:=.dat (.int g)) (zN (x:=.dat (.ref j)) (y:=.dat (.int ((i:Nat):Int))) rfl rfl (zA6 (zY ej) hat)) rfl (zR (zGc.mpr ⟨rfl,rfl⟩)))) ?_;by_cases he:ow.getD i 0 = g
  ·rw [zQV (by simpa using he)];refine zE (M:=M2) (a:=.dat (.int ((i:Nat):Int))) rfl ?_;rw [zG];refine ⟨rfl,i + 1,c ++ [((i:Nat):Int)],hlt,rfl,by simp,by simp; omega,fun y hy=>?_,fun _ _ _=>by simp⟩;rcases zQg.mp hy with q | q
   ·exact hc y q
   ·have:y = ((i:Nat):Int):=by simpa using q
    omega
  ·rw [zQY (by simpa using he)];refine ⟨rfl,i + 1,c,hlt,rfl,rfl,by omega,hc,fun r hr hq=>?_⟩;rcases Nat.lt_or_ge r i with z | z
   ·exact hne r z hq
   ·have:r = i:=by omega
    subst this; exact absurd hq he
 ·rintro acc M2 ⟨rfl,i,c,hi,e,rfl,hcl,hc,hne⟩;have:i = many:=by
   rcases Nat.lt_or_ge i many with z | z
   ·rw [show many - i = (many - (i + 1)) + 1 by omega] at e; cases e
   ·omega
  subst this;obtain ⟨q,hq,eq⟩:=List.mem_iff_getElem.mp hg;exact ⟨zr,rfl,c,rfl,hne q (by omega) (by rw [zQL,zQK hq]; exact eq),hcl,hc⟩
 ·rintro ys M2 ⟨rfl,c,e,h⟩;rw [List.nil_append] at e;exact ⟨rfl,c,by rw [e],h⟩
theorem zJM (h:Gen M n k) (hm:9 <= most) (hm1:most <= 900) (hl:0 < lm) (hl1:lm <= 900) :
  Ok (zAt [.ref n,.int most,.int lm] M) fun d M'=>∃ zA l j ow,d = .tup [mD zA,.ref j] /\ IsM zA l /\ (zA.length:Int) <= most /\ (l:Int) <= lm /\ M'[j]? = some (.lst ((ow:List Int).map D.int)) /\ ow.length = zA.length /\ Nw M M' n k:=by
 obtain ⟨hn,hk⟩:=h.lt;unfold zAt;rw [zAx];unfold zBx;rw [zF,zP];refine zA5.mpr (zE (zAD rfl (zAD rfl (zp rfl))) ?_);refine Ok.mono (zEH h (by decide) (by decide) hl hl1) ?_;rintro d M1 ⟨⟨base,l,rfl,mb,hB,hL⟩,nw1⟩;have b0:=mb.r0;have l0:=mb.l0;have hB':base.length <= 8:=by omega
 rw [zG,zK,zF,zP];refine zAe.mpr (zE (zAa rfl) ?_);refine zq nw1.gen rfl (zN (x:=.dat (.int (most + 1))) (zN rfl rfl rfl) (zAa rfl) rfl) (by omega) (by omega) fun ex M2 x0 x1 nw2 _=>zDN.mpr ?_;rw [zG,zK,zF,zP];have nw2':=nw1.trans nw2;obtain ⟨many,hmany⟩:∃ many:Nat,(base.length:Int) + ex = (many:Int):=⟨((base.length:Int) + ex).toNat,by omega⟩;rw [hmany];have mB:base.length <= many:=by omega
 have mM:(many:Int) <= most:=by omega
 have elr:zBU (fB zAW (zQ (zC 3) zh)) [some (.ref n),some (.int most),some (.int lm),some (mD base),some (.int many),none,none,none,none,none,none,none,none] M2 = some (.fl (((List.range base.length).map fun (k:Nat)=>(k:Int)).map D.int),M2):=by
  unfold zBU;rw [zAa (zA:=base) rfl];dsimp only;rw [zQV ⟨by omega,by omega⟩,zDp,show (base.length:Int).toNat = base.length by omega]
 refine zAe.mpr (zE elr ?_);refine Ok.mono (zGK nw2'.gen (few:=base.length) (many:=(many:Int) - base.length) (by omega) (by omega) (by omega) (by omega) (zN rfl (zAa rfl) rfl) (fun _ _=>rfl) (fun _ _=>zAa rfl)) ?_;rintro x M3 ⟨⟨cx,rfl,hcl,hcx⟩,nw3,_⟩;have nw3':=nw2'.trans nw3;refine zHx rfl rfl (by simp; omega) (zc ?_);rw [<- zQ8,zK];generalize how:((List.range base.length).map fun (k:Nat)=>(k:Int)) ++ cx = ow;have owl:ow.length = many:=by rw [<- how]; simp; omega
 have owb:∀ x ∈ ow,0 <= x /\ x < base.length:=by
  intro x hx;rw [<- how] at hx;rcases zQg.mp hx with q | q
  ·obtain ⟨a,ha,rfl⟩:=zQX.mp q;have:=zQu.mp ha; omega
  ·exact hcx x q
 have ows:∀ g:Int,0 <= g -> g < base.length -> g ∈ ow:=by
  intro g g0 g1;rw [<- how];exact zRV _ (zQX.mpr ⟨g.toNat,zQu.mpr (by omega),by omega⟩)
 have nw4:=nw3'.trans (nw3'.gen.lst (ow.map D.int) (zb _ _));have e5:(M3 ++ [MO.lst (ow.map D.int)])[M3.length]? = some (.lst (ow.map D.int)):=zX _ _;have hj5:M.length <= M3.length:=nw3'.len;generalize hM4:M3 ++ [MO.lst (ow.map D.int)] = M4 at nw4 e5;generalize M3.length = j5 at e5 hj5;rw [zF,zP];refine zq nw4.gen rfl rfl (by omega) (by omega) fun tn M5 t0 t1 nw5 _=>?_;rw [zG,zK,zF,zP];have nw5':=nw4.trans nw5;have e5':=nw5.get e5 (by omega) (by omega);obtain ⟨t,ht⟩:∃ t:Nat,tn = (t:Int):=⟨tn.toNat,by omega⟩;subst ht;have s1:=slL (f:=zC 5) (fl:=zAQ (zC 7)) (fh:=zAf) (σ:=[some (.ref n),some (.int most),some (.int lm),some (mD base),some (.int many),some (.ref j5),none,some (.int (t:Nat)),none,none,none,none,none]) rfl rfl (zo e5') (oS (i:=(t:Int)) rfl) rfl;have s2:=slL (f:=zC 5) (fl:=zAf) (fh:=zAQ (zC 7)) (σ:=[some (.ref n),some (.int most),some (.int lm),some (mD base),some (.int many),some (.ref j5),none,some (.int (t:Nat)),none,none,none,none,none]) rfl rfl (zo e5') rfl (oS (i:=(t:Int)) rfl);rw [zJJ (by simp; omega)] at s1;rw [zJD (by simp; omega)] at s2;refine zAe.mpr (zE s1 (zE s2 (zHx rfl rfl (by simp; omega) (zc ?_))));rw [<- List.map_drop,<- List.map_take,<- zQ8,zK];have hmem:∀ x,x ∈ ow.drop t ++ ow.take t ↔ x ∈ ow:=fun x=>by
  rw [zQg,Or.comm,<- zQg,List.take_append_drop]
 have hlen':(ow.drop t ++ ow.take t).length = many:=by simp; omega
 generalize ow.drop t ++ ow.take t = ow2 at hmem hlen';replace owb:∀ x ∈ ow2,0 <= x /\ x < base.length:=fun x hx=>owb x ((hmem x).mp hx);replace ows:∀ g:Int,0 <= g -> g < base.length -> g ∈ ow2:=fun g g0 g1=>(hmem g).mpr (ows g g0 g1);have nw6:=nw5'.trans (nw5'.gen.lst (ow2.map D.int) (zb _ _));have e6:(M5 ++ [MO.lst (ow2.map D.int)])[M5.length]? = some (.lst (ow2.map D.int)):=zX _ _;have hj6:M.length <= M5.length:=nw5'.len;generalize M5 ++ [MO.lst (ow2.map D.int)] = M6 at nw6 e6;generalize M5.length = j at e6 hj6;rw [zF,zP];refine zBT.mpr (zAJ.mpr ⟨zU (by simp),zc ?_⟩);rw [zK];have nw7:=nw6.trans (nw6.gen.lst [] rfl);have e8:(M6 ++ [MO.lst ([]:List D)])[M6.length]? = some (.lst []):=zX _ _;have hj8:M.length <= M6.length:=nw6.len;have hjlt:j < M6.length:=(zQJ.mp e6).1;have e6':(M6 ++ [MO.lst ([]:List D)])[j]? = some (.lst (ow2.map D.int)):=by rw [zQN hjlt]; exact e6
 generalize M6 ++ [MO.lst ([]:List D)] = M7 at nw7 e8 e6';generalize M6.length = j8 at e8 hj8 hjlt;rw [zF,zAn];refine ⟨_,_,_,zAl (x:=.dat (.ref j)) rfl (zY e6'),?_⟩;refine zAZ (I:=fun r σ M'=>(∃ y6 y9 y10 y11 y12,σ = [some (.ref n),some (.int most),some (.int lm),some (mD base),some (.int many),some (.ref j),y6,some (.int (t:Nat)),some (.ref j8),y9,y10,y11,y12]) /\ ∃ (r':List Int) (zA:List (List Int)),r = r'.map D.int /\ (∀ x ∈ r',x ∈ ow2) /\ zA.length + r'.length = many /\ (∀ q ∈ zA,q.length = l /\ ∀ g ∈ q,0 <= g /\ g < (many:Int)) /\ M'[j]? = some (.lst (ow2.map D.int)) /\ M'[j8]? = some (.lst (zA.map fun r=>D.tup (r.map D.int))) /\ Nw M M' n k) ?_ ?_ _ _ _ ⟨⟨_,_,_,_,_,rfl⟩,ow2,[],rfl,fun _ h=>h,by simpa using hlen',(fun _ h=>by cases h),e6',e8,nw7⟩
 ·rintro x r σ M' ⟨⟨y6,y9,y10,y11,y12,rfl⟩,r',zA,hr,hsub,hrl,hrw,ej,ej8,nw⟩;obtain ⟨o,r'',rfl,rfl,rfl⟩:=zAS hr;refine ⟨.inl ej,_,rfl,?_⟩;obtain ⟨o0,o1⟩:=owb o (hsub o zQU);obtain ⟨bl,bb⟩:=mb.get (h:=o) o0 o1;rw [zF,zP];refine zBT.mpr (zAJ.mpr ⟨zU (by simp),zc ?_⟩);rw [zK];have nwa:=nw.trans (nw.gen.lst [] rfl);have e10:(M' ++ [MO.lst ([]:List D)])[M'.length]? = some (.lst []):=zX _ _;have hj10:M.length <= M'.length:=nw.len;have l8:j8 < M'.length:=(zQJ.mp ej8).1;have l5:j < M'.length:=(zQJ.mp ej).1;have ej':(M' ++ [MO.lst ([]:List D)])[j]? = some (.lst (ow2.map D.int)):=by rw [zQN l5]; exact ej
  have ej8':(M' ++ [MO.lst ([]:List D)])[j8]? = some (.lst (zA.map fun r=>D.tup (r.map D.int))):=by rw [zQN l8]; exact ej8
  generalize M' ++ [MO.lst ([]:List D)] = Ma at nwa e10 ej' ej8';generalize M'.length = j10 at e10 hj10 l8 l5;generalize hrow:base.getD o.toNat [] = row at bl bb;rw [zF,zAn];have erow:fOp kIx (zC 3) (zC 9) [some (.ref n),some (.int most),some (.int lm),some (mD base),some (.int many),some (.ref j),y6,some (.int (t:Nat)),some (.ref j8),some (.int o),some (.ref j10),y11,y12] Ma = some (.dat (.tup (row.map D.int)),Ma):=by
   rw [<- hrow];exact zN rfl rfl (zA6 zAd (zD4 o0 o1))
  refine ⟨_,_,_,zId erow,?_⟩;refine zAZ (I:=fun r σ M''=>(∃ y6 y11 y12,σ = [some (.ref n),some (.int most),some (.int lm),some (mD base),some (.int many),some (.ref j),y6,some (.int (t:Nat)),some (.ref j8),some (.int o),some (.ref j10),y11,y12]) /\ ∃ (r' q:List Int),r = r'.map D.int /\ (∀ x ∈ r',x ∈ row) /\ q.length + r'.length = l /\ (∀ g ∈ q,0 <= g /\ g < (many:Int)) /\ M''[j]? = some (.lst (ow2.map D.int)) /\ M''[j8]? = some (.lst (zA.map fun r=>D.tup (r.map D.int))) /\ M''[j10]? = some (.lst (q.map D.int)) /\ Nw M M'' n k) ?_ ?_ _ _ _ ⟨⟨_,_,_,rfl⟩,row,[],rfl,fun _ h=>h,by simpa using bl,(fun _ h=>by cases h),ej',ej8',e10,nwa⟩
  ·rintro x r σ Mx ⟨⟨y6,y11,y12,rfl⟩,r',q,hr',hsub',hql,hq,f5,f8,f10,nwx⟩;obtain ⟨g,rr,rfl,rfl,rfl⟩:=zAS hr';refine ⟨zr,_,rfl,?_⟩;obtain ⟨g0,g1⟩:=bb g (hsub' g zQU);rw [zF,zP];refine Ok.mono (zHf (by omega) hlen' f5 (ows g g0 g1)) ?_;rintro x M9 ⟨rfl,c,rfl,hne,hcz,hc⟩;refine zc ?_;rw [zK,zAz];have nwb:=nwx.trans (nwx.gen.lst (c.map D.int) (zb _ _));have e12:(M9 ++ [MO.lst (c.map D.int)])[M9.length]? = some (.lst (c.map D.int)):=zX _ _;have p5:j < M9.length:=(zQJ.mp f5).1;have p8:j8 < M9.length:=(zQJ.mp f8).1;have p10:j10 < M9.length:=(zQJ.mp f10).1;have f5':(M9 ++ [MO.lst (c.map D.int)])[j]? = some (.lst (ow2.map D.int)):=by rw [zQN p5]; exact f5
   have f8':(M9 ++ [MO.lst (c.map D.int)])[j8]? = some (.lst (zA.map fun r=>D.tup (r.map D.int))):=by rw [zQN p8]; exact f8
   have f10':(M9 ++ [MO.lst (c.map D.int)])[j10]? = some (.lst (q.map D.int)):=by rw [zQN p10]; exact f10
   have hj12:M.length <= M9.length:=nwx.len;generalize M9 ++ [MO.lst (c.map D.int)] = Mb at nwb e12 f5' f8' f10';generalize M9.length = j12 at e12 hj12 p5 p8 p10;have hcl0:0 < c.length:=List.length_pos_iff.mpr hne;have elen:fB zAW (zQ (zC 12) zh) [some (.ref n),some (.int most),some (.int lm),some (mD base),some (.int many),some (.ref j),y6,some (.int (t:Nat)),some (.ref j8),some (.int o),some (.ref j10),some (.int g),some (.ref j12)] Mb = some (.dat (.int c.length),Mb):=by
    have:=zCl (f:=zC 12) (σ:=[some (.ref n),some (.int most),some (.int lm),some (mD base),some (.int many),some (.ref j),y6,some (.int (t:Nat)),some (.ref j8),some (.int o),some (.ref j10),some (.int g),some (.ref j12)]) (M:=Mb) rfl (zY e12);rw [zQP] at this; exact this
   refine zEL.mpr (zj.mpr ⟨_,rfl,⟨_,zo f10'⟩,zw.mpr (zAB.mpr (zAe.mpr (zj.mpr ⟨_,rfl,?_⟩)))⟩);refine zq nwb.gen rfl elen (by omega) (by omega) fun z Mc z0 z1 nwc _=>?_;have h12:=nwc.get e12 (by omega) (by omega);refine zKd (zY h12) (zCC z0 z1) ?_;have hcv:=hc (c.getD z.toNat 0) (by rw [zQL,zQK (by omega)]; exact zQo _);have h5:=nwc.get f5' (by omega) (by omega);have h8:=nwc.get f8' (by omega) (by omega);have h10:=nwc.get f10' (by omega) (by omega);generalize c.getD z.toNat 0 = v at hcv;have hql':q.length < l:=by simp at hql; omega
   rw [zG,zAJ,zBk h10 (by rw [zQP]; exact zQf (m:=95000) (by omega) (zU (by omega)))];refine ⟨⟨_,_,_,rfl⟩,rr,q ++ [v],rfl,fun x hx=>hsub' x (zQT _ hx),by simp at hql ⊢; omega,fun x hx=>?_,?_,?_,?_,?_⟩
   ·rcases zQg.mp hx with w | w
    ·exact hq x w
    ·have:x = v:=by simpa using w
     subst this; exact hcv
   ·rw [zQk (by omega)]; exact h5
   ·rw [zQk (by omega)]; exact h8
   ·rw [zRA (zQJ.mp h10).1,zQ8]; rfl
   ·refine (nwb.trans nwc).setB h (by omega) ?_;show D.unds _ _ = true;rw [zC7,zb]; rfl
  ·rintro σ Mx ⟨⟨y6,y11,y12,rfl⟩,r',q,hr',hsub',hql,hq,f5,f8,f10,nwx⟩;have:r' = []:=by cases r' with | nil=>rfl | cons _ _=>cases hr'
   subst this;refine ⟨zr,?_⟩;rw [zK,zAz];have et:fB zAU (zQ (zC 10) zh) [some (.ref n),some (.int most),some (.int lm),some (mD base),some (.int many),some (.ref j),y6,some (.int (t:Nat)),some (.ref j8),some (.int o),some (.ref j10),y11,y12] Mx = some (.dat (.tup (q.map D.int)),Mx):=zBS (x:=.dat (.ref j10)) rfl (zY f10);refine zEL.mpr (zj.mpr ⟨_,rfl,⟨_,zo f8⟩,zE (zp et) ?_⟩);have hrl':zA.length < many:=by simp at hrl; omega
   rw [zBk f8 (by rw [zQP]; exact zQf (m:=95000) (by omega) (zU (by omega)))];refine ⟨⟨_,_,_,_,_,rfl⟩,r'',zA ++ [q],rfl,fun x hx=>hsub x (zQT _ hx),by simp at hrl ⊢; omega,fun x hx=>?_,?_,?_,?_⟩
   ·rcases zQg.mp hx with w | w
    ·exact hrw x w
    ·have:x = q:=by simpa using w
     subst this; exact ⟨by simpa using hql,hq⟩
   ·rw [zQk (by omega)]; exact f5
   ·rw [zRA (zQJ.mp f8).1,zQ8]; rfl
   ·refine nwx.setB h hj8 ?_;show D.unds _ _ = true;rw [zC7,zJy];simp [D.unds,zAy]
 ·rintro σ M' ⟨⟨y6,y9,y10,y11,y12,rfl⟩,r',zA,hr,hsub,hrl,hrw,ej,ej8,nw⟩;have:r' = []:=by cases r' with | nil=>rfl | cons _ _=>cases hr
  subst this;refine ⟨.inl ej,?_⟩;rw [zK];have hrl':zA.length = many:=by simpa using hrl
  refine zAo (zJR (zAD (d:=mD zA) (zBS (x:=.dat (.ref j8)) rfl (zY ej8)) (zp (d:=.ref j) rfl)) (by simp)) ⟨zA,l,j,ow2,rfl,⟨by omega,l0,fun q hq=>?_⟩,by omega,hL,ej,by omega,nw⟩;obtain ⟨q1,q2⟩:=hrw q hq;exact ⟨q1,fun g hg=>by rw [hrl']; exact q2 g hg⟩
theorem zIk (h:Gen M n k) (hm:9 <= most) (hm1:most <= 900) (hl:0 < lm) (hl1:lm <= 900) :
  Ok (zAw [.ref n,.int most,.int lm] M) fun d M'=>∃ zA l p,d = .tup [mD zA,tI p] /\ IsM zA l /\ (zA.length:Int) <= most /\ (l:Int) <= lm /\ p.length = zA.length /\ Nw M M' n k:=by
 obtain ⟨hn,hk⟩:=h.lt;unfold zAw;refine zCy ?_;rw [zAx];unfold zBu
 have tail:∀ (A:Mem) (zA:List (List Int)) (l j:Nat) (ow:List Int) (y5 y6:Option D),Nw M A n k -> IsM zA l -> (zA.length:Int) <= most -> (l:Int) <= lm -> A[j]? = some (.lst (ow.map D.int)) -> ow.length = zA.length ->
   OkS (zAq (zAs (zD (toD (zC 3)) (zD (toD (zW zv (zD (toD (zC 4)) zH))) zH))) [some (.ref n),some (.int most),some (.int lm),some (mD zA),some (.ref j),y5,y6] A) fun o x M1=>match o with
    | .ret d=>(D.und M.length d = true /\ M.length <= M1.length /\ ∀ (j:Nat) u,j < M.length -> M1[j]? = some u -> MO.und M.length u = true) /\ ∃ zA l p,d = .tup [mD zA,tI p] /\ IsM zA l /\ (zA.length:Int) <= most /\ (l:Int) <= lm /\ p.length = zA.length /\ Nw M (M1.take M.length) n k
    | .nx=>(D.und M.length .non = true /\ M.length <= M1.length /\ ∀ (j:Nat) u,j < M.length -> M1[j]? = some u -> MO.und M.length u = true) /\ ∃ zA l p,D.non = .tup [mD zA,tI p] /\ IsM zA l /\ (zA.length:Int) <= most /\ (l:Int) <= lm /\ p.length = zA.length /\ Nw M (M1.take M.length) n k
    | _=>False:=by
  intro A zA l j ow y5 y6 nw m h1 h2 ej hol;refine zAo (zJR (zAD (d:=mD zA) rfl (zp (d:=tI (zBn ow)) (zBJ (zp (d:=.ref j) rfl) (zDb nw.gen.wf ej (by omega))))) (by simp)) ⟨⟨?_,nw.len,nw.wf0 h⟩,zA,l,zBn ow,rfl,m,h1,h2,by rw [zGN,hol],nw.trim h⟩;unfold D.und D.unds D.unds D.unds;rw [zHc]; simp [tI,zAy]
 rw [zF,zAK];refine zFv.mpr (zAe.mpr (zq h rfl rfl (by decide) (by decide) fun w M1 w0 w1 nw1 _=>zCo.mpr (zGc.mpr (zFe.mpr ?_))));by_cases hw:w = 0
 ·rw [zQV (by simpa using hw),zDn];refine zA5.mpr (zE (zAD rfl (zAD rfl (zp rfl))) ?_);refine Ok.mono (zJM nw1.gen hm hm1 hl hl1) ?_;rintro d M2 ⟨zA,l,j,ow,rfl,m,h1,h2,ej,hol,nw2⟩;rw [zG];refine ⟨_,rfl,?_⟩;rw [zK];exact tail M2 zA l j ow _ _ (nw1.trans nw2) m h1 h2 ej hol
 ·rw [zQY (by simpa using hw),zF,zP];refine zA5.mpr (zE (zAD rfl (zAD rfl (zp rfl))) ?_);refine Ok.mono (zEH nw1.gen (by omega) hm1 hl hl1) ?_;rintro d M2 ⟨⟨zA,l,rfl,m,h1,h2⟩,nw2⟩;have r0:=m.r0;have nw2':=nw1.trans nw2;rw [zG,zK,zF,zP];refine zAe.mpr (zCo.mpr (zq nw2'.gen rfl (zAa rfl) (by omega) (by omega) fun f M3 f0 f1 nw3 _=>zDN.mpr ?_));have nw3':=nw2'.trans nw3;rw [zG,zK,zP];refine Ok.mono (zJa nw3'.gen (few:=1 + f) (xs:=zA.map fun r=>D.tup (r.map D.int)) (by omega) (by omega) (by simp; omega) rfl (fun _ _=>rfl) (fun _ _=>rfl)) ?_;rintro x M4 ⟨⟨c,rfl,hcl,_⟩,nw4⟩;have nw4':=nw3'.trans nw4;refine zc ?_;rw [zK];exact tail _ zA l M4.length c _ _ (nw4'.trans (nw4'.gen.lst _ (zb _ _))) m (by omega) h2 (zX _ _) (by rw [hcl]; simp)
open Lac
end Lad
namespace Lad
open PySem PySem.Spec PyProof.Rows L2 L3 ST Law Lac
end Lad
namespace Lac
open PySem PySem.Spec PyProof.Rows L2 L3 ST Law
end Lac
namespace Lac
open PySem PySem.Spec PyProof.Rows L2 L3 ST Law
end Lac
namespace Lad
open PySem PySem.Spec PyProof.Rows L2 L3 ST Law Lac
end Lad
namespace Lad
open PySem PySem.Spec PyProof.Rows L2 L3 ST Law Lac
noncomputable def zCL:FS:=(zT (zn 1 zHO)
  (zT (zBb (zAT (zC 0)) (gN 2) (sIf (tst (fOp (zEg true) (zC 2) (zC 1))) (zCe (fB zFP (zQ (zC 1) zh)) (zC 1) (zC 2)) zAp))
  (zAq (fB zAU (zQ (zk [2] (zAT (zC 0)) (gN 2) zx (fOp zAj (zC 1) (zC 2))) zh)))))
noncomputable def zBD:FF:=zCG 3 zCL
def zAh:Nat -> List Int -> List (D × D)
 | _,[]=>[]
 | i,k :: r=>(.int k,.int (i:Int)) :: zAh (i + 1) r
theorem zD9:∀ (i:Nat) (ks:List Int),(zAh i ks).length = ks.length
 | _,[]=>rfl
 | i,k :: r=>by unfold zAh; rw [zQn,zD9,zQn]
theorem zFK:∀ (i:Nat) (ks:List Int) (k:Int),zAh i (ks ++ [k]) = zAh i ks ++ [(.int k,.int ((i + ks.length:Nat):Int))]
 | i,[],k=>rfl
 | i,a :: r,k=>by
  rw [List.cons_append];unfold zAh;rw [zFK,List.cons_append,zQn,show i + 1 + r.length = i + (r.length + 1) by omega]
theorem zFo:∀ (i:Nat) (ks:List Int) (k:Int),zBC zBL (zAh i ks) (Sum.inl k) = if k ∈ ks then some (.int ((i + ks.idxOf k:Nat):Int)) else none
 | i,[],k=>rfl
 | i,a :: r,k=>by
  have ih:=zFo (i + 1) r k;unfold zBC at ih ⊢;rw [show zAh i (a :: r) = (D.int a,D.int (i:Int)) :: zAh (i + 1) r from rfl,zR2];by_cases h:a = k
  ·subst h;rw [show decide (zBL (D.int a) = some (Sum.inl a)) = true from zRO rfl];simp
  ·rw [show decide (zBL (D.int a) = some (Sum.inl k)) = false from zQp (fun z=>h (Sum.inl.inj (zRG z)))];by_cases hk:k ∈ r
   ·rw [zQV (zQT _ hk)];rw [zQV hk] at ih;rw [List.idxOf_cons,show (a == k) = false from beq_false_of_ne h];simp only [cond_false];rw [show i + (List.idxOf k r + 1) = i + 1 + List.idxOf k r by omega];exact ih
   ·rw [zQY (by simp [hk,Ne.symm h])];rw [zQY hk] at ih;exact ih
theorem zOq (ks:List Int) (k:Int) (h:k ∉ ks):zEo zBL (zAh 0 ks) (Sum.inl k) (.int k) (.int (ks.length:Int)) = zAh 0 (ks ++ [k]):=by
 have hl:=zFo 0 ks k;rw [zQY h] at hl;unfold zBC at hl;have ha:((zAh 0 ks).any fun p=>decide (zBL p.1 = some (Sum.inl k))) = false:=by
  rw [List.any_eq_false];intro p hp;have:=(Option.map_eq_none_iff.mp hl);rw [List.find?_eq_none] at this;exact this p hp
 unfold zEo;rw [ha,zQY (by simp),zFK];simp
theorem zFh (hj:M[j]? = some (.lst (xs.map D.int))) (hz:xs.length <= 1000) :
  Ok (zBD [.ref j] M) fun d M'=>d = tI (zBn xs) /\ M.length <= M'.length /\ ∀ i,i < M.length -> M'[i]? = M[i]?:=by
 have hjl:=(zQJ.mp hj).1;unfold zBD;rw [zAx];unfold zCL;show OkS (zT _ _ [some (.ref j),none,none] M) _;rw [zF,zP];refine zE (M:=M ++ [.dict []]) (a:=.dat (.ref M.length)) rfl ?_;rw [zG,zK];simp only [List.set_cons_succ,List.set_cons_zero];have up:∀ u:MO,(M ++ [u])[j]? = some (.lst (xs.map D.int)):=fun u=>by rw [zQN hjl]; exact hj
 rw [zF,zAn];refine ⟨_,_,_,(show zAT (zC 0) [some (.ref j),some (.ref M.length),none] (M ++ [.dict []]) = some (xs.map D.int,zGQ (.dat (.ref j)) (xs.map D.int),M ++ [.dict []]) by
  unfold zAT;rw [show zC 0 [some (.ref j),some (.ref M.length),none] (M ++ [.dict []]) = some (.dat (.ref j),M ++ [.dict []]) from rfl];dsimp only; rw [zY (up _)]),?_⟩
 have insl:∀ us:List Int,(zL us).length <= us.length:=fun us=>zB4 us;refine zAZ (I:=fun r σ M'=>∃ (us vs:List Int) (y:Option D),σ = [some (.ref j),some (.ref M.length),y] /\ xs = us ++ vs /\ r = vs.map D.int /\ M' = M ++ [.dict (zAh 0 (zL us))]) ?_ ?_ _ _ _ ⟨[],xs,none,rfl,rfl,rfl,rfl⟩
 ·rintro x r σ M' ⟨us,vs,y,rfl,hab,hr,rfl⟩;cases vs with
  | nil=>cases hr
  | cons k vs=>
   rw [zQZ] at hr;obtain ⟨rfl,rfl⟩:=zRK hr;refine ⟨.inl (up _),_,rfl,?_⟩;have hul:us.length < 1000:=by have:=congrArg List.length hab; simp at this; omega
   have e0:(M ++ [MO.dict (zAh 0 (zL us))])[M.length]? = some (.dict (zAh 0 (zL us))):=zX _ _;show OkS (sIf _ _ _ [some (.ref j),some (.ref M.length),some (.int k)] _) _;rw [zAK];have eg:zCO (M ++ [MO.dict (zAh 0 (zL us))]) (.dat (.ref M.length)) (.int k) = some (if k ∈ zL us then some (.int ((0 + (zL us).idxOf k:Nat):Int)) else none):=by
    unfold zCO;dsimp only;rw [e0];show some (zBC zBL (zAh 0 (zL us)) (Sum.inl k)) = _;rw [zFo]
   refine zE (M:=M ++ [MO.dict (zAh 0 (zL us))]) (a:=!decide (k ∈ zL us)) (zAL (zN (x:=.dat (.int k)) (y:=.dat (.ref M.length)) rfl rfl (by unfold zEg; dsimp only; rw [eg]; by_cases h:k ∈ zL us <;> simp [h]))) ?_;by_cases h:k ∈ zL us
   ·rw [zRO h,zQY (by simp),zAE];refine ⟨us ++ [k],vs,_,rfl,by rw [hab]; simp,rfl,?_⟩;rw [zBY];unfold ins;rw [zQV h]
   ·rw [zQp h,zQV (by simp)];have hil:=insl us;refine ⟨.nx,[some (.ref j),some (.ref M.length),some (.int k)],M ++ [.dict (zAh 0 (zL us ++ [k]))],?_,us ++ [k],vs,_,rfl,by rw [hab]; simp,rfl,by rw [zBY]; unfold ins; rw [zQY h]⟩;unfold zCe;rw [zKj (show fB zFP (zQ (zC 1) zh) [some (.ref j),some (.ref M.length),some (.int k)] (M ++ [MO.dict (zAh 0 (zL us))]) = some (.dat (.int ((zL us).length:Int)),M ++ [MO.dict (zAh 0 (zL us))]) by
     unfold fB zQ zh;rw [show zC 1 [some (.ref j),some (.ref M.length),some (.int k)] (M ++ [MO.dict (zAh 0 (zL us))]) = some (.dat (.ref M.length),M ++ [MO.dict (zAh 0 (zL us))]) from rfl];unfold zFP;dsimp only;rw [e0];dsimp only;rw [zD9])]
    dsimp only;rw [show toD (zC 1) [some (.ref j),some (.ref M.length),some (.int k)] (M ++ [MO.dict (zAh 0 (zL us))]) = some (.ref M.length,M ++ [MO.dict (zAh 0 (zL us))]) from rfl];dsimp only;rw [show toD (zC 2) [some (.ref j),some (.ref M.length),some (.int k)] (M ++ [MO.dict (zAh 0 (zL us))]) = some (.int k,M ++ [MO.dict (zAh 0 (zL us))]) from rfl];dsimp only;unfold zCc;rw [e0];rw [show zBL (.int k) = some (Sum.inl k) from rfl];dsimp only;rw [zQV (by rw [zD9]; exact zQf (m:=95000) (by omega) (zU (by omega))),zOq _ _ h];simp
 ·rintro σ M' ⟨us,vs,y,rfl,hab,hr,rfl⟩;have:vs = []:=by cases vs with | nil=>rfl | cons _ _=>cases hr
  subst this;rw [zQ0] at hab;subst hab;refine ⟨.inl (up _),?_⟩;rw [zK];have e0:(M ++ [MO.dict (zAh 0 (zL xs))])[M.length]? = some (.dict (zAh 0 (zL xs))):=zX _ _;have ec:=zAX (own:=[2]) (g:=gN 2) (te:=fOp zAj (zC 1) (zC 2)) (fi:=zAT (zC 0)) (σ:=[some (.ref j),some (.ref M.length),y]) (M:=M ++ [MO.dict (zAh 0 (zL xs))]) xs D.int (fun k=>D.int (((zL xs).idxOf k:Nat):Int)) (gd:=zGQ (.dat (.ref j)) (xs.map D.int)) (by
   unfold zAT;rw [show zC 0 [some (.ref j),some (.ref M.length),y] (M ++ [MO.dict (zAh 0 (zL xs))]) = some (.dat (.ref j),M ++ [MO.dict (zAh 0 (zL xs))]) from rfl];dsimp only; rw [zY (up _)]) (.inl (up _)) (by omega) fun k hk=>⟨_,rfl,zN (x:=.dat (.ref M.length)) (y:=.dat (.int k)) rfl rfl (by
    unfold zAj;unfold zCO;dsimp only;rw [e0];show (match some (zBC zBL (zAh 0 (zL xs)) (Sum.inl k)) with | some (some d)=>_ | _=>_) = _;rw [zFo,zQV ((zA3 xs k).mpr hk),Nat.zero_add])⟩
  refine zAo (d:=tI (zBn xs)) ?_ ⟨rfl,by simp,fun i hi=>zQN hi⟩;unfold fB zQ zh;rw [ec];unfold zBn tI;rw [zQe];rfl
end Lad
namespace Lad
open PySem PySem.Spec PyProof.Rows L2 L3 ST Law Lac
end Lad
namespace Lad
open PySem PySem.Spec PyProof.Rows L2 L3 ST Law Lac
end Lad
namespace Lad
open PySem PySem.Spec PyProof.Rows L2 L3 ST Law Lac
end Lad
namespace Lad
open PySem PySem.Spec PyProof.Rows L2 L3 ST Law Lac
abbrev pg (P:List Int) (a:Int):Int:=P.getD a.toNat 0
theorem zK3 {xs:List Int} (hk:k < xs.length):xs.getD k 0 ∈ xs:=by
 rw [zQL,zQK hk]; exact zQo hk
end Lad
namespace Lad
open PySem PySem.Spec PyProof.Rows L2 L3 ST Law Lac
set_option genInjectivity true in
inductive Eqv (n:Nat) (R:Int -> Int -> Prop):Int -> Int -> Prop
 | base {a b:Int}:R a b -> Eqv n R a b
 | refl (a:Int):Eqv n R a a
 | symm {a b:Int}:Eqv n R a b -> Eqv n R b a
 | trans {a b c:Int}:Eqv n R a b -> (0 <= b /\ b < (n:Int)) -> Eqv n R b c -> Eqv n R a c
theorem Eqv.sub (h:∀ a b,R a b -> Eqv n S a b) (e:Eqv n R a b):Eqv n S a b:=by
 induction e with
 | base r=>exact h _ _ r
 | refl a=>exact .refl a
 | symm _ ih=>exact ih.symm
 | trans _ z _ i1 i2=>exact .trans i1 z i2
theorem Eqv.fn {n:Nat} {R:Int -> Int -> Prop} {f:Int -> Int} (h:∀ a b,R a b -> f a = f b) {a b:Int} (e:Eqv n R a b):f a = f b:=by
 induction e with
 | base r=>exact h _ _ r
 | refl a=>rfl
 | symm _ ih=>exact ih.symm
 | trans _ z _ i1 i2=>exact i1.trans i2
theorem Eqv.step (m:IsM zA l) (hx:0 <= x /\ x < (l:Int)) (h:∀ a b,R a b -> Eqv zA.length R (zu zA a x) (zu zA b x)) (e:Eqv zA.length R a b):Eqv zA.length R (zu zA a x) (zu zA b x):=by
 induction e with
 | base r=>exact h _ _ r
 | refl a=>exact .refl _
 | symm _ ih=>exact ih.symm
 | trans _ z _ i1 i2=>exact .trans i1 (m.step z.1 z.2 hx.1 hx.2) i2
set_option genInjectivity true in
inductive Rea (zA:List (List Int)) (l:Nat) (ps:List (List Int)):Int -> Int -> Prop
 | base {a b:Int}:[a,b] ∈ ps -> Rea zA l ps a b
 | step {a b x:Int}:Rea zA l ps a b -> (0 <= x /\ x < (l:Int)) -> Rea zA l ps (zu zA a x) (zu zA b x)
def InR (n:Nat) (p:List Int):Prop:=∃ a b:Int,p = [a,b] /\ (0 <= a /\ a < (n:Int)) /\ 0 <= b /\ b < (n:Int)
theorem Rea.inr (m:IsM zA l) (hp:∀ p ∈ ps,InR zA.length p) (h:Rea zA l ps a b):(0 <= a /\ a < (zA.length:Int)) /\ 0 <= b /\ b < (zA.length:Int):=by
 induction h with
 | base h=>
  obtain ⟨a,b,e,z⟩:=hp _ h;cases e; exact z
 | step _ hx ih=>exact ⟨m.step ih.1.1 ih.1.2 hx.1 hx.2,m.step ih.2.1 ih.2.2 hx.1 hx.2⟩
def mrg (c:List Int) (x y:Int):List Int:=c.map fun z=>if z = x then y else z
theorem zLh (c:List Int) (x y:Int):(mrg c x y).length = c.length:=by unfold mrg; simp
theorem zDW (h:0 <= a /\ a < (c.length:Int)):pg (mrg c x y) a = if pg c a = x then y else pg c a:=by
 unfold pg mrg;have:a.toNat < c.length:=by omega
 rw [zQL,zQd,zQL,zQK this]; rfl
def Cls (n:Nat) (c:List Int) (R:Int -> Int -> Prop):Prop:=c.length = n /\ ∀ a b:Int,0 <= a /\ a < (n:Int) -> 0 <= b /\ b < (n:Int) -> (pg c a = pg c b ↔ Eqv n R a b)
theorem zIg {n:Nat} {c:List Int} {R S:Int -> Int -> Prop} (h:Cls n c R) (hr:∀ a b,R a b -> (0 <= a /\ a < (n:Int)) /\ 0 <= b /\ b < (n:Int)) {o t:Int} (ho:0 <= o /\ o < (n:Int)) (ht:0 <= t /\ t < (n:Int))
  (h1:∀ a b,R a b -> S a b) (h2:Eqv n S o t) (h3:∀ a b,S a b -> R a b \/ (a = o /\ b = t) \/ (a = t /\ b = o)):Cls n (mrg c (pg c t) (pg c o)) S:=by
 obtain ⟨hl,hc⟩:=h;have up:∀ {a b},Eqv n R a b -> Eqv n S a b:=fun e=>e.sub fun a b r=> .base (h1 a b r);have eo:pg (mrg c (pg c t) (pg c o)) o = pg c o:=by rw [zDW (by omega)]; split <;> rfl
 have et:pg (mrg c (pg c t) (pg c o)) t = pg c o:=by rw [zDW (by omega),zQV rfl]
 refine ⟨by rw [zLh,hl],fun a b ha hb=>⟨fun e=>?_,fun e=>?_⟩⟩
 ·rw [zDW (by omega),zDW (by omega)] at e;by_cases q1:pg c a = pg c t
  ·by_cases q2:pg c b = pg c t
   ·exact up ((hc a b ha hb).mp (q1.trans q2.symm))
   ·rw [zQV q1,zQY q2] at e;exact .trans (up ((hc a t ha ht).mp q1)) ht (.trans h2.symm ho (up ((hc o b ho hb).mp e)))
  ·by_cases q2:pg c b = pg c t
   ·rw [zQY q1,zQV q2] at e;exact .trans (up ((hc a o ha ho).mp e)) ho (.trans h2 ht (up ((hc t b ht hb).mp q2.symm)))
   ·rw [zQY q1,zQY q2] at e;exact up ((hc a b ha hb).mp e)
 ·refine Eqv.fn (f:=pg (mrg c (pg c t) (pg c o))) (fun a b r=>?_) e;rcases h3 a b r with z | ⟨rfl,rfl⟩ | ⟨rfl,rfl⟩
  ·obtain ⟨ia,ib⟩:=hr a b z;rw [zDW (by omega),zDW (by omega),(hc a b ia ib).mpr (.base z)]
  ·rw [eo,et]
  ·rw [eo,et]
theorem zFO (n:Nat) {R:Int -> Int -> Prop} (h:∀ a b,¬ R a b):Cls n ((List.range n).map fun (k:Nat)=>(k:Int)) R:=by
 have e:∀ a:Int,0 <= a /\ a < (n:Int) -> pg ((List.range n).map fun (k:Nat)=>(k:Int)) a = a:=fun a ha=>by
  unfold pg;rw [zQL,zQd,List.getElem?_range (by omega)];show ((a.toNat:Nat):Int) = a;omega
 refine ⟨by simp,fun a b ha hb=>⟨fun q=>?_,fun q=>?_⟩⟩
 ·rw [e a ha,e b hb] at q; subst q; exact .refl a
 ·exact Eqv.fn (f:=pg _) (fun a b r=>absurd r (h a b)) q
theorem Cls.congr (h:Cls n c R) (h1:∀ a b,R a b -> Eqv n S a b) (h2:∀ a b,S a b -> Eqv n R a b):Cls n c S :=
 ⟨h.1,fun a b ha hb=>(h.2 a b ha hb).trans ⟨fun e=>e.sub h1,fun e=>e.sub h2⟩⟩
theorem zIu (hl:xs.length = ys.length) (h:∀ i j:Nat,i < xs.length -> j < xs.length -> (xs.getD i 0 = xs.getD j 0 ↔ ys.getD i 0 = ys.getD j 0)):zBn xs = zBn ys:=by
 have key:∀ k:Nat,k <= xs.length -> (zL (xs.take k)).length = (zL (ys.take k)).length /\ ∀ i:Nat,i < k -> (zL (xs.take k)).idxOf (xs.getD i 0) = (zL (ys.take k)).idxOf (ys.getD i 0):=by
  intro k;induction k with
  | zero=>intro _; exact ⟨by simp,fun i hi=>by omega⟩
  | succ k ih=>
   intro hk;obtain ⟨i1,i2⟩:=ih (by omega);have ex:∀ (zs:List Int),k < zs.length -> zs.take (k + 1) = zs.take k ++ [zs.getD k 0]:=fun zs hz=>by
    rw [List.take_add_one,zQK hz,zQL,zQK hz]; rfl
   rw [ex xs (by omega),ex ys (by omega),zBY,zBY];have mx:∀ (zs:List Int) (g:Int),k <= zs.length -> (g ∈ zL (zs.take k) ↔ ∃ i:Nat,i < k /\ zs.getD i 0 = g):=fun zs g hz=>by
    rw [zA3];constructor
    ·intro q;obtain ⟨i,hi,e⟩:=List.getElem_of_mem q;rw [zRe] at hi;rw [List.getElem_take] at e;exact ⟨i,by omega,by rw [zQL,zQK (by omega)]; exact e⟩
    ·rintro ⟨i,hi,e⟩;rw [zQL,zQK (by omega)] at e;exact List.mem_iff_getElem.mpr ⟨i,by rw [zRe]; omega,by rw [List.getElem_take]; exact e⟩
   have same:xs.getD k 0 ∈ zL (xs.take k) ↔ ys.getD k 0 ∈ zL (ys.take k):=by
    rw [mx xs _ (by omega),mx ys _ (by omega)];constructor
    ·rintro ⟨i,hi,e⟩; exact ⟨i,hi,(h i k (by omega) (by omega)).mp e⟩
    ·rintro ⟨i,hi,e⟩; exact ⟨i,hi,(h i k (by omega) (by omega)).mpr e⟩
   by_cases q:xs.getD k 0 ∈ zL (xs.take k)
   ·have q':=same.mp q;unfold ins;rw [zQV q,zQV q'];refine ⟨i1,fun i hi=>?_⟩;rcases Nat.lt_or_ge i k with z | z
    ·exact i2 i z
    ·have:i = k:=by omega
     subst this;obtain ⟨i',hi',e⟩:=(mx xs _ (by omega)).mp q;have e':=(h i' i (by omega) (by omega)).mp e;rw [<- e,<- e',i2 i' hi']
   ·have q':ys.getD k 0 ∉ zL (ys.take k):=fun z=>q (same.mpr z);unfold ins;rw [zQY q,zQY q'];refine ⟨by simp [i1],fun i hi=>?_⟩;rcases Nat.lt_or_ge i k with z | z
    ·have hx:=(mx xs (xs.getD i 0) (by omega)).mpr ⟨i,z,rfl⟩;have hy:=(mx ys (ys.getD i 0) (by omega)).mpr ⟨i,z,rfl⟩;rw [List.idxOf_append,List.idxOf_append,zQV hx,zQV hy];exact i2 i z
    ·have:i = k:=by omega
     subst this;rw [List.idxOf_append,List.idxOf_append,zQY q,zQY q',i1];simp
 obtain ⟨_,k2⟩:=key xs.length (zQM _);rw [List.take_length,hl,List.take_length] at k2;unfold zBn;apply List.ext_getElem
 ·simp [hl]
 ·intro i h1 h2;simp only [zQP] at h1 h2;rw [List.getElem_map,List.getElem_map];have:=k2 i h2;rw [zQL,zQL,zQK h1,zQK h2] at this;simp only [Option.getD_some] at this;rw [this]
theorem zIa (h:Cls n c R) (h':Cls n d R):zBn c = zBn d:=by
 have e1:=h.1;have e2:=h'.1;refine zIu (by omega) fun i j hi hj=>?_;have a:=h.2 (i:Int) (j:Int) (by omega) (by omega);have b:=h'.2 (i:Int) (j:Int) (by omega) (by omega);unfold pg at a b;rw [Int.toNat_natCast,Int.toNat_natCast] at a b;exact a.trans b.symm
noncomputable def zBr:FS:=(zT (zn 2 (fB zDg (zQ (zC 1) zh)))
  (zT (zn 3 (fB (zCZ true) (zQ (zk [4] (zAT (zC 1)) (gN 4) zx (zAs (zD (toD (zC 4)) (zD (toD (fC (.bl true))) zH)))) zh)))
  (zT (zn 5 (fC (.int 0)))
  (zT (zAu (tst (fOp kLt (zC 5) (fB zAW (zQ (zC 2) zh)))) (zT (zBb (zEC (zD (toD (fOp kIx (zC 0) (fOp kIx (fOp kIx (zC 2) (zC 5)) (fC (.int 0))))) (zD (toD (fOp kIx (zC 0) (fOp kIx (fOp kIx (zC 2) (zC 5)) (fC (.int 1))))) zH))) (gN 6) (sIf (tst (fOp (zEg true) (zC 6) (zC 3))) (zT (zCe (fC (.bl true)) (zC 3) (zC 6))
  (zAY (fM zAA (zC 2) (zD (toD (zC 6)) zH)))) zAp))
  (zn 5 (fOp zAk (zC 5) (fC (.int 1))))) 2000)
  (zT (zn 7 (zBU (fB zAW (zQ (zC 0) zh))))
  (zT (zBb (zAT (zC 2)) (zBE 8 9) (zn 7 (zk [10] (zAT (zC 7)) (gN 10) zx (vIf (tst (fOp kEq (zC 10) (fOp kIx (zC 7) (zC 9)))) (fOp kIx (zC 7) (zC 8)) (zC 10)))))
  (zAq (zW zv (zD (toD (zC 7)) zH)))))))))
noncomputable def zA0:FF:=zCw (zCG 11 zBr)
abbrev bT:D:=.bl true
structure Kn (T:List (List Int × D)) (R:List (List Int)):Prop where
 at':∀ g,(zAI T g).isSome = decide (g ∈ R)
 len:T.length <= R.length
 val:∀ q ∈ T,q.2 = bT
theorem zKp (h:Kn T R) (g:List Int):Kn (zDF T g bT) (R ++ [g]):=by
 refine ⟨fun x=>?_,by have:=zLH T g bT; have:=h.len; simp; omega,fun q hq=>?_⟩
 ·rw [zIs];by_cases e:g = x
  ·subst e; simp
  ·rw [zQY e,h.at'];have:¬ x = g:=fun z=>e z.symm;simp [this]
 ·unfold zDF at hq;split at hq
  ·obtain ⟨r,hr,rfl⟩:=zQX.mp hq;split
   ·rfl
   ·exact h.val r hr
  ·rcases zQg.mp hq with z | z
   ·exact h.val q z
   ·rw [zQi] at z; subst z; rfl
theorem zGU:∀ (r q:List (List Int)) (T:List (List Int × D)),Kn T q -> (q ++ r).length <= 80000 -> ∃ T',Kn T' (q ++ r) /\ L3.zDO A.length (r.map fun g=>D.tup [tI g,bT]) (A ++ [dT T]) = some (A ++ [dT T'])
 | [],q,T,h,_=>⟨T,by rw [zQ0]; exact h,rfl⟩
 | g :: r,q,T,h,hz=>by
  have hl:T.length < 90000:=by have:=h.len; simp at hz; omega
  obtain ⟨T',h',e⟩:=zGU (A:=A) r (q ++ [g]) (zDF T g bT) (zKp h g) (by simpa using hz);refine ⟨T',by simpa using h',?_⟩;rw [zQZ];unfold L3.zDO;rw [zM1 (T:=T) (zX _ _) hl];dsimp only;rw [List.set_append_right _ _ (zQM _),Nat.sub_self,List.set_cons_zero];exact e
structure JI (zA:List (List Int)) (l:Nat) (ps R:List (List Int)) (i:Nat):Prop where
 pre:∃ N,R = ps ++ N /\ N.Nodup
 rea:∀ g ∈ R,∃ a b,g = [a,b] /\ Rea zA l ps a b
 cl:∀ k,k < i -> ∀ a b,R[k]? = some [a,b] -> ∀ x:Int,0 <= x /\ x < (l:Int) -> [zu zA a x,zu zA b x] ∈ R
def zMI (n:Nat):List (List Int):=(List.range n).flatMap fun (a:Nat)=>(List.range n).map fun (b:Nat)=>[(a:Int),(b:Int)]
theorem zLF (n:Nat):(zMI n).length = n * n:=by
 unfold zMI;rw [List.length_flatMap];simp [List.map_const']
theorem zJo {n:Nat} {a b:Int} (ha:0 <= a /\ a < (n:Int)) (hb:0 <= b /\ b < (n:Int)):[a,b] ∈ zMI n:=by
 unfold zMI;rw [List.mem_flatMap];refine ⟨a.toNat,zQu.mpr (by omega),zQX.mpr ⟨b.toNat,zQu.mpr (by omega),?_⟩⟩;rw [show ((a.toNat:Nat):Int) = a by omega,show ((b.toNat:Nat):Int) = b by omega]
section
variable {zA:List (List Int)} {l:Nat} {ps R:List (List Int)} {i:Nat}
theorem JI.len (m:IsM zA l) (hp:∀ p ∈ ps,InR zA.length p) (h:JI zA l ps R i):R.length <= ps.length + zA.length * zA.length:=by
 obtain ⟨N,rfl,nd⟩:=h.pre;rw [zQW,<- zLF];refine Nat.add_le_add_left (zDx _ _ nd fun g hg=>?_) _;obtain ⟨a,b,rfl,r⟩:=h.rea g (zQa _ hg);obtain ⟨ia,ib⟩:=r.inr m hp;exact zJo ia ib
theorem JI.add (h:JI zA l ps R i) (r:Rea zA l ps a b) (n:[a,b] ∉ R) (hi:i <= R.length):JI zA l ps (R ++ [[a,b]]) i:=by
 obtain ⟨N,e,nd⟩:=h.pre;refine ⟨⟨N ++ [[a,b]],by rw [e]; simp,?_⟩,fun g hg=>?_,fun k hk c d q x hx=>?_⟩
 ·rw [List.nodup_append];refine ⟨nd,by simp,fun u hu v hv z=>?_⟩;rw [zQi] at hv;subst hv; subst z;exact n (by rw [e]; exact zQa _ hu)
 ·rcases zQg.mp hg with z | z
  ·exact h.rea g z
  ·rw [zQi] at z; subst z; exact ⟨a,b,rfl,r⟩
 ·rw [zQN (by omega)] at q;exact zRV _ (h.cl k hk c d q x hx)
theorem zGI (m:IsM zA l) (ha:0 <= a /\ a < (zA.length:Int)) (hb:0 <= b /\ b < (zA.length:Int)):(zA.getD a.toNat []).zip (zA.getD b.toNat []) = (List.range l).map fun (x:Nat)=>(zu zA a (x:Int),zu zA b (x:Int)):=by
 obtain ⟨la,_⟩:=m.get ha.1 ha.2;obtain ⟨lb,_⟩:=m.get hb.1 hb.2;unfold zu;generalize zA.getD a.toNat [] = A at la;generalize zA.getD b.toNat [] = B at lb;apply List.ext_getElem
 ·simp [la,lb]
 ·intro i h1 h2;simp at h1 h2;simp [show i < A.length by omega,show i < B.length by omega]
end
abbrev joS (zA:List (List Int)) (j J:Nat) (i:Nat) (y6:Option D):Sd:=[some (mD zA),some (.ref j),some (.ref J),some (.ref (J + 1)),none,some (.int (i:Int)),y6,none,none,none,none]
theorem zL8 (m:IsM zA l) (hp:∀ p ∈ ps,InR zA.length p) (hz:ps.length + zA.length * zA.length <= 5000) (hi:i < R.length) (ji:JI zA l ps R i) (kn:Kn T R) :
  OkS (zBb (zEC (zD (toD (fOp kIx (zC 0) (fOp kIx (fOp kIx (zC 2) (zC 5)) (fC (.int 0))))) (zD (toD (fOp kIx (zC 0) (fOp kIx (fOp kIx (zC 2) (zC 5)) (fC (.int 1))))) zH))) (gN 6) (sIf (tst (fOp (zEg true) (zC 6) (zC 3))) (zT (zCe (fC (.bl true)) (zC 3) (zC 6))
  (zAY (fM zAA (zC 2) (zD (toD (zC 6)) zH)))) zAp) (joS zA j M.length i y6) (M ++ [.lst (R.map tI),dT T]))
   fun o σ' M'=>o = .nx /\ ∃ y6 R' T',σ' = joS zA j M.length i y6 /\ M' = M ++ [.lst (R'.map tI),dT T'] /\ i < R'.length /\ JI zA l ps R' (i + 1) /\ Kn T' R':=by
 obtain ⟨a,b,eR,rab⟩:=ji.rea (R[i]) (zQo hi);obtain ⟨ia,ib⟩:=rab.inr m hp;have eR':R[i]? = some [a,b]:=by rw [zQK hi,eR]
 have g2:∀ (u v:MO),(M ++ [u,v])[M.length]? = some u:=fun u v=>by simp
 have g3:∀ (u v:MO),(M ++ [u,v])[M.length + 1]? = some v:=fun u v=>by rw [zRQ (by omega)]; simp
 have ra:=zD4 (zA:=zA) ia.1 ia.2;have rb:=zD4 (zA:=zA) ib.1 ib.2;have ei:fOp kIx (zC 2) (zC 5) (joS zA j M.length i y6) (M ++ [.lst (R.map tI),dT T]) = some (.dat (tI [a,b]),M ++ [.lst (R.map tI),dT T]):=zN (x:=.dat (.ref M.length)) (y:=.dat (.int (i:Int))) rfl rfl (zA6 (zY (g2 _ _)) (zJr (by rw [zQd,eR']; rfl)));have ez:zEC (zD (toD (fOp kIx (zC 0) (fOp kIx (fOp kIx (zC 2) (zC 5)) (fC (.int 0))))) (zD (toD (fOp kIx (zC 0) (fOp kIx (fOp kIx (zC 2) (zC 5)) (fC (.int 1))))) zH)) (joS zA j M.length i y6) (M ++ [.lst (R.map tI),dT T]) = some (((List.range l).map fun (x:Nat)=>[zu zA a (x:Int),zu zA b (x:Int)]).map tI,some fun M=>zf M (.dat (.tup ((zA.getD a.toNat []).map D.int))) = some ((zA.getD a.toNat []).map D.int) /\ zf M (.dat (.tup ((zA.getD b.toNat []).map D.int))) = some ((zA.getD b.toNat []).map D.int),M ++ [.lst (R.map tI),dT T]):=by
  unfold zEC;rw [zAD (d:=.tup ((zA.getD a.toNat []).map D.int)) (zN (x:=.dat (mD zA)) (y:=.dat (.int a)) rfl (zN (x:=.dat (tI [a,b])) (y:=.dat (.int 0)) ei rfl (zA6 zAd rfl)) (zA6 zAd ra)) (zp (d:=.tup ((zA.getD b.toNat []).map D.int)) (zN (x:=.dat (mD zA)) (y:=.dat (.int b)) rfl (zN (x:=.dat (tI [a,b])) (y:=.dat (.int 1)) ei rfl (zA6 zAd rfl)) (zA6 zAd rb)))];dsimp only;rw [show zf (M ++ [.lst (R.map tI),dT T]) (.dat (.tup ((zA.getD a.toNat []).map D.int))) = some ((zA.getD a.toNat []).map D.int) from rfl,show zf (M ++ [.lst (R.map tI),dT T]) (.dat (.tup ((zA.getD b.toNat []).map D.int))) = some ((zA.getD b.toNat []).map D.int) from rfl];dsimp only;rw [List.zip_map,zGI m ia ib,zQe,zQe,zQe];rfl
 rw [zAn];refine ⟨_,_,_,ez,?_⟩;generalize hZ:((List.range l).map fun (x:Nat)=>[zu zA a (x:Int),zu zA b (x:Int)]) = Z;have hZm:∀ g ∈ Z,∃ c d,g = [c,d] /\ Rea zA l ps c d:=fun g hg=>by
  rw [<- hZ] at hg;obtain ⟨x,hx,rfl⟩:=zQX.mp hg;have:=zQu.mp hx;exact ⟨_,_,rfl,rab.step (by omega)⟩
 refine zAZ (I:=fun r σ M'=>∃ y6 R' T' us vs,σ = joS zA j M.length i y6 /\ M' = M ++ [.lst (R'.map tI),dT T'] /\ r = (vs:List (List Int)).map tI /\ Z = us ++ vs /\ (∀ g ∈ us,g ∈ R') /\ (∃ N,R' = R ++ N) /\ JI zA l ps R' i /\ Kn T' R') ?_ ?_ _ _ _ ⟨y6,R,T,[],Z,rfl,rfl,rfl,rfl,(fun _ h=>by cases h),⟨[],by simp⟩,ji,kn⟩
 ·rintro x r σ M' ⟨y,R',T',us,vs,rfl,rfl,hr,huv,hus,⟨N,hN⟩,ji',kn'⟩;cases vs with
  | nil=>cases hr
  | cons g vs=>
   rw [zQZ] at hr;obtain ⟨rfl,rfl⟩:=zRK hr;refine ⟨⟨rfl,rfl⟩,_,rfl,?_⟩;show OkS (sIf _ _ _ (joS zA j M.length i (some (tI g))) (M ++ [.lst (R'.map tI),dT T'])) _;rw [zAK];refine zE (M:=M ++ [.lst (R'.map tI),dT T']) (a:=!decide (g ∈ R')) (zAL (zN (x:=.dat (tI g)) (y:=.dat (.ref (M.length + 1))) rfl rfl ((zPn (g3 _ _)).trans (by rw [kn'.at']; rfl)))) ?_;have hlen:=ji'.len m hp;by_cases hg:g ∈ R'
   ·rw [zQY (by simp [hg]),zAE];refine ⟨_,R',T',us ++ [g],vs,rfl,rfl,rfl,by rw [huv]; simp,fun x hx=>?_,⟨N,hN⟩,ji',kn'⟩;rcases zQg.mp hx with z | z
    ·exact hus x z
    ·rw [zQi] at z; subst z; exact hg
   ·rw [zQV (by simp [hg]),zF];refine zHK (n:=M.length + 1) (k:=tI g) (v:=bT) rfl rfl rfl (zM1 (g3 _ _) (by have:=kn'.len; omega)) ?_;rw [zK,zAz,show (M ++ [MO.lst (R'.map tI),dT T']).set (M.length + 1) (dT (zDF T' g bT)) = M ++ [.lst (R'.map tI),dT (zDF T' g bT)] by rw [List.set_append_right _ _ (by omega)]; simp];refine zEL.mpr (zj.mpr ⟨_,rfl,⟨_,zo (g2 _ _)⟩,zE (zp (d:=tI g) rfl) ?_⟩);rw [zBk (g2 _ _) (by rw [zQP]; exact zQf (m:=95000) (by omega) (zU (by omega)))];obtain ⟨c,d,rfl,rcd⟩:=hZm g (by rw [huv]; simp);refine ⟨_,R' ++ [[c,d]],zDF T' [c,d] bT,us ++ [[c,d]],vs,rfl,?_,rfl,by rw [huv]; simp,fun x hx=>?_,⟨N ++ [[c,d]],by rw [hN]; simp⟩,ji'.add rcd hg (by rw [hN]; simp; omega),zKp kn' _⟩
    ·rw [List.set_append_right _ _ (by omega)]; simp
    ·rcases zQg.mp hx with z | z
     ·exact zRV _ (hus x z)
     ·exact zQa _ z
 ·rintro σ M' ⟨y,R',T',us,vs,rfl,rfl,hr,huv,hus,⟨N,hN⟩,ji',kn'⟩;have:vs = []:=by cases vs with | nil=>rfl | cons _ _=>cases hr
  subst this;rw [zQ0] at huv;refine ⟨⟨rfl,rfl⟩,rfl,y,R',T',rfl,rfl,by rw [hN]; simp; omega,⟨ji'.pre,ji'.rea,fun k hk c d q x hx=>?_⟩,kn'⟩;rcases Nat.lt_or_ge k i with z | z
  ·exact ji'.cl k z c d q x hx
  ·have:k = i:=by omega
   subst this;rw [hN,zQN hi,eR'] at q;cases q;refine hus _ ?_;rw [<- huv,<- hZ];exact zQX.mpr ⟨x.toNat,zQu.mpr (by omega),by rw [show ((x.toNat:Nat):Int) = x by omega]⟩
theorem zLI (hp:∀ p ∈ ps,InR zA.length p):JI zA l ps ps 0:=by
 refine ⟨⟨[],by simp,.nil⟩,fun g hg=>?_,fun k hk=>by omega⟩;obtain ⟨a,b,rfl,_⟩:=hp g hg;exact ⟨a,b,rfl,.base hg⟩
theorem zM6 (h:JI zA l ps R R.length) (r:Rea zA l ps a b):[a,b] ∈ R:=by
 induction r with
 | base q=>
  obtain ⟨N,e,_⟩:=h.pre;rw [e]; exact zRV _ q
 | step _ hx ih=>
  obtain ⟨k,hk,e⟩:=List.getElem_of_mem ih;exact h.cl k hk _ _ (by rw [zQK hk,e]) _ hx
theorem zLR (m:IsM zA l) (hp:∀ p ∈ ps,InR zA.length p) (hz:ps.length + zA.length * zA.length <= 1900) (kn:Kn T ps) :
  OkS (zAu (tst (fOp kLt (zC 5) (fB zAW (zQ (zC 2) zh)))) (zT (zBb (zEC (zD (toD (fOp kIx (zC 0) (fOp kIx (fOp kIx (zC 2) (zC 5)) (fC (.int 0))))) (zD (toD (fOp kIx (zC 0) (fOp kIx (fOp kIx (zC 2) (zC 5)) (fC (.int 1))))) zH))) (gN 6) (sIf (tst (fOp (zEg true) (zC 6) (zC 3))) (zT (zCe (fC (.bl true)) (zC 3) (zC 6))
  (zAY (fM zAA (zC 2) (zD (toD (zC 6)) zH)))) zAp))
  (zn 5 (fOp zAk (zC 5) (fC (.int 1))))) 2000 (joS zA j M.length 0 none) (M ++ [.lst (ps.map tI),dT T]))
   fun o σ' M'=>o = .nx /\ ∃ i y6 R T,σ' = joS zA j M.length i y6 /\ M' = M ++ [.lst (R.map tI),dT T] /\ JI zA l ps R R.length /\ Kn T R:=by
 have g2:∀ (u v:MO),(M ++ [u,v])[M.length]? = some u:=fun u v=>by simp
 refine zCV (I:=fun k σ M'=>∃ i y6 R T,k + i = 1900 /\ σ = joS zA j M.length i y6 /\ M' = M ++ [.lst (R.map tI),dT T] /\ i <= R.length /\ JI zA l ps R i /\ Kn T R) ?_ 2000 1900 _ _ (by omega) ⟨0,none,ps,T,rfl,rfl,rfl,zQ2 _,zLI hp,kn⟩;rintro k σ M' ⟨i,y6,R,T,hk,rfl,rfl,hi,ji,kn⟩;have el:=zCl (f:=zC 2) (σ:=joS zA j M.length i y6) (M:=M ++ [.lst (R.map tI),dT T]) (x:=.dat (.ref M.length)) rfl (zY (g2 _ _));rw [zQP] at el;refine zE (M:=M ++ [.lst (R.map tI),dT T]) (a:=decide ((i:Int) < (R.length:Int))) (zAL (zN (x:=.dat (.int (i:Int))) (y:=.dat (.int (R.length:Int))) rfl el (zR (zNp.mpr ⟨rfl,rfl⟩)))) ?_;have hlen:=ji.len m hp;by_cases q:i < R.length
 ·rw [zQV (by simp; omega),zF];refine OkS.mono (zL8 m hp (by omega) q ji kn) ?_;rintro o σ' M2 ⟨rfl,y6,R',T',rfl,rfl,hi',ji',kn'⟩;rw [zK,zP];refine zE (M:=M ++ [.lst (R'.map tI),dT T']) (a:=.dat (.int ((i + 1:Nat):Int))) (zN (x:=.dat (.int (i:Int))) (y:=.dat (.int 1)) rfl rfl rfl) ?_;rw [zG];exact ⟨k - 1,by omega,i + 1,y6,R',T',by omega,rfl,rfl,by omega,ji',kn'⟩
 ·rw [zQY (by simp; omega)];have:i = R.length:=by omega
  subst this;exact ⟨rfl,_,y6,R,T,rfl,rfl,ji,kn⟩
theorem zJz (hz:c.length <= 1000) (hA:A[J]? = some (.lst (c.map D.int))) (ho:0 <= o /\ o < (c.length:Int)) (ht:0 <= t /\ t < (c.length:Int)) :
  zk [10] (zAT (zC 7)) (gN 10) zx (vIf (tst (fOp kEq (zC 10) (fOp kIx (zC 7) (zC 9)))) (fOp kIx (zC 7) (zC 8)) (zC 10)) [y0,y1,y2,y3,y4,y5,y6,some (.ref J),some (.int o),some (.int t),y10] A = some (.fl ((mrg c (pg c t) (pg c o)).map D.int),A):=by
 refine (zAX c D.int (fun z=> .int (if z = pg c t then pg c o else z)) (zAl (x:=.dat (.ref J)) rfl (zY hA)) (.inl hA) (by omega) fun z hz=>⟨[y0,y1,y2,y3,y4,y5,y6,some (.ref J),some (.int o),some (.int t),some (.int z)],rfl,?_⟩).trans (by unfold mrg; rw [zQe]; rfl);refine zR (zLW.mpr (zE (M:=A) (a:=decide (z = pg c t)) (zAL (zN (x:=.dat (.int z)) (y:=.dat (.int (pg c t))) rfl (zN (x:=.dat (.ref J)) (y:=.dat (.int t)) rfl rfl (zA6 (zY hA) (zCC ht.1 ht.2))) (zR (zGc.mpr ⟨rfl,rfl⟩)))) ?_));by_cases q:z = pg c t
 ·rw [zQV (by simpa using q),zQV q];exact zE (zN (x:=.dat (.ref J)) (y:=.dat (.int o)) rfl rfl (zA6 (zY hA) (zCC ho.1 ho.2))) ⟨rfl,rfl⟩
 ·rw [zQY (by simpa using q),zQY q];exact zE (M:=A) (a:=.dat (.int z)) rfl ⟨rfl,rfl⟩
theorem zNa (h:∀ q ∈ T,q.2 = bT):MO.und n (dT T) = true:=by
 show ((zEn T).all fun p=>D.und n p.1 && D.und n p.2) = true;rw [zQr];intro p hp;obtain ⟨r,hr,rfl⟩:=zQX.mp hp;rw [h r hr];simp [tI,zAy,D.und,zb]
theorem zIi (m:IsM zA l) (hR:zA.length <= 26) (hp:∀ p ∈ ps,InR zA.length p) (hz:ps.length <= 1200) (wf:∀ (j:Nat) u,M[j]? = some u -> MO.und M.length u = true) (hj:M[j]? = some (.lst (ps.map tI))) :
  Ok (zA0 [mD zA,.ref j] M) fun d M'=>M' = M /\ ∃ c,d = tI (zBn c) /\ Cls zA.length c (Rea zA l ps):=by
 have hmul:zA.length * zA.length <= 26 * 26:=Nat.mul_le_mul hR hR;have hjl:j < M.length:=(zQJ.mp hj).1;unfold zA0;refine zCy ?_;rw [zAx];unfold zBr;show OkS (zT _ _ [some (mD zA),some (.ref j),none,none,none,none,none,none,none,none,none] M) _;rw [zF,zP];refine zNF.mpr (zDy.mpr (zj.mpr ⟨_,rfl,zFj.mpr ((zKP (zY hj)).mpr (zc ?_))⟩));rw [zK,zF,zP];simp only [List.set_cons_succ,List.set_cons_zero];have hj1:(M ++ [MO.lst (ps.map tI)])[j]? = some (.lst (ps.map tI)):=by rw [zQN hjl]; exact hj
 have ec:=zAX (own:=[4]) (g:=gN 4) (te:=zAs (zD (toD (zC 4)) (zD (toD (fC (.bl true))) zH))) (fi:=zAT (zC 1)) (σ:=[some (mD zA),some (.ref j),some (.ref M.length),none,none,none,none,none,none,none,none]) (M:=M ++ [.lst (ps.map tI)]) ps tI (fun g=>D.tup [tI g,bT]) (zAl (x:=.dat (.ref j)) rfl (zY hj1)) (.inl hj1) (by omega) fun g _=>⟨_,rfl,zJR (zAD (d:=tI g) rfl (zp (d:=bT) rfl)) (by simp)⟩;obtain ⟨T,kn,eT⟩:=zGU (A:=M ++ [.lst (ps.map tI)]) ps [] [] ⟨fun g=>by simp [zAI],by simp,fun _ h=>by cases h⟩ (by simp; omega);rw [List.nil_append] at kn;have ed:fB (zCZ true) (zQ (zk [4] (zAT (zC 1)) (gN 4) zx (zAs (zD (toD (zC 4)) (zD (toD (fC (.bl true))) zH)))) zh) [some (mD zA),some (.ref j),some (.ref M.length),none,none,none,none,none,none,none,none] (M ++ [.lst (ps.map tI)]) = some (.dat (.ref (M.length + 1)),M ++ [.lst (ps.map tI),dT T]):=by
  unfold fB zQ zh;rw [ec];dsimp only;unfold zCZ;dsimp only;rw [show zHP true = dT [] from rfl,eT];simp
 refine zE ed ?_;rw [zG,zK];refine zDP (d:=.int 0) rfl ?_;simp only [List.set_cons_succ,List.set_cons_zero];rw [zF];refine OkS.mono (zLR m hp (by omega) kn) ?_;rintro o σ' M2 ⟨rfl,i,y6,R,T,rfl,rfl,ji,kn⟩;rw [zK,zF,zP];have hRl:=ji.len m hp;have elr:zBU (fB zAW (zQ (zC 0) zh)) (joS zA j M.length i y6) (M ++ [.lst (R.map tI),dT T]) = some (.fl (((List.range zA.length).map fun (k:Nat)=>(k:Int)).map D.int),M ++ [.lst (R.map tI),dT T]):=by
  unfold zBU;rw [zAa (zA:=zA) rfl];dsimp only;rw [zQV ⟨by omega,by omega⟩,zDp,show (zA.length:Int).toNat = zA.length by omega]
 refine zE elr (zc ?_);rw [zK,zF,zAn];have eR:∀ X:Mem,(M ++ [.lst (R.map tI),dT T] ++ X)[M.length]? = some (.lst (R.map tI)):=fun X=>by rw [List.append_assoc,zRQ (zQM _)]; simp
 refine ⟨_,_,_,zAl (x:=.dat (.ref M.length)) rfl (zY (eR _)),?_⟩;refine zAZ (I:=fun r σ M'=>∃ (X:Mem) (J:Nat) (c:List Int) (us vs:List (List Int)) (y8 y9 y10:Option D),σ = [some (mD zA),some (.ref j),some (.ref M.length),some (.ref (M.length + 1)),none,some (.int (i:Int)),y6,some (.ref J),y8,y9,y10] /\ M' = M ++ [.lst (R.map tI),dT T] ++ X /\ (∀ u ∈ X,MO.und 0 u = true) /\ M'[J]? = some (.lst (c.map D.int)) /\ r = vs.map tI /\ R = us ++ vs /\ Cls zA.length c (fun a b=>[a,b] ∈ us)) ?_ ?_ _ _ _ ⟨[.lst (((List.range zA.length).map fun (k:Nat)=>(k:Int)).map D.int)],_,_,[],R,none,none,none,rfl,rfl,fun u hu=>?_,zX _ _,rfl,rfl,zFO _ fun a b h=>by cases h⟩
 ·rintro x r σ M' ⟨X,J,c,us,vs,y8,y9,y10,rfl,rfl,hX,hJ,hr,huv,hc⟩;cases vs with
  | nil=>cases hr
  | cons g vs=>
   rw [zQZ] at hr;obtain ⟨rfl,rfl⟩:=zRK hr;obtain ⟨a,b,rfl,rab⟩:=ji.rea g (by rw [huv]; simp);obtain ⟨ia,ib⟩:=rab.inr m hp;refine ⟨.inl (eR _),[some (mD zA),some (.ref j),some (.ref M.length),some (.ref (M.length + 1)),none,some (.int (i:Int)),y6,some (.ref J),some (.int a),some (.int b),y10],rfl,?_⟩;rw [zP];refine zE (zJz (by rw [hc.1]; omega) hJ (by rw [hc.1]; exact ia) (by rw [hc.1]; exact ib)) (zc ?_);refine ⟨X ++ [.lst ((mrg c (pg c b) (pg c a)).map D.int)],_,mrg c (pg c b) (pg c a),us ++ [[a,b]],vs,_,_,_,rfl,by simp,fun u hu=>?_,zX _ _,rfl,by rw [huv]; simp,?_⟩
   ·rcases zQg.mp hu with z | z
    ·exact hX u z
    ·rw [zQi] at z; subst z; exact zb _ _
   ·refine zIg hc (fun p q h=>?_) ia ib (fun p q h=>zRV _ h) (.base (by simp)) fun p q h=>?_
    ·obtain ⟨p',q',e,r⟩:=ji.rea _ (by rw [huv]; exact zRV _ h);cases e;exact r.inr m hp
    ·rcases zQg.mp h with z | z
     ·exact .inl z
     ·rw [zQi] at z; cases z; exact .inr (.inl ⟨rfl,rfl⟩)
 ·rintro σ M' ⟨X,J,c,us,vs,y8,y9,y10,rfl,rfl,hX,hJ,hr,huv,hc⟩;have:vs = []:=by cases vs with | nil=>rfl | cons _ _=>cases hr
  subst this;rw [zQ0] at huv;subst huv;refine ⟨.inl (eR _),?_⟩;rw [zK];have wf':∀ (j:Nat) u,(M ++ [.lst (R.map tI),dT T] ++ X)[j]? = some u -> MO.und (M ++ [.lst (R.map tI),dT T] ++ X).length u = true:=fun k u e=>by
   rcases zQg.mp (zQ7 e) with z | z
   ·rcases zQg.mp z with z | z
    ·obtain ⟨k',hk',e'⟩:=List.getElem_of_mem z;exact zDK (by simp) (wf k' u (by rw [zQK hk',e']))
    ·rcases zQS.mp z with z | z
     ·subst z; exact zCW _ _
     ·rw [zQi] at z; subst z; exact zNa kn.val
   ·exact zDK (zQ2 _) (hX u z)
  refine zAo (d:=tI (zBn c)) (zBJ (zp (d:=.ref J) rfl) (zDb wf' hJ (by rw [hc.1]; omega))) ⟨⟨by simp [tI,zAy],by simp,fun k u hk e=>?_⟩,by simp,c,rfl,hc.congr (fun a b h=>?_) fun a b r=> .base (zM6 ji r)⟩
  ·rw [List.append_assoc,zQN hk] at e;exact wf k u e
  ·obtain ⟨a',b',e,r⟩:=ji.rea _ h;cases e;exact .base r
 ·rw [zQi] at hu; subst hu; exact zb _ _
noncomputable def zDH:FS:=(zT (zn 2 (zBU (fB zAW (zQ (zC 0) zh))))
  (zT (zn 3 (fB zDg (zQ (zC 1) zh)))
  (zT (zAu (zJL (zC 3)) (zT (zEe (zBE 4 5) (zE9 (zC 3)))
  (zT (zEe (zBE 6 7) (zAs (zD (toD (fOp kIx (zC 2) (zC 4))) (zD (toD (fOp kIx (zC 2) (zC 5))) zH))))
  (sIf (tst (fOp kNe (zC 6) (zC 7))) (zT (zn 2 (zk [8] (zAT (zC 2)) (gN 8) zx (vIf (tst (fOp kEq (zC 8) (zC 6))) (zC 7) (zC 8))))
  (zAY (fM zBK (zC 3) (zD (toD (zFA (zD (toD (fOp kIx (zC 0) (zC 4))) (zD (toD (fOp kIx (zC 0) (zC 5))) zH)))) zH)))) zAp))) 1000)
  (zAq (zW zBD (zD (toD (zC 2)) zH))))))
noncomputable def zBM:FF:=zGo (zCG 9 zDH)
structure KI (zA:List (List Int)) (l:Nat) (ps E due:List (List Int)) (c:List Int):Prop where
 cls:Cls zA.length c (fun a b=>[a,b] ∈ E)
 re:∀ g ∈ E,∃ a b,g = [a,b] /\ Rea zA l ps a b
 rd:∀ g ∈ due,∃ a b,g = [a,b] /\ Rea zA l ps a b
 st:∀ a b x:Int,[a,b] ∈ E -> 0 <= x /\ x < (l:Int) -> Eqv zA.length (fun a b=>[a,b] ∈ E) (zu zA a x) (zu zA b x) \/ [zu zA a x,zu zA b x] ∈ due
 pp:∀ a b:Int,[a,b] ∈ ps -> Eqv zA.length (fun a b=>[a,b] ∈ E) a b \/ [a,b] ∈ due
section
variable {zA:List (List Int)} {l:Nat} {ps E due:List (List Int)} {c:List Int}
theorem zJ4 {ps:List (List Int)} (hp:∀ p ∈ ps,InR zA.length p):KI zA l ps [] ps ((List.range zA.length).map fun (k:Nat)=>(k:Int)) :=
 ⟨zFO _ (fun a b h=>by cases h),(fun g h=>by cases h),fun g hg=>by obtain ⟨a,b,rfl,_⟩:=hp g hg; exact ⟨a,b,rfl,.base hg⟩,(fun a b x h=>by cases h),fun a b h=> .inr h⟩
theorem zNO (m:IsM zA l) (h:KI zA l ps E [] c):Cls zA.length c (Rea zA l ps):=by
 refine h.cls.congr (fun a b e=>?_) fun a b r=>?_
 ·obtain ⟨a',b',q,r⟩:=h.re _ e;cases q;exact .base r
 ·induction r with
  | base q=>exact (h.pp _ _ q).elim id fun z=>by cases z
  | step _ hx ih=>exact ih.step m hx fun a b e=>(h.st a b _ e hx).elim id fun z=>by cases z
theorem zLy {g:List Int} {a b:Int} (h:KI zA l ps E (due ++ [[a,b]]) c) (e:Eqv zA.length (fun a b=>[a,b] ∈ E) a b):KI zA l ps E due c:=by
 have key:∀ u v:Int,(Eqv zA.length (fun a b=>[a,b] ∈ E) u v \/ [u,v] ∈ due ++ [[a,b]]) -> Eqv zA.length (fun a b=>[a,b] ∈ E) u v \/ [u,v] ∈ due:=fun u v z=>by
  rcases z with z | z
  ·exact .inl z
  ·rcases zQg.mp z with z | z
   ·exact .inr z
   ·rw [zQi] at z; cases z; exact .inl e
 exact ⟨h.cls,h.re,fun g hg=>h.rd g (zRV _ hg),fun u v x hu hx=>key _ _ (h.st u v x hu hx),fun u v hu=>key _ _ (h.pp u v hu)⟩
theorem zLs (m:IsM zA l) (hp:∀ p ∈ ps,InR zA.length p) {a b:Int} (h:KI zA l ps E (due ++ [[a,b]]) c):KI zA l ps (E ++ [[a,b]]) (due ++ (List.range l).map fun (x:Nat)=>[zu zA a (x:Int),zu zA b (x:Int)]) (mrg c (pg c a) (pg c b)):=by
 obtain ⟨a',b',q,rab⟩:=h.rd [a,b] (by simp);cases q;obtain ⟨ia,ib⟩:=rab.inr m hp;have up:∀ {u v},Eqv zA.length (fun a b=>[a,b] ∈ E) u v -> Eqv zA.length (fun u v=>[u,v] ∈ E ++ [[a,b]]) u v:=fun e=>e.sub fun _ _ z=> .base (zRV _ z);have key:∀ u v:Int,(Eqv zA.length (fun a b=>[a,b] ∈ E) u v \/ [u,v] ∈ due ++ [[a,b]]) -> Eqv zA.length (fun u v=>[u,v] ∈ E ++ [[a,b]]) u v \/ [u,v] ∈ due ++ (List.range l).map fun (x:Nat)=>[zu zA a (x:Int),zu zA b (x:Int)]:=fun u v z=>by
  rcases z with z | z
  ·exact .inl (up z)
  ·rcases zQg.mp z with z | z
   ·exact .inr (zRV _ z)
   ·rw [zQi] at z; cases z; exact .inl (.base (by simp))
 refine ⟨zIg h.cls (fun u v z=>?_) ib ia (fun u v z=>zRV _ z) (Eqv.symm (.base (by simp))) fun u v z=>?_,fun g hg=>?_,fun g hg=>?_,fun u v x hu hx=>?_,fun u v hu=>key u v (h.pp u v hu)⟩
 ·obtain ⟨u',v',q,r⟩:=h.re _ z;cases q;exact r.inr m hp
 ·rcases zQg.mp z with z | z
  ·exact .inl z
  ·rw [zQi] at z; cases z; exact .inr (.inr ⟨rfl,rfl⟩)
 ·rcases zQg.mp hg with z | z
  ·exact h.re g z
  ·rw [zQi] at z; subst z; exact ⟨a,b,rfl,rab⟩
 ·rcases zQg.mp hg with z | z
  ·exact h.rd g (zRV _ z)
  ·obtain ⟨x,hx,rfl⟩:=zQX.mp z;have:=zQu.mp hx;exact ⟨_,_,rfl,rab.step (by omega)⟩
 ·rcases zQg.mp hu with z | z
  ·exact key _ _ (h.st u v x z hx)
  ·rw [zQi] at z; cases z;exact .inr (zQa _ (zQX.mpr ⟨x.toNat,zQu.mpr (by omega),by rw [show ((x.toNat:Nat):Int) = x by omega]⟩))
theorem zJd {c:List Int} {x y:Int} (hx:x ∈ c) (hy:y ∈ c) (hne:x ≠ y):(zL (mrg c x y)).length + 1 <= (zL c).length:=by
 have nd:(x :: zL (mrg c x y)).Nodup:=List.nodup_cons.mpr ⟨fun z=>by
  obtain ⟨w,_,e⟩:=zQX.mp ((zA3 _ _).mp z);by_cases q:w = x
  ·rw [zQV q] at e; exact hne e.symm
  ·rw [zQY q] at e; exact q e,zFl _⟩
 have:=zDx _ (zL c) nd fun z hz=>by
  rw [zA3];rcases zQS.mp hz with rfl | hz
  ·exact hx
  ·obtain ⟨w,hw,e⟩:=zQX.mp ((zA3 _ _).mp hz);by_cases q:w = x
   ·rw [zQV q] at e; rw [<- e]; exact hy
   ·rw [zQY q] at e; rw [<- e]; exact hw
 simpa using this
end
abbrev kbS (zA:List (List Int)) (ps:List (List Int)) (J:Nat) (y4 y5 y6 y7 y8:Option D):Sd:=[some (mD zA),some (.tup (ps.map tI)),some (.ref J),some (.ref 1),y4,y5,y6,y7,y8]
theorem zLS {zA:List (List Int)} {l:Nat} (m:IsM zA l) (hR:zA.length <= 26) (hl:l <= 12) {ps:List (List Int)} (hp:∀ p ∈ ps,InR zA.length p) (hz:ps.length <= 500) :
  OkS (zAu (zJL (zC 3)) (zT (zEe (zBE 4 5) (zE9 (zC 3)))
  (zT (zEe (zBE 6 7) (zAs (zD (toD (fOp kIx (zC 2) (zC 4))) (zD (toD (fOp kIx (zC 2) (zC 5))) zH))))
  (sIf (tst (fOp kNe (zC 6) (zC 7))) (zT (zn 2 (zk [8] (zAT (zC 2)) (gN 8) zx (vIf (tst (fOp kEq (zC 8) (zC 6))) (zC 7) (zC 8))))
  (zAY (fM zBK (zC 3) (zD (toD (zFA (zD (toD (fOp kIx (zC 0) (zC 4))) (zD (toD (fOp kIx (zC 0) (zC 5))) zH)))) zH)))) zAp))) 1000 (kbS zA ps 0 none none none none none) [.lst (((List.range zA.length).map fun (k:Nat)=>(k:Int)).map D.int),.lst (ps.map tI)])
   fun o σ' M'=>o = .nx /\ ∃ J y4 y5 y6 y7 y8 c,σ' = kbS zA ps J y4 y5 y6 y7 y8 /\ M'[J]? = some (.lst ((c:List Int).map D.int)) /\ Cls zA.length c (Rea zA l ps):=by
 have h0:ps.length + l * (zL ((List.range zA.length).map fun (k:Nat)=>(k:Int))).length < 1000:=by
  have h1:=zB4 ((List.range zA.length).map fun (k:Nat)=>(k:Int));rw [zQP,List.length_range] at h1;have:=Nat.mul_le_mul hl (zQh h1 hR);omega
 refine zCV (I:=fun k σ M'=>∃ J y4 y5 y6 y7 y8 c E due,k = due.length + l * (zL (c:List Int)).length /\ σ = kbS zA ps J y4 y5 y6 y7 y8 /\ J ≠ 1 /\ M'[J]? = some (.lst (c.map D.int)) /\ M'[1]? = some (.lst (due.map tI)) /\ due.length + l * (zL c).length < 1000 /\ KI zA l ps E due c) ?_ 1000 _ _ _ h0 ⟨0,none,none,none,none,none,_,[],ps,rfl,rfl,by omega,rfl,rfl,h0,zJ4 hp⟩;rintro k σ M' ⟨J,y4,y5,y6,y7,y8,c,E,due,rfl,rfl,hJ1,hJ,hd,hdl,ki⟩;refine zE (M:=M') (a:=!(due.map tI).isEmpty) (zNb (j:=1) rfl hd) ?_;rcases List.eq_nil_or_concat due with rfl | ⟨due,g,rfl⟩
 ·rw [zQY (by simp)];exact ⟨rfl,J,y4,y5,y6,y7,y8,c,rfl,hJ,zNO m ki⟩
 ·rw [List.concat_eq_append] at hd ki hdl ⊢;rw [zQV (by simp)];obtain ⟨a,b,rfl,rab⟩:=ki.rd g (by simp);obtain ⟨ia,ib⟩:=rab.inr m hp;have cl:=ki.cls.1;have h1l:1 < M'.length:=(zQJ.mp hd).1;have ePop:zE9 (zC 3) (kbS zA ps J y4 y5 y6 y7 y8) M' = some (.dat (tI [a,b]),M'.set 1 (.lst (due.map tI))):=by
   unfold zE9;rw [show zC 3 (kbS zA ps J y4 y5 y6 y7 y8) M' = some (.dat (.ref 1),M') from rfl];dsimp only;rw [hd];dsimp only;rw [zQ8,zQW,zQP,zRQ (by simp)];simp
  rw [zF,zDn];refine zE ePop ?_;rw [zG];refine ⟨kbS zA ps J (some (.int a)) (some (.int b)) y6 y7 y8,rfl,?_⟩;have hJ2:(M'.set 1 (.lst (due.map tI)))[J]? = some (.lst (c.map D.int)):=by rw [zQk (Ne.symm hJ1)]; exact hJ
  have hd2:(M'.set 1 (.lst (due.map tI)))[1]? = some (.lst (due.map tI)):=zRA h1l;generalize M'.set 1 (.lst (due.map tI)) = A at hJ2 hd2;rw [zK,zF,zDn];have iv:∀ {v:Int} {i:Nat} {M:Mem} {y6 y7 y8:Option D},M[J]? = some (.lst (c.map D.int)) -> 0 <= v /\ v < (zA.length:Int) -> zC i (kbS zA ps J (some (.int a)) (some (.int b)) y6 y7 y8) M = some (.dat (.int v),M) -> fOp kIx (zC 2) (zC i) (kbS zA ps J (some (.int a)) (some (.int b)) y6 y7 y8) M = some (.dat (.int (pg c v)),M):=fun e hv h=>zN (x:=.dat (.ref J)) (y:=.dat (.int _)) rfl h (zA6 (zY e) (zCC hv.1 (by rw [cl]; exact hv.2)));refine zE (zJR (zAD (iv hJ2 ia rfl) (zp (iv hJ2 ib rfl))) (by simp)) ?_;rw [zG];refine ⟨kbS zA ps J (some (.int a)) (some (.int b)) (some (.int (pg c a))) (some (.int (pg c b))) y8,rfl,?_⟩;rw [zK,zAK];refine zE (M:=A) (a:=!decide (pg c a = pg c b)) (zAL (zN (x:=.dat (.int (pg c a))) (y:=.dat (.int (pg c b))) rfl rfl (zR (zOf.mpr ⟨by simp,rfl⟩)))) ?_;rw [zQW,List.length_singleton] at hdl ⊢;by_cases hq:pg c a = pg c b
  ·rw [zQY (by rw [zRO hq]; decide),zAE];exact ⟨_,by omega,J,_,_,_,_,_,c,E,due,rfl,rfl,hJ1,hJ2,hd2,by omega,zLy (g:=[]) ki ((ki.cls.2 a b ia ib).mp hq)⟩
  ·rw [zQV (by rw [zQp hq]; rfl),zF,zP];have ec:zk [8] (zAT (zC 2)) (gN 8) zx (vIf (tst (fOp kEq (zC 8) (zC 6))) (zC 7) (zC 8)) (kbS zA ps J (some (.int a)) (some (.int b)) (some (.int (pg c a))) (some (.int (pg c b))) y8) A = some (.fl ((mrg c (pg c a) (pg c b)).map D.int),A):=by
    refine (zAX c D.int (fun z=> .int (if z = pg c a then pg c b else z)) (zAl (x:=.dat (.ref J)) rfl (zY hJ2)) (.inl hJ2) (by omega) fun z hz=>⟨kbS zA ps J (some (.int a)) (some (.int b)) (some (.int (pg c a))) (some (.int (pg c b))) (some (.int z)),rfl,?_⟩).trans (by unfold mrg; rw [zQe]; rfl);refine zR (zLW.mpr (zE (M:=A) (a:=decide (z = pg c a)) (zAL (zN (x:=.dat (.int z)) (y:=.dat (.int (pg c a))) rfl rfl (zR (zGc.mpr ⟨rfl,rfl⟩)))) ?_));by_cases q:z = pg c a
    ·rw [zQV (by simpa using q),zQV q];exact zE (M:=A) (a:=.dat (.int (pg c b))) rfl ⟨rfl,rfl⟩
    ·rw [zQY (by simpa using q),zQY q];exact zE (M:=A) (a:=.dat (.int z)) rfl ⟨rfl,rfl⟩
   refine zE ec (zc ?_);rw [zK,zAz];simp only [List.set_cons_succ,List.set_cons_zero];have hal:1 < A.length:=(zQJ.mp hd2).1;have hd3:(A ++ [MO.lst ((mrg c (pg c a) (pg c b)).map D.int)])[1]? = some (.lst (due.map tI)):=by rw [zQN hal]; exact hd2
   have hJ3:=zX A (MO.lst ((mrg c (pg c a) (pg c b)).map D.int));have hJn:A.length ≠ 1:=by omega
   generalize hB:A ++ [MO.lst ((mrg c (pg c a) (pg c b)).map D.int)] = B at hd3 hJ3;have hBl:A.length < B.length:=by rw [<- hB]; simp
   have ra:=zD4 (zA:=zA) ia.1 ia.2;have rb:=zD4 (zA:=zA) ib.1 ib.2;have ez:zFA (zD (toD (fOp kIx (zC 0) (zC 4))) (zD (toD (fOp kIx (zC 0) (zC 5))) zH)) [some (mD zA),some (.tup (ps.map tI)),some (.ref A.length),some (.ref 1),some (.int a),some (.int b),some (.int (pg c a)),some (.int (pg c b)),y8] B = some (.fl (((List.range l).map fun (x:Nat)=>[zu zA a (x:Int),zu zA b (x:Int)]).map tI),B):=by
    unfold zFA;rw [zAD (d:=.tup ((zA.getD a.toNat []).map D.int)) (zN (x:=.dat (mD zA)) (y:=.dat (.int a)) rfl rfl (zA6 zAd ra)) (zp (d:=.tup ((zA.getD b.toNat []).map D.int)) (zN (x:=.dat (mD zA)) (y:=.dat (.int b)) rfl rfl (zA6 zAd rb)))];dsimp only;rw [show zf B (.dat (.tup ((zA.getD a.toNat []).map D.int))) = some ((zA.getD a.toNat []).map D.int) from rfl,show zf B (.dat (.tup ((zA.getD b.toNat []).map D.int))) = some ((zA.getD b.toNat []).map D.int) from rfl];dsimp only;rw [List.zip_map,zGI m ia ib,zQV (zU (by simp; omega)),zQe,zQe,zQe];rfl
   have hca:pg c a ∈ c:=zK3 (by omega);have hcb:pg c b ∈ c:=zK3 (by omega);have hcnt:=zJd hca hcb hq;have hmul:=Nat.mul_le_mul_left l hcnt;rw [Nat.mul_add,Nat.mul_one] at hmul;refine zEL.mpr (zj.mpr ⟨_,rfl,⟨_,zo hd3⟩,zE (aC' (zIU ez) rfl) ?_⟩);have hd4:(B ++ [MO.lst (((List.range l).map fun (x:Nat)=>[zu zA a (x:Int),zu zA b (x:Int)]).map tI)])[1]? = some (.lst (due.map tI)):=by rw [zQN (by omega)]; exact hd3
   refine zE (zEz hd4 (zX _ _) (by simp; omega)) ?_;refine ⟨_,?_,A.length,_,_,_,_,_,mrg c (pg c a) (pg c b),E ++ [[a,b]],due ++ (List.range l).map fun (x:Nat)=>[zu zA a (x:Int),zu zA b (x:Int)],rfl,rfl,hJn,?_,?_,?_,zLs m hp ki⟩
   ·rw [zQW,zQP,List.length_range]; omega
   ·rw [zQk (Ne.symm hJn),zQN hBl]; exact hJ3
   ·rw [zRA (by simp; omega),zQ8]
   ·rw [zQW,zQP,List.length_range]; omega
theorem zD7 {zA:List (List Int)} {l:Nat} (m:IsM zA l) (hR:zA.length <= 26) (hl:l <= 12) {ps:List (List Int)} (hp:∀ p ∈ ps,InR zA.length p) (hz:ps.length <= 500) {M:Mem} :
  Ok (zBM [mD zA,.tup (ps.map tI)] M) fun d M'=>M' = M /\ ∃ c,d = tI (zBn c) /\ Cls zA.length c (Rea zA l ps):=by
 unfold zBM;refine zMG (by unfold D.unds D.unds D.unds; rw [zHc]; unfold D.und; rw [zCW]; rfl) ?_;rw [zAx];unfold zDH;show OkS (zT _ _ [some (mD zA),some (.tup (ps.map tI)),none,none,none,none,none,none,none] []) _;rw [zF,zP];have elr:zBU (fB zAW (zQ (zC 0) zh)) [some (mD zA),some (.tup (ps.map tI)),none,none,none,none,none,none,none] [] = some (.fl (((List.range zA.length).map fun (k:Nat)=>(k:Int)).map D.int),[]):=by
  unfold zBU;rw [zAa (zA:=zA) rfl];dsimp only;rw [zQV ⟨by omega,by omega⟩,zDp,show (zA.length:Int).toNat = zA.length by omega]
 refine zE elr (zc ?_);rw [zK,zF,zP];refine zNF.mpr (zDy.mpr (zj.mpr ⟨_,rfl,zFj.mpr ((zKP zAd).mpr (zc ?_))⟩));rw [zK,zF];refine OkS.mono (zLS m hR hl hp hz) ?_;rintro o σ' M' ⟨rfl,J,y4,y5,y6,y7,y8,c,rfl,hJ,hc⟩;rw [zK,zBv];refine zA5.mpr (zE (zp (d:=.ref J) rfl) ?_);refine Ok.mono (zFh hJ (by rw [hc.1]; omega)) ?_;rintro d M2 ⟨rfl,_,_⟩;rw [zG];exact ⟨zAy _,rfl,c,rfl,hc⟩
noncomputable def zC0 (g_rec:FF):FS:=(zT (sIf (tst (zDX "tuple" (zC 1))) (zT (sIf (zKu (zCr (tst (zDX "tuple" (zC 0)))) (tst (fOp kNe (fB zAW (zQ (zC 0) zh)) (fB zAW (zQ (zC 1) zh))))) (zAq (fC (.bl false))) zAp)
  (zAq (fB zPL (zQ (zk [2,3] (zKD (zD (toD (zC 0)) (zD (toD (zC 1)) zH))) (zBE 2 3) zx (zW g_rec (zD (toD (zC 2)) (zD (toD (zC 3)) zH)))) zh)))) zAp)
  (zT (sIf (tst (zDX "bool" (zC 1))) (zAq (zGw (zDX "bool" (zC 0)) (fOp kEq (zC 0) (zC 1)))) zAp)
  (zAq (zGw (zDX "int" (zC 0)) (zGw (zLA (zDX "bool" (zC 0))) (fOp kEq (zC 0) (zC 1)))))))
noncomputable def zAM:Nat -> FF
 | 0=>fun _ _=>none
 | n + 1=>zCG 4 (zC0 (zAM n))
noncomputable def zEM:FF:=zAM 5
theorem zOK (n:Nat) (i:Int) (M:Mem):zAM (n + 1) [.int i,.int i] M = some (.bl true,M):=by
 refine zR ?_;unfold zAM;rw [zAx];unfold zC0;refine zF0 (isF rfl rfl (by decide)) (zF0 (isF rfl rfl (by decide)) ?_);exact zAo (zDQ (isV rfl rfl (by decide)) (zDQ (zHp (isV rfl rfl (by decide))) (zN rfl rfl (zKb rfl)))) ⟨rfl,rfl⟩
theorem zIS (n:Nat) (c:List Int) (hz:c.length <= 1000) (M:Mem):zAM (n + 2) [tI c,tI c] M = some (.bl true,M):=by
 refine zR ?_;unfold zAM;rw [zAx];unfold zC0;refine zL1 (zOi rfl rfl (by decide)) (zF0 ?_ ?_)
 ·refine zR (zNJ.mpr (zIc.mpr (zE (zOi rfl rfl (by decide)) ?_)));rw [zQY (by decide)];refine zFv.mpr (zE (zN (zCl rfl zAd) (zCl rfl zAd) (zR (zOf.mpr ⟨rfl,rfl⟩))) ?_);rw [zFe]; simp
 ·rw [zBv];have ec:=zAX (own:=[2,3]) (g:=zBE 2 3) (te:=zW (zAM (n + 1)) (zD (toD (zC 2)) (zD (toD (zC 3)) zH))) (fi:=zKD (zD (toD (zC 0)) (zD (toD (zC 1)) zH))) (σ:=[some (tI c),some (tI c),none,none]) (M:=M) c (fun i=>D.tup [.int i,.int i]) (fun _=>D.bl true) (gd:=none) (by
   unfold zKD;rw [zAD (d:=tI c) rfl (zp (d:=tI c) rfl)];show some (((c.map D.int).zip (c.map D.int)).map (fun q=>D.tup [q.1,q.2]),(none:Option (Mem -> Prop)),M) = _;rw [show ((c.map D.int).zip (c.map D.int)).map (fun q=>D.tup [q.1,q.2]) = c.map fun i=>D.tup [.int i,.int i] by
    rw [List.zip_map,zQe];clear hz;induction c with
    | nil=>rfl
    | cons a r ih=>simp only [List.zip_cons_cons,zQZ]; rw [ih]; rfl]) trivial (by omega) fun i _=>⟨_,rfl,zBJ (zAD rfl (zp rfl)) (zOK n i M)⟩
  refine zNF.mpr (zDy.mpr (zE ec (zFj.mpr ((zPf (bs:=List.replicate c.length true) zM8 (by rw [show c.map (fun _=>D.bl true) = (List.replicate c.length true).map D.bl by simp [List.map_const']]; exact zE3 _)).mpr ?_))));rw [zG];exact ⟨by simp,rfl⟩
noncomputable def zCF:FS:=(zT (zn 2 (zW zA0 (zD (toD (zC 0)) (zD (toD (zC 1)) zH))))
  (zT (zn 3 (fB zAU (zQ (zk [5,4] (zGb (zC 1)) (zBE 5 4) zx (zAs (zD (toD (zC 4)) (zD (toD (zC 5)) zH)))) zh)))
  (zAq (zGw (zW zEM (zD (toD (zW zBM (zD (toD (zC 0)) (zD (toD (fB zAU (zQ (zC 1) zh))) zH)))) (zD (toD (zC 2)) zH))) (zW zEM (zD (toD (zW zBM (zD (toD (zC 0)) (zD (toD (zC 3)) zH)))) (zD (toD (zC 2)) zH)))))))
noncomputable def zAr:FF:=zCw (zCG 6 zCF)
noncomputable def zK8:FS:=(zT (zn 1 (zW zBB (zD (toD (zC 0)) zH)))
  (zT (zBb (zAC (zD (toD (fB zE4 (zQ (fC (.int 6)) (zQ (fOp zAk (fC (.int 1)) (fB zAW (zQ (zC 0) zh))) zh)))) zH)) (gN 2) (zT (zn 3 (fOp kIx (zW zAw (zD (toD (zC 1)) (zD (toD (fC (.int 26))) (zD (toD (fC (.int 6))) zH)))) (fC (.int 0))))
  (zT (zn 4 (zBA zH))
  (zT (zBb (zAC (zD (toD (zW zM (zD (toD (zC 1)) (zD (toD (fOp kIx (zBA (zD (toD (fC (.int 3))) (zD (toD (fC (.int 8))) (zD (toD (fC (.int 41))) (zD (toD (fC (.int 401))) zH))))) (zW zM (zD (toD (zC 1)) (zD (toD (fC (.int 4))) zH))))) zH)))) zH)) (gN 5) (zAY (fM zAA (zC 4) (zD (toD (zAs (zD (toD (zW zM (zD (toD (zC 1)) (zD (toD (fB zAW (zQ (zC 3) zh))) zH)))) (zD (toD (zW zM (zD (toD (zC 1)) (zD (toD (fB zAW (zQ (zC 3) zh))) zH)))) zH)))) zH))))
  (zT (zn 6 (zBA zH))
  (zT (zBb (zAC (zD (toD (fB zAW (zQ (zC 3) zh))) zH)) (gN 7) (zAY (fM zBK (zC 6) (zD (toD (zk [8] (zAC (zD (toD (zC 7)) zH)) (gN 8) zx (zAs (zD (toD (zC 7)) (zD (toD (zC 8)) zH))))) zH))))
  (zBb (zAT (zBA (zD (toD (zC 4)) (zD (toD (fOp zDS (fSl (zC 4) zAf (zAQ (fC (.int 1)))) (fC (.int 400)))) (zD (toD (zC 6)) (zD (toD (zBA zH)) (zD (toD (zC 4)) zH))))))) (gN 9) (sIf (zCr (tst (zW zAr (zD (toD (zC 3)) (zD (toD (zC 9)) zH))))) (zAq (fC (.bl false))) zAp))))))))
  (zAq (fC (.bl true)))))
noncomputable def zDe:FF:=zCG 10 zK8
def swp (p:List Int):List Int:=[p.getD 1 0,p.getD 0 0]
theorem zGn (h:∀ a b,[a,b] ∈ qs -> [b,a] ∈ ps) (r:Rea zA l qs a b):Rea zA l ps b a:=by
 induction r with
 | base q=>exact .base (h _ _ q)
 | step _ hx ih=>exact ih.step hx
theorem zKN {zA:List (List Int)} (m:IsM zA l) (hR:zA.length <= 26) (hl:l <= 12) {ps:List (List Int)} (hp:∀ p ∈ ps,InR zA.length p) (hz:ps.length <= 500) {M:Mem} (wf:∀ (j:Nat) u,M[j]? = some u -> MO.und M.length u = true) (hj:M[j]? = some (.lst (ps.map tI))):zAr [mD zA,.ref j] M = some (.bl true,M):=by
 refine zR ?_;unfold zAr;refine zCy ?_;rw [zAx];unfold zCF;show OkS (zT _ _ [some (mD zA),some (.ref j),none,none,none,none] M) _;obtain ⟨d,M1,ej,rfl,c,rfl,hc⟩:=zIi m hR hp (by omega) wf hj;obtain ⟨d,M2,e1,rfl,c1,rfl,hc1⟩:=zD7 m hR hl hp hz (M:=M1);have hq:∀ p ∈ ps.reverse.map swp,InR zA.length p:=fun p hp'=>by
  obtain ⟨q,hq,rfl⟩:=zQX.mp hp';obtain ⟨a,b,rfl,ha,hb⟩:=hp q (List.mem_reverse.mp hq);exact ⟨b,a,rfl,hb,ha⟩
 obtain ⟨d,M3,e2,rfl,c2,rfl,hc2⟩:=zD7 m hR hl hq (by simpa using hz) (M:=M2);have s1:∀ a b,[a,b] ∈ ps.reverse.map swp -> [b,a] ∈ ps:=fun a b z=>by
  obtain ⟨q,hq,e⟩:=zQX.mp z;obtain ⟨u,v,rfl,_⟩:=hp q (List.mem_reverse.mp hq);cases e;exact List.mem_reverse.mp hq
 have s2:∀ a b,[a,b] ∈ ps -> [b,a] ∈ ps.reverse.map swp:=fun a b z=>zQX.mpr ⟨_,List.mem_reverse.mpr z,rfl⟩;have hc2':Cls zA.length c2 (Rea zA l ps):=hc2.congr (fun a b r=> .symm (.base (zGn s1 r))) fun a b r=> .symm (.base (zGn s2 r));rw [zIa hc1 hc] at e1;rw [zIa hc2' hc] at e2;have hn:(zBn c).length <= 1000:=by rw [zGN,hc.1]; omega
 generalize zBn c = N at ej e1 e2 hn;refine zDP (zBJ (zAD (d:=mD zA) rfl (zp (d:=.ref j) rfl)) ej) ?_;simp only [List.set_cons_succ,List.set_cons_zero];have ec:zk [5,4] (zGb (zC 1)) (zBE 5 4) zx (zAs (zD (toD (zC 4)) (zD (toD (zC 5)) zH))) [some (mD zA),some (.ref j),some (tI N),none,none,none] M3 = some (.fl ((ps.reverse.map swp).map tI),M3):=by
  refine (zAX ps.reverse tI (fun p=>tI (swp p)) (gd:=some fun M=>zAO M (.dat (.ref j)) = some (ps.map tI)) ?_ (zo hj) (by simp; omega) fun p hp'=>?_).trans (by rw [zQe]; rfl)
  ·unfold zGb;rw [show zC 1 [some (mD zA),some (.ref j),some (tI N),none,none,none] M3 = some (.dat (.ref j),M3) from rfl];dsimp only;rw [zo hj];dsimp only;rw [List.map_reverse]
  ·obtain ⟨a,b,rfl,_⟩:=hp p (List.mem_reverse.mp hp');exact ⟨[some (mD zA),some (.ref j),some (tI N),none,some (.int b),some (.int a)],rfl,(show zAs _ _ M3 = some (.dat (tI [b,a]),M3) from zJR (zAD (d:=.int b) rfl (zp (d:=.int a) rfl)) (by simp))⟩
 refine zDP (d:=.tup ((ps.reverse.map swp).map tI)) (zBS ec zCJ) ?_;simp only [List.set_cons_succ,List.set_cons_zero];generalize ps.reverse.map swp = qs at e2;refine zAo (zDQ (zBJ (zAD (d:=tI N) (zBJ (zAD (d:=mD zA) rfl (zp (d:=.tup (ps.map tI)) (zBS (x:=.dat (.ref j)) rfl (zY hj)))) e1) (zp (d:=tI N) rfl)) (zIS 3 N hn _)) (zBJ (zAD (d:=tI N) (zBJ (zAD (d:=mD zA) rfl (zp (d:=.tup (qs.map tI)) rfl)) e2) (zp (d:=tI N) rfl)) (zIS 3 N hn _))) ⟨⟨rfl,zQM _,fun k u hk e=>wf k u e⟩,rfl,List.take_length⟩
abbrev pS (i:Nat) (zA:List (List Int)) (x4 x5 x6 x7 x8 x9:Option D):Sd:=[some (.ref 0),some (.ref 1),some (.int (i:Int)),some (mD zA),x4,x5,x6,x7,x8,x9]
theorem zH0 (m:IsM zA l) (hR:zA.length <= 26) (g:Gen M 1 2) :
  OkS (zBb (zAC (zD (toD (zW zM (zD (toD (zC 1)) (zD (toD (fOp kIx (zBA (zD (toD (fC (.int 3))) (zD (toD (fC (.int 8))) (zD (toD (fC (.int 41))) (zD (toD (fC (.int 401))) zH))))) (zW zM (zD (toD (zC 1)) (zD (toD (fC (.int 4))) zH))))) zH)))) zH)) (gN 5) (zAY (fM zAA (zC 4) (zD (toD (zAs (zD (toD (zW zM (zD (toD (zC 1)) (zD (toD (fB zAW (zQ (zC 3) zh))) zH)))) (zD (toD (zW zM (zD (toD (zC 1)) (zD (toD (fB zAW (zQ (zC 3) zh))) zH)))) zH)))) zH))) (pS i zA (some (.ref M.length)) x5 x6 x7 x8 x9) (M ++ [.lst []]))
   fun o σ' M'=>o = .nx /\ ∃ x5 ps,σ' = pS i zA (some (.ref M.length)) x5 x6 x7 x8 x9 /\ M'[M.length]? = some (.lst ((ps:List (List Int)).map tI)) /\ (∀ p ∈ ps,InR zA.length p) /\ ps.length <= 400 /\ Nw M M' 1 2:=by
 obtain ⟨gn,gk⟩:=g.lt;have nw0:=g.lst [] rfl;have r0:=m.r0;have hcnt:Ok (zW zM (zD (toD (zC 1)) (zD (toD (fOp kIx (zBA (zD (toD (fC (.int 3))) (zD (toD (fC (.int 8))) (zD (toD (fC (.int 41))) (zD (toD (fC (.int 401))) zH))))) (zW zM (zD (toD (zC 1)) (zD (toD (fC (.int 4))) zH))))) zH)) (pS i zA (some (.ref M.length)) x5 x6 x7 x8 x9) (M ++ [.lst []])) fun x M1=>∃ q:Int,x = .dat (.int q) /\ 0 <= q /\ q <= 400 /\ Nw (M ++ [.lst []]) M1 1 2:=by
  refine zA5.mpr (zw.mpr (zAB.mpr (zj.mpr ⟨_,rfl,?_⟩)));rw [zG,zw,zAB,zAe];simp only [zw,zAB,zCo,zj,zG,zII,zBT,zAJ,List.getElem?_cons_succ,List.getElem?_cons_zero,Option.some.injEq,exists_eq_left'];refine ⟨zU (by simp),zq nw0.gen rfl rfl (by decide) (by decide) fun z M0 z0 z1 nw1 _=>?_⟩;obtain ⟨mm,em,m0,m1⟩:∃ mm:Int,[D.int 3,D.int 8,D.int 41,D.int 401][z.toNat]? = some (.int mm) /\ 0 < mm /\ mm <= 401:=by
   have hi:z = 0 \/ z = 1 \/ z = 2 \/ z = 3:=by omega
   rcases hi with rfl | rfl | rfl | rfl
   ·exact ⟨3,rfl,by decide,by decide⟩
   ·exact ⟨8,rfl,by decide,by decide⟩
   ·exact ⟨41,rfl,by decide,by decide⟩
   ·exact ⟨401,rfl,by decide,by decide⟩
  refine zKd zCJ (zFa z0 em) ?_;rw [zG];refine Ok.mono (zFT nw1.gen m0 (by omega)) ?_;rintro d M1 ⟨⟨R,rfl,R0,R1⟩,nw2,_⟩;exact ⟨R,rfl,R0,by omega,nw1.trans nw2⟩
 obtain ⟨x,M1,e,q,rfl,q0,q1,nw1⟩:=hcnt;have er:=zEa (zOz e) q0 (by omega);rw [zED] at er;rw [zAn];refine ⟨_,_,_,er,?_⟩;have e4:=nw1.get (zX M (MO.lst [])) (by omega) (by omega);refine zFR (n:=q.toNat) (I:=fun k σ M'=>∃ x5 ps,σ = pS i zA (some (.ref M.length)) x5 x6 x7 x8 x9 /\ M'[M.length]? = some (.lst ((ps:List (List Int)).map tI)) /\ (∀ p ∈ ps,InR zA.length p) /\ ps.length <= k /\ Nw M M' 1 2) ?_ ?_ _ _ ⟨x5,[],rfl,e4,(fun _ h=>by cases h),zQM _,nw0.trans nw1⟩
 ·rintro k σ M' hk ⟨x5,ps,rfl,e4,hps,hpl,nw⟩;refine ⟨_,rfl,?_⟩;show OkS (zAY _ (pS i zA (some (.ref M.length)) (some (.int (k:Int))) x6 x7 x8 x9) M') _;rw [zAz];refine zEL.mpr (zj.mpr ⟨_,rfl,⟨_,zo e4⟩,zw.mpr (zAB.mpr (zNd.mpr (zw.mpr (zAB.mpr ?_))))⟩);refine zq nw.gen rfl (zAa rfl) (by omega) (by omega) fun a M2 a0 a1 nw2 _=>?_;rw [zG,zw,zAB];refine zq nw2.gen rfl (zAa rfl) (by omega) (by omega) fun b M3 b0 b1 nw3 _=>?_;rw [zG,zAJ];refine ⟨zU (by simp),?_⟩;rw [zG,zAJ];have nw3':=nw.trans (nw2.trans nw3);have f4:=nw3.get (nw2.get e4 (by omega) (by omega)) (by omega) (by omega);have f4l:=(zQJ.mp f4).1;rw [zBk f4 (by rw [zQP]; exact zQf (m:=95000) (by omega) (zU (by omega)))];refine ⟨_,ps ++ [[a,b]],rfl,by rw [zRA f4l,zQ8]; rfl,fun p hp=>?_,by simp; omega,nw3'.setB g (zQM _) ?_⟩
  ·rcases zQg.mp hp with z | z
   ·exact hps p z
   ·rw [zQi] at z; subst z; exact ⟨a,b,rfl,⟨a0,a1⟩,b0,b1⟩
  ·show D.unds _ (ps.map tI ++ [tI [a,b]]) = true;rw [show ps.map tI ++ [tI [a,b]] = (ps ++ [[a,b]]).map tI by simp];exact zCW _ _
 ·rintro σ M' ⟨x5,ps,rfl,e4,hps,hpl,nw⟩;exact ⟨rfl,x5,ps,rfl,e4,hps,by omega,nw⟩
theorem zGT (hR:zA.length <= 26) (g:Gen M 1 2) :
  OkS (zBb (zAC (zD (toD (fB zAW (zQ (zC 3) zh))) zH)) (gN 7) (zAY (fM zBK (zC 6) (zD (toD (zk [8] (zAC (zD (toD (zC 7)) zH)) (gN 8) zx (zAs (zD (toD (zC 7)) (zD (toD (zC 8)) zH))))) zH))) (pS i zA x4 x5 (some (.ref M.length)) x7 x8 x9) (M ++ [.lst []]))
   fun o σ' M'=>o = .nx /\ ∃ x7 x8 ps,σ' = pS i zA x4 x5 (some (.ref M.length)) x7 x8 x9 /\ M'[M.length]? = some (.lst ((ps:List (List Int)).map tI)) /\ (∀ p ∈ ps,InR zA.length p) /\ ps.length <= 400 /\ Nw M M' 1 2:=by
 obtain ⟨gn,gk⟩:=g.lt;have nw0:=g.lst [] rfl;rw [zAn];refine ⟨_,_,_,zBi (zAa (zA:=zA) rfl) (by omega) (by omega),?_⟩;rw [show (zA.length:Int).toNat = zA.length by omega];refine zFR (n:=zA.length) (I:=fun k σ M'=>∃ x7 x8 ps,σ = pS i zA x4 x5 (some (.ref M.length)) x7 x8 x9 /\ M'[M.length]? = some (.lst ((ps:List (List Int)).map tI)) /\ (∀ p ∈ ps,InR zA.length p) /\ 2 * ps.length + k = k * k /\ Nw M M' 1 2) ?_ ?_ _ _ ⟨x7,x8,[],rfl,zX _ _,(fun _ h=>by cases h),by simp,nw0⟩
 ·rintro k σ M' hk ⟨x7,x8,ps,rfl,e4,hps,hpl,nw⟩;refine ⟨_,rfl,?_⟩;show OkS (zAY _ (pS i zA x4 x5 (some (.ref M.length)) (some (.int (k:Int))) x8 x9) M') _;have hkk:k * k <= 26 * 26:=Nat.mul_le_mul (by omega) (by omega);have er:=zFF (f:=zC 7) (σ:=pS i zA x4 x5 (some (.ref M.length)) (some (.int (k:Int))) x8 x9) (M:=M') (j:=(k:Int)) rfl (by omega) (by omega);rw [show (k:Int).toNat = k by omega] at er;have ec:zk [8] (zAC (zD (toD (zC 7)) zH)) (gN 8) zx (zAs (zD (toD (zC 7)) (zD (toD (zC 8)) zH))) (pS i zA x4 x5 (some (.ref M.length)) (some (.int (k:Int))) x8 x9) M' = some (.fl (((List.range k).map fun (o:Nat)=>[(k:Int),(o:Int)]).map tI),M'):=by
   refine (zAX (List.range k) (fun (o:Nat)=>D.int o) (fun (o:Nat)=>tI [(k:Int),(o:Int)]) er trivial (by simp; omega) fun o ho=>⟨pS i zA x4 x5 (some (.ref M.length)) (some (.int (k:Int))) (some (.int (o:Int))) x9,rfl,(show zAs _ _ M' = some (.dat (tI [(k:Int),(o:Int)]),M') from zJR (zAD (d:=.int (k:Int)) rfl (zp (d:=.int (o:Int)) rfl)) (by simp))⟩).trans (by rw [zQe]; rfl)
  rw [zAz];have l4:=(zQJ.mp e4).1;refine zEL.mpr (zj.mpr ⟨_,rfl,⟨_,zo e4⟩,zE (aC' (zIU ec) rfl) ?_⟩);have nw2:=nw.trans (nw.gen.lst (((List.range k).map fun (o:Nat)=>[(k:Int),(o:Int)]).map tI) (zCW _ _));have f4:(M' ++ [MO.lst (((List.range k).map fun (o:Nat)=>[(k:Int),(o:Int)]).map tI)])[M.length]? = some (.lst (ps.map tI)):=by rw [zQN l4]; exact e4
  refine zE (zEz f4 (zX _ _) (by simp; omega)) ?_;refine ⟨_,_,ps ++ (List.range k).map fun (o:Nat)=>[(k:Int),(o:Int)],rfl,by rw [zRA (by simp; omega),zQ8],fun p hp=>?_,?_,nw2.setB g (zQM _) ?_⟩
  ·rcases zQg.mp hp with z | z
   ·exact hps p z
   ·obtain ⟨o,ho,rfl⟩:=zQX.mp z;have:=zQu.mp ho;exact ⟨_,_,rfl,by omega,by omega⟩
  ·rw [zQW,zQP,List.length_range,show (k + 1) * (k + 1) = k * k + 2 * k + 1 by rw [Nat.add_mul,Nat.mul_add]; omega]; omega
  ·show D.unds _ _ = true;rw [<- zQ8];exact zCW _ _
 ·rintro σ M' ⟨x7,x8,ps,rfl,e4,hps,hpl,nw⟩;have:zA.length * zA.length <= 26 * 26:=Nat.mul_le_mul hR hR;exact ⟨rfl,x7,x8,ps,rfl,e4,hps,by omega,nw⟩
def PL (n:Nat) (M:Mem) (d:D):Prop:=∃ j ps,d = .ref j /\ M[j]? = some (.lst ((ps:List (List Int)).map tI)) /\ (∀ p ∈ ps,InR n p) /\ ps.length <= 400
theorem zJN {zA:List (List Int)} (m:IsM zA l) (hR:zA.length <= 26) (hl:l <= 12) {M:Mem} (wf:∀ (j:Nat) u,M[j]? = some u -> MO.und M.length u = true) (hd:∀ d ∈ ds,PL zA.length M d) :
  OkS (zBh (gN 9) (sIf (zCr (tst (zW zAr (zD (toD (zC 3)) (zD (toD (zC 9)) zH))))) (zAq (fC (.bl false))) zAp) all none ds (pS i zA x4 x5 x6 x7 x8 x9) M) fun o σ' M'=>o = .nx /\ M' = M /\ ∃ x9,σ' = pS i zA x4 x5 x6 x7 x8 x9:=by
 refine zAZ (I:=fun r σ M'=>M' = M /\ (∃ y9,σ = pS i zA x4 x5 x6 x7 x8 y9) /\ ∀ d ∈ r,PL zA.length M d) ?_ ?_ _ _ _ ⟨rfl,⟨_,rfl⟩,hd⟩
 ·rintro x r σ M' ⟨rfl,⟨y9,rfl⟩,hr⟩;obtain ⟨j,ps,rfl,hj,hp,hz⟩:=hr x (by simp);refine ⟨zr,pS i zA x4 x5 x6 x7 x8 (some (.ref j)),rfl,?_⟩;exact zKg (zBJ (zAD (d:=mD zA) rfl (zp (d:=.ref j) rfl)) (zKN m hR hl hp (by omega) wf hj)) ⟨rfl,⟨_,rfl⟩,fun d h=>hr d (by simp [h])⟩
 ·rintro σ M' ⟨rfl,⟨y9,rfl⟩,hr⟩;exact ⟨zr,rfl,rfl,_,rfl⟩
theorem zJX {ps:List (List Int)}:∃ qs:List (List Int),(List.replicate 400 (L3.zBG (ps.map tI) none (some 1))).flatten = qs.map tI /\ (∀ p ∈ qs,p ∈ ps) /\ qs.length <= 400 /\ (L3.zBG (ps.map tI) none (some 1)).length <= 1:=by
 have e:L3.zBG (ps.map tI) none (some 1) = (ps.take 1).map tI:=by
  have s:HT.sIx (ps.map tI).length (ps.map tI).length (some ((1:Nat):Int)) = min 1 (ps.map tI).length:=by rw [HT.zCx]
  have z:HT.sIx (ps.map tI).length 0 none = 0:=rfl;unfold L3.zBG;rw [show (some (1:Int)) = some ((1:Nat):Int) from rfl,s,z];rw [zQP,List.map_take,List.drop_zero,Nat.sub_zero];cases ps with
  | nil=>rfl
  | cons p r=>simp
 have l1:(ps.take 1).length <= 1:=by rw [zRe]; omega
 refine ⟨(List.replicate 400 (ps.take 1)).flatten,?_,fun p hp=>?_,?_,?_⟩
 ·rw [e,List.map_flatten,List.map_replicate]
 ·obtain ⟨q,hq,hp⟩:=List.mem_flatten.mp hp;rw [(List.mem_replicate.mp hq).2] at hp;exact List.mem_of_mem_take hp
 ·rw [List.length_flatten,List.map_replicate,List.sum_replicate_nat];omega
 ·rw [e,zQP]; exact l1
set_option maxHeartbeats 4000000 in
theorem zJ8 (ns:List Int) (h:ns.length <= 63):∃ M',zDe [.ref 0] [.fro (ns.map D.int)] = some (.bl true,M'):=by
 suffices hh:Ok (zDe [.ref 0] [.fro (ns.map D.int)]) fun d _=>d = .bl true by
  obtain ⟨d,M',e,rfl⟩:=hh;exact ⟨M',e⟩
 unfold zDe;rw [zAx];unfold zK8;show OkS (zT _ _ [some (.ref 0),none,none,none,none,none,none,none,none,none] _) _;rw [zF,zP];refine zA5.mpr (zE (zp rfl) ?_);refine Ok.mono (zLE h) ?_;rintro d M1 ⟨rfl,g1,e0⟩;rw [zG,zK];show OkS (zT _ _ [some (.ref 0),some (.ref 1),none,none,none,none,none,none,none,none] M1) _;rw [zF,zAn];have el:fB zAW (zQ (zC 0) zh) [some (.ref 0),some (.ref 1),none,none,none,none,none,none,none,none] M1 = some (.dat (.int (ns.map D.int).length),M1):=zCl (x:=.dat (.ref 0)) rfl (zLc e0);rw [zQP] at el;have emin:fB zE4 (zQ (fC (.int 6)) (zQ (fOp zAk (fC (.int 1)) (fB zAW (zQ (zC 0) zh))) zh)) [some (.ref 0),some (.ref 1),none,none,none,none,none,none,none,none] M1 = some (.dat (.int (if 1 + (ns.length:Int) < 6 then 1 + (ns.length:Int) else 6)),M1):=zMd rfl (zN rfl el rfl);refine ⟨_,_,_,zBi emin (by split <;> omega) (by split <;> omega),?_⟩;refine zFR (n:=(if 1 + (ns.length:Int) < 6 then 1 + (ns.length:Int) else 6).toNat) (I:=fun i σ M'=>(∃ y2 y3 y4 y5 y6 y7 y8 y9,σ = [some (.ref 0),some (.ref 1),y2,y3,y4,y5,y6,y7,y8,y9]) /\ Gen M' 1 2) ?_ ?_ _ _ ⟨⟨_,_,_,_,_,_,_,_,rfl⟩,g1⟩
 ·rintro i σ M' hi ⟨⟨y2,y3,y4,y5,y6,y7,y8,y9,rfl⟩,g⟩;obtain ⟨gn,gk⟩:=g.lt;refine ⟨_,rfl,?_⟩;rw [zF,zP];refine zAe.mpr (zA5.mpr (zE (zAD rfl (zAD rfl (zp rfl))) ?_));refine Ok.mono (zIk g (by decide) (by decide) (by decide) (by decide)) ?_;rintro d M3 ⟨zA,l,p,rfl,m,hR,hL,hp,nw3⟩;have hR':zA.length <= 26:=by omega
  have hL':l <= 12:=by omega
  refine zCo.mpr (zKd (d:=mD zA) zAd at0 ?_);rw [zG,zK,zF,zP];refine zBT.mpr (zAJ.mpr ⟨zU (by simp),zc ?_⟩);rw [zK,zF];simp only [List.set_cons_succ,List.set_cons_zero];refine OkS.mono (zH0 m hR' nw3.gen) ?_;rintro o σ' M4 ⟨rfl,x5,ps,rfl,e4,hps,hpl,nw4⟩;rw [zK,zF,zP];refine zBT.mpr (zAJ.mpr ⟨zU (by simp),zc ?_⟩);rw [zK,zF];simp only [List.set_cons_succ,List.set_cons_zero];refine OkS.mono (zGT hR' nw4.gen) ?_;rintro o σ' M5 ⟨rfl,x7,x8,qs,rfl,e6,hqs,hql,nw5⟩;obtain ⟨gn4,gk4⟩:=nw3.gen.lt;have l4:=(zQJ.mp e4).1;have f4:=nw5.get e4 (by omega) (by omega);have l5:=nw5.len;have l6:=(zQJ.mp e6).1;rw [zK,zAn];obtain ⟨rs,er,hrs,hrl,hc1⟩:=zJX (ps:=ps);have es:fSl (zC 4) zAf (zAQ (fC (.int 1))) (pS i zA (some (.ref M3.length)) x5 (some (.ref M4.length)) x7 x8 y9) M5 = some (.fl (L3.zBG (ps.map tI) none (some 1)),M5):=slL (x:=.dat (.ref M3.length)) rfl rfl (zo f4) rfl (oS (i:=1) rfl);have ek:fOp zDS (fSl (zC 4) zAf (zAQ (fC (.int 1)))) (fC (.int 400)) (pS i zA (some (.ref M3.length)) x5 (some (.ref M4.length)) x7 x8 y9) M5 = some (.fl (rs.map tI),M5):=by
   refine zN (x:=.fl (L3.zBG (ps.map tI) none (some 1))) (y:=.dat (.int 400)) es rfl ?_;unfold zDS;dsimp only [zA8,zEi];rw [zQV ⟨by omega,by omega,zU (by show _ * 400 <= _; omega)⟩,show (400:Int).toNat = 400 from rfl,er]
  have nw6:=nw5.gen.lst (rs.map tI) (zCW _ _);have nw7:=nw6.gen.lst [] rfl;have ex:zAT (zBA (zD (toD (zC 4)) (zD (toD (fOp zDS (fSl (zC 4) zAf (zAQ (fC (.int 1)))) (fC (.int 400)))) (zD (toD (zC 6)) (zD (toD (zBA zH)) (zD (toD (zC 4)) zH)))))) (pS i zA (some (.ref M3.length)) x5 (some (.ref M4.length)) x7 x8 y9) M5 = some ([.ref M3.length,.ref M5.length,.ref M4.length,.ref (M5 ++ [MO.lst (rs.map tI)]).length,.ref M3.length],none,M5 ++ [MO.lst (rs.map tI)] ++ [MO.lst []]) :=
   zMO (zPM (aC' (zKj (d:=.ref M3.length) rfl) (aC' (zIU ek) (aC' (zKj (d:=.ref M4.length) rfl) (aC' (zIU (zPM rfl (by simp))) (zp (d:=.ref M3.length) rfl))))) (by simp))
  refine ⟨_,_,_,ex,?_⟩;refine OkS.mono (zJN m hR' hL' nw7.gen.wf fun d hd=>?_) ?_
  ·have up:∀ (j:Nat) u,M5[j]? = some u -> (M5 ++ [MO.lst (rs.map tI)] ++ [MO.lst []])[j]? = some u:=fun j u e=>by
    have:=(zQJ.mp e).1;rw [zQN (by simp; omega),zQN this]; exact e
   have p4:PL zA.length (M5 ++ [MO.lst (rs.map tI)] ++ [MO.lst []]) (.ref M3.length):=⟨_,ps,rfl,up _ _ f4,hps,hpl⟩;simp only [zQS,zQl,zRb] at hd;rcases hd with rfl | rfl | rfl | rfl | rfl
   ·exact p4
   ·exact ⟨_,rs,rfl,by rw [zQN (by simp)]; exact zX _ _,fun p hp=>hps p (hrs p hp),hrl⟩
   ·exact ⟨_,qs,rfl,up _ _ e6,hqs,hql⟩
   ·exact ⟨_,[],rfl,zX _ _,(fun _ h=>by cases h),by simp⟩
   ·exact p4
  ·rintro o σ' M8 ⟨rfl,rfl,x9,rfl⟩;exact ⟨⟨_,_,_,_,_,_,_,_,rfl⟩,nw7.gen⟩
 ·rintro σ M' ⟨⟨y2,y3,y4,y5,y6,y7,y8,y9,rfl⟩,g⟩;rw [zK];exact zAo rfl rfl
end Lad
set_option maxHeartbeats 4000000
namespace Lad
open PySem PySem.Spec PyProof.Rows L2 L3 Law Lac
-- the text by places
def top (i:Nat):Stmt:=PySem.Challenge.pw_bringhome_k43_kept_by_pairs.main.body.getD i (.Pass ⟨0,0,0,0⟩)
abbrev zB8:Stmt:=top 1
abbrev zDR:Stmt:=top 2
abbrev zCI:Stmt:=top 4
abbrev zCn:Stmt:=top 5
abbrev zBo:Stmt:=top 6
abbrev zBf:Stmt:=top 7
abbrev zBp:Stmt:=top 8
abbrev zBV:Stmt:=top 9
abbrev zB3:Stmt:=top 10
abbrev zB1:Stmt:=top 11
abbrev zCt:Stmt:=top 12
abbrev zB7:Stmt:=top 13
abbrev zLP:Stmt:=top 14
structure Txt (K:PySem.W.Frag) (mg:Str -> Option Value) where
  d_parted_by:Df K mg "parted_by" zB8 ["marks"]
  d_kept_by:Df K mg "kept_by" zDR ["machine", "pairs"]
  d_law_begin:Df K mg "_law_begin" zCI ["_law_script"]
  d_law_next:Df K mg "_law_next" zCn ["_law_state", "_law_many"]
  d_law_column:Df K mg "_law_column" zBo ["_law_state", "_law_many", "_law_way"]
  d_law_machine:Df K mg "_law_machine" zBf ["_law_state", "_law_most", "_law_letters"]
  d_law_copies:Df K mg "_law_copies" zBp ["_law_state", "_law_most", "_law_letters"]
  d_law_numbered:Df K mg "_law_numbered" zBV ["_law_classes"]
  d_law_either:Df K mg "_law_either" zB3 ["_law_state", "_law_most", "_law_letters"]
  d_law_joined:Df K mg "_law_joined" zB1 ["_law_machine_here", "_law_pairs"]
  d_law_is:Df K mg "_law_is" zCt ["_law_found", "_law_due"]
  d_law_right:Df K mg "_law_right" zB7 ["_law_machine_here", "_law_pairs"]
  d_law:Df K mg "law" zLP ["_law_script"]
  z_tuple:mg "tuple" = none
  z_len:mg "len" = none
  z_list:mg "list" = none
  z_range:mg "range" = none
  z_zip:mg "zip" = none
  z_enumerate:mg "enumerate" = none
  z_dict:mg "dict" = none
  z_isinstance:mg "isinstance" = none
  z_bool:mg "bool" = none
  z_all:mg "all" = none
  z_int:mg "int" = none
  z_reversed:mg "reversed" = none
  z_min:mg "min" = none
  kinds:Kinds K
section
variable {P:Program} {w:World} {K:PySem.W.Frag} {mg:Str -> Option Value} {base:Heap}
theorem zDE {X:Cx} {scope sc:Scope} {own:List Nat} {N ps:List Str} (_:FnScope N ps sc) (hk:scope.kind = .function) (hs:X.env.scope = sc) (hN:X.N = N) (h1:zC6 sc scope = true) (h2:zDo N scope own = true):CompIn X scope own:=zDG hk hs hN h1 h2
theorem zJG {X:Cx} {scope sc sd:Scope} {own:List Nat} {N ps:List Str} (_:FnScope N ps sd) (hk:scope.kind = .function) (hs:X.env.scope = sc) (hN:X.N = N) (h1:zC6 sc scope = true) (h2:zDo N scope own = true):CompIn X scope own:=zDG hk hs hN h1 h2
set_option hygiene false in
local macro_rules | `(tactic| decreasing_trivial)=> `(tactic| repeat' first
  | refine zBF (pv _)
  | refine zBI ?_
  | refine zC4 ?_ ?_ (zI rfl)
  | refine zHn
  | refine zDI ?_
  | refine zPe
  | refine zDr ?_ ?_
  | refine zEE ?_
  | refine zGr
  | refine zKA sc.nd rfl
  | refine zOn (by first | exact zG6 T | exact zDl T | exact zEK T | exact zI2 T | exact zHg T | exact zF3 T | exact zEl T | exact zEh T | exact zEd T | exact zF5 T | exact zEr T | exact zFf T) (hr.mono (by omega)) rfl ?_ ?_ (by decide) (zI rfl) (zAi rfl)
  | refine zDt ?_ ?_ (zI rfl)
  | refine zGC
  | refine zQD ?_ ?_
  | refine zG9 ?_
  | refine zMa ?_ ?_ ?_
  | refine zNL ?_
  | refine zFz
  | refine zKM rfl T.z_len ?_ (zI rfl) rfl
  | refine zJ1
  | refine zD3 ?_ ?_
  | refine zOS ?_ ?_
  | refine zPF ?_
  | refine zMs zKz PassesOwn.never rfl ?_ ?_ ?_
  | refine zO8
  | refine zO0 hr.units0 ?_ ?_
  | refine zOC (zJt hr) ?_ ?_
  | refine zPd ?_ ?_
  | refine zNi ?_
  | refine zPT ?_
  | refine zIm rfl T.z_range ?_ ?_ (zCM rfl)
  | refine zFs (zDT (by decide)) (zDE sc rfl rfl rfl (by decide +kernel) (by decide +kernel)) rfl ?_ ⟨fun _ _ _ _ _=>?_,fun _ _ _ _ _=>?_,fun _ _ _ _ _=>?_⟩
  | refine zLu rfl T.z_tuple ?_ (zI rfl) rfl
  | refine zMV
  | refine zLi ?_
  | refine zLo ?_ ?_ ?_
  | refine zIG
  | refine zKZ rfl ?_
  | refine zJm ?_ ?_
  | refine zN1 rfl rfl T.z_list rfl T.z_range ?_ (zI rfl) rfl (zI rfl) rfl
  | refine zIr sc.nd rfl (by first | exact Or.inl rfl | exact Or.inr rfl) (by first | exact .inl rfl | exact .inr rfl) rfl (zDT (by decide)) (zDE sc rfl rfl rfl (by decide +kernel) (by decide +kernel)) rfl ?_ ⟨fun _ _ _ _ _=>?_,fun _ _ _ _ _=>?_,fun _ _ _ _ _=>?_⟩
  | refine zOj (zHA (K:=K)) ?_ ?_
  | refine zOv ?_ ?_
  | refine zOZ
  | refine zN4 (zJt hr) ?_ ?_ ?_
  | refine zOe ?_ ?_
  | refine zPV ?_ ?_
  | refine zLv ?_ ?_ ?_
  | refine zPU ?_ ?_
  | refine zNZ ?_ ?_
  | refine zPO ?_ ?_
  | refine zIx (zJt hr) ?_ ?_
  | refine zNj ?_
  | refine zMy hr.units0 ?_ ?_
  | refine zKW ?_ ?_ ?_
  | refine zO9 ?_ ?_
  | refine zNM rfl T.z_list ?_ (zI rfl) rfl
  | refine zKE ?_ ?_
  | refine zME _ PassesOwn.never ?_ ?_
  | refine zFs (zE2 (K:=K) (by decide) (by decide)) (zDE sc rfl rfl rfl (by decide +kernel) (by decide +kernel)) rfl ?_ ⟨fun _ _ _ _ _=>?_,fun _ _ _ _ _=>?_,fun _ _ _ _ _=>?_⟩
  | refine zMe
  | refine zOO rfl T.z_len ?_ (zI rfl) rfl
  | refine zOU ?_ ?_
  | refine zPX ?_ ?_
  | refine zMn ?_ ?_ ?_ ?_
  | refine zKn ?_ ?_
  | refine zKa ?_ ?_
  | refine zLx ?_
  | refine zM7 ?_
  | refine zI7 rfl rfl T.z_list rfl T.z_zip ?_ (zD8 rfl rfl) (zCM rfl) (zI rfl) rfl
  | refine zPJ ?_
  | refine zMm rfl T.z_enumerate ?_ (zI rfl) rfl
  | refine zPA ?_ ?_
  | refine zPc ?_ ?_
  | refine zKF true (zOa 4 (by decide) hr) rfl rfl T.z_dict ?_ (zI rfl) rfl
  | refine zL2 rfl T.z_zip ?_ (zD8 rfl rfl) (zCM rfl)
  | refine zMs (zHA (K:=K)) PassesOwn.never rfl ?_ ?_ ?_
  | refine zFs (zDT (by decide)) (zJG sc rfl rfl rfl (by rfl) (by decide +kernel)) rfl ?_ ⟨fun _ _ _ _ _=>?_,fun _ _ _ _ _=>?_,fun _ _ _ _ _=>?_⟩
  | refine zMW rfl T.z_reversed ?_ (zI rfl) rfl
  | refine zHq ?_
  | refine zFc ?_ ?_
  | refine zNr rfl rfl T.z_min ?_ (zI rfl) (zAi rfl)
  | refine zLK ?_
  | refine zPp sc.nd rfl ?_
  | refine zGF ?_)
abbrev zG0:List Str:=["marks", "numbers", "mark"]
theorem zF8:FnScope zG0 ["marks"] (zZ zB8):=⟨rfl,rfl,rfl,by decide +kernel,rfl,by decide +kernel,by decide +kernel⟩
theorem zF3 (T:Txt K mg):Od P w base 1 T.d_parted_by zBD:=by
  unfold zBD;have sc:=zF8;exact zA2 (n:=1) T.d_parted_by.F sc rfl (fun cdv A outer s H E hr=>by
    unfold zCL;decreasing_trivial)
abbrev zHB:List Str:=["_law_script", "_law_seed", "_law_cell"]
theorem zGD:FnScope zHB ["_law_script"] (zZ zCI):=⟨rfl,rfl,rfl,by decide +kernel,rfl,by decide +kernel,by decide +kernel⟩
theorem zF5 (T:Txt K mg):Od P w base 1 T.d_law_begin zBB:=by
  unfold zBB;have sc:=zGD;exact zA2 (n:=1) T.d_law_begin.F sc rfl (fun cdv A outer s H E hr=>by
    unfold zB9;decreasing_trivial)
abbrev zHd:List Str:=["_law_state", "_law_many", "_law_digit", "_law_mixed"]
theorem zGa:FnScope zHd ["_law_state", "_law_many"] (zZ zCn):=⟨rfl,rfl,rfl,by decide +kernel,rfl,by decide +kernel,by decide +kernel⟩
theorem zG6 (T:Txt K mg):Od P w base 1 T.d_law_next zM:=by
  unfold zM;have sc:=zGa;exact zA2 (n:=2) T.d_law_next.F sc rfl (fun cdv A outer s H E hr=>by
    unfold zCm;decreasing_trivial)
abbrev zEP:List Str:=["_law_classes", "_law_known", "_law_own"]
theorem zDj:FnScope zEP ["_law_classes"] (zZ zBV):=⟨rfl,rfl,rfl,by decide +kernel,rfl,by decide +kernel,by decide +kernel⟩
theorem zDl (T:Txt K mg):Od P w base 1 T.d_law_numbered zv:=by
  unfold zv;have sc:=zDj;exact zDB (zA2 (n:=1) T.d_law_numbered.F sc rfl (fun cdv A outer s H E hr=>by
    unfold zBR;decreasing_trivial))
abbrev zI8:List Str:=["machine", "pairs", "marks", "due", "one", "other", "old", "new", "mark"]
theorem zHX:FnScope zI8 ["machine", "pairs"] (zZ zDR):=⟨rfl,rfl,rfl,by decide +kernel,rfl,by decide +kernel,by decide +kernel⟩
theorem zHg (T:Txt K mg):Od P w base 2 T.d_kept_by zBM:=by
  unfold zBM;have sc:=zHX;exact zLp (zA2 (n:=2) T.d_kept_by.F sc rfl (fun cdv A outer s H E hr=>by
    unfold zDH;decreasing_trivial))
abbrev zFW:List Str:=["_law_state", "_law_many", "_law_way", "_law_column_here", "_law_room", "_law_one", "_law_other", "_law_goal", "_law_made", "_law_left"]
theorem zEs:FnScope zFW ["_law_state", "_law_many", "_law_way"] (zZ zBo):=⟨rfl,rfl,rfl,by decide +kernel,rfl,by decide +kernel,by decide +kernel⟩
theorem zEl (T:Txt K mg):Od P w base 2 T.d_law_column zAF:=by
  unfold zAF;have sc:=zEs;exact zA2 (n:=3) T.d_law_column.F sc rfl (fun cdv A outer s H E hr=>by
    unfold zBs;decreasing_trivial)
abbrev zF6:List Str:=["_law_machine_here", "_law_pairs", "_law_row", "_law_met", "_law_pair", "_law_at", "_law_goal", "_law_classes", "_law_one", "_law_other", "_law_own"]
theorem zEu:FnScope zF6 ["_law_machine_here", "_law_pairs"] (zZ zB1):=⟨rfl,rfl,rfl,by decide +kernel,rfl,by decide +kernel,by decide +kernel⟩
theorem zEd (T:Txt K mg):Od P w base 2 T.d_law_joined zA0:=by
  unfold zA0;have sc:=zEu;exact zDB (zA2 (n:=2) T.d_law_joined.F sc rfl (fun cdv A outer s H E hr=>by
    unfold zBr;decreasing_trivial))
abbrev zEp:List Str:=["_law_state", "_law_most", "_law_letters", "_law_many", "_law_count", "_law_sort", "_law_columns", "_law_letter", "_law_way", "_law_column_here", "_law_room"]
theorem zD0:FnScope zEp ["_law_state", "_law_most", "_law_letters"] (zZ zBf):=⟨rfl,rfl,rfl,by decide +kernel,rfl,by decide +kernel,by decide +kernel⟩
theorem zEK (T:Txt K mg):Od P w base 3 T.d_law_machine zAR:=by
  unfold zAR;have sc:=zD0;exact zDB (zA2 (n:=3) T.d_law_machine.F sc rfl (fun cdv A outer s H E hr=>by
    unfold zBc;decreasing_trivial))
abbrev zFd:List Str:=["_law_state", "_law_most", "_law_letters", "_law_base", "_law_many", "_law_owners", "_law_room", "_law_turn", "_law_rows", "_law_own", "_law_row", "_law_goal", "_law_copies_here"]
theorem zEk:FnScope zFd ["_law_state", "_law_most", "_law_letters"] (zZ zBp):=⟨rfl,rfl,rfl,by decide +kernel,rfl,by decide +kernel,by decide +kernel⟩
theorem zEh (T:Txt K mg):Od P w base 4 T.d_law_copies zAt:=by
  unfold zAt;have sc:=zEk;exact zA2 (n:=3) T.d_law_copies.F sc rfl (fun cdv A outer s H E hr=>by
    unfold zBx;decreasing_trivial)
abbrev zFb:List Str:=["_law_state", "_law_most", "_law_letters", "_law_machine_here", "_law_owners", "_law_few", "_law_room"]
theorem zEq:FnScope zFb ["_law_state", "_law_most", "_law_letters"] (zZ zB3):=⟨rfl,rfl,rfl,by decide +kernel,rfl,by decide +kernel,by decide +kernel⟩
theorem zEr (T:Txt K mg):Od P w base 5 T.d_law_either zAw:=by
  unfold zAw;have sc:=zEq;exact zDB (zA2 (n:=3) T.d_law_either.F sc rfl (fun cdv A outer s H E hr=>by
    unfold zBu;decreasing_trivial))
abbrev zGJ:List Str:=["_law_found", "_law_due", "_law_one", "_law_other"]
theorem zDL:FnScope zGJ ["_law_found", "_law_due"] (zZ zCt):=⟨rfl,rfl,rfl,by decide +kernel,rfl,by decide +kernel,by decide +kernel⟩
theorem zEJ (T:Txt K mg):∀ n:Nat,FnOk P w K mg base CX0 (n + 0) T.d_law_is.f T.d_law_is.fd ["_law_found", "_law_due"] (spF K 2 (zAM n))
  | 0=>zMS
  | n + 1=>by
    have hrec:=zEJ T n;unfold zAM;rw [show n + 1 + 0 = (n + 0) + 1 by omega];exact zA2 (n:=2) T.d_law_is.F zDL rfl (fun cdv A outer s H E hr=>by
      unfold zC0;exact (zDr (zMa (zGF (zFH T.kinds (by decide) rfl T.z_isinstance rfl T.z_tuple (by rfl) (by decide) (by decide) (zBF (pv 1)) (zI rfl) (zI rfl) (zAi rfl))) (zDr (zMa (zP4 (zPE (zLK (zGF (zFH T.kinds (by decide) rfl T.z_isinstance rfl T.z_tuple (by rfl) (by decide) (by decide) (zBF (pv 0)) (zI rfl) (zI rfl) (zAi rfl)))) (zOF (zMy hr.units0 (zKM rfl T.z_len (zDt (zBF (pv 0)) zGC (zI rfl)) (zI rfl) rfl) (zKM rfl T.z_len (zDt (zBF (pv 1)) zGC (zI rfl)) (zI rfl) rfl))))) (zEE (zG9 zOZ)) zFz)
    (zEE (zG9 (zOy rfl rfl T.z_all (zDt (zFs (zE2 (i:=2) (j:=3) (by decide) (by decide)) (zDG (sc:=zZ zCt) (N:=zGJ) rfl rfl rfl (by decide +kernel) (by decide +kernel)) rfl (zNW rfl T.z_zip (zC4 (zBI (zBF (pv 0))) (zC4 (zBI (zBF (pv 1))) zHn (zI rfl)) (zI rfl)) (zD8 rfl rfl) (zCM rfl)) ⟨fun _ _ _ _ _=>(zKZ rfl (zD3 (zKA (i:=2) zDL.nd rfl) (zD3 (zKA (i:=3) zDL.nd rfl) zIG))),fun _ _ _ _ _=>zJ1,fun _ _ _ _ _=>(zOn hrec (hr.mono (by omega)) rfl (zC4 (zBI (zBF (pv 2))) (zC4 (zBI (zBF (pv 3))) zHn (zI rfl)) (zI rfl)) (zDI (zDI zGr)) (by decide) (zI rfl) (zAi rfl))⟩) zGC (zI rfl)) (zI rfl) rfl)))) zFz)
    (zDr (zMa (zGF (zFH T.kinds (by decide) rfl T.z_isinstance rfl T.z_bool (by rfl) (by decide) (by decide) (zBF (pv 1)) (zI rfl) (zI rfl) (zAi rfl))) (zEE (zG9 (zFc (zFH T.kinds (by decide) rfl T.z_isinstance rfl T.z_bool (by rfl) (by decide) (by decide) (zBF (pv 0)) (zI rfl) (zI rfl) (zAi rfl)) (zHq (zOd hr.units0 (zBF (pv 0)) (zBF (pv 1))))))) zFz)
    (zEE (zG9 (zFc (zFH T.kinds (by decide) rfl T.z_isinstance rfl T.z_int (by rfl) (by decide) (by decide) (zBF (pv 0)) (zI rfl) (zI rfl) (zAi rfl)) (zFc (zOQ (zFH T.kinds (by decide) rfl T.z_isinstance rfl T.z_bool (by rfl) (by decide) (by decide) (zBF (pv 0)) (zI rfl) (zI rfl) (zAi rfl))) (zHq (zOd hr.units0 (zBF (pv 0)) (zBF (pv 1)))))))))))
theorem zI2 (T:Txt K mg):Od P w base 5 T.d_law_is zEM:=zEJ T 5
abbrev zHH:List Str:=["_law_machine_here", "_law_pairs", "_law_due", "_law_turned", "_law_other", "_law_one"]
theorem zGE:FnScope zHH ["_law_machine_here", "_law_pairs"] (zZ zB7):=⟨rfl,rfl,rfl,by decide +kernel,rfl,by decide +kernel,by decide +kernel⟩
theorem zFf (T:Txt K mg):Od P w base 6 T.d_law_right zAr:=by
  unfold zAr;have sc:=zGE;exact zDB (zA2 (n:=2) T.d_law_right.F sc rfl (fun cdv A outer s H E hr=>by
    unfold zCF;decreasing_trivial))
abbrev zPG:List Str:=["_law_script", "_law_state", "_law_turn", "_law_machine_here", "_law_pairs", "_law_k", "_law_every", "_law_one", "_law_other", "_law_some"]
theorem zNT:FnScope zPG ["_law_script"] (zZ zLP):=⟨rfl,rfl,rfl,by decide +kernel,rfl,by decide +kernel,by decide +kernel⟩
theorem zNH (T:Txt K mg):Od P w base 7 T.d_law zDe:=by
  unfold zDe;have sc:=zNT;exact zA2 (n:=1) T.d_law.F sc rfl (fun cdv A outer s H E hr=>by
    unfold zK8;decreasing_trivial)
end
theorem zM5 {l:PySem.W.OpenLaw} {w:World} {K:PySem.W.Frag} {h:Heap} {mg:Str -> Option Value} {fa:Addr} (X:K.In h) (G:h.Ns mainGlobals mg) (hfa:mg "law" = some (.ref fa))
    (g1:Dg K "parted_by" zB8) (g2:Dg K "kept_by" zDR) (g3:Dg K "_law_begin" zCI) (g4:Dg K "_law_next" zCn) (g5:Dg K "_law_column" zBo) (g6:Dg K "_law_machine" zBf) (g7:Dg K "_law_copies" zBp) (g8:Dg K "_law_numbered" zBV) (g9:Dg K "_law_either" zB3) (g10:Dg K "_law_joined" zB1) (g11:Dg K "_law_is" zCt) (g12:Dg K "_law_right" zB7) (g13:Dg K "law" zLP) (z1:Zn K "tuple") (z2:Zn K "len") (z3:Zn K "list") (z4:Zn K "range") (z5:Zn K "zip") (z6:Zn K "enumerate") (z7:Zn K "dict") (z8:Zn K "isinstance") (z9:Zn K "bool") (z10:Zn K "all") (z11:Zn K "int") (z12:Zn K "reversed") (z13:Zn K "min") (y1:Ki K "NoneType" "int" false) (y2:Ki K "NoneType" "bool" false) (y3:Ki K "NoneType" "str" false) (y4:Ki K "NoneType" "tuple" false) (y5:Ki K "bool" "int" true) (y6:Ki K "bool" "bool" true) (y7:Ki K "bool" "str" false) (y8:Ki K "bool" "tuple" false) (y9:Ki K "int" "int" true) (y10:Ki K "int" "bool" false) (y11:Ki K "int" "str" false) (y12:Ki K "int" "tuple" false) (y13:Ki K "str" "int" false) (y14:Ki K "str" "bool" false) (y15:Ki K "str" "str" true) (y16:Ki K "str" "tuple" false) (y17:Ki K "list" "int" false) (y18:Ki K "list" "bool" false) (y19:Ki K "list" "str" false) (y20:Ki K "list" "tuple" false) (y21:Ki K "tuple" "int" false) (y22:Ki K "tuple" "bool" false) (y23:Ki K "tuple" "str" false) (y24:Ki K "tuple" "tuple" true) (y25:Ki K "dict" "int" false) (y26:Ki K "dict" "bool" false) (y27:Ki K "dict" "str" false) (y28:Ki K "dict" "tuple" false) :
    ∃ fd:FuncData,(∀ (s:Shared) (v:Value),BindsTo s fd ⟨[v],[]⟩ [("_law_script", v)]) /\ ∀ base:Heap,K.In base -> base.Ns mainGlobals mg -> FnOk l.prog w K mg base CX0 7 fa fd ["_law_script"] (spF K 1 zDe):=by
  have e:=hfa.symm.trans (PySem.W.mg_of X G g13.a);cases e;have kinds:Kinds K:=⟨by
    intro t T ht hT;simp only [zQS,zQl,zRb] at ht hT;rcases ht with rfl | rfl | rfl | rfl | rfl | rfl | rfl <;> rcases hT with rfl | rfl | rfl | rfl <;> assumption⟩
  let T:Txt K mg:=⟨g1.df X G fun _ _ _ _ _ _=>zMH fun _=>rfl,g2.df X G fun _ _ _ _ _ _=>zLU fun _ _=>rfl,g3.df X G fun _ _ _ _ _ _=>zMH fun _=>rfl,g4.df X G fun _ _ _ _ _ _=>zLU fun _ _=>rfl,g5.df X G fun _ _ _ _ _ _=>zLd fun _ _ _=>rfl,g6.df X G fun _ _ _ _ _ _=>zLd fun _ _ _=>rfl,g7.df X G fun _ _ _ _ _ _=>zLd fun _ _ _=>rfl,g8.df X G fun _ _ _ _ _ _=>zMH fun _=>rfl,g9.df X G fun _ _ _ _ _ _=>zLd fun _ _ _=>rfl,g10.df X G fun _ _ _ _ _ _=>zLU fun _ _=>rfl,g11.df X G fun _ _ _ _ _ _=>zLU fun _ _=>rfl,g12.df X G fun _ _ _ _ _ _=>zLU fun _ _=>rfl,g13.df X G fun _ _ _ _ _ _=>zMH fun _=>rfl,zRF X G z1,zRF X G z2,zRF X G z3,zRF X G z4,zRF X G z5,zRF X G z6,zRF X G z7,zRF X G z8,zRF X G z9,zRF X G z10,zRF X G z11,zRF X G z12,zRF X G z13,kinds⟩;refine ⟨T.d_law.fd,fun s v=> .of_eq rfl,fun base _ _=>?_⟩;exact zNH (P:=l.prog) (w:=w) (base:=base) T
theorem zPq {l:PySem.W.OpenLaw} {q:Program} {loose:List Str} {XP:(Str -> Option Value) -> Heap -> Prop} {YP:World -> Heap -> Prop} {d:DefRec} {K:Params -> PySem.W.Frag} (hn:l.most = some 63) (hdf:d.params.defaults = [])
    (hY:∀ (w:World) (h:Heap),YP w h -> (K w.params).In h) (hL:∀ w:World,zFY (K w.params) = true)
    (F:∀ (w:World) (mg:Str -> Option Value) (fa:Addr) (h:Heap),(K w.params).In h -> h.Ns mainGlobals mg -> mg d.name = some (.ref fa) ->
      ∃ fd:FuncData,(∀ (s:Shared) (u:Value),BindsTo s fd ⟨[u],[]⟩ [("_law_script", u)]) /\ ∀ base:Heap,(K w.params).In base -> base.Ns mainGlobals mg -> FnOk l.prog w (K w.params) mg base CX0 7 fa fd ["_law_script"] (spF (K w.params) 1 zDe)) :
    PySem.W.WalkO q loose XP YP l.row.toRowW d [] (fun f vs=>PySem.call f vs) :=
  L2.zMA (n:=63) (k:=7) (x := "_law_script") (CX:=fun _=>CX0) (sp:=fun w=>spF (K w.params) 1 zDe) hn (by decide) hdf ⟨rfl,by decide,by decide⟩ hY F
    (fun w H a ns hl hO hS=>zJT (hL w) hO hS (zJ8 ns hl)) fun _ _ _ _ _ z=>z
end Lad
open PySem PySem.W PyProof.Rows
set_option maxRecDepth 100000 in
set_option maxHeartbeats 0 in
theorem PySem.Challenge.cw_bringhome_k43_kept_by_pairs_holds : PySem.Challenge.rw_bringhome_k43_kept_by_pairs.Holds := by
  w_on; o_law; k_head; (case hw=>w_witness2);k_fill;refine Lad.zPq (l:=PySem.Challenge.rw_bringhome_k43_kept_by_pairs) rfl rfl (fun w h Y=>PySem.W.kIn_of Y) (fun w=>by rfl) ?F
  case F=>
    intro w mg fa h KX G hmg;refine' Lad.zM5 KX G hmg ?_ ?_ ?_ ?_ ?_ ?_ ?_ ?_ ?_ ?_ ?_ ?_ ?_ ?_ ?_ ?_ ?_ ?_ ?_ ?_ ?_ ?_ ?_ ?_ ?_ ?_ ?_ ?_ ?_ ?_ ?_ ?_ ?_ ?_ ?_ ?_ ?_ ?_ ?_ ?_ ?_ ?_ ?_ ?_ ?_ ?_ ?_ ?_ ?_ ?_ ?_ ?_ ?_ ?_;all_goals first | exact ⟨_,by k_is,by k_is,by k_is,by k_is⟩ | (unfold L3.Zn; k_is) | (unfold L3.Ki; kit_is) | k_is
