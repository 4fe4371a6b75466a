import PyProof.Rows.All
import Wide.All
import OpenK.AllK
import Wide.FinOn
import Lean
import PyProof.EqAt
import PyProof.EqKinds
import PyProof.TupleCall
import PyProof.NeKinds
import PyProof.ZipIter
import PyProof.ListRange
import PyProof.TupleOfSeq
import PyProof.ConsumeWalk
import PyProof.IsRules
import PyProof.SetKind
import PyProof.SetRoads
import PyProof.Rows.SetFrom
import PyProof.Draws
import PyProof.EnumMake
import PyProof.DictCompW
import PyProof.ListMulRoad
import PyProof.Rows.SeqMore2
import PyProof.WalkInts
import PyProof.DictRoadsH
import PyProof.DictItems
import KE.KDictList
import KE.KDictOf
import PyProof.AttrMissHeap
import PyProof.SliceList
import KE.KRevIter
import PySem.Challenge.RW_bringhome_k44_folded_machines
namespace PySem.W.Fast
def tw639162768072337150:=0
def tw8771601462464326814:=0
def tw8527260920211253567:=0
def tw12563522081449322883:=0
def tw6189434908260317620:=0
def tw2827172250334726370:=0
def tw636303931905562928:=0
def tw7963077332594706301:=0
def tw1331487869807847339:=0
def tw13446267033030258063:=0
def tw9414298845995958965:=0
def tw10254411857603059813:=0
def tw8522355153331542576:=0
def tw16973025875719586251:=0
def tw6921882496908866930:=0
def tw12526986151376821413:=0
def tw33620733959416082:=0
def tw3279845190105355423:=0
def tw13744335527919654522:=0
def tw6087365477974594754:=0
def tw14474604280005012197:=0
def tw13107271190134237525:=0
def tw4902140579214476158:=0
def tw6290712251161569649:=0
def tw16231524944492190688:=0
def tw6521399403716912930:=0
end PySem.W.Fast
section
open PySem PySem.Spec PyProof.Rows
theorem zQN:type_of% @wpAny_bind:=@wpAny_bind
theorem zQO:type_of% @Heap.get?_push_of_some:=@Heap.get?_push_of_some
theorem zQP:type_of% @wpAny_pure:=@wpAny_pure
theorem zQQ:type_of% @List.getElem?_eq_some_iff:=@List.getElem?_eq_some_iff
theorem zQR:type_of% @List.getElem?_eq_getElem:=@List.getElem?_eq_getElem
theorem zQS:type_of% @List.getD_eq_getElem?_getD:=@List.getD_eq_getElem?_getD
theorem zQT:type_of% @Nat.le_refl:=@Nat.le_refl
theorem zQU:type_of% @List.getElem?_append_left:=@List.getElem?_append_left
theorem zQV:type_of% @List.size_toArray:=@List.size_toArray
theorem zQW:type_of% @List.length_map:=@List.length_map
theorem zQX:type_of% @Heap.get?_push_size:=@Heap.get?_push_size
theorem zQY:type_of% @Heap.lt_size:=@Heap.lt_size
theorem zQZ:type_of% @List.mem_cons:=@List.mem_cons
theorem zQa:type_of% @List.mem_cons_of_mem:=@List.mem_cons_of_mem
theorem zQb:type_of% @List.mem_cons_self:=@List.mem_cons_self
theorem zQc:type_of% @if_pos:=@if_pos
theorem zQd:type_of% @List.length_append:=@List.length_append
theorem zQe:type_of% @List.mem_map:=@List.mem_map
theorem zQf:type_of% @if_neg:=@if_neg
theorem zQg:type_of% @List.map_cons:=@List.map_cons
theorem zQh:type_of% @List.mem_append_right:=@List.mem_append_right
theorem zQi:type_of% @Nat.ne_of_lt:=@Nat.ne_of_lt
theorem zQj:type_of% @Bool.false_ne_true:=@Bool.false_ne_true
theorem zQk:type_of% @List.getElem?_map:=@List.getElem?_map
theorem zQl:type_of% @List.map_map:=@List.map_map
theorem zQm:type_of% @Nat.lt_of_lt_of_le:=@Nat.lt_of_lt_of_le
theorem zQn:type_of% @List.mem_append:=@List.mem_append
theorem zQo:type_of% @Nat.le_trans:=@Nat.le_trans
theorem zQp:type_of% @List.mem_singleton:=@List.mem_singleton
theorem zQq:type_of% @wpAny_newObj_type:=@wpAny_newObj_type
theorem zQr:type_of% @List.getElem?_set_ne:=@List.getElem?_set_ne
theorem zQs:type_of% @List.not_mem_nil:=@List.not_mem_nil
theorem zQt:type_of% @wpAny_mono:=@wpAny_mono
theorem zQv:type_of% @List.getElem_mem:=@List.getElem_mem
theorem zQw:type_of% @decide_eq_false:=@decide_eq_false
theorem zQx:type_of% @Bool.and_eq_true:=@Bool.and_eq_true
theorem zQy:type_of% @List.all_eq_true:=@List.all_eq_true
theorem zQz:type_of% @wpAny_callSpecial?_slot:=@wpAny_callSpecial?_slot
theorem zQ0:type_of% @wpAny_call_entry:=@wpAny_call_entry
theorem zQ1:type_of% @List.mem_range:=@List.mem_range
theorem zQ2:type_of% @wpAny_field:=@wpAny_field
theorem zQ3:type_of% @Heap.size_push:=@Heap.size_push
theorem zQ4:type_of% @Heap.get?_update_other:=@Heap.get?_update_other
theorem zQ5:type_of% @Nat.lt_irrefl:=@Nat.lt_irrefl
theorem zQ6:type_of% @Array.length_toList:=@Array.length_toList
theorem zQ7:type_of% @List.append_nil:=@List.append_nil
theorem zQ9:type_of% @Nat.zero_le:=@Nat.zero_le
theorem zRD:type_of% @wpAny_seqItems:=@wpAny_seqItems
theorem zRE:type_of% @List.mem_of_getElem?:=@List.mem_of_getElem?
theorem zRF:type_of% @List.map_append:=@List.map_append
theorem zRG:type_of% @wpAny_holding:=@wpAny_holding
theorem zRH:type_of% @List.getElem?_set_self:=@List.getElem?_set_self
theorem zRM:type_of% @PySem.W.mg_none_of:=@PySem.W.mg_none_of
theorem zRN:type_of% @Option.some.inj:=@Option.some.inj
theorem zRP:type_of% @PySem.mem_of_lookup:=@PySem.mem_of_lookup
theorem zRR:type_of% @List.cons.inj:=@List.cons.inj
theorem zRX:type_of% @List.getElem?_append_right:=@List.getElem?_append_right
theorem zRa:type_of% @decide_eq_true_eq:=@decide_eq_true_eq
theorem zRc:type_of% @List.mem_append_left:=@List.mem_append_left
theorem zRd:type_of% @wpAny_setField_rec:=@wpAny_setField_rec
theorem zRg:type_of% @List.replicate_succ:=@List.replicate_succ
theorem zRi:type_of% @or_false:=@or_false
theorem zRl:type_of% @List.length_take:=@List.length_take
theorem zRs:type_of% @Nat.ne_of_gt:=@Nat.ne_of_gt
theorem zRv:type_of% @PyProof.Rows.slot_tuple_getitem:=@PyProof.Rows.slot_tuple_getitem
theorem zRw:type_of% @List.getElem?_set:=@List.getElem?_set
theorem zR0:type_of% @PySem.W.kia_one:=@PySem.W.kia_one
theorem zR1:type_of% @PySem.F.slot_zip_next:=@PySem.F.slot_zip_next
theorem zR9:type_of% @List.find?_cons:=@List.find?_cons
theorem zSC:type_of% @Nat.le_add_right:=@Nat.le_add_right
theorem zSM:type_of% @List.flatten_cons:=@List.flatten_cons
theorem zSN:type_of% @wpAny_onRaise:=@wpAny_onRaise
theorem zSS:type_of% @List.lookup_cons:=@List.lookup_cons
theorem zSz:type_of% @List.any_cons:=@List.any_cons
theorem zS7:type_of% @Int.toNat_natCast:=@Int.toNat_natCast
theorem zTk:type_of% @List.filterMap_cons:=@List.filterMap_cons
theorem zUT:type_of% @List.getElem?_zip_eq_some:=@List.getElem?_zip_eq_some
end
set_option Elab.async false
set_option linter.all false
set_option maxRecDepth 100000
set_option genSizeOf false
set_option genInjectivity false
noncomputable section
namespace L2
open PySem PySem.Spec PyProof.Rows
abbrev Key:=Sum Int Str
def zFI:Key -> Value -> Bool
 | .inl k,v=>Value.isInt k v
 | .inr x,v=>Value.isStrOf x v
def zQA (w:World):Key -> Int
 | .inl k=>hashInt k
 | .inr x=>hashStr w x
theorem zw:∀ {k:Key} {v:Value},zFI k v = true -> (∃ i t,k = Sum.inl i /\ v = Value.int i t) \/ (∃ x t,k = Sum.inr x /\ v = Value.str x t)
 | .inl i,v,h=>by
  obtain ⟨t,e⟩:=Value.isInt_shape (k:=i) (v:=v) h;exact .inl ⟨i,t,rfl,e⟩
 | .inr x,v,h=>by
  obtain ⟨t,e⟩:=Value.isStrOf_shape (x:=x) (v:=v) h;exact .inr ⟨x,t,rfl,e⟩
theorem zIo (i:Int) (t:Tok):zFI (.inl i) (.int i t) = true:=by simp [zFI,Value.isInt]
theorem zI1 (x:Str) (t:Tok):zFI (.inr x) (.str x t) = true:=by simp [zFI,Value.isStrOf]
theorem zNy (a b:Int):decide ((Sum.inl a:Key) = Sum.inl b) = (a == b):=by
 by_cases e:a = b
 ·subst e; simp
 ·have h:¬ (Sum.inl a:Key) = Sum.inl b:=fun q=>e (Sum.inl.inj q);rw [zQw h];exact (beq_eq_false_iff_ne.mpr e).symm
theorem zOQ (a b:Str):decide ((Sum.inr a:Key) = Sum.inr b) = decide (a = b):=by
 by_cases e:a = b
 ·subst e; simp
 ·have h:¬ (Sum.inr a:Key) = Sum.inr b:=fun q=>e (Sum.inr.inj q);rw [zQw h,zQw e]
theorem zOP (a:Int) (b:Str):decide ((Sum.inl a:Key) = Sum.inr b) = false:=zQw (fun q=>nomatch q)
theorem zOL (a:Str) (b:Int):decide ((Sum.inr a:Key) = Sum.inl b) = false:=zQw (fun q=>nomatch q)
def zu (prog:Program) (w:World):PySem.KeyKind prog w Key where
 is:=zFI
 hash:=zQA w
 inj:=fun v a b ha hb=>by
  rcases zw ha with ⟨i,t,rfl,rfl⟩ | ⟨x,t,rfl,rfl⟩
  ·rcases zw hb with ⟨j,u,rfl,e⟩ | ⟨y,u,rfl,e⟩
   ·injection e with e1 _; rw [e1]
   ·exact nomatch e
  ·rcases zw hb with ⟨j,u,rfl,e⟩ | ⟨y,u,rfl,e⟩
   ·exact nomatch e
   ·injection e with e1 _; rw [e1]
 byValue:=fun k v h=>by
  rcases zw h with ⟨i,t,rfl,rfl⟩ | ⟨x,t,rfl,rfl⟩ <;> rfl
 pyHash:=fun hv h=>by
  rcases zw hv with ⟨i,t,rfl,rfl⟩ | ⟨x,t,rfl,rfl⟩
  ·exact wpAny_pyHash_int h
  ·exact wpAny_pyHash_str h
 eqBool:=fun hu hv h=>by
  rcases zw hu with ⟨i,t,rfl,rfl⟩ | ⟨x,t,rfl,rfl⟩
  ·rcases zw hv with ⟨j,u,rfl,rfl⟩ | ⟨y,u,rfl,rfl⟩
   ·rw [zNy] at h; exact wpAny_eqBool_int h
   ·rw [zOP] at h; exact SeqAt.EqAt.int_str i t y u _ _ _ _ h
  ·rcases zw hv with ⟨j,u,rfl,rfl⟩ | ⟨y,u,rfl,rfl⟩
   ·rw [zOL] at h; exact SeqAt.EqAt.str_int x t j u _ _ _ _ h
   ·rw [zOQ] at h; exact wpAny_eqBool_str h
 «strs»:=fun k x t v h=>by
  rcases zw h with ⟨i,u,rfl,e⟩ | ⟨y,u,rfl,e⟩
  ·exact nomatch e
  ·injection e with e1 _
   subst e1
   cases v <;> rfl
theorem zGu (prog:Program) (w:World) (i:Int) (t:Tok):(zu prog w).is (.inl i) (.int i t) = true:=zIo i t
theorem zGq (prog:Program) (w:World) (x:Str) (t:Tok):(zu prog w).is (.inr x) (.str x t) = true:=zI1 x t
set_option genInjectivity true in
inductive V where
 | non | bl (b:Bool) | int (i:Int) | str (x:Str) | byt (b:Array UInt8) | flt (b:UInt64) | ref (a:Addr) | ty (n:String)
 deriving DecidableEq
def ze:V -> Value -> Prop
 | .non,u=>u = Value.none
 | .bl b,u=>u = Value.bool b
 | .int i,u=>∃ t,u = Value.int i t
 | .str x,u=>∃ t,u = Value.str x t
 | .byt b,u=>∃ t,u = Value.bytes b t
 | .flt b,u=>∃ t,u = Value.float b t
 | .ref a,u=>u = Value.ref a
 | .ty n,u=>u = Value.type n
abbrev zU:List V -> List Value -> Prop:=Paired ze
theorem zU.length {xs:List V} {us:List Value} (r:zU xs us):xs.length = us.length:=Paired.length r
theorem zU.get:∀ {xs:List V} {us:List Value} {i:Nat} {x:V},zU xs us -> xs[i]? = some x -> ∃ u,us[i]? = some u /\ ze x u
 | _,_,_,_,.nil,e=>by simp at e
 | _,_,0,_,.cons r _,e=>by simp at e; subst e; exact ⟨_,rfl,r⟩
 | _,_,i + 1,x,.cons _ t,e=>by
  obtain ⟨u,h1,h2⟩:=zU.get (i:=i) (x:=x) t (by simpa using e);exact ⟨u,by simpa using h1,h2⟩
theorem zU.set {x:V} {u:Value} (r:ze x u):∀ {xs:List V} {us:List Value} (i:Nat),zU xs us -> zU (xs.set i x) (us.set i u)
 | _,_,_,.nil=> .nil
 | _,_,0,.cons _ t=> .cons r t
 | _,_,i + 1,.cons q t=> .cons q (zU.set r i t)
theorem zU.append:∀ {xs ys:List V} {us ws:List Value},zU xs us -> zU ys ws -> zU (xs ++ ys) (us ++ ws)
 | _,_,_,_,.nil,s=>s
 | _,_,_,_,.cons r t,s=> .cons r (zU.append t s)
theorem zU.take:∀ {xs:List V} {us:List Value} (n:Nat),zU xs us -> zU (xs.take n) (us.take n)
 | _,_,0,_=> .nil
 | _,_,_ + 1,.nil=> .nil
 | _,_,n + 1,.cons r t=> .cons r (zU.take n t)
theorem zU.drop:∀ {xs:List V} {us:List Value} (n:Nat),zU xs us -> zU (xs.drop n) (us.drop n)
 | _,_,0,r=>r
 | _,_,_ + 1,.nil=> .nil
 | _,_,n + 1,.cons _ t=>zU.drop n t
def zEN:Option V -> Option Value -> Prop
 | some v,some u=>ze v u
 | none,none=>True
 | _,_=>False
def KV {κ:Type}:List (κ × V) -> List (κ × Value) -> Prop:=Paired fun (p:κ × V) (q:κ × Value)=>p.1 = q.1 /\ ze p.2 q.2
def kV:Key -> V
 | .inl i=> .int i
 | .inr x=> .str x
set_option genInjectivity true in
inductive HO where
 | lst (xs:List V)
 | tup (xs:List V)
 | dK (kvs:List (Key × V)) | dT (kvs:List (List Key × V))
 | set (S:Int -> Bool) (n:Nat)
 | ins (C dx:Addr) (fs:List (Str × V))
 | own (x:Addr)
 | xd (fs:List (Str × V))
 | met (f x:Addr)
 | rng (lo hi:Int)
 | frz (o:Obj) (u:HO)
 | tbl (ps:Array Value)
 | ext (φ:Heap -> Prop)
abbrev Hp:=Addr -> Option HO
def upd (H:Hp) (a:Addr) (o:HO):Hp:=fun b=>if b = a then some o else H b
theorem zj {H:Hp} {a:Addr} {o:HO}:upd H a o a = some o:=by unfold upd; rw [zQc rfl]
theorem zM {H:Hp} {a b:Addr} {o:HO} (h:b ≠ a):upd H a o b = H b:=by unfold upd; rw [zQf h]
theorem zFG {H:Hp} {a b:Addr} {o u:HO} (h:H a = some o) (h':H b = some u) (d:o ≠ u):a ≠ b:=by
 intro e; subst e; rw [h] at h'; exact d (zRN h')
theorem zb {H:Hp} {a b:Addr} {o:HO} (h:H a = some o) (h':H b = none):a ≠ b:=by
 intro e; subst e; rw [h] at h'; cases h'
def zBB (h:Heap) (a:Addr) (items:Array Value):Prop:=∃ o,h.get? a = some o /\ o.cls = .type "tuple" /\ (∃ n,o.data = .seq items n) /\ o.dict = none
theorem zBB.tup {h:Heap} {a:Addr} {items:Array Value} (x:zBB h a items):IsTup h a items:=let ⟨o,e,c,d,_⟩:=x; ⟨o,e,c,d⟩
theorem zBB.lt {h:Heap} {a:Addr} {items:Array Value} (x:zBB h a items):a < h.objs.size:=let ⟨_,e,_⟩:=x; zQY e
theorem zBB.new (h:Heap) (items:Array Value):zBB (h.push { cls:=.type "tuple", data:=.seq items }) h.objs.size items:=⟨_,zQX _ rfl,rfl,⟨_,rfl⟩,rfl⟩
section
variable (P:Program) (w:World)
def zn (H:Hp) (h:Heap) (a:Addr):HO -> Prop
 | .lst xs=>xs.length <= sizeLine /\ ∃ (its:List Value) (n:Nat),zU xs its /\ h.get? a = some { cls:=.type "list", data:=.seq its.toArray n }
 | .tup xs=>xs.length <= sizeLine /\ ∃ its:List Value,zU xs its /\ zBB h a its.toArray
 | .dK kvs=>kvs.length <= sizeLine /\ (a == sysModules) = false /\ ∃ vs,KV kvs vs /\ h.DictOf (zu P w) a vs
 | .dT kvs=>kvs.length <= sizeLine /\ (a == sysModules) = false /\ ∃ xs:List (List Key × Addr × Value),
   Paired (fun (p:List Key × V) (q:List Key × Addr × Value)=>p.1 = q.1 /\ H q.2.1 = some (.tup (p.1.map kV)) /\ ze p.2 q.2.2) kvs xs /\
   ∃ o es ep,h.get? a = some o /\ o.ExactDict /\ o.data = .dict es ep /\ es.toList = xs.map (entryOfKey (tupleKind (zu P w))) /\ (xs.map (·.1)).Nodup
 | .set S n=>h.SetOf (intKind P w) a S n
 | .ins C dx fs=>H dx = some (.own a) /\ fs.length <= 1000 /\ dx ≠ a /\ h.get? a = some (PySem.W.instObj C dx) /\
   ∃ mA,h.Ns1 dx mA /\ (∀ f,zEN (fs.lookup f) (mA f)) /\ PySem.Within mA (fs.map (·.1))
 | .own _=>∃ o,h.get? a = some o
 | .xd fs=>∃ mA,h.Ns1 a mA /\ ∀ f,zEN (fs.lookup f) (mA f)
 | .rng lo hi=>∃ t u v,h.get? a = some { cls:=.type "range", data:=.fields #[.int lo t,.int hi u,.int 1 v] }
 | .frz o u=>h.get? a = some o /\ zn H h a u
 | .tbl ps=>h.get? a = some { cls:=.none,data:=.fields ps }
 | .met f x=>h.get? a = some (PySem.W.methodObj (.ref f) (.ref x))
 | .ext φ=>φ h /\ (∃ o,h.get? a = some o) /\ ∀ h1 h2:Heap,φ h1 -> (∀ o,h1.get? a = some o -> h2.get? a = some o) -> φ h2
def HOk (H:Hp) (h:Heap):Prop:=∀ a o,H a = some o -> zn P w H h a o
end
section
variable {P:Program} {w:World} {H H':Hp} {h h':Heap} {a:Addr} {o:HO}
theorem zn.lt (x:zn P w H h a o):a < h.objs.size:=by
 cases o with
 | lst xs=>obtain ⟨_,_,_,_,e⟩:=x; exact zQY e
 | tup xs=>obtain ⟨_,_,_,p⟩:=x; exact p.lt
 | dK kvs=>obtain ⟨_,_,_,_,o,_,_,e,_⟩:=x; exact zQY e
 | dT kvs=>obtain ⟨_,_,_,_,o,_,_,e,_⟩:=x; exact zQY e
 | set S n=>obtain ⟨o,_,_,_,e,_⟩:=x; exact zQY e
 | ins C dx fs=>obtain ⟨_,_,_,e,_⟩:=x; exact zQY e
 | own y=>obtain ⟨_,e⟩:=x; exact zQY e
 | xd fs=>obtain ⟨_,⟨_,_,_,e,_⟩,_⟩:=x; exact zQY e
 | rng lo hi=>obtain ⟨_,_,_,e⟩:=x; exact zQY e
 | frz ob u=>obtain ⟨e,_⟩:=x; exact zQY e
 | tbl ps=>exact zQY (show h.get? a = some _ from x)
 | met f y=>exact zQY (show h.get? a = some _ from x)
 | ext φ=>obtain ⟨_,⟨_,e⟩,_⟩:=x; exact zQY e
theorem Paired.mapP {α β:Type} {F G:α -> β -> Prop}:∀ {l₁:List α} {l₂:List β},Paired F l₁ l₂ -> (∀ a b,F a b -> G a b) -> Paired G l₁ l₂
 | _,_,.nil,_=> .nil
 | _,_,.cons r t,f=> .cons (f _ _ r) (Paired.mapP t f)
theorem zn.stay (x:zn P w H h a o) (k:∀ b u,(b = a \/ H b = some (.own a)) -> h.get? b = some u -> h'.get? b = some u)
  (ho:∀ b,H b = some (.own a) -> H' b = some (.own a)) (ht:∀ b xs,H b = some (.tup xs) -> H' b = some (.tup xs)):zn P w H' h' a o:=by
 induction o with
 | lst xs=>obtain ⟨z,its,n,r,e⟩:=x; exact ⟨z,its,n,r,k _ _ (.inl rfl) e⟩
 | tup xs=>obtain ⟨z,its,r,ob,e,c⟩:=x; exact ⟨z,its,r,ob,k _ _ (.inl rfl) e,c⟩
 | dK kvs=>obtain ⟨z,y,vs,r,ob,es,ep,e,c⟩:=x; exact ⟨z,y,vs,r,ob,es,ep,k _ _ (.inl rfl) e,c⟩
 | dT kvs=>
  obtain ⟨z,y,xs,r,ob,es,ep,e,c⟩:=x;exact ⟨z,y,xs,Paired.mapP r fun p q z=>⟨z.1,ht _ _ z.2.1,z.2.2⟩,ob,es,ep,k _ _ (.inl rfl) e,c⟩
 | set S n=>obtain ⟨ob,es,ep,t,e,c⟩:=x; exact ⟨ob,es,ep,t,k _ _ (.inl rfl) e,c⟩
 | ins C dx fs=>
  obtain ⟨d,z,ne,e,mA,⟨od,es,ep,e2,c⟩,r⟩:=x;exact ⟨ho _ d,z,ne,k _ _ (.inl rfl) e,mA,⟨od,es,ep,k _ _ (.inr d) e2,c⟩,r⟩
 | own y=>obtain ⟨ob,e⟩:=x; exact ⟨ob,k _ _ (.inl rfl) e⟩
 | xd fs=>obtain ⟨mA,⟨od,es,ep,e,c⟩,r⟩:=x; exact ⟨mA,⟨od,es,ep,k _ _ (.inl rfl) e,c⟩,r⟩
 | rng lo hi=>obtain ⟨t,u,v,e⟩:=x; exact ⟨t,u,v,k _ _ (.inl rfl) e⟩
 | frz ob u ih=>obtain ⟨e,q⟩:=x; exact ⟨k _ _ (.inl rfl) e,ih q⟩
 | tbl ps=>
  have e:h.get? a = some { cls:=.none,data:=.fields ps }:=x;show h'.get? a = some { cls:=.none,data:=.fields ps };exact k a _ (.inl rfl) e
 | met f y=>
  have e:h.get? a = some (PySem.W.methodObj (.ref f) (.ref y)):=x;show h'.get? a = some (PySem.W.methodObj (.ref f) (.ref y));exact k a _ (.inl rfl) e
 | ext φ=>obtain ⟨p,⟨o,e⟩,st⟩:=x; exact ⟨st _ _ p fun o q=>k _ _ (.inl rfl) q,⟨o,k _ _ (.inl rfl) e⟩,st⟩
theorem HOk.lt (x:HOk P w H h) (e:H a = some o):a < h.objs.size:=(x a o e).lt
theorem HOk.fresh (x:HOk P w H h) (e:h.objs.size <= a):H a = none:=by
 cases q:H a with
 | none=>rfl
 | some u=>exact absurd (zQm (x.lt q) e) (zQ5 _)
theorem HOk.kept (x:HOk P w H h) (k:∀ b u,h.get? b = some u -> h'.get? b = some u):HOk P w H h':=fun a o e=>
 (x a o e).stay (fun b u _ q=>k b u q) (fun _ q=>q) fun _ _ q=>q
theorem HOk.laid (x:HOk P w H h) (k:∀ b u,h.get? b = some u -> h'.get? b = some u) (hp:h.objs.size <= a) (new:zn P w (upd H a o) h' a o):HOk P w (upd H a o) h':=fun b u e=>by
 have hn:=x.fresh hp;by_cases hb:b = a
 ·subst hb; rw [zj] at e; cases e; exact new
 ·rw [zM hb] at e;exact (x b u e).stay (fun c v _ q=>k c v q) (fun c q=>by rw [zM (zb q hn)]; exact q) fun c xs q=>by rw [zM (zb q hn)]; exact q
end
def Rd (H:Hp) (a:Addr) (u:HO):Prop:=H a = some u \/ ∃ o,H a = some (.frz o u)
theorem Rd.ok {P:Program} {w:World} {H:Hp} {h:Heap} {a:Addr} {u:HO} (r:Rd H a u) (x:HOk P w H h):zn P w H h a u:=by
 rcases r with r | ⟨o,r⟩
 ·exact x a u r
 ·obtain ⟨_,q⟩:=x a _ r;exact q
def Mut:Option HO -> Prop
 | some (.lst _)=>True
 | some (.dK _)=>True
 | some (.dT _)=>True
 | some (.set _ _)=>True
 | some (.ins _ _ _)=>True
 | some (.ext _)=>True
 | _=>False
section
variable {P:Program} {w:World} {H:Hp} {h h':Heap} {x e:Addr} {o':HO}
theorem HOk.write (ok:HOk P w H h) (mu:Mut (H x)) (he:e = x \/ H e = some (.own x)) (k:∀ b u,b ≠ e -> h.get? b = some u -> h'.get? b = some u) (heo:∃ u,h'.get? e = some u)
  (new:zn P w (upd H x o') h' x o'):HOk P w (upd H x o') h':=fun b u q=>by
 have nown:∀ c y,H c = some (.own y) -> c ≠ x:=fun c y r z=>by subst z; rw [r] at mu; exact mu
 have ntup:∀ c xs,H c = some (.tup xs) -> c ≠ x:=fun c xs r z=>by subst z; rw [r] at mu; exact mu
 by_cases hb:b = x
 ·subst hb; rw [zj] at q; cases q; exact new
 ·rw [zM hb] at q;by_cases hbe:b = e
  ·have q':H b = some (.own x):=by
    rcases he with z | z
    ·exact absurd (hbe.trans z) hb
    ·rw [hbe]; exact z
   rw [q] at q'; cases q';obtain ⟨v,hv⟩:=heo;exact ⟨v,by rw [hbe]; exact hv⟩
  ·refine (ok b u q).stay (fun c v hc r=>k c v ?_ r) (fun c r=>by rw [zM (nown c b r)]; exact r) fun c xs r=>by rw [zM (ntup c xs r)]; exact r
   rcases hc with rfl | hc
   ·exact hbe
   ·rintro rfl;rcases he with z | z
    ·exact nown c b hc z
    ·rw [hc] at z; cases z; exact hb rfl
end
structure Un (fs ex:List Addr) (H H':Hp) (h h':Heap):Prop where
 keep:∀ b o,h.get? b = some o -> H b = none -> b ∉ fs -> b ∉ ex -> h'.get? b = some o
 slot:∀ b o,h.get? b = some o -> H b = none -> b ∈ fs -> b ∉ ex -> ∃ sl,h'.get? b = some { o with slots:=sl }
 free:∀ b o,h.get? b = some o -> H b = none -> b ∉ ex -> H' b = none
 there:∀ b o,h.get? b = some o -> b ∉ ex -> ∃ o',h'.get? b = some o'
 tups:∀ b xs,H b = some (.tup xs) -> H' b = some (.tup xs)
 frzs:∀ b o u,H b = some (.frz o u) -> H' b = some (.frz o u)
 tbls:∀ b ps,H b = some (.tbl ps) -> ∃ more,H' b = some (.tbl (ps ++ more))
section
variable {fs fs' ex ex':List Addr} {H H1 H2:Hp} {h h1 h2 h':Heap} {a x e:Addr} {o:HO}
theorem Un.any (u:Un fs ex H H1 h h1) {b:Addr} {ob:Obj} (q:h.get? b = some ob) (n:H b = none) (hx:b ∉ ex):∃ sl,h1.get? b = some { ob with slots:=sl }:=by
 by_cases hb:b ∈ fs
 ·exact u.slot b ob q n hb hx
 ·exact ⟨ob.slots,u.keep b ob q n hb hx⟩
theorem Un.kept (k:∀ b u,h.get? b = some u -> h'.get? b = some u):Un fs ex H H h h' :=
 ⟨fun b ob q _ _ _=>k b ob q,fun b ob q _ _ _=>⟨ob.slots,k b ob q⟩,fun _ _ _ n _=>n,fun b ob q _=>⟨ob,k b ob q⟩,fun _ _ q=>q,fun _ _ _ q=>q,fun _ ps q=>⟨#[],by rw [q]; simp⟩⟩
theorem Un.refl:Un fs ex H H h h:=Un.kept fun _ _ q=>q
theorem Un.laid (k:∀ b u,h.get? b = some u -> h'.get? b = some u) (hp:h.objs.size <= a) (hn:H a = none):Un fs ex H (upd H a o) h h' where
 keep:=fun b u q _ _ _=>k b u q;slot:=fun b u q _ _ _=>⟨u.slots,k b u q⟩;free:=fun b u q n _=>by rw [zM (zQi (zQm (zQY q) hp))]; exact n
 there:=fun b u q _=>⟨u,k b u q⟩;tups:=fun b xs q=>by rw [zM (zb q hn)]; exact q
 frzs:=fun b u xs q=>by rw [zM (zb q hn)]; exact q
 tbls:=fun b ps q=>⟨#[],by rw [zM (zb q hn),q]; simp⟩
theorem Un.write (mu:Mut (H x)) (he:e = x \/ H e = some (.own x)) (k:∀ b u,b ≠ e -> h.get? b = some u -> h'.get? b = some u) (heo:∃ u,h'.get? e = some u):Un fs ex H (upd H x o) h h':=by
 have hx:∀ b,H b = none -> b ≠ x:=fun b n z=>by subst z; rw [n] at mu; exact mu
 have hb:∀ b,H b = none -> b ≠ e:=fun b n z=>by
  subst z;rcases he with r | r
  ·exact hx b n r
  ·rw [n] at r; cases r
 have hm:∀ b u,H b = some u -> ¬ Mut (some u) -> b ≠ x:=fun b u q nm z=>by subst z; rw [q] at mu; exact nm mu
 refine ⟨fun b u q n _ _=>k b u (hb b n) q,fun b u q n _ _=>⟨u.slots,k b u (hb b n) q⟩,fun b u q n _=>by rw [zM (hx b n)]; exact n,fun b u q _=>?_,
  fun b xs q=>by rw [zM (hm b _ q fun z=>z)]; exact q,fun b u xs q=>by rw [zM (hm b _ q fun z=>z)]; exact q,fun b ps q=>⟨#[],by rw [zM (hm b _ q fun z=>z),q]; simp⟩⟩
 by_cases hbe:b = e
 ·subst hbe; exact heo
 ·exact ⟨u,k b u hbe q⟩
end
def trk (h:Heap) (H:Hp):List Addr:=(List.range h.objs.size).filter fun a=>(H a).isSome
def zFw (h:Heap) (H:Hp):Heap:=PySem.W.hideAll h (trk h H)
theorem zJg (h:Heap) (H:Hp):(zFw h H).objs.size = h.objs.size:=PySem.W.hideAll_size _ _
theorem zJs {h:Heap} {H:Hp} {b:Addr} {o:Obj} (e:h.get? b = some o) (n:H b = none):(zFw h H).get? b = some o :=
 PySem.W.hideAll_get _ e fun hm=>by
  have q:(H b).isSome = true:=(List.mem_filter.mp hm).2;rw [n] at q; simp at q
theorem zMi {h:Heap} {H:Hp} {b:Addr} {o:Obj} (e:(zFw h H).get? b = some o):h.get? b = some o /\ H b = none:=by
 have e':h.get? b = some o:=PySem.W.of_hideAll (trk h H) e;refine ⟨e',?_⟩;cases q:H b with
 | none=>rfl
 | some x=>
  have hm:b ∈ trk h H:=List.mem_filter.mpr ⟨zQ1.mpr (zQY e'),by simp [q]⟩;have z:(zFw h H).get? b = none:=PySem.W.hideAll_none (trk h H) hm;rw [z] at e; cases e
structure Mod (K:PySem.W.Frag) (mg:Str -> Option Value) (base:Heap):Prop where
 kin:K.In base
 glob:base.Ns mainGlobals mg
 blt:∃ mb,base.Ns builtinsNs mb /\ ∀ x:Str,x ≠ "__name__" -> mb x = bootBuiltins x
 nolimit:base.NoLimit
structure Cx where
 prog:Program
 w:World
 K:PySem.W.Frag
 mg:Str -> Option Value
 base:Heap
 A:Around
 N:List Str
 s₀:Shared
 H₀:Hp
 env:Env
 outer:List Env
 stack:List Env
 ex:List Addr
 fn:Str -> Bool
 calm:Bool
 pn:List (Addr × Obj)
 xe:Value -> Shared -> Prop
def frs (l:List Env):List Addr:=l.filterMap (·.frame)
abbrev Cx.fs (X:Cx):List Addr:=frs X.outer
def Vis (sc:Scope) (x:Str):Prop:=sc.names.lookup x = some .local \/ sc.names.lookup x = some .cell \/ sc.names.lookup x = some .free
def Loc (sc:Scope) (x:Str):Prop:=sc.names.lookup x = some .local \/ sc.names.lookup x = some .cell
def zQK (env:Env) (h:Heap) (m:Str -> Option Value) (x:Str) (u:Value):Prop :=
 (env.kindOf x = some .local /\ m x = some u) \/ ((env.kindOf x = some .cell \/ env.kindOf x = some .free) /\ ∃ c,env.cells.lookup x = some c /\ h.IsCell c (some u))
structure Cx.Ok (X:Cx):Prop where
 mod:Mod X.K X.mg X.base
 kind:X.env.scope.kind = .function
 glob:X.env.globals = mainGlobals
 blt:X.env.builtins = builtinsNs
 above:X.s₀.heap.objs.size <= X.env.locals
 inj:∀ x y c,X.env.cells.lookup x = some c -> X.env.cells.lookup y = some c -> x = y
 has:∀ x,(X.env.kindOf x = some .cell \/ X.env.kindOf x = some .free) -> ∃ c,X.env.cells.lookup x = some c
 cab:∀ x c,X.fn x = true -> X.env.cells.lookup x = some c -> X.s₀.heap.objs.size <= c
 hd:X.calm = true -> X.A.handled = none
 frames:X.A.frames = some X.stack
 stk:X.stack = X.outer \/ (X.stack = X.env :: X.outer /\ X.env.frame = some X.env.locals)
 exf:∀ b ∈ X.ex,b ≠ X.env.locals /\ ∀ x c,X.env.cells.lookup x = some c -> c ≠ b
 bs:∀ b o,X.base.get? b = some o -> X.s₀.heap.get? b = some o /\ X.H₀ b = none
 bsz:X.base.objs.size <= X.s₀.heap.objs.size
 noex:∀ b o,X.base.get? b = some o -> b ∉ X.ex
 exfs:∀ b ∈ X.ex,b ∉ X.fs
 funs:X.s₀.heap.FunFrames X.base X.outer
 frf:∀ b ∈ X.fs,X.H₀ b = none
structure Inv (X:Cx) (zB:List (Addr × Obj)) (σ:List (Option V)) (H:Hp) (s:Shared):Prop where
 ok:X.Ok
 os:s.os = X.s₀.os
 bare:AllBare s.gens
 base:Un X.fs X.ex X.H₀ H X.s₀.heap s.heap
 loc:∃ m,s.heap.Ns X.env.locals m /\ ∀ (i:Nat) (x:Str) (v:V),X.N[i]? = some x -> σ[i]? = some (some v) -> Vis X.env.scope x -> ∃ u,ze v u /\ zQK X.env s.heap m x u
 cell:∀ x c,X.env.cells.lookup x = some c -> ∃ v,s.heap.IsCell c v
 free:H X.env.locals = none
 freeC:∀ x c,X.env.cells.lookup x = some c -> H c = none
 pin:∀ p ∈ X.pn ++ zB,s.heap.get? p.1 = some p.2 /\ H p.1 = none /\ p.1 ≠ X.env.locals /\ p.1 ∉ X.fs /\ ∀ v,p.2.data ≠ .cell v
 hok:HOk X.prog X.w H s.heap
 len:σ.length = X.N.length
section
variable {X:Cx} {zB:List (Addr × Obj)} {σ:List (Option V)} {H H':Hp} {s:Shared} {h':Heap}
theorem Cx.Ok.nofr (ok:X.Ok) {b:Addr} {o:Obj} (e:X.base.get? b = some o):b ∉ X.fs:=fun hb=>by
 have:=(ok.funs.mem hb).1;rw [e] at this; cases this
theorem Inv.bs (I:Inv X zB σ H s):∀ b o,X.base.get? b = some o -> s.heap.get? b = some o /\ H b = none:=fun b o e=>
 ⟨I.base.keep b o (I.ok.bs b o e).1 (I.ok.bs b o e).2 (I.ok.nofr e) (I.ok.noex b o e),I.base.free b o (I.ok.bs b o e).1 (I.ok.bs b o e).2 (I.ok.noex b o e)⟩
theorem Inv.bk (I:Inv X zB σ H s):∀ b o,X.base.get? b = some o -> s.heap.get? b = some o:=fun b o e=>(I.bs b o e).1
theorem Inv.mod (I:Inv X zB σ H s):Mod X.K X.mg X.base:=I.ok.mod
theorem Inv.kIn (I:Inv X zB σ H s):X.K.In s.heap:=I.ok.mod.kin.keeps I.bk
theorem Inv.lt (I:Inv X zB σ H s):X.env.locals < s.heap.objs.size:=let ⟨_,hn,_⟩:=I.loc; hn.lt
theorem Inv.sz (I:Inv X zB σ H s):X.s₀.heap.objs.size <= s.heap.objs.size:=zQo I.ok.above (Nat.le_of_lt I.lt)
theorem Inv.nofs (I:Inv X zB σ H s) {a:Addr} (h:s.heap.objs.size <= a):a ∉ X.fs:=fun hb=>by
 obtain ⟨_,o,ho,_⟩:=I.ok.funs.mem hb;exact absurd (zQm (zQY ho) (zQo I.sz h)) (zQ5 _)
theorem Inv.cne (I:Inv X zB σ H s):∀ x c,X.env.cells.lookup x = some c -> c ≠ X.env.locals:=fun x c e z=>by
 obtain ⟨v,o,ho,hd⟩:=I.cell x c e;obtain ⟨m,⟨o',es,ep,ho',hd',_⟩,_⟩:=I.loc;rw [z,ho'] at ho; cases ho; rw [hd'] at hd; cases hd
theorem Inv.funs (I:Inv X zB σ H s):s.heap.FunFrames X.base X.outer:=by
 have all:∀ (l:List Env),(∀ b ∈ frs l,b ∈ X.fs) -> X.s₀.heap.FunFrames X.base l -> s.heap.FunFrames X.base l:=by
  intro l;induction l with
  | nil=>intro _ _; trivial
  | cons env r ih=>
   intro hs hl;obtain ⟨hk,⟨L,o,hf,hn,ho,hd⟩,hr⟩:=hl;have hL:L ∈ X.fs:=hs L (by unfold frs; rw [zTk,hf]; exact zQb);obtain ⟨sl,e⟩:=I.base.slot L o ho (I.ok.frf L hL) hL fun z=>I.ok.exfs L z hL;exact ⟨hk,⟨L,_,hf,hn,e,hd⟩,ih (fun b hb=>hs b (by unfold frs; rw [zTk,hf]; exact zQa _ hb)) hr⟩
 exact all X.outer (fun _ hb=>hb) I.ok.funs
theorem Inv.stack (I:Inv X zB σ H s):s.heap.FunFrames X.base X.stack:=by
 rcases I.ok.stk with e | ⟨e,hf⟩
 ·rw [e]; exact I.funs
 ·rw [e];obtain ⟨m,hn,_⟩:=I.loc;refine .cons (by rw [I.ok.kind]; decide) hf hn ?_ I.funs;exact Heap.get?_none_of_le (zQo I.ok.bsz I.ok.above)
theorem Inv.stkSub (I:Inv X zB σ H s):∀ b ∈ frs X.stack,b ∈ X.env.locals :: X.fs:=fun b hb=>by
 rcases I.ok.stk with e | ⟨e,hf⟩
 ·rw [e] at hb; exact zQa _ hb
 ·rw [e] at hb;unfold frs at hb;rw [zTk,hf] at hb;exact hb
theorem Inv.stkFree (I:Inv X zB σ H s):∀ b ∈ frs X.stack,H b = none:=fun b hb=>by
 rcases zQZ.mp (I.stkSub b hb) with e | hb
 ·rw [e]; exact I.free
 ·obtain ⟨_,o,ho,_⟩:=I.ok.funs.mem hb;exact I.base.free b o ho (I.ok.frf b hb) fun z=>I.ok.exfs b z hb
theorem Inv.step {g':Array GenState} {t':Nat} {d':Drawn} {ch:List Addr} (I:Inv X zB σ H s)
  (hch:∀ b ∈ ch,(b ∈ X.ex \/ X.s₀.heap.objs.size <= b) /\ b ≠ X.env.locals /\ (∀ x c,X.env.cells.lookup x = some c -> c ≠ b) /\ ∀ p ∈ X.pn ++ zB,p.1 ≠ b)
  (keep:∀ b o,b ≠ X.env.locals -> b ∉ X.fs -> b ∉ ch -> s.heap.get? b = some o -> H b = none -> h'.get? b = some o)
  (slot:∀ b o,b ≠ X.env.locals -> b ∈ X.fs -> b ∉ ch -> s.heap.get? b = some o -> H b = none -> ∃ sl,h'.get? b = some { o with slots:=sl }) (free:∀ b o,b ∉ ch -> s.heap.get? b = some o -> H b = none -> H' b = none)
  (there:∀ b o,b ∉ ch -> s.heap.get? b = some o -> ∃ o',h'.get? b = some o')
  (tups:∀ b xs,H b = some (.tup xs) -> H' b = some (.tup xs)) (frzs:∀ b o u,H b = some (.frz o u) -> H' b = some (.frz o u)) (tbls:∀ b ps,H b = some (.tbl ps) -> ∃ more,H' b = some (.tbl (ps ++ more)))
  (ns:∀ m,s.heap.Ns X.env.locals m -> h'.Ns X.env.locals m) (hok:HOk X.prog X.w H' h') (hg:AllBare g') :
  Inv X zB σ H' { s with heap:=h',gens:=g',drawn:=d',toks:=t' }:=by
 have neL:∀ b o,X.s₀.heap.get? b = some o -> b ≠ X.env.locals:=fun b o e=>zQi (zQm (zQY e) I.ok.above);have neC:∀ b o,X.s₀.heap.get? b = some o -> b ∉ X.ex -> b ∉ ch:=fun b o e hx hb=>by
  rcases (hch b hb).1 with z | z
  ·exact hx z
  ·exact absurd (zQm (zQY e) z) (zQ5 _)
 have cellK:∀ x c,X.env.cells.lookup x = some c -> ∀ v,s.heap.IsCell c v -> h'.IsCell c v:=fun x c e v ⟨o,ho,hd⟩=>by
  have nch:c ∉ ch:=fun z=>(hch c z).2.2.1 x c e rfl;by_cases hc:c ∈ X.fs
  ·obtain ⟨sl,q⟩:=slot c o (I.cne x c e) hc nch ho (I.freeC x c e);exact ⟨_,q,hd⟩
  ·exact ⟨o,keep c o (I.cne x c e) hc nch ho (I.freeC x c e),hd⟩
 refine ⟨I.ok,I.os,hg,⟨fun b o e n hb hx=>?_,fun b o e n hb hx=>?_,fun b o e n hx=>?_,fun b o e hx=>?_,fun b xs e=>tups b xs (I.base.tups b xs e),fun b o xs e=>frzs b o xs (I.base.frzs b o xs e),fun b ps e=>?_⟩,?_,fun x c e=>?_,?_,fun x c e=>?_,fun p hp=>?_,hok,I.len⟩
 ·exact keep b o (neL b o e) hb (neC b o e hx) (I.base.keep b o e n hb hx) (I.base.free b o e n hx)
 ·obtain ⟨sl,e1⟩:=I.base.slot b o e n hb hx;obtain ⟨sl',e2⟩:=slot b _ (neL b o e) hb (neC b o e hx) e1 (I.base.free b o e n hx);exact ⟨sl',e2⟩
 ·obtain ⟨o',e1⟩:=I.base.there b o e hx;exact free b o' (neC b o e hx) e1 (I.base.free b o e n hx)
 ·obtain ⟨o',e1⟩:=I.base.there b o e hx;exact there b o' (neC b o e hx) e1
 ·obtain ⟨m1,e1⟩:=I.base.tbls b ps e;obtain ⟨m2,e2⟩:=tbls b _ e1;exact ⟨m1 ++ m2,by rw [e2,Array.append_assoc]⟩
 ·obtain ⟨m,hn,hl⟩:=I.loc;refine ⟨m,ns m hn,fun i x v e1 e2 e3=>?_⟩;obtain ⟨u,r,l⟩:=hl i x v e1 e2 e3;refine ⟨u,r,?_⟩;rcases l with l | ⟨k,c,e,z⟩
  ·exact .inl l
  ·exact .inr ⟨k,c,e,cellK x c e _ z⟩
 ·obtain ⟨v,z⟩:=I.cell x c e;exact ⟨v,cellK x c e v z⟩
 ·obtain ⟨m,⟨o,_,_,ho,_⟩,_⟩:=I.loc;exact free _ o (fun z=>(hch _ z).2.1 rfl) ho I.free
 ·obtain ⟨v,o,ho,hd⟩:=I.cell x c e;exact free c o (fun z=>(hch c z).2.2.1 x c e rfl) ho (I.freeC x c e)
 ·obtain ⟨e,n,ne,nf,d⟩:=I.pin p hp;have nch:p.1 ∉ ch:=fun z=>(hch p.1 z).2.2.2 p hp rfl;exact ⟨keep p.1 p.2 ne nf nch e n,free p.1 p.2 nch e n,ne,nf,d⟩
theorem Inv.un {t':Nat} (I:Inv X zB σ H s) (u:Un X.fs [] H H' s.heap h') (hok:HOk X.prog X.w H' h'):Inv X zB σ H' { s with heap:=h',toks:=t' }:=by
 obtain ⟨m,⟨o,es,ep,ho,r⟩,_⟩:=id I.loc;obtain ⟨sl,hL⟩:=u.any ho I.free (by simp);exact I.step (g':=s.gens) (d':=s.drawn) (ch:=[]) (fun _ z=>nomatch z) (fun b o _ hb _ e n=>u.keep b o e n hb (by simp)) (fun b o _ hb _ e n=>u.slot b o e n hb (by simp)) (fun b o _ e n=>u.free b o e n (by simp)) (fun b o _ e=>u.there b o e (by simp)) u.tups u.frzs u.tbls (fun m' hm=>by
  obtain ⟨o',es',ep',ho',r'⟩:=hm;rw [ho] at ho'; cases ho';exact ⟨_,es',ep',hL,r'⟩) hok I.bare
theorem Inv.call {g':Array GenState} {t':Nat} {d':Drawn} {ch:List Addr} (I:Inv X zB σ H s) (u:Un (frs X.stack) ch H H' s.heap h') (hok:HOk X.prog X.w H' h') (hg:AllBare g')
  (hch:∀ b ∈ ch,(b ∈ X.ex \/ X.s₀.heap.objs.size <= b) /\ b ≠ X.env.locals /\ (∀ x c,X.env.cells.lookup x = some c -> c ≠ b) /\ ∀ p ∈ X.pn ++ zB,p.1 ≠ b) :
  Inv X zB σ H' { s with heap:=h',gens:=g',drawn:=d',toks:=t' }:=by
 obtain ⟨m,⟨o,es,ep,ho,r⟩,_⟩:=id I.loc;obtain ⟨sl,hL⟩:=u.any ho I.free fun z=>(hch _ z).2.1 rfl;exact I.step (ch:=ch) hch (fun b o hL hb hc e n=>u.keep b o e n (fun z=>(zQZ.mp (I.stkSub b z)).elim hL hb) hc) (fun b o _ _ hc e n=>u.any e n hc) (fun b o hc e n=>u.free b o e n hc) (fun b o hc e=>u.there b o e hc) u.tups u.frzs u.tbls (fun m' hm=>by
  obtain ⟨o',es',ep',ho',r'⟩:=hm;rw [ho] at ho'; cases ho';exact ⟨_,es',ep',hL,r'⟩) hok hg
theorem Inv.turned {t':Nat} {it:Addr} (I:Inv X zB σ H s) (k:∀ b o,b ≠ it -> s.heap.get? b = some o -> h'.get? b = some o) (hn:H it = none) (hL:it ≠ X.env.locals)
  (h1:it ∈ X.ex \/ X.s₀.heap.objs.size <= it) (h2:∀ x c,X.env.cells.lookup x = some c -> c ≠ it) (h3:∀ p ∈ X.pn ++ zB,p.1 ≠ it):Inv X zB σ H { s with heap:=h',toks:=t' }:=by
 have nit:∀ b u,H b = some u -> b ≠ it:=fun b u e z=>by rw [z,hn] at e; cases e
 refine I.step (g':=s.gens) (d':=s.drawn) (ch:=[it]) (fun b hb=>?_) (fun b o _ _ hc e _=>k b o (fun z=>hc (by simp [z])) e) (fun b o _ _ hc e _=>⟨o.slots,k b o (fun z=>hc (by simp [z])) e⟩) (fun _ _ _ _ n=>n)
  (fun b o hc e=>⟨o,k b o (fun z=>hc (by simp [z])) e⟩) (fun _ _ e=>e) (fun _ _ _ e=>e) (fun b ps e=>⟨#[],by rw [e]; simp⟩) (fun m hm=>?_) (fun b u e=>?_) I.bare
 ·have e:b = it:=by simpa using hb
  subst e;exact ⟨h1,hL,h2,h3⟩
 ·obtain ⟨o,es,ep,ho,r⟩:=hm;exact ⟨o,es,ep,k _ o (Ne.symm hL) ho,r⟩
 ·refine (I.hok b u e).stay (fun c v hc q=>k c v ?_ q) (fun _ q=>q) fun _ _ q=>q;rcases hc with z | z
  ·rw [z]; exact nit b u e
  ·exact nit c _ z
theorem Inv.tok (I:Inv X zB σ H s) (t:Nat):Inv X zB σ H { s with toks:=t }:=I.un (h':=s.heap) (t':=t) Un.refl I.hok
theorem Inv.kept {t':Nat} (I:Inv X zB σ H s) (k:∀ b u,s.heap.get? b = some u -> h'.get? b = some u):Inv X zB σ H { s with heap:=h',toks:=t' }:=I.un (Un.kept k) (I.hok.kept k)
theorem Inv.laid {a:Addr} {o:HO} {t':Nat} (I:Inv X zB σ H s) (k:∀ b u,s.heap.get? b = some u -> h'.get? b = some u) (hp:s.heap.objs.size <= a) (new:zn X.prog X.w (upd H a o) h' a o) :
  Inv X zB σ (upd H a o) { s with heap:=h',toks:=t' }:=I.un (Un.laid k hp (I.hok.fresh hp)) (I.hok.laid k hp new)
theorem Inv.write {x e:Addr} {o:HO} {t':Nat} (I:Inv X zB σ H s) (mu:Mut (H x)) (he:e = x \/ H e = some (.own x)) (k:∀ b u,b ≠ e -> s.heap.get? b = some u -> h'.get? b = some u) (heo:∃ u,h'.get? e = some u)
  (new:zn X.prog X.w (upd H x o) h' x o):Inv X zB σ (upd H x o) { s with heap:=h',toks:=t' }:=I.un (Un.write mu he k heo) (I.hok.write mu he k heo new)
theorem Inv.weak {σ':List (Option V)} (I:Inv X zB σ H s) (hl:σ'.length = σ.length) (w:∀ (i:Nat) v,σ'[i]? = some (some v) -> σ[i]? = some (some v)):Inv X zB σ' H s :=
 ⟨I.ok,I.os,I.bare,I.base,let ⟨m,hn,hl'⟩:=I.loc; ⟨m,hn,fun i x v e1 e2 e3=>hl' i x v e1 (w i v e2) e3⟩,I.cell,I.free,I.freeC,I.pin,I.hok,hl.trans I.len⟩
theorem Inv.pins_of {pins':List (Addr × Obj)} (I:Inv X zB σ H s) (h:∀ p ∈ pins',s.heap.get? p.1 = some p.2 /\ H p.1 = none /\ p.1 ≠ X.env.locals /\ p.1 ∉ X.fs /\ ∀ v,p.2.data ≠ .cell v):Inv X pins' σ H s :=
 ⟨I.ok,I.os,I.bare,I.base,I.loc,I.cell,I.free,I.freeC,fun p hp=>(zQn.mp hp).elim (fun z=>I.pin p (zRc _ z)) (h p),I.hok,I.len⟩
theorem zGQ {N:List Str} (hN:N.Nodup) {i j:Nat} {x:Str} (a:N[i]? = some x) (b:N[j]? = some x):i = j:=by
 obtain ⟨h1,e1⟩:=zQQ.mp a;obtain ⟨h2,e2⟩:=zQQ.mp b;exact (List.getElem_inj hN).mp (e1.trans e2.symm)
theorem zI5 {M:Model} {A:Around} {E:Value -> Shared -> Prop} {i:Nat} {x:Str} {v:V} {u:Value} {Q:Unit -> Shared -> Prop} (I:Inv X zB σ H s) (hN:X.N.Nodup) (hi:X.N[i]? = some x) (hx:Loc X.env.scope x) (r:ze v u)
  (h:∀ s',Inv X zB (σ.set i (some v)) H s' -> (∃ a,Heap.SameBut a s.heap s'.heap /\ (a = X.env.locals \/ X.env.cells.lookup x = some a)) -> Q () s') (hf:X.fn x = true \/ X.env.scope.names.lookup x = some .local:=by first | exact .inl rfl | exact .inr rfl | assumption):wpAny M A (storeName X.env x u) Q E s:=by
 obtain ⟨m,hn,hl⟩:=id I.loc;have hcls:(X.env.scope.kind == .class || (X.env.scope.kind == .module && X.env.locals != X.env.globals)) = false:=by rw [I.ok.kind]; rfl
 have hiσ:i < σ.length:=by rw [I.len]; exact (zQQ.mp hi).1
 have cne:=I.cne;have tracked:∀ {a:Addr} {h':Heap},(∃ o,s.heap.get? a = some o /\ H a = none) -> Heap.SameBut a s.heap h' -> HOk X.prog X.w H h':=fun {a h'} ha hs b ob e=>by
  obtain ⟨_,_,hfree⟩:=ha;refine (I.hok b ob e).stay (fun c w' hc q=>(hs.2 c ?_).trans q) (fun _ q=>q) fun _ _ q=>q;rintro rfl;rcases hc with rfl | hc
  ·rw [hfree] at e; cases e
  ·rw [hfree] at hc; cases hc
 rcases hx with hk | hk
 ·refine wpAny_storeName_local hk hn (fun h' hn' hs=>?_) hcls;obtain ⟨oL,_,_,hoL,_⟩:=id hn;refine h _ ⟨I.ok,I.os,I.bare,⟨fun b o e n hb hx=>?_,fun b o e n hb hx=>?_,I.base.free,fun b o e hx=>?_,I.base.tups,I.base.frzs,I.base.tbls⟩,⟨_,hn',fun j y v' e1 e2 e3=>?_⟩,fun y c e=>?_,I.free,I.freeC,fun p hp=>?_,tracked ⟨oL,hoL,I.free⟩ hs,by simpa using I.len⟩ ⟨_,hs,.inl rfl⟩
  ·exact (hs.2 b (zQi (zQm (zQY e) I.ok.above))).trans (I.base.keep b o e n hb hx)
  ·obtain ⟨sl,e1⟩:=I.base.slot b o e n hb hx;exact ⟨sl,(hs.2 b (zQi (zQm (zQY e) I.ok.above))).trans e1⟩
  ·obtain ⟨o',e1⟩:=I.base.there b o e hx;exact ⟨o',(hs.2 b (zQi (zQm (zQY e) I.ok.above))).trans e1⟩
  ·by_cases hj:j = i
   ·subst hj;rw [hi] at e1; cases e1;rw [zRH hiσ] at e2;cases e2;exact ⟨u,r,.inl ⟨hk,by simp⟩⟩
   ·rw [zQr (Ne.symm hj)] at e2;obtain ⟨u',r',q⟩:=hl j y v' e1 e2 e3;refine ⟨u',r',?_⟩;rcases q with ⟨k,e⟩ | ⟨k,c,e,z⟩
    ·refine .inl ⟨k,?_⟩;have:y ≠ x:=fun e=>hj (zGQ hN e1 (e ▸ hi));simp [this,e]
    ·exact .inr ⟨k,c,e,z.sameBut hs (cne y c e)⟩
  ·obtain ⟨w',z⟩:=I.cell y c e;exact ⟨w',z.sameBut hs (cne y c e)⟩
  ·obtain ⟨e,n,ne,nf,d⟩:=I.pin p hp;exact ⟨(hs.2 p.1 ne).trans e,n,ne,nf,d⟩
 ·have hfn:X.fn x = true:=by
   rcases hf with z | z
   ·exact z
   ·rw [z] at hk; cases hk
  obtain ⟨c,hc⟩:=I.ok.has x (.inl hk);obtain ⟨w',z⟩:=I.cell x c hc;refine wpAny_storeName_cell I.ok.kind hk hc z (fun h' hc' hs=>?_);obtain ⟨oc,hoc,hocd⟩:=id z;refine h { s with heap:=h' } ⟨I.ok,I.os,I.bare,⟨fun b o e n hb hx=>?_,fun b o e n hb hx=>?_,I.base.free,fun b o e hx=>?_,I.base.tups,I.base.frzs,I.base.tbls⟩,⟨m,hn.sameBut hs (Ne.symm (cne x c hc)),fun j y v' e1 e2 e3=>?_⟩,fun y c' e=>?_,I.free,I.freeC,fun p hp=>?_,tracked ⟨oc,hoc,I.freeC x c hc⟩ hs,by simpa using I.len⟩ ⟨c,hs,.inr hc⟩
  ·exact (hs.2 b (zQi (zQm (zQY e) (I.ok.cab x c hfn hc)))).trans (I.base.keep b o e n hb hx)
  ·obtain ⟨sl,e1⟩:=I.base.slot b o e n hb hx;exact ⟨sl,(hs.2 b (zQi (zQm (zQY e) (I.ok.cab x c hfn hc)))).trans e1⟩
  ·obtain ⟨o',e1⟩:=I.base.there b o e hx;exact ⟨o',(hs.2 b (zQi (zQm (zQY e) (I.ok.cab x c hfn hc)))).trans e1⟩
  ·by_cases hj:j = i
   ·subst hj;rw [hi] at e1; cases e1;rw [zRH hiσ] at e2;cases e2;exact ⟨u,r,.inr ⟨.inl hk,c,hc,hc'⟩⟩
   ·rw [zQr (Ne.symm hj)] at e2;obtain ⟨u',r',q⟩:=hl j y v' e1 e2 e3;refine ⟨u',r',?_⟩;rcases q with q | ⟨k,c',e,z'⟩
    ·exact .inl q
    ·refine .inr ⟨k,c',e,z'.sameBut hs ?_⟩;rintro rfl;exact hj (zGQ hN e1 (I.ok.inj _ _ _ e hc ▸ hi))
  ·by_cases hcc:c' = c
   ·subst hcc; exact ⟨_,hc'⟩
   ·obtain ⟨w2,z2⟩:=I.cell y c' e;exact ⟨w2,z2.sameBut hs hcc⟩
  ·obtain ⟨e,n,ne,nf,d⟩:=I.pin p hp;refine ⟨(hs.2 p.1 ?_).trans e,n,ne,nf,d⟩;intro q;rw [q,hoc] at e;have q':oc = p.2:=zRN e;exact d w' (by rw [<- q']; exact hocd)
theorem zGF {M:Model} {A:Around} {E:Value -> Shared -> Prop} {i:Nat} {x:Str} {v:V} {u:Value} {Q:Unit -> Shared -> Prop} (I:Inv X zB σ H s) (hN:X.N.Nodup) (hi:X.N[i]? = some x) (hx:Loc X.env.scope x) (r:ze v u)
  (h:∀ s',Inv X zB (σ.set i (some v)) H s' -> Q () s') (hf:X.fn x = true \/ X.env.scope.names.lookup x = some .local:=by first | exact .inl rfl | exact .inr rfl | assumption):wpAny M A (storeName X.env x u) Q E s :=
 zI5 I hN hi hx r (fun s' I' _=>h s' I') hf
theorem Inv.call' {s':Shared} {ch:List Addr} (I:Inv X zB σ H s) (ho:s'.os = s.os) (u:Un (frs X.stack) ch H H' s.heap s'.heap) (hok:HOk X.prog X.w H' s'.heap) (hg:AllBare s'.gens)
  (hch:∀ b ∈ ch,(b ∈ X.ex \/ X.s₀.heap.objs.size <= b) /\ b ≠ X.env.locals /\ (∀ x c,X.env.cells.lookup x = some c -> c ≠ b) /\ ∀ p ∈ X.pn ++ zB,p.1 ≠ b):Inv X zB σ H' s':=by
 obtain ⟨h',g',d',t',o'⟩:=s';have e:o' = s.os:=ho;subst e;exact I.call (g':=g') (t':=t') (d':=d') u hok hg hch
end
abbrev XK:=Value -> Option Addr -> Hp -> Prop
abbrev St:=List (Option V)
abbrev VK:=V -> Hp -> Prop
abbrev TE:=St -> Hp -> VK -> Prop
abbrev TT:=St -> Hp -> (Bool -> Hp -> Prop) -> Prop
abbrev TA:=St -> Hp -> (List V -> Hp -> Prop) -> Prop
structure Ends where
 nx:St -> Hp -> Prop
 rt:VK
 bk:St -> Hp -> Prop:=fun _ _=>False
 ct:St -> Hp -> Prop:=fun _ _=>False
abbrev TS:=Ends -> St -> Hp -> Prop
def EP (X:Cx) (zB:List (Addr × Obj)) (σ:St) (Q:VK) (u:Value) (s':Shared):Prop:=∃ v H',Inv X zB σ H' s' /\ ze v u /\ Q v H'
def TP (X:Cx) (zB:List (Addr × Obj)) (σ:St) (Q:Bool -> Hp -> Prop) (b:Bool) (s':Shared):Prop:=∃ H',Inv X zB σ H' s' /\ Q b H'
def AP (X:Cx) (zB:List (Addr × Obj)) (σ:St) (Q:List V -> Hp -> Prop) (us:List Value) (s':Shared):Prop:=∃ vs H',Inv X zB σ H' s' /\ zU vs us /\ Q vs H'
def SP (X:Cx) (zB:List (Addr × Obj)) (D:Ends) (f:Flow) (s':Shared):Prop :=
 match f with
 | .next=>∃ σ' H',Inv X zB σ' H' s' /\ D.nx σ' H'
 | .brk=>∃ σ' H',Inv X zB σ' H' s' /\ D.bk σ' H'
 | .cont=>∃ σ' H',Inv X zB σ' H' s' /\ D.ct σ' H'
 | .ret u=>∃ v σ' H',Inv X zB σ' H' s' /\ ze v u /\ D.rt v H'
def PE (X:Cx) (e:Expr) (t:TE):Prop :=
 ∀ (zB:List (Addr × Obj)) (s:Shared) (σ:St) (H:Hp) (Q:VK),Inv X zB σ H s -> t σ H Q -> wpAny (model X.prog X.w) X.A (eval e X.env) (EP X zB σ Q) X.xe s
def PT (X:Cx) (e:Expr) (t:TT):Prop :=
 ∀ (zB:List (Addr × Obj)) (s:Shared) (σ:St) (H:Hp) (Q:Bool -> Hp -> Prop),Inv X zB σ H s -> t σ H Q -> wpAny (model X.prog X.w) X.A (isTrue e X.env (eval e X.env)) (TP X zB σ Q) X.xe s
def PW (X:Cx) (e:Expr) (t:TT):Prop :=
 ∀ (whole:Sem Value) (zB:List (Addr × Obj)) (s:Shared) (σ:St) (H:Hp) (Q:Bool -> Hp -> Prop),Inv X zB σ H s -> t σ H Q -> wpAny (model X.prog X.w) X.A (isTrue e X.env whole) (TP X zB σ Q) X.xe s
theorem PW.pt {X:Cx} {e:Expr} {t:TT} (h:PW X e t):PT X e t:=h _
def PA (X:Cx) (es:List Expr) (t:TA):Prop :=
 ∀ (pos:Pos) (zB:List (Addr × Obj)) (s:Shared) (σ:St) (H:Hp) (Q:List V -> Hp -> Prop),Inv X zB σ H s -> t σ H Q -> wpAny (model X.prog X.w) X.A (spliced (backTo pos (starEach es X.env))) (AP X zB σ Q) X.xe s
def PS (X:Cx) (st:Stmt) (t:TS):Prop :=
 ∀ (zB:List (Addr × Obj)) (s:Shared) (σ:St) (H:Hp) (D:Ends),Inv X zB σ H s -> t D σ H -> wpAny (model X.prog X.w) X.A (exec st X.env) (SP X zB D) X.xe s
def PSs (X:Cx) (st:List Stmt) (t:TS):Prop :=
 ∀ (zB:List (Addr × Obj)) (s:Shared) (σ:St) (H:Hp) (D:Ends),Inv X zB σ H s -> t D σ H -> wpAny (model X.prog X.w) X.A (execs st X.env) (SP X zB D) X.xe s
theorem thn {α:Type} {t:Sem α} {Q Q':α -> Shared -> Prop} {M:Model} {A:Around} {E:Value -> Shared -> Prop} {s:Shared} (h:wpAny M A t Q E s) (hQ:∀ a s,Q a s -> Q' a s):wpAny M A t Q' E s:=zQt h hQ fun _ _ x=>x
section
variable {X:Cx}
def zNP (i:Nat):TE:=fun σ H Q=>∃ v,σ[i]? = some (some v) /\ Q v H
def tC (v:V):TE:=fun _ H Q=>Q v H
theorem zOY {i:Nat} {x:Str} {pos:Pos} (hN:X.N[i]? = some x) (hv:Vis X.env.scope x) (hd:(x == ("__debug__" : Str)) = false:=by decide) (hcd:(x == ("__classdict__" : Str)) = false:=by decide):PE X (.Name x pos) (zNP i):=by
 intro zB s σ H Q I h;obtain ⟨v,e,h⟩:=h;obtain ⟨m,hn,hl⟩:=I.loc;obtain ⟨u,r,l⟩:=hl i x v hN e hv;have fin:EP X zB σ Q u s:=⟨v,H,I,r,h⟩;rcases l with ⟨hk,hm⟩ | ⟨hk,c,hc,hcell⟩
 ·exact wpAny_Name (wpAny_loadName_local I.ok.kind hk hn hm fin) hd
 ·rcases hk with hk | hk
  ·exact wpAny_Name (wpAny_loadName_cell I.ok.kind hk hc hcell fin) hd
  ·exact wpAny_Name (wpAny_loadName_free I.ok.kind hk hc hcell fin hcd) hd
theorem zNv {i j pos}:PE X (.Constant (.int i) j pos) (tC (.int i)):=fun _ _ _ H _ I h=>wpAny_Constant_int ⟨.int i,H,I.tok _,⟨_,rfl⟩,h⟩
theorem zPp {b j pos}:PE X (.Constant (.bool b) j pos) (tC (.bl b)):=fun _ _ _ H _ I h=>Constant_bool ⟨.bl b,H,I,rfl,h⟩
theorem zOK {x j pos}:PE X (.Constant (.str x) j pos) (tC (.str x)):=fun _ _ _ H _ I h=>Calls.Constant_str ⟨.str x,H,I.tok _,⟨_,rfl⟩,h⟩
def Gl (X:Cx) (x:Str):Prop:=X.env.kindOf x = some .globalImplicit
theorem zMh {E:Value -> Shared -> Prop} {zB:List (Addr × Obj)} {s:Shared} {σ:St} {H:Hp} {x:Str} {u:Value} {pos:Pos} {Q:Value -> Shared -> Prop} (I:Inv X zB σ H s) (hg:Gl X x) (hm:X.mg x = some u) (h:Q u s)
  (hd:(x == ("__debug__" : Str)) = false:=by decide):wpAny (model X.prog X.w) X.A (eval (.Name x pos) X.env) Q E s :=
 Calls.Name_function_global I.ok.kind hg (Calls.loadGlobal_global (by rw [I.ok.glob]; exact I.mod.glob.keeps I.bk) hm h) hd
theorem zCA {E:Value -> Shared -> Prop} {zB:List (Addr × Obj)} {s:Shared} {σ:St} {H:Hp} {x:Str} {u:Value} {pos:Pos} {Q:Value -> Shared -> Prop} (I:Inv X zB σ H s) (hg:Gl X x) (hm:X.mg x = none) (hv:bootBuiltins x = some u) (h:Q u s)
  (hn:x ≠ "__name__" := by decide) (hd:(x == ("__debug__" : Str)) = false:=by decide):wpAny (model X.prog X.w) X.A (eval (.Name x pos) X.env) Q E s:=by
 obtain ⟨mb,h1,h2⟩:=I.mod.blt;exact Calls.Name_function_global I.ok.kind hg (Calls.loadGlobal_builtin (by rw [I.ok.glob]; exact I.mod.glob.keeps I.bk) hm (by rw [I.ok.blt]; exact h1.keeps I.bk) ((h2 x hn).trans hv) h) hd
theorem zLu {x:Str} {v:V} {u:Value} {pos:Pos} (hg:Gl X x) (hm:X.mg x = none) (hv:bootBuiltins x = some u) (r:ze v u) (hn:x ≠ "__name__" := by decide) (hd:(x == ("__debug__" : Str)) = false:=by decide):PE X (.Name x pos) (tC v) :=
 fun _ _ _ H _ I h=>zCA I hg hm hv ⟨v,H,I,r,h⟩ hn hd
variable {a b:Expr} {ta tb:TE} {pos:Pos}
def PC (X:Cx) (op:CmpOp) (a b:Expr) (t:TE):Prop :=
 ∀ (zB:List (Addr × Obj)) (s:Shared) (σ:St) (H:Hp) (Q:VK),Inv X zB σ H s -> t σ H Q ->
  wpAny (model X.prog X.w) X.A (eval a X.env) (fun v s₁=>wpAny (model X.prog X.w) X.A (eval b X.env) (fun u s₂=>wpAny (model X.prog X.w) X.A (compareOp op v u) (EP X zB σ Q) X.xe s₂) X.xe s₁) X.xe s
def tB (t:TE):TT:=fun σ H Q=>t σ H fun x H1=>∃ c,x = .bl c /\ Q c H1
theorem zOM {op:CmpOp} {t:TE} (h:PC X op a b t) (h1:behindInMarks op b = false:=by first | exact nobehind _ (by decide) (by decide) | rfl):PT X (.Compare a [op] [b] pos) (tB t):=by
 intro zB s σ H Q I hw;refine wpAny_isTrue_Compare1 (thn (h zB s σ H _ I hw) fun v s1 h1=>thn h1 fun u s2 h2=>thn h2 fun c s3 ⟨x,H1,I1,r1,q1⟩=>?_) h1;obtain ⟨d,rfl,q⟩:=q1;cases r1;exact wpAny_truthy_bool ⟨H1,I1,q⟩
theorem zNX {e:Expr} {t:TE} (h:PE X e t) (he:∀ whole,isTrue e X.env whole = (do let v <- whole; standAt e.pos; holding [v] (truthy v)):=by intro _; rfl):PT X e (tB t):=by
 intro zB s σ H Q I hw;refine isTrue_plain (thn (h zB s σ H _ I hw) fun v s1 ⟨x,H1,I1,r1,q1⟩=>?_) (he _);obtain ⟨d,rfl,q⟩:=q1;cases r1;exact wpAny_truthy_bool ⟨H1,I1,q⟩
variable {tA tB':TT} {rest:List Expr}
def tOr (t u:TT):TT:=fun σ H Q=>t σ H fun c H1=>if c = true then Q true H1 else u σ H1 Q
def zP0 (t:TT):TT:=fun σ H Q=>t σ H fun c H1=>Q (!c) H1
theorem zOJ (ha:PT X a tA):PW X (.BoolOp .Or [a] pos) tA:=by
 intro wh zB s σ H Q I h;refine isTrue_or (thn (ha zB s σ H Q I h) fun c s1 e=>?_);cases c with
 | false=>exact isTrue_or_nil e
 | true=>exact e
theorem zPN (ha:PT X a tA) (hb:PW X (.BoolOp .Or (b :: rest) pos) tB'):PW X (.BoolOp .Or (a :: b :: rest) pos) (tOr tA tB'):=by
 intro wh zB s σ H Q I h;refine isTrue_or (thn (ha zB s σ H _ I h) fun c s1 ⟨H1,I1,q1⟩=>?_);cases c with
 | true=>exact ⟨H1,I1,q1⟩
 | false=>exact hb wh zB s1 σ H1 Q I1 q1
theorem zOO (ha:PT X a tA):PT X (.UnaryOp .Not a pos) (zP0 tA):=by
 intro zB s σ H Q I h;exact isTrue_not (ha zB s σ H (fun c H1=>Q (!c) H1) I h)
def zOy (ta tb:TE):TE:=fun σ H Q=>ta σ H fun x H1=>∃ c,x = .bl c /\ if c = true then tb σ H1 Q else Q (.bl false) H1
def zPs (ta:TE):TE:=fun σ H Q=>ta σ H fun x H1=>∃ c,x = .bl c /\ Q (.bl (!c)) H1
theorem zOH {op} {t:TE} (h:PE X a t):PE X (.BoolOp op [a] pos) t:=fun zB s σ H Q I hw=>BoolOp_one (h zB s σ H Q I hw)
theorem zNK (ha:PE X a ta) (hb:PE X (.BoolOp .And (b :: rest) pos) tb):PE X (.BoolOp .And (a :: b :: rest) pos) (zOy ta tb):=by
 intro zB s σ H Q I h;refine BoolOp_and (thn (ha zB s σ H _ I h) fun v s1 ⟨x,H1,I1,r1,q1⟩=>?_);obtain ⟨c,rfl,q1⟩:=q1;cases r1;refine wpAny_truthy_bool ?_;cases c with
 | true=>exact hb zB s1 σ H1 Q I1 q1
 | false=>exact ⟨.bl false,H1,I1,rfl,q1⟩
theorem zNf (ha:PE X a ta):PE X (.UnaryOp .Not a pos) (zPs ta):=by
 intro zB s σ H Q I h;refine UnaryOp_ (thn (ha zB s σ H _ I h) fun v s1 ⟨x,H1,I1,r1,q1⟩=>?_);obtain ⟨c,rfl,q1⟩:=q1;cases r1;exact not_of (wpAny_truthy_bool ⟨.bl (!c),H1,I1,rfl,q1⟩)
def tIf (t:TT) (ta tb:TE):TE:=fun σ H Q=>t σ H fun c H1=>if c = true then ta σ H1 Q else tb σ H1 Q
theorem zKP {c:Expr} (hc:PT X c tA) (ha:PE X a ta) (hb:PE X b tb):PE X (.IfExp c a b pos) (tIf tA ta tb):=by
 intro zB s σ H Q I h;refine wpAny_IfExp (thn (hc zB s σ H _ I h) fun d s1 ⟨H1,I1,q1⟩=>?_);cases d with
 | true=>exact ha zB s1 σ H1 Q I1 q1
 | false=>exact hb zB s1 σ H1 Q I1 q1
end
def SqL (K:PySem.W.Frag) (H:Hp) (a:Addr) (xs:List V):Prop :=
 Rd H a (.lst xs) \/
  ∃ (o:Obj) (its:Array Value) (n:Nat),K.lookup a = some o /\ o.cls = .type "list" /\ o.dict = none /\ o.data = .seq its n /\ its.size <= sizeLine /\ zU xs its.toList
def SqT (K:PySem.W.Frag) (H:Hp) (a:Addr) (xs:List V):Prop :=
 Rd H a (.tup xs) \/
  ∃ (o:Obj) (its:Array Value) (n:Nat),K.lookup a = some o /\ o.cls = .type "tuple" /\ o.data = .seq its n /\ its.size <= sizeLine /\ zU xs its.toList
def zP6:Value -> Option V
 | .none=>some .non
 | .bool b=>some (.bl b)
 | .int i _=>some (.int i)
 | .str x _=>some (.str x)
 | .bytes b _=>some (.byt b)
 | .float b _=>some (.flt b)
 | .ref a=>some (.ref a)
 | .type n=>some (.ty n)
 | _=>none
theorem ze.abs {x:V} {u:Value} (r:ze x u):zP6 u = some x:=by
 cases x with
 | non=>cases r; rfl
 | bl _=>cases r; rfl
 | int _=>obtain ⟨t,rfl⟩:=r; rfl
 | str _=>obtain ⟨t,rfl⟩:=r; rfl
 | byt _=>obtain ⟨t,rfl⟩:=r; rfl
 | flt _=>obtain ⟨t,rfl⟩:=r; rfl
 | ref _=>cases r; rfl
 | ty _=>cases r; rfl
theorem ze.inj {x y:V} {u:Value} (r:ze x u) (q:ze y u):x = y:=zRN (r.abs.symm.trans q.abs)
theorem zU.inj:∀ {xs ys:List V} {us:List Value},zU xs us -> zU ys us -> xs = ys
 | _,_,_,.nil,.nil=>rfl
 | _,_,_,.cons r t,.cons r' t'=>by rw [r.inj r',zU.inj t t']
section
variable {X:Cx} {zB:List (Addr × Obj)} {σ:St} {H:Hp} {s:Shared} {a:Addr} {xs ys:List V}
theorem SqL.of {K:PySem.W.Frag} (h:H a = some (.lst xs)):SqL K H a xs:=.inl (.inl h)
theorem SqT.of {K:PySem.W.Frag} (h:H a = some (.tup xs)):SqT K H a xs:=.inl (.inl h)
theorem Inv.list (I:Inv X zB σ H s) (h:SqL X.K H a xs):∃ its:List Value,zU xs its /\ PlainL s.heap a its.toArray /\ xs.length <= sizeLine:=by
 rcases h with h | ⟨o,its,n,hk,hc,hd,hs,hz,r⟩
 ·obtain ⟨z,its,n,r,e⟩:=h.ok I.hok;exact ⟨its,r,⟨_,n,e,rfl,rfl,rfl⟩,z⟩
 ·refine ⟨its.toList,r,⟨o,n,I.kIn a o hk,hc,hd,by simpa using hs⟩,?_⟩;have e:=r.length;simp only [zQ6] at e;omega
theorem Inv.tuple (I:Inv X zB σ H s) (h:SqT X.K H a xs):∃ its:List Value,zU xs its /\ IsTup s.heap a its.toArray /\ xs.length <= sizeLine:=by
 rcases h with h | ⟨o,its,n,hk,hc,hs,hz,r⟩
 ·obtain ⟨z,its,r,p⟩:=h.ok I.hok;exact ⟨its,r,p.tup,z⟩
 ·refine ⟨its.toList,r,⟨o,I.kIn a o hk,hc,n,by simpa using hs⟩,?_⟩;have e:=r.length;simp only [zQ6] at e;omega
theorem Inv.list_inj (I:Inv X zB σ H s) (h:SqL X.K H a xs) (h':SqL X.K H a ys):xs = ys:=by
 obtain ⟨its,r,⟨o,n,e,_,_,d⟩,_⟩:=I.list h;obtain ⟨its',r',⟨o',n',e',_,_,d'⟩,_⟩:=I.list h';rw [e] at e'; cases e';rw [d] at d';injection d' with d1 _
 have:its = its':=by simpa using congrArg Array.toList d1
 subst this;exact r.inj r'
theorem Inv.tuple_inj (I:Inv X zB σ H s) (h:SqT X.K H a xs) (h':SqT X.K H a ys):xs = ys:=by
 obtain ⟨its,r,⟨o,e,_,n,d⟩,_⟩:=I.tuple h;obtain ⟨its',r',⟨o',e',_,n',d'⟩,_⟩:=I.tuple h';rw [e] at e'; cases e';rw [d] at d';injection d' with d1 _
 have:its = its':=by simpa using congrArg Array.toList d1
 subst this;exact r.inj r'
end
abbrev Cx.wish (X:Cx) (E:Value -> Shared -> Prop):Cx:={ X with xe:=E }
abbrev Cx.nox (X:Cx):Cx:=X.wish fun _ _=>False
theorem Cx.Ok.wish {X:Cx} (ok:X.Ok) (E:Value -> Shared -> Prop):(X.wish E).Ok :=
 ⟨ok.mod,ok.kind,ok.glob,ok.blt,ok.above,ok.inj,ok.has,ok.cab,ok.hd,ok.frames,ok.stk,ok.exf,ok.bs,ok.bsz,ok.noex,ok.exfs,ok.funs,ok.frf⟩
theorem Cx.Ok.unwish {X:Cx} {E:Value -> Shared -> Prop} (ok:(X.wish E).Ok):X.Ok :=
 ⟨ok.mod,ok.kind,ok.glob,ok.blt,ok.above,ok.inj,ok.has,ok.cab,ok.hd,ok.frames,ok.stk,ok.exf,ok.bs,ok.bsz,ok.noex,ok.exfs,ok.funs,ok.frf⟩
section
variable {X:Cx} {zB:List (Addr × Obj)} {σ:St} {H:Hp} {s:Shared} {E:Value -> Shared -> Prop}
theorem Inv.wish (I:Inv X zB σ H s) (E:Value -> Shared -> Prop):Inv (X.wish E) zB σ H s:=⟨I.ok.wish E,I.os,I.bare,I.base,I.loc,I.cell,I.free,I.freeC,I.pin,I.hok,I.len⟩
theorem Inv.unwish (I:Inv (X.wish E) zB σ H s):Inv X zB σ H s:=⟨I.ok.unwish,I.os,I.bare,I.base,I.loc,I.cell,I.free,I.freeC,I.pin,I.hok,I.len⟩
theorem SP.unwish {D:Ends} {f:Flow} {s':Shared} (h:SP (X.wish E) zB D f s'):SP X zB D f s':=by
 cases f with
 | next=>obtain ⟨σ',H',I,q⟩:=h; exact ⟨σ',H',I.unwish,q⟩
 | brk=>obtain ⟨σ',H',I,q⟩:=h; exact ⟨σ',H',I.unwish,q⟩
 | cont=>obtain ⟨σ',H',I,q⟩:=h; exact ⟨σ',H',I.unwish,q⟩
 | ret u=>obtain ⟨v,σ',H',I,r,q⟩:=h; exact ⟨v,σ',H',I.unwish,r,q⟩
theorem PSs.nox {st:List Stmt} {t:TS} (h:PSs X.nox st t):PSs X st t:=fun zB s σ H D I hw=>
 zQt (h zB s σ H D (I.wish _) hw) (fun _ _ q=>q.unwish) fun _ _ z=>False.elim z
end
section
variable {X:Cx} {st:Stmt} {rest:List Stmt} {t u:TS} {e:Expr} {te:TE} {pos:Pos}
def zPk:TS:=fun D σ H=>D.nx σ H
def zPy (t u:TS):TS:=fun D σ H=>t { D with nx:=u D } σ H
theorem zLe:PSs X [] zPk:=fun _ _ σ H _ I h=>wpAny_execs_nil ⟨σ,H,I,h⟩
theorem zKE (h1:PS X st t) (h2:PSs X rest u):PSs X (st :: rest) (zPy t u):=by
 intro zB s σ H D I h;refine wpAny_execs_cons (thn (h1 zB s σ H { D with nx:=u D } I h) fun f s1 q=>?_);cases f with
 | next=>
  obtain ⟨σ',H',I',q⟩:=q;exact h2 zB s1 σ' H' D I' q
 | ret v=>exact q
 | brk=>exact q
 | cont=>exact q
theorem zMb (h1:PS X st t):PSs X [st] t:=by
 intro zB s σ H D I h;refine wpAny_execs_cons (thn (h1 zB s σ H D I h) fun f s1 q=>?_);cases f with
 | next=>exact wpAny_execs_nil q
 | ret v=>exact q
 | brk=>exact q
 | cont=>exact q
theorem Inv.quiet {zB:List (Addr × Obj)} {σ:St} {H:Hp} {s:Shared} (I:Inv X zB σ H s):interactive X.env = false:=by simp [interactive,I.ok.kind]
def zOg (te:TE):TS:=fun D σ H=>te σ H fun _ H1=>D.nx σ H1
theorem zLh (he:PE X e te) (hs:swapsWith e none pos.line X.env = pure false:=by rfl):PS X (.Expr e pos) (zOg te):=by
 intro zB s σ H D I h;exact wpAny_Expr_any (thn (he zB s σ H _ I h) fun v s1 ⟨x,H1,I1,r1,q1⟩=>⟨σ,H1,I1,q1⟩) I.quiet hs
def zPw (te:TE):TS:=fun D σ H=>te σ H D.rt
theorem zN0 (he:PE X e te):PS X (.Return (some e) pos) (zPw te):=by
 intro zB s σ H D I h;exact wpAny_Return_some (thn (he zB s σ H _ I h) fun v s1 ⟨x,H1,I1,r1,q1⟩=>⟨x,σ,H1,I1,r1,q1⟩)
def zPz (c:TT) (t u:TS):TS:=fun D σ H=>c σ H fun b H1=>if b = true then t D σ H1 else u D σ H1
theorem zOl {c:Expr} {a b:List Stmt} {tc:TT} (hc:PT X c tc) (ha:PSs X a t) (hb:PSs X b u):PS X (.If c a b pos) (zPz tc t u):=by
 intro zB s σ H D I h;refine wpAny_If (thn (hc zB s σ H _ I h) fun d s1 ⟨H1,I1,q1⟩=>?_);cases d with
 | true=>exact ha zB s1 σ H1 D I1 q1
 | false=>exact hb zB s1 σ H1 D I1 q1
end
abbrev TG:=V -> St -> Hp -> (St -> Hp -> Prop) -> Prop
abbrev TGs:=List V -> St -> Hp -> (St -> Hp -> Prop) -> Prop
def PG (X:Cx) (target:Expr) (t:TG):Prop :=
 ∀ (zB:List (Addr × Obj)) (s:Shared) (σ:St) (H:Hp) (v:V) (u:Value) (Q:St -> Hp -> Prop),Inv X zB σ H s -> ze v u -> t v σ H Q ->
  wpAny (model X.prog X.w) X.A (assign target X.env u) (fun _ s'=>∃ σ' H',Inv X zB σ' H' s' /\ Q σ' H') X.xe s
def PGs (X:Cx) (ts:List Expr) (t:TGs):Prop :=
 ∀ (zB:List (Addr × Obj)) (s:Shared) (σ:St) (H:Hp) (vs:List V) (us:List Value) (Q:St -> Hp -> Prop),Inv X zB σ H s -> zU vs us -> t vs σ H Q ->
  wpAny (model X.prog X.w) X.A (assignInOrder ((assignEach ts X.env).map (·.2)) us) (fun _ s'=>∃ σ' H',Inv X zB σ' H' s' /\ Q σ' H') X.xe s
abbrev zOR:=V -> V -> V -> Hp -> (Hp -> Prop) -> Prop
def zPr (X:Cx) (t:zOR):Prop :=
 ∀ (zB:List (Addr × Obj)) (s:Shared) (σ:St) (H:Hp) (o i v:V) (ov iv u:Value) (Q:Hp -> Prop),Inv X zB σ H s -> ze o ov -> ze i iv -> ze v u -> t o i v H Q ->
  wpAny (model X.prog X.w) X.A (setItem ov iv u) (fun _ s'=>∃ H',Inv X zB σ H' s' /\ Q H') X.xe s
section
variable {X:Cx} {pos:Pos}
def zCi (i:Nat):TG:=fun v σ H Q=>Q (σ.set i (some v)) H
theorem zIN {i:Nat} {x:Str} (hN:X.N.Nodup) (hi:X.N[i]? = some x) (hx:Loc X.env.scope x) (hf:X.fn x = true \/ X.env.scope.names.lookup x = some .local:=by first | exact .inl rfl | exact .inr rfl | assumption):PG X (.Name x pos) (zCi i):=by
 intro zB s σ H v u Q I r h;exact wpAny_assign_Name (zGF I hN hi hx r (fun s' I'=>⟨_,H,I',h⟩) hf)
def zPS:TGs:=fun vs σ H Q=>vs = [] /\ Q σ H
def zJr (t:TG) (u:TGs):TGs:=fun vs σ H Q=>∃ v r,vs = v :: r /\ t v σ H fun σ' H'=>u r σ' H' Q
theorem zIe:PGs X [] zPS:=by
 intro zB s σ H vs us Q I r h;obtain ⟨e,h⟩:=h;subst e;cases r;exact assignInOrder_nil ⟨σ,H,I,h⟩
theorem zEf {e:Expr} {es:List Expr} {t:TG} {u:TGs} (h1:PG X e t) (h2:PGs X es u)
  (hs:(assignEach (e :: es) X.env).map (·.2) = assign e X.env :: (assignEach es X.env).map (·.2):=by rfl):PGs X (e :: es) (zJr t u):=by
 intro zB s σ H vs us Q I r h;obtain ⟨v,vr,e1,h⟩:=h;subst e1;cases r with
 | cons r rr=>
  rw [hs];refine assignInOrder_cons (thn (h1 zB s σ H _ _ _ I r h) fun _ s1 ⟨σ1,H1,I1,q1⟩=>?_);exact h2 zB s1 σ1 H1 _ _ Q I1 rr q1
def zPe (K:PySem.W.Frag) (n:Nat) (t:TGs):TG:=fun v σ H Q=>∃ a xs,v = .ref a /\ SqT K H a xs /\ xs.length = n /\ t xs σ H Q
theorem zKW {es:List Expr} {k:Nat} {t:TGs} {n:Nat} (hc:X.calm = true) (h:PGs X es t)
  (hn:(assignEach es X.env).length = n:=by rfl) (hst:(assignEach es X.env).findIdx? (·.1) = none:=by rfl):PG X (.Tuple es k pos) (zPe X.K n t):=by
 intro zB s σ H v u Q I r hw;obtain ⟨a,xs,e1,hq,hl,hw⟩:=hw;subst e1;cases r;obtain ⟨its,rv,ht,hz⟩:=I.tuple hq;refine assign_Tuple_tuple (I.ok.hd hc) ht (by simp [hn,<- hl,rv.length]) hst fun h' hx=>?_;have I1:Inv X zB σ H { s with heap:=h' }:=I.kept (t':=s.toks) fun b o e=>hx b o (zQi (zQY e)) e;exact h zB _ σ H xs _ Q I1 (by simpa using rv) hw
def zP3 (to ti:TE) (t:zOR):TG:=fun v σ H Q=>to σ H fun o H1=>ti σ H1 fun i H2=>t o i v H2 fun H3=>Q σ H3
theorem zNt {o i:Expr} {to ti:TE} {t:zOR} (ho:PE X o to) (hi:PE X i ti) (hs:zPr X t)
  (ha:∀ v,assign (.Subscript o i pos) X.env v = (do
   let ov <- holding [v] (eval o X.env);let iv <- holding [v,ov] (eval i X.env);standAt pos;holding [v,ov,iv] (setItem ov iv v);release [v,ov,iv] []):=by intro _; rfl):PG X (.Subscript o i pos) (zP3 to ti t):=by
 intro zB s σ H v u Q I r h;rw [ha];refine zQN (zRG (thn (ho zB s σ H _ I h) fun ov s1 ⟨x,H1,I1,r1,q1⟩=>?_));refine zQN (zRG (thn (hi zB s1 σ H1 _ I1 q1) fun iv s2 ⟨y,H2,I2,r2,q2⟩=>?_));refine zQN (wpAny_standAt (zQN (zRG (thn (hs zB s2 σ H2 x y v ov iv u _ I2 r1 r2 r q2) fun _ s3 ⟨H3,I3,q3⟩=>?_))));exact wpAny_release ⟨σ,H3,I3,q3⟩
def zLr (te:TE) (g:TG):TS:=fun D σ H=>te σ H fun x H1=>g x σ H1 D.nx
theorem zLa {tg e:Expr} {te:TE} {g:TG} (he:PE X e te) (hg:PG X tg g) (hs:swapsWithSole [tg] e pos.line X.env = pure false:=by rfl) (hw:swappedStores [tg] e X.env = pure none:=by rfl)
  (h1:(assignEach [tg] X.env).map (·.2) = [assign tg X.env]:=by rfl):PS X (.Assign [tg] e pos) (zLr te g):=by
 intro zB s σ H D I h;refine wpAny_Assign_stores (thn (he zB s σ H _ I h) fun v s1 ⟨x,H1,I1,r1,q1⟩=>?_) hs hw;rw [h1];exact thn (hg zB s1 σ H1 x v _ I1 r1 q1) fun _ s2 q=>q
theorem zNU {i:Nat} {x:Str} {e:Expr} {te:TE} {pos':Pos} (hN:X.N.Nodup) (hi:X.N[i]? = some x) (hx:Loc X.env.scope x) (he:PE X e te) (hs:swapsWith e (some (.Name x pos')) pos.line X.env = pure false:=by rfl) (hf:X.fn x = true \/ X.env.scope.names.lookup x = some .local:=by first | exact .inl rfl | exact .inr rfl | assumption) :
  PS X (.Assign [.Name x pos'] e pos) (zLr te (zCi i)):=by
 intro zB s σ H D I h;refine wpAny_Assign_Name (thn (he zB s σ H _ I h) fun v s1 ⟨y,H1,I1,r1,q1⟩=>?_) hs;exact zGF I1 hN hi hx r1 (fun s2 I2=>⟨_,H1,I2,q1⟩) hf
def zLB (c:TT) (tb:TS):TS:=fun D σ H=>∃ W:Nat -> St -> Hp -> Prop,(∃ m,W m σ H) /\ ∀ m σ H,W m σ H ->
 c σ H fun b H1=>if b = true then ∃ N:St -> Hp -> Prop,(∀ σ' H',N σ' H' -> ∃ m',m' < m /\ W m' σ' H') /\ tb { D with nx:=N,ct:=N,bk:=D.nx } σ H1 else D.nx σ H1
theorem zLR {c:Expr} {body:List Stmt} {tc:TT} {tb:TS} (hp:PassesOwn (model X.prog X.w) X.A X.env X.xe) (hc:PT X c tc) (hb:PSs X body tb):PS X (.While c body [] pos) (zLB tc tb):=by
 intro zB s σ H D I h;obtain ⟨W,⟨m0,w0⟩,turn⟩:=h;refine wpAny_While (codeAny_whileLoop (fun n s'=>∃ σ' H',Inv X zB σ' H' s' /\ W n σ' H') ?_ m0 ⟨σ,H,I,w0⟩);rintro n s1 ⟨σ1,H1,I1,w1⟩;refine wpAny_passesOwn hp (thn (hc zB s1 σ1 H1 _ I1 (turn n σ1 H1 w1)) fun b s2 ⟨H2,I2,q2⟩=>?_);cases b with
 | true=>
  obtain ⟨N,hN,q2⟩:=q2;rw [zQc rfl];refine wpAny_passesOwn hp (thn (hb zB s2 σ1 H2 _ I2 q2) fun f s3 q3=>?_);cases f with
  | next=>
   obtain ⟨σ3,H3,I3,n3⟩:=q3;obtain ⟨m',hm,w3⟩:=hN σ3 H3 n3;exact ⟨m',hm,σ3,H3,I3,w3⟩
  | cont=>
   obtain ⟨σ3,H3,I3,n3⟩:=q3;obtain ⟨m',hm,w3⟩:=hN σ3 H3 n3;exact ⟨m',hm,σ3,H3,I3,w3⟩
  | brk=>exact q3
  | ret v=>exact q3
 | false=>
  rw [zQf zQj];exact wpAny_execs_nil ⟨σ1,H2,I2,q2⟩
end
structure It where
 go:Nat -> Hp -> Prop
 yld:Nat -> Hp -> V -> Hp -> Prop
 stop:Nat -> Hp -> Prop
def zBq (X:Cx) (zB:List (Addr × Obj)) (H:Hp) (b:Addr):Prop :=
 H b = none /\ b ≠ X.env.locals /\ b ∉ X.fs /\ (b ∈ X.ex \/ X.s₀.heap.objs.size <= b) /\ (∀ x c,X.env.cells.lookup x = some c -> c ≠ b) /\ ∀ p ∈ X.pn ++ zB,p.1 ≠ b
theorem Inv.fpOk {X:Cx} {zB:List (Addr × Obj)} {σ:St} {H H':Hp} {s:Shared} {b:Addr} (I:Inv X zB σ H s) (hb:s.heap.objs.size <= b) (hn:H' b = none):zBq X zB H' b:=by
 refine ⟨hn,zRs (zQm I.lt hb),I.nofs hb,.inr (zQo I.sz hb),fun x c e z=>?_,fun p hp z=>?_⟩
 ·obtain ⟨v,q⟩:=I.cell x c e;exact absurd (zQm q.lt (by rw [z]; exact hb)) (zQ5 _)
 ·exact absurd (zQm (zQY (I.pin p hp).1) (by rw [z]; exact hb)) (zQ5 _)
structure Turn (P:Program) (w:World) (K:PySem.W.Frag) (tg:Expr) (J:It) (fp:List Addr) (it:Addr) (tn:Nat -> Heap -> Prop):Prop where
 mem:it ∈ fp
 obj:∀ i h,tn i h -> ∀ b ∈ fp,∃ o,h.get? b = some o /\ ∀ v,o.data ≠ .cell v
 keep:∀ i h h',tn i h -> (∀ b ∈ fp,∀ o,h.get? b = some o -> h'.get? b = some o) -> tn i h'
 item:∀ (X:Cx),X.prog = P -> X.w = w -> X.K = K -> X.calm = true -> ∀ (i:Nat) (zB:List (Addr × Obj)) (s:Shared) (σ:St) (H:Hp) (E:Value -> Shared -> Prop),Inv X zB σ H s -> (∀ b ∈ fp,zBq X zB H b) -> tn i s.heap -> J.go i H ->
  wpAny (model P w) X.A (pyNext (.ref it)) (fun r s1=>∃ u,r = some u /\
   wpAny (model P w) X.A (letOwnedTupleGo tg (.ref it) u) (fun _ s2=>∃ x H',Inv X zB σ H' s2 /\ ze x u /\ J.yld i H x H' /\ tn (i + 1) s2.heap /\ ∀ b ∈ fp,H' b = none) E s1) E s
 done:∀ (X:Cx),X.prog = P -> X.w = w -> X.K = K -> X.calm = true -> ∀ (i:Nat) (zB:List (Addr × Obj)) (s:Shared) (σ:St) (H:Hp) (E:Value -> Shared -> Prop),Inv X zB σ H s -> (∀ b ∈ fp,zBq X zB H b) -> tn i s.heap -> J.stop i H ->
  wpAny (model P w) X.A (pyNext (.ref it)) (fun r s1=>r = none /\ Inv X zB σ H s1) E s
 self:∀ (A:Around) (i:Nat) (s:Shared) (Q:Value -> Shared -> Prop) (E:Value -> Shared -> Prop),tn i s.heap -> Q (.ref it) s -> wpAny (model P w) A (pyIter (.ref it)) Q E s
abbrev TI:=St -> Hp -> (It -> Hp -> Prop) -> Prop
def PIE (X:Cx) (zB:List (Addr × Obj)) (σ:St) (tg:Expr) (R:It -> Hp -> Prop) (itv:Value) (s2:Shared):Prop :=
 ∃ (it:Addr) (fp:List Addr) (tn:Nat -> Heap -> Prop) (J:It) (H':Hp),itv = .ref it /\ Inv X zB σ H' s2 /\ Turn X.prog X.w X.K tg J fp it tn /\ tn 0 s2.heap /\ (∀ b ∈ fp,zBq X zB H' b) /\ R J H'
def PI (X:Cx) (tg iter:Expr) (wi:TI):Prop :=
  ∀ (zB:List (Addr × Obj)) (s:Shared) (σ:St) (H:Hp) (R:It -> Hp -> Prop),Inv X zB σ H s -> wi σ H R ->
    wpAny (model X.prog X.w) X.A (eval iter X.env) (fun v s1=>wpAny (model X.prog X.w) X.A (pyIter v) (PIE X zB σ tg R) X.xe s1) X.xe s
theorem zKZ {M:Model} {A:Around} {E:Value -> Shared -> Prop} {s:Shared} {tg:Expr} {it:Addr} {u:Value} {o:Obj} {n:String} {vs:Array Value} {Q:Unit -> Shared -> Prop} (ho:s.heap.get? it = some o) (hc:o.cls = .type n) (hd:o.data = .fields vs)
    (hn:["enumerate", "zip", "dict_itemiterator", "dict_reverseitemiterator", "odict_iterator", "itertools.zip_longest", "itertools.pairwise"].contains n = false) (hQ:Q () s):wpAny M A (letOwnedTupleGo tg (.ref it) u) Q E s:=by
  unfold letOwnedTupleGo
  cases tg <;> first
    | exact zQP hQ
    | (cases u <;> first
        | exact zQP hQ
        | (refine zQN (wpAny_load ho ?_)
           rw [hc,hd];show wpAny M A (if (["enumerate", "zip", "dict_itemiterator", "dict_reverseitemiterator", "odict_iterator", "itertools.zip_longest", "itertools.pairwise"].contains n && vs[0]? == some (rawInt _)) = true then _ else _) Q E s;rw [zQf (by intro h; rw [hn,Bool.false_and] at h; cases h)];exact zQP hQ))
def Itl (K:PySem.W.Frag) (a:Addr):It :=
 ⟨fun i H=>∃ xs x,SqL K H a xs /\ xs[i]? = some x,fun i H x H'=>H' = H /\ ∀ xs,SqL K H a xs -> xs[i]? = some x,fun i H=>∃ xs,SqL K H a xs /\ xs.length <= i⟩
def Itt (K:PySem.W.Frag) (a:Addr):It :=
 ⟨fun i H=>∃ xs x,SqT K H a xs /\ xs[i]? = some x,fun i H x H'=>H' = H /\ ∀ xs,SqT K H a xs -> xs[i]? = some x,fun i H=>∃ xs,SqT K H a xs /\ xs.length <= i⟩
def Itr (lo:Int) (n:Nat):It:=⟨fun i _=>i < n,fun i H x H'=>H' = H /\ x = .int (lo + i),fun i _=>n <= i⟩
theorem zJA {P:Program} {w:World} {K:PySem.W.Frag} {tg:Expr} (a it:Addr):Turn P w K tg (Itl K a) [it] it (fun i h=>h.IsListIter it a i) where
 mem:=by simp
 obj:=fun i h st b hb=>by
  have e:b = it:=by simpa using hb
  subst e;obtain ⟨o,e,c,d⟩:=st;exact ⟨o,e,fun v z=>by rw [d] at z; cases z⟩
 keep:=fun i h h' st k=>st.at fun o e=>k it (by simp) o e;item:=by
  intro X hP hw hK hc i zB s σ H E I hf st hg;subst hP hw hK;obtain ⟨xs,x,hq,hx⟩:=hg;obtain ⟨its,rv,p,hz⟩:=I.list hq;obtain ⟨u,hu,ru⟩:=rv.get hx;obtain ⟨f0,f1,f2,f3,f4,f5⟩:=hf it (by simp);refine wpAny_pyNext_list_item st p.isList (x:=u) (by simpa using hu) fun h' st' sb=>?_;have I1:Inv X zB σ H { s with heap:=h' }:=I.turned (t':=s.toks) (fun b o hb e=>(sb.2 b hb).trans e) f0 f1 f3 f4 f5;obtain ⟨o,e,c,d⟩:=id st';exact ⟨u,rfl,zKZ (s:={ s with heap:=h' }) e c d (by decide) ⟨x,H,I1,ru,⟨rfl,fun ys hy=>by rw [I.list_inj hy hq]; exact hx⟩,st',fun b hb=>(hf b hb).1⟩⟩
 done:=by
  intro X hP hw hK hc i zB s σ H E I hf st hg;subst hP hw hK;obtain ⟨xs,hq,hx⟩:=hg;obtain ⟨its,rv,p,hz⟩:=I.list hq;obtain ⟨f0,f1,f2,f3,f4,f5⟩:=hf it (by simp);have hl:=rv.length;exact wpAny_pyNext_list_end (I.ok.hd hc) st p.isList (by simp; omega) fun h' eb=>⟨rfl,I.turned (t':=s.toks) (fun b o hb e=>eb b o hb e) f0 f1 f3 f4 f5⟩
 self:=fun _ _ _ _ _ st h=>wpAny_pyIter_listiter st h
theorem zHW {P:Program} {w:World} {K:PySem.W.Frag} {tg:Expr} (a it:Addr):Turn P w K tg (Itt K a) [it] it (fun i h=>h.IsTupleIter it a i) where
 mem:=by simp
 obj:=fun i h st b hb=>by
  have e:b = it:=by simpa using hb
  subst e;obtain ⟨o,e,c,d⟩:=st;exact ⟨o,e,fun v z=>by rw [d] at z; cases z⟩
 keep:=fun i h h' st k=>st.at fun o e=>k it (by simp) o e;item:=by
  intro X hP hw hK hc i zB s σ H E I hf st hg;subst hP hw hK;obtain ⟨xs,x,hq,hx⟩:=hg;obtain ⟨its,rv,p,hz⟩:=I.tuple hq;obtain ⟨u,hu,ru⟩:=rv.get hx;obtain ⟨f0,f1,f2,f3,f4,f5⟩:=hf it (by simp);refine wpAny_pyNext_tuple_item st (show s.heap.IsTuple a its.toArray from p) (x:=u) (by simpa using hu) fun h' st' sb=>?_;have I1:Inv X zB σ H { s with heap:=h' }:=I.turned (t':=s.toks) (fun b o hb e=>(sb.2 b hb).trans e) f0 f1 f3 f4 f5;obtain ⟨o,e,c,d⟩:=id st';exact ⟨u,rfl,zKZ (s:={ s with heap:=h' }) e c d (by decide) ⟨x,H,I1,ru,⟨rfl,fun ys hy=>by rw [I.tuple_inj hy hq]; exact hx⟩,st',fun b hb=>(hf b hb).1⟩⟩
 done:=by
  intro X hP hw hK hc i zB s σ H E I hf st hg;subst hP hw hK;obtain ⟨xs,hq,hx⟩:=hg;obtain ⟨its,rv,p,hz⟩:=I.tuple hq;obtain ⟨f0,f1,f2,f3,f4,f5⟩:=hf it (by simp);have hl:=rv.length;exact wpAny_pyNext_tuple_end (I.ok.hd hc) st (show s.heap.IsTuple a its.toArray from p) (by simp; omega) fun h' eb=>⟨rfl,I.turned (t':=s.toks) (fun b o hb e=>eb b o hb e) f0 f1 f3 f4 f5⟩
 self:=fun _ _ _ _ _ st h=>wpAny_pyIter_tupleiter st h
theorem zHo {P:Program} {w:World} {K:PySem.W.Frag} {tg:Expr} (it:Addr) (lo:Int) (n:Nat):Turn P w K tg (Itr lo n) [it] it (fun i h=>IsRangeIter h it (lo + (i:Nat) * 1) ((n:Int) - (i:Nat)) 1) where
 mem:=by simp
 obj:=fun i h st b hb=>by
  have e:b = it:=by simpa using hb
  subst e;exact ⟨_,st,fun v z=>by
   have z':Data.fields _ = Data.cell v:=z;cases z'⟩
 keep:=fun i h h' st k=>k it (by simp) _ st;item:=by
  intro X hP hw hK hc i zB s σ H E I hf st hg;subst hP hw hK;obtain ⟨f0,f1,f2,f3,f4,f5⟩:=hf it (by simp);have W:=Walks.range (prog:=X.prog) (w:=X.w) (I.ok.hd hc) it lo 1 n;refine W.item i s _ _ hg st fun v h' tk hv st' kk=>?_;obtain ⟨t,rfl⟩:=hv;have I1:Inv X zB σ H { s with heap:=h',toks:=tk }:=I.turned (fun b o hb e=>kk b o (by simpa using hb) e) f0 f1 f3 f4 f5;refine ⟨_,rfl,zKZ (s:={ s with heap:=h',toks:=tk }) (n := "range_iterator") st' rfl rfl (by decide) ⟨.int (lo + i),H,I1,⟨t,?_⟩,⟨rfl,rfl⟩,st',fun b hb=>(hf b hb).1⟩⟩;rw [Int.mul_one]
 done:=by
  intro X hP hw hK hc i zB s σ H E I hf st hg;subst hP hw hK;obtain ⟨f0,f1,f2,f3,f4,f5⟩:=hf it (by simp);exact wpAny_pyNext_range_end (I.ok.hd hc) st (by have:n <= i:=hg; omega) fun h' eb=>⟨rfl,I.turned (t':=s.toks) (fun b o hb e=>eb b o hb e) f0 f1 f3 f4 f5⟩
 self:=fun _ _ _ _ _ st h=>wpAny_pyIter_rangeiter st h
section
variable {X:Cx} {tg:Expr}
theorem zJ8 {zB:List (Addr × Obj)} {σ:St} {H:Hp} {s:Shared} {R:It -> Hp -> Prop} {E:Value -> Shared -> Prop} {lo hi:Int} {t u v:Tok} {tk:Nat} (I:Inv X zB σ H s) (h1 : -(2 ^ 62) <= lo) (h2:lo < 2 ^ 62) (h3 : -(2 ^ 62) <= hi) (h4:hi < 2 ^ 62)
  (q:R (Itr lo (hi - lo).toNat) H):wpAny (model X.prog X.w) X.A (pyIter (.ref s.heap.objs.size)) (PIE X zB σ tg R) E { s with heap:=s.heap.push { cls:=.type "range", data:=.fields #[.int lo t,.int hi u,.int 1 v] },toks:=tk }:=by
 refine wpAny_pyIter_range (IsRange.new ..) (small_one h1 h2 h3 h4) ?_;have I1:Inv X zB σ H { s with heap:=s.heap.push { cls:=.type "range", data:=.fields #[.int lo t,.int hi u,.int 1 v] },toks:=tk }:=I.kept fun b o e=>zQO _ e
 refine ⟨(s.heap.push { cls:=.type "range", data:=.fields #[.int lo t,.int hi u,.int 1 v] }).objs.size,[(s.heap.push { cls:=.type "range", data:=.fields #[.int lo t,.int hi u,.int 1 v] }).objs.size],_,_,H,rfl,
  I1.kept (t':=tk) fun b o e=>zQO _ e,zHo _ lo (hi - lo).toNat,?_,fun b hb=>?_,q⟩
 ·have e1:lo + ((0:Nat):Int) * 1 = lo:=by simp
  have e2:(((hi - lo).toNat:Nat):Int) - ((0:Nat):Int) = Builtin.Range.rangeSize lo hi 1:=by rw [rangeSize_one]; split <;> omega
  show IsRangeIter _ _ (lo + ((0:Nat):Int) * 1) ((((hi - lo).toNat:Nat):Int) - ((0:Nat):Int)) 1;rw [e1,e2];exact zQX _ rfl
 ·have e:b = (s.heap.push { cls:=.type "range", data:=.fields #[.int lo t,.int hi u,.int 1 v] }).objs.size:=by simpa using hb
  subst e;exact I1.fpOk (zQT _) (I1.hok.fresh (zQT _))
def zOo (ta:TA):TI:=fun σ H R=>ta σ H fun vs H1=>∃ j:Int,vs = [.int j] /\ -(2 ^ 62) <= j /\ j < 2 ^ 62 /\ R (Itr 0 j.toNat) H1
theorem zJH {a:Expr} {ta:TA} {p pos:Pos} (hg:Gl X "range") (hm:X.mg "range" = none) (ha:PA X [a] ta) (hs:starEach [a] X.env = [(false,eval a X.env)]:=by rfl):PI X tg (.Call (.Name "range" p) [a] [] pos) (zOo ta):=by
 intro zB s σ H R I h;refine Call_ (zCA I hg hm boot_range (PyProof.Rows.callWith_type1 (thn (ha pos zB s σ H _ I h) fun us s1 ⟨vs,H1,I1,r1,q1⟩=>?_) hs rfl));obtain ⟨j,e,q1,q2,q⟩:=q1;subst e;cases r1 with
 | cons r rr=>
  cases rr;obtain ⟨t,rfl⟩:=r;exact call_range_1 (zJ8 I1 (by omega) (by omega) q1 q2 (by simpa using q))
def zPl (wi:TI) (g:TG) (tb:TS):TS:=fun D σ H=>wi σ H fun J H1=>∃ W:Nat -> Nat -> St -> Hp -> Prop,(∃ m,W 0 m σ H1) /\ ∀ i m σ H,W i m σ H ->
 (J.stop i H /\ D.nx σ H) \/ (J.go i H /\ ∃ N:St -> Hp -> Prop,(∀ σ' H',N σ' H' -> ∃ m',m' < m /\ W (i + 1) m' σ' H') /\ ∀ x H',J.yld i H x H' -> g x σ H' fun σ2 H2=>tb { D with nx:=N,ct:=N,bk:=D.nx } σ2 H2)
def zEO (fp:List Addr) (h:Heap):List (Addr × Obj):=fp.filterMap fun b=>(h.get? b).map fun o=>(b,o)
theorem zB5 {fp:List Addr} {h:Heap} {b:Addr} {o:Obj} (hb:b ∈ fp) (e:h.get? b = some o):(b,o) ∈ zEO fp h:=List.mem_filterMap.mpr ⟨b,hb,by rw [e]; rfl⟩
theorem zJT {fp:List Addr} {h:Heap} {p:Addr × Obj} (hp:p ∈ zEO fp h):p.1 ∈ fp /\ h.get? p.1 = some p.2:=by
 obtain ⟨b,hb,e⟩:=List.mem_filterMap.mp hp;cases q:h.get? b with
 | none=>rw [q] at e; cases e
 | some o=>
  rw [q] at e;have e':(b,o) = p:=zRN e;subst e';exact ⟨hb,q⟩
theorem Inv.pinned {zB:List (Addr × Obj)} {σ:St} {H:Hp} {s:Shared} {fp:List Addr} (I:Inv X zB σ H s) (hf:∀ b ∈ fp,zBq X zB H b) (ho:∀ b ∈ fp,∃ o,s.heap.get? b = some o /\ ∀ v,o.data ≠ .cell v):Inv X (zB ++ zEO fp s.heap) σ H s :=
 I.pins_of fun p hp=>(zQn.mp hp).elim (fun z=>I.pin p (zQh _ z)) fun z=>by
  obtain ⟨hb,e⟩:=zJT z;obtain ⟨f0,f1,f2,_⟩:=hf p.1 hb;obtain ⟨o,e',d⟩:=ho p.1 hb;rw [e] at e'; cases e';exact ⟨e,f0,f1,f2,d⟩
theorem Inv.unpinned {zB pl:List (Addr × Obj)} {σ:St} {H:Hp} {s:Shared} (I:Inv X (zB ++ pl) σ H s):Inv X zB σ H s:=I.pins_of fun p hp=>I.pin p (zQh _ (zRc _ hp))
theorem zN4 {iter:Expr} {body:List Stmt} {wi:TI} {g:TG} {tb:TS} {pos:Pos} (hp:PassesOwn (model X.prog X.w) X.A X.env X.xe) (hc:X.calm = true) (hi:PI X tg iter wi) (hg:PG X tg g) (hb:PSs X body tb)
  (hs:∀ x,foldedSetIterable iter X.env x = pure x:=by intro _; rfl):PS X (.For tg iter body [] pos) (zPl wi g tb):=by
 intro zB s σ H D I h;refine wpAny_For (thn (hi zB s σ H _ I h) fun v s1 h1=>thn h1 fun itv s2 h2=>?_) hs;obtain ⟨it,fp,tn,J,H2,e,I2,T,st2,f2,W,⟨m0,w0⟩,turn⟩:=h2;subst e;have stat:∀ {H':Hp},(∀ b ∈ fp,H' b = none) -> ∀ b ∈ fp,zBq X zB H' b:=fun hn b hb=>⟨hn b hb,(f2 b hb).2⟩;refine codeAny_forLoop_any (fun n s'=>∃ i σ' H',Inv X zB σ' H' s' /\ tn i s'.heap /\ (∀ b ∈ fp,H' b = none) /\ W i n σ' H') ?_ m0 ⟨0,σ,H2,I2,st2,fun b hb=>(f2 b hb).1,w0⟩;rintro n s3 ⟨i,σ3,H3,I3,st3,fr3,w3⟩;rcases turn i n σ3 H3 w3 with ⟨stop,qn⟩ | ⟨go,N,hN,step⟩
 ·refine wpAny_passesOwn hp (thn (T.done X rfl rfl rfl hc i zB s3 σ3 H3 X.xe I3 (stat fr3) st3 stop) fun r s4 ⟨hr,I4⟩=>?_);subst hr;exact wpAny_execs_nil ⟨σ3,H3,I4,qn⟩
 ·refine wpAny_passesOwn hp (thn (T.item X rfl rfl rfl hc i zB s3 σ3 H3 X.xe I3 (stat fr3) st3 go) fun r s4 ⟨u,hr,h4⟩=>?_);subst hr;refine wpAny_passesOwn hp (thn h4 fun _ s5 ⟨x,H5,I5,r5,y5,st5,fr5⟩=>?_);have I5':=I5.pinned (stat fr5) (T.obj _ _ st5);refine wpAny_passesOwn hp (thn (hg _ s5 σ3 H5 x u _ I5' r5 (step x H5 y5)) fun _ s6 ⟨σ6,H6,I6,q6⟩=>?_);refine wpAny_passesOwn hp (thn (hb _ s6 σ6 H6 _ I6 q6) fun f s7 q7=>?_);have again:∀ {σ7:St} {H7:Hp},Inv X (zB ++ zEO fp s5.heap) σ7 H7 s7 -> N σ7 H7 -> ∃ m,m < n /\ ∃ i σ' H',Inv X zB σ' H' s7 /\ tn i s7.heap /\ (∀ b ∈ fp,H' b = none) /\ W i m σ' H':=fun {σ7 H7} I7 n7=>by
   obtain ⟨m',hm,w7⟩:=hN σ7 H7 n7;refine ⟨m',hm,i + 1,σ7,H7,I7.unpinned,T.keep _ _ _ st5 fun b hb o e=>(I7.pin (b,o) (zQh _ (zQh _ (zB5 hb e)))).1,fun b hb=>?_,w7⟩;obtain ⟨o,e,d⟩:=T.obj _ _ st5 b hb;exact (I7.pin (b,o) (zQh _ (zQh _ (zB5 hb e)))).2.1
  cases f with
  | next=>obtain ⟨σ7,H7,I7,n7⟩:=q7; exact again I7 n7
  | cont=>obtain ⟨σ7,H7,I7,n7⟩:=q7; exact again I7 n7
  | brk=>obtain ⟨σ7,H7,I7,q7⟩:=q7; exact ⟨σ7,H7,I7.unpinned,q7⟩
  | ret v=>obtain ⟨x7,σ7,H7,I7,r7,q7⟩:=q7; exact ⟨x7,σ7,H7,I7.unpinned,r7,q7⟩
end
abbrev R2:=V -> V -> Hp -> VK -> Prop
def OpR (X:Cx) (f:Value -> Value -> Sem Value) (r:R2):Prop :=
 ∀ (zB:List (Addr × Obj)) (s:Shared) (σ:St) (H:Hp) (x y:V) (v u:Value) (Q:VK),Inv X zB σ H s -> ze x v -> ze y u -> r x y H Q ->
  wpAny (model X.prog X.w) X.A (f v u) (EP X zB σ Q) X.xe s
def UnR (X:Cx) (f:Value -> Sem Value) (r:V -> Hp -> VK -> Prop):Prop :=
 ∀ (zB:List (Addr × Obj)) (s:Shared) (σ:St) (H:Hp) (x:V) (v:Value) (Q:VK),Inv X zB σ H s -> ze x v -> r x H Q ->
  wpAny (model X.prog X.w) X.A (f v) (EP X zB σ Q) X.xe s
def zBC (X:Cx) (f:Value) (r:List V -> Hp -> VK -> Prop):Prop :=
 ∀ (zB:List (Addr × Obj)) (s:Shared) (σ:St) (H:Hp) (xs:List V) (us:List Value) (Q:VK),Inv X zB σ H s -> zU xs us -> r xs H Q ->
  wpAny (model X.prog X.w) X.A (call f us) (EP X zB σ Q) X.xe s
def tOp (r:R2) (ta tb:TE):TE:=fun σ H Q=>ta σ H fun x H1=>tb σ H1 fun y H2=>r x y H2 Q
def tUn (r:V -> Hp -> VK -> Prop) (ta:TE):TE:=fun σ H Q=>ta σ H fun x H1=>r x H1 Q
def rI (C:Int -> Int -> Prop) (g:Int -> Int -> V):R2:=fun x y H Q=>∃ i j,x = .int i /\ y = .int j /\ C i j /\ Q (g i j) H
def rI0 (g:Int -> Int -> V):R2:=fun x y H Q=>∃ i j,x = .int i /\ y = .int j /\ Q (g i j) H
def rU (g:Int -> V):V -> Hp -> VK -> Prop:=fun x H Q=>∃ i,x = .int i /\ Q (g i) H
section
variable {X:Cx} {a b c:Expr} {ta tb tc:TE} {pos:Pos}
theorem zNL (ha:PE X a ta) (hb:PE X b tb) {zB:List (Addr × Obj)} {s:Shared} {σ:St} {H:Hp} {R:V -> V -> Hp -> Prop} (I:Inv X zB σ H s)
  (h:ta σ H fun x H1=>tb σ H1 fun y H2=>R x y H2) {Q:Value -> Shared -> Prop} {f:Value -> Value -> Sem Value}
  (hf:∀ v u s2 x y H2,Inv X zB σ H2 s2 -> ze x v -> ze y u -> R x y H2 -> wpAny (model X.prog X.w) X.A (f v u) Q X.xe s2) :
  wpAny (model X.prog X.w) X.A (eval a X.env) (fun v s₁=>wpAny (model X.prog X.w) X.A (eval b X.env) (fun u s₂=>wpAny (model X.prog X.w) X.A (f v u) Q X.xe s₂) X.xe s₁) X.xe s:=by
 refine thn (ha zB s σ H _ I h) fun v s1 ⟨x,H1,I1,r1,q1⟩=>?_;refine thn (hb zB s1 σ H1 _ I1 q1) fun u s2 ⟨y,H2,I2,r2,q2⟩=>?_;exact hf v u s2 x y H2 I2 r1 r2 q2
theorem zPq {op:Operator} {r:R2} (ho:OpR X (binaryOp op) r) (ha:PE X a ta) (hb:PE X b tb):PE X (.BinOp a op b pos) (tOp r ta tb):=by
 intro zB s σ H Q I h;exact wpAny_BinOp (zNL ha hb I h fun v u s2 x y H2 I2 rx ry q=>ho zB s2 σ H2 x y v u Q I2 rx ry q)
theorem zPK {op:UnaryOp} {r:V -> Hp -> VK -> Prop} (ho:UnR X (unaryOp op) r) (ha:PE X a ta):PE X (.UnaryOp op a pos) (tUn r ta):=by
 intro zB s σ H Q I h;exact UnaryOp_ (thn (ha zB s σ H _ I h) fun v s1 ⟨x,H1,I1,r1,q1⟩=>ho zB s1 σ H1 x v Q I1 r1 q1)
theorem opI {f:Value -> Value -> Sem Value} {C:Int -> Int -> Prop} {g:Int -> Int -> Int}
  (rule:∀ (i j:Int) (t u:Tok) (s:Shared) (Q:Value -> Shared -> Prop) (E:Value -> Shared -> Prop),C i j -> Q (.int (g i j) s.toks) { s with toks:=s.toks + 1 } -> wpAny (model X.prog X.w) X.A (f (.int i t) (.int j u)) Q E s) :
  OpR X f (rI C fun i j=> .int (g i j)):=by
 intro zB s σ H x y v u Q I rx ry h;obtain ⟨i,j,rfl,rfl,hc,q⟩:=h;obtain ⟨t,rfl⟩:=rx;obtain ⟨t',rfl⟩:=ry;exact rule i j t t' s _ _ hc ⟨.int (g i j),H,I.tok _,⟨_,rfl⟩,q⟩
theorem zOc {f:Value -> Value -> Sem Value} {g:Int -> Int -> Int}
  (rule:∀ (i j:Int) (t u:Tok) (s:Shared) (Q:Value -> Shared -> Prop) (E:Value -> Shared -> Prop),Q (.int (g i j) s.toks) { s with toks:=s.toks + 1 } -> wpAny (model X.prog X.w) X.A (f (.int i t) (.int j u)) Q E s) :
  OpR X f (rI0 fun i j=> .int (g i j)):=by
 intro zB s σ H x y v u Q I rx ry h;obtain ⟨i,j,rfl,rfl,q⟩:=h;obtain ⟨t,rfl⟩:=rx;obtain ⟨t',rfl⟩:=ry;exact rule i j t t' s _ _ ⟨.int (g i j),H,I.tok _,⟨_,rfl⟩,q⟩
theorem zN8 {f:Value -> Value -> Sem Value} {g:Int -> Int -> Bool}
  (rule:∀ (i j:Int) (t u:Tok) (s:Shared) (Q:Value -> Shared -> Prop) (E:Value -> Shared -> Prop),Q (.bool (g i j)) s -> wpAny (model X.prog X.w) X.A (f (.int i t) (.int j u)) Q E s) :
  OpR X f (rI0 fun i j=> .bl (g i j)):=by
 intro zB s σ H x y v u Q I rx ry h;obtain ⟨i,j,rfl,rfl,q⟩:=h;obtain ⟨t,rfl⟩:=rx;obtain ⟨t',rfl⟩:=ry;exact rule i j t t' s _ _ ⟨.bl (g i j),H,I,rfl,q⟩
def zQC (i j:Int):Prop:=0 < j /\ j < 1073741824
def zQL (i j:Int):Prop:=0 <= j /\ j <= 1000000 /\ i.natAbs < 2 ^ 64
def zNk (i j:Int):Prop:=(-(2 ^ 64) < i /\ i < 2 ^ 64) \/ (-(2 ^ 64) < j /\ j < 2 ^ 64)
theorem zNk.ok {i j:Int} (h:zNk i j):IntMulOk i j:=by
 rcases h with ⟨h1,h2⟩ | ⟨h1,h2⟩
 ·exact .of_left (intBits_le_64 h1 h2)
 ·exact .of_right (intBits_le_64 h1 h2)
theorem zNw:OpR X (binaryOp .Add) (rI0 fun i j=> .int (i + j)):=zOc fun _ _ _ _ _ _ _ q=>add_int q
theorem zNl:OpR X (binaryOp .Sub) (rI0 fun i j=> .int (i - j)):=zOc fun _ _ _ _ _ _ _ q=>sub_int q
theorem zM9:OpR X (binaryOp .Mult) (rI zNk fun i j=> .int (i * j)):=opI fun _ _ _ _ _ _ _ hc q=>mul_int q hc.ok
theorem zL8:OpR X (binaryOp .FloorDiv) (rI zQC fun i j=> .int (i / j)):=opI fun i j _ _ _ _ _ hc q=>by
 have h1:(0:Int) < j:=hc.1;have h2:j < 1073741824:=hc.2;exact floordiv_int (by omega) (by rw [Int.fdiv_eq_ediv_of_nonneg i (by omega)]; exact q) (.inl (PyProof.noPylong_small (by omega)))
theorem zNC:OpR X (binaryOp .Mod) (rI (fun _ j=>0 < j) fun i j=> .int (i % j)):=opI fun i j _ _ _ _ _ hc q=>by
 have h1:(0:Int) < j:=hc;exact mod_int' (by omega) (by rw [Int.fmod_eq_emod_of_nonneg i (by omega)]; exact q)
theorem zOI:OpR X (binaryOp .Pow) (rI zQL fun i j=> .int (i ^ j.toNat)):=opI fun _ _ _ _ _ _ _ hc q=>pow_int_small hc.1 hc.2.1 hc.2.2 q
theorem unI {f:Value -> Sem Value} {g:Int -> Int}
  (rule:∀ (i:Int) (t:Tok) (s:Shared) (Q:Value -> Shared -> Prop) (E:Value -> Shared -> Prop),Q (.int (g i) s.toks) { s with toks:=s.toks + 1 } -> wpAny (model X.prog X.w) X.A (f (.int i t)) Q E s) :
  UnR X f (rU fun i=> .int (g i)):=by
 intro zB s σ H x v Q I rx h;obtain ⟨i,rfl,q⟩:=h;obtain ⟨t,rfl⟩:=rx;exact rule i t s _ _ ⟨.int (g i),H,I.tok _,⟨_,rfl⟩,q⟩
theorem zNj:UnR X (unaryOp .USub) (rU fun i=> .int (-i)):=unI fun _ _ _ _ _ q=>neg_int q
end
def zMU:V -> V -> Bool
 | .non,.non=>true | .non,.int _=>true | .int _,.non=>true | .non,.bl _=>true | .bl _,.non=>true | .non,.str _=>true | .str _,.non=>true
 | .int _,.int _=>true | .bl _,.bl _=>true | .str _,.str _=>true | .byt _,.byt _=>true
 | .int _,.str _=>true | .str _,.int _=>true | .bl _,.str _=>true | .str _,.bl _=>true
 | _,_=>false
def rEq:R2:=fun x y H Q=>zMU x y = true /\ Q (.bl (decide (x = y))) H
def rNe:R2:=fun x y H Q=>zMU x y = true /\ Q (.bl (!decide (x = y))) H
theorem zH8 {i j:Int}:decide (V.int i = V.int j) = (i == j):=by
 rw [Bool.eq_iff_iff];simp
theorem zKU {i j:Bool}:decide (V.bl i = V.bl j) = (i == j):=by
 rw [Bool.eq_iff_iff];simp
theorem zIJ {i j:Str}:decide (V.str i = V.str j) = (i == j):=by
 rw [Bool.eq_iff_iff];simp
theorem zIY {i j:Array UInt8}:decide (V.byt i = V.byt j) = (i.toList == j.toList):=by
 rw [Bool.eq_iff_iff];cases i;cases j;simp
section
variable {X:Cx} {a b c:Expr} {ta tb tc:TE} {pos:Pos}
theorem zi {zB:List (Addr × Obj)} {σ:St} {H:Hp} {s:Shared} {Q:VK} {k k':Bool} (I:Inv X zB σ H s) (q:Q (.bl k) H) (e:k = k'):EP X zB σ Q (.bool k') s:=by
 subst e;exact ⟨.bl k,H,I,rfl,q⟩
theorem zMw:OpR X (compareOp .Eq) rEq:=by
 intro zB s σ H x y v u Q I rx ry h;obtain ⟨hs,q⟩:=h;cases x with
 | non=>
  cases rx;cases y with
  | non=>cases ry; exact PySem.EqNone.eq_none_none (zi I q (by simp))
  | bl j=>cases ry; exact PySem.EqNone.eq_none_bool (zi I q (by simp))
  | int j=>obtain ⟨t',rfl⟩:=ry; exact PySem.EqNone.eq_none_int (zi I q (by simp))
  | str j=>obtain ⟨t',rfl⟩:=ry; exact PySem.EqNone.eq_none_str (zi I q (by simp))
  | _=>exact absurd (show false = true from hs) zQj
 | bl i=>
  cases rx;cases y with
  | non=>cases ry; exact PySem.EqNone.eq_bool_none (zi I q (by simp))
  | bl j=>cases ry; exact eq_bool (zi I q zKU)
  | str j=>obtain ⟨t',rfl⟩:=ry; exact PySem.EqMixed.eq_bool_str (zi I q (by simp))
  | _=>exact absurd (show false = true from hs) zQj
 | int i=>
  obtain ⟨t,rfl⟩:=rx;cases y with
  | non=>cases ry; exact PySem.EqNone.eq_int_none (zi I q (by simp))
  | int j=>obtain ⟨t',rfl⟩:=ry; exact eq_int (zi I q zH8)
  | str j=>obtain ⟨t',rfl⟩:=ry; exact PySem.EqMixed.eq_int_str (zi I q (by simp))
  | _=>exact absurd (show false = true from hs) zQj
 | str i=>
  obtain ⟨t,rfl⟩:=rx;cases y with
  | non=>cases ry; exact PySem.EqNone.eq_str_none (zi I q (by simp))
  | bl j=>cases ry; exact PySem.EqMixed.eq_str_bool (zi I q (by simp))
  | int j=>obtain ⟨t',rfl⟩:=ry; exact PySem.EqMixed.eq_str_int (zi I q (by simp))
  | str j=>obtain ⟨t',rfl⟩:=ry; exact eq_str (zi I q zIJ)
  | _=>exact absurd (show false = true from hs) zQj
 | byt i=>
  obtain ⟨t,rfl⟩:=rx;cases y with
  | byt j=>obtain ⟨t',rfl⟩:=ry; exact PySem.W.eq_bytes (zi I q zIY)
  | _=>exact absurd (show false = true from hs) zQj
 | _=>cases y <;> exact absurd (show false = true from hs) zQj
theorem zOj:OpR X (compareOp .NotEq) rNe:=by
 intro zB s σ H x y v u Q I rx ry h;obtain ⟨hs,q⟩:=h;cases x with
 | non=>
  cases rx;cases y with
  | non=>cases ry; exact PySem.EqNone.ne_none_none (zi I q (by simp))
  | bl j=>cases ry; exact PySem.EqNone.ne_none_bool (zi I q (by simp))
  | int j=>obtain ⟨t',rfl⟩:=ry; exact PySem.EqNone.ne_none_int (zi I q (by simp))
  | str j=>obtain ⟨t',rfl⟩:=ry; exact PySem.EqNone.ne_none_str (zi I q (by simp))
  | _=>exact absurd (show false = true from hs) zQj
 | bl i=>
  cases rx;cases y with
  | non=>cases ry; exact PySem.EqNone.ne_bool_none (zi I q (by simp))
  | bl j=>cases ry; exact ne_bool (zi I q (congrArg not zKU))
  | str j=>obtain ⟨t',rfl⟩:=ry; exact PySem.EqMixed.ne_bool_str (zi I q (by simp))
  | _=>exact absurd (show false = true from hs) zQj
 | int i=>
  obtain ⟨t,rfl⟩:=rx;cases y with
  | non=>cases ry; exact PySem.EqNone.ne_int_none (zi I q (by simp))
  | int j=>obtain ⟨t',rfl⟩:=ry; exact ne_int (zi I q (congrArg not zH8))
  | str j=>obtain ⟨t',rfl⟩:=ry; exact PySem.EqMixed.ne_int_str (zi I q (by simp))
  | _=>exact absurd (show false = true from hs) zQj
 | str i=>
  obtain ⟨t,rfl⟩:=rx;cases y with
  | non=>cases ry; exact PySem.EqNone.ne_str_none (zi I q (by simp))
  | bl j=>cases ry; exact PySem.EqMixed.ne_str_bool (zi I q (by simp))
  | int j=>obtain ⟨t',rfl⟩:=ry; exact PySem.EqMixed.ne_str_int (zi I q (by simp))
  | str j=>obtain ⟨t',rfl⟩:=ry; exact ne_str (zi I q (congrArg not zIJ))
  | _=>exact absurd (show false = true from hs) zQj
 | byt i=>
  obtain ⟨t,rfl⟩:=rx;cases y with
  | byt j=>obtain ⟨t',rfl⟩:=ry; exact PySem.W.ne_bytes (zi I q (congrArg not zIY))
  | _=>exact absurd (show false = true from hs) zQj
 | _=>cases y <;> exact absurd (show false = true from hs) zQj
theorem zPZ:OpR X (compareOp .Lt) (rI0 fun i j=> .bl (decide (i < j))):=zN8 fun _ _ _ _ _ _ _ q=>lt_int q
theorem zPg:OpR X (compareOp .LtE) (rI0 fun i j=> .bl (decide (i <= j))):=zN8 fun _ _ _ _ _ _ _ q=>le_int q
theorem zOd:OpR X (compareOp .GtE) (rI0 fun i j=> .bl (decide (j <= i))):=zN8 fun _ _ _ _ _ _ _ q=>ge_int q
theorem OpR.or {f:Value -> Value -> Sem Value} {r r':R2} (h:OpR X f r) (h':OpR X f r'):OpR X f (fun x y H Q=>r x y H Q \/ r' x y H Q):=by
 intro zB s σ H x y v u Q I rx ry q;rcases q with q | q
 ·exact h zB s σ H x y v u Q I rx ry q
 ·exact h' zB s σ H x y v u Q I rx ry q
theorem zDM (b:Expr) {op:CmpOp} (h:op ≠ .In:=by decide) (h2:op ≠ .NotIn:=by decide):behindInMarks op b = false:=by
 have e1:(op == CmpOp.In) = false:=by cases op <;> first | rfl | exact absurd rfl h
 have e2:(op == CmpOp.NotIn) = false:=by cases op <;> first | rfl | exact absurd rfl h2
 cases b <;> simp [behindInMarks,e1,e2]
theorem zMk {op:CmpOp} {r:R2} (ho:OpR X (compareOp op) r) (ha:PE X a ta) (hb:PE X b tb) (hm:behindInMarks op b = false):PE X (.Compare a [op] [b] pos) (tOp r ta tb):=by
 intro zB s σ H Q I h;exact wpAny_Compare1 (zNL ha hb I h fun v u s2 x y H2 I2 rx ry q=>ho zB s2 σ H2 x y v u Q I2 rx ry q) hm
def zIU (t:TE):TT:=fun σ H Q=>t σ H fun x H'=>∃ k,x = .bl k /\ Q k H'
theorem zMq {op:CmpOp} {r:R2} (ho:OpR X (compareOp op) r) (ha:PE X a ta) (hb:PE X b tb) (hm:behindInMarks op b = false):PT X (.Compare a [op] [b] pos) (zIU (tOp r ta tb)):=by
 intro zB s σ H Q I h;refine wpAny_isTrue_Compare1 (thn (ha zB s σ H _ I h) fun v s1 ⟨x,H1,I1,r1,q1⟩=>thn (hb zB s1 σ H1 _ I1 q1) fun u s2 ⟨y,H2,I2,r2,q2⟩=>
  thn (ho zB s2 σ H2 x y v u _ I2 r1 r2 q2) fun c s3 ⟨z,H3,I3,r3,k,e,q3⟩=>?_) hm
 subst e;cases r3;exact wpAny_truthy_bool ⟨H3,I3,q3⟩
theorem zDD:(sizeLine:Nat) < 2 ^ 63:=by rw [sizeLine_eq]; decide
theorem zCg {x:V} {us:List Value} (r:zU [x] us):∃ u,us = [u] /\ ze x u:=by
 cases r with
 | cons r1 r2=>cases r2; exact ⟨_,rfl,r1⟩
theorem zM6 {x y:V} {us:List Value} (r:zU [x,y] us):∃ u w',us = [u,w'] /\ ze x u /\ ze y w':=by
 cases r with
 | cons r1 r2=>
  cases r2 with
  | cons r3 r4=>cases r4; exact ⟨_,_,rfl,r1,r3⟩
theorem zJa (hc:X.calm = true):zBC X (.builtin "min") (fun xs H Q=>∃ i j,xs = [.int i,.int j] /\ Q (.int (if j < i then j else i)) H):=by
 intro zB s σ H xs us Q I r h;obtain ⟨i,j,rfl,q⟩:=h;obtain ⟨u,w',rfl,⟨t,rfl⟩,⟨t',rfl⟩⟩:=zM6 r;refine min_two_ints (I.ok.hd hc) fun h' tk k=>⟨_,H,I.kept k,?_,q⟩;by_cases hj:j < i
 ·rw [zQc hj,zQc hj]; exact ⟨_,rfl⟩
 ·rw [zQf hj,zQf hj]; exact ⟨_,rfl⟩
end
structure ObjM (h:Heap) (x dx C:Addr) (mA:Str -> Option Value):Prop where
 obj:h.get? x = some (PySem.W.instObj C dx)
 ns:h.Ns1 dx mA
 ne:dx ≠ x
theorem zJc {h:Heap} {dx:Addr} {mA:Str -> Option Value} (n:h.Ns1 dx mA):∃ od,h.get? dx = some od /\ ∀ name,PySem.W.lookIn name od = some (mA name):=by
 obtain ⟨o,es,ep,ho,hd,hk,_,hm⟩:=n;refine ⟨o,ho,fun name=>?_⟩;have e:=hm name;unfold nsFind findBy at e;rw [<- Array.find?_toList] at e;unfold PySem.W.lookIn;rw [hd];dsimp only;split
 ·rename_i y q;rw [q] at e;exact congrArg some e
 ·rename_i q;rw [q] at e;have a:es.toList.any (·.refKey) = false:=by
   rw [List.any_eq_false];intro y hy;obtain ⟨z,t,hkey⟩:=hk y (Array.mem_toList_iff.mp hy);simp [DictEntry.refKey,hkey]
  have a':¬ es.toList.any (·.refKey) = true:=by rw [a]; exact zQj
  rw [zQf a'];exact congrArg some e
theorem ObjM.look {h:Heap} {x dx C:Addr} {mA:Str -> Option Value} (I:ObjM h x dx C mA):∃ od,PySem.W.InstAt h x (PySem.W.instObj C dx) C (some od) /\ ∀ name,PySem.W.lookIn name od = some (mA name) :=
 let ⟨od,ho,hl⟩:=zJc I.ns
 ⟨od,⟨I.obj,rfl,rfl,ho⟩,hl⟩
theorem zEN.some_of {v:V} {o:Option Value} (r:zEN (some v) o):∃ u,o = some u /\ ze v u:=by
 cases o with
 | none=>exact (show False from r).elim
 | some u=>exact ⟨u,rfl,r⟩
section
variable {P:Program} {w:World} {H H':Hp} {h h':Heap} {a C dx:Addr} {fs fs':List (Str × V)}
theorem zMp (hok:HOk P w H h) (e:H a = some (.ins C dx fs)):∃ mA,ObjM h a dx C mA /\ (∀ f,zEN (fs.lookup f) (mA f)) /\ PySem.Within mA (fs.map (·.1)) /\ fs.length <= 1000 /\ H dx = some (.own a):=by
 obtain ⟨d,z,ne,ob,mA,n,r,q⟩:=(show zn P w H h a (.ins C dx fs) from hok a _ e);exact ⟨mA,⟨ob,n,ne⟩,r,q,z,d⟩
end
structure Cls (K:PySem.W.Frag) (C:Addr):Prop where
 pg:PySem.W.plainGet K C Str.empty = true
 hd:PySem.W.hasDictIn K C = true
 po:PySem.W.plainOver K C = true
 sa:PySem.W.findIn K (.ref C) "__setattr__" = some (some (.builtin "object.__setattr__"))
theorem Cls.get {K:PySem.W.Frag} {C:Addr} (c:Cls K C) (f:Str):PySem.W.plainGet K C f = true:=c.pg
section
variable {X:Cx} {zB:List (Addr × Obj)} {σ:St} {H:Hp} {s:Shared} {A:Around} {E:Value -> Shared -> Prop} {Q:Value -> Shared -> Prop} {c:Value} {b:Bool}
set_option genInjectivity true in
inductive TyOf (K:PySem.W.Frag) (H:Hp):V -> Value -> Prop where
 | non:TyOf K H .non (.type "NoneType")
 | bl (x:Bool):TyOf K H (.bl x) (.type "bool")
 | int (i:Int):TyOf K H (.int i) (.type "int")
 | str (x:Str):TyOf K H (.str x) (.type "str")
 | flt (x:UInt64):TyOf K H (.flt x) (.type "float")
 | lst {a:Addr} {xs:List V} (e:H a = some (.lst xs)):TyOf K H (.ref a) (.type "list")
 | frz {a:Addr} {o:Obj} {xs:List V} (e:H a = some (.frz o (.lst xs))):TyOf K H (.ref a) (.type "list")
 | tup {a:Addr} {xs:List V} (e:H a = some (.tup xs)):TyOf K H (.ref a) (.type "tuple")
 | dK {a:Addr} {kvs:List (Key × V)} (e:H a = some (.dK kvs)):TyOf K H (.ref a) (.type "dict")
 | dT {a:Addr} {kvs:List (List Key × V)} (e:H a = some (.dT kvs)):TyOf K H (.ref a) (.type "dict")
 | ins {a C dx:Addr} {fs:List (Str × V)} (e:H a = some (.ins C dx fs)) (cl:Cls K C) (ha:PySem.W.findIn K (.ref C) "__class__" = some (some (.builtin "object.__class__")))
   (hn:PySem.W.specialIn K (.builtin "object.__class__") "__get__" = some (some (.builtin "getset_descriptor.__get__"))) (htk:PySem.W.takesIn K (.builtin "object.__class__") = some true)
   (hm:PySem.W.mroIn K C (.type "object") = some true):TyOf K H (.ref a) (.ref C)
theorem zI6 {x:V} {u t:Value} (I:Inv X zB σ H s) (rx:ze x u) (ty:TyOf X.K H x t) (e:PySem.W.kitOne X.K t c = some b) (h:∀ tk,Q (.bool b) { s with toks:=tk }) :
  wpAny (model X.prog X.w) A (call (.builtin "isinstance") [u,c]) Q E s:=by
 cases ty with
 | non=>cases (show u = Value.none from rx); exact zR0 PySem.W.kitx_none I.kIn True.intro e (fun z=>nomatch z) h
 | bl y=>cases (show u = Value.bool y from rx); exact zR0 PySem.W.kitx_bool I.kIn True.intro e (fun z=>nomatch z) h
 | int i=>obtain ⟨t,q⟩:=(show ∃ t,u = Value.int i t from rx); cases q; exact zR0 PySem.W.kitx_int I.kIn True.intro e (fun z=>nomatch z) h
 | str y=>obtain ⟨t,q⟩:=(show ∃ t,u = Value.str y t from rx); cases q; exact zR0 PySem.W.kitx_str I.kIn True.intro e (fun z=>nomatch z) h
 | flt y=>obtain ⟨t,q⟩:=(show ∃ t,u = Value.float y t from rx); cases q; exact zR0 PySem.W.kitx_float I.kIn True.intro e (fun z=>nomatch z) h
 | @lst a xs ea=>
  cases (show u = Value.ref a from rx);obtain ⟨_,_,n,_,h1⟩:=(show zn X.prog X.w H s.heap a (.lst xs) from I.hok a _ ea);exact zR0 PySem.W.kitx_list I.kIn ⟨_,h1,rfl⟩ e (fun z=>nomatch z) h
 | @frz a ob xs ea=>
  cases (show u = Value.ref a from rx);obtain ⟨_,_,_,n,_,h1⟩:=(show zn X.prog X.w H s.heap a (.frz ob (.lst xs)) from I.hok a _ ea);exact zR0 PySem.W.kitx_list I.kIn ⟨_,h1,rfl⟩ e (fun z=>nomatch z) h
 | @tup a xs ea=>
  cases (show u = Value.ref a from rx);obtain ⟨_,_,_,p⟩:=(show zn X.prog X.w H s.heap a (.tup xs) from I.hok a _ ea);obtain ⟨o,h1,h2,_⟩:=p;exact zR0 PySem.W.kitx_tuple I.kIn ⟨o,h1,h2⟩ e (fun z=>nomatch z) h
 | @dK a kvs ea=>
  cases (show u = Value.ref a from rx);obtain ⟨_,_,vs,_,p⟩:=(show zn X.prog X.w H s.heap a (.dK kvs) from I.hok a _ ea);obtain ⟨o,es,ep,h1,h2,_⟩:=p;exact zR0 PySem.W.kitx_dict I.kIn ⟨o,h1,h2.1⟩ e (fun z=>nomatch z) h
 | @dT a kvs ea=>
  cases (show u = Value.ref a from rx);obtain ⟨_,_,xs,_,o,es,ep,h1,h2,_⟩:=(show zn X.prog X.w H s.heap a (.dT kvs) from I.hok a _ ea);exact zR0 PySem.W.kitx_dict I.kIn ⟨o,h1,h2.1⟩ e (fun z=>nomatch z) h
 | @ins a C dx fs ea cl ha hn htk hm=>
  cases (show u = Value.ref a from rx);obtain ⟨mA,O,_⟩:=zMp I.hok ea;obtain ⟨od,J,_⟩:=O.look;exact zR0 (PySem.W.kitx_own (cl.get _) cl.hd ha hn htk hm) I.kIn J e (fun z=>nomatch z) h
end
structure Room (k:Nat) (A:Around):Prop where
 hd:A.handled = none
 dp:A.depth + 3 * k + 5 < recursionLimit
 un:A.units + 16 * k + 200 < cLine
theorem Room.mono {j k:Nat} {A:Around} (r:Room k A) (h:j <= k):Room j A:=⟨r.hd,by have:=r.dp; omega,by have:=r.un; omega⟩
theorem Room.deeper {k:Nat} {A:Around} (r:Room (k + 1) A) (env:Env):Room k (A.deeper env) :=
 ⟨r.hd,by have:=r.dp; show A.depth + 1 + 3 * k + 5 < _; omega,by have:=r.un; show A.units + 3 + 16 * k + 200 < _; omega⟩
theorem Room.depth {k:Nat} {A:Around} (r:Room k A):A.depth < recursionLimit:=by have:=r.dp; omega
theorem Room.units {k:Nat} {A:Around} (r:Room k A):A.units + 64 < cLine:=by have:=r.un; omega
theorem Room.units0 {k:Nat} {A:Around} (r:Room k A):A.units < cLine:=by have:=r.un; omega
def zQF:TA:=fun _ H Q=>Q [] H
def zPa (ta:TE) (tr:TA):TA:=fun σ H Q=>ta σ H fun x H1=>tr σ H1 fun xs H2=>Q (x :: xs) H2
section
variable {X:Cx} {e:Expr} {es:List Expr} {te:TE} {t:TA} {pos:Pos}
theorem zCp:PA X [] zQF:=fun _ _ _ _ H Q I h=>Calls.spliced_nil ⟨[],H,I,.nil,h⟩
theorem zBV (ha:PE X e te) (hr:PA X es t) (hs:starEach (e :: es) X.env = (false,eval e X.env) :: starEach es X.env:=by rfl):PA X (e :: es) (zPa te t):=by
 intro pos zB s σ H Q I h;rw [hs];show wpAny _ _ (spliced ((false,eval e X.env) :: backTo pos (starEach es X.env))) _ _ s;refine Calls.spliced_cons (thn (ha zB s σ H _ I h) fun u s1 ⟨x,H1,I1,r1,q1⟩=>?_);exact thn (hr pos zB s1 σ H1 _ I1 q1) fun us s2 ⟨xs,H2,I2,r2,q2⟩=>⟨x :: xs,H2,I2,.cons r1 r2,q2⟩
def zQM (t:TA):TE:=fun σ H Q=>t σ H fun xs H1=>xs.length <= sizeLine /\ ∀ p,H1 p = none -> Q (.ref p) (upd H1 p (.tup xs))
def zP5 (t:TA):TE:=fun σ H Q=>t σ H fun xs H1=>xs.length <= sizeLine /\ ∀ p,H1 p = none -> Q (.ref p) (upd H1 p (.lst xs))
theorem zNq {x1} (h:PA X es t):PE X (.Tuple es x1 pos) (zQM t):=by
 intro zB s σ H Q I hq;refine wpAny_Tuple_spliced (thn (h pos zB s σ H _ I hq) fun us s1 ⟨xs,H1,I1,r,z,q⟩=>⟨by rw [<- r.length]; exact z,?_⟩);have hf:H1 s1.heap.objs.size = none:=I1.hok.fresh (zQT _);refine ⟨.ref s1.heap.objs.size,upd H1 s1.heap.objs.size (.tup xs),I1.laid (t':=s1.toks) (fun b u e=>zQO _ e) (zQT _) ?_,rfl,q _ hf⟩;exact ⟨z,us,r,⟨_,zQX _ rfl,rfl,⟨_,rfl⟩,rfl⟩⟩
theorem zOS (h:PA X es t):PE X (.List es pos) (zP5 t):=by
 intro zB s σ H Q I hq;refine wpAny_List_spliced (thn (h pos zB s σ H _ I hq) fun us s1 ⟨xs,H1,I1,r,z,q⟩=>⟨by rw [<- r.length]; exact z,?_⟩);have hf:H1 s1.heap.objs.size = none:=I1.hok.fresh (zQT _);refine ⟨.ref s1.heap.objs.size,upd H1 s1.heap.objs.size (.lst xs),I1.laid (t':=s1.toks) (fun b u e=>zQO _ e) (zQT _) ?_,rfl,q _ hf⟩;exact ⟨z,us,0,r,zQX _ rfl⟩
end
abbrev Sp:=List V -> Hp -> VK -> XK -> Prop
abbrev CXT:=List Env -> Hp -> Shared -> XK -> Value -> Shared -> Prop
structure Env0 (P:Program) (w:World) (K:PySem.W.Frag) (mg:Str -> Option Value) (base:Heap) (A:Around) (outer:List Env) (s:Shared) (H:Hp):Prop where
 frames:A.frames = some outer
 mod:Mod K mg base
 bs:∀ b o,base.get? b = some o -> s.heap.get? b = some o /\ H b = none
 bsz:base.objs.size <= s.heap.objs.size
 funs:s.heap.FunFrames base outer
 frf:∀ b ∈ frs outer,H b = none
 hok:HOk P w H s.heap
 bare:AllBare s.gens
def CE (outer:List Env) (P:Program) (w:World) (H:Hp) (s:Shared) (Q:VK) (u:Value) (s':Shared):Prop :=
 ∃ v H',s'.os = s.os /\ AllBare s'.gens /\ Un (frs outer) [] H H' s.heap s'.heap /\ HOk P w H' s'.heap /\ ze v u /\ Q v H'
def CR (CX:CXT) (outer:List Env) (P:Program) (w:World) (H:Hp) (s:Shared) (Q:VK) (E:XK) (r:Result) (s':Shared):Prop :=
 match r with
 | .ok (.ret u)=>CE outer P w H s Q u s'
 | .ok _=>False
 | .error e=>CX outer H s E e s'
structure FnOk (P:Program) (w:World) (K:PySem.W.Frag) (mg:Str -> Option Value) (base:Heap) (CX:CXT) (k:Nat) (f:Addr) (fd:FuncData) (ps:List Str) (sp:Sp):Prop where
 len:∀ vs H Q E,sp vs H Q E -> vs.length = ps.length
 run:∀ (A:Around) (outer:List Env) (s:Shared) (H:Hp) (args:Args) (us:List Value) (vs:List V) (Q:VK) (E:XK),Room k A -> Env0 P w K mg base A outer s H -> BindsTo s fd args (ps.zip us) -> zU vs us -> sp vs H Q E ->
  codeAny (model P w) A (.call (.ref f) args) (CR CX outer P w H s Q E) s
theorem FnOk.imp {P:Program} {w:World} {K:PySem.W.Frag} {mg:Str -> Option Value} {base:Heap} {CX:CXT} {k:Nat} {f:Addr} {fd:FuncData} {ps:List Str} {sp sp':Sp} (F:FnOk P w K mg base CX k f fd ps sp)
  (h:∀ vs H Q E,sp' vs H Q E -> sp vs H Q E):FnOk P w K mg base CX k f fd ps sp' :=
 ⟨fun vs H Q E q=>F.len vs H Q E (h _ _ _ _ q),fun A outer s H args us vs Q E hr he hb hv hs=>F.run A outer s H args us vs Q E hr he hb hv (h _ _ _ _ hs)⟩
section
variable {X:Cx} {zB:List (Addr × Obj)} {σ:St} {H:Hp} {s s':Shared}
theorem Inv.env0 (I:Inv X zB σ H s):Env0 X.prog X.w X.K X.mg X.base X.A X.stack s H :=
 ⟨I.ok.frames,I.ok.mod,I.bs,zQo I.ok.bsz I.sz,I.stack,I.stkFree,I.hok,I.bare⟩
theorem Inv.after {Q:VK} {u:Value} (I:Inv X zB σ H s) (h:CE X.stack X.prog X.w H s Q u s'):EP X zB σ Q u s':=by
 obtain ⟨v,H',os,bare,un,hok,r,q⟩:=h;obtain ⟨hh,g,d,t,os'⟩:=s';obtain rfl:os' = s.os:=os;exact ⟨v,H',I.call (h':=hh) (g':=g) (d':=d) (t':=t) (ch:=[]) un hok bare (fun b z=>absurd z (by simp)),r,q⟩
end
def zOs (sp:Sp) (dvs:List V) (E:XK) (t:TA):TE:=fun σ H Q=>t σ H fun vs H1=>sp (vs ++ dvs) H1 Q E
def zEV (K:PySem.W.Frag) (fd:FuncData) (ps:List Str) (ds:List Value):Prop :=
 ∀ (s:Shared) (us:List Value),K.In s.heap -> (us ++ ds).length = ps.length -> BindsTo s fd ⟨us,[]⟩ (ps.zip (us ++ ds))
theorem zEV.all {K:PySem.W.Frag} {fd:FuncData} {ps:List Str} (h:∀ us:List Value,us.length = ps.length -> bindArgs fd ⟨us,[]⟩ = pure (ps.zip us)):zEV K fd ps []:=fun s us _ hl=>by
 rw [zQ7] at hl ⊢;exact .of_eq (h us hl)
def zH4 (CX:CXT) (X:Cx) (E:XK):Prop:=∀ (zB:List (Addr × Obj)) (σ:St) (H:Hp) (s:Shared) (e:Value) (s':Shared),Inv X zB σ H s -> CX X.stack H s E e s' -> X.xe e s'
section
variable {X:Cx} {CX:CXT} {k:Nat} {f C:Addr} {fd:FuncData} {ps:List Str} {sp:Sp} {dvs:List V} {ds:List Value} {E:XK} {x m:Str} {p pos apos:Pos} {e o:Expr} {es:List Expr} {ta:TE} {t:TA}
theorem zNJ {zB:List (Addr × Obj)} {σ:St} {H:Hp} {s:Shared} {Q:VK} {us:List Value} {vs:List V} (F:FnOk X.prog X.w X.K X.mg X.base CX k f fd ps sp) (hr:Room k X.A) (hb:zEV X.K fd ps ds) (hd:zU dvs ds) (hx:zH4 CX X E)
  (I:Inv X zB σ H s) (r:zU vs us) (h:sp (vs ++ dvs) H Q E):wpAny (model X.prog X.w) X.A (call (.ref f) us) (EP X zB σ Q) X.xe s:=by
 have r2:zU (vs ++ dvs) (us ++ ds):=r.append hd;have hl:(us ++ ds).length = ps.length:=by rw [<- r2.length]; exact F.len _ _ _ _ h
 refine wpAny_call (codeAny_mono (F.run X.A X.stack s H ⟨us,[]⟩ (us ++ ds) (vs ++ dvs) Q E hr I.env0 (hb s us I.kIn hl) r2 h) fun r s' hq=>?_);cases r with
 | error e=>exact hx zB σ H s e s' I hq
 | ok fl=>
  cases fl with
  | ret u=>exact I.after hq
  | next=>exact False.elim hq
  | brk=>exact False.elim hq
  | cont=>exact False.elim hq
theorem zMK (F:FnOk X.prog X.w X.K X.mg X.base CX k f fd ps sp) (hr:Room k X.A) (hg:Gl X x) (hm:X.mg x = some (.ref f)) (hk:PySem.W.keepIn X.K (.ref f) = true) (hb:zEV X.K fd ps ds) (hd:zU dvs ds) (hx:zH4 CX X E)
  (ha:PA X (e :: es) t) (hdb:(x == ("__debug__" : Str)) = false:=by decide) (he:starEach (e :: es) X.env = (false,eval e X.env) :: starEach es X.env:=by rfl) (hpl:(backTo pos (starEach es X.env)).any (·.1) = false:=by rfl) :
  PE X (.Call (.Name x p) (e :: es) [] pos) (zOs sp dvs E t):=by
 intro zB s σ H Q I h;refine wpAny_Call_Name_kw (zMh I hg hm ?_ hdb);refine PySem.W.callWith_K (h₀:=X.base) I.ok.mod.kin hk (thn (ha pos zB s σ H _ I h) fun us s1 ⟨vs,H1,I1,r,q⟩=>⟨I1.kIn,?_⟩) he hpl;exact zNJ F hr hb hd hx I1 r q
end
structure FnScope (N P:List Str) (sc:Scope):Prop where
 kind:sc.kind = .function
 co:sc.isCoroutine = false
 gen:sc.isGenerator = false
 nd:N.Nodup
 pre:N.take P.length = P
 par:∀ x ∈ P,sc.names.lookup x = some .local \/ sc.names.lookup x = some .cell
 nofree:∀ y ∈ sc.names,y.2 ≠ .free
theorem zFJ {kindOf:Str -> Option NameKind} {x:Str}:∀ {binds:List (Str × Value)} {m:Str -> Option Value},(∀ v,(x,v) ∉ binds) -> bindL kindOf binds m x = m x
 | [],_,_=>rfl
 | (n,v) :: r,m,h=>by
  unfold bindL;rw [zFJ fun w hw=>h w (zQa _ hw)];split
  ·have:x ≠ n:=by rintro rfl; exact h v zQb
   simp [this]
  ·rfl
theorem zFB {kindOf:Str -> Option NameKind} {x:Str}:∀ {binds:List (Str × Value)} {m:Str -> Option Value},(∀ v,(x,v) ∉ binds) -> bindC kindOf binds m x = m x
 | [],_,_=>rfl
 | (n,v) :: r,m,h=>by
  unfold bindC;rw [zFB fun w hw=>h w (zQa _ hw)];split
  ·rfl
  ·have:x ≠ n:=by rintro rfl; exact h v zQb
   simp [this]
theorem zFR {kindOf:Str -> Option NameKind} {x:Str} {v:Value}:∀ {P:List Str} {vs:List Value} {i:Nat} {m:Str -> Option Value},P.Nodup -> P[i]? = some x -> vs[i]? = some v -> kindOf x = some .local ->
  bindL kindOf (P.zip vs) m x = some v
 | [],_,_,_,_,h,_,_=>by simp at h
 | _ :: _,[],_,_,_,_,h,_=>by simp at h
 | p :: P,w :: vs,0,m,nd,h1,h2,hk=>by
  simp at h1 h2; subst h1; subst h2;show bindL kindOf ((p,w) :: P.zip vs) m p = _;unfold bindL;rw [zFJ fun v hv=>(List.nodup_cons.mp nd).1 (List.of_mem_zip hv).1,zQc hk];simp
 | p :: P,w :: vs,i + 1,m,nd,h1,h2,hk=>by
  show bindL kindOf ((p,w) :: P.zip vs) m x = _;unfold bindL;exact zFR (i:=i) (List.nodup_cons.mp nd).2 (by simpa using h1) (by simpa using h2) hk
theorem zE7 {kindOf:Str -> Option NameKind} {x:Str} {v:Value}:∀ {P:List Str} {vs:List Value} {i:Nat} {m:Str -> Option Value},P.Nodup -> P[i]? = some x -> vs[i]? = some v -> kindOf x ≠ some .local ->
  bindC kindOf (P.zip vs) m x = some v
 | [],_,_,_,_,h,_,_=>by simp at h
 | _ :: _,[],_,_,_,_,h,_=>by simp at h
 | p :: P,w :: vs,0,m,nd,h1,h2,hk=>by
  simp at h1 h2; subst h1; subst h2;show bindC kindOf ((p,w) :: P.zip vs) m p = _;unfold bindC;rw [zFB fun v hv=>(List.nodup_cons.mp nd).1 (List.of_mem_zip hv).1,zQf hk];simp
 | p :: P,w :: vs,i + 1,m,nd,h1,h2,hk=>by
  show bindC kindOf ((p,w) :: P.zip vs) m x = _;unfold bindC;exact zE7 (i:=i) (List.nodup_cons.mp nd).2 (by simpa using h1) (by simpa using h2) hk
def start (N:List Str) (vs:List V):St:=vs.map some ++ List.replicate (N.length - vs.length) none
def zHg (CX:CXT) (P:Program) (w:World) (K:PySem.W.Frag) (mg:Str -> Option Value) (base:Heap) (N:List Str) (qual:Str) (scope:Scope) (f:Addr) (cd:Value) (A:Around) (outer:List Env) (s:Shared) (H:Hp) (E:XK):Cx where
 prog:=P
 w:=w
 K:=K
 mg:=mg
 base:=base
 A:=A.deeper (envOfC qual scope s.heap.objs.size f cd)
 N:=N
 s₀:=s
 H₀:=H
 env:=envOfC qual scope s.heap.objs.size f cd
 outer:=outer
 stack:=envOfC qual scope s.heap.objs.size f cd :: outer
 ex:=[]
 calm:=true
 fn:=fun _=>true
 pn:=[]
 xe:=fun e s'=>wpAny (model P w) (A.deeper (envOfC qual scope s.heap.objs.size f cd)) (leaving (envOfC qual scope s.heap.objs.size f cd) e) (fun _ s''=>CX outer H s E e s'') (fun e' s''=>CX outer H s E e' s'') s'
theorem zEi {sc:Scope} {n:Nat} {x:Str} (h:sc.names.lookup x = some .cell):∃ c,(cellsFrom n sc.names []).lookup x = some c:=by
 have q:=PySem.W.cellsFrom_some sc.names n [] (.inl h);exact Option.isSome_iff_exists.mp q
theorem zJX {CX:CXT} {P:Program} {w:World} {K:PySem.W.Frag} {mg:Str -> Option Value} {base:Heap} {N ps:List Str} {qual:Str} {scope:Scope} {f:Addr} {cd:Value} {A:Around} {outer:List Env} {s s1:Shared} {H:Hp} {E:XK} {us:List Value} {vs:List V}
  (S:FnScope N ps scope) (hd:A.handled = none) (e0:Env0 P w K mg base A outer s H) (hl:vs.length = ps.length) (r:zU vs us)
  (x:InCallC s s.heap.objs.size (bindL (envOfC qual scope s.heap.objs.size f cd).kindOf (ps.zip us) fun _=>none) (cellsFrom (s.heap.objs.size + 1) scope.names []) (bindC (envOfC qual scope s.heap.objs.size f cd).kindOf (ps.zip us) fun _=>none) s1) :
  Inv (zHg CX P w K mg base N qual scope f cd A outer s H E) [] (start N vs) H s1:=by
 have hpl:ps.length <= N.length:=by have:=congrArg List.length S.pre; rw [zRl] at this; omega
 obtain ⟨h1,tk,rfl,hk⟩:=x.done;have noA:∀ b:Addr,b ∉ (zHg CX P w K mg base N qual scope f cd A outer s H E).ex:=fun b z=>absurd (show b ∈ ([]:List Addr) from z) (by simp)
 refine ⟨⟨e0.mod,S.kind,rfl,rfl,zQT _,fun y z c h1 h2=>?_,fun y hy=>?_,fun y c _ h=>?_,fun _=>hd,Around.frames_deeper e0.frames,.inr ⟨rfl,rfl⟩,fun b z=>absurd z (noA b),e0.bs,e0.bsz,fun b _ _=>noA b,fun b z=>absurd z (noA b),e0.funs,e0.frf⟩,
  rfl,e0.bare,Un.kept hk,⟨_,x.toInCall.ns,fun i y v h1 h2 h3=>?_⟩,fun y c h=>⟨_,x.cell y c h⟩,e0.hok.fresh (zQT _),fun y c h=>?_,fun p hp=>absurd (show p ∈ ([]:List (Addr × Obj)) from hp) (by simp),e0.hok.kept hk,?_⟩
 ·exact name_of_addr x.apart (zRP h1) (zRP h2)
 ·have hy:scope.names.lookup y = some .cell \/ scope.names.lookup y = some .free:=hy;rcases hy with hy | hy
  ·exact zEi hy
  ·exact absurd rfl (S.nofree _ (zRP hy))
 ·exact Nat.le_of_lt (x.above y c (zRP h))
 ·have hi:i < vs.length:=by
   unfold start at h2;by_cases hi:i < vs.length
   ·exact hi
   ·rw [zRX (by simpa using hi)] at h2;rw [List.getElem?_replicate] at h2;split at h2 <;> cases h2
  have ha:vs[i]? = some v:=by
   unfold start at h2;rw [zQU (by simpa using hi),zQk] at h2;cases e:vs[i]? with
   | none=>rw [e] at h2; cases h2
   | some a=>rw [e] at h2; cases h2; rfl
  obtain ⟨u,hu,rv⟩:=r.get ha;have hp:ps[i]? = some y:=by
   rw [<- S.pre,List.getElem?_take_of_lt (by omega)]; exact h1
  have ndP:ps.Nodup:=by rw [<- S.pre]; exact S.nd.sublist (List.take_sublist _ _)
  refine ⟨u,rv,?_⟩;rcases S.par y (zRE hp) with k | k
  ·exact .inl ⟨k,zFR ndP hp hu k⟩
  ·obtain ⟨c,e⟩:=zEi (n:=s.heap.objs.size + 1) k;refine .inr ⟨.inl k,c,e,?_⟩;have q:=x.cell y c e;rw [zE7 ndP hp hu (by show scope.names.lookup y ≠ _; rw [k]; decide)] at q;exact q
 ·exact e0.hok.fresh (Nat.le_of_lt (x.above y c (zRP h)))
 ·unfold start;show _ = N.length;rw [zQd,zQW,List.length_replicate];omega
theorem zPi {CX:CXT} {P:Program} {w:World} {K:PySem.W.Frag} {mg:Str -> Option Value} {base:Heap} {k:Nat} {f:Addr} {name qual:Str} {params:Arguments} {body:List Stmt} {scope:Scope} {dV kV doc pm cdv ct oc:Value} {an od:Option Addr}
  {osl:Array (Option Value)} {N ps:List Str} {sp:Sp} (lk:K.lookup f = some ⟨oc,od,.func (PySem.W.fnOf name qual params body scope dV kV doc pm an cdv ct),osl⟩) (hcd:PySem.W.codeIn K cdv qual = true) (S:FnScope N ps scope)
  (len:∀ vs H Q E,sp vs H Q E -> vs.length = ps.length)
  (hbody:∀ (A:Around) (outer:List Env) (s:Shared) (H:Hp) (vs:List V) (Q:VK) (E:XK),Room k (A.deeper (envOfC qual scope s.heap.objs.size f cdv)) -> sp vs H Q E ->
   ∃ t,PSs (zHg CX P w K mg base N qual scope f cdv A outer s H E) body t /\ t { nx:=fun _ H'=>Q .non H',rt:=Q } (start N vs) H) :
  FnOk P w K mg base CX (k + 1) f (PySem.W.fnOf name qual params body scope dV kV doc pm an cdv ct) ps sp:=by
 refine ⟨len,fun A outer s H args us vs Q E hr e0 hb r hsp=>?_⟩;have hl:=len _ _ _ _ hsp;have KX:K.In s.heap:=e0.mod.kin.keeps fun b o e=>(e0.bs b o e).1;have lim:s.heap.NoLimit:=e0.mod.nolimit.keeps fun b o e=>(e0.bs b o e).1;have hkind:∀ y ∈ ps.zip us,scope.names.lookup y.1 = some .local \/ (scope.names.lookup y.1 = some .cell /\ ((cellsFrom (s.heap.objs.size + 1) scope.names []).lookup y.1).isSome = true):=fun ⟨n,v⟩ hy=>by
  rcases S.par n (List.of_mem_zip hy).1 with q | q
  ·exact .inl q
  ·exact .inr ⟨q,PySem.W.cellsFrom_some _ _ _ (.inl q)⟩
 refine codeAny_call_function hr.depth (KX _ _ lk) rfl S.co S.gen rfl (PySem.W.codeRec_of KX hcd) (hb _ _ _ _ ?_);refine wpAny_newFunctionEnv_cells S.kind hkind fun env he s1 x=>?_;subst he;refine ⟨lim.keeps x.toInCall.keep,codeAny_func ?_⟩;obtain ⟨t,ht,hq⟩:=hbody A outer s H vs Q E (hr.deeper _) hsp;have I:Inv (zHg CX P w K mg base N qual scope f cdv A outer s H E) [] (start N vs) H s1:=zJX S hr.hd e0 hl r x;refine zQt (ht [] s1 (start N vs) H _ I hq) (fun fl s' hs=>?_) fun e s' hs=>hs;have fin:∀ {σ':St} {H':Hp} {v:V} {u:Value},Inv (zHg CX P w K mg base N qual scope f cdv A outer s H E) [] σ' H' s' -> ze v u -> Q v H' -> CE outer P w H s Q u s' :=
  fun {σ' H' v u} J rv q=>⟨v,H',J.os,J.bare,J.base,J.hok,rv,q⟩
 cases fl with
 | ret u=>
  obtain ⟨v,σ',H',J,rv,q⟩:=hs;exact fin J rv q
 | next=>
  obtain ⟨σ',H',J,q⟩:=hs;exact fin (v:=V.non) (u:=Value.none) J rfl q
 | brk=>
  obtain ⟨_,_,_,q⟩:=hs;exact False.elim q
 | cont=>
  obtain ⟨_,_,_,q⟩:=hs;exact False.elim q
section
variable {X:Cx} {x:Str} {p pos:Pos} {e:Expr} {es:List Expr} {t:TA} {id T:String} {r:List V -> Hp -> VK -> Prop}
def tCB (r:List V -> Hp -> VK -> Prop) (t:TA):TE:=fun σ H Q=>t σ H fun vs H1=>r vs H1 Q
theorem zGS (hc:zBC X (.builtin id) r) (hg:Gl X x) (hm:X.mg x = none) (hv:bootBuiltins x = some (.builtin id)) (ha:PA X (e :: es) t) (hn:x ≠ "__name__" := by decide) (hdb:(x == ("__debug__" : Str)) = false:=by decide)
  (he:starEach (e :: es) X.env = (false,eval e X.env) :: starEach es X.env:=by rfl) (hpl:(backTo pos (starEach es X.env)).any (·.1) = false:=by rfl):PE X (.Call (.Name x p) (e :: es) [] pos) (tCB r t):=by
 intro zB s σ H Q I h;refine wpAny_Call_Name_kw (zCA I hg hm hv ?_ hn hdb);exact PyProof.Rows.callWith_builtin1 (thn (ha pos zB s σ H _ I h) fun us s1 ⟨vs,H1,I1,r1,q1⟩=>hc zB s1 σ H1 vs us Q I1 r1 q1) he hpl
theorem zBj (hc:zBC X (.type T) r) (hg:Gl X x) (hm:X.mg x = none) (hv:bootBuiltins x = some (.type T)) (ha:PA X (e :: es) t) (hn:x ≠ "__name__" := by decide) (hdb:(x == ("__debug__" : Str)) = false:=by decide)
  (he:starEach (e :: es) X.env = (false,eval e X.env) :: starEach es X.env:=by rfl) (hpl:(backTo pos (starEach es X.env)).any (·.1) = false:=by rfl):PE X (.Call (.Name x p) (e :: es) [] pos) (tCB r t):=by
 intro zB s σ H Q I h;refine wpAny_Call_Name_kw (zCA I hg hm hv ?_ hn hdb);exact PyProof.Rows.callWith_type1 (thn (ha pos zB s σ H _ I h) fun us s1 ⟨vs,H1,I1,r1,q1⟩=>hc zB s1 σ H1 vs us Q I1 r1 q1) he hpl
end
end L2
namespace HT
open PySem PyProof.Rows
section
variable {prog:Program} {w:World} {A:Around} {E:Value -> Shared -> Prop} {s:Shared}
theorem zMO {t b:Addr} {vs ws:List Value} {Q:Value -> Shared -> Prop} (ht:IsTup s.heap t vs.toArray) (hb:IsTup s.heap b ws.toArray) (hv:vs ≠ [])
  (h1:ws = [] -> Q (.ref t) s) (h2:ws ≠ [] -> Q (.ref s.heap.objs.size) { s with heap:=s.heap.push { cls:=.type "tuple", data:=.seq (vs ++ ws).toArray } })
  (hsz:vs.length + ws.length <= sizeLine):wpAny (model prog w) A (binaryOp .Add (.ref t) (.ref b)) Q E s:=by
 obtain ⟨⟨cls,dd,data,sl⟩,ho,hc,n,hd⟩:=id ht;obtain ⟨⟨cls2,dd2,data2,sl2⟩,ho2,hc2,n2,hd2⟩:=id hb;simp only at hc hd hc2 hd2;subst hc hd hc2 hd2;have e:vs.toArray ++ ws.toArray = (vs ++ ws).toArray:=by simp
 by_cases hw:ws = []
 ·exact concat_meets ⟨_,ho,rfl⟩ ⟨_,ho2,rfl⟩ noFill_tuple_add seq_tuple_add PySem.F.slot_tuple_add PySem.F.entry_tuple_add (PySem.F.args_tuple_add_2 _ _)
   (tuple_addW1 t b vs.toArray ws.toArray n n2 dd dd2 sl sl2 (by simpa using hv) (by simp [hw])) ⟨ho,ho2,h1 hw⟩
 ·refine concat_meets ⟨_,ho,rfl⟩ ⟨_,ho2,rfl⟩ noFill_tuple_add seq_tuple_add PySem.F.slot_tuple_add PySem.F.entry_tuple_add (PySem.F.args_tuple_add_2 _ _)
   (tuple_addW2 t b vs.toArray ws.toArray n n2 dd dd2 sl sl2 (by simpa using hv) (by simpa using hw) (by rw [zQV,zQV]; exact hsz)) ⟨ho,ho2,?_⟩
  rw [e];exact h2 hw
def sIx (n d:Nat):Option Int -> Nat
 | none=>d
 | some v=>if v < 0 then (v + (n:Int)).toNat else min v.toNat n
theorem zDs (n d k:Nat):sIx n d (some (k:Int)) = min k n:=by
 show (if (k:Int) < 0 then ((k:Int) + (n:Int)).toNat else min (k:Int).toNat n) = min k n;rw [zQf (by omega),zS7]
theorem zNF (n d:Nat) (hd:d <= n) (o:Option Int):sIx n d o <= n:=by
 cases o with
 | none=>exact hd
 | some v=>
  show (if v < 0 then (v + (n:Int)).toNat else min v.toNat n) <= n;by_cases hv:v < 0
  ·rw [zQc hv]; omega
  ·rw [zQf hv]; exact Nat.min_le_right _ _
theorem zIH (v:Int) (n d:Nat):(if v < 0 then max (v + (n:Int)) 0 else min v (n:Int)) = ((sIx n d (some v):Nat):Int):=by
 show (if v < 0 then max (v + (n:Int)) 0 else min v (n:Int)) = (((if v < 0 then (v + (n:Int)).toNat else min v.toNat n):Nat):Int);by_cases hv:v < 0
 ·simp only [zQc hv]; omega
 ·simp only [zQf hv]; omega
theorem zHS (lo hi:Option Int) (n:Nat):Builtin.Slice.sliceAdjust lo hi 1 (n:Int) = (((sIx n 0 lo:Nat):Int),((sIx n n hi:Nat):Int)):=by
 have h1:¬ ((1:Int) < 0):=by omega
 unfold Builtin.Slice.sliceAdjust;simp only [h1,if_false];refine Prod.ext ?_ ?_
 ·cases lo with
  | none=>rfl
  | some v=>exact zIH v n 0
 ·cases hi with
  | none=>rfl
  | some v=>exact zIH v n n
theorem zHu (i j:Nat):Builtin.Slice.slicePlaces (i:Int) (j:Int) 1 = j - i:=by
 unfold Builtin.Slice.slicePlaces;have h1:(1:Int) > 0:=by omega
 simp only [h1,if_true,Int.ediv_one];split <;> omega
theorem zD8 {v:Value} {o:Option Int} {Q:Option Int -> Shared -> Prop} (p:IsPart v o) (h:Q o s):wpAny (model prog w) A (Builtin.Slice.slicePartIndex v) Q E s:=by
 cases p with
 | none=>exact slicePart_none h
 | int i t=>exact slicePart_int h
theorem zBi {sl:Addr} {vl vu:Value} {lo hi:Option Int} {n:Nat} {Q:Int × Int × Nat -> Shared -> Prop} (hs:s.heap.IsSliceOf sl vl vu .none) (pl:IsPart vl lo) (pu:IsPart vu hi)
  (h:Q (((sIx n 0 lo:Nat):Int),1,sIx n n hi - sIx n 0 lo) s):wpAny (model prog w) A (Builtin.Slice.sliceApplied (.ref sl) (pure (n:Int))) Q E s:=by
 obtain ⟨os,hos,hcs,hds⟩:=id hs;unfold Builtin.Slice.sliceApplied Builtin.Slice.sliceFields;refine zQN (zQN (zQ2 hos hds (x:=vl) rfl (zQN (zQ2 hos hds (x:=vu) rfl (zQN (zQ2 hos hds (x:=.none) rfl (zQP ?_)))))));refine zQN (slicePart_none ?_);show wpAny _ _ (if ((1:Int) == 0) = true then _ else _) _ _ s;rw [zQf (by decide)];refine zQN (zD8 pl (zQN (zD8 pu (zQN (zQP ?_)))));show wpAny _ _ (match Builtin.Slice.sliceAdjust lo hi 1 (n:Int) with | (lo,hi)=>pure (lo,(1:Int),Builtin.Slice.slicePlaces lo hi 1)) _ _ s;rw [zHS lo hi n];show wpAny _ _ (pure (((sIx n 0 lo:Nat):Int),(1:Int),Builtin.Slice.slicePlaces ((sIx n 0 lo:Nat):Int) ((sIx n n hi:Nat):Int) 1)) _ _ s;rw [zHu];exact zQP h
theorem zJp (xs:Array Value) (i k:Nat):((List.range k).filterMap fun (m:Nat)=>xs[((i:Int) + (m:Int) * 1).toNat]?).toArray = ((xs.toList.drop i).take k).toArray:=by
 have e:(fun (m:Nat)=>xs[((i:Int) + (m:Int) * 1).toNat]?) = fun m=>xs[i + m]?:=by
  funext m;have:((i:Int) + (m:Int) * 1).toNat = i + m:=by omega
  rw [this]
 rw [e];have:=pick_run xs i k;rw [List.filterMap_map] at this;have e2:((fun x=>xs[x]?) ∘ fun x=>i + x) = fun m=>xs[i + m]?:=rfl;rw [e2] at this;rw [this]
theorem zCz {t sl:Addr} {items:Array Value} {vl vu:Value} {lo hi:Option Int} {Q:Value -> Shared -> Prop} (ht:IsTup s.heap t items) (hs:s.heap.IsSliceOf sl vl vu .none) (pl:IsPart vl lo) (pu:IsPart vu hi)
  (hw:¬ (sIx items.size 0 lo = 0 /\ sIx items.size items.size hi = items.size))
  (h:Q (.ref s.heap.objs.size) { s with heap:=s.heap.push { cls:=.type "tuple", data:=.seq ((items.toList.drop (sIx items.size 0 lo)).take (sIx items.size items.size hi - sIx items.size 0 lo)).toArray } })
  (hsz:items.size <= sizeLine):wpAny (model prog w) A (getItem (.ref t) (.ref sl)) Q E s:=by
 have htake:sizeOk (.seq ((items.toList.drop (sIx items.size 0 lo)).take (sIx items.size items.size hi - sIx items.size 0 lo)).toArray):=by
  show ((items.toList.drop (sIx items.size 0 lo)).take (sIx items.size items.size hi - sIx items.size 0 lo)).toArray.size <= sizeLine;rw [zQV,zRl,List.length_drop,zQ6];omega
 have hj:sIx items.size items.size hi <= items.size:=zNF _ _ (zQT _) hi;obtain ⟨os,hos,hcs,hds⟩:=id hs;have hTs:s.TypeIs (.ref sl) "slice" := ⟨os,hos,hcs⟩;unfold getItem;try with_reducible refine zRG ?_
 first | refine zQN (zQP ?_) | skip
 refine zQN (wpAny_sequenceKey ht.typeIs (by decide) ?_)
 refine zQN (zQz (name:=Str.ofString "__getitem__") ht.typeIs zRv
  (zQ0 zRv ht.typeIs entry_tuple_getitem ?_ (args_tuple_getitem _ _)))
 show wpAny _ _ (Builtin.Tuple.tupleItemsOf (.ref t) >>= _) _ _ s;refine zQN (tupleItemsOf_ ht ?_);refine zQN (wpAny_typeOf hTs ?_);rw [zQc (by decide)];refine zQN (zBi hs pl pu ?_);have hno:¬ ((((sIx items.size 0 lo:Nat):Int) == 0 && (1:Int) == 1 && (sIx items.size items.size hi - sIx items.size 0 lo) == items.size) = true):=by
  intro q;rw [zQx,zQx] at q;have q1:((sIx items.size 0 lo:Nat):Int) = 0:=eq_of_beq q.1.1;have q2:sIx items.size items.size hi - sIx items.size 0 lo = items.size:=eq_of_beq q.2;exact hw ⟨by omega,by omega⟩
 show wpAny _ _ (if (((sIx items.size 0 lo:Nat):Int) == 0 && (1:Int) == 1 && (sIx items.size items.size hi - sIx items.size 0 lo) == items.size) = true then _ else _) _ _ s;rw [zQf hno,zJp]
 first
  | exact zQN (m:=Builtin.Tuple.tupleExact _) (zQq (zQP ⟨_,rfl,zQP h⟩) htake)
  | exact zQN (m:=Builtin.Tuple.tupleExact _) (zQq (zQN (zQP (zQP ⟨_,rfl,zQP h⟩))) htake)
  | exact zQN (zQN (m:=Builtin.Tuple.tupleExact _) (zQq (zQP (zQP ⟨_,rfl,zQP h⟩)) htake))
  | exact zQN (zQN (m:=Builtin.Tuple.tupleExact _) (zQq (zQP ⟨_,rfl,zQP h⟩) htake))
end
end HT
namespace L2
open PySem PySem.Spec PyProof.Rows
abbrev TO:=St -> Hp -> (Option Int -> Hp -> Prop) -> Prop
def PO (X:Cx) (e:Option Expr) (t:TO):Prop :=
 ∀ (zB:List (Addr × Obj)) (s:Shared) (σ:St) (H:Hp) (Q:Option Int -> Hp -> Prop),Inv X zB σ H s -> t σ H Q ->
  wpAny (model X.prog X.w) X.A (evalPart e X.env) (fun u s'=>∃ o H',Inv X zB σ H' s' /\ IsPart u o /\ Q o H') X.xe s
def zLk:TO:=fun _ H Q=>Q none H
def zPU (t:TE):TO:=fun σ H Q=>t σ H fun x H1=>∃ i,x = .int i /\ Q (some i) H1
theorem zHT {ns:List Int}:∀ {us:List Value},zU (ns.map V.int) us -> IntsAre us ns:=by
 induction ns with
 | nil=>intro us r; rw [List.map_nil] at r; cases r; exact .nil
 | cons n ns ih=>
  intro us r;rw [zQg] at r;cases r with
  | cons r1 r2=>
   obtain ⟨t,e⟩:=r1;subst e;exact .cons n t (ih r2)
section
variable {X:Cx} {e:Expr} {te:TE} {lo hi:Option Expr} {tl th:TO} {pos p2:Pos}
theorem zMd:PO X none zLk:=by
 intro zB s σ H Q I h;rw [evalPart_none];exact zQP ⟨none,H,I,.none,h⟩
theorem zMQ (h:PE X e te):PO X (some e) (zPU te):=by
 intro zB s σ H Q I hw;rw [evalPart_some];refine thn (h zB s σ H _ I hw) fun u s1 ⟨x,H1,I1,r1,q1⟩=>?_;obtain ⟨i,rfl,q⟩:=q1;obtain ⟨t,rfl⟩:=r1;exact ⟨some i,H1,I1,.int i t,q⟩
def SlR (X:Cx) (r:V -> Option Int -> Option Int -> Hp -> VK -> Prop):Prop :=
 ∀ (zB:List (Addr × Obj)) (s:Shared) (σ:St) (H:Hp) (x:V) (v vl vu:Value) (lo hi:Option Int) (sl:Addr) (Q:VK),Inv X zB σ H s -> ze x v -> s.heap.IsSliceOf sl vl vu .none -> IsPart vl lo -> IsPart vu hi -> r x lo hi H Q ->
  ∃ T id,typeLookup (.type T) "__getitem__" = pure (some (.builtin id)) /\ s.TypeIs v T /\ wpAny (model X.prog X.w) X.A (getItem v (.ref sl)) (EP X zB σ Q) X.xe s
theorem SlR.or {r r':V -> Option Int -> Option Int -> Hp -> VK -> Prop} (h:SlR X r) (h':SlR X r'):SlR X (fun x lo hi H Q=>r x lo hi H Q \/ r' x lo hi H Q):=by
 intro zB s σ H x v vl vu lo hi sl Q I rx hs pl pu q;rcases q with q | q
 ·exact h zB s σ H x v vl vu lo hi sl Q I rx hs pl pu q
 ·exact h' zB s σ H x v vl vu lo hi sl Q I rx hs pl pu q
def tSl (r:V -> Option Int -> Option Int -> Hp -> VK -> Prop) (te:TE) (tl th:TO):TE:=fun σ H Q=>te σ H fun x H1=>tl σ H1 fun l H2=>th σ H2 fun u H3=>r x l u H3 Q
theorem zLL {r:V -> Option Int -> Option Int -> Hp -> VK -> Prop} (hr:SlR X r) (he:PE X e te) (hl:PO X lo tl) (hu:PO X hi th):PE X (.Subscript e (.Slice lo hi none p2) pos) (tSl r te tl th):=by
 intro zB s σ H Q I h;refine Subscript_ (thn (he zB s σ H _ I h) fun v s1 ⟨x,H1,I1,r1,q1⟩=>?_);refine wpAny_Slice (thn (hl zB s1 σ H1 _ I1 q1) fun vl s2 ⟨l,H2,I2,pl,q2⟩=>thn (hu zB s2 σ H2 _ I2 q2) fun vu s3 ⟨u,H3,I3,pu,q3⟩=>?_);rw [evalPart_none];refine zQP ?_;have I4:Inv X zB σ H3 { s3 with heap:=s3.heap.push { cls:=.type "slice", data:=.fields #[vl,vu,.none] } }:=I3.kept (t':=s3.toks) fun b ob q=>zQO _ q;obtain ⟨T,id,hT,ht,hg⟩:=hr zB { s3 with heap:=s3.heap.push { cls:=.type "slice", data:=.fields #[vl,vu,.none] } } σ H3 x v vl vu l u s3.heap.objs.size Q I4 r1 (Heap.IsSliceOf.new ..) pl pu q3;show wpAny (model X.prog X.w) X.A (subscriptTail e (.Slice lo hi none p2) v (.ref s3.heap.objs.size)) (EP X zB σ Q) X.xe { s3 with heap:=s3.heap.push { cls:=.type "slice", data:=.fields #[vl,vu,.none] } };exact tail_any (ops:=[.ref s3.heap.objs.size,v]) ht hT hg (by with_unfolding_all rfl)
def zHB (xs:List V) (lo hi:Option Int):List V:=(xs.drop (HT.sIx xs.length 0 lo)).take (HT.sIx xs.length xs.length hi - HT.sIx xs.length 0 lo)
theorem zDe (xs:List V) (lo hi:Option Int):(zHB xs lo hi).length <= xs.length:=by
 unfold zHB;rw [zRl,List.length_drop];omega
def zQB (K:PySem.W.Frag):V -> Option Int -> Option Int -> Hp -> VK -> Prop:=fun x lo hi H Q=>∃ a xs,x = .ref a /\ SqT K H a xs /\
 ¬ (HT.sIx xs.length 0 lo = 0 /\ HT.sIx xs.length xs.length hi = xs.length) /\ ∀ p,H p = none -> Q (.ref p) (upd H p (.tup (zHB xs lo hi)))
theorem zNA:SlR X (zQB X.K):=by
 intro zB s σ H x v vl vu lo hi sl Q I rx hs pl pu h;obtain ⟨a,xs,rfl,hx,hw,q⟩:=h;cases rx;obtain ⟨its,r,ht,hz⟩:=I.tuple hx;have hlen:its.toArray.size = xs.length:=by rw [zQV]; exact r.length.symm
 refine ⟨"tuple", _,zRv.lookup,ht.typeIs,?_⟩;refine HT.zCz ht hs pl pu (by rw [hlen]; exact hw) ?_ (by rw [hlen]; exact hz);rw [hlen];refine ⟨.ref s.heap.objs.size,_,I.laid (t':=s.toks) (o:=.tup (zHB xs lo hi)) (fun b ob q=>zQO _ q) (zQT _) ?_,rfl,q _ (I.hok.fresh (zQT _))⟩;exact ⟨zQo (zDe xs lo hi) hz,_,(r.drop (HT.sIx xs.length 0 lo)).take (HT.sIx xs.length xs.length hi - HT.sIx xs.length 0 lo),zBB.new _ _⟩
def zM3 (K:PySem.W.Frag):R2:=fun x y H Q=>∃ a b xs ys,x = .ref a /\ y = .ref b /\ SqT K H a xs /\ SqT K H b ys /\ xs ≠ [] /\ xs.length + ys.length <= sizeLine /\
 (ys = [] -> Q (.ref a) H) /\ (ys ≠ [] -> ∀ p,H p = none -> Q (.ref p) (upd H p (.tup (xs ++ ys))))
theorem zU.nil_iff {xs:List V} {us:List Value} (r:zU xs us):us = [] ↔ xs = []:=by
 cases r with
 | nil=>simp
 | cons _ _=>simp
theorem zL2:OpR X (binaryOp .Add) (zM3 X.K):=by
 intro zB s σ H x y v u Q I rx ry h;obtain ⟨a,b,xs,ys,rfl,rfl,ha,hb,hx,hz,q1,q2⟩:=h;cases rx;cases ry;obtain ⟨its,r1,p1,_⟩:=I.tuple ha;obtain ⟨its2,r2,p2,_⟩:=I.tuple hb;refine HT.zMO p1 p2 (fun z=>hx (r1.nil_iff.mp z)) (fun z=>⟨.ref a,H,I,rfl,q1 (r2.nil_iff.mp z)⟩) (fun z=>?_) (by rw [<- r1.length,<- r2.length]; exact hz);refine ⟨.ref s.heap.objs.size,_,I.laid (t':=s.toks) (o:=.tup (xs ++ ys)) (fun b ob q=>zQO _ q) (zQT _) ?_,rfl,q2 (fun w=>z (r2.nil_iff.mpr w)) _ (I.hok.fresh (zQT _))⟩;exact ⟨by rw [zQd]; exact hz,_,r1.append r2,zBB.new _ _⟩
end
def ixN (n:Nat) (i:Int):Option Nat:=if 0 <= i then (if i < n then some i.toNat else none) else if -(n:Int) <= i then some (i + n).toNat else none
def atI {α:Type} (xs:List α) (i:Int):Option α:=(ixN xs.length i).bind fun j=>xs[j]?
theorem zFX {n:Nat} {i:Int} {j:Nat} (h:ixN n i = some j):seqIndex? i n = some j /\ j < n /\ -(n:Int) <= i /\ i < n:=by
 unfold ixN at h;by_cases h0:0 <= i
 ·rw [zQc h0] at h;by_cases h1:i < n
  ·rw [zQc h1] at h;have e:i.toNat = j:=zRN h;exact ⟨by rw [seqIndex_of h0 h1,e],by omega,by omega,h1⟩
  ·rw [zQf h1] at h; cases h
 ·rw [zQf h0] at h;by_cases h1 : -(n:Int) <= i
  ·rw [zQc h1] at h;have e:(i + n).toNat = j:=zRN h;exact ⟨by rw [seqIndex_neg (by omega) h1,e],by omega,h1,by omega⟩
  ·rw [zQf h1] at h; cases h
theorem zFY {α:Type} {xs:List α} {i:Int} {v:α} (h:atI xs i = some v):∃ j,seqIndex? i xs.length = some j /\ xs[j]? = some v /\ j < xs.length /\ -(xs.length:Int) <= i /\ i < xs.length:=by
 unfold atI at h;cases e:ixN xs.length i with
 | none=>rw [e] at h; cases h
 | some j=>
  rw [e] at h;obtain ⟨h1,h2,h3,h4⟩:=zFX e;exact ⟨j,h1,h,h2,h3,h4⟩
theorem zIO {α:Type} {xs:List α} {j:Nat} {v:α} (h:xs[j]? = some v):atI xs (j:Int) = some v:=by
 have hj:j < xs.length:=(zQQ.mp h).1;have e:ixN xs.length (j:Int) = some j:=by
  unfold ixN;rw [zQc (by omega),zQc (by omega)]; simp
 unfold atI; rw [e]; exact h
theorem zKN {α:Type} (xs:List α) (v:α):atI (xs ++ [v]) (-1) = some v:=by
 have hl:(xs ++ [v]).length = xs.length + 1:=by simp
 have e:ixN (xs ++ [v]).length (-1) = some xs.length:=by
  unfold ixN;rw [hl,zQf (by decide),zQc (by omega)];congr 1;omega
 unfold atI;rw [e];show (xs ++ [v])[xs.length]? = some v;simp
def zIV (b:Expr):Prop:=∀ o i,subscripted b false o i = operate [o,i] (getItem o i)
def IxR (X:Cx) (r:R2):Prop :=
 ∀ (value slice:Expr) (zB:List (Addr × Obj)) (s:Shared) (σ:St) (H:Hp) (x y:V) (v u:Value) (Q:VK),Inv X zB σ H s -> ze x v -> ze y u -> r x y H Q ->
  subscripted slice false v u = operate [v,u] (getItem v u) -> wpAny (model X.prog X.w) X.A (subscriptTail value slice v u) (EP X zB σ Q) X.xe s
def MtR (X:Cx) (id:String) (r:V -> List V -> Hp -> VK -> Prop):Prop :=
 ∀ (zB:List (Addr × Obj)) (s:Shared) (σ:St) (H:Hp) (x:V) (xs:List V) (v:Value) (us:List Value) (Q:VK),Inv X zB σ H s -> ze x v -> zU xs us -> r x xs H Q ->
  wpAny (model X.prog X.w) X.A (call (.builtin id) (v :: us)) (EP X zB σ Q) X.xe s
section
variable {X:Cx} {a b:Expr} {ta tb:TE} {pos:Pos}
theorem IxR.or {r r':R2} (h:IxR X r) (h':IxR X r'):IxR X (fun x y H Q=>r x y H Q \/ r' x y H Q):=by
 intro value slice zB s σ H x y v u Q I rx ry q hs;rcases q with q | q
 ·exact h value slice zB s σ H x y v u Q I rx ry q hs
 ·exact h' value slice zB s σ H x y v u Q I rx ry q hs
theorem zPO {r:R2} (hr:IxR X r) (ha:PE X a ta) (hb:PE X b tb) (hs:zIV b):PE X (.Subscript a b pos) (tOp r ta tb):=by
 intro zB s σ H Q I h;exact Subscript_ (zNL ha hb I h fun v u s2 x y H2 I2 rx ry q=>hr a b zB s2 σ H2 x y v u Q I2 rx ry q (hs _ _))
def zPR (K:PySem.W.Frag):R2:=fun x y H Q=>∃ p xs i v,x = .ref p /\ y = .int i /\ SqL K H p xs /\ atI xs i = some v /\ Q v H
def zOu (K:PySem.W.Frag):R2:=fun x y H Q=>∃ p xs i v,x = .ref p /\ y = .int i /\ SqT K H p xs /\ atI xs i = some v /\ Q v H
def zPT:R2:=fun x y H Q=>∃ z i c,x = .str z /\ y = .int i /\ z.length <= sizeLine /\ atI z.cps.toList i = some c /\ Q (.str ⟨#[c]⟩) H
theorem zMD:IxR X (zPR X.K):=by
 intro value slice zB s σ H x y v u Q I rx ry h hs;obtain ⟨p,xs,i,z,rfl,rfl,hq,he,q⟩:=h;cases rx;obtain ⟨t,rfl⟩:=ry;obtain ⟨its,r,pl,hz⟩:=I.list hq;obtain ⟨j,h1,h2,h3,h4,h5⟩:=zFY he;obtain ⟨w,ew,rw'⟩:=r.get h2;have hl:=r.length;have hn:=zDD;have fin:EP X zB σ Q w s:=⟨z,H,I,rw',q⟩;by_cases h0:0 <= i
 ·have hj:i.toNat = j:=by
   rw [seqIndex_of h0 h5] at h1;exact zRN h1
  exact item_listR pl.isList h0 (by omega) (by rw [hj]; simpa using ew) fin hs
 ·have hj:(i + (its.toArray.size:Int)).toNat = j:=by
   rw [seqIndex_neg (by omega) h4] at h1;rw [zQV,<- hl];exact zRN h1
  exact subscriptTail_builtinR (x:=w) pl.isList.typeIs slot_list_getitem.lookup
   (wpAny_getItem_list_neg (Q:=fun r s'=>r = w /\ EP X zB σ Q r s') pl.isList (by omega) (by rw [zQV] <;> omega) (by omega) (by rw [hj]; simpa using ew) ⟨rfl,fin⟩) hs
theorem zOE:IxR X (zOu X.K):=by
 intro value slice zB s σ H x y v u Q I rx ry h hs;obtain ⟨p,xs,i,z,rfl,rfl,hq,he,q⟩:=h;cases rx;obtain ⟨t,rfl⟩:=ry;obtain ⟨its,r,pl,hz⟩:=I.tuple hq;obtain ⟨j,h1,h2,h3,h4,h5⟩:=zFY he;obtain ⟨w,ew,rw'⟩:=r.get h2;have hl:=r.length;have hn:=zDD;have fin:EP X zB σ Q w s:=⟨z,H,I,rw',q⟩
 exact subscriptTail_builtinR (x:=w) pl.typeIs slot_tuple_getitem.lookup
  (getItem_tuple (j:=j) (Q:=fun r s'=>r = w /\ EP X zB σ Q r s') pl (by omega) (by omega) (by rw [zQV,<- hl]; exact h1) (by simpa using ew) ⟨rfl,fin⟩) hs
theorem zNx:IxR X zPT:=by
 intro value slice zB s σ H x y v u Q I rx ry h hs;obtain ⟨z,i,c,rfl,rfl,hz,he,q⟩:=h;obtain ⟨t,rfl⟩:=rx;obtain ⟨t',rfl⟩:=ry;obtain ⟨j,h1,h2,h3,h4,h5⟩:=zFY he;have hl:z.cps.toList.length = z.length:=by simp [Str.length]
 rw [hl] at h1 h4 h5;have hn:=zDD;exact tail_any (typeIs_str s z t) slot_str_getitem.lookup (getItem_str (c:=c) (by
  have e1:decide (i < -(2 ^ 63:Int)) = false:=zQw (by omega);have e2:decide (i ≥ 2 ^ 63) = false:=zQw (by omega);rw [e1,e2,Bool.or_false]) (by rw [h1]; simpa using h2) ⟨.str ⟨#[c]⟩,H,I.tok _,⟨_,rfl⟩,q⟩) hs
def rIx (K:PySem.W.Frag):R2:=fun x y H Q=>zPR K x y H Q \/ zOu K x y H Q \/ zPT x y H Q
theorem zNh:IxR X (rIx X.K):=zMD.or (zOE.or zNx)
theorem zHK (its:List Value) (n j:Nat) (u:Value):Obj.mapSeq (·.setIfInBounds j u) { cls:=.type "list", data:=.seq its.toArray n } = { cls:=.type "list", data:=.seq (its.set j u).toArray n }:=by
 simp [Obj.mapSeq]
theorem Inv.lst {zB:List (Addr × Obj)} {σ:St} {H:Hp} {s:Shared} {p:Addr} {xs:List V} (I:Inv X zB σ H s) (h:H p = some (.lst xs)) :
  ∃ (its:List Value) (n:Nat),zU xs its /\ s.heap.get? p = some { cls:=.type "list", data:=.seq its.toArray n } /\ xs.length <= sizeLine:=by
 obtain ⟨z,its,n,r,e⟩:=I.hok p _ h;exact ⟨its,n,r,e,z⟩
theorem Inv.lstUpd {zB:List (Addr × Obj)} {σ:St} {H:Hp} {s:Shared} {p:Addr} {xs ys:List V} {its its':List Value} {n n':Nat} {f:Obj -> Obj} (I:Inv X zB σ H s) (h:H p = some (.lst xs))
  (ho:s.heap.get? p = some { cls:=.type "list", data:=.seq its.toArray n }) (hf:f { cls:=.type "list", data:=.seq its.toArray n } = { cls:=.type "list", data:=.seq its'.toArray n' }) (r:zU ys its') (hz:ys.length <= sizeLine) (t:Nat) :
  Inv X zB σ (upd H p (.lst ys)) { s with heap:=s.heap.update p f,toks:=t }:=by
 have e:(s.heap.update p f).get? p = some { cls:=.type "list", data:=.seq its'.toArray n' }:=by
  rw [Heap.get?_update_self f ho (by rw [hf] <;> rfl),hf]
 refine I.write (x:=p) (e:=p) (by rw [h]; trivial) (.inl rfl) (fun b u hb q=>(zQ4 _ _ (Ne.symm hb)).trans q) ⟨_,e⟩ ?_;exact ⟨hz,its',n',r,e⟩
def zPV:V -> V -> V -> Hp -> (Hp -> Prop) -> Prop:=fun o i v H Q=>∃ p xs k j,o = .ref p /\ i = .int k /\ H p = some (.lst xs) /\ ixN xs.length k = some j /\ Q (upd H p (.lst (xs.set j v)))
theorem zKs:zPr X zPV:=by
 intro zB s σ H o i v ov iv u Q I ro ri rv h;obtain ⟨p,xs,k,j,rfl,rfl,hp,hj,q⟩:=h;cases ro;obtain ⟨t,rfl⟩:=ri;obtain ⟨its,n,r,ho,hz⟩:=I.lst hp;obtain ⟨h1,h2,h3,h4⟩:=zFX hj;have hl:=r.length;have hn:=zDD;have I':Inv X zB σ (upd H p (.lst (xs.set j v))) { s with heap:=s.heap.update p (Obj.mapSeq (·.setIfInBounds j u)) } :=
  I.lstUpd hp ho (zHK its n j u) (r.set rv j) (by rw [List.length_set]; exact hz) s.toks
 by_cases h0:0 <= k
 ·have hk:k.toNat = j:=by
   rw [seqIndex_of h0 h4] at h1;exact zRN h1
  exact PySem.W.ki_setAt ho h0 (by omega) (by rw [zQV,<- hl]; exact h4) (by rw [hk]; exact ⟨_,I',q⟩)
 ·have hk:(k + (its.toArray.size:Int)).toNat = j:=by
   rw [seqIndex_neg (by omega) h3] at h1;rw [zQV,<- hl];exact zRN h1
  exact PySem.W.ki_setBack ho (by omega) (by rw [zQV,<- hl]; exact h3) (by omega) (by rw [hk]; exact ⟨_,I',q⟩)
theorem zFV (lo hi:Option Int) (n:Nat):(sliceBounds lo hi none n).1 = ((HT.sIx n 0 lo:Nat):Int) /\ (sliceBounds lo hi none n).2.1 = ((HT.sIx n n hi:Nat):Int) /\ (sliceBounds lo hi none n).2.2 = 1:=by
 refine ⟨?_,?_,rfl⟩
 ·cases lo with
  | none=>simp [sliceBounds,HT.sIx]
  | some i=>
   simp only [sliceBounds,HT.sIx,Option.getD_none,show (1:Int) > 0 by decide,if_true];by_cases h:i < 0
   ·simp only [h,if_true] <;> omega
   ·simp only [h,if_false] <;> omega
 ·cases hi with
  | none=>simp [sliceBounds,HT.sIx]
  | some i=>
   simp only [sliceBounds,HT.sIx,Option.getD_none,show (1:Int) > 0 by decide,if_true];by_cases h:i < 0
   ·simp only [h,if_true] <;> omega
   ·simp only [h,if_false] <;> omega
theorem zEq (its:List Value) (lo hi:Option Int):slicePick its.toArray lo hi none = ((its.drop (HT.sIx its.length 0 lo)).take (HT.sIx its.length its.length hi - HT.sIx its.length 0 lo)).toArray:=by
 obtain ⟨h1,h2,h3⟩:=zFV lo hi its.toArray.size;unfold slicePick;rw [h1,h2,h3];simp only [sliceRange_one,pick_run,zQV] <;> rfl
def zQD (K:PySem.W.Frag):V -> Option Int -> Option Int -> Hp -> VK -> Prop:=fun x lo hi H Q=>∃ a xs,x = .ref a /\ SqL K H a xs /\ ∀ p,H p = none -> Q (.ref p) (upd H p (.lst (zHB xs lo hi)))
theorem zLx:SlR X (zQD X.K):=by
 intro zB s σ H x v vl vu lo hi sl Q I rx hs pl pu h;obtain ⟨a,xs,rfl,hx,q⟩:=h;cases rx;obtain ⟨its,r,ht,hz⟩:=I.list hx;have hlen:=r.length;refine ⟨"list", _,slot_list_getitem.lookup,ht.isList.typeIs,?_⟩;refine wpAny_getItem_list_slice ht.isList hs pl pu .none (by simp) ?_ (by rw [zQV] <;> omega);rw [zEq,<- hlen];refine ⟨.ref s.heap.objs.size,_,I.laid (t':=s.toks) (o:=.lst (zHB xs lo hi)) (fun b ob q=>zQO _ q) (zQT _) ?_,rfl,q _ (I.hok.fresh (zQT _))⟩;exact ⟨zQo (zDe xs lo hi) hz,_,0,(r.drop (HT.sIx xs.length 0 lo)).take (HT.sIx xs.length xs.length hi - HT.sIx xs.length 0 lo),zQX _ rfl⟩
def zCs:V -> Bool
 | .non=>true
 | .bl _=>true
 | .int _=>true
 | .str _=>true
 | _=>false
def eqV:V -> V -> Bool
 | .non,.non=>true
 | .bl a,.bl b=>a == b
 | .bl a,.int b=>(if a then 1 else 0) == b
 | .int a,.bl b=>a == (if b then 1 else 0)
 | .int a,.int b=>a == b
 | .str a,.str b=>a == b
 | _,_=>false
theorem zOD {A:Around} {s:Shared} {y x:V} {u v:Value} (ry:ze y u) (rx:ze x v) (fy:zCs y = true) (fx:zCs x = true):SeqAt.EqAt A s u v (eqV y x):=by
 cases y with
 | non=>
  cases ry;cases x with
  | non=>cases rx; exact SeqAt.EqAt.same _
  | bl b=>cases rx; exact SeqAt.EqAt.none_bool b
  | int b=>obtain ⟨t,rfl⟩:=rx; exact SeqAt.EqAt.none_int b t
  | str b=>obtain ⟨t,rfl⟩:=rx; exact SeqAt.EqAt.none_str b t
  | _=>exact absurd (show false = true from fx) zQj
 | bl a=>
  cases ry;cases x with
  | non=>cases rx; exact SeqAt.EqAt.bool_none a
  | bl b=>cases rx; exact SeqAt.EqAt.bool_bool a b
  | int b=>obtain ⟨t,rfl⟩:=rx; exact SeqAt.EqAt.bool_int a b t
  | str b=>obtain ⟨t,rfl⟩:=rx; exact SeqAt.EqAt.bool_str a b t
  | _=>exact absurd (show false = true from fx) zQj
 | int a=>
  obtain ⟨t',rfl⟩:=ry;cases x with
  | non=>cases rx; exact SeqAt.EqAt.int_none a t'
  | bl b=>cases rx; exact SeqAt.EqAt.int_bool a t' b
  | int b=>obtain ⟨t,rfl⟩:=rx; exact SeqAt.EqAt.int_int a t' b t
  | str b=>obtain ⟨t,rfl⟩:=rx; exact SeqAt.EqAt.int_str a t' b t
  | _=>exact absurd (show false = true from fx) zQj
 | str a=>
  obtain ⟨t',rfl⟩:=ry;cases x with
  | non=>cases rx; exact SeqAt.EqAt.str_none a t'
  | bl b=>cases rx; exact SeqAt.EqAt.str_bool a t' b
  | int b=>obtain ⟨t,rfl⟩:=rx; exact SeqAt.EqAt.str_int a t' b t
  | str b=>obtain ⟨t,rfl⟩:=rx; exact SeqAt.EqAt.str_str a t' b t
  | _=>exact absurd (show false = true from fx) zQj
 | _=>exact absurd (show false = true from fy) zQj
def eqU (x:V) (u:Value):Bool:=match u with
 | .none=>eqV .non x
 | .bool b=>eqV (.bl b) x
 | .int i _=>eqV (.int i) x
 | .str z _=>eqV (.str z) x
 | _=>false
theorem zKy {x y:V} {u:Value} (r:ze y u) (f:zCs y = true):eqU x u = eqV y x:=by
 cases y with
 | non=>cases r; rfl
 | bl b=>cases r; rfl
 | int i=>obtain ⟨t,rfl⟩:=r; rfl
 | str z=>obtain ⟨t,rfl⟩:=r; rfl
 | _=>exact absurd (show false = true from f) zQj
theorem zDB {x:V}:∀ {xs:List V} {us:List Value},zU xs us -> xs.all zCs = true -> us.any (eqU x) = xs.any fun y=>eqV y x
 | _,_,.nil,_=>rfl
 | y :: xs,u :: us,.cons r t,f=>by
  rw [List.all_cons,zQx] at f;rw [zSz,zSz,zKy r f.1,zDB t f.2]
theorem zCM {A:Around} {s:Shared} {x:V} {v:Value} (rx:ze x v) (fx:zCs x = true):∀ {xs:List V} {us:List Value},zU xs us -> xs.all zCs = true -> ∀ u ∈ us,SeqAt.EqAt A s u v (eqU x u)
 | _,_,.nil,_=>fun u hu=>by cases hu
 | y :: xs,u :: us,.cons r t,f=>fun u' hu=>by
  rw [List.all_cons,zQx] at f;rcases zQZ.mp hu with rfl | hu
  ·rw [zKy r f.1]; exact zOD r rx f.1 fx
  ·exact zCM rx fx t f.2 u' hu
def inV (x:V) (xs:List V):Bool:=xs.any fun y=>eqV y x
def rIn (K:PySem.W.Frag) (neg:Bool):R2:=fun x y H Q=>∃ p xs,y = .ref p /\ (SqL K H p xs \/ SqT K H p xs) /\ zCs x = true /\ xs.all zCs = true /\ Q (.bl (if neg then !inV x xs else inV x xs)) H
theorem zI8:OpR X (compareOp .In) (rIn X.K false):=by
 intro zB s σ H x y v u Q I rx ry h;obtain ⟨p,xs,rfl,hq,fx,fs,q⟩:=h;cases ry;rcases hq with hq | hq
 ·obtain ⟨its,r,pl,hz⟩:=I.list hq;refine SeqAt.in_listAt (eqU x) pl.isList (fun w hw=>zCM rx fx r fs w (by simpa using hw)) ⟨.bl _,H,I,rfl,?_⟩;rw [show its.toArray.any (eqU x) = its.any (eqU x) by simp,zDB r fs];exact q
 ·obtain ⟨its,r,pl,hz⟩:=I.tuple hq;refine SeqAt.in_tupleAt (eqU x) pl (fun w hw=>zCM rx fx r fs w (by simpa using hw)) ⟨.bl _,H,I,rfl,?_⟩;rw [show its.toArray.any (eqU x) = its.any (eqU x) by simp,zDB r fs];exact q
theorem zFl:OpR X (compareOp .NotIn) (rIn X.K true):=by
 intro zB s σ H x y v u Q I rx ry h;obtain ⟨p,xs,rfl,hq,fx,fs,q⟩:=h;cases ry;rcases hq with hq | hq
 ·obtain ⟨its,r,pl,hz⟩:=I.list hq;refine SeqAt.notIn_listAt (eqU x) pl.isList (fun w hw=>zCM rx fx r fs w (by simpa using hw)) ⟨.bl _,H,I,rfl,?_⟩;rw [show its.toArray.any (eqU x) = its.any (eqU x) by simp,zDB r fs];exact q
 ·obtain ⟨its,r,pl,hz⟩:=I.tuple hq;refine SeqAt.notIn_tupleAt (eqU x) pl (fun w hw=>zCM rx fx r fs w (by simpa using hw)) ⟨.bl _,H,I,rfl,?_⟩;rw [show its.toArray.any (eqU x) = its.any (eqU x) by simp,zDB r fs];exact q
theorem zFe:zBC X (.builtin "len") (fun xs H Q=>∃ p ys,xs = [.ref p] /\ (SqL X.K H p ys \/ SqT X.K H p ys) /\ Q (.int ys.length) H):=by
 intro zB s σ H xs us Q I r h;obtain ⟨p,ys,rfl,hq,q⟩:=h;obtain ⟨u,rfl,rx⟩:=zCg r;cases rx;have hn:=zDD;rcases hq with hq | hq
 ·obtain ⟨its,r',pl,hz⟩:=I.list hq;have hlen:=r'.length;exact Calls.call_len_list pl.isList (by simp only [zQV] <;> omega) ⟨.int ys.length,H,I.tok _,⟨s.toks + 1,by rw [zQV,hlen]⟩,q⟩
 ·obtain ⟨its,r',pl,hz⟩:=I.tuple hq;have hlen:=r'.length;exact len_tuple pl (by simp only [zQV] <;> omega) ⟨.int ys.length,H,I.tok _,⟨s.toks + 1,by rw [zQV,hlen]⟩,q⟩
theorem zFW:zBC X (.type "list") (fun xs H Q=>∃ p ys,xs = [.ref p] /\ (SqL X.K H p ys \/ SqT X.K H p ys) /\ ∀ l,H l = none -> Q (.ref l) (upd H l (.lst ys))):=by
 intro zB s σ H xs us Q I r h;obtain ⟨p,ys,rfl,hq,q⟩:=h;obtain ⟨u,rfl,rx⟩:=zCg r;cases rx
 have fin:∀ (its:List Value),zU ys its -> ys.length <= sizeLine -> ∀ (h':Heap) (c':Nat),(∀ b o',s.heap.get? b = some o' -> h'.get? b = some o') ->
   h'.get? s.heap.objs.size = some { cls:=.type "list", dict:=none,data:=.seq its.toArray c',slots:=#[] } -> EP X zB σ Q (.ref s.heap.objs.size) { s with heap:=h' }:=fun its r' hz h' c' kp e=>
  ⟨.ref s.heap.objs.size,_,I.laid (t':=s.toks) kp (zQT _) (show zn X.prog X.w _ h' _ (.lst ys) from ⟨hz,its,c',r',e⟩),rfl,q _ (I.hok.fresh (zQT _))⟩
 rcases hq with hq | hq
 ·obtain ⟨its,r',pl,hz⟩:=I.list hq;have hlen:=r'.length;obtain ⟨o,ho,hc,n,hd⟩:=pl.isList;exact call_list_seq p (.inl rfl) ho hc hd (fun h' c' kp e=>fin its r' hz h' c' kp e) (by simp only [zQV] <;> omega)
 ·obtain ⟨its,r',pl,hz⟩:=I.tuple hq;have hlen:=r'.length;obtain ⟨o,ho,hc,n,hd⟩:=pl;exact call_list_seq p (.inr rfl) ho hc hd (fun h' c' kp e=>fin its r' hz h' c' kp e) (by simp only [zQV] <;> omega)
theorem zEl:zBC X (.type "tuple") (fun xs H Q=>∃ p ys,xs = [.ref p] /\ ((SqL X.K H p ys /\ ∀ l,H l = none -> Q (.ref l) (upd H l (.tup ys))) \/ (SqT X.K H p ys /\ Q (.ref p) H))):=by
 intro zB s σ H xs us Q I r h;obtain ⟨p,ys,rfl,h⟩:=h;obtain ⟨u,rfl,rx⟩:=zCg r;cases rx;rcases h with ⟨hq,q⟩ | ⟨hq,q⟩
 ·obtain ⟨its,r',pl,hz⟩:=I.list hq;have hlen:=r'.length;refine call_tuple_list pl.isList (fun h' kp=>?_) (by simp only [zQV] <;> omega);have I1:Inv X zB σ H { s with heap:=h' }:=I.kept (t':=s.toks) kp;have I2:Inv X zB σ (upd H h'.objs.size (.tup ys)) { s with heap:=h'.push { cls:=.type "tuple", data:=.seq its.toArray } } :=
   I1.laid (t':=s.toks) (fun b o e=>zQO _ e) (zQT _) (show zn X.prog X.w _ _ _ (.tup ys) from ⟨hz,its,r',zBB.new _ _⟩)
  exact ⟨.ref h'.objs.size,_,I2,rfl,q _ (I1.hok.fresh (zQT _))⟩
 ·obtain ⟨its,r',pl,hz⟩:=I.tuple hq;exact call_tuple_same pl ⟨.ref p,H,I,rfl,q⟩
def tyV (K:PySem.W.Frag) (T:String) (x:V) (H:Hp):Prop:=match x with
 | .str _=>T = "str"
 | .int _=>T = "int"
 | .ref p=>(T = "list" /\ ∃ xs,SqL K H p xs) \/ (T = "tuple" /\ ((∃ o,K.lookup p = some o /\ o.cls = .type "tuple" /\ o.dict = none) \/ ∃ xs,H p = some (.tup xs))) \/
   (T = "dict" /\ ((∃ kvs,H p = some (.dK kvs)) \/ ∃ kvs,H p = some (.dT kvs))) \/ (T = "set" /\ ∃ S n,H p = some (.set S n))
 | _=>False
theorem zNO {zB:List (Addr × Obj)} {σ:St} {H:Hp} {s:Shared} {T:String} {x:V} {v:Value} (I:Inv X zB σ H s) (r:ze x v) (ty:tyV X.K T x H) :
  s.TypeIs v T /\ ∀ a,v = .ref a -> ∃ ob,s.heap.get? a = some ob /\ ob.dict = none:=by
 cases x with
 | str z=>
  obtain ⟨t,rfl⟩:=r;cases (show T = "str" from ty);exact ⟨typeIs_str s z t,fun _ e=>nomatch e⟩
 | int i=>
  obtain ⟨t,rfl⟩:=r;cases (show T = "int" from ty);exact ⟨typeIs_int s i t,fun _ e=>nomatch e⟩
 | ref p=>
  cases r;rcases ty with ⟨rfl,xs,hq⟩ | ⟨rfl,⟨o,hk,hc,hd⟩ | ⟨xs,hq⟩⟩ | ⟨rfl,hk⟩ | ⟨rfl,S,n,hk⟩
  ·obtain ⟨its,_,pl,_⟩:=I.list hq;refine ⟨pl.isList.typeIs,fun a e=>?_⟩;cases e;obtain ⟨o,n,e,c,hd,_⟩:=pl;exact ⟨o,e,hd⟩
  ·refine ⟨⟨o,I.kIn p o hk,hc⟩,fun a e=>?_⟩;cases e;exact ⟨o,I.kIn _ o hk,hd⟩
  ·obtain ⟨_,its,_,o,e,c,_,hd⟩:=I.hok p _ hq;refine ⟨⟨o,e,c⟩,fun a e2=>?_⟩;cases e2;exact ⟨o,e,hd⟩
  ·have z:∃ o,s.heap.get? p = some o /\ o.ExactDict:=by
    rcases hk with ⟨kvs,hk⟩ | ⟨kvs,hk⟩
    ·obtain ⟨_,_,_,_,o,_,_,e,ex,_⟩:=I.hok p _ hk;exact ⟨o,e,ex⟩
    ·obtain ⟨_,_,_,_,o,_,_,e,ex,_⟩:=I.hok p _ hk;exact ⟨o,e,ex⟩
   obtain ⟨o,e,ex⟩:=z;refine ⟨⟨o,e,ex.1⟩,fun a e2=>?_⟩;cases e2;exact ⟨o,e,ex.2.1⟩
  ·obtain ⟨o,_,_,_,e,ex,_⟩:=I.hok p _ hk;refine ⟨⟨o,e,ex.1⟩,fun a e2=>?_⟩;cases e2;exact ⟨o,e,ex.2.1⟩
 | _=>exact False.elim ty
def tBM (K:PySem.W.Frag) (T:String) (r:V -> List V -> Hp -> VK -> Prop) (to:TE) (t:TA):TE:=fun σ H Q=>to σ H fun x H1=>tyV K T x H1 /\ t σ H1 fun xs H2=>r x xs H2 Q
variable {o e:Expr} {es:List Expr} {to:TE} {t:TA} {name:Str} {apos cpos:Pos} {T id:String} {r:V -> List V -> Hp -> VK -> Prop}
theorem zIa (pa:PlainAttrs T) (slot:Slot T name id) (hty:typeOf (.builtin id) = pure (.type "method_descriptor")) (hm:MtR X id r) (ho:PE X o to) (ha:PA X (e :: es) t)
  (hbase:attributeBase o name X.env (eval o X.env) = eval o X.env:=by rfl)
  (hfew:((backTo cpos (starEach (e :: es) X.env)).all (fun x=> !x.1) && (backToKw cpos (keywordEach [] X.env)).all (fun x=>x.1.isSome)
   && decide ((e :: es).length + ([]:List Keyword).length + (if ([]:List Keyword).isEmpty then 0 else 1) < 30)) = true:=by rfl)
  (hline:(apos.endLine == cpos.line) = true:=by rfl) (hs:starEach (e :: es) X.env = (false,eval e X.env) :: starEach es X.env:=by rfl) (hplain:(backTo cpos (starEach es X.env)).any (·.1) = false:=by rfl) :
  PE X (.Call (.Attribute o name apos) (e :: es) [] cpos) (tBM X.K T r to t):=by
 intro zB s σ H Q I h;refine wpAny_Call_method_late hbase hfew hline rfl (thn (ho zB s σ H _ I h) fun v s1 ⟨x,H1,I1,r1,ty,q1⟩=>?_);obtain ⟨h1,h2⟩:=zNO I1 r1 ty;refine ⟨T,id,pa,slot,hty,h1,h2,?_⟩;have hA:=ha cpos zB s1 σ H1 _ I1 q1;rw [hs] at hA ⊢;refine Calls.callWith_builtin (by show (false || (backTo cpos (starEach es X.env)).any (·.1)) = false; rw [hplain] <;> rfl) (Calls.evalArgs_plain ?_);exact thn hA fun us s2 ⟨vs,H2,I2,r2,q2⟩=>hm zB s2 σ H2 x vs v us Q I2 r1 r2 q2
end
def MtM (X:Cx) (id:String) (r:V -> List V -> Hp -> VK -> Prop):Prop :=
 ∀ (zB:List (Addr × Obj)) (s:Shared) (σ:St) (H:Hp) (x:V) (xs:List V) (v:Value) (us:List Value) (Q:VK),Inv X zB σ H s -> ze x v -> zU xs us -> r x xs H Q ->
  wpAny (model X.prog X.w) X.A (call (.builtin id) (v :: us)) (EP X zB σ Q) X.xe s
theorem zU.one:∀ {x:V} {us:List Value},zU [x] us -> ∃ u,us = [u] /\ ze x u
 | _,_,.cons r .nil=>⟨_,rfl,r⟩
theorem zU.eraseIdx:∀ {xs:List V} {us:List Value} (i:Nat),zU xs us -> zU (xs.eraseIdx i) (us.eraseIdx i)
 | _,_,_,.nil=> .nil
 | _,_,0,.cons _ t=>t
 | _,_,i + 1,.cons r t=> .cons r (zU.eraseIdx i t)
theorem zU.rep {xs:List V} {us:List Value} (h:zU xs us):∀ k:Nat,zU (List.replicate k xs).flatten (List.replicate k us).flatten
 | 0=> .nil
 | k + 1=>by
  rw [zRg,zRg,zSM,zSM];exact zU.append h (zU.rep h k)
theorem zFQ {α:Type}:∀ (l:List α) (i:Nat),(l.eraseIdx i).length <= l.length
 | [],_=>zQT _
 | _ :: _,0=>Nat.le_succ _
 | _ :: r,i + 1=>Nat.succ_le_succ (zFQ r i)
theorem zDL (its:List Value):∀ (k:Nat) (acc:List Value),
  List.foldl (fun x1 x2=>x1 ++ x2) acc.toArray (List.replicate k its.toArray) = (acc ++ (List.replicate k its).flatten).toArray
 | 0,acc=>by simp
 | k + 1,acc=>by
  have e:acc.toArray ++ its.toArray = (acc ++ its).toArray:=by simp
  have e2:(acc ++ its) ++ (List.replicate k its).flatten = acc ++ (List.replicate (k + 1) its).flatten:=by
   rw [zRg,zSM,List.append_assoc]
  rw [<- e2,<- zDL its k (acc ++ its),<- e,zRg,List.foldl_cons]
section
variable {X:Cx} {zB:List (Addr × Obj)} {σ:St} {H:Hp} {s:Shared} {l b:Addr} {xs ys zs:List V}
theorem Inv.lset {its its':List Value} {n:Nat} {f:Array Value -> Array Value} {t':Nat} (I:Inv X zB σ H s) (hH:H l = some (.lst xs))
  (e:s.heap.get? l = some { cls:=.type "list", data:=.seq its.toArray n }) (hf:f its.toArray = its'.toArray) (hv:zU ys its') (hz:ys.length <= sizeLine) :
  Inv X zB σ (upd H l (.lst ys)) { s with heap:=s.heap.update l (Obj.mapSeq f),toks:=t' }:=by
 have q:=PySem.IsL.update e f;rw [hf] at q;refine I.write (x:=l) (e:=l) (by rw [hH]; exact trivial) (.inl rfl) (fun b' u hb hu=>(zQ4 s.heap (Obj.mapSeq f) (Ne.symm hb)).trans hu) ⟨_,q⟩ ?_;exact ⟨hz,its',_,hv,q⟩
theorem Inv.lnew {its:List Value} {t':Nat} (I:Inv X zB σ H s) (hv:zU ys its) (hz:ys.length <= sizeLine) :
  Inv X zB σ (upd H s.heap.objs.size (.lst ys)) { s with heap:=s.heap.push { cls:=.type "list", data:=.seq its.toArray },toks:=t' } :=
 I.laid (fun _ _ q=>zQO _ q) (zQT _) ⟨hz,its,0,hv,zQX _ rfl⟩
theorem Inv.fresh (I:Inv X zB σ H s):H s.heap.objs.size = none:=I.hok.fresh (zQT _)
theorem Inv.lstM (I:Inv X zB σ H s) (hH:H l = some (.lst xs)):xs.length <= sizeLine /\ ∃ (its:List Value) (n:Nat),zU xs its /\ xs.length = its.length /\ s.heap.get? l = some { cls:=.type "list", data:=.seq its.toArray n }:=by
 obtain ⟨z,its,n,r,e⟩:=I.hok l _ hH;exact ⟨z,its,n,r,r.length,e⟩
theorem zKr {n:Nat} (h:n <= sizeLine):Builtin.List.listTooLong n = false:=by
 unfold Builtin.List.listTooLong;exact zQw (by omega)
end
section
variable {X:Cx}
def zH9:V -> List V -> Hp -> VK -> Prop:=fun x vs H Q=>∃ l xs y,x = .ref l /\ vs = [y] /\ H l = some (.lst xs) /\ xs.length < sizeLine /\ Q .non (upd H l (.lst (xs ++ [y])))
theorem zJS:MtM X "list.append" zH9:=by
 intro zB s σ H x vs v us Q I rx rv h;obtain ⟨l,xs,y,rfl,rfl,hH,hz,q⟩:=h;cases rx;obtain ⟨u,rfl,ru⟩:=rv.one;obtain ⟨z,its,n,r,hl,e⟩:=I.lstM hH;refine call_meets F.slot_list_append ⟨_,e,rfl⟩ F.entry_list_append (F.args_list_append_2 _ _) (PySem.list_append l its.toArray n u (by rw [zQV]; omega)) ⟨e,?_⟩;refine ⟨.non,_,I.lset (its':=its ++ [u]) hH e (by simp) (r.append (.cons ru .nil)) ?_,rfl,q⟩;rw [zQd,List.length_singleton];omega
def zKJ:V -> List V -> Hp -> VK -> Prop:=fun x vs H Q=>∃ l xs i k y,x = .ref l /\ vs = [.int i] /\ H l = some (.lst xs) /\ -(2 ^ 63) <= i /\ i < 2 ^ 63 /\ seqIndex? i xs.length = some k /\ xs[k]? = some y /\ Q y (upd H l (.lst (xs.eraseIdx k)))
theorem zJ3:MtM X "list.pop" zKJ:=by
 intro zB s σ H x vs v us Q I rx rv h;obtain ⟨l,xs,i,k,y,rfl,rfl,hH,h1,h2,hk,hy,q⟩:=h;cases rx;obtain ⟨u,rfl,ru⟩:=rv.one;obtain ⟨t,rfl⟩:=ru;obtain ⟨z,its,n,r,hl,e⟩:=I.lstM hH;obtain ⟨w,hw,rw'⟩:=r.get hy
 refine call_meets F.slot_list_pop ⟨_,e,rfl⟩ F.entry_list_pop (F.args_list_pop_2 _ _)
  (MeetsSeq.list_pop_at l its.toArray n i t k w (fitsIndex_both h1 h2) (by rw [zQV,<- hl]; exact hk) (by rw [<- Array.getElem?_toList]; exact hw) (by rw [zQV]; omega)) ⟨e,?_⟩
 refine ⟨y,_,I.lset (its':=its.eraseIdx k) hH e ?_ (r.eraseIdx k) ?_,rw',q⟩
 ·show its.toArray.eraseIdxIfInBounds k = (its.eraseIdx k).toArray;rw [List.eraseIdxIfInBounds_toArray]
 ·have:=zFQ xs k;omega
def zPP:R2:=fun x y H Q=>∃ l b xs zs,x = .ref l /\ y = .ref b /\ H l = some (.lst xs) /\ H b = some (.lst zs) /\ xs.length + zs.length <= sizeLine /\ ∀ p,H p = none -> Q (.ref p) (upd H p (.lst (xs ++ zs)))
theorem zM8:OpR X (binaryOp .Add) zPP:=by
 intro zB s σ H x y v u Q I rx ry h;obtain ⟨l,b,xs,zs,rfl,rfl,hH,hB,hz,q⟩:=h;cases rx;cases ry;obtain ⟨z,its,n,r,hl,e⟩:=I.lstM hH;obtain ⟨z2,its2,n2,r2,hl2,e2⟩:=I.lstM hB;refine PySem.P.add_list e e2 ?_ (by rw [zQV,zQV]; omega);have ea:its.toArray ++ its2.toArray = (its ++ its2).toArray:=by simp
 rw [ea];exact ⟨.ref _,_,I.lnew (t':=s.toks) (r.append r2) (by rw [zQd]; omega),rfl,q _ I.fresh⟩
def zOm:R2:=fun x y H Q=>∃ l k xs,x = .ref l /\ y = .int k /\ H l = some (.lst xs) /\ -(2 ^ 63) <= k /\ k < 2 ^ 63 /\ xs.length * k.toNat <= sizeLine /\
 ∀ p,H p = none -> Q (.ref p) (upd H p (.lst (List.replicate k.toNat xs).flatten))
theorem zFu {α:Type} (xs:List α) (k:Nat):(List.replicate k xs).flatten.length = k * xs.length:=by
 induction k with
 | zero=>simp
 | succ k ih=>rw [zRg,zSM,zQd,ih,Nat.succ_mul,Nat.add_comm]
theorem zNE:OpR X (binaryOp .Mult) zOm:=by
 intro zB s σ H x y v u Q I rx ry h;obtain ⟨l,k,xs,rfl,rfl,hH,h1,h2,hz,q⟩:=h;cases rx;obtain ⟨t,rfl⟩:=ry;obtain ⟨z,its,n,r,hl,e⟩:=I.lstM hH;have hlen:its.toArray.size * k.toNat <= sizeLine:=by rw [zQV,<- hl]; exact hz
 have hcap:¬ its.toArray.size * k.toNat > (2 ^ 63 - 1) / 8:=by
  have:(sizeLine:Nat) <= (2 ^ 63 - 1) / 8:=by decide
  omega
 have hfit:¬ (!Builtin.List.listFitsIndex k) = true:=by
  rw [fitsIndex_both h1 h2];exact zQj
 have hlong:¬ Builtin.List.listTooLong (its.toArray.size * k.toNat) = true:=by
  rw [zKr hlen];exact zQj
 have hnew:List.foldl (fun x1 x2=>x1 ++ x2) #[] (List.replicate (if its.toArray.isEmpty = true then 0 else k.toNat) its.toArray) = (List.replicate k.toNat its).flatten.toArray:=by
  have f0:∀ m:Nat,List.foldl (fun x1 x2=>x1 ++ x2) #[] (List.replicate m its.toArray) = (List.replicate m its).flatten.toArray:=fun m=>by
   have:=zDL its m [];rw [List.nil_append] at this;exact this
  rw [f0];cases its with
  | nil=>simp
  | cons a r'=>rw [zQf (by simp)]
 refine wpAny_binaryOp_repeat_ref (T := "list") (U := "int") (by decide) ⟨_,e,rfl⟩ (fun s'=>typeIs_int s' k t) noFill_list_mul F.fills_int_mul F.slot_int_rmul repeat_list F.slot_int_index.lookup
  (call_meets F.slot_int_rmul (typeIs_int s k t) F.entry_int_rmul (F.args_int_rmul_2 _ _) (int___rmul___int_list k t l its.toArray n)
   ⟨e,rfl,⟨_,e,rfl⟩,call_meets F.slot_list_mul ⟨_,e,rfl⟩ F.entry_list_mul (F.args_list_mul_2 _ _) (AutoListH.list___mul___list_int_3 l its.toArray n k t hfit hcap hlong) ⟨e,?_⟩⟩)
 rw [hnew];exact ⟨.ref _,_,I.lnew (t':=s.toks) (r.rep k.toNat) (by rw [zFu,Nat.mul_comm]; exact hz),rfl,q _ I.fresh⟩
end
end L2
namespace Att
open PySem PySem.W PySem.Calls PyProof.Rows
theorem zDh {P:Params} {h:Heap}:∀ (ns:List Int) (vs:List Value),WellAll P h vs (ns.map WData.int) -> IntsAre vs ns:=by
 intro ns;induction ns with
 | nil=>
  intro vs w;rw [List.map_nil] at w;cases w;exact .nil
 | cons n ns ih=>
  intro vs w;rw [zQg] at w;cases w with
  | cons a b=>
   cases a;exact .cons _ _ (ih _ b)
theorem zIq {l:OpenLaw} {n:Nat} (hn:l.most = some n) {P:Params} {h:Heap} {args:List WData} {vals:List Value}
  (hpre:l.row.toRowW.claim.pre args = true) (hwl:WellAll P h vals args) :
  ∃ a vs ns,vals = [Value.ref a] /\ args = [WData.list (ns.map WData.int)] /\ h.get? a = some { cls:=.type "list", data:=.seq vs.toArray } /\ IntsAre vs ns /\ ns.length <= n:=by
 have hsh:WShape.hasAll [] args [.list .int] = true:=(pre_splitW hpre).1;have hc:l.pre.holds [] { args:=args } = true:=(pre_splitW hpre).2;obtain ⟨d,r,rfl,h1,h2⟩:=hasAllW_cons hsh;obtain rfl:=hasAllW_nil h2;obtain ⟨xs,rfl,h3⟩:=hasW_list h1;obtain ⟨ns,rfl⟩:=items_int h3;have hlen:ns.length <= n:=by
  unfold OpenLaw.pre at hc;have h4:(WTm.not (.lt (.lit (.int (n:Int))) (.len (.arg 0)))).holds [] { args:=[.list (ns.map .int)] } = true:=by
   have h4:=(holds_andW hc).1;rw [hn] at h4;exact h4
  have h5:=condW_of h4 (w_not (w_lt w_lit (w_len_list (w_arg rfl))));rw [zQW] at h5;refine Nat.le_of_not_lt fun q=>?_;have q':(n:Int) < ((ns.length:Nat):Int):=by omega
  first
   | (rw [decide_eq_true q'] at h5; exact absurd h5 (by decide))
   | (simp at h5; omega)
 cases hwl with
 | cons w1 w2=>
  cases w2;cases w1 with
  | list ho hall=>exact ⟨_,_,ns,rfl,rfl,ho,zDh ns _ hall,hlen⟩
theorem zIm (l:OpenLaw) (args:List WData):l.row.toRowW.claim.post args (.bool true) args = true :=
 postW_of (r:=l.row.toRowW) (X:=(true == true))
  (show WShape.has [] (.bool true) .bool = true by first | rfl | decide | simp [WShape.has,WShape.arms,WShape.armsAll])
  (show (WTm.eq .res (.lit (.bool true))).value [] { args:=args,res:=some (.bool true),after:=args } = some (.bool (true == true)) from w_eq_bool (w_res rfl) w_lit) rfl
theorem zGj {l:OpenLaw} {n:Nat} {q:Program} {loose:List Str} {XP:(Str -> Option Value) -> Heap -> Prop} {YP:World -> Heap -> Prop} {d:DefRec}
  (hn:l.most = some n) (hdf:d.params.defaults = [])
  (call:∀ (w:World) (s₀ s₁:Shared) (mg mb:Str -> Option Value) (fa:Addr) (o:Obj) (pm cd doc:Value) (a:Addr) (vs:List Value) (ns:List Int),
   Ground q loose [] XP w s₀ mg mb s₁.heap -> YP w s₁.heap ->
   s₁.heap.get? fa = some o -> o.data = .func (docDef d.name d.params d.body d.scope pm cd doc) -> s₁.heap.CodeRec cd d.name -> mg d.name = some (.ref fa) ->
   s₁.heap.get? a = some { cls:=.type "list", data:=.seq vs.toArray } -> IntsAre vs ns -> ns.length <= n -> s₁.gens = #[] ->
   codeAny (model l.prog w) callerA (.call (.ref fa) ⟨[.ref a],[]⟩) (fun r s'=>r = .ok (.ret (.bool true)) /\ OldK s₁.heap s'.heap /\ s'.os = s₁.os /\ AllBare s'.gens) s₁) :
  WalkO q loose XP YP l.row.toRowW d [] (fun f vs=>PySem.call f vs):=by
 intro w s₀ s₁ mg mb G Y fa o pm cd doc dV kV ho hd hcd hD hmg hg args vals as hpre hlay hrd hwl hlo;obtain rfl:dV = .none:=Dflts.none hD hdf;obtain rfl:kV = .none:=Dflts.noKw hD;obtain ⟨a,vs,ns,rfl,rfl,hobj,hints,hlen⟩:=zIq hn hpre hwl;refine enter_call (codeAny_mono (call w s₀ s₁ mg mb fa o pm cd doc a vs ns G Y ho (fd_plain hd) hcd hmg hobj hints hlen hg) fun r s' hq=>?_);obtain ⟨rfl,h2,h3,h4⟩:=hq;exact ⟨.inl ⟨.bool true,.bool true,[],rfl,fun _=>rfl,.bool true,zIm l _,fun _=>⟨List.Pairwise.nil,fun _ hm=>(nomatch hm)⟩⟩,h2,h3,h4⟩
end Att
namespace L2
open PySem PySem.Spec PyProof.Rows
theorem zFK:∀ {vs:List Value} {ns:List Int},IntsAre vs ns -> zU (ns.map V.int) vs
 | _,_,.nil=> .nil
 | _,_,.cons n t h=> .cons ⟨t,rfl⟩ (zFK h)
def zMP (H:Hp):Prop:=∀ b,H b = none \/ ∃ o xs,H b = some (.frz o (.lst xs))
theorem zKc {P:Program} {w:World} {K:PySem.W.Frag} {mg mb:Str -> Option Value} {CX:CXT} {k:Nat} {fa a:Addr} {fd:FuncData} {x:Str} {sp:Sp} {s₁:Shared} {vs:List Value} {ns:List Int}
  (KX:K.In s₁.heap) (hns:s₁.heap.Ns mainGlobals mg) (hb:s₁.heap.Ns builtinsNs mb) (hbb:∀ x:Str,x ≠ "__name__" -> mb x = bootBuiltins x) (hlim:s₁.heap.NoLimit) (hg:s₁.gens = #[])
  (ha:s₁.heap.get? a = some { cls:=.type "list", data:=.seq vs.toArray }) (hi:IntsAre vs ns) (hl:ns.length <= sizeLine) (hr:Room k callerA)
  (F:∀ base:Heap,K.In base -> base.Ns mainGlobals mg -> FnOk P w K mg base CX k fa fd [x] sp) (hbind:∀ (s:Shared) (u:Value),BindsTo s fd ⟨[u],[]⟩ [(x,u)])
  (hsp:∀ H:Hp,zMP H -> SqL K H a (ns.map V.int) -> sp [.ref a] H (fun v _=>v = .bl true) fun _ _ _=>False)
  (hCX:∀ H e s',CX [] H s₁ (fun _ _ _=>False) e s' -> False) :
  codeAny (model P w) callerA (.call (.ref fa) ⟨[.ref a],[]⟩) (fun r s'=>r = .ok (.ret (.bool true)) /\ OldK s₁.heap s'.heap /\ s'.os = s₁.os /\ AllBare s'.gens) s₁:=by
 have rv:=zFK hi;have lenV:=hi.length
 have core:∀ H:Hp,zMP H -> SqL K H a (ns.map V.int) -> HOk P w H s₁.heap -> (∀ b,H b ≠ none -> b = a) -> (H a ≠ none -> K.lookup a = none) ->
   codeAny (model P w) callerA (.call (.ref fa) ⟨[.ref a],[]⟩) (fun r s'=>r = .ok (.ret (.bool true)) /\ OldK s₁.heap s'.heap /\ s'.os = s₁.os /\ AllBare s'.gens) s₁:=by
  intro H hO hS hok hA hK;have base_of:∀ {b:Addr} {o:Obj},s₁.heap.get? b = some o -> H b = none -> (zFw s₁.heap H).get? b = some o:=fun e n=>zJs e n;have noA:∀ {b:Addr} {o:Obj} {es:Array DictEntry} {ep:Nat},s₁.heap.get? b = some o -> o.data = .dict es ep -> H b = none:=fun {b o es ep} e d=>by
   cases q:H b with
   | none=>rfl
   | some u=>
    have e':b = a:=hA b (by rw [q]; simp);subst e';rw [ha] at e; cases e;have d':Data.seq vs.toArray _ = Data.dict es ep:=d;cases d'
  have nsK:∀ {b:Addr} {m:Str -> Option Value},s₁.heap.Ns b m -> (zFw s₁.heap H).Ns b m:=fun {b m} ⟨o,es,ep,e,d,r⟩=>⟨o,es,ep,base_of e (noA e d),d,r⟩;have hKb:K.In (zFw s₁.heap H):=fun b o e=>base_of (KX b o e) (by
   cases q:H b with
   | none=>rfl
   | some u=>
    have e':b = a:=hA b (by rw [q]; simp);subst e';rw [hK (by rw [q]; simp)] at e; cases e)
  have hM:Mod K mg (zFw s₁.heap H):=⟨hKb,nsK hns,⟨mb,nsK hb,hbb⟩,let ⟨mc,h1,h2⟩:=hlim; ⟨mc,nsK h1,h2⟩⟩;have e0:Env0 P w K mg (zFw s₁.heap H) callerA [] s₁ H:=⟨rfl,hM,fun b o e=>zMi e,Nat.le_of_eq (zJg _ _),trivial,fun b hb=>absurd (show b ∈ ([]:List Addr) from hb) (by simp),hok,.of_eq hg⟩;refine codeAny_mono ((F _ hKb (nsK hns)).run callerA [] s₁ H ⟨[.ref a],[]⟩ [.ref a] [.ref a] _ _ hr e0 (hbind s₁ (.ref a)) (.cons rfl .nil) (hsp H hO hS)) fun r s' h=>?_;cases r with
  | error e=>exact (hCX H e s' h).elim
  | ok fl=>
   cases fl with
   | next=>exact False.elim h
   | brk=>exact False.elim h
   | cont=>exact False.elim h
   | ret u=>
    obtain ⟨v,H',os,bare,un,hok',r',q⟩:=h;have q':v = .bl true:=q;subst q';obtain rfl:u = Value.bool true:=r';refine ⟨rfl,OldK.of_keep fun b o e=>?_,os,bare⟩;cases q:H b with
    | none=>exact un.keep b o e q (by intro z; exact absurd (show b ∈ ([]:List Addr) from z) (by simp)) (by simp)
    | some u=>
     rcases hO b with z | ⟨ob,xs,z⟩
     ·rw [q] at z; cases z
     ·have z2:=un.frzs b ob _ z;obtain ⟨e1,_⟩:=hok b _ z;obtain ⟨e2,_⟩:=hok' b _ z2;rw [e] at e1; cases e1;exact e2
 cases hk:K.lookup a with
 | some o=>
  have e:=KX a o hk;rw [ha] at e;cases e;refine core (fun _=>none) (fun _=> .inl rfl) (.inr ⟨_,vs.toArray,_,hk,rfl,rfl,rfl,by rw [zQV,lenV]; exact hl,by simpa using rv⟩) (fun b u z=>by have z':(none:Option HO) = some u:=z; cases z') (fun b z=>absurd rfl z) fun z=>absurd rfl z
 | none=>
  refine core (fun b=>if b = a then some (.frz { cls:=.type "list", data:=.seq vs.toArray } (.lst (ns.map V.int))) else none) (fun b=>?_) (.inl (.inr ⟨{ cls:=.type "list", data:=.seq vs.toArray },zQc rfl⟩)) (fun b u z=>?_) (fun b z=>?_) fun _=>hk
  ·by_cases hb:b = a
   ·exact .inr ⟨_,_,zQc hb⟩
   ·exact .inl (zQf hb)
  ·by_cases hb:b = a
   ·have z':=(zQc hb).symm.trans z;cases z';subst hb;exact ⟨ha,by rw [zQW]; exact hl,vs,_,rv,ha⟩
   ·have z':=(zQf hb).symm.trans z;cases z'
  ·by_cases hb:b = a
   ·exact hb
   ·exact absurd (zQf hb) z
theorem zMT {l:PySem.W.OpenLaw} {n k:Nat} {q:Program} {loose:List Str} {XP:(Str -> Option Value) -> Heap -> Prop} {YP:World -> Heap -> Prop} {d:DefRec} {K:Params -> PySem.W.Frag} {CX:World -> CXT} {sp:World -> Sp} {x:Str}
  (hn:l.most = some n) (hn2:n <= sizeLine) (hdf:d.params.defaults = []) (hr:Room k callerA)
  (hY:∀ (w:World) (h:Heap),YP w h -> (K w.params).In h)
  (F:∀ (w:World) (mg:Str -> Option Value) (fa:Addr) (h:Heap),(K w.params).In h -> h.Ns mainGlobals mg -> mg d.name = some (.ref fa) ->
   ∃ fd:FuncData,(∀ (s:Shared) (u:Value),BindsTo s fd ⟨[u],[]⟩ [(x,u)]) /\
    ∀ base:Heap,(K w.params).In base -> base.Ns mainGlobals mg -> FnOk l.prog w (K w.params) mg base (CX w) k fa fd [x] (sp w))
  (hsp:∀ (w:World) (H:Hp) (a:Addr) (ns:List Int),ns.length <= n -> zMP H -> SqL (K w.params) H a (ns.map V.int) -> sp w [.ref a] H (fun v _=>v = .bl true) fun _ _ _=>False)
  (hCX:∀ (w:World) (H:Hp) (s:Shared) (e:Value) (s':Shared),CX w [] H s (fun _ _ _=>False) e s' -> False) :
  PySem.W.WalkO q loose XP YP l.row.toRowW d [] (fun f vs=>PySem.call f vs):=by
 refine Att.zGj hn hdf fun w s₀ s₁ mg mb fa o pm cd doc a vs ns G Y ho hd hcd hmg hobj hints hlen hg=>?_;have KX:=hY w _ Y;obtain ⟨fd,hb,hF⟩:=F w mg fa _ KX G.T.g hmg;exact zKc KX G.T.g G.T.b G.T.builtins G.T.nolimit hg hobj hints (zQo hlen hn2) hr hF hb (fun H hO hS=>hsp w H a ns hlen hO hS) fun H e s'=>hCX w H s₁ e s'
def zCU (s:Stmt):Arguments:=match s with
 | .FunctionDef _ a _ _ _ _ _ _ _ _=>a
 | _=>{ posonlyargs:=[],args:=[],vararg:=none,kwonlyargs:=[],kw_defaults:=[],kwarg:=none,defaults:=[] }
def zBY (s:Stmt):List Stmt:=match s with
 | .FunctionDef _ _ b _ _ _ _ _ _ _=>b
 | _=>[]
def zX (s:Stmt):Scope:=match s with
 | .FunctionDef _ _ _ _ _ _ sc _ _ _=>sc
 | _=>{ kind:=.function,names:=[],isGenerator:=false,isCoroutine:=false }
abbrev CX0:CXT:=fun _ _ _ _ _ _=>False
abbrev E0:XK:=fun _ _ _=>False
theorem zPB {X:Cx}:zH4 CX0 X E0:=fun _ _ _ _ _ _ _ h=>h.elim
structure Fun (K:PySem.W.Frag) (x qual:Str) (st:Stmt) (f:Addr) (fd:FuncData):Prop where
 ex:∃ (oc:Value) (od:Option Addr) (kV doc pm:Value) (an:Option Addr) (cdv ct:Value) (osl:Array (Option Value)),
  fd = PySem.W.fnOf x qual (zCU st) (zBY st) (zX st) .none kV doc pm an cdv ct /\ K.lookup f = some ⟨oc,od,.func fd,osl⟩ /\ PySem.W.codeIn K cdv qual = true
 kp:PySem.W.keepIn K (.ref f) = true
section
variable {P:Program} {w:World} {K:PySem.W.Frag} {mg:Str -> Option Value} {base:Heap}
theorem Fun.ok {x qual:Str} {st:Stmt} {f:Addr} {fd:FuncData} {N ps:List Str} {k:Nat} {sp:Sp} (F:Fun K x qual st f fd) (S:FnScope N ps (zX st)) (len:∀ vs H Q E,sp vs H Q E -> vs.length = ps.length)
  (hbody:∀ (cdv:Value) (A:Around) (outer:List Env) (s:Shared) (H:Hp) (vs:List V) (Q:VK) (E:XK),Room k (A.deeper (envOfC qual (zX st) s.heap.objs.size f cdv)) -> sp vs H Q E ->
   ∃ t,PSs (zHg CX0 P w K mg base N qual (zX st) f cdv A outer s H E).nox (zBY st) t /\ t { nx:=fun _ H'=>Q .non H',rt:=Q } (start N vs) H):FnOk P w K mg base CX0 (k + 1) f fd ps sp:=by
 obtain ⟨oc,od,kV,doc,pm,an,cdv,ct,osl,rfl,lk,hcd⟩:=F.ex;refine zPi lk hcd S len fun A outer s H vs Q E hr hsp=>?_;obtain ⟨t,h,q⟩:=hbody cdv A outer s H vs Q E hr hsp;exact ⟨t,h.nox,q⟩
theorem Fun.binds {x qual:Str} {st:Stmt} {f:Addr} {fd:FuncData} {ps:List Str} (F:Fun K x qual st f fd)
  (h:∀ (kV doc pm:Value) (an:Option Addr) (cdv ct:Value) (us:List Value),us.length = ps.length -> bindArgs (PySem.W.fnOf x qual (zCU st) (zBY st) (zX st) .none kV doc pm an cdv ct) ⟨us,[]⟩ = pure (ps.zip us)):zEV K fd ps []:=by
 obtain ⟨oc,od,kV,doc,pm,an,cdv,ct,osl,rfl,lk,hcd⟩:=F.ex;exact .all (h kV doc pm an cdv ct)
theorem zJw {x qual:Str} {st:Stmt} {f:Addr} {oc:Value} {od an:Option Addr} {osl:Array (Option Value)} {kV doc pm cdv ct:Value} (l:K.lookup f = some ⟨oc,od,.func (PySem.W.fnOf x qual (zCU st) (zBY st) (zX st) .none kV doc pm an cdv ct),osl⟩)
  (c:PySem.W.codeIn K cdv qual = true) (k:PySem.W.keepIn K (.ref f) = true):Fun K x qual st f (PySem.W.fnOf x qual (zCU st) (zBY st) (zX st) .none kV doc pm an cdv ct):=⟨⟨oc,od,kV,doc,pm,an,cdv,ct,osl,rfl,l,c⟩,k⟩
end
theorem zKj {A:Around} {k:Nat} (hr:Room k A):A.units + 1 < cLine:=Nat.lt_of_le_of_lt (Nat.add_le_add_left (by decide:1 <= 64) _) hr.units
section
variable {X:Cx}
theorem pv (i:Nat) {x:Str} {pos:Pos} (hN:X.N[i]? = some x:=by rfl) (hv:Vis X.env.scope x:=by first | exact Or.inl rfl | exact Or.inr (Or.inl rfl) | exact Or.inr (Or.inr rfl)) (hd:(x == ("__debug__" : Str)) = false:=by decide)
  (hcd:(x == ("__classdict__" : Str)) = false:=by decide):PE X (.Name x pos) (zNP i):=zOY hN hv hd hcd
end
theorem zI3 {A B:Prop} (h:B):if false = true then A else B:=by
 rw [zQf zQj];exact h
theorem zJF {A B:Prop} (h:A):if true = true then A else B:=by
 rw [zQc rfl];exact h
section
variable {κ:Type} [DecidableEq κ]
def zCG (kvs:List (κ × V)) (k:κ):Option V:=(kvs.find? fun kv=>decide (kv.1 = k)).map (·.2)
def zBR (kvs:List (κ × V)) (k:κ) (v:V):List (κ × V) :=
 if (kvs.any fun kv=>decide (kv.1 = k)) = true then kvs.map (fun kv=>if kv.1 = k then (kv.1,v) else kv) else kvs ++ [(k,v)]
theorem zCt {p:κ × V} {r:List (κ × V)} {k:κ} (e:p.1 = k):zCG (p :: r) k = some p.2:=by simp [zCG,zR9,e]
theorem zC5 {p:κ × V} {r:List (κ × V)} {k:κ} (e:¬ p.1 = k):zCG (p :: r) k = zCG r k:=by simp [zCG,zR9,e]
theorem zGJ (k:κ):∀ kvs:List (κ × V),(kvs.any fun kv=>decide (kv.1 = k)) = (zCG kvs k).isSome
 | []=>rfl
 | p :: r=>by
  rw [zSz];by_cases e:p.1 = k
  ·simp only [zCt e,decide_eq_true e,Bool.true_or,Option.isSome_some]
  ·rw [zC5 e,zQw e,Bool.false_or]; exact zGJ k r
theorem zA5 (kvs:List (κ × V)) (k:κ) (v:V):(zBR kvs k v).length <= kvs.length + 1:=by
 unfold zBR;split
 ·rw [zQW]; omega
 ·rw [zQd,List.length_cons,List.length_nil]; omega
theorem zEN.isSome_eq (r:zEN o u):o.isSome = u.isSome:=by
 cases o with
 | none=>cases u with
  | none=>rfl
  | some _=>exact (show False from r).elim
 | some _=>cases u with
  | none=>exact (show False from r).elim
  | some _=>rfl
theorem KV.val {kvs:List (κ × V)} {vs:List (κ × Value)} (r:KV kvs vs) (k:κ):zEN (zCG kvs k) (valueAt vs k):=by
 unfold KV at r;induction r with
 | nil=>exact True.intro
 | @cons p q ps qs h t ih=>
  obtain ⟨h1,h2⟩:=h;by_cases e:p.1 = k
  ·have e':q.1 = k:=h1.symm.trans e;have b:valueAt (q :: qs) k = some q.2:=by simp [valueAt,zR9,e']
   rw [zCt e,b]; exact h2
  ·have e':¬ q.1 = k:=fun z=>e (h1.trans z);have b:valueAt (q :: qs) k = valueAt qs k:=by simp [valueAt,zR9,e']
   rw [zC5 e,b]; exact ih
theorem KV.any (r:KV kvs vs) (k:κ):(kvs.any fun kv=>decide (kv.1 = k)) = vs.any fun kv=>decide (kv.1 = k):=by
 unfold KV at r;induction r with
 | nil=>rfl
 | cons h t ih=>rw [zSz,zSz,ih,h.1]
theorem KV.repl (r:KV kvs vs) (k:κ) (ry:ze y u) :
  KV (kvs.map fun kv=>if kv.1 = k then (kv.1,y) else kv) (vs.map fun kv=>if kv.1 = k then (kv.1,u) else kv):=by
 unfold KV at r ⊢;induction r with
 | nil=>exact .nil
 | @cons p q ps qs h t ih=>
  rw [zQg,zQg];refine .cons ?_ ih;obtain ⟨h1,h2⟩:=h;by_cases e:p.1 = k
  ·rw [zQc e,zQc (h1.symm.trans e)]; exact ⟨h1,ry⟩
  ·rw [zQf e,zQf (fun z=>e (h1.trans z))]; exact ⟨h1,h2⟩
theorem KV.put (r:KV kvs vs) (k:κ) (ry:ze y u):KV (zBR kvs k y) (stored vs k u):=by
 unfold zBR stored;rw [r.any k];by_cases e:(vs.any fun kv=>decide (kv.1 = k)) = true
 ·rw [zQc e,zQc e]; exact r.repl k ry
 ·rw [zQf e,zQf e]; exact Paired.snoc r ⟨rfl,ry⟩
theorem KV.length (r:KV kvs vs):kvs.length = vs.length:=Paired.length r
end
theorem zFD (r:ze (kV k) u):(zu P w).is k u = true:=by
 cases k with
 | inl i=>obtain ⟨t,e⟩:=(show ∃ t,u = Value.int i t from r); subst e; exact zGu P w i t
 | inr x=>obtain ⟨t,e⟩:=(show ∃ t,u = Value.str x t from r); subst e; exact zGq P w x t
theorem zE0:∀ {ks:List Key} {us:List Value},zU (ks.map kV) us -> ItemsAre (zu P w) ks us
 | [],_,r=>by rw [List.map_nil] at r; cases r; exact .nil
 | k :: ks,_,r=>by
  rw [zQg] at r;cases r with
  | cons h t=>exact .cons (zFD h) (zE0 t)
abbrev KT (H:Hp):List (List Key × V) -> List (List Key × Addr × Value) -> Prop:=Paired fun p q=>p.1 = q.1 /\ H q.2.1 = some (.tup (p.1.map kV)) /\ ze p.2 q.2.2
theorem KT.val {H:Hp} {kvs:List (List Key × V)} {xs:List (List Key × Addr × Value)} (r:KT H kvs xs) (k:List Key):zEN (zCG kvs k) ((atKey xs k).map (·.2)):=by
 induction r with
 | nil=>exact True.intro
 | @cons p q ps qs h t ih=>
  obtain ⟨h1,_,h2⟩:=h;by_cases e:p.1 = k
  ·have e':q.1 = k:=h1.symm.trans e;have b:atKey (q :: qs) k = some q.2:=by simp [atKey,zR9,e']
   rw [zCt e,b]; exact h2
  ·have e':¬ q.1 = k:=fun z=>e (h1.trans z);have b:atKey (q :: qs) k = atKey qs k:=by simp [atKey,zR9,e']
   rw [zC5 e,b]; exact ih
theorem KT.repl (r:KT H kvs xs) (k:List Key) (ry:ze y u) :
  KT H (kvs.map fun kv=>if kv.1 = k then (kv.1,y) else kv) (xs.map (putAt k u)):=by
 induction r with
 | nil=>exact .nil
 | @cons p q ps qs h t ih=>
  rw [zQg,zQg];refine .cons ?_ ih;obtain ⟨h1,h2,h3⟩:=h;unfold putAt;by_cases e:p.1 = k
  ·rw [zQc e,zQc (h1.symm.trans e)]; exact ⟨h1,h2,ry⟩
  ·rw [zQf e,zQf (fun z=>e (h1.trans z))]; exact ⟨h1,h2,h3⟩
theorem KT.put (r:KT H kvs xs) (k:List Key) (hb:H b = some (.tup (k.map kV))) (ry:ze y u) :
  KT H (zBR kvs k y) (storedH xs k b u):=by
 have e:(kvs.any fun kv=>decide (kv.1 = k)) = (atKey xs k).isSome:=by
  rw [zGJ,(r.val k).isSome_eq,Option.isSome_map]
 unfold zBR storedH;rw [e];by_cases q:(atKey xs k).isSome = true
 ·rw [zQc q,zQc q]; exact r.repl k ry
 ·rw [zQf q,zQf q]; exact Paired.snoc r ⟨rfl,hb,ry⟩
theorem KT.keeps (r:KT H kvs xs) (ht:∀ b ys,H b = some (.tup ys) -> H' b = some (.tup ys)):KT H' kvs xs :=
 Paired.mapP r fun _ _ z=>⟨z.1,ht _ _ z.2.1,z.2.2⟩
section
variable {P:Program} {w:World} {H:Hp} {h:Heap} {a:Addr}
theorem zM2 (ok:HOk P w H h) (e:Rd H a u):zn P w H h a u:=e.ok ok
theorem zIZ (ok:HOk P w H h) (e:Rd H a (.dK kvs)):kvs.length <= sizeLine /\ (a == sysModules) = false /\ ∃ vs,KV kvs vs /\ h.DictOf (zu P w) a vs :=
 show zn P w H h a (.dK kvs) from zM2 ok e
theorem zKu (ok:HOk P w H h) (e:H a = some (.dK kvs)):kvs.length <= sizeLine /\ (a == sysModules) = false /\ ∃ vs,KV kvs vs /\ h.DictOf (zu P w) a vs:=zIZ ok (.inl e)
theorem zET (ok:HOk P w H h) (e:H a = some (.tup (ks.map kV))):(tupleKind (zu P w)).is h ks a:=by
 obtain ⟨_,its,r,o,h1,h2,⟨n,h3⟩,_⟩:=(show zn P w H h a (.tup (ks.map kV)) from ok a _ e);exact ⟨o,its.toArray,n,h1,h2,h3,by simpa using zE0 r⟩
theorem zIS (ok:HOk P w H h) (e:Rd H a (.dT kvs)):kvs.length <= sizeLine /\ (a == sysModules) = false /\
  ∃ xs,KT H kvs xs /\ h.DictOfH (tupleKind (zu P w)) a xs:=by
 obtain ⟨z,y,xs,r,o,es,ep,h1,h2,h3,h4,h5⟩:=(show zn P w H h a (.dT kvs) from zM2 ok e);refine ⟨z,y,xs,r,o,es,ep,h1,h2,h3,h4,fun x hx=>?_,h5⟩;have all:∀ {l:List (List Key × V)} {m:List (List Key × Addr × Value)},KT H l m -> ∀ x ∈ m,(tupleKind (zu P w)).is h x.1 x.2.1:=by
  intro l m q;induction q with
  | nil=>intro x hx; exact nomatch hx
  | @cons p q ps qs hq t ih=>
   intro x hx;rcases zQZ.mp hx with e | hx
   ·subst e;exact zET ok (by rw [<- hq.1]; exact hq.2.1)
   ·exact ih x hx
 exact all r x hx
theorem zMx (ok:HOk P w H h) (e:H a = some (.dT kvs)):kvs.length <= sizeLine /\ (a == sysModules) = false /\
  ∃ xs,KT H kvs xs /\ h.DictOfH (tupleKind (zu P w)) a xs:=zIS ok (.inl e)
end
def zC1 (H:Hp) (a:Addr) (y:V) (r:Option V):Prop :=
 (∃ kvs k,Rd H a (.dK kvs) /\ y = kV k /\ r = zCG kvs k) \/ ∃ kvs k b,Rd H a (.dT kvs) /\ y = .ref b /\ H b = some (.tup (k.map kV)) /\ r = zCG kvs k
def zDR (H:Hp) (a:Addr) (y v:V) (H':Hp):Prop :=
 (∃ kvs k,H a = some (.dK kvs) /\ y = kV k /\ kvs.length < sizeLine /\ H' = upd H a (.dK (zBR kvs k v))) \/
 ∃ kvs k b,H a = some (.dT kvs) /\ y = .ref b /\ H b = some (.tup (k.map kV)) /\ kvs.length < sizeLine /\ H' = upd H a (.dT (zBR kvs k v))
theorem zC1.k {H:Hp} {a:Addr} {kvs:List (Key × V)} {k:Key} (e:H a = some (.dK kvs)):zC1 H a (kV k) (zCG kvs k):=.inl ⟨kvs,k,.inl e,rfl,rfl⟩
theorem zC1.t {k:List Key} (e:H a = some (.dT kvs)) (eb:H b = some (.tup (k.map kV))):zC1 H a (.ref b) (zCG kvs k):=.inr ⟨kvs,k,b,.inl e,rfl,eb,rfl⟩
theorem zDR.k {H:Hp} {a:Addr} {kvs:List (Key × V)} {k:Key} {v:V} (e:H a = some (.dK kvs)) (hl:kvs.length < sizeLine):zDR H a (kV k) v (upd H a (.dK (zBR kvs k v))):=.inl ⟨kvs,k,e,rfl,hl,rfl⟩
theorem zDR.t {kvs:List (List Key × V)} {k:List Key} (e:H a = some (.dT kvs)) (eb:H b = some (.tup (k.map kV))) (hl:kvs.length < sizeLine) :
  zDR H a (.ref b) v (upd H a (.dT (zBR kvs k v))):=.inr ⟨kvs,k,b,e,rfl,eb,hl,rfl⟩
section
variable {X:Cx} {zB:List (Addr × Obj)} {σ:St} {H:Hp} {s:Shared} {a:Addr} {y v:V} {u r:Value} {o:Option V} {A:Around} {E:Value -> Shared -> Prop}
theorem Inv.big (I:Inv X zB σ H s):sysModules < s.heap.objs.size:=by
 have h:mainGlobals < s.heap.objs.size:=(I.mod.glob.keeps I.bk).lt;exact Nat.lt_trans (by decide) h
theorem zIz (hu:A.units + 1 < cLine) (I:Inv X zB σ H s) (g:zC1 H a y (some v)) (ry:ze y u) (h:∀ w' s',Inv X zB σ H s' -> ze v w' -> Q w' s') :
  wpAny (model X.prog X.w) A (getItem (.ref a) u) Q E s:=by
 rcases g with ⟨kvs,k,e,ey,l⟩ | ⟨kvs,k,b,e,ey,eb,l⟩
 ·subst ey;obtain ⟨z,hd,vs,rel,dd⟩:=zIZ I.hok e;obtain ⟨w',hw,rw'⟩:=zEN.some_of (v:=v) (o:=valueAt vs k) (by rw [l]; exact rel.val k);exact wpAny_getItem_of (zFD ry) dd.mapOf hw (h w' _ (I.tok _) rw')
 ·subst ey;cases (show u = Value.ref b from ry);obtain ⟨z,hd,xs,rel,dd⟩:=zIS I.hok e;obtain ⟨w',hw,rw'⟩:=zEN.some_of (v:=v) (o:=(atKey xs k).map (·.2)) (by rw [l]; exact rel.val k);obtain ⟨p,hp,hp2⟩:=Option.map_eq_some_iff.mp hw;refine wpAny_getItem_heap (tupleKind_room_in1 hu) (zET I.hok eb) dd hp ?_;rw [hp2];exact h w' _ (I.tok _) rw'
theorem zMV (hu:A.units + 1 < cLine) (I:Inv X zB σ H s) (g:zC1 H a y o) (ry:ze y u) (h:∀ s',Inv X zB σ H s' -> Q (.bool (!o.isSome)) s') :
  wpAny (model X.prog X.w) A (compareOp .NotIn u (.ref a)) Q E s:=by
 rcases g with ⟨kvs,k,e,ey,l⟩ | ⟨kvs,k,b,e,ey,eb,l⟩
 ·subst ey;obtain ⟨z,hd,vs,rel,dd⟩:=zIZ I.hok e;refine wpAny_notIn_of (zFD ry) hd dd.mapOf ?_;rw [<- (rel.val k).isSome_eq,<- l];exact h _ (I.tok _)
 ·subst ey;cases (show u = Value.ref b from ry);obtain ⟨z,hd,xs,rel,dd⟩:=zIS I.hok e;refine wpAny_notIn_heap (tupleKind_room_in1 hu) (zET I.hok eb) hd dd ?_;have q:=(rel.val k).isSome_eq;rw [Option.isSome_map] at q;rw [<- q,<- l];exact h _ (I.tok _)
theorem zCx (I:Inv X zB σ H s) (mu:Mut (H a)) (hs:Heap.SameBut a s.heap h') (he:∃ q,h'.get? a = some q) (new:zn X.prog X.w (upd H a ob) h' a ob) :
  Inv X zB σ (upd H a ob) { s with heap:=h',toks:=t' } :=
 I.write (x:=a) (e:=a) mu (.inl rfl) (fun b q hb z=>(hs.2 b hb).trans z) he new
theorem zHh (z:kvs.length <= sizeLine) (hd:(a == sysModules) = false) (rel:KV kvs vs) (dd:h'.DictOf (zu P w) a vs) :
  zn P w H' h' a (.dK kvs):=⟨z,hd,vs,rel,dd⟩
theorem zJb (hu:A.units + 1 < cLine) (I:Inv X zB σ H s) (g:zDR H a y v H') (ry:ze y u) (rv:ze v r) (h:∀ s',Inv X zB σ H' s' -> Q () s') :
  wpAny (model X.prog X.w) A (setItem (.ref a) u r) Q E s:=by
 rcases g with ⟨kvs,k,e,ey,l,eH⟩ | ⟨kvs,k,b,e,ey,eb,l,eH⟩
 ·subst ey eH;obtain ⟨z,hd,vs,rel,dd⟩:=zKu I.hok e;have hz:vs.length <= sizeLine:=by rw [<- rel.length]; exact z
  have hl:(zBR kvs k v).length <= sizeLine:=by have:=zA5 kvs k v; omega
  refine wpAny_setItem_pairs (hsz:=hz) (zFD ry) dd fun h' dd' hs=>h _ ?_;have he:∃ q,h'.get? a = some q:=let ⟨q,_,_,hq,_⟩:=dd'; ⟨q,hq⟩;exact zCx I (by rw [e]; exact True.intro) hs he (zHh hl hd (rel.put k rv) dd')
 ·subst ey eH;cases (show u = Value.ref b from ry);obtain ⟨z,hd,xs,rel,dd⟩:=zMx I.hok e;have hz:xs.length <= sizeLine:=by rw [<- Paired.length rel]; exact z
  have hl:(zBR kvs k v).length <= sizeLine:=by have:=zA5 kvs k v; omega
  refine wpAny_setItem_heap (hsz:=hz) (tupleKind_room_in1 hu) (zET I.hok eb) dd fun h' dd' hs=>h _ ?_;obtain ⟨q,es,ep,hq,h2,h3,h4,_,h5⟩:=dd';refine zCx I (by rw [e]; exact True.intro) hs ⟨q,hq⟩ ⟨hl,hd,_,(rel.put k eb rv).keeps fun c ys ec=>?_,q,es,ep,hq,h2,h3,h4,h5⟩;rw [zM (zFG ec e (fun z=>nomatch z))];exact ec
end
def zNd (i:Expr):Prop:=∀ ov iv,subscripted i false ov iv = operate [ov,iv] (getItem ov iv)
theorem zLj {prog:Program} {w:World} {A:Around} {E:Value -> Shared -> Prop} {s:Shared} {env:Env} {value slice:Expr} {pos:Pos} {T id:String} {Q:Value -> Shared -> Prop}
  (hl:typeLookup (.type T) "__getitem__" = pure (some (.builtin id))) (hs:zNd slice)
  (h:wpAny (model prog w) A (eval value env) (fun o s₁=>wpAny (model prog w) A (eval slice env) (fun i s₂=>s₂.TypeIs o T /\ wpAny (model prog w) A (getItem o i) Q E s₂) E s₁) E s) :
  wpAny (model prog w) A (eval (.Subscript value slice pos) env) Q E s:=by
 refine Subscript_ (zQt h (fun o s₁ h₁=>zQt h₁ (fun i s₂ h₂=>?_) fun _ _ x=>x) fun _ _ x=>x);obtain ⟨hT,h₂⟩:=h₂;unfold subscriptTail;refine zQN ?_;rw [getitemInPython_of_ne hT.not_modules];refine zQN (wpAny_specialOf hT hl ?_);have fin:wpAny (model prog w) A (subscripted slice false o i) (fun r s₃=>wpAny (model prog w) A (letTemporaryGo value o r >>= fun _=>pure r) Q E s₃) E s₂:=by
  rw [hs o i];exact wpAny_operating (zQt h₂ (fun r s₃ h₃=>zQN (wpAny_letTemporaryGo (zQP h₃))) fun _ _ x=>x)
 first
  | exact zQP (zQN fin)
  | exact zQN (zQP (zQN fin))
  | exact zQN fin
theorem zGH (I:Inv X zB σ H s) (g:zC1 H a y o):s.TypeIs (.ref a) "dict" := by
 rcases g with ⟨kvs,k,e,_,_⟩ | ⟨kvs,k,b,e,_,_,_⟩
 ·obtain ⟨_,_,vs,_,dd⟩:=zIZ I.hok e;exact dd.typeIs
 ·obtain ⟨_,_,xs,_,dd⟩:=zIS I.hok e;exact dd.typeIs
def zPC (td ty:TE):TE:=fun σ H Q=>td σ H fun x H1=>ty σ H1 fun y H2=>∃ a v,x = .ref a /\ zC1 H2 a y (some v) /\ Q v H2
def zMg (ty td:TE):TE:=fun σ H Q=>ty σ H fun y H1=>td σ H1 fun x H2=>∃ a o,x = .ref a /\ zC1 H2 a y o /\ Q (.bl (!o.isSome)) H2
def zPc (td ty tv:TE):TS:=fun D σ H=>tv σ H fun v H1=>td σ H1 fun x H2=>ty σ H2 fun y H3=>∃ a H4,x = .ref a /\ zDR H3 a y v H4 /\ D.nx σ H4
section
variable {X:Cx} {o i e value:Expr} {pos pos' tpos:Pos} {td ty tv:TE}
theorem zLi (hu:X.A.units + 1 < cLine) (ho:PE X o td) (hi:PE X i ty) (hs:zNd i):PE X (.Subscript o i pos) (zPC td ty):=by
 intro zB s σ H Q I h;refine zLj PySem.F.slot_dict_getitem.lookup hs (thn (ho zB s σ H _ I h) fun u s1 ⟨x,H1,I1,rx,q1⟩=>thn (hi zB s1 σ H1 _ I1 q1) fun iv s2 ⟨y,H2,I2,ry,a,v,ex,g,q2⟩=>?_);subst ex;obtain rfl:u = Value.ref a:=rx;exact ⟨zGH I2 g,zIz hu I2 g ry fun w' s3 I3 rw'=>⟨v,H2,I3,rw',q2⟩⟩
theorem zI9 (hu:X.A.units + 1 < cLine) (hi:PE X i ty) (ho:PE X o td):PC X .NotIn i o (zMg ty td):=by
 intro zB s σ H Q I h;refine thn (hi zB s σ H _ I h) fun iv s1 ⟨y,H1,I1,ry,q1⟩=>thn (ho zB s1 σ H1 _ I1 q1) fun u s2 ⟨x,H2,I2,rx,a,ov,ex,g,q2⟩=>?_;subst ex;obtain rfl:u = Value.ref a:=rx;exact zMV hu I2 g ry fun s3 I3=>⟨.bl (!ov.isSome),H2,I3,rfl,q2⟩
theorem zMC (hu:X.A.units + 1 < cLine) (ho:PE X o td) (hi:PE X i ty) (hv:PE X value tv) (hs:swapsWith value (some (.Subscript o i pos')) pos.line X.env = pure false) :
  PS X (.Assign [.Subscript o i pos'] value pos) (zPc td ty tv):=by
 intro zB s σ H D I h;refine wpAny_Assign_Subscript (thn (hv zB s σ H _ I h) fun r s1 ⟨v,H1,I1,rv,q1⟩=>thn (ho zB s1 σ H1 _ I1 q1) fun u s2 ⟨x,H2,I2,rx,q2⟩=>thn (hi zB s2 σ H2 _ I2 q2) fun iv s3 ⟨y,H3,I3,ry,a,H4,ex,g,q3⟩=>?_) hs;subst ex;obtain rfl:u = Value.ref a:=rx;exact zJb hu I3 g ry rv fun s4 I4=>⟨σ,H4,I4,q3⟩
end
theorem zHA (h:Heap) (hb:sysModules < h.objs.size):zn P w H (h.push { cls:=.type "dict", data:=.dict #[] }) h.objs.size (.dK []) :=
 ⟨zQ9 _,beq_eq_false_iff_ne.mpr (Ne.symm (zQi hb)),[],.nil,Heap.DictOf.new h⟩
def zNB:TE:=fun _ H Q=>∀ p,H p = none -> Q (.ref p) (upd H p (.dK []))
section
variable {X:Cx} {pos:Pos}
theorem zKx:PE X (.Dict [] [] pos) zNB:=fun zB s σ H Q I h=>
 wpAny_Dict_empty ⟨.ref s.heap.objs.size,_,I.laid (a:=s.heap.objs.size) (o:=.dK []) (t':=s.toks) (fun _ _ q=>zQO _ q) (zQT _) (zHA s.heap I.big),rfl,h _ (I.hok.fresh (zQT _))⟩
end
def zHp:List (TE × TE) -> St -> Hp -> (List (V × V) -> Hp -> Prop) -> Prop
 | [],_,H,Q=>Q [] H
 | (tk,tv) :: r,σ,H,Q=>tk σ H fun x H1=>tv σ H1 fun y H2=>zHp r σ H2 fun ps H3=>Q ((x,y) :: ps) H3
abbrev VV:List (V × V) -> List (Value × Value) -> Prop:=Paired fun p q=>ze p.1 q.1 /\ ze p.2 q.2
def PPs (X:Cx) (pos:Pos) (keys:List (Option Expr)) (values:List Expr) (trs:List (TE × TE)):Prop :=
 ∀ (zB:List (Addr × Obj)) (s:Shared) (σ:St) (H:Hp) (Q:List (V × V) -> Hp -> Prop),Inv X zB σ H s -> zHp trs σ H Q ->
  wpAny (model X.prog X.w) X.A (evalPairs (pairTrees keys values X.env pos)) (fun vs s'=>∃ ps H',Inv X zB σ H' s' /\ VV ps vs /\ Q ps H') X.xe s
theorem zMX:PPs X pos [] [] []:=fun zB s σ H Q I h=>pairTrees_nil_walk ⟨[],H,I,.nil,h⟩
theorem zGG (hk:PE X k tk) (hv:PE X v tv) (hr:PPs X pos ks vs trs) :
  PPs X pos (some k :: ks) (v :: vs) ((tk,tv) :: trs):=fun zB s σ H Q I h=>
 pairTrees_cons_walk (thn (hk zB s σ H _ I h) fun u s1 ⟨x,H1,I1,rx,q1⟩=>thn (hv zB s1 σ H1 _ I1 q1) fun w2 s2 ⟨y,H2,I2,ry,q2⟩=>
  thn (hr zB s2 σ H2 _ I2 q2) fun ws s3 ⟨ps,H3,I3,rel,q3⟩=>⟨(x,y) :: ps,H3,I3,.cons ⟨rx,ry⟩ rel,q3⟩)
def zCl (kvs more:List (Key × V)):List (Key × V):=more.foldl (fun acc kv=>zBR acc kv.1 kv.2) kvs
theorem KV.merge:∀ {more:List (Key × V)} {rs:List (Key × Value)} {kvs:List (Key × V)} {vs:List (Key × Value)},KV more rs -> KV kvs vs -> KV (zCl kvs more) (merged vs rs):=by
 intro more rs kvs vs r;unfold KV at r;induction r generalizing kvs vs with
 | nil=>intro q; exact q
 | @cons p q ps qs h t ih=>
  intro r0;have e:KV (zBR kvs p.1 p.2) (stored vs q.1 q.2):=by
   have:=r0.put p.1 h.2;rw [<- h.1]; exact this
  exact ih e
theorem zCk:∀ (more kvs:List (Key × V)),(zCl kvs more).length <= kvs.length + more.length
 | [],kvs=>by show kvs.length <= kvs.length + 0; omega
 | p :: r,kvs=>by
  have h1:=zCk r (zBR kvs p.1 p.2);have h2:=zA5 kvs p.1 p.2;show (zCl (zBR kvs p.1 p.2) r).length <= _;rw [List.length_cons]; omega
theorem zD9:∀ {kvs:List (Key × V)} {ws:List (Value × Value)},VV (kvs.map fun kv=>(kV kv.1,kv.2)) ws -> ∃ rs,Carries (zu P w) ws rs /\ KV kvs rs
 | [],_,r=>by rw [List.map_nil] at r; cases r; exact ⟨[],True.intro,.nil⟩
 | p :: kvs,_,r=>by
  rw [zQg] at r;cases r with
  | @cons a b as bs h t=>
   obtain ⟨rs,c,q⟩:=zD9 (P:=P) (w:=w) t;obtain ⟨b1,b2⟩:=b;exact ⟨(p.1,b2) :: rs,⟨zFD h.1,rfl,c⟩,.cons ⟨rfl,h.2⟩ q⟩
def zOz (trs:List (TE × TE)):TE:=fun σ H Q=>∀ p,H p = none -> zHp trs σ (upd H p (.dK [])) fun ps H2=>H2 p = some (.dK []) /\ ∃ kvs:List (Key × V),ps = kvs.map (fun kv=>(kV kv.1,kv.2)) /\ kvs.length <= 15 /\ Q (.ref p) (upd H2 p (.dK (zCl [] kvs)))
theorem zLt (h:PPs X pos keys values trs) (hall:keys.all (·.isSome) = true) (hl:keys.length = values.length) (h0:keys ≠ [])
  (h15:keys.length <= 15):PE X (.Dict keys values pos) (zOz trs):=by
 intro zB s σ H Q I q;have hn:=I.hok.fresh (zQT s.heap.objs.size);have I1:=I.laid (a:=s.heap.objs.size) (o:=.dK []) (h':=s.heap.push { cls:=.type "dict", data:=.dict #[] }) (t':=s.toks) (fun _ _ q=>zQO _ q) (zQT _) (zHA s.heap I.big);refine wpAny_Dict_walk (knd:=zu X.prog X.w) hall hl h0 h15 (thn (h zB _ σ _ _ I1 (q _ hn)) fun ws s2 ⟨ps,H2,I2,rel,e,kvs,ep,lk,q2⟩=>?_);subst ep;obtain ⟨rs,c,rk⟩:=zD9 (P:=X.prog) (w:=X.w) rel;obtain ⟨z,hd,vs0,r0,dd⟩:=zKu I2.hok e;cases r0;refine ⟨rs,c,dd,fun h' dd' hs=>⟨.ref s.heap.objs.size,_,?_,rfl,q2⟩⟩;have hz:(zCl [] kvs).length <= sizeLine:=by
  have h1:=zCk kvs [];rw [List.length_nil] at h1;rw [sizeLine_eq]; omega
 have he:∃ q,h'.get? s.heap.objs.size = some q:=let ⟨q,_,_,hq,_⟩:=dd'; ⟨q,hq⟩;exact zCx I2 (by rw [e]; exact True.intro) hs he (zHh hz hd (rk.merge .nil) dd')
theorem zy:∀ (names:List (Str × NameKind)) (n:Nat) (acc:List (Str × Addr)),cellsFrom n names acc = cellsFrom n names [] ++ acc
 | [],_,_=>rfl
 | (name,kind) :: r,n,acc=>by
  unfold cellsFrom;split
  ·rw [zy r (n + 1) ((name,n) :: acc),zy r (n + 1) [(name,n)],List.append_assoc];rfl
  ·exact zy r n acc
theorem zBS {α:Type} (x:Str):∀ (l r:List (Str × α)),(l ++ r).lookup x = (match l.lookup x with | some c=>some c | none=>r.lookup x)
 | [],r=>rfl
 | (k,v) :: l,r=>by
  rw [List.cons_append,zSS,zSS];cases hb:x == k with
  | true=>rfl
  | false=>exact zBS x l r
theorem zCm:∀ (names:List (Str × NameKind)) (acc:List (Str × Addr)),
  (∀ y ∈ names,y.2 = .free -> ∃ c,env.cells.lookup y.1 = some c) ->
  (∀ x c,acc.lookup x = some c -> env.cells.lookup x = some c) ->
  ∃ cl:List (Str × Addr),(forIn names acc (fun (p:Str × NameKind) (cs:List (Str × Addr))=>(do
    if p.2 == .free then
     let a <- cellOf env p.1;pure (ForInStep.yield ((p.1,a) :: cs))
    else pure (ForInStep.yield cs):Sem (ForInStep (List (Str × Addr)))))) = pure cl /\
   (∀ x c,cl.lookup x = some c -> env.cells.lookup x = some c) /\
   (∀ x,(acc.lookup x).isSome = true -> (cl.lookup x).isSome = true) /\ ∀ y ∈ names,y.2 = .free -> (cl.lookup y.1).isSome = true
 | [],acc,_,ha=>⟨acc,by rw [List.forIn_nil],ha,fun _ h=>h,fun _ h=>nomatch h⟩
 | (n,k) :: r,acc,hf,ha=>by
  rw [List.forIn_cons];by_cases hk:k = .free
  ·subst hk;obtain ⟨c,hc⟩:=hf (n,.free) zQb rfl;have hco:cellOf env n = pure c:=by unfold cellOf; rw [hc]
   obtain ⟨cl,e,h1,h2,h3⟩:=zCm r ((n,c) :: acc) (fun y hy=>hf y (zQa _ hy)) (fun x d hx=>by
    rw [zSS] at hx;cases hb:x == n with
    | true=>rw [hb] at hx; cases hx; rw [beq_iff_eq.mp hb]; exact hc
    | false=>rw [hb] at hx; exact ha x d hx)
   refine ⟨cl,?_,h1,fun x hx=>h2 x ?_,fun y hy hk=>?_⟩
   ·rw [<- e];simp only [beq_self_eq_true,if_true,hco];rfl
   ·rw [zSS];cases hb:x == n with
    | true=>rfl
    | false=>exact hx
   ·rcases zQZ.mp hy with z | z
    ·subst z;exact h2 n (by rw [zSS]; simp)
    ·exact h3 y z hk
  ·obtain ⟨cl,e,h1,h2,h3⟩:=zCm r acc (fun y hy=>hf y (zQa _ hy)) ha;refine ⟨cl,?_,h1,h2,fun y hy hk'=>?_⟩
   ·rw [<- e];have:(k == NameKind.free) = false:=by simpa using hk
    simp only [this,Bool.false_eq_true,if_false];rfl
   ·rcases zQZ.mp hy with z | z
    ·subst z; exact absurd hk' hk
    ·exact h3 y z hk'
theorem zEr (hf:∀ y ∈ scope.names,y.2 = .free -> ∃ c,env.cells.lookup y.1 = some c) :
  ∃ cl,closureFor scope env = pure cl /\ (∀ x c,cl.lookup x = some c -> env.cells.lookup x = some c) /\ ∀ y ∈ scope.names,y.2 = .free -> (cl.lookup y.1).isSome = true:=by
 obtain ⟨cl,e,h1,_,h3⟩:=zCm (env:=env) scope.names [] hf (fun x c h=>nomatch h);refine ⟨cl,?_,h1,h3⟩;unfold closureFor;rw [show (pure cl:Sem _) = pure cl >>= pure from rfl,<- e]
theorem zG0
  (hQ:Q (newEnv scope s.heap.objs.size globals (cellsFrom (s.heap.objs.size + 1) scope.names cl) qual none .none (some env) builtinsNs)
   { s with heap:=pushCells (s.heap.push { cls:=.type "dict", data:=.dict #[] }) scope.names }) :
  wpAny M A (newFunctionEnv scope globals cl [] qual none .none (some env)) Q E s:=by
 simp only [newFunctionEnv,Option.isSome_some,if_true];refine zQN (wpAny_alloc ?_);refine zQN (wpAny_layCells _ (fun name kind cells=>by cases hkc:kind == NameKind.cell <;> simp [hkc]) _ _ _ _ ?_);rw [show ({ s with heap:=s.heap.push { cls:=.type "dict", data:=.dict #[] } }:Shared).heap.objs.size = s.heap.objs.size + 1 from zQ3 ..];exact zQN (zQP (zQP hQ))
def zAK (X:Cx) (zB:List (Addr × Obj)) (scope:Scope) (cl:List (Str × Addr)) (s:Shared) (H:Hp) (fp:List Addr):Cx where
 prog:=X.prog
 w:=X.w
 K:=X.K
 mg:=X.mg
 base:=X.base
 A:=X.A
 N:=X.N
 s₀:=s
 H₀:=H
 env:={ scope:=relabel scope X.env,locals:=s.heap.objs.size + 1,globals:=X.env.globals,cells:=cellsFrom (s.heap.objs.size + 1 + 1) scope.names cl,qual:=X.env.qual,func:=none,code:=X.env.code,frame:=X.env.frame,builtins:=X.env.builtins }
 outer:=X.stack
 stack:=X.stack
 ex:=fp
 fn:=fun x=>decide (scope.names.lookup x = some .cell)
 calm:=X.calm
 pn:=X.pn ++ zB
 xe:=fun _ _=>False
theorem zAW {scope:Scope} {env:Env} (x:Str):∀ {names:List (Str × NameKind)} {k:NameKind},
  (names.map fun (n,k)=>if (k == NameKind.free && env.scope.kind == .function && env.kindOf n == some .cell) then (n,NameKind.cell) else (n,k)).lookup x = some k ->
  names.lookup x = some k \/ (names.lookup x = some .free /\ k = .cell)
 | [],_,h=>by simp at h
 | (n,k') :: r,k,h=>by
  rw [zQg] at h;by_cases hc:(k' == NameKind.free && env.scope.kind == .function && env.kindOf n == some .cell) = true
  ·simp only [hc,if_true] at h;rw [zSS] at h ⊢;cases hb:x == n with
   | true=>
    rw [hb] at h;simp only [zQx,beq_iff_eq] at hc;exact .inr ⟨by rw [hc.1.1],(zRN h).symm⟩
   | false=>rw [hb] at h; exact zAW (scope:=scope) x h
  ·simp only [hc,Bool.false_eq_true,if_false] at h;rw [zSS] at h ⊢;cases hb:x == n with
   | true=>rw [hb] at h; exact .inl h
   | false=>rw [hb] at h; exact zAW (scope:=scope) x h
theorem zEM:∀ (names:List (Str × NameKind)) (n:Nat) (acc:List (Str × Addr)) (x:Str) (c:Addr),(x,c) ∈ cellsFrom n names acc -> (x,c) ∉ acc -> (x,NameKind.cell) ∈ names
 | [],_,_,_,_,h,h'=>absurd h h'
 | (name,kind) :: r,n,acc,x,c,h,h'=>by
  unfold cellsFrom at h;split at h
  ·rename_i hk;by_cases e:(x,c) = (name,n)
   ·cases e;rw [beq_iff_eq] at hk;subst hk;exact zQb
   ·exact zQa _ (zEM r _ _ x c h fun z=>(zQZ.mp z).elim e h')
  ·exact zQa _ (zEM r _ _ x c h h')
structure CompScope (X:Cx) (scope:Scope):Prop where
 kind:scope.kind = .function
 names:∀ y ∈ scope.names,y.2 = .local -> scope.names.lookup y.1 = some .local
 cells:∀ y ∈ scope.names,y.2 = .cell -> scope.names.lookup y.1 = some .cell
 free:∀ y ∈ scope.names,y.2 = .free -> X.env.kindOf y.1 = some .cell \/ X.env.kindOf y.1 = some .free
section
theorem zKF (S:CompScope X scope) (I:Inv X zB σ H s) (hf:∀ b ∈ fp,zBq X zB H b) (ho:∀ b:Nat,b ∈ fp -> b < s.heap.objs.size)
  (c1:∀ x c,cl.lookup x = some c -> X.env.cells.lookup x = some c) (c2:∀ y ∈ scope.names,y.2 = .free -> (cl.lookup y.1).isSome = true)
  (hl:σc.length = σ.length) (hσ:∀ (i:Nat) x v,X.N[i]? = some x -> σc[i]? = some (some v) -> (relabel scope X.env).names.lookup x ≠ none -> scope.names.lookup x = some .free /\ σ[i]? = some (some v))
  (lo:Obj) (hlo:∀ v,lo.data ≠ .cell v) (hfr:lo.isFreed = false)
  (h4:s4 = { s with heap:=pushCells ((s.heap.push lo).push { cls:=.type "dict", data:=.dict #[] }) scope.names }) :
  Inv (zAK X zB scope cl s H fp) [(s.heap.objs.size,lo)] σc H s4:=by
 subst h4;have sz1:(s.heap.push lo).objs.size = s.heap.objs.size + 1:=zQ3 ..;have sz2:((s.heap.push lo).push { cls:=.type "dict", data:=.dict #[] }).objs.size = s.heap.objs.size + 1 + 1:=by rw [zQ3,sz1]
 have hk:∀ b o,s.heap.get? b = some o -> (pushCells ((s.heap.push lo).push { cls:=.type "dict", data:=.dict #[] }) scope.names).get? b = some o:=fun b o e=>
  pushCells_keeps _ _ b o (zQO _ (zQO _ e))
 have ok:=cellsFrom_ok scope.names ((s.heap.push lo).push { cls:=.type "dict", data:=.dict #[] }) (s.heap.objs.size + 1 + 1) [] ⟨fun _ _ hm=>(nomatch hm),List.Pairwise.nil⟩ (by rw [sz2]; exact zQT _);rw [sz2] at ok;have look:∀ x c,(cellsFrom (s.heap.objs.size + 1 + 1) scope.names cl).lookup x = some c -> ((cellsFrom (s.heap.objs.size + 1 + 1) scope.names []).lookup x = some c) \/ ((cellsFrom (s.heap.objs.size + 1 + 1) scope.names []).lookup x = none /\ X.env.cells.lookup x = some c):=fun x c e=>by
  rw [zy,zBS] at e;cases q:(cellsFrom (s.heap.objs.size + 1 + 1) scope.names []).lookup x with
  | some d=>rw [q] at e; exact .inl e
  | none=>rw [q] at e; exact .inr ⟨rfl,c1 x c e⟩
 have old:∀ x (c:Nat),X.env.cells.lookup x = some c -> c < s.heap.objs.size:=fun x c e=>let ⟨_,q⟩:=I.cell x c e; q.lt;have new:∀ x (c:Nat),(cellsFrom (s.heap.objs.size + 1 + 1) scope.names []).lookup x = some c -> s.heap.objs.size + 1 + 1 <= c:=fun x c e=>(ok.empty x c (zRP e)).2;have own:∀ x,scope.names.lookup x = some .cell -> ∃ c,(cellsFrom (s.heap.objs.size + 1 + 1) scope.names []).lookup x = some c:=fun x e=>zEi e;have cne:∀ x (c:Nat),(cellsFrom (s.heap.objs.size + 1 + 1) scope.names cl).lookup x = some c -> c < s.heap.objs.size \/ s.heap.objs.size + 1 + 1 <= c:=fun x c e=>by
  rcases look x c e with q | ⟨_,q⟩
  ·exact .inr (new x c q)
  ·exact .inl (old x c q)
 refine ⟨⟨I.ok.mod,S.kind,I.ok.glob,I.ok.blt,Nat.le_succ _,fun x y c h1 h2=>?_,fun x hx=>?_,fun x c hx h=>?_,I.ok.hd,I.ok.frames,.inl rfl,fun b hb=>⟨?_,fun x c e z=>?_⟩,I.bs,zQo I.ok.bsz I.sz,fun b o e hb=>?_,fun b hb z=>?_,I.stack,I.stkFree⟩,
  rfl,I.bare,Un.kept hk,⟨fun _=>none,?_,fun i x v h1 h2 h3=>?_⟩,fun x c e=>?_,I.hok.fresh (Nat.le_succ _),fun x c e=>?_,fun p hp=>?_,I.hok.kept hk,hl.trans I.len⟩
 ·rcases look x c h1 with a | ⟨_,a⟩ <;> rcases look y c h2 with b | ⟨_,b⟩
  ·exact name_of_addr ok.apart (zRP a) (zRP b)
  ·exact absurd (Nat.lt_of_le_of_lt (new x c a) (old y c b)) (by omega)
  ·exact absurd (Nat.lt_of_le_of_lt (new y c b) (old x c a)) (by omega)
  ·exact I.ok.inj x y c a b
 ·have hx':(relabel scope X.env).names.lookup x = some .cell \/ (relabel scope X.env).names.lookup x = some .free:=hx;have go:scope.names.lookup x = some .cell \/ scope.names.lookup x = some .free:=by
   rcases hx' with q | q
   ·rcases zAW (scope:=scope) x q with z | z
    ·exact .inl z
    ·exact .inr z.1
   ·rcases zAW (scope:=scope) x q with z | z
    ·exact .inr z
    ·exact .inr z.1
  show ∃ c,(cellsFrom (s.heap.objs.size + 1 + 1) scope.names cl).lookup x = some c;rw [zy,zBS];rcases go with q | q
  ·obtain ⟨c,e⟩:=own x q;exact ⟨c,by rw [e]⟩
  ·cases e:(cellsFrom (s.heap.objs.size + 1 + 1) scope.names []).lookup x with
   | some d=>exact ⟨d,rfl⟩
   | none=>exact Option.isSome_iff_exists.mp (c2 (x,.free) (zRP q) rfl)
 ·obtain ⟨d,e⟩:=own x (of_decide_eq_true hx);have h':(cellsFrom (s.heap.objs.size + 1 + 1) scope.names cl).lookup x = some c:=h;rw [zy,zBS,e] at h';cases h';exact zQo (zQo (Nat.le_succ _) (Nat.le_succ _)) (new x _ e)
 ·exact zQi (Nat.lt_succ_of_lt (ho b hb))
 ·rcases look x c e with q | ⟨_,q⟩
  ·have a:=new x c q;rw [z] at a;exact absurd (Nat.lt_of_le_of_lt a (ho b hb)) (by omega)
  ·exact (hf b hb).2.2.2.2.1 x c q z
 ·rcases (hf b hb).2.2.2.1 with z | z
  ·exact I.ok.noex b o e z
  ·exact absurd (zQm (zQY e) (zQo I.ok.bsz z)) (zQ5 _)
 ·rcases zQZ.mp (I.stkSub b z) with q | q
  ·exact (hf b hb).2.1 q
  ·exact (hf b hb).2.2.1 q
 ·have q:((s.heap.push lo).push { cls:=.type "dict", data:=.dict #[] }).Ns (s.heap.push lo).objs.size (fun _=>none):=Heap.Ns.new ..;rw [sz1] at q;exact q.keeps (pushCells_keeps _ _)
 ·have h3':(relabel scope X.env).names.lookup x ≠ none:=by
   rcases h3 with z | z | z <;> (intro q; have z':(relabel scope X.env).names.lookup x = _:=z; rw [q] at z'; cases z')
  obtain ⟨fr,hv⟩:=hσ i x v h1 h2 h3';obtain ⟨m,hn,hlk⟩:=I.loc;have kx:=S.free (x,.free) (zRP fr) rfl;obtain ⟨u,rv,lk⟩:=hlk i x v h1 hv (by rcases kx with z | z; exact .inr (.inl z); exact .inr (.inr z));refine ⟨u,rv,?_⟩;rcases lk with ⟨z,_⟩ | ⟨_,c,e,ic⟩
  ·rcases kx with k | k <;> (rw [k] at z; cases z)
  ·have kind:(relabel scope X.env).names.lookup x = some .cell \/ (relabel scope X.env).names.lookup x = some .free:=by
    cases q:(relabel scope X.env).names.lookup x with
    | none=>exact absurd q h3'
    | some k=>
     rcases zAW (scope:=scope) x q with z | z
     ·rw [fr] at z; cases z; exact .inr rfl
     ·rw [z.2]; exact .inl rfl
   refine .inr ⟨kind,c,?_,ic.keeps hk⟩;show (cellsFrom (s.heap.objs.size + 1 + 1) scope.names cl).lookup x = some c;rw [zy,zBS];obtain ⟨d,hd⟩:=Option.isSome_iff_exists.mp (c2 (x,.free) (zRP fr) rfl);have:=c1 x d hd;rw [e] at this; cases this;have nn:(cellsFrom (s.heap.objs.size + 1 + 1) scope.names []).lookup x = none:=by
    cases q:(cellsFrom (s.heap.objs.size + 1 + 1) scope.names []).lookup x with
    | none=>rfl
    | some d'=>
     have z:=S.cells (x,.cell) (zEM scope.names _ [] x d' (zRP q) fun z=>nomatch z) rfl;rw [fr] at z; cases z
   rw [nn]; exact hd
 ·rcases look x c e with q | ⟨_,q⟩
  ·exact ⟨none,(ok.empty x c (zRP q)).1⟩
  ·obtain ⟨v,z⟩:=I.cell x c q;exact ⟨v,z.keeps hk⟩
 ·rcases look x c e with q | ⟨_,q⟩
  ·exact I.hok.fresh (by have:=new x c q; omega)
  ·exact I.freeC x c q
 ·have hp':p ∈ X.pn ++ zB \/ p = (s.heap.objs.size,lo):=by
   rcases zQn.mp hp with z | z
   ·exact .inl z
   ·exact .inr (by simpa using z)
  rcases hp' with z | z
  ·obtain ⟨e,n,ne,nf,d⟩:=I.pin p z;have lt:(p.1:Nat) < s.heap.objs.size:=zQY e;refine ⟨hk _ _ e,n,?_,fun q=>?_,d⟩
   ·exact zQi (Nat.lt_succ_of_lt lt)
   ·rcases zQZ.mp (I.stkSub _ q) with r | r
    ·exact ne r
    ·exact nf r
  ·subst z;refine ⟨pushCells_keeps _ _ _ _ (zQO _ (zQX _ hfr)),I.hok.fresh (zQT _),?_,fun q=>?_,hlo⟩
   ·show s.heap.objs.size ≠ s.heap.objs.size + 1;omega
   ·rcases zQZ.mp (I.stkSub _ q) with r | r
    ·exact absurd I.lt (by rw [<- r]; exact zQ5 _)
    ·exact I.nofs (zQT _) r
end
def clr (own:List Nat) (σ:St):St:=own.foldl (fun σ i=>σ.set i none) σ
theorem zDv:∀ (own:List Nat) (σ:St),(clr own σ).length = σ.length
 | [],_=>rfl
 | i :: r,σ=>by
  show (clr r (σ.set i none)).length = _;rw [zDv r,List.length_set]
theorem zFv:∀ (own:List Nat) (σ:St) (j:Nat) (v:V),(clr own σ)[j]? = some (some v) -> σ[j]? = some (some v) /\ j ∉ own
 | [],_,_,_,h=>⟨h,fun z=>nomatch z⟩
 | i :: r,σ,j,v,h=>by
  have h':(clr r (σ.set i none))[j]? = some (some v):=h;obtain ⟨a,b⟩:=zFv r _ j v h';rw [zRw] at a;split at a
  ·split at a <;> cases a
  ·rename_i hne;exact ⟨a,fun z=>(zQZ.mp z).elim (fun e=>hne e.symm) b⟩
def Ext (a b:St):Prop:=b.length = a.length /\ ∀ (i:Nat) v,a[i]? = some (some v) -> b[i]? = some (some v)
theorem Ext.refl (a:St):Ext a a:=⟨rfl,fun _ _ h=>h⟩
theorem Ext.set (e:Ext (clr own σ) a) (h:i ∈ own):Ext (clr own σ) (a.set i (some v)):=by
 refine ⟨by rw [List.length_set]; exact e.1,fun j u q=>?_⟩;rw [zRw];split
 ·rename_i z;exact absurd (z ▸ h) (zFv own σ j u q).2
 ·exact e.2 j u q
def zLW (X:Cx) (ifs:List Expr) (t:TT):Prop :=
 ∀ (zB:List (Addr × Obj)) (s:Shared) (σ:St) (H:Hp) (Q:Bool -> Hp -> Prop),Inv X zB σ H s -> t σ H Q ->
  wpAny (model X.prog X.w) X.A (forIn ifs true fun c r=>if r = true then do let ok <- isTrue c X.env (eval c X.env); pure (ForInStep.yield ok) else pure (ForInStep.yield r)) (TP X zB σ Q) X.xe s
def zQI:TT:=fun _ H Q=>Q true H
theorem zKq:zLW X [] zQI:=fun _ _ _ H _ I h=>wpAny_tests_nil ⟨H,I,h⟩
theorem zK7 (h:PT X c t):zLW X [c] t:=fun zB s σ H Q I hq=>wpAny_tests_one (h zB s σ H Q I hq)
section
theorem zFZ (I:Nat -> Shared -> Prop)
  (turn:∀ n s,I n s -> wpAny (model prog w) A (pyNext it) (fun r s₁=>match r with
   | none=>R (.ok .next) s₁
   | some v=>wpAny (model prog w) A (letOwnedTupleGo target it v) (fun _ s₁'=>wpAny (model prog w) A (assign target env v) (fun _ s₂=>
     wpAny (model prog w) A (forIn ifs true fun c r=>if r = true then do let ok <- isTrue c env (eval c env); pure (ForInStep.yield ok) else pure (ForInStep.yield r)) (fun ok s₃=>
      if ok = true then wpAny (model prog w) A (eval elt env) (fun x s₄=>
       wpAny (model prog w) A (call (.builtin "list.append") [acc,x]) (fun _ s₅=>∃ m,m < n /\ I m s₅) (fun _ _=>False) s₄) (fun _ _=>False) s₃
      else ∃ m,m < n /\ I m s₃) (fun _ _=>False) s₂) (fun _ _=>False) s₁') (fun _ _=>False) s₁) (fun _ _=>False) s)
  (n:Nat) (h:I n s) :
  codeAny (model prog w) A (.compLoop (.ListComp elt [⟨target,iter,ifs,0⟩] scope pos) 0 it acc env) R s:=by
 refine codeAny_loop rfl I (fun n s hI=>?_) n h;show wpAny _ A ((compTurn (.ListComp elt [⟨target,iter,ifs,0⟩] scope pos) 0 it acc env).onRaise (fun x=>do noteFrame x env; theTreesLotGoes x)) _ _ s;refine wpAny_noted ?_;rw [compTurn_list];refine zQN (wpAny_standAt (zQN (zQt (turn n s hI) (fun r s₁ h₁=>?_) fun _ _ h'=>h'.elim)));cases r with
 | none=>exact zQP h₁
 | some v=>
  refine zQN (zQt h₁ (fun _ s₁' h₁'=>?_) fun _ _ h'=>h'.elim);refine zQN (zQt h₁' (fun _ s₂ h₂=>zQN (zQt h₂ (fun ok s₃ h₃=>?_) fun _ _ h'=>h'.elim)) fun _ _ h'=>h'.elim);cases ok with
  | false=>exact zQP ⟨rfl,h₃⟩
  | true=>
   exact zQN (zQN (zQt h₃ (fun x s₄ h₄=>zQN (zQt h₄ (fun _ s₅ h₅=>zQP (zQP ⟨rfl,h₅⟩)) fun _ _ h'=>h'.elim)) fun _ _ h'=>h'.elim))
end
def zLU (own:List Nat) (wi:TI) (g:TG) (tc:TT) (te:TE):TE:=fun σ H Q=>wi σ H fun J H1=>∃ W:Nat -> Nat -> List V -> Hp -> Prop,(∃ m,W 0 m [] H1) /\ ∀ i m ys H,W i m ys H ->
 (J.stop i H /\ ys.length <= sizeLine /\ ∀ D,H D = none -> Q (.ref D) (upd H D (.lst ys))) \/
 (J.go i H /\ ∀ x H',J.yld i H x H' -> g x (clr own σ) H' fun σ2 H2=>Ext (clr own σ) σ2 /\ tc σ2 H2 fun b H3=>
  if b = true then te σ2 H3 fun v H4=>ys.length < sizeLine /\ ∃ m',m' < m /\ W (i + 1) m' (ys ++ [v]) H4 else ∃ m',m' < m /\ W (i + 1) m' ys H3)
abbrev zAe (its:List Value) (n:Nat):Obj:={ cls:=.type "list", data:=.seq its.toArray n }
section
theorem Inv.repin (I:Inv X (pl ++ [(D,o)]) σ H s) (hpl:∀ p ∈ X.pn ++ pl,p.1 ≠ D) (hs:Heap.SameBut D s.heap h') (hD:X.s₀.heap.objs.size <= D) (hc:∀ x c,X.env.cells.lookup x = some c -> c ≠ D)
  (e:h'.get? D = some o') (hn:∀ v,o'.data ≠ .cell v):Inv X (pl ++ [(D,o')]) σ H { s with heap:=h' }:=by
 obtain ⟨e0,n0,ne0,nf0,d0⟩:=I.pin (D,o) (by simp);have I1:Inv X pl σ H s:=I.pins_of fun p hp=>I.pin p (by simp [hp]);have I2:Inv X pl σ H { s with heap:=h' }:=I1.turned (t':=s.toks) (it:=D) (fun b u hb q=>hs.extBut b u hb q) n0 ne0 (.inr hD) hc hpl;exact I2.pins_of fun p hp=>by
  rcases zQn.mp hp with z | z
  ·exact I2.pin p (zQh _ z)
  ·have:p = (D,o'):=by simpa using z
   subst this;exact ⟨e,n0,ne0,nf0,hn⟩
end
section
variable {pos:Pos}
 {own:List Nat} {g:TG} {tc:TT} {te:TE} {E:Value -> Shared -> Prop}
structure CompIn (X:Cx) (scope:Scope) (own:List Nat):Prop where
 sc:CompScope X scope
 nm:∀ (i:Nat) x,X.N[i]? = some x -> i ∈ own \/ scope.names.lookup x = none \/ scope.names.lookup x = some .free
theorem zFh (x:Str) (h:scope.names.lookup x = none):(relabel scope env).names.lookup x = none:=by
 cases q:(relabel scope env).names.lookup x with
 | none=>rfl
 | some k=>
  rcases zAW (scope:=scope) x q with z | z
  ·rw [h] at z; cases z
  ·rw [h] at z; cases z.1
theorem zD3 (C:CompIn X scope own) (hcalm:X.calm = true) (I:Inv X zB σ H s) (T:Turn X.prog X.w X.K tg J fp it tn) (st:tn 0 s.heap) (hf:∀ b ∈ fp,zBq X zB H b)
  (c1:∀ x c,cl.lookup x = some c -> X.env.cells.lookup x = some c) (c2:∀ y ∈ scope.names,y.2 = .free -> (cl.lookup y.1).isSome = true)
  (hg:PG (zAK X zB scope cl s H fp) tg g) (hi:zLW (zAK X zB scope cl s H fp) ifs tc) (he:PE (zAK X zB scope cl s H fp) elt te)
  {RR:Value -> Addr -> Result -> Shared -> Prop} {QQ:List V -> Hp -> Prop} {W:Nat -> Nat -> List V -> Hp -> Prop} {m0:Nat} (w0:W 0 m0 [] H)
  (turn:∀ i m ys H,W i m ys H -> (J.stop i H /\ ys.length <= sizeLine /\ QQ ys H) \/
   (J.go i H /\ ∀ x H',J.yld i H x H' -> g x (clr own σ) H' fun σ2 H2=>Ext (clr own σ) σ2 /\ tc σ2 H2 fun b H3=>
    if b = true then te σ2 H3 fun v H4=>ys.length < sizeLine /\ ∃ m',m' < m /\ W (i + 1) m' (ys ++ [v]) H4 else ∃ m',m' < m /\ W (i + 1) m' ys H3))
  (fin:∀ σc H' s' its n ys,Inv (zAK X zB scope cl s H fp) [(s.heap.objs.size,zAe its n)] σc H' s' -> zU ys its -> ys.length <= sizeLine -> QQ ys H' -> RR (.ref s.heap.objs.size) (s.heap.objs.size + 1) (.ok .next) s') :
  wpAny (model X.prog X.w) X.A (newList []) (fun acc s₃=>wpAny (model X.prog X.w) X.A (newFunctionEnv scope X.env.globals cl [] X.env.qual none .none (some X.env)) (fun cenv s₄=>
   codeAny (model X.prog X.w) X.A (.compStart (.ListComp elt [⟨tg,iter,ifs,0⟩] scope pos) 0 (.ref it) acc { cenv with scope:=relabel scope X.env }) (RR acc cenv.locals) s₄) E s₃) E s:=by
 have ob:∀ b:Nat,b ∈ fp -> b < s.heap.objs.size:=fun b hb=>let ⟨_,e,_⟩:=T.obj 0 _ st b hb; zQY e;refine zQq (zG0 ?_);have sz1:(s.heap.push (zAe [] 0)).objs.size = s.heap.objs.size + 1:=zQ3 ..;have I4:=zKF (X:=X) (zB:=zB) (σ:=σ) (σc:=clr own σ) (H:=H) (s:=s) (scope:=scope) (cl:=cl) (fp:=fp) C.sc I hf ob c1 c2 (zDv own σ) (fun i x v h1 h2 h3=>by
  obtain ⟨a,b⟩:=zFv own σ i v h2;rcases C.nm i x h1 with z | z | z
  ·exact absurd z b
  ·exact absurd (zFh x z) h3
  ·exact ⟨z,a⟩) (zAe [] 0) (by intro v z; cases z) rfl rfl
 have st4:tn 0 (pushCells ((s.heap.push (zAe [] 0)).push { cls:=.type "dict", data:=.dict #[] }) scope.names):=T.keep 0 _ _ st fun b _ o e=>pushCells_keeps _ _ b o (zQO _ (zQO _ e));unfold newEnv;rw [sz1];have hDfp:s.heap.objs.size ∉ fp:=fun z=>zQ5 _ (ob _ z);have hcD:∀ x c,(zAK X zB scope cl s H fp).env.cells.lookup x = some c -> c ≠ s.heap.objs.size:=fun x c e z=>by
  obtain ⟨v,o,ho,hd⟩:=I4.cell x c e;obtain ⟨q,_⟩:=I4.pin (s.heap.objs.size,zAe [] 0) (by simp);rw [z,q] at ho;cases ho; cases hd
 have fpk:∀ {H':Hp} {pl:List (Addr × Obj)},(∀ b ∈ fp,H' b = none) -> (∀ p ∈ pl,p.1 = s.heap.objs.size) -> ∀ b ∈ fp,zBq (zAK X zB scope cl s H fp) pl H' b:=fun {H' pl} hn hp b hb=>
  ⟨hn b hb,(I4.ok.exf b hb).1,I4.ok.exfs b hb,.inl hb,(I4.ok.exf b hb).2,fun p hq=>by
   rcases zQn.mp hq with z | z
   ·exact (hf b hb).2.2.2.2.2 p z
   ·intro e;have e2:=hp p z;rw [e] at e2;exact hDfp (e2 ▸ hb)⟩
 have loop:codeAny (model X.prog X.w) X.A (.compLoop (.ListComp elt [⟨tg,iter,ifs,0⟩] scope pos) 0 (.ref it) (.ref s.heap.objs.size) (zAK X zB scope cl s H fp).env) (RR (.ref s.heap.objs.size) (s.heap.objs.size + 1))
   { s with heap:=pushCells ((s.heap.push (zAe [] 0)).push { cls:=.type "dict", data:=.dict #[] }) scope.names }:=by
  refine zFZ (fun n s'=>∃ i H' ys its k,Inv (zAK X zB scope cl s H fp) [(s.heap.objs.size,zAe its k)] (clr own σ) H' s' /\ zU ys its /\ tn i s'.heap /\ (∀ b ∈ fp,H' b = none) /\ W i n ys H') ?_ m0
   ⟨0,H,[],[],0,I4,.nil,st4,fun b hb=>(hf b hb).1,w0⟩
  rintro n s5 ⟨i,H5,ys,its,k,I5,r5,st5,f5,w5⟩;have pinD:∀ p ∈ [(s.heap.objs.size,zAe its k)],p.1 = s.heap.objs.size:=fun p hp=>by
   have:p = (s.heap.objs.size,zAe its k):=by simpa using hp
   rw [this]
  rcases turn i n ys H5 w5 with ⟨stop,hz,qq⟩ | ⟨go,step⟩
  ·refine thn (T.done (zAK X zB scope cl s H fp) rfl rfl rfl hcalm i _ s5 _ H5 _ I5 (fpk f5 pinD) st5 stop) fun r s6 ⟨hr,I6⟩=>?_;subst hr;exact fin _ H5 s6 its k ys I6 r5 hz qq
  ·refine thn (T.item (zAK X zB scope cl s H fp) rfl rfl rfl hcalm i _ s5 _ H5 _ I5 (fpk f5 pinD) st5 go) fun r s6 ⟨u,hr,h6⟩=>?_;subst hr;refine thn h6 fun _ s7 ⟨x,H7,I7,r7,y7,st7,f7⟩=>?_;have I7':=I7.pinned (fpk f7 pinD) (T.obj _ _ st7);refine thn (hg _ s7 _ H7 x u _ I7' r7 (step x H7 y7)) fun _ s8 ⟨σ8,H8,I8,x8,q8⟩=>?_;refine thn (hi _ s8 σ8 H8 _ I8 q8) fun ok s9 ⟨H9,I9,q9⟩=>?_;have back:∀ {s':Shared} {Hx:Hp},Inv (zAK X zB scope cl s H fp) ([(s.heap.objs.size,zAe its k)] ++ zEO fp s7.heap) σ8 Hx s' -> tn (i + 1) s'.heap /\ ∀ b ∈ fp,Hx b = none:=fun {s' Hx} Ix=>
    ⟨T.keep _ _ _ st7 fun b hb o e=>(Ix.pin (b,o) (zQh _ (zQh _ (zB5 hb e)))).1,fun b hb=>by
     obtain ⟨o,e,d⟩:=T.obj _ _ st7 b hb;exact (Ix.pin (b,o) (zQh _ (zQh _ (zB5 hb e)))).2.1⟩
   cases ok with
   | false=>
    obtain ⟨m',hm,w'⟩:=q9;obtain ⟨b1,b2⟩:=back I9;exact ⟨m',hm,i + 1,H9,ys,its,k,(I9.weak (by rw [x8.1]) x8.2).unpinned,r5,b1,b2,w'⟩
   | true=>
    refine thn (he _ s9 σ8 H9 _ I9 q9) fun v s10 ⟨y,H10,I10,r10,hlt,m',hm,w'⟩=>?_;obtain ⟨b1,b2⟩:=back I10;have J10:=(I10.weak (by rw [x8.1]) x8.2).unpinned;obtain ⟨e10,n10,ne10,nf10,d10⟩:=J10.pin (s.heap.objs.size,zAe its k) (by simp);have hlen:its.toArray.size <= sizeLine:=by
     have:=r5.length;rw [zQV,<- this];exact Nat.le_of_lt hlt
    refine wpAny_list_append_plain (hsz:=hlen) (show s10.heap.PlainList s.heap.objs.size its.toArray from ⟨k,e10⟩) fun h' hl' hs'=>?_;obtain ⟨k',e'⟩:=hl';have e'':h'.get? s.heap.objs.size = some (zAe (its ++ [v]) k'):=by rw [e']; simp [zAe]
    refine ⟨m',hm,i + 1,H10,ys ++ [y],its ++ [v],k',?_,r5.append (.cons r10 .nil),T.keep _ _ _ b1 fun b hb o e=>hs'.extBut b o (fun z=>hDfp (z ▸ hb)) e,b2,w'⟩;refine Inv.repin (pl:=[]) J10 (fun p hp=>?_) hs' (zQT _) hcD e'' (by intro v z; cases z);rw [zQ7] at hp;have hp':p ∈ X.pn ++ zB:=hp;exact zQi (zQY (I.pin p hp').1)
 exact codeAny_compStart_list loop (T.self _ 0 _ _ _ st4 loop)
end
section
theorem zGX (I:Inv X zB σ H s) (hf:∀ b ∈ fp,zBq X zB H b)
  (Ic:Inv (zAK X zB scope cl s H fp) [(s.heap.objs.size,zAe its n)] σc H' s') (rv:zU ys its) (hz:ys.length <= sizeLine) (hs:Heap.SameBut (s.heap.objs.size + 1) s'.heap h') :
  Inv X zB σ (upd H' s.heap.objs.size (.lst ys)) { s' with heap:=h' } /\ H' s.heap.objs.size = none:=by
 obtain ⟨eD,nD,_⟩:=Ic.pin (s.heap.objs.size,zAe its n) (by simp);have nC:H' (s.heap.objs.size + 1) = none:=Ic.free;have eD':h'.get? s.heap.objs.size = some (zAe its n):=hs.extBut _ _ (zQi (Nat.lt_succ_self _)) eD;have lt1:∀ {b:Addr} {o:Obj},s.heap.get? b = some o -> b ≠ s.heap.objs.size + 1 /\ b ≠ s.heap.objs.size:=fun e=>⟨zQi (Nat.lt_succ_of_lt (zQY e)),zQi (zQY e)⟩;have tr:∀ b u,H' b = some u -> b ≠ s.heap.objs.size + 1 /\ b ≠ s.heap.objs.size:=fun b u e=>⟨fun z=>(by rw [z,nC] at e; cases e),fun z=>(by rw [z,nD] at e; cases e)⟩;refine ⟨?_,nD⟩;have B:=Ic.base;have un:Un (frs X.stack) fp H (upd H' s.heap.objs.size (.lst ys)) s.heap h':=by
  refine ⟨fun b o e q hb hx=>hs.extBut b o (lt1 e).1 (B.keep b o e q hb hx),fun b o e q hb hx=>?_,fun b o e q hx=>?_,fun b o e hx=>?_,fun b xs e=>?_,fun b o xs e=>?_,fun b ps e=>?_⟩
  ·obtain ⟨sl,e1⟩:=B.slot b o e q hb hx;exact ⟨sl,hs.extBut b _ (lt1 e).1 e1⟩
  ·rw [zM (lt1 e).2]; exact B.free b o e q hx
  ·obtain ⟨o',e1⟩:=B.there b o e hx;exact ⟨o',hs.extBut b _ (lt1 e).1 e1⟩
  ·have q:=B.tups b xs e;rw [zM (tr b _ q).2]; exact q
  ·have q:=B.frzs b o xs e;rw [zM (tr b _ q).2]; exact q
  ·obtain ⟨more,q⟩:=B.tbls b ps e;exact ⟨more,by rw [zM (tr b _ q).2]; exact q⟩
 have hok:HOk X.prog X.w (upd H' s.heap.objs.size (.lst ys)) h':=fun b u e=>by
  by_cases hb:b = s.heap.objs.size
  ·subst hb;rw [zj] at e; cases e;exact ⟨hz,its,n,rv,eD'⟩
  ·rw [zM hb] at e;refine (Ic.hok b u e).stay (fun c v hc q=>hs.extBut c v ?_ q) (fun c q=>by rw [zM (tr c _ q).2]; exact q) fun c xs q=>by rw [zM (tr c _ q).2]; exact q
   rcases hc with z | z
   ·rw [z]; exact (tr b u e).1
   ·exact (tr c _ z).1
 exact I.call' (s':={ s' with heap:=h' }) (ch:=fp) Ic.os un hok Ic.bare fun b hb=>⟨(hf b hb).2.2.2.1,(hf b hb).2.1,(hf b hb).2.2.2.2.1,(hf b hb).2.2.2.2.2⟩
end
section
structure CompParts (X:Cx) (scope:Scope) (tg:Expr) (ifs:List Expr) (elt:Expr) (g:TG) (tc:TT) (te:TE):Prop where
 g:∀ zB cl s H fp,PG (zAK X zB scope cl s H fp) tg g
 c:∀ zB cl s H fp,zLW (zAK X zB scope cl s H fp) ifs tc
 e:∀ zB cl s H fp,PE (zAK X zB scope cl s H fp) elt te
theorem CompScope.closure (S:CompScope X scope) (I:Inv X zB σ H s) :
  ∃ cl,closureFor scope X.env = pure cl /\ (∀ x c,cl.lookup x = some c -> X.env.cells.lookup x = some c) /\ ∀ y ∈ scope.names,y.2 = .free -> (cl.lookup y.1).isSome = true :=
 zEr fun y hy hk=>I.ok.has y.1 (S.free y hy hk)
theorem zML (C:CompIn X scope own) (hcalm:X.calm = true) (hi:PI X tg iter wi) (p:CompParts X scope tg ifs elt g tc te) (hs:∀ x,foldedSetIterable iter X.env x = pure x:=by intro _; rfl) :
  PE X (.ListComp elt [⟨tg,iter,ifs,0⟩] scope pos) (zLU own wi g tc te):=by
 intro zB s σ H Q I h;obtain ⟨cl,hcl,c1,c2⟩:=C.sc.closure I;rw [eval_ListComp];refine wpAny_comprehension_free (use:=none) rfl hs hcl C.sc.kind C.sc.names (thn (hi zB s σ H _ I h) fun v s1 h1=>thn h1 fun itv s2 h2=>?_);obtain ⟨it,fp,tn,J,H2,e,I2,T,st2,f2,W,⟨m0,w0⟩,turn⟩:=h2;subst e;refine zD3 C hcalm I2 T st2 f2 c1 c2 (p.g _ _ _ _ _) (p.c _ _ _ _ _) (p.e _ _ _ _ _) (RR:=fun acc C r s'=>compPost (model X.prog X.w) X.A X.xe none (EP X zB σ Q) acc C r s') (QQ:=fun ys H=>∀ D,H D = none -> Q (.ref D) (upd H D (.lst ys))) w0 turn ?_;intro σc H' s' its n ys Ic rv hz qq;obtain ⟨m,hn,_⟩:=Ic.loc;refine ⟨m,hn,fun h' hs'=>?_⟩;obtain ⟨J',nD⟩:=zGX I2 f2 Ic rv hz hs';exact ⟨.ref s2.heap.objs.size,_,J',rfl,qq _ nD⟩
theorem zHO (hN:X.N.Nodup) (hi':X.N[i]? = some x) (hx:Loc X.env.scope x) (hfn:X.fn x = true \/ X.env.scope.names.lookup x = some .local)
  (C:CompIn X scope own) (hcalm:X.calm = true) (hi:PI X tg iter wi) (p:CompParts X scope tg ifs elt g tc te)
  (hsw:swapsWith (.ListComp elt [⟨tg,iter,ifs,0⟩] scope pos) (some (.Name x pos')) pos''.line X.env = pure true) (hs:∀ x,foldedSetIterable iter X.env x = pure x:=by intro _; rfl) :
  PS X (.Assign [.Name x pos'] (.ListComp elt [⟨tg,iter,ifs,0⟩] scope pos) pos'') (zLr (zLU own wi g tc te) (zCi i)):=by
 intro zB s σ H D I h;obtain ⟨cl,hcl,c1,c2⟩:=C.sc.closure I;rw [exec_Assign_Name_used _ _ _ _ hsw];refine zQN (wpAny_standAt (zQN ?_))
 refine zQN (zQt (wpAny_comprehension_free (use:=some (assign (.Name x pos') X.env)) (Q:=fun _ s'=>SP X zB D .next s') rfl hs hcl C.sc.kind C.sc.names
  (thn (hi zB s σ H _ I h) fun v s1 h1=>thn h1 fun itv s2 h2=>?_)) (fun _ s' hq=>zQP (zQP hq)) fun _ _ e=>e)
 obtain ⟨it,fp,tn,J,H2,e,I2,T,st2,f2,W,⟨m0,w0⟩,turn⟩:=h2;subst e
 refine zD3 C hcalm I2 T st2 f2 c1 c2 (p.g _ _ _ _ _) (p.c _ _ _ _ _) (p.e _ _ _ _ _) (RR:=fun acc C r s'=>compPost (model X.prog X.w) X.A X.xe (some (assign (.Name x pos') X.env)) (fun _ s'=>SP X zB D .next s') acc C r s')
  (QQ:=fun ys H=>∀ E,H E = none -> zCi i (.ref E) σ (upd H E (.lst ys)) D.nx) w0 turn ?_
 intro σc H' s' its n ys Ic rv hz qq;obtain ⟨m,hn,_⟩:=Ic.loc;obtain ⟨J',nD⟩:=zGX (h':=s'.heap) I2 f2 Ic rv hz (.refl ..);obtain ⟨oC,es,ep,hoC,hdC,r1,r2⟩:=id hn;have nC:upd H' s2.heap.objs.size (.lst ys) (s2.heap.objs.size + 1) = none:=by rw [zM (zRs (Nat.lt_succ_self _))]; exact Ic.free
 have K':Inv X (zB ++ [(s2.heap.objs.size + 1,oC)]) σ (upd H' s2.heap.objs.size (.lst ys)) s':=J'.pins_of fun q hq=>by
  rcases zQn.mp hq with z | z
  ·exact J'.pin q (zQh _ z)
  ·have e:q = (s2.heap.objs.size + 1,oC):=by simpa using z
   subst e;refine ⟨hoC,nC,zRs (Nat.lt_succ_of_lt I2.lt),I2.nofs (Nat.le_succ _),fun v z=>?_⟩;have z':oC.data = .cell v:=z;rw [hdC] at z'; cases z'
 refine thn (zIN hN hi' hx hfn _ s' σ _ (.ref s2.heap.objs.size) (.ref s2.heap.objs.size) _ K' rfl (qq _ nD)) fun _ s'' ⟨σ'',H'',I'',q''⟩=>?_;obtain ⟨eC,_⟩:=I''.pin (s2.heap.objs.size + 1,oC) (by simp);refine ⟨m,⟨oC,es,ep,eC,hdC,r1,r2⟩,fun h' hs'=>⟨σ'',H'',?_,q''⟩⟩;have I3:Inv X zB σ'' H'' s'':=I''.unpinned;obtain ⟨_,nC'',neC,_,_⟩:=I''.pin (s2.heap.objs.size + 1,oC) (by simp);refine I3.turned (t':=s''.toks) (it:=s2.heap.objs.size + 1) (fun b o hb e=>hs'.extBut b o hb e) nC'' neC (.inr (zQo I2.sz (Nat.le_succ _))) (fun x c e z=>?_) (fun q hq z=>?_)
 ·obtain ⟨v,o,ho,hd⟩:=I3.cell x c e;rw [z,eC] at ho; cases ho;rw [hdC] at hd; cases hd
 ·obtain ⟨e,_⟩:=I2.pin q hq;exact zQi (Nat.lt_succ_of_lt (zQY e)) z
end
end L2
namespace L3
open PySem PySem.Spec PyProof.Rows L2
abbrev Sv:=List (Option V)
set_option genInjectivity true in
inductive D where
 | non | bl (b:Bool) | int (i:Int) | str (x:Str) | tup (xs:List D) | ref (n:Nat)
set_option genInjectivity true in
inductive MO where
 | lst (xs:List D) | fro (xs:List D) | dict (kvs:List (D × D)) | dicT (kvs:List (D × D)) | set (xs:List D) | froT (kvs:List (D × D)) | froK (kvs:List (D × D))
mutual
def Rep (L:List Addr) (H:Hp):D -> V -> Prop
 | .non,v=>v = .non
 | .bl b,v=>v = .bl b
 | .int i,v=>v = .int i
 | .str x,v=>v = .str x
 | .tup ds,v=>∃ a vs,v = .ref a /\ H a = some (.tup vs) /\ zH L H ds vs
 | .ref n,v=>∃ a,v = .ref a /\ L[n]? = some a
def zH (L:List Addr) (H:Hp):List D -> List V -> Prop
 | [],vs=>vs = []
 | d :: ds,vs=>∃ v r,vs = v :: r /\ Rep L H d v /\ zH L H ds r
end
theorem zH.length:∀ {ds:List D} {vs:List V},zH L H ds vs -> vs.length = ds.length
 | [],_,h=>by unfold zH at h; subst h; rfl
 | d :: ds,_,h=>by
  unfold zH at h;obtain ⟨v,r,rfl,_,h2⟩:=h;simp [zH.length h2]
theorem zH.nil:zH L H [] []:=by unfold zH; rfl
theorem zH.cons (h:Rep L H d v) (t:zH L H ds vs):zH L H (d :: ds) (v :: vs):=by
 unfold zH; exact ⟨v,vs,rfl,h,t⟩
theorem zH.get:∀ {ds:List D} {vs:List V} {i:Nat} {d:D},zH L H ds vs -> ds[i]? = some d -> ∃ v,vs[i]? = some v /\ Rep L H d v
 | [],_,_,_,_,e=>by simp at e
 | d :: ds,_,0,d',h,e=>by
  unfold zH at h;obtain ⟨v,r,rfl,h1,h2⟩:=h;simp at e; subst e;exact ⟨v,rfl,h1⟩
 | d :: ds,_,i + 1,d',h,e=>by
  unfold zH at h;obtain ⟨v,r,rfl,h1,h2⟩:=h;obtain ⟨u,e1,e2⟩:=zH.get (i:=i) h2 (by simpa using e);exact ⟨u,by simpa using e1,e2⟩
theorem zH.app:∀ {ds es:List D} {vs ws:List V},zH L H ds vs -> zH L H es ws -> zH L H (ds ++ es) (vs ++ ws)
 | [],_,_,_,h,t=>by unfold zH at h; subst h; exact t
 | d :: ds,_,_,_,h,t=>by
  unfold zH at h;obtain ⟨v,r,rfl,h1,h2⟩:=h;exact .cons h1 (zH.app h2 t)
theorem zH.set (h:Rep L H d v):∀ {ds:List D} {vs:List V} (i:Nat),zH L H ds vs -> zH L H (ds.set i d) (vs.set i v)
 | [],_,_,t=>by unfold zH at t; subst t; exact .nil
 | _ :: _,_,0,t=>by
  unfold zH at t;obtain ⟨v',r,rfl,h1,h2⟩:=t;exact .cons h h2
 | _ :: _,_,i + 1,t=>by
  unfold zH at t;obtain ⟨v',r,rfl,h1,h2⟩:=t;exact .cons h1 (zH.set h i h2)
theorem zH.drop:∀ {ds:List D} {vs:List V} (n:Nat),zH L H ds vs -> zH L H (ds.drop n) (vs.drop n)
 | _,_,0,t=>t
 | [],_,n + 1,t=>by unfold zH at t; subst t; exact .nil
 | _ :: _,_,n + 1,t=>by
  unfold zH at t;obtain ⟨v',r,rfl,h1,h2⟩:=t;exact zH.drop n h2
theorem zH.take:∀ {ds:List D} {vs:List V} (n:Nat),zH L H ds vs -> zH L H (ds.take n) (vs.take n)
 | _,_,0,t=> .nil
 | [],_,n + 1,t=>by unfold zH at t; subst t; exact .nil
 | _ :: _,_,n + 1,t=>by
  unfold zH at t;obtain ⟨v',r,rfl,h1,h2⟩:=t;exact .cons h1 (zH.take n h2)
theorem zH.eraseIdx:∀ {ds:List D} {vs:List V} (n:Nat),zH L H ds vs -> zH L H (ds.eraseIdx n) (vs.eraseIdx n)
 | [],_,n,t=>by unfold zH at t; subst t; exact .nil
 | _ :: _,_,0,t=>by
  unfold zH at t;obtain ⟨v',r,rfl,h1,h2⟩:=t;exact h2
 | _ :: _,_,n + 1,t=>by
  unfold zH at t;obtain ⟨v',r,rfl,h1,h2⟩:=t;exact .cons h1 (zH.eraseIdx n h2)
structure Stp (L:List Addr) (H:Hp) (L':List Addr) (H':Hp):Prop where
 pre:∃ N,L' = L ++ N
 new:∀ a ∈ L',a ∈ L \/ H a = none
 old:∀ a o,H a = some o -> a ∉ L -> H' a = some o
 tup:∀ a xs,H a = some (.tup xs) -> H' a = some (.tup xs)
 frz:∀ a o u,H a = some (.frz o u) -> H' a = some (.frz o u)
theorem Stp.refl (L:List Addr) (H:Hp):Stp L H L H:=⟨⟨[],by simp⟩,fun _ h=> .inl h,fun _ _ h _=>h,fun _ _ h=>h,fun _ _ _ h=>h⟩
theorem Stp.trans (a:Stp L H L1 H1) (b:Stp L1 H1 L2 H2):Stp L H L2 H2:=by
 obtain ⟨N,rfl⟩:=a.pre;obtain ⟨N',rfl⟩:=b.pre;have back:∀ c,c ∉ L -> H1 c = none -> H c = none:=fun c hc h1=>by
  cases q:H c with
  | none=>rfl
  | some o=>rw [a.old c o q hc] at h1; cases h1
 refine ⟨⟨N ++ N',by simp⟩,fun c hc=>?_,fun c o e hc=>?_,fun c xs e=>b.tup c xs (a.tup c xs e),fun c o u e=>b.frz c o u (a.frz c o u e)⟩
 ·by_cases hL:c ∈ L
  ·exact .inl hL
  ·rcases b.new c hc with z | z
   ·exact a.new c z
   ·exact .inr (back c hL z)
 ·refine b.old c o (a.old c o e hc) fun z=>?_;rcases a.new c z with q | q
  ·exact hc q
  ·rw [q] at e; cases e
theorem Stp.grow (h:∀ a o,H a = some o -> H' a = some o):Stp L H L H':=⟨⟨[],by simp⟩,fun _ h=> .inl h,fun a o e _=>h a o e,fun a _ e=>h a _ e,fun a _ _ e=>h a _ e⟩
theorem Stp.upd (h:H p = none):Stp L H L (upd H p o):=.grow fun a u e=>by rw [zM (zb e h)]; exact e
theorem zBz {L N:List Addr} {n:Nat} {a:Addr} (h:L[n]? = some a):(L ++ N)[n]? = some a:=by
 rw [zQU (zQQ.mp h).1]; exact h
mutual
theorem Rep.stp {L L':List Addr} {H H':Hp} (s:Stp L H L' H'):∀ {d:D} {v:V},Rep L H d v -> Rep L' H' d v
 | .non,_,h=>by unfold Rep at h ⊢; exact h
 | .bl _,_,h=>by unfold Rep at h ⊢; exact h
 | .int _,_,h=>by unfold Rep at h ⊢; exact h
 | .str _,_,h=>by unfold Rep at h ⊢; exact h
 | .tup ds,_,h=>by
  unfold Rep at h ⊢;obtain ⟨a,vs,rfl,e,r⟩:=h;exact ⟨a,vs,rfl,s.tup a vs e,zH.stp s r⟩
 | .ref n,_,h=>by
  unfold Rep at h ⊢;obtain ⟨a,rfl,e⟩:=h;obtain ⟨N,rfl⟩:=s.pre;exact ⟨a,rfl,zBz e⟩
theorem zH.stp (s:Stp L H L' H'):∀ {ds:List D} {vs:List V},zH L H ds vs -> zH L' H' ds vs
 | [],_,h=>by unfold zH at h ⊢; exact h
 | d :: ds,_,h=>by
  unfold zH at h ⊢;obtain ⟨v,r,rfl,h1,h2⟩:=h;exact ⟨v,r,rfl,Rep.stp s h1,zH.stp s h2⟩
end
def zBQ:D -> Option Key
 | .int i=>some (.inl i)
 | .str x=>some (.inr x)
 | _=>none
def zEa:List D -> Option (List Key)
 | []=>some []
 | d :: r=>match zBQ d,zEa r with
  | some k,some ks=>some (k :: ks)
  | _,_=>none
def tkD:D -> Option (List Key)
 | .tup ds=>zEa ds
 | _=>none
def zAN {κ:Type} (kf:D -> Option κ) (L:List Addr) (H:Hp):List (D × D) -> List (κ × V) -> Prop
 | [],vs=>vs = []
 | p :: r,vs=>∃ k v r',vs = (k,v) :: r' /\ kf p.1 = some k /\ Rep L H p.2 v /\ zAN kf L H r r'
theorem zAN.stp {κ:Type} {kf:D -> Option κ} {L L':List Addr} {H H':Hp} (s:Stp L H L' H'):∀ {ps:List (D × D)} {vs:List (κ × V)},zAN kf L H ps vs -> zAN kf L' H' ps vs
 | [],_,h=>h
 | p :: r,_,h=>by
  obtain ⟨k,v,r',rfl,e,h1,h2⟩:=h;exact ⟨k,v,r',rfl,e,h1.stp s,zAN.stp s h2⟩
theorem zAN.length {κ:Type} {kf:D -> Option κ} {L:List Addr} {H:Hp}:∀ {ps:List (D × D)} {vs:List (κ × V)},zAN kf L H ps vs -> vs.length = ps.length
 | [],_,h=>by unfold zAN at h; subst h; rfl
 | p :: r,_,h=>by
  obtain ⟨k,v,r',rfl,e,h1,h2⟩:=h;simp [zAN.length h2]
def zDz (K:PySem.W.Frag) (L:List Addr) (H:Hp) (a:Addr):MO -> Prop
 | .lst xs=>∃ vs,H a = some (.lst vs) /\ zH L H xs vs
 | .fro xs=>∃ o vs,H a = some (.frz o (.lst vs)) /\ zH L H xs vs
 | .dict ps=>∃ vs,H a = some (.dK vs) /\ zAN zBQ L H ps vs
 | .dicT ps=>∃ vs,H a = some (.dT vs) /\ zAN tkD L H ps vs
 | .set _=>∃ o u,H a = some (.frz o u)
 | .froT ps=>∃ o vs,H a = some (.frz o (.dT vs)) /\ zAN tkD L H ps vs
 | .froK ps=>∃ o vs,H a = some (.frz o (.dK vs)) /\ zAN zBQ L H ps vs
theorem zDz.there {K:PySem.W.Frag} {L:List Addr} {H:Hp} {a:Addr} {m:MO} (h:zDz K L H a m):∃ o,H a = some o:=by
 cases m with
 | lst xs=>obtain ⟨vs,e,_⟩:=h; exact ⟨_,e⟩
 | fro xs=>obtain ⟨o,vs,e,_⟩:=h; exact ⟨_,e⟩
 | dict ps=>obtain ⟨vs,e,_⟩:=h; exact ⟨_,e⟩
 | dicT ps=>obtain ⟨vs,e,_⟩:=h; exact ⟨_,e⟩
 | set _=>obtain ⟨o,u,e⟩:=h; exact ⟨_,e⟩
 | froT ps=>obtain ⟨o,vs,e,_⟩:=h; exact ⟨_,e⟩
 | froK ps=>obtain ⟨o,vs,e,_⟩:=h; exact ⟨_,e⟩
theorem zDz.stp {K:PySem.W.Frag} {L L':List Addr} {H H':Hp} {a:Addr} {m:MO} (s:Stp L H L' H') (hk:∀ o,H a = some o -> H' a = some o) (h:zDz K L H a m):zDz K L' H' a m:=by
 cases m with
 | lst xs=>obtain ⟨vs,e,r⟩:=h; exact ⟨vs,hk _ e,r.stp s⟩
 | fro xs=>obtain ⟨o,vs,e,r⟩:=h; exact ⟨o,vs,hk _ e,r.stp s⟩
 | dict ps=>obtain ⟨vs,e,r⟩:=h; exact ⟨vs,hk _ e,r.stp s⟩
 | dicT ps=>obtain ⟨vs,e,r⟩:=h; exact ⟨vs,hk _ e,r.stp s⟩
 | set _=>obtain ⟨o,u,e⟩:=h; exact ⟨o,u,hk _ e⟩
 | froT ps=>obtain ⟨o,vs,e,r⟩:=h; exact ⟨o,vs,hk _ e,r.stp s⟩
 | froK ps=>obtain ⟨o,vs,e,r⟩:=h; exact ⟨o,vs,hk _ e,r.stp s⟩
structure Cor (K:PySem.W.Frag) (L:List Addr) (M:List MO) (H:Hp):Prop where
 len:L.length = M.length
 nd:L.Nodup
 obj:∀ (n:Nat) a m,L[n]? = some a -> M[n]? = some m -> zDz K L H a m
def zAu (L:List Addr) (H:Hp) (σ:List (Option D)) (τ:Sv):Prop:=τ.length = σ.length /\ ∀ (i:Nat) d,σ[i]? = some (some d) -> ∃ v,τ[i]? = some (some v) /\ Rep L H d v
theorem zAu.stp (s:Stp L H L' H') (h:zAu L H σ τ):zAu L' H' σ τ :=
 ⟨h.1,fun i d e=>let ⟨v,e1,r⟩:=h.2 i d e; ⟨v,e1,r.stp s⟩⟩
theorem Cor.tracked {K:PySem.W.Frag} {L:List Addr} {M:List MO} {H:Hp} (c:Cor K L M H) {a:Addr} (h:a ∈ L):∃ o,H a = some o:=by
 obtain ⟨n,hn⟩:=List.getElem?_of_mem h;have hl:n < M.length:=by rw [<- c.len]; exact (zQQ.mp hn).1
 have m:=c.obj n a M[n] hn (zQR hl);exact m.there
theorem Cor.grow {K:PySem.W.Frag} {L:List Addr} {M:List MO} {H H':Hp} (c:Cor K L M H) (h:∀ a o,H a = some o -> H' a = some o):Cor K L M H':=by
 exact ⟨c.len,c.nd,fun n a m e1 e2=>(c.obj n a m e1 e2).stp (.grow h) fun o e=>h a o e⟩
theorem Cor.upd {K:PySem.W.Frag} {L:List Addr} {M:List MO} {H:Hp} {p:Addr} {o:HO} (c:Cor K L M H) (h:H p = none):Cor K L M (upd H p o):=c.grow fun a u e=>by rw [zM (zb e h)]; exact e
theorem Cor.write {K:PySem.W.Frag} {L:List Addr} {M:List MO} {H:Hp} {n:Nat} {p:Addr} {xs xs':List D} {vs':List V} (c:Cor K L M H) (h1:L[n]? = some p) (h2:M[n]? = some (.lst xs)) (r:zH L H xs' vs') :
  Cor K L (M.set n (.lst xs')) (L2.upd H p (.lst vs')) /\ Stp L H L (L2.upd H p (.lst vs')):=by
 obtain ⟨vs,hp,_⟩:=c.obj n p _ h1 h2;have st:Stp L H L (L2.upd H p (.lst vs')):=by
  refine ⟨⟨[],by simp⟩,fun a ha=> .inl ha,fun a o e ha=>?_,fun a o e=>?_,fun a o u e=>?_⟩
  ·rw [zM (show a ≠ p from fun z=>ha (by rw [z]; exact zRE h1))]; exact e
  ·rw [zM (zFG e hp (by intro z; cases z))]; exact e
  ·rw [zM (zFG e hp (by intro z; cases z))]; exact e
 refine ⟨⟨by simp [c.len],c.nd,fun k a m e1 e2=>?_⟩,st⟩;rw [zRw] at e2;split at e2
 ·rename_i hk;subst hk;rw [h1] at e1; cases e1;split at e2
  ·cases e2; exact ⟨vs',zj,r.stp st⟩
  ·cases e2
 ·rename_i hk;have hne:a ≠ p:=fun z=>hk (by
   subst z;exact (List.getElem?_inj (zQQ.mp h1).1 c.nd).mp (h1.trans e1.symm))
  exact (c.obj k a m e1 e2).stp st fun o e=>by rw [zM hne]; exact e
set_option genInjectivity true in
inductive EV where
 | dat (d:D) | fl (xs:List D)
def zZ (H0:Hp) (L:List Addr) (H:Hp):EV -> V -> Prop
 | .dat d,v=>Rep L H d v
 | .fl xs,v=>∃ p vs,v = .ref p /\ H0 p = none /\ H p = some (.lst vs) /\ p ∉ L /\ zH L H xs vs
abbrev Sd:=List (Option D)
abbrev Mem:=List MO
abbrev FE:=Sd -> Mem -> Option (EV × Mem)
abbrev FD:=Sd -> Mem -> Option (D × Mem)
abbrev FT:=Sd -> Mem -> Option (Bool × Mem)
abbrev FA:=Sd -> Mem -> Option (List D × Mem)
theorem Stp.out (s:Stp L H L' H') (h:H p = some o) (hp:p ∉ L):p ∉ L':=fun z=>by
 rcases s.new p z with q | q
 ·exact hp q
 ·rw [h] at q; cases q
theorem zZ.stp (s:Stp L H L' H') (h:zZ H0 L H e v):zZ H0 L' H' e v:=by
 cases e with
 | dat d=>exact Rep.stp s h
 | fl xs=>
  obtain ⟨p,vs,rfl,e0,e1,e2,r⟩:=h;exact ⟨p,vs,rfl,e0,s.old p _ e1 e2,s.out e1 e2,r.stp s⟩
theorem zZ.back {H0 H1:Hp} {L0 L1 L:List Addr} {H:Hp} (s:Stp L0 H0 L1 H1) {M:List MO} {K:PySem.W.Frag} (c:Cor K L0 M H0) {e:EV} {v:V} (h:zZ H1 L H e v) (hL:∀ a ∈ L1,a ∈ L):zZ H0 L H e v:=by
 cases e with
 | dat d=>exact h
 | fl xs=>
  obtain ⟨p,vs,rfl,e0,e1,e2,r⟩:=h;refine ⟨p,vs,rfl,?_,e1,e2,r⟩;cases q:H0 p with
  | none=>rfl
  | some o=>
   by_cases hp:p ∈ L0
   ·obtain ⟨N,hN⟩:=s.pre;exact absurd (hL p (by rw [hN]; exact zRc _ hp)) e2
   ·rw [s.old p o q hp] at e0; cases e0
section
variable (K:PySem.W.Frag)
def trE (f:FE):TE:=fun τ H Q=>∃ L σ M d M',Cor K L M H /\ zAu L H σ τ /\ f σ M = some (d,M') /\ ∀ L' H' v,Stp L H L' H' -> Cor K L' M' H' -> zZ H L' H' d v -> Q v H'
def trD (f:FD):TE:=fun τ H Q=>∃ L σ M d M',Cor K L M H /\ zAu L H σ τ /\ f σ M = some (d,M') /\ ∀ L' H' v,Stp L H L' H' -> Cor K L' M' H' -> Rep L' H' d v -> Q v H'
def trT (f:FT):TT:=fun τ H Q=>∃ L σ M d M',Cor K L M H /\ zAu L H σ τ /\ f σ M = some (d,M') /\ ∀ L' H',Stp L H L' H' -> Cor K L' M' H' -> Q d H'
def trA (f:FA):TA:=fun τ H Q=>∃ L σ M ds M',Cor K L M H /\ zAu L H σ τ /\ f σ M = some (ds,M') /\ ∀ L' H' vs,Stp L H L' H' -> Cor K L' M' H' -> zH L' H' ds vs -> Q vs H'
end
section
theorem PE.imp (h:PE X e t) (hi:∀ τ H Q,t' τ H Q -> t τ H Q):PE X e t':=fun zB s σ H Q I q=>h zB s σ H Q I (hi _ _ _ q)
theorem PT.imp (h:PT X e t) (hi:∀ τ H Q,t' τ H Q -> t τ H Q):PT X e t':=fun zB s σ H Q I q=>h zB s σ H Q I (hi _ _ _ q)
theorem PS.imp {st:Stmt} {t t':TS} (h:PS X st t) (hi:∀ D τ H,t' D τ H -> t D τ H):PS X st t':=fun zB s σ H D I q=>h zB s σ H D I (hi _ _ _ q)
theorem PSs.imp {st:List Stmt} {t t':TS} (h:PSs X st t) (hi:∀ D τ H,t' D τ H -> t D τ H):PSs X st t':=fun zB s σ H D I q=>h zB s σ H D I (hi _ _ _ q)
structure QE (X:Cx) (e:Expr) (f:FE):Prop where
 un:PE X e (trE X.K f)
structure QD (X:Cx) (e:Expr) (f:FD):Prop where
 un:PE X e (trD X.K f)
structure QT (X:Cx) (e:Expr) (f:FT):Prop where
 un:PT X e (trT X.K f)
structure QA (X:Cx) (es:List Expr) (f:FA):Prop where
 un:PA X es (trA X.K f)
def toD (f:FE):FD:=fun σ M=>match f σ M with
 | some (.dat d,M')=>some (d,M')
 | some (.fl xs,M')=>some (.ref M'.length,M' ++ [.lst xs])
 | none=>none
mutual
theorem Rep.more (N:List Addr):∀ {d:D} {v:V},Rep L H d v -> Rep (L ++ N) H d v
 | .non,_,h=>by unfold Rep at h ⊢; exact h
 | .bl _,_,h=>by unfold Rep at h ⊢; exact h
 | .int _,_,h=>by unfold Rep at h ⊢; exact h
 | .str _,_,h=>by unfold Rep at h ⊢; exact h
 | .tup ds,_,h=>by
  unfold Rep at h ⊢;obtain ⟨a,vs,rfl,e,r⟩:=h;exact ⟨a,vs,rfl,e,zH.more N r⟩
 | .ref n,_,h=>by
  unfold Rep at h ⊢;obtain ⟨a,rfl,e⟩:=h;exact ⟨a,rfl,zBz e⟩
theorem zH.more (N:List Addr):∀ {ds:List D} {vs:List V},zH L H ds vs -> zH (L ++ N) H ds vs
 | [],_,h=>by unfold zH at h ⊢; exact h
 | d :: ds,_,h=>by
  unfold zH at h ⊢;obtain ⟨v,r,rfl,h1,h2⟩:=h;exact ⟨v,r,rfl,Rep.more N h1,zH.more N h2⟩
end
theorem zAN.more {κ:Type} {kf:D -> Option κ} {L:List Addr} {H:Hp} (N:List Addr):∀ {ps:List (D × D)} {vs:List (κ × V)},zAN kf L H ps vs -> zAN kf (L ++ N) H ps vs
 | [],_,h=>h
 | p :: r,_,h=>by
  obtain ⟨k,v,r',rfl,e,h1,h2⟩:=h;exact ⟨k,v,r',rfl,e,h1.more N,zAN.more N h2⟩
theorem zDz.more {K:PySem.W.Frag} {L:List Addr} {H:Hp} {a:Addr} {m:MO} (N:List Addr) (h:zDz K L H a m):zDz K (L ++ N) H a m:=by
 cases m with
 | lst xs=>obtain ⟨vs,e,r⟩:=h; exact ⟨vs,e,r.more N⟩
 | fro xs=>obtain ⟨o,vs,e,r⟩:=h; exact ⟨o,vs,e,r.more N⟩
 | dict ps=>obtain ⟨vs,e,r⟩:=h; exact ⟨vs,e,r.more N⟩
 | dicT ps=>obtain ⟨vs,e,r⟩:=h; exact ⟨vs,e,r.more N⟩
 | set _=>exact h
 | froT ps=>obtain ⟨o,vs,e,r⟩:=h; exact ⟨o,vs,e,r.more N⟩
 | froK ps=>obtain ⟨o,vs,e,r⟩:=h; exact ⟨o,vs,e,r.more N⟩
theorem zM7 {K:PySem.W.Frag} {L L':List Addr} {M':List MO} {H H':Hp} {p:Addr} {xs:List D} {vs:List V} (s:Stp L H L' H') (c:Cor K L' M' H') (h0:H p = none) (h1:H' p = some (.lst vs)) (h2:p ∉ L') (r:zH L' H' xs vs) :
  Cor K (L' ++ [p]) (M' ++ [.lst xs]) H' /\ Stp L H (L' ++ [p]) H':=by
 refine ⟨⟨by simp [c.len],?_,fun n a m e1 e2=>?_⟩,?_⟩
 ·rw [List.nodup_append];exact ⟨c.nd,by simp,fun a ha b hb z=>by
   have:b = p:=by simpa using hb
   subst this; subst z; exact h2 ha⟩
 ·by_cases hn:n < L'.length
  ·rw [zQU hn] at e1;rw [zQU (by rw [<- c.len]; exact hn)] at e2;exact (c.obj n a m e1 e2).more [p]
  ·have hn':n = L'.length:=by
    have:=(zQQ.mp e1).1;rw [zQd] at this;simp at this; omega
   subst hn';simp at e1;rw [c.len] at e2;simp at e2;subst e1; subst e2;exact ⟨vs,h1,r.more [p]⟩
 ·obtain ⟨N,hN⟩:=s.pre;refine ⟨⟨N ++ [p],by rw [hN]; simp⟩,fun a ha=>?_,s.old,s.tup,s.frz⟩;rcases zQn.mp ha with z | z
  ·exact s.new a z
  ·have:a = p:=by simpa using z
   subst this; exact .inr h0
theorem Rep.last {L:List Addr} {M:List MO} {H:Hp} {K:PySem.W.Frag} {p:Addr} (c:Cor K L M H):Rep (L ++ [p]) H (.ref M.length) (.ref p):=by
 unfold Rep;exact ⟨p,rfl,by rw [<- c.len]; simp⟩
theorem zAx {f:FE} (h:QE X e f):QD X e (toD f):=.mk <| PE.imp h.un fun τ H Q zz=>by
 obtain ⟨L,σ,M,d,M',c,rs,hf,q⟩:=zz;unfold toD at hf;split at hf
 ·rename_i d' M1 e1;cases hf;exact ⟨L,σ,M,_,_,c,rs,e1,fun L' H' v s c' r=>q L' H' v s c' r⟩
 ·rename_i xs M1 e1;cases hf;refine ⟨L,σ,M,_,_,c,rs,e1,fun L' H' v s c' r=>?_⟩;obtain ⟨p,vs,rfl,e0,e2,e3,r⟩:=r;obtain ⟨c2,s2⟩:=zM7 s c' e0 e2 e3 r;exact q _ H' _ s2 c2 (Rep.last c')
 ·cases hf
def zC (i:Nat):FE:=fun σ M=>match σ[i]? with
 | some (some d)=>some (.dat d,M)
 | _=>none
theorem zA6 (h:PE X (.Name x pos) (zNP i)):QE X (.Name x pos) (zC i):=.mk <| PE.imp h fun τ H Q zz=>by
 obtain ⟨L,σ,M,d,M',c,rs,hf,q⟩:=zz;unfold zC at hf;split at hf
 ·rename_i d' e1;cases hf;obtain ⟨v,e2,r⟩:=rs.2 i d' e1;exact ⟨v,e2,q L H v (.refl L H) c r⟩
 ·cases hf
def fC (d:D):FE:=fun _ M=>some (.dat d,M)
theorem zFn (hd:∀ L H,Rep L H d v) (h:PE X e (tC v)):QE X e (fC d):=.mk <| PE.imp h fun τ H Q zz=>by
 obtain ⟨L,σ,M,d',M',c,rs,hf,q⟩:=zz;unfold fC at hf;cases hf;exact q L H v (.refl L H) c (hd L H)
theorem zPJ {i j pos}:QE X (.Constant (.int i) j pos) (fC (.int i)):=zFn (fun _ _=>by unfold Rep; rfl) zNv
theorem zO6 {b j pos}:QE X (.Constant (.bool b) j pos) (fC (.bl b)):=zFn (fun _ _=>by unfold Rep; rfl) zPp
theorem zOk {x j pos}:QE X (.Constant (.str x) j pos) (fC (.str x)):=zFn (fun _ _=>by unfold Rep; rfl) zOK
def zJ:FA:=fun _ M=>some ([],M)
def zD (f:FD) (g:FA):FA:=fun σ M=>match f σ M with
 | some (d,M1)=>match g σ M1 with
  | some (ds,M2)=>some (d :: ds,M2)
  | none=>none
 | none=>none
theorem PA.imp (h:PA X es t) (hi:∀ τ H Q,t' τ H Q -> t τ H Q):PA X es t':=fun pos zB s σ H Q I q=>h pos zB s σ H Q I (hi _ _ _ q)
theorem zFc:QA X [] zJ:=.mk <| PA.imp zCp fun τ H Q zz=>by
 obtain ⟨L,σ,M,d,M',c,rs,hf,q⟩:=zz;unfold zJ at hf;cases hf;exact q L H [] (.refl L H) c .nil
theorem zCV (h1:QD X e f) (h2:QA X es g) (hs:starEach (e :: es) X.env = (false,eval e X.env) :: starEach es X.env:=by rfl):QA X (e :: es) (zD f g) :=
 .mk <| PA.imp (zBV h1.un h2.un hs) fun τ H Q zz=>by
  obtain ⟨L,σ,M,d,M',c,rs,hf,q⟩:=zz;unfold zD at hf;split at hf
  ·rename_i d1 M1 e1;split at hf
   ·rename_i ds M2 e2;cases hf;refine ⟨L,σ,M,_,_,c,rs,e1,fun L1 H1 v s1 c1 r1=>⟨L1,σ,M1,_,_,c1,rs.stp s1,e2,fun L2 H2 vs s2 c2 r2=>?_⟩⟩;exact q L2 H2 _ (s1.trans s2) c2 (.cons (r1.stp s2) r2)
   ·cases hf
  ·cases hf
def zBf (g:FA):FE:=fun σ M=>match g σ M with
 | some (ds,M1)=>if ds.length <= sizeLine then some (.dat (.tup ds),M1) else none
 | none=>none
def zBa (g:FA):FE:=fun σ M=>match g σ M with
 | some (ds,M1)=>if ds.length <= sizeLine then some (.fl ds,M1) else none
 | none=>none
theorem Rep.newTup (h:H p = none) (r:zH L H ds vs):Rep L (upd H p (.tup vs)) (.tup ds) (.ref p):=by
 unfold Rep;exact ⟨p,vs,rfl,zj,r.stp (.upd h)⟩
theorem zPW {x1 pos} (h:QA X es g):QE X (.Tuple es x1 pos) (zBf g):=.mk <| PE.imp (zNq h.un) fun τ H Q zz=>by
 obtain ⟨L,σ,M,d,M',c,rs,hf,q⟩:=zz;unfold zBf at hf;split at hf
 ·rename_i ds M1 e1;split at hf
  ·rename_i hz;cases hf;refine ⟨L,σ,M,_,_,c,rs,e1,fun L1 H1 vs s1 c1 r1=>⟨by rw [r1.length]; exact hz,fun p hp=>?_⟩⟩;exact q L1 _ _ (s1.trans (.upd hp)) (c1.upd hp) (Rep.newTup hp r1)
  ·cases hf
 ·cases hf
theorem zFN {L L1:List Addr} {H H1:Hp} {K:PySem.W.Frag} {M M1:List MO} (s:Stp L H L1 H1) (c:Cor K L M H) (c1:Cor K L1 M1 H1) {p:Addr} (hp:H1 p = none):H p = none /\ p ∉ L1:=by
 have hp1:p ∉ L1:=fun z=>by obtain ⟨o,e⟩:=c1.tracked z; rw [hp] at e; cases e
 refine ⟨?_,hp1⟩;cases q:H p with
 | none=>rfl
 | some o=>
  have:p ∉ L:=fun z=>hp1 (by obtain ⟨N,hN⟩:=s.pre; rw [hN]; exact zRc _ z);rw [s.old p o q this] at hp; cases hp
theorem zZ.newLst {L L1:List Addr} {H H1:Hp} {K:PySem.W.Frag} {M M1:List MO} {p:Addr} {ds:List D} {vs:List V} (s:Stp L H L1 H1) (c:Cor K L M H) (c1:Cor K L1 M1 H1) (hp:H1 p = none) (r:zH L1 H1 ds vs) :
  zZ H L1 (upd H1 p (.lst vs)) (.fl ds) (.ref p):=by
 obtain ⟨a,b⟩:=zFN s c c1 hp;exact ⟨p,vs,rfl,a,zj,b,r.stp (.upd hp)⟩
theorem zPb {pos} (h:QA X es g):QE X (.List es pos) (zBa g):=.mk <| PE.imp (zOS h.un) fun τ H Q zz=>by
 obtain ⟨L,σ,M,d,M',c,rs,hf,q⟩:=zz;unfold zBa at hf;split at hf
 ·rename_i ds M1 e1;split at hf
  ·rename_i hz;cases hf;refine ⟨L,σ,M,_,_,c,rs,e1,fun L1 H1 vs s1 c1 r1=>⟨by rw [r1.length]; exact hz,fun p hp=>?_⟩⟩;exact q L1 _ _ (s1.trans (.upd hp)) (c1.upd hp) (zZ.newLst s1 c c1 hp r1)
  ·cases hf
 ·cases hf
end
abbrev FAE:=Sd -> Mem -> Option (List EV × Mem)
def zBX (H0:Hp) (L:List Addr) (H:Hp):List EV -> List V -> Prop
 | [],vs=>vs = []
 | e :: es,vs=>∃ v r,vs = v :: r /\ zZ H0 L H e v /\ zBX H0 L H es r
theorem Stp.sub (s:Stp L H L' H'):∀ a ∈ L,a ∈ L':=fun a h=>by
 obtain ⟨N,hN⟩:=s.pre;rw [hN]; exact zRc _ h
theorem zBX.back {H0 H1:Hp} {L0 L1 L:List Addr} {H:Hp} (s:Stp L0 H0 L1 H1) {M:List MO} {K:PySem.W.Frag} (c:Cor K L0 M H0) (hL:∀ a ∈ L1,a ∈ L):∀ {es:List EV} {vs:List V},zBX H1 L H es vs -> zBX H0 L H es vs
 | [],_,h=>h
 | e :: es,_,h=>by
  obtain ⟨v,r,rfl,h1,h2⟩:=h;exact ⟨v,r,rfl,h1.back s c hL,zBX.back s c hL h2⟩
def zOi (K:PySem.W.Frag) (f:FAE):TA:=fun τ H Q=>∃ L σ M ds M',Cor K L M H /\ zAu L H σ τ /\ f σ M = some (ds,M') /\ ∀ L' H' vs,Stp L H L' H' -> Cor K L' M' H' -> zBX H L' H' ds vs -> Q vs H'
structure QAE (X:Cx) (es:List Expr) (f:FAE):Prop where
 un:PA X es (zOi X.K f)
section
def zc:FAE:=fun _ M=>some ([],M)
def zN (f:FE) (g:FAE):FAE:=fun σ M=>match f σ M with
 | some (d,M1)=>match g σ M1 with
  | some (ds,M2)=>some (d :: ds,M2)
  | none=>none
 | none=>none
theorem zF2:QAE X [] zc:=.mk <| PA.imp zCp fun τ H Q zz=>by
 obtain ⟨L,σ,M,d,M',c,rs,hf,q⟩:=zz;unfold zc at hf;cases hf;exact q L H [] (.refl L H) c rfl
theorem zDo (h1:QE X e f) (h2:QAE X es g) (hs:starEach (e :: es) X.env = (false,eval e X.env) :: starEach es X.env:=by rfl):QAE X (e :: es) (zN f g) :=
 .mk <| PA.imp (zBV h1.un h2.un hs) fun τ H Q zz=>by
  obtain ⟨L,σ,M,d,M',c,rs,hf,q⟩:=zz;unfold zN at hf;split at hf
  ·rename_i d1 M1 e1;split at hf
   ·rename_i ds M2 e2;cases hf;refine ⟨L,σ,M,_,_,c,rs,e1,fun L1 H1 v s1 c1 r1=>⟨L1,σ,M1,_,_,c1,rs.stp s1,e2,fun L2 H2 vs s2 c2 r2=>?_⟩⟩;exact q L2 H2 _ (s1.trans s2) c2 ⟨v,vs,rfl,r1.stp s2,r2.back s1 c s2.sub⟩
   ·cases hf
  ·cases hf
abbrev K2:=EV -> EV -> Mem -> Option (EV × Mem)
def zB3 (K:PySem.W.Frag) (r:R2) (k:K2):Prop:=∀ {L:List Addr} {M M':Mem} {H H0:Hp} {x y d:EV} {v w:V} {Q:VK},Cor K L M H -> zZ H0 L H x v -> zZ H0 L H y w -> k x y M = some (d,M') ->
 (∀ L' H' u,Stp L H L' H' -> Cor K L' M' H' -> zZ H L' H' d u -> Q u H') -> r v w H Q
def fOp (k:K2) (f g:FE):FE:=fun σ M=>match f σ M with
 | some (x,M1)=>match g σ M1 with
  | some (y,M2)=>k x y M2
  | none=>none
 | none=>none
theorem zCZ {K:PySem.W.Frag} {r:R2} {k:K2} {f g:FE} (hk:zB3 K r k) {τ:Sv} {H:Hp} {Q:VK} (h:trE K (fOp k f g) τ H Q):tOp r (trE K f) (trE K g) τ H Q:=by
 obtain ⟨L,σ,M,d,M',c,rs,hf,q⟩:=h;unfold fOp at hf;split at hf
 ·rename_i x M1 e1;split at hf
  ·rename_i y M2 e2;refine ⟨L,σ,M,_,_,c,rs,e1,fun L1 H1 v s1 c1 r1=>⟨L1,σ,M1,_,_,c1,rs.stp s1,e2,fun L2 H2 w s2 c2 r2=>?_⟩⟩;refine hk (H0:=H) c2 (r1.stp s2) (r2.back s1 c s2.sub) hf fun L3 H3 u s3 c3 r3=>?_;exact q L3 H3 u ((s1.trans s2).trans s3) c3 (r3.back (s1.trans s2) c s3.sub)
  ·cases hf
 ·cases hf
theorem zGb (hk:zB3 X.K r k) (ho:OpR X (binaryOp op) r) (h1:QE X a f) (h2:QE X b g):QE X (.BinOp a op b pos) (fOp k f g):=.mk <| PE.imp (zPq ho h1.un h2.un) fun _ _ _ h=>zCZ hk h
theorem zPM (hk:zB3 X.K r k) (ho:OpR X (compareOp op) r) (h1:QE X a f) (h2:QE X b g) (hm:behindInMarks op b = false):QE X (.Compare a [op] [b] pos) (fOp k f g) :=
 .mk <| PE.imp (zMk ho h1.un h2.un hm) fun _ _ _ h=>zCZ hk h
def tst (f:FE):FT:=fun σ M=>match f σ M with
 | some (.dat (.bl c),M')=>some (c,M')
 | _=>none
theorem zDC {K:PySem.W.Frag} {f:FE} {τ:Sv} {H:Hp} {Q:Bool -> Hp -> Prop} (h:trT K (tst f) τ H Q):zIU (trE K f) τ H Q:=by
 obtain ⟨L,σ,M,d,M',c,rs,hf,q⟩:=h;unfold tst at hf;split at hf
 ·rename_i k M1 e1;cases hf;refine ⟨L,σ,M,_,_,c,rs,e1,fun L1 H1 v s1 c1 r1=>?_⟩;have:v = .bl d:=by unfold zZ Rep at r1; exact r1
  exact ⟨d,this,q L1 H1 s1 c1⟩
 ·cases hf
theorem zEJ (h:∀ τ H Q,t τ H Q -> t' τ H Q) (q:zIU t τ H Q):zIU t' τ H Q:=h _ _ _ q
theorem zCn {op:CmpOp} {r:R2} {k:K2} {f g:FE} (hk:zB3 X.K r k) (ho:OpR X (compareOp op) r) (h1:QE X a f) (h2:QE X b g) (hm:behindInMarks op b = false):QT X (.Compare a [op] [b] pos) (tst (fOp k f g)) :=
 .mk <| PT.imp (zMq ho h1.un h2.un hm) fun _ _ _ h=>zEJ (fun _ _ _ z=>zCZ hk z) (zDC h)
theorem zFo (h:QE X e f) (he:∀ whole,isTrue e X.env whole = (do let v <- whole; standAt e.pos; holding [v] (truthy v)):=by intro _; rfl):QT X e (tst f) :=
 .mk <| PT.imp (zNX h.un he) fun _ _ _ h=>zDC h
def kI (C:Int -> Int -> Bool) (g:Int -> Int -> D):K2:=fun x y M=>match x,y with
 | .dat (.int i),.dat (.int j)=>if C i j then some (.dat (g i j),M) else none
 | _,_=>none
def kI0 (g:Int -> Int -> D):K2:=kI (fun _ _=>true) g
theorem zGz {K:PySem.W.Frag} {C:Int -> Int -> Bool} {C':Int -> Int -> Prop} {g:Int -> Int -> D} {g':Int -> Int -> V} (hC:∀ i j,C i j = true -> C' i j) (hg:∀ L H i j,Rep L H (g i j) (g' i j)):zB3 K (rI C' g') (kI C g):=by
 intro L M M' H H0 x y d v w Q c rx ry hk q;unfold kI at hk;split at hk
 ·rename_i i j;split at hk
  ·rename_i hc;cases hk;refine ⟨i,j,by unfold zZ Rep at rx; exact rx,by unfold zZ Rep at ry; exact ry,hC i j hc,q L H _ (.refl L H) c (hg L H i j)⟩
  ·cases hk
 ·cases hk
theorem zDx {K:PySem.W.Frag} {g:Int -> Int -> D} {g':Int -> Int -> V} (hg:∀ L H i j,Rep L H (g i j) (g' i j)):zB3 K (rI0 g') (kI0 g):=by
 intro L M M' H H0 x y d v w Q c rx ry hk q;obtain ⟨i,j,h1,h2,_,h4⟩:=zGz (C:=fun _ _=>true) (C':=fun _ _=>True) (fun _ _ _=>trivial) hg c rx ry hk q;exact ⟨i,j,h1,h2,h4⟩
theorem zAE:Rep L H (.int i) (.int i):=by unfold Rep; rfl
theorem zBe:Rep L H (.bl i) (.bl i):=by unfold Rep; rfl
def zJQ (i j:Int):Bool:=(decide (-(2 ^ 64) < i) && decide (i < 2 ^ 64)) || (decide (-(2 ^ 64) < j) && decide (j < 2 ^ 64))
abbrev zP9:K2:=kI0 fun i j=> .int (i + j)
abbrev zHJ:K2:=kI0 fun i j=> .int (i - j)
abbrev zEg:K2:=kI zJQ fun i j=> .int (i * j)
abbrev zB8:K2:=kI (fun _ j=>decide (0 < j)) fun i j=> .int (i % j)
abbrev zHa:K2:=kI (fun _ j=>decide (0 < j) && decide (j < 1073741824)) fun i j=> .int (i / j)
abbrev zJW:K2:=kI (fun i j=>decide (0 <= j) && decide (j <= 1000000) && decide (i.natAbs < 2 ^ 64)) fun i j=> .int (i ^ j.toNat)
abbrev kLt:K2:=kI0 fun i j=> .bl (decide (i < j))
abbrev kLe:K2:=kI0 fun i j=> .bl (decide (i <= j))
abbrev kGe:K2:=kI0 fun i j=> .bl (decide (j <= i))
section
theorem zPj (h1:QE X a f) (h2:QE X b g):QE X (.BinOp a .Sub b pos) (fOp zHJ f g):=zGb (zDx fun _ _ _ _=>zAE) zNl h1 h2
theorem zO2 (h1:QE X a f) (h2:QE X b g):QE X (.BinOp a .Mult b pos) (fOp zEg f g):=zGb (zGz (fun i j h=>by
 unfold zJQ at h;simp only [Bool.or_eq_true,zQx,zRa] at h;exact h) fun _ _ _ _=>zAE) zM9 h1 h2
theorem zPH (h1:QE X a f) (h2:QE X b g):QE X (.BinOp a .Mod b pos) (fOp zB8 f g):=zGb (zGz (fun i j h=>of_decide_eq_true h) fun _ _ _ _=>zAE) zNC h1 h2
theorem zPo (h1:QE X a f) (h2:QE X b g):QE X (.BinOp a .FloorDiv b pos) (fOp zHa f g):=zGb (zGz (fun i j h=>by
 simp only [zQx,zRa] at h;exact h) fun _ _ _ _=>zAE) zL8 h1 h2
theorem zOx (h1:QE X a f) (h2:QE X b g):QE X (.BinOp a .Pow b pos) (fOp zJW f g):=zGb (zGz (fun i j h=>by
 simp only [zQx,zRa] at h;exact ⟨h.1.1,h.1.2,h.2⟩) fun _ _ _ _=>zAE) zOI h1 h2
theorem zO8 (h1:QE X a f) (h2:QE X b g):QT X (.Compare a [.Lt] [b] pos) (tst (fOp kLt f g)):=zCn (zDx fun _ _ _ _=>zBe) zPZ h1 h2 (zDM _)
theorem zPY (h1:QE X a f) (h2:QE X b g):QT X (.Compare a [.LtE] [b] pos) (tst (fOp kLe f g)):=zCn (zDx fun _ _ _ _=>zBe) zPg h1 h2 (zDM _)
theorem zPu (h1:QE X a f) (h2:QE X b g):QT X (.Compare a [.GtE] [b] pos) (tst (fOp kGe f g)):=zCn (zDx fun _ _ _ _=>zBe) zOd h1 h2 (zDM _)
end
end
def zAZ (M:Mem):EV -> Option (List D)
 | .fl xs=>some xs
 | .dat (.ref n)=>match M[n]? with
  | some (.lst xs)=>some xs
  | some (.fro xs)=>some xs
  | _=>none
 | _=>none
def zBD:EV -> Option (List D)
 | .dat (.tup xs)=>some xs
 | _=>none
def zg (M:Mem) (x:EV):Option (List D):=match zBD x with
 | some xs=>some xs
 | none=>zAZ M x
theorem zAX {K:PySem.W.Frag} {L:List Addr} {M:Mem} {H H0:Hp} {x:EV} {v:V} {xs:List D} (c:Cor K L M H) (r:zZ H0 L H x v) (h:zAZ M x = some xs):∃ a vs,v = .ref a /\ Rd H a (.lst vs) /\ zH L H xs vs:=by
 cases x with
 | fl ys=>
  cases h;obtain ⟨p,vs,rfl,_,e,_,r⟩:=r;exact ⟨p,vs,rfl,.inl e,r⟩
 | dat d=>
  cases d with
  | ref n=>
   unfold zZ Rep at r;obtain ⟨a,rfl,e⟩:=r;unfold zAZ at h;dsimp only at h;cases q:M[n]? with
   | none=>rw [q] at h; cases h
   | some m=>
    rw [q] at h;have z:=c.obj n a m e q;cases m with
    | lst ys=>cases h; obtain ⟨vs,e1,r1⟩:=z; exact ⟨a,vs,rfl,.inl e1,r1⟩
    | fro ys=>cases h; obtain ⟨o,vs,e1,r1⟩:=z; exact ⟨a,vs,rfl,.inr ⟨o,e1⟩,r1⟩
    | dict _=>cases h
    | dicT _=>cases h
    | set _=>cases h
    | froT _=>cases h
    | froK _=>cases h
  | _=>cases h
theorem zBE {L:List Addr} {H H0:Hp} {x:EV} {v:V} {xs:List D} (r:zZ H0 L H x v) (h:zBD x = some xs):∃ a vs,v = .ref a /\ H a = some (.tup vs) /\ zH L H xs vs:=by
 cases x with
 | fl ys=>cases h
 | dat d=>
  cases d with
  | tup ys=>cases h; unfold zZ Rep at r; exact r
  | _=>cases h
theorem zDk {K:PySem.W.Frag} {L:List Addr} {M:Mem} {H H0:Hp} {x:EV} {v:V} {xs:List D} (c:Cor K L M H) (r:zZ H0 L H x v) (h:zg M x = some xs):∃ a vs,v = .ref a /\ (SqL K H a vs \/ SqT K H a vs) /\ zH L H xs vs:=by
 unfold zg at h;cases q:zBD x with
 | some ys=>
  rw [q] at h; cases h;obtain ⟨a,vs,e,h1,h2⟩:=zBE r q;exact ⟨a,vs,e,.inr (.of h1),h2⟩
 | none=>
  rw [q] at h;obtain ⟨a,vs,e,h1,h2⟩:=zAX c r h;exact ⟨a,vs,e,.inl (.inl h1),h2⟩
theorem zND {L:List Addr} {H:Hp} {xs:List D} {vs:List V} {i:Int} {d:D} (r:zH L H xs vs) (h:atI xs i = some d):∃ v,atI vs i = some v /\ Rep L H d v:=by
 unfold atI at h ⊢;rw [r.length];cases q:ixN xs.length i with
 | none=>rw [q] at h; cases h
 | some j=>rw [q] at h; exact r.get h
theorem zMr {L:List Addr} {H:Hp} {i:Str}:Rep L H (.str i) (.str i):=by unfold Rep; rfl
def kIx:K2:=fun x y M=>match y with
 | .dat (.int i)=>match zg M x with
  | some xs=>match atI xs i with
   | some d=>some (.dat d,M)
   | none=>none
  | none=>match x with
   | .dat (.str z)=>if z.length <= sizeLine then match atI z.cps.toList i with
     | some c=>some (.dat (.str ⟨#[c]⟩),M)
     | none=>none
    else none
   | _=>none
 | _=>none
theorem zNI {K:PySem.W.Frag}:zB3 K (rIx K) kIx:=by
 intro L M M' H H0 x y d v w Q c rx ry hk q;unfold kIx at hk;split at hk
 ·rename_i i;have ew:w = .int i:=by unfold zZ Rep at ry; exact ry
  split at hk
  ·rename_i xs e1;split at hk
   ·rename_i d' e2;cases hk;obtain ⟨a,vs,rfl,hs,r⟩:=zDk c rx e1;obtain ⟨u,e3,r3⟩:=zND r e2;rcases hs with hs | hs
    ·exact .inl ⟨a,vs,i,u,rfl,ew,hs,e3,q L H u (.refl L H) c r3⟩
    ·exact .inr (.inl ⟨a,vs,i,u,rfl,ew,hs,e3,q L H u (.refl L H) c r3⟩)
   ·cases hk
  ·split at hk
   ·rename_i z _;split at hk
    ·rename_i hz;split at hk
     ·rename_i ch e2;cases hk;have ev:v = .str z:=by unfold zZ Rep at rx; exact rx
      exact .inr (.inr ⟨z,i,ch,ev,ew,hz,e2,q L H _ (.refl L H) c (zMr (L:=L) (H:=H))⟩)
     ·cases hk
    ·cases hk
   ·cases hk
 ·cases hk
section
theorem zHm {t sl:Addr} {items:Array Value} {vl vu:Value} {lo hi:Option Int} {Q:Value -> Shared -> Prop} (T:IsTup s.heap t items) (S:s.heap.IsSliceOf sl vl vu .none) (pl:IsPart vl lo) (pu:IsPart vu hi)
  (h1:HT.sIx items.size 0 lo = 0) (h2:HT.sIx items.size items.size hi = items.size) (h:Q (.ref t) s):wpAny (model prog w) A (getItem (.ref t) (.ref sl)) Q E s:=by
 obtain ⟨o,O,C,G⟩:=id S;have TS:s.TypeIs (.ref sl) "slice" := ⟨o,O,C⟩;unfold getItem;try with_reducible refine zRG ?_
 first | refine zQN (zQP ?_) | skip
 refine zQN (wpAny_sequenceKey T.typeIs (by decide) ?_);refine zQN (zQz (name:=Str.ofString "__getitem__") T.typeIs zRv (zQ0 zRv T.typeIs entry_tuple_getitem ?_ (args_tuple_getitem _ _)));refine zQN (m:=Builtin.Tuple.tupleItemsOf (.ref t)) (tupleItemsOf_ T (zQN (wpAny_typeOf TS ?_)));rw [zQc (by decide)];refine zQN (HT.zBi S pl pu ?_);rw [h1,h2];show wpAny _ _ (if ((((0:Nat):Int) == 0 && (1:Int) == 1 && (items.size - 0) == items.size)) = true then _ else _) _ _ s;rw [zQc (by simp)];unfold Builtin.Tuple.tupleIsExact;refine zQN (zQN (wpAny_typeOf T.typeIs (zQP ?_)));rw [zQc (by decide)];exact zQN (wpAny_rule (zQP ⟨_,rfl,zQP h⟩))
end
def zP8 (K:PySem.W.Frag):V -> Option Int -> Option Int -> Hp -> VK -> Prop:=fun x lo hi H Q=>∃ a xs,x = .ref a /\ SqT K H a xs /\ (HT.sIx xs.length 0 lo = 0 /\ HT.sIx xs.length xs.length hi = xs.length) /\ Q (.ref a) H
theorem zLm {X:Cx}:SlR X (zP8 X.K):=by
 intro zB s σ H x v vl vu lo hi sl Q I rx hs pl pu h;obtain ⟨a,xs,rfl,hx,hw,q⟩:=h;cases rx;obtain ⟨its,r,ht,hz⟩:=I.tuple hx;have hlen:its.toArray.size = xs.length:=by rw [zQV]; exact r.length.symm
 exact ⟨"tuple", _,zRv.lookup,ht.typeIs,zHm ht hs pl pu (by rw [hlen]; exact hw.1) (by rw [hlen]; exact hw.2) ⟨.ref a,H,I,rfl,q⟩⟩
section
variable {X:Cx}
theorem zQG (h1:QE X a f) (h2:QE X b g) (hs:zIV b:=by intro _ _; rfl):QE X (.Subscript a b pos) (fOp kIx f g):=.mk <| PE.imp (zPO zNh h1.un h2.un hs) fun _ _ _ h=>zCZ zNI h
abbrev FO:=Sd -> Mem -> Option (Option Int × Mem)
def trO (K:PySem.W.Frag) (f:FO):TO:=fun τ H Q=>∃ L σ M d M',Cor K L M H /\ zAu L H σ τ /\ f σ M = some (d,M') /\ ∀ L' H',Stp L H L' H' -> Cor K L' M' H' -> Q d H'
structure QO (X:Cx) (e:Option Expr) (f:FO):Prop where
 un:PO X e (trO X.K f)
def zAg:FO:=fun _ M=>some (none,M)
def zr (f:FE):FO:=fun σ M=>match f σ M with
 | some (.dat (.int i),M')=>some (some i,M')
 | _=>none
theorem PO.imp {e:Option Expr} {t t':TO} (h:PO X e t) (hi:∀ τ H Q,t' τ H Q -> t τ H Q):PO X e t':=fun zB s σ H Q I q=>h zB s σ H Q I (hi _ _ _ q)
theorem zL7:QO X none zAg:=.mk <| PO.imp zMd fun τ H Q zz=>by
 obtain ⟨L,σ,M,d,M',c,rs,hf,q⟩:=zz;unfold zAg at hf;cases hf;exact q L H (.refl L H) c
theorem zL4 (h:QE X e f):QO X (some e) (zr f):=.mk <| PO.imp (zMQ h.un) fun τ H Q zz=>by
 obtain ⟨L,σ,M,d,M',c,rs,hf,q⟩:=zz;unfold zr at hf;split at hf
 ·rename_i i M1 e1;cases hf;refine ⟨L,σ,M,_,_,c,rs,e1,fun L1 H1 v s1 c1 r1=>?_⟩;exact ⟨i,by unfold zZ Rep at r1; exact r1,q L1 H1 s1 c1⟩
 ·cases hf
def zBw (xs:List D) (lo hi:Option Int):List D:=(xs.drop (HT.sIx xs.length 0 lo)).take (HT.sIx xs.length xs.length hi - HT.sIx xs.length 0 lo)
theorem zIM {L:List Addr} {H:Hp} {xs:List D} {vs:List V} {lo hi:Option Int} (r:zH L H xs vs):zH L H (zBw xs lo hi) (zHB vs lo hi):=by
 unfold zBw zHB;rw [r.length];exact (r.drop _).take _
def kSl (x:EV) (lo hi:Option Int) (M:Mem):Option (EV × Mem):=match zBD x with
 | some xs=>some (.dat (.tup (zBw xs lo hi)),M)
 | none=>match zAZ M x with
  | some xs=>some (.fl (zBw xs lo hi),M)
  | none=>none
def fSl (f:FE) (fl fh:FO):FE:=fun σ M=>match f σ M with
 | some (x,M1)=>match fl σ M1 with
  | some (lo,M2)=>match fh σ M2 with
   | some (hi,M3)=>kSl x lo hi M3
   | none=>none
  | none=>none
 | none=>none
theorem zLd {lo hi:Option Expr} {p2:Pos} {fl fh:FO} (h:QE X e f) (hl:QO X lo fl) (hh:QO X hi fh):QE X (.Subscript e (.Slice lo hi none p2) pos) (fSl f fl fh) :=
 .mk <| PE.imp (zLL (SlR.or zLx (SlR.or zNA zLm)) h.un hl.un hh.un) fun τ H Q zz=>by
  obtain ⟨L,σ,M,d,M',c,rs,hf,q⟩:=zz;unfold fSl at hf;split at hf
  ·rename_i x M1 e1;split at hf
   ·rename_i l M2 e2;split at hf
    ·rename_i u M3 e3;refine ⟨L,σ,M,_,_,c,rs,e1,fun L1 H1 v s1 c1 r1=>⟨L1,σ,M1,_,_,c1,rs.stp s1,e2,fun L2 H2 s2 c2=>⟨L2,σ,M2,_,_,c2,rs.stp (s1.trans s2),e3,fun L3 H3 s3 c3=>?_⟩⟩⟩;have s:=(s1.trans s2).trans s3;have r3:zZ H L3 H3 x v:=(r1.stp s2).stp s3;unfold kSl at hf;cases t:zBD x with
     | some xs=>
      rw [t] at hf;cases hf;obtain ⟨a,vs,rfl,e4,r4⟩:=zBE r3 t;by_cases hw:HT.sIx vs.length 0 l = 0 /\ HT.sIx vs.length vs.length u = vs.length
      ·refine .inr (.inr ⟨a,vs,rfl,.of e4,hw,?_⟩);have ec:zBw xs l u = xs:=by
        unfold zBw;rw [<- r4.length,hw.1,hw.2,r4.length];simp
       rw [ec] at q;refine q L3 H3 _ s c3 ?_;unfold zZ Rep;exact ⟨a,vs,rfl,e4,r4⟩
      ·refine .inr (.inl ⟨a,vs,rfl,.of e4,hw,fun p hp=>?_⟩);exact q L3 _ _ (s.trans (.upd hp)) (c3.upd hp) (Rep.newTup hp (zIM r4))
     | none=>
      rw [t] at hf;dsimp only at hf;split at hf
      ·rename_i xs e4;cases hf;obtain ⟨a,vs,rfl,e5,r5⟩:=zAX c3 r3 e4;refine .inl ⟨a,vs,rfl,.inl e5,fun p hp=>?_⟩;exact q L3 _ _ (s.trans (.upd hp)) (c3.upd hp) (zZ.newLst s c c3 hp (zIM r5))
      ·cases hf
    ·cases hf
   ·cases hf
  ·cases hf
abbrev KB:=List EV -> Mem -> Option (EV × Mem)
def zDu (K:PySem.W.Frag) (r:List V -> Hp -> VK -> Prop) (k:KB):Prop:=∀ {L:List Addr} {M M':Mem} {H H0:Hp} {xs:List EV} {d:EV} {vs:List V} {Q:VK},Cor K L M H -> zBX H0 L H xs vs -> k xs M = some (d,M') ->
 (∀ L' H' u,Stp L H L' H' -> Cor K L' M' H' -> zZ H L' H' d u -> Q u H') -> r vs H Q
def fB (k:KB) (f:FAE):FE:=fun σ M=>match f σ M with
 | some (xs,M1)=>k xs M1
 | none=>none
theorem zKM {K:PySem.W.Frag} {r:List V -> Hp -> VK -> Prop} {k:KB} {f:FAE} (hk:zDu K r k) {τ:Sv} {H:Hp} {Q:VK} (h:trE K (fB k f) τ H Q):tCB r (zOi K f) τ H Q:=by
 obtain ⟨L,σ,M,d,M',c,rs,hf,q⟩:=h;unfold fB at hf;split at hf
 ·rename_i xs M1 e1;refine ⟨L,σ,M,_,_,c,rs,e1,fun L1 H1 vs s1 c1 r1=>?_⟩;refine hk c1 r1 hf fun L2 H2 u s2 c2 r2=>?_;exact q L2 H2 u (s1.trans s2) c2 (r2.back s1 c s2.sub)
 ·cases hf
theorem zBX.one {H0:Hp} {L:List Addr} {H:Hp} {x:EV} {vs:List V} (h:zBX H0 L H [x] vs):∃ v,vs = [v] /\ zZ H0 L H x v:=by
 obtain ⟨v,r,rfl,h1,h2⟩:=h;unfold zBX at h2;subst h2;exact ⟨v,rfl,h1⟩
def zAO:KB:=fun xs M=>match xs with
 | [x]=>match zg M x with
  | some ys=>some (.dat (.int ys.length),M)
  | none=>none
 | _=>none
theorem zLq:zDu X.K (fun xs H Q=>∃ p ys,xs = [.ref p] /\ (SqL X.K H p ys \/ SqT X.K H p ys) /\ Q (.int ys.length) H) zAO:=by
 intro L M M' H H0 xs d vs Q c r hk q;unfold zAO at hk;split at hk
 ·rename_i x;split at hk
  ·rename_i ys e1;cases hk;obtain ⟨v,rfl,r1⟩:=r.one;obtain ⟨a,ws,rfl,hs,r2⟩:=zDk c r1 e1;refine ⟨a,ws,rfl,hs,q L H _ (.refl L H) c ?_⟩;rw [r2.length]; exact (zAE (L:=L) (H:=H))
  ·cases hk
 ·cases hk
theorem zC0 {x:Str} {p:Pos} {id:String} {r:List V -> Hp -> VK -> Prop} {k:KB} {f:FAE} (hk:zDu X.K r k) (hc:zBC X (.builtin id) r) (hv:bootBuiltins x = some (.builtin id)) (hg:Gl X x) (hm:X.mg x = none) (ha:QAE X (e :: es) f) (hn:x ≠ "__name__" := by decide) (hdb:(x == ("__debug__" : Str)) = false:=by decide)
  (he:starEach (e :: es) X.env = (false,eval e X.env) :: starEach es X.env:=by rfl) (hpl:(backTo pos (starEach es X.env)).any (·.1) = false:=by rfl):QE X (.Call (.Name x p) (e :: es) [] pos) (fB k f) :=
 .mk <| PE.imp (zGS hc hg hm hv ha.un hn hdb he hpl) fun _ _ _ h=>zKM hk h
theorem zDy {x:Str} {p:Pos} {T:String} {r:List V -> Hp -> VK -> Prop} {k:KB} {f:FAE} (hk:zDu X.K r k) (hc:zBC X (.type T) r) (hv:bootBuiltins x = some (.type T)) (hg:Gl X x) (hm:X.mg x = none) (ha:QAE X (e :: es) f) (hn:x ≠ "__name__" := by decide) (hdb:(x == ("__debug__" : Str)) = false:=by decide)
  (he:starEach (e :: es) X.env = (false,eval e X.env) :: starEach es X.env:=by rfl) (hpl:(backTo pos (starEach es X.env)).any (·.1) = false:=by rfl):QE X (.Call (.Name x p) (e :: es) [] pos) (fB k f) :=
 .mk <| PE.imp (zBj hc hg hm hv ha.un hn hdb he hpl) fun _ _ _ h=>zKM hk h
def zx:KB:=fun xs M=>match xs with
 | [x]=>match zg M x with
  | some ys=>some (.dat (.tup ys),M)
  | none=>none
 | _=>none
theorem zIn:zDu X.K (fun xs H Q=>∃ p ys,xs = [.ref p] /\ ((SqL X.K H p ys /\ ∀ l,H l = none -> Q (.ref l) (upd H l (.tup ys))) \/ (SqT X.K H p ys /\ Q (.ref p) H))) zx:=by
 intro L M M' H H0 xs d vs Q c r hk q;unfold zx at hk;split at hk
 ·rename_i x;split at hk
  ·rename_i ys e1;cases hk;obtain ⟨v,rfl,r1⟩:=r.one;unfold zg at e1;cases t:zBD x with
   | some zs=>
    rw [t] at e1; cases e1;obtain ⟨a,ws,rfl,e2,r2⟩:=zBE r1 t;refine ⟨a,ws,rfl,.inr ⟨.of e2,q L H _ (.refl L H) c ?_⟩⟩;unfold zZ Rep;exact ⟨a,ws,rfl,e2,r2⟩
   | none=>
    rw [t] at e1;obtain ⟨a,ws,rfl,e2,r2⟩:=zAX c r1 e1;refine ⟨a,ws,rfl,.inl ⟨.inl e2,fun p hp=>?_⟩⟩;exact q L _ _ (.upd hp) (c.upd hp) (Rep.newTup hp r2)
  ·cases hk
 ·cases hk
end
set_option genInjectivity true in
inductive Out where
 | nx | ret (d:D) | brk | cnt
abbrev FS:=Sd -> Mem -> Option (Out × Sd × Mem)
def zO7 (E:Ends) (L:List Addr) (H:Hp) (σ:Sd):Out -> Prop
 | .nx=>∀ τ,zAu L H σ τ -> E.nx τ H
 | .ret d=>∀ v,Rep L H d v -> E.rt v H
 | .brk=>∀ τ,zAu L H σ τ -> E.bk τ H
 | .cnt=>∀ τ,zAu L H σ τ -> E.ct τ H
def trS (K:PySem.W.Frag) (f:FS):TS:=fun E τ H=>∃ L σ M o σ' M',Cor K L M H /\ zAu L H σ τ /\ f σ M = some (o,σ',M') /\ ∀ L' H',Stp L H L' H' -> Cor K L' M' H' -> zO7 E L' H' σ' o
structure QS (X:Cx) (st:Stmt) (f:FS):Prop where
 un:PS X st (trS X.K f)
structure QSs (X:Cx) (st:List Stmt) (f:FS):Prop where
 un:PSs X st (trS X.K f)
theorem zAu.set (h:zAu L H σ τ) (r:Rep L H d v):zAu L H (σ.set i (some d)) (τ.set i (some v)):=by
 refine ⟨by simp [h.1],fun j e q=>?_⟩;rw [zRw] at q ⊢;split at q
 ·rename_i z;subst z;split at q
  ·rename_i hl;cases q;rw [zQc rfl,zQc (by rw [h.1]; exact hl)];exact ⟨v,rfl,r⟩
  ·cases q
 ·rename_i z;rw [zQf z];exact h.2 j e q
theorem zGE {K:PySem.W.Frag} {f:FE} {τ:Sv} {H:Hp} {Q:VK} (h:trD K (toD f) τ H Q):trE K f τ H Q:=by
 obtain ⟨L,σ,M,d,M',c,rs,hf,q⟩:=h;unfold toD at hf;split at hf
 ·rename_i d' M1 e1;cases hf;exact ⟨L,σ,M,_,_,c,rs,e1,fun L' H' v s c' r=>q L' H' v s c' r⟩
 ·rename_i xs M1 e1;cases hf;refine ⟨L,σ,M,_,_,c,rs,e1,fun L' H' v s c' r=>?_⟩;obtain ⟨p,vs,rfl,e0,e2,e3,r⟩:=r;obtain ⟨c2,s2⟩:=zM7 s c' e0 e2 e3 r;exact q _ H' _ s2 c2 (Rep.last c')
 ·cases hf
def zAl:FS:=fun σ M=>some (.nx,σ,M)
def zT (f g:FS):FS:=fun σ M=>match f σ M with
 | some (.nx,σ1,M1)=>g σ1 M1
 | r=>r
def sIf (c:FT) (f g:FS):FS:=fun σ M=>match c σ M with
 | some (true,M1)=>f σ M1
 | some (false,M1)=>g σ M1
 | none=>none
def zAi (f:FE):FS:=fun σ M=>match toD f σ M with
 | some (d,M1)=>some (.ret d,σ,M1)
 | none=>none
def zp (i:Nat) (f:FE):FS:=fun σ M=>match toD f σ M with
 | some (d,M1)=>some (.nx,σ.set i (some d),M1)
 | none=>none
def zBL (f:FE):FS:=fun σ M=>match f σ M with
 | some (_,M1)=>some (.nx,σ,M1)
 | none=>none
section
variable {st:Stmt} {rest:List Stmt}
theorem zFx:QSs X [] zAl:=.mk <| PSs.imp zLe fun E τ H zz=>by
 obtain ⟨L,σ,M,o,σ',M',c,rs,hf,q⟩:=zz;unfold zAl at hf;cases hf;exact q L H (.refl L H) c τ rs
theorem zDq (h1:QS X st f) (h2:QSs X rest g):QSs X (st :: rest) (zT f g):=.mk <| PSs.imp (zKE h1.un h2.un) fun E τ H zz=>by
 obtain ⟨L,σ,M,o,σ',M',c,rs,hf,q⟩:=zz;unfold zT at hf;split at hf
 ·rename_i σ1 M1 e1;refine ⟨L,σ,M,_,_,_,c,rs,e1,fun L1 H1 s1 c1 τ1 r1=>⟨L1,σ1,M1,_,_,_,c1,r1,hf,fun L2 H2 s2 c2=>q L2 H2 (s1.trans s2) c2⟩⟩
 ·rename_i hne;refine ⟨L,σ,M,_,_,_,c,rs,hf,fun L1 H1 s1 c1=>?_⟩;have z:=q L1 H1 s1 c1;cases o with
  | nx=>exact absurd hf (hne σ' M')
  | ret d=>exact z
  | brk=>exact z
  | cnt=>exact z
theorem zDw (h1:QS X st f):QSs X [st] f:=.mk <| PSs.imp (zMb h1.un) fun _ _ _ h=>h
theorem zMH (hc:QT X c fc) (ha:QSs X a f) (hb:QSs X b g):QS X (.If c a b pos) (sIf fc f g):=.mk <| PS.imp (zOl hc.un ha.un hb.un) fun E τ H zz=>by
 obtain ⟨L,σ,M,o,σ',M',c,rs,hf,q⟩:=zz;unfold sIf at hf;split at hf
 ·rename_i M1 e1;refine ⟨L,σ,M,_,_,c,rs,e1,fun L1 H1 s1 c1=>?_⟩;exact zJF ⟨L1,σ,M1,_,_,_,c1,rs.stp s1,hf,fun L2 H2 s2 c2=>q L2 H2 (s1.trans s2) c2⟩
 ·rename_i M1 e1;refine ⟨L,σ,M,_,_,c,rs,e1,fun L1 H1 s1 c1=>?_⟩;exact zI3 ⟨L1,σ,M1,_,_,_,c1,rs.stp s1,hf,fun L2 H2 s2 c2=>q L2 H2 (s1.trans s2) c2⟩
 ·cases hf
theorem zGd (h:QE X e f):QS X (.Return (some e) pos) (zAi f):=.mk <| PS.imp (zN0 (zAx h).un) fun E τ H zz=>by
 obtain ⟨L,σ,M,o,σ',M',c,rs,hf,q⟩:=zz;unfold zAi at hf;split at hf
 ·rename_i d M1 e1;cases hf;exact ⟨L,σ,M,_,_,c,rs,e1,fun L1 H1 v s1 c1 r1=>q L1 H1 s1 c1 v r1⟩
 ·cases hf
theorem zGT {K:PySem.W.Frag} {i:Nat} {f:FE} {t:TE} (ht:∀ τ H Q,trE K f τ H Q -> t τ H Q) {E:Ends} {τ:Sv} {H:Hp} (h:trS K (zp i f) E τ H):zLr t (zCi i) E τ H:=by
 obtain ⟨L,σ,M,o,σ',M',c,rs,hf,q⟩:=h;unfold zp at hf;split at hf
 ·rename_i d M1 e1;cases hf;exact ht _ _ _ (zGE ⟨L,σ,M,_,_,c,rs,e1,fun L1 H1 v s1 c1 r1=>q L1 H1 s1 c1 _ ((rs.stp s1).set r1)⟩)
 ·cases hf
theorem zPv {i:Nat} {x:Str} {f:FE} {pos':Pos} (hN:X.N.Nodup) (hi:X.N[i]? = some x) (hx:Loc X.env.scope x) (h:QE X e f) (hs:swapsWith e (some (.Name x pos')) pos.line X.env = pure false:=by rfl)
  (hf:X.fn x = true \/ X.env.scope.names.lookup x = some .local:=by first | exact .inl rfl | exact .inr rfl | assumption):QS X (.Assign [.Name x pos'] e pos) (zp i f) :=
 .mk <| PS.imp (zNU hN hi hx h.un hs hf) fun _ _ _ z=>zGT (fun _ _ _ z=>z) z
theorem zNV (h:QE X e f) (hs:swapsWith e none pos.line X.env = pure false:=by rfl):QS X (.Expr e pos) (zBL f):=.mk <| PS.imp (zLh h.un hs) fun E τ H zz=>by
 obtain ⟨L,σ,M,o,σ',M',c,rs,hf,q⟩:=zz;unfold zBL at hf;split at hf
 ·rename_i d M1 e1;cases hf;exact ⟨L,σ,M,_,_,c,rs,e1,fun L1 H1 v s1 c1 r1=>q L1 H1 s1 c1 τ (rs.stp s1)⟩
 ·cases hf
abbrev FG:=D -> Sd -> Option Sd
def GOk (g:TG) (fg:FG):Prop:=∀ {L:List Addr} {H:Hp} {σ σ':Sd} {τ:Sv} {d:D} {v:V} {Q:Sv -> Hp -> Prop},zAu L H σ τ -> Rep L H d v -> fg d σ = some σ' -> (∀ τ',zAu L H σ' τ' -> Q τ' H) -> g v τ H Q
def gN (i:Nat):FG:=fun d σ=>some (σ.set i (some d))
theorem zKf:GOk (zCi i) (gN i):=by
 intro L H σ σ' τ d v Q rs r hf q;unfold gN at hf;cases hf;exact q _ (rs.set r)
abbrev FI:=Sd -> Mem -> Option (List D × Option (Mem -> Prop) × Mem)
def zCR (g:Option (Mem -> Prop)) (xs:List D) (M:Mem):Prop:=match g with
 | none=>True
 | some p=>p M
def zPh (K:PySem.W.Frag) (J:It) (L:List Addr) (H:Hp) (xs:List D) (g:Option (Mem -> Prop)):Prop:=∀ L' H' M',Stp L H L' H' -> Cor K L' M' H' -> zCR g xs M' ->
 (∀ (i:Nat) d,xs[i]? = some d -> J.go i H' /\ ∀ v H'',J.yld i H' v H'' -> (∀ a o,H' a = some o -> H'' a = some o) /\ Rep L' H'' d v) /\ J.stop xs.length H'
def trI (K:PySem.W.Frag) (f:FI):TI:=fun τ H R=>∃ L σ M xs g M',Cor K L M H /\ zAu L H σ τ /\ f σ M = some (xs,g,M') /\ ∀ L' H' J,Stp L H L' H' -> Cor K L' M' H' -> zPh K J L' H' xs g -> R J H'
structure QI (X:Cx) (tg e:Expr) (f:FI):Prop where
 un:PI X tg e (trI X.K f)
theorem PI.imp (h:PI X tg e t) (hi:∀ τ H R,t' τ H R -> t τ H R):PI X tg e t':=fun zB s σ H R I q=>h zB s σ H R I (hi _ _ _ q)
noncomputable def zCF (g:FG) (b:FS) (all:List D) (gd:Option (Mem -> Prop)):List D -> Sd -> Mem -> Option (Out × Sd × Mem)
 | [],σ,M=>open Classical in if zCR gd all M then some (.nx,σ,M) else none
 | x :: r,σ,M=>open Classical in if zCR gd all M then match g x σ with
   | some σ1=>match b σ1 M with
    | some (.nx,σ2,M2)=>zCF g b all gd r σ2 M2
    | some (.cnt,σ2,M2)=>zCF g b all gd r σ2 M2
    | some (.brk,σ2,M2)=>some (.nx,σ2,M2)
    | some (.ret d,σ2,M2)=>some (.ret d,σ2,M2)
    | none=>none
   | none=>none
  else none
noncomputable def zBs (fi:FI) (g:FG) (b:FS):FS:=fun σ M=>match fi σ M with
 | some (xs,gd,M1)=>zCF g b xs gd xs σ M1
 | none=>none
theorem zFO {α:Type} {xs:List α} (h:i < xs.length):xs.drop i = xs[i] :: xs.drop (i + 1):=List.drop_eq_getElem_cons h
theorem Stp.yld (s:Stp L H L' H') (h:∀ a o,H' a = some o -> H'' a = some o):Stp L H L' H'':=s.trans (.grow h)
theorem zJ4 {K:PySem.W.Frag} {fi:FI} {g:TG} {fg:FG} {b:FS} (hg:GOk g fg) {E:Ends} {τ:Sv} {H:Hp} (h:trS K (zBs fi fg b) E τ H):zPl (trI K fi) g (trS K b) E τ H:=by
 obtain ⟨L,σ,M,o,σf,Mf,c,rs,hf,q⟩:=h;unfold zBs at hf;split at hf
 ·rename_i xs gd M1 e1;refine ⟨L,σ,M,_,_,_,c,rs,e1,fun L1 H1 J s1 c1 it=>?_⟩
  refine ⟨fun i m τ' H'=>m = xs.length - i /\ i <= xs.length /\ ∃ L' σ' M',Stp L1 H1 L' H' /\ Cor K L' M' H' /\ zAu L' H' σ' τ' /\ zCF fg b xs gd (xs.drop i) σ' M' = some (o,σf,Mf),
   ⟨xs.length,by simp,zQ9 _,L1,σ,M1,.refl _ _,c1,rs.stp s1,by simpa using hf⟩,?_⟩
  rintro i m τ' H' ⟨rfl,hi,L',σ',M',s',c',rs',e'⟩;by_cases hlt:i < xs.length
  ·rw [zFO hlt] at e';unfold zCF at e';split at e'
   ·rename_i hgd;obtain ⟨step,_⟩:=it L' H' M' s' c' hgd;obtain ⟨go,yl⟩:=step i xs[i] (zQR hlt);cases eg:fg xs[i] σ' with
    | none=>rw [eg] at e'; cases e'
    | some σ1=>
     rw [eg] at e';dsimp only at e';refine .inr ⟨go,fun τ2 H2=>∃ L2 σ2 M2,Stp L1 H1 L2 H2 /\ Cor K L2 M2 H2 /\ zAu L2 H2 σ2 τ2 /\ zCF fg b xs gd (xs.drop (i + 1)) σ2 M2 = some (o,σf,Mf),fun τ2 H2 ⟨L2,σ2,M2,a1,a2,a3,a4⟩=>⟨xs.length - (i + 1),by omega,rfl,hlt,L2,σ2,M2,a1,a2,a3,a4⟩,fun v H2 hy=>?_⟩;obtain ⟨gr,rv⟩:=yl v H2 hy;refine hg (zAu.stp (.grow gr) rs') rv eg fun τ2 r2=>?_;cases eb:b σ1 M' with
     | none=>rw [eb] at e'; cases e'
     | some r=>
      obtain ⟨o2,σ2,M2⟩:=r;rw [eb] at e';refine ⟨L',σ1,M',_,_,_,c'.grow gr,r2,eb,fun L3 H3 s3 c3=>?_⟩;have s13:Stp L1 H1 L3 H3:=(s'.yld gr).trans s3;cases o2 with
      | nx=>exact fun τ3 r3=>⟨L3,σ2,M2,s13,c3,r3,e'⟩
      | cnt=>exact fun τ3 r3=>⟨L3,σ2,M2,s13,c3,r3,e'⟩
      | brk=>cases e'; exact q L3 H3 (s1.trans s13) c3
      | ret d=>cases e'; exact q L3 H3 (s1.trans s13) c3
   ·cases e'
  ·have hi':i = xs.length:=by omega
   subst hi';rw [List.drop_length] at e';unfold zCF at e';split at e'
   ·rename_i hgd;cases e';obtain ⟨_,stop⟩:=it L' H' _ s' c' hgd;exact .inl ⟨stop,q L' H' (s1.trans s') c' τ' rs'⟩
   ·cases e'
 ·cases hf
theorem zM4 (hg:GOk g fg) (hp:PassesOwn (model X.prog X.w) X.A X.env X.xe) (hc:X.calm = true) (hi:QI X tg iter fi) (ht:PG X tg g) (hb:QSs X body b)
  (hs:∀ x,foldedSetIterable iter X.env x = pure x:=by intro _; rfl):QS X (.For tg iter body [] pos) (zBs fi fg b):=.mk <| PS.imp (zN4 hp hc hi.un ht hb.un hs) fun _ _ _ h=>zJ4 hg h
end
section
def zA7 (c:FT) (b:FS):Nat -> Sd -> Mem -> Option (Out × Sd × Mem)
 | 0,_,_=>none
 | n + 1,σ,M=>match c σ M with
  | some (true,M1)=>match b σ M1 with
   | some (.nx,σ2,M2)=>zA7 c b n σ2 M2
   | some (.cnt,σ2,M2)=>zA7 c b n σ2 M2
   | some (.brk,σ2,M2)=>some (.nx,σ2,M2)
   | some (.ret d,σ2,M2)=>some (.ret d,σ2,M2)
   | none=>none
  | some (false,M1)=>some (.nx,σ,M1)
  | none=>none
theorem zH7 {K:PySem.W.Frag} {fc:FT} {b:FS} {n:Nat} {E:Ends} {τ:Sv} {H:Hp} (h:trS K (zA7 fc b n) E τ H):zLB (trT K fc) (trS K b) E τ H:=by
 obtain ⟨L,σ,M,o,σf,Mf,c,rs,hf,q⟩:=h;refine ⟨fun m τ' H'=>∃ L' σ' M',Stp L H L' H' /\ Cor K L' M' H' /\ zAu L' H' σ' τ' /\ zA7 fc b m σ' M' = some (o,σf,Mf),⟨n,L,σ,M,.refl _ _,c,rs,hf⟩,?_⟩;rintro m τ' H' ⟨L',σ',M',s',c',rs',e'⟩;cases m with
 | zero=>unfold zA7 at e'; cases e'
 | succ m=>
  unfold zA7 at e';split at e'
  ·rename_i M1 e1;refine ⟨L',σ',M',_,_,c',rs',e1,fun L1 H1 s1 c1=>zJF ?_⟩;refine ⟨fun τ2 H2=>∃ L2 σ2 M2,Stp L H L2 H2 /\ Cor K L2 M2 H2 /\ zAu L2 H2 σ2 τ2 /\ zA7 fc b m σ2 M2 = some (o,σf,Mf),fun τ2 H2 h2=>⟨m,Nat.lt_succ_self m,h2⟩,?_⟩;cases eb:b σ' M1 with
   | none=>rw [eb] at e'; cases e'
   | some r=>
    obtain ⟨o2,σ2,M2⟩:=r;rw [eb] at e';refine ⟨L1,σ',M1,_,_,_,c1,rs'.stp s1,eb,fun L3 H3 s3 c3=>?_⟩;have s13:Stp L H L3 H3:=(s'.trans s1).trans s3;cases o2 with
    | nx=>exact fun τ3 r3=>⟨L3,σ2,M2,s13,c3,r3,e'⟩
    | cnt=>exact fun τ3 r3=>⟨L3,σ2,M2,s13,c3,r3,e'⟩
    | brk=>cases e'; exact q L3 H3 s13 c3
    | ret d=>cases e'; exact q L3 H3 s13 c3
  ·rename_i M1 e1;cases e';exact ⟨L',_,M',_,_,c',rs',e1,fun L1 H1 s1 c1=>zI3 (q L1 H1 (s'.trans s1) c1 τ' (rs'.stp s1))⟩
  ·cases e'
theorem zLs (n:Nat) (hp:PassesOwn (model X.prog X.w) X.A X.env X.xe) (hc:QT X c fc) (hb:QSs X body b):QS X (.While c body [] pos) (zA7 fc b n) :=
 .mk <| PS.imp (zLR hp hc.un hb.un) fun _ _ _ h=>zH7 h
def zGC (own:List Nat) (σ:Sd):Sd:=own.foldl (fun σ i=>σ.set i none) σ
theorem zIQ:∀ (own:List Nat) {σ:Sd} {τ:Sv},zAu L H σ τ -> zAu L H (zGC own σ) (clr own τ)
 | [],_,_,h=>h
 | i :: r,σ,τ,h=>by
  refine zIQ r (σ:=σ.set i none) (τ:=τ.set i none) ⟨by simp [h.1],fun j d q=>?_⟩;rw [zRw] at q ⊢;split at q
  ·split at q <;> cases q
  ·rename_i z;rw [zQf z];exact h.2 j d q
noncomputable def zCO (g:FG) (tc:FT) (te:FE) (σ:Sd) (all:List D) (gd:Option (Mem -> Prop)):List D -> Mem -> Option (List D × Mem)
 | [],M=>open Classical in if zCR gd all M then some ([],M) else none
 | x :: r,M=>open Classical in if zCR gd all M then match g x σ with
   | some σ1=>match tc σ1 M with
    | some (true,M1)=>match toD te σ1 M1 with
     | some (d,M2)=>match zCO g tc te σ all gd r M2 with
      | some (ds,M3)=>some (d :: ds,M3)
      | none=>none
     | none=>none
    | some (false,M1)=>zCO g tc te σ all gd r M1
    | none=>none
   | none=>none
  else none
noncomputable def zk (own:List Nat) (fi:FI) (g:FG) (tc:FT) (te:FE):FE:=fun σ M=>match fi σ M with
 | some (xs,gd,M1)=>if xs.length <= sizeLine then match zCO g tc te (zGC own σ) xs gd xs M1 with
   | some (ys,M2)=>some (.fl ys,M2)
   | none=>none
  else none
 | none=>none
def zJ5 (own:List Nat) (g:TG) (fg:FG):Prop:=∀ {L:List Addr} {H:Hp} {σ σ':Sd} {τ τ0:Sv} {d:D} {v:V} {Q:Sv -> Hp -> Prop},zAu L H σ τ -> Ext (clr own τ0) τ -> Rep L H d v -> fg d σ = some σ' -> (∀ τ',zAu L H σ' τ' -> Ext (clr own τ0) τ' -> Q τ' H) -> g v τ H Q
theorem zDX (hi:i ∈ own):zJ5 own (zCi i) (gN i):=by
 intro L H σ σ' τ τ0 d v Q rs ex r hf q;unfold gN at hf;cases hf;exact q _ (rs.set r) (ex.set hi)
theorem zFA {K:PySem.W.Frag} {own:List Nat} {fi:FI} {g:TG} {fg:FG} {tc:FT} {te:FE} (hg:zJ5 own g fg) {τ:Sv} {H:Hp} {Q:VK} (h:trE K (zk own fi fg tc te) τ H Q):zLU own (trI K fi) g (trT K tc) (trD K (toD te)) τ H Q:=by
 obtain ⟨L,σ,M,d,Mf,c,rs,hf,q⟩:=h;unfold zk at hf;split at hf
 ·rename_i xs gd M1 e1;split at hf
  ·rename_i hz;split at hf
   ·rename_i zs M2 e2;cases hf;refine ⟨L,σ,M,_,_,_,c,rs,e1,fun L1 H1 J s1 c1 it=>?_⟩
    refine ⟨fun i m ys H'=>m = xs.length - i /\ i <= xs.length /\ ∃ L' M' as bs,Stp L1 H1 L' H' /\ Cor K L' M' H' /\ zH L' H' as ys /\ as.length <= i /\ zCO fg tc te (zGC own σ) xs gd (xs.drop i) M' = some (bs,Mf) /\ as ++ bs = zs,
     ⟨xs.length,by simp,zQ9 _,L1,M1,[],zs,.refl _ _,c1,.nil,zQT _,by simpa using e2,rfl⟩,?_⟩
    rintro i m ys H' ⟨rfl,hi,L',M',as,bs,s',c',r',hl,e',hab⟩;have hys:ys.length <= i:=by rw [r'.length]; exact hl
    by_cases hlt:i < xs.length
    ·rw [zFO hlt] at e';unfold zCO at e';split at e'
     ·rename_i hgd;obtain ⟨step,_⟩:=it L' H' M' s' c' hgd;obtain ⟨go,yl⟩:=step i xs[i] (zQR hlt);split at e'
      ·rename_i σ1 eg;refine .inr ⟨go,fun v H2 hy=>?_⟩;obtain ⟨gr,rv⟩:=yl v H2 hy;have s2:Stp L1 H1 L' H2:=s'.yld gr;refine hg (zIQ own ((rs.stp s1).stp s2)) (.refl _) rv eg fun τ2 r2 x2=>⟨x2,?_⟩;split at e'
       ·rename_i M3 e3;split at e'
        ·rename_i d M4 e4;split at e'
         ·rename_i ds M5 e5;cases e';refine ⟨L',σ1,M',_,_,c'.grow gr,r2,e3,fun L3 H3 s3 c3=>zJF ?_⟩;refine ⟨L3,σ1,M3,_,_,c3,r2.stp s3,e4,fun L4 H4 w s4 c4 r4=>?_⟩;have st:Stp L' H' L4 H4:=((Stp.grow gr).trans s3).trans s4;refine ⟨Nat.lt_of_le_of_lt hys (zQm hlt hz),xs.length - (i + 1),by omega,rfl,hlt,L4,M4,as ++ [d],ds,s'.trans st,c4,(r'.stp st).app (.cons r4 .nil),by simp; omega,e5,by rw [<- hab]; simp⟩
         ·cases e'
        ·cases e'
       ·rename_i M3 e3;refine ⟨L',σ1,M',_,_,c'.grow gr,r2,e3,fun L3 H3 s3 c3=>zI3 ?_⟩;have st:Stp L' H' L3 H3:=(Stp.grow gr).trans s3;exact ⟨xs.length - (i + 1),by omega,rfl,hlt,L3,M3,as,bs,s'.trans st,c3,r'.stp st,by omega,e',hab⟩
       ·cases e'
      ·cases e'
     ·cases e'
    ·have hi':i = xs.length:=by omega
     subst hi';rw [List.drop_length] at e';unfold zCO at e';split at e'
     ·rename_i hgd;cases e';obtain ⟨_,stop⟩:=it L' H' _ s' c' hgd;refine .inl ⟨stop,zQo hys hz,fun p hp=>?_⟩;rw [zQ7] at hab;subst hab;exact q L' _ _ ((s1.trans s').trans (.upd hp)) (c'.upd hp) (zZ.newLst (s1.trans s') c c' hp r')
     ·cases e'
   ·cases hf
  ·cases hf
 ·cases hf
structure QIfs (X:Cx) (ifs:List Expr) (f:FT):Prop where
 un:zLW X ifs (trT X.K f)
def zt:FT:=fun _ M=>some (true,M)
theorem zKa:QIfs X [] zt:=.mk fun zB s σ H Q I h=>by
 obtain ⟨L,σ',M,d,M',c,rs,hf,q⟩:=h;unfold zt at hf;cases hf;exact zKq zB s σ H Q I (q L H (.refl L H) c)
theorem zNZ (h:QT X c f):QIfs X [c] f:=.mk (zK7 h.un)
structure QParts (X:Cx) (scope:Scope) (tg:Expr) (ifs:List Expr) (elt:Expr) (g:TG) (tc:FT) (te:FE):Prop where
 g:∀ zB cl s H fp,PG (zAK X zB scope cl s H fp) tg g
 c:∀ zB cl s H fp,QIfs (zAK X zB scope cl s H fp) ifs tc
 e:∀ zB cl s H fp,QE (zAK X zB scope cl s H fp) elt te
theorem QParts.parts {g:TG} {tc:FT} {te:FE} (p:QParts X scope tg ifs elt g tc te):CompParts X scope tg ifs elt g (trT X.K tc) (trD X.K (toD te)) :=
 ⟨p.g,fun zB cl s H fp=>(p.c zB cl s H fp).un,fun zB cl s H fp=>(zAx (p.e zB cl s H fp)).un⟩
theorem zFp (hg:zJ5 own g fg) (C:CompIn X scope own) (hcalm:X.calm = true) (hi:QI X tg iter fi) (p:QParts X scope tg ifs elt g tc te) (hs:∀ x,foldedSetIterable iter X.env x = pure x:=by intro _; rfl) :
  QE X (.ListComp elt [⟨tg,iter,ifs,0⟩] scope pos) (zk own fi fg tc te):=.mk <| PE.imp (zML C hcalm hi.un p.parts hs) fun _ _ _ h=>zFA hg h
theorem zJO (hN:X.N.Nodup) (hi':X.N[i]? = some x) (hx:Loc X.env.scope x) (hfn:X.fn x = true \/ X.env.scope.names.lookup x = some .local)
  (hsw:swapsWith (.ListComp elt [⟨tg,iter,ifs,0⟩] scope pos) (some (.Name x pos')) pos''.line X.env = pure true)
  (hg:zJ5 own g fg) (C:CompIn X scope own) (hcalm:X.calm = true) (hi:QI X tg iter fi) (p:QParts X scope tg ifs elt g tc te) (hs:∀ x,foldedSetIterable iter X.env x = pure x:=by intro _; rfl) :
  QS X (.Assign [.Name x pos'] (.ListComp elt [⟨tg,iter,ifs,0⟩] scope pos) pos'') (zp i (zk own fi fg tc te)) :=
 .mk <| PS.imp (zHO hN hi' hx hfn C hcalm hi.un p.parts hsw hs) fun _ _ _ z=>zGT (fun _ _ _ z=>zFA hg z) z
end
abbrev FF:=List D -> Mem -> Option (D × Mem)
def spF (K:PySem.W.Frag) (n:Nat) (g:FF):Sp:=fun vs H Q _=>∃ L ds M d M',Cor K L M H /\ zH L H ds vs /\ ds.length = n /\ g ds M = some (d,M') /\ ∀ L' H' v,Stp L H L' H' -> Cor K L' M' H' -> Rep L' H' d v -> Q v H'
def zW (g:FF) (fa:FA):FE:=fun σ M=>match fa σ M with
 | some (ds,M1)=>match g ds M1 with
  | some (d,M2)=>some (.dat d,M2)
  | none=>none
 | none=>none
section
theorem zNY (F:FnOk X.prog X.w X.K X.mg X.base CX0 k f fd ps (spF X.K (e :: es).length g)) (hr:Room k X.A) (hg:Gl X x) (hm:X.mg x = some (.ref f)) (hk:PySem.W.keepIn X.K (.ref f) = true) (hb:zEV X.K fd ps [])
  (ha:QA X (e :: es) fa) (hl:∀ σ M ds M1,fa σ M = some (ds,M1) -> ds.length = (e :: es).length) (hdb:(x == ("__debug__" : Str)) = false:=by decide) (he:starEach (e :: es) X.env = (false,eval e X.env) :: starEach es X.env:=by rfl) (hpl:(backTo pos (starEach es X.env)).any (·.1) = false:=by rfl) :
  QE X (.Call (.Name x p) (e :: es) [] pos) (zW g fa) :=
 .mk <| PE.imp (zMK F hr hg hm hk hb .nil zPB ha.un hdb he hpl) fun τ H Q zz=>by
  obtain ⟨L,σ,M,d,M',c,rs,hf,q⟩:=zz;unfold zW at hf;split at hf
  ·rename_i ds M1 e1;split at hf
   ·rename_i d' M2 e2;cases hf;refine ⟨L,σ,M,_,_,c,rs,e1,fun L1 H1 vs s1 c1 r1=>?_⟩;dsimp only;rw [zQ7];exact ⟨L1,ds,M1,d',_,c1,r1,hl _ _ _ _ e1,e2,fun L2 H2 v s2 c2 r2=>q L2 H2 v (s1.trans s2) c2 r2⟩
   ·cases hf
  ·cases hf
def zLz (fa:FA) (n:Nat):Prop:=∀ σ M ds M1,fa σ M = some (ds,M1) -> ds.length = n
theorem zGL:zLz zJ 0:=fun σ M ds M1 h=>by unfold zJ at h; cases h; rfl
theorem zDW {f:FD} {g:FA} {n:Nat} (h:zLz g n):zLz (zD f g) (n + 1):=fun σ M ds M1 q=>by
 unfold zD at q;split at q
 ·split at q
  ·rename_i e2;cases q;simp [h _ _ _ _ e2]
  ·cases q
 ·cases q
def zCe (n:Nat) (b:FS):FF:=fun ds M=>match b (ds.map some ++ List.replicate (n - ds.length) none) M with
 | some (.ret d,_,M')=>some (d,M')
 | some (.nx,_,M')=>some (.non,M')
 | _=>none
theorem zE2:∀ {ds:List D} {vs:List V},zH L H ds vs -> zAu L H (ds.map some ++ List.replicate (N.length - ds.length) none) (L2.start N vs):=fun {ds vs} r=>by
 unfold L2.start;have hl:=r.length;refine ⟨by simp [hl],fun i d q=>?_⟩;by_cases hi:i < ds.length
 ·rw [zQU (by simpa using hi),zQk] at q;rw [zQU (by simpa [hl] using hi),zQk];cases e1:ds[i]? with
  | none=>rw [e1] at q; cases q
  | some d'=>
   rw [e1] at q; cases q;obtain ⟨v,e2,r2⟩:=r.get e1;exact ⟨v,by rw [e2]; rfl,r2⟩
 ·rw [zRX (by simpa using hi),List.getElem?_replicate] at q;split at q <;> cases q
theorem zA8 {P:Program} {w:World} {K:PySem.W.Frag} {mg:Str -> Option Value} {base:Heap} {qual:Str} {st:Stmt} {N:List Str} {b:FS} {n:Nat} (F:Fun K x qual st f fd) (S:FnScope N ps (zX st)) (hn:ps.length = n)
  (hb:∀ (cdv:Value) (A:Around) (outer:List Env) (s:Shared) (H:Hp) (E:XK),Room k (A.deeper (envOfC qual (zX st) s.heap.objs.size f cdv)) -> QSs (zHg CX0 P w K mg base N qual (zX st) f cdv A outer s H E).nox (zBY st) b) :
  FnOk P w K mg base CX0 (k + 1) f fd ps (spF K n (zCe N.length b)):=by
 refine F.ok S (fun vs H Q E h=>?_) (fun cdv A outer s H vs Q E hr h=>⟨_,(hb cdv A outer s H E hr).un,?_⟩)
 ·obtain ⟨L,ds,M,d,M',c,r,hl,_⟩:=h;rw [r.length,hl,hn]
 ·obtain ⟨L,ds,M,d,M',c,r,hl,hf,q⟩:=h;unfold zCe at hf;split at hf
  ·rename_i d' σ' M1 e1;cases hf;exact ⟨L,_,M,_,_,_,c,zE2 r,e1,fun L1 H1 s1 c1 v r1=>q L1 H1 v s1 c1 r1⟩
  ·rename_i σ' M1 e1;cases hf;exact ⟨L,_,M,_,_,_,c,zE2 r,e1,fun L1 H1 s1 c1 τ' r1=>q L1 H1 .non s1 c1 (by unfold Rep; rfl)⟩
  ·cases hf
mutual
def D.und (n:Nat):D -> Bool
 | .tup ds=>D.unds n ds
 | .ref k=>decide (k < n)
 | _=>true
def D.unds (n:Nat):List D -> Bool
 | []=>true
 | d :: ds=>D.und n d && D.unds n ds
end
mutual
theorem Rep.less:∀ {d:D} {v:V},D.und L.length d = true -> Rep (L ++ N) H d v -> Rep L H d v
 | .non,_,_,h=>by unfold Rep at h ⊢; exact h
 | .bl _,_,_,h=>by unfold Rep at h ⊢; exact h
 | .int _,_,_,h=>by unfold Rep at h ⊢; exact h
 | .str _,_,_,h=>by unfold Rep at h ⊢; exact h
 | .tup ds,_,hb,h=>by
  unfold D.und at hb;unfold Rep at h ⊢;obtain ⟨a,vs,rfl,e,r⟩:=h;exact ⟨a,vs,rfl,e,zH.less hb r⟩
 | .ref n,_,hb,h=>by
  unfold D.und at hb;unfold Rep at h ⊢;obtain ⟨a,rfl,e⟩:=h;exact ⟨a,rfl,by rwa [zQU (of_decide_eq_true hb)] at e⟩
theorem zH.less:∀ {ds:List D} {vs:List V},D.unds L.length ds = true -> zH (L ++ N) H ds vs -> zH L H ds vs
 | [],_,_,h=>by unfold zH at h ⊢; exact h
 | d :: ds,_,hb,h=>by
  unfold D.unds at hb;rw [zQx] at hb;unfold zH at h ⊢;obtain ⟨v,r,rfl,h1,h2⟩:=h;exact ⟨v,r,rfl,Rep.less hb.1 h1,zH.less hb.2 h2⟩
end
theorem zAN.less {κ:Type} {kf:D -> Option κ} {L N:List Addr} {H:Hp}:∀ {ps:List (D × D)} {vs:List (κ × V)},(ps.all fun p=>D.und L.length p.1 && D.und L.length p.2) = true -> zAN kf (L ++ N) H ps vs -> zAN kf L H ps vs
 | [],_,_,h=>h
 | p :: r,_,hb,h=>by
  rw [List.all_cons,zQx,zQx] at hb;obtain ⟨k,v,r',rfl,e,h1,h2⟩:=h;exact ⟨k,v,r',rfl,e,Rep.less hb.1.2 h1,zAN.less hb.2 h2⟩
def MO.und (n:Nat):MO -> Bool
 | .lst xs=>D.unds n xs
 | .fro xs=>D.unds n xs
 | .dict kvs=>kvs.all fun p=>D.und n p.1 && D.und n p.2
 | .dicT kvs=>kvs.all fun p=>D.und n p.1 && D.und n p.2
 | .set xs=>D.unds n xs
 | .froT kvs=>kvs.all fun p=>D.und n p.1 && D.und n p.2
 | .froK kvs=>kvs.all fun p=>D.und n p.1 && D.und n p.2
def zEC (g:FF):FF:=fun ds M=>match g ds M with
 | some (d,M')=>if D.und M.length d && (M'.take M.length).all (MO.und M.length) && decide (M.length <= M'.length) then some (d,M'.take M.length) else none
 | none=>none
theorem zFq {P:Program} {w:World} {K:PySem.W.Frag} {mg:Str -> Option Value} {base:Heap} {n:Nat} {g:FF} (h:FnOk P w K mg base CX0 k f fd ps (spF K n g)):FnOk P w K mg base CX0 k f fd ps (spF K n (zEC g)) :=
 h.imp fun vs H Q E ⟨L,ds,M,d,M',c,r,hl,hf,q⟩=>by
  unfold zEC at hf;split at hf
  ·rename_i d' M1 e1;split at hf
   ·rename_i hb;cases hf;simp only [zQx,zRa,zQy] at hb;obtain ⟨⟨hb1,hb2⟩,hb3⟩:=hb;refine ⟨L,ds,M,_,_,c,r,hl,e1,fun L1 H1 v s1 c1 r1=>?_⟩;obtain ⟨N,rfl⟩:=s1.pre;rw [<- c.len] at hb1 hb2 hb3;refine q L H1 v ⟨⟨[],by simp⟩,fun a ha=> .inl ha,s1.old,s1.tup,s1.frz⟩ ⟨?_,?_,fun i a m e2 e3=>?_⟩ (Rep.less hb1 r1)
    ·rw [zRl,<- c.len]; omega
    ·exact (List.nodup_append.mp c1.nd).1
    ·rw [<- c.len] at e3;have hi:i < L.length:=(zQQ.mp e2).1;have hm:m ∈ M1.take L.length:=zRE e3;rw [List.getElem?_take_of_lt hi] at e3;have z:=c1.obj i a m (zBz e2) e3;have bl:=hb2 m hm;cases m with
     | lst xs=>obtain ⟨ws,e4,r4⟩:=z; exact ⟨ws,e4,zH.less bl r4⟩
     | fro xs=>obtain ⟨o,ws,e4,r4⟩:=z; exact ⟨o,ws,e4,zH.less bl r4⟩
     | dict ps=>obtain ⟨vs,e,r⟩:=z; exact ⟨vs,e,zAN.less bl r⟩
     | dicT ps=>obtain ⟨vs,e,r⟩:=z; exact ⟨vs,e,zAN.less bl r⟩
     | set _=>exact z
     | froT ps=>obtain ⟨o,vs,e,r⟩:=z; exact ⟨o,vs,e,zAN.less bl r⟩
     | froK ps=>obtain ⟨o,vs,e,r⟩:=z; exact ⟨o,vs,e,zAN.less bl r⟩
   ·cases hf
  ·cases hf
def zFL (g:FF):FF:=fun ds M=>if D.unds 0 ds then match g ds [] with
  | some (d,_)=>if D.und 0 d then some (d,M) else none
  | none=>none
 else none
theorem zIB {P:Program} {w:World} {K:PySem.W.Frag} {mg:Str -> Option Value} {base:Heap} {n:Nat} {g:FF} (h:FnOk P w K mg base CX0 k f fd ps (spF K n g)):FnOk P w K mg base CX0 k f fd ps (spF K n (zFL g)) :=
 h.imp fun vs H Q E ⟨L,ds,M,d,M',c,r,hl,hf,q⟩=>by
  unfold zFL at hf;split at hf
  ·rename_i hb0;split at hf
   ·rename_i d' M1 e1;split at hf
    ·rename_i hb;cases hf;refine ⟨[],ds,[],_,_,⟨rfl,.nil,fun i a m e=>by simp at e⟩,zH.less (L:=[]) (N:=L) hb0 (by simpa using r),hl,e1,fun L1 H1 v s1 c1 r1=>?_⟩;have gr:∀ a o,H a = some o -> H1 a = some o:=fun a o e=>s1.old a o e (by simp);exact q L H1 v (.grow gr) (c.grow gr) ((Rep.less (L:=[]) (N:=L1) hb (by simpa using r1)).more L |> fun z=>by simpa using z)
    ·cases hf
   ·cases hf
  ·cases hf
theorem zNi (hl:PE X l tl):PI X tg l (fun σ H R=>tl σ H fun x H1=>∃ a,x = .ref a /\ ((∃ xs,SqL X.K H1 a xs) /\ R (Itl X.K a) H1 \/ (∃ xs,SqT X.K H1 a xs) /\ R (Itt X.K a) H1)):=by
 intro zB s σ H R I h;refine thn (hl zB s σ H _ I h) fun v s1 ⟨y,H1,I1,r1,a,hy,h1⟩=>?_;subst hy;cases r1;have fpk:∀ b ∈ [s1.heap.objs.size],zBq X zB H1 b:=fun b hb=>by
  have e:b = s1.heap.objs.size:=by simpa using hb
  subst e;exact I1.fpOk (zQT _) (I1.hok.fresh (zQT _))
 rcases h1 with ⟨⟨xs,hq⟩,q⟩ | ⟨⟨xs,hq⟩,q⟩
 ·obtain ⟨its,rv,pl,hz⟩:=I1.list hq;exact wpAny_pyIter_list pl.isList ⟨s1.heap.objs.size,[s1.heap.objs.size],_,_,H1,rfl,I1.kept (t':=s1.toks) fun b o e=>zQO _ e,zJA a _,⟨_,zQX _ rfl,rfl,rfl⟩,fpk,q⟩
 ·obtain ⟨its,rv,pl,hz⟩:=I1.tuple hq;exact wpAny_pyIter_tuple (show s1.heap.IsTuple a its.toArray from pl) ⟨s1.heap.objs.size,[s1.heap.objs.size],_,_,H1,rfl,I1.kept (t':=s1.toks) fun b o e=>zQO _ e,zHW a _,⟨_,zQX _ rfl,rfl,rfl⟩,fpk,q⟩
def zHy (x:EV) (xs:List D):Option (Mem -> Prop):=match x with
 | .dat (.ref n)=>some fun M=>M[n]? = some (.lst xs) \/ M[n]? = some (.fro xs)
 | _=>none
def zAY (f:FE):FI:=fun σ M=>match f σ M with
 | some (x,M1)=>match zg M1 x with
  | some xs=>some (xs,zHy x xs,M1)
  | none=>none
 | none=>none
def zAL (f:FA):FI:=fun σ M=>match f σ M with
 | some ([.int j],M1)=>if -(2 ^ 62) <= j /\ j < 2 ^ 62 then some ((List.range j.toNat).map fun (k:Nat)=>D.int k,none,M1) else none
 | some ([.int i,.int j],M1)=>if -(2 ^ 62) <= i /\ i < 2 ^ 62 /\ -(2 ^ 62) <= j /\ j < 2 ^ 62 then some ((List.range (j - i).toNat).map fun (k:Nat)=>D.int (i + k),none,M1) else none
 | _=>none
theorem zOC (h:QE X e g):QI X tg e (zAY g):=.mk <| PI.imp (zNi h.un) fun τ H R zz=>by
 obtain ⟨L,σ,M,xs,gd,M',c,rs,hf,q⟩:=zz;unfold zAY at hf;split at hf
 ·rename_i y M1 e1;split at hf
  ·rename_i zs e2;cases hf;refine ⟨L,σ,M,_,_,c,rs,e1,fun L1 H1 v s1 c1 r1=>?_⟩;unfold zg at e2;cases t:zBD y with
   | some ws=>
    rw [t] at e2; cases e2;obtain ⟨a,vs,rfl,e3,r3⟩:=zBE r1 t;refine ⟨a,rfl,.inr ⟨⟨vs,.of e3⟩,q L1 H1 _ s1 c1 fun L2 H2 M2 s2 c2 _=>?_⟩⟩;have e4:=s2.tup a vs e3;have r4:=r3.stp s2;refine ⟨fun i d hd=>?_,⟨vs,.of e4,by rw [r4.length]; exact zQT _⟩⟩;obtain ⟨u,hu,ru⟩:=r4.get hd;refine ⟨⟨vs,u,.of e4,hu⟩,fun v H3 ⟨hH,hv⟩=>?_⟩;subst hH;have:=hv vs (.of e4);rw [hu] at this; cases this;exact ⟨fun _ _ z=>z,ru⟩
   | none=>
    rw [t] at e2;obtain ⟨a,vs,rfl,e3,r3⟩:=zAX c1 r1 e2;refine ⟨a,rfl,.inl ⟨⟨vs,.inl e3⟩,q L1 H1 _ s1 c1 fun L2 H2 M2 s2 c2 hgd=>?_⟩⟩;have key:∃ vs',SqL X.K H2 a vs' /\ zH L2 H2 xs vs':=by
     cases y with
     | fl ys=>
      cases e2;obtain ⟨p',vs',hp',_,e5,e6,r6⟩:=r1;cases hp';exact ⟨vs',.of (s2.old _ _ e5 e6),r6.stp s2⟩
     | dat d=>
      cases d with
      | ref n=>
       unfold zZ Rep at r1;obtain ⟨a',ha',e5⟩:=r1;cases ha';have e6:L2[n]? = some a:=by obtain ⟨N,hN⟩:=s2.pre; rw [hN]; exact zBz e5
       rcases hgd with z | z
       ·obtain ⟨vs',e7,r7⟩:=c2.obj n a _ e6 z; exact ⟨vs',.of e7,r7⟩
       ·obtain ⟨o,vs',e7,r7⟩:=c2.obj n a _ e6 z; exact ⟨vs',.inl (.inr ⟨o,e7⟩),r7⟩
      | _=>cases e2
    obtain ⟨vs',hq,r7⟩:=key;refine ⟨fun i d hd=>?_,⟨vs',hq,by rw [r7.length]; exact zQT _⟩⟩;obtain ⟨u,hu,ru⟩:=r7.get hd;refine ⟨⟨vs',u,hq,hu⟩,fun v H3 ⟨hH,hv⟩=>?_⟩;subst hH;have:=hv vs' hq;rw [hu] at this; cases this;exact ⟨fun _ _ z=>z,ru⟩
  ·cases hf
 ·cases hf
theorem zCX (h:zH L H [.int j] vs):vs = [.int j]:=by
 unfold zH at h;obtain ⟨v,r,rfl,h1,h2⟩:=h;unfold zH at h2;unfold Rep at h1;subst h1 h2; rfl
theorem zK9 {K:PySem.W.Frag} {L:List Addr} {H:Hp} {lo:Int} {n:Nat}:zPh K (Itr lo n) L H ((List.range n).map fun (k:Nat)=>D.int (lo + k)) none:=by
 intro L' H' M' s c _;refine ⟨fun i d hd=>?_,by simp [Itr]⟩;rw [zQk] at hd;cases q:(List.range n)[i]? with
 | none=>rw [q] at hd; cases hd
 | some k=>
  rw [q] at hd; cases hd;have hi:i < n:=by have:=(zQQ.mp q).1; simpa using this
  rw [List.getElem?_range hi] at q; cases q;refine ⟨hi,fun v H'' ⟨hH,hv⟩=>?_⟩;subst hH hv;exact ⟨fun _ _ z=>z,zAE⟩
theorem zI2 {tg a:Expr} {g:FA} (hg:Gl X "range") (hm:X.mg "range" = none) (ha:QA X [a] g) (hl:zLz g 1) (hs:starEach [a] X.env = [(false,eval a X.env)]:=by rfl):QI X tg (.Call (.Name "range" p) [a] [] pos) (zAL g) :=
 .mk <| PI.imp (zJH hg hm ha.un hs) fun τ H R zz=>by
  obtain ⟨L,σ,M,xs,gd,M',c,rs,hf,q⟩:=zz;unfold zAL at hf;split at hf
  ·rename_i j M1 e1;split at hf
   ·rename_i hb;cases hf;refine ⟨L,σ,M,_,_,c,rs,e1,fun L1 H1 vs s1 c1 r1=>⟨j,zCX r1,hb.1,hb.2,q L1 H1 _ s1 c1 ?_⟩⟩;have z:=zK9 (K:=X.K) (L:=L1) (H:=H1) (lo:=0) (n:=j.toNat);simpa using z
   ·cases hf
  ·rename_i e1;have:=hl _ _ _ _ e1;simp at this
  ·cases hf
end
section
variable {es rest:List Expr}
def zJk (f g:FT):FT:=fun σ M=>match f σ M with
 | some (false,M1)=>g σ M1
 | r=>r
def zCj (f:FT):FT:=fun σ M=>match f σ M with
 | some (k,M1)=>some (!k,M1)
 | none=>none
structure QW (X:Cx) (e:Expr) (f:FT):Prop where
 un:PW X e (trT X.K f)
theorem PW.imp (h:PW X e t) (hi:∀ τ H Q,t' τ H Q -> t τ H Q):PW X e t':=fun wh zB s σ H Q I q=>h wh zB s σ H Q I (hi _ _ _ q)
theorem zOA (h:QT X a f):QW X (.BoolOp .Or [a] pos) f:=.mk (zOJ h.un)
theorem zO5 (h1:QT X a f) (h2:QW X (.BoolOp .Or (b :: rest) pos) g):QW X (.BoolOp .Or (a :: b :: rest) pos) (zJk f g):=.mk <| PW.imp (zPN h1.un h2.un) fun τ H Q zz=>by
 obtain ⟨L,σ,M,d,M',c,rs,hf,q⟩:=zz;unfold zJk at hf;split at hf
 ·rename_i M1 e1;exact ⟨L,σ,M,_,_,c,rs,e1,fun L1 H1 s1 c1=>zI3 ⟨L1,σ,M1,_,_,c1,rs.stp s1,hf,fun L2 H2 s2 c2=>q L2 H2 (s1.trans s2) c2⟩⟩
 ·rename_i hne;cases d with
  | false=>exact absurd hf (hne M')
  | true=>exact ⟨L,σ,M,_,_,c,rs,hf,fun L1 H1 s1 c1=>zJF (q L1 H1 s1 c1)⟩
theorem zQH (h:QW X e f):QT X e f:=.mk (PW.pt h.un)
theorem zJq (h:QT X a f):QT X (.UnaryOp .Not a pos) (zCj f):=.mk <| PT.imp (zOO h.un) fun τ H Q zz=>by
 obtain ⟨L,σ,M,d,M',c,rs,hf,q⟩:=zz;unfold zCj at hf;split at hf
 ·rename_i k M1 e1;cases hf;exact ⟨L,σ,M,_,_,c,rs,e1,fun L1 H1 s1 c1=>q L1 H1 s1 c1⟩
 ·cases hf
def zHt (f g:FE):FE:=fun σ M=>match f σ M with
 | some (.dat (.bl true),M1)=>g σ M1
 | some (.dat (.bl false),M1)=>some (.dat (.bl false),M1)
 | _=>none
def zLK (f:FE):FE:=fun σ M=>match f σ M with
 | some (.dat (.bl k),M1)=>some (.dat (.bl (!k)),M1)
 | _=>none
theorem zCW (h:zZ H0 L H (.dat (.bl k)) v):v = .bl k:=by unfold zZ Rep at h; exact h
theorem zLA {op} (h:QE X a f):QE X (.BoolOp op [a] pos) f:=.mk (zOH h.un)
theorem zH6 (h1:QE X a f) (h2:QE X (.BoolOp .And (b :: rest) pos) g):QE X (.BoolOp .And (a :: b :: rest) pos) (zHt f g):=.mk <| PE.imp (zNK h1.un h2.un) fun τ H Q zz=>by
 obtain ⟨L,σ,M,d,M',c,rs,hf,q⟩:=zz;unfold zHt at hf;split at hf
 ·rename_i M1 e1;exact ⟨L,σ,M,_,_,c,rs,e1,fun L1 H1 v s1 c1 r1=>⟨true,zCW r1,zJF ⟨L1,σ,M1,_,_,c1,rs.stp s1,hf,fun L2 H2 w s2 c2 r2=>q L2 H2 w (s1.trans s2) c2 (r2.back s1 c s2.sub)⟩⟩⟩
 ·rename_i M1 e1;cases hf;exact ⟨L,σ,M,_,_,c,rs,e1,fun L1 H1 v s1 c1 r1=>⟨false,zCW r1,zI3 (q L1 H1 _ s1 c1 (by have:=zCW r1; subst this; exact r1))⟩⟩
 ·cases hf
theorem zNg (h:QE X a f):QE X (.UnaryOp .Not a pos) (zLK f):=.mk <| PE.imp (zNf h.un) fun τ H Q zz=>by
 obtain ⟨L,σ,M,d,M',c,rs,hf,q⟩:=zz;unfold zLK at hf;split at hf
 ·rename_i k M1 e1;cases hf;exact ⟨L,σ,M,_,_,c,rs,e1,fun L1 H1 v s1 c1 r1=>⟨k,zCW r1,q L1 H1 _ s1 c1 (by unfold zZ Rep; rfl)⟩⟩
 ·cases hf
def vIf (t:FT) (f g:FE):FE:=fun σ M=>match t σ M with
 | some (true,M1)=>f σ M1
 | some (false,M1)=>g σ M1
 | none=>none
theorem zL0 (hc:QT X c t) (h1:QE X a f) (h2:QE X b g):QE X (.IfExp c a b pos) (vIf t f g):=.mk <| PE.imp (zKP hc.un h1.un h2.un) fun τ H Q zz=>by
 obtain ⟨L,σ,M,d,M',c,rs,hf,q⟩:=zz;unfold vIf at hf;split at hf
 ·rename_i M1 e1;exact ⟨L,σ,M,_,_,c,rs,e1,fun L1 H1 s1 c1=>zJF ⟨L1,σ,M1,_,_,c1,rs.stp s1,hf,fun L2 H2 w s2 c2 r2=>q L2 H2 w (s1.trans s2) c2 (r2.back s1 c s2.sub)⟩⟩
 ·rename_i M1 e1;exact ⟨L,σ,M,_,_,c,rs,e1,fun L1 H1 s1 c1=>zI3 ⟨L1,σ,M1,_,_,c1,rs.stp s1,hf,fun L2 H2 w s2 c2 r2=>q L2 H2 w (s1.trans s2) c2 (r2.back s1 c s2.sub)⟩⟩
 ·cases hf
abbrev KM:=EV -> List D -> Mem -> Option (D × Mem)
def fM (k:KM) (f:FE) (g:FA):FE:=fun σ M=>match f σ M with
 | some (x,M1)=>match zAZ M1 x with
  | some _=>match g σ M1 with
   | some (ds,M2)=>match k x ds M2 with
    | some (d,M3)=>some (.dat d,M3)
    | none=>none
   | none=>none
  | none=>none
 | none=>none
def zLv (K:PySem.W.Frag) (r:V -> List V -> Hp -> VK -> Prop) (k:KM):Prop:=∀ {L:List Addr} {M M':Mem} {H H0:Hp} {x:EV} {ds:List D} {d:D} {v:V} {vs:List V} {Q:VK},Cor K L M H -> zZ H0 L H x v -> zH L H ds vs -> k x ds M = some (d,M') ->
 (∀ L' H' u,Stp L H L' H' -> Cor K L' M' H' -> Rep L' H' d u -> Q u H') -> r v vs H Q
theorem zHk {K:PySem.W.Frag} {r:V -> List V -> Hp -> VK -> Prop} {k:KM} {f:FE} {g:FA} (hk:zLv K r k) {τ:Sv} {H:Hp} {Q:VK} (h:trE K (fM k f g) τ H Q):tBM K "list" r (trE K f) (trA K g) τ H Q:=by
 obtain ⟨L,σ,M,d,M',c,rs,hf,q⟩:=h;unfold fM at hf;split at hf
 ·rename_i x M1 e1;split at hf
  ·rename_i xs e2;split at hf
   ·rename_i ds M2 e3;split at hf
    ·rename_i d' M3 e4;cases hf;refine ⟨L,σ,M,_,_,c,rs,e1,fun L1 H1 v s1 c1 r1=>?_⟩;obtain ⟨a,vs,rfl,e5,r5⟩:=zAX c1 r1 e2;refine ⟨.inl ⟨rfl,vs,.inl e5⟩,L1,σ,M1,_,_,c1,rs.stp s1,e3,fun L2 H2 ws s2 c2 r2=>?_⟩;exact hk c2 (r1.stp s2) r2 e4 fun L3 H3 u s3 c3 r3=>q L3 H3 u ((s1.trans s2).trans s3) c3 r3
    ·cases hf
   ·cases hf
  ·cases hf
 ·cases hf
def zAB:KM:=fun x ds M=>match x,ds with
 | .dat (.ref n),[d]=>match M[n]? with
  | some (.lst xs)=>if xs.length < sizeLine then some (.non,M.set n (.lst (xs ++ [d]))) else none
  | _=>none
 | _,_=>none
theorem zH.one (h:zH L H [d] vs):∃ v,vs = [v] /\ Rep L H d v:=by
 unfold zH at h;obtain ⟨v,r,rfl,h1,h2⟩:=h;unfold zH at h2;subst h2;exact ⟨v,rfl,h1⟩
theorem zHz {K:PySem.W.Frag}:zLv K zH9 zAB:=by
 intro L M M' H H0 x ds d v vs Q c rx rd hk q;unfold zAB at hk;split at hk
 ·rename_i n d';split at hk
  ·rename_i xs e1;split at hk
   ·rename_i hz;cases hk;unfold zZ Rep at rx;obtain ⟨a,rfl,e2⟩:=rx;obtain ⟨ws,e3,r3⟩:=c.obj n a _ e2 e1;obtain ⟨w,rfl,r4⟩:=rd.one;obtain ⟨c5,s5⟩:=c.write e2 e1 (r3.app (.cons r4 .nil));exact ⟨a,ws,w,rfl,rfl,e3,by rw [r3.length]; exact hz,q L _ _ s5 c5 (by unfold Rep; rfl)⟩
   ·cases hk
  ·cases hk
 ·cases hk
theorem zKB (h:QE X a f) (hg:QA X [e] g) (hbase:attributeBase a "append" X.env (eval a X.env) = eval a X.env:=by rfl)
  (hfew:((backTo cpos (starEach [e] X.env)).all (fun x=> !x.1) && (backToKw cpos (keywordEach [] X.env)).all (fun x=>x.1.isSome) && decide ([e].length + ([]:List Keyword).length + (if ([]:List Keyword).isEmpty then 0 else 1) < 30)) = true:=by rfl)
  (hline:(apos.endLine == cpos.line) = true:=by rfl) (hs:starEach [e] X.env = (false,eval e X.env) :: starEach [] X.env:=by rfl) (hplain:(backTo cpos (starEach [] X.env)).any (·.1) = false:=by rfl) :
  QE X (.Call (.Attribute a "append" apos) [e] [] cpos) (fM zAB f g) :=
 .mk <| PE.imp (zIa PySem.F.plainAttrs_list PySem.F.slot_list_append PySem.F.type_list_append zJS h.un hg.un hbase hfew hline hs hplain) fun _ _ _ z=>zHk zHz z
def zEu:KM:=fun x ds M=>match x,ds with
 | .dat (.ref n),[.int i]=>match M[n]? with
  | some (.lst xs)=>match ixN xs.length i with
   | some k=>match xs[k]? with
    | some d=>if -(2 ^ 63) <= i /\ i < 2 ^ 63 then some (d,M.set n (.lst (xs.eraseIdx k))) else none
    | none=>none
   | none=>none
  | _=>none
 | _,_=>none
theorem zMW {K:PySem.W.Frag}:zLv K zKJ zEu:=by
 intro L M M' H H0 x ds d v vs Q c rx rd hk q;unfold zEu at hk;split at hk
 ·rename_i n i;split at hk
  ·rename_i xs e1;split at hk
   ·rename_i k e2;split at hk
    ·rename_i d' e3;split at hk
     ·rename_i hb;cases hk;unfold zZ Rep at rx;obtain ⟨a,rfl,e4⟩:=rx;obtain ⟨ws,e5,r5⟩:=c.obj n a _ e4 e1;obtain ⟨u,e6,r6⟩:=r5.get e3;obtain ⟨c5,s5⟩:=c.write e4 e1 (r5.eraseIdx k);exact ⟨a,ws,i,k,u,rfl,zCX rd,e5,hb.1,hb.2,by rw [r5.length]; exact (zFX e2).1,e6,q L _ _ s5 c5 (r6.stp s5)⟩
     ·cases hk
    ·cases hk
   ·cases hk
  ·cases hk
 ·cases hk
theorem zPm (h:QE X a f) (hg:QA X [e] g) (hbase:attributeBase a "pop" X.env (eval a X.env) = eval a X.env:=by rfl)
  (hfew:((backTo cpos (starEach [e] X.env)).all (fun x=> !x.1) && (backToKw cpos (keywordEach [] X.env)).all (fun x=>x.1.isSome) && decide ([e].length + ([]:List Keyword).length + (if ([]:List Keyword).isEmpty then 0 else 1) < 30)) = true:=by rfl)
  (hline:(apos.endLine == cpos.line) = true:=by rfl) (hs:starEach [e] X.env = (false,eval e X.env) :: starEach [] X.env:=by rfl) (hplain:(backTo cpos (starEach [] X.env)).any (·.1) = false:=by rfl) :
  QE X (.Call (.Attribute a "pop" apos) [e] [] cpos) (fM zEu f g) :=
 .mk <| PE.imp (zIa PySem.F.plainAttrs_list PySem.F.slot_list_pop PySem.F.type_list_pop zJ3 h.un hg.un hbase hfew hline hs hplain) fun _ _ _ z=>zHk zMW z
def zGM (x:EV) (i:D) (d:D) (M:Mem):Option Mem:=match x,i with
 | .dat (.ref n),.int i=>match M[n]? with
  | some (.lst xs)=>match ixN xs.length i with
   | some j=>some (M.set n (.lst (xs.set j d)))
   | none=>none
  | _=>none
 | _,_=>none
def zHQ (fv fo fi:FE):FS:=fun σ M=>match toD fv σ M with
 | some (d,M1)=>match fo σ M1 with
  | some (x,M2)=>match toD fi σ M2 with
   | some (i,M3)=>match zGM x i d M3 with
    | some M4=>some (.nx,σ,M4)
    | none=>none
   | none=>none
  | none=>none
 | none=>none
theorem zLG (hv:QE X v fv) (ho:QE X o fo) (hi:QE X i fi)
  (ha:∀ v,assign (.Subscript o i p) X.env v = (do
   let ov <- holding [v] (eval o X.env);let iv <- holding [v,ov] (eval i X.env);standAt p;holding [v,ov,iv] (setItem ov iv v);release [v,ov,iv] []):=by intro _; rfl)
  (hs:swapsWithSole [.Subscript o i p] v pos.line X.env = pure false:=by rfl) (hw:swappedStores [.Subscript o i p] v X.env = pure none:=by rfl) (h1:(assignEach [.Subscript o i p] X.env).map (·.2) = [assign (.Subscript o i p) X.env]:=by rfl) :
  QS X (.Assign [.Subscript o i p] v pos) (zHQ fv fo fi):=.mk <| PS.imp (zLa (zAx hv).un (zNt ho.un (zAx hi).un zKs ha) hs hw h1) fun E τ H zz=>by
 obtain ⟨L,σ,M,out,σ',M',c,rs,hf,q⟩:=zz;unfold zHQ at hf;split at hf
 ·rename_i d M1 e1;split at hf
  ·rename_i x M2 e2;split at hf
   ·rename_i j M3 e3;split at hf
    ·rename_i M4 e4;cases hf;refine ⟨L,σ,M,_,_,c,rs,e1,fun L1 H1 u s1 c1 r1=>⟨L1,σ,M1,_,_,c1,rs.stp s1,e2,fun L2 H2 w s2 c2 r2=>⟨L2,σ,M2,_,_,c2,rs.stp (s1.trans s2),e3,fun L3 H3 z s3 c3 r3=>?_⟩⟩⟩;have st:=(s1.trans s2).trans s3;unfold zGM at e4;split at e4
     ·rename_i n k;split at e4
      ·rename_i xs e5;split at e4
       ·rename_i m e6;cases e4;have r2':=r2.stp s3;unfold zZ Rep at r2';obtain ⟨a,rfl,e7⟩:=r2';obtain ⟨ws,e8,r8⟩:=c3.obj n a _ e7 e5;obtain ⟨c9,s9⟩:=c3.write e7 e5 (zH.set ((r1.stp s2).stp s3) m r8);exact ⟨a,ws,k,m,rfl,by unfold Rep at r3; exact r3,e8,by rw [r8.length]; exact e6,q L3 _ (st.trans s9) c9 τ ((rs.stp st).stp s9)⟩
       ·cases e4
      ·cases e4
     ·cases e4
    ·cases hf
   ·cases hf
  ·cases hf
 ·cases hf
end
section
def zDd:D -> Option V
 | .non=>some .non
 | .bl k=>some (.bl k)
 | .int i=>some (.int i)
 | .str x=>some (.str x)
 | _=>none
theorem zC8 (h:Rep L H d v) (e:zDd d = some u):v = u:=by
 cases d with
 | non=>cases e; unfold Rep at h; exact h
 | bl _=>cases e; unfold Rep at h; exact h
 | int _=>cases e; unfold Rep at h; exact h
 | str _=>cases e; unfold Rep at h; exact h
 | tup _=>cases e
 | ref _=>cases e
def zHf (neg:Bool):K2:=fun x y M=>match x,y with
 | .dat d,.dat d'=>match zDd d,zDd d' with
  | some u,some w=>if zMU u w then some (.dat (.bl (if neg then !decide (u = w) else decide (u = w))),M) else none
  | _,_=>none
 | _,_=>none
theorem zE4 (h:zHf neg x y M = some (r,M')):∃ d d' u w,x = .dat d /\ y = .dat d' /\ zDd d = some u /\ zDd d' = some w /\ zMU u w = true /\ r = .dat (.bl (if neg then !decide (u = w) else decide (u = w))) /\ M' = M:=by
 unfold zHf at h;split at h
 ·rename_i d d';split at h
  ·rename_i u w e1 e2;split at h
   ·rename_i hs;cases h;exact ⟨d,d',u,w,rfl,rfl,e1,e2,hs,rfl,rfl⟩
   ·cases h
  ·cases h
 ·cases h
theorem zIL {K:PySem.W.Frag}:zB3 K rEq (zHf false):=by
 intro L M M' H H0 x y d v w Q c rx ry hk q;obtain ⟨d1,d2,u,z,rfl,rfl,e1,e2,hs,rfl,rfl⟩:=zE4 hk;have a1:=zC8 rx e1;have a2:=zC8 ry e2;subst a1 a2;exact ⟨hs,q L H _ (.refl L H) c (zBe (L:=L) (H:=H))⟩
theorem zLn {K:PySem.W.Frag}:zB3 K rNe (zHf true):=by
 intro L M M' H H0 x y d v w Q c rx ry hk q;obtain ⟨d1,d2,u,z,rfl,rfl,e1,e2,hs,rfl,rfl⟩:=zE4 hk;have a1:=zC8 rx e1;have a2:=zC8 ry e2;subst a1 a2;exact ⟨hs,q L H _ (.refl L H) c (zBe (L:=L) (H:=H))⟩
def zNS (neg:Bool) (K:PySem.W.Frag):R2:=fun x y H Q=>∃ p q xs,x = .ref p /\ y = .ref q /\ SqL K H p xs /\ SqL K H q [] /\ Q (.bl (if neg then !xs.isEmpty else xs.isEmpty)) H
theorem zFy (r:zU [] its):its = []:=by cases r; rfl
theorem zGn (hu:X.A.units < cLine):OpR X (compareOp .Eq) (zNS false X.K):=by
 intro zB s σ H x y v u Q I rx ry h;obtain ⟨p,q,xs,rfl,rfl,h1,h2,hq⟩:=h;cases rx;cases ry;obtain ⟨its,rv,pl,_⟩:=I.list h1;obtain ⟨its2,rv2,pl2,_⟩:=I.list h2;cases zFy rv2;cases rv with
 | nil=>exact SeqAt.eq_listAt (e:=fun _=>true) pl.isList pl2.isList rfl hu (fun j h1=>by simp at h1) ⟨.bl true,H,I,rfl,hq⟩
 | cons _ _=>exact SeqAt.eq_list_lengthsAt pl.isList pl2.isList (by simp) hu ⟨.bl false,H,I,rfl,hq⟩
theorem zKw (hu:X.A.units < cLine):OpR X (compareOp .NotEq) (zNS true X.K):=by
 intro zB s σ H x y v u Q I rx ry h;obtain ⟨p,q,xs,rfl,rfl,h1,h2,hq⟩:=h;cases rx;cases ry;obtain ⟨its,rv,pl,_⟩:=I.list h1;obtain ⟨its2,rv2,pl2,_⟩:=I.list h2;cases zFy rv2;cases rv with
 | nil=>exact SeqAt.RcNeAt.lists (e:=fun _=>true) pl.isList pl2.isList rfl hu (fun j h1=>by simp at h1) _ _ _ _ ⟨.bl false,H,I,rfl,hq⟩
 | cons _ _=>exact SeqAt.RcNeAt.lists_lengths pl.isList pl2.isList (by simp) hu _ _ _ _ ⟨.bl true,H,I,rfl,hq⟩
def zKH (neg:Bool):K2:=fun x y M=>match zAZ M x,zAZ M y with
 | some xs,some []=>some (.dat (.bl (if neg then !xs.isEmpty else xs.isEmpty)),M)
 | _,_=>none
theorem zFU {K:PySem.W.Frag} {neg:Bool}:zB3 K (zNS neg K) (zKH neg):=by
 intro L M M' H H0 x y d v w Q c rx ry hk q;unfold zKH at hk;split at hk
 ·rename_i xs e1 e2;cases hk;obtain ⟨p1,vs,rfl,h1,r1⟩:=zAX c rx e1;obtain ⟨p2,ws,rfl,h2,r2⟩:=zAX c ry e2;unfold zH at r2;subst r2;refine ⟨p1,p2,vs,rfl,rfl,.inl h1,.inl h2,q L H _ (.refl L H) c ?_⟩;have:vs.isEmpty = xs.isEmpty:=by
   have:=r1.length;cases vs <;> cases xs <;> simp_all
  rw [this];exact (zBe (L:=L) (H:=H))
 ·cases hk
def kOr (k1 k2:K2):K2:=fun x y M=>match k1 x y M with
 | some r=>some r
 | none=>k2 x y M
theorem zFT {K:PySem.W.Frag} {r1 r2:R2} {k1 k2:K2} (h1:zB3 K r1 k1) (h2:zB3 K r2 k2):zB3 K (fun x y H Q=>r1 x y H Q \/ r2 x y H Q) (kOr k1 k2):=by
 intro L M M' H H0 x y d v w Q c rx ry hk q;unfold kOr at hk;split at hk
 ·rename_i r e1;cases hk;exact .inl (h1 c rx ry e1 q)
 ·exact .inr (h2 c rx ry hk q)
abbrev kEq:K2:=kOr (zHf false) (zKH false)
abbrev kNe:K2:=kOr (zHf true) (zKH true)
theorem zOt (hu:X.A.units < cLine) (h1:QE X a f) (h2:QE X b g):QE X (.Compare a [.Eq] [b] pos) (fOp kEq f g):=zPM (zFT zIL zFU) (zMw.or (zGn hu)) h1 h2 (zDM _)
theorem zPI (hu:X.A.units < cLine) (h1:QE X a f) (h2:QE X b g):QT X (.Compare a [.Eq] [b] pos) (tst (fOp kEq f g)):=zCn (zFT zIL zFU) (zMw.or (zGn hu)) h1 h2 (zDM _)
theorem zMv (hu:X.A.units < cLine) (h1:QE X a f) (h2:QE X b g):QT X (.Compare a [.NotEq] [b] pos) (tst (fOp kNe f g)):=zCn (zFT zLn zFU) (zOj.or (zKw hu)) h1 h2 (zDM _)
end
section
theorem zKe {prog:Program} {w:World} {A:Around} {E:Value -> Shared -> Prop} {s:Shared} {t b:Addr} {ws:List Value} {Q:Value -> Shared -> Prop} (ht:IsTup s.heap t #[]) (hb:IsTup s.heap b ws.toArray) (h1:Q (.ref b) s) :
  wpAny (model prog w) A (binaryOp .Add (.ref t) (.ref b)) Q E s:=by
 obtain ⟨⟨cls,dd,data,sl⟩,ho,hc,n,hd⟩:=id ht;obtain ⟨⟨cls2,dd2,data2,sl2⟩,ho2,hc2,n2,hd2⟩:=id hb;simp only at hc hd hc2 hd2;subst hc hd hc2 hd2
 exact concat_meets ⟨_,ho,rfl⟩ ⟨_,ho2,rfl⟩ noFill_tuple_add seq_tuple_add PySem.F.slot_tuple_add PySem.F.entry_tuple_add (PySem.F.args_tuple_add_2 _ _)
   (tuple_addW0 t b #[] ws.toArray n n2 dd dd2 sl sl2 (by simp)) ⟨ho,ho2,h1⟩
def zJ6 (K:PySem.W.Frag):R2:=fun x y H Q=>∃ a b ys,x = .ref a /\ y = .ref b /\ SqT K H a [] /\ SqT K H b ys /\ Q (.ref b) H
theorem zKh:OpR X (binaryOp .Add) (zJ6 X.K):=by
 intro zB s σ H x y v u Q I rx ry h;obtain ⟨a,b,ys,rfl,rfl,ha,hb,q⟩:=h;cases rx;cases ry;obtain ⟨its,r1,p1,_⟩:=I.tuple ha;obtain ⟨its2,r2,p2,_⟩:=I.tuple hb;cases zFy r1;exact zKe p1 p2 ⟨.ref b,H,I,rfl,q⟩
def zKV:K2:=fun x y M=>match zBD x,zBD y with
 | some xs,some ys=>if xs.length + ys.length <= sizeLine then some (.dat (.tup (xs ++ ys)),M) else none
 | _,_=>none
theorem zLC {K:PySem.W.Frag}:zB3 K (fun x y H Q=>zM3 K x y H Q \/ zJ6 K x y H Q) zKV:=by
 intro L M M' H H0 x y d v w Q c rx ry hk q;unfold zKV at hk;split at hk
 ·rename_i xs ys e1 e2;split at hk
  ·rename_i hz;cases hk;obtain ⟨p1,vs,rfl,h1,r1⟩:=zBE rx e1;obtain ⟨p2,ws,rfl,h2,r2⟩:=zBE ry e2;cases xs with
   | nil=>
    refine .inr ⟨p1,p2,ws,rfl,rfl,.of (by unfold zH at r1; subst r1; exact h1),.of h2,q L H _ (.refl L H) c ?_⟩;unfold zZ Rep;exact ⟨p2,ws,rfl,h2,r2⟩
   | cons x0 xr=>
    have hv:vs ≠ []:=fun z=>by have:=r1.length; rw [z] at this; simp at this
    refine .inl ⟨p1,p2,vs,ws,rfl,rfl,.of h1,.of h2,hv,by rw [r1.length,r2.length]; exact hz,fun z=>?_,fun z pp hp=>?_⟩
    ·have:ys = []:=by
      have:=r2.length; rw [z] at this;cases ys with
      | nil=>rfl
      | cons _ _=>simp at this
     subst this;refine q L H _ (.refl L H) c ?_;unfold zZ Rep;rw [zQ7];exact ⟨p1,vs,rfl,h1,r1⟩
    ·exact q L _ _ (.upd hp) (c.upd hp) (Rep.newTup hp (r1.app r2))
  ·cases hk
 ·cases hk
abbrev zAb:K2:=kOr zP9 zKV
theorem zN6 (h1:QE X a f) (h2:QE X b g):QE X (.BinOp a .Add b pos) (fOp zAb f g):=zGb (zFT (zDx fun _ _ _ _=>zAE) zLC) (zNw.or (zL2.or zKh)) h1 h2
structure Kinds (K:PySem.W.Frag):Prop where
 k:∀ t T,t ∈ ["NoneType", "bool", "int", "str", "list", "tuple", "dict"] -> T ∈ ["int", "bool", "str", "tuple"] -> PySem.W.kitOne K (.type t) (.type T) = some (decide (t = T) || (decide (t = "bool") && decide (T = "int")))
def zHH (M:Mem):EV -> Option String
 | .dat .non=>some "NoneType"
 | .dat (.bl _)=>some "bool"
 | .dat (.int _)=>some "int"
 | .dat (.str _)=>some "str"
 | .dat (.tup _)=>some "tuple"
 | .fl _=>some "list"
 | .dat (.ref n)=>match M[n]? with
  | some (.lst _)=>some "list"
  | some (.fro _)=>some "list"
  | some (.dict _)=>some "dict"
  | some (.dicT _)=>some "dict"
  | _=>none
theorem zN9 {K:PySem.W.Frag} {L:List Addr} {M:Mem} {H H0:Hp} {x:EV} {v:V} {t:String} (c:Cor K L M H) (r:zZ H0 L H x v) (h:zHH M x = some t):TyOf K H v (.type t) /\ t ∈ ["NoneType", "bool", "int", "str", "list", "tuple", "dict"]:=by
 unfold zHH at h;split at h
 ·cases h; unfold zZ Rep at r; subst r; exact ⟨.non,by simp⟩
 ·cases h; unfold zZ Rep at r; subst r; exact ⟨.bl _,by simp⟩
 ·cases h; unfold zZ Rep at r; subst r; exact ⟨.int _,by simp⟩
 ·cases h; unfold zZ Rep at r; subst r; exact ⟨.str _,by simp⟩
 ·cases h; unfold zZ Rep at r; obtain ⟨a,vs,rfl,e,_⟩:=r; exact ⟨.tup e,by simp⟩
 ·cases h;obtain ⟨p,vs,rfl,_,e,_⟩:=r;exact ⟨.lst e,by simp⟩
 ·unfold zZ Rep at r;obtain ⟨a,rfl,e⟩:=r;split at h
  ·rename_i e1; cases h; obtain ⟨vs,q,_⟩:=c.obj _ a _ e e1; exact ⟨.lst q,by simp⟩
  ·rename_i e1; cases h; obtain ⟨o,vs,q,_⟩:=c.obj _ a _ e e1; exact ⟨.frz q,by simp⟩
  ·rename_i e1; cases h; obtain ⟨vs,q,_⟩:=c.obj _ a _ e e1; exact ⟨.dK q,by simp⟩
  ·rename_i e1; cases h; obtain ⟨vs,q,_⟩:=c.obj _ a _ e e1; exact ⟨.dT q,by simp⟩
  ·cases h
def isT (t T:String):Bool:=decide (t = T) || (decide (t = "bool") && decide (T = "int"))
def zDK (T:String) (f:FE):FE:=fun σ M=>match f σ M with
 | some (x,M1)=>match zHH M1 x with
  | some t=>some (.dat (.bl (isT t T)),M1)
  | none=>none
 | none=>none
def zOw (K:PySem.W.Frag) (T:String):List V -> Hp -> VK -> Prop:=fun xs H Q=>∃ x t b,xs = [x,.ty T] /\ TyOf K H x t /\ PySem.W.kitOne K t (.type T) = some b /\ Q (.bl b) H
theorem zJo:zBC X (.builtin "isinstance") (zOw X.K T):=by
 intro zB s σ H xs us Q I r h;obtain ⟨x,t,b,rfl,ty,e,q⟩:=h;cases r with
 | cons r1 r2=>
  cases r2 with
  | cons r3 r4=>
   cases r4;cases r3;exact zI6 I r1 ty e fun tk=>⟨.bl b,H,I.tok _,rfl,q⟩
theorem zE5 (hK:Kinds X.K) (hT:T ∈ ["int", "bool", "str", "tuple"]) (hg:Gl X "isinstance") (hm:X.mg "isinstance" = none) (hg2:Gl X y) (hm2:X.mg y = none) (hv2:bootBuiltins y = some (.type T)) (hn2:y ≠ "__name__") (hd2:(y == ("__debug__" : Str)) = false) (h:QE X e f)
  (he:starEach (e :: [.Name y p2]) X.env = (false,eval e X.env) :: starEach [.Name y p2] X.env:=by rfl) (he2:starEach [.Name y p2] X.env = (false,eval (.Name y p2) X.env) :: starEach [] X.env:=by rfl) (hpl:(backTo pos (starEach [.Name y p2] X.env)).any (·.1) = false:=by rfl) :
  QE X (.Call (.Name "isinstance" p1) [e,.Name y p2] [] pos) (zDK T f) :=
 .mk <| PE.imp (zGS (r:=zOw X.K T) zJo hg hm (by rfl) (zBV h.un (zBV (zLu (v:=.ty T) hg2 hm2 hv2 rfl hn2 hd2) zCp he2) he) (by decide) (by decide) he hpl) fun τ H Q zz=>by
  obtain ⟨L,σ,M,d,M',c,rs,hf,q⟩:=zz;unfold zDK at hf;split at hf
  ·rename_i x M1 e1;split at hf
   ·rename_i t e2;cases hf;refine ⟨L,σ,M,_,_,c,rs,e1,fun L1 H1 v s1 c1 r1=>?_⟩;obtain ⟨ty,ht⟩:=zN9 c1 r1 e2;exact ⟨v,_,_,rfl,ty,hK.k t T ht hT,q L1 H1 _ s1 c1 (zBe (L:=L1) (H:=H1))⟩
   ·cases hf
  ·cases hf
theorem zH.two (h:zH L H [d,d'] vs):∃ v v',vs = [v,v'] /\ Rep L H d v /\ Rep L H d' v':=by
 unfold zH at h;obtain ⟨v,r,rfl,h1,h2⟩:=h;obtain ⟨v',rfl,h3⟩:=h2.one;exact ⟨v,v',rfl,h1,h3⟩
section
theorem zLZ (hg:Gl X "len") (hm:X.mg "len" = none) (ha:QAE X [e] fa) (he:starEach [e] X.env = (false,eval e X.env) :: starEach [] X.env:=by rfl) (hpl:(backTo pos (starEach [] X.env)).any (·.1) = false:=by rfl):QE X (.Call (.Name "len" p) [e] [] pos) (fB zAO fa) :=
 zC0 zLq zFe PySem.boot_len hg hm ha (by decide) (by decide) he hpl
theorem zL1 (hg:Gl X "tuple") (hm:X.mg "tuple" = none) (ha:QAE X [e] fa) (he:starEach [e] X.env = (false,eval e X.env) :: starEach [] X.env:=by rfl) (hpl:(backTo pos (starEach [] X.env)).any (·.1) = false:=by rfl):QE X (.Call (.Name "tuple" p) [e] [] pos) (fB zx fa) :=
 zDy zIn zEl (by rfl) hg hm ha (by decide) (by decide) he hpl
end
end
def zC7 (sc scope:Scope):Bool:=scope.names.all fun y=>
 (y.2 != .local || scope.names.lookup y.1 == some .local) && (y.2 != .cell || scope.names.lookup y.1 == some .cell) && (y.2 != .free || (sc.names.lookup y.1 == some .cell || sc.names.lookup y.1 == some .free))
def zDm (N:List Str) (scope:Scope) (own:List Nat):Bool:=(List.range N.length).all fun i=>match N[i]? with
 | some x=>decide (i ∈ own) || (scope.names.lookup x == none) || (scope.names.lookup x == some .free)
 | none=>true
theorem zDV (hk:scope.kind = .function) (hs:X.env.scope = sc) (hN:X.N = N) (h1:zC7 sc scope = true) (h2:zDm N scope own = true):CompIn X scope own:=by
 unfold zC7 at h1;rw [zQy] at h1;refine ⟨⟨hk,fun y hy e=>?_,fun y hy e=>?_,fun y hy e=>?_⟩,fun i x e=>?_⟩
 ·have:=h1 y hy;simp [e] at this;exact this
 ·have:=h1 y hy;simp [e] at this;exact this
 ·have:=h1 y hy;simp [e] at this;show X.env.scope.names.lookup y.1 = _ \/ X.env.scope.names.lookup y.1 = _;rw [hs];exact this
 ·unfold zDm at h2;rw [zQy] at h2;rw [hN] at e;have hi:i < N.length:=(zQQ.mp e).1;have:=h2 i (by simpa using hi);rw [e] at this;simp only [Bool.or_eq_true,zRa,beq_iff_eq,or_assoc] at this;exact this
def zF7 (K:PySem.W.Frag):Bool:=K.all fun p=>match p.2.cls with
 | .type n=>n != "list"
 | _=>true
theorem zGm:∀ {K:PySem.W.Frag},K.lookup a = some o -> (a,o) ∈ K
 | [],h=>by cases h
 | (b,u) :: r,h=>by
  have h':List.lookup a ((b,u) :: r) = some o:=h;rw [zSS] at h';cases q:a == b with
  | true=>rw [q] at h'; cases h'; rw [beq_iff_eq.mp q]; exact zQb
  | false=>rw [q] at h'; exact zQa _ (zGm h')
theorem zJD {K:PySem.W.Frag} (h:zF7 K = true) {o:Obj} (e:K.lookup a = some o) (hc:o.cls = .type "list"):False:=by
 unfold zF7 at h;rw [zQy] at h;have:=h (a,o) (zGm e);simp [hc] at this
theorem zEz:∀ (ns:List Int),zH L H (ns.map D.int) (ns.map V.int)
 | []=> .nil
 | n :: r=> .cons (by unfold Rep; rfl) (zEz r)
theorem zJU {K:PySem.W.Frag} {m:FF} {H:Hp} {a:Addr} {ns:List Int} {E:XK} (hL:zF7 K = true) (hO:zMP H) (hS:SqL K H a (ns.map V.int)) (h:∃ M',m [.ref 0] [.fro (ns.map D.int)] = some (.bl true,M')) :
  spF K 1 m [.ref a] H (fun v _=>v = .bl true) E:=by
 obtain ⟨M',e⟩:=h;have hf:∃ o,H a = some (.frz o (.lst (ns.map V.int))):=by
  rcases hS with (h1 | h1) | ⟨o,its,n,h1,h2,_⟩
  ·rcases hO a with z | ⟨o,xs,z⟩
   ·rw [h1] at z; cases z
   ·rw [h1] at z; cases z
  ·exact h1
  ·exact (zJD hL h1 h2).elim
 obtain ⟨o,hf⟩:=hf;refine ⟨[a],[.ref 0],[.fro (ns.map D.int)],_,_,⟨rfl,by simp,fun n b m e1 e2=>?_⟩,.cons ?_ .nil,rfl,e,fun L' H' v s c r=>?_⟩
 ·cases n with
  | zero=>simp at e1 e2; subst e1; subst e2; exact ⟨o,_,hf,zEz ns⟩
  | succ n=>simp at e1
 ·unfold Rep; exact ⟨a,rfl,rfl⟩
 ·unfold Rep at r; exact r
def Ok {α:Type} (x:Option (α × Mem)) (P:α -> Mem -> Prop):Prop:=∃ a M,x = some (a,M) /\ P a M
def OkS (x:Option (Out × Sd × Mem)) (P:Out -> Sd -> Mem -> Prop):Prop:=∃ o σ M,x = some (o,σ,M) /\ P o σ M
theorem Ok.mono {α:Type} {x:Option (α × Mem)} {P Q:α -> Mem -> Prop} (h:Ok x P) (hq:∀ a M,P a M -> Q a M):Ok x Q:=let ⟨a,M,e,p⟩:=h; ⟨a,M,e,hq a M p⟩
theorem OkS.mono {x:Option (Out × Sd × Mem)} {P Q:Out -> Sd -> Mem -> Prop} (h:OkS x P) (hq:∀ o σ M,P o σ M -> Q o σ M):OkS x Q:=let ⟨a,σ,M,e,p⟩:=h; ⟨a,σ,M,e,hq a σ M p⟩
theorem zh {α:Type} {a:α} {M:Mem} {P:α -> Mem -> Prop}:Ok (some (a,M)) P ↔ P a M:=⟨fun ⟨_,_,e,p⟩=>by cases e; exact p,fun p=>⟨a,M,rfl,p⟩⟩
theorem zDr {α:Type} {P:α -> Mem -> Prop}:Ok (none:Option (α × Mem)) P ↔ False:=⟨(fun ⟨_,_,e,_⟩=>(nomatch e)),fun h=>h.elim⟩
theorem zKg {o:Out} {σ:Sd} {M:Mem} {P:Out -> Sd -> Mem -> Prop}:OkS (some (o,σ,M)) P ↔ P o σ M:=⟨fun ⟨_,_,_,e,p⟩=>by cases e; exact p,fun p=>⟨o,σ,M,rfl,p⟩⟩
section
theorem zq {i:Nat}:Ok (zC i σ M) P ↔ ∃ d,σ[i]? = some (some d) /\ P (.dat d) M:=by
 unfold zC;constructor
 ·rintro ⟨a,M1,e,p⟩;split at e
  ·rename_i d e1; cases e; exact ⟨d,e1,p⟩
  ·cases e
 ·rintro ⟨d,e1,p⟩;rw [e1]; exact ⟨_,_,rfl,p⟩
theorem zDg {d:D}:Ok (fC d σ M) P ↔ P (.dat d) M:=zh
theorem zAj {k:K2}:Ok (fOp k f g σ M) P ↔ Ok (f σ M) fun x M1=>Ok (g σ M1) fun y M2=>Ok (k x y M2) P:=by
 unfold fOp;constructor
 ·rintro ⟨a,M1,e,p⟩;split at e
  ·rename_i x M2 e1;split at e
   ·rename_i y M3 e2;exact ⟨x,M2,e1,y,M3,e2,a,M1,e,p⟩
   ·cases e
  ·cases e
 ·rintro ⟨x,M2,e1,y,M3,e2,a,M1,e,p⟩;rw [e1]; dsimp only; rw [e2]; exact ⟨a,M1,e,p⟩
def zD7 (P:D -> Mem -> Prop):EV -> Mem -> Prop
 | .dat d,M=>P d M
 | .fl xs,M=>P (.ref M.length) (M ++ [.lst xs])
theorem zAd {P:D -> Mem -> Prop}:Ok (toD f σ M) P ↔ Ok (f σ M) (zD7 P):=by
 unfold toD;constructor
 ·rintro ⟨a,M1,e,p⟩;split at e
  ·rename_i d M2 e1; cases e; exact ⟨_,_,e1,p⟩
  ·rename_i xs M2 e1; cases e; exact ⟨_,_,e1,p⟩
  ·cases e
 ·rintro ⟨x,M2,e1,p⟩;rw [e1];cases x with
  | dat d=>exact ⟨d,M2,rfl,p⟩
  | fl xs=>exact ⟨_,_,rfl,p⟩
theorem zI {P:D -> Mem -> Prop} {d:D} {M:Mem}:zD7 P (.dat d) M ↔ P d M:=Iff.rfl
theorem zLp {P:D -> Mem -> Prop} {xs:List D} {M:Mem}:zD7 P (.fl xs) M ↔ P (.ref M.length) (M ++ [.lst xs]):=Iff.rfl
section
theorem zAt:Ok (zJ σ M) P ↔ P [] M:=zh
theorem zAr {f:FD} {g:FA}:Ok (zD f g σ M) P ↔ Ok (f σ M) fun d M1=>Ok (g σ M1) fun ds M2=>P (d :: ds) M2:=by
 unfold zD;constructor
 ·rintro ⟨a,M1,e,p⟩;split at e
  ·rename_i x M2 e1;split at e
   ·rename_i y M3 e2;cases e;exact ⟨x,M2,e1,y,_,e2,p⟩
   ·cases e
  ·cases e
 ·rintro ⟨x,M2,e1,y,M3,e2,p⟩;rw [e1]; dsimp only; rw [e2]; exact ⟨_,_,rfl,p⟩
end
section
theorem zFb:Ok (zc σ M) P ↔ P [] M:=zh
theorem zEe {f:FE} {g:FAE}:Ok (zN f g σ M) P ↔ Ok (f σ M) fun d M1=>Ok (g σ M1) fun ds M2=>P (d :: ds) M2:=by
 unfold zN;constructor
 ·rintro ⟨a,M1,e,p⟩;split at e
  ·rename_i x M2 e1;split at e
   ·rename_i y M3 e2;cases e;exact ⟨x,M2,e1,y,_,e2,p⟩
   ·cases e
  ·cases e
 ·rintro ⟨x,M2,e1,y,M3,e2,p⟩;rw [e1]; dsimp only; rw [e2]; exact ⟨_,_,rfl,p⟩
end
theorem zCQ {a:FA}:Ok (zBa a σ M) P ↔ Ok (a σ M) fun ds M1=>ds.length <= sizeLine /\ P (.fl ds) M1:=by
 unfold zBa;constructor
 ·rintro ⟨x,M1,e,p⟩;split at e
  ·rename_i ds M2 e1;split at e
   ·rename_i hz; cases e; exact ⟨ds,_,e1,hz,p⟩
   ·cases e
  ·cases e
 ·rintro ⟨ds,M1,e1,hz,p⟩;rw [e1]; dsimp only; rw [zQc hz]; exact ⟨_,_,rfl,p⟩
theorem zN7 {k:KB} {a:FAE}:Ok (fB k a σ M) P ↔ Ok (a σ M) fun xs M1=>Ok (k xs M1) P:=by
 unfold fB;constructor
 ·rintro ⟨x,M1,e,p⟩;split at e
  ·rename_i ds M2 e1; exact ⟨ds,_,e1,x,M1,e,p⟩
  ·cases e
 ·rintro ⟨ds,M1,e1,p⟩;rw [e1]; exact p
theorem zBF {m:FF} {a:FA}:Ok (zW m a σ M) P ↔ Ok (a σ M) fun ds M1=>Ok (m ds M1) fun d M2=>P (.dat d) M2:=by
 unfold zW;constructor
 ·rintro ⟨x,M1,e,p⟩;split at e
  ·rename_i ds M2 e1;split at e
   ·rename_i d M3 e2; cases e; exact ⟨ds,_,e1,d,_,e2,p⟩
   ·cases e
  ·cases e
 ·rintro ⟨ds,M1,e1,d,M2,e2,p⟩;rw [e1]; dsimp only; rw [e2]; exact ⟨_,_,rfl,p⟩
theorem zGo {k:KM} {a:FA}:Ok (fM k f a σ M) P ↔ Ok (f σ M) fun x M1=>(∃ xs,zAZ M1 x = some xs) /\ Ok (a σ M1) fun ds M2=>Ok (k x ds M2) fun d M3=>P (.dat d) M3:=by
 unfold fM;constructor
 ·rintro ⟨x,M1,e,p⟩;split at e
  ·rename_i y M2 e1;split at e
   ·rename_i xs e2;split at e
    ·rename_i ds M3 e3;split at e
     ·rename_i d M4 e4; cases e; exact ⟨y,_,e1,⟨xs,e2⟩,ds,_,e3,d,_,e4,p⟩
     ·cases e
    ·cases e
   ·cases e
  ·cases e
 ·rintro ⟨y,M1,e1,⟨xs,e2⟩,ds,M2,e3,d,M3,e4,p⟩;rw [e1]; dsimp only; rw [e2]; dsimp only; rw [e3]; dsimp only; rw [e4]; exact ⟨_,_,rfl,p⟩
section
theorem zLE:Ok (zAg σ M) P ↔ P none M:=zh
def zO0 (P:Option Int -> Mem -> Prop):EV -> Mem -> Prop
 | .dat (.int i),M=>P (some i) M
 | _,_=>False
theorem zKQ {i:Int} {M:Mem}:zO0 P (.dat (.int i)) M ↔ P (some i) M:=Iff.rfl
theorem zJ1:Ok (zr f σ M) P ↔ Ok (f σ M) (zO0 P):=by
 unfold zr;constructor
 ·rintro ⟨x,M1,e,p⟩;split at e
  ·rename_i i M2 e1; cases e; exact ⟨_,_,e1,p⟩
  ·cases e
 ·rintro ⟨x,M1,e1,p⟩;rw [e1];cases x with
  | fl xs=>exact p.elim
  | dat d=>
   cases d with
   | int i=>exact ⟨_,_,rfl,p⟩
   | _=>exact p.elim
end
theorem zO4 {l h:FO}:Ok (fSl f l h σ M) P ↔ Ok (f σ M) fun x M1=>Ok (l σ M1) fun lo M2=>Ok (h σ M2) fun hi M3=>Ok (kSl x lo hi M3) P:=by
 unfold fSl;constructor
 ·rintro ⟨x,M1,e,p⟩;split at e
  ·rename_i y M2 e1;split at e
   ·rename_i lo M3 e2;split at e
    ·rename_i hi M4 e3; exact ⟨y,_,e1,lo,_,e2,hi,_,e3,x,M1,e,p⟩
    ·cases e
   ·cases e
  ·cases e
 ·rintro ⟨y,M1,e1,lo,M2,e2,hi,M3,e3,p⟩;rw [e1]; dsimp only; rw [e2]; dsimp only; rw [e3]; exact p
def blP (P:Bool -> Mem -> Prop):EV -> Mem -> Prop
 | .dat (.bl k),M=>P k M
 | _,_=>False
theorem zEK {P:Bool -> Mem -> Prop} {k:Bool} {M:Mem}:blP P (.dat (.bl k)) M ↔ P k M:=Iff.rfl
theorem zEA {P:Bool -> Mem -> Prop}:Ok (tst f σ M) P ↔ Ok (f σ M) (blP P):=by
 unfold tst;constructor
 ·rintro ⟨x,M1,e,p⟩;split at e
  ·rename_i i M2 e1; cases e; exact ⟨_,_,e1,p⟩
  ·cases e
 ·rintro ⟨x,M1,e1,p⟩;rw [e1];cases x with
  | fl xs=>exact p.elim
  | dat d=>
   cases d with
   | bl i=>exact ⟨_,_,rfl,p⟩
   | _=>exact p.elim
section
theorem zD6:Ok (zt σ M) P ↔ P true M:=zh
theorem zJu:Ok (zJk s t σ M) P ↔ Ok (s σ M) fun k M1=>if k then P true M1 else Ok (t σ M1) P:=by
 unfold zJk;constructor
 ·rintro ⟨x,M1,e,p⟩;split at e
  ·rename_i M2 e1; exact ⟨false,M2,e1,by simpa using ⟨x,M1,e,p⟩⟩
  ·rename_i hn;cases x with
   | false=>exact absurd e (hn M1)
   | true=>exact ⟨true,M1,e,by simpa using p⟩
 ·rintro ⟨x,M1,e1,p⟩;rw [e1];cases x with
  | false=>simpa using p
  | true=>exact ⟨true,M1,rfl,by simpa using p⟩
theorem zGB:Ok (zCj s σ M) P ↔ Ok (s σ M) fun k M1=>P (!k) M1:=by
 unfold zCj;constructor
 ·rintro ⟨x,M1,e,p⟩;split at e
  ·rename_i k M2 e1; cases e; exact ⟨k,_,e1,p⟩
  ·cases e
 ·rintro ⟨k,M1,e1,p⟩;rw [e1]; exact ⟨_,_,rfl,p⟩
end
theorem zNW {t:FT}:Ok (vIf t f g σ M) P ↔ Ok (t σ M) fun k M1=>if k then Ok (f σ M1) P else Ok (g σ M1) P:=by
 unfold vIf;constructor
 ·rintro ⟨x,M1,e,p⟩;split at e
  ·rename_i M2 e1; exact ⟨_,_,e1,by dsimp only; rw [zQc rfl]; exact ⟨x,M1,e,p⟩⟩
  ·rename_i M2 e1; exact ⟨_,_,e1,by simpa using ⟨x,M1,e,p⟩⟩
  ·cases e
 ·rintro ⟨x,M1,e1,p⟩;rw [e1];cases x with
  | true=>simpa using p
  | false=>simpa using p
end
section
def nxP (k:Sd -> Mem -> Prop) (P:Out -> Sd -> Mem -> Prop):Out -> Sd -> Mem -> Prop
 | .nx,σ,M=>k σ M
 | o,σ,M=>P o σ M
theorem zL {k:Sd -> Mem -> Prop}:nxP k P .nx σ M ↔ k σ M:=Iff.rfl
theorem zF8 {k:Sd -> Mem -> Prop} {d:D}:nxP k P (.ret d) σ M ↔ P (.ret d) σ M:=Iff.rfl
theorem zAC:OkS (zAl σ M) P ↔ P .nx σ M:=zKg
theorem zG:OkS (zT f g σ M) P ↔ OkS (f σ M) (nxP (fun σ1 M1=>OkS (g σ1 M1) P) P):=by
 unfold zT;constructor
 ·rintro ⟨o,σ1,M1,e,p⟩;split at e
  ·rename_i σ2 M2 e1; exact ⟨_,_,_,e1,o,σ1,M1,e,p⟩
  ·rename_i hn;refine ⟨o,σ1,M1,e,?_⟩;cases o with
   | nx=>exact absurd e (hn σ1 M1)
   | _=>exact p
 ·rintro ⟨o,σ1,M1,e1,p⟩;rw [e1];cases o with
  | nx=>exact p
  | _=>exact ⟨_,_,_,rfl,p⟩
theorem zAT {c:FT}:OkS (sIf c f g σ M) P ↔ Ok (c σ M) fun k M1=>if k then OkS (f σ M1) P else OkS (g σ M1) P:=by
 unfold sIf;constructor
 ·rintro ⟨o,σ1,M1,e,p⟩;split at e
  ·rename_i M2 e1; exact ⟨_,_,e1,by dsimp only; rw [zQc rfl]; exact ⟨o,σ1,M1,e,p⟩⟩
  ·rename_i M2 e1; exact ⟨_,_,e1,by simpa using ⟨o,σ1,M1,e,p⟩⟩
  ·cases e
 ·rintro ⟨x,M1,e1,p⟩;rw [e1];cases x with
  | true=>simpa using p
  | false=>simpa using p
theorem zBW {h:FE}:OkS (zAi h σ M) P ↔ Ok (h σ M) (zD7 fun d M1=>P (.ret d) σ M1):=by
 rw [<- zAd];unfold zAi;constructor
 ·rintro ⟨o,σ1,M1,e,p⟩;split at e
  ·rename_i d M2 e1; cases e; exact ⟨_,_,e1,p⟩
  ·cases e
 ·rintro ⟨x,M1,e1,p⟩;rw [e1]; exact ⟨_,_,_,rfl,p⟩
theorem zR {i:Nat} {h:FE}:OkS (zp i h σ M) P ↔ Ok (h σ M) (zD7 fun d M1=>P .nx (σ.set i (some d)) M1):=by
 rw [<- zAd];unfold zp;constructor
 ·rintro ⟨o,σ1,M1,e,p⟩;split at e
  ·rename_i d M2 e1; cases e; exact ⟨_,_,e1,p⟩
  ·cases e
 ·rintro ⟨x,M1,e1,p⟩;rw [e1]; exact ⟨_,_,_,rfl,p⟩
theorem zBl {h:FE}:OkS (zBL h σ M) P ↔ Ok (h σ M) fun _ M1=>P .nx σ M1:=by
 unfold zBL;constructor
 ·rintro ⟨o,σ1,M1,e,p⟩;split at e
  ·rename_i d M2 e1; cases e; exact ⟨_,_,e1,p⟩
  ·cases e
 ·rintro ⟨x,M1,e1,p⟩;rw [e1]; exact ⟨_,_,_,rfl,p⟩
theorem zIX {v o i:FE}:OkS (zHQ v o i σ M) P ↔ Ok (v σ M) (zD7 fun d M1=>Ok (o σ M1) fun x M2=>Ok (i σ M2) (zD7 fun j M3=>∃ M4,zGM x j d M3 = some M4 /\ P .nx σ M4)):=by
 rw [<- zAd];unfold zHQ;constructor
 ·rintro ⟨o,σ1,M1,e,p⟩;split at e
  ·rename_i d M2 e1;split at e
   ·rename_i x M3 e2;split at e
    ·rename_i j M4 e3;split at e
     ·rename_i M5 e4;cases e;refine ⟨_,_,e1,_,_,e2,?_⟩;dsimp only; rw [<- zAd];exact ⟨_,_,e3,_,e4,p⟩
     ·cases e
    ·cases e
   ·cases e
  ·cases e
 ·rintro ⟨d,M1,e1,x,M2,e2,p⟩;rw [<- zAd] at p;obtain ⟨j,M3,e3,M4,e4,p⟩:=p;rw [e1]; dsimp only; rw [e2]; dsimp only; rw [e3]; dsimp only; rw [e4]; exact ⟨_,_,_,rfl,p⟩
theorem zAq {n:Nat} {ds:List D} {Q:D -> Mem -> Prop}:Ok (zCe n f ds M) Q ↔ OkS (f (ds.map some ++ List.replicate (n - ds.length) none) M) fun o _ M1=>match o with | .ret d=>Q d M1 | .nx=>Q .non M1 | _=>False:=by
 unfold zCe;constructor
 ·rintro ⟨o,M1,e,p⟩;split at e
  ·rename_i d σ1 M2 e1; cases e; exact ⟨_,_,_,e1,p⟩
  ·rename_i σ1 M2 e1; cases e; exact ⟨_,_,_,e1,p⟩
  ·cases e
 ·rintro ⟨o,σ1,M1,e1,p⟩;rw [e1];cases o with
  | ret d=>exact ⟨_,_,rfl,p⟩
  | nx=>exact ⟨_,_,rfl,p⟩
  | brk=>exact p.elim
  | cnt=>exact p.elim
theorem zDE {c:FT} {b:FS} (I:Nat -> Sd -> Mem -> Prop) (hs:∀ m σ M,I m σ M -> Ok (c σ M) fun k M1=>if k then OkS (b σ M1) fun o σ2 M2=>match o with | .nx=>∃ m',m' < m /\ I m' σ2 M2 | .cnt=>∃ m',m' < m /\ I m' σ2 M2 | .brk=>P .nx σ2 M2 | .ret d=>P (.ret d) σ2 M2 else P .nx σ M1) :
  ∀ (n m:Nat) (σ:Sd) (M:Mem),m < n -> I m σ M -> OkS (zA7 c b n σ M) P
 | 0,m,σ,M,h,_=>absurd h (Nat.not_lt_zero _)
 | n + 1,m,σ,M,h,hi=>by
  obtain ⟨k,M1,e,q⟩:=hs m σ M hi;unfold zA7;rw [e];cases k with
  | false=>exact ⟨_,_,_,rfl,by simpa using q⟩
  | true=>
   rw [zQc rfl] at q;obtain ⟨o,σ2,M2,e2,q⟩:=q;dsimp only;rw [e2];cases o with
   | nx=>obtain ⟨m',hm,q⟩:=q; exact zDE I hs n m' σ2 M2 (by omega) q
   | cnt=>obtain ⟨m',hm,q⟩:=q; exact zDE I hs n m' σ2 M2 (by omega) q
   | brk=>exact ⟨_,_,_,rfl,q⟩
   | ret d=>exact ⟨_,_,_,rfl,q⟩
theorem zAS {g:FG} {b:FS} {all:List D} {gd:Option (Mem -> Prop)} (I:List D -> Sd -> Mem -> Prop)
  (hs:∀ x r σ M,I (x :: r) σ M -> zCR gd all M /\ ∃ σ1,g x σ = some σ1 /\ OkS (b σ1 M) fun o σ2 M2=>match o with | .nx=>I r σ2 M2 | .cnt=>I r σ2 M2 | .brk=>P .nx σ2 M2 | .ret d=>P (.ret d) σ2 M2)
  (he:∀ σ M,I [] σ M -> zCR gd all M /\ P .nx σ M):∀ (xs:List D) (σ:Sd) (M:Mem),I xs σ M -> OkS (zCF g b all gd xs σ M) P
 | [],σ,M,hi=>by
  unfold zCF;obtain ⟨h1,h2⟩:=he σ M hi;rw [zQc h1];exact ⟨_,_,_,rfl,h2⟩
 | x :: r,σ,M,hi=>by
  unfold zCF;obtain ⟨h1,σ1,e1,o,σ2,M2,e2,q⟩:=hs x r σ M hi;rw [zQc h1,e1];dsimp only;rw [e2];cases o with
  | nx=>exact zAS I hs he r σ2 M2 q
  | cnt=>exact zAS I hs he r σ2 M2 q
  | brk=>exact ⟨_,_,_,rfl,q⟩
  | ret d=>exact ⟨_,_,_,rfl,q⟩
theorem zA2 {i:FI} {g:FG} {b:FS}:OkS (zBs i g b σ M) P ↔ ∃ xs gd M1,i σ M = some (xs,gd,M1) /\ OkS (zCF g b xs gd xs σ M1) P:=by
 unfold zBs;constructor
 ·rintro ⟨o,σ1,M1,e,p⟩;split at e
  ·rename_i xs gd M2 e1; exact ⟨_,_,_,e1,_,_,_,e,p⟩
  ·cases e
 ·rintro ⟨xs,gd,M1,e1,p⟩;rw [e1]; exact p
theorem zBH {g:FG} {tc:FT} {te:FE} {all:List D} {gd:Option (Mem -> Prop)} (I:List D -> List D -> Mem -> Prop)
  (hs:∀ x r acc M,I (x :: r) acc M -> zCR gd all M /\ ∃ σ1,g x σ = some σ1 /\ Ok (tc σ1 M) fun k M1=>if k then Ok (te σ1 M1) (zD7 fun d M2=>I r (acc ++ [d]) M2) else I r acc M1)
  {Q:List D -> Mem -> Prop} (he:∀ acc M,I [] acc M -> zCR gd all M /\ Q acc M):∀ (xs acc:List D) (M:Mem),I xs acc M -> Ok (zCO g tc te σ all gd xs M) fun ys M1=>Q (acc ++ ys) M1
 | [],acc,M,hi=>by
  unfold zCO;obtain ⟨h1,h2⟩:=he acc M hi;rw [zQc h1];exact ⟨_,_,rfl,by simpa using h2⟩
 | x :: r,acc,M,hi=>by
  unfold zCO;obtain ⟨h1,σ1,e1,k,M1,e2,q⟩:=hs x r acc M hi;rw [zQc h1,e1];dsimp only;rw [e2];cases k with
  | false=>exact zBH I hs he r acc M1 (by simpa using q)
  | true=>
   rw [zQc rfl,<- zAd] at q;obtain ⟨d,M2,e3,q⟩:=q;dsimp only;rw [e3];obtain ⟨ys,M3,e4,p⟩:=zBH I hs he r (acc ++ [d]) M2 q;dsimp only;rw [e4];exact ⟨_,_,rfl,by simpa using p⟩
theorem zCb {own:List Nat} {i:FI} {g:FG} {tc:FT} {te:FE} {Q:EV -> Mem -> Prop}:Ok (zk own i g tc te σ M) Q ↔ ∃ xs gd M1,i σ M = some (xs,gd,M1) /\ xs.length <= sizeLine /\ Ok (zCO g tc te (zGC own σ) xs gd xs M1) fun ys M2=>Q (.fl ys) M2:=by
 unfold zk;constructor
 ·rintro ⟨o,M1,e,p⟩;split at e
  ·rename_i xs gd M2 e1;split at e
   ·rename_i hz;split at e
    ·rename_i ys M3 e2; cases e; exact ⟨_,_,_,e1,hz,_,_,e2,p⟩
    ·cases e
   ·cases e
  ·cases e
 ·rintro ⟨xs,gd,M1,e1,hz,ys,M2,e2,p⟩;rw [e1]; dsimp only; rw [zQc hz,e2]; exact ⟨_,_,rfl,p⟩
theorem zAs {h:FE} {x:EV} {M1:Mem} {xs:List D} (e:h σ M = some (x,M1)) (e2:zg M1 x = some xs):zAY h σ M = some (xs,zHy x xs,M1):=by
 unfold zAY; rw [e]; dsimp only; rw [e2]
theorem zEI {a:FA} {M1:Mem} {j:Int} (e:a σ M = some ([.int j],M1)) (h1:0 <= j) (h2:j < 2 ^ 62):zAL a σ M = some ((List.range j.toNat).map fun (k:Nat)=>D.int k,none,M1):=by
 unfold zAL; rw [e]; dsimp only; rw [zQc ⟨by omega,h2⟩]
end
section
theorem zEb:Ok (zAb (.dat (.int i)) (.dat (.int j)) M) P ↔ P (.dat (.int (i + j))) M:=zh
theorem zKm:Ok (zEg (.dat (.int i)) (.dat (.int j)) M) P ↔ zJQ i j = true /\ P (.dat (.int (i * j))) M:=by
 unfold zEg kI; dsimp only; split
 ·rename_i h; rw [zh]; simp [h]
 ·rename_i h; rw [zDr]; simp [h]
theorem zM0:Ok (zB8 (.dat (.int i)) (.dat (.int j)) M) P ↔ 0 < j /\ P (.dat (.int (i % j))) M:=by
 unfold zB8 kI; dsimp only; split
 ·rename_i h; rw [zh]; simp at h; simp [h]
 ·rename_i h; rw [zDr]; simp at h; simp; intro h'; omega
theorem zMu:Ok (zHa (.dat (.int i)) (.dat (.int j)) M) P ↔ (0 < j /\ j < 1073741824) /\ P (.dat (.int (i / j))) M:=by
 unfold zHa kI; dsimp only; split
 ·rename_i h; rw [zh]; simp at h; simp [h]
 ·rename_i h; rw [zDr]; simp at h; simp; intro h' h2; have:=h h'; omega
theorem zPF:Ok (zJW (.dat (.int i)) (.dat (.int j)) M) P ↔ (0 <= j /\ j <= 1000000 /\ i.natAbs < 2 ^ 64) /\ P (.dat (.int (i ^ j.toNat))) M:=by
 unfold zJW kI; dsimp only; split
 ·rename_i h; rw [zh]; simp only [zQx,zRa] at h; simp [h]
 ·rename_i h; rw [zDr]; simp only [zQx,zRa,not_and] at h; simp only [false_iff,not_and]; intro ⟨a,b,c⟩; exact absurd c (h ⟨a,b⟩)
theorem zNc:Ok (kLt (.dat (.int i)) (.dat (.int j)) M) P ↔ P (.dat (.bl (decide (i < j)))) M:=zh
theorem zPx:Ok (kLe (.dat (.int i)) (.dat (.int j)) M) P ↔ P (.dat (.bl (decide (i <= j)))) M:=zh
theorem zP7:Ok (kGe (.dat (.int i)) (.dat (.int j)) M) P ↔ P (.dat (.bl (decide (j <= i)))) M:=zh
theorem zHP:Ok (kEq (.dat (.int i)) (.dat (.int j)) M) P ↔ P (.dat (.bl (decide (i = j)))) M:=by
 have:kEq (.dat (.int i)) (.dat (.int j)) M = some (.dat (.bl (decide (V.int i = V.int j))),M):=rfl;rw [this,zh]; simp
theorem zOn:Ok (kNe (.dat (.int i)) (.dat (.int j)) M) P ↔ P (.dat (.bl (decide (i ≠ j)))) M:=by
 have:kNe (.dat (.int i)) (.dat (.int j)) M = some (.dat (.bl (!decide (V.int i = V.int j))),M):=rfl;rw [this,zh]; simp
theorem zMc {x:EV} {xs:List D} (h:zAZ M x = some xs) (hx:∀ d,x = .dat d -> zDd d = none):Ok (kNe x (.fl []) M) P ↔ P (.dat (.bl (!xs.isEmpty))) M:=by
 have e1:zHf true x (.fl []) M = none:=by cases x <;> rfl
 have e2:kNe x (.fl []) M = some (.dat (.bl (!xs.isEmpty)),M):=by
  unfold kNe kOr; rw [e1]; unfold zKH; rw [h]; rfl
 rw [e2,zh]
theorem zOG {x:EV} {xs:List D} {d:D} (h:zg M x = some xs) (hd:atI xs i = some d) (p:P (.dat d) M):Ok (kIx x (.dat (.int i)) M) P:=by
 have:kIx x (.dat (.int i)) M = some (.dat d,M):=by unfold kIx; dsimp only; rw [h]; dsimp only; rw [hd]
 rw [this,zh]; exact p
theorem zH3 {xs:List D} {k:Nat} {d:D} (h:xs[k]? = some d):atI xs (k:Int) = some d:=zIO h
theorem zHG {xs:List D} {i:Int} {d:D} (h0:0 <= i) (h:xs[i.toNat]? = some d):atI xs i = some d:=by
 have:i = ((i.toNat:Nat):Int):=by omega
 rw [this]; exact zIO h
theorem zPd {x:EV} {xs:List D} (h:zg M x = some xs):Ok (zAO [x] M) P ↔ P (.dat (.int xs.length)) M:=by
 have:zAO [x] M = some (.dat (.int xs.length),M):=by unfold zAO; dsimp only; rw [h]
 rw [this,zh]
theorem zMF {x:EV} {xs:List D} (h:zg M x = some xs):Ok (zx [x] M) P ↔ P (.dat (.tup xs)) M:=by
 have:zx [x] M = some (.dat (.tup xs),M):=by unfold zx; dsimp only; rw [h]
 rw [this,zh]
theorem zN1 {x:EV} {xs:List D} {lo hi:Option Int} (h:zAZ M x = some xs) (ht:zBD x = none):Ok (kSl x lo hi M) P ↔ P (.fl (zBw xs lo hi)) M:=by
 have:kSl x lo hi M = some (.fl (zBw xs lo hi),M):=by unfold kSl; rw [ht]; dsimp only; rw [h]
 rw [this,zh]
theorem zAR {xs:List D}:zg M (.dat (.tup xs)) = some xs:=rfl
theorem zBc {xs:List D}:zg M (.fl xs) = some xs:=rfl
theorem zKG {xs:List D}:zAZ M (.fl xs) = some xs:=rfl
theorem zAD {n:Nat} {xs:List D} (h:M[n]? = some (.lst xs)):zAZ M (.dat (.ref n)) = some xs:=by unfold zAZ; dsimp only; rw [h]
theorem zIK {n:Nat} {xs:List D} (h:M[n]? = some (.fro xs)):zAZ M (.dat (.ref n)) = some xs:=by unfold zAZ; dsimp only; rw [h]
theorem za {n:Nat} {xs:List D} (h:M[n]? = some (.lst xs)):zg M (.dat (.ref n)) = some xs:=zAD h
theorem zLl {n:Nat} {xs:List D} (h:M[n]? = some (.fro xs)):zg M (.dat (.ref n)) = some xs:=zIK h
theorem zCN {n:Nat} {xs:List D} {d:D} {Q:D -> Mem -> Prop} (h:M[n]? = some (.lst xs)) (hz:xs.length < sizeLine):Ok (zAB (.dat (.ref n)) [d] M) Q ↔ Q .non (M.set n (.lst (xs ++ [d]))):=by
 have:zAB (.dat (.ref n)) [d] M = some (.non,M.set n (.lst (xs ++ [d]))):=by unfold zAB; dsimp only; rw [h]; dsimp only; rw [zQc hz]
 rw [this,zh]
theorem zNR {n:Nat} {x:D} {xs:List D} {Q:D -> Mem -> Prop} (h:M[n]? = some (.lst (x :: xs))):Ok (zEu (.dat (.ref n)) [.int 0] M) Q ↔ Q x (M.set n (.lst xs)):=by
 have:zEu (.dat (.ref n)) [.int 0] M = some (x,M.set n (.lst xs)):=by
  unfold zEu; dsimp only; rw [h]; dsimp only;have e:ixN (x :: xs).length 0 = some 0:=by unfold ixN; rw [zQc (by omega),zQc (by simp)]; rfl
  rw [e]; dsimp only [List.getElem?_cons_zero]; rw [zQc (by decide)]; rfl
 rw [this,zh]
theorem zGw {n k:Nat} {xs:List D} {d:D} (h:M[n]? = some (.lst xs)) (hk:k < xs.length):zGM (.dat (.ref n)) (.int k) d M = some (M.set n (.lst (xs.set k d))):=by
 unfold zGM; dsimp only; rw [h]; dsimp only;have e:ixN xs.length (k:Int) = some k:=by unfold ixN; rw [zQc (by omega),zQc (by omega)]; simp
 rw [e]
end
theorem zGA {m:FF} {ds:List D} {M:Mem} {Q:D -> Mem -> Prop} (h:Ok (m ds M) fun d M1=>(D.und M.length d = true /\ M.length <= M1.length /\ ∀ (j:Nat) u,j < M.length -> M1[j]? = some u -> MO.und M.length u = true) /\ Q d (M1.take M.length)):Ok (zEC m ds M) Q:=by
 obtain ⟨d,M1,e,⟨h1,h2,h3⟩,q⟩:=h;unfold zEC;rw [e];dsimp only;rw [zQc]
 ·exact ⟨_,_,rfl,q⟩
 ·simp only [zQx,zRa,zQy];refine ⟨⟨h1,fun u hu=>?_⟩,h2⟩;obtain ⟨j,hj⟩:=List.getElem?_of_mem hu;have hlt:j < M.length:=by
   have:=(zQQ.mp hj).1;rw [zRl] at this; omega
  rw [List.getElem?_take_of_lt hlt] at hj;exact h3 j u hlt hj
theorem zIR {m:FF} {ds:List D} {M:Mem} {Q:D -> Mem -> Prop} (h0:D.unds 0 ds = true) (h:Ok (m ds []) fun d _=>D.und 0 d = true /\ Q d M):Ok (zFL m ds M) Q:=by
 obtain ⟨d,M1,e,h1,q⟩:=h;unfold zFL;rw [zQc h0,e];dsimp only;rw [zQc h1];exact ⟨_,_,rfl,q⟩
section
theorem TIt.but (x:h.IsTupleIter a t i) (hs:Heap.ExtBut b h h') (n:a ≠ b):h'.IsTupleIter a t i:=x.extBut hs n
theorem Tup.but (x:h.IsTuple a its) (hs:Heap.ExtBut b h h') (n:a ≠ b):h'.IsTuple a its:=x.extBut hs n
theorem zBO (I:s.heap.IsTupleIter it t i) (T:s.heap.IsTuple t its) (hx:its[i]? = some x)
  (q:∀ h',h'.IsTupleIter it t (i + 1) -> Heap.SameBut it s.heap h' -> Q x { s with heap:=h' }):wpAny (model prog w) A (Builtin.SmallTypes.nextOf (.ref it)) Q E s:=by
 obtain ⟨o,O,C,FD⟩:=id I;obtain ⟨u,U,_,m,G⟩:=T;unfold Builtin.SmallTypes.nextOf;refine zQN (zQz (name:=Str.ofString "__next__") I.typeIs PySem.F.slot_tuple_iterator_next (zQ0 PySem.F.slot_tuple_iterator_next I.typeIs PySem.F.entry_tuple_iterator_next ?_ (PySem.F.args_tuple_iterator_next_1 _)));refine zQN (m:=field (.ref it) 0) (zQ2 O FD (x:=.ref t) rfl ?_);rw [zQf (show ¬ ((Value.ref t == Value.none) = true) by exact zQj)];refine zQN (m:=field (.ref it) 1) (zQ2 O FD (x:=.int i 0) rfl ?_);refine zQN (m:=seqItems? (.ref t)) (zRD U G ?_);simp only [hx,zS7];refine zQN (wpAny_setField O FD (by simp) (zQP ⟨x,rfl,zQP (q _ ⟨_,Heap.get?_update_self _ O (Obj.isFreed_of_fields (Obj.data_mapFields FD _)),(Obj.cls_mapFields ..).trans C,?_⟩ (Heap.SameBut.update ..))⟩));rw [Obj.data_mapFields FD];simp [rawInt]
theorem zBg (hh:A.handled = none) (I:s.heap.IsTupleIter it t i) (T:s.heap.IsTuple t its) (hx:its[i]? = none)
  (q:∀ h' e,Heap.ExtBut it s.heap h' -> (∃ o,h'.get? e = some o /\ o.cls = .type "StopIteration") -> E (.ref e) { s with heap:=h' }):wpAny (model prog w) A (Builtin.SmallTypes.nextOf (.ref it)) Q E s:=by
 obtain ⟨o,O,C,FD⟩:=id I;obtain ⟨u,U,_,m,G⟩:=T;unfold Builtin.SmallTypes.nextOf;refine zQN (zQz (name:=Str.ofString "__next__") I.typeIs PySem.F.slot_tuple_iterator_next (zQ0 PySem.F.slot_tuple_iterator_next I.typeIs PySem.F.entry_tuple_iterator_next ?_ (PySem.F.args_tuple_iterator_next_1 _)));refine zQN (m:=field (.ref it) 0) (zQ2 O FD (x:=.ref t) rfl ?_);rw [zQf (show ¬ ((Value.ref t == Value.none) = true) by exact zQj)];refine zQN (m:=field (.ref it) 1) (zQ2 O FD (x:=.int i 0) rfl ?_);refine zQN (m:=seqItems? (.ref t)) (zRD U G ?_);simp only [hx,zS7];refine zQN (wpAny_rule (zQN (wpAny_setField O FD (by simp) ?_)));refine zQN (m:=newExc (.type "StopIteration") []) ?_;simp only [newTuple,newExc];refine zQN (zQq (zQN (m:=firstArgMember _ _) (wpAny_of_eq (a:=Value.none) (by first | rfl | (simp only [firstArgMember]; rfl)) (zQq ?_ (by size_fits)))) (by size_fits));simp only [raiseNew];refine zQN (wpAny_handled ?_);first | rw [hh] | rw [show A.in1.handled = none from hh]
 exact zQN (zQP (wpAny_throw (q _ _ (((Heap.SameBut.update ..).extBut.push _).push _) ⟨_,zQX _ rfl,rfl⟩)))
structure ZipT (h:Heap) (z TI TO i1 i2 t1 t2:Addr) (f:Value) (k1 k2:Nat):Prop where
 z:IsZip h z TI TO f
 ti:IsPair h TI (.ref i1) (.ref i2)
 to:∃ a b,IsPair h TO a b
 a:h.IsTupleIter i1 t1 k1
 b:h.IsTupleIter i2 t2 k2
theorem zJP {z TI TO i1 i2 t1 t2:Addr} {k:Nat} {xs ys:Array Value} {x y:Value} {Q:Option Value -> Shared -> Prop} (D:ZipApart z TI TO i1 i2 t1 t2) (Z:ZipT s.heap z TI TO i1 i2 t1 t2 .none k k)
  (T1:s.heap.IsTuple t1 xs) (T2:s.heap.IsTuple t2 ys) (hx:xs[k]? = some x) (hy:ys[k]? = some y)
  (q:∀ h',ZipT h' z TI TO i1 i2 t1 t2 (rawInt s.heap.objs.size) (k + 1) (k + 1) -> IsPair h' s.heap.objs.size x y ->
   (∀ c o,c ∉ [z,TO,i1,i2] -> s.heap.get? c = some o -> h'.get? c = some o) -> Q (some (.ref s.heap.objs.size)) { s with heap:=h' }):wpAny (model prog w) A (pyNext (.ref z)) Q E s:=by
 obtain ⟨Z0,P0,⟨a,b,O0⟩,I1,I2⟩:=Z;have ty:s.TypeIs (.ref z) "zip" := ⟨_,Z0,rfl⟩;unfold pyNext;refine zQN (wpAny_attempt (zQz (name:=Str.ofString "__next__") ty zR1 (zQ0 zR1 ty PySem.F.entry_zip_next ?_ (PySem.F.args_zip_next_1 _))));refine zQN (m:=field (.ref z) 2) (zQ2 Z0 rfl (x:=.bool false) rfl ?_);refine zQN (m:=field (.ref z) 3) (zQ2 Z0 rfl (x:=.ref TI) rfl ?_);refine zQN (zRD P0 rfl ?_);refine zQN (m:=Builtin.SmallTypes.ownedTupleIsFree (.ref z)) ?_;unfold Builtin.SmallTypes.ownedTupleIsFree;refine zQN (zQ2 Z0 rfl (x:=.none) rfl (zQP ?_));simp only [if_true];refine zQN (wpAny_rule (zQN (zQ2 Z0 rfl (x:=.ref TO) rfl (zQN (zRd Z0 (by simp) fun h1 Z1 e1=>?_)))));replace Z1:IsZip h1 z TI TO .ellipsis:=Z1;refine zQN ?_;simp only [List.forIn_cons,List.forIn_nil,List.zipIdx_cons,List.zipIdx_nil];refine zQN (zQN (zSN (zQN (m:=Builtin.SmallTypes.nextOf (.ref i1)) (zBO (TIt.but I1 e1.extBut D.i1z) (Tup.but T1 e1.extBut D.l1z) hx fun h2 J1 e2=>zQP ?_))));have O2:IsPair h2 TO a b:=e2.extBut _ _ D.TOi1 (e1.extBut _ _ D.TOz O0);refine zQN (zRD O2 rfl (zQN (wpAny_updateSeq_pair O2 fun h3 O3 e3=>zQN (wpAny_letGo (zQP ?_)))));replace O3:IsPair h3 TO x b:=O3
 refine zQN (zQN (zSN (zQN (m:=Builtin.SmallTypes.nextOf (.ref i2)) (zBO (TIt.but (TIt.but (TIt.but I2 e1.extBut D.i2z) e2.extBut D.i12.symm) e3.extBut D.TOi2.symm)
  (Tup.but (Tup.but (Tup.but T2 e1.extBut D.l2z) e2.extBut D.l2i1) e3.extBut D.l2TO) hy fun h4 J2 e4=>zQP ?_))))
 have O4:IsPair h4 TO x b:=e4.extBut _ _ D.TOi2 O3;refine zQN (zRD O4 rfl (zQN (wpAny_updateSeq_pair O4 fun h5 O5 e5=>zQN (wpAny_letGo (zQP (zQP ?_))))));replace O5:IsPair h5 TO x y:=O5;refine zQN (zRD O5 rfl (zQN (wpAny_newTuple ?_)));have sz:h5.objs.size = s.heap.objs.size:=by rw [e5.1,e4.1,e3.1,e2.1,e1.1]
 have Z5:IsZip h5 z TI TO .ellipsis:=e5.extBut _ _ D.TOz.symm (e4.extBut _ _ D.i2z.symm (e3.extBut _ _ D.TOz.symm (e2.extBut _ _ D.i1z.symm Z1)));have kp:∀ c o,c ∉ [z,TO,i1,i2] -> s.heap.get? c = some o -> h5.get? c = some o:=fun c o n e=>by
  simp only [zQZ,zQs,zRi,not_or] at n;obtain ⟨n1,n2,n3,n4⟩:=n;exact e5.extBut _ _ n2 (e4.extBut _ _ n4 (e3.extBut _ _ n2 (e2.extBut _ _ n3 (e1.extBut _ _ n1 e))))
 have A5:h5.IsTupleIter i1 t1 (k + 1):=TIt.but (TIt.but (TIt.but J1 e3.extBut D.TOi1.symm) e4.extBut D.i12) e5.extBut D.TOi1.symm;have B5:h5.IsTupleIter i2 t2 (k + 1):=TIt.but J2 e5.extBut D.TOi2.symm;have zl:z < h5.objs.size:=zQY Z5;refine zQN (m:=Builtin.SmallTypes.ownedTupleHandOut (.ref z) (.ref h5.objs.size)) ?_;unfold Builtin.SmallTypes.ownedTupleHandOut;have Z6:IsZip (h5.push { cls:=.type "tuple", data:=.seq #[x,y] }) z TI TO .ellipsis:=zQO _ Z5;refine zQN (zRd Z6 (by simp) fun h7 Z7 e7=>?_);replace Z7:IsZip h7 z TI TO (rawInt h5.objs.size):=Z7;refine zRd Z7 (by simp) fun h8 Z8 e8=>?_;replace Z8:IsZip h8 z TI TO (rawInt h5.objs.size):=Z8;have up:∀ c o,c ≠ z -> h5.get? c = some o -> h8.get? c = some o:=fun c o n e=>e8.extBut _ _ n (e7.extBut _ _ n (zQO _ e));have N8:IsPair h8 h5.objs.size x y:=e8.extBut _ _ (zRs zl) (e7.extBut _ _ (zRs zl) (zQX _ rfl));rw [sz] at Z8 N8;refine zQP ⟨_,rfl,?_⟩;rw [sz];refine zQP (q h8 ⟨Z8,up _ _ D.TIz (kp _ _ (by simp [D.TIz,D.TITO,D.TIi1,D.TIi2]) P0),⟨_,_,up _ _ D.TOz O5⟩,?_,?_⟩ N8 fun c o n e=>up c o (fun m=>n (by simp [m])) (kp c o n e))
 ·obtain ⟨o,e,r⟩:=A5; exact ⟨o,up _ _ D.i1z e,r⟩
 ·obtain ⟨o,e,r⟩:=B5; exact ⟨o,up _ _ D.i2z e,r⟩
theorem zKS {z TI TO i1 i2 t1 t2:Addr} {k:Nat} {xs ys:Array Value} {Q:Option Value -> Shared -> Prop} (hh:A.handled = none) (D:ZipApart z TI TO i1 i2 t1 t2) (Z:ZipT s.heap z TI TO i1 i2 t1 t2 .none k k)
  (T1:s.heap.IsTuple t1 xs) (T2:s.heap.IsTuple t2 ys) (he:xs[k]? = none \/ ys[k]? = none)
  (q:∀ h',(∀ c o,c ∉ [z,TO,i1,i2] -> s.heap.get? c = some o -> h'.get? c = some o) -> Q none { s with heap:=h' }):wpAny (model prog w) A (pyNext (.ref z)) Q E s:=by
 obtain ⟨Z0,P0,⟨a,b,O0⟩,I1,I2⟩:=Z;have ty:s.TypeIs (.ref z) "zip" := ⟨_,Z0,rfl⟩
 have stop:∀ (e:Addr) (h':Heap),(∀ c o,c ∉ [z,TO,i1,i2] -> s.heap.get? c = some o -> h'.get? c = some o) -> (∃ o,h'.get? e = some o /\ o.cls = .type "StopIteration") ->
   wpAny (model prog w) A (do if (<- isInstance (.ref e) (.type "StopIteration")) then pure none else throw (.ref e):Sem (Option Value)) Q E { s with heap:=h' }:=fun e h' k1 ⟨o,e1,e2⟩=>
  zQN (wpAny_isInstance (T := "StopIteration") (b:=true) ⟨o,e1,e2⟩ isSubtype_stop (zQP (q h' k1)))
 unfold pyNext;refine zQN (wpAny_attempt (zQz (name:=Str.ofString "__next__") ty zR1 (zQ0 zR1 ty PySem.F.entry_zip_next ?_ (PySem.F.args_zip_next_1 _))));refine zQN (m:=field (.ref z) 2) (zQ2 Z0 rfl (x:=.bool false) rfl ?_);refine zQN (m:=field (.ref z) 3) (zQ2 Z0 rfl (x:=.ref TI) rfl ?_);refine zQN (zRD P0 rfl ?_);refine zQN (m:=Builtin.SmallTypes.ownedTupleIsFree (.ref z)) ?_;unfold Builtin.SmallTypes.ownedTupleIsFree;refine zQN (zQ2 Z0 rfl (x:=.none) rfl (zQP ?_));simp only [if_true];refine zQN (wpAny_rule (zQN (zQ2 Z0 rfl (x:=.ref TO) rfl (zQN (zRd Z0 (by simp) fun h1 Z1 e1=>?_)))));replace Z1:IsZip h1 z TI TO .ellipsis:=Z1;refine zQN ?_;simp only [List.forIn_cons,List.forIn_nil,List.zipIdx_cons,List.zipIdx_nil];cases hx:xs[k]? with
 | none=>
  refine zQN (zQN (zSN (zQN (m:=Builtin.SmallTypes.nextOf (.ref i1)) (zBg hh (TIt.but I1 e1.extBut D.i1z) (Tup.but T1 e1.extBut D.l1z) hx fun h2 e e2 he=>?_))));obtain ⟨oe,o1,o2⟩:=he;have Z2:IsZip h2 z TI TO .ellipsis:=e2 _ _ D.i1z.symm Z1;have ne:e ≠ z:=fun m=>by subst m; rw [Z2] at o1; cases o1; simp at o2
  refine zRd Z2 (by simp) fun h3 _ e3=>stop e h3 (fun c o n x=>?_) ⟨oe,e3.extBut _ _ ne o1,o2⟩;simp only [zQZ,zQs,zRi,not_or] at n;exact e3.extBut _ _ n.1 (e2 _ _ n.2.2.1 (e1.extBut _ _ n.1 x))
 | some x=>
  have hy:ys[k]? = none:=by
   rcases he with m | m
   ·rw [hx] at m; cases m
   ·exact m
  refine zQN (zQN (zSN (zQN (m:=Builtin.SmallTypes.nextOf (.ref i1)) (zBO (TIt.but I1 e1.extBut D.i1z) (Tup.but T1 e1.extBut D.l1z) hx fun h2 J1 e2=>zQP ?_))));have O2:IsPair h2 TO a b:=e2.extBut _ _ D.TOi1 (e1.extBut _ _ D.TOz O0);refine zQN (zRD O2 rfl (zQN (wpAny_updateSeq_pair O2 fun h3 O3 e3=>zQN (wpAny_letGo (zQP ?_)))))
  refine zQN (zQN (zSN (zQN (m:=Builtin.SmallTypes.nextOf (.ref i2)) (zBg hh (TIt.but (TIt.but (TIt.but I2 e1.extBut D.i2z) e2.extBut D.i12.symm) e3.extBut D.TOi2.symm)
   (Tup.but (Tup.but (Tup.but T2 e1.extBut D.l2z) e2.extBut D.l2i1) e3.extBut D.l2TO) hy fun h4 e e4 he=>?_))))
  obtain ⟨oe,o1,o2⟩:=he;have Z4:IsZip h4 z TI TO .ellipsis:=e4 _ _ D.i2z.symm (e3.extBut _ _ D.TOz.symm (e2.extBut _ _ D.i1z.symm Z1));have ne:e ≠ z:=fun m=>by subst m; rw [Z4] at o1; cases o1; simp at o2
  refine zRd Z4 (by simp) fun h5 _ e5=>stop e h5 (fun c o n x=>?_) ⟨oe,e5.extBut _ _ ne o1,o2⟩;simp only [zQZ,zQs,zRi,not_or] at n;exact e5.extBut _ _ n.1 (e4 _ _ n.2.2.2 (e3.extBut _ _ n.2.1 (e2.extBut _ _ n.2.2.1 (e1.extBut _ _ n.1 x))))
end
section
abbrev zT1 (h:Heap) (a:Addr):Heap:=h.push { cls:=.type "tuple_iterator", data:=.fields #[.ref a,.int 0 0] }
abbrev zT2 (h:Heap) (a b:Addr):Heap:=zT1 (zT1 h a) b
abbrev zT3 (h:Heap) (a b:Addr):Heap:=(zT2 h a b).push { cls:=.type "tuple", data:=.seq #[.ref h.objs.size,.ref (zT1 h a).objs.size] }
abbrev zT4 (h:Heap) (a b:Addr):Heap:=(zT3 h a b).push { cls:=.type "tuple", data:=.seq #[.none,.none] }
abbrev zT5 (h:Heap) (a b:Addr):Heap:=(zT4 h a b).push { cls:=.type "zip", data:=.fields #[.none,.bool false,.bool false,.ref (zT2 h a b).objs.size,.ref (zT3 h a b).objs.size] }
theorem zHn (a b:Addr) (xs ys:Array Value):Meets (Builtin.«zip.__new__» ⟨[.type "zip", .ref a,.ref b],[]⟩) (fun _ R s=>s.heap.IsTuple a xs /\ s.heap.IsTuple b ys /\ R (.ok (.ret (.ref (zT4 s.heap a b).objs.size))) { s with heap:=zT5 s.heap a b }) :=
 .of_wp fun prog w A R s h=>by
  obtain ⟨hp,g,d,tk,os⟩:=s;obtain ⟨Ta,Tb,h⟩:=h;have sz:=sub_zip;have U1:Heap.IsTuple (Shared.heap ⟨hp,g,d,tk,os⟩) a xs:=Ta;have U2:Heap.IsTuple (Shared.heap ⟨hp.push { cls:=.type "tuple_iterator", data:=.fields #[.ref a,.int 0 0] },g,d,tk,os⟩) b ys:=Heap.IsTuple.push Tb _;wp_walk using wpAny_pyIter_tuple U1,wpAny_pyIter_tuple U2;exact ⟨_,rfl,h⟩
theorem zLM (Ta:s.heap.IsTuple a xs) (Tb:s.heap.IsTuple b ys)
  (h:∀ h',ZipT h' (s.heap.objs.size + 4) (s.heap.objs.size + 2) (s.heap.objs.size + 3) s.heap.objs.size (s.heap.objs.size + 1) a b .none 0 0 -> (∀ c o,s.heap.get? c = some o -> h'.get? c = some o) -> Q (.ref (s.heap.objs.size + 4)) { s with heap:=h' }) :
  wpAny (model prog w) A (call (.type "zip") [.ref a,.ref b]) Q E s:=by
 refine callType_new PySem.F.called_zip (by decide) (PySem.F.typeCall_zip_2 _ _) (PySem.F.newCall_zip_2 _ _) (fun obj=>PySem.F.args_object_init_3 obj _ _) PySem.F.entry_zip_new (zHn a b xs ys) ⟨Ta,Tb,?_⟩;have q1:(zT1 s.heap a).objs.size = s.heap.objs.size + 1:=zQ3 ..;have q2:(zT2 s.heap a b).objs.size = s.heap.objs.size + 2:=by rw [zQ3,q1]
 have q3:(zT3 s.heap a b).objs.size = s.heap.objs.size + 3:=by rw [zQ3,q2]
 have q4:(zT4 s.heap a b).objs.size = s.heap.objs.size + 4:=by rw [zQ3,q3]
 have u:∀ {h:Heap} {c:Addr} {o p:Obj},h.get? c = some o -> (h.push p).get? c = some o:=fun e=>zQO _ e;have p5:(zT5 s.heap a b).get? (zT4 s.heap a b).objs.size = some _:=zQX _ rfl;have p4:(zT5 s.heap a b).get? (zT3 s.heap a b).objs.size = some _:=u (zQX _ rfl);have p3:(zT5 s.heap a b).get? (zT2 s.heap a b).objs.size = some _:=u (u (zQX _ rfl));have p2:(zT5 s.heap a b).get? (zT1 s.heap a).objs.size = some _:=u (u (u (zQX _ rfl)));have p1:(zT5 s.heap a b).get? s.heap.objs.size = some _:=u (u (u (u (zQX _ rfl))));rw [q2,q3,q4] at p5;rw [q1,q2] at p3;rw [q3] at p4;rw [q1] at p2;rw [q4];exact ⟨⟨_,p5,rfl⟩,h _ ⟨p5,p3,⟨_,_,p4⟩,⟨_,p1,rfl,rfl⟩,⟨_,p2,rfl,rfl⟩⟩ fun c o x=>u (u (u (u (u x))))⟩
end
theorem zCT {X:Cx} {zB:List (Addr × Obj)} {σ:L2.St} {H:Hp} {s:Shared} {h':Heap} {t':Nat} {ch:List Addr} {T:Addr} {o:HO} (I:Inv X zB σ H s) (hf:∀ b ∈ ch,zBq X zB H b)
  (k:∀ b u,b ∉ ch -> s.heap.get? b = some u -> h'.get? b = some u) (hT:s.heap.objs.size <= T) (new:zn X.prog X.w (upd H T o) h' T o):Inv X zB σ (upd H T o) { s with heap:=h',toks:=t' }:=by
 have hn:H T = none:=I.hok.fresh hT;have nch:∀ b u,H b = some u -> b ∉ ch:=fun b u e z=>by rw [(hf b z).1] at e; cases e
 have un:∀ b u,H b = some u -> upd H T o b = some u:=fun b u e=>by rw [zM (zb e hn)]; exact e
 refine I.step (g':=s.gens) (d':=s.drawn) (ch:=ch) (fun b hb=>⟨(hf b hb).2.2.2.1,(hf b hb).2.1,(hf b hb).2.2.2.2.1,(hf b hb).2.2.2.2.2⟩) (fun b u _ _ hc e _=>k b u hc e) (fun b u _ _ hc e _=>⟨u.slots,k b u hc e⟩)
  (fun b u _ e n=>by rw [zM (fun z=>by rw [z] at e; exact absurd (zQY e) (Nat.not_lt.mpr hT))]; exact n) (fun b u hc e=>⟨u,k b u hc e⟩) (fun b xs e=>un b _ e) (fun b p u e=>un b _ e) (fun b ps e=>⟨#[],by rw [un b _ e]; simp⟩) (fun m hm=>?_) (fun b u e=>?_) I.bare
 ·obtain ⟨p,es,ep,ho,r⟩:=hm;exact ⟨p,es,ep,k _ p (fun z=>(hf _ z).2.1 rfl) ho,r⟩
 ·by_cases hb:b = T
  ·subst hb; rw [zj] at e; cases e; exact new
  ·rw [zM hb] at e;refine (I.hok b u e).stay (fun c v hc q=>k c v ?_ q) (fun c q=>un c _ q) fun c xs q=>un c _ q;rcases hc with z | z
   ·rw [z]; exact nch b u e
   ·exact nch c _ z
theorem zBk {X:Cx} {zB:List (Addr × Obj)} {σ:L2.St} {H:Hp} {s:Shared} {h':Heap} {t':Nat} {ch:List Addr} (I:Inv X zB σ H s) (hf:∀ b ∈ ch,zBq X zB H b)
  (k:∀ b u,b ∉ ch -> s.heap.get? b = some u -> h'.get? b = some u):Inv X zB σ H { s with heap:=h',toks:=t' }:=by
 have nch:∀ b u,H b = some u -> b ∉ ch:=fun b u e z=>by rw [(hf b z).1] at e; cases e
 refine I.step (g':=s.gens) (d':=s.drawn) (ch:=ch) (fun b hb=>⟨(hf b hb).2.2.2.1,(hf b hb).2.1,(hf b hb).2.2.2.2.1,(hf b hb).2.2.2.2.2⟩) (fun b u _ _ hc e _=>k b u hc e) (fun b u _ _ hc e _=>⟨u.slots,k b u hc e⟩)
  (fun b u _ e n=>n) (fun b u hc e=>⟨u,k b u hc e⟩) (fun b xs e=>e) (fun b p u e=>e) (fun b ps e=>⟨#[],by rw [e]; simp⟩) (fun m hm=>?_) (fun b u e=>?_) I.bare
 ·obtain ⟨p,es,ep,ho,r⟩:=hm;exact ⟨p,es,ep,k _ p (fun z=>(hf _ z).2.1 rfl) ho,r⟩
 ·refine (I.hok b u e).stay (fun c v hc q=>k c v ?_ q) (fun c q=>q) fun c xs q=>q;rcases hc with z | z
  ·rw [z]; exact nch b u e
  ·exact nch c _ z
def Itz (K:PySem.W.Frag) (a b:Addr):It :=
 ⟨fun i H=>∃ xs ys x y,SqT K H a xs /\ SqT K H b ys /\ xs[i]? = some x /\ ys[i]? = some y,
  fun i H v H'=>∃ T x y,v = .ref T /\ H T = none /\ H' = upd H T (.tup [x,y]) /\ (∀ xs,SqT K H a xs -> xs[i]? = some x) /\ ∀ ys,SqT K H b ys -> ys[i]? = some y,
  fun i H=>∃ xs ys,SqT K H a xs /\ SqT K H b ys /\ (xs.length <= i \/ ys.length <= i)⟩
theorem zIs {P:Program} {w:World} {K:PySem.W.Frag} {es:List Expr} {ek:Nat} {ep:Pos} {z TI TO i1 i2 a b:Addr} (D:ZipApart z TI TO i1 i2 a b) :
  Turn P w K (.Tuple es ek ep) (Itz K a b) [z,TI,TO,i1,i2] z (fun i h=>ZipT h z TI TO i1 i2 a b .none i i) where
 mem:=by simp
 obj:=fun i h Z c hc=>by
  obtain ⟨Z0,P0,⟨x,y,O0⟩,⟨o1,e1,_,d1⟩,⟨o2,e2,_,d2⟩⟩:=Z;simp only [zQZ,zQs,zRi] at hc;rcases hc with rfl | rfl | rfl | rfl | rfl
  ·exact ⟨_,Z0,fun v m=>by cases m⟩
  ·exact ⟨_,P0,fun v m=>by cases m⟩
  ·exact ⟨_,O0,fun v m=>by cases m⟩
  ·exact ⟨_,e1,fun v m=>by rw [d1] at m; cases m⟩
  ·exact ⟨_,e2,fun v m=>by rw [d2] at m; cases m⟩
 keep:=fun i h h' Z k=>by
  obtain ⟨Z0,P0,⟨x,y,O0⟩,⟨o1,e1,r1⟩,⟨o2,e2,r2⟩⟩:=Z;exact ⟨k z (by simp) _ Z0,k TI (by simp) _ P0,⟨x,y,k TO (by simp) _ O0⟩,⟨o1,k i1 (by simp) _ e1,r1⟩,⟨o2,k i2 (by simp) _ e2,r2⟩⟩
 item:=by
  intro X hP hw hK hc i zB s σ H E I hf Z hg;subst hP hw hK;obtain ⟨xs,ys,x,y,sa,sb,hx,hy⟩:=hg;obtain ⟨its,rv,p1,z1⟩:=I.tuple sa;obtain ⟨its2,rv2,p2,z2⟩:=I.tuple sb;obtain ⟨u,hu,ru⟩:=rv.get hx;obtain ⟨u2,hu2,ru2⟩:=rv2.get hy;refine zJP D Z (show s.heap.IsTuple a its.toArray from p1) (show s.heap.IsTuple b its2.toArray from p2) (x:=u) (y:=u2) (by simpa using hu) (by simpa using hu2) fun h' Z' N' kp=>⟨_,rfl,?_⟩;refine wpAny_letOwnedTupleGo_zip Z'.z fun h2 Z2 e2=>?_;have hch:∀ c ∈ [z,TO,i1,i2],zBq X zB H c:=fun c hm=>hf c (by
   simp only [zQZ,zQs,zRi] at hm ⊢;rcases hm with q | q | q | q <;> simp [q])
  have kk:∀ c o,c ∉ [z,TO,i1,i2] -> s.heap.get? c = some o -> h2.get? c = some o:=fun c o n e=>e2.extBut _ _ (fun m=>n (by simp [m])) (kp c o n e);have zlt:z < s.heap.objs.size:=zQY Z.z;have NT:IsPair h2 s.heap.objs.size u u2:=e2.extBut _ _ (zRs zlt) N';have hfr:H s.heap.objs.size = none:=I.hok.fresh (zQT _);refine ⟨.ref s.heap.objs.size,upd H s.heap.objs.size (.tup [x,y]),zCT (s:=s) (h':=h2) (t':=s.toks) I hch kk (zQT _) ?_,rfl,⟨_,x,y,rfl,hfr,rfl,fun ws hw=>?_,fun ws hw=>?_⟩,?_,fun c hm=>?_⟩
  ·exact ⟨by show 2 <= sizeLine; decide,[u,u2],.cons ru (.cons ru2 .nil),⟨_,NT,rfl,⟨_,rfl⟩,rfl⟩⟩
  ·rw [I.tuple_inj hw sa]; exact hx
  ·rw [I.tuple_inj hw sb]; exact hy
  ·obtain ⟨_,P1,⟨q1,q2,O1⟩,⟨o1,f1,r1⟩,⟨o2,f2,r2⟩⟩:=Z';exact ⟨Z2,e2.extBut _ _ D.TIz P1,⟨q1,q2,e2.extBut _ _ D.TOz O1⟩,⟨o1,e2.extBut _ _ D.i1z f1,r1⟩,⟨o2,e2.extBut _ _ D.i2z f2,r2⟩⟩
  ·have lt:c < s.heap.objs.size:=by
    obtain ⟨Z0,P0,⟨q1,q2,O0⟩,⟨o1,f1,_⟩,⟨o2,f2,_⟩⟩:=Z;simp only [zQZ,zQs,zRi] at hm;rcases hm with rfl | rfl | rfl | rfl | rfl
    ·exact zQY Z0
    ·exact zQY P0
    ·exact zQY O0
    ·exact zQY f1
    ·exact zQY f2
   rw [zM (zQi lt)];exact (hf c hm).1
 done:=by
  intro X hP hw hK hc i zB s σ H E I hf Z hg;subst hP hw hK;obtain ⟨xs,ys,sa,sb,hz⟩:=hg;obtain ⟨its,rv,p1,z1⟩:=I.tuple sa;obtain ⟨its2,rv2,p2,z2⟩:=I.tuple sb;have l1:=rv.length;have l2:=rv2.length;refine zKS (I.ok.hd hc) D Z (show s.heap.IsTuple a its.toArray from p1) (show s.heap.IsTuple b its2.toArray from p2) ?_ fun h' kp=>⟨rfl,zBk (s:=s) (h':=h') (t':=s.toks) I (fun c hm=>hf c (by
   simp only [zQZ,zQs,zRi] at hm ⊢;rcases hm with q | q | q | q <;> simp [q])) kp⟩
  rcases hz with q | q
  ·exact .inl (by simp; omega)
  ·exact .inr (by simp; omega)
 self:=fun _ _ _ _ _ Z h=>wpAny_pyIter_zip Z.z h
section
theorem zOW {ta:TA} (hg:Gl X "zip") (hm:X.mg "zip" = none) (ha:PA X [a,b] ta) (hs:starEach [a,b] X.env = [(false,eval a X.env),(false,eval b X.env)]:=by rfl) (hs2:starEach [b] X.env = [(false,eval b X.env)]:=by rfl) :
  PI X (.Tuple es ek ep) (.Call (.Name "zip" p) [a,b] [] pos) (fun σ H R=>ta σ H fun vs H1=>∃ l1 l2 xs ys,vs = [.ref l1,.ref l2] /\ SqT X.K H1 l1 xs /\ SqT X.K H1 l2 ys /\ R (Itz X.K l1 l2) H1):=by
 intro zB s σ H R I h;refine Call_ (zCA I hg hm (by rfl) (PyProof.Rows.callWith_type1 (thn (ha pos zB s σ H _ I h) fun us s1 ⟨vs,H1,I1,r1,q1⟩=>?_) (by rw [hs,hs2]) (by rw [hs2]; rfl)));obtain ⟨l1,l2,xs,ys,rfl,s1',s2',q⟩:=q1;cases r1 with
 | cons r rr=>
  cases rr with
  | cons r' rr=>
   cases rr;cases r;cases r';obtain ⟨its,rv,p1,_⟩:=I1.tuple s1';obtain ⟨its2,rv2,p2,_⟩:=I1.tuple s2';have d1:l1 < s1.heap.objs.size:=by obtain ⟨_,e,_⟩:=p1; exact zQY e
   have d2:l2 < s1.heap.objs.size:=by obtain ⟨_,e,_⟩:=p2; exact zQY e
   refine zLM (show s1.heap.IsTuple l1 its.toArray from p1) (show s1.heap.IsTuple l2 its2.toArray from p2) fun h' Z kp=>wpAny_pyIter_zip Z.z ?_;refine ⟨s1.heap.objs.size + 4,[s1.heap.objs.size + 4,s1.heap.objs.size + 2,s1.heap.objs.size + 3,s1.heap.objs.size,s1.heap.objs.size + 1],_,_,H1,rfl,I1.kept (t':=s1.toks) kp,zIs (zipApart_new d1 d2),Z,fun c hc=>?_,q⟩;have ge:s1.heap.objs.size <= c:=by
    simp only [zQZ,zQs,zRi] at hc;rcases hc with rfl | rfl | rfl | rfl | rfl
    ·exact zSC _ 4
    ·exact zSC _ 2
    ·exact zSC _ 3
    ·exact zQT _
    ·exact zSC _ 1
   exact I1.fpOk ge (I1.hok.fresh ge)
def zHX (g:FA):FI:=fun σ M=>match g σ M with
 | some ([.tup xs,.tup ys],M1)=>some ((xs.zip ys).map fun q=>D.tup [q.1,q.2],none,M1)
 | _=>none
theorem zOB (hg:Gl X "zip") (hm:X.mg "zip" = none) (ha:QA X [a,b] g) (hs:starEach [a,b] X.env = [(false,eval a X.env),(false,eval b X.env)]:=by rfl) (hs2:starEach [b] X.env = [(false,eval b X.env)]:=by rfl) :
  QI X (.Tuple es ek ep) (.Call (.Name "zip" p) [a,b] [] pos) (zHX g):=.mk <| PI.imp (zOW hg hm ha.un hs hs2) fun τ H R zz=>by
 obtain ⟨L,σ,M,xs,gd,M',c,rs,hf,q⟩:=zz;unfold zHX at hf;split at hf
 ·rename_i ds es' M1 e1;cases hf;refine ⟨L,σ,M,_,_,c,rs,e1,fun L1 H1 vs s1 c1 r1=>?_⟩;obtain ⟨v,v',rfl,r2,r3⟩:=r1.two;unfold Rep at r2 r3;obtain ⟨l1,ws1,rfl,h1,q1⟩:=r2;obtain ⟨l2,ws2,rfl,h2,q2⟩:=r3;refine ⟨l1,l2,ws1,ws2,rfl,.of h1,.of h2,q L1 H1 _ s1 c1 fun L2 H2 M2 s2 c2 _=>?_⟩;have k1:=s2.tup l1 ws1 h1;have k2:=s2.tup l2 ws2 h2;have p1:=q1.stp s2;have p2:=q2.stp s2;refine ⟨fun i d hd=>?_,⟨ws1,ws2,.of k1,.of k2,?_⟩⟩
  ·rw [zQk] at hd;cases e2:(ds.zip es')[i]? with
   | none=>rw [e2] at hd; cases hd
   | some pr=>
    rw [e2] at hd;cases hd;obtain ⟨f1,f2⟩:=zUT.mp e2;obtain ⟨u,hu,ru⟩:=p1.get f1;obtain ⟨u2,hu2,ru2⟩:=p2.get f2;refine ⟨⟨ws1,ws2,u,u2,.of k1,.of k2,hu,hu2⟩,fun v H3 hy=>?_⟩;obtain ⟨T,x,y,rfl,hT,rfl,hxx,hyy⟩:=hy;have ex:=hxx ws1 (.of k1);have ey:=hyy ws2 (.of k2);rw [hu] at ex; cases ex;rw [hu2] at ey; cases ey;exact ⟨fun a o e=>by rw [zM (zb e hT)]; exact e,Rep.newTup hT (.cons ru (.cons ru2 .nil))⟩
  ·rw [zQW,List.length_zip,p1.length,p2.length];omega
 ·cases hf
def zBU (i j:Nat):FG:=fun d σ=>match d with
 | .tup [x,y]=>some ((σ.set i (some x)).set j (some y))
 | _=>none
abbrev gP2 (K:PySem.W.Frag) (i j:Nat):TG:=zPe K 2 (zJr (zCi i) (zJr (zCi j) zPS))
theorem zGx {K:PySem.W.Frag} {i j:Nat}:GOk (gP2 K i j) (zBU i j):=by
 intro L H σ σ' τ d v Q rs r hf q;unfold zBU at hf;split at hf
 ·rename_i x y;cases hf;unfold Rep at r;obtain ⟨a,vs,rfl,e,r⟩:=r;obtain ⟨v1,v2,rfl,r1,r2⟩:=r.two;exact ⟨a,_,rfl,.of e,rfl,v1,[v2],rfl,v2,[],rfl,rfl,q _ ((rs.set r1).set r2)⟩
 ·cases hf
theorem zFH {K:PySem.W.Frag} {own:List Nat} {i j:Nat} (hi:i ∈ own) (hj:j ∈ own):zJ5 own (gP2 K i j) (zBU i j):=by
 intro L H σ σ' τ τ0 d v Q rs ex r hf q;unfold zBU at hf;split at hf
 ·rename_i x y;cases hf;unfold Rep at r;obtain ⟨a,vs,rfl,e,r⟩:=r;obtain ⟨v1,v2,rfl,r1,r2⟩:=r.two;exact ⟨a,_,rfl,.of e,rfl,v1,[v2],rfl,v2,[],rfl,rfl,q _ ((rs.set r1).set r2) ((ex.set hi).set hj)⟩
 ·cases hf
end
section
variable {X:Cx}
theorem zIc:∀ {bs:List Bool} {its:List Value},zU (bs.map V.bl) its -> ∀ (i:Nat) v,its[i]? = some v -> ∃ k,bs[i]? = some k /\ v = .bool k
 | [],_,.nil,_,_,h=>by simp at h
 | k :: bs,_,.cons r t,0,v,h=>by
  simp at h; subst h;exact ⟨k,rfl,r⟩
 | k :: bs,_,.cons r t,i + 1,v,h=>by
  obtain ⟨k',e1,e2⟩:=zIc t i v (by simpa using h);exact ⟨k',by simpa using e1,e2⟩
theorem zH2 (bs:List Bool):((List.range bs.length).all fun i=>(bs[i]?).getD true) = bs.all id:=by
 rw [Bool.eq_iff_iff,zQy,zQy];constructor
 ·intro q k hk;obtain ⟨i,hi,rfl⟩:=List.getElem_of_mem hk;have:=q i (zQ1.mpr hi);rw [zQR hi] at this;exact this
 ·intro q i hi;rw [zQR (zQ1.mp hi)];exact q _ (zQv _)
def zPE (K:PySem.W.Frag) (F:List Bool -> Bool):List V -> Hp -> VK -> Prop:=fun xs H Q=>∃ q bs,xs = [.ref q] /\ SqL K H q (bs.map V.bl) /\ Q (.bl (F bs)) H
theorem zIw (hc:X.calm = true):zBC X (.builtin "all") (zPE X.K fun bs=>bs.all id):=by
 intro zB s σ H xs us Q I r h;obtain ⟨l,bs,rfl,hq,q⟩:=h;obtain ⟨u,rfl,rx⟩:=zCg r;cases rx;obtain ⟨its,rv,pl,_⟩:=I.list hq;have hlt:l < s.heap.objs.size:=by obtain ⟨_,z,_⟩:=pl.isList; exact zQY z
 refine call_all_walk (wpAny_pyIter_list pl.isList ⟨s.heap.objs.size,[s.heap.objs.size,l],[s.heap.objs.size],its.toArray.size,_,_,fun i=>(bs[i]?).getD true,rfl,Walks.list (A:=X.A.in1) (I.ok.hd hc) _ l (zQi hlt) its.toArray,
  ⟨⟨_,zQX _ rfl,rfl,rfl⟩,pl.isList.push _⟩,fun i v s' Q' E' hP hQ=>?_,fun h' tk hk=>?_⟩)
 ·obtain ⟨k,z,rfl⟩:=zIc rv i v (by simpa using hP);dsimp only at hQ; rw [z] at hQ;exact wpAny_truthy_bool hQ
 ·have hl:=rv.length;rw [zQW] at hl;rw [zQV,<- hl,zH2];exact ⟨.bl _,H,I.kept (t':=tk) fun b o z=>hk b o (fun m=>by rw [zQp.mp m] at z; exact zQ5 _ (zQY z)) (zQO _ z),rfl,q⟩
def zDa:List D -> Option (List Bool)
 | []=>some []
 | .bl k :: r=>match zDa r with
  | some bs=>some (k :: bs)
  | none=>none
 | _=>none
theorem zIW:∀ {ds:List D} {bs:List Bool} {vs:List V},zDa ds = some bs -> zH L H ds vs -> vs = bs.map V.bl
 | [],bs,vs,e,r=>by cases e; unfold zH at r; exact r
 | d :: ds,bs,vs,e,r=>by
  unfold zH at r;obtain ⟨v,r',rfl,r1,r2⟩:=r;cases d with
  | bl k=>
   unfold zDa at e;cases q:zDa ds with
   | none=>rw [q] at e; cases e
   | some bs'=>
    rw [q] at e; cases e;unfold Rep at r1;rw [r1,zIW q r2]; rfl
  | _=>cases e
def zJf (F:List Bool -> Bool):KB:=fun xs M=>match xs with
 | [x]=>match zAZ M x with
  | some ds=>match zDa ds with
   | some bs=>some (.dat (.bl (F bs)),M)
   | none=>none
  | none=>none
 | _=>none
theorem zMB {K:PySem.W.Frag} {F:List Bool -> Bool}:zDu K (zPE K F) (zJf F):=by
 intro L M M' H H0 xs d vs Q c r hk q;unfold zJf at hk;split at hk
 ·rename_i x;split at hk
  ·rename_i ds e1;split at hk
   ·rename_i bs e2;cases hk;obtain ⟨v,rfl,r1⟩:=r.one;obtain ⟨l,ws,rfl,h1,r2⟩:=zAX c r1 e1;have:=zIW e2 r2;subst this;exact ⟨l,bs,rfl,.inl h1,q L H _ (.refl L H) c (zBe (L:=L) (H:=H))⟩
   ·cases hk
  ·cases hk
 ·cases hk
abbrev zPt:KB:=zJf fun bs=>bs.all id
section
theorem zPQ (hc:X.calm = true) (hg:Gl X "all") (hm:X.mg "all" = none) (ha:QAE X [e] fa) (he:starEach [e] X.env = (false,eval e X.env) :: starEach [] X.env:=by rfl) (hpl:(backTo pos (starEach [] X.env)).any (·.1) = false:=by rfl):QE X (.Call (.Name "all" p) [e] [] pos) (fB zPt fa) :=
 zC0 zMB (zIw hc) (by rfl) hg hm ha (by decide) (by decide) he hpl
end
theorem zM1 (h:zAZ M x = some ds) (hb:zDa ds = some bs):Ok (zJf F [x] M) P ↔ P (.dat (.bl (F bs))) M:=by
 have:zJf F [x] M = some (.dat (.bl (F bs)),M):=by unfold zJf; dsimp only; rw [h]; dsimp only; rw [hb]
 rw [this,zh]
theorem zDS:∀ bs:List Bool,zDa (bs.map D.bl) = some bs
 | []=>rfl
 | k :: bs=>by rw [zQg]; unfold zDa; rw [zDS bs]
def zL6 (f:FE):FE:=fun σ M=>match f σ M with
 | some (.dat (.int i),M1)=>some (.dat (.int (-i)),M1)
 | _=>none
theorem zOb (h1:QE X a f):QE X (.UnaryOp .USub a pos) (zL6 f):=.mk <| PE.imp (zPK zNj h1.un) fun τ H Q zz=>by
 obtain ⟨L,σ,M,d,M',cc,rs,hf,q⟩:=zz;unfold zL6 at hf;split at hf
 ·rename_i i M1 e1;cases hf;refine ⟨L,σ,M,_,_,cc,rs,e1,fun L1 H1 v s1 c1 r1=>?_⟩;exact ⟨i,by unfold zZ Rep at r1; exact r1,q L1 H1 _ s1 c1 (zAE (L:=L1) (H:=H1))⟩
 ·cases hf
def zD1:KB:=fun xs M=>match xs with
 | [x]=>match zg M x with
  | some ys=>some (.fl ys,M)
  | none=>none
 | _=>none
theorem zKo:zDu X.K (fun xs H Q=>∃ q ys,xs = [.ref q] /\ (SqL X.K H q ys \/ SqT X.K H q ys) /\ ∀ l,H l = none -> Q (.ref l) (upd H l (.lst ys))) zD1:=by
 intro L M M' H H0 xs d vs Q cc r hk q;unfold zD1 at hk;split at hk
 ·rename_i x;split at hk
  ·rename_i ys e1;cases hk;obtain ⟨v,rfl,r1⟩:=r.one;obtain ⟨l,ws,rfl,hs,r2⟩:=zDk cc r1 e1;refine ⟨l,ws,rfl,hs,fun k hk=>?_⟩;exact q L _ _ (.upd hk) (cc.upd hk) (zZ.newLst (.refl L H) cc cc hk r2)
  ·cases hk
 ·cases hk
theorem zOX (hg:Gl X "list") (hm:X.mg "list" = none) (ha:QAE X [e] fa) (he:starEach [e] X.env = (false,eval e X.env) :: starEach [] X.env:=by rfl) (hpl:(backTo pos (starEach [] X.env)).any (·.1) = false:=by rfl):QE X (.Call (.Name "list" p) [e] [] pos) (fB zD1 fa) :=
 zDy zKo zFW (by rfl) hg hm ha (by decide) (by decide) he hpl
theorem zOa (hh:zg M x = some xs):Ok (zD1 [x] M) P ↔ P (.fl xs) M:=by
 have:zD1 [x] M = some (.fl xs,M):=by unfold zD1; dsimp only; rw [hh]
 rw [this,zh]
end
open AutoSeq1 (wpAny_loadPart')
section
theorem zK1 {r:Addr} {lo hi:Int} {t u v:Tok} {n:Nat} {Q:List Value -> Shared -> Prop} (hh:A.handled = none) (R:IsRange s.heap r lo hi 1 t u v) (sm:Builtin.Range.small lo hi 1 = true) (hn:Builtin.Range.rangeSize lo hi 1 = n) (hz:n <= 2 ^ 24)
  (q:∀ h' tk (acc:Array Value),(∀ b o,s.heap.get? b = some o -> h'.get? b = some o) -> ItemsOf (fun i v=>∃ t,v = .int (lo + i * 1) t) acc n -> Q acc.toList { s with heap:=h',toks:=tk }):wpAny (model prog w) A (collect (.ref r)) Q E s:=by
 unfold collect;refine zQN (wpAny_runValue (codeAny_builtin PySem.F.entry_proto_collect ?_));rw [Around.under_plainId PySem.F.plain_proto_collect _];refine zQN (m:=newList []) (zQq (zQP ⟨plainId_quiet PySem.F.plain_list_iadd _,codeAny_builtin PySem.F.entry_list_iadd ?_⟩));rw [Around.under_plainId PySem.F.plain_list_iadd _];have S0:(s.heap.push { cls:=.type "list", data:=.seq ([]:List Value).toArray }).get? s.heap.objs.size = some { cls:=.type "list", data:=.seq #[] 0 }:=zQX _ rfl
 have fin:∀ (h':Heap) (tk:Nat) (acc:Array Value) (k:Nat),(∀ b o,b ≠ s.heap.objs.size -> (s.heap.push { cls:=.type "list", data:=.seq ([]:List Value).toArray }).get? b = some o -> h'.get? b = some o) ->
   h'.get? s.heap.objs.size = some { cls:=.type "list", dict:=none,data:=.seq acc k,slots:=#[] } -> ItemsOf (fun i v=>∃ t,v = .int (lo + i * 1) t) acc n ->
   wpAny (model prog w) A (match Value.ref s.heap.objs.size with
    | Value.ref a=>do
     match (<- load a).data with
      | Data.seq xs _=>pure xs.toList
      | _=>unsupported "internal:collect"
    | _=>unsupported "internal:collect") Q E { s with heap:=h',toks:=tk }:=fun h' tk acc k kp e it=>by
  refine zQN (m:=load s.heap.objs.size) (wpAny_load e (zQP (q h' tk acc (fun b o m=>kp b o (zQi (zQY m)) (zQO _ m)) it)))
 refine zQt (wpAny_extend_range (A:=A) (s:={ s with heap:=s.heap.push { cls:=.type "list", data:=.seq ([]:List Value).toArray } })
  (R:=fun r s'=>r = .ok (.ret (.ref s.heap.objs.size)) /\ ∃ h' tk acc k,s' = { s with heap:=h',toks:=tk } /\ (∀ b o,b ≠ s.heap.objs.size -> (s.heap.push { cls:=.type "list", data:=.seq ([]:List Value).toArray }).get? b = some o -> h'.get? b = some o) /\
   h'.get? s.heap.objs.size = some { cls:=.type "list", dict:=none,data:=.seq acc k,slots:=#[] } /\ ItemsOf (fun i v=>∃ t,v = .int (lo + i * 1) t) acc n)
  hh (zQO _ R) sm hn hz s.heap.objs.size (.ref s.heap.objs.size) 0 S0 fun h' tk acc k kp e it=>⟨rfl,h',tk,acc,k,rfl,kp,e,it⟩) (fun f s' z=>?_) (fun e s' z=>?_)
 ·cases f with
  | done f=>
   obtain ⟨e,h',tk,acc,k,rfl,z1,z2,z3⟩:=z;cases e;exact fin h' tk acc k z1 z2 z3
  | again c'=>exact ⟨z.1,codeAny_mono z.2 fun r s'' z=>by obtain ⟨rfl,h',tk,acc,k,rfl,z1,z2,z3⟩:=z; exact fin h' tk acc k z1 z2 z3⟩
 ·exact absurd z.1 (by simp)
end
theorem zF4 (r:Addr) (lo hi:Int) (t u v:Tok) (n:Nat) (sm:Builtin.Range.small lo hi 1 = true) (hn:Builtin.Range.rangeSize lo hi 1 = n) (hz:n <= 2 ^ 24) :
  Meets (Builtin.«tuple.__new__» ⟨[.type "tuple", .ref r],[]⟩) (fun A R s=>A.handled = none /\ IsRange s.heap r lo hi 1 t u v /\
   ∀ (h':Heap) (tk:Nat) (acc:Array Value),(∀ b o,s.heap.get? b = some o -> h'.get? b = some o) -> ItemsOf (fun i v=>∃ t,v = .int (lo + i * 1) t) acc n -> R (.ok (.ret (.ref h'.objs.size))) { s with heap:=h'.push { cls:=.type "tuple", data:=.seq acc },toks:=tk }) :=
 .of_wp fun prog w A R s h=>by
  obtain ⟨hp,g,d,tk,os⟩:=s;obtain ⟨hh,Ra,h⟩:=h;have h1:=sub_tuple_self;have h2:=init_tuple_lookup;have h3:=madeHere_tuple;have T:Shared.TypeIs ⟨hp,g,d,tk,os⟩ (.ref r) "range" := ⟨_,Ra,rfl⟩;wp_walk using wpAny_loadPart' Ra,wpAny_typeOf T,zK1 (show A.in1.handled = none from hh) Ra sm hn hz;intro h' tk' acc kp it;refine zQN (m:=Builtin.Tuple.tupleExact acc.toList.toArray) ?_;unfold Builtin.Tuple.tupleExact;have sz:acc.toList.toArray.size <= sizeLine:=by rw [zQV,zQ6,it.1,sizeLine_eq]; omega
  refine zQq (zQP ⟨_,rfl,?_⟩) sz;have e:acc.toList.toArray = acc:=by simp
  rw [e];exact h h' tk' acc kp it
section
theorem zGV:zBC X (.type "range") (fun xs H Q=>∃ j,xs = [.int j] /\ ∀ l,H l = none -> Q (.ref l) (upd H l (.rng 0 j))):=by
 intro zB s σ H xs us Q I r h;obtain ⟨j,rfl,q⟩:=h;obtain ⟨u,rfl,rx⟩:=zCg r;obtain ⟨t,rfl⟩:=rx;refine call_range_1 ⟨.ref s.heap.objs.size,_,I.laid (fun b o z=>zQO _ z) (zQT _) ?_,rfl,q _ (I.hok.fresh (zQT _))⟩;exact ⟨_,_,_,zQX _ rfl⟩
def upV (n:Nat):List V:=(List.range n).map fun (k:Nat)=>V.int k
theorem zGN (h:ItemsOf (fun i v=>∃ t,v = .int ((0:Int) + i * 1) t) acc n):zU (upV n) acc.toList:=by
 obtain ⟨hz,hi⟩:=h;have:∀ (xs:List Value) (k:Nat),(∀ j v,xs[j]? = some v -> ∃ t,v = Value.int ((k + j:Nat):Int) t) -> zU ((List.range' k xs.length).map fun (k:Nat)=>V.int k) xs:=by
  intro xs;induction xs with
  | nil=>intro k _; exact .nil
  | cons x xs ih=>
   intro k hk;rw [List.length_cons,List.range'_succ,zQg];refine .cons ?_ (ih (k + 1) fun j v e=>?_)
   ·obtain ⟨t,e⟩:=hk 0 x rfl;exact ⟨t,by simpa using e⟩
   ·obtain ⟨t,e'⟩:=hk (j + 1) v (by simpa using e);exact ⟨t,by rw [e']; congr 2; omega⟩
 have q:=this acc.toList 0 (fun j v e=>by
  obtain ⟨t,e'⟩:=hi j v (by simpa using e);exact ⟨t,by rw [e']; congr 1; omega⟩)
 unfold upV;rw [List.range_eq_range'];rw [zQ6,hz] at q;exact q
theorem zE3 (h0:0 <= j) (h1:j <= 16777216):Builtin.Range.small 0 j 1 = true /\ Builtin.Range.rangeSize 0 j 1 = (j.toNat:Int):=by
 refine ⟨small_one (by omega) (by omega) (by omega) (by omega),?_⟩;rw [rangeSize_one]; split <;> omega
def zOr (mk:List V -> HO):List V -> Hp -> VK -> Prop:=fun xs H Q=>∃ r j,xs = [.ref r] /\ H r = some (.rng 0 j) /\ 0 <= j /\ j <= 16777216 /\ ∀ l,H l = none -> Q (.ref l) (upd H l (mk (upV j.toNat)))
theorem zEd (n:Nat):(upV n).length = n:=by unfold upV; simp
theorem zJd (hc:X.calm = true):zBC X (.type "tuple") (zOr HO.tup):=by
 intro zB s σ H xs us Q I r h;obtain ⟨l,j,rfl,hr,h0,h1,q⟩:=h;obtain ⟨u,rfl,rx⟩:=zCg r;cases rx;obtain ⟨t,u,v,er⟩:=(show zn X.prog X.w H s.heap l (.rng 0 j) from I.hok l _ hr);obtain ⟨sm,sz⟩:=zE3 h0 h1
 refine callType_new PySem.F.called_tuple (by decide) (PySem.F.typeCall_tuple_1 _) (PySem.F.newCall_tuple_1 _) (fun obj=>PySem.F.args_object_init_2 obj _) PySem.F.entry_tuple_new (zF4 l 0 j t u v j.toNat sm sz (by omega))
  ⟨I.ok.hd hc,er,fun h' tk acc kp it=>⟨⟨_,zQX _ rfl,rfl⟩,?_⟩⟩
 have I1:Inv X zB σ H { s with heap:=h',toks:=tk }:=I.kept kp;refine ⟨.ref h'.objs.size,_,I1.laid (t':=tk) (fun b o z=>zQO _ z) (zQT _) ?_,rfl,q _ (I1.hok.fresh (zQT _))⟩;exact ⟨by rw [zEd,sizeLine_eq]; omega,acc.toList,zGN it,by simpa using zBB.new h' acc⟩
theorem zIr (hc:X.calm = true):zBC X (.type "list") (zOr HO.lst):=by
 intro zB s σ H xs us Q I r h;obtain ⟨l,j,rfl,hr,h0,h1,q⟩:=h;obtain ⟨u,rfl,rx⟩:=zCg r;cases rx;obtain ⟨t,u,v,er⟩:=(show zn X.prog X.w H s.heap l (.rng 0 j) from I.hok l _ hr);obtain ⟨sm,sz⟩:=zE3 h0 h1;refine call_list_range (I.ok.hd hc) er sm sz (by omega) fun h' tk acc k kp z it=>?_;refine ⟨.ref s.heap.objs.size,_,I.laid (t':=tk) kp (zQT _) (show zn X.prog X.w _ h' _ (.lst (upV j.toNat)) from ⟨by rw [zEd,sizeLine_eq]; omega,acc.toList,k,zGN it,by simpa using z⟩),rfl,q _ (I.hok.fresh (zQT _))⟩
def upD (n:Nat):List D:=(List.range n).map fun (k:Nat)=>D.int k
theorem zID (n:Nat):zH L H (upD n) (upV n):=by
 have:∀ xs:List Nat,zH L H (xs.map fun (k:Nat)=>D.int k) (xs.map fun (k:Nat)=>V.int k):=by
  intro xs;induction xs with
  | nil=>exact .nil
  | cons x xs ih=>exact .cons zAE ih
 exact this _
def zCv (f:FE):FE:=fun σ M=>match f σ M with
 | some (.dat (.int j),M1)=>if 0 <= j /\ j <= 16777216 then some (.dat (.tup (upD j.toNat)),M1) else none
 | _=>none
def zCE (f:FE):FE:=fun σ M=>match f σ M with
 | some (.dat (.int j),M1)=>if 0 <= j /\ j <= 16777216 then some (.fl (upD j.toNat),M1) else none
 | _=>none
theorem zNs (hc:X.calm = true) (hg:Gl X "tuple") (hm:X.mg "tuple" = none) (hg2:Gl X "range") (hm2:X.mg "range" = none) (ha:QE X a f)
  (he:starEach [Expr.Call (.Name "range" p2) [a] [] pos2] X.env = (false,eval (Expr.Call (.Name "range" p2) [a] [] pos2) X.env) :: starEach [] X.env:=by rfl) (hpl:(backTo pos (starEach [] X.env)).any (·.1) = false:=by rfl)
  (he2:starEach [a] X.env = (false,eval a X.env) :: starEach [] X.env:=by rfl) (hpl2:(backTo pos2 (starEach [] X.env)).any (·.1) = false:=by rfl) :
  QE X (.Call (.Name "tuple" p) [.Call (.Name "range" p2) [a] [] pos2] [] pos) (zCv f) :=
 .mk <| PE.imp (zBj (zJd hc) hg hm (by rfl) (zBV (zBj zGV hg2 hm2 boot_range (zBV ha.un zCp he2) (by decide) (by decide) he2 hpl2) zCp he) (by decide) (by decide) he hpl) fun τ H Q zz=>by
  obtain ⟨L,σ,M,d,M',c,rs,hf,q⟩:=zz;unfold zCv at hf;split at hf
  ·rename_i j M1 e1;split at hf
   ·rename_i hb;cases hf;refine ⟨L,σ,M,_,_,c,rs,e1,fun L1 H1 v s1 c1 r1=>⟨j,by unfold zZ Rep at r1; rw [r1],fun l hl=>⟨l,j,rfl,zj,hb.1,hb.2,fun k hk=>?_⟩⟩⟩;exact q L1 _ _ ((s1.trans (.upd hl)).trans (.upd hk)) ((c1.upd hl).upd hk) (Rep.newTup hk (zID _))
   ·cases hf
  ·cases hf
theorem zON (hc:X.calm = true) (hg:Gl X "list") (hm:X.mg "list" = none) (hg2:Gl X "range") (hm2:X.mg "range" = none) (ha:QE X a f)
  (he:starEach [Expr.Call (.Name "range" p2) [a] [] pos2] X.env = (false,eval (Expr.Call (.Name "range" p2) [a] [] pos2) X.env) :: starEach [] X.env:=by rfl) (hpl:(backTo pos (starEach [] X.env)).any (·.1) = false:=by rfl)
  (he2:starEach [a] X.env = (false,eval a X.env) :: starEach [] X.env:=by rfl) (hpl2:(backTo pos2 (starEach [] X.env)).any (·.1) = false:=by rfl) :
  QE X (.Call (.Name "list" p) [.Call (.Name "range" p2) [a] [] pos2] [] pos) (zCE f) :=
 .mk <| PE.imp (zBj (zIr hc) hg hm (by rfl) (zBV (zBj zGV hg2 hm2 boot_range (zBV ha.un zCp he2) (by decide) (by decide) he2 hpl2) zCp he) (by decide) (by decide) he hpl) fun τ H Q zz=>by
  obtain ⟨L,σ,M,d,M',c,rs,hf,q⟩:=zz;unfold zCE at hf;split at hf
  ·rename_i j M1 e1;split at hf
   ·rename_i hb;cases hf;refine ⟨L,σ,M,_,_,c,rs,e1,fun L1 H1 v s1 c1 r1=>⟨j,by unfold zZ Rep at r1; rw [r1],fun l hl=>⟨l,j,rfl,zj,hb.1,hb.2,fun k hk=>?_⟩⟩⟩;have s2:Stp L H L1 (upd H1 l (.rng 0 j)):=s1.trans (.upd hl);exact q L1 _ _ (s2.trans (.upd hk)) ((c1.upd hl).upd hk) (zZ.newLst s2 c (c1.upd hl) hk (zID _))
   ·cases hf
  ·cases hf
section
theorem zMj (e:f σ M = some (.dat (.int j),M)) (h0:0 <= j) (h1:j <= 16777216) (q:P (.dat (.tup (upD j.toNat))) M):Ok (zCv f σ M) P:=by
 refine ⟨_,_,?_,q⟩;unfold zCv; rw [e]; dsimp only; rw [zQc ⟨h0,h1⟩]
end
end
theorem zMl {P:Program} {w:World} {K:PySem.W.Frag} {mg:Str -> Option Value} {base:Heap} {k:Nat} {f:Addr} {fd:FuncData} {ps:List Str} {n:Nat}:FnOk P w K mg base CX0 k f fd ps (spF K n fun _ _=>none):=by
 have no:∀ vs H Q E,¬ spF K n (fun _ _=>none) vs H Q E:=fun vs H Q E ⟨_,_,_,_,_,_,_,_,h,_⟩=>by cases h
 exact ⟨fun vs H Q E h=>absurd h (no vs H Q E),fun A outer s H args us vs Q E _ _ _ _ h=>absurd h (no vs H Q E)⟩
def zCy:Expr -> Bool
 | .Starred .. =>false
 | _=>true
theorem zF (h:zCy e = true):starEach (e :: es) env = (false,eval e env) :: starEach es env:=by
 cases e <;> first | rfl | cases h
theorem zCP (h:zCy e = true):starEach [e] env = [(false,eval e env)]:=zF h
theorem zEX (h:zCy e = true) (h':zCy e' = true):starEach [e,e'] env = [(false,eval e env),(false,eval e' env)]:=by rw [zF h,zCP h']
theorem zAf:∀ {es:List Expr},es.all zCy = true -> (backTo pos (starEach es env)).any (·.1) = false
 | [],_=>rfl
 | e :: es,h=>by
  rw [List.all_cons,zQx] at h;rw [zF h.1];have:=zAf (pos:=pos) (env:=env) h.2;simpa [backTo] using this
theorem Cor.pushO {K:PySem.W.Frag} {L:List Addr} {M:List MO} {H:Hp} {p:Addr} {o:HO} {m:MO} (c:Cor K L M H) (h:H p = none) (new:zDz K (L ++ [p]) (L2.upd H p o) p m) :
  Cor K (L ++ [p]) (M ++ [m]) (L2.upd H p o) /\ Stp L H (L ++ [p]) (L2.upd H p o):=by
 have hp:p ∉ L:=fun z=>by obtain ⟨o,e⟩:=c.tracked z; rw [h] at e; cases e
 have st:Stp L H (L ++ [p]) (L2.upd H p o):=by
  refine ⟨⟨[p],rfl⟩,fun a ha=>?_,fun a o e _=>?_,fun a o e=>?_,fun a o u e=>?_⟩
  ·rcases zQn.mp ha with z | z
   ·exact .inl z
   ·have:a = p:=by simpa using z
    subst this; exact .inr h
  all_goals (rw [zM (zb e h)]; exact e)
 refine ⟨⟨by simp [c.len],?_,fun n a m e1 e2=>?_⟩,st⟩
 ·rw [List.nodup_append];exact ⟨c.nd,by simp,fun a ha b hb z=>by
   have:b = p:=by simpa using hb
   subst this; subst z; exact hp ha⟩
 ·by_cases hn:n < L.length
  ·rw [zQU hn] at e1;rw [zQU (by rw [<- c.len]; exact hn)] at e2;exact (c.obj n a m e1 e2).stp st fun o e=>by rw [zM (zb e h)]; exact e
  ·have hn':n = L.length:=by
    have:=(zQQ.mp e1).1;rw [zQd] at this;simp at this; omega
   subst hn';simp at e1;rw [c.len] at e2;simp at e2;subst e1; subst e2;exact new
theorem Cor.put {K:PySem.W.Frag} {L:List Addr} {M:List MO} {H:Hp} {n:Nat} {p:Addr} {o o':HO} {m:MO} (c:Cor K L M H) (h1:L[n]? = some p) (ho:H p = some o) (ht:∀ xs,o ≠ .tup xs) (hf:∀ a u,o ≠ .frz a u)
  (new:Stp L H L (L2.upd H p o') -> zDz K L (L2.upd H p o') p m):Cor K L (M.set n m) (L2.upd H p o') /\ Stp L H L (L2.upd H p o'):=by
 have st:Stp L H L (L2.upd H p o'):=by
  refine ⟨⟨[],by simp⟩,fun a ha=> .inl ha,fun a o e ha=>?_,fun a xs e=>?_,fun a b u e=>?_⟩
  ·rw [zM (show a ≠ p from fun z=>ha (by rw [z]; exact zRE h1))]; exact e
  ·rw [zM (zFG e ho (fun z=>ht xs z.symm))]; exact e
  ·rw [zM (zFG e ho (fun z=>hf b u z.symm))]; exact e
 refine ⟨⟨by simp [c.len],c.nd,fun k a m' e1 e2=>?_⟩,st⟩;rw [zRw] at e2;split at e2
 ·rename_i hk;subst hk;rw [h1] at e1; cases e1;split at e2
  ·cases e2; exact new st
  ·cases e2
 ·rename_i hk;have hne:a ≠ p:=fun z=>hk (by
   subst z;exact (List.getElem?_inj (zQQ.mp h1).1 c.nd).mp (h1.trans e1.symm))
  exact (c.obj k a m' e1 e2).stp st fun o e=>by rw [zM hne]; exact e
section
def zHq:FE:=fun _ M=>some (.dat (.ref M.length),M ++ [.dict []])
theorem zMf:QE X (.Dict [] [] pos) zHq:=.mk <| PE.imp zKx fun τ H Q ⟨L,σ,M,d,M',c,rs,hf,q⟩ p hp=>by
 unfold zHq at hf;cases hf;obtain ⟨c2,s2⟩:=c.pushO (m:=.dict []) hp ⟨[],zj,rfl⟩;refine q _ _ _ s2 c2 ?_;unfold zZ Rep;exact ⟨p,rfl,by rw [<- c.len]; simp⟩
theorem zDn (h:Rep L H d v) (e:zBQ d = some k):v = kV k:=by
 cases d with
 | int i=>cases e; unfold Rep at h; exact h
 | str x=>cases e; unfold Rep at h; exact h
 | _=>cases e
def zFr (M:Mem):EV -> Option (List D)
 | .fl xs=>some xs
 | .dat (.ref n)=>match M[n]? with
  | some (.lst xs)=>some xs
  | _=>none
 | _=>none
theorem zHY {K:PySem.W.Frag} {L:List Addr} {M:Mem} {H H0:Hp} {x:EV} {v:V} {xs:List D} (c:Cor K L M H) (r:zZ H0 L H x v) (h:zFr M x = some xs):∃ a vs,v = .ref a /\ H a = some (.lst vs) /\ zH L H xs vs:=by
 cases x with
 | fl ys=>
  cases h;obtain ⟨p,vs,rfl,_,e,_,r⟩:=r;exact ⟨p,vs,rfl,e,r⟩
 | dat d=>
  cases d with
  | ref n=>
   unfold zZ Rep at r;obtain ⟨a,rfl,e⟩:=r;unfold zFr at h;dsimp only at h;split at h
   ·rename_i ys q;cases h;obtain ⟨vs,e1,r1⟩:=c.obj n a _ e q;exact ⟨a,vs,rfl,e1,r1⟩
   ·cases h
  | _=>cases h
def zDb:K2:=fun x y M=>match zFr M x,zFr M y with
 | some xs,some ys=>if xs.length + ys.length <= sizeLine then some (.fl (xs ++ ys),M) else none
 | _,_=>none
theorem zJ7 {K:PySem.W.Frag}:zB3 K zPP zDb:=by
 intro L M M' H H0 x y d v w Q c rx ry hk q;unfold zDb at hk;split at hk
 ·rename_i xs ys e1 e2;split at hk
  ·rename_i hz;cases hk;obtain ⟨l,vs,rfl,h1,r1⟩:=zHY c rx e1;obtain ⟨l2,ws,rfl,h2,r2⟩:=zHY c ry e2;refine ⟨l,l2,vs,ws,rfl,rfl,h1,h2,by rw [r1.length,r2.length]; exact hz,fun p hp=>?_⟩;exact q L _ _ (.upd hp) (c.upd hp) (zZ.newLst (.refl L H) c c hp (r1.app r2))
  ·cases hk
 ·cases hk
theorem zNu (h1:QE X a f) (h2:QE X b g):QE X (.BinOp a .Add b pos) (fOp zDb f g):=zGb zJ7 zM8 h1 h2
theorem zHe (h1:zFr M x = some xs) (h2:zFr M y = some ys) (hz:xs.length + ys.length <= 100000) (q:P (.fl (xs ++ ys)) M):Ok (zDb x y M) P:=by
 refine ⟨_,_,?_,q⟩;unfold zDb; rw [h1,h2]; dsimp only; rw [zQc (zQo hz (by decide))]
end
end L3
namespace LR
open PySem PySem.Spec PyProof.Rows
open Sem (wp)
open Sem (wp)
open AutoSeq1 (wpAny_loadPart')
open Sem (wp)
open AutoSeq1 (wpAny_loadPart')
end LR
namespace L3
open PySem PySem.Spec PyProof.Rows L2
section
def zA9:List D -> Option (List Int)
 | []=>some []
 | .int i :: r=>match zA9 r with
  | some bs=>some (i :: bs)
  | none=>none
 | _=>none
theorem zAy:∀ {ds:List D} {bs:List Int} {vs:List V},zA9 ds = some bs -> zH L H ds vs -> vs = bs.map V.int
 | [],bs,vs,e,r=>by cases e; unfold zH at r; exact r
 | d :: ds,bs,vs,e,r=>by
  unfold zH at r;obtain ⟨v,r',rfl,r1,r2⟩:=r;cases d with
  | int k=>
   unfold zA9 at e;cases q:zA9 ds with
   | none=>rw [q] at e; cases e
   | some bs'=>
    rw [q] at e; cases e;unfold Rep at r1;rw [r1,zAy q r2]; rfl
  | _=>cases e
theorem zBP:∀ xs:List Int,zA9 (xs.map D.int) = some xs
 | []=>rfl
 | x :: r=>by rw [zQg]; unfold zA9; rw [zBP r]
theorem zI4 (xs:List Int):(xs.map V.int).all zCs = true:=by
 rw [zQy]; intro x hx; obtain ⟨i,_,rfl⟩:=zQe.mp hx; rfl
theorem zMN (i:Int) (xs:List Int):inV (.int i) (xs.map V.int) = xs.any fun y=>decide (y = i):=by
 unfold inV;rw [List.any_map];congr 1
def kIn (neg:Bool):K2:=fun x y M=>match x with
 | .dat (.int i)=>match zg M y with
  | some ds=>match zA9 ds with
   | some xs=>some (.dat (.bl (if neg then !(xs.any fun y=>decide (y = i)) else xs.any fun y=>decide (y = i))),M)
   | none=>none
  | none=>none
 | _=>none
theorem zK5 {K:PySem.W.Frag} {neg:Bool}:zB3 K (rIn K neg) (kIn neg):=by
 intro L M M' H H0 x y d v w Q cc rx ry hk q;unfold kIn at hk;split at hk
 ·rename_i i;split at hk
  ·rename_i ds e1;split at hk
   ·rename_i xs e2;cases hk;have ev:v = .int i:=by unfold zZ Rep at rx; exact rx
    obtain ⟨p,vs,rfl,hs,r⟩:=zDk cc ry e1;have:=zAy e2 r;subst this;refine ⟨p,_,rfl,hs,by rw [ev]; rfl,zI4 xs,?_⟩;rw [ev,zMN];exact q L H _ (.refl L H) cc (zBe (L:=L) (H:=H))
   ·cases hk
  ·cases hk
 ·cases hk
theorem zPD (h1:QE X a f) (h2:QE X b g) (hm:behindInMarks .In b = false:=by rfl):QT X (.Compare a [.In] [b] pos) (tst (fOp (kIn false) f g)):=zCn zK5 zI8 h1 h2 hm
theorem zK3 (h1:QE X a f) (h2:QE X b g) (hm:behindInMarks .NotIn b = false:=by rfl):QT X (.Compare a [.NotIn] [b] pos) (tst (fOp (kIn true) f g)):=zCn zK5 zFl h1 h2 hm
end
end L3
namespace L2
open PySem PySem.Spec PyProof.Rows
end L2
namespace LR
open PySem PySem.Spec PyProof.Rows
open Sem (wp)
section
theorem zHb (ht:IsTup s.heap t items) (hj:j < items.size) (hi:∃ v,items[j] = .int i v) (hno:∀ m (hm:m < items.size),m < j -> ∃ k v,items[m] = .int k v /\ k ≠ i)
  (h:Q (.int j s.toks) { s with toks:=s.toks + 1 }):wpAny (model prog w) A (call (.builtin "tuple.index") [.ref t,.int i u]) Q E s:=by
 refine zQ0 F.slot_tuple_index ht.typeIs F.entry_tuple_index ?_ (F.args_tuple_index_2 _ _);unfold Builtin.«tuple.index»;refine zQN (wpAny_of_eq (a:=((Value.ref t,[Value.int i u]):Value × List Value)) rfl ?_);refine zQN (tupleItemsOf_ ht ?_);show wpAny _ _ (pure 0 >>= _) _ _ s;refine zQN (zQP (zQN (zQP ?_)));show wpAny _ _ (forIn [:min items.size items.size] ((none:Option PySem.Fin),()) _ >>= _) _ _ s;rw [Nat.min_self];have L:∀ (k m:Nat),m + k = items.size -> m <= j -> ∀ (E':Value -> Shared -> Prop),wpAny (model prog w) A.in1 (forIn (List.range' m k) ((none:Option PySem.Fin),()) fun (i_1:Nat) (__s:Option PySem.Fin × Unit)=>
       match items[i_1]? with
       | some y=>do
        let __do_lift <- eqBool y (Value.int i u)
        if __do_lift = true then do
          let __do_lift <- retInt (i_1:Int);pure (ForInStep.done (some __do_lift,()))
         else pure (ForInStep.yield (none,()))
       | x=>pure (ForInStep.yield (none,()))) (fun r s'=>r = (some (Fin.done (Flow.ret (Value.int j s.toks))),()) /\ s' = { s with toks:=s.toks + 1 }) E' s:=by
  intro k;induction k with
  | zero=>intro m hm hle; omega
  | succ k ih=>
   intro m hm hle E';have hlt:m < items.size:=by omega
   rw [List.range'_succ,List.forIn_cons];have e:items[m]? = some items[m]:=Array.getElem?_eq_getElem hlt;rw [e];dsimp only;by_cases q:m = j
   ·subst q;obtain ⟨v,hv⟩:=hi;rw [hv];refine zQN (zQN (wpAny_eqBool_int ?_));rw [zQc (by simp)];exact zQN (zQN (wpAny_mkInt (zQP (zQP (zQP ⟨rfl,rfl⟩)))))
   ·obtain ⟨k',v,hv,hk⟩:=hno m hlt (by omega);rw [hv];refine zQN (zQN (wpAny_eqBool_int ?_));rw [zQf (by simpa using hk)];exact zQP (ih (m + 1) (by omega) (by omega) E')
 refine zQN ?_;rw [Std.Legacy.Range.forIn_eq_forIn_range'];have er:List.range' ([:items.size]:Std.Legacy.Range).start ([:items.size]:Std.Legacy.Range).size ([:items.size]:Std.Legacy.Range).step = List.range' 0 items.size:=by simp [Std.Legacy.Range.size]
 rw [er];refine zQt (L items.size 0 (by omega) (zQ9 _) _) (fun r s' ⟨hr,hs⟩=>?_) fun _ _ e=>e;subst hr hs;exact zQP ⟨_,rfl,h⟩
end
end LR
namespace L3
open PySem PySem.Spec PyProof.Rows L2
section
theorem zFF {xs:List Int} {its:List Value} (r:zU (xs.map V.int) its) (hm:m < its.toArray.size):∃ v,its.toArray[m] = .int (xs.getD m 0) v:=by
 have hl:m < xs.length:=by have:=r.length; simp at this hm; omega
 obtain ⟨u,e,q⟩:=r.get (i:=m) (x:=.int (xs.getD m 0)) (by simp [hl]);obtain ⟨t,rfl⟩:=q;refine ⟨t,?_⟩;have:its.toArray[m]? = some (.int (xs.getD m 0) t):=by simpa using e
 rw [Array.getElem?_eq_getElem hm] at this;exact zRN this
theorem zLF:MtR X "tuple.index" (fun x vs H Q=>∃ (p:Addr) (i:Int) (xs:List Int),x = .ref p /\ vs = [.int i] /\ SqT X.K H p (xs.map V.int) /\ i ∈ xs /\ Q (.int (xs.idxOf i)) H):=by
 intro zB s σ H x xs v us Q I rx rv z;obtain ⟨p,i,ns,rfl,rfl,hp,hi,q⟩:=z;cases rx;obtain ⟨u,rfl,ru⟩:=rv.one;obtain ⟨t,rfl⟩:=ru;obtain ⟨its,r,ht,hz⟩:=I.tuple hp;have hl:its.toArray.size = ns.length:=by have:=r.length; simp at this ⊢; omega
 have hj:ns.idxOf i < ns.length:=List.idxOf_lt_length_iff.mpr hi;refine LR.zHb (j:=ns.idxOf i) ht (by omega) ?_ (fun m hm hlt=>?_) ⟨.int (ns.idxOf i),H,I.tok _,⟨_,rfl⟩,q⟩
 ·obtain ⟨v,e⟩:=zFF r (m:=ns.idxOf i) (by omega);refine ⟨v,?_⟩;rw [e,zQS,zQR hj];simp
 ·obtain ⟨v,e⟩:=zFF r (m:=m) hm;refine ⟨_,v,e,fun z=>?_⟩;have hm':m < ns.length:=by omega
  rw [zQS,zQR hm'] at z;have:=List.not_of_lt_findIdx (xs:=ns) (p:=(· == i)) (show m < ns.findIdx (· == i) from hlt);simp at z this;exact this z
end
end L3
namespace ST
open PySem
open Sem (wp)
section
variable [DecidableEq K]
def ins (ks:List K) (k:K):List K:=if k ∈ ks then ks else ks ++ [k]
variable {knd:KeyKind prog w K}
variable {s:Shared}
end
open PySem.Spec PyProof.Rows
open Sem (wp)
open Sem (wp)
open Sem (wp)
open Sem (wp)
end ST
namespace L2
open PySem PySem.Spec PyProof.Rows ST
end L2
namespace ST
open PySem PySem.Spec PyProof.Rows
open Sem (wp)
section
variable {prog:Program} {w:World} {A:Around} {E:Value -> Shared -> Prop} {s:Shared}
variable {K:Type} [DecidableEq K] {knd:KeyKind prog w K}
def zQ (ks:List K):List K:=ks.foldl ins []
theorem zG7 (ks:List K) (k:K):zQ (ks ++ [k]) = ins (zQ ks) k:=by unfold zQ; rw [List.foldl_append]; rfl
theorem zLb (ks:List K) (k:K):(ins ks k).length <= ks.length + 1:=by unfold ins; split <;> simp
theorem zBK (ks:List K):(zQ ks).length <= ks.length:=by
 have:∀ (l acc:List K),(l.foldl ins acc).length <= acc.length + l.length:=by
  intro l;induction l with
  | nil=>intro acc; simp
  | cons x r ih=>intro acc; have:=ih (ins acc x); have:=zLb acc x; simp only [List.foldl_cons,List.length_cons]; omega
 simpa [zQ] using this ks []
theorem zMZ (ks:List K) (k x:K):x ∈ ins ks k ↔ x ∈ ks \/ x = k:=by
 unfold ins;split
 ·rename_i h; constructor
  ·exact .inl
  ·rintro (z | z)
   ·exact z
   ·rw [z]; exact h
 ·simp
theorem zAU (ks:List K) (x:K):x ∈ zQ ks ↔ x ∈ ks:=by
  have:∀ (l acc:List K),x ∈ l.foldl ins acc ↔ x ∈ acc \/ x ∈ l:=by
    intro l;induction l with
    | nil=>intro acc; simp
    | cons y r ih=>intro acc; rw [List.foldl_cons,ih,zMZ,zQZ]; simp [or_assoc]
  simpa [zQ] using this ks []
theorem zI0 (h : ks.Nodup) (k : K) : (ins ks k).Nodup := by
  unfold ins;split
  · exact h
  · rename_i q
    rw [List.nodup_append]
    exact ⟨h, by simp, fun a ha b hb z => by have : b = k := by simpa using hb
                                             subst this; subst z; exact q ha⟩
theorem zC2 (ks:List K):(zQ ks).Nodup:=by
 have:∀ (l acc:List K),acc.Nodup -> (l.foldl ins acc).Nodup:=by
  intro l;induction l with
  | nil=>intro acc h; exact h
  | cons y r ih=>intro acc h; exact ih _ (zI0 h y)
 exact this ks [] (by simp)
variable {R:Result -> Shared -> Prop} {I:Addr} {fp wr:List Addr} {G:Array GenState -> Array GenState -> Prop} {n:Nat} {P:Nat -> Value -> Prop} {St:Nat -> Shared -> Prop}
end
end ST
namespace L2
open PySem PySem.Spec PyProof.Rows ST
end L2
namespace L3
open PySem PySem.Spec PyProof.Rows L2 ST
open AutoSeq1 (wpAny_loadPart')
theorem zOV (hh:A.handled = none) (it l:Addr) (hne:l ≠ it) (items:Array Value) :
  Draws prog w A it [it,l] items.size (fun i v=>items[i]? = some v) (fun i h=>h.IsTupleIter it l i /\ h.IsTuple l items) where
 live:=fun _ _ st=>let ⟨o,ho,_⟩:=st.1; ⟨o,ho⟩;frame:=fun _ _ _ st hk=>⟨let ⟨o,ho,r⟩:=st.1; ⟨o,hk it (by simp) o ho,r⟩,let ⟨o,ho,r⟩:=st.2; ⟨o,hk l (by simp) o ho,r⟩⟩;item:=fun i s Q E hi st hQ=>by
  refine zBO st.1 st.2 (x:=items[i]) (by simp [hi]) fun h' hit' hs'=>?_;exact hQ _ h' s.toks (by simp [hi]) ⟨hit',Tup.but st.2 hs'.extBut hne⟩ hs'
 done:=fun s Q E st hE=>zBg hh st.1 st.2 (by simp) hE
theorem zHE (l:Addr) (items:Array Value) (n:Nat) (dct:Option Addr) (sl:Array (Option Value)) :
  Meets (Builtin.«enumerate.__new__» ⟨[.type "enumerate", .ref l],[]⟩) (fun _ R s=>s.heap.get? l = some { cls:=.type "tuple", dict:=dct,data:=.seq items n,slots:=sl } /\
   R (.ok (.ret (.ref (s.heap.push { cls:=.type "tuple_iterator", data:=.fields #[.ref l,.int 0 0] }).objs.size)))
    { s with heap:=(s.heap.push { cls:=.type "tuple_iterator", data:=.fields #[.ref l,.int 0 0] }).push { cls:=.type "enumerate", data:=.fields #[.none,.bool false,.ref s.heap.objs.size,rawInt 0,.none,.none] } }) :=
 .of_wp fun prog w A R s h=>by
  obtain ⟨hp,g,d,tk,os⟩:=s; obtain ⟨hl,h⟩:=h;have hsub:=sub_enumerate;have hL:Heap.IsTuple (Shared.heap ⟨hp,g,d,tk,os⟩) l items:=⟨_,hl,rfl,n,rfl⟩;wp_walk using wpAny_loadPart' hl;refine wpAny_stack_any fun st=>zQP ?_;split
  ·rename_i c _ _ _ _ _;cases (c == Value.type "enumerate")
   ·wp_walk using wpAny_loadPart' hl,wpAny_pyIter_tuple hL;exact ⟨_,rfl,h⟩
   ·wp_walk using wpAny_loadPart' hl,wpAny_pyIter_tuple hL;exact ⟨_,rfl,h⟩
  ·wp_walk using wpAny_loadPart' hl,wpAny_pyIter_tuple hL;exact ⟨_,rfl,h⟩
section
theorem zHw (hL:s.heap.IsTuple l items)
  (h:∀ h',IsEnum h' (s.heap.objs.size + 1) s.heap.objs.size 0 .none -> h'.IsTupleIter s.heap.objs.size l 0 -> (∀ c o,s.heap.get? c = some o -> h'.get? c = some o) -> Q (.ref (s.heap.objs.size + 1)) { s with heap:=h' }) :
  wpAny (model prog w) A (call (.type "enumerate") [.ref l]) Q E s:=by
 obtain ⟨o,ho,hc,n,hd⟩:=hL;obtain ⟨ocls,odict,odata,oslots⟩:=o;simp only at hc hd;subst hc; subst hd;refine callType_new PySem.F.called_enumerate (by decide) (PySem.F.typeCall_enumerate_1 _) (PySem.F.newCall_enumerate_1 _) (fun obj=>PySem.F.args_object_init_2 obj _) PySem.F.entry_enumerate_new (zHE l items n odict oslots) ⟨ho,?_⟩;have q1:(s.heap.push { cls:=.type "tuple_iterator", data:=.fields #[.ref l,.int 0 0] }).objs.size = s.heap.objs.size + 1:=zQ3 ..;have p2:((s.heap.push { cls:=.type "tuple_iterator", data:=.fields #[.ref l,.int 0 0] }).push { cls:=.type "enumerate", data:=.fields #[.none,.bool false,.ref s.heap.objs.size,rawInt 0,.none,.none] }).get? (s.heap.push { cls:=.type "tuple_iterator", data:=.fields #[.ref l,.int 0 0] }).objs.size = some _:=zQX _ rfl;rw [q1] at p2;rw [q1];exact ⟨⟨_,p2,rfl⟩,h _ p2 ⟨_,zQO _ (zQX _ rfl),rfl,rfl⟩ fun c o x=>zQO _ (zQO _ x)⟩
theorem zGR (he:IsEnum s.heap e it i old)
  (hn:∀ (Q':Value -> Shared -> Prop) (E':Value -> Shared -> Prop),(∀ h' x,Heap.ExtBut it s.heap h' -> (∃ o,h'.get? x = some o /\ o.cls = .type "StopIteration") -> E' (.ref x) { s with heap:=h' }) -> wpAny (model prog w) A.in1 (Builtin.SmallTypes.nextOf (.ref it)) Q' E' s)
  (hQ:∀ h',Heap.ExtBut it s.heap h' -> Q none { s with heap:=h' }):wpAny (model prog w) A (pyNext (.ref e)) Q E s:=by
 have hT:s.TypeIs (.ref e) "enumerate" := ⟨_,he,rfl⟩;unfold pyNext
 refine zQN (wpAny_attempt (zQz (name:=Str.ofString "__next__") hT PySem.F.slot_enumerate_next
  (zQ0 PySem.F.slot_enumerate_next hT PySem.F.entry_enumerate_next ?_ (PySem.F.args_enumerate_next_1 _))))
 show wpAny _ _ (field (.ref e) 2 >>= _) _ _ _;refine zQN (zQ2 he rfl (x:=.ref it) rfl ?_);refine zQN (hn _ _ fun h' x he' hx'=>?_);obtain ⟨o,ho,hc⟩:=hx';refine zQN (wpAny_isInstance (T := "StopIteration") (b:=true) ⟨o,ho,hc⟩ isSubtype_stop ?_);exact zQP (hQ _ he')
end
def zGt (K:PySem.W.Frag) (isT:Bool) (a:Addr):It :=
 ⟨fun i H=>∃ xs x,(if isT then SqT K H a xs else SqL K H a xs) /\ xs[i]? = some x,
  fun i H v H'=>∃ T x,v = .ref T /\ H T = none /\ H' = upd H T (.tup [.int i,x]) /\ ∀ xs,(if isT then SqT K H a xs else SqL K H a xs) -> xs[i]? = some x,
  fun i H=>∃ xs,(if isT then SqT K H a xs else SqL K H a xs) /\ xs.length <= i⟩
def zLo (isT:Bool) (it a:Addr) (i:Nat) (h:Heap):Prop:=if isT then h.IsTupleIter it a i else h.IsListIter it a i
theorem zJe {P:Program} {w:World} {K:PySem.W.Frag} {es:List Expr} {ek:Nat} {ep:Pos} {isT:Bool} {e it a:Addr} (hei:e ≠ it) (hae:a ≠ e) (hai:a ≠ it) :
  Turn P w K (.Tuple es ek ep) (zGt K isT a) [e,it] e (fun i h=>(∃ old,IsEnum h e it i old) /\ zLo isT it a i h) where
 mem:=by simp
 obj:=fun i h ⟨⟨old,he⟩,st⟩ c hc=>by
  simp only [zQZ,zQs,zRi] at hc;rcases hc with rfl | rfl
  ·exact ⟨_,he,fun v m=>by cases m⟩
  ·cases isT with
   | true=>obtain ⟨o1,e1,_,d1⟩:=(show h.IsTupleIter c a i from st); exact ⟨_,e1,fun v m=>by rw [d1] at m; cases m⟩
   | false=>obtain ⟨o1,e1,_,d1⟩:=(show h.IsListIter c a i from st); exact ⟨_,e1,fun v m=>by rw [d1] at m; cases m⟩
 keep:=fun i h h' ⟨⟨old,he⟩,st⟩ k=>by
  refine ⟨⟨old,k e (by simp) _ he⟩,?_⟩;cases isT with
  | true=>obtain ⟨o1,e1,r⟩:=(show h.IsTupleIter it a i from st); exact ⟨o1,k it (by simp) _ e1,r⟩
  | false=>obtain ⟨o1,e1,r⟩:=(show h.IsListIter it a i from st); exact ⟨o1,k it (by simp) _ e1,r⟩
 item:=by
  intro X hP hw hK hc i zB s σ H E I hf Z hg;subst hP hw hK;obtain ⟨⟨old,he⟩,st⟩:=Z;obtain ⟨xs,x,sa,hx⟩:=hg;have hch:∀ c ∈ [e,it],zBq X zB H c:=hf;have elt:e < s.heap.objs.size:=zQY he
  have fin:∀ (its:List Value) (u:Value) (h':Heap) (tk:Nat),zU xs its -> its[i]? = some u -> IsEnumOut h' e it ((i:Int) + 1) u s.heap.objs.size -> zLo isT it a (i + 1) h' -> h'.get? s.heap.objs.size = some { cls:=.type "tuple", data:=.seq #[.int i tk,u] } ->
    (∀ b o,b ≠ e -> b ≠ it -> s.heap.get? b = some o -> h'.get? b = some o) -> it < s.heap.objs.size ->
    ∃ u',some (Value.ref s.heap.objs.size) = some u' /\ wpAny (model X.prog X.w) X.A (letOwnedTupleGo (.Tuple es ek ep) (.ref e) u') (fun _ s2=>∃ x H',Inv X zB σ H' s2 /\ ze x u' /\ (zGt X.K isT a).yld i H x H' /\ ((∃ old,IsEnum s2.heap e it ((i + 1:Nat):Int) old) /\ zLo isT it a (i + 1) s2.heap) /\ ∀ b ∈ [e,it],H' b = none) E { s with heap:=h',toks:=tk + 1 }:=by
   intro its u h' tk rv hu ho st' hT hk ilt;refine ⟨_,rfl,wpAny_letOwnedTupleGo_enum ho fun h2 he2 e2=>?_⟩;have kk:∀ c o,c ∉ [e,it] -> s.heap.get? c = some o -> h2.get? c = some o:=fun c o n q=>by
    simp only [zQZ,zQs,zRi,not_or] at n;exact e2.extBut _ _ n.1 (hk c o n.1 n.2 q)
   have NT:=e2.extBut _ _ (zRs elt) hT;have hfr:H s.heap.objs.size = none:=I.hok.fresh (zQT _);obtain ⟨u2,hu2,ru⟩:=rv.get hx;rw [hu] at hu2; cases hu2;refine ⟨.ref s.heap.objs.size,upd H s.heap.objs.size (.tup [.int i,x]),zCT (s:=s) (h':=h2) (t':=tk + 1) I hch kk (zQT _) ?_,rfl,⟨_,x,rfl,hfr,rfl,fun ws hw=>?_⟩,⟨⟨u,by simpa using he2⟩,?_⟩,fun c hm=>?_⟩
   ·exact ⟨by show 2 <= sizeLine; decide,[.int i tk,u],.cons ⟨tk,rfl⟩ (.cons ru .nil),⟨_,NT,rfl,⟨_,rfl⟩,rfl⟩⟩
   ·cases isT with
    | true=>rw [I.tuple_inj hw sa]; exact hx
    | false=>rw [I.list_inj hw sa]; exact hx
   ·cases isT with
    | true=>obtain ⟨o1,e1,r⟩:=(show h'.IsTupleIter it a (i + 1) from st'); exact ⟨o1,e2.extBut _ _ hei.symm e1,r⟩
    | false=>obtain ⟨o1,e1,r⟩:=(show h'.IsListIter it a (i + 1) from st'); exact ⟨o1,e2.extBut _ _ hei.symm e1,r⟩
   ·have lt:c < s.heap.objs.size:=by
     simp only [zQZ,zQs,zRi] at hm;rcases hm with rfl | rfl
     ·exact elt
     ·exact ilt
    rw [zM (zQi lt)];exact (hf c hm).1
  have hef:e ∉ [it,a]:=by simp only [zQZ,zQs,zRi,not_or]; exact ⟨hei,hae.symm⟩
  cases isT with
  | true=>
   obtain ⟨its,rv,p1,z1⟩:=I.tuple sa;have st':s.heap.IsTupleIter it a i:=st;obtain ⟨o1,e1,_⟩:=id st';refine wpAny_pyNext_enum_itemD (zOV (prog:=X.prog) (w:=X.w) (A:=X.A.in1) (I.ok.hd hc) it a hai its.toArray) he ⟨st',show s.heap.IsTuple a its.toArray from p1⟩ (by have:=rv.length; have:=(zQQ.mp hx).1; rw [zQV]; omega) hei hef fun u h' tk hu ho hs hT _ hk=>?_;exact fin its u h' tk rv (by simpa using hu) ho hs.1 hT hk (zQY e1)
  | false=>
   obtain ⟨its,rv,p1,z1⟩:=I.list sa;have st':s.heap.IsListIter it a i:=st;obtain ⟨o1,e1,_⟩:=id st';refine wpAny_pyNext_enum_itemD (Draws.list (prog:=X.prog) (w:=X.w) (A:=X.A.in1) (I.ok.hd hc) it a hai its.toArray) he ⟨st',p1.isList⟩ (by have:=rv.length; have:=(zQQ.mp hx).1; rw [zQV]; omega) hei hef fun u h' tk hu ho hs hT _ hk=>?_;exact fin its u h' tk rv (by simpa using hu) ho hs.1 hT hk (zQY e1)
 done:=by
  intro X hP hw hK hc i zB s σ H E I hf Z hg;subst hP hw hK;obtain ⟨⟨old,he⟩,st⟩:=Z;obtain ⟨xs,sa,hz⟩:=hg;have out:∀ h',Heap.ExtBut it s.heap h' -> (none:Option Value) = none /\ Inv X zB σ H { s with heap:=h' }:=fun h' x=>⟨rfl,zBk (s:=s) (h':=h') (t':=s.toks) I hf fun c o n q=>x c o (fun m=>n (by simp [m])) q⟩;cases isT with
  | true=>
   obtain ⟨its,rv,p1,z1⟩:=I.tuple sa;refine zGR he (fun Q' E' hq=>zBg (I.ok.hd hc) (show s.heap.IsTupleIter it a i from st) (show s.heap.IsTuple a its.toArray from p1) (by have:=rv.length; simp; omega) hq) out
  | false=>
   obtain ⟨its,rv,p1,z1⟩:=I.list sa;refine zGR he (fun Q' E' hq=>wpAny_nextOf_list_end (I.ok.hd hc) (show s.heap.IsListIter it a i from st) p1.isList (by have:=rv.length; simp; omega) hq) out
 self:=fun _ _ _ _ _ Z h=>let ⟨⟨_,he⟩,_⟩:=Z; wpAny_pyIter_enum he h
section
theorem zLf {te:TE} (hg:Gl X "enumerate") (hm:X.mg "enumerate" = none) (ha:PE X a te) (hs:starEach [a] X.env = (false,eval a X.env) :: starEach [] X.env:=by rfl) (hpl:(backTo pos (starEach [] X.env)).any (·.1) = false:=by rfl) :
  PI X (.Tuple es ek ep) (.Call (.Name "enumerate" p) [a] [] pos) (fun σ H R=>te σ H fun x H1=>∃ l,x = .ref l /\ ((∃ xs,SqT X.K H1 l xs) /\ R (zGt X.K true l) H1 \/ (∃ xs,SqL X.K H1 l xs) /\ R (zGt X.K false l) H1)):=by
 intro zB s σ H R I h;refine wpAny_Call_Name_kw (zCA I hg hm (by rfl) ?_ (by decide) (by decide));refine callWith_type1 ?_ hs hpl;rw [hs];refine Calls.spliced_cons (thn (ha zB s σ H _ I h) fun u s1 ⟨x,H1,I1,r1,l,hx,q⟩=>Calls.spliced_nil ?_);subst hx;cases r1
 have out:∀ (isT:Bool) (h':Heap),l < s1.heap.objs.size -> IsEnum h' (s1.heap.objs.size + 1) s1.heap.objs.size 0 .none -> zLo isT s1.heap.objs.size l 0 h' -> (∀ c o,s1.heap.get? c = some o -> h'.get? c = some o) -> R (zGt X.K isT l) H1 ->
   wpAny (model X.prog X.w) X.A (pyIter (.ref (s1.heap.objs.size + 1))) (PIE X zB σ (.Tuple es ek ep) R) X.xe { s1 with heap:=h' }:=by
  intro isT h' hl he st kp q;refine wpAny_pyIter_enum (s:={ s1 with heap:=h' }) he ?_;refine ⟨s1.heap.objs.size + 1,[s1.heap.objs.size + 1,s1.heap.objs.size],_,_,H1,rfl,I1.kept (t':=s1.toks) kp,zJe (isT:=isT) (zRs (Nat.lt_succ_self _)) (zQi (Nat.lt_succ_of_lt hl)) (zQi hl),⟨⟨_,he⟩,st⟩,fun c hc=>?_,q⟩;have ge:s1.heap.objs.size <= c:=by
   simp only [zQZ,zQs,zRi] at hc;rcases hc with rfl | rfl
   ·exact Nat.le_succ _
   ·exact zQT _
  exact I1.fpOk ge (I1.hok.fresh ge)
 rcases q with ⟨⟨xs,hq⟩,q⟩ | ⟨⟨xs,hq⟩,q⟩
 ·obtain ⟨its,rv,p1,_⟩:=I1.tuple hq;have hl:l < s1.heap.objs.size:=by obtain ⟨_,e,_⟩:=p1; exact zQY e
  exact zHw (show s1.heap.IsTuple l its.toArray from p1) fun h' he st kp=>out true h' hl he st kp q
 ·obtain ⟨its,rv,p1,_⟩:=I1.list hq;have hl:l < s1.heap.objs.size:=by obtain ⟨_,_,e,_⟩:=p1; exact zQY e
  exact call_enumerate_list p1.isList fun h' he st _ kp=>out false h' hl he st kp q
def zFt (xs:List D):List D:=((List.range xs.length).zip xs).map fun q=>D.tup [.int (q.1:Nat),q.2]
theorem zKi {xs:List D} {i:Nat} {d:D} (h:(zFt xs)[i]? = some d):∃ x,xs[i]? = some x /\ d = .tup [.int (i:Nat),x]:=by
 unfold zFt at h;rw [zQk] at h;cases e:((List.range xs.length).zip xs)[i]? with
 | none=>rw [e] at h; cases h
 | some pr=>
  rw [e] at h;cases h;obtain ⟨f1,f2⟩:=zUT.mp e;have hi:i < xs.length:=(zQQ.mp f2).1;rw [List.getElem?_range hi] at f1;cases f1;exact ⟨pr.2,f2,rfl⟩
theorem zKO (xs:List D):(zFt xs).length = xs.length:=by unfold zFt; simp
def zDY (f:FE):FI:=fun σ M=>match f σ M with
 | some (x,M1)=>match zg M1 x with
  | some xs=>some (zFt xs,zHy x xs,M1)
  | none=>none
 | none=>none
theorem zL9 {g:FE} (hg:Gl X "enumerate") (hm:X.mg "enumerate" = none) (h:QE X a g) (hs:starEach [a] X.env = (false,eval a X.env) :: starEach [] X.env:=by rfl) (hpl:(backTo pos (starEach [] X.env)).any (·.1) = false:=by rfl) :
  QI X (.Tuple es ek ep) (.Call (.Name "enumerate" p) [a] [] pos) (zDY g):=.mk <| PI.imp (zLf hg hm h.un hs hpl) fun τ H R zz=>by
 obtain ⟨L,σ,M,xs,gd,M',c,rs,hf,q⟩:=zz;unfold zDY at hf;split at hf
 ·rename_i y M1 e1;split at hf
  ·rename_i zs e2;cases hf;refine ⟨L,σ,M,_,_,c,rs,e1,fun L1 H1 v s1 c1 r1=>?_⟩
   have step:∀ (isT:Bool) (l:Addr) (L2:List Addr) (H2:Hp) (vs:List V),(if isT then SqT X.K H2 l vs else SqL X.K H2 l vs) -> zH L2 H2 zs vs ->
     (∀ (i:Nat) d,(zFt zs)[i]? = some d -> (zGt X.K isT l).go i H2 /\ ∀ v H'',(zGt X.K isT l).yld i H2 v H'' -> (∀ a o,H2 a = some o -> H'' a = some o) /\ Rep L2 H'' d v) /\ (zGt X.K isT l).stop (zFt zs).length H2:=by
    intro isT l L2 H2 vs hq r;refine ⟨fun i d hd=>?_,⟨vs,hq,by rw [zKO,r.length]; exact zQT _⟩⟩;obtain ⟨x,hx,rfl⟩:=zKi hd;obtain ⟨u,hu,ru⟩:=r.get hx;refine ⟨⟨vs,u,hq,hu⟩,fun v H3 hy=>?_⟩;obtain ⟨T,x',rfl,hT,rfl,hxx⟩:=hy;have ex:=hxx vs hq;rw [hu] at ex; cases ex;exact ⟨fun a o e=>by rw [zM (zb e hT)]; exact e,Rep.newTup hT (.cons zAE (.cons ru .nil))⟩
   unfold zg at e2;cases t:zBD y with
   | some ws=>
    rw [t] at e2; cases e2;obtain ⟨a,vs,rfl,e3,r3⟩:=zBE r1 t;refine ⟨a,rfl,.inl ⟨⟨vs,.of e3⟩,q L1 H1 _ s1 c1 fun L2 H2 M2 s2 c2 _=>?_⟩⟩;exact step true a L2 H2 vs (.of (s2.tup a vs e3)) (r3.stp s2)
   | none=>
    rw [t] at e2;obtain ⟨a,vs,rfl,e3,r3⟩:=zAX c1 r1 e2;refine ⟨a,rfl,.inr ⟨⟨vs,.inl e3⟩,q L1 H1 _ s1 c1 fun L2 H2 M2 s2 c2 hgd=>?_⟩⟩;have key:∃ vs',SqL X.K H2 a vs' /\ zH L2 H2 zs vs':=by
     cases y with
     | fl ys=>
      cases e2;obtain ⟨p',vs',hp',_,e5,e6,r6⟩:=r1;cases hp';exact ⟨vs',.of (s2.old _ _ e5 e6),r6.stp s2⟩
     | dat d=>
      cases d with
      | ref n=>
       unfold zZ Rep at r1;obtain ⟨a',ha',e5⟩:=r1;cases ha';have e6:L2[n]? = some a:=by obtain ⟨N,hN⟩:=s2.pre; rw [hN]; exact zBz e5
       rcases hgd with z | z
       ·obtain ⟨vs',e7,r7⟩:=c2.obj n a _ e6 z; exact ⟨vs',.of e7,r7⟩
       ·obtain ⟨o,vs',e7,r7⟩:=c2.obj n a _ e6 z; exact ⟨vs',.inl (.inr ⟨o,e7⟩),r7⟩
      | _=>cases e2
    obtain ⟨vs',hq,r7⟩:=key;exact step false a L2 H2 vs' hq r7
  ·cases hf
 ·cases hf
end
section
variable [DecidableEq κ]
def zBM (kf:D -> Option κ) (kvs:List (D × D)) (k:κ):Option D:=(kvs.find? fun p=>decide (kf p.1 = some k)).map (·.2)
def zEx (kf:D -> Option κ) (kvs:List (D × D)) (k:κ) (kd v:D):List (D × D) :=
 if (kvs.any fun p=>decide (kf p.1 = some k)) = true then kvs.map fun p=>if kf p.1 = some k then (p.1,v) else p else kvs ++ [(kd,v)]
theorem zCL (k:κ):∀ {kvs:List (D × D)} {vs:List (κ × V)},zAN kf L H kvs vs -> (zBM kf kvs k = none /\ zCG vs k = none) \/ ∃ d v,zBM kf kvs k = some d /\ zCG vs k = some v /\ Rep L H d v
 | [],vs,h=>by unfold zAN at h; subst h; exact .inl ⟨rfl,rfl⟩
 | p :: r,vs,h=>by
  obtain ⟨k',v,r',rfl,e,h1,h2⟩:=h;by_cases q:k' = k
  ·subst q;exact .inr ⟨p.2,v,by unfold zBM; rw [zR9,e]; simp,by rw [zCt rfl],h1⟩
  ·have e1:zBM kf (p :: r) k = zBM kf r k:=by unfold zBM; rw [zR9,e]; simp [q]
   rw [e1,zC5 q];exact zCL k h2
theorem zGI (k:κ):∀ {kvs:List (D × D)} {vs:List (κ × V)},zAN kf L H kvs vs -> (kvs.any fun p=>decide (kf p.1 = some k)) = (vs.any fun kv=>decide (kv.1 = k))
 | [],vs,h=>by unfold zAN at h; subst h; rfl
 | p :: r,vs,h=>by
  obtain ⟨k',v,r',rfl,e,h1,h2⟩:=h;rw [zSz,zSz,zGI k h2,e];simp
theorem zD0 (k:κ) (hd:Rep L H d u):∀ {kvs:List (D × D)} {vs:List (κ × V)},zAN kf L H kvs vs -> zAN kf L H (kvs.map fun p=>if kf p.1 = some k then (p.1,d) else p) (vs.map fun kv=>if kv.1 = k then (kv.1,u) else kv)
 | [],vs,h=>by unfold zAN at h; subst h; rfl
 | p :: r,vs,h=>by
  obtain ⟨k',v,r',rfl,e,h1,h2⟩:=h;rw [zQg,zQg];by_cases q:k' = k
  ·subst q;rw [zQc e,zQc rfl];exact ⟨k',u,_,rfl,e,hd,zD0 k' hd h2⟩
  ·rw [zQf (by rw [e]; simpa using q),zQf q];exact ⟨k',v,_,rfl,e,h1,zD0 k hd h2⟩
theorem zFP (hk:kf kd = some k) (hd:Rep L H d u):∀ {kvs:List (D × D)} {vs:List (κ × V)},zAN kf L H kvs vs -> zAN kf L H (kvs ++ [(kd,d)]) (vs ++ [(k,u)])
 | [],vs,h=>by unfold zAN at h; subst h; exact ⟨k,u,[],rfl,hk,hd,rfl⟩
 | p :: r,vs,h=>by
  obtain ⟨k',v,r',rfl,e,h1,h2⟩:=h;exact ⟨k',v,_,rfl,e,h1,zFP hk hd h2⟩
theorem zIf {kf:D -> Option κ} {L:List Addr} {H:Hp} {k:κ} {kd d:D} {u:V} (hk:kf kd = some k) (hd:Rep L H d u) {kvs:List (D × D)} {vs:List (κ × V)} (h:zAN kf L H kvs vs):zAN kf L H (zEx kf kvs k kd d) (zBR vs k u):=by
 unfold zEx zBR;rw [zGI k h];split
 ·exact zD0 k hd h
 ·exact zFP hk hd h
end
theorem zGk:∀ {ds:List D} {vs:List V} {ks:List Key},zH L H ds vs -> zEa ds = some ks -> vs = ks.map kV
 | [],vs,ks,h,e=>by cases e; unfold zH at h; exact h
 | d :: ds,vs,ks,h,e=>by
  unfold zH at h;obtain ⟨v,r,rfl,h1,h2⟩:=h;unfold zEa at e;cases e1:zBQ d with
  | none=>rw [e1] at e; cases e
  | some k=>
   cases e2:zEa ds with
   | none=>rw [e1,e2] at e; cases e
   | some ks'=>
    rw [e1,e2] at e; cases e;rw [zDn h1 e1,zGk h2 e2]; rfl
theorem zHr (h:Rep L H d v) (e:tkD d = some ks):∃ b,v = .ref b /\ H b = some (.tup (ks.map kV)):=by
 cases d with
 | tup ds=>
  unfold Rep at h;obtain ⟨a,vs,rfl,e1,r⟩:=h;exact ⟨a,rfl,by rw [e1,zGk r e]⟩
 | _=>cases e
def zDZ (M:Mem) (x:EV) (k:D):Option (Option D):=match x with
 | .dat (.ref n)=>match M[n]? with
  | some (.dict kvs)=>match zBQ k with
   | some kk=>some (zBM zBQ kvs kk)
   | none=>none
  | some (.dicT kvs)=>match tkD k with
   | some kk=>some (zBM tkD kvs kk)
   | none=>none
  | some (.froK kvs)=>match zBQ k with
   | some kk=>some (zBM zBQ kvs kk)
   | none=>none
  | some (.froT kvs)=>match tkD k with
   | some kk=>some (zBM tkD kvs kk)
   | none=>none
  | _=>none
 | _=>none
def zOq (L:List Addr) (H:Hp):Option D -> Option V -> Prop
 | none,o=>o = none
 | some d,o=>∃ v,o = some v /\ Rep L H d v
theorem zGO {K:PySem.W.Frag} {L:List Addr} {M:Mem} {H H0:Hp} {x:EV} {v w:V} {k:D} {o:Option D} (c:Cor K L M H) (rx:zZ H0 L H x v) (rk:Rep L H k w) (e:zDZ M x k = some o):∃ a ov,v = .ref a /\ zC1 H a w ov /\ zOq L H o ov:=by
 cases x with
 | fl xs=>cases e
 | dat d=>
  cases d with
  | ref n=>
   unfold zZ Rep at rx;obtain ⟨a,rfl,ea⟩:=rx;unfold zDZ at e;dsimp only at e;cases q:M[n]? with
   | none=>rw [q] at e; cases e
   | some m=>
    rw [q] at e;have z:=c.obj n a m ea q;cases m with
    | dict kvs=>
     cases e2:zBQ k with
     | none=>rw [e2] at e; cases e
     | some kk=>
      rw [e2] at e;cases e;obtain ⟨vs,e3,r⟩:=z;refine ⟨a,zCG vs kk,rfl,?_,?_⟩
      ·rw [zDn rk e2]; exact zC1.k e3
      ·rcases zCL kk r with ⟨h1,h2⟩ | ⟨d,v,h1,h2,h3⟩
       ·rw [h1,h2]; rfl
       ·rw [h1,h2]; exact ⟨v,rfl,h3⟩
    | dicT kvs=>
     cases e2:tkD k with
     | none=>rw [e2] at e; cases e
     | some kk=>
      rw [e2] at e;cases e;obtain ⟨vs,e3,r⟩:=z;obtain ⟨b,rfl,eb⟩:=zHr rk e2;refine ⟨a,zCG vs kk,rfl,zC1.t e3 eb,?_⟩;rcases zCL kk r with ⟨h1,h2⟩ | ⟨d,v,h1,h2,h3⟩
      ·rw [h1,h2]; rfl
      ·rw [h1,h2]; exact ⟨v,rfl,h3⟩
    | froK kvs=>
     cases e2:zBQ k with
     | none=>rw [e2] at e; cases e
     | some kk=>
      rw [e2] at e;cases e;obtain ⟨ob,vs,e3,r⟩:=z;refine ⟨a,zCG vs kk,rfl,.inl ⟨vs,kk,.inr ⟨ob,e3⟩,zDn rk e2,rfl⟩,?_⟩;rcases zCL kk r with ⟨h1,h2⟩ | ⟨d,v,h1,h2,h3⟩
      ·rw [h1,h2]; rfl
      ·rw [h1,h2]; exact ⟨v,rfl,h3⟩
    | froT kvs=>
     cases e2:tkD k with
     | none=>rw [e2] at e; cases e
     | some kk=>
      rw [e2] at e;cases e;obtain ⟨ob,vs,e3,r⟩:=z;obtain ⟨b,rfl,eb⟩:=zHr rk e2;refine ⟨a,zCG vs kk,rfl,.inr ⟨vs,kk,b,.inr ⟨ob,e3⟩,rfl,eb,rfl⟩,?_⟩;rcases zCL kk r with ⟨h1,h2⟩ | ⟨d,v,h1,h2,h3⟩
      ·rw [h1,h2]; rfl
      ·rw [h1,h2]; exact ⟨v,rfl,h3⟩
    | _=>cases e
  | _=>cases e
def zCh (M:Mem) (n:Nat) (k v:D):Option Mem:=match M[n]? with
 | some (.dict kvs)=>match zBQ k with
  | some kk=>if kvs.length < sizeLine then some (M.set n (.dict (zEx zBQ kvs kk k v))) else none
  | none=>none
 | some (.dicT kvs)=>match tkD k with
  | some kk=>if kvs.length < sizeLine then some (M.set n (.dicT (zEx tkD kvs kk k v))) else none
  | none=>none
 | _=>none
theorem zGr {K:PySem.W.Frag} {L:List Addr} {M M':Mem} {H:Hp} {n:Nat} {a:Addr} {k v:D} {w u:V} (c:Cor K L M H) (ea:L[n]? = some a) (rk:Rep L H k w) (rv:Rep L H v u) (e:zCh M n k v = some M'):∃ H',zDR H a w u H' /\ Cor K L M' H' /\ Stp L H L H':=by
 unfold zCh at e;cases q:M[n]? with
 | none=>rw [q] at e; cases e
 | some m=>
  rw [q] at e;have z:=c.obj n a m ea q;cases m with
  | dict kvs=>
   cases e2:zBQ k with
   | none=>rw [e2] at e; cases e
   | some kk=>
    rw [e2] at e;dsimp only at e;split at e
    ·rename_i hl;cases e;obtain ⟨vs,e3,r⟩:=z;obtain ⟨c3,s3⟩:=c.put (m:=.dict (zEx zBQ kvs kk k v)) (o':=.dK (zBR vs kk u)) ea e3 (fun _ z=>by cases z) (fun _ _ z=>by cases z) fun s3=>⟨_,zj,(zIf e2 rv r).stp s3⟩;refine ⟨_,?_,c3,s3⟩;rw [zDn rk e2]; exact zDR.k e3 (by rw [r.length]; exact hl)
    ·cases e
  | dicT kvs=>
   cases e2:tkD k with
   | none=>rw [e2] at e; cases e
   | some kk=>
    rw [e2] at e;dsimp only at e;split at e
    ·rename_i hl;cases e;obtain ⟨vs,e3,r⟩:=z;obtain ⟨b,rfl,eb⟩:=zHr rk e2;obtain ⟨c3,s3⟩:=c.put (m:=.dicT (zEx tkD kvs kk k v)) (o':=.dT (zBR vs kk u)) ea e3 (fun _ z=>by cases z) (fun _ _ z=>by cases z) fun s3=>⟨_,zj,(zIf e2 rv r).stp s3⟩;exact ⟨_,zDR.t e3 eb (by rw [r.length]; exact hl),c3,s3⟩
    ·cases e
  | _=>cases e
section
def zAk:K2:=fun x y M=>match y with
 | .dat k=>match zDZ M x k with
  | some (some d)=>some (.dat d,M)
  | _=>none
 | _=>none
theorem zJy {K:PySem.W.Frag}:zB3 K (fun x y H Q=>∃ a v,x = .ref a /\ zC1 H a y (some v) /\ Q v H) zAk:=by
 intro L M M' H H0 x y d v w Q c rx ry hk q;unfold zAk at hk;split at hk
 ·rename_i k;split at hk
  ·rename_i d' e1;cases hk;obtain ⟨a,ov,rfl,h1,h2⟩:=zGO c rx ry e1;obtain ⟨u,rfl,r⟩:=h2;exact ⟨a,u,rfl,h1,q L H u (.refl L H) c r⟩
  ·cases hk
 ·cases hk
theorem zNz (hu:X.A.units + 1 < cLine) (h1:QE X o f) (h2:QE X i g) (hs:zNd i:=by intro _ _; rfl):QE X (.Subscript o i pos) (fOp zAk f g):=.mk <| PE.imp (zLi hu h1.un h2.un hs) fun _ _ _ h=>zCZ zJy h
def zGW (neg:Bool):K2:=fun x y M=>match x with
  | .dat k=>match zDZ M y k with
    | some o=>some (.dat (.bl (if neg then !o.isSome else o.isSome)),M)
    | none=>none
  | _=>none
theorem zLS {o:Option D} {ov:Option V} (h:zOq L H o ov):ov.isSome = o.isSome:=by
  cases o with
  | none => have h' : ov = none := h
            rw [h']; rfl
  | some d=>obtain ⟨v,rfl,_⟩:=h; rfl
theorem zHR {K:PySem.W.Frag}:zB3 K (fun y x H Q=>∃ a o,x = .ref a /\ zC1 H a y o /\ Q (.bl (!o.isSome)) H) (zGW true):=by
 intro L M M' H H0 x y d v w Q c rx ry hk q;unfold zGW at hk;split at hk
 ·rename_i k;split at hk
  ·rename_i o e1;cases hk;obtain ⟨a,ov,rfl,h1,h2⟩:=zGO c ry rx e1;refine ⟨a,ov,rfl,h1,?_⟩;rw [zLS h2];exact q L H _ (.refl L H) c (zBe (L:=L) (H:=H))
  ·cases hk
 ·cases hk
theorem zJM (hu:X.A.units + 1 < cLine) (h1:QE X a f) (h2:QE X b g) (hm:behindInMarks .NotIn b = false:=by rfl):QT X (.Compare a [.NotIn] [b] pos) (tst (fOp (zGW true) f g)):=.mk <| PT.imp (zOM (zI9 hu h1.un h2.un) hm) fun _ _ _ h=>zEJ (fun _ _ _ z=>zCZ zHR z) (zDC h)
def zC3 (fv fo fi:FE):FS:=fun σ M=>match toD fv σ M with
 | some (v,M1)=>match toD fo σ M1 with
  | some (.ref n,M2)=>match toD fi σ M2 with
   | some (k,M3)=>match zCh M3 n k v with
    | some M4=>some (.nx,σ,M4)
    | none=>none
   | none=>none
  | _=>none
 | none=>none
theorem zOZ (hu:X.A.units + 1 < cLine) (hv:QE X value f) (ho:QE X o g) (hi:QE X i h) (hs:swapsWith value (some (.Subscript o i pos')) pos.line X.env = pure false:=by rfl):QS X (.Assign [.Subscript o i pos'] value pos) (zC3 f g h) :=
 .mk <| PS.imp (zMC hu (zAx ho).un (zAx hi).un (zAx hv).un hs) fun E τ H zz=>by
  obtain ⟨L,σ,M,out,σ',M',c,rs,hf,q⟩:=zz;unfold zC3 at hf;split at hf
  ·rename_i v M1 e1;split at hf
   ·rename_i n M2 e2;split at hf
    ·rename_i k M3 e3;split at hf
     ·rename_i M4 e4;cases hf;refine ⟨L,σ,M,_,_,c,rs,e1,fun L1 H1 u s1 c1 r1=>⟨L1,σ,M1,_,_,c1,rs.stp s1,e2,fun L2 H2 y s2 c2 r2=>⟨L2,σ,M2,_,_,c2,(rs.stp s1).stp s2,e3,fun L3 H3 z s3 c3 r3=>?_⟩⟩⟩;unfold Rep at r2;obtain ⟨a,rfl,ea⟩:=r2;have ea3:L3[n]? = some a:=by obtain ⟨N,hN⟩:=s3.pre; rw [hN]; exact zBz ea
      obtain ⟨H4,h1,h2,h3⟩:=zGr c3 ea3 r3 ((r1.stp s2).stp s3) e4;exact ⟨a,H4,rfl,h1,q L3 H4 (((s1.trans s2).trans s3).trans h3) h2 τ ((((rs.stp s1).stp s2).stp s3).stp h3)⟩
     ·cases hf
    ·cases hf
   ·cases hf
  ·cases hf
end
end L3
namespace L2
open PySem PySem.Spec PyProof.Rows
section
theorem Inv.trackAt (I:Inv X zB σ H s) (ho:s.heap.get? D = some o) (hn:H D = none) (h0:X.s₀.heap.objs.size <= D) (hL:D ≠ X.env.locals) (hc:∀ x c,X.env.cells.lookup x = some c -> c ≠ D) (hp:∀ p ∈ X.pn ++ zB,p.1 ≠ D)
  (new:zn X.prog X.w (upd H D u) s.heap D u):Inv X zB σ (upd H D u) s:=by
 have un:∀ b v,H b = some v -> upd H D u b = some v:=fun b v e=>by rw [zM (zb e hn)]; exact e
 have e0:s = { s with heap:=s.heap,gens:=s.gens,drawn:=s.drawn,toks:=s.toks }:=by cases s; rfl
 rw [e0];refine I.step (g':=s.gens) (d':=s.drawn) (ch:=[D]) (fun b hb=>?_) (fun b v _ _ _ e _=>e) (fun b v _ _ _ e _=>⟨v.slots,e⟩) (fun b v hb e n=>?_) (fun b v _ e=>⟨v,e⟩) (fun b xs e=>un b _ e) (fun b p v e=>un b _ e) (fun b ps e=>⟨#[],by rw [un b _ e]; simp⟩) (fun m hm=>hm) (fun b v e=>?_) I.bare
 ·have:b = D:=by simpa using hb
  subst this;exact ⟨.inr h0,hL,hc,hp⟩
 ·rw [zM (fun z=>hb (by simp [z]))]; exact n
 ·by_cases hb:b = D
  ·subst hb; rw [zj] at e; cases e; exact new
  ·rw [zM hb] at e;exact (I.hok b v e).stay (fun c v hc q=>q) (fun c q=>un c _ q) fun c xs q=>un c _ q
theorem zJL (hu:A.units + 1 < cLine) (I:Inv X zB σ H s) (g:zDR H a y v H') (ry:ze y u) (rv:ze v r) (h:∀ s',Inv X zB σ H' s' -> Heap.SameBut a s.heap s'.heap -> Q () s') :
  wpAny (model X.prog X.w) A (dictSet a u r) Q E s:=by
 rcases g with ⟨kvs,k,e,ey,l,eH⟩ | ⟨kvs,k,b,e,ey,eb,l,eH⟩
 ·subst ey eH;obtain ⟨z,hd,vs,rel,dd⟩:=zKu I.hok e;have hz:vs.length <= sizeLine:=by rw [<- rel.length]; exact z
  have hl:(zBR kvs k v).length <= sizeLine:=by have:=zA5 kvs k v; omega
  refine wpAny_dictSet_pairs (hsz:=hz) (zFD ry) dd fun h' dd' hs=>h _ ?_ hs;have he:∃ q,h'.get? a = some q:=let ⟨q,_,_,hq,_⟩:=dd'; ⟨q,hq⟩;exact zCx I (by rw [e]; exact True.intro) hs he (zHh hl hd (rel.put k rv) dd')
 ·subst ey eH;cases (show u = Value.ref b from ry);obtain ⟨z,hd,xs,rel,dd⟩:=zMx I.hok e;have hz:xs.length <= sizeLine:=by rw [<- Paired.length rel]; exact z
  have hl:(zBR kvs k v).length <= sizeLine:=by have:=zA5 kvs k v; omega
  refine wpAny_dictSet_heap (hsz:=hz) (show (tupleKind (zu X.prog X.w)).room A from Nat.lt_of_succ_lt hu) (zET I.hok eb) dd fun h' dd' hs=>h _ ?_ hs;obtain ⟨q,es,ep,hq,h2,h3,h4,_,h5⟩:=dd';refine zCx I (by rw [e]; exact True.intro) hs ⟨q,hq⟩ ⟨hl,hd,_,(rel.put k eb rv).keeps fun c ys ec=>?_,q,es,ep,hq,h2,h3,h4,h5⟩;rw [zM (zFG ec e (fun z=>nomatch z))];exact ec
end
def zCq (isT:Bool):HO:=if isT then .dT [] else .dK []
abbrev zB7:Obj:={ cls:=.type "dict", data:=.dict #[] }
end L2
namespace L3
open PySem PySem.Spec PyProof.Rows L2
def zHZ (isT:Bool):MO:=if isT then .dicT [] else .dict []
section
theorem zPf (n:Nat) (hn:n <= 8) (hr:Room k A):A.units + 1 + n < cLine:=by
 have:=hr.units;omega
def zDU (f g:FE):FE:=fun σ M=>match toD f σ M with
 | some (.tup ds,M1)=>match zA9 ds with
  | some xs=>match toD g σ M1 with
   | some (.int i,M2)=>if i ∈ xs then some (.dat (.int (xs.idxOf i)),M2) else none
   | _=>none
  | none=>none
 | _=>none
theorem zLw (h:QE X o f) (hg:QE X e g) (hbase:attributeBase o "index" X.env (eval o X.env) = eval o X.env:=by rfl)
  (hfew:((backTo cpos (starEach [e] X.env)).all (fun x=> !x.1) && (backToKw cpos (keywordEach [] X.env)).all (fun x=>x.1.isSome) && decide ([e].length + ([]:List Keyword).length + (if ([]:List Keyword).isEmpty then 0 else 1) < 30)) = true:=by rfl)
  (hline:(apos.endLine == cpos.line) = true:=by rfl) (hs:starEach [e] X.env = (false,eval e X.env) :: starEach [] X.env:=by rfl) (hplain:(backTo cpos (starEach [] X.env)).any (·.1) = false:=by rfl) :
  QE X (.Call (.Attribute o "index" apos) [e] [] cpos) (zDU f g) :=
 .mk <| PE.imp (zIa PySem.F.plainAttrs_tuple PySem.F.slot_tuple_index PySem.F.type_tuple_index zLF (zAx h).un (zCV (zAx hg) zFc hs).un hbase hfew hline hs hplain) fun τ H Q zz=>by
  obtain ⟨L,σ,M,d,M',c,rs,hf,q⟩:=zz;unfold zDU at hf;split at hf
  ·rename_i ds M1 e1;split at hf
   ·rename_i xs e2;split at hf
    ·rename_i i Mq e3;split at hf
     ·rename_i hi;cases hf;refine ⟨L,σ,M,_,_,c,rs,e1,fun L1 H1 u s1 c1 r1=>?_⟩;unfold Rep at r1;obtain ⟨p,vs,rfl,h1,r⟩:=r1;have ev:=zAy e2 r;subst ev;refine ⟨.inr (.inl ⟨rfl,.inr ⟨_,h1⟩⟩),L1,σ,M1,_,_,c1,rs.stp s1,(show zD (toD g) zJ σ M1 = some ([D.int i],M') by unfold zD zJ; rw [e3]),fun L2 H2 ws s2 c2 r2=>?_⟩;have ew:=zCX r2;subst ew;exact ⟨p,i,xs,rfl,rfl,.of (s2.tup p _ h1),hi,q L2 H2 _ (s1.trans s2) c2 (zAE (L:=L2) (H:=H2))⟩
     ·cases hf
    ·cases hf
   ·cases hf
  ·cases hf
end
open Builtin
theorem zEU:fillsNumberSlot (.type "tuple") "mul" = pure false :=
 PySem.fillsNumberSlot_seq (id := "tuple.__mul__") (r:=some (.builtin "tuple.__rmul__")) F.slot_tuple_mul.lookup (by decide +kernel) F.slot_tuple_rmul.lookup (by decide +kernel)
theorem zHi:seqRepeat? (.type "tuple") = pure (some (.builtin "tuple.__mul__")):=by
 unfold seqRepeat?;rw [PySem.seqSlot_of (T := "tuple") (name := "__mul__") (id := "tuple.__mul__") F.slot_tuple_mul.lookup (by decide +kernel),PySem.seqSlot_of (T := "tuple") (name := "__rmul__") (id := "tuple.__rmul__") F.slot_tuple_rmul.lookup (by decide +kernel)];rfl
theorem zJi (a:Int) (t:Tok) (l:Addr) (items:Array Value) (n:Nat) (dd:Option Addr) (sl:Array (Option Value)) :
  Meets (Builtin.«int.__rmul__» ⟨[.int a t,.ref l],[]⟩) (fun _ R s=>s.heap.get? l = some { cls:=.type "tuple", dict:=dd,data:=.seq items n,slots:=sl } /\ R (.ok (.ret Value.notImplemented)) s) :=
 .of_wp fun prog w A R s h=>by obtain ⟨hp,g,d,tk,os⟩:=s; obtain ⟨hl,h⟩:=h; wp_walk using wpAny_loadPart' hl; exact ⟨_,rfl,h⟩
theorem zGi (l:Addr) (items:Array Value) (n:Nat) (dd:Option Addr) (sl:Array (Option Value)) (u:Tok) :
  Meets (Builtin.«tuple.__mul__» ⟨[.ref l,.int 1 u],[]⟩) (fun _ R s=>s.heap.get? l = some { cls:=.type "tuple", dict:=dd,data:=.seq items n,slots:=sl } /\ R (.ok (.ret (.ref l))) s) :=
 .of_wp fun prog w A R s h=>by
  obtain ⟨hp,g,d,tk,os⟩:=s; obtain ⟨hl,h⟩:=h;have f1:=AutoSeq1.idx_int;wp_walk using wpAny_loadPart' hl;exact ⟨_,rfl,h⟩
theorem zHD (l:Addr) (items:Array Value) (n:Nat) (dd:Option Addr) (sl:Array (Option Value)) (x:Int) (u:Tok) (h0:¬ (decide (x < -(2 ^ 63)) || decide (x ≥ 2 ^ 63)) = true) (h1:¬ (items.isEmpty || x == 1) = true) (h2:¬ (decide (x <= 0) || items.isEmpty) = true) (h3:¬ (items.size:Int) * x > (2 ^ 63 - 1) / 8) (h4:¬ Builtin.Tuple.tupleTooMany (items.size * x) = true)
  (hsz:(List.foldl (fun x1 x2=>x1 ++ x2) #[] (List.replicate x.toNat items)).size <= sizeLine) :
  Meets (Builtin.«tuple.__mul__» ⟨[.ref l,.int x u],[]⟩) (fun _ R s=>s.heap.get? l = some { cls:=.type "tuple", dict:=dd,data:=.seq items n,slots:=sl } /\ R (.ok (.ret (Value.ref s.heap.objs.size))) { s with heap:=s.heap.push { cls:=Value.type "tuple", data:=Data.seq (List.foldl (fun x1 x2=>x1 ++ x2) #[] (List.replicate x.toNat items)) },toks:=s.toks }) :=
 .of_wp fun prog w A R s h=>by
  obtain ⟨hp,g,d,tk,os⟩:=s; obtain ⟨hl,h⟩:=h;have f1:=AutoSeq1.idx_int;wp_walk using wpAny_loadPart' hl;rw [zQf h0];wp_walk using wpAny_loadPart' hl;rw [zQf h3];wp_walk using wpAny_loadPart' hl;all_goals first | exact ⟨_,rfl,h⟩ | skip
section
def zM5 (K:PySem.W.Frag):R2:=fun x y H Q=>∃ a k xs,x = .ref a /\ y = .int k /\ SqT K H a xs /\ xs ≠ [] /\ 1 <= k /\ xs.length * k.toNat <= sizeLine /\
 (k = 1 -> Q (.ref a) H) /\ (k ≠ 1 -> ∀ p,H p = none -> Q (.ref p) (upd H p (.tup (List.replicate k.toNat xs).flatten)))
theorem zMm:OpR X (binaryOp .Mult) (zM5 X.K):=by
 intro zB s σ H x y v u Q I rx ry h;obtain ⟨a,k,xs,rfl,rfl,ha,hx,hk,hz,q1,q2⟩:=h;cases rx;obtain ⟨t,rfl⟩:=ry;obtain ⟨its,r,p1,_⟩:=I.tuple ha;obtain ⟨⟨cls,dd,data,sl⟩,ho,hc,n,hd⟩:=id p1;simp only at hc hd;subst hc hd;have hl:its.toArray.size = xs.length:=by rw [zQV]; exact r.length.symm
 have hx0:0 < xs.length:=List.length_pos_iff.mpr hx;have hkz:k.toNat <= sizeLine:=zQo (Nat.le_mul_of_pos_left _ hx0) hz;have hk63:k < 2 ^ 63:=by
  have:(sizeLine:Nat) < 2 ^ 62:=by decide
  omega
 refine wpAny_binaryOp_repeat_ref (T := "tuple") (U := "int") (by decide) ⟨_,ho,rfl⟩ (fun s'=>typeIs_int s' k t) zEU F.fills_int_mul F.slot_int_rmul zHi F.slot_int_index.lookup
  (call_meets F.slot_int_rmul (typeIs_int s k t) F.entry_int_rmul (F.args_int_rmul_2 _ _) (zJi k t a its.toArray n dd sl)
   ⟨ho,rfl,⟨_,ho,rfl⟩,?_⟩)
 by_cases h1:k = 1
 ·subst h1;exact call_meets F.slot_tuple_mul ⟨_,ho,rfl⟩ F.entry_tuple_mul (F.args_tuple_mul_2 _ _) (zGi a its.toArray n dd sl t) ⟨ho,⟨.ref a,H,I,rfl,q1 rfl⟩⟩
 ·have hnew:List.foldl (fun x1 x2=>x1 ++ x2) #[] (List.replicate k.toNat its.toArray) = (List.replicate k.toNat its).flatten.toArray:=by
   have:=zDL its k.toNat [];rw [List.nil_append] at this;exact this
  have hlr:(List.replicate k.toNat its).flatten.length <= sizeLine:=by
   rw [zFu,<- r.length,Nat.mul_comm]; exact hz
  have hem:its.toArray.isEmpty = false:=by
   rw [Array.isEmpty_eq_false_iff]; intro z; rw [z] at hl; simp at hl; omega
  have hprod:((its.toArray.size:Int)) * k = ((xs.length * k.toNat:Nat):Int):=by
   rw [hl]; rw [Int.natCast_mul,show ((k.toNat:Nat):Int) = k by omega]
  refine call_meets F.slot_tuple_mul ⟨_,ho,rfl⟩ F.entry_tuple_mul (F.args_tuple_mul_2 _ _) (zHD a its.toArray n dd sl k t ?_ ?_ ?_ ?_ ?_ ?_) ⟨ho,?_⟩
  ·rw [zQw (by omega),zQw (by omega)]; decide
  ·rw [hem,Bool.false_or]; intro z; exact h1 (eq_of_beq z)
  ·rw [hem,Bool.or_false,zQw (by omega)]; decide
  ·rw [hprod];have:(sizeLine:Nat) <= (2 ^ 63 - 1) / 8:=by decide
   omega
  ·rw [hprod];unfold Builtin.Tuple.tupleTooMany;rw [zQw (by omega)]; decide
  ·rw [hnew,zQV]; exact hlr
  ·rw [hnew];refine ⟨.ref s.heap.objs.size,_,I.laid (t':=s.toks) (o:=.tup (List.replicate k.toNat xs).flatten) (fun b ob q=>zQO _ q) (zQT _) ?_,rfl,q2 h1 _ (I.hok.fresh (zQT _))⟩;exact ⟨by rw [zFu,Nat.mul_comm]; exact hz,_,r.rep k.toNat,zBB.new _ _⟩
theorem zH.rep (h:zH L H ds vs):∀ k:Nat,zH L H (List.replicate k ds).flatten (List.replicate k vs).flatten
 | 0=> .nil
 | k + 1=>by
  rw [zRg,zRg,zSM,zSM];exact zH.app h (zH.rep h k)
def zCf:K2:=fun x y M=>match y with
 | .dat (.int k)=>match zBD x with
  | some xs=>if 0 < xs.length /\ 1 <= k /\ xs.length * k.toNat <= sizeLine then some (.dat (.tup (List.replicate k.toNat xs).flatten),M) else none
  | none=>match zFr M x with
   | some xs=>if -(2 ^ 63) <= k /\ k < 2 ^ 63 /\ xs.length * k.toNat <= sizeLine then some (.fl (List.replicate k.toNat xs).flatten,M) else none
   | none=>none
 | _=>none
theorem zMa {K:PySem.W.Frag}:zB3 K (fun x y H Q=>zOm x y H Q \/ zM5 K x y H Q) zCf:=by
 intro L M M' H H0 x y d v w Q c rx ry hk q;unfold zCf at hk;split at hk
 ·rename_i k;have hw:w = .int k:=by unfold zZ Rep at ry; exact ry
  subst hw;split at hk
  ·rename_i xs e1;split at hk
   ·rename_i hz;cases hk;obtain ⟨p1,vs,rfl,h1,r1⟩:=zBE rx e1;refine .inr ⟨p1,k,vs,rfl,rfl,.of h1,?_,hz.2.1,by rw [r1.length]; exact hz.2.2,fun z=>?_,fun z pp hp=>?_⟩
    ·intro z; have:=r1.length; rw [z] at this; simp at this; omega
    ·subst z;refine q L H _ (.refl L H) c ?_;have:(List.replicate (1:Int).toNat xs).flatten = xs:=by simp
     rw [this];unfold zZ Rep;exact ⟨p1,vs,rfl,h1,r1⟩
    ·exact q L _ _ (.upd hp) (c.upd hp) (Rep.newTup hp (r1.rep k.toNat))
   ·cases hk
  ·split at hk
   ·rename_i xs e1;split at hk
    ·rename_i hz;cases hk;obtain ⟨l,vs,rfl,h1,r1⟩:=zHY c rx e1;refine .inl ⟨l,k,vs,rfl,rfl,h1,hz.1,hz.2.1,by rw [r1.length]; exact hz.2.2,fun p hp=>?_⟩;exact q L _ _ (.upd hp) (c.upd hp) (zZ.newLst (.refl L H) c c hp (r1.rep k.toNat))
    ·cases hk
   ·cases hk
 ·cases hk
theorem zPG (h1:QE X a f) (h2:QE X b g):QE X (.BinOp a .Mult b pos) (fOp zCf f g):=zGb zMa (zNE.or zMm) h1 h2
def zFM:KB:=fun xs M=>match xs with
 | [.dat (.int i),.dat (.int j)]=>some (.dat (.int (if j < i then j else i)),M)
 | _=>none
theorem zG9 (r:zBX H0 L H [.dat (.int i),.dat (.int j)] vs):vs = [.int i,.int j]:=by
 unfold zBX at r;obtain ⟨v,r1,rfl,a1,a2⟩:=r;unfold zBX at a2;obtain ⟨v2,r2,rfl,b1,b2⟩:=a2;unfold zBX at b2;subst b2;unfold zZ Rep at a1 b1;subst a1 b1;rfl
theorem zJ2 {K:PySem.W.Frag}:zDu K (fun xs H Q=>∃ i j,xs = [.int i,.int j] /\ Q (.int (if j < i then j else i)) H) zFM:=by
 intro L M M' H H0 xs d vs Q c r hk q;unfold zFM at hk;split at hk
 ·rename_i i j;cases hk;exact ⟨i,j,zG9 r,q L H _ (.refl L H) c (zAE (L:=L) (H:=H))⟩
 ·cases hk
theorem zNH (hcalm:X.calm = true) (hg:Gl X "min") (hm:X.mg "min" = none) (ha:QAE X [e,e2] fa) (he:starEach [e,e2] X.env = (false,eval e X.env) :: starEach [e2] X.env:=by rfl) (hpl:(backTo pos (starEach [e2] X.env)).any (·.1) = false:=by rfl):QE X (.Call (.Name "min" p) [e,e2] [] pos) (fB zFM fa) :=
 zC0 zJ2 (zJa hcalm) (by rfl) hg hm ha (by decide) (by decide) he hpl
end
end L3
namespace HT
open PySem PySem.Spec PyProof.Rows
end HT
namespace L3
open PySem PySem.Spec PyProof.Rows L2
section
variable {a b o e e2 st:Expr}
theorem zJG:MtM X "list.index" (fun x vs H Q=>∃ (l:Addr) (i:Int) (xs:List Int),x = .ref l /\ vs = [.int i] /\ H l = some (.lst (xs.map V.int)) /\ xs.length <= 90000 /\ i ∈ xs /\ Q (.int (xs.idxOf i)) H):=by
 intro zB s σ H x xs v us Q I rx rv z;obtain ⟨p,i,ns,rfl,rfl,hp,hz,hi,q⟩:=z;cases rx;obtain ⟨u,rfl,ru⟩:=rv.one;obtain ⟨t,rfl⟩:=ru;obtain ⟨z,its,n,r,hl,ee⟩:=I.lstM hp;have hia:=zHT r;have hlen:=hia.length;have hj:ns.idxOf i < ns.length:=List.idxOf_lt_length_iff.mpr hi
 refine call_meets PySem.F.slot_list_index ⟨_,ee,rfl⟩ PySem.F.entry_list_index (PySem.F.args_list_index_2 _ _)
  (PySem.SeqAt.list_indexAt p its.toArray n none #[] (.int i t) (isInt i) (ns.idxOf i) (by simpa [hlen] using hj) (by omega) ?_ ?_) ⟨ee,fun y hy=>(eq_isInt i t hia y (by simpa using hy)).at _ _,⟨.int (ns.idxOf i),H,I.tok _,⟨_,rfl⟩,q⟩⟩
 ·show isInt i its[ns.idxOf i] = true;rw [isInt_at i hia _ (by omega) hj];simpa using List.getElem_idxOf hj
 ·intro j hjs hlt;show isInt i its[j] = false;rw [isInt_at i hia j (by simpa using hjs) (by omega)];exact ne_of_lt_idxOf hlt _
def zCY:KM:=fun x ds M=>match x,ds with
 | .dat (.ref n),[.int i]=>match M[n]? with
  | some (.lst ds)=>match zA9 ds with
   | some xs=>if i ∈ xs /\ xs.length <= 90000 then some (.int (xs.idxOf i),M) else none
   | none=>none
  | _=>none
 | _,_=>none
theorem zHN {K:PySem.W.Frag}:zLv K (fun x vs H Q=>∃ (l:Addr) (i:Int) (xs:List Int),x = .ref l /\ vs = [.int i] /\ H l = some (.lst (xs.map V.int)) /\ xs.length <= 90000 /\ i ∈ xs /\ Q (.int (xs.idxOf i)) H) zCY:=by
 intro L M M' H H0 x ds d v vs Q c rx rd hk q;unfold zCY at hk;split at hk
 ·rename_i n i;split at hk
  ·rename_i ds e1;split at hk
   ·rename_i xs e2;split at hk
    ·rename_i hi;cases hk;unfold zZ Rep at rx;obtain ⟨a,rfl,e4⟩:=rx;obtain ⟨ws,e5,r5⟩:=c.obj n a _ e4 e1;have ev:=zAy e2 r5;subst ev;exact ⟨a,i,xs,rfl,zCX rd,e5,hi.2,hi.1,q L H _ (.refl L H) c (by unfold Rep; rfl)⟩
    ·cases hk
   ·cases hk
  ·cases hk
 ·cases hk
theorem zLD (h:QE X a f) (hg:QA X [e] fg) (hbase:attributeBase a "index" X.env (eval a X.env) = eval a X.env:=by rfl)
  (hfew:((backTo cpos (starEach [e] X.env)).all (fun x=> !x.1) && (backToKw cpos (keywordEach [] X.env)).all (fun x=>x.1.isSome) && decide ([e].length + ([]:List Keyword).length + (if ([]:List Keyword).isEmpty then 0 else 1) < 30)) = true:=by rfl)
  (hline:(apos.endLine == cpos.line) = true:=by rfl) (hs:starEach [e] X.env = (false,eval e X.env) :: starEach [] X.env:=by rfl) (hplain:(backTo cpos (starEach [] X.env)).any (·.1) = false:=by rfl) :
  QE X (.Call (.Attribute a "index" apos) [e] [] cpos) (fM zCY f fg) :=
 .mk <| PE.imp (zIa PySem.F.plainAttrs_list PySem.F.slot_list_index PySem.F.type_list_index zJG h.un hg.un hbase hfew hline hs hplain) fun _ _ _ z=>zHk zHN z
end
section
def zFz (k1:Str) (fv:FE) (k2:Str) (fw:FE):FE:=fun σ M=>match toD fv σ (M ++ [.dict []]) with
 | some (v,M1)=>match toD fw σ M1 with
  | some (w,M2)=>match M2[M.length]? with
   | some (.dict [])=>if k1 = k2 then none else some (.dat (.ref M.length),M2.set M.length (.dict [(.str k1,v),(.str k2,w)]))
   | _=>none
  | none=>none
 | none=>none
theorem zMS (h1:QE X a (fC (.str k1))) (h2:QE X b fv) (h3:QE X a2 (fC (.str k2))) (h4:QE X b2 fw):QE X (.Dict [some a,some a2] [b,b2] pos) (zFz k1 fv k2 fw):=.mk <| PE.imp (zLt (zGG (zAx h1).un (zAx h2).un (zGG (zAx h3).un (zAx h4).un zMX)) rfl rfl (by simp) (by simp)) fun τ H Q ⟨L,σ,M,d,M',c,rs,hf,q⟩ p hp=>by
 unfold zFz at hf;split at hf
 ·rename_i v M1 e2;split at hf
  ·rename_i w M2 e4;split at hf
   ·rename_i e5;split at hf
    ·cases hf
    ·rename_i hne;cases hf;obtain ⟨c0,s0⟩:=c.pushO (m:=.dict []) (o:=.dK []) hp ⟨[],zj,rfl⟩;refine ⟨L ++ [p],σ,_,_,_,c0,rs.stp s0,(rfl:toD (fC (.str k1)) σ (M ++ [.dict []]) = some (.str k1,_)),fun L1 H1 x st1 c1 r1=>⟨L1,σ,_,_,_,c1,(rs.stp s0).stp st1,e2,fun L2 H2 y st2 c2 r2=>?_⟩⟩;refine ⟨L2,σ,_,_,_,c2,((rs.stp s0).stp st1).stp st2,(rfl:toD (fC (.str k2)) σ M1 = some (.str k2,_)),fun L3 H3 x' st3 c3 r3=>⟨L3,σ,_,_,_,c3,(((rs.stp s0).stp st1).stp st2).stp st3,e4,fun L4 H4 y' st4 c4 r4=>?_⟩⟩;have st:=(((s0.trans st1).trans st2).trans st3).trans st4;have hx:x = .str k1:=by unfold Rep at r1; exact r1
     have hx':x' = .str k2:=by unfold Rep at r3; exact r3
     have lp:L4[M.length]? = some p:=by
      obtain ⟨N,hN⟩:=((st1.trans st2).trans st3).trans st4 |>.pre;rw [hN,<- c.len]; simp
     obtain ⟨vs,ev,dv⟩:=c4.obj _ p _ lp e5;unfold zAN at dv;subst dv;have hm:zCl [] [((Sum.inr k1:Key),y),(Sum.inr k2,y')] = [((Sum.inr k1:Key),y),(Sum.inr k2,y')]:=by
      unfold zCl zBR;have h12:¬ ((Sum.inr k1:Key) = Sum.inr k2):=fun z=>hne (Sum.inr.inj z);simp [h12]
     refine ⟨ev,[(Sum.inr k1,y),(Sum.inr k2,y')],by rw [hx,hx']; rfl,by simp,?_⟩;rw [hm];obtain ⟨c5,s5⟩:=c4.put (m:=.dict [(.str k1,v),(.str k2,w)]) (o':=.dK [(Sum.inr k1,y),(Sum.inr k2,y')]) lp ev (fun _ z=>by cases z) (fun _ _ z=>by cases z) fun s5=>⟨_,zj,_,y,[(Sum.inr k2,y')],rfl,rfl,(r2.stp (st3.trans st4)).stp s5,_,y',[],rfl,rfl,r4.stp s5,rfl⟩;refine q _ _ _ (st.trans s5) c5 ?_;unfold zZ Rep;exact ⟨p,rfl,lp⟩
   ·cases hf
  ·cases hf
 ·cases hf
end
section
def zIt (fg:FG) (f:FE):FS:=fun σ M=>match toD f σ M with
 | some (d,M1)=>match fg d σ with
  | some σ1=>some (.nx,σ1,M1)
  | none=>none
 | none=>none
theorem zPL (hk:GOk g fg) (h:QE X e f) (hg:PG X tg g) (hs:swapsWithSole [tg] e pos.line X.env = pure false:=by rfl) (hw:swappedStores [tg] e X.env = pure none:=by rfl)
  (h1:(assignEach [tg] X.env).map (·.2) = [assign tg X.env]:=by rfl):QS X (.Assign [tg] e pos) (zIt fg f) :=
 .mk <| PS.imp (zLa h.un hg hs hw h1) fun E τ H zz=>by
  obtain ⟨L,σ,M,o,σ',M',c,rs,hf,q⟩:=zz;unfold zIt at hf;split at hf
  ·rename_i d M1 e1;split at hf
   ·rename_i σ1 e2;cases hf;refine zGE ⟨L,σ,M,_,_,c,rs,e1,fun L1 H1 v s1 c1 r1=>?_⟩;exact hk (rs.stp s1) r1 e2 fun τ' rs'=>q L1 H1 s1 c1 τ' rs'
   ·cases hf
  ·cases hf
theorem zIE:OkS (zIt fg f σ M) P ↔ Ok (f σ M) (zD7 fun d M1=>∃ σ1,fg d σ = some σ1 /\ P .nx σ1 M1):=by
 rw [<- zAd];unfold zIt;constructor
 ·rintro ⟨o,σ',M',e,p⟩;split at e
  ·rename_i d M1 e1;split at e
   ·rename_i σ1 e2;cases e;exact ⟨d,_,e1,_,e2,p⟩
   ·cases e
  ·cases e
 ·rintro ⟨d,M1,e1,σ1,e2,p⟩;refine ⟨.nx,σ1,M1,?_,p⟩;rw [e1]; dsimp only; rw [e2]
end
def SI (b:Bool) (h:Heap) (it t:Addr) (k:Nat):Prop:=if b then h.IsTupleIter it t k else h.IsListIter it t k
def SO (b:Bool) (h:Heap) (t:Addr) (xs:Array Value):Prop:=if b then h.IsTuple t xs else h.IsList t xs
abbrev itO (b:Bool) (t:Addr):Obj:={ cls:=.type (if b then "tuple_iterator" else "list_iterator"),data:=.fields #[.ref t,.int 0 0] }
theorem SI.keep (x:SI b h it t k) (e:∀ o,h.get? it = some o -> h'.get? it = some o):SI b h' it t k:=by
 cases b with
 | true=>obtain ⟨o,q,r⟩:=(show h.IsTupleIter it t k from x); exact (show h'.IsTupleIter it t k from ⟨o,e o q,r⟩)
 | false=>obtain ⟨o,q,r⟩:=(show h.IsListIter it t k from x); exact (show h'.IsListIter it t k from ⟨o,e o q,r⟩)
theorem SO.keep (x:SO b h t xs) (e:∀ o,h.get? t = some o -> h'.get? t = some o):SO b h' t xs:=by
 cases b with
 | true=>obtain ⟨o,q,r⟩:=(show h.IsTuple t xs from x); exact (show h'.IsTuple t xs from ⟨o,e o q,r⟩)
 | false=>obtain ⟨o,q,r⟩:=(show h.IsList t xs from x); exact (show h'.IsList t xs from ⟨o,e o q,r⟩)
theorem SI.but (x:SI b h a t i) (hs:Heap.ExtBut c h h') (n:a ≠ c):SI b h' a t i:=x.keep fun o e=>hs a o n e
theorem SO.but (x:SO b h a its) (hs:Heap.ExtBut c h h') (n:a ≠ c):SO b h' a its:=x.keep fun o e=>hs a o n e
theorem SI.obj (x:SI b h it t k):∃ o,h.get? it = some o /\ ∀ v,o.data ≠ .cell v:=by
 cases b with
 | true=>obtain ⟨o,q,_,r⟩:=(show h.IsTupleIter it t k from x); exact ⟨o,q,fun v m=>by rw [r] at m; cases m⟩
 | false=>obtain ⟨o,q,_,r⟩:=(show h.IsListIter it t k from x); exact ⟨o,q,fun v m=>by rw [r] at m; cases m⟩
section
theorem zAz (I:SI b s.heap it t i) (T:SO b s.heap t its) (hx:its[i]? = some x)
  (q:∀ h',SI b h' it t (i + 1) -> Heap.SameBut it s.heap h' -> Q x { s with heap:=h' }):wpAny (model prog w) A (Builtin.SmallTypes.nextOf (.ref it)) Q E s:=by
 cases b with
 | true=>exact zBO (show s.heap.IsTupleIter it t i from I) (show s.heap.IsTuple t its from T) hx q
 | false=>exact wpAny_nextOf_list_item (show s.heap.IsListIter it t i from I) (show s.heap.IsList t its from T) hx q
theorem zCa (hh:A.handled = none) (I:SI b s.heap it t i) (T:SO b s.heap t its) (hx:its[i]? = none)
  (q:∀ h' e,Heap.ExtBut it s.heap h' -> (∃ o,h'.get? e = some o /\ o.cls = .type "StopIteration") -> E (.ref e) { s with heap:=h' }):wpAny (model prog w) A (Builtin.SmallTypes.nextOf (.ref it)) Q E s:=by
 cases b with
 | true=>exact zBg hh (show s.heap.IsTupleIter it t i from I) (show s.heap.IsTuple t its from T) hx q
 | false=>exact wpAny_nextOf_list_end hh (show s.heap.IsListIter it t i from I) (show s.heap.IsList t its from T) hx q
theorem zIb (hl:SO b s.heap l items) (hQ:Q (.ref s.heap.objs.size) { s with heap:=s.heap.push (itO b l) }):wpAny (model prog w) A (pyIter (.ref l)) Q E s:=by
 cases b with
 | true=>exact wpAny_pyIter_tuple (show s.heap.IsTuple l items from hl) hQ
 | false=>exact wpAny_pyIter_list (show s.heap.IsList l items from hl) hQ
structure ZipG (b1 b2:Bool) (h:Heap) (z TI TO i1 i2 t1 t2:Addr) (f:Value) (k1 k2:Nat):Prop where
 z:IsZip h z TI TO f
 ti:IsPair h TI (.ref i1) (.ref i2)
 to:∃ a b,IsPair h TO a b
 a:SI b1 h i1 t1 k1
 b:SI b2 h i2 t2 k2
theorem zLT (e:h.get? it = some (itO b t)):SI b h it t 0:=by
 cases b with
 | true=>exact (show h.IsTupleIter it t 0 from ⟨_,e,rfl,rfl⟩)
 | false=>exact (show h.IsListIter it t 0 from ⟨_,e,rfl,rfl⟩)
abbrev zG1 (b1:Bool) (h:Heap) (a:Addr):Heap:=h.push (itO b1 a)
abbrev zG2 (b1 b2:Bool) (h:Heap) (a b:Addr):Heap:=zG1 b2 (zG1 b1 h a) b
abbrev zG3 (b1 b2:Bool) (h:Heap) (a b:Addr):Heap:=(zG2 b1 b2 h a b).push { cls:=.type "tuple", data:=.seq #[.ref h.objs.size,.ref (zG1 b1 h a).objs.size] }
abbrev zG4 (b1 b2:Bool) (h:Heap) (a b:Addr):Heap:=(zG3 b1 b2 h a b).push { cls:=.type "tuple", data:=.seq #[.none,.none] }
abbrev zG5 (b1 b2:Bool) (h:Heap) (a b:Addr):Heap:=(zG4 b1 b2 h a b).push { cls:=.type "zip", data:=.fields #[.none,.bool false,.bool false,.ref (zG2 b1 b2 h a b).objs.size,.ref (zG3 b1 b2 h a b).objs.size] }
theorem zH0 (b1 b2:Bool) (a b:Addr) (xs ys:Array Value):Meets (Builtin.«zip.__new__» ⟨[.type "zip", .ref a,.ref b],[]⟩) (fun _ R s=>SO b1 s.heap a xs /\ SO b2 s.heap b ys /\ R (.ok (.ret (.ref (zG4 b1 b2 s.heap a b).objs.size))) { s with heap:=zG5 b1 b2 s.heap a b }) :=
 .of_wp fun prog w A R s h=>by
  obtain ⟨hp,g,d,tk,os⟩:=s;obtain ⟨Ta,Tb,h⟩:=h;have sz:=sub_zip;have U1:SO b1 (Shared.heap ⟨hp,g,d,tk,os⟩) a xs:=Ta;have U2:SO b2 (Shared.heap ⟨hp.push (itO b1 a),g,d,tk,os⟩) b ys:=Tb.keep fun o e=>zQO _ e;wp_walk using zIb U1,zIb U2;exact ⟨_,rfl,h⟩
theorem zHF (Ta:SO b1 s.heap a xs) (Tb:SO b2 s.heap b ys)
  (h:∀ h',ZipG b1 b2 h' (s.heap.objs.size + 4) (s.heap.objs.size + 2) (s.heap.objs.size + 3) s.heap.objs.size (s.heap.objs.size + 1) a b .none 0 0 -> (∀ c o,s.heap.get? c = some o -> h'.get? c = some o) -> Q (.ref (s.heap.objs.size + 4)) { s with heap:=h' }) :
  wpAny (model prog w) A (call (.type "zip") [.ref a,.ref b]) Q E s:=by
 refine callType_new PySem.F.called_zip (by decide) (PySem.F.typeCall_zip_2 _ _) (PySem.F.newCall_zip_2 _ _) (fun obj=>PySem.F.args_object_init_3 obj _ _) PySem.F.entry_zip_new (zH0 b1 b2 a b xs ys) ⟨Ta,Tb,?_⟩;have q1:(zG1 b1 s.heap a).objs.size = s.heap.objs.size + 1:=zQ3 ..;have q2:(zG2 b1 b2 s.heap a b).objs.size = s.heap.objs.size + 2:=by rw [zQ3,q1]
 have q3:(zG3 b1 b2 s.heap a b).objs.size = s.heap.objs.size + 3:=by rw [zQ3,q2]
 have q4:(zG4 b1 b2 s.heap a b).objs.size = s.heap.objs.size + 4:=by rw [zQ3,q3]
 have u:∀ {h:Heap} {c:Addr} {o p:Obj},h.get? c = some o -> (h.push p).get? c = some o:=fun e=>zQO _ e;have p5:(zG5 b1 b2 s.heap a b).get? (zG4 b1 b2 s.heap a b).objs.size = some _:=zQX _ rfl;have p4:(zG5 b1 b2 s.heap a b).get? (zG3 b1 b2 s.heap a b).objs.size = some _:=u (zQX _ rfl);have p3:(zG5 b1 b2 s.heap a b).get? (zG2 b1 b2 s.heap a b).objs.size = some _:=u (u (zQX _ rfl));have p2:(zG5 b1 b2 s.heap a b).get? (zG1 b1 s.heap a).objs.size = some _:=u (u (u (zQX _ rfl)));have p1:(zG5 b1 b2 s.heap a b).get? s.heap.objs.size = some _:=u (u (u (u (zQX _ rfl))));rw [q2,q3,q4] at p5;rw [q1,q2] at p3;rw [q3] at p4;rw [q1] at p2;rw [q4];exact ⟨⟨_,p5,rfl⟩,h _ ⟨p5,p3,⟨_,_,p4⟩,zLT p1,zLT p2⟩ fun c o x=>u (u (u (u (u x))))⟩
end
def SqG (K:PySem.W.Frag) (b:Bool) (H:Hp) (a:Addr) (xs:List V):Prop:=if b then SqT K H a xs else SqL K H a xs
theorem zBo (I:Inv X zB σ H s) (h:SqG X.K b H a xs):∃ its,zU xs its /\ SO b s.heap a its.toArray:=by
 cases b with
 | true=>obtain ⟨its,rv,p1,_⟩:=I.tuple h; exact ⟨its,rv,p1⟩
 | false=>obtain ⟨its,rv,p1,_⟩:=I.list h; exact ⟨its,rv,p1.isList⟩
theorem zIA (I:Inv X zB σ H s) (h:SqG X.K b H a xs) (h':SqG X.K b H a ys):xs = ys:=by
 cases b with
 | true=>exact I.tuple_inj h h'
 | false=>exact I.list_inj h h'
theorem zLX (x:SO b h a its):a < h.objs.size:=by
 cases b with
 | true=>obtain ⟨_,e,_⟩:=(show h.IsTuple a its from x); exact zQY e
 | false=>obtain ⟨_,e,_⟩:=(show h.IsList a its from x); exact zQY e
def zOv (K:PySem.W.Frag) (b1 b2:Bool) (a b:Addr):It :=
 ⟨fun i H=>∃ xs ys x y,SqG K b1 H a xs /\ SqG K b2 H b ys /\ xs[i]? = some x /\ ys[i]? = some y,
  fun i H v H'=>∃ T x y,v = .ref T /\ H T = none /\ H' = upd H T (.tup [x,y]) /\ (∀ xs,SqG K b1 H a xs -> xs[i]? = some x) /\ ∀ ys,SqG K b2 H b ys -> ys[i]? = some y,
  fun i H=>∃ xs ys,SqG K b1 H a xs /\ SqG K b2 H b ys /\ (xs.length <= i \/ ys.length <= i)⟩
section
def zEF (g:FA):FI:=fun σ M=>match g σ M with
 | some ([x,y],M1)=>match zg M1 (.dat x),zg M1 (.dat y) with
  | some xs,some ys=>some ((xs.zip ys).map fun q=>D.tup [q.1,q.2],some fun M=>zg M (.dat x) = some xs /\ zg M (.dat y) = some ys,M1)
  | _,_=>none
 | _=>none
theorem zD4 {K:PySem.W.Frag} {L1:List Addr} {M1:Mem} {H1:Hp} {x:D} {v:V} {xs:List D} (c1:Cor K L1 M1 H1) (r1:Rep L1 H1 x v) (e:zg M1 (.dat x) = some xs) :
  ∃ b l,v = .ref l /\ (∃ vs,SqG K b H1 l vs) /\ ∀ L2 H2 M2,Stp L1 H1 L2 H2 -> Cor K L2 M2 H2 -> zg M2 (.dat x) = some xs -> ∃ vs',SqG K b H2 l vs' /\ zH L2 H2 xs vs':=by
 have r1':zZ H1 L1 H1 (.dat x) v:=r1;cases x with
 | tup ds=>
  cases e;obtain ⟨a,vs,rfl,e3,r3⟩:=zBE r1' (xs:=xs) rfl;exact ⟨true,a,rfl,⟨vs,(show SqT K H1 a vs from .of e3)⟩,fun L2 H2 M2 s2 c2 _=>⟨vs,(show SqT K H2 a vs from .of (s2.tup a vs e3)),r3.stp s2⟩⟩
 | ref n=>
  have e2:zAZ M1 (.dat (.ref n)) = some xs:=e;obtain ⟨a,vs,rfl,e3,r3⟩:=zAX c1 r1' e2;refine ⟨false,a,rfl,⟨vs,(show SqL K H1 a vs from .inl e3)⟩,fun L2 H2 M2 s2 c2 hq=>?_⟩;unfold Rep at r1;obtain ⟨a',ha',e5⟩:=r1;cases ha';have e6:L2[n]? = some a:=by obtain ⟨N,hN⟩:=s2.pre; rw [hN]; exact zBz e5
  have r2:zZ H2 L2 H2 (.dat (.ref n)) (.ref a):=by unfold zZ Rep; exact ⟨a,rfl,e6⟩
  obtain ⟨a2,vs',h2,e7,r7⟩:=zAX c2 r2 (show zAZ M2 (.dat (.ref n)) = some xs from hq);cases h2;exact ⟨vs',(show SqL K H2 a vs' from .inl e7),r7⟩
 | _=>cases e
end
theorem zEQ {ns:List Int} {its:List Value} (r:zU (ns.map V.int) its) {i:Nat} {v:Value} (h:its.toArray[i]? = some v):∃ t,v = .int (ns.getD i 0) t:=by
 have h':its[i]? = some v:=by simpa using h
 have hi:i < its.length:=(zQQ.mp h').1;have hl:=r.length;rw [zQW] at hl;have hx:(ns.map V.int)[i]? = some (.int (ns.getD i 0)):=by
  rw [zQk,zQS,zQR (by omega)]; rfl
 obtain ⟨u,hu,ru⟩:=r.get hx;rw [h'] at hu;cases hu;obtain ⟨t,rfl⟩:=ru;exact ⟨t,rfl⟩
theorem zKn (hh:A.handled = none) (b:Bool) (I ax:Addr) (hne:ax ≠ I) (items:Array Value) :
  Walks prog w A I [I,ax] [I] items.size (fun i v=>items[i]? = some v) (fun i h=>SI b h I ax i /\ SO b h ax items):=by
 cases b with
 | true=>exact Walks.tuple hh I ax hne items
 | false=>exact Walks.list hh I ax hne items
section
theorem zIu (gt:Bool) (hc:X.calm = true):zBC X (.builtin (if gt then "max" else "min")) (fun xs H Q=>∃ (b:Bool) (a:Addr) (ns:List Int) (m:Int),xs = [.ref a] /\ SqG X.K b H a (ns.map V.int) /\ m ∈ ns /\ (∀ x ∈ ns,if gt then x <= m else m <= x) /\ Q (.int m) H):=by
 intro zB s σ H xs us Q I r h;obtain ⟨b,a,ns,m,rfl,hs,hm,hb,q⟩:=h;obtain ⟨u,rfl,ru⟩:=zCg r;cases ru;obtain ⟨its,rv,p1⟩:=zBo I hs;have hl:its.toArray.size = ns.length:=by have:=rv.length; simp at this ⊢; omega
 have hpos:0 < ns.length:=List.length_pos_of_mem hm;have hlt:=zLX p1;have hfp:∀ c ∈ [s.heap.objs.size,a],c < (s.heap.push (itO b a)).objs.size:=fun c hc'=>by
  rw [zQ3];simp only [zQZ,zQs,zRi] at hc';rcases hc' with rfl | rfl
  ·exact Nat.lt_succ_self _
  ·exact Nat.lt_succ_of_lt hlt
 have st:SI b (s.heap.push (itO b a)) s.heap.objs.size a 0 /\ SO b (s.heap.push (itO b a)) a its.toArray:=⟨zLT (zQX _ rfl),p1.keep fun o e=>zQO _ e⟩;have kp:∀ h':Heap,(∀ c o,c ∉ [s.heap.objs.size] -> (s.heap.push (itO b a)).get? c = some o -> h'.get? c = some o) -> ∀ c o,s.heap.get? c = some o -> h'.get? c = some o:=fun h' hk c o e0=>
  hk c o (by simp only [zQZ,zQs,zRi]; exact zQi (zQY e0)) (zQO _ e0)
 have fin:∀ (i:Nat) (v:Value) (h':Heap) (tk:Nat),its.toArray[i]? = some v -> ns.getD i 0 = m -> (∀ c o,s.heap.get? c = some o -> h'.get? c = some o) -> EP X zB σ Q v { s with heap:=h',toks:=tk }:=fun i v h' tk hv hi hk=>by
  obtain ⟨t,rfl⟩:=zEQ rv hv;rw [hi];exact ⟨.int m,H,I.kept hk,⟨t,rfl⟩,q⟩
 cases gt with
 | true=>
  refine call_max_walk (zIb p1 ⟨s.heap.objs.size,[s.heap.objs.size,a],[s.heap.objs.size],its.toArray.size,fun i v=>its.toArray[i]? = some v,fun i h=>SI b h s.heap.objs.size a i /\ SO b h a its.toArray,_,rfl,zKn (A:=X.A.in1) (I.ok.hd hc) b _ a (zQi hlt) its.toArray,st,hfp,by omega,CmpOf.ints_gt (fun i=>ns.getD i 0) (fun _ _ hv=>zEQ rv hv),fun v h' tk hP hk=>?_⟩);refine fin _ v h' tk hP ?_ (kp h' hk);obtain ⟨h1,h2⟩:=argBest_gt (fun i=>ns.getD i 0) (its.toArray.size - 1);rw [hl] at h1 h2 ⊢;generalize argBest _ (ns.length - 1) = q at h1 h2 ⊢;obtain ⟨j,hj,ej⟩:=List.mem_iff_getElem.mp hm;have h3:=h2 j (by omega);have e3:ns.getD j 0 = m:=by rw [zQS,zQR hj]; exact ej
  have hq:q < ns.length:=by omega
  have h4:ns.getD q 0 <= m:=by
   have:=hb (ns.getD q 0) (by rw [zQS,zQR hq]; exact zQv hq);simpa using this
  rw [e3] at h3;omega
 | false=>
  refine call_min_walk (zIb p1 ⟨s.heap.objs.size,[s.heap.objs.size,a],[s.heap.objs.size],its.toArray.size,fun i v=>its.toArray[i]? = some v,fun i h=>SI b h s.heap.objs.size a i /\ SO b h a its.toArray,_,rfl,zKn (A:=X.A.in1) (I.ok.hd hc) b _ a (zQi hlt) its.toArray,st,hfp,by omega,CmpOf.ints_lt (fun i=>ns.getD i 0) (fun _ _ hv=>zEQ rv hv),fun v h' tk hP hk=>?_⟩);refine fin _ v h' tk hP ?_ (kp h' hk);obtain ⟨h1,h2⟩:=argBest_lt (fun i=>ns.getD i 0) (its.toArray.size - 1);rw [hl] at h1 h2 ⊢;generalize argBest _ (ns.length - 1) = q at h1 h2 ⊢;obtain ⟨j,hj,ej⟩:=List.mem_iff_getElem.mp hm;have h3:=h2 j (by omega);have e3:ns.getD j 0 = m:=by rw [zQS,zQR hj]; exact ej
  have hq:q < ns.length:=by omega
  have h4:m <= ns.getD q 0:=by
   have:=hb (ns.getD q 0) (by rw [zQS,zQR hq]; exact zQv hq);simpa using this
  rw [e3] at h3;omega
def zBT (gt:Bool):Int -> List Int -> Int
 | m,[]=>m
 | m,x :: r=>zBT gt (if (if gt then m < x else x < m) then x else m) r
theorem zBv (gt:Bool):∀ (r:List Int) (m:Int),zBT gt m r ∈ m :: r /\ ∀ x ∈ m :: r,if gt then x <= zBT gt m r else zBT gt m r <= x
 | [],m=>by
  refine ⟨by simp [zBT],fun x hx=>?_⟩;have:x = m:=by simpa using hx
  subst this; cases gt <;> simp [zBT]
 | y :: r,m=>by
  unfold zBT;obtain ⟨h1,h2⟩:=zBv gt r (if (if gt then m < y else y < m) then y else m);generalize hb:zBT gt (if (if gt then m < y else y < m) then y else m) r = B at h1 h2;constructor
  ·rcases zQZ.mp h1 with q | q
   ·rw [q];by_cases hc:(if gt = true then m < y else y < m)
    ·rw [zQc hc]; simp
    ·rw [zQf hc]; simp
   ·simp [q]
  ·intro x hx;have h0:=h2 _ zQb;rcases zQZ.mp hx with q | q
   ·subst q;cases gt with
    | true=>simp at h0 ⊢; split at h0 <;> omega
    | false=>simp at h0 ⊢; split at h0 <;> omega
   ·rcases zQZ.mp q with z | z
    ·subst z;cases gt with
     | true=>simp at h0 ⊢; split at h0 <;> omega
     | false=>simp at h0 ⊢; split at h0 <;> omega
    ·exact h2 x (zQa _ z)
def zEZ (gt:Bool):KB:=fun xs M=>match xs with
 | [.dat d]=>match zg M (.dat d) with
  | some ds=>match zA9 ds with
   | some (n :: ns)=>some (.dat (.int (zBT gt n ns)),M)
   | _=>none
  | none=>none
 | [.fl ds]=>match zA9 ds with
  | some (n :: ns)=>some (.dat (.int (zBT gt n ns)),M)
  | _=>none
 | _=>none
theorem zJl {K:PySem.W.Frag} {gt:Bool}:zDu K (fun xs H Q=>∃ (b:Bool) (a:Addr) (ns:List Int) (m:Int),xs = [.ref a] /\ SqG K b H a (ns.map V.int) /\ m ∈ ns /\ (∀ x ∈ ns,if gt then x <= m else m <= x) /\ Q (.int m) H) (zEZ gt):=by
 intro L M M' H H0 xs d vs Q c r hk q;unfold zEZ at hk;split at hk
 ·rename_i d0;split at hk
  ·rename_i ds e1;split at hk
   ·rename_i n ns e2;cases hk;obtain ⟨v,rfl,r1⟩:=r.one;have r1':Rep L H d0 v:=r1;obtain ⟨b,l,rfl,_,key⟩:=zD4 c r1' e1;obtain ⟨vs',hq,rr⟩:=key L H M (.refl L H) c e1;have ev:=zAy e2 rr;subst ev;obtain ⟨h1,h2⟩:=zBv gt ns n;exact ⟨b,l,n :: ns,zBT gt n ns,rfl,hq,h1,h2,q L H _ (.refl L H) c (zAE (L:=L) (H:=H))⟩
   ·cases hk
  ·cases hk
 ·rename_i ds;split at hk
  ·rename_i n ns e2;cases hk;obtain ⟨v,rfl,r1⟩:=r.one;obtain ⟨l,vs',rfl,hq,rr⟩:=zAX c r1 (show zAZ M (.fl ds) = some ds from rfl);have ev:=zAy e2 rr;subst ev;obtain ⟨h1,h2⟩:=zBv gt ns n;exact ⟨false,l,n :: ns,zBT gt n ns,rfl,.inl hq,h1,h2,q L H _ (.refl L H) c (zAE (L:=L) (H:=H))⟩
  ·cases hk
 ·cases hk
theorem zN2 (hcalm:X.calm = true) (hg:Gl X "max") (hm:X.mg "max" = none) (ha:QAE X [e] fa) (he:starEach [e] X.env = (false,eval e X.env) :: starEach [] X.env:=by rfl) (hpl:(backTo pos (starEach [] X.env)).any (·.1) = false:=by rfl):QE X (.Call (.Name "max" p) [e] [] pos) (fB (zEZ true) fa) :=
 zC0 zJl (zIu true hcalm) (by rfl) hg hm ha (by decide) (by decide) he hpl
end
section
theorem zJY:zBC X (.builtin "len") (fun xs H Q=>∃ (p:Addr) (kvs:List (Key × V)),xs = [.ref p] /\ H p = some (.dK kvs) /\ Q (.int kvs.length) H):=by
 intro zB s σ H xs us Q I r h;obtain ⟨p,kvs,rfl,hx,q⟩:=h;obtain ⟨u,rfl,rx⟩:=zCg r;cases rx;have hn:=zDD;obtain ⟨hz,hS,vs,r',m⟩:kvs.length <= sizeLine /\ (p == sysModules) = false /\ ∃ vs,KV kvs vs /\ s.heap.DictOf (zu X.prog X.w) p vs:=I.hok p _ hx;have hlen:kvs.length = vs.length:=Paired.length r';exact call_len_dict hS m (by omega) ⟨.int kvs.length,H,I.tok _,⟨s.toks + 1,by rw [hlen]⟩,q⟩
def zGU:KB:=fun xs M=>match xs with
 | [.dat (.ref n)]=>match M[n]? with
  | some (.dict kvs)=>some (.dat (.int kvs.length),M)
  | _=>none
 | _=>none
theorem zKR {K:PySem.W.Frag}:zDu K (fun xs H Q=>∃ (p:Addr) (kvs:List (Key × V)),xs = [.ref p] /\ H p = some (.dK kvs) /\ Q (.int kvs.length) H) zGU:=by
 intro L M M' H H0 xs d vs Q c r hk q;unfold zGU at hk;split at hk
 ·rename_i n;split at hk
  ·rename_i kvs e1;cases hk;obtain ⟨v,rfl,r1⟩:=r.one;unfold zZ Rep at r1;obtain ⟨a,rfl,e2⟩:=r1;obtain ⟨ws,e3,r3⟩:=c.obj n a _ e2 e1;have hl:=r3.length;refine ⟨a,ws,rfl,e3,?_⟩;have:=q L H (.int kvs.length) (.refl L H) c (zAE (L:=L) (H:=H));rw [<- hl] at this; exact this
  ·cases hk
 ·cases hk
theorem zNa (hg:Gl X "len") (hm:X.mg "len" = none) (ha:QAE X [e] fa) (he:starEach [e] X.env = (false,eval e X.env) :: starEach [] X.env:=by rfl) (hpl:(backTo pos (starEach [] X.env)).any (·.1) = false:=by rfl):QE X (.Call (.Name "len" p) [e] [] pos) (fB zGU fa) :=
 zC0 zKR zJY PySem.boot_len hg hm ha (by decide) (by decide) he hpl
end
end L3
namespace L2
open PySem PySem.Spec PyProof.Rows
end L2
namespace L3
open PySem PySem.Spec PyProof.Rows L2
end L3
namespace L2
open PySem PySem.Spec PyProof.Rows
end L2
namespace L3
open PySem PySem.Spec PyProof.Rows L2
open SeqAt
structure Df (K:PySem.W.Frag) (mg:Str -> Option Value) (x:Str) (st:Stmt) (ps:List Str) where
 f:Addr
 fd:FuncData
 F:Fun K x x st f fd
 b:zEV K fd ps []
 m:mg x = some (.ref f)
structure Dg (K:PySem.W.Frag) (x:Str) (st:Stmt) where
 f:Addr
 {od an:Option Addr}
 {sl:Array (Option Value)}
 {oc kV dc pm cd ct:Value}
 a:PySem.W.nsIn K mainGlobals x = some (some (.ref f))
 l:K.lookup f = some ⟨oc,od,.func (PySem.W.fnOf x x (zCU st) (zBY st) (zX st) .none kV dc pm an cd ct),sl⟩
 c:PySem.W.codeIn K cd x = true
 k:PySem.W.keepIn K (.ref f) = true
abbrev Dg.df {K:PySem.W.Frag} {x:Str} {st:Stmt} {ps:List Str} {h:Heap} {mg:Str -> Option Value} (g:Dg K x st) (X:K.In h) (G:h.Ns mainGlobals mg)
  (hb:∀ (kV doc pm:Value) (an:Option Addr) (cdv ct:Value) (us:List Value),us.length = ps.length -> bindArgs (PySem.W.fnOf x x (zCU st) (zBY st) (zX st) .none kV doc pm an cdv ct) ⟨us,[]⟩ = pure (ps.zip us)):Df K mg x st ps :=
 ⟨g.f,_,zJw g.l g.c g.k,(zJw g.l g.c g.k).binds hb,PySem.W.mg_of X G g.a⟩
abbrev Od (P:Program) (w:World) (base:Heap) (k:Nat) {K:PySem.W.Frag} {mg:Str -> Option Value} {x:Str} {st:Stmt} {ps:List Str} (d:Df K mg x st ps) (m:FF):Prop:=FnOk P w K mg base CX0 k d.f d.fd ps (spF K ps.length m)
abbrev Zn (K:PySem.W.Frag) (x:Str):Prop:=PySem.W.nsIn K mainGlobals x = some none
abbrev Ki (K:PySem.W.Frag) (t T:String) (b:Bool):Prop:=PySem.W.kitOne K (.type t) (.type T) = some b
theorem zNe {P:List Value -> Prop} (h:∀ a,P [a]):∀ us:List Value,us.length = 1 -> P us
 | [a],_=>h a
theorem zIp {P:List Value -> Prop} (h:∀ a b,P [a,b]):∀ us:List Value,us.length = 2 -> P us
 | [a,b],_=>h a b
theorem zNM {P:List Value -> Prop} (h:∀ a b c,P [a,b,c]):∀ us:List Value,us.length = 3 -> P us
 | [a,b,c],_=>h a b c
section
variable {st:Stmt}
theorem zOe {d:Df X.K X.mg x st ps} (F:FnOk X.prog X.w X.K X.mg X.base CX0 k d.f d.fd ps (spF X.K (e :: es).length g)) (hr:Room k X.A) (hg:Gl X x)
  (ha:QA X (e :: es) fa) (hl:∀ σ M ds M1,fa σ M = some (ds,M1) -> ds.length = (e :: es).length) (hdb:(x == ("__debug__" : Str)) = false) (he:starEach (e :: es) X.env = (false,eval e X.env) :: starEach es X.env) (hpl:(backTo pos (starEach es X.env)).any (·.1) = false) :
  QE X (.Call (.Name x p) (e :: es) [] pos) (zW g fa):=zNY F hr hg d.m d.F.kp d.b ha hl hdb he hpl
theorem zP4 (hN:X.N.Nodup) (hi:X.N[i]? = some x) (h:QE X e f) (hx:Loc X.env.scope x:=by first | exact Or.inl rfl | exact Or.inr rfl) (hs:swapsWith e (some (.Name x pos')) pos.line X.env = pure false:=by rfl)
  (hf:X.fn x = true \/ X.env.scope.names.lookup x = some .local:=by first | exact .inl rfl | exact .inr rfl | assumption):QS X (.Assign [.Name x pos'] e pos) (zp i f):=zPv hN hi hx h hs hf
theorem zJ0 (hN:X.N.Nodup) (hi:X.N[i]? = some x) (hx:Loc X.env.scope x:=by first | exact Or.inl rfl | exact Or.inr rfl) (hf:X.fn x = true \/ X.env.scope.names.lookup x = some .local:=by first | exact .inl rfl | exact .inr rfl | assumption):PG X (.Name x pos) (zCi i):=zIN hN hi hx hf
end
theorem zII:∀ {ys:List V} {us:List Value},ys.length = us.length -> (∀ (i:Nat) y u,ys[i]? = some y -> us[i]? = some u -> ze y u) -> zU ys us
 | [],[],_,_=> .nil
 | [],_ :: _,h,_=>by cases h
 | _ :: _,[],h,_=>by cases h
 | y :: ys,u :: us,h,q=> .cons (q 0 y u rfl rfl) (zII (Nat.succ.inj h) fun i y' u' e1 e2=>q (i + 1) y' u' (by simpa using e1) (by simpa using e2))
end L3
namespace ST
open PySem PySem.Spec PyProof.Rows
end ST
namespace L3
open PySem PySem.Spec PyProof.Rows L2 ST
end L3
namespace ST
open PySem PySem.Spec PyProof.Rows
end ST
namespace L3
open PySem PySem.Spec PyProof.Rows L2 ST
end L3
namespace L2
open PySem PySem.Spec PyProof.Rows
section
variable {prog:Program} {w:World} {A:Around} {E:Value -> Shared -> Prop} {s:Shared}
theorem zFf (hx:s.heap.get? a = some o) (hc:o.cls = .type "list") (hdat:o.data = .seq xs k) (hd:o.dict = none) (hA:A.handled = none)
  (h:∀ h' tk,(∀ b u,s.heap.get? b = some u -> h'.get? b = some u) -> Q none { s with heap:=h',toks:=tk }):wpAny (model prog w) A (getAttr? (.ref a) "keys") Q E s:=by
 obtain ⟨c,dct,dat,sl⟩:=o;simp only at hc hdat hd;subst hc hdat hd;obtain ⟨hp,g,d,tk,os⟩:=s;have hT:∀ tk',(⟨hp,g,d,tk',os⟩:Shared).TypeIs (.ref a) "list" := fun _=>⟨_,hx,rfl⟩;have f1:=sub_AttributeError;have f3:=F.slot_list_getattribute.lookup;have f4:=F.slot_list_getattribute.bind (.ref a);have f5:=am_list_getattr_none;have hmiss:typeLookup (.type "list") "keys" = pure none:=by rw [typeLookup_type,builtinLookup_eq_fast]; kernel_rfl
 unfold getAttr? getAttrBy? getAttrBy;repeat (any_goals (first | assumption | exact hT _ | ((with_reducible show wpAny _ _ (call (Value.builtin "list.__getattribute__") _ _) _ _ _); refine call_meets F.slot_list_getattribute (hT _) am_entry_list_getattribute (F.args_list_getattribute_2 _ _) (meets_getattribute_miss_list a xs k sl "keys" _ hmiss (by decide)) ⟨hx,hA,fun h' tk' e hx'=>?_⟩) | wp_step))
 obtain ⟨t',u',he⟩:=hx'.there;unfold getattributeRaised;repeat (any_goals (first | assumption | wp_step))
 exact h _ _ hx'.keeps
end
set_option genInjectivity true in
inductive Puts (d:Addr):List V -> Hp -> Hp -> Prop
 | nil {H:Hp}:Puts d [] H H
 | cons {b:Addr} {k x:V} {vs:List V} {H H1 H2:Hp}:H b = some (.tup [k,x]) -> zDR H d k x H1 -> Puts d vs H1 H2 -> Puts d (.ref b :: vs) H H2
theorem zCD:entryFor table "dict.update.loop" = some Builtin.«dict.update.loop»:=entryFor_of_tree (by kernel_rfl)
theorem zAh:plainId "dict.update.loop" = true:=by decide +kernel
theorem zDR.some {H H1:Hp} {d:Addr} {k x:V} (p:zDR H d k x H1):H d ≠ none /\ ∀ b,b ≠ d -> H1 b = H b:=by
 rcases p with ⟨kvs,k,e,_,_,rfl⟩ | ⟨kvs,k,b,e,_,_,_,rfl⟩
 ·exact ⟨by rw [e]; simp,fun b hb=>zM hb⟩
 ·exact ⟨by rw [e]; simp,fun b hb=>zM hb⟩
section
variable {X:Cx} {zB:List (Addr × Obj)} {σ:St} {A:Around}
theorem zJC (hu:A.units + 2 < cLine) (hA:A.handled = none) (hai:a ≠ it) (had:a ≠ d) (P:Puts d vs H H2) :
  ∀ (pre its:List Value) (j:Int) (s:Shared),items.toList = pre ++ its -> zU vs its -> Inv X zB σ H s -> zBq X zB H it -> s.heap.IsListIter it a pre.length -> s.heap.IsList a items ->
   (∀ s',Inv X zB σ H2 s' -> R (.ok (.ret .none)) s') -> codeAny (model X.prog X.w) A (.builtin "dict.update.loop" ⟨[.ref d,.ref it,rawInt j,.none],[]⟩) R s:=by
 have W:=Walks.list (prog:=X.prog) (w:=X.w) (A:=A.in1) (by simpa using hA) it a hai items;induction P with
 | nil=>
  intro pre its j s hi hv I hf h1 h2 hR;cases hv;have hn:items.size = pre.length:=by rw [<- zQ6,hi]; simp
  refine codeAny_builtin zCD ?_;rw [Around.under_plainId zAh _];refine zQN (W.done s _ _ (by rw [hn]; exact ⟨h1,h2⟩) fun h' tk k=>?_);refine zQN (zQP ?_);exact zQP (hR _ (L3.zBk (s:=s) (h':=h') (t':=tk) I (ch:=[it]) (fun b hb=>by cases zQp.mp hb; exact hf) fun b u hb e=>k b u hb e))
 | @cons b k x vs H H1 H2 eb dp _ ih=>
  intro pre its j s hi hv I hf h1 h2 hR;cases hv with
  | @cons _ u _ its rb hv=>
  cases rb;have hlt:pre.length < items.size:=by rw [<- zQ6,hi]; simp
  refine codeAny_builtin zCD ?_;rw [Around.under_plainId zAh _];refine zQN (W.item pre.length s _ _ hlt ⟨h1,h2⟩ fun v h' tk hP hst kk=>?_);have hv':v = .ref b:=by
   rw [<- Array.getElem?_toList,hi] at hP;simpa using hP.symm
  subst hv';have I1:Inv X zB σ H { s with heap:=h',toks:=tk }:=L3.zBk (s:=s) (h':=h') (t':=tk) I (ch:=[it]) (fun b hb=>by cases zQp.mp hb; exact hf) fun b u hb e=>kk b u hb e;obtain ⟨us,ru,⟨o,eo,oc,no,od⟩,_⟩:=I1.tuple (a:=b) (xs:=[k,x]) (.inl (.inl eb));obtain ⟨u1,u2,rfl,r1,r2⟩:=zM6 ru;refine zQN (zRG ?_);refine zQN (wpAny_tryCatch ?_);unfold Builtin.Dict.pairItems;refine zQN (wpAny_typeOf (T := "tuple") ⟨o,eo,oc⟩ ?_);rw [zQc (by decide)];refine zQN (zRD eo od (zQP ?_));refine zRG (zJL (show A.in1.units + 1 < cLine from hu) I1 dp r1 r2 fun s3 I3 hs=>?_);obtain ⟨dn,ds⟩:=dp.some;have hid:it ≠ d:=fun z=>dn (z ▸ hf.1);have hst3:=W.frame (pre.length + 1) h' s3.heap hst fun c hc o e=>by
   rw [hs.2 c (fun z=>by
    rcases zQZ.mp hc with q | q
    ·exact hid (q.symm.trans z)
    ·exact had ((zQp.mp q).symm.trans z))]
   exact e
  refine zQP ⟨plainId_quiet zAh _,ih (pre ++ [.ref b]) its (j + 1) s3 (by rw [hi]; simp) hv I3 ⟨(ds it hid).trans hf.1,hf.2⟩ (by rw [zQd]; exact hst3.1) hst3.2 hR⟩
theorem zGP (hu:X.A.units + 1 + 4 < cLine) (hc:X.calm = true):zBC X (.type "dict") (fun xs H Q=>∃ a vs isT,xs = [.ref a] /\ H a = some (.lst vs) /\ ∀ p,H p = none -> ∃ H2,Puts p vs (upd H p (zCq isT)) H2 /\ Q (.ref p) H2):=by
 intro zB s σ H xs us Q I r h;obtain ⟨a,vs,isT,rfl,ea,q⟩:=h;obtain ⟨u,rfl,rx⟩:=zCg r;cases rx;obtain ⟨its,rv,⟨ol,nl,e1,e2,e3,e4⟩,hz⟩:=I.list (xs:=vs) (.inl (.inl ea));have hA:X.A.handled = none:=I.ok.hd hc;have hp:H s.heap.objs.size = none:=I.hok.fresh (zQT _);obtain ⟨H2,P,qq⟩:=q _ hp;refine callType_codes (Q₁:=fun obj s₁=>obj = .ref s.heap.objs.size /\ s₁ = { s with heap:=s.heap.push zB7 }) F.kt_called_dict (F.kt_typeCall_dict_1 _) F.entry_dict_init (kt_code_dict_new _ ⟨rfl,rfl⟩) ?_;rintro obj s₁ ⟨rfl,rfl⟩;have big:sysModules < s.heap.objs.size:=I.big;have hsm:(s.heap.objs.size == sysModules) = false:=by rw [beq_eq_false_iff_ne]; exact zRs big
 have pD:(s.heap.push zB7).get? s.heap.objs.size = some zB7:=zQX _ rfl;have I1:Inv X zB σ (upd H s.heap.objs.size (zCq isT)) { s with heap:=s.heap.push zB7 }:=by
  refine I.laid (t':=s.toks) (fun b q z=>zQO _ z) (zQT _) ?_;cases isT with
  | false=>exact ⟨zQ9 _,hsm,[],.nil,zB7,#[],0,pD,⟨rfl,rfl,rfl⟩,rfl,fun _ he=>by simp at he,.nil,List.nodup_nil⟩
  | true=>exact ⟨zQ9 _,hsm,[],.nil,zB7,#[],0,pD,⟨rfl,rfl,rfl⟩,rfl,rfl,List.nodup_nil⟩
 have hl1:(s.heap.push zB7).get? a = some ol:=zQO _ e1;have hap:a ≠ s.heap.objs.size:=zQi (zQY e1);refine ⟨⟨_,pD,rfl⟩,F.args_dict_init_2 _ _,?_⟩;unfold Builtin.«dict.__init__»;refine zQN ?_;unfold Builtin.Dict.selfAndRest;refine zQN (wpAny_notOrdered_dict ⟨_,pD,rfl⟩ ?_);refine zQP ?_;show wpAny _ _ (Builtin.Dict.updateFrom "dict.__init__" s.heap.objs.size (.ref a) [] .none) _ _ _;unfold Builtin.Dict.updateFrom;refine zQN (wpAny_typeOf (T := "list") ⟨ol,hl1,e2⟩ ?_);rw [zQc (by decide)];refine zQN (zFf hl1 e2 e4 e3 (by simpa using hA) fun h' tk k=>?_);have I2:Inv X zB σ (upd H s.heap.objs.size (zCq isT)) { s with heap:=h',toks:=tk }:=I1.kept (t':=tk) k;rw [zQc (show (none:Option Value).isNone = true from rfl)];refine zQN (wpAny_rule ?_);have hl2:h'.IsList a its.toArray:=⟨ol,k _ _ hl1,e2,nl,e4⟩;refine zQN (wpAny_pyIter_list (s:={ s with heap:=h',toks:=tk }) hl2 ?_);refine zQP ⟨plainId_quiet zAh _,?_⟩;have I3:Inv X zB σ (upd H s.heap.objs.size (zCq isT)) { s with heap:=h'.push { cls:=.type "list_iterator", data:=.fields #[.ref a,.int 0 0] },toks:=tk }:=I2.kept (t':=tk) fun b u z=>zQO _ z;refine zJC (items:=its.toArray) (show X.A.in1.units + 2 < cLine from Nat.lt_of_le_of_lt (by show X.A.units + 1 + 2 <= _; omega) hu) (by simpa using hA) (zQi (zQY (k _ _ hl1))) hap P [] its 0 _ (by simp) rv I3 ?_ ?_ ?_ ?_
 ·exact I2.fpOk (zQT _) (I2.hok.fresh (zQT _))
 ·exact ⟨_,zQX _ rfl,rfl,rfl⟩
 ·exact ⟨ol,zQO _ (k _ _ hl1),e2,nl,e4⟩
 ·exact fun s' I'=>⟨rfl,.ref s.heap.objs.size,H2,I',rfl,qq⟩
end
end L2
namespace L3
open PySem PySem.Spec PyProof.Rows L2
def zDO (n:Nat):List D -> Mem -> Option Mem
 | [],M=>some M
 | .tup [k,v] :: ds,M=>match zCh M n k v with
  | some M1=>zDO n ds M1
  | none=>none
 | _ :: _,_=>none
def zCd (isT:Bool):KB:=fun xs M=>match xs with
 | [.fl ds]=>match zDO M.length ds (M ++ [zHZ isT]) with
  | some M1=>some (.dat (.ref M.length),M1)
  | none=>none
 | _=>none
theorem zEB {K:PySem.W.Frag} {n:Nat} {p:Addr}:∀ {ds:List D} {L:List Addr} {M M':Mem} {H:Hp} {vs:List V},Cor K L M H -> L[n]? = some p -> zH L H ds vs -> zDO n ds M = some M' -> ∃ H',Puts p vs H H' /\ Cor K L M' H' /\ Stp L H L H'
 | [],L,M,M',H,vs,c,lp,r,e=>by
  unfold zH at r; subst r;cases e;exact ⟨H,.nil,c,.refl L H⟩
 | d :: ds,L,M,M',H,vs,c,lp,r,e=>by
  unfold zH at r;obtain ⟨v,r',rfl,r1,r2⟩:=r;unfold zDO at e;split at e
  ·rename_i h; cases h
  ·rename_i k x ds' e0;cases e0;split at e
   ·rename_i M1 e1;unfold Rep at r1;obtain ⟨b,ws,rfl,e2,r3⟩:=r1;unfold zH at r3;obtain ⟨vk,r4,rfl,rk,r5⟩:=r3;unfold zH at r5;obtain ⟨vx,r6,rfl,rx,r7⟩:=r5;unfold zH at r7;subst r7;obtain ⟨H1,dp,c1,s1⟩:=zGr c lp rk rx e1;obtain ⟨H2,P,c2,s2⟩:=zEB c1 lp (r2.stp s1) e;exact ⟨H2,.cons e2 dp P,c2,s1.trans s2⟩
   ·cases e
  ·cases e
section
variable {X:Cx}
theorem zH1 (isT:Bool):zDu X.K (fun xs H Q=>∃ a vs isT,xs = [.ref a] /\ H a = some (.lst vs) /\ ∀ p,H p = none -> ∃ H2,Puts p vs (upd H p (zCq isT)) H2 /\ Q (.ref p) H2) (zCd isT):=by
 intro L M M' H H0 xs d vs Q c r hk q;unfold zCd at hk;split at hk
 ·rename_i ds;split at hk
  ·rename_i M1 e1;cases hk;obtain ⟨v,rfl,r1⟩:=r.one;unfold zZ at r1;obtain ⟨a,ws,rfl,_,e2,_,r2⟩:=r1;refine ⟨a,ws,isT,rfl,e2,fun p hp=>?_⟩;obtain ⟨c0,s0⟩:Cor X.K (L ++ [p]) (M ++ [zHZ isT]) (upd H p (zCq isT)) /\ Stp L H (L ++ [p]) (upd H p (zCq isT)):=by
    cases isT with
    | true=>exact c.pushO (m:=.dicT []) hp ⟨[],zj,rfl⟩
    | false=>exact c.pushO (m:=.dict []) hp ⟨[],zj,rfl⟩
   have lp0:(L ++ [p])[M.length]? = some p:=by rw [<- c.len]; simp
   obtain ⟨H2,P,c2,s2⟩:=zEB c0 lp0 (r2.stp s0) e1;refine ⟨H2,P,q _ _ _ (s0.trans s2) c2 ?_⟩;unfold zZ Rep;exact ⟨p,rfl,lp0⟩
  ·cases hk
 ·cases hk
theorem zJt (isT:Bool) (hu:X.A.units + 1 + 4 < cLine) (hc:X.calm = true) (hg:Gl X "dict") (hm:X.mg "dict" = none) (ha:QAE X [e] fa) (he:starEach [e] X.env = (false,eval e X.env) :: starEach [] X.env:=by rfl) (hpl:(backTo pos (starEach [] X.env)).any (·.1) = false:=by rfl):QE X (.Call (.Name "dict" p) [e] [] pos) (fB (zCd isT) fa) :=
 zDy (zH1 isT) (zGP hu hc) (by rfl) hg hm ha (by decide) (by decide) he hpl
end
end L3
namespace L2
open PySem PySem.Spec PyProof.Rows ST
end L2
namespace L3
open PySem PySem.Spec PyProof.Rows L2 ST
section
variable {prog:Program} {w:World} {A:Around} {E:Value -> Shared -> Prop} {s:Shared}
theorem zC6 (h:Q (s.heap.get? a) s):wpAny (model prog w) A (loadIfAlive a) Q E s:=fun Γ p _=>by
 unfold loadIfAlive;rw [Sem.wp_loadIfAlive];simpa using h
abbrev zDH (f:Value) (g:Bool) (TI TO:Addr):Obj:={ cls:=.type "zip", dict:=none,data:=.fields #[f,.bool g,.bool false,.ref TI,.ref TO],slots:=#[] }
structure ZipA (b1 b2:Bool) (h:Heap) (z TI TO i1 i2 t1 t2:Addr) (k:Nat):Prop where
 z:∃ f g,(f = .none \/ ∃ T:Addr,f = rawInt T) /\ h.get? z = some (zDH f g TI TO)
 ti:IsPair h TI (.ref i1) (.ref i2)
 to:∃ a b,IsPair h TO a b
 a:SI b1 h i1 t1 k
 b:SI b2 h i2 t2 k
theorem zIG {z TI TO:Addr} {f:Value} {g:Bool} {Q:Bool -> Shared -> Prop} (hf:f = .none \/ ∃ T:Addr,f = rawInt T) (Z0:s.heap.get? z = some (zDH f g TI TO)) (qt:Q true s) (qf:∀ h' g',h'.get? z = some (zDH f g' TI TO) -> Heap.SameBut z s.heap h' -> Q false { s with heap:=h' }):wpAny (model prog w) A (Builtin.SmallTypes.ownedTupleIsFree (.ref z)) Q E s:=by
 unfold Builtin.SmallTypes.ownedTupleIsFree;rcases hf with rfl | ⟨T,rfl⟩
 ·exact zQN (zQ2 Z0 rfl (x:=.none) rfl (zQP qt))
 ·refine zQN (zQ2 Z0 rfl (x:=rawInt T) rfl ?_);unfold rawInt;dsimp only;refine zQN (zC6 ?_);cases AT:s.heap.get? ((T:Int)).toNat with
  | none=>exact zQP qt
  | some o=>
   simp only [Option.isNone_some,Bool.false_eq_true,if_false];refine zQN (zQ2 Z0 rfl (x:=.bool g) rfl ?_);cases g
   ·rw [zQc (by decide)];exact zQN (zRd Z0 (by simp) fun h1 Z1 e1=>zQP (qf h1 true Z1 e1))
   ·rw [zQf (by decide)];exact zQP (qf s.heap true Z0 (Heap.SameBut.refl _ _))
theorem zFC {b1 b2:Bool} {z TI TO i1 i2 t1 t2:Addr} {k:Nat} {xs ys:Array Value} {x y:Value} {Q:Option Value -> Shared -> Prop} (D:ZipApart z TI TO i1 i2 t1 t2) (Z:ZipA b1 b2 s.heap z TI TO i1 i2 t1 t2 k)
  (T1:SO b1 s.heap t1 xs) (T2:SO b2 s.heap t2 ys) (hx:xs[k]? = some x) (hy:ys[k]? = some y)
  (q:∀ h',ZipA b1 b2 h' z TI TO i1 i2 t1 t2 (k + 1) -> IsPair h' s.heap.objs.size x y ->
   (∀ c o,c ∉ [z,TO,i1,i2] -> s.heap.get? c = some o -> h'.get? c = some o) -> Q (some (.ref s.heap.objs.size)) { s with heap:=h' }):wpAny (model prog w) A (pyNext (.ref z)) Q E s:=by
 obtain ⟨⟨f,g,hf,Z0⟩,P0,⟨a,b,O0⟩,I1,I2⟩:=Z;have ty:s.TypeIs (.ref z) "zip" := ⟨_,Z0,rfl⟩;unfold pyNext;refine zQN (wpAny_attempt (zQz (name:=Str.ofString "__next__") ty zR1 (zQ0 zR1 ty PySem.F.entry_zip_next ?_ (PySem.F.args_zip_next_1 _))));refine zQN (m:=field (.ref z) 2) (zQ2 Z0 rfl (x:=.bool false) rfl ?_);refine zQN (m:=field (.ref z) 3) (zQ2 Z0 rfl (x:=.ref TI) rfl ?_);refine zQN (zRD P0 rfl ?_);refine zQN (m:=Builtin.SmallTypes.ownedTupleIsFree (.ref z)) (zIG hf Z0 ?_ fun h1 g' Z1 e1=>?_)
 ·rw [zQc rfl];refine zQN (wpAny_rule (zQN (zQ2 Z0 rfl (x:=.ref TO) rfl (zQN (zRd Z0 (by simp) fun h1 Z1 e1=>?_)))));replace Z1:h1.get? z = some (zDH .ellipsis g TI TO):=Z1;refine zQN ?_;simp only [List.forIn_cons,List.forIn_nil,List.zipIdx_cons,List.zipIdx_nil];refine zQN (zQN (zSN (zQN (m:=Builtin.SmallTypes.nextOf (.ref i1)) (zAz (SI.but I1 e1.extBut D.i1z) (SO.but T1 e1.extBut D.l1z) hx fun h2 J1 e2=>zQP ?_))));have O2:IsPair h2 TO a b:=e2.extBut _ _ D.TOi1 (e1.extBut _ _ D.TOz O0);refine zQN (zRD O2 rfl (zQN (wpAny_updateSeq_pair O2 fun h3 O3 e3=>zQN (wpAny_letGo (zQP ?_)))));replace O3:IsPair h3 TO x b:=O3
  refine zQN (zQN (zSN (zQN (m:=Builtin.SmallTypes.nextOf (.ref i2)) (zAz (SI.but (SI.but (SI.but I2 e1.extBut D.i2z) e2.extBut D.i12.symm) e3.extBut D.TOi2.symm)
   (SO.but (SO.but (SO.but T2 e1.extBut D.l2z) e2.extBut D.l2i1) e3.extBut D.l2TO) hy fun h4 J2 e4=>zQP ?_))))
  have O4:IsPair h4 TO x b:=e4.extBut _ _ D.TOi2 O3;refine zQN (zRD O4 rfl (zQN (wpAny_updateSeq_pair O4 fun h5 O5 e5=>zQN (wpAny_letGo (zQP (zQP ?_))))));replace O5:IsPair h5 TO x y:=O5;refine zQN (zRD O5 rfl (zQN (wpAny_newTuple ?_)));have sz:h5.objs.size = s.heap.objs.size:=by rw [e5.1,e4.1,e3.1,e2.1,e1.1]
  have Z5:h5.get? z = some (zDH .ellipsis g TI TO):=e5.extBut _ _ D.TOz.symm (e4.extBut _ _ D.i2z.symm (e3.extBut _ _ D.TOz.symm (e2.extBut _ _ D.i1z.symm Z1)));have kp:∀ c o,c ∉ [z,TO,i1,i2] -> s.heap.get? c = some o -> h5.get? c = some o:=fun c o n e=>by
   simp only [zQZ,zQs,zRi,not_or] at n;obtain ⟨n1,n2,n3,n4⟩:=n;exact e5.extBut _ _ n2 (e4.extBut _ _ n4 (e3.extBut _ _ n2 (e2.extBut _ _ n3 (e1.extBut _ _ n1 e))))
  have A5:SI b1 h5 i1 t1 (k + 1):=SI.but (SI.but (SI.but J1 e3.extBut D.TOi1.symm) e4.extBut D.i12) e5.extBut D.TOi1.symm;have B5:SI b2 h5 i2 t2 (k + 1):=SI.but J2 e5.extBut D.TOi2.symm;have zl:z < h5.objs.size:=zQY Z5;refine zQN (m:=Builtin.SmallTypes.ownedTupleHandOut (.ref z) (.ref h5.objs.size)) ?_;unfold Builtin.SmallTypes.ownedTupleHandOut;have Z6:(h5.push { cls:=.type "tuple", data:=.seq #[x,y] }).get? z = some (zDH .ellipsis g TI TO):=zQO _ Z5;refine zQN (zRd Z6 (by simp) fun h7 Z7 e7=>?_);replace Z7:h7.get? z = some (zDH (rawInt h5.objs.size) g TI TO):=Z7;refine zRd Z7 (by simp) fun h8 Z8 e8=>?_;replace Z8:h8.get? z = some (zDH (rawInt h5.objs.size) false TI TO):=Z8;have up:∀ c o,c ≠ z -> h5.get? c = some o -> h8.get? c = some o:=fun c o n e=>e8.extBut _ _ n (e7.extBut _ _ n (zQO _ e));have N8:IsPair h8 h5.objs.size x y:=e8.extBut _ _ (zRs zl) (e7.extBut _ _ (zRs zl) (zQX _ rfl));rw [sz] at Z8 N8;refine zQP ⟨_,rfl,?_⟩;rw [sz];refine zQP (q h8 ⟨⟨_,false,.inr ⟨_,rfl⟩,Z8⟩,up _ _ D.TIz (kp _ _ (by simp [D.TIz,D.TITO,D.TIi1,D.TIi2]) P0),⟨_,_,up _ _ D.TOz O5⟩,?_,?_⟩ N8 fun c o n e=>up c o (fun m=>n (by simp [m])) (kp c o n e))
  ·exact A5.keep fun o e=>up _ o D.i1z e
  ·exact B5.keep fun o e=>up _ o D.i2z e
 ·rw [zQf (by decide)];dsimp only;rw [<- Array.forIn_toList];simp only [List.forIn_cons,List.forIn_nil];refine zQN (zQN (zQN (zRG (zQN (m:=Builtin.SmallTypes.nextOf (.ref i1)) (zAz (SI.but I1 e1.extBut D.i1z) (SO.but T1 e1.extBut D.l1z) hx fun h2 J1 e2=>zQP (zQP ?_))))));refine zQN (zQN (zRG (zQN (m:=Builtin.SmallTypes.nextOf (.ref i2)) (zAz (SI.but (SI.but I2 e1.extBut D.i2z) e2.extBut D.i12.symm) (SO.but (SO.but T2 e1.extBut D.l2z) e2.extBut D.l2i1) hy fun h4 J2 e4=>zQP (zQP (zQP ?_))))));have sz:h4.objs.size = s.heap.objs.size:=by rw [e4.1,e2.1,e1.1]
  have kp:∀ c o,c ∉ [z,i1,i2] -> s.heap.get? c = some o -> h4.get? c = some o:=fun c o n e=>by
   simp only [zQZ,zQs,zRi,not_or] at n;exact e4.extBut _ _ n.2.2 (e2.extBut _ _ n.2.1 (e1.extBut _ _ n.1 e))
  have Z4:h4.get? z = some (zDH f g' TI TO):=e4.extBut _ _ D.i2z.symm (e2.extBut _ _ D.i1z.symm Z1);refine zQN (wpAny_newTuple (hsz:=by show 2 <= sizeLine; rw [sizeLine_eq]; omega) (zQP ⟨_,rfl,?_⟩));have up:∀ c o,h4.get? c = some o -> (h4.push { cls:=.type "tuple", data:=.seq #[x,y] }).get? c = some o:=fun c o e=>zQO _ e;have N8:IsPair (h4.push { cls:=.type "tuple", data:=.seq #[x,y] }) h4.objs.size x y:=zQX _ rfl;rw [sz] at N8;show wpAny _ _ (pure (some (Value.ref h4.objs.size))) _ _ _;rw [sz];refine zQP (q _ ⟨⟨f,g',hf,up _ _ Z4⟩,up _ _ (kp _ _ (by simp [D.TIz,D.TIi1,D.TIi2]) P0),⟨a,b,up _ _ (kp _ _ (by simp [D.TOz,D.TOi1,D.TOi2]) O0)⟩,?_,?_⟩ N8 fun c o n e=>up c o (kp c o (fun m=>n (by simp only [zQZ,zQs,zRi] at m ⊢; rcases m with m | m | m <;> simp [m])) e))
  ·exact (SI.but J1 e4.extBut D.i12).keep fun o e=>up _ o e
  ·exact J2.keep fun o e=>up _ o e
theorem zGa {b1 b2:Bool} {z TI TO i1 i2 t1 t2:Addr} {k:Nat} {xs ys:Array Value} {Q:Option Value -> Shared -> Prop} (hh:A.handled = none) (D:ZipApart z TI TO i1 i2 t1 t2) (Z:ZipA b1 b2 s.heap z TI TO i1 i2 t1 t2 k)
  (T1:SO b1 s.heap t1 xs) (T2:SO b2 s.heap t2 ys) (he:xs[k]? = none \/ ys[k]? = none)
  (q:∀ h',(∀ c o,c ∉ [z,TO,i1,i2] -> s.heap.get? c = some o -> h'.get? c = some o) -> Q none { s with heap:=h' }):wpAny (model prog w) A (pyNext (.ref z)) Q E s:=by
 obtain ⟨⟨f,g,hf,Z0⟩,P0,⟨a,b,O0⟩,I1,I2⟩:=Z;have ty:s.TypeIs (.ref z) "zip" := ⟨_,Z0,rfl⟩
 have stop:∀ (e:Addr) (h':Heap),(∀ c o,c ∉ [z,TO,i1,i2] -> s.heap.get? c = some o -> h'.get? c = some o) -> (∃ o,h'.get? e = some o /\ o.cls = .type "StopIteration") ->
   wpAny (model prog w) A (do if (<- isInstance (.ref e) (.type "StopIteration")) then pure none else throw (.ref e):Sem (Option Value)) Q E { s with heap:=h' }:=fun e h' k1 ⟨o,e1,e2⟩=>
  zQN (wpAny_isInstance (T := "StopIteration") (b:=true) ⟨o,e1,e2⟩ isSubtype_stop (zQP (q h' k1)))
 unfold pyNext;refine zQN (wpAny_attempt (zQz (name:=Str.ofString "__next__") ty zR1 (zQ0 zR1 ty PySem.F.entry_zip_next ?_ (PySem.F.args_zip_next_1 _))));refine zQN (m:=field (.ref z) 2) (zQ2 Z0 rfl (x:=.bool false) rfl ?_);refine zQN (m:=field (.ref z) 3) (zQ2 Z0 rfl (x:=.ref TI) rfl ?_);refine zQN (zRD P0 rfl ?_);refine zQN (m:=Builtin.SmallTypes.ownedTupleIsFree (.ref z)) (zIG hf Z0 ?_ fun h1 g' Z1 e1=>?_)
 ·rw [zQc rfl];refine zQN (wpAny_rule (zQN (zQ2 Z0 rfl (x:=.ref TO) rfl (zQN (zRd Z0 (by simp) fun h1 Z1 e1=>?_)))));replace Z1:h1.get? z = some (zDH .ellipsis g TI TO):=Z1;refine zQN ?_;simp only [List.forIn_cons,List.forIn_nil,List.zipIdx_cons,List.zipIdx_nil];cases hx:xs[k]? with
  | none=>
   refine zQN (zQN (zSN (zQN (m:=Builtin.SmallTypes.nextOf (.ref i1)) (zCa hh (SI.but I1 e1.extBut D.i1z) (SO.but T1 e1.extBut D.l1z) hx fun h2 e e2 he=>?_))));obtain ⟨oe,o1,o2⟩:=he;have Z2:h2.get? z = some (zDH .ellipsis g TI TO):=e2 _ _ D.i1z.symm Z1;have ne:e ≠ z:=fun m=>by subst m; rw [Z2] at o1; cases o1; simp at o2
   refine zRd Z2 (by simp) fun h3 _ e3=>stop e h3 (fun c o n x=>?_) ⟨oe,e3.extBut _ _ ne o1,o2⟩;simp only [zQZ,zQs,zRi,not_or] at n;exact e3.extBut _ _ n.1 (e2 _ _ n.2.2.1 (e1.extBut _ _ n.1 x))
  | some x=>
   have hy:ys[k]? = none:=by
    rcases he with m | m
    ·rw [hx] at m; cases m
    ·exact m
   refine zQN (zQN (zSN (zQN (m:=Builtin.SmallTypes.nextOf (.ref i1)) (zAz (SI.but I1 e1.extBut D.i1z) (SO.but T1 e1.extBut D.l1z) hx fun h2 J1 e2=>zQP ?_))));have O2:IsPair h2 TO a b:=e2.extBut _ _ D.TOi1 (e1.extBut _ _ D.TOz O0);refine zQN (zRD O2 rfl (zQN (wpAny_updateSeq_pair O2 fun h3 O3 e3=>zQN (wpAny_letGo (zQP ?_)))))
   refine zQN (zQN (zSN (zQN (m:=Builtin.SmallTypes.nextOf (.ref i2)) (zCa hh (SI.but (SI.but (SI.but I2 e1.extBut D.i2z) e2.extBut D.i12.symm) e3.extBut D.TOi2.symm)
    (SO.but (SO.but (SO.but T2 e1.extBut D.l2z) e2.extBut D.l2i1) e3.extBut D.l2TO) hy fun h4 e e4 he=>?_))))
   obtain ⟨oe,o1,o2⟩:=he;have Z4:h4.get? z = some (zDH .ellipsis g TI TO):=e4 _ _ D.i2z.symm (e3.extBut _ _ D.TOz.symm (e2.extBut _ _ D.i1z.symm Z1));have ne:e ≠ z:=fun m=>by subst m; rw [Z4] at o1; cases o1; simp at o2
   refine zRd Z4 (by simp) fun h5 _ e5=>stop e h5 (fun c o n x=>?_) ⟨oe,e5.extBut _ _ ne o1,o2⟩;simp only [zQZ,zQs,zRi,not_or] at n;exact e5.extBut _ _ n.1 (e4 _ _ n.2.2.2 (e3.extBut _ _ n.2.1 (e2.extBut _ _ n.2.2.1 (e1.extBut _ _ n.1 x))))
 ·rw [zQf (by decide)];dsimp only;rw [<- Array.forIn_toList];simp only [List.forIn_cons,List.forIn_nil];cases hx:xs[k]? with
  | none=>
   refine zQN (zQN (zQN (zRG (zQN (m:=Builtin.SmallTypes.nextOf (.ref i1)) (zCa hh (SI.but I1 e1.extBut D.i1z) (SO.but T1 e1.extBut D.l1z) hx fun h2 e e2 he=>?_)))));refine stop e h2 (fun c o n x=>?_) he;simp only [zQZ,zQs,zRi,not_or] at n;exact e2 _ _ n.2.2.1 (e1.extBut _ _ n.1 x)
  | some x=>
   have hy:ys[k]? = none:=by
    rcases he with m | m
    ·rw [hx] at m; cases m
    ·exact m
   refine zQN (zQN (zQN (zRG (zQN (m:=Builtin.SmallTypes.nextOf (.ref i1)) (zAz (SI.but I1 e1.extBut D.i1z) (SO.but T1 e1.extBut D.l1z) hx fun h2 J1 e2=>zQP (zQP ?_))))));refine zQN (zQN (zRG (zQN (m:=Builtin.SmallTypes.nextOf (.ref i2)) (zCa hh (SI.but (SI.but I2 e1.extBut D.i2z) e2.extBut D.i12.symm) (SO.but (SO.but T2 e1.extBut D.l2z) e2.extBut D.l2i1) hy fun h4 e e4 he=>?_))));refine stop e h4 (fun c o n x=>?_) he;simp only [zQZ,zQs,zRi,not_or] at n;exact e4 _ _ n.2.2.2 (e2.extBut _ _ n.2.2.1 (e1.extBut _ _ n.1 x))
theorem zMy {z TI TO:Addr} {f:Value} {g:Bool} {Q:Value -> Shared -> Prop} (Z0:s.heap.get? z = some (zDH f g TI TO)) (h:Q (.ref z) s):wpAny (model prog w) A (pyIter (.ref z)) Q E s :=
 have ty:s.TypeIs (.ref z) "zip" := ⟨_,Z0,rfl⟩;wpAny_pyIter_slot ty PySem.F.slot_zip_iter (zQ0 PySem.F.slot_zip_iter ty PySem.F.entry_zip_iter (show wpAny _ _ (ret (.ref z)) _ _ s from zQP ⟨_,rfl, "zip", _,ty,zR1.lookup,h⟩) (PySem.F.args_zip_iter_1 _))
end
theorem zIv {b1 b2:Bool} {P:Program} {w:World} {K:PySem.W.Frag} {nm:Str} {ep:Pos} {z TI TO i1 i2 a b:Addr} (D:ZipApart z TI TO i1 i2 a b) :
  Turn P w K (.Name nm ep) (zOv K b1 b2 a b) [z,TI,TO,i1,i2] z (fun i h=>ZipA b1 b2 h z TI TO i1 i2 a b i) where
 mem:=by simp
 obj:=fun i h Z c hc=>by
  obtain ⟨⟨f,g,hf,Z0⟩,P0,⟨x,y,O0⟩,S1,S2⟩:=Z;obtain ⟨o1,e1,d1⟩:=S1.obj;obtain ⟨o2,e2,d2⟩:=S2.obj;simp only [zQZ,zQs,zRi] at hc;rcases hc with rfl | rfl | rfl | rfl | rfl
  ·exact ⟨_,Z0,fun v m=>by cases m⟩
  ·exact ⟨_,P0,fun v m=>by cases m⟩
  ·exact ⟨_,O0,fun v m=>by cases m⟩
  ·exact ⟨_,e1,d1⟩
  ·exact ⟨_,e2,d2⟩
 keep:=fun i h h' Z k=>by
  obtain ⟨⟨f,g,hf,Z0⟩,P0,⟨x,y,O0⟩,S1,S2⟩:=Z;exact ⟨⟨f,g,hf,k z (by simp) _ Z0⟩,k TI (by simp) _ P0,⟨x,y,k TO (by simp) _ O0⟩,S1.keep fun o e=>k i1 (by simp) o e,S2.keep fun o e=>k i2 (by simp) o e⟩
 item:=by
  intro X hP hw hK hc i zB s σ H E I hf Z hg;subst hP hw hK;obtain ⟨xs,ys,x,y,sa,sb,hx,hy⟩:=hg;obtain ⟨its,rv,p1⟩:=zBo I sa;obtain ⟨its2,rv2,p2⟩:=zBo I sb;obtain ⟨u,hu,ru⟩:=rv.get hx;obtain ⟨u2,hu2,ru2⟩:=rv2.get hy;refine zFC D Z p1 p2 (x:=u) (y:=u2) (by simpa using hu) (by simpa using hu2) fun h2 Z' N' kp=>⟨_,rfl,?_⟩;refine (show wpAny _ _ (pure ()) _ _ _ from zQP ?_);have hch:∀ c ∈ [z,TO,i1,i2],zBq X zB H c:=fun c hm=>hf c (by
   simp only [zQZ,zQs,zRi] at hm ⊢;rcases hm with q | q | q | q <;> simp [q])
  have kk:∀ c o,c ∉ [z,TO,i1,i2] -> s.heap.get? c = some o -> h2.get? c = some o:=kp;have NT:IsPair h2 s.heap.objs.size u u2:=N';have hfr:H s.heap.objs.size = none:=I.hok.fresh (zQT _);refine ⟨.ref s.heap.objs.size,upd H s.heap.objs.size (.tup [x,y]),zCT (s:=s) (h':=h2) (t':=s.toks) I hch kk (zQT _) ?_,rfl,⟨_,x,y,rfl,hfr,rfl,fun ws hw=>?_,fun ws hw=>?_⟩,?_,fun c hm=>?_⟩
  ·exact ⟨by show 2 <= sizeLine; decide,[u,u2],.cons ru (.cons ru2 .nil),⟨_,NT,rfl,⟨_,rfl⟩,rfl⟩⟩
  ·rw [zIA I hw sa]; exact hx
  ·rw [zIA I hw sb]; exact hy
  ·exact Z'
  ·have lt:c < s.heap.objs.size:=by
    obtain ⟨⟨_,_,_,Z0⟩,P0,⟨q1,q2,O0⟩,S1,S2⟩:=Z;obtain ⟨o1,f1,_⟩:=S1.obj;obtain ⟨o2,f2,_⟩:=S2.obj;simp only [zQZ,zQs,zRi] at hm;rcases hm with rfl | rfl | rfl | rfl | rfl
    ·exact zQY Z0
    ·exact zQY P0
    ·exact zQY O0
    ·exact zQY f1
    ·exact zQY f2
   rw [zM (zQi lt)];exact (hf c hm).1
 done:=by
  intro X hP hw hK hc i zB s σ H E I hf Z hg;subst hP hw hK;obtain ⟨xs,ys,sa,sb,hz⟩:=hg;obtain ⟨its,rv,p1⟩:=zBo I sa;obtain ⟨its2,rv2,p2⟩:=zBo I sb;have l1:=rv.length;have l2:=rv2.length;refine zGa (I.ok.hd hc) D Z p1 p2 ?_ fun h' kp=>⟨rfl,zBk (s:=s) (h':=h') (t':=s.toks) I (fun c hm=>hf c (by
   simp only [zQZ,zQs,zRi] at hm ⊢;rcases hm with q | q | q | q <;> simp [q])) kp⟩
  rcases hz with q | q
  ·exact .inl (by simp; omega)
  ·exact .inr (by simp; omega)
 self:=fun _ _ _ _ _ Z h=>by
  obtain ⟨⟨f,g,hf,Z0⟩,_⟩:=Z;exact zMy Z0 h
section
variable {X:Cx} {a b:Expr} {nm:Str} {ep p pos:Pos}
theorem zMn {ta:TA} (hg:Gl X "zip") (hm:X.mg "zip" = none) (ha:PA X [a,b] ta) (hs:starEach [a,b] X.env = [(false,eval a X.env),(false,eval b X.env)]:=by rfl) (hs2:starEach [b] X.env = [(false,eval b X.env)]:=by rfl) :
  PI X (.Name nm ep) (.Call (.Name "zip" p) [a,b] [] pos) (fun σ H R=>ta σ H fun vs H1=>∃ b1 b2 l1 l2 xs ys,vs = [.ref l1,.ref l2] /\ SqG X.K b1 H1 l1 xs /\ SqG X.K b2 H1 l2 ys /\ R (zOv X.K b1 b2 l1 l2) H1):=by
 intro zB s σ H R I h;refine Call_ (zCA I hg hm (by rfl) (PyProof.Rows.callWith_type1 (thn (ha pos zB s σ H _ I h) fun us s1 ⟨vs,H1,I1,r1,q1⟩=>?_) (by rw [hs,hs2]) (by rw [hs2]; rfl)));obtain ⟨b1,b2,l1,l2,xs,ys,rfl,s1',s2',q⟩:=q1;cases r1 with
 | cons r rr=>
  cases rr with
  | cons r' rr=>
   cases rr;cases r;cases r';obtain ⟨its,rv,p1⟩:=zBo I1 s1';obtain ⟨its2,rv2,p2⟩:=zBo I1 s2';have d1:l1 < s1.heap.objs.size:=zLX p1;have d2:l2 < s1.heap.objs.size:=zLX p2;refine zHF p1 p2 fun h' Z kp=>wpAny_pyIter_zip Z.z ?_;refine ⟨s1.heap.objs.size + 4,[s1.heap.objs.size + 4,s1.heap.objs.size + 2,s1.heap.objs.size + 3,s1.heap.objs.size,s1.heap.objs.size + 1],_,_,H1,rfl,I1.kept (t':=s1.toks) kp,zIv (zipApart_new d1 d2),⟨⟨.none,false,.inl rfl,Z.z⟩,Z.ti,Z.to,Z.a,Z.b⟩,fun c hc=>?_,q⟩;have ge:s1.heap.objs.size <= c:=by
    simp only [zQZ,zQs,zRi] at hc;rcases hc with rfl | rfl | rfl | rfl | rfl
    ·exact zSC _ 4
    ·exact zSC _ 2
    ·exact zSC _ 3
    ·exact zQT _
    ·exact zSC _ 1
   exact I1.fpOk ge (I1.hok.fresh ge)
theorem zLg (hg:Gl X "zip") (hm:X.mg "zip" = none) (ha:QA X [a,b] g) (hs:starEach [a,b] X.env = [(false,eval a X.env),(false,eval b X.env)]:=by rfl) (hs2:starEach [b] X.env = [(false,eval b X.env)]:=by rfl) :
  QI X (.Name nm ep) (.Call (.Name "zip" p) [a,b] [] pos) (zEF g):=.mk <| PI.imp (zMn hg hm ha.un hs hs2) fun τ H R zz=>by
 obtain ⟨L,σ,M,xs,gd,M',c,rs,hf,q⟩:=zz;unfold zEF at hf;split at hf
 ·rename_i x y M1 e1;split at hf
  ·rename_i ds es' e2 e3;cases hf;refine ⟨L,σ,M,_,_,c,rs,e1,fun L1 H1 vs s1 c1 r1=>?_⟩;obtain ⟨v,v',rfl,r2,r3⟩:=r1.two;obtain ⟨b1,l1,rfl,⟨w1,h1⟩,k1⟩:=zD4 c1 r2 e2;obtain ⟨b2,l2,rfl,⟨w2,h2⟩,k2⟩:=zD4 c1 r3 e3;refine ⟨b1,b2,l1,l2,w1,w2,rfl,h1,h2,q L1 H1 _ s1 c1 fun L2 H2 M2 s2 c2 hgd=>?_⟩;obtain ⟨ws1,g1,p1⟩:=k1 L2 H2 M2 s2 c2 hgd.1;obtain ⟨ws2,g2,p2⟩:=k2 L2 H2 M2 s2 c2 hgd.2;refine ⟨fun i d hd=>?_,⟨ws1,ws2,g1,g2,?_⟩⟩
   ·rw [zQk] at hd;cases e2:(ds.zip es')[i]? with
    | none=>rw [e2] at hd; cases hd
    | some pr=>
     rw [e2] at hd;cases hd;obtain ⟨f1,f2⟩:=zUT.mp e2;obtain ⟨u,hu,ru⟩:=p1.get f1;obtain ⟨u2,hu2,ru2⟩:=p2.get f2;refine ⟨⟨ws1,ws2,u,u2,g1,g2,hu,hu2⟩,fun v H3 hy=>?_⟩;obtain ⟨T,x,y,rfl,hT,rfl,hxx,hyy⟩:=hy;have ex:=hxx ws1 g1;have ey:=hyy ws2 g2;rw [hu] at ex; cases ex;rw [hu2] at ey; cases ey;exact ⟨fun a o e=>by rw [zM (zb e hT)]; exact e,Rep.newTup hT (.cons ru (.cons ru2 .nil))⟩
   ·rw [zQW,List.length_zip,p1.length,p2.length];omega
  ·cases hf
 ·cases hf
end
theorem zHL:typeLookup (.type "zip") "__len__" = pure none:=by rw [typeLookup_type,builtinLookup_eq_fast]; kernel_rfl
theorem zGp:typeLookup (.type "zip") "__length_hint__" = pure none:=by rw [typeLookup_type,builtinLookup_eq_fast]; kernel_rfl
structure Col (h0:Heap) (S:Addr) (xs ys:List Value) (Ts:List Addr) (h:Heap):Prop where
 kp:∀ b o,h0.get? b = some o -> h.get? b = some o
 lst:∃ c,h.get? S = some { cls:=.type "list", dict:=none,data:=.seq (Ts.map Value.ref).toArray c,slots:=#[] }
 nd:Ts.Nodup
 up:∀ (j:Nat) T,Ts[j]? = some T -> S < T /\ ∃ x y,xs[j]? = some x /\ ys[j]? = some y /\ IsPair h T x y
theorem Col.move {h0 h h':Heap} {S:Addr} {xs ys:List Value} {Ts:List Addr} {ch:List Addr} (C:Col h0 S xs ys Ts h) (hc:∀ b ∈ ch,h0.objs.size <= b /\ b < S) (k:∀ c o,c ∉ ch -> h.get? c = some o -> h'.get? c = some o):Col h0 S xs ys Ts h' where
 kp:=fun b o e=>k b o (fun m=>absurd (zQY e) (Nat.not_lt.mpr (hc b m).1)) (C.kp b o e);lst:=let ⟨c,e⟩:=C.lst; ⟨c,k S _ (fun m=>absurd (hc S m).2 (zQ5 _)) e⟩;nd:=C.nd;up:=fun j T e=>by
  obtain ⟨l,x,y,e1,e2,p⟩:=C.up j T e;exact ⟨l,x,y,e1,e2,k T _ (fun m=>absurd (Nat.lt_trans l (hc T m).2) (zQ5 _)) p⟩
section
variable {prog:Program} {w:World} {A:Around} {E:Value -> Shared -> Prop} {R:Result -> Shared -> Prop} {s0:Shared}
theorem zKA {b1 b2:Bool} {z TI TO i1 i2 t1 t2 S:Addr} {xs ys:List Value} {res:Value} (hh:A.handled = none) (D:ZipApart z TI TO i1 i2 t1 t2) (T1:SO b1 s0.heap t1 xs.toArray) (T2:SO b2 s0.heap t2 ys.toArray) (hn:min xs.length ys.length <= sizeLine)
  (hch:∀ b ∈ [z,TO,i1,i2],s0.heap.objs.size <= b /\ b < S) (hTI:S ≠ TI)
  (hR:∀ h' Ts,Col s0.heap S xs ys Ts h' -> Ts.length = min xs.length ys.length -> R (.ok (.ret res)) { s0 with heap:=h' }) :
  ∀ (k:Nat) (h:Heap) (Ts:List Addr),min xs.length ys.length - Ts.length = k -> Ts.length <= min xs.length ys.length -> ZipA b1 b2 h z TI TO i1 i2 t1 t2 Ts.length -> Col s0.heap S xs ys Ts h ->
  codeAny (model prog w) A (.builtin "list.extend.loop" ⟨[.ref S,.ref z,res],[]⟩) R { s0 with heap:=h }:=by
 intro k;induction k with
 | zero=>
  intro h Ts hk hl Z C;refine codeAny_builtin PySem.F.entry_extend_loop ?_;rw [Around.under_plainId PySem.F.plain_extend_loop _];show wpAny _ A.in1 (pyNext (.ref z) >>= _) _ _ _;refine zQN (zGa (s:={ s0 with heap:=h }) hh D Z (T1.keep fun o e=>C.kp _ o e) (T2.keep fun o e=>C.kp _ o e) ?_ fun h' kp=>?_)
  ·rcases (show xs.length <= Ts.length \/ ys.length <= Ts.length by omega) with q | q
   ·exact .inl (by simp; omega)
   ·exact .inr (by simp; omega)
  ·exact zQP (hR h' Ts (C.move hch kp) (by omega))
 | succ k ih=>
  intro h Ts hk hl Z C;have l1:Ts.length < xs.length:=by omega
  have l2:Ts.length < ys.length:=by omega
  refine codeAny_builtin PySem.F.entry_extend_loop ?_;rw [Around.under_plainId PySem.F.plain_extend_loop _];show wpAny _ A.in1 (pyNext (.ref z) >>= _) _ _ _;refine zQN (zFC (s:={ s0 with heap:=h }) D Z (T1.keep fun o e=>C.kp _ o e) (T2.keep fun o e=>C.kp _ o e) (x:=xs[Ts.length]) (y:=ys[Ts.length]) (by simp [l1]) (by simp [l2]) fun h' Z' N' kp=>?_);have C':=C.move hch kp;obtain ⟨c,hS⟩:=C'.lst;obtain ⟨c0,hS0⟩:=C.lst;have Slt:S < h.objs.size:=zQY hS0;show wpAny _ A.in1 (updateSeq S (·.push (.ref h.objs.size)) >>= _) _ _ _;refine zQN ?_;have neS:∀ b,b ≠ S -> ∀ o,h'.get? b = some o -> (h'.update S (Obj.mapSeq (·.push (Value.ref h.objs.size)))).get? b = some o:=fun b n o e=>(zQ4 _ _ (Ne.symm n)).trans e;have zS:∀ b ∈ [z,TO,i1,i2],b ≠ S:=fun b hb=>zQi (hch b hb).2;refine wpAny_updateSeq (s:={ s0 with heap:=h' }) hS rfl (zQP ⟨plainId_quiet PySem.F.plain_extend_loop _,ih _ (Ts ++ [h.objs.size]) (by simp; omega) (by simp; omega) ?_ ?_⟩) (by simp; omega) (by simp; omega)
  ·obtain ⟨⟨f,g,hf,Z0⟩,P0,⟨x,y,O0⟩,I1,I2⟩:=Z';rw [zQd,List.length_singleton];exact ⟨⟨f,g,hf,neS z (zS z (by simp)) _ Z0⟩,neS TI (Ne.symm hTI) _ P0,⟨x,y,neS TO (zS TO (by simp)) _ O0⟩,I1.keep fun o e=>neS i1 (zS i1 (by simp)) o e,I2.keep fun o e=>neS i2 (zS i2 (by simp)) o e⟩
  ·refine ⟨fun b o e=>?_,?_,?_,fun j T e=>?_⟩
   ·by_cases hb:b = S
    ·subst hb;obtain ⟨z1,z2⟩:=hch z (by simp);exact absurd (zQY e) (Nat.not_lt.mpr (zQo z1 (Nat.le_of_lt z2)))
    ·exact neS b hb o (C'.kp b o e)
   ·have e:=Heap.get?_update_self (Obj.mapSeq (·.push (Value.ref h.objs.size))) hS rfl;rw [show (Ts ++ [h.objs.size]).map Value.ref = Ts.map Value.ref ++ [Value.ref h.objs.size] by simp];exact ⟨_,e.trans (by rw [<- List.push_toArray]; rfl)⟩
   ·rw [List.nodup_append];refine ⟨C.nd,by simp,fun a ha b hb q=>?_⟩;have:b = h.objs.size:=by simpa using hb
    subst this; subst q;obtain ⟨j,hj⟩:=List.getElem?_of_mem ha;obtain ⟨_,x,y,_,_,p⟩:=C.up j _ hj;exact absurd (zQY p) (zQ5 _)
   ·by_cases hj:j < Ts.length
    ·rw [zQU hj] at e;obtain ⟨l,x,y,e1,e2,p⟩:=C'.up j T e;exact ⟨l,x,y,e1,e2,neS T (zRs l) _ p⟩
    ·rw [zRX (by omega)] at e;have hj2:j = Ts.length:=by
      have:=(zQQ.mp e).1;simp at this; omega
     subst hj2;simp at e;subst e;exact ⟨Slt,_,_,zQR l1,zQR l2,neS _ (zRs Slt) _ N'⟩
theorem zHM {b1 b2:Bool} {z TI TO i1 i2 t1 t2 S:Addr} {xs ys:List Value} {res:Value} {h:Heap} {c:Nat} (hh:A.handled = none) (D:ZipApart z TI TO i1 i2 t1 t2) (T1:SO b1 s0.heap t1 xs.toArray) (T2:SO b2 s0.heap t2 ys.toArray) (hn:min xs.length ys.length <= sizeLine)
  (hch:∀ b ∈ [z,TO,i1,i2],s0.heap.objs.size <= b /\ b < S) (hTI:S ≠ TI)
  (hR:∀ h' Ts,Col s0.heap S xs ys Ts h' -> Ts.length = min xs.length ys.length -> R (.ok (.ret res)) { s0 with heap:=h' })
  (Z:ZipA b1 b2 h z TI TO i1 i2 t1 t2 0) (hS:h.get? S = some { cls:=.type "list", data:=.seq #[] c }) (kp:∀ b o,s0.heap.get? b = some o -> h.get? b = some o) :
  wpAny (model prog w) A.in1 (Builtin.List.listExtendWith (.ref S) (.ref z) res)
   (fun fin s'=>match fin with | .done f=>R (.ok f) s' | .again c'=>c'.quiet = true /\ codeAny (model prog w) A c' R s') (fun e s'=>R (.error e) s') { s0 with heap:=h }:=by
 have zS:∀ b ∈ [z,TO,i1,i2],b ≠ S:=fun b hb=>zQi (hch b hb).2;have hSz:S ≠ z:=Ne.symm (zS z (by simp));obtain ⟨⟨f,g,hf,Z0⟩,P0,⟨x,y,O0⟩,I1,I2⟩:=Z;have ty:Shared.TypeIs { s0 with heap:=h } (.ref z) "zip" := ⟨_,Z0,rfl⟩;unfold Builtin.List.listExtendWith;refine zQN (wpAny_typeOf ty ?_);have h1:Builtin.List.listSameRef (.ref S) (.ref z) = false:=by simp [Builtin.List.listSameRef,hSz]
 have h2:(Value.type "zip" == Value.type "list") = false:=by decide
 have h3:(Value.type "zip" == Value.type "tuple") = false:=by decide
 simp only [h1,h2,h3,Bool.or_false,Bool.false_eq_true,if_false];refine zQN (zMy (s:={ s0 with heap:=h }) Z0 ?_);refine zQN (zRG ?_);unfold Builtin.List.listLengthHint;refine zQN (wpAny_specialOf ty zHL ?_);show wpAny _ A.in1 (specialOf (Value.ref z) (Str.ofString "__length_hint__") >>= _) _ _ _;refine zQN (wpAny_specialOf ty zGp ?_);refine zQP ?_;show wpAny _ A.in1 (rule "list.extend.makes-room" >>= fun _=>Builtin.List.listTouch (.ref S) >>= fun _=>
  again (.builtin "list.extend.loop" ⟨[.ref S,.ref z,res],[]⟩)) _ _ _
 refine zQN (wpAny_rule ?_);refine zQN ?_;show wpAny _ A.in1 (updateSeq S (·.push .none) >>= fun _=>updateSeq S (·.pop)) _ _ _;refine zQN (wpAny_updateSeq (s:={ s0 with heap:=h }) hS rfl ?_);have hS₂:=Heap.get?_update_self (Obj.mapSeq (·.push Value.none)) hS rfl;refine wpAny_updateSeq (hz:=by seq_fits) hS₂ rfl ?_;have hS₃:=Heap.get?_update_self (Obj.mapSeq (·.pop)) hS₂ rfl;have oth:∀ b o,b ≠ S -> h.get? b = some o -> ((h.update S (Obj.mapSeq (·.push Value.none))).update S (Obj.mapSeq (·.pop))).get? b = some o :=
  fun b o hb e=>(zQ4 _ _ (Ne.symm hb)).trans ((zQ4 _ _ (Ne.symm hb)).trans e)
 refine zQP ⟨plainId_quiet PySem.F.plain_extend_loop _,zKA hh D T1 T2 hn hch hTI hR _ _ [] rfl (zQ9 _) ?_ ?_⟩
 ·exact ⟨⟨f,g,hf,oth z _ (zS z (by simp)) Z0⟩,oth TI _ (Ne.symm hTI) P0,⟨x,y,oth TO _ (zS TO (by simp)) O0⟩,I1.keep fun o e=>oth i1 o (zS i1 (by simp)) e,I2.keep fun o e=>oth i2 o (zS i2 (by simp)) e⟩
 ·refine ⟨fun b o e=>oth b o (fun m=>?_) (kp b o e),⟨_,hS₃⟩,.nil,fun j T e=>by simp at e⟩;subst m;obtain ⟨z1,z2⟩:=hch z (by simp);exact absurd (zQY e) (Nat.not_lt.mpr (zQo z1 (Nat.le_of_lt z2)))
theorem zKI {b1 b2:Bool} {z TI TO i1 i2 t1 t2:Addr} {xs ys:List Value} {h:Heap} {Q:Value -> Shared -> Prop} (hh:A.handled = none) (D:ZipApart z TI TO i1 i2 t1 t2) (T1:SO b1 s0.heap t1 xs.toArray) (T2:SO b2 s0.heap t2 ys.toArray) (hn:min xs.length ys.length <= sizeLine)
  (hch:∀ b ∈ [z,TO,i1,i2],s0.heap.objs.size <= b) (Z:ZipA b1 b2 h z TI TO i1 i2 t1 t2 0) (kp:∀ b o,s0.heap.get? b = some o -> h.get? b = some o)
  (hQ:∀ h' Ts,Col s0.heap h.objs.size xs ys Ts h' -> Ts.length = min xs.length ys.length -> Q (.ref h.objs.size) { s0 with heap:=h' }) :
  wpAny (model prog w) A (call (.type "list") [.ref z]) Q E { s0 with heap:=h }:=by
 refine callType_codes (Q₁:=fun obj s₁=>obj = .ref h.objs.size /\ s₁ = { s0 with heap:=h.push { cls:=.type "list", data:=.seq #[] } }) PySem.F.called_list (PySem.F.typeCall_list_1 _) PySem.F.entry_list_init
  (code_list_new _ ⟨rfl,rfl⟩) fun obj s₁ h₁=>?_
 obtain ⟨rfl,rfl⟩:=h₁;have hS:(h.push { cls:=.type "list", data:=.seq #[] }).get? h.objs.size = some { cls:=.type "list", data:=.seq #[] }:=zQX _ rfl;obtain ⟨⟨f,g,hf,Z0⟩,P0,⟨x,y,O0⟩,I1,I2⟩:=Z;refine ⟨⟨_,hS,rfl⟩,PySem.F.args_list_init_2 _ _,?_⟩;show wpAny _ _ (do let old <- Builtin.List.listItems (.ref h.objs.size); Builtin.List.listUpdate (.ref h.objs.size) (fun _=> #[]); letGo old.toList.reverse; Builtin.List.listExtendWith (.ref h.objs.size) (.ref z) .none) _ _ _;refine zQN ?_;unfold Builtin.List.listItems;refine zQN (zRD hS rfl (zQP ?_));show wpAny _ _ (updateSeq h.objs.size (fun _=> #[]) >>= fun _=>letGo (#[]:Array Value).toList.reverse >>= fun _=>Builtin.List.listExtendWith (.ref h.objs.size) (.ref z) .none) _ _ _;refine zQN (wpAny_updateSeq hS rfl ?_);have hS₂:=Heap.get?_update_self (Obj.mapSeq (fun _=>(#[]:Array Value))) hS rfl;have oth:∀ b o,h.get? b = some o -> ((h.push { cls:=.type "list", data:=.seq #[] }).update h.objs.size (Obj.mapSeq (fun _=>(#[]:Array Value)))).get? b = some o :=
  fun b o e=>(zQ4 _ _ (zRs (zQY e))).trans (zQO _ e)
 refine zQN (wpAny_letGo ?_);have lt:∀ b ∈ [z,TO,i1,i2],b < h.objs.size:=fun b hb=>by
  obtain ⟨o1,e1,_⟩:=I1.obj;obtain ⟨o2,e2,_⟩:=I2.obj;simp only [zQZ,zQs,zRi] at hb;rcases hb with rfl | rfl | rfl | rfl
  ·exact zQY Z0
  ·exact zQY O0
  ·exact zQY e1
  ·exact zQY e2
 refine zHM (s0:=s0) (A:=A.in1) hh D T1 T2 hn (fun b hb=>⟨hch b hb,lt b hb⟩) (zRs (zQY P0)) (fun h' Ts C l=>⟨rfl,hQ h' Ts C l⟩) ?_ hS₂ fun b o e=>oth b o (kp b o e);exact ⟨⟨f,g,hf,oth z _ Z0⟩,oth TI _ P0,⟨x,y,oth TO _ O0⟩,I1.keep fun o e=>oth i1 o e,I2.keep fun o e=>oth i2 o e⟩
end
section
variable {X:Cx} {zB:List (Addr × Obj)} {σ:L2.St} {s:Shared}
theorem zFS:∀ (Ts:List Addr) (ps:List (V × V)) (H:Hp),Inv X zB σ H s -> Ts.length = ps.length -> Ts.Nodup -> (∀ T ∈ Ts,zBq X zB H T /\ X.s₀.heap.objs.size <= T) ->
  (∀ (j:Nat) T p,Ts[j]? = some T -> ps[j]? = some p -> ∃ x y,ze p.1 x /\ ze p.2 y /\ IsPair s.heap T x y) ->
  ∃ H',Inv X zB σ H' s /\ (∀ a o,H a = some o -> H' a = some o) /\ (∀ a,a ∉ Ts -> H' a = H a) /\ ∀ (j:Nat) T p,Ts[j]? = some T -> ps[j]? = some p -> H' T = some (.tup [p.1,p.2])
 | [],ps,H,I,_,_,_,_=>⟨H,I,fun _ _ e=>e,fun _ _=>rfl,fun j T p e _=>by simp at e⟩
 | T :: Ts,[],H,I,hl,_,_,_=>by simp at hl
 | T :: Ts,p :: ps,H,I,hl,nd,fp,hp=>by
  obtain ⟨⟨f0,f1,f2,f3,f4,f5⟩,g0⟩:=fp T (by simp);obtain ⟨x,y,rx,ry,q⟩:=hp 0 T p rfl rfl;have nT:T ∉ Ts:=(List.nodup_cons.mp nd).1;have I2:Inv X zB σ (upd H T (.tup [p.1,p.2])) s:=I.trackAt q f0 g0 f1 f4 f5 ⟨by show 2 <= sizeLine; decide,[x,y],.cons rx (.cons ry .nil),⟨_,q,rfl,⟨_,rfl⟩,rfl⟩⟩;obtain ⟨H',I',up,ot,at'⟩:=zFS Ts ps _ I2 (by simpa using hl) (List.nodup_cons.mp nd).2 (fun U hU=>by
   obtain ⟨⟨a0,a1⟩,b0⟩:=fp U (by simp [hU]);exact ⟨⟨by rw [zM (show U ≠ T from fun m=>nT (m ▸ hU))]; exact a0,a1⟩,b0⟩) fun j U r e1 e2=>hp (j + 1) U r (by simpa using e1) (by simpa using e2)
  refine ⟨H',I',fun a o e=>up a o (by rw [zM (zb e f0)]; exact e),fun a ha=>?_,fun j U r e1 e2=>?_⟩
  ·rw [ot a (fun m=>ha (by simp [m])),zM (fun m=>ha (by simp [m]))]
  ·cases j with
   | zero=>
    simp at e1 e2;subst e1 e2;rw [ot T nT]; exact zj
   | succ j=>exact at' j U r (by simpa using e1) (by simpa using e2)
end
section
variable {X:Cx} {a b:Expr} {p p2 pos pos2:Pos}
theorem zHd (hc:X.calm = true) (hgT:Gl X "list") (hmT:X.mg "list" = none) (hg:Gl X "zip") (hm:X.mg "zip" = none) (ha:PA X [a,b] ta)
  (hs:starEach [a,b] X.env = [(false,eval a X.env),(false,eval b X.env)]:=by rfl) (hs2:starEach [b] X.env = [(false,eval b X.env)]:=by rfl)
  (hs':starEach [.Call (.Name "zip" p2) [a,b] [] pos2] X.env = (false,eval (.Call (.Name "zip" p2) [a,b] [] pos2) X.env) :: starEach [] X.env:=by rfl) (hpl':(backTo pos (starEach [] X.env)).any (·.1) = false:=by rfl) :
  PE X (.Call (.Name "list" p) [.Call (.Name "zip" p2) [a,b] [] pos2] [] pos) (fun σ H Q=>ta σ H fun vs H1=>∃ b1 b2 l1 l2 xs ys,vs = [.ref l1,.ref l2] /\ SqG X.K b1 H1 l1 xs /\ SqG X.K b2 H1 l2 ys /\ min xs.length ys.length <= sizeLine /\
   ∀ (l:Addr) (Ts:List Addr) (H':Hp),H1 l = none -> Ts.length = min xs.length ys.length -> (∀ a o,H1 a = some o -> H' a = some o) -> H' l = some (.lst (Ts.map V.ref)) ->
    (∀ (j:Nat) T x y,Ts[j]? = some T -> xs[j]? = some x -> ys[j]? = some y -> H' T = some (.tup [x,y])) -> Q (.ref l) H'):=by
 intro zB s σ H Q I h;refine wpAny_Call_Name_kw (zCA I hgT hmT (by rfl) ?_ (by decide) (by decide));refine callWith_type1 ?_ hs' hpl';rw [hs'];show wpAny _ _ (spliced ((false,eval (.Call (.Name "zip" p2) [a,b] [] pos2) X.env) :: backTo pos (starEach [] X.env))) _ _ s;refine Calls.spliced_cons ?_;refine Call_ (zCA I hg hm (by rfl) (PyProof.Rows.callWith_type1 (thn (ha pos2 zB s σ H _ I h) fun us s1 ⟨vs,H1,I1,r1,q1⟩=>?_) (by rw [hs,hs2]) (by rw [hs2]; rfl)));obtain ⟨b1,b2,l1,l2,xs,ys,rfl,s1',s2',hz,q⟩:=q1;cases r1 with
 | cons r rr=>
  cases rr with
  | cons r' rr=>
   cases rr;cases r;cases r';obtain ⟨its,rv,p1⟩:=zBo I1 s1';obtain ⟨its2,rv2,p2⟩:=zBo I1 s2';have d1:l1 < s1.heap.objs.size:=zLX p1;have d2:l2 < s1.heap.objs.size:=zLX p2;have n1:=rv.length;have n2:=rv2.length;refine zHF p1 p2 fun h' Z kp=>Calls.spliced_nil ?_;refine zKI (s0:=s1) (I1.ok.hd hc) (zipApart_new d1 d2) p1 p2 (by rw [<- n1,<- n2]; exact hz) (fun c hc=>?_) ⟨⟨.none,false,.inl rfl,Z.z⟩,Z.ti,Z.to,Z.a,Z.b⟩ kp fun h2 Ts C lT=>?_
   ·simp only [zQZ,zQs,zRi] at hc;rcases hc with rfl | rfl | rfl | rfl
    ·exact zSC _ 4
    ·exact zSC _ 3
    ·exact zQT _
    ·exact zSC _ 1
   ·have I2:Inv X zB σ H1 { s1 with heap:=h2 }:=I1.kept (t':=s1.toks) C.kp;have gz:s1.heap.objs.size <= h'.objs.size:=Nat.le_of_lt (Nat.lt_of_le_of_lt (zSC _ 4) (zQY Z.z));have ge:∀ T ∈ Ts,h'.objs.size < T:=fun T hT=>by
     obtain ⟨j,hj⟩:=List.getElem?_of_mem hT;exact (C.up j T hj).1
    have gs:∀ T,s1.heap.objs.size <= T -> zBq X zB H1 T /\ X.s₀.heap.objs.size <= T:=fun T g=>⟨I1.fpOk g (I1.hok.fresh g),zQo I1.sz g⟩;have lps:(xs.zip ys).length = min xs.length ys.length:=List.length_zip;obtain ⟨H',I',up,ot,at'⟩:=zFS Ts (xs.zip ys) H1 I2 (by rw [lps,lT,<- n1,<- n2]) C.nd (fun T hT=>gs T (zQo gz (Nat.le_of_lt (ge T hT)))) fun j T pr e1 e2=>by
     obtain ⟨_,x,y,ex,ey,pp⟩:=C.up j T e1;obtain ⟨f1,f2⟩:=zUT.mp e2;obtain ⟨u,hu,ru⟩:=rv.get f1;obtain ⟨u2,hu2,ru2⟩:=rv2.get f2;rw [hu] at ex; rw [hu2] at ey;cases ex; cases ey;exact ⟨_,_,ru,ru2,pp⟩
    obtain ⟨c,hS⟩:=C.lst;obtain ⟨⟨f0,f1,f2,f3,f4,f5⟩,g0⟩:=gs h'.objs.size gz;have nS:h'.objs.size ∉ Ts:=fun m=>zQ5 _ (ge _ m);have nH':H' h'.objs.size = none:=by rw [ot _ nS]; exact f0
    have I3:Inv X zB σ (upd H' h'.objs.size (.lst (Ts.map V.ref))) { s1 with heap:=h2 }:=I'.trackAt hS nH' g0 f1 f4 f5 (show zn X.prog X.w _ h2 _ (.lst (Ts.map V.ref)) from
     ⟨by rw [zQW,lT,<- n1,<- n2]; exact hz,Ts.map Value.ref,c,zII (by simp) (fun i y u e1 e2=>by
      rw [zQk] at e1 e2;cases e3:Ts[i]? with
      | none=>rw [e3] at e1; cases e1
      | some T=>rw [e3] at e1 e2; cases e1; cases e2; rfl),hS⟩)
    refine ⟨.ref h'.objs.size,_,I3,rfl,q _ Ts _ f0 (by rw [lT,<- n1,<- n2]) (fun a o e=>?_) zj fun j T x y e1 e2 e3=>?_⟩
    ·rw [zM (zb (up a o e) nH')]; exact up a o e
    ·have tt:=at' j T (x,y) e1 (zUT.mpr ⟨e2,e3⟩);rw [zM (zb tt nH')]; exact tt
def zGy (g:FA):FE:=fun σ M=>match g σ M with
 | some ([x,y],M1)=>match zg M1 (.dat x),zg M1 (.dat y) with
  | some xs,some ys=>if (xs.zip ys).length <= sizeLine then some (.fl ((xs.zip ys).map fun q=>D.tup [q.1,q.2]),M1) else none
  | _,_=>none
 | _=>none
theorem zIT:∀ {ds:List D} {vs:List V},vs.length = ds.length -> (∀ (i:Nat) d v,ds[i]? = some d -> vs[i]? = some v -> Rep L H d v) -> zH L H ds vs
 | [],[],_,_=> .nil
 | [],_ :: _,h,_=>by cases h
 | _ :: _,[],h,_=>by cases h
 | d :: ds,v :: vs,h,q=> .cons (q 0 d v rfl rfl) (zIT (Nat.succ.inj h) fun i d' v' e1 e2=>q (i + 1) d' v' (by simpa using e1) (by simpa using e2))
theorem zJN (hc:X.calm = true) (hgT:Gl X "list") (hmT:X.mg "list" = none) (hg:Gl X "zip") (hm:X.mg "zip" = none) (ha:QA X [a,b] g)
  (hs:starEach [a,b] X.env = [(false,eval a X.env),(false,eval b X.env)]:=by rfl) (hs2:starEach [b] X.env = [(false,eval b X.env)]:=by rfl)
  (hs':starEach [.Call (.Name "zip" p2) [a,b] [] pos2] X.env = (false,eval (.Call (.Name "zip" p2) [a,b] [] pos2) X.env) :: starEach [] X.env:=by rfl) (hpl':(backTo pos (starEach [] X.env)).any (·.1) = false:=by rfl) :
  QE X (.Call (.Name "list" p) [.Call (.Name "zip" p2) [a,b] [] pos2] [] pos) (zGy g):=.mk <| PE.imp (zHd hc hgT hmT hg hm ha.un hs hs2 hs' hpl') fun τ H Q zz=>by
 obtain ⟨L,σ,M,d,M',c,rs,hf,q⟩:=zz;unfold zGy at hf;split at hf
 ·rename_i x y M1 e1;split at hf
  ·rename_i ds es' e2 e3;split at hf
   ·rename_i hz;cases hf;refine ⟨L,σ,M,_,_,c,rs,e1,fun L1 H1 vs s1 c1 r1=>?_⟩;obtain ⟨v,v',rfl,r2,r3⟩:=r1.two;obtain ⟨b1,l1,rfl,_,k1⟩:=zD4 c1 r2 e2;obtain ⟨b2,l2,rfl,_,k2⟩:=zD4 c1 r3 e3;obtain ⟨ws1,g1,p1⟩:=k1 L1 H1 _ (.refl _ _) c1 e2;obtain ⟨ws2,g2,p2⟩:=k2 L1 H1 _ (.refl _ _) c1 e3;have hl:min ws1.length ws2.length = (ds.zip es').length:=by rw [List.length_zip,p1.length,p2.length]
    refine ⟨b1,b2,l1,l2,ws1,ws2,rfl,g1,g2,by rw [hl]; exact hz,fun l Ts H' h0 hT up hH at'=>?_⟩;obtain ⟨n0,n1⟩:=zFN s1 c c1 h0;have st:Stp L1 H1 L1 H':=.grow up;refine q L1 H' _ (s1.trans st) (c1.grow up) ⟨l,_,rfl,n0,hH,n1,zIT (by simp [hT,hl]) fun i d v e4 e5=>?_⟩;rw [zQk] at e4 e5;cases e6:(ds.zip es')[i]? with
    | none=>rw [e6] at e4; cases e4
    | some pr=>
     cases e7:Ts[i]? with
     | none=>rw [e7] at e5; cases e5
     | some T=>
      rw [e6] at e4; rw [e7] at e5;cases e4; cases e5;obtain ⟨f1,f2⟩:=zUT.mp e6;obtain ⟨u,hu,ru⟩:=p1.get f1;obtain ⟨u2,hu2,ru2⟩:=p2.get f2;unfold Rep;exact ⟨T,_,rfl,at' i T u u2 e7 hu hu2,.cons (ru.stp st) (.cons (ru2.stp st) .nil)⟩
   ·cases hf
  ·cases hf
 ·cases hf
end
def zAJ {α:Type} (is:List Nat) (xs:List α):List α:=is.filterMap fun i=>xs[i]?
def zB4 (lo st:Option Int) (n:Nat):List Nat:=sliceRange (sliceBounds lo none st n).1 (sliceBounds lo none st n).2.1 (sliceBounds lo none st n).2.2
theorem zE6 (h:zU xs us):∀ is:List Nat,zU (zAJ is xs) (zAJ is us)
 | []=> .nil
 | i :: is=>by
  have ih:=zE6 h is;unfold zAJ at ih ⊢;rw [zTk,zTk];have hl:=h.length;cases e:xs[i]? with
  | none=>
   rw [List.getElem?_eq_none (by have:=List.getElem?_eq_none_iff.mp e; omega)];exact ih
  | some v=>
   obtain ⟨u,hu,ru⟩:=h.get e;rw [hu];exact .cons ru ih
theorem zFE (h:zH L H ds xs):∀ is:List Nat,zH L H (zAJ is ds) (zAJ is xs)
 | []=> .nil
 | i :: is=>by
  have ih:=zFE h is;unfold zAJ at ih ⊢;rw [zTk,zTk];have hl:=h.length;cases e:ds[i]? with
  | none=>
   rw [List.getElem?_eq_none (by have:=List.getElem?_eq_none_iff.mp e; omega)];exact ih
  | some d=>
   obtain ⟨v,hv,rv⟩:=h.get e;rw [hv];exact .cons rv ih
section
variable {X:Cx} {e st:Expr} {lo:Option Expr} {pos p2:Pos} {f:FE} {te:TE} {tl ts:TO}
theorem zNG (he:PE X e te) (hlo:PO X lo tl) (hs:PO X (some st) ts):PE X (.Subscript e (.Slice lo none (some st) p2) pos) (fun σ H Q=>te σ H fun x H1=>tl σ H1 fun l H2=>ts σ H2 fun o H3=>o ≠ some 0 /\ ∃ a xs,x = .ref a /\ SqL X.K H3 a xs /\ (zAJ (zB4 l o xs.length) xs).length <= sizeLine /\ ∀ p,H3 p = none -> Q (.ref p) (upd H3 p (.lst (zAJ (zB4 l o xs.length) xs)))):=by
 intro zB s σ H Q I h;refine Subscript_ (thn (he zB s σ H _ I h) fun v s1 ⟨x,H1,I1,r1,q1⟩=>?_);refine wpAny_Slice ?_;refine thn (hlo zB s1 σ H1 _ I1 q1) fun vl s2 ⟨l,H2,I2,pl,q2⟩=>?_;rw [evalPart_none];refine zQP ?_;refine thn (hs zB s2 σ H2 _ I2 q2) fun vs s3 ⟨o,H3,I3,ps,h0,a,xs,ex,hx,hz2,q3⟩=>?_;subst ex;cases r1;have I4:Inv X zB σ H3 { s3 with heap:=s3.heap.push { cls:=.type "slice", data:=.fields #[vl,.none,vs] } }:=I3.kept (t':=s3.toks) fun b ob q=>zQO _ q;obtain ⟨its,r,ht,hz⟩:=I4.list hx;show wpAny (model X.prog X.w) X.A (subscriptTail e (.Slice lo none (some st) p2) (.ref a) (.ref s3.heap.objs.size)) (EP X zB σ Q) X.xe { s3 with heap:=s3.heap.push { cls:=.type "slice", data:=.fields #[vl,.none,vs] } };refine tail_any (ops:=[.ref a,.ref s3.heap.objs.size]) ht.isList.typeIs PySem.slot_list_getitem.lookup ?_ (by with_unfolding_all rfl);refine wpAny_getItem_list_slice ht.isList (Heap.IsSliceOf.new ..) pl .none ps h0 ?_ (by rw [zQV,<- r.length]; exact hz);have hp:slicePick its.toArray l none o = (zAJ (zB4 l o xs.length) its).toArray:=by
  unfold slicePick zAJ zB4;rw [zQV,<- r.length];simp
 rw [hp];refine ⟨.ref _,_,I4.laid (t':=s3.toks) (o:=.lst (zAJ (zB4 l o xs.length) xs)) (fun b ob q=>zQO _ q) (zQT _) ?_,rfl,q3 _ (I4.hok.fresh (zQT _))⟩;exact ⟨hz2,_,0,zE6 r _,zQX _ rfl⟩
def zG8 (f:FE) (fl fs:FO):FE:=fun σ M=>match f σ M with
 | some (x,M1)=>match fl σ M1 with
  | some (l,M2)=>match fs σ M2 with
   | some (o,M3)=>match zAZ M3 x with
    | some xs=>if o ≠ some 0 /\ (zAJ (zB4 l o xs.length) xs).length <= sizeLine then some (.fl (zAJ (zB4 l o xs.length) xs),M3) else none
    | none=>none
   | none=>none
  | none=>none
 | none=>none
theorem zO1 (h:QE X e f) (hl:QO X lo fl) (hs:QO X (some st) fs):QE X (.Subscript e (.Slice lo none (some st) p2) pos) (zG8 f fl fs) :=
 .mk <| PE.imp (zNG h.un hl.un hs.un) fun τ H Q zz=>by
  obtain ⟨L,σ,M,d,M',c,rs,hf,q⟩:=zz;unfold zG8 at hf;split at hf
  ·rename_i x M1 e1;split at hf
   ·rename_i l M2 e2;split at hf
    ·rename_i o M3 e3;split at hf
     ·rename_i xs t;split at hf
      ·rename_i hb;cases hf;refine ⟨L,σ,M,_,_,c,rs,e1,fun L1 H1 v s1 c1 r1=>⟨L1,σ,M1,_,_,c1,rs.stp s1,e2,fun L2 H2 s2 c2=>⟨L2,σ,M2,_,_,c2,(rs.stp s1).stp s2,e3,fun L3 H3 s3 c3=>⟨hb.1,?_⟩⟩⟩⟩;have r3:zZ H L3 H3 x v:=(r1.stp s2).stp s3;obtain ⟨a,vs,rfl,e4,r4⟩:=zAX c3 r3 t;have hl:=r4.length;have rp:=zFE r4 (zB4 l o xs.length);refine ⟨a,vs,rfl,.inl e4,?_,fun p hp=>?_⟩
       ·rw [hl,rp.length]; exact hb.2
       ·rw [hl];have s13:=(s1.trans s2).trans s3;exact q L3 _ _ (s13.trans (.upd hp)) (c3.upd hp) (zZ.newLst s13 c c3 hp rp)
      ·cases hf
     ·cases hf
    ·cases hf
   ·cases hf
  ·cases hf
end
end L3
namespace Law
open PySem PySem.Spec PyProof.Rows L2 L3
theorem zV (n:Nat):∀ c:List Int,D.unds n (c.map D.int) = true
 | []=>rfl
 | x :: r=>by
  show (D.und n (D.int x) && D.unds n (r.map D.int)) = true;rw [zV n r]; rfl
theorem zGZ {M:Mem} (h:M[k]? = some u):M.set k u = M:=by
 apply List.ext_getElem?;intro i;rw [zRw];split
 ·rename_i e; subst e;rw [zQc (zQQ.mp h).1]; exact h.symm
 ·rfl
theorem at0 {x:D} {xs:List D}:atI (x :: xs) 0 = some x:=zH3 (k:=0) rfl
theorem zKC (ns:List Int) (lo hi:Option Int):∃ c:List Int,L3.zBw (ns.map D.int) lo hi = c.map D.int /\ c.length <= ns.length:=by
 refine ⟨(ns.drop (HT.sIx ns.length 0 lo)).take (HT.sIx ns.length ns.length hi - HT.sIx ns.length 0 lo),?_,?_⟩
 ·unfold L3.zBw;rw [zQW,List.map_take,List.map_drop]
 ·rw [zRl,List.length_drop]; omega
theorem zAP (h:x :: r = c.map D.int):∃ y c',c = y :: c' /\ x = .int y /\ r = c'.map D.int:=by
 cases c with
 | nil=>cases h
 | cons y c'=>rw [zQg] at h; exact ⟨y,c',rfl,(zRR h).1,(zRR h).2⟩
theorem zo:zCR none xs M:=trivial
theorem zY (h:n <= 100000):n <= sizeLine:=zQo h (by decide)
mutual
theorem zEW (h:a <= b):∀ {d:D},D.und a d = true -> D.und b d = true
 | .non,_=>by unfold D.und; rfl
 | .bl _,_=>by unfold D.und; rfl
 | .int _,_=>by unfold D.und; rfl
 | .str _,_=>by unfold D.und; rfl
 | .tup ds,e=>by unfold D.und at e ⊢; exact zBG h e
 | .ref k,e=>by unfold D.und at e ⊢; simp at e ⊢; omega
theorem zBG (h:a <= b):∀ {ds:List D},D.unds a ds = true -> D.unds b ds = true
 | [],_=>by unfold D.unds; rfl
 | d :: ds,e=>by
  unfold D.unds at e ⊢;rw [zQx] at e ⊢;exact ⟨zEW h e.1,zBG h e.2⟩
end
theorem zCc (h:a <= b) (e:MO.und a u = true):MO.und b u = true:=by
 cases u with
 | lst xs=>exact zBG h e
 | fro xs=>exact zBG h e
 | set xs=>exact zBG h e
 | dict kvs | dicT kvs | froT kvs | froK kvs=>
  unfold MO.und at e ⊢;rw [zQy] at e ⊢;intro p hp;have:=e p hp;rw [zQx] at this ⊢;exact ⟨zEW h this.1,zEW h this.2⟩
theorem zC4:∀ {xs ys:List D},D.unds n (xs ++ ys) = (D.unds n xs && D.unds n ys)
 | [],ys=>by simp [D.unds]
 | x :: xs,ys=>by
  show (D.und n x && D.unds n (xs ++ ys)) = ((D.und n x && D.unds n xs) && D.unds n ys);rw [zC4,Bool.and_assoc]
theorem zDA:∀ {xs:List D},(∀ x ∈ xs,D.und n x = true) -> D.unds n xs = true
 | [],_=>rfl
 | x :: xs,h=>by
  show (D.und n x && D.unds n xs) = true;rw [h x zQb,zDA fun y hy=>h y (zQa _ hy)]; rfl
theorem zAp (c:List Int):D.und n (.tup (c.map D.int)) = true:=by unfold D.und; exact zV n c
def zBA (i:Nat):Nat -> List D
 | 0=>[]
 | n + 1=> .int i :: zBA (i + 1) n
theorem zFi (n:Nat):∀ i,((List.range' i n).map fun (k:Nat)=>D.int k) = zBA i n:=by
 induction n with
 | zero=>intro i; rfl
 | succ n ih=>intro i; rw [List.range'_succ,zQg,ih]; rfl
theorem zEH (n:Nat):((List.range n).map fun (k:Nat)=>D.int k) = zBA 0 n:=by rw [List.range_eq_range',zFi]
theorem zA1:∀ (n i:Nat),(zBA i n).length = n
 | 0,_=>rfl
 | n + 1,i=>by show (zBA (i + 1) n).length + 1 = _; rw [zA1 n]
theorem zJj (n:Nat) (I:Nat -> Sd -> Mem -> Prop)
  (hs:∀ i σ M,i < n -> I i σ M -> ∃ σ1,g (.int i) σ = some σ1 /\ OkS (b σ1 M) fun o σ2 M2=>match o with | .nx=>I (i + 1) σ2 M2 | .cnt=>I (i + 1) σ2 M2 | .brk=>P .nx σ2 M2 | .ret d=>P (.ret d) σ2 M2)
  (he:∀ σ M,I n σ M -> P .nx σ M) (σ:Sd) (M:Mem) (h0:I 0 σ M):OkS (zCF g b all none (zBA 0 n) σ M) P:=by
 refine zAS (I:=fun r σ M=>∃ i,i <= n /\ r = zBA i (n - i) /\ I i σ M) ?_ ?_ _ _ _ ⟨0,zQ9 _,by simp,h0⟩
 ·rintro x r σ M ⟨i,hi,e,hI⟩;have hlt:i < n:=by
   rcases Nat.lt_or_ge i n with z | z
   ·exact z
   ·rw [show n - i = 0 by omega] at e; cases e
  rw [show n - i = (n - (i + 1)) + 1 by omega] at e;obtain ⟨rfl,rfl⟩:=zRR e;obtain ⟨σ1,e1,q⟩:=hs i σ M hlt hI;refine ⟨zo,σ1,e1,OkS.mono q ?_⟩;intro o σ2 M2 z;cases o with
  | nx=>exact ⟨i + 1,hlt,rfl,z⟩
  | cnt=>exact ⟨i + 1,hlt,rfl,z⟩
  | brk=>exact z
  | ret d=>exact z
 ·rintro σ M ⟨i,hi,e,hI⟩;have:i = n:=by
   rcases Nat.lt_or_ge i n with z | z
   ·rw [show n - i = (n - (i + 1)) + 1 by omega] at e; cases e
   ·omega
  subst this;exact ⟨zo,he σ M hI⟩
theorem zKb (n:Nat) (I:Nat -> List D -> Mem -> Prop)
  (hs:∀ i acc M,i < n -> I i acc M -> ∃ σ1,g (.int i) σ = some σ1 /\ Ok (te σ1 M) (zD7 fun d M2=>I (i + 1) (acc ++ [d]) M2)) (h0:I 0 [] M) :
  Ok (zCO g zt te σ all none (zBA 0 n) M) fun ys M1=>I n ys M1:=by
 refine Ok.mono (zBH (I:=fun r acc M=>∃ i,i <= n /\ r = zBA i (n - i) /\ I i acc M) (Q:=fun acc M=>I n acc M) ?_ ?_ _ [] _ ⟨0,zQ9 _,by simp,h0⟩) fun ys M1 q=>by simpa using q
 ·rintro x r acc M ⟨i,hi,e,hI⟩;have hlt:i < n:=by
   rcases Nat.lt_or_ge i n with z | z
   ·exact z
   ·rw [show n - i = 0 by omega] at e; cases e
  rw [show n - i = (n - (i + 1)) + 1 by omega] at e;obtain ⟨rfl,rfl⟩:=zRR e;obtain ⟨σ1,e1,q⟩:=hs i acc M hlt hI;refine ⟨zo,σ1,e1,zD6.mpr ?_⟩;rw [zQc rfl];refine Ok.mono q ?_;intro x M2 z;cases x with
  | dat d=>exact ⟨i + 1,hlt,rfl,z⟩
  | fl xs=>exact ⟨i + 1,hlt,rfl,z⟩
 ·rintro acc M ⟨i,hi,e,hI⟩;have:i = n:=by
   rcases Nat.lt_or_ge i n with z | z
   ·rw [show n - i = (n - (i + 1)) + 1 by omega] at e; cases e
   ·omega
  subst this;exact ⟨zo,hI⟩
theorem zCI (e:f σ M = some (.dat (.int j),M)) (h1:0 <= j) (h2:j < 2 ^ 62):zAL (zD (toD f) zJ) σ M = some (zBA 0 j.toNat,none,M):=by
 have e':(zD (toD f) zJ) σ M = some ([.int j],M):=by unfold zD toD zJ; rw [e]
 rw [zEI e' h1 h2,zEH]
def mD (zA:List (List Int)):D:=.tup (zA.map fun r=> .tup (r.map D.int))
structure IsM (zA:List (List Int)) (l:Nat):Prop where
 r0:0 < zA.length
 l0:0 < l
 row:∀ r ∈ zA,r.length = l /\ ∀ g ∈ r,0 <= g /\ g < zA.length
theorem zD2 (zA:List (List Int)):D.und n (mD zA) = true:=by
 unfold mD D.und;refine zDA fun x hx=>?_;obtain ⟨r,_,rfl⟩:=zQe.mp hx;exact zAp r
theorem zJn (zA:List (List Int)):D.unds n (zA.map fun r=>D.tup (r.map D.int)) = true:=by
 refine zDA fun x hx=>?_;obtain ⟨r,_,rfl⟩:=zQe.mp hx;exact zAp r
theorem zO {α:Type} {x:Option (α × Mem)} {a:α} {M:Mem} (h:Ok x fun b M'=>b = a /\ M' = M):x = some (a,M):=by
 obtain ⟨b,M',e,rfl,rfl⟩:=h; exact e
theorem zE {α:Type} {x:Option (α × Mem)} {a:α} {M:Mem} {P:α -> Mem -> Prop} (h:x = some (a,M)) (p:P a M):Ok x P:=⟨a,M,h,p⟩
theorem zDl {c:FT} {a g:FS} {σ:Sd} {M:Mem} {P:Out -> Sd -> Mem -> Prop} (hc:c σ M = some (false,M)) (h:OkS (g σ M) P):OkS (zT (sIf c a zAl) g σ M) P:=by
 rw [zG,zAT];refine zE hc ?_;rw [zQf (by decide),zAC];exact h
theorem zLH {c:FT} {a:FS} {σ:Sd} {M:Mem} {P:Out -> Sd -> Mem -> Prop} (hc:c σ M = some (false,M)) (h:P .nx σ M):OkS (sIf c a zAl σ M) P:=by
 rw [zAT];refine zE hc ?_;rw [zQf (by decide),zAC];exact h
theorem zAH {f:FE} {σ:Sd} {M:Mem} {d:D} (h:f σ M = some (.dat d,M)):zD (toD f) zJ σ M = some ([d],M):=by
 unfold zD toD zJ; rw [h]
theorem zAM {f:FE} {g:FA} {σ:Sd} {M:Mem} {d:D} {ds:List D} (h:f σ M = some (.dat d,M)) (hg:g σ M = some (ds,M)):zD (toD f) g σ M = some (d :: ds,M):=by
 unfold zD toD; rw [h]; dsimp only; rw [hg]
theorem zBp {m:FF} {a:FA} {σ:Sd} {M M':Mem} {ds:List D} {d:D} (h:a σ M = some (ds,M)) (hm:m ds M = some (d,M')):zW m a σ M = some (.dat d,M'):=by
 unfold zW; rw [h]; dsimp only; rw [hm]
theorem zK {k:K2} {f g:FE} {σ:Sd} {M:Mem} {x y:EV} {r:Option (EV × Mem)} (hf:f σ M = some (x,M)) (hg:g σ M = some (y,M)) (hk:k x y M = r):fOp k f g σ M = r:=by
 unfold fOp; rw [hf]; dsimp only; rw [hg]; exact hk
theorem zAw {x:EV} {xs:List D} {i:Int} {d:D} {M:Mem} (h:zg M x = some xs) (hd:atI xs i = some d):kIx x (.dat (.int i)) M = some (.dat d,M):=zO (zOG h hd ⟨rfl,rfl⟩)
theorem zBm {f:FE} {x:EV} {xs:List D} {σ:Sd} {M:Mem} (hf:f σ M = some (x,M)) (h:zg M x = some xs):fB zAO (zN f zc) σ M = some (.dat (.int xs.length),M):=by
 unfold fB zN zc; rw [hf]; exact zO ((zPd h).mpr ⟨rfl,rfl⟩)
def zAa (zA:List (List Int)) (h g:Int):Int:=(zA.getD h.toNat []).getD g.toNat 0
theorem zF1 {zA:List (List Int)} {h:Int} (h0:0 <= h) (h1:h < zA.length):atI (zA.map fun r=>D.tup (r.map D.int)) h = some (.tup ((zA.getD h.toNat []).map D.int)):=by
 refine zHG h0 ?_;rw [zQk,zQS,zQR (by omega)];rfl
theorem zB0 {r:List Int} {g:Int} (h0:0 <= g) (h1:g < r.length):atI (r.map D.int) g = some (.int (r.getD g.toNat 0)):=by
 refine zHG h0 ?_;rw [zQk,zQS,zQR (by omega)];rfl
theorem IsM.get {zA:List (List Int)} {l:Nat} (m:IsM zA l) {h:Int} (h0:0 <= h) (h1:h < zA.length):(zA.getD h.toNat []).length = l /\ ∀ g ∈ zA.getD h.toNat [],0 <= g /\ g < zA.length:=by
 refine m.row _ ?_;rw [zQS,zQR (by omega)];exact zQv _
theorem IsM.step {zA:List (List Int)} {l:Nat} (m:IsM zA l) {h g:Int} (h0:0 <= h) (h1:h < zA.length) (g0:0 <= g) (g1:g < l):0 <= zAa zA h g /\ zAa zA h g < zA.length:=by
 obtain ⟨q1,q2⟩:=m.get h0 h1;refine q2 _ ?_;unfold zAa;rw [zQS (l:=zA.getD h.toNat []),zQR (by omega)];exact zQv _
theorem zHc (hf:f σ M = some (x,M)) (ht:zHH M x = some t):zDK T f σ M = some (.dat (.bl (isT t T)),M):=by
 unfold zDK; rw [hf]; dsimp only; rw [ht]
theorem zAc (h:f σ M = some (.dat (.bl k),M')):tst f σ M = some (k,M'):=by unfold tst; rw [h]
theorem isV (hf:f σ M = some (x,M)) (ht:zHH M x = some t) (h:isT t T = k):zDK T f σ M = some (.dat (.bl k),M):=by
 rw [zHc hf ht,h]
theorem isF (hf:f σ M = some (x,M)) (ht:zHH M x = some t) (h:isT t T = false):tst (zDK T f) σ M = some (false,M):=by
 rw [zAc (zHc hf ht),h]
theorem zMG (hf:f σ M = some (x,M)) (ht:zHH M x = some t) (h:isT t T = true):tst (zDK T f) σ M = some (true,M):=by
 rw [zAc (zHc hf ht),h]
theorem zId (hc:c σ M = some (true,M)) (h:OkS (a σ M) (nxP (fun σ1 M1=>OkS (g σ1 M1) P) P)):OkS (zT (sIf c a b) g σ M) P:=by
 rw [zG,zAT];refine zE hc ?_;rw [zQc rfl];exact h
theorem zAn (hf:f σ M = some (.dat d,M)) (h:P (.ret d) σ M):OkS (zAi f σ M) P:=by
 rw [zBW]; exact zE hf h
theorem zJx (h:(zDd d).isSome = true):kEq (.dat d) (.dat d) M = some (.dat (.bl true),M):=by
 cases d with
 | tup _=>cases h
 | ref _=>cases h
 | non=>rfl
 | bl k=>cases k <;> rfl
 | int i=>show some (EV.dat (.bl (decide (V.int i = V.int i))),M) = _; simp
 | str x=>show some (EV.dat (.bl (decide (V.str x = V.str x))),M) = _; simp
theorem zE8 (hf:f σ M = some (.dat (.bl true),M)) (hg:g σ M = some (.dat (.bl true),M)):zHt f g σ M = some (.dat (.bl true),M):=by
 unfold zHt; rw [hf]; exact hg
theorem zHs (hf:f σ M = some (.dat (.bl false),M)):zLK f σ M = some (.dat (.bl true),M):=by
 unfold zLK; rw [hf]; rfl
theorem zAF {α:Type} (as:List α) (enc out:α -> D) (hi:fi σ M = some (as.map enc,gd,M)) (hgd:zCR gd (as.map enc) M) (hz:as.length <= 100000)
  (he:∀ a ∈ as,∃ σ1,g (enc a) (zGC own σ) = some σ1 /\ te σ1 M = some (.dat (out a),M)):zk own fi g zt te σ M = some (.fl (as.map out),M):=by
 refine zO (zCb.mpr ⟨_,_,_,hi,by rw [zQW]; exact zY hz,?_⟩);refine Ok.mono (zBH (I:=fun r acc M'=>M' = M /\ ∃ ra rb:List α,as = rb ++ ra /\ r = ra.map enc /\ acc = rb.map out) (Q:=fun acc M'=>M' = M /\ acc = as.map out) ?_ ?_ _ [] _ ⟨rfl,as,[],rfl,rfl,rfl⟩) ?_
 ·rintro x r acc M' ⟨rfl,ra,rb,hab,hr,rfl⟩;cases ra with
  | nil=>cases hr
  | cons a ra=>
   rw [zQg] at hr;obtain ⟨rfl,rfl⟩:=zRR hr;obtain ⟨σ1,e1,e2⟩:=he a (by rw [hab]; simp);refine ⟨hgd,σ1,e1,zD6.mpr ?_⟩;rw [zQc rfl];refine zE e2 ?_;rw [zI];exact ⟨rfl,ra,rb ++ [a],by rw [hab]; simp,rfl,by simp⟩
 ·rintro acc M' ⟨rfl,ra,rb,hab,hr,rfl⟩;cases ra with
  | nil=>rw [zQ7] at hab; subst hab; exact ⟨hgd,rfl,rfl⟩
  | cons a ra=>cases hr
 ·rintro ys M' ⟨rfl,h⟩;rw [List.nil_append] at h;subst h;exact ⟨rfl,rfl⟩
theorem zAv (hf:f σ M = some (x,M)) (h:zg M x = some xs):fB zx (zN f zc) σ M = some (.dat (.tup xs),M):=by
 unfold fB zN zc; rw [hf]; exact zO ((zMF h).mpr ⟨rfl,rfl⟩)
theorem zDp (hf:f σ M = some (.dat (.tup xs),M)):zAY f σ M = some (xs,none,M):=zAs hf zAR
theorem zHv (n:Nat):zBA 0 n = (List.range n).map fun (k:Nat)=>D.int k:=(zEH n).symm
theorem zDP (e:f σ M = some (.dat (.int j),M)) (h1:0 <= j) (h2:j < 2 ^ 62):zAL (zD (toD f) zJ) σ M = some ((List.range j.toNat).map (fun (k:Nat)=>D.int k),none,M):=by
 rw [zCI e h1 h2,zHv]
theorem zD5 (hf:f σ M = some (.dat d,M)) (h:OkS (g (σ.set i (some d)) M) P):OkS (zT (zp i f) g σ M) P:=by
 rw [zG,zR]; exact zE hf h
theorem zPX (h:f σ M = some (.dat d,M')):zD (toD f) zJ σ M = some ([d],M'):=by
 unfold zD toD zJ; rw [h]
open ST
def tI (xs:List Int):D:=.tup (xs.map D.int)
end Law
namespace Law
open PySem PySem.Spec PyProof.Rows L2 L3 ST
theorem zKd {l:List Int} (h:x ∈ l):l.idxOf x < l.length:=List.idxOf_lt_length_iff.mpr h
theorem zLO:∀ {l:List Int} (_:l.Nodup) {k:Nat},k < l.length -> l.idxOf (l.getD k 0) = k
 | y :: l,h,0,_=>by simp
 | y :: l,h,k + 1,hk=>by
  have hn:=List.nodup_cons.mp h;have hk':k < l.length:=by simpa using hk
  have hm:l.getD k 0 ∈ l:=by rw [zQS,zQR hk']; exact zQv _
  have hne:y ≠ l.getD k 0:=fun e=>hn.1 (e ▸ hm);show (y :: l).idxOf (l.getD k 0) = k + 1;rw [List.idxOf_cons,show (y == l.getD k 0) = false by simpa using hne];simp only [cond_false];rw [zLO hn.2 hk']
theorem zNQ {M:Mem} {n:Nat} {xs:List D} {k:Nat} {d:D} {Q:D -> Mem -> Prop} (h:M[n]? = some (.lst xs)) (hk:xs[k]? = some d) (hz:k < 90000) (q:Q d (M.set n (.lst (xs.eraseIdx k)))):Ok (zEu (.dat (.ref n)) [.int (k:Int)] M) Q:=by
 refine ⟨d,M.set n (.lst (xs.eraseIdx k)),?_,q⟩;have hl:k < xs.length:=(zQQ.mp hk).1;unfold zEu;dsimp only;rw [h];dsimp only;have e:ixN xs.length (k:Int) = some k:=by unfold ixN; rw [zQc (by omega),zQc (by omega)]; simp
 rw [e];dsimp only;rw [hk];dsimp only;rw [zQc ⟨by omega,by omega⟩]
theorem zA4 (e:f σ M = some (.dat (mD zA),M)):fB zAO (zN f zc) σ M = some (.dat (.int zA.length),M):=by
 have:=zBm e zAR;rw [zQW] at this; exact this
end Law
namespace Law
open PySem PySem.Spec PyProof.Rows L2 L3 ST
theorem oS (h:f σ M = some (.dat (.int i),M)):zr f σ M = some (some i,M):=by unfold zr; rw [h]
theorem zJZ (h0:0 < p) (hx:0 < xs.length):L3.zBw xs (some p) none = xs.drop p.toNat:=by
 have e:p = ((p.toNat:Nat):Int):=by omega
 have s:HT.sIx xs.length 0 (some p) = min p.toNat xs.length:=by
  have q:=HT.zDs xs.length 0 p.toNat;rw [<- e] at q; exact q
 have z:HT.sIx xs.length xs.length none = xs.length:=rfl;unfold L3.zBw;rw [s,z];rcases Nat.le_total p.toNat xs.length with q | q
 ·rw [Nat.min_eq_left q,List.take_of_length_le (by simp)]
 ·rw [Nat.min_eq_right q,List.drop_of_length_le (zQT _),List.drop_of_length_le q]; simp
end Law
namespace Lac
open PySem PySem.Spec PyProof.Rows L2 L3 ST Law
end Lac
namespace Lac
open PySem PySem.Spec PyProof.Rows L2 L3 ST Law
def zFd (g:List Int):List Key:=g.map Sum.inl
theorem zGv:∀ {a b:List Int},zFd a = zFd b -> a = b
 | [],[],_=>rfl
 | [],_ :: _,h=>by cases h
 | _ :: _,[],h=>by cases h
 | x :: a,y :: b,h=>by
  have h1:=(zRR h).1;have h2:=zGv (zRR h).2;cases h1; rw [h2]
theorem zEL:∀ g:List Int,zEa (g.map D.int) = some (zFd g)
 | []=>rfl
 | x :: r=>by
  rw [zQg];unfold zEa;rw [zEL r];rfl
theorem zER (g:List Int):tkD (tI g) = some (zFd g):=zEL g
abbrev zEj (T:List (List Int × D)):List (D × D):=T.map fun q=>(tI q.1,q.2)
abbrev dT (T:List (List Int × D)):MO:=.dicT (zEj T)
def zAA:List (List Int × D) -> List Int -> Option D
 | [],_=>none
 | q :: r,g=>if q.1 = g then some q.2 else zAA r g
def zDN (T:List (List Int × D)) (g:List Int) (v:D):List (List Int × D):=match zAA T g with
 | some _=>T.map fun q=>if q.1 = g then (q.1,v) else q
 | none=>T ++ [(g,v)]
theorem zFa (a g:List Int):decide (tkD (tI a) = some (zFd g)) = decide (a = g):=by
 rw [zER];by_cases h:a = g
 ·subst h; simp
 ·rw [zQw h,zQw];intro e;exact h (zGv (zRN e))
theorem zJz (g:List Int):∀ T:List (List Int × D),zBM tkD (zEj T) (zFd g) = zAA T g
 | []=>rfl
 | q :: r=>by
  have ih:=zJz g r;unfold zBM at ih ⊢;unfold zEj at ih ⊢;rw [zQg,zR9];rw [zFa];unfold zAA;by_cases h:q.1 = g
  ·rw [decide_eq_true h,zQc h]; rfl
  ·rw [zQw h,zQf h]; exact ih
theorem zMt (g:List Int):∀ T:List (List Int × D),((zEj T).any fun p=>decide (tkD p.1 = some (zFd g))) = (zAA T g).isSome
 | []=>rfl
 | q :: r=>by
  have ih:=zMt g r;unfold zEj at ih ⊢;rw [zQg,zSz,zFa];unfold zAA;by_cases h:q.1 = g
  ·rw [decide_eq_true h,zQc h]; rfl
  ·rw [zQw h,zQf h,Bool.false_or]; exact ih
theorem zO3 (T:List (List Int × D)) (g:List Int) (v:D):zEx tkD (zEj T) (zFd g) (tI g) v = zEj (zDN T g v):=by
 unfold zEx zDN;rw [zMt];cases h:zAA T g with
 | none=>
  rw [zQf (by simp)];unfold zEj; rw [zRF]; rfl
 | some d=>
  rw [zQc (by simp)];unfold zEj;rw [zQl,zQl];apply List.map_congr_left;intro q _;show (if tkD (tI q.1) = some (zFd g) then (tI q.1,v) else (tI q.1,q.2)) = (tI (if q.1 = g then (q.1,v) else q).1,(if q.1 = g then (q.1,v) else q).2);have hd:=zFa q.1 g;by_cases hq:q.1 = g
  ·rw [decide_eq_true hq] at hd;rw [zQc (of_decide_eq_true hd),zQc hq]
  ·rw [zQw hq] at hd;rw [zQf (of_decide_eq_false hd),zQf hq]
theorem zIi (T:List (List Int × D)) (g h:List Int) (v:D):zAA (zDN T g v) h = if g = h then some v else zAA T h:=by
 have app:∀ (T:List (List Int × D)),zAA T g = none -> zAA (T ++ [(g,v)]) h = if g = h then some v else zAA T h:=by
  intro T;induction T with
  | nil=>intro _; rfl
  | cons q r ih=>
   intro e;unfold zAA at e;by_cases hq:q.1 = g
   ·rw [zQc hq] at e; cases e
   ·rw [zQf hq] at e;show (if q.1 = h then some q.2 else zAA (r ++ [(g,v)]) h) = if g = h then some v else if q.1 = h then some q.2 else zAA r h
    rw [ih e];by_cases h1:q.1 = h
    ·rw [zQc h1,zQc h1,zQf (fun z=>hq (h1.trans z.symm))]
    ·rw [zQf h1,zQf h1]
 have mp:∀ (T:List (List Int × D)),(zAA T g).isSome = true -> zAA (T.map fun q=>if q.1 = g then (q.1,v) else q) h = if g = h then some v else zAA T h:=by
  intro T;by_cases hgh:g = h
  ·subst hgh;induction T with
   | nil=>intro e; cases e
   | cons q r ih=>
    intro e;rw [zQg];unfold zAA;by_cases hq:q.1 = g
    ·rw [zQc hq]; simp [hq]
    ·rw [zQf hq,zQf hq];unfold zAA at e;rw [zQf hq] at e;rw [ih e,zQc rfl,zQc rfl]
  ·intro hx;clear hx;rw [zQf hgh];induction T with
   | nil=>rfl
   | cons q r ih=>
    rw [zQg];unfold zAA;by_cases hq:q.1 = g
    ·have:¬ q.1 = h:=fun z=>hgh (hq.symm.trans z);rw [zQc hq];rw [zQf this,zQf this]; exact ih
    ·rw [zQf hq];by_cases h1:q.1 = h
     ·rw [zQc h1,zQc h1]
     ·rw [zQf h1,zQf h1]; exact ih
 unfold zDN;cases e:zAA T g with
 | none=>exact app T e
 | some d=>exact mp T (by rw [e]; rfl)
theorem zKY (T:List (List Int × D)) (g:List Int) (v:D):(zDN T g v).length <= T.length + 1:=by
 unfold zDN;cases zAA T g with
 | none=>simp
 | some d=>simp
section
theorem dgT (h:M[n]? = some (dT T)):zDZ M (.dat (.ref n)) (tI g) = some (zAA T g):=by
 unfold zDZ; dsimp only; rw [h]; dsimp only; rw [zER]; dsimp only; rw [zJz]
theorem zP1 (h:M[n]? = some (dT T)):zGW neg (.dat (tI g)) (.dat (.ref n)) M = some (.dat (.bl (if neg then !(zAA T g).isSome else (zAA T g).isSome)),M):=by
 unfold zGW; dsimp only; rw [dgT h]
theorem zMz (h:M[n]? = some (dT T)) (hz:T.length < 90000):zCh M n (tI g) v = some (M.set n (dT (zDN T g v))):=by
 unfold zCh; rw [h]; dsimp only; rw [zER]; dsimp only; rw [zQc (by rw [zQW]; exact zQm hz (zY (by omega))),zO3]
end
end Lac
namespace Lac
open PySem PySem.Spec PyProof.Rows L2 L3 ST Law
def zBb (zA:List (List Int)):List Int:=(List.range zA.length).map fun (k:Nat)=>(k:Int)
end Lac
namespace Lac
open PySem PySem.Spec PyProof.Rows L2 L3 ST Law
end Lac
namespace Lac
open PySem PySem.Spec PyProof.Rows L2 L3 ST Law
end Lac
namespace Lac
open PySem PySem.Spec PyProof.Rows L2 L3 ST Law
end Lac
namespace Lac
open PySem PySem.Spec PyProof.Rows L2 L3 ST Law
end Lac
namespace Lac
open PySem PySem.Spec PyProof.Rows L2 L3 ST Law
end Lac
namespace Lac
open PySem PySem.Spec PyProof.Rows L2 L3 ST Law
theorem zCw {α:Type} [DecidableEq α]:∀ (a b:List α),a.Nodup -> (∀ x ∈ a,x ∈ b) -> a.length <= b.length
 | [],_,_,_=>zQ9 _
 | x :: r,b,h,s=>by
  rw [List.nodup_cons] at h;have hx:=s x zQb;have:=zCw r (b.erase x) h.2 fun y hy=>(List.mem_erase_of_ne (fun e=>h.1 (by rw [<- e]; exact hy))).mpr (s y (zQa _ hy));rw [List.length_erase_of_mem hx] at this;have:0 < b.length:=List.length_pos_of_mem hx;simp only [List.length_cons]; omega
end Lac
namespace Lac
open PySem PySem.Spec PyProof.Rows L2 L3 ST Law
end Lac
namespace Lac
open PySem PySem.Spec PyProof.Rows L2 L3 ST Law
end Lac
namespace Lac
open PySem PySem.Spec PyProof.Rows L2 L3 ST Law
def zLY:D -> Bool
 | .non | .bl _ | .int _=>true
 | _=>false
theorem zGY (h:zLY d = true):(zDd d).isSome = true:=by cases d <;> first | rfl | cases h
theorem zK6 (h:zLY d = true):kEq (.dat d) (.dat d) M = some (.dat (.bl true),M):=zJx (zGY h)
theorem zIC (n:Nat) (ps:List (List Int)):D.unds n (ps.map tI) = true:=by
 induction ps with
 | nil=>rfl
 | cons p r ih=>rw [zQg]; unfold D.unds; rw [ih,show D.und n (tI p) = true from zAp p]; rfl
end Lac
namespace Lad
open PySem PySem.Spec PyProof.Rows L2 L3 ST Law
noncomputable def zCH:FS:=(zT (zp 1 (fC (.int 7)))
  (zT (zBs (zAY (fSl (zC 0) zAg (zr (fC (.int 63))))) (gN 2) (zp 1 (fOp zB8 (fOp zAb (fOp zAb (fOp zEg (zC 1) (fC (.int 6364136223846793005))) (zC 2)) (fC (.int 1442695040888963407))) (fC (.int 2305843009213693951)))))
  (zAi (zFz "great" (zk [2] (zAY (fSl (zC 0) zAg (zr (fC (.int 63))))) (gN 2) (tst (fOp kGe (zC 2) (fOp zJW (fC (.int 10)) (fC (.int 18))))) (zC 2)) "seed" (zC 1)))))
noncomputable def zA3:FF:=zCe 3 zCH
noncomputable def zCo:FS:=(zT (sIf (tst (fOp kNe (fOp zAk (zC 0) (fC (.str "great"))) (zBa zJ))) (zT (zp 2 (fOp zB8 (fOp kIx (fOp zAk (zC 0) (fC (.str "great"))) (fC (.int 0))) (zC 1)))
  (zT (zHQ (fOp zHa (fOp kIx (fOp zAk (zC 0) (fC (.str "great"))) (fC (.int 0))) (zC 1)) (fOp zAk (zC 0) (fC (.str "great"))) (fC (.int 0)))
  (zT (sIf (tst (fOp kEq (fOp kIx (fOp zAk (zC 0) (fC (.str "great"))) (fC (.int 0))) (fC (.int 0)))) (zBL (fM zEu (fOp zAk (zC 0) (fC (.str "great"))) (zD (toD (fC (.int 0))) zJ))) zAl)
  (zAi (zC 2))))) zAl)
  (zT (zC3 (fOp zB8 (fOp zAb (fOp zEg (fOp zAk (zC 0) (fC (.str "seed"))) (fC (.int 3935559000370003845))) (fC (.int 2691343689449507681))) (fC (.int 2305843009213693951))) (zC 0) (fC (.str "seed")))
  (zT (zp 3 (fOp zHa (fOp zAk (zC 0) (fC (.str "seed"))) (fC (.int 65537))))
  (zAi (fOp zB8 (fOp zHa (fOp zB8 (fOp zEg (zC 3) (zC 3)) (fC (.int 998244353))) (fC (.int 3))) (zC 1))))))
noncomputable def zP:FF:=zCe 4 zCo
abbrev gS (k:Nat) (s:Int):MO:=.dict [(.str "great", .ref k),(.str "seed", .int s)]
structure Gen (M:Mem) (n k:Nat):Prop where
 ex:∃ (c:List Int) (s:Int),M[n]? = some (gS k s) /\ M[k]? = some (.lst (c.map D.int)) /\ (∀ x ∈ c,0 <= x) /\ c.length <= 63 /\ 0 <= s /\ s < 2305843009213693951
 ne:n ≠ k
 wf:∀ (j:Nat) u,M[j]? = some u -> MO.und M.length u = true
structure Nw (M M':Mem) (n k:Nat):Prop where
 gen:Gen M' n k
 len:M.length <= M'.length
 fr:∀ j,j < M.length -> j ≠ n -> j ≠ k -> M'[j]? = M[j]?
theorem Nw.refl (h:Gen M n k):Nw M M n k:=⟨h,zQT _,fun _ _ _ _=>rfl⟩
theorem Nw.trans {M M1 M2:Mem} {n k:Nat} (a:Nw M M1 n k) (b:Nw M1 M2 n k):Nw M M2 n k :=
 ⟨b.gen,zQo a.len b.len,fun j h h1 h2=>(b.fr j (zQm h a.len) h1 h2).trans (a.fr j h h1 h2)⟩
theorem Gen.lt (h:Gen M n k):n < M.length /\ k < M.length:=by
 obtain ⟨c,s,e1,e2,_⟩:=h.ex;exact ⟨(zQQ.mp e1).1,(zQQ.mp e2).1⟩
theorem zKK (hk:k < N):MO.und N (gS k s) = true:=by
 unfold MO.und;simp [D.und,hk]
theorem Gen.put {M:Mem} (h:Gen M n k) {c:List Int} (hc:∀ x ∈ c,0 <= x) (hl:c.length <= 63) (h0:0 <= s) (h1:s < 2305843009213693951) :
  Nw M ((M.set k (.lst (c.map D.int))).set n (gS k s)) n k:=by
 obtain ⟨hn,hk⟩:=h.lt;refine ⟨⟨⟨c,s,?_,?_,hc,hl,h0,h1⟩,h.ne,fun j u e=>?_⟩,by simp,fun j _ h1 h2=>?_⟩
 ·rw [zRH (by simpa using hn)]
 ·rw [zQr h.ne,zRH hk]
 ·rw [List.length_set,List.length_set];rw [zRw] at e;split at e
  ·split at e
   ·cases e;exact zKK hk
   ·cases e
  ·rw [zRw] at e;split at e
   ·rename_i z;subst z;cases e; exact zV _ _
   ·exact h.wf j u e
 ·rw [zQr (Ne.symm h1),zQr (Ne.symm h2)]
theorem Gen.app (h:Gen A n k) (hu:∀ u ∈ us,MO.und (A.length + us.length) u = true):Nw A (A ++ us) n k:=by
 obtain ⟨c,s,e1,e2,r⟩:=h.ex;obtain ⟨hn,hk⟩:=h.lt;refine ⟨⟨⟨c,s,by rw [zQU hn]; exact e1,by rw [zQU hk]; exact e2,r⟩,h.ne,fun j u e=>?_⟩,by simp,fun j hj _ _=>zQU hj⟩;rw [zQd];by_cases hj:j < A.length
 ·rw [zQU hj] at e;exact zCc (by omega) (h.wf j u e)
 ·rw [zRX (by omega)] at e;exact hu u (zRE e)
theorem Gen.lst (h:Gen A n k) (xs:List D) (hx:D.unds A.length xs = true):Nw A (A ++ [.lst xs]) n k:=h.app fun u hu=>by
 have:u = .lst xs:=by simpa using hu
 subst this; exact zBG (by simp) hx
theorem Nw.setB (h:Nw M A n k) (g:Gen M n k) (hj:M.length <= j) (hu:MO.und A.length u = true):Nw M (A.set j u) n k:=by
 obtain ⟨hn,hk⟩:=g.lt;obtain ⟨c,s,e1,e2,r⟩:=h.gen.ex;refine ⟨⟨⟨c,s,by rw [zQr (by omega)]; exact e1,by rw [zQr (by omega)]; exact e2,r⟩,g.ne,fun i v e=>?_⟩,by rw [List.length_set]; exact h.len,fun i hi h1 h2=>by rw [zQr (by omega)]; exact h.fr i hi h1 h2⟩;rw [List.length_set];rw [zRw] at e;split at e
 ·split at e
  ·cases e; exact hu
  ·cases e
 ·exact h.gen.wf i v e
theorem Nw.wf0 (h:Nw M M' n k) (g:Gen M n k):∀ (j:Nat) u,j < M.length -> M'[j]? = some u -> MO.und M.length u = true:=fun j u hj e=>by
 obtain ⟨hn,hk⟩:=g.lt;obtain ⟨c,s,e1,e2,r⟩:=h.gen.ex;by_cases q1:j = n
 ·subst q1; rw [e1] at e; cases e; exact zKK hk
 ·by_cases q2:j = k
  ·subst q2; rw [e2] at e; cases e; exact zV _ _
  ·rw [h.fr j hj q1 q2] at e; exact g.wf j u e
theorem Nw.trim (h:Nw M M' n k) (g:Gen M n k):Nw M (M'.take M.length) n k:=by
 obtain ⟨hn,hk⟩:=g.lt;have tk:∀ j,j < M.length -> (M'.take M.length)[j]? = M'[j]?:=fun j hj=>List.getElem?_take_of_lt hj;have tl:(M'.take M.length).length = M.length:=by have:=h.len; rw [zRl]; omega
 obtain ⟨c,s,e1,e2,r⟩:=h.gen.ex;refine ⟨⟨⟨c,s,(tk n hn).trans e1,(tk k hk).trans e2,r⟩,g.ne,fun j u e=>?_⟩,by omega,fun j hj h1 h2=>(tk j hj).trans (h.fr j hj h1 h2)⟩;have hj:j < M.length:=by have:=(zQQ.mp e).1; omega
 rw [tk j hj] at e;rw [tl];exact h.wf0 g j u hj e
theorem Nw.get (h:Nw M M' n k) (e:M[j]? = some u) (h1:j ≠ n) (h2:j ≠ k):M'[j]? = some u :=
 (h.fr j (zQQ.mp e).1 h1 h2).trans e
theorem zE1 (hf:f σ M = some (.dat (.ref n),M)) (hM:M[n]? = some (gS k s)):fOp zAk f (fC (.str "great")) σ M = some (.dat (.ref k),M) /\ fOp zAk f (fC (.str "seed")) σ M = some (.dat (.int s),M):=by
 constructor
 ·refine zK hf rfl ?_;unfold zAk zDZ;dsimp only;rw [hM];rfl
 ·refine zK hf rfl ?_;unfold zAk zDZ;dsimp only;rw [hM];rfl
theorem zQJ (hM:M[n]? = some (gS k s)):zCh M n (.str "seed") (.int s') = some (M.set n (gS k s')):=by
 unfold zCh;rw [hM];dsimp only [zBQ];rw [zQc (show [(D.str (Str.ofString "great"),D.ref k),(D.str (Str.ofString "seed"),D.int s)].length < sizeLine from zY (n:=3) (by omega))];rfl
theorem zEc (h1:fv σ M = some (.dat v,M)) (h2:fo σ M = some (.dat (.ref n),M)) (h3:fi σ M = some (.dat k,M)) (h4:zCh M n k v = some M4) (q:P .nx σ M4):OkS (zC3 fv fo fi σ M) P:=by
 refine ⟨.nx,σ,M4,?_,q⟩;unfold zC3 toD;rw [h1]; dsimp only; rw [h2]; dsimp only; rw [h3]; dsimp only; rw [h4]
theorem zCK (h:0 < b):zB8 (.dat (.int a)) (.dat (.int b)) M = some (.dat (.int (a % b)),M):=zO (zM0.mpr ⟨h,rfl,rfl⟩)
theorem zKl (h:0 < b /\ b < 1073741824):zHa (.dat (.int a)) (.dat (.int b)) M = some (.dat (.int (a / b)),M):=zO (zMu.mpr ⟨h,rfl,rfl⟩)
theorem zIF {M:Mem} (h:Gen M n k) (h0:0 < m) (h1:m < 1073741824) :
  Ok (zP [.ref n,.int m] M) fun d M'=>(∃ i,d = .int i /\ 0 <= i /\ i < m) /\ Nw M M' n k /\ M'.length = M.length:=by
 unfold zP;rw [zAq];unfold zCo;obtain ⟨c,s,e1,e2,e3,e4,e5,e6⟩:=h.ex;obtain ⟨hn,hk⟩:=h.lt;rw [zG,zAT];have ne:Ok (tst (fOp kNe (fOp zAk (zC 0) (fC (.str "great"))) (zBa zJ)) [some (.ref n),some (.int m),none,none] M) fun b M'=>b = (!c.isEmpty) /\ M' = M:=by
  refine zEA.mpr (zAj.mpr (zE (zE1 rfl e1).1 (zCQ.mpr (zAt.mpr ⟨zQ9 _,?_⟩))));rw [zMc (zAD e2) (by intro d e; cases e; rfl)];rw [zEK];exact ⟨by simp,rfl⟩
 refine Ok.mono ne ?_;rintro b M' ⟨rfl,rfl⟩;cases c with
 | nil=>
  simp only [List.isEmpty_nil,Bool.not_true,Bool.false_eq_true,if_false];rw [zAC,zL,zG];have hs0:0 <= (s * 3935559000370003845 + 2691343689449507681) % 2305843009213693951:=Int.emod_nonneg _ (by decide);have hs1:(s * 3935559000370003845 + 2691343689449507681) % 2305843009213693951 < 2305843009213693951:=Int.emod_lt_of_pos _ (by decide);have ev:fOp zB8 (fOp zAb (fOp zEg (fOp zAk (zC 0) (fC (.str "seed"))) (fC (.int 3935559000370003845))) (fC (.int 2691343689449507681))) (fC (.int 2305843009213693951)) [some (.ref n),some (.int m),none,none] M' = some (.dat (.int ((s * 3935559000370003845 + 2691343689449507681) % 2305843009213693951)),M') :=
   zK (zK (zK (zE1 rfl e1).2 rfl (zO (zKm.mpr ⟨by simp [zJQ] <;> omega,rfl,rfl⟩))) rfl rfl) rfl (zCK (by decide))
  generalize (s * 3935559000370003845 + 2691343689449507681) % 2305843009213693951 = s' at hs0 hs1 ev;refine zEc ev rfl rfl (zQJ e1) ?_;rw [zL];have P:=h.put (c:=[]) (s:=s') (fun _ h=>by cases h) (by simp) hs0 hs1;rw [zGZ (show M'[k]? = some (.lst (([]:List Int).map D.int)) from e2)] at P;have e1':(M'.set n (gS k s'))[n]? = some (gS k s'):=zRH hn;refine zD5 (zK (zE1 rfl e1').2 rfl (zKl ⟨by decide,by decide⟩)) ?_;have hm0:0 <= s' / 65537:=Int.ediv_nonneg hs0 (by decide);have hm1:s' / 65537 < 2305843009213693951:=by omega
  refine zAn (zK (zK (zK (zK (x:=.dat (.int (s' / 65537))) (y:=.dat (.int (s' / 65537))) rfl rfl (zO (zKm.mpr ⟨by simp [zJQ] <;> omega,rfl,rfl⟩))) rfl (zCK (by decide))) rfl (zKl ⟨by decide,by decide⟩)) rfl (zCK h0)) ?_;exact ⟨⟨_,rfl,Int.emod_nonneg _ (by omega),Int.emod_lt_of_pos _ h0⟩,P,by simp⟩
 | cons x c=>
  simp only [List.isEmpty_cons,Bool.not_false,if_true];have hd:∀ {x:Int} {c:List Int} {M:Mem} {σ:Sd},zC 0 σ M = some (.dat (.ref n),M) -> M[n]? = some (gS k s) -> M[k]? = some (.lst ((x :: c).map D.int)) -> fOp kIx (fOp zAk (zC 0) (fC (.str "great"))) (fC (.int 0)) σ M = some (.dat (.int x),M):=fun {x c M σ} hf hM hK=>
   zK (zE1 hf hM).1 rfl (zAw (za hK) at0)
  refine zD5 (zK (hd rfl e1 e2) rfl (zCK h0)) ?_;rw [zG,zIX];refine zAj.mpr (zE (hd rfl e1 e2) (zq.mpr ⟨_,rfl,zMu.mpr ⟨⟨h0,h1⟩,?_⟩⟩));rw [zI];refine zE (zE1 rfl e1).1 (zDg.mpr ?_);rw [zI];refine ⟨_,zGw (k:=0) e2 (by simp),?_⟩;rw [zL,zG];have hx:=e3 x zQb;have hq:0 <= x / m:=Int.ediv_nonneg hx (by omega);have e2':(M'.set k (.lst (((x / m) :: c).map D.int)))[k]? = some (.lst (((x / m) :: c).map D.int)):=zRH hk;have e1':(M'.set k (.lst (((x / m) :: c).map D.int)))[n]? = some (gS k s):=by rw [zQr (Ne.symm h.ne)]; exact e1
  rw [zAT];refine zE (zAc (zK (hd rfl e1' e2') rfl (zO (zHP.mpr ⟨rfl,rfl⟩)))) ?_;have fin:∀ (c':List Int),(∀ y ∈ c',0 <= y) -> c'.length <= 63 -> Nw M' (M'.set k (.lst (c'.map D.int))) n k:=fun c' q1 q2=>by
   have P:=h.put (c:=c') (s:=s) q1 q2 e5 e6;rw [zGZ (k:=n) (by rw [zQr (Ne.symm h.ne)]; exact e1)] at P;exact P
  by_cases hz:x / m = 0
  ·rw [zQc (by simpa using hz),zBl];refine zGo.mpr (zE (zE1 rfl e1').1 ⟨⟨_,zAD e2'⟩,zAr.mpr (zAd.mpr (zDg.mpr (zI.mpr (zAt.mpr ?_))))⟩);rw [zQg] at e2' ⊢;rw [zNR e2',zL];refine zAn rfl ⟨⟨_,rfl,Int.emod_nonneg _ (by omega),Int.emod_lt_of_pos _ h0⟩,?_,by simp⟩;rw [List.set_set];exact fin c (fun y hy=>e3 y (zQa _ hy)) (by simp at e4; omega)
  ·rw [zQf (by simpa using hz),zAC,zL];refine zAn rfl ⟨⟨_,rfl,Int.emod_nonneg _ (by omega),Int.emod_lt_of_pos _ h0⟩,fin ((x / m) :: c) (fun y hy=>?_) (by simpa using e4),by simp⟩;rcases zQZ.mp hy with z | z
   ·subst z; exact hq
   ·exact e3 y (zQa _ z)
theorem zAI (h:Gen M n k) (ha:fa σ M = some (.dat (.ref n),M)) (hb:fb σ M = some (.dat (.int m),M)) (h0:0 < m) (h1:m < 1073741824)
  (q:∀ i M',0 <= i -> i < m -> Nw M M' n k -> M'.length = M.length -> P (.dat (.int i)) M'):Ok (zW zP (zD (toD fa) (zD (toD fb) zJ)) σ M) P:=by
 rw [zBF,zAr,zAd];refine ⟨_,_,ha,?_⟩;rw [zI,zAr,zAd];refine ⟨_,_,hb,?_⟩;rw [zI,zAt];refine Ok.mono (zIF h h0 h1) ?_;rintro d M' ⟨⟨i,rfl,i0,i1⟩,nx,hl⟩;exact q i M' i0 i1 nx hl
theorem zKk {ns:List Int} (h:ns.length <= 63):Ok (zA3 [.ref 0] [.fro (ns.map D.int)]) fun d M'=>d = .ref 1 /\ Gen M' 1 2 /\ M'[0]? = some (.fro (ns.map D.int)):=by
 unfold zA3;rw [zAq];unfold zCH;have e0:([.fro (ns.map D.int)]:Mem)[0]? = some (.fro (ns.map D.int)):=rfl;obtain ⟨cut,ec,lc⟩:=zKC ns none (some 63);have sl:∀ {σ:Sd} {us:Mem},σ[0]? = some (some (.ref 0)) -> fSl (zC 0) zAg (zr (fC (.int 63))) σ (.fro (ns.map D.int) :: us) = some (.fl (cut.map D.int),.fro (ns.map D.int) :: us):=fun {σ us} hσ=>by
  refine zO (zO4.mpr (zq.mpr ⟨_,hσ,zLE.mpr (zJ1.mpr (zDg.mpr (zKQ.mpr ?_)))⟩));rw [zN1 (zIK (xs:=ns.map D.int) rfl) rfl,ec]; exact ⟨rfl,rfl⟩
 refine zD5 rfl ?_;rw [zG,zA2];refine ⟨_,_,_,zAs (sl rfl) zBc,?_⟩;refine zAS (I:=fun r σ M=>M = [.fro (ns.map D.int)] /\ (∃ c:List Int,r = c.map D.int) /\ ∃ s y,σ = [some (.ref 0),some (.int s),y] /\ 0 <= s /\ s < 2305843009213693951) ?_ ?_ _ _ _ ⟨rfl,⟨cut,rfl⟩,_,none,rfl,by decide,by decide⟩
 ·rintro x r σ M ⟨rfl,⟨c,hc⟩,s,y,rfl,h0,h1⟩;obtain ⟨z,c',rfl,rfl,rfl⟩:=zAP hc;refine ⟨zo,_,rfl,?_⟩;rw [zR];refine zAj.mpr (zAj.mpr (zAj.mpr (zAj.mpr (zq.mpr ⟨_,rfl,zDg.mpr (zKm.mpr ⟨by simp [zJQ],?_⟩)⟩))));refine zq.mpr ⟨_,rfl,zEb.mpr (zDg.mpr (zEb.mpr (zDg.mpr (zM0.mpr ⟨by decide,?_⟩))))⟩;rw [zI];exact ⟨rfl,⟨c',rfl⟩,_,_,rfl,Int.emod_nonneg _ (by decide),Int.emod_lt_of_pos _ (by decide)⟩
 ·rintro σ M ⟨rfl,_,s,y,rfl,h0,h1⟩;refine ⟨zo,?_⟩;rw [zL,zBW];have cp:Ok (zk [2] (zAY (fSl (zC 0) zAg (zr (fC (.int 63))))) (gN 2) (tst (fOp kGe (zC 2) (fOp zJW (fC (.int 10)) (fC (.int 18))))) (zC 2) [some (.ref 0),some (.int s),y] [.fro (ns.map D.int),.dict []]) fun x M=>M = [.fro (ns.map D.int),.dict []] /\ ∃ b:List Int,x = .fl (b.map D.int) /\ b.length <= 63 /\ ∀ x ∈ b,0 <= x:=by
   rw [zCb];refine ⟨_,_,_,zAs (sl rfl) zBc,by rw [zQW]; exact zY (by omega),?_⟩;refine Ok.mono (zBH (I:=fun r acc M=>M = [.fro (ns.map D.int),.dict []] /\ (∃ c:List Int,r = c.map D.int) /\ r.length + acc.length <= 63 /\ ∃ b:List Int,acc = b.map D.int /\ ∀ x ∈ b,0 <= x) (Q:=fun acc M=>M = [.fro (ns.map D.int),.dict []] /\ acc.length <= 63 /\ ∃ b:List Int,acc = b.map D.int /\ ∀ x ∈ b,0 <= x) ?_ ?_ _ [] _ ⟨rfl,⟨cut,rfl⟩,by simp; omega,[],rfl,fun _ h=>by cases h⟩) ?_
   ·rintro x r acc M ⟨rfl,⟨c,hc⟩,hl,b,rfl,hb⟩;obtain ⟨z,c',rfl,rfl,rfl⟩:=zAP hc;refine ⟨zo,_,rfl,?_⟩;refine zEA.mpr (zAj.mpr (zq.mpr ⟨_,rfl,zAj.mpr (zDg.mpr (zDg.mpr (zPF.mpr ⟨by decide,zP7.mpr (zEK.mpr ?_)⟩)))⟩));by_cases hz:(10:Int) ^ (18:Int).toNat <= z
    ·rw [zQc (by simpa using hz)];have big:(0:Int) <= 10 ^ (18:Int).toNat:=by decide
     refine zq.mpr ⟨_,rfl,zI.mpr ⟨rfl,⟨c',rfl⟩,?_,b ++ [z],by simp,?_⟩⟩
     ·simp at hl ⊢; omega
     ·intro y hy;rcases zQn.mp hy with q | q
      ·exact hb y q
      ·have:y = z:=by simpa using q
       rw [this]; exact Int.le_trans big hz
    ·rw [zQf (by simpa using hz)];exact ⟨rfl,⟨c',rfl⟩,by simp at hl ⊢; omega,b,rfl,hb⟩
   ·rintro acc M ⟨rfl,_,hl,hb⟩;exact ⟨zo,rfl,by simpa using hl,hb⟩
   ·rintro ys M ⟨rfl,hl,b,hb,hp⟩;rw [List.nil_append] at hb hl;subst hb;exact ⟨rfl,b,rfl,by simpa using hl,hp⟩
  obtain ⟨x,M1,ex,rfl,b,rfl,hl,hb⟩:=cp;refine zE (M:=[.fro (ns.map D.int),gS 2 s,.lst (b.map D.int)]) (a:=.dat (.ref 1)) ?_ ?_
  ·unfold zFz;have e1:toD (zk [2] (zAY (fSl (zC 0) zAg (zr (fC (.int 63))))) (gN 2) (tst (fOp kGe (zC 2) (fOp zJW (fC (.int 10)) (fC (.int 18))))) (zC 2)) [some (.ref 0),some (.int s),y] ([.fro (ns.map D.int)] ++ [.dict []]) = some (.ref 2,[.fro (ns.map D.int),.dict [],.lst (b.map D.int)]):=by
    unfold toD;rw [show ([.fro (ns.map D.int)] ++ [.dict []]:Mem) = [.fro (ns.map D.int),.dict []] from rfl,ex];rfl
   rw [e1];rfl
  ·rw [zI];refine ⟨rfl,⟨⟨b,s,rfl,rfl,hb,hl,h0,h1⟩,by decide,?_⟩,rfl⟩;intro j u e;match j,e with
   | 0,e=>cases e; exact zV _ _
   | 1,e=>cases e; rfl
   | 2,e=>cases e; exact zV _ _
   | j + 3,e=>simp at e
noncomputable def zCC:FS:=(zT (zp 3 (zk [4] (zAL (zD (toD (zC 1)) zJ)) (gN 4) zt (zW zP (zD (toD (zC 0)) (zD (toD (zC 1)) zJ)))))
  (zT (zIt (zBU 5 6) (zBf (zD (toD (fOp kIx (zC 3) (fC (.int 0)))) (zD (toD (fOp kIx (zC 3) (zL6 (fC (.int 1))))) zJ))))
  (zT (sIf (tst (fOp kEq (zC 2) (fC (.int 0)))) (zAi (zC 3)) zAl)
  (zT (sIf (tst (fOp kEq (zC 2) (fC (.int 5)))) (zAi (fOp zCf (zBa (zD (toD (zC 5)) zJ)) (zC 1))) zAl)
  (zT (sIf (tst (fOp kEq (zC 2) (fC (.int 6)))) (zAi (zk [4,7] (zDY (zC 3)) (zBU 4 7) zt (vIf (tst (fOp kLe (zC 4) (zC 5))) (fOp zB8 (zC 7) (fOp zAb (zC 5) (fC (.int 1)))) (fOp zAb (fOp zAb (zC 5) (fC (.int 1))) (fOp zB8 (zC 7) (fOp zHJ (fOp zHJ (zC 1) (zC 5)) (fC (.int 1)))))))) zAl)
  (zT (zp 8 (zCE (zC 1)))
  (zT (sIf (tst (fOp kEq (zC 2) (fC (.int 3)))) (zAi (fOp zDb (fSl (zC 8) (zr (fC (.int 1))) zAg) (fSl (zC 8) zAg (zr (fC (.int 1)))))) zAl)
  (zT (sIf (tst (fOp kLt (zC 2) (fC (.int 3)))) (zT (zp 9 (zCE (zC 1)))
  (zp 8 (zk [7] (zAY (zC 3)) (gN 7) zt (fM zEu (zC 9) (zD (toD (fOp zB8 (zC 7) (fB zAO (zN (zC 9) zc)))) zJ))))) zAl)
  (zT (sIf (tst (fOp (kIn false) (zC 2) (zBf (zD (toD (fC (.int 2))) (zD (toD (fC (.int 4))) zJ))))) (zHQ (fOp kIx (zC 8) (zC 6)) (zC 8) (zC 5)) zAl)
  (zAi (zC 8)))))))))))
noncomputable def zv:FF:=zCe 10 zCC
noncomputable def zBZ:FS:=(zT (zp 3 (fOp zAb (fC (.int 1)) (zW zP (zD (toD (zC 0)) (zD (toD (fOp kIx (zBa (zD (toD (fC (.int 3))) (zD (toD (fC (.int 7))) (zD (toD (zC 1)) zJ)))) (zW zP (zD (toD (zC 0)) (zD (toD (fC (.int 3))) zJ))))) zJ)))))
  (zT (zp 4 (fOp zAb (fC (.int 1)) (zW zP (zD (toD (zC 0)) (zD (toD (zC 2)) zJ)))))
  (zT (zp 5 (zW zP (zD (toD (zC 0)) (zD (toD (fC (.int 10))) zJ))))
  (zT (zp 6 (zBa zJ))
  (zT (zBs (zAL (zD (toD (zC 4)) zJ)) (gN 7) (zT (zp 8 (fOp kIx (zBa (zD (toD (fC (.int 3))) (zD (toD (fC (.int 4))) zJ))) (fOp zB8 (zC 7) (fC (.int 2)))))
  (zT (sIf (tst (fOp kLt (zC 5) (fC (.int 7)))) (zp 8 (zC 5)) zAl)
  (zT (sIf (tst (fOp kEq (zC 5) (fC (.int 9)))) (zp 8 (zW zP (zD (toD (zC 0)) (zD (toD (fC (.int 7))) zJ)))) zAl)
  (zBL (fM zAB (zC 6) (zD (toD (zW zv (zD (toD (zC 0)) (zD (toD (zC 3)) (zD (toD (zC 8)) zJ))))) zJ)))))))
  (zT (sIf (tst (fOp kEq (zC 5) (fC (.int 8)))) (zp 6 (fOp zCf (fSl (zC 6) zAg (zr (fC (.int 1)))) (zC 4))) zAl)
  (zAi (fB zx (zN (zk [10] (zAL (zD (toD (zC 3)) zJ)) (gN 10) zt (fB zx (zN (zk [9] (zAY (zC 6)) (gN 9) zt (fOp kIx (zC 9) (zC 10))) zc))) zc)))))))))
noncomputable def zAQ:FF:=zEC (zCe 11 zBZ)
def Col (many:Int) (c:List Int):Prop:=(c.length:Int) = many /\ ∀ x ∈ c,0 <= x /\ x < many
theorem zGh (h:Gen M n k) (h0:0 < few) (h1:few < 1073741824) (m0:0 <= many) (m1:many <= 90000)
  (hf:f σ M = some (.dat (.int many),M)) (ha:∀ (x:D) (M:Mem),fa ((zGC own σ).set i (some x)) M = some (.dat (.ref n),M)) (hb:∀ (x:D) (M:Mem),fb ((zGC own σ).set i (some x)) M = some (.dat (.int few),M)) :
  Ok (zk own (zAL (zD (toD f) zJ)) (gN i) zt (zW zP (zD (toD fa) (zD (toD fb) zJ))) σ M) fun x M'=>(∃ c:List Int,x = .fl (c.map D.int) /\ (c.length:Int) = many /\ ∀ y ∈ c,0 <= y /\ y < few) /\ Nw M M' n k /\ M'.length = M.length:=by
 refine zCb.mpr ⟨_,_,_,zCI hf m0 (by omega),by rw [zA1]; exact zY (by omega),?_⟩;refine Ok.mono (zKb (n:=many.toNat) (I:=fun j acc M2=>(∃ c:List Int,acc = c.map D.int /\ c.length = j /\ ∀ y ∈ c,0 <= y /\ y < few) /\ Nw M M2 n k /\ M2.length = M.length) ?_ ⟨⟨[],rfl,rfl,fun _ h=>by cases h⟩,Nw.refl h,rfl⟩) ?_
 ·rintro j acc M2 hj ⟨⟨c,rfl,hcl,hc⟩,nw,hl⟩;refine ⟨_,rfl,?_⟩;refine zAI nw.gen (ha _ _) (hb _ _) h0 h1 fun g M3 g0 g1 nw3 hl3=>?_;rw [zI];refine ⟨⟨c ++ [g],by simp,by simp [hcl],fun z hz=>?_⟩,nw.trans nw3,by omega⟩;rcases zQn.mp hz with q | q
  ·exact hc z q
  ·have:z = g:=by simpa using q
   subst this; exact ⟨g0,g1⟩
 ·rintro ys M2 ⟨⟨c,rfl,hcl,hc⟩,nw,hl⟩;exact ⟨⟨c,rfl,by omega,hc⟩,nw,hl⟩
theorem zFs (j:Nat):upD j = ((List.range j).map fun (k:Nat)=>(k:Int)).map D.int:=by
 unfold upD; rw [zQl]; rfl
theorem zOF (h:0 <= many):Col many ((List.range many.toNat).map fun (k:Nat)=>(k:Int)):=by
 refine ⟨by simp; omega,fun x hx=>?_⟩;obtain ⟨k,hk,rfl⟩:=zQe.mp hx;have:=zQ1.mp hk;omega
theorem zf (h:P (.ref M.length) (M ++ [.lst xs])):zD7 P (.fl xs) M:=h
theorem zd (A:Mem) (u:MO):(A ++ [u])[A.length]? = some u:=by simp
theorem zJv (h:Col many c) (hj:j < c.length):Col many (c.set i (c.getD j 0)):=by
 refine ⟨by rw [List.length_set]; exact h.1,fun x hx=>?_⟩;rcases List.mem_or_eq_of_mem_set hx with q | q
 ·exact h.2 x q
 ·rw [q,zQS,zQR hj]; exact h.2 _ (zQv hj)
theorem zF3 (h:Col many c) (hj:j < c.length):0 <= c.getD j 0 /\ c.getD j 0 < many:=by
 rw [zQS,zQR hj]; exact h.2 _ (zQv hj)
theorem zCu (xs:List Int) (i:Nat):(xs.eraseIdx i).map D.int = (xs.map D.int).eraseIdx i:=by
 induction xs generalizing i with
 | nil=>rfl
 | cons x r ih=>
  cases i with
  | zero=>rfl
  | succ i=>simp [ih]
theorem zE9:L3.zBw xs none (some 1) = xs.take 1:=by
 have s:HT.sIx xs.length xs.length (some 1) = min 1 xs.length:=HT.zDs xs.length xs.length 1;have z:HT.sIx xs.length 0 none = 0:=rfl;unfold L3.zBw;rw [s,z];simp only [List.drop_zero,Nat.sub_zero];cases xs with
 | nil=>rfl
 | cons a r=>simp
theorem slL {f:FE} {fl fh:FO} {σ:Sd} {M:Mem} {x:EV} {xs:List D} {lo hi:Option Int} (hf:f σ M = some (x,M)) (ht:zBD x = none) (hx:zAZ M x = some xs) (hl:fl σ M = some (lo,M)) (hh:fh σ M = some (hi,M)):fSl f fl fh σ M = some (.fl (L3.zBw xs lo hi),M):=by
 unfold fSl; rw [hf]; dsimp only; rw [hl]; dsimp only; rw [hh]; dsimp only; unfold kSl; rw [ht]; dsimp only; rw [hx]
theorem zIy {M:Mem} {n k:Nat} (h:Gen M n k) {many way:Int} (m0:0 < many) (m1:many <= 1000) :
  Ok (zv [.ref n,.int many,.int way] M) fun d M'=>∃ j c,d = .ref j /\ M'[j]? = some (.lst (c.map D.int)) /\ Col many c /\ M.length <= j /\ Nw M M' n k:=by
 obtain ⟨hn,hk⟩:=h.lt;unfold zv;rw [zAq];unfold zCC;rw [zG,zR];refine Ok.mono (zGh h m0 (by omega) (by omega) (by omega) rfl (fun _ _=>rfl) (fun _ _=>rfl)) ?_;rintro x M1 ⟨⟨c,rfl,hcl,hc⟩,nw1,hl1⟩;refine zf ?_;rw [zL];have nw2:=nw1.trans (nw1.gen.lst (c.map D.int) (zV _ _));have e3:(M1 ++ [MO.lst (c.map D.int)])[M1.length]? = some (.lst (c.map D.int)):=zd _ _;generalize hM2:M1 ++ [MO.lst (c.map D.int)] = M2 at nw2 e3;have hj3:M.length <= M1.length:=nw1.len;generalize hj:M1.length = j3 at e3 hj3;have cl:c.length = many.toNat:=by omega
 have cc:Col many c:=⟨hcl,hc⟩;have hfst:atI (c.map D.int) 0 = some (.int (c.getD 0 0)):=zB0 (by decide) (by omega);have hlst:atI (c.map D.int) (-1) = some (.int (c.getD (c.length - 1) 0)):=by
  have hne:c ≠ []:=by intro e; rw [e] at cl; simp at cl; omega
  have e:=(List.dropLast_concat_getLast hne).symm;have eg:c.getD (c.length - 1) 0 = c.getLast hne:=by
   rw [zQS,zQR (by omega),List.getLast_eq_getElem]; rfl
  rw [eg];generalize c.getLast hne = z at e;rw [e,zRF]; exact L2.zKN _ _
 obtain ⟨o0,o1⟩:=zF3 cc (j:=0) (by omega);obtain ⟨p0,p1⟩:=zF3 cc (j:=c.length - 1) (by omega);generalize c.getD 0 0 = one at hfst o0 o1;generalize c.getD (c.length - 1) 0 = oth at hlst p0 p1;rw [zG,zIE];have etup:zBf (zD (toD (fOp kIx (zC 3) (fC (.int 0)))) (zD (toD (fOp kIx (zC 3) (zL6 (fC (.int 1))))) zJ)) [some (.ref n),some (.int many),some (.int way),some (.ref j3),none,none,none,none,none,none] M2 = some (.dat (.tup [.int one,.int oth]),M2):=by
  unfold zBf;rw [zAM (zK rfl rfl (zAw (za e3) hfst)) (zAH (zK (y:=.dat (.int (-1))) rfl rfl (zAw (za e3) hlst)))];dsimp only;rw [zQc (zY (by simp))]
 refine zE etup ?_;rw [zI];refine ⟨_,rfl,?_⟩;rw [zL];have isw:∀ (j:Int) (σ:Sd) (M:Mem),σ[2]? = some (some (.int way)) -> tst (fOp kEq (zC 2) (fC (.int j))) σ M = some (decide (way = j),M):=fun j σ M e=>by
  have v4:zC 2 σ M = some (.dat (.int way),M):=by unfold zC; rw [e]
  exact zAc (zK v4 rfl (zO (zHP.mpr ⟨rfl,rfl⟩)))
 have new:∀ (A:Mem) (c':List Int),Nw M A n k -> Col many c' -> ∃ j c,D.ref A.length = D.ref j /\ (A ++ [MO.lst (c'.map D.int)])[j]? = some (.lst (c.map D.int)) /\ Col many c /\ M.length <= j /\ Nw M (A ++ [MO.lst (c'.map D.int)]) n k:=fun A c' nw hc'=>
  ⟨A.length,c',rfl,zd _ _,hc',nw.len,nw.trans (nw.gen.lst _ (zV _ _))⟩
 rw [zG,zAT];refine zE (isw 0 _ _ rfl) ?_;by_cases w0:way = 0
 ·rw [zQc (by simpa using w0)];exact zAn rfl ⟨j3,c,rfl,e3,cc,hj3,nw2⟩
 rw [zQf (by simpa using w0),zAC,zL,zG,zAT];refine zE (isw 5 _ _ rfl) ?_;by_cases w5:way = 5
 ·rw [zQc (by simpa using w5),zBW];refine zAj.mpr (zCQ.mpr (zAr.mpr (zAd.mpr (zq.mpr ⟨_,rfl,zI.mpr (zAt.mpr ⟨zY (by simp),zq.mpr ⟨_,rfl,?_⟩⟩)⟩))));have er:zCf (.fl [.int one]) (.dat (.int many)) M2 = some (.fl ((List.replicate many.toNat one).map D.int),M2):=by
   unfold zCf;dsimp only [zBD,zFr];rw [zQc ⟨by omega,by omega,zY (by simp; omega)⟩];have:(List.replicate many.toNat [D.int one]).flatten = (List.replicate many.toNat one).map D.int:=by
    rw [List.map_replicate];generalize many.toNat = q;induction q with
    | zero=>rfl
    | succ q ih=>rw [zRg,zSM,ih,zRg]; rfl
   rw [this]
  refine zE er (zf ?_);rw [zF8];refine new M2 _ nw2 ⟨by simp; omega,fun x hx=>?_⟩;rw [(List.mem_replicate.mp hx).2]; exact ⟨o0,o1⟩
 rw [zQf (by simpa using w5),zAC,zL,zG,zAT];refine zE (isw 6 _ _ rfl) ?_;by_cases w6:way = 6
 ·rw [zQc (by simpa using w6),zBW];have hen:zDY (zC 3) [some (.ref n),some (.int many),some (.int way),some (.ref j3),none,some (.int one),some (.int oth),none,none,none] M2 = some (((List.range c.length).zip c).map fun q=>D.tup [.int (q.1:Nat),.int q.2],zHy (.dat (.ref j3)) (c.map D.int),M2):=by
   unfold zDY;rw [show zC 3 [some (.ref n),some (.int many),some (.int way),some (.ref j3),none,some (.int one),some (.int oth),none,none,none] M2 = some (.dat (.ref j3),M2) from rfl];dsimp only;rw [za e3];dsimp only;unfold zFt;rw [zQW,List.zip_map_right,zQl];rfl
  have step:∀ q ∈ (List.range c.length).zip c,(0 <= (if (q.1:Int) <= one then q.2 % (one + 1) else one + 1 + q.2 % (many - one - 1)) /\ (if (q.1:Int) <= one then q.2 % (one + 1) else one + 1 + q.2 % (many - one - 1)) < many) /\ (one < (q.1:Int) -> 0 < many - one - 1):=by
   intro q hq;have hq1:=zQ1.mp (List.of_mem_zip hq).1;by_cases hle:(q.1:Int) <= one
   ·rw [zQc hle];have:=Int.emod_nonneg q.2 (show one + 1 ≠ 0 by omega);have:=Int.emod_lt_of_pos q.2 (show 0 < one + 1 by omega);omega
   ·rw [zQf hle];have h1:0 < many - one - 1:=by omega
    have:=Int.emod_nonneg q.2 (show many - one - 1 ≠ 0 by omega);have:=Int.emod_lt_of_pos q.2 h1;omega
  have ec:=zAF (own:=[4,7]) (g:=zBU 4 7) (te:=vIf (tst (fOp kLe (zC 4) (zC 5))) (fOp zB8 (zC 7) (fOp zAb (zC 5) (fC (.int 1)))) (fOp zAb (fOp zAb (zC 5) (fC (.int 1))) (fOp zB8 (zC 7) (fOp zHJ (fOp zHJ (zC 1) (zC 5)) (fC (.int 1)))))) ((List.range c.length).zip c) (fun q=>D.tup [.int (q.1:Nat),.int q.2]) (fun q=> .int (if (q.1:Int) <= one then q.2 % (one + 1) else one + 1 + q.2 % (many - one - 1))) hen ?_ ?_ ?_
  ·refine zE ec (zf ?_);rw [zF8,show (fun q:Nat × Int=>D.int (if (q.1:Int) <= one then q.2 % (one + 1) else one + 1 + q.2 % (many - one - 1))) = D.int ∘ (fun q:Nat × Int=>(if (q.1:Int) <= one then q.2 % (one + 1) else one + 1 + q.2 % (many - one - 1))) from rfl,<- zQl];refine new M2 _ nw2 ⟨by simp; omega,fun x hx=>?_⟩;obtain ⟨q,hq,rfl⟩:=zQe.mp hx;exact (step q hq).1
  ·exact .inl e3
  ·simp; omega
  ·intro q hq;refine ⟨_,rfl,?_⟩;have hs:=step q hq;unfold vIf;have ht:tst (fOp kLe (zC 4) (zC 5)) [some (.ref n),some (.int many),some (.int way),some (.ref j3),some (.int (q.1:Nat)),some (.int one),some (.int oth),some (.int q.2),none,none] M2 = some (decide ((q.1:Int) <= one),M2):=zAc (zK rfl rfl (zO (zPx.mpr ⟨rfl,rfl⟩)));show (match tst (fOp kLe (zC 4) (zC 5)) [some (.ref n),some (.int many),some (.int way),some (.ref j3),some (.int (q.1:Nat)),some (.int one),some (.int oth),some (.int q.2),none,none] M2 with | some (true,M1)=>_ | some (false,M1)=>_ | none=>none) = _;rw [ht];by_cases hle:(q.1:Int) <= one
   ·rw [decide_eq_true hle,zQc hle];exact zK (x:=.dat (.int q.2)) (y:=.dat (.int (one + 1))) rfl rfl (zCK (by omega))
   ·rw [zQw hle,zQf hle];exact zK (x:=.dat (.int (one + 1))) rfl (zK (x:=.dat (.int q.2)) (y:=.dat (.int (many - one - 1))) rfl rfl (zCK (hs.2 (by omega)))) rfl
 rw [zQf (by simpa using w6),zAC,zL,zG,zR];have elr:∀ {σ:Sd} {A:Mem},σ[1]? = some (some (.int many)) -> zCE (zC 1) σ A = some (.fl (((List.range many.toNat).map fun (k:Nat)=>(k:Int)).map D.int),A):=fun {σ A} e=>by
  unfold zCE zC;rw [e];dsimp only;rw [zQc ⟨by omega,by omega⟩,zFs]
 refine zE (elr rfl) (zf ?_);rw [zL];have nw4:=nw2.trans (nw2.gen.lst (((List.range many.toNat).map fun (k:Nat)=>(k:Int)).map D.int) (zV _ _));have e8:(M2 ++ [MO.lst (((List.range many.toNat).map fun (k:Nat)=>(k:Int)).map D.int)])[M2.length]? = some (.lst (((List.range many.toNat).map fun (k:Nat)=>(k:Int)).map D.int)):=zd _ _;have e3':(M2 ++ [MO.lst (((List.range many.toNat).map fun (k:Nat)=>(k:Int)).map D.int)])[j3]? = some (.lst (c.map D.int)):=by
  rw [zQU (zQQ.mp e3).1]; exact e3
 have hj8:M.length <= M2.length:=nw2.len;have hj38:j3 < M2.length:=(zQQ.mp e3).1;generalize hM4:M2 ++ [MO.lst (((List.range many.toNat).map fun (k:Nat)=>(k:Int)).map D.int)] = M4 at nw4 e8 e3';generalize hj8':M2.length = j8 at e8 hj8 hj38;have cu:=zOF (many:=many) (by omega);generalize hup:((List.range many.toNat).map fun (k:Nat)=>(k:Int)) = up at e8 cu elr;rw [zG,zAT];refine zE (isw 3 _ _ rfl) ?_;by_cases w3:way = 3
 ·rw [zQc (by simpa using w3),zBW];have s1:=slL (f:=zC 8) (fl:=zr (fC (.int 1))) (fh:=zAg) (σ:=[some (.ref n),some (.int many),some (.int way),some (.ref j3),none,some (.int one),some (.int oth),none,some (.ref j8),none]) rfl rfl (zAD e8) (oS (i:=1) rfl) rfl;have s2:=slL (f:=zC 8) (fl:=zAg) (fh:=zr (fC (.int 1))) (σ:=[some (.ref n),some (.int many),some (.int way),some (.ref j3),none,some (.int one),some (.int oth),none,some (.ref j8),none]) rfl rfl (zAD e8) rfl (oS (i:=1) rfl);have hul:up.length = many.toNat:=by have:=cu.1; omega
  rw [zJZ (by decide) (by rw [zQW]; omega)] at s1;rw [zE9] at s2;refine zAj.mpr (zE s1 (zE s2 (zHe rfl rfl (by simp; omega) (zf ?_))));rw [zF8,show (1:Int).toNat = 1 from rfl,<- List.map_drop,<- List.map_take,<- zRF];refine new M4 _ nw4 ⟨by simp; omega,fun x hx=>?_⟩;rcases zQn.mp hx with q | q
  ·exact cu.2 x (List.mem_of_mem_drop q)
  ·exact cu.2 x (List.mem_of_mem_take q)
 rw [zQf (by simpa using w3),zAC,zL,zG]
 have tail:∀ (y7 y9:Option D) (A:Mem) (j:Nat) (c':List Int),Nw M A n k -> M.length <= j -> A[j]? = some (.lst (c'.map D.int)) -> Col many c' ->
   OkS (zT (sIf (tst (fOp (kIn false) (zC 2) (zBf (zD (toD (fC (.int 2))) (zD (toD (fC (.int 4))) zJ))))) (zHQ (fOp kIx (zC 8) (zC 6)) (zC 8) (zC 5)) zAl) (zAi (zC 8)) [some (.ref n),some (.int many),some (.int way),some (.ref j3),none,some (.int one),some (.int oth),y7,some (.ref j),y9] A) fun o x M1=>match o with | .ret d=>∃ j c,d = .ref j /\ M1[j]? = some (.lst (c.map D.int)) /\ Col many c /\ M.length <= j /\ Nw M M1 n k | .nx=>∃ j c,D.non = .ref j /\ M1[j]? = some (.lst (c.map D.int)) /\ Col many c /\ M.length <= j /\ Nw M M1 n k | _=>False:=by
  intro y7 y9 A j c' nw hj ej hc';rw [zG,zAT];have hin:tst (fOp (kIn false) (zC 2) (zBf (zD (toD (fC (.int 2))) (zD (toD (fC (.int 4))) zJ)))) [some (.ref n),some (.int many),some (.int way),some (.ref j3),none,some (.int one),some (.int oth),y7,some (.ref j),y9] A = some ([2,4].any fun y:Int=>decide (y = way),A):=by
   refine zAc (zK (x:=.dat (.int way)) (y:=.dat (.tup [.int 2,.int 4])) rfl ?_ rfl);unfold zBf;rw [zAM (d:=.int 2) rfl (zAH (d:=.int 4) rfl)];dsimp only;rw [zQc (zY (by simp))]
  refine zE hin ?_;have hcl':c'.length = many.toNat:=by have:=hc'.1; omega
  by_cases hb:([2,4].any fun y:Int=>decide (y = way)) = true
  ·rw [zQc hb,zIX];refine zE (zK (x:=.dat (.ref j)) (y:=.dat (.int oth)) rfl rfl (zAw (za ej) (zB0 p0 (by omega)))) ?_;rw [zI];refine zq.mpr ⟨_,rfl,zq.mpr ⟨_,rfl,?_⟩⟩;rw [zI];have eo:one = ((one.toNat:Nat):Int):=by omega
   refine ⟨A.set j (.lst ((c'.map D.int).set one.toNat (.int (c'.getD oth.toNat 0)))),?_,?_⟩
   ·have:=zGw (k:=one.toNat) (d:=.int (c'.getD oth.toNat 0)) ej (by rw [zQW]; omega);rw [<- eo] at this; exact this
   rw [zL];have hlj:j < A.length:=(zQQ.mp ej).1;refine zAn rfl ⟨j,c'.set one.toNat (c'.getD oth.toNat 0),rfl,?_,zJv hc' (by omega),hj,?_⟩
   ·rw [zRH hlj,List.map_set]
   ·refine nw.setB h hj ?_;rw [<- List.map_set]; exact zV _ _
  ·rw [zQf hb,zAC,zL];exact zAn rfl ⟨j,c',rfl,ej,hc',hj,nw⟩
 rw [zAT];refine zE (M:=M4) (a:=decide (way < 3)) (zAc (zK (x:=.dat (.int way)) rfl rfl (zO (zNc.mpr ⟨rfl,rfl⟩)))) ?_;by_cases wl:way < 3
 ·rw [zQc (by simpa using wl),zG,zR];refine zE (elr rfl) (zf ?_);rw [zL,zR];have nw5:=nw4.trans (nw4.gen.lst (up.map D.int) (zV _ _));have e9:(M4 ++ [MO.lst (up.map D.int)])[M4.length]? = some (.lst (up.map D.int)):=zd _ _;have e3'':(M4 ++ [MO.lst (up.map D.int)])[j3]? = some (.lst (c.map D.int)):=by
   rw [zQU (zQQ.mp e3').1]; exact e3'
  have hj9:M.length <= M4.length:=nw4.len;have hj39:j3 < M4.length:=(zQQ.mp e3').1;generalize hM5:M4 ++ [MO.lst (up.map D.int)] = M5 at nw5 e9 e3'';generalize hj9':M4.length = j9 at e9 hj9 hj39;have hul:up.length = many.toNat:=by have:=cu.1; omega
  refine zCb.mpr ⟨_,_,_,zAs (x:=.dat (.ref j3)) rfl (za e3''),by rw [zQW]; exact zY (by omega),?_⟩
  refine Ok.mono (zBH (I:=fun r acc M'=>∃ (r' a left:List Int),r = r'.map D.int /\ acc = a.map D.int /\ (a.length + r'.length:Nat) = many.toNat /\ (∀ x ∈ a,0 <= x /\ x < many) /\ left.length = r'.length /\ (∀ x ∈ left,0 <= x /\ x < many) /\ M'[j9]? = some (.lst (left.map D.int)) /\ M'[j3]? = some (.lst (c.map D.int)) /\ (∀ x ∈ r',0 <= x) /\ Nw M M' n k)
   (Q:=fun acc M'=>∃ a:List Int,acc = a.map D.int /\ Col many a /\ Nw M M' n k) ?_ ?_ _ [] _ ⟨c,[],up,rfl,rfl,by simp; omega,(fun _ h=>by cases h),by omega,cu.2,e9,e3'',(fun x hx=>(hc x hx).1),nw5⟩) ?_
  ·rintro x r acc M' ⟨r',a,left,hr,rfl,hal,ha,hll,hlf,e9',e3s,hr0,nw⟩;obtain ⟨g,r'',rfl,rfl,rfl⟩:=zAP hr;refine ⟨.inl e3s,_,rfl,zD6.mpr ?_⟩;rw [zQc rfl];have hg0:=hr0 g zQb;have hlen0:0 < left.length:=by rw [hll]; simp
   have hz:left.length <= 1000:=by rw [hll]; omega
   have ei:fOp zB8 (zC 7) (fB zAO (zN (zC 9) zc)) [some (.ref n),some (.int many),some (.int way),some (.ref j3),none,some (.int one),some (.int oth),some (.int g),some (.ref j8),some (.ref j9)] M' = some (.dat (.int ((g.toNat % left.length:Nat):Int)),M'):=by
    have:=zBm (f:=zC 9) (σ:=[some (.ref n),some (.int many),some (.int way),some (.ref j3),none,some (.int one),some (.int oth),some (.int g),some (.ref j8),some (.ref j9)]) (M:=M') rfl (za e9');rw [zQW] at this;refine zK (x:=.dat (.int g)) rfl this ?_;rw [zCK (by omega)];rw [show ((g.toNat % left.length:Nat):Int) = g % left.length by rw [Int.natCast_emod,Int.toNat_of_nonneg hg0]]
   have hlt:g.toNat % left.length < left.length:=Nat.mod_lt _ hlen0;refine zGo.mpr (zq.mpr ⟨_,rfl,⟨_,zAD e9'⟩,zE (zAH ei) ?_⟩);have hget:(left.map D.int)[g.toNat % left.length]? = some (.int (left[g.toNat % left.length])):=by
    rw [zQk,zQR hlt]; rfl
   refine zNQ e9' hget (by omega) ?_;rw [zI];have hl9:j9 < M'.length:=(zQQ.mp e9').1;refine ⟨r'',a ++ [left[g.toNat % left.length]],left.eraseIdx (g.toNat % left.length),rfl,by simp,by simp at hal ⊢; omega,fun x hx=>?_,?_,fun x hx=>hlf x (List.mem_of_mem_eraseIdx hx),?_,?_,fun x hx=>hr0 x (zQa _ hx),?_⟩
   ·rcases zQn.mp hx with q | q
    ·exact ha x q
    ·have:x = left[g.toNat % left.length]:=by simpa using q
     rw [this]; exact hlf _ (zQv hlt)
   ·rw [List.length_eraseIdx_of_lt hlt,hll]; simp
   ·rw [zRH hl9,zCu]
   ·rw [zQr (by omega)]; exact e3s
   ·refine nw.setB h hj9 ?_;rw [<- zCu]; exact zV _ _
  ·rintro acc M' ⟨r',a,left,hr,rfl,hal,ha,hll,hlf,e9',e3s,hr0,nw⟩;have:r' = []:=by cases r' with | nil=>rfl | cons _ _=>cases hr
   subst this;exact ⟨.inl e3s,a,rfl,⟨by simp at hal; omega,ha⟩,nw⟩
  ·rintro ys M' ⟨a,ea,hca,nw⟩;rw [List.nil_append] at ea;subst ea;refine zf ?_;rw [zL];exact tail _ _ _ M'.length a (nw.trans (nw.gen.lst _ (zV _ _))) nw.len (zd _ _) hca
 ·rw [zQf (by simpa using wl),zAC,zL];exact tail _ _ M4 j8 up nw4 hj8 e8 cu
def zCB (many:Int) (cs:List (List Int)):List (List Int):=(List.range many.toNat).map fun r=>cs.map fun c=>c.getD r 0
theorem zJJ (h0:0 < many) (hc:∀ c ∈ cs,Col many c) (hl:0 < cs.length):IsM (zCB many cs) cs.length:=by
 have hlen:(zCB many cs).length = many.toNat:=by unfold zCB; simp
 refine ⟨by omega,hl,fun r hr=>?_⟩;rw [hlen];unfold zCB at hr;obtain ⟨k,hk,rfl⟩:=zQe.mp hr;refine ⟨by simp,fun g hg=>?_⟩;obtain ⟨c,hcm,rfl⟩:=zQe.mp hg;have:=hc c hcm;have h1:=this.1;have:=zF3 this (j:=k) (by have:=zQ1.mp hk; omega);omega
def zFg (M:Mem) (lo:Nat) (many:Int) (js:List Nat) (cs:List (List Int)):Prop:=js.length = cs.length /\ ∀ (i:Nat) j c,js[i]? = some j -> cs[i]? = some c -> lo < j /\ M[j]? = some (.lst (c.map D.int)) /\ Col many c
theorem zDt {M:Mem} {n k:Nat} {most lm:Int} (h:Gen M n k) (hm:0 < most) (hm1:most <= 900) (hl:0 < lm) (hl1:lm <= 900) :
  Ok (zAQ [.ref n,.int most,.int lm] M) fun d M'=>(∃ zA l,d = mD zA /\ IsM zA l /\ (zA.length <= 8 \/ (zA.length:Int) <= most) /\ (l:Int) <= lm) /\ Nw M M' n k:=by
 obtain ⟨hn,hk⟩:=h.lt;unfold zAQ;refine zGA ?_;rw [zAq];unfold zBZ;show OkS (zT _ _ [some (.ref n),some (.int most),some (.int lm),none,none,none,none,none,none,none,none] M) _;rw [zG,zR];refine zAj.mpr (zDg.mpr ?_);refine zBF.mpr (zAr.mpr (zAd.mpr (zq.mpr ⟨_,rfl,?_⟩)));rw [zI,zAr,zAd,zAj];simp only [zAr,zAd,zDg,zq,zI,zLp,zCQ,zAt,List.getElem?_cons_succ,List.getElem?_cons_zero,Option.some.injEq,exists_eq_left'];refine ⟨zY (by simp),zAI h rfl rfl (by decide) (by decide) fun i M0 i0 i1 nw0 _=>?_⟩;obtain ⟨mm,em,m0,m1,m2⟩:∃ mm:Int,[D.int 3,D.int 7,D.int most][i.toNat]? = some (.int mm) /\ 0 < mm /\ mm <= 900 /\ (mm <= 7 \/ mm <= most):=by
  have hi:i = 0 \/ i = 1 \/ i = 2:=by omega
  rcases hi with rfl | rfl | rfl
  ·exact ⟨3,rfl,by decide,by decide,.inl (by decide)⟩
  ·exact ⟨7,rfl,by decide,by decide,.inl (by decide)⟩
  ·exact ⟨most,rfl,hm,hm1,.inr (Int.le_refl _)⟩
 refine zOG zBc (zHG i0 em) ?_;rw [zI];refine Ok.mono (zIF nw0.gen m0 (by omega)) ?_;rintro d M1 ⟨⟨R,rfl,R0,R1⟩,nw1,_⟩;rw [zEb,zI,zL];have nw1':=nw0.trans nw1;generalize eR:1 + R = many;have r0:0 < many:=by omega
 have r1:many <= 900:=by omega
 have r2:many <= 7 \/ many <= most:=by omega
 rw [zG,zR];refine zAj.mpr (zDg.mpr (zAI nw1'.gen rfl rfl hl (by omega) fun L M2 L0 L1 nw2 _=>zEb.mpr ?_));rw [zI,zL,zG,zR];generalize eL:1 + L = cnt;have nw2':=nw1'.trans nw2;refine zAI nw2'.gen rfl rfl (by decide) (by decide) fun srt M3 s0 s1 nw3 _=>?_;have nw3':=nw2'.trans nw3;rw [zI,zL,zG,zR];refine zCQ.mpr (zAt.mpr ⟨zY (by simp),zf ?_⟩);rw [zL,zG,zA2];have nw4:=nw3'.trans (nw3'.gen.lst [] rfl);have e6:(M3 ++ [MO.lst ([]:List D)])[M3.length]? = some (.lst []):=zd _ _;have hj6:M.length <= M3.length:=nw3'.len;generalize hM4:M3 ++ [MO.lst ([]:List D)] = M4 at nw4 e6;generalize hj6':M3.length = j6 at e6 hj6;refine ⟨_,_,_,zCI rfl (by omega) (by omega),?_⟩;refine zJj (n:=cnt.toNat) (I:=fun i σ M'=>∃ x y,σ = [some (.ref n),some (.int most),some (.int lm),some (.int many),some (.int cnt),some (.int srt),some (.ref j6),x,y,none,none] /\ ∃ (js:List Nat) (cs:List (List Int)),M'[j6]? = some (.lst (js.map D.ref)) /\ zFg M' j6 many js cs /\ cs.length = i /\ Nw M M' n k) ?_ ?_ _ _ ⟨none,none,rfl,[],[],e6,⟨rfl,fun i j c h=>by simp at h⟩,rfl,nw4⟩
 ·rintro i σ M' hi ⟨x,y,rfl,js,cs,ej,hcs,hl,nw⟩;refine ⟨_,rfl,?_⟩;rw [zG,zR];have hmod:∃ w0:Int,fOp kIx (zBa (zD (toD (fC (.int 3))) (zD (toD (fC (.int 4))) zJ))) (fOp zB8 (zC 7) (fC (.int 2))) [some (.ref n),some (.int most),some (.int lm),some (.int many),some (.int cnt),some (.int srt),some (.ref j6),some (.int (i:Nat)),y,none,none] M' = some (.dat (.int w0),M'):=by
   have ei:fOp zB8 (zC 7) (fC (.int 2)) [some (.ref n),some (.int most),some (.int lm),some (.int many),some (.int cnt),some (.int srt),some (.ref j6),some (.int (i:Nat)),y,none,none] M' = some (.dat (.int ((i:Int) % 2)),M'):=zK (x:=.dat (.int (i:Nat))) rfl rfl (zCK (by decide));have el:zBa (zD (toD (fC (.int 3))) (zD (toD (fC (.int 4))) zJ)) [some (.ref n),some (.int most),some (.int lm),some (.int many),some (.int cnt),some (.int srt),some (.ref j6),some (.int (i:Nat)),y,none,none] M' = some (.fl [.int 3,.int 4],M'):=zO (zCQ.mpr (zE (zAM (d:=.int 3) rfl (zAH (d:=.int 4) rfl)) ⟨zY (by simp),rfl,rfl⟩));have h2:(i:Int) % 2 = 0 \/ (i:Int) % 2 = 1:=by omega
   rcases h2 with q | q
   ·rw [q] at ei; exact ⟨3,zK el ei rfl⟩
   ·rw [q] at ei; exact ⟨4,zK el ei rfl⟩
  obtain ⟨w0,ew⟩:=hmod;refine zE ew ?_;rw [zI,zL]
  have fin:∀ (way:Int) (M5:Mem),Nw M' M5 n k -> OkS (zBL (fM zAB (zC 6) (zD (toD (zW zv (zD (toD (zC 0)) (zD (toD (zC 3)) (zD (toD (zC 8)) zJ))))) zJ)) [some (.ref n),some (.int most),some (.int lm),some (.int many),some (.int cnt),some (.int srt),some (.ref j6),some (.int (i:Nat)),some (.int way),none,none] M5)
    fun o σ2 M2=>match o with | .nx=>(∃ x y,σ2 = [some (.ref n),some (.int most),some (.int lm),some (.int many),some (.int cnt),some (.int srt),some (.ref j6),x,y,none,none] /\ ∃ (js:List Nat) (cs:List (List Int)),M2[j6]? = some (.lst (js.map D.ref)) /\ zFg M2 j6 many js cs /\ cs.length = i + 1 /\ Nw M M2 n k) | _=>False:=by
   intro way M5 nw5;have ej5:=nw5.get ej (by omega) (by omega);rw [zBl];refine zGo.mpr (zq.mpr ⟨_,rfl,⟨_,zAD ej5⟩,zAr.mpr (zAd.mpr (zBF.mpr (zE (zAM rfl (zAM rfl (zAH rfl))) ?_)))⟩);refine Ok.mono (zIy nw5.gen r0 (by omega)) ?_;rintro d M6 ⟨j,c,rfl,ec,cc,hj,nw6⟩;have ej6:=nw6.get ej5 (by omega) (by omega);rw [zI,zAt,zCN ej6 (by rw [zQW,hcs.1,hl]; exact zQm (m:=95000) (by omega) (zY (by omega)))];have hlt6:j6 < M5.length:=(zQQ.mp ej5).1;have hlt6':j6 < M6.length:=zQm hlt6 nw6.len;refine ⟨_,_,rfl,js ++ [j],cs ++ [c],?_,⟨by simp [hcs.1],fun a b c' h1 h2=>?_⟩,by simp [hl],?_⟩
   ·rw [zRH hlt6',zRF]; rfl
   ·have keep:∀ {b:Nat} {u:MO},j6 < b -> M6[b]? = some u -> (M6.set j6 (.lst (js.map D.ref ++ [.ref j])))[b]? = some u:=fun {b u} hb e=>by rw [zQr (by omega)]; exact e
    by_cases ha:a < js.length
    ·rw [zQU ha] at h1;rw [zQU (by rw [<- hcs.1]; exact ha)] at h2;obtain ⟨q1,q2,q3⟩:=hcs.2 a b c' h1 h2;exact ⟨q1,keep q1 (nw6.get (nw5.get q2 (by omega) (by omega)) (by omega) (by omega)),q3⟩
    ·have ha':a = js.length:=by
      have:=(zQQ.mp h1).1;simp at this; omega
     subst ha';rw [zRX (zQT _)] at h1;rw [zRX (by rw [hcs.1]; exact zQT _)] at h2;simp at h1;rw [hcs.1] at h2;simp at h2;subst h1 h2;exact ⟨by omega,keep (by omega) ec,cc⟩
   ·refine ((nw.trans nw5).trans nw6).setB h hj6 ?_;show D.unds _ _ = true;have w1:D.unds M6.length (js.map D.ref) = true:=nw6.gen.wf j6 _ ej6;have hlj:j < M6.length:=(zQQ.mp ec).1;rw [zC4,w1];simp [D.unds,D.und,hlj]
  have two:∀ (way:Int) (R:Out -> Sd -> Mem -> Prop),(∀ σ2 M2,(∃ x y,σ2 = [some (.ref n),some (.int most),some (.int lm),some (.int many),some (.int cnt),some (.int srt),some (.ref j6),x,y,none,none] /\ ∃ (js:List Nat) (cs:List (List Int)),M2[j6]? = some (.lst (js.map D.ref)) /\ zFg M2 j6 many js cs /\ cs.length = i + 1 /\ Nw M M2 n k) -> R .nx σ2 M2) ->
    OkS (zT (sIf (tst (fOp kEq (zC 5) (fC (.int 9)))) (zp 8 (zW zP (zD (toD (zC 0)) (zD (toD (fC (.int 7))) zJ)))) zAl) (zBL (fM zAB (zC 6) (zD (toD (zW zv (zD (toD (zC 0)) (zD (toD (zC 3)) (zD (toD (zC 8)) zJ))))) zJ))) [some (.ref n),some (.int most),some (.int lm),some (.int many),some (.int cnt),some (.int srt),some (.ref j6),some (.int (i:Nat)),some (.int way),none,none] M') R:=by
   intro way R hR;have go:∀ (way:Int) (M5:Mem),Nw M' M5 n k -> OkS (zBL (fM zAB (zC 6) (zD (toD (zW zv (zD (toD (zC 0)) (zD (toD (zC 3)) (zD (toD (zC 8)) zJ))))) zJ)) [some (.ref n),some (.int most),some (.int lm),some (.int many),some (.int cnt),some (.int srt),some (.ref j6),some (.int (i:Nat)),some (.int way),none,none] M5) R:=fun way M5 nw5=>OkS.mono (fin way M5 nw5) (by
    intro o σ2 M2 z;cases o with
    | nx=>exact hR _ _ z
    | _=>exact z.elim)
   rw [zG,zAT];refine zE (M:=M') (a:=decide (srt = 9)) (zAc (zK (x:=.dat (.int srt)) rfl rfl (zO (zHP.mpr ⟨rfl,rfl⟩)))) ?_;by_cases h9:srt = 9
   ·rw [zQc (by simpa using h9),zR];refine zAI nw.gen rfl rfl (by decide) (by decide) fun w M5 _ _ nw5 _=>?_;rw [zI,zL];exact go w M5 nw5
   ·rw [zQf (by simpa using h9),zAC,zL];exact go way M' (Nw.refl nw.gen)
  rw [zG,zAT];refine zE (M:=M') (a:=decide (srt < 7)) (zAc (zK (x:=.dat (.int srt)) rfl rfl (zO (zNc.mpr ⟨rfl,rfl⟩)))) ?_;by_cases h7:srt < 7
  ·rw [zQc (by simpa using h7),zR];refine zq.mpr ⟨_,rfl,?_⟩;rw [zI,zL];exact two srt _ fun σ2 M2 z=>z
  ·rw [zQf (by simpa using h7),zAC,zL];exact two w0 _ fun σ2 M2 z=>z
 ·rintro σ M' ⟨x,y,rfl,js,cs,ej,hcs,hl,nw⟩;rw [zL]
  have last:∀ (A:Mem) (j:Nat) (js':List Nat) (cs':List (List Int)),Nw M A n k -> A[j]? = some (.lst (js'.map D.ref)) -> zFg A j6 many js' cs' -> cs'.length = cnt.toNat ->
    OkS (zAi (fB zx (zN (zk [10] (zAL (zD (toD (zC 3)) zJ)) (gN 10) zt (fB zx (zN (zk [9] (zAY (zC 6)) (gN 9) zt (fOp kIx (zC 9) (zC 10))) zc))) zc)) [some (.ref n),some (.int most),some (.int lm),some (.int many),some (.int cnt),some (.int srt),some (.ref j),x,y,none,none] A)
     fun o x M1=>match o with
     | .ret d=>(D.und M.length d = true /\ M.length <= M1.length /\ ∀ (j:Nat) u,j < M.length -> M1[j]? = some u -> MO.und M.length u = true) /\ (∃ zA l,d = mD zA /\ IsM zA l /\ (zA.length <= 8 \/ (zA.length:Int) <= most) /\ (l:Int) <= lm) /\ Nw M (M1.take M.length) n k
     | .nx=>(D.und M.length D.non = true /\ M.length <= M1.length /\ ∀ (j:Nat) u,j < M.length -> M1[j]? = some u -> MO.und M.length u = true) /\ (∃ zA l,D.non = mD zA /\ IsM zA l /\ (zA.length <= 8 \/ (zA.length:Int) <= most) /\ (l:Int) <= lm) /\ Nw M (M1.take M.length) n k
     | _=>False:=by
   intro A j js' cs' nwA eA hA hlA;have hcol:∀ c ∈ cs',Col many c:=fun c hc=>by
    obtain ⟨i,hi,rfl⟩:=List.mem_iff_getElem.mp hc;exact (hA.2 i (js'[i]'(by rw [hA.1]; exact hi)) cs'[i] (zQR _) (zQR _)).2.2
   have hlen:(zCB many cs').length = many.toNat:=by unfold zCB; simp
   refine zAn (d:=mD (zCB many cs')) ?_ ⟨⟨zD2 _,nwA.len,nwA.wf0 h⟩,⟨zCB many cs',cs'.length,rfl,zJJ r0 hcol (by omega),by omega,by omega⟩,nwA.trim h⟩;refine (zAv (zAF (List.range many.toNat) (fun k=>D.int k) (fun k=> .tup ((cs'.map fun c=>c.getD k 0).map D.int)) (zDP (f:=zC 3) rfl (by omega) (by omega)) trivial (by simp; omega) fun r hr=>⟨_,rfl,?_⟩) zBc).trans ?_
   ·have hr':=zQ1.mp hr;refine (zAv (zAF (gd:=zHy (.dat (.ref j)) (js'.map D.ref)) (List.range js'.length) (fun i=>D.ref (js'.getD i 0)) (fun i=> .int ((cs'.getD i []).getD r 0)) ?_ ?_ (by rw [List.length_range,hA.1,hlA]; omega) fun i hi=>⟨_,rfl,?_⟩) zBc).trans ?_
    ·rw [show ((List.range js'.length).map fun i=>D.ref (js'.getD i 0)) = js'.map D.ref by
      apply List.ext_getElem
      ·simp
      ·intro i h1 h2;simp at h1;simp [h1]]
     exact zAs (x:=.dat (.ref j)) rfl (za eA)
    ·exact .inl eA
    ·have hi':=zQ1.mp hi;have hc':i < cs'.length:=by rw [<- hA.1]; exact hi'
     have ej':js'[i]? = some (js'.getD i 0):=by rw [zQS,zQR hi']; rfl
     have ec':cs'[i]? = some (cs'.getD i []):=by rw [zQS,zQR hc']; rfl
     obtain ⟨_,q2,q3⟩:=hA.2 i _ _ ej' ec';have hz:=q3.1;exact zK (x:=.dat (.ref (js'.getD i 0))) (y:=.dat (.int (r:Nat))) rfl rfl (zAw (za q2) (zB0 (by omega) (by omega)))
    ·congr 3;rw [zQl];refine congrArg D.tup ?_;apply List.ext_getElem
     ·simp [hA.1]
     ·intro i h1 h2;simp at h1 h2;have h2':i < cs'.length:=h2;simp [h2']
   ·unfold mD zCB; rw [zQl]; rfl
  rw [zG,zAT];refine zE (M:=M') (a:=decide (srt = 8)) (zAc (zK (x:=.dat (.int srt)) rfl rfl (zO (zHP.mpr ⟨rfl,rfl⟩)))) ?_;by_cases h8:srt = 8
  ·rw [zQc (by simpa using h8),zR];have s2:=slL (f:=zC 6) (fl:=zAg) (fh:=zr (fC (.int 1))) (σ:=[some (.ref n),some (.int most),some (.int lm),some (.int many),some (.int cnt),some (.int srt),some (.ref j6),x,y,none,none]) rfl rfl (zAD ej) rfl (oS (i:=1) rfl);rw [zE9] at s2;have hjl:0 < js.length:=by rw [hcs.1]; omega
   have hcl:0 < cs.length:=by omega
   obtain ⟨j0,jr,rfl⟩:∃ a b,js = a :: b:=by cases js with | nil=>simp at hjl | cons a b=>exact ⟨a,b,rfl⟩
   obtain ⟨c0,cr,rfl⟩:∃ a b,cs = a :: b:=by cases cs with | nil=>simp at hcl | cons a b=>exact ⟨a,b,rfl⟩
   rw [show ((j0 :: jr).map D.ref).take 1 = [D.ref j0] from rfl] at s2;have er:zCf (.fl [D.ref j0]) (.dat (.int cnt)) M' = some (.fl ((List.replicate cnt.toNat j0).map D.ref),M'):=by
    unfold zCf;dsimp only [zBD,zFr];rw [zQc ⟨by omega,by omega,zY (by simp; omega)⟩];have:(List.replicate cnt.toNat [D.ref j0]).flatten = (List.replicate cnt.toNat j0).map D.ref:=by
     rw [List.map_replicate];generalize cnt.toNat = q;induction q with
     | zero=>rfl
     | succ q ih=>rw [zRg,zSM,ih,zRg]; rfl
    rw [this]
   refine zAj.mpr (zE s2 (zq.mpr ⟨_,rfl,zE er (zf ?_)⟩));rw [zL];obtain ⟨q1,q2,q3⟩:=hcs.2 0 j0 c0 rfl rfl;have hlj:j0 < M'.length:=(zQQ.mp q2).1;refine last _ M'.length (List.replicate cnt.toNat j0) (List.replicate cnt.toNat c0) (nw.trans (nw.gen.lst _ (zDA fun z hz=>?_))) (zd _ _) ⟨by simp,fun i j c h1 h2=>?_⟩ (by simp)
   ·obtain ⟨a,ha,rfl⟩:=zQe.mp hz;rw [(List.mem_replicate.mp ha).2];simp [D.und,hlj]
   ·have e1:j = j0:=(List.mem_replicate.mp (zRE h1)).2;have e2:c = c0:=(List.mem_replicate.mp (zRE h2)).2;subst e1 e2;exact ⟨q1,by rw [zQU hlj]; exact q2,q3⟩
  ·rw [zQf (by simpa using h8),zAC,zL];exact last M' j6 js cs nw ej hcs hl
noncomputable def zBI:FS:=(zT (zp 1 (zBa zJ))
  (zT (zBs (zAY (zC 0)) (gN 2) (sIf (tst (fOp (kIn true) (zC 2) (zC 1))) (zBL (fM zAB (zC 1) (zD (toD (zC 2)) zJ))) zAl))
  (zAi (fB zx (zN (zk [2] (zAY (zC 0)) (gN 2) zt (fM zCY (zC 1) (zD (toD (zC 2)) zJ))) zc)))))
noncomputable def zAG:FF:=zEC (zCe 3 zBI)
theorem zJB {xs:List Int} (h:zg M y = some (xs.map D.int)):kIn neg (.dat (.int g)) y M = some (.dat (.bl (if neg then !(xs.any fun y=>decide (y = g)) else xs.any fun y=>decide (y = g))),M):=by
 unfold kIn; dsimp only; rw [h]; dsimp only; rw [zBP]
theorem zMY (xs:List Int) (g:Int):(xs.any fun y=>decide (y = g)) = decide (g ∈ xs):=by
 induction xs with
 | nil=>rfl
 | cons x r ih=>
  rw [zSz,ih];by_cases h:x = g
  ·subst h; simp
  ·have:¬ g = x:=fun e=>h e.symm;simp [h,this]
def zBn (xs:List Int):List Int:=xs.map fun x=>((zQ xs).idxOf x:Int)
theorem zES (xs:List Int):(zBn xs).length = xs.length:=by unfold zBn; simp
theorem zIh {M:Mem} {xs:List Int} (h:M[j]? = some (.lst (xs.map D.int))) (hi:i ∈ xs) (hz:xs.length <= 90000):zCY (.dat (.ref j)) [.int i] M = some (.int (xs.idxOf i),M):=by
 unfold zCY; dsimp only; rw [h]; dsimp only; rw [zBP]; dsimp only; rw [zQc ⟨hi,hz⟩]
theorem zDf {M:Mem} (wf:∀ (j:Nat) u,M[j]? = some u -> MO.und M.length u = true) {xs:List Int} (hj:M[j]? = some (.lst (xs.map D.int))) (hz:xs.length <= 4000):zAG [.ref j] M = some (tI (zBn xs),M):=by
 refine zO ?_;unfold zAG;refine zGA ?_;rw [zAq];unfold zBI;have hjl:j < M.length:=(zQQ.mp hj).1;rw [zG,zR];refine zCQ.mpr (zAt.mpr ⟨zY (by simp),zf ?_⟩);rw [zL,zG,zA2];have ej:∀ u:MO,(M ++ [u])[j]? = some (.lst (xs.map D.int)):=fun u=>by rw [zQU hjl]; exact hj
 refine ⟨_,_,_,zAs (x:=.dat (.ref j)) rfl (za (ej _)),?_⟩;refine zAS (I:=fun r σ M'=>∃ (y:Option D) (a b:List Int),σ = [some (.ref j),some (.ref M.length),y] /\ r = b.map D.int /\ a ++ b = xs /\ M' = M ++ [.lst ((zQ a).map D.int)]) ?_ ?_ _ _ _ ⟨none,[],xs,rfl,rfl,rfl,rfl⟩
 ·rintro x r σ M' ⟨y,a,b,rfl,hr,hab,rfl⟩;obtain ⟨g,b',rfl,rfl,rfl⟩:=zAP hr;refine ⟨.inl (ej _),_,rfl,?_⟩;have ek:(M ++ [MO.lst ((zQ a).map D.int)])[M.length]? = some (.lst ((zQ a).map D.int)):=zd _ _;have hin:zQ (a ++ [g]) = ins (zQ a) g:=by unfold zQ; rw [List.foldl_append]; rfl
  rw [zAT];refine zE (M:=M ++ [MO.lst ((zQ a).map D.int)]) (a:=!decide (g ∈ zQ a)) ?_ ?_
  ·refine zAc (zK (x:=.dat (.int g)) (y:=.dat (.ref M.length)) rfl rfl ?_);rw [zJB (za ek),zMY]; rfl
  have hla:a.length < xs.length:=by rw [<- hab]; simp
  have hli:=zBK a;by_cases hg:g ∈ zQ a
  ·rw [zQf (by simp [hg]),zAC];refine ⟨_,a ++ [g],b',rfl,rfl,by rw [<- hab]; simp,?_⟩;rw [hin]; unfold ins; rw [zQc hg]
  ·rw [zQc (by simp [hg]),zBl];refine zGo.mpr (zq.mpr ⟨_,rfl,⟨_,zAD ek⟩,zE (zAH (d:=.int g) rfl) ?_⟩);rw [zCN ek (by rw [zQW]; exact zQm (m:=95000) (by omega) (zY (by omega)))];refine ⟨_,a ++ [g],b',rfl,rfl,by rw [<- hab]; simp,?_⟩;rw [hin]; unfold ins; rw [zQf hg,List.set_append_right _ _ (zQT _)];simp
 ·rintro σ M' ⟨y,a,b,rfl,hr,hab,rfl⟩;have:b = []:=by cases b with | nil=>rfl | cons _ _=>cases hr
  subst this;rw [zQ7] at hab;subst hab;refine ⟨.inl (ej _),?_⟩;rw [zL];have ek:(M ++ [MO.lst ((zQ a).map D.int)])[M.length]? = some (.lst ((zQ a).map D.int)):=zd _ _;have hli:=zBK a;refine zAn (d:=tI (zBn a)) ?_ ⟨⟨zAp _,by simp,fun i u hi e=>?_⟩,rfl,by simp⟩
  ·refine (zAv (zAF (gd:=zHy (.dat (.ref j)) (a.map D.int)) a D.int (fun x=> .int ((zQ a).idxOf x:Int)) (zAs (x:=.dat (.ref j)) rfl (za (ej _))) (.inl (ej _)) (by omega) fun x hx=>⟨_,rfl,?_⟩) zBc).trans ?_
   ·refine zO (zGo.mpr (zq.mpr ⟨_,rfl,⟨_,zAD ek⟩,zE (zAH (d:=.int x) rfl) (zE (zIh ek ((zAU a x).mpr hx) (by omega)) ⟨rfl,rfl⟩)⟩))
   ·unfold zBn tI; rw [zQl]; rfl
  ·rw [zQU hi] at e;exact wf i u e
theorem ntT (ha:a σ M = some (.dat (.bl k),M)):zCj (tst a) σ M = some (!k,M):=by
 refine zO (zGB.mpr (zE (zAc ha) ⟨rfl,rfl⟩))
theorem aC' {f:FE} {g:FA} {σ:Sd} {M M1 M2:Mem} {d:D} {ds:List D} (h:toD f σ M = some (d,M1)) (hg:g σ M1 = some (ds,M2)):zD (toD f) g σ M = some (d :: ds,M2):=by
 unfold zD; rw [h]; dsimp only; rw [hg]
theorem zO9 (h:f σ M = some (.dat d,M)):toD f σ M = some (d,M):=by unfold toD; rw [h]
theorem zKv {M M1:Mem} (h:f σ M = some (.fl xs,M1)):toD f σ M = some (.ref M1.length,M1 ++ [.lst xs]):=by unfold toD; rw [h]
theorem zP2 {g:FA} {σ:Sd} {M M1:Mem} {ds:List D} (h:g σ M = some (ds,M1)) (hz:ds.length <= 100000):zBa g σ M = some (.fl ds,M1):=by
 unfold zBa; rw [h]; dsimp only; rw [zQc (zY hz)]
theorem zOf {g:FA} {σ:Sd} {M M1:Mem} {ds:List D} (h:g σ M = some (ds,M1)) (hz:ds.length <= 100000):zBf g σ M = some (.dat (.tup ds),M1):=by
 unfold zBf; rw [h]; dsimp only; rw [zQc (zY hz)]
theorem zKT (hf:f σ M = some (.dat (.bl true),M)) (h:P .nx σ M):OkS (sIf (zCj (tst f)) a zAl σ M) P:=zLH (ntT hf) h
theorem zMJ (h0:1 <= R) (h1:R <= 5000):zCf (.dat (.tup [e])) (.dat (.int R)) M = some (.dat (.tup (List.replicate R.toNat e)),M):=by
 unfold zCf;dsimp only [zBD];rw [zQc ⟨by simp,h0,zY (by simp; omega)⟩];have:(List.replicate R.toNat [e]).flatten = List.replicate R.toNat e:=by
  generalize R.toNat = q;induction q with
  | zero=>rfl
  | succ q ih=>rw [zRg,zSM,ih,zRg]; rfl
 rw [this]
theorem zMI (hf:f σ M = some (.dat (.int i),M)) (hg:g σ M = some (.dat (.int j),M)):fB zFM (zN f (zN g zc)) σ M = some (.dat (.int (if j < i then j else i)),M):=by
 unfold fB zN zc; rw [hf]; dsimp only; rw [hg]; rfl
theorem zL3 {f:FE} {σ:Sd} {M M1:Mem} {xs:List D} (h:f σ M = some (.fl xs,M1)):zAY f σ M = some (xs,none,M1):=by
 unfold zAY; rw [h]; rfl
theorem zMM (hf:f σ M = some (.dat (tI xs),M)) (hg:g σ M = some (.dat (.int i),M)) (hi:i ∈ xs):zDU f g σ M = some (.dat (.int (xs.idxOf i)),M):=by
 unfold zDU;have e1:toD f σ M = some (.tup (xs.map D.int),M):=by unfold toD; rw [hf]; rfl
 have e2:toD g σ M = some (.int i,M):=by unfold toD; rw [hg]
 rw [e1]; dsimp only;rw [zBP]; dsimp only;rw [e2]; dsimp only;rw [zQc hi]
noncomputable def zB9:FS:=(zT (zp 3 (zW zAQ (zD (toD (zC 0)) (zD (toD (fC (.int 7))) (zD (toD (zC 2)) zJ)))))
  (zT (zp 4 (fOp zAb (fB zAO (zN (zC 3) zc)) (zW zP (zD (toD (zC 0)) (zD (toD (fOp zHJ (fOp zAb (zC 1) (fC (.int 1))) (fB zAO (zN (zC 3) zc)))) zJ)))))
  (zT (zp 5 (fOp zDb (zCE (fB zAO (zN (zC 3) zc))) (zk [6] (zAL (zD (toD (fOp zHJ (zC 4) (fB zAO (zN (zC 3) zc)))) zJ)) (gN 6) zt (zW zP (zD (toD (zC 0)) (zD (toD (fB zAO (zN (zC 3) zc))) zJ))))))
  (zT (zp 7 (zW zP (zD (toD (zC 0)) (zD (toD (zC 4)) zJ))))
  (zT (zp 5 (fOp zDb (fSl (zC 5) (zr (zC 7)) zAg) (fSl (zC 5) zAg (zr (zC 7)))))
  (zT (zp 8 (zBa zJ))
  (zT (zBs (zAY (zC 5)) (gN 9) (zT (zp 10 (zBa zJ))
  (zT (zBs (zAY (fOp kIx (zC 3) (zC 9))) (gN 11) (zT (zp 12 (zk [6] (zAL (zD (toD (zC 4)) zJ)) (gN 6) (tst (fOp kEq (fOp kIx (zC 5) (zC 6)) (zC 11))) (zC 6)))
  (zBL (fM zAB (zC 10) (zD (toD (fOp kIx (zC 12) (zW zP (zD (toD (zC 0)) (zD (toD (fB zAO (zN (zC 12) zc))) zJ))))) zJ)))))
  (zBL (fM zAB (zC 8) (zD (toD (fB zx (zN (zC 10) zc))) zJ))))))
  (zAi (zBf (zD (toD (fB zx (zN (zC 8) zc))) (zD (toD (zC 5)) zJ)))))))))))
noncomputable def zAo:FF:=zCe 13 zB9
theorem zJV {xs:List D} (h:q <= xs.length):L3.zBw xs (some (q:Int)) none = xs.drop q:=by
 have s:HT.sIx xs.length 0 (some (q:Int)) = q:=by rw [HT.zDs]; omega
 have z:HT.sIx xs.length xs.length none = xs.length:=rfl;unfold L3.zBw;rw [s,z,List.take_of_length_le (by simp)]
theorem zJR {xs:List D} (h:q <= xs.length):L3.zBw xs none (some (q:Int)) = xs.take q:=by
 have s:HT.sIx xs.length xs.length (some (q:Int)) = q:=by rw [HT.zDs]; omega
 have z:HT.sIx xs.length 0 none = 0:=rfl;unfold L3.zBw;rw [s,z]; simp
end Lad
namespace Lad
open PySem PySem.Spec PyProof.Rows L2 L3 ST Law Lac
end Lad
namespace Lad
open PySem PySem.Spec PyProof.Rows L2 L3 ST Law Lac
end Lad
namespace Lac
open PySem PySem.Spec PyProof.Rows L2 L3 ST Law
end Lac
namespace Lac
open PySem PySem.Spec PyProof.Rows L2 L3 ST Law
end Lac
namespace Lad
open PySem PySem.Spec PyProof.Rows L2 L3 ST Law Lac
end Lad
namespace Lad
open PySem PySem.Spec PyProof.Rows L2 L3 ST Law Lac
end Lad
namespace Lad
open PySem PySem.Spec PyProof.Rows L2 L3 ST Law Lac
end Lad
namespace Lad
open PySem PySem.Spec PyProof.Rows L2 L3 ST Law Lac
end Lad
namespace Lad
open PySem PySem.Spec PyProof.Rows L2 L3 ST Law Lac
theorem zLI (hi:i < xs.length) (hj:j < xs.length):(zBn xs).getD i 0 = (zBn xs).getD j 0 ↔ xs.getD i 0 = xs.getD j 0:=by
 unfold zBn;have g:∀ {k:Nat} (hk:k < xs.length),(xs.map fun x=>((zQ xs).idxOf x:Int)).getD k 0 = ((zQ xs).idxOf (xs.getD k 0):Int):=fun {k} hk=>by
  rw [zQS,zQS,zQk,zQR hk]; rfl
 have mm:∀ {k:Nat} (hk:k < xs.length),xs.getD k 0 ∈ zQ xs:=fun {k} hk=>by
  rw [zAU,zQS,zQR hk]; exact zQv hk
 rw [g hi,g hj];constructor
 ·intro e;have e:(zQ xs).idxOf (xs.getD i 0) = (zQ xs).idxOf (xs.getD j 0):=by omega
  have h1:=List.getElem_idxOf (List.idxOf_lt_length_of_mem (mm hi));have h2:=List.getElem_idxOf (List.idxOf_lt_length_of_mem (mm hj));rw [<- h1,<- h2];simp only [e]
 ·intro e; rw [e]
end Lad
namespace Lad
open PySem PySem.Spec PyProof.Rows L2 L3 ST Law Lac
abbrev pg (P:List Int) (a:Int):Int:=P.getD a.toNat 0
structure Prt (P:List Int) (K:Nat):Prop where
 k0:0 < K
 lt:∀ a:Nat,a < P.length -> 0 <= P.getD a 0 /\ P.getD a 0 < (K:Int)
 on:∀ j:Nat,j < K -> ∃ a:Nat,a < P.length /\ P.getD a 0 = (j:Int)
theorem zIP (hk:k < xs.length):(zBn xs).getD k 0 = ((zQ xs).idxOf (xs.getD k 0):Int):=by
 unfold zBn;rw [zQS,zQS,zQk,zQR hk]; rfl
theorem zBx {xs:List Int} (hk:k < xs.length):xs.getD k 0 ∈ xs:=by
 rw [zQS,zQR hk]; exact zQv hk
theorem zLc {xs:List Int} (h:0 < xs.length):Prt (zBn xs) (zQ xs).length:=by
 have h0:=(zAU xs _).mpr (zBx h);refine ⟨List.length_pos_of_mem h0,fun a ha=>?_,fun j hj=>?_⟩
 ·rw [zES] at ha;rw [zIP ha];have:=zKd ((zAU xs _).mpr (zBx ha));omega
 ·have hm:(zQ xs).getD j 0 ∈ xs:=(zAU xs _).mp (zBx hj);obtain ⟨a,ha,e⟩:=List.getElem_of_mem hm;refine ⟨a,by rw [zES]; exact ha,?_⟩;rw [zIP ha,zQS,zQR ha];show ((zQ xs).idxOf xs[a]:Int) = _;rw [e,zLO (zC2 xs) hj]
def crw (P r:List Int):List Int:=r.map (pg P)
def zDF (zA:List (List Int)) (P:List Int) (K:Nat):List (List Int):=(List.range K).map fun (j:Nat)=>crw P (zA.getD (P.idxOf (j:Int)) [])
theorem zF6 (zA:List (List Int)) (P:List Int) (K:Nat):(zDF zA P K).length = K:=by unfold zDF; simp
theorem zK2 {P:List Int} {K:Nat} (p:Prt P K) {j:Nat} (h:j < K):P.idxOf (j:Int) < P.length /\ P.getD (P.idxOf (j:Int)) 0 = (j:Int):=by
 obtain ⟨a,ha,e⟩:=p.on j h;have hm:(j:Int) ∈ P:=by rw [<- e]; exact zBx ha
 have hlt:=zKd hm;refine ⟨hlt,?_⟩;rw [zQS,zQR hlt];exact List.getElem_idxOf hlt
section
variable {zA:List (List Int)} {l:Nat} {P:List Int} {K:Nat}
theorem zPn (p:Prt P K) (hP:P.length = zA.length) (ha:0 <= a /\ a < (zA.length:Int)):0 <= pg P a /\ pg P a < (K:Int):=p.lt a.toNat (by omega)
theorem zNo (m:IsM zA l) (p:Prt P K) (hP:P.length = zA.length):IsM (zDF zA P K) l:=by
 refine ⟨by rw [zF6]; exact p.k0,m.l0,fun r hr=>?_⟩;obtain ⟨j,hj,rfl⟩:=zQe.mp hr;obtain ⟨h1,_⟩:=zK2 p (zQ1.mp hj);have hg:=m.get (h:=(P.idxOf (j:Int):Int)) (by omega) (by omega);rw [zS7] at hg;refine ⟨by unfold crw; rw [zQW]; exact hg.1,fun g hgm=>?_⟩;obtain ⟨x,hx,rfl⟩:=zQe.mp hgm;rw [zF6];exact zPn p hP (hg.2 x hx)
def Kp (zA:List (List Int)) (l:Nat) (P:List Int):Prop:=∀ a b x:Int,0 <= a /\ a < (zA.length:Int) -> 0 <= b /\ b < (zA.length:Int) -> 0 <= x /\ x < (l:Int) -> pg P a = pg P b -> pg P (zAa zA a x) = pg P (zAa zA b x)
end
noncomputable def zB2:FS:=(zAi (zk [3] (zAY (zC 0)) (gN 3) zt (fB zx (zN (zk [2] (zAY (zC 3)) (gN 2) zt (fOp kIx (zC 1) (zC 2))) zc))))
noncomputable def zAV:FF:=zCe 4 zB2
noncomputable def zEY:FS:=(zT (zp 2 (zW zAV (zD (toD (zC 0)) (zD (toD (zC 1)) zJ))))
  (zAi (fB zx (zN (zk [3] (zAL (zD (toD (fOp zAb (fB (zEZ true) (zN (zC 1) zc)) (fC (.int 1)))) zJ)) (gN 3) zt (fOp kIx (zC 2) (zDU (zC 1) (zC 3)))) zc))))
noncomputable def zBN:FF:=zFL (zCe 4 zEY)
section
variable {zA:List (List Int)} {l:Nat}
theorem zEp (m:IsM zA l) (hR:zA.length <= 1000) (hl:l <= 1000) (hp:p.length = zA.length):zAV [mD zA,tI p] M = some (.ref M.length,M ++ [.lst ((zA.map (crw p)).map fun r=>D.tup (r.map D.int))]):=by
 have key:zk [3] (zAY (zC 0)) (gN 3) zt (fB zx (zN (zk [2] (zAY (zC 3)) (gN 2) zt (fOp kIx (zC 1) (zC 2))) zc)) [some (mD zA),some (tI p),none,none] M = some (.fl ((zA.map (crw p)).map fun r=>D.tup (r.map D.int)),M):=by
  refine (zAF zA (fun r=>D.tup (r.map D.int)) (fun r=> .tup ((crw p r).map D.int)) (zDp rfl) trivial (by omega) fun r hr=>⟨_,rfl,?_⟩).trans ?_
  ·obtain ⟨h1,h2⟩:=m.row r hr;refine (zAv (zAF r D.int (fun g=> .int (p.getD g.toNat 0)) (zDp rfl) trivial (by omega) fun g hg=>⟨_,rfl,?_⟩) zBc).trans ?_
   ·exact zK (x:=.dat (tI p)) (y:=.dat (.int g)) rfl rfl (zAw zAR (zB0 (h2 g hg).1 (by rw [hp]; exact (h2 g hg).2)))
   ·unfold crw; rw [zQl]; rfl
  ·rw [zQl]; rfl
 suffices h:Ok (zAV [mD zA,tI p] M) fun d M'=>d = .ref M.length /\ M' = M ++ [.lst ((zA.map (crw p)).map fun r=>D.tup (r.map D.int))] by
  obtain ⟨d,M',e,rfl,rfl⟩:=h; exact e
 unfold zAV;rw [zAq];unfold zB2;rw [zBW];exact zE key (zf ⟨rfl,rfl⟩)
theorem zKt {P:List Int} {K:Nat} (p:Prt P K) {f:FE} {σ:Sd} {M:Mem} (hf:f σ M = some (.dat (tI P),M)):fB (zEZ true) (zN f zc) σ M = some (.dat (.int ((K:Int) - 1)),M):=by
 have k0:=p.k0;cases P with
 | nil=>obtain ⟨a,ha,_⟩:=p.on 0 k0; cases ha
 | cons x r=>
  obtain ⟨h1,h2⟩:=zBv true r x;have e:zBT true x r = (K:Int) - 1:=by
   obtain ⟨j,hj,ej⟩:=List.getElem_of_mem h1;have q1:=p.lt j hj;rw [zQS,zQR hj] at q1;simp only [Option.getD_some] at q1;rw [ej] at q1;obtain ⟨a,ha,ea⟩:=p.on (K - 1) (by omega);have q2:=h2 _ (zBx ha);rw [ea] at q2;simp only [if_true] at q2;omega
  unfold fB zN zc;rw [hf];unfold zEZ;show (match zA9 ((x :: r).map D.int) with | some (n :: ns)=>some (EV.dat (.int (zBT true n ns)),M) | _=>none) = _;rw [zBP];dsimp only;rw [e]
theorem zIk {P:List Int} {K:Nat} (m:IsM zA l) (hR:zA.length <= 26) (hl:l <= 12) (p:Prt P K) (hK:K <= 1000) (hP:P.length = zA.length) {M:Mem}:zBN [mD zA,tI P] M = some (mD (zDF zA P K),M):=by
 have k0:=p.k0;refine zO ?_;unfold zBN;refine zIR ?_ ?_
 ·unfold D.unds D.unds D.unds;rw [zD2]; simp [tI,zAp]
 rw [zAq];unfold zEY;rw [zG,zR];refine zBF.mpr (zE (zAM (d:=mD zA) rfl (zAH (d:=tI P) rfl)) (zE (zEp m (by omega) (by omega) hP) ?_));rw [zI,zL];show OkS (zAi _ [some (mD zA),some (tI P),some (.ref 0),none] [.lst ((zA.map (crw P)).map fun r=>D.tup (r.map D.int))]) _;have er:=zDP (f:=fOp zAb (fB (zEZ true) (zN (zC 1) zc)) (fC (.int 1))) (σ:=[some (mD zA),some (tI P),some (.ref 0),none]) (M:=[.lst ((zA.map (crw P)).map fun r=>D.tup (r.map D.int))]) (j:=(K:Int)) (zK (x:=.dat (.int ((K:Int) - 1))) (y:=.dat (.int 1)) (zKt p rfl) rfl (by show some (EV.dat (.int ((K:Int) - 1 + 1)),_) = _; rw [show (K:Int) - 1 + 1 = (K:Int) by omega])) (by omega) (by omega);rw [show (K:Int).toNat = K by omega] at er;have ec:=zAF (own:=[3]) (g:=gN 3) (te:=fOp kIx (zC 2) (zDU (zC 1) (zC 3))) (List.range K) (fun (k:Nat)=>D.int k) (fun (k:Nat)=>D.tup ((crw P (zA.getD (P.idxOf (k:Int)) [])).map D.int)) er trivial (by rw [List.length_range]; omega) fun k hk=>by
  obtain ⟨h1,h2⟩:=zK2 p (zQ1.mp hk);have hm:(k:Int) ∈ P:=by rw [<- h2]; exact zBx h1
  refine ⟨[some (mD zA),some (tI P),some (.ref 0),some (.int (k:Int))],rfl,zK (x:=.dat (.ref 0)) (y:=.dat (.int (P.idxOf (k:Int)))) rfl (zMM (xs:=P) rfl rfl hm) (zAw (xs:=(zA.map (crw P)).map fun r=>D.tup (r.map D.int)) rfl (zH3 ?_))⟩;rw [zQk,zQk,zQS,zQR (show P.idxOf (k:Int) < zA.length by omega)]; rfl
 refine zAn (d:=mD (zDF zA P K)) ((zAv ec zBc).trans ?_) ⟨zD2 _,rfl,rfl⟩;rw [show mD (zDF zA P K) = .tup ((List.range K).map fun (k:Nat)=>D.tup ((crw P (zA.getD (P.idxOf (k:Int)) [])).map D.int)) by unfold mD zDF; rw [zQl]; rfl]
end
theorem zGg {M:Mem} {ow:List Int} (hz:many <= 1000) (hl:ow.length = many) (ej:M[j]? = some (.lst (ow.map D.int))) (hg:g ∈ ow) :
  Ok (zk [6] (zAL (zD (toD (zC 4)) zJ)) (gN 6) (tst (fOp kEq (fOp kIx (zC 5) (zC 6)) (zC 11))) (zC 6) [a0,a1,a2,a3,some (.int many),some (.ref j),a6,a7,a8,a9,a10,some (.int g),a12] M) fun x M'=>M' = M /\ ∃ c:List Int,x = .fl (c.map D.int) /\ c ≠ [] /\ c.length <= many /\ ∀ y ∈ c,(0 <= y /\ y < (many:Int)) /\ ow.getD y.toNat 0 = g:=by
 refine zCb.mpr ⟨_,_,_,zCI (j:=(many:Int)) rfl (by omega) (by omega),by rw [zA1]; exact zY (by omega),?_⟩;rw [show (many:Int).toNat = many by omega];refine Ok.mono (zBH (I:=fun r acc M2=>M2 = M /\ ∃ (i:Nat) (c:List Int),i <= many /\ r = zBA i (many - i) /\ acc = c.map D.int /\ c.length <= i /\ (∀ y ∈ c,(0 <= y /\ y < (many:Int)) /\ ow.getD y.toNat 0 = g) /\ ∀ r,r < i -> ow.getD r 0 = g -> c ≠ []) (Q:=fun acc M2=>M2 = M /\ ∃ c:List Int,acc = c.map D.int /\ c ≠ [] /\ c.length <= many /\ ∀ y ∈ c,(0 <= y /\ y < (many:Int)) /\ ow.getD y.toNat 0 = g) ?_ ?_ _ [] _ ⟨rfl,0,[],zQ9 _,by simp,rfl,by simp,(fun _ h=>by cases h),fun r h=>by omega⟩) ?_
 ·rintro x r acc M2 ⟨rfl,i,c,hi,e,rfl,hcl,hc,hne⟩;have hlt:i < many:=by
   rcases Nat.lt_or_ge i many with z | z
   ·exact z
   ·rw [show many - i = 0 by omega] at e; cases e
  rw [show many - i = (many - (i + 1)) + 1 by omega] at e;obtain ⟨rfl,rfl⟩:=zRR e;refine ⟨zo,_,rfl,?_⟩;have hat:atI (ow.map D.int) ((i:Nat):Int) = some (.int (ow.getD i 0)):=by
   have:=zB0 (r:=ow) (g:=((i:Nat):Int)) (by omega) (by omega);rw [zS7] at this; exact this
  refine zE (M:=M2) (a:=decide (ow.getD i 0 = g)) (zAc (zK (x:=.dat (.int (ow.getD i 0))) (y:=.dat (.int g)) (zK (x:=.dat (.ref j)) (y:=.dat (.int ((i:Nat):Int))) rfl rfl (zAw (za ej) hat)) rfl (zO (zHP.mpr ⟨rfl,rfl⟩)))) ?_;by_cases he:ow.getD i 0 = g
  ·rw [zQc (by simpa using he)];refine zE (M:=M2) (a:=.dat (.int ((i:Nat):Int))) rfl ?_;rw [zI];refine ⟨rfl,i + 1,c ++ [((i:Nat):Int)],hlt,rfl,by simp,by simp; omega,fun y hy=>?_,fun _ _ _=>by simp⟩;rcases zQn.mp hy with q | q
   ·exact hc y q
   ·have:y = ((i:Nat):Int):=by simpa using q
    subst this;exact ⟨by omega,by rw [zS7]; exact he⟩
  ·rw [zQf (by simpa using he)];refine ⟨rfl,i + 1,c,hlt,rfl,rfl,by omega,hc,fun r hr hq=>?_⟩;rcases Nat.lt_or_ge r i with z | z
   ·exact hne r z hq
   ·have:r = i:=by omega
    subst this; exact absurd hq he
 ·rintro acc M2 ⟨rfl,i,c,hi,e,rfl,hcl,hc,hne⟩;have:i = many:=by
   rcases Nat.lt_or_ge i many with z | z
   ·rw [show many - i = (many - (i + 1)) + 1 by omega] at e; cases e
   ·omega
  subst this;obtain ⟨q,hq,eq⟩:=List.mem_iff_getElem.mp hg;exact ⟨zo,rfl,c,rfl,hne q (by omega) (by rw [zQS,zQR hq]; exact eq),hcl,hc⟩
 ·rintro ys M2 ⟨rfl,c,e,h⟩;rw [List.nil_append] at e;exact ⟨rfl,c,by rw [e],h⟩
theorem zLV {base zA:List (List Int)} {ow us q:List Int} {o:Int} (hl:zA.length = us.length) (h:∀ i:Nat,i < us.length -> (zA.getD i []).map (pg ow) = base.getD (us.getD i 0).toNat []) (hq:base.getD o.toNat [] = q.map (pg ow)) :
  ∀ i:Nat,i < (us ++ [o]).length -> ((zA ++ [q]).getD i []).map (pg ow) = base.getD ((us ++ [o]).getD i 0).toNat []:=by
 intro i hi;rw [zQd,List.length_singleton] at hi;rcases Nat.lt_or_ge i us.length with z | z
 ·have:=h i z;rw [zQS (l:=zA ++ [q]),zQU (by omega),zQS (l:=us ++ [o]),zQU z,<- zQS,<- zQS];exact this
 ·have:i = us.length:=by omega
  subst this;rw [zQS (l:=zA ++ [q]),zRX (by omega),zQS (l:=us ++ [o]),zRX (zQT _)];rw [hl,Nat.sub_self];exact hq.symm
theorem zNr {base zA:List (List Int)} {ow:List Int} (hr:∀ q ∈ zA,q.length = l) (hl:zA.length = ow.length) (h:∀ i:Nat,i < zA.length -> (zA.getD i []).map (pg ow) = base.getD (ow.getD i 0).toNat []):Kp zA l ow:=by
 have key:∀ a x:Int,0 <= a /\ a < (zA.length:Int) -> 0 <= x /\ x < (l:Int) -> pg ow (zAa zA a x) = (base.getD (pg ow a).toNat []).getD x.toNat 0:=fun a x ha hx=>by
  have hi:a.toNat < zA.length:=by omega
  have hq:=hr (zA.getD a.toNat []) (by rw [zQS,zQR hi]; exact zQv hi);show _ = (base.getD (ow.getD a.toNat 0).toNat []).getD x.toNat 0;rw [<- h a.toNat hi];have hx':x.toNat < (zA.getD a.toNat []).length:=by omega
  show pg ow ((zA.getD a.toNat []).getD x.toNat 0) = _;generalize zA.getD a.toNat [] = q at hx';rw [zQS,zQS,zQk,zQR hx']; rfl
 intro a b x ha hb hx e;rw [key a x ha hx,key b x hb hx,e]
theorem zHl {M:Mem} (h:Gen M n k) (hm:9 <= most) (hm1:most <= 900) (hl:0 < lm) (hl1:lm <= 900) :
  Ok (zAo [.ref n,.int most,.int lm] M) fun d M'=>∃ zA l j ow,d = .tup [mD zA,.ref j] /\ IsM zA l /\ (zA.length:Int) <= most /\ (l:Int) <= lm /\ M'[j]? = some (.lst ((ow:List Int).map D.int)) /\ ow.length = zA.length /\ Kp zA l ow /\ M.length <= j /\ Nw M M' n k:=by
 obtain ⟨hn,hk⟩:=h.lt;unfold zAo;rw [zAq];unfold zB9;show OkS (zT _ _ [some (.ref n),some (.int most),some (.int lm),none,none,none,none,none,none,none,none,none,none] M) _;rw [zG,zR];refine zBF.mpr (zE (zAM rfl (zAM rfl (zAH rfl))) ?_);refine Ok.mono (zDt h (by decide) (by decide) hl hl1) ?_;rintro d M1 ⟨⟨base,l,rfl,mb,hB,hL⟩,nw1⟩;have b0:=mb.r0;have l0:=mb.l0;have hB':base.length <= 8:=by omega
 rw [zI,zL,zG,zR];refine zAj.mpr (zE (zA4 rfl) ?_);refine zAI nw1.gen rfl (zK (x:=.dat (.int (most + 1))) (zK rfl rfl rfl) (zA4 rfl) rfl) (by omega) (by omega) fun ex M2 x0 x1 nw2 _=>zEb.mpr ?_;rw [zI,zL,zG,zR];have nw2':=nw1.trans nw2;obtain ⟨many,hmany⟩:∃ many:Nat,(base.length:Int) + ex = (many:Int):=⟨((base.length:Int) + ex).toNat,by omega⟩;rw [hmany];have mB:base.length <= many:=by omega
 have mM:(many:Int) <= most:=by omega
 have elr:zCE (fB zAO (zN (zC 3) zc)) [some (.ref n),some (.int most),some (.int lm),some (mD base),some (.int many),none,none,none,none,none,none,none,none] M2 = some (.fl (((List.range base.length).map fun (k:Nat)=>(k:Int)).map D.int),M2):=by
  unfold zCE;rw [zA4 (zA:=base) rfl];dsimp only;rw [zQc ⟨by omega,by omega⟩,zFs,show (base.length:Int).toNat = base.length by omega]
 refine zAj.mpr (zE elr ?_);refine Ok.mono (zGh nw2'.gen (few:=base.length) (many:=(many:Int) - base.length) (by omega) (by omega) (by omega) (by omega) (zK rfl (zA4 rfl) rfl) (fun _ _=>rfl) (fun _ _=>zA4 rfl)) ?_;rintro x M3 ⟨⟨cx,rfl,hcl,hcx⟩,nw3,_⟩;have nw3':=nw2'.trans nw3;refine zHe rfl rfl (by simp; omega) (zf ?_);rw [<- zRF,zL];generalize how:((List.range base.length).map fun (k:Nat)=>(k:Int)) ++ cx = ow;have owl:ow.length = many:=by rw [<- how]; simp; omega
 have owb:∀ x ∈ ow,0 <= x /\ x < base.length:=by
  intro x hx;rw [<- how] at hx;rcases zQn.mp hx with q | q
  ·obtain ⟨a,ha,rfl⟩:=zQe.mp q;have:=zQ1.mp ha; omega
  ·exact hcx x q
 have ows:∀ g:Int,0 <= g -> g < base.length -> g ∈ ow:=by
  intro g g0 g1;rw [<- how];exact zRc _ (zQe.mpr ⟨g.toNat,zQ1.mpr (by omega),by omega⟩)
 have nw4:=nw3'.trans (nw3'.gen.lst (ow.map D.int) (zV _ _));have e5:(M3 ++ [MO.lst (ow.map D.int)])[M3.length]? = some (.lst (ow.map D.int)):=zd _ _;have hj5:M.length <= M3.length:=nw3'.len;generalize hM4:M3 ++ [MO.lst (ow.map D.int)] = M4 at nw4 e5;generalize M3.length = j5 at e5 hj5;show OkS (zT _ _ [some (.ref n),some (.int most),some (.int lm),some (mD base),some (.int many),some (.ref j5),none,none,none,none,none,none,none] M4) _;rw [zG,zR];refine zAI nw4.gen rfl rfl (by omega) (by omega) fun tn M5 t0 t1 nw5 _=>?_;rw [zI,zL,zG,zR];have nw5':=nw4.trans nw5;have e5':=nw5.get e5 (by omega) (by omega);obtain ⟨t,ht⟩:∃ t:Nat,tn = (t:Int):=⟨tn.toNat,by omega⟩;subst ht;show Ok (fOp _ _ _ [some (.ref n),some (.int most),some (.int lm),some (mD base),some (.int many),some (.ref j5),none,some (.int (t:Nat)),none,none,none,none,none] M5) _;have s1:=slL (f:=zC 5) (fl:=zr (zC 7)) (fh:=zAg) (σ:=[some (.ref n),some (.int most),some (.int lm),some (mD base),some (.int many),some (.ref j5),none,some (.int (t:Nat)),none,none,none,none,none]) rfl rfl (zAD e5') (oS (i:=(t:Int)) rfl) rfl;have s2:=slL (f:=zC 5) (fl:=zAg) (fh:=zr (zC 7)) (σ:=[some (.ref n),some (.int most),some (.int lm),some (mD base),some (.int many),some (.ref j5),none,some (.int (t:Nat)),none,none,none,none,none]) rfl rfl (zAD e5') rfl (oS (i:=(t:Int)) rfl);rw [zJV (by simp; omega)] at s1;rw [zJR (by simp; omega)] at s2;refine zAj.mpr (zE s1 (zE s2 (zHe rfl rfl (by simp; omega) (zf ?_))));rw [<- List.map_drop,<- List.map_take,<- zRF,zL];have hmem:∀ x,x ∈ ow.drop t ++ ow.take t ↔ x ∈ ow:=fun x=>by
  rw [zQn,Or.comm,<- zQn,List.take_append_drop]
 have hlen':(ow.drop t ++ ow.take t).length = many:=by simp; omega
 generalize ow.drop t ++ ow.take t = ow2 at hmem hlen';replace owb:∀ x ∈ ow2,0 <= x /\ x < base.length:=fun x hx=>owb x ((hmem x).mp hx);replace ows:∀ g:Int,0 <= g -> g < base.length -> g ∈ ow2:=fun g g0 g1=>(hmem g).mpr (ows g g0 g1);have nw6:=nw5'.trans (nw5'.gen.lst (ow2.map D.int) (zV _ _));have e6:(M5 ++ [MO.lst (ow2.map D.int)])[M5.length]? = some (.lst (ow2.map D.int)):=zd _ _;have hj6:M.length <= M5.length:=nw5'.len;generalize M5 ++ [MO.lst (ow2.map D.int)] = M6 at nw6 e6;generalize M5.length = j at e6 hj6;show OkS (zT _ _ [some (.ref n),some (.int most),some (.int lm),some (mD base),some (.int many),some (.ref j),none,some (.int (t:Nat)),none,none,none,none,none] M6) _;rw [zG,zR];refine zCQ.mpr (zAt.mpr ⟨zY (by simp),zf ?_⟩);rw [zL];have nw7:=nw6.trans (nw6.gen.lst [] rfl);have e8:(M6 ++ [MO.lst ([]:List D)])[M6.length]? = some (.lst []):=zd _ _;have hj8:M.length <= M6.length:=nw6.len;have hjlt:j < M6.length:=(zQQ.mp e6).1;have e6':(M6 ++ [MO.lst ([]:List D)])[j]? = some (.lst (ow2.map D.int)):=by rw [zQU hjlt]; exact e6
 generalize M6 ++ [MO.lst ([]:List D)] = M7 at nw7 e8 e6';generalize M6.length = j8 at e8 hj8 hjlt;show OkS (zT _ _ [some (.ref n),some (.int most),some (.int lm),some (mD base),some (.int many),some (.ref j),none,some (.int (t:Nat)),some (.ref j8),none,none,none,none] M7) _;rw [zG,zA2];refine ⟨_,_,_,zAs (x:=.dat (.ref j)) rfl (za e6'),?_⟩;refine zAS (I:=fun r σ M'=>(∃ y6 y9 y10 y11 y12,σ = [some (.ref n),some (.int most),some (.int lm),some (mD base),some (.int many),some (.ref j),y6,some (.int (t:Nat)),some (.ref j8),y9,y10,y11,y12]) /\ ∃ (r' us:List Int) (zA:List (List Int)),r = r'.map D.int /\ us ++ r' = ow2 /\ zA.length = us.length /\ (∀ i:Nat,i < us.length -> (zA.getD i []).map (pg ow2) = base.getD (us.getD i 0).toNat []) /\ (∀ x ∈ r',x ∈ ow2) /\ zA.length + r'.length = many /\ (∀ q ∈ zA,q.length = l /\ ∀ g ∈ q,0 <= g /\ g < (many:Int)) /\ M'[j]? = some (.lst (ow2.map D.int)) /\ M'[j8]? = some (.lst (zA.map fun r=>D.tup (r.map D.int))) /\ Nw M M' n k) ?_ ?_ _ _ _ ⟨⟨_,_,_,_,_,rfl⟩,ow2,[],[],rfl,rfl,rfl,(fun _ h=>by cases h),fun _ h=>h,by simpa using hlen',(fun _ h=>by cases h),e6',e8,nw7⟩
 ·rintro x r σ M' ⟨⟨y6,y9,y10,y11,y12,rfl⟩,r',us,zA,hr,hus,hul,hbs,hsub,hrl,hrw,ej,ej8,nw⟩;obtain ⟨o,r'',rfl,rfl,rfl⟩:=zAP hr;refine ⟨.inl ej,_,rfl,?_⟩;obtain ⟨o0,o1⟩:=owb o (hsub o zQb);obtain ⟨bl,bb⟩:=mb.get (h:=o) o0 o1;show OkS (zT _ _ [some (.ref n),some (.int most),some (.int lm),some (mD base),some (.int many),some (.ref j),y6,some (.int (t:Nat)),some (.ref j8),some (.int o),y10,y11,y12] M') _;rw [zG,zR];refine zCQ.mpr (zAt.mpr ⟨zY (by simp),zf ?_⟩);rw [zL];have nwa:=nw.trans (nw.gen.lst [] rfl);have e10:(M' ++ [MO.lst ([]:List D)])[M'.length]? = some (.lst []):=zd _ _;have hj10:M.length <= M'.length:=nw.len;have l8:j8 < M'.length:=(zQQ.mp ej8).1;have l5:j < M'.length:=(zQQ.mp ej).1;have ej':(M' ++ [MO.lst ([]:List D)])[j]? = some (.lst (ow2.map D.int)):=by rw [zQU l5]; exact ej
  have ej8':(M' ++ [MO.lst ([]:List D)])[j8]? = some (.lst (zA.map fun r=>D.tup (r.map D.int))):=by rw [zQU l8]; exact ej8
  generalize M' ++ [MO.lst ([]:List D)] = Ma at nwa e10 ej' ej8';generalize M'.length = j10 at e10 hj10 l8 l5;show OkS (zT _ _ [some (.ref n),some (.int most),some (.int lm),some (mD base),some (.int many),some (.ref j),y6,some (.int (t:Nat)),some (.ref j8),some (.int o),some (.ref j10),y11,y12] Ma) _;generalize hrow:base.getD o.toNat [] = row at bl bb;rw [zG,zA2];have erow:fOp kIx (zC 3) (zC 9) [some (.ref n),some (.int most),some (.int lm),some (mD base),some (.int many),some (.ref j),y6,some (.int (t:Nat)),some (.ref j8),some (.int o),some (.ref j10),y11,y12] Ma = some (.dat (.tup (row.map D.int)),Ma):=by
   rw [<- hrow];exact zK rfl rfl (zAw zAR (zF1 o0 o1))
  refine ⟨_,_,_,zDp erow,?_⟩;refine zAS (I:=fun r σ M''=>(∃ y6 y11 y12,σ = [some (.ref n),some (.int most),some (.int lm),some (mD base),some (.int many),some (.ref j),y6,some (.int (t:Nat)),some (.ref j8),some (.int o),some (.ref j10),y11,y12]) /\ ∃ (r' q:List Int),r = r'.map D.int /\ q.map (pg ow2) ++ r' = row /\ (∀ x ∈ r',x ∈ row) /\ q.length + r'.length = l /\ (∀ g ∈ q,0 <= g /\ g < (many:Int)) /\ M''[j]? = some (.lst (ow2.map D.int)) /\ M''[j8]? = some (.lst (zA.map fun r=>D.tup (r.map D.int))) /\ M''[j10]? = some (.lst (q.map D.int)) /\ Nw M M'' n k) ?_ ?_ _ _ _ ⟨⟨_,_,_,rfl⟩,row,[],rfl,rfl,fun _ h=>h,by simpa using bl,(fun _ h=>by cases h),ej',ej8',e10,nwa⟩
  ·rintro x r σ Mx ⟨⟨y6,y11,y12,rfl⟩,r',q,hr',hqr,hsub',hql,hq,f5,f8,f10,nwx⟩;obtain ⟨g,rr,rfl,rfl,rfl⟩:=zAP hr';refine ⟨zo,_,rfl,?_⟩;obtain ⟨g0,g1⟩:=bb g (hsub' g zQb);show OkS (zT _ _ [some (.ref n),some (.int most),some (.int lm),some (mD base),some (.int many),some (.ref j),y6,some (.int (t:Nat)),some (.ref j8),some (.int o),some (.ref j10),some (.int g),y12] Mx) _;rw [zG,zR];refine Ok.mono (zGg (by omega) hlen' f5 (ows g g0 g1)) ?_;rintro x M9 ⟨rfl,c,rfl,hne,hcz,hc⟩;refine zf ?_;rw [zL,zBl];have nwb:=nwx.trans (nwx.gen.lst (c.map D.int) (zV _ _));have e12:(M9 ++ [MO.lst (c.map D.int)])[M9.length]? = some (.lst (c.map D.int)):=zd _ _;have p5:j < M9.length:=(zQQ.mp f5).1;have p8:j8 < M9.length:=(zQQ.mp f8).1;have p10:j10 < M9.length:=(zQQ.mp f10).1;have f5':(M9 ++ [MO.lst (c.map D.int)])[j]? = some (.lst (ow2.map D.int)):=by rw [zQU p5]; exact f5
   have f8':(M9 ++ [MO.lst (c.map D.int)])[j8]? = some (.lst (zA.map fun r=>D.tup (r.map D.int))):=by rw [zQU p8]; exact f8
   have f10':(M9 ++ [MO.lst (c.map D.int)])[j10]? = some (.lst (q.map D.int)):=by rw [zQU p10]; exact f10
   have hj12:M.length <= M9.length:=nwx.len;generalize M9 ++ [MO.lst (c.map D.int)] = Mb at nwb e12 f5' f8' f10';generalize M9.length = j12 at e12 hj12 p5 p8 p10;show Ok (fM _ _ _ [some (.ref n),some (.int most),some (.int lm),some (mD base),some (.int many),some (.ref j),y6,some (.int (t:Nat)),some (.ref j8),some (.int o),some (.ref j10),some (.int g),some (.ref j12)] Mb) _;have hcl0:0 < c.length:=List.length_pos_iff.mpr hne;have elen:fB zAO (zN (zC 12) zc) [some (.ref n),some (.int most),some (.int lm),some (mD base),some (.int many),some (.ref j),y6,some (.int (t:Nat)),some (.ref j8),some (.int o),some (.ref j10),some (.int g),some (.ref j12)] Mb = some (.dat (.int c.length),Mb):=by
    have:=zBm (f:=zC 12) (σ:=[some (.ref n),some (.int most),some (.int lm),some (mD base),some (.int many),some (.ref j),y6,some (.int (t:Nat)),some (.ref j8),some (.int o),some (.ref j10),some (.int g),some (.ref j12)]) (M:=Mb) rfl (za e12);rw [zQW] at this; exact this
   refine zGo.mpr (zq.mpr ⟨_,rfl,⟨_,zAD f10'⟩,zAr.mpr (zAd.mpr (zAj.mpr (zq.mpr ⟨_,rfl,?_⟩)))⟩);refine zAI nwb.gen rfl elen (by omega) (by omega) fun z Mc z0 z1 nwc _=>?_;have h12:=nwc.get e12 (by omega) (by omega);refine zOG (za h12) (zB0 z0 z1) ?_;obtain ⟨hcv,hcv2⟩:=hc (c.getD z.toNat 0) (by rw [zQS,zQR (by omega)]; exact zQv _);have h5:=nwc.get f5' (by omega) (by omega);have h8:=nwc.get f8' (by omega) (by omega);have h10:=nwc.get f10' (by omega) (by omega);generalize c.getD z.toNat 0 = v at hcv hcv2;have hcv2:pg ow2 v = g:=hcv2;have hql':q.length < l:=by simp at hql; omega
   rw [zI,zAt,zCN h10 (by rw [zQW]; exact zQm (m:=95000) (by omega) (zY (by omega)))];refine ⟨⟨_,_,_,rfl⟩,rr,q ++ [v],rfl,by rw [<- hqr,zRF,<- hcv2]; simp,fun x hx=>hsub' x (zQa _ hx),by simp at hql ⊢; omega,fun x hx=>?_,?_,?_,?_,?_⟩
   ·rcases zQn.mp hx with w | w
    ·exact hq x w
    ·have:x = v:=by simpa using w
     subst this; exact hcv
   ·rw [zQr (by omega)]; exact h5
   ·rw [zQr (by omega)]; exact h8
   ·rw [zRH (zQQ.mp h10).1,zRF]; rfl
   ·refine (nwb.trans nwc).setB h (by omega) ?_;show D.unds _ _ = true;rw [zC4,zV]; rfl
  ·rintro σ Mx ⟨⟨y6,y11,y12,rfl⟩,r',q,hr',hqr,hsub',hql,hq,f5,f8,f10,nwx⟩;have:r' = []:=by cases r' with | nil=>rfl | cons _ _=>cases hr'
   subst this;refine ⟨zo,?_⟩;rw [zL,zBl];have et:fB zx (zN (zC 10) zc) [some (.ref n),some (.int most),some (.int lm),some (mD base),some (.int many),some (.ref j),y6,some (.int (t:Nat)),some (.ref j8),some (.int o),some (.ref j10),y11,y12] Mx = some (.dat (.tup (q.map D.int)),Mx):=zAv (x:=.dat (.ref j10)) rfl (za f10);refine zGo.mpr (zq.mpr ⟨_,rfl,⟨_,zAD f8⟩,zE (zAH et) ?_⟩);have hrl':zA.length < many:=by simp at hrl; omega
   rw [zCN f8 (by rw [zQW]; exact zQm (m:=95000) (by omega) (zY (by omega)))];refine ⟨⟨_,_,_,_,_,rfl⟩,r'',us ++ [o],zA ++ [q],rfl,by rw [<- hus]; simp,by simp [hul],zLV hul hbs (by rw [hrow,<- hqr]; simp),fun x hx=>hsub x (zQa _ hx),by simp at hrl ⊢; omega,fun x hx=>?_,?_,?_,?_⟩
   ·rcases zQn.mp hx with w | w
    ·exact hrw x w
    ·have:x = q:=by simpa using w
     subst this; exact ⟨by simpa using hql,hq⟩
   ·rw [zQr (by omega)]; exact f5
   ·rw [zRH (zQQ.mp f8).1,zRF]; rfl
   ·refine nwx.setB h hj8 ?_;show D.unds _ _ = true;rw [zC4,zJn];simp [D.unds,zAp]
 ·rintro σ M' ⟨⟨y6,y9,y10,y11,y12,rfl⟩,r',us,zA,hr,hus,hul,hbs,hsub,hrl,hrw,ej,ej8,nw⟩;have:r' = []:=by cases r' with | nil=>rfl | cons _ _=>cases hr
  subst this;refine ⟨.inl ej,?_⟩;rw [zL];have hrl':zA.length = many:=by simpa using hrl
  refine zAn (zOf (zAM (d:=mD zA) (zAv (x:=.dat (.ref j8)) rfl (za ej8)) (zAH (d:=.ref j) rfl)) (by simp)) ⟨zA,l,j,ow2,rfl,⟨by omega,l0,fun q hq=>?_⟩,by omega,hL,ej,by omega,zNr (base:=base) (fun q hq=>(hrw q hq).1) (by rw [<- hus]; simp [hul]) (by rw [zQ7] at hus; subst hus; rw [hul]; exact hbs),hj6,nw⟩;obtain ⟨q1,q2⟩:=hrw q hq;exact ⟨q1,fun g hg=>by rw [hrl']; exact q2 g hg⟩
set_option genInjectivity true in
inductive Eqv (n:Nat) (R:Int -> Int -> Prop):Int -> Int -> Prop
 | base {a b:Int}:R a b -> Eqv n R a b
 | refl (a:Int):Eqv n R a a
 | symm {a b:Int}:Eqv n R a b -> Eqv n R b a
 | trans {a b c:Int}:Eqv n R a b -> (0 <= b /\ b < (n:Int)) -> Eqv n R b c -> Eqv n R a c
theorem Eqv.sub (h:∀ a b,R a b -> Eqv n S a b) (e:Eqv n R a b):Eqv n S a b:=by
 induction e with
 | base r=>exact h _ _ r
 | refl a=>exact .refl a
 | symm _ ih=>exact ih.symm
 | trans _ z _ i1 i2=>exact .trans i1 z i2
theorem Eqv.fn {n:Nat} {R:Int -> Int -> Prop} {f:Int -> Int} (h:∀ a b,R a b -> f a = f b) {a b:Int} (e:Eqv n R a b):f a = f b:=by
 induction e with
 | base r=>exact h _ _ r
 | refl a=>rfl
 | symm _ ih=>exact ih.symm
 | trans _ z _ i1 i2=>exact i1.trans i2
theorem Eqv.step (m:IsM zA l) (hx:0 <= x /\ x < (l:Int)) (h:∀ a b,R a b -> Eqv zA.length R (zAa zA a x) (zAa zA b x)) (e:Eqv zA.length R a b):Eqv zA.length R (zAa zA a x) (zAa zA b x):=by
 induction e with
 | base r=>exact h _ _ r
 | refl a=>exact .refl _
 | symm _ ih=>exact ih.symm
 | trans _ z _ i1 i2=>exact .trans i1 (m.step z.1 z.2 hx.1 hx.2) i2
set_option genInjectivity true in
inductive Rea (zA:List (List Int)) (l:Nat) (ps:List (List Int)):Int -> Int -> Prop
 | base {a b:Int}:[a,b] ∈ ps -> Rea zA l ps a b
 | step {a b x:Int}:Rea zA l ps a b -> (0 <= x /\ x < (l:Int)) -> Rea zA l ps (zAa zA a x) (zAa zA b x)
def InR (n:Nat) (p:List Int):Prop:=∃ a b:Int,p = [a,b] /\ (0 <= a /\ a < (n:Int)) /\ 0 <= b /\ b < (n:Int)
theorem Rea.inr (m:IsM zA l) (hp:∀ p ∈ ps,InR zA.length p) (h:Rea zA l ps a b):(0 <= a /\ a < (zA.length:Int)) /\ 0 <= b /\ b < (zA.length:Int):=by
 induction h with
 | base h=>
  obtain ⟨a,b,e,z⟩:=hp _ h;cases e; exact z
 | step _ hx ih=>exact ⟨m.step ih.1.1 ih.1.2 hx.1 hx.2,m.step ih.2.1 ih.2.2 hx.1 hx.2⟩
def mrg (c:List Int) (x y:Int):List Int:=c.map fun z=>if z = x then y else z
theorem zL5 (c:List Int) (x y:Int):(mrg c x y).length = c.length:=by unfold mrg; simp
theorem zDJ (h:0 <= a /\ a < (c.length:Int)):pg (mrg c x y) a = if pg c a = x then y else pg c a:=by
 unfold pg mrg;have:a.toNat < c.length:=by omega
 rw [zQS,zQk,zQS,zQR this]; rfl
def Cls (n:Nat) (c:List Int) (R:Int -> Int -> Prop):Prop:=c.length = n /\ ∀ a b:Int,0 <= a /\ a < (n:Int) -> 0 <= b /\ b < (n:Int) -> (pg c a = pg c b ↔ Eqv n R a b)
theorem zMs {n:Nat} {c:List Int} {R S:Int -> Int -> Prop} (h:Cls n c R) (hr:∀ a b,R a b -> (0 <= a /\ a < (n:Int)) /\ 0 <= b /\ b < (n:Int)) {o t:Int} (ho:0 <= o /\ o < (n:Int)) (ht:0 <= t /\ t < (n:Int))
  (h1:∀ a b,R a b -> S a b) (h2:Eqv n S o t) (h3:∀ a b,S a b -> R a b \/ (a = o /\ b = t) \/ (a = t /\ b = o)):Cls n (mrg c (pg c t) (pg c o)) S:=by
 obtain ⟨hl,hc⟩:=h;have up:∀ {a b},Eqv n R a b -> Eqv n S a b:=fun e=>e.sub fun a b r=> .base (h1 a b r);have eo:pg (mrg c (pg c t) (pg c o)) o = pg c o:=by rw [zDJ (by omega)]; split <;> rfl
 have et:pg (mrg c (pg c t) (pg c o)) t = pg c o:=by rw [zDJ (by omega),zQc rfl]
 refine ⟨by rw [zL5,hl],fun a b ha hb=>⟨fun e=>?_,fun e=>?_⟩⟩
 ·rw [zDJ (by omega),zDJ (by omega)] at e;by_cases q1:pg c a = pg c t
  ·by_cases q2:pg c b = pg c t
   ·exact up ((hc a b ha hb).mp (q1.trans q2.symm))
   ·rw [zQc q1,zQf q2] at e;exact .trans (up ((hc a t ha ht).mp q1)) ht (.trans h2.symm ho (up ((hc o b ho hb).mp e)))
  ·by_cases q2:pg c b = pg c t
   ·rw [zQf q1,zQc q2] at e;exact .trans (up ((hc a o ha ho).mp e)) ho (.trans h2 ht (up ((hc t b ht hb).mp q2.symm)))
   ·rw [zQf q1,zQf q2] at e;exact up ((hc a b ha hb).mp e)
 ·refine Eqv.fn (f:=pg (mrg c (pg c t) (pg c o))) (fun a b r=>?_) e;rcases h3 a b r with z | ⟨rfl,rfl⟩ | ⟨rfl,rfl⟩
  ·obtain ⟨ia,ib⟩:=hr a b z;rw [zDJ (by omega),zDJ (by omega),(hc a b ia ib).mpr (.base z)]
  ·rw [eo,et]
  ·rw [eo,et]
theorem zIj (n:Nat) {R:Int -> Int -> Prop} (h:∀ a b,¬ R a b):Cls n ((List.range n).map fun (k:Nat)=>(k:Int)) R:=by
 have e:∀ a:Int,0 <= a /\ a < (n:Int) -> pg ((List.range n).map fun (k:Nat)=>(k:Int)) a = a:=fun a ha=>by
  unfold pg;rw [zQS,zQk,List.getElem?_range (by omega)];show ((a.toNat:Nat):Int) = a;omega
 refine ⟨by simp,fun a b ha hb=>⟨fun q=>?_,fun q=>?_⟩⟩
 ·rw [e a ha,e b hb] at q; subst q; exact .refl a
 ·exact Eqv.fn (f:=pg _) (fun a b r=>absurd r (h a b)) q
theorem Cls.congr (h:Cls n c R) (h1:∀ a b,R a b -> Eqv n S a b) (h2:∀ a b,S a b -> Eqv n R a b):Cls n c S :=
 ⟨h.1,fun a b ha hb=>(h.2 a b ha hb).trans ⟨fun e=>e.sub h1,fun e=>e.sub h2⟩⟩
theorem zKL (ha:0 <= a /\ a < (c.length:Int)) (hb:0 <= b /\ b < (c.length:Int)):pg (zBn c) a = pg (zBn c) b ↔ pg c a = pg c b:=zLI (by omega) (by omega)
theorem zOT (m:IsM zA l) (hl:c.length = zA.length) (h:Kp zA l c):Kp zA l (zBn c):=fun a b x ha hb hx e=>by
 rw [zKL (by rw [hl]; exact ha) (by rw [hl]; exact hb)] at e;rw [zKL (by rw [hl]; exact m.step ha.1 ha.2 hx.1 hx.2) (by rw [hl]; exact m.step hb.1 hb.2 hx.1 hx.2)];exact h a b x ha hb hx e
theorem zNT (m:IsM zA l) (h:Cls zA.length c (Rea zA l ps)):Kp zA l c:=fun a b x ha hb hx e=>
 (h.2 _ _ (m.step ha.1 ha.2 hx.1 hx.2) (m.step hb.1 hb.2 hx.1 hx.2)).mpr (((h.2 a b ha hb).mp e).step m hx fun _ _ r=> .base (r.step hx))
noncomputable def zB1:FS:=(zT (zp 2 (fB zD1 (zN (zC 1) zc)))
  (zT (zp 3 (fB (zCd true) (zN (zk [4] (zAY (zC 1)) (gN 4) zt (zBf (zD (toD (zC 4)) (zD (toD (fC (.bl true))) zJ)))) zc)))
  (zT (zp 5 (fC (.int 0)))
  (zT (zA7 (tst (fOp kLt (zC 5) (fB zAO (zN (zC 2) zc)))) (zT (zBs (zEF (zD (toD (fOp kIx (zC 0) (fOp kIx (fOp kIx (zC 2) (zC 5)) (fC (.int 0))))) (zD (toD (fOp kIx (zC 0) (fOp kIx (fOp kIx (zC 2) (zC 5)) (fC (.int 1))))) zJ))) (gN 6) (sIf (tst (fOp (zGW true) (zC 6) (zC 3))) (zT (zC3 (fC (.bl true)) (zC 3) (zC 6))
  (zBL (fM zAB (zC 2) (zD (toD (zC 6)) zJ)))) zAl))
  (zp 5 (fOp zAb (zC 5) (fC (.int 1))))) 2000)
  (zT (zp 7 (zCE (fB zAO (zN (zC 0) zc))))
  (zT (zBs (zAY (zC 2)) (zBU 8 9) (zp 7 (zk [10] (zAY (zC 7)) (gN 10) zt (vIf (tst (fOp kEq (zC 10) (fOp kIx (zC 7) (zC 9)))) (fOp kIx (zC 7) (zC 8)) (zC 10)))))
  (zAi (zW zAG (zD (toD (zC 7)) zJ)))))))))
noncomputable def zAm:FF:=zEC (zCe 11 zB1)
abbrev bT:D:=.bl true
structure Kn (T:List (List Int × D)) (R:List (List Int)):Prop where
 at':∀ g,(zAA T g).isSome = decide (g ∈ R)
 len:T.length <= R.length
 val:∀ q ∈ T,q.2 = bT
theorem zK0 (h:Kn T R) (g:List Int):Kn (zDN T g bT) (R ++ [g]):=by
 refine ⟨fun x=>?_,by have:=zKY T g bT; have:=h.len; simp; omega,fun q hq=>?_⟩
 ·rw [zIi];by_cases e:g = x
  ·subst e; simp
  ·rw [zQf e,h.at'];have:¬ x = g:=fun z=>e z.symm;simp [this]
 ·unfold zDN at hq;split at hq
  ·obtain ⟨r,hr,rfl⟩:=zQe.mp hq;split
   ·rfl
   ·exact h.val r hr
  ·rcases zQn.mp hq with z | z
   ·exact h.val q z
   ·rw [zQp] at z; subst z; rfl
theorem zGc:∀ (r q:List (List Int)) (T:List (List Int × D)),Kn T q -> (q ++ r).length <= 80000 -> ∃ T',Kn T' (q ++ r) /\ L3.zDO A.length (r.map fun g=>D.tup [tI g,bT]) (A ++ [dT T]) = some (A ++ [dT T'])
 | [],q,T,h,_=>⟨T,by rw [zQ7]; exact h,rfl⟩
 | g :: r,q,T,h,hz=>by
  have hl:T.length < 90000:=by have:=h.len; simp at hz; omega
  obtain ⟨T',h',e⟩:=zGc (A:=A) r (q ++ [g]) (zDN T g bT) (zK0 h g) (by simpa using hz);refine ⟨T',by simpa using h',?_⟩;rw [zQg];unfold L3.zDO;rw [zMz (T:=T) (zd _ _) hl];dsimp only;rw [List.set_append_right _ _ (zQT _),Nat.sub_self,List.set_cons_zero];exact e
structure JI (zA:List (List Int)) (l:Nat) (ps R:List (List Int)) (i:Nat):Prop where
 pre:∃ N,R = ps ++ N /\ N.Nodup
 rea:∀ g ∈ R,∃ a b,g = [a,b] /\ Rea zA l ps a b
 cl:∀ k,k < i -> ∀ a b,R[k]? = some [a,b] -> ∀ x:Int,0 <= x /\ x < (l:Int) -> [zAa zA a x,zAa zA b x] ∈ R
def zMR (n:Nat):List (List Int):=(List.range n).flatMap fun (a:Nat)=>(List.range n).map fun (b:Nat)=>[(a:Int),(b:Int)]
theorem zLJ (n:Nat):(zMR n).length = n * n:=by
 unfold zMR;rw [List.length_flatMap];simp [List.map_const']
theorem zKX {n:Nat} {a b:Int} (ha:0 <= a /\ a < (n:Int)) (hb:0 <= b /\ b < (n:Int)):[a,b] ∈ zMR n:=by
 unfold zMR;rw [List.mem_flatMap];refine ⟨a.toNat,zQ1.mpr (by omega),zQe.mpr ⟨b.toNat,zQ1.mpr (by omega),?_⟩⟩;rw [show ((a.toNat:Nat):Int) = a by omega,show ((b.toNat:Nat):Int) = b by omega]
section
variable {zA:List (List Int)} {l:Nat} {ps R:List (List Int)} {i:Nat}
theorem JI.len (m:IsM zA l) (hp:∀ p ∈ ps,InR zA.length p) (h:JI zA l ps R i):R.length <= ps.length + zA.length * zA.length:=by
 obtain ⟨N,rfl,nd⟩:=h.pre;rw [zQd,<- zLJ];refine Nat.add_le_add_left (zCw _ _ nd fun g hg=>?_) _;obtain ⟨a,b,rfl,r⟩:=h.rea g (zQh _ hg);obtain ⟨ia,ib⟩:=r.inr m hp;exact zKX ia ib
theorem JI.add (h:JI zA l ps R i) (r:Rea zA l ps a b) (n:[a,b] ∉ R) (hi:i <= R.length):JI zA l ps (R ++ [[a,b]]) i:=by
 obtain ⟨N,e,nd⟩:=h.pre;refine ⟨⟨N ++ [[a,b]],by rw [e]; simp,?_⟩,fun g hg=>?_,fun k hk c d q x hx=>?_⟩
 ·rw [List.nodup_append];refine ⟨nd,by simp,fun u hu v hv z=>?_⟩;rw [zQp] at hv;subst hv; subst z;exact n (by rw [e]; exact zQh _ hu)
 ·rcases zQn.mp hg with z | z
  ·exact h.rea g z
  ·rw [zQp] at z; subst z; exact ⟨a,b,rfl,r⟩
 ·rw [zQU (by omega)] at q;exact zRc _ (h.cl k hk c d q x hx)
theorem zK4 (m:IsM zA l) (ha:0 <= a /\ a < (zA.length:Int)) (hb:0 <= b /\ b < (zA.length:Int)):(zA.getD a.toNat []).zip (zA.getD b.toNat []) = (List.range l).map fun (x:Nat)=>(zAa zA a (x:Int),zAa zA b (x:Int)):=by
 obtain ⟨la,_⟩:=m.get ha.1 ha.2;obtain ⟨lb,_⟩:=m.get hb.1 hb.2;unfold zAa;generalize zA.getD a.toNat [] = A at la;generalize zA.getD b.toNat [] = B at lb;apply List.ext_getElem
 ·simp [la,lb]
 ·intro i h1 h2;simp at h1 h2;simp [show i < A.length by omega,show i < B.length by omega]
end
abbrev joS (zA:List (List Int)) (j J:Nat) (i:Nat) (y6:Option D):Sd:=[some (mD zA),some (.ref j),some (.ref J),some (.ref (J + 1)),none,some (.int (i:Int)),y6,none,none,none,none]
theorem zMo (m:IsM zA l) (hp:∀ p ∈ ps,InR zA.length p) (hz:ps.length + zA.length * zA.length <= 5000) (hi:i < R.length) (ji:JI zA l ps R i) (kn:Kn T R) :
  OkS (zBs (zEF (zD (toD (fOp kIx (zC 0) (fOp kIx (fOp kIx (zC 2) (zC 5)) (fC (.int 0))))) (zD (toD (fOp kIx (zC 0) (fOp kIx (fOp kIx (zC 2) (zC 5)) (fC (.int 1))))) zJ))) (gN 6) (sIf (tst (fOp (zGW true) (zC 6) (zC 3))) (zT (zC3 (fC (.bl true)) (zC 3) (zC 6))
  (zBL (fM zAB (zC 2) (zD (toD (zC 6)) zJ)))) zAl) (joS zA j M.length i y6) (M ++ [.lst (R.map tI),dT T]))
   fun o σ' M'=>o = .nx /\ ∃ y6 R' T',σ' = joS zA j M.length i y6 /\ M' = M ++ [.lst (R'.map tI),dT T'] /\ i < R'.length /\ JI zA l ps R' (i + 1) /\ Kn T' R':=by
 obtain ⟨a,b,eR,rab⟩:=ji.rea (R[i]) (zQv hi);obtain ⟨ia,ib⟩:=rab.inr m hp;have eR':R[i]? = some [a,b]:=by rw [zQR hi,eR]
 have g2:∀ (u v:MO),(M ++ [u,v])[M.length]? = some u:=fun u v=>by simp
 have g3:∀ (u v:MO),(M ++ [u,v])[M.length + 1]? = some v:=fun u v=>by rw [zRX (by omega)]; simp
 have ra:=zF1 (zA:=zA) ia.1 ia.2;have rb:=zF1 (zA:=zA) ib.1 ib.2;have ei:fOp kIx (zC 2) (zC 5) (joS zA j M.length i y6) (M ++ [.lst (R.map tI),dT T]) = some (.dat (tI [a,b]),M ++ [.lst (R.map tI),dT T]):=zK (x:=.dat (.ref M.length)) (y:=.dat (.int (i:Int))) rfl rfl (zAw (za (g2 _ _)) (zH3 (by rw [zQk,eR']; rfl)));have ez:zEF (zD (toD (fOp kIx (zC 0) (fOp kIx (fOp kIx (zC 2) (zC 5)) (fC (.int 0))))) (zD (toD (fOp kIx (zC 0) (fOp kIx (fOp kIx (zC 2) (zC 5)) (fC (.int 1))))) zJ)) (joS zA j M.length i y6) (M ++ [.lst (R.map tI),dT T]) = some (((List.range l).map fun (x:Nat)=>[zAa zA a (x:Int),zAa zA b (x:Int)]).map tI,some fun M=>zg M (.dat (.tup ((zA.getD a.toNat []).map D.int))) = some ((zA.getD a.toNat []).map D.int) /\ zg M (.dat (.tup ((zA.getD b.toNat []).map D.int))) = some ((zA.getD b.toNat []).map D.int),M ++ [.lst (R.map tI),dT T]):=by
  unfold zEF;rw [zAM (d:=.tup ((zA.getD a.toNat []).map D.int)) (zK (x:=.dat (mD zA)) (y:=.dat (.int a)) rfl (zK (x:=.dat (tI [a,b])) (y:=.dat (.int 0)) ei rfl (zAw zAR rfl)) (zAw zAR ra)) (zAH (d:=.tup ((zA.getD b.toNat []).map D.int)) (zK (x:=.dat (mD zA)) (y:=.dat (.int b)) rfl (zK (x:=.dat (tI [a,b])) (y:=.dat (.int 1)) ei rfl (zAw zAR rfl)) (zAw zAR rb)))];dsimp only;rw [show zg (M ++ [.lst (R.map tI),dT T]) (.dat (.tup ((zA.getD a.toNat []).map D.int))) = some ((zA.getD a.toNat []).map D.int) from rfl,show zg (M ++ [.lst (R.map tI),dT T]) (.dat (.tup ((zA.getD b.toNat []).map D.int))) = some ((zA.getD b.toNat []).map D.int) from rfl];dsimp only;rw [List.zip_map,zK4 m ia ib,zQl,zQl,zQl];rfl
 rw [zA2];refine ⟨_,_,_,ez,?_⟩;generalize hZ:((List.range l).map fun (x:Nat)=>[zAa zA a (x:Int),zAa zA b (x:Int)]) = Z;have hZm:∀ g ∈ Z,∃ c d,g = [c,d] /\ Rea zA l ps c d:=fun g hg=>by
  rw [<- hZ] at hg;obtain ⟨x,hx,rfl⟩:=zQe.mp hg;have:=zQ1.mp hx;exact ⟨_,_,rfl,rab.step (by omega)⟩
 refine zAS (I:=fun r σ M'=>∃ y6 R' T' us vs,σ = joS zA j M.length i y6 /\ M' = M ++ [.lst (R'.map tI),dT T'] /\ r = (vs:List (List Int)).map tI /\ Z = us ++ vs /\ (∀ g ∈ us,g ∈ R') /\ (∃ N,R' = R ++ N) /\ JI zA l ps R' i /\ Kn T' R') ?_ ?_ _ _ _ ⟨y6,R,T,[],Z,rfl,rfl,rfl,rfl,(fun _ h=>by cases h),⟨[],by simp⟩,ji,kn⟩
 ·rintro x r σ M' ⟨y,R',T',us,vs,rfl,rfl,hr,huv,hus,⟨N,hN⟩,ji',kn'⟩;cases vs with
  | nil=>cases hr
  | cons g vs=>
   rw [zQg] at hr;obtain ⟨rfl,rfl⟩:=zRR hr;refine ⟨⟨rfl,rfl⟩,_,rfl,?_⟩;show OkS (sIf _ _ _ (joS zA j M.length i (some (tI g))) (M ++ [.lst (R'.map tI),dT T'])) _;rw [zAT];refine zE (M:=M ++ [.lst (R'.map tI),dT T']) (a:=!decide (g ∈ R')) (zAc (zK (x:=.dat (tI g)) (y:=.dat (.ref (M.length + 1))) rfl rfl ((zP1 (g3 _ _)).trans (by rw [kn'.at']; rfl)))) ?_;have hlen:=ji'.len m hp;by_cases hg:g ∈ R'
   ·rw [zQf (by simp [hg]),zAC];refine ⟨_,R',T',us ++ [g],vs,rfl,rfl,rfl,by rw [huv]; simp,fun x hx=>?_,⟨N,hN⟩,ji',kn'⟩;rcases zQn.mp hx with z | z
    ·exact hus x z
    ·rw [zQp] at z; subst z; exact hg
   ·rw [zQc (by simp [hg]),zG];refine zEc (n:=M.length + 1) (k:=tI g) (v:=bT) rfl rfl rfl (zMz (g3 _ _) (by have:=kn'.len; omega)) ?_;rw [zL,zBl,show (M ++ [MO.lst (R'.map tI),dT T']).set (M.length + 1) (dT (zDN T' g bT)) = M ++ [.lst (R'.map tI),dT (zDN T' g bT)] by rw [List.set_append_right _ _ (by omega)]; simp];refine zGo.mpr (zq.mpr ⟨_,rfl,⟨_,zAD (g2 _ _)⟩,zE (zAH (d:=tI g) rfl) ?_⟩);rw [zCN (g2 _ _) (by rw [zQW]; exact zQm (m:=95000) (by omega) (zY (by omega)))];obtain ⟨c,d,rfl,rcd⟩:=hZm g (by rw [huv]; simp);refine ⟨_,R' ++ [[c,d]],zDN T' [c,d] bT,us ++ [[c,d]],vs,rfl,?_,rfl,by rw [huv]; simp,fun x hx=>?_,⟨N ++ [[c,d]],by rw [hN]; simp⟩,ji'.add rcd hg (by rw [hN]; simp; omega),zK0 kn' _⟩
    ·rw [List.set_append_right _ _ (by omega)]; simp
    ·rcases zQn.mp hx with z | z
     ·exact zRc _ (hus x z)
     ·exact zQh _ z
 ·rintro σ M' ⟨y,R',T',us,vs,rfl,rfl,hr,huv,hus,⟨N,hN⟩,ji',kn'⟩;have:vs = []:=by cases vs with | nil=>rfl | cons _ _=>cases hr
  subst this;rw [zQ7] at huv;refine ⟨⟨rfl,rfl⟩,rfl,y,R',T',rfl,rfl,by rw [hN]; simp; omega,⟨ji'.pre,ji'.rea,fun k hk c d q x hx=>?_⟩,kn'⟩;rcases Nat.lt_or_ge k i with z | z
  ·exact ji'.cl k z c d q x hx
  ·have:k = i:=by omega
   subst this;rw [hN,zQU hi,eR'] at q;cases q;refine hus _ ?_;rw [<- huv,<- hZ];exact zQe.mpr ⟨x.toNat,zQ1.mpr (by omega),by rw [show ((x.toNat:Nat):Int) = x by omega]⟩
theorem zLN (hp:∀ p ∈ ps,InR zA.length p):JI zA l ps ps 0:=by
 refine ⟨⟨[],by simp,.nil⟩,fun g hg=>?_,fun k hk=>by omega⟩;obtain ⟨a,b,rfl,_⟩:=hp g hg;exact ⟨a,b,rfl,.base hg⟩
theorem zN3 (h:JI zA l ps R R.length) (r:Rea zA l ps a b):[a,b] ∈ R:=by
 induction r with
 | base q=>
  obtain ⟨N,e,_⟩:=h.pre;rw [e]; exact zRc _ q
 | step _ hx ih=>
  obtain ⟨k,hk,e⟩:=List.getElem_of_mem ih;exact h.cl k hk _ _ (by rw [zQR hk,e]) _ hx
theorem zLQ (m:IsM zA l) (hp:∀ p ∈ ps,InR zA.length p) (hz:ps.length + zA.length * zA.length <= 1900) (kn:Kn T ps) :
  OkS (zA7 (tst (fOp kLt (zC 5) (fB zAO (zN (zC 2) zc)))) (zT (zBs (zEF (zD (toD (fOp kIx (zC 0) (fOp kIx (fOp kIx (zC 2) (zC 5)) (fC (.int 0))))) (zD (toD (fOp kIx (zC 0) (fOp kIx (fOp kIx (zC 2) (zC 5)) (fC (.int 1))))) zJ))) (gN 6) (sIf (tst (fOp (zGW true) (zC 6) (zC 3))) (zT (zC3 (fC (.bl true)) (zC 3) (zC 6))
  (zBL (fM zAB (zC 2) (zD (toD (zC 6)) zJ)))) zAl))
  (zp 5 (fOp zAb (zC 5) (fC (.int 1))))) 2000 (joS zA j M.length 0 none) (M ++ [.lst (ps.map tI),dT T]))
   fun o σ' M'=>o = .nx /\ ∃ i y6 R T,σ' = joS zA j M.length i y6 /\ M' = M ++ [.lst (R.map tI),dT T] /\ JI zA l ps R R.length /\ Kn T R:=by
 have g2:∀ (u v:MO),(M ++ [u,v])[M.length]? = some u:=fun u v=>by simp
 refine zDE (I:=fun k σ M'=>∃ i y6 R T,k + i = 1900 /\ σ = joS zA j M.length i y6 /\ M' = M ++ [.lst (R.map tI),dT T] /\ i <= R.length /\ JI zA l ps R i /\ Kn T R) ?_ 2000 1900 _ _ (by omega) ⟨0,none,ps,T,rfl,rfl,rfl,zQ9 _,zLN hp,kn⟩;rintro k σ M' ⟨i,y6,R,T,hk,rfl,rfl,hi,ji,kn⟩;have el:=zBm (f:=zC 2) (σ:=joS zA j M.length i y6) (M:=M ++ [.lst (R.map tI),dT T]) (x:=.dat (.ref M.length)) rfl (za (g2 _ _));rw [zQW] at el;refine zE (M:=M ++ [.lst (R.map tI),dT T]) (a:=decide ((i:Int) < (R.length:Int))) (zAc (zK (x:=.dat (.int (i:Int))) (y:=.dat (.int (R.length:Int))) rfl el (zO (zNc.mpr ⟨rfl,rfl⟩)))) ?_;have hlen:=ji.len m hp;by_cases q:i < R.length
 ·rw [zQc (by simp; omega),zG];refine OkS.mono (zMo m hp (by omega) q ji kn) ?_;rintro o σ' M2 ⟨rfl,y6,R',T',rfl,rfl,hi',ji',kn'⟩;rw [zL,zR];refine zE (M:=M ++ [.lst (R'.map tI),dT T']) (a:=.dat (.int ((i + 1:Nat):Int))) (zK (x:=.dat (.int (i:Int))) (y:=.dat (.int 1)) rfl rfl rfl) ?_;rw [zI];exact ⟨k - 1,by omega,i + 1,y6,R',T',by omega,rfl,rfl,by omega,ji',kn'⟩
 ·rw [zQf (by simp; omega)];have:i = R.length:=by omega
  subst this;exact ⟨rfl,_,y6,R,T,rfl,rfl,ji,kn⟩
theorem zKp (hz:c.length <= 1000) (hA:A[J]? = some (.lst (c.map D.int))) (ho:0 <= o /\ o < (c.length:Int)) (ht:0 <= t /\ t < (c.length:Int)) :
  zk [10] (zAY (zC 7)) (gN 10) zt (vIf (tst (fOp kEq (zC 10) (fOp kIx (zC 7) (zC 9)))) (fOp kIx (zC 7) (zC 8)) (zC 10)) [y0,y1,y2,y3,y4,y5,y6,some (.ref J),some (.int o),some (.int t),y10] A = some (.fl ((mrg c (pg c t) (pg c o)).map D.int),A):=by
 refine (zAF c D.int (fun z=> .int (if z = pg c t then pg c o else z)) (zAs (x:=.dat (.ref J)) rfl (za hA)) (.inl hA) (by omega) fun z hz=>⟨[y0,y1,y2,y3,y4,y5,y6,some (.ref J),some (.int o),some (.int t),some (.int z)],rfl,?_⟩).trans (by unfold mrg; rw [zQl]; rfl);refine zO (zNW.mpr (zE (M:=A) (a:=decide (z = pg c t)) (zAc (zK (x:=.dat (.int z)) (y:=.dat (.int (pg c t))) rfl (zK (x:=.dat (.ref J)) (y:=.dat (.int t)) rfl rfl (zAw (za hA) (zB0 ht.1 ht.2))) (zO (zHP.mpr ⟨rfl,rfl⟩)))) ?_));by_cases q:z = pg c t
 ·rw [zQc (by simpa using q),zQc q];exact zE (zK (x:=.dat (.ref J)) (y:=.dat (.int o)) rfl rfl (zAw (za hA) (zB0 ho.1 ho.2))) ⟨rfl,rfl⟩
 ·rw [zQf (by simpa using q),zQf q];exact zE (M:=A) (a:=.dat (.int z)) rfl ⟨rfl,rfl⟩
theorem zNb (h:∀ q ∈ T,q.2 = bT):MO.und n (dT T) = true:=by
 show ((zEj T).all fun p=>D.und n p.1 && D.und n p.2) = true;rw [zQy];intro p hp;obtain ⟨r,hr,rfl⟩:=zQe.mp hp;rw [h r hr];simp [tI,zAp,D.und,zV]
theorem zIl (m:IsM zA l) (hR:zA.length <= 26) (hp:∀ p ∈ ps,InR zA.length p) (hz:ps.length <= 1200) (wf:∀ (j:Nat) u,M[j]? = some u -> MO.und M.length u = true) (hj:M[j]? = some (.lst (ps.map tI))) :
  Ok (zAm [mD zA,.ref j] M) fun d M'=>M' = M /\ ∃ c,d = tI (zBn c) /\ Cls zA.length c (Rea zA l ps):=by
 have hmul:zA.length * zA.length <= 26 * 26:=Nat.mul_le_mul hR hR;have hjl:j < M.length:=(zQQ.mp hj).1;unfold zAm;refine zGA ?_;rw [zAq];unfold zB1;show OkS (zT _ _ [some (mD zA),some (.ref j),none,none,none,none,none,none,none,none,none] M) _;rw [zG,zR];refine zN7.mpr (zEe.mpr (zq.mpr ⟨_,rfl,zFb.mpr ((zOa (za hj)).mpr (zf ?_))⟩));rw [zL,zG,zR];simp only [List.set_cons_succ,List.set_cons_zero];have hj1:(M ++ [MO.lst (ps.map tI)])[j]? = some (.lst (ps.map tI)):=by rw [zQU hjl]; exact hj
 have ec:=zAF (own:=[4]) (g:=gN 4) (te:=zBf (zD (toD (zC 4)) (zD (toD (fC (.bl true))) zJ))) (fi:=zAY (zC 1)) (σ:=[some (mD zA),some (.ref j),some (.ref M.length),none,none,none,none,none,none,none,none]) (M:=M ++ [.lst (ps.map tI)]) ps tI (fun g=>D.tup [tI g,bT]) (zAs (x:=.dat (.ref j)) rfl (za hj1)) (.inl hj1) (by omega) fun g _=>⟨_,rfl,zOf (zAM (d:=tI g) rfl (zAH (d:=bT) rfl)) (by simp)⟩;obtain ⟨T,kn,eT⟩:=zGc (A:=M ++ [.lst (ps.map tI)]) ps [] [] ⟨fun g=>by simp [zAA],by simp,fun _ h=>by cases h⟩ (by simp; omega);rw [List.nil_append] at kn;have ed:fB (zCd true) (zN (zk [4] (zAY (zC 1)) (gN 4) zt (zBf (zD (toD (zC 4)) (zD (toD (fC (.bl true))) zJ)))) zc) [some (mD zA),some (.ref j),some (.ref M.length),none,none,none,none,none,none,none,none] (M ++ [.lst (ps.map tI)]) = some (.dat (.ref (M.length + 1)),M ++ [.lst (ps.map tI),dT T]):=by
  unfold fB zN zc;rw [ec];dsimp only;unfold zCd;dsimp only;rw [show zHZ true = dT [] from rfl,eT];simp
 refine zE ed ?_;rw [zI,zL];refine zD5 (d:=.int 0) rfl ?_;simp only [List.set_cons_succ,List.set_cons_zero];rw [zG];refine OkS.mono (zLQ m hp (by omega) kn) ?_;rintro o σ' M2 ⟨rfl,i,y6,R,T,rfl,rfl,ji,kn⟩;rw [zL,zG,zR];have hRl:=ji.len m hp;have elr:zCE (fB zAO (zN (zC 0) zc)) (joS zA j M.length i y6) (M ++ [.lst (R.map tI),dT T]) = some (.fl (((List.range zA.length).map fun (k:Nat)=>(k:Int)).map D.int),M ++ [.lst (R.map tI),dT T]):=by
  unfold zCE;rw [zA4 (zA:=zA) rfl];dsimp only;rw [zQc ⟨by omega,by omega⟩,zFs,show (zA.length:Int).toNat = zA.length by omega]
 refine zE elr (zf ?_);rw [zL,zG,zA2];have eR:∀ X:Mem,(M ++ [.lst (R.map tI),dT T] ++ X)[M.length]? = some (.lst (R.map tI)):=fun X=>by rw [List.append_assoc,zRX (zQT _)]; simp
 refine ⟨_,_,_,zAs (x:=.dat (.ref M.length)) rfl (za (eR _)),?_⟩;refine zAS (I:=fun r σ M'=>∃ (X:Mem) (J:Nat) (c:List Int) (us vs:List (List Int)) (y8 y9 y10:Option D),σ = [some (mD zA),some (.ref j),some (.ref M.length),some (.ref (M.length + 1)),none,some (.int (i:Int)),y6,some (.ref J),y8,y9,y10] /\ M' = M ++ [.lst (R.map tI),dT T] ++ X /\ (∀ u ∈ X,MO.und 0 u = true) /\ M'[J]? = some (.lst (c.map D.int)) /\ r = vs.map tI /\ R = us ++ vs /\ Cls zA.length c (fun a b=>[a,b] ∈ us)) ?_ ?_ _ _ _ ⟨[.lst (((List.range zA.length).map fun (k:Nat)=>(k:Int)).map D.int)],_,_,[],R,none,none,none,rfl,rfl,fun u hu=>?_,zd _ _,rfl,rfl,zIj _ fun a b h=>by cases h⟩
 ·rintro x r σ M' ⟨X,J,c,us,vs,y8,y9,y10,rfl,rfl,hX,hJ,hr,huv,hc⟩;cases vs with
  | nil=>cases hr
  | cons g vs=>
   rw [zQg] at hr;obtain ⟨rfl,rfl⟩:=zRR hr;obtain ⟨a,b,rfl,rab⟩:=ji.rea g (by rw [huv]; simp);obtain ⟨ia,ib⟩:=rab.inr m hp;refine ⟨.inl (eR _),[some (mD zA),some (.ref j),some (.ref M.length),some (.ref (M.length + 1)),none,some (.int (i:Int)),y6,some (.ref J),some (.int a),some (.int b),y10],rfl,?_⟩;rw [zR];refine zE (zKp (by rw [hc.1]; omega) hJ (by rw [hc.1]; exact ia) (by rw [hc.1]; exact ib)) (zf ?_);refine ⟨X ++ [.lst ((mrg c (pg c b) (pg c a)).map D.int)],_,mrg c (pg c b) (pg c a),us ++ [[a,b]],vs,_,_,_,rfl,by simp,fun u hu=>?_,zd _ _,rfl,by rw [huv]; simp,?_⟩
   ·rcases zQn.mp hu with z | z
    ·exact hX u z
    ·rw [zQp] at z; subst z; exact zV _ _
   ·refine zMs hc (fun p q h=>?_) ia ib (fun p q h=>zRc _ h) (.base (by simp)) fun p q h=>?_
    ·obtain ⟨p',q',e,r⟩:=ji.rea _ (by rw [huv]; exact zRc _ h);cases e;exact r.inr m hp
    ·rcases zQn.mp h with z | z
     ·exact .inl z
     ·rw [zQp] at z; cases z; exact .inr (.inl ⟨rfl,rfl⟩)
 ·rintro σ M' ⟨X,J,c,us,vs,y8,y9,y10,rfl,rfl,hX,hJ,hr,huv,hc⟩;have:vs = []:=by cases vs with | nil=>rfl | cons _ _=>cases hr
  subst this;rw [zQ7] at huv;subst huv;refine ⟨.inl (eR _),?_⟩;rw [zL];have wf':∀ (j:Nat) u,(M ++ [.lst (R.map tI),dT T] ++ X)[j]? = some u -> MO.und (M ++ [.lst (R.map tI),dT T] ++ X).length u = true:=fun k u e=>by
   rcases zQn.mp (zRE e) with z | z
   ·rcases zQn.mp z with z | z
    ·obtain ⟨k',hk',e'⟩:=List.getElem_of_mem z;exact zCc (by simp) (wf k' u (by rw [zQR hk',e']))
    ·rcases zQZ.mp z with z | z
     ·subst z; exact zIC _ _
     ·rw [zQp] at z; subst z; exact zNb kn.val
   ·exact zCc (zQ9 _) (hX u z)
  refine zAn (d:=tI (zBn c)) (zBp (zAH (d:=.ref J) rfl) (zDf wf' hJ (by rw [hc.1]; omega))) ⟨⟨by simp [tI,zAp],by simp,fun k u hk e=>?_⟩,by simp,c,rfl,hc.congr (fun a b h=>?_) fun a b r=> .base (zN3 ji r)⟩
  ·rw [List.append_assoc,zQU hk] at e;exact wf k u e
  ·obtain ⟨a',b',e,r⟩:=ji.rea _ h;cases e;exact .base r
 ·rw [zQp] at hu; subst hu; exact zV _ _
theorem zHU (h:Gen M n k) (h0:0 < few) (h1:few < 1073741824)
  (hc:∀ M,fc σ M = some (.dat (.ref n),M)) (ha:∀ (x:D) (M:Mem),fa ((zGC own σ).set i (some x)) M = some (.dat (.ref n),M)) (hb:∀ (x:D) (M:Mem),fb ((zGC own σ).set i (some x)) M = some (.dat (.int few),M)) :
  Ok (zk own (zAL (zD (toD (fOp zEg (fC (.int 2)) (zW zP (zD (toD fc) (zD (toD (fC (.int 4))) zJ))))) zJ)) (gN i) zt (zW zP (zD (toD fa) (zD (toD fb) zJ))) σ M) fun x M'=>(∃ c:List Int,x = .fl (c.map D.int) /\ c.length <= 6 /\ ∀ y ∈ c,0 <= y /\ y < few) /\ Nw M M' n k:=by
 have hq:Ok (fOp zEg (fC (.int 2)) (zW zP (zD (toD fc) (zD (toD (fC (.int 4))) zJ))) σ M) fun x M1=>∃ q:Int,x = .dat (.int q) /\ 0 <= q /\ q <= 6 /\ Nw M M1 n k:=by
  refine zAj.mpr (zE (M:=M) (a:=.dat (.int 2)) rfl ?_);refine zAI h (hc _) rfl (by omega) (by omega) fun g M1 g0 g1 nw1 _=>?_;exact ⟨.dat (.int (2 * g)),M1,rfl,2 * g,rfl,by omega,by omega,nw1⟩
 obtain ⟨x,M1,e,q,rfl,q0,q1,nw1⟩:=hq;have e':(zD (toD (fOp zEg (fC (.int 2)) (zW zP (zD (toD fc) (zD (toD (fC (.int 4))) zJ))))) zJ) σ M = some ([.int q],M1):=zPX e;have er:=zEI e' q0 (by omega);rw [zEH] at er;refine zCb.mpr ⟨_,_,_,er,by rw [zA1]; exact zY (by omega),?_⟩;refine Ok.mono (zKb (n:=q.toNat) (I:=fun j acc M2=>(∃ c:List Int,acc = c.map D.int /\ c.length = j /\ ∀ y ∈ c,0 <= y /\ y < few) /\ Nw M M2 n k) ?_ ⟨⟨[],rfl,rfl,fun _ h=>by cases h⟩,nw1⟩) ?_
 ·rintro j acc M2 hj ⟨⟨c,rfl,hcl,hc⟩,nw⟩;refine ⟨_,rfl,?_⟩;refine zAI nw.gen (ha _ _) (hb _ _) h0 h1 fun g M3 g0 g1 nw3 hl3=>?_;rw [zI];refine ⟨⟨c ++ [g],by simp,by simp [hcl],fun z hz=>?_⟩,nw.trans nw3⟩;rcases zQn.mp hz with q | q
  ·exact hc z q
  ·have:z = g:=by simpa using q
   subst this; exact ⟨g0,g1⟩
 ·rintro ys M2 ⟨⟨c,rfl,hcl,hc⟩,nw⟩;exact ⟨⟨c,rfl,by omega,hc⟩,nw⟩
theorem zJI (is:List Nat) (c:List Int):zAJ is (c.map D.int) = (zAJ is c).map D.int:=by
 unfold zAJ;rw [List.map_filterMap];congr 1;funext i;rw [zQk]
theorem zGl (h:x ∈ zAJ is c):x ∈ c:=by
 unfold zAJ at h;obtain ⟨i,_,e⟩:=List.mem_filterMap.mp h;exact zRE e
theorem zG6 (is:List Nat) (c:List Int):(zAJ is c).length <= is.length:=by
 unfold zAJ;exact List.length_filterMap_le _ _
theorem zME:∀ n,n <= 6 -> (zB4 none (some 2) n).length <= 10 /\ (zB4 (some 1) (some 2) n).length <= 10:=by decide
theorem zLy {σ:Sd} {M:Mem} {f:FE} {j n:Nat} {c:List Int} (hl:c.length <= 6) (hn:∀ x ∈ c,0 <= x /\ x < (n:Int)) (hf:∀ M,f σ M = some (.dat (.ref j),M)) (hj:M[j]? = some (.lst (c.map D.int))) :
  ∃ (ps:List (List Int)) (us:Mem),zGy (zD (toD (zG8 f zAg (zr (fC (.int 2))))) (zD (toD (zG8 f (zr (fC (.int 1))) (zr (fC (.int 2))))) zJ)) σ M = some (.fl (ps.map tI),M ++ us) /\ ps.length <= 10 /\ (∀ p ∈ ps,InR n p) /\ ∀ u ∈ us,MO.und 0 u = true:=by
 obtain ⟨l1,l2⟩:=zME c.length hl;have hjl:=(zQQ.mp hj).1;have st:∀ (lo:Option Int) (fl:FO) (M:Mem),M[j]? = some (.lst (c.map D.int)) -> (zB4 lo (some 2) c.length).length <= 10 -> (∀ M,fl σ M = some (lo,M)) -> zG8 f fl (zr (fC (.int 2))) σ M = some (.fl ((zAJ (zB4 lo (some 2) c.length) c).map D.int),M):=fun lo fl M e hb hfl=>by
  unfold zG8;rw [hf]; dsimp only;rw [hfl]; dsimp only;rw [show zr (fC (.int 2)) σ M = some (some 2,M) from rfl];dsimp only;rw [zAD e];dsimp only;have:=zG6 (zB4 lo (some 2) c.length) c;rw [zQW,zJI,zQc ⟨by decide,by rw [zQW]; exact zY (by omega)⟩]
 have s1:=st none zAg M hj l1 (fun _=>rfl);have hj2:(M ++ [MO.lst ((zAJ (zB4 none (some 2) c.length) c).map D.int)])[j]? = some (.lst (c.map D.int)):=by rw [zQU hjl]; exact hj
 have s2:=st (some 1) (zr (fC (.int 1))) _ hj2 l2 (fun _=>rfl);have m1:∀ x ∈ zAJ (zB4 none (some 2) c.length) c,0 <= x /\ x < (n:Int):=fun x hx=>hn x (zGl hx);have m2:∀ x ∈ zAJ (zB4 (some 1) (some 2) c.length) c,0 <= x /\ x < (n:Int):=fun x hx=>hn x (zGl hx);have n1:=zG6 (zB4 none (some 2) c.length) c;generalize zAJ (zB4 none (some 2) c.length) c = A at s1 s2 m1 n1;generalize zAJ (zB4 (some 1) (some 2) c.length) c = B at s2 m2;refine ⟨(A.zip B).map fun q=>[q.1,q.2],[.lst (A.map D.int),.lst (B.map D.int)],?_,?_,fun p hp=>?_,fun u hu=>?_⟩
 ·unfold zGy;rw [aC' (zKv s1) (aC' (zKv s2) rfl)];have e1:zg (M ++ [MO.lst (A.map D.int)] ++ [MO.lst (B.map D.int)]) (.dat (.ref M.length)) = some (A.map D.int):=za (by rw [zQU (by simp)]; exact zd _ _);have e2:zg (M ++ [MO.lst (A.map D.int)] ++ [MO.lst (B.map D.int)]) (.dat (.ref (M ++ [MO.lst (A.map D.int)]).length)) = some (B.map D.int):=za (zd _ _);dsimp only;rw [e1,e2];dsimp only;rw [zQc (zY (by simp; omega)),List.zip_map,zQl,zQl,List.append_assoc];rfl
 ·simp; omega
 ·obtain ⟨⟨a,b⟩,hq,rfl⟩:=zQe.mp hp;obtain ⟨ha,hb⟩:=List.of_mem_zip hq;exact ⟨a,b,rfl,m1 a ha,m2 b hb⟩
 ·rcases zQZ.mp hu with z | z
  ·subst z; exact zV _ _
  ·rw [zQp] at z; subst z; exact zV _ _
noncomputable def zCJ (g_rec:FF):FS:=(zT (sIf (tst (zDK "tuple" (zC 1))) (zT (sIf (zJk (zCj (tst (zDK "tuple" (zC 0)))) (tst (fOp kNe (fB zAO (zN (zC 0) zc)) (fB zAO (zN (zC 1) zc))))) (zAi (fC (.bl false))) zAl)
  (zAi (fB zPt (zN (zk [2,3] (zHX (zD (toD (zC 0)) (zD (toD (zC 1)) zJ))) (zBU 2 3) zt (zW g_rec (zD (toD (zC 2)) (zD (toD (zC 3)) zJ)))) zc)))) zAl)
  (zT (sIf (tst (zDK "bool" (zC 1))) (zAi (zHt (zDK "bool" (zC 0)) (fOp kEq (zC 0) (zC 1)))) zAl)
  (zAi (zHt (zDK "int" (zC 0)) (zHt (zLK (zDK "bool" (zC 0))) (fOp kEq (zC 0) (zC 1)))))))
noncomputable def zm:Nat -> FF
 | 0=>fun _ _=>none
 | n + 1=>zCe 4 (zCJ (zm n))
noncomputable def zBh:FF:=zm 5
theorem zN5 (n:Nat) (i:Int) (M:Mem):zm (n + 1) [.int i,.int i] M = some (.bl true,M):=by
 refine zO ?_;unfold zm;rw [zAq];unfold zCJ;refine zDl (isF rfl rfl (by decide)) (zDl (isF rfl rfl (by decide)) ?_);exact zAn (zE8 (isV rfl rfl (by decide)) (zE8 (zHs (isV rfl rfl (by decide))) (zK rfl rfl (zK6 rfl)))) ⟨rfl,rfl⟩
theorem zMe (n:Nat) (c:List Int) (hz:c.length <= 1000) (M:Mem):zm (n + 2) [tI c,tI c] M = some (.bl true,M):=by
 refine zO ?_;unfold zm;rw [zAq];unfold zCJ;refine zId (zMG rfl rfl (by decide)) (zDl ?_ ?_)
 ·refine zO (zJu.mpr (zGB.mpr (zE (zMG rfl rfl (by decide)) ?_)));rw [zQf (by decide)];refine zEA.mpr (zE (zK (zBm rfl zAR) (zBm rfl zAR) (zO (zOn.mpr ⟨rfl,rfl⟩))) ?_);rw [zEK]; simp
 ·rw [zBW];have ec:=zAF (own:=[2,3]) (g:=zBU 2 3) (te:=zW (zm (n + 1)) (zD (toD (zC 2)) (zD (toD (zC 3)) zJ))) (fi:=zHX (zD (toD (zC 0)) (zD (toD (zC 1)) zJ))) (σ:=[some (tI c),some (tI c),none,none]) (M:=M) c (fun i=>D.tup [.int i,.int i]) (fun _=>D.bl true) (gd:=none) (by
   unfold zHX;rw [zAM (d:=tI c) rfl (zAH (d:=tI c) rfl)];show some (((c.map D.int).zip (c.map D.int)).map (fun q=>D.tup [q.1,q.2]),(none:Option (Mem -> Prop)),M) = _;rw [show ((c.map D.int).zip (c.map D.int)).map (fun q=>D.tup [q.1,q.2]) = c.map fun i=>D.tup [.int i,.int i] by
    rw [List.zip_map,zQl];clear hz;induction c with
    | nil=>rfl
    | cons a r ih=>simp only [List.zip_cons_cons,zQg]; rw [ih]; rfl]) trivial (by omega) fun i _=>⟨_,rfl,zBp (zAM rfl (zAH rfl)) (zN5 n i M)⟩
  refine zN7.mpr (zEe.mpr (zE ec (zFb.mpr ((zM1 (bs:=List.replicate c.length true) zKG (by rw [show c.map (fun _=>D.bl true) = (List.replicate c.length true).map D.bl by simp [List.map_const']]; exact zDS _)).mpr ?_))));rw [zI];exact ⟨by simp,rfl⟩
noncomputable def zDT:FS:=(zT (zp 2 zHq)
  (zT (zBs (zDY (zC 1)) (zBU 3 4) (zC3 (fB zx (zN (zk [5] (zAY (fOp kIx (zC 0) (zC 3))) (gN 5) zt (fOp kIx (zC 1) (zC 5))) zc)) (zC 2) (zC 4)))
  (zAi (fB zx (zN (zk [4] (zAL (zD (toD (fB zGU (zN (zC 2) zc))) zJ)) (gN 4) zt (fOp zAk (zC 2) (zC 4))) zc)))))
noncomputable def zA0:FF:=zFL (zCe 6 zDT)
def zBr (val:Int -> D) (ks:List Int):List (D × D):=ks.map fun k=>(D.int k,val k)
theorem zOp (val:Int -> D) (ks:List Int) (k:Int):((zBr val ks).any fun p=>decide (zBQ p.1 = some (Sum.inl k))) = decide (k ∈ ks):=by
 unfold zBr;rw [List.any_map];induction ks with
 | nil=>rfl
 | cons x r ih=>
  rw [zSz,ih];show (decide (some (Sum.inl x:Key) = some (Sum.inl k)) || decide (k ∈ r)) = _;by_cases h:x = k
  ·subst h; simp
  ·have:¬ k = x:=fun e=>h e.symm;have h2:¬ (some (Sum.inl x:Key) = some (Sum.inl k)):=fun z=>h (Sum.inl.inj (zRN z));rw [zQw h2];simp [this]
theorem zKz (val:Int -> D):∀ (ks:List Int) (k:Int),k ∈ ks -> zBM zBQ (zBr val ks) (Sum.inl k) = some (val k)
 | x :: r,k,h=>by
  have ih:=zKz val r k;unfold zBM zBr at ih ⊢;rw [zQg,zR9];by_cases e:x = k
  ·subst e;rw [show decide (zBQ (D.int x) = some (Sum.inl x)) = true from decide_eq_true rfl]; rfl
  ·rw [show decide (zBQ (D.int x) = some (Sum.inl k)) = false from zQw (fun z=>e (Sum.inl.inj (zRN z)))];rcases zQZ.mp h with z | z
   ·exact absurd z.symm e
   ·exact ih z
theorem zPA (val:Int -> D) (ks:List Int) (k:Int):zEx zBQ (zBr val ks) (Sum.inl k) (.int k) (val k) = zBr val (ins ks k):=by
 unfold zEx;rw [zOp];unfold ins;by_cases h:k ∈ ks
 ·rw [zQc (decide_eq_true h),zQc h];conv=>rhs; rw [<- List.map_id (zBr val ks)]
  apply List.map_congr_left;intro p hp;obtain ⟨x,_,rfl⟩:=zQe.mp hp;show (if some (Sum.inl x:Key) = some (Sum.inl k) then _ else _) = _;by_cases e:x = k
  ·subst e; rw [zQc rfl]; rfl
  ·rw [zQf (fun z=>e (Sum.inl.inj (zRN z)))]; rfl
 ·rw [zQf (by simp [h]),zQf h];unfold zBr; rw [zRF]; rfl
theorem zFm {P:List Int} {K:Nat} (p:Prt P K):(zQ P).length = K:=by
 have h1:=zCw (zQ P) ((List.range K).map fun (k:Nat)=>(k:Int)) (zC2 P) fun x hx=>by
  obtain ⟨i,hi,rfl⟩:=List.getElem_of_mem ((zAU P x).mp hx);have:=p.lt i hi;rw [zQS,zQR hi] at this;simp only [Option.getD_some] at this;exact zQe.mpr ⟨(P[i]).toNat,zQ1.mpr (by omega),by omega⟩
 have nd:((List.range K).map fun (k:Nat)=>(k:Int)).Nodup:=List.Pairwise.map _ (fun a b h e=>h (by omega)) List.nodup_range;have h2:=zCw ((List.range K).map fun (k:Nat)=>(k:Int)) (zQ P) nd fun x hx=>by
  obtain ⟨k,hk,rfl⟩:=zQe.mp hx;obtain ⟨a,ha,e⟩:=p.on k (zQ1.mp hk);rw [zAU,<- e]; exact zBx ha
 simp at h1 h2;omega
theorem zNm {zA:List (List Int)} {l:Nat} (m:IsM zA l) (hR:zA.length <= 26) (hl:l <= 12) {P:List Int} {K:Nat} (p:Prt P K) (hP:P.length = zA.length) (kp:Kp zA l P) {M:Mem}:zA0 [mD zA,tI P] M = some (mD (zDF zA P K),M):=by
 have hK:K <= zA.length:=by rw [<- zFm p,<- hP]; exact zBK P
 refine zO ?_;unfold zA0;refine zIR ?_ ?_
 ·unfold D.unds D.unds D.unds;rw [zD2]; simp [tI,zAp]
 rw [zAq];unfold zDT;show OkS (zT _ _ [some (mD zA),some (tI P),none,none,none,none] []) _;rw [zG,zR];refine zE (M:=[.dict []]) (a:=.dat (.ref 0)) rfl ?_;rw [zI,zL];simp only [List.set_cons_succ,List.set_cons_zero];let val:Int -> D:=fun k=>D.tup ((crw P (zA.getD (P.idxOf k) [])).map D.int);rw [zG,zA2];have hen:zDY (zC 1) [some (mD zA),some (tI P),some (.ref 0),none,none,none] [.dict []] = some ((List.range P.length).map fun (k:Nat)=>D.tup [.int (k:Int),.int (P.getD k 0)],none,[.dict []]):=by
  unfold zDY;rw [show zC 1 [some (mD zA),some (tI P),some (.ref 0),none,none,none] [.dict []] = some (.dat (tI P),[.dict []]) from rfl];dsimp only;rw [show zg [.dict []] (.dat (tI P)) = some (P.map D.int) from rfl];dsimp only;rw [show zHy (.dat (tI P)) (P.map D.int) = none from rfl];congr 2;unfold zFt;rw [zQW];apply List.ext_getElem
  ·simp
  ·intro i h1 h2;simp at h1 h2;simp [h2]
 refine ⟨_,_,_,hen,?_⟩;refine zAS (I:=fun r σ M'=>∃ (i:Nat) (y3 y4 y5:Option D),i <= P.length /\ σ = [some (mD zA),some (tI P),some (.ref 0),y3,y4,y5] /\ r = ((List.range P.length).map fun (k:Nat)=>D.tup [.int (k:Int),.int (P.getD k 0)]).drop i /\ M' = [.dict (zBr val (zQ (P.take i)))]) ?_ ?_ _ _ _ ⟨0,none,none,none,zQ9 _,rfl,rfl,rfl⟩
 ·rintro x r σ M' ⟨i,y3,y4,y5,hi,rfl,hr,rfl⟩;have hlt:i < P.length:=by
   rcases Nat.lt_or_ge i P.length with z | z
   ·exact z
   ·rw [List.drop_eq_nil_of_le (by simpa using z)] at hr; cases hr
  rw [List.drop_eq_getElem_cons (by simpa using hlt)] at hr;obtain ⟨rfl,rfl⟩:=zRR hr;refine ⟨zo,[some (mD zA),some (tI P),some (.ref 0),some (.int (i:Int)),some (.int (P.getD i 0)),y5],by simp [zBU],?_⟩;have ii:0 <= (i:Int) /\ (i:Int) < (zA.length:Int):=by omega
  have ra:=zF1 (zA:=zA) ii.1 ii.2;obtain ⟨rl,rb⟩:=m.get ii.1 ii.2;rw [zS7] at ra rl rb;have hv:crw P (zA.getD i []) = crw P (zA.getD (P.idxOf (P.getD i 0)) []):=by
   obtain ⟨q1,q2⟩:P.idxOf (P.getD i 0) < P.length /\ P.getD (P.idxOf (P.getD i 0)) 0 = P.getD i 0:=by
    have hm:=zBx hlt;have hx:=List.idxOf_lt_length_iff.mpr hm;exact ⟨hx,by rw [zQS,zQR hx]; exact List.getElem_idxOf hx⟩
   generalize P.idxOf (P.getD i 0) = k at q1 q2;have ik:0 <= (k:Int) /\ (k:Int) < (zA.length:Int):=by omega
   obtain ⟨rl2,_⟩:=m.get ik.1 ik.2;rw [zS7] at rl2;unfold crw;apply List.ext_getElem
   ·rw [zQW,zQW,rl,rl2]
   ·intro x h1 h2;simp only [zQW] at h1 h2;rw [List.getElem_map,List.getElem_map];have:=kp (i:Int) (k:Int) (x:Int) ii ik (by omega) (by unfold pg; rw [zS7,zS7]; exact q2.symm);unfold zAa at this;rw [zS7,zS7,zS7,zQS (l:=zA.getD i []),zQS (l:=zA.getD k []),zQR h1,zQR h2] at this;exact this
  have et:fB zx (zN (zk [5] (zAY (fOp kIx (zC 0) (zC 3))) (gN 5) zt (fOp kIx (zC 1) (zC 5))) zc) [some (mD zA),some (tI P),some (.ref 0),some (.int (i:Int)),some (.int (P.getD i 0)),y5] [.dict (zBr val (zQ (P.take i)))] = some (.dat (val (P.getD i 0)),[.dict (zBr val (zQ (P.take i)))]):=by
   refine (zAv (zAF (zA.getD i []) D.int (fun g=> .int (pg P g)) (zDp (zK (x:=.dat (mD zA)) (y:=.dat (.int (i:Int))) rfl rfl (zAw zAR ra))) trivial (by omega) fun g hg=>⟨[some (mD zA),some (tI P),some (.ref 0),some (.int (i:Int)),some (.int (P.getD i 0)),some (.int g)],rfl,zK (x:=.dat (tI P)) (y:=.dat (.int g)) rfl rfl (zAw zAR (zB0 (rb g hg).1 (by rw [hP]; exact (rb g hg).2)))⟩) zBc).trans ?_;show _ = some (EV.dat (D.tup ((crw P (zA.getD (P.idxOf (P.getD i 0)) [])).map D.int)),_);rw [<- hv];unfold crw;rw [zQl]; rfl
  have hil:(zQ (P.take i)).length <= 26:=by have:=zBK (P.take i); rw [zRl] at this; omega
  refine zEc (n:=0) (k:=.int (P.getD i 0)) (v:=val (P.getD i 0)) et rfl rfl (by
   unfold zCh;rw [show ([.dict (zBr val (zQ (P.take i)))]:Mem)[0]? = some (.dict (zBr val (zQ (P.take i)))) from rfl];dsimp only;rw [show zBQ (.int (P.getD i 0)) = some (Sum.inl (P.getD i 0)) from rfl];dsimp only;rw [zQc (by unfold zBr; rw [zQW]; exact zQm (m:=95000) (by omega) (zY (by omega))),zPA]) ?_
  refine ⟨i + 1,_,_,_,hlt,rfl,rfl,?_⟩;rw [show P.take (i + 1) = P.take i ++ [P.getD i 0] by rw [List.take_add_one,zQR hlt,zQS,zQR hlt]; rfl,zG7];rfl
 ·rintro σ M' ⟨i,y3,y4,y5,hi,rfl,hr,rfl⟩;have:i = P.length:=by
   have:=congrArg List.length hr;simp at this; omega
  subst this;rw [List.take_length];refine ⟨zo,?_⟩;rw [zL];have hk:=zFm p;have eL:fB zGU (zN (zC 2) zc) [some (mD zA),some (tI P),some (.ref 0),y3,y4,y5] [.dict (zBr val (zQ P))] = some (.dat (.int (K:Int)),[.dict (zBr val (zQ P))]):=by
   show some (EV.dat (.int ((zBr val (zQ P)).length:Int)),_) = _;unfold zBr;rw [zQW,hk]
  have er:=zDP eL (by omega) (by omega);rw [show (K:Int).toNat = K by omega] at er;have ec:=zAF (own:=[4]) (g:=gN 4) (te:=fOp zAk (zC 2) (zC 4)) (List.range K) (fun (k:Nat)=>D.int k) (fun (k:Nat)=>val (k:Int)) er trivial (by rw [List.length_range]; omega) fun k hk'=>by
   obtain ⟨a,ha,e⟩:=p.on k (zQ1.mp hk');refine ⟨[some (mD zA),some (tI P),some (.ref 0),y3,some (.int (k:Int)),y5],rfl,zK (x:=.dat (.ref 0)) (y:=.dat (.int (k:Int))) rfl rfl ?_⟩;show (match some (zBM zBQ (zBr val (zQ P)) (Sum.inl (k:Int))) with | some (some d)=>some (EV.dat d,_) | _=>none) = _;rw [zKz val _ _ (by rw [zAU,<- e]; exact zBx ha)]
  refine zAn (d:=mD (zDF zA P K)) ((zAv ec zBc).trans ?_) ⟨zD2 _,by first | exact ⟨rfl,rfl⟩ | simp⟩;rw [show mD (zDF zA P K) = .tup ((List.range K).map fun (k:Nat)=>val (k:Int)) by unfold mD zDF; rw [zQl]; rfl]
theorem zNn (n:Nat) (hz:xs.length <= 1000) (h:∀ x ∈ xs,zm (n + 1) [x,x] M = some (.bl true,M)):zm (n + 2) [.tup xs,.tup xs] M = some (.bl true,M):=by
 refine zO ?_;unfold zm;rw [zAq];unfold zCJ;show OkS (zT _ _ [some (.tup xs),some (.tup xs),none,none] M) _;refine zId (zMG rfl rfl (by decide)) (zDl ?_ ?_)
 ·refine zO (zJu.mpr (zGB.mpr (zE (zMG rfl rfl (by decide)) ?_)));rw [zQf (by decide)];refine zEA.mpr (zE (zK (zBm rfl zAR) (zBm rfl zAR) (zO (zOn.mpr ⟨rfl,rfl⟩))) ?_);rw [zEK]; simp
 ·rw [zBW];have ec:=zAF (own:=[2,3]) (g:=zBU 2 3) (te:=zW (zm (n + 1)) (zD (toD (zC 2)) (zD (toD (zC 3)) zJ))) (fi:=zHX (zD (toD (zC 0)) (zD (toD (zC 1)) zJ))) (σ:=[some (.tup xs),some (.tup xs),none,none]) (M:=M) xs (fun i=>D.tup [i,i]) (fun _=>D.bl true) (gd:=none) (by
   unfold zHX;rw [zAM (d:=.tup xs) rfl (zAH (d:=.tup xs) rfl)];show some ((xs.zip xs).map (fun q=>D.tup [q.1,q.2]),(none:Option (Mem -> Prop)),M) = _;rw [show (xs.zip xs).map (fun q=>D.tup [q.1,q.2]) = xs.map fun i=>D.tup [i,i] by
    clear hz h;induction xs with
    | nil=>rfl
    | cons a r ih=>simp only [List.zip_cons_cons,zQg]; rw [ih]]) trivial (by omega) fun i hi=>⟨_,rfl,zBp (zAM rfl (zAH rfl)) (h i hi)⟩
  refine zN7.mpr (zEe.mpr (zE ec (zFb.mpr ((zM1 (bs:=List.replicate xs.length true) zKG (by rw [show xs.map (fun _=>D.bl true) = (List.replicate xs.length true).map D.bl by simp [List.map_const']]; exact zDS _)).mpr ?_))));rw [zI];exact ⟨by simp,rfl⟩
theorem zMA (h1:F.length <= 1000) (h2:∀ r ∈ F,r.length <= 1000) (M:Mem):zBh [mD F,mD F] M = some (.bl true,M):=by
 unfold zBh mD;refine zNn 3 (by simpa using h1) fun x hx=>?_;obtain ⟨r,hr,rfl⟩:=zQe.mp hx;exact zMe 2 r (h2 r hr) M
noncomputable def zKD:FS:=(zT (zp 1 (zW zA3 (zD (toD (zC 0)) zJ)))
  (zT (zBs (zAL (zD (toD (fB zFM (zN (fC (.int 6)) (zN (fOp zAb (fC (.int 1)) (fB zAO (zN (zC 0) zc))) zc)))) zJ)) (gN 2) (zT (zIt (zBU 3 4) (zW zAo (zD (toD (zC 1)) (zD (toD (fC (.int 26))) (zD (toD (fC (.int 6))) zJ)))))
  (zT (zp 5 (zW zAG (zD (toD (zC 4)) zJ)))
  (zT (sIf (tst (fOp kEq (zW zP (zD (toD (zC 1)) (zD (toD (fC (.int 2))) zJ))) (fC (.int 0)))) (zT (zp 3 (zW zAQ (zD (toD (zC 1)) (zD (toD (fC (.int 26))) (zD (toD (fC (.int 6))) zJ)))))
  (zT (zp 6 (zk [7] (zAL (zD (toD (fOp zEg (fC (.int 2)) (zW zP (zD (toD (zC 1)) (zD (toD (fC (.int 4))) zJ))))) zJ)) (gN 7) zt (zW zP (zD (toD (zC 1)) (zD (toD (fB zAO (zN (zC 3) zc))) zJ)))))
  (zp 5 (zW zAm (zD (toD (zC 3)) (zD (toD (zGy (zD (toD (zG8 (zC 6) zAg (zr (fC (.int 2))))) (zD (toD (zG8 (zC 6) (zr (fC (.int 1))) (zr (fC (.int 2))))) zJ)))) zJ)))))) zAl)
  (zBs (zAY (zBa (zD (toD (zC 5)) (zD (toD (zCv (fB zAO (zN (zC 3) zc)))) (zD (toD (fOp zCf (zBf (zD (toD (fC (.int 0))) zJ)) (fB zAO (zN (zC 3) zc)))) (zD (toD (zC 5)) zJ)))))) (gN 8) (sIf (zCj (tst (zW zBh (zD (toD (zW zBN (zD (toD (zC 3)) (zD (toD (zC 8)) zJ)))) (zD (toD (zW zA0 (zD (toD (zC 3)) (zD (toD (zC 8)) zJ)))) zJ))))) (zAi (fC (.bl false))) zAl))))))
  (zAi (fC (.bl true)))))
noncomputable def zDc:FF:=zCe 9 zKD
def zH5 (zA:List (List Int)) (l:Nat) (P:List Int):Prop:=∃ K,Prt P K /\ P.length = zA.length /\ Kp zA l P
theorem zHC (m:IsM zA l) (hl:c.length = zA.length) (h:Kp zA l c):zH5 zA l (zBn c) :=
 ⟨_,zLc (by rw [hl]; exact m.r0),by rw [zES,hl],zOT m hl h⟩
theorem zHx (m:IsM zA l):zH5 zA l (zBb zA):=by
 have e:∀ a:Nat,a < zA.length -> (zBb zA).getD a 0 = (a:Int):=fun a ha=>by
  unfold zBb;rw [zQS,zQk,List.getElem?_range ha]; rfl
 have hl:(zBb zA).length = zA.length:=by unfold zBb; simp
 refine ⟨zA.length,⟨m.r0,fun a ha=>by rw [e a (by omega)]; omega,fun j hj=>⟨j,by omega,e j hj⟩⟩,hl,fun a b x ha hb hx q=>?_⟩;unfold pg at q;rw [e _ (by omega),e _ (by omega)] at q;rw [show a = b by omega]
theorem zJK (m:IsM zA l):zH5 zA l (List.replicate zA.length 0):=by
 have e:∀ a:Nat,(List.replicate zA.length (0:Int)).getD a 0 = 0:=fun a=>by
  rw [zQS,List.getElem?_replicate];split <;> rfl
 have r0:=m.r0;refine ⟨1,⟨by omega,fun a _=>by rw [e]; omega,fun j hj=>⟨0,by simpa using r0,by rw [e]; omega⟩⟩,by simp,fun a b x _ _ _ _=>?_⟩;unfold pg;rw [e,e]
abbrev qS (x2:Option D) (zA:List (List Int)) (x4 x5 x6 x7 x8:Option D):Sd:=[some (.ref 0),some (.ref 1),x2,some (mD zA),x4,x5,x6,x7,x8]
theorem zJm (m:IsM zA l) (hR:zA.length <= 26) (hl:l <= 12) (g:zH5 zA l P) :
  OkS (zBs (zAY (zBa (zD (toD (zC 5)) (zD (toD (zCv (fB zAO (zN (zC 3) zc)))) (zD (toD (fOp zCf (zBf (zD (toD (fC (.int 0))) zJ)) (fB zAO (zN (zC 3) zc)))) (zD (toD (zC 5)) zJ)))))) (gN 8) (sIf (zCj (tst (zW zBh (zD (toD (zW zBN (zD (toD (zC 3)) (zD (toD (zC 8)) zJ)))) (zD (toD (zW zA0 (zD (toD (zC 3)) (zD (toD (zC 8)) zJ)))) zJ))))) (zAi (fC (.bl false))) zAl) (qS x2 zA x4 (some (tI P)) x6 x7 x8) M)
   fun o σ M'=>o = .nx /\ M' = M /\ ∃ y8,σ = qS x2 zA x4 (some (tI P)) x6 x7 y8:=by
 have r0:=m.r0;have eL:=zA4 (f:=zC 3) (σ:=qS x2 zA x4 (some (tI P)) x6 x7 x8) (M:=M) (zA:=zA) rfl;have et:zCv (fB zAO (zN (zC 3) zc)) (qS x2 zA x4 (some (tI P)) x6 x7 x8) M = some (.dat (tI (zBb zA)),M):=by
  refine zO (zMj (j:=(zA.length:Int)) eL (by omega) (by omega) ⟨?_,rfl⟩);unfold upD tI zBb;rw [zQl,show (zA.length:Int).toNat = zA.length by omega]; rfl
 have ez:fOp zCf (zBf (zD (toD (fC (.int 0))) zJ)) (fB zAO (zN (zC 3) zc)) (qS x2 zA x4 (some (tI P)) x6 x7 x8) M = some (.dat (tI (List.replicate zA.length 0)),M):=by
  refine zK (x:=.dat (.tup [.int 0])) (y:=.dat (.int (zA.length:Int))) rfl eL ((zMJ (by omega) (by omega)).trans ?_);rw [show (zA.length:Int).toNat = zA.length by omega];unfold tI;rw [List.map_replicate]
 rw [zA2];have ex:zAY (zBa (zD (toD (zC 5)) (zD (toD (zCv (fB zAO (zN (zC 3) zc)))) (zD (toD (fOp zCf (zBf (zD (toD (fC (.int 0))) zJ)) (fB zAO (zN (zC 3) zc)))) (zD (toD (zC 5)) zJ))))) (qS x2 zA x4 (some (tI P)) x6 x7 x8) M = some ([P,zBb zA,List.replicate zA.length 0,P].map tI,none,M) :=
  zL3 (zP2 (zAM (d:=tI P) rfl (zAM et (zAM ez (zAH (d:=tI P) rfl)))) (by simp))
 refine ⟨_,_,_,ex,?_⟩;have hg:∀ Q ∈ [P,zBb zA,List.replicate zA.length 0,P],zH5 zA l Q:=fun Q hQ=>by
  simp only [zQZ,zQs,zRi] at hQ;rcases hQ with rfl | rfl | rfl | rfl
  ·exact g
  ·exact zHx m
  ·exact zJK m
  ·exact g
 generalize [P,zBb zA,List.replicate zA.length 0,P] = Ps at hg;refine zAS (I:=fun r σ M'=>M' = M /\ ∃ y8 vs,σ = qS x2 zA x4 (some (tI P)) x6 x7 y8 /\ r = vs.map tI /\ ∀ Q ∈ vs,zH5 zA l Q) ?_ ?_ _ _ _ ⟨rfl,_,Ps,rfl,rfl,hg⟩
 ·rintro x r σ M' ⟨rfl,y8,vs,rfl,hr,hv⟩;cases vs with
  | nil=>cases hr
  | cons Q vs=>
   rw [zQg] at hr;obtain ⟨rfl,rfl⟩:=zRR hr;obtain ⟨K,p,hQ,kp⟩:=hv Q (by simp);have hK:K <= zA.length:=by rw [<- zFm p,<- hQ]; exact zBK Q
   have fm:=zNo m p hQ;refine ⟨zo,qS x2 zA x4 (some (tI P)) x6 x7 (some (tI Q)),rfl,?_⟩;refine zKT (zBp (zAM (d:=mD (zDF zA Q K)) (zBp (zAM (d:=mD zA) rfl (zAH (d:=tI Q) rfl)) (zIk m hR hl p (by omega) hQ)) (zAH (d:=mD (zDF zA Q K)) (zBp (zAM (d:=mD zA) rfl (zAH (d:=tI Q) rfl)) (zNm m hR hl p hQ kp)))) (zMA (by rw [zF6]; omega) (fun r hr=>by rw [(fm.row r hr).1]; omega) _)) ?_;exact ⟨rfl,_,vs,rfl,rfl,fun Q' h=>hv Q' (by simp [h])⟩
 ·rintro σ M' ⟨rfl,y8,vs,rfl,hr,hv⟩;exact ⟨zo,rfl,rfl,y8,rfl⟩
set_option maxHeartbeats 4000000 in
theorem zK8 (ns:List Int) (h:ns.length <= 63):∃ M',zDc [.ref 0] [.fro (ns.map D.int)] = some (.bl true,M'):=by
 suffices hh:Ok (zDc [.ref 0] [.fro (ns.map D.int)]) fun d _=>d = .bl true by
  obtain ⟨d,M',e,rfl⟩:=hh;exact ⟨M',e⟩
 unfold zDc;rw [zAq];unfold zKD;show OkS (zT _ _ [some (.ref 0),none,none,none,none,none,none,none,none] _) _;rw [zG,zR];refine zBF.mpr (zE (zAH rfl) ?_);refine Ok.mono (zKk h) ?_;rintro d M1 ⟨rfl,g1,e0⟩;rw [zI,zL];show OkS (zT _ _ [some (.ref 0),some (.ref 1),none,none,none,none,none,none,none] M1) _;rw [zG,zA2];have el:fB zAO (zN (zC 0) zc) [some (.ref 0),some (.ref 1),none,none,none,none,none,none,none] M1 = some (.dat (.int (ns.map D.int).length),M1):=zBm (x:=.dat (.ref 0)) rfl (zLl e0);rw [zQW] at el;have emin:fB zFM (zN (fC (.int 6)) (zN (fOp zAb (fC (.int 1)) (fB zAO (zN (zC 0) zc))) zc)) [some (.ref 0),some (.ref 1),none,none,none,none,none,none,none] M1 = some (.dat (.int (if 1 + (ns.length:Int) < 6 then 1 + (ns.length:Int) else 6)),M1):=zMI rfl (zK rfl el rfl);refine ⟨_,_,_,zCI emin (by split <;> omega) (by split <;> omega),?_⟩;refine zJj (n:=(if 1 + (ns.length:Int) < 6 then 1 + (ns.length:Int) else 6).toNat) (I:=fun i σ M'=>(∃ y2 y3 y4 y5 y6 y7 y8,σ = [some (.ref 0),some (.ref 1),y2,y3,y4,y5,y6,y7,y8]) /\ Gen M' 1 2) ?_ ?_ _ _ ⟨⟨_,_,_,_,_,_,_,rfl⟩,g1⟩
 ·rintro i σ M' hi ⟨⟨y2,y3,y4,y5,y6,y7,y8,rfl⟩,g⟩;obtain ⟨gn,gk⟩:=g.lt;refine ⟨_,rfl,?_⟩;rw [zG,zIE];refine zBF.mpr (zE (zAM rfl (zAM rfl (zAH rfl))) ?_);refine Ok.mono (zHl g (by decide) (by decide) (by decide) (by decide)) ?_;rintro d M3 ⟨zA,l,j,ow,rfl,m,hR,hL,ej,ol,kp,_,nw3⟩;rw [zI];refine ⟨qS (some (.int (i:Nat))) zA (some (.ref j)) y5 y6 y7 y8,rfl,?_⟩;rw [zL];refine zD5 (d:=tI (zBn ow)) (zBp (zAH (d:=.ref j) rfl) (zDf nw3.gen.wf ej (by omega))) ?_;simp only [List.set_cons_succ,List.set_cons_zero]
  have fin:∀ {zA:List (List Int)} {l:Nat} {P:List Int} {M:Mem} {x4 x6 x7:Option D} {Q:Out -> Sd -> Mem -> Prop},IsM zA l -> (zA.length <= 8 \/ (zA.length:Int) <= 26) -> (l:Int) <= 6 -> zH5 zA l P -> Gen M 1 2 -> (∀ σ2 M2,(∃ y2 y3 y4 y5 y6 y7 y8,σ2 = [some (.ref 0),some (.ref 1),y2,y3,y4,y5,y6,y7,y8]) /\ Gen M2 1 2 -> Q .nx σ2 M2) ->
    OkS (zBs (zAY (zBa (zD (toD (zC 5)) (zD (toD (zCv (fB zAO (zN (zC 3) zc)))) (zD (toD (fOp zCf (zBf (zD (toD (fC (.int 0))) zJ)) (fB zAO (zN (zC 3) zc)))) (zD (toD (zC 5)) zJ)))))) (gN 8) (sIf (zCj (tst (zW zBh (zD (toD (zW zBN (zD (toD (zC 3)) (zD (toD (zC 8)) zJ)))) (zD (toD (zW zA0 (zD (toD (zC 3)) (zD (toD (zC 8)) zJ)))) zJ))))) (zAi (fC (.bl false))) zAl) (qS (some (.int (i:Nat))) zA x4 (some (tI P)) x6 x7 y8) M) Q:=fun m hR hL gd gg q=>by
   refine OkS.mono (zJm m (by omega) (by omega) gd) ?_;rintro o σ2 M2 ⟨rfl,rfl,y8,rfl⟩;exact q _ _ ⟨⟨_,_,_,_,_,_,_,rfl⟩,gg⟩
  rw [zG,zAT];refine zEA.mpr (zAj.mpr (zAI nw3.gen rfl rfl (by omega) (by omega) fun z M4 z0 z1 nw4 _=>zDg.mpr (zHP.mpr ?_)));rw [zEK];by_cases hz:z = 0
  ·rw [zQc (by simpa using hz),zG,zR];refine zBF.mpr (zE (zAM rfl (zAM rfl (zAH rfl))) ?_);refine Ok.mono (zDt nw4.gen (by decide) (by decide) (by decide) (by decide)) ?_;rintro d M5 ⟨⟨zA,l,rfl,m,hR,hL⟩,nw5⟩;rw [zI,zL];simp only [List.set_cons_succ,List.set_cons_zero];have r0:=m.r0;rw [zG,zR];refine Ok.mono (zHU nw5.gen (few:=(zA.length:Int)) (by omega) (by omega) (fun _=>rfl) (fun _ _=>rfl) (fun _ _=>zA4 rfl)) ?_;rintro x M6 ⟨⟨c,rfl,hc,hcm⟩,nw6⟩;refine zf ?_;rw [zL,zR];simp only [List.set_cons_succ,List.set_cons_zero];have nw7:=nw6.gen.lst (c.map D.int) (zV _ _);obtain ⟨ps,us,ez,pl,pin,hus⟩:=zLy (σ:=qS (some (.int (i:Nat))) zA (some (.ref j)) (some (tI (zBn ow))) (some (.ref M6.length)) y7 y8) (f:=zC 6) (n:=zA.length) hc hcm (fun _=>rfl) (zd M6 (.lst (c.map D.int)));have nw8:=nw7.gen.app (us:=us) fun u hu=>zCc (zQ9 _) (hus u hu);have nw9:=nw8.gen.lst (ps.map tI) (zIC _ _);refine zBF.mpr (zE (aC' (zO9 (d:=mD zA) rfl) (aC' (zKv ez) rfl)) ?_);refine Ok.mono (zIl m (by omega) pin (by omega) nw9.gen.wf (zd _ _)) ?_;rintro d M10 ⟨rfl,cl,rfl,hcl⟩;rw [zI,zL];exact fin m hR hL (zHC m hcl.1 (zNT m hcl)) nw9.gen fun _ _ q=>q
  ·rw [zQf (by simpa using hz),zAC,zL];exact fin m (.inr hR) hL (zHC m ol kp) nw4.gen fun _ _ q=>q
 ·rintro σ M' ⟨⟨y2,y3,y4,y5,y6,y7,y8,rfl⟩,g⟩;rw [zL];exact zAn rfl rfl
end Lad
set_option maxHeartbeats 4000000
namespace Lad
open PySem PySem.Spec PyProof.Rows L2 L3 Law Lac
-- the text by places
def top (i:Nat):Stmt:=PySem.Challenge.pw_bringhome_k44_folded_machines.main.body.getD i (.Pass ⟨0,0,0,0⟩)
abbrev zBy:Stmt:=top 1
abbrev zEh:Stmt:=top 2
abbrev zCS:Stmt:=top 4
abbrev zCr:Stmt:=top 5
abbrev zB6:Stmt:=top 6
abbrev zBd:Stmt:=top 7
abbrev zBt:Stmt:=top 8
abbrev zBJ:Stmt:=top 9
abbrev zBu:Stmt:=top 10
abbrev zC9:Stmt:=top 11
abbrev zDQ:Stmt:=top 12
abbrev zJ9:Stmt:=top 13
structure Txt (K:PySem.W.Frag) (mg:Str -> Option Value) where
  d_class_rows:Df K mg "class_rows" zBy ["machine", "parting"]
  d_folded:Df K mg "folded" zEh ["machine", "parting"]
  d_law_begin:Df K mg "_law_begin" zCS ["_law_script"]
  d_law_next:Df K mg "_law_next" zCr ["_law_state", "_law_many"]
  d_law_column:Df K mg "_law_column" zB6 ["_law_state", "_law_many", "_law_way"]
  d_law_machine:Df K mg "_law_machine" zBd ["_law_state", "_law_most", "_law_letters"]
  d_law_copies:Df K mg "_law_copies" zBt ["_law_state", "_law_most", "_law_letters"]
  d_law_numbered:Df K mg "_law_numbered" zBJ ["_law_classes"]
  d_law_joined:Df K mg "_law_joined" zBu ["_law_machine_here", "_law_pairs"]
  d_law_is:Df K mg "_law_is" zC9 ["_law_found", "_law_due_here"]
  d_law_due:Df K mg "_law_due" zDQ ["_law_machine_here", "_law_parting"]
  d_law:Df K mg "law" zJ9 ["_law_script"]
  z_tuple:mg "tuple" = none
  z_range:mg "range" = none
  z_max:mg "max" = none
  z_list:mg "list" = none
  z_enumerate:mg "enumerate" = none
  z_len:mg "len" = none
  z_dict:mg "dict" = none
  z_zip:mg "zip" = none
  z_isinstance:mg "isinstance" = none
  z_bool:mg "bool" = none
  z_all:mg "all" = none
  z_int:mg "int" = none
  z_min:mg "min" = none
  kinds:Kinds K
section
variable {P:Program} {w:World} {K:PySem.W.Frag} {mg:Str -> Option Value} {base:Heap}
theorem zDI {X:Cx} {scope sc:Scope} {own:List Nat} {N ps:List Str} (_:FnScope N ps sc) (hk:scope.kind = .function) (hs:X.env.scope = sc) (hN:X.N = N) (h1:zC7 sc scope = true) (h2:zDm N scope own = true):CompIn X scope own:=zDV hk hs hN h1 h2
theorem zIg {X:Cx} {scope sc sd:Scope} {own:List Nat} {N ps:List Str} (_:FnScope N ps sd) (hk:scope.kind = .function) (hs:X.env.scope = sc) (hN:X.N = N) (h1:zC7 sc scope = true) (h2:zDm N scope own = true):CompIn X scope own:=zDV hk hs hN h1 h2
set_option hygiene false in
local macro_rules | `(tactic| decreasing_trivial)=> `(tactic| repeat' first
  | refine zA6 (pv _)
  | refine zAx ?_
  | refine zCV ?_ ?_ (zF rfl)
  | refine zPJ
  | refine zDW ?_
  | refine zFc
  | refine zDq ?_ ?_
  | refine zDw ?_
  | refine zJ0 sc.nd rfl
  | refine zGL
  | refine zDo ?_ ?_ (zF rfl)
  | refine zF2
  | refine zOe (by first | exact zGe T | exact zDj T | exact zEE T | exact zEy T | exact zEw T | exact zF5 T | exact zEs T | exact zEv T | exact zJh T | exact zJE T | exact zHI T) (hr.mono (by omega)) rfl ?_ ?_ (by decide) (zF rfl) (zAf rfl)
  | refine zQG ?_ ?_
  | refine zGd ?_
  | refine zOC ?_
  | refine zKa
  | refine zFx
  | refine zMH ?_ ?_ ?_
  | refine zN6 ?_ ?_
  | refine zLZ rfl T.z_len ?_ (zF rfl) rfl
  | refine zOk
  | refine zFp (zDX (by decide)) (zDI sc rfl rfl rfl (by decide +kernel) (by decide +kernel)) rfl ?_ ⟨fun _ _ _ _ _=>?_,fun _ _ _ _ _=>?_,fun _ _ _ _ _=>?_⟩
  | refine zL4 ?_
  | refine zPI hr.units0 ?_ ?_
  | refine zEf ?_ ?_
  | refine zL1 rfl T.z_tuple ?_ (zF rfl) rfl
  | refine zPH ?_ ?_
  | refine zNz (zKj hr) ?_ ?_
  | refine zPb ?_
  | refine zI2 rfl T.z_range ?_ ?_ (zCP rfl)
  | refine zL7
  | refine zM4 zKf PassesOwn.never rfl ?_ ?_ ?_
  | refine zLd ?_ ?_ ?_
  | refine zNV ?_
  | refine zKB ?_ ?_
  | refine zIe
  | refine zKW rfl ?_
  | refine zPW ?_
  | refine zO2 ?_ ?_
  | refine zJO sc.nd rfl (by first | exact Or.inl rfl | exact Or.inr rfl) (by first | exact .inl rfl | exact .inr rfl) rfl (zDX (by decide)) (zDI sc rfl rfl rfl (by decide +kernel) (by decide +kernel)) rfl ?_ ⟨fun _ _ _ _ _=>?_,fun _ _ _ _ _=>?_,fun _ _ _ _ _=>?_⟩
  | refine zPj ?_ ?_
  | refine zON rfl rfl T.z_list rfl T.z_range ?_ (zF rfl) rfl (zF rfl) rfl
  | refine zO6
  | refine zPo ?_ ?_
  | refine zOZ (zKj hr) ?_ ?_ ?_
  | refine zPG ?_ ?_
  | refine zNu ?_ ?_
  | refine zO8 ?_ ?_
  | refine zFp (zDX (by decide)) (zIg sc rfl rfl rfl (by rfl) (by decide +kernel)) rfl ?_ ⟨fun _ _ _ _ _=>?_,fun _ _ _ _ _=>?_,fun _ _ _ _ _=>?_⟩
  | refine zNZ ?_
  | refine zLG ?_ ?_ ?_
  | refine zPm ?_ ?_
  | refine zL9 rfl T.z_enumerate ?_ (zF rfl) rfl
  | refine zM4 (zGx (K:=K)) PassesOwn.never rfl ?_ ?_ ?_
  | refine zPL (zGx (K:=K)) ?_ ?_
  | refine zL0 ?_ ?_ ?_
  | refine zO1 ?_ ?_ ?_
  | refine zOx ?_ ?_
  | refine zPu ?_ ?_
  | refine zMS ?_ ?_ ?_ ?_
  | refine zMv hr.units0 ?_ ?_
  | refine zK3 ?_ ?_
  | refine zLD ?_ ?_
  | refine zMf
  | refine zNa rfl T.z_len ?_ (zF rfl) rfl
  | refine zN2 rfl rfl T.z_max ?_ (zF rfl) rfl
  | refine zLw ?_ ?_
  | refine zOb ?_
  | refine zPY ?_ ?_
  | refine zFp (zFH (K:=K) (by decide) (by decide)) (zDI sc rfl rfl rfl (by decide +kernel) (by decide +kernel)) rfl ?_ ⟨fun _ _ _ _ _=>?_,fun _ _ _ _ _=>?_,fun _ _ _ _ _=>?_⟩
  | refine zPD ?_ ?_
  | refine zOX rfl T.z_list ?_ (zF rfl) rfl
  | refine zJt true (zPf 4 (by decide) hr) rfl rfl T.z_dict ?_ (zF rfl) rfl
  | refine zLg rfl T.z_zip ?_ (zEX rfl rfl) (zCP rfl)
  | refine zJM (zKj hr) ?_ ?_
  | refine zLs _ PassesOwn.never ?_ ?_
  | refine zNH rfl rfl T.z_min ?_ (zF rfl) (zAf rfl)
  | refine zJN rfl rfl T.z_list rfl T.z_zip ?_ (zEX rfl rfl) (zCP rfl) (zF rfl) rfl
  | refine zNs rfl rfl T.z_tuple rfl T.z_range ?_ (zF rfl) rfl (zF rfl) rfl
  | refine zJq ?_
  | refine zP4 sc.nd rfl ?_
  | refine zFo ?_)
abbrev zGD:List Str:=["machine", "parting", "goal", "row"]
theorem zEo:FnScope zGD ["machine", "parting"] (zX zBy):=⟨rfl,rfl,rfl,by decide +kernel,rfl,by decide +kernel,by decide +kernel⟩
theorem zEy (T:Txt K mg):Od P w base 1 T.d_class_rows zAV:=by
  unfold zAV;have sc:=zEo;exact zA8 (n:=2) T.d_class_rows.F sc rfl (fun cdv A outer s H E hr=>by
    unfold zB2;decreasing_trivial)
abbrev zGK:List Str:=["_law_script", "_law_seed", "_law_cell"]
theorem zFk:FnScope zGK ["_law_script"] (zX zCS):=⟨rfl,rfl,rfl,by decide +kernel,rfl,by decide +kernel,by decide +kernel⟩
theorem zF5 (T:Txt K mg):Od P w base 1 T.d_law_begin zA3:=by
  unfold zA3;have sc:=zFk;exact zA8 (n:=1) T.d_law_begin.F sc rfl (fun cdv A outer s H E hr=>by
    unfold zCH;decreasing_trivial)
abbrev zHj:List Str:=["_law_state", "_law_many", "_law_digit", "_law_mixed"]
theorem zGf:FnScope zHj ["_law_state", "_law_many"] (zX zCr):=⟨rfl,rfl,rfl,by decide +kernel,rfl,by decide +kernel,by decide +kernel⟩
theorem zGe (T:Txt K mg):Od P w base 1 T.d_law_next zP:=by
  unfold zP;have sc:=zGf;exact zA8 (n:=2) T.d_law_next.F sc rfl (fun cdv A outer s H E hr=>by
    unfold zCo;decreasing_trivial)
abbrev zEG:List Str:=["_law_classes", "_law_known", "_law_own"]
theorem zDi:FnScope zEG ["_law_classes"] (zX zBJ):=⟨rfl,rfl,rfl,by decide +kernel,rfl,by decide +kernel,by decide +kernel⟩
theorem zDj (T:Txt K mg):Od P w base 1 T.d_law_numbered zAG:=by
  unfold zAG;have sc:=zDi;exact zFq (zA8 (n:=1) T.d_law_numbered.F sc rfl (fun cdv A outer s H E hr=>by
    unfold zBI;decreasing_trivial))
abbrev zIx:List Str:=["_law_machine_here", "_law_parting", "_law_rows", "_law_room", "_law_own", "_law_goal"]
theorem zHV:FnScope zIx ["_law_machine_here", "_law_parting"] (zX zDQ):=⟨rfl,rfl,rfl,by decide +kernel,rfl,by decide +kernel,by decide +kernel⟩
theorem zHI (T:Txt K mg):Od P w base 1 T.d_law_due zA0:=by
  unfold zA0;have sc:=zHV;exact zIB (zA8 (n:=2) T.d_law_due.F sc rfl (fun cdv A outer s H E hr=>by
    unfold zDT;decreasing_trivial))
abbrev zLP:List Str:=["machine", "parting", "rows", "number"]
theorem zI7:FnScope zLP ["machine", "parting"] (zX zEh):=⟨rfl,rfl,rfl,by decide +kernel,rfl,by decide +kernel,by decide +kernel⟩
theorem zJE (T:Txt K mg):Od P w base 2 T.d_folded zBN:=by
  unfold zBN;have sc:=zI7;exact zIB (zA8 (n:=2) T.d_folded.F sc rfl (fun cdv A outer s H E hr=>by
    unfold zEY;decreasing_trivial))
abbrev zF0:List Str:=["_law_state", "_law_many", "_law_way", "_law_column_here", "_law_room", "_law_one", "_law_other", "_law_goal", "_law_made", "_law_left"]
theorem zEk:FnScope zF0 ["_law_state", "_law_many", "_law_way"] (zX zB6):=⟨rfl,rfl,rfl,by decide +kernel,rfl,by decide +kernel,by decide +kernel⟩
theorem zEw (T:Txt K mg):Od P w base 2 T.d_law_column zv:=by
  unfold zv;have sc:=zEk;exact zA8 (n:=3) T.d_law_column.F sc rfl (fun cdv A outer s H E hr=>by
    unfold zCC;decreasing_trivial)
abbrev zFj:List Str:=["_law_machine_here", "_law_pairs", "_law_row", "_law_met", "_law_pair", "_law_at", "_law_goal", "_law_classes", "_law_one", "_law_other", "_law_own"]
theorem zEm:FnScope zFj ["_law_machine_here", "_law_pairs"] (zX zBu):=⟨rfl,rfl,rfl,by decide +kernel,rfl,by decide +kernel,by decide +kernel⟩
theorem zEv (T:Txt K mg):Od P w base 2 T.d_law_joined zAm:=by
  unfold zAm;have sc:=zEm;exact zFq (zA8 (n:=2) T.d_law_joined.F sc rfl (fun cdv A outer s H E hr=>by
    unfold zB1;decreasing_trivial))
abbrev zEt:List Str:=["_law_state", "_law_most", "_law_letters", "_law_many", "_law_count", "_law_sort", "_law_columns", "_law_letter", "_law_way", "_law_column_here", "_law_room"]
theorem zEP:FnScope zEt ["_law_state", "_law_most", "_law_letters"] (zX zBd):=⟨rfl,rfl,rfl,by decide +kernel,rfl,by decide +kernel,by decide +kernel⟩
theorem zEE (T:Txt K mg):Od P w base 3 T.d_law_machine zAQ:=by
  unfold zAQ;have sc:=zEP;exact zFq (zA8 (n:=3) T.d_law_machine.F sc rfl (fun cdv A outer s H E hr=>by
    unfold zBZ;decreasing_trivial))
abbrev zF9:List Str:=["_law_state", "_law_most", "_law_letters", "_law_base", "_law_many", "_law_owners", "_law_room", "_law_turn", "_law_rows", "_law_own", "_law_row", "_law_goal", "_law_copies_here"]
theorem zEn:FnScope zF9 ["_law_state", "_law_most", "_law_letters"] (zX zBt):=⟨rfl,rfl,rfl,by decide +kernel,rfl,by decide +kernel,by decide +kernel⟩
theorem zEs (T:Txt K mg):Od P w base 4 T.d_law_copies zAo:=by
  unfold zAo;have sc:=zEn;exact zA8 (n:=3) T.d_law_copies.F sc rfl (fun cdv A outer s H E hr=>by
    unfold zB9;decreasing_trivial)
abbrev zGs:List Str:=["_law_found", "_law_due_here", "_law_one", "_law_other"]
theorem zDG:FnScope zGs ["_law_found", "_law_due_here"] (zX zC9):=⟨rfl,rfl,rfl,by decide +kernel,rfl,by decide +kernel,by decide +kernel⟩
theorem zED (T:Txt K mg):∀ n:Nat,FnOk P w K mg base CX0 (n + 0) T.d_law_is.f T.d_law_is.fd ["_law_found", "_law_due_here"] (spF K 2 (zm n))
  | 0=>zMl
  | n + 1=>by
    have hrec:=zED T n;unfold zm;rw [show n + 1 + 0 = (n + 0) + 1 by omega];exact zA8 (n:=2) T.d_law_is.F zDG rfl (fun cdv A outer s H E hr=>by
      unfold zCJ;exact (zDq (zMH (zFo (zE5 T.kinds (by decide) rfl T.z_isinstance rfl T.z_tuple (by rfl) (by decide) (by decide) (zA6 (pv 1)) (zF rfl) (zF rfl) (zAf rfl))) (zDq (zMH (zQH (zO5 (zJq (zFo (zE5 T.kinds (by decide) rfl T.z_isinstance rfl T.z_tuple (by rfl) (by decide) (by decide) (zA6 (pv 0)) (zF rfl) (zF rfl) (zAf rfl)))) (zOA (zMv hr.units0 (zLZ rfl T.z_len (zDo (zA6 (pv 0)) zF2 (zF rfl)) (zF rfl) rfl) (zLZ rfl T.z_len (zDo (zA6 (pv 1)) zF2 (zF rfl)) (zF rfl) rfl))))) (zDw (zGd zO6)) zFx)
    (zDw (zGd (zPQ rfl rfl T.z_all (zDo (zFp (zFH (i:=2) (j:=3) (by decide) (by decide)) (zDV (sc:=zX zC9) (N:=zGs) rfl rfl rfl (by decide +kernel) (by decide +kernel)) rfl (zOB rfl T.z_zip (zCV (zAx (zA6 (pv 0))) (zCV (zAx (zA6 (pv 1))) zFc (zF rfl)) (zF rfl)) (zEX rfl rfl) (zCP rfl)) ⟨fun _ _ _ _ _=>(zKW rfl (zEf (zJ0 (i:=2) zDG.nd rfl) (zEf (zJ0 (i:=3) zDG.nd rfl) zIe))),fun _ _ _ _ _=>zKa,fun _ _ _ _ _=>(zOe hrec (hr.mono (by omega)) rfl (zCV (zAx (zA6 (pv 2))) (zCV (zAx (zA6 (pv 3))) zFc (zF rfl)) (zF rfl)) (zDW (zDW zGL)) (by decide) (zF rfl) (zAf rfl))⟩) zF2 (zF rfl)) (zF rfl) rfl)))) zFx)
    (zDq (zMH (zFo (zE5 T.kinds (by decide) rfl T.z_isinstance rfl T.z_bool (by rfl) (by decide) (by decide) (zA6 (pv 1)) (zF rfl) (zF rfl) (zAf rfl))) (zDw (zGd (zH6 (zE5 T.kinds (by decide) rfl T.z_isinstance rfl T.z_bool (by rfl) (by decide) (by decide) (zA6 (pv 0)) (zF rfl) (zF rfl) (zAf rfl)) (zLA (zOt hr.units0 (zA6 (pv 0)) (zA6 (pv 1))))))) zFx)
    (zDw (zGd (zH6 (zE5 T.kinds (by decide) rfl T.z_isinstance rfl T.z_int (by rfl) (by decide) (by decide) (zA6 (pv 0)) (zF rfl) (zF rfl) (zAf rfl)) (zH6 (zNg (zE5 T.kinds (by decide) rfl T.z_isinstance rfl T.z_bool (by rfl) (by decide) (by decide) (zA6 (pv 0)) (zF rfl) (zF rfl) (zAf rfl))) (zLA (zOt hr.units0 (zA6 (pv 0)) (zA6 (pv 1)))))))))))
theorem zJh (T:Txt K mg):Od P w base 5 T.d_law_is zBh:=zED T 5
abbrev zOh:List Str:=["_law_script", "_law_state", "_law_turn", "_law_machine_here", "_law_owners", "_law_parting", "_law_some", "_law_k", "_law_one"]
theorem zNp:FnScope zOh ["_law_script"] (zX zJ9):=⟨rfl,rfl,rfl,by decide +kernel,rfl,by decide +kernel,by decide +kernel⟩
theorem zOU (T:Txt K mg):Od P w base 6 T.d_law zDc:=by
  unfold zDc;have sc:=zNp;exact zA8 (n:=1) T.d_law.F sc rfl (fun cdv A outer s H E hr=>by
    unfold zKD;decreasing_trivial)
end
theorem zNN {l:PySem.W.OpenLaw} {w:World} {K:PySem.W.Frag} {h:Heap} {mg:Str -> Option Value} {fa:Addr} (X:K.In h) (G:h.Ns mainGlobals mg) (hfa:mg "law" = some (.ref fa))
    (g1:Dg K "class_rows" zBy) (g2:Dg K "folded" zEh) (g3:Dg K "_law_begin" zCS) (g4:Dg K "_law_next" zCr) (g5:Dg K "_law_column" zB6) (g6:Dg K "_law_machine" zBd) (g7:Dg K "_law_copies" zBt) (g8:Dg K "_law_numbered" zBJ) (g9:Dg K "_law_joined" zBu) (g10:Dg K "_law_is" zC9) (g11:Dg K "_law_due" zDQ) (g12:Dg K "law" zJ9) (z1:Zn K "tuple") (z2:Zn K "range") (z3:Zn K "max") (z4:Zn K "list") (z5:Zn K "enumerate") (z6:Zn K "len") (z7:Zn K "dict") (z8:Zn K "zip") (z9:Zn K "isinstance") (z10:Zn K "bool") (z11:Zn K "all") (z12:Zn K "int") (z13:Zn K "min") (y1:Ki K "NoneType" "int" false) (y2:Ki K "NoneType" "bool" false) (y3:Ki K "NoneType" "str" false) (y4:Ki K "NoneType" "tuple" false) (y5:Ki K "bool" "int" true) (y6:Ki K "bool" "bool" true) (y7:Ki K "bool" "str" false) (y8:Ki K "bool" "tuple" false) (y9:Ki K "int" "int" true) (y10:Ki K "int" "bool" false) (y11:Ki K "int" "str" false) (y12:Ki K "int" "tuple" false) (y13:Ki K "str" "int" false) (y14:Ki K "str" "bool" false) (y15:Ki K "str" "str" true) (y16:Ki K "str" "tuple" false) (y17:Ki K "list" "int" false) (y18:Ki K "list" "bool" false) (y19:Ki K "list" "str" false) (y20:Ki K "list" "tuple" false) (y21:Ki K "tuple" "int" false) (y22:Ki K "tuple" "bool" false) (y23:Ki K "tuple" "str" false) (y24:Ki K "tuple" "tuple" true) (y25:Ki K "dict" "int" false) (y26:Ki K "dict" "bool" false) (y27:Ki K "dict" "str" false) (y28:Ki K "dict" "tuple" false) :
    ∃ fd:FuncData,(∀ (s:Shared) (v:Value),BindsTo s fd ⟨[v],[]⟩ [("_law_script", v)]) /\ ∀ base:Heap,K.In base -> base.Ns mainGlobals mg -> FnOk l.prog w K mg base CX0 6 fa fd ["_law_script"] (spF K 1 zDc):=by
  have e:=hfa.symm.trans (PySem.W.mg_of X G g12.a);cases e;have kinds:Kinds K:=⟨by
    intro t T ht hT;simp only [zQZ,zQs,zRi] at ht hT;rcases ht with rfl | rfl | rfl | rfl | rfl | rfl | rfl <;> rcases hT with rfl | rfl | rfl | rfl <;> assumption⟩
  let T:Txt K mg:=⟨g1.df X G fun _ _ _ _ _ _=>zIp fun _ _=>rfl,g2.df X G fun _ _ _ _ _ _=>zIp fun _ _=>rfl,g3.df X G fun _ _ _ _ _ _=>zNe fun _=>rfl,g4.df X G fun _ _ _ _ _ _=>zIp fun _ _=>rfl,g5.df X G fun _ _ _ _ _ _=>zNM fun _ _ _=>rfl,g6.df X G fun _ _ _ _ _ _=>zNM fun _ _ _=>rfl,g7.df X G fun _ _ _ _ _ _=>zNM fun _ _ _=>rfl,g8.df X G fun _ _ _ _ _ _=>zNe fun _=>rfl,g9.df X G fun _ _ _ _ _ _=>zIp fun _ _=>rfl,g10.df X G fun _ _ _ _ _ _=>zIp fun _ _=>rfl,g11.df X G fun _ _ _ _ _ _=>zIp fun _ _=>rfl,g12.df X G fun _ _ _ _ _ _=>zNe fun _=>rfl,zRM X G z1,zRM X G z2,zRM X G z3,zRM X G z4,zRM X G z5,zRM X G z6,zRM X G z7,zRM X G z8,zRM X G z9,zRM X G z10,zRM X G z11,zRM X G z12,zRM X G z13,kinds⟩;refine ⟨T.d_law.fd,fun s v=> .of_eq rfl,fun base _ _=>?_⟩;exact zOU (P:=l.prog) (w:=w) (base:=base) T
theorem zQE {l:PySem.W.OpenLaw} {q:Program} {loose:List Str} {XP:(Str -> Option Value) -> Heap -> Prop} {YP:World -> Heap -> Prop} {d:DefRec} {K:Params -> PySem.W.Frag} (hn:l.most = some 63) (hdf:d.params.defaults = [])
    (hY:∀ (w:World) (h:Heap),YP w h -> (K w.params).In h) (hL:∀ w:World,zF7 (K w.params) = true)
    (F:∀ (w:World) (mg:Str -> Option Value) (fa:Addr) (h:Heap),(K w.params).In h -> h.Ns mainGlobals mg -> mg d.name = some (.ref fa) ->
      ∃ fd:FuncData,(∀ (s:Shared) (u:Value),BindsTo s fd ⟨[u],[]⟩ [("_law_script", u)]) /\ ∀ base:Heap,(K w.params).In base -> base.Ns mainGlobals mg -> FnOk l.prog w (K w.params) mg base CX0 6 fa fd ["_law_script"] (spF (K w.params) 1 zDc)) :
    PySem.W.WalkO q loose XP YP l.row.toRowW d [] (fun f vs=>PySem.call f vs) :=
  L2.zMT (n:=63) (k:=6) (x := "_law_script") (CX:=fun _=>CX0) (sp:=fun w=>spF (K w.params) 1 zDc) hn (by decide) hdf ⟨rfl,by decide,by decide⟩ hY F
    (fun w H a ns hl hO hS=>zJU (hL w) hO hS (zK8 ns hl)) fun _ _ _ _ _ z=>z
end Lad
open PySem PySem.W PyProof.Rows
set_option maxRecDepth 100000 in
set_option maxHeartbeats 0 in
theorem PySem.Challenge.cw_bringhome_k44_folded_machines_holds : PySem.Challenge.rw_bringhome_k44_folded_machines.Holds := by
  w_on; o_law; k_head; (case hw=>w_witness2);k_fill;refine Lad.zQE (l:=PySem.Challenge.rw_bringhome_k44_folded_machines) rfl rfl (fun w h Y=>PySem.W.kIn_of Y) (fun w=>by rfl) ?F
  case F=>
    intro w mg fa h KX G hmg;refine' Lad.zNN KX G hmg ?_ ?_ ?_ ?_ ?_ ?_ ?_ ?_ ?_ ?_ ?_ ?_ ?_ ?_ ?_ ?_ ?_ ?_ ?_ ?_ ?_ ?_ ?_ ?_ ?_ ?_ ?_ ?_ ?_ ?_ ?_ ?_ ?_ ?_ ?_ ?_ ?_ ?_ ?_ ?_ ?_ ?_ ?_ ?_ ?_ ?_ ?_ ?_ ?_ ?_ ?_ ?_ ?_;all_goals first | exact ⟨_,by k_is,by k_is,by k_is,by k_is⟩ | (unfold L3.Zn; k_is) | (unfold L3.Ki; kit_is) | k_is
