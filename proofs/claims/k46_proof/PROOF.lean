import PyProof.Rows.All
import Wide.All
import OpenK.AllK
import Wide.FinOn
import Lean
import PyProof.EqAt
import PyProof.EqKinds
import PyProof.TupleCall
import PyProof.NeKinds
import PyProof.ZipIter
import PyProof.ListRange
import PyProof.TupleOfSeq
import PyProof.ConsumeWalk
import PyProof.IsRules
import PyProof.SetKind
import PyProof.SetRoads
import PyProof.Rows.SetFrom
import PyProof.Draws
import PyProof.EnumMake
import PyProof.DictCompW
import PyProof.ListMulRoad
import PyProof.Rows.SeqMore2
import PyProof.WalkInts
import PyProof.DictRoadsH
import PyProof.DictItems
import KE.KDictList
import KE.KDictOf
import PyProof.AttrMissHeap
import PySem.Challenge.RW_bringhome_k46_stable_shown
section
open PySem
abbrev Ya:=List (List Int)
abbrev Yb:=W.Frag
abbrev Yc:=Value->Shared->Prop
abbrev Yd:=List (Addr × Obj)
abbrev Ye:=List Int
abbrev Yf:=List Value
abbrev Yg:=List Addr
abbrev Yh:=Str->Option Value
abbrev Yi:=List Expr
abbrev Yj:=List Nat
abbrev Yk:=List Str
abbrev Yl:=Shared
abbrev Ym:=Program
abbrev Yn:=Around
abbrev Yo:=World
abbrev Yp:=Array Value
abbrev Yq:=List Int->Prop
abbrev Yr:=Value->Nat
abbrev Ys:=Option Int
abbrev Yt:=Addr
abbrev Yu:=Value
abbrev Yv:=List (Str × Addr)
abbrev Yw:=Array (Int × Value)
abbrev Yx:=Result->Shared->Prop
abbrev Yy:=List Stmt
abbrev Yz:=FuncData
abbrev Y0:=Scope
abbrev Y1:=List Int->List (List Int)
abbrev Y2:=Value->Value->Sem Value
end
namespace PySem.W.Fast
def tw8328066382845962213:=0
def tw10193926141763750701:=0
def tw2741896007516070048:=0
def tw13264549578830544450:=0
def tw12281213902827201587:=0
def tw6659269365549842870:=0
def tw9079166286404099627:=0
def tw6859671758995344292:=0
def tw8255939093733410831:=0
def tw10779177865045232319:=0
def tw17087304554482538857:=0
def tw17849757339718895542:=0
def tw3522783546104973699:=0
def tw14580409088577987435:=0
def tw14354930212775104227:=0
def tw14532192018326748088:=0
def tw12060777240226959783:=0
def tw2794769932537816775:=0
def tw871003583718469557:=0
def tw12885390806030967434:=0
def tw11332946318632707120:=0
def tw11618990370417956386:=0
def tw11257072943114603409:=0
def tw11280143553663259908:=0
def tw5327561830354591933:=0
def tw16157801405227777389:=0
def tw11735975584670400151:=0
def tw3039737405551635039:=0
def tw15625606766156532680:=0
def tw14219808146156475838:=0
def tw11148882829886468030:=0
def tw2966313659007889001:=0
def tw3482301848352765139:=0
def tw9205390073989901566:=0
def tw9592318485727020147:=0
def tw4599290927564946568:=0
def tw13907826470182848228:=0
def tw2806676638658471715:=0
def tw18285942894042960046:=0
def tw10888668209117900107:=0
def tw7939118308517465730:=0
def tw8014226412832521336:=0
def tw17008460662463154554:=0
def tw3926529479252056816:=0
def tw13330639970098428099:=0
def tw8224238678387445202:=0
def tw1159138690056365617:=0
def tw3185931306484662104:=0
end PySem.W.Fast
section
open PySem PySem.Spec PyProof.Rows
def zXD:type_of% @wpAny_bind:=@wpAny_bind
def zXE:type_of% @Heap.get?_push_of_some:=@Heap.get?_push_of_some
def zXF:type_of% @wpAny_pure:=@wpAny_pure
def zXG:type_of% @List.getElem?_eq_some_iff:=@List.getElem?_eq_some_iff
def zXH:type_of% @List.getElem?_eq_getElem:=@List.getElem?_eq_getElem
def zXI:type_of% @List.getD_eq_getElem?_getD:=@List.getD_eq_getElem?_getD
def zXJ:type_of% @Nat.le_refl:=@Nat.le_refl
def zXK:type_of% @List.getElem?_append_left:=@List.getElem?_append_left
def zXL:type_of% @List.size_toArray:=@List.size_toArray
def zXM:type_of% @List.length_map:=@List.length_map
def zXN:type_of% @Heap.get?_push_size:=@Heap.get?_push_size
def zXO:type_of% @Heap.lt_size:=@Heap.lt_size
def zXP:type_of% @List.mem_cons:=@List.mem_cons
def zXQ:type_of% @List.mem_cons_of_mem:=@List.mem_cons_of_mem
def zXR:type_of% @List.mem_cons_self:=@List.mem_cons_self
def zXS:type_of% @if_pos:=@if_pos
def zXT:type_of% @List.length_append:=@List.length_append
def zXU:type_of% @List.mem_map:=@List.mem_map
def zXV:type_of% @if_neg:=@if_neg
def zXW:type_of% @List.map_cons:=@List.map_cons
def zXX:type_of% @List.mem_append_right:=@List.mem_append_right
def zXY:type_of% @Nat.ne_of_lt:=@Nat.ne_of_lt
def zXZ:type_of% @Bool.false_ne_true:=@Bool.false_ne_true
def zXa:type_of% @List.getElem?_map:=@List.getElem?_map
def zXb:type_of% @List.map_map:=@List.map_map
def zXc:type_of% @Nat.lt_of_lt_of_le:=@Nat.lt_of_lt_of_le
def zXd:type_of% @List.mem_append:=@List.mem_append
def zXe:type_of% @Nat.le_trans:=@Nat.le_trans
def zXf:type_of% @List.mem_singleton:=@List.mem_singleton
def zXg:type_of% @wpAny_newObj_type:=@wpAny_newObj_type
def zXh:type_of% @List.getElem?_set_ne:=@List.getElem?_set_ne
def zXi:type_of% @List.not_mem_nil:=@List.not_mem_nil
def zXj:type_of% @wpAny_mono:=@wpAny_mono
def zXk:type_of% @List.length_cons:=@List.length_cons
def zXl:type_of% @List.getElem_mem:=@List.getElem_mem
def zXm:type_of% @decide_eq_false:=@decide_eq_false
def zXn:type_of% @Bool.and_eq_true:=@Bool.and_eq_true
def zXo:type_of% @List.all_eq_true:=@List.all_eq_true
def zXp:type_of% @wpAny_callSpecial?_slot:=@wpAny_callSpecial?_slot
def zXq:type_of% @wpAny_call_entry:=@wpAny_call_entry
def zXr:type_of% @List.mem_range:=@List.mem_range
def zXs:type_of% @wpAny_field:=@wpAny_field
def zXt:type_of% @Heap.size_push:=@Heap.size_push
def zXu:type_of% @Heap.get?_update_other:=@Heap.get?_update_other
def zXv:type_of% @Nat.lt_irrefl:=@Nat.lt_irrefl
def zXw:type_of% @Array.length_toList:=@Array.length_toList
def zXx:type_of% @List.append_nil:=@List.append_nil
def zXy:type_of% @Array.getElem?_eq_getElem:=@Array.getElem?_eq_getElem
def zXz:type_of% @Nat.zero_le:=@Nat.zero_le
def zX0:type_of% @Heap.get?_update_self:=@Heap.get?_update_self
def zX2:type_of% @Nat.lt_succ_of_lt:=@Nat.lt_succ_of_lt
def zX3:type_of% @wpAny_seqItems:=@wpAny_seqItems
def zX4:type_of% @List.mem_of_getElem?:=@List.mem_of_getElem?
def zX5:type_of% @List.map_append:=@List.map_append
def zX6:type_of% @wpAny_holding:=@wpAny_holding
def zX7:type_of% @List.getElem?_set_self:=@List.getElem?_set_self
def zX9:type_of% @of_decide_eq_true:=@of_decide_eq_true
def zYA:type_of% @Nat.lt_succ_self:=@Nat.lt_succ_self
def zYB:type_of% @wpAny_standAt:=@wpAny_standAt
def zYC:type_of% @PySem.W.mg_none_of:=@PySem.W.mg_none_of
def zYD:type_of% @Option.some.inj:=@Option.some.inj
def zYE:type_of% @Bool.false_eq_true:=@Bool.false_eq_true
def zYF:type_of% @PySem.mem_of_lookup:=@PySem.mem_of_lookup
def zYG:type_of% @Heap.SameBut.update:=@Heap.SameBut.update
def zYH:type_of% @List.cons.inj:=@List.cons.inj
def zYJ:type_of% @List.append_assoc:=@List.append_assoc
def zYL:type_of% @decide_eq_true:=@decide_eq_true
def zYM:type_of% @List.getElem?_eq_none:=@List.getElem?_eq_none
def zYN:type_of% @List.getElem?_append_right:=@List.getElem?_append_right
def zYO:type_of% @List.mem_filter:=@List.mem_filter
def zYQ:type_of% @decide_eq_true_eq:=@decide_eq_true_eq
def zYR:type_of% @List.nodup_append:=@List.nodup_append
def zYS:type_of% @List.mem_append_left:=@List.mem_append_left
def zYT:type_of% @wpAny_setField_rec:=@wpAny_setField_rec
def zYU:type_of% @Obj.data_mapFields:=@Obj.data_mapFields
def zYW:type_of% @List.replicate_succ:=@List.replicate_succ
def zYX:type_of% @List.nodup_cons:=@List.nodup_cons
def zYY:type_of% @or_false:=@or_false
def zYZ:type_of% @Nat.lt_or_ge:=@Nat.lt_or_ge
def zYa:type_of% @wpAny_rule:=@wpAny_rule
def zYb:type_of% @List.length_take:=@List.length_take
def zYi:type_of% @Nat.ne_of_gt:=@Nat.ne_of_gt
def zYl:type_of% @PyProof.Rows.slot_tuple_getitem:=@PyProof.Rows.slot_tuple_getitem
def zYm:type_of% @List.getElem?_set:=@List.getElem?_set
def zYp:type_of% @Nat.mul_le_mul:=@Nat.mul_le_mul
def zYq:type_of% @PySem.W.kia_one:=@PySem.W.kia_one
def zYr:type_of% @PySem.F.slot_zip_next:=@PySem.F.slot_zip_next
def zYz:type_of% @List.find?_cons:=@List.find?_cons
def zY0:type_of% @congrArg:=@congrArg
def zY2:type_of% @Nat.le_add_right:=@Nat.le_add_right
def zY7:type_of% @wpAny_comprehension_free:=@wpAny_comprehension_free
def zZA:type_of% @List.length_range:=@List.length_range
def zZB:type_of% @List.foldl_append:=@List.foldl_append
def zZC:type_of% @List.flatten_cons:=@List.flatten_cons
def zZD:type_of% @wpAny_onRaise:=@wpAny_onRaise
def zZH:type_of% @List.getElem?_range:=@List.getElem?_range
def zZI:type_of% @List.lookup_cons:=@List.lookup_cons
def zZN:type_of% @List.pairwise_cons:=@List.pairwise_cons
def zZV:type_of% @List.nil_append:=@List.nil_append
def zZW:type_of% @List.length_set:=@List.length_set
def zZX:type_of% @List.length_filter_le:=@List.length_filter_le
def zZZ:type_of% @List.ext_getElem?:=@List.ext_getElem?
def zaS:type_of% @List.length_singleton:=@List.length_singleton
end
set_option Elab.async false
set_option linter.all false
set_option maxRecDepth 100000
set_option genSizeOf false
set_option genInjectivity false
set_option compiler.extract_closed false
noncomputable section
namespace L2
open PySem PySem.Spec PyProof.Rows
abbrev Key:=Sum Int Str
def zI1:Key->Value->Bool
 |.inl k,v=>Value.isInt k v
 |.inr x,v=>Value.isStrOf x v
def zWv (w:Yo):Key->Int
 |.inl k=>hashInt k
 |.inr x=>hashStr w x
def zAq:∀ {k:Key} {v:Yu},zI1 k v=true->(∃ i t,k=Sum.inl i/\v=Value.int i t)\/(∃ x t,k=Sum.inr x/\v=Value.str x t)
 |.inl i,v,h=>by
  obtain ⟨t,e⟩:=Value.isInt_shape (k:=i) (v:=v) h;exact .inl ⟨i,t,rfl,e⟩
 |.inr x,v,h=>by
  obtain ⟨t,e⟩:=Value.isStrOf_shape (x:=x) (v:=v) h;exact .inr ⟨x,t,rfl,e⟩
def zOS (i:Int) (t:Tok):zI1 (.inl i) (.int i t)=true:=by simp[zI1,Value.isInt]
def zOR (x:Str) (t:Tok):zI1 (.inr x) (.str x t)=true:=by simp[zI1,Value.isStrOf]
def zU7 (a b:Int):decide ((Sum.inl a:Key)=Sum.inl b)=(a==b):=by
 by_cases e:a=b
 .subst e;simp
 .have h:¬ (Sum.inl a:Key)=Sum.inl b:=λq=>e (Sum.inl.inj q);rw[zXm h];exact (beq_eq_false_iff_ne.mpr e).symm
def zUc (a b:Str):decide ((Sum.inr a:Key)=Sum.inr b)=decide (a=b):=by
 by_cases e:a=b
 .subst e;simp
 .have h:¬ (Sum.inr a:Key)=Sum.inr b:=λq=>e (Sum.inr.inj q);rw[zXm h,zXm e]
def zUw (a:Int) (b:Str):decide ((Sum.inl a:Key)=Sum.inr b)=false:=zXm (λq=>nomatch q)
def zTw (a:Str) (b:Int):decide ((Sum.inr a:Key)=Sum.inl b)=false:=zXm (λq=>nomatch q)
noncomputable def zAO (prog:Ym) (w:Yo):PySem.KeyKind prog w Key where
 is:=zI1
 hash:=zWv w
 inj:=λv a b ha hb=>by
  rcases zAq ha with ⟨i,t,rfl,rfl⟩|⟨x,t,rfl,rfl⟩
  .rcases zAq hb with ⟨j,u,rfl,e⟩|⟨y,u,rfl,e⟩
   .injection e with e1 _;rw[e1]
   .exact nomatch e
  .rcases zAq hb with ⟨j,u,rfl,e⟩|⟨y,u,rfl,e⟩
   .exact nomatch e
   .injection e with e1 _;rw[e1]
 byValue:=λk v h=>by
  rcases zAq h with ⟨i,t,rfl,rfl⟩|⟨x,t,rfl,rfl⟩ <;> rfl
 pyHash:=λhv h=>by
  rcases zAq hv with ⟨i,t,rfl,rfl⟩|⟨x,t,rfl,rfl⟩
  .exact wpAny_pyHash_int h
  .exact wpAny_pyHash_str h
 eqBool:=λhu hv h=>by
  rcases zAq hu with ⟨i,t,rfl,rfl⟩|⟨x,t,rfl,rfl⟩
  .rcases zAq hv with ⟨j,u,rfl,rfl⟩|⟨y,u,rfl,rfl⟩
   .rw[zU7]at h;exact wpAny_eqBool_int h
   .rw[zUw]at h;exact SeqAt.EqAt.int_str i t y u _ _ _ _ h
  .rcases zAq hv with ⟨j,u,rfl,rfl⟩|⟨y,u,rfl,rfl⟩
   .rw[zTw]at h;exact SeqAt.EqAt.str_int x t j u _ _ _ _ h
   .rw[zUc]at h;exact wpAny_eqBool_str h
 «strs»:=λk x t v h=>by
  rcases zAq h with ⟨i,u,rfl,e⟩|⟨y,u,rfl,e⟩
  .exact nomatch e
  .injection e with e1 _
   subst e1
   cases v <;> rfl
def zLj (prog:Ym) (w:Yo) (i:Int) (t:Tok):(zAO prog w).is (.inl i) (.int i t)=true:=zOS i t
def zLp (prog:Ym) (w:Yo) (x:Str) (t:Tok):(zAO prog w).is (.inr x) (.str x t)=true:=zOR x t
set_option genInjectivity true in
inductive V where
 |non|bl (b:Bool)|int (i:Int)|str (x:Str)|byt (b:Array UInt8)|flt (b:UInt64)|ref (a:Yt)|ty (n:String)
 deriving DecidableEq
def zw:V->Value->Prop
 |.non,u=>u=Value.none
 |.bl b,u=>u=Value.bool b
 |.int i,u=>∃ t,u=Value.int i t
 |.str x,u=>∃ t,u=Value.str x t
 |.byt b,u=>∃ t,u=Value.bytes b t
 |.flt b,u=>∃ t,u=Value.float b t
 |.ref a,u=>u=Value.ref a
 |.ty n,u=>u=Value.type n
abbrev zg:List V->List Value->Prop:=Paired zw
def zg.length {xs:List V} {us:Yf} (r:zg xs us):xs.length=us.length:=Paired.length r
def zg.get:∀ {xs:List V} {us:Yf} {i:Nat} {x:V},zg xs us->xs[i]?=some x -> ∃ u,us[i]?=some u/\zw x u
 |_,_,_,_,.nil,e=>by simp at e
 |_,_,0,_,.cons r _,e=>by simp at e;subst e;exact ⟨_,rfl,r⟩
 |_,_,i+1,x,.cons _ t,e=>by
  obtain ⟨u,h1,h2⟩:=zg.get (i:=i) (x:=x) t (by simpa using e);exact ⟨u,by simpa using h1,h2⟩
def zg.set {x:V} {u:Yu} (r:zw x u):∀ {xs:List V} {us:Yf} (i:Nat),zg xs us->zg (xs.set i x) (us.set i u)
 |_,_,_,.nil=> .nil
 |_,_,0,.cons _ t=> .cons r t
 |_,_,i+1,.cons q t=> .cons q (zg.set r i t)
def zg.append:∀ {xs ys:List V} {us ws:Yf},zg xs us->zg ys ws->zg (xs++ys) (us++ws)
 |_,_,_,_,.nil,s=>s
 |_,_,_,_,.cons r t,s=> .cons r (zg.append t s)
def zg.take:∀ {xs:List V} {us:Yf} (n:Nat),zg xs us->zg (xs.take n) (us.take n)
 |_,_,0,_=> .nil
 |_,_,_+1,.nil=> .nil
 |_,_,n+1,.cons r t=> .cons r (zg.take n t)
def zg.drop:∀ {xs:List V} {us:Yf} (n:Nat),zg xs us->zg (xs.drop n) (us.drop n)
 |_,_,0,r=>r
 |_,_,_+1,.nil=> .nil
 |_,_,n+1,.cons _ t=>zg.drop n t
def zF6:Option V->Option Value->Prop
 |some v,some u=>zw v u
 |none,none=>True
 |_,_=>False
def KV {κ:Type}:List (κ × V)->List (κ × Value)->Prop:=Paired λ(p:κ × V) (q:κ × Value)=>p.1=q.1/\zw p.2 q.2
def kV:Key->V
 |.inl i=> .int i
 |.inr x=> .str x
set_option genInjectivity true in
inductive HO where
 |lst (xs:List V)
 |tup (xs:List V)
 |dK (kvs:List (Key × V))|dT (kvs:List (List Key × V))
 |set (S:Int->Bool) (n:Nat)
 |ins (C dx:Yt) (fs:List (Str × V))
 |own (x:Yt)
 |xd (fs:List (Str × V))
 |met (f x:Yt)
 |rng (lo hi:Int)
 |frz (o:Obj) (u:HO)
 |tbl (ps:Yp)
 |ext (φ:Heap->Prop)
abbrev Hp:=Addr->Option HO
def upd (H:Hp) (a:Yt) (o:HO):Hp:=λb=>if b=a then some o else H b
def zAB {H:Hp} {a:Yt} {o:HO}:upd H a o a=some o:=by unfold upd;rw[zXS rfl]
def zZ {H:Hp} {a b:Yt} {o:HO} (h:b≠a):upd H a o b=H b:=by unfold upd;rw[zXV h]
def zH7 {H:Hp} {a b:Yt} {o u:HO} (h:H a=some o) (h':H b=some u) (d:o≠u):a≠b:=by
 intro e;subst e;rw[h]at h';exact d (zYD h')
def zAF {H:Hp} {a b:Yt} {o:HO} (h:H a=some o) (h':H b=none):a≠b:=by
 intro e;subst e;rw[h]at h';cases h'
def zCJ (h:Heap) (a:Addr) (items:Array Value):Prop:=∃ o,h.get? a=some o/\o.cls=.type "tuple" /\ (∃ n,o.data=.seq items n)/\o.dict=none
def zCJ.tup {h:Heap} {a:Yt} {items:Yp} (x:zCJ h a items):IsTup h a items:=let ⟨o,e,c,d,_⟩:=x;⟨o,e,c,d⟩
def zCJ.lt {h:Heap} {a:Yt} {items:Yp} (x:zCJ h a items):a<h.objs.size:=let ⟨_,e,_⟩:=x;zXO e
def zCJ.new (h:Heap) (items:Array Value):zCJ (h.push { cls:=.type "tuple", data:=.seq items }) h.objs.size items:=⟨_,zXN _ rfl,rfl,⟨_,rfl⟩,rfl⟩
section
variable (P:Ym) (w:Yo)
def zAV (H:Hp) (h:Heap) (a:Yt):HO->Prop
 |.lst xs=>xs.length<=sizeLine /\ ∃ (its:List Value) (n:Nat),zg xs its/\h.get? a=some { cls:=.type "list", data:=.seq its.toArray n }
 |.tup xs=>xs.length<=sizeLine /\ ∃ its:List Value,zg xs its/\zCJ h a its.toArray
 |.dK kvs=>kvs.length<=sizeLine/\(a==sysModules)=false /\ ∃ vs,KV kvs vs/\h.DictOf (zAO P w) a vs
 |.dT kvs=>kvs.length<=sizeLine/\(a==sysModules)=false /\ ∃ xs:List (List Key × Addr × Value),
   Paired (λ(p:List Key × V) (q:List Key × Addr × Value)=>p.1=q.1/\H q.2.1=some (.tup (p.1.map kV))/\zw p.2 q.2.2) kvs xs /\
   ∃ o es ep,h.get? a=some o/\o.ExactDict/\o.data=.dict es ep/\es.toList=xs.map (entryOfKey (tupleKind (zAO P w)))/\(xs.map (·.1)).Nodup
 |.set S n=>h.SetOf (intKind P w) a S n
 |.ins C dx fs=>H dx=some (.own a)/\fs.length<=1000/\dx≠a/\h.get? a=some (PySem.W.instObj C dx) /\
   ∃ mA,h.Ns1 dx mA/\(∀ f,zF6 (fs.lookup f) (mA f))/\PySem.Within mA (fs.map (·.1))
 |.own _=>∃ o,h.get? a=some o
 |.xd fs=>∃ mA,h.Ns1 a mA /\ ∀ f,zF6 (fs.lookup f) (mA f)
 |.rng lo hi=>∃ t u v,h.get? a=some { cls:=.type "range", data:=.fields #[.int lo t,.int hi u,.int 1 v] }
 |.frz o u=>h.get? a=some o/\zAV H h a u
 |.tbl ps=>h.get? a=some { cls:=.none,data:=.fields ps }
 |.met f x=>h.get? a=some (PySem.W.methodObj (.ref f) (.ref x))
 |.ext φ=>φ h/\(∃ o,h.get? a=some o) /\ ∀ h1 h2:Heap,φ h1->(∀ o,h1.get? a=some o->h2.get? a=some o)->φ h2
def HOk (H:Hp) (h:Heap):Prop:=∀ a o,H a=some o->zAV P w H h a o
end
section
variable {P:Ym} {w:Yo} {H H':Hp} {h h':Heap} {a:Yt} {o:HO}
def zAV.lt (x:zAV P w H h a o):a<h.objs.size:=by
 cases o with
 |lst xs=>obtain ⟨_,_,_,_,e⟩:=x;exact zXO e
 |tup xs=>obtain ⟨_,_,_,p⟩:=x;exact p.lt
 |dK kvs=>obtain ⟨_,_,_,_,o,_,_,e,_⟩:=x;exact zXO e
 |dT kvs=>obtain ⟨_,_,_,_,o,_,_,e,_⟩:=x;exact zXO e
 |set S n=>obtain ⟨o,_,_,_,e,_⟩:=x;exact zXO e
 |ins C dx fs=>obtain ⟨_,_,_,e,_⟩:=x;exact zXO e
 |own y=>obtain ⟨_,e⟩:=x;exact zXO e
 |xd fs=>obtain ⟨_,⟨_,_,_,e,_⟩,_⟩:=x;exact zXO e
 |rng lo hi=>obtain ⟨_,_,_,e⟩:=x;exact zXO e
 |frz ob u=>obtain ⟨e,_⟩:=x;exact zXO e
 |tbl ps=>exact zXO (show h.get? a=some _ from x)
 |met f y=>exact zXO (show h.get? a=some _ from x)
 |ext φ=>obtain ⟨_,⟨_,e⟩,_⟩:=x;exact zXO e
def Paired.mapP {α β:Type} {F G:α->β->Prop}:∀ {l₁:List α} {l₂:List β},Paired F l₁ l₂->(∀ a b,F a b->G a b)->Paired G l₁ l₂
 |_,_,.nil,_=> .nil
 |_,_,.cons r t,f=> .cons (f _ _ r) (Paired.mapP t f)
def zAV.stay (x:zAV P w H h a o) (k:∀ b u,(b=a\/H b=some (.own a))->h.get? b=some u->h'.get? b=some u)
  (ho:∀ b,H b=some (.own a)->H' b=some (.own a)) (ht:∀ b xs,H b=some (.tup xs)->H' b=some (.tup xs)):zAV P w H' h' a o:=by
 induction o with
 |lst xs=>obtain ⟨z,its,n,r,e⟩:=x;exact ⟨z,its,n,r,k _ _ (.inl rfl) e⟩
 |tup xs=>obtain ⟨z,its,r,ob,e,c⟩:=x;exact ⟨z,its,r,ob,k _ _ (.inl rfl) e,c⟩
 |dK kvs=>obtain ⟨z,y,vs,r,ob,es,ep,e,c⟩:=x;exact ⟨z,y,vs,r,ob,es,ep,k _ _ (.inl rfl) e,c⟩
 |dT kvs=>
  obtain ⟨z,y,xs,r,ob,es,ep,e,c⟩:=x;exact ⟨z,y,xs,Paired.mapP r λp q z=>⟨z.1,ht _ _ z.2.1,z.2.2⟩,ob,es,ep,k _ _ (.inl rfl) e,c⟩
 |set S n=>obtain ⟨ob,es,ep,t,e,c⟩:=x;exact ⟨ob,es,ep,t,k _ _ (.inl rfl) e,c⟩
 |ins C dx fs=>
  obtain ⟨d,z,ne,e,mA,⟨od,es,ep,e2,c⟩,r⟩:=x;exact ⟨ho _ d,z,ne,k _ _ (.inl rfl) e,mA,⟨od,es,ep,k _ _ (.inr d) e2,c⟩,r⟩
 |own y=>obtain ⟨ob,e⟩:=x;exact ⟨ob,k _ _ (.inl rfl) e⟩
 |xd fs=>obtain ⟨mA,⟨od,es,ep,e,c⟩,r⟩:=x;exact ⟨mA,⟨od,es,ep,k _ _ (.inl rfl) e,c⟩,r⟩
 |rng lo hi=>obtain ⟨t,u,v,e⟩:=x;exact ⟨t,u,v,k _ _ (.inl rfl) e⟩
 |frz ob u ih=>obtain ⟨e,q⟩:=x;exact ⟨k _ _ (.inl rfl) e,ih q⟩
 |tbl ps=>
  have e:h.get? a=some { cls:=.none,data:=.fields ps }:=x;show h'.get? a=some { cls:=.none,data:=.fields ps };exact k a _ (.inl rfl) e
 |met f y=>
  have e:h.get? a=some (PySem.W.methodObj (.ref f) (.ref y)):=x;show h'.get? a=some (PySem.W.methodObj (.ref f) (.ref y));exact k a _ (.inl rfl) e
 |ext φ=>obtain ⟨p,⟨o,e⟩,st⟩:=x;exact ⟨st _ _ p λo q=>k _ _ (.inl rfl) q,⟨o,k _ _ (.inl rfl) e⟩,st⟩
def HOk.lt (x:HOk P w H h) (e:H a=some o):a<h.objs.size:=(x a o e).lt
def HOk.fresh (x:HOk P w H h) (e:h.objs.size<=a):H a=none:=by
 cases q:H a with
 |none=>rfl
 |some u=>exact absurd (zXc (x.lt q) e) (zXv _)
def HOk.kept (x:HOk P w H h) (k:∀ b u,h.get? b=some u->h'.get? b=some u):HOk P w H h':=λa o e=>
 (x a o e).stay (λb u _ q=>k b u q) (λ_ q=>q) λ_ _ q=>q
def HOk.laid (x:HOk P w H h) (k:∀ b u,h.get? b=some u->h'.get? b=some u) (hp:h.objs.size<=a) (new:zAV P w (upd H a o) h' a o):HOk P w (upd H a o) h':=λb u e=>by
 have hn:=x.fresh hp;by_cases hb:b=a
 .subst hb;rw[zAB]at e;cases e;exact new
 .rw[zZ hb]at e;exact (x b u e).stay (λc v _ q=>k c v q) (λc q=>by rw[zZ (zAF q hn)];exact q) λc xs q=>by rw[zZ (zAF q hn)];exact q
end
def Rd (H:Hp) (a:Yt) (u:HO):Prop:=H a=some u \/ ∃ o,H a=some (.frz o u)
def Rd.ok {P:Ym} {w:Yo} {H:Hp} {h:Heap} {a:Yt} {u:HO} (r:Rd H a u) (x:HOk P w H h):zAV P w H h a u:=by
 rcases r with r|⟨o,r⟩
 .exact x a u r
 .obtain ⟨_,q⟩:=x a _ r;exact q
def Mut:Option HO->Prop
 |some (.lst _)=>True
 |some (.dK _)=>True
 |some (.dT _)=>True
 |some (.set _ _)=>True
 |some (.ins _ _ _)=>True
 |some (.ext _)=>True
 |_=>False
section
variable {P:Ym} {w:Yo} {H:Hp} {h h':Heap} {x e:Yt} {o':HO}
def HOk.write (ok:HOk P w H h) (mu:Mut (H x)) (he:e=x\/H e=some (.own x)) (k:∀ b u,b≠e->h.get? b=some u->h'.get? b=some u) (heo:∃ u,h'.get? e=some u)
  (new:zAV P w (upd H x o') h' x o'):HOk P w (upd H x o') h':=λb u q=>by
 have nown:∀ c y,H c=some (.own y)->c≠x:=λc y r z=>by subst z;rw[r]at mu;exact mu
 have ntup:∀ c xs,H c=some (.tup xs)->c≠x:=λc xs r z=>by subst z;rw[r]at mu;exact mu
 by_cases hb:b=x
 .subst hb;rw[zAB]at q;cases q;exact new
 .rw[zZ hb]at q;by_cases hbe:b=e
  .have q':H b=some (.own x):=by
    rcases he with z|z
    .exact absurd (hbe.trans z) hb
    .rw[hbe];exact z
   rw[q]at q';cases q';obtain ⟨v,hv⟩:=heo;exact ⟨v,by rw[hbe];exact hv⟩
  .refine (ok b u q).stay (λc v hc r=>k c v ?_ r) (λc r=>by rw[zZ (nown c b r)];exact r) λc xs r=>by rw[zZ (ntup c xs r)];exact r
   rcases hc with rfl|hc
   .exact hbe
   .rintro rfl;rcases he with z|z
    .exact nown c b hc z
    .rw[hc]at z;cases z;exact hb rfl
end
structure Un (fs ex:Yg) (H H':Hp) (h h':Heap):Prop where
 keep:∀ b o,h.get? b=some o->H b=none->b∉fs->b∉ex->h'.get? b=some o
 slot:∀ b o,h.get? b=some o->H b=none->b∈fs->b∉ex -> ∃ sl,h'.get? b=some { o with slots:=sl }
 free:∀ b o,h.get? b=some o->H b=none->b∉ex->H' b=none
 there:∀ b o,h.get? b=some o->b∉ex -> ∃ o',h'.get? b=some o'
 tups:∀ b xs,H b=some (.tup xs)->H' b=some (.tup xs)
 frzs:∀ b o u,H b=some (.frz o u)->H' b=some (.frz o u)
 tbls:∀ b ps,H b=some (.tbl ps) -> ∃ more,H' b=some (.tbl (ps++more))
section
variable {fs fs' ex ex':Yg} {H H1 H2:Hp} {h h1 h2 h':Heap} {a x e:Yt} {o:HO}
def Un.any (u:Un fs ex H H1 h h1) {b:Yt} {ob:Obj} (q:h.get? b=some ob) (n:H b=none) (hx:b∉ex):∃ sl,h1.get? b=some { ob with slots:=sl }:=by
 by_cases hb:b∈fs
 .exact u.slot b ob q n hb hx
 .exact ⟨ob.slots,u.keep b ob q n hb hx⟩
def Un.kept (k:∀ b u,h.get? b=some u->h'.get? b=some u):Un fs ex H H h h' :=
 ⟨λb ob q _ _ _=>k b ob q,λb ob q _ _ _=>⟨ob.slots,k b ob q⟩,λ_ _ _ n _=>n,λb ob q _=>⟨ob,k b ob q⟩,λ_ _ q=>q,λ_ _ _ q=>q,λ_ ps q=>⟨#[],by rw[q];simp⟩⟩
def Un.refl:Un fs ex H H h h:=Un.kept λ_ _ q=>q
def Un.laid (k:∀ b u,h.get? b=some u->h'.get? b=some u) (hp:h.objs.size<=a) (hn:H a=none):Un fs ex H (upd H a o) h h' where
 keep:=λb u q _ _ _=>k b u q;slot:=λb u q _ _ _=>⟨u.slots,k b u q⟩;free:=λb u q n _=>by rw[zZ (zXY (zXc (zXO q) hp))];exact n
 there:=λb u q _=>⟨u,k b u q⟩;tups:=λb xs q=>by rw[zZ (zAF q hn)];exact q
 frzs:=λb u xs q=>by rw[zZ (zAF q hn)];exact q
 tbls:=λb ps q=>⟨#[],by rw[zZ (zAF q hn),q];simp⟩
def Un.write (mu:Mut (H x)) (he:e=x\/H e=some (.own x)) (k:∀ b u,b≠e->h.get? b=some u->h'.get? b=some u) (heo:∃ u,h'.get? e=some u):Un fs ex H (upd H x o) h h':=by
 have hx:∀ b,H b=none->b≠x:=λb n z=>by subst z;rw[n]at mu;exact mu
 have hb:∀ b,H b=none->b≠e:=λb n z=>by
  subst z;rcases he with r|r
  .exact hx b n r
  .rw[n]at r;cases r
 have hm:∀ b u,H b=some u -> ¬ Mut (some u)->b≠x:=λb u q nm z=>by subst z;rw[q]at mu;exact nm mu
 refine ⟨λb u q n _ _=>k b u (hb b n) q,λb u q n _ _=>⟨u.slots,k b u (hb b n) q⟩,λb u q n _=>by rw[zZ (hx b n)];exact n,λb u q _=>?_,
  λb xs q=>by rw[zZ (hm b _ q λz=>z)];exact q,λb u xs q=>by rw[zZ (hm b _ q λz=>z)];exact q,λb ps q=>⟨#[],by rw[zZ (hm b _ q λz=>z),q];simp⟩⟩
 by_cases hbe:b=e
 .subst hbe;exact heo
 .exact ⟨u,k b u hbe q⟩
end
def trk (h:Heap) (H:Hp):List Addr:=(List.range h.objs.size).filter λa=>(H a).isSome
def zKV (h:Heap) (H:Hp):Heap:=PySem.W.hideAll h (trk h H)
def zPV (h:Heap) (H:Hp):(zKV h H).objs.size=h.objs.size:=PySem.W.hideAll_size _ _
def zRO {h:Heap} {H:Hp} {b:Yt} {o:Obj} (e:h.get? b=some o) (n:H b=none):(zKV h H).get? b=some o :=
 PySem.W.hideAll_get _ e λhm=>by
  have q:(H b).isSome=true:=(zYO.mp hm).2;rw[n]at q;simp at q
def zTO {h:Heap} {H:Hp} {b:Yt} {o:Obj} (e:(zKV h H).get? b=some o):h.get? b=some o/\H b=none:=by
 have e':h.get? b=some o:=PySem.W.of_hideAll (trk h H) e;refine ⟨e',?_⟩;cases q:H b with
 |none=>rfl
 |some x=>
  have hm:b∈trk h H:=zYO.mpr ⟨zXr.mpr (zXO e'),by simp[q]⟩;have z:(zKV h H).get? b=none:=PySem.W.hideAll_none (trk h H) hm;rw[z]at e;cases e
structure Mod (K:Yb) (mg:Yh) (base:Heap):Prop where
 kin:K.In base
 glob:base.Ns mainGlobals mg
 blt:∃ mb,base.Ns builtinsNs mb /\ ∀ x:Str,x ≠ "__name__" -> mb x=bootBuiltins x
 nolimit:base.NoLimit
structure Cx where
 prog:Program
 w:World
 K:PySem.W.Frag
 mg:Str->Option Value
 base:Heap
 A:Around
 N:List Str
 s₀:Shared
 H₀:Hp
 env:Env
 outer:List Env
 stack:List Env
 ex:List Addr
 fn:Str->Bool
 calm:Bool
 pn:List (Addr × Obj)
 xe:Value->Shared->Prop
def frs (l:List Env):List Addr:=l.filterMap (·.frame)
abbrev Cx.fs (X:Cx):List Addr:=frs X.outer
def Vis (sc:Y0) (x:Str):Prop:=sc.names.lookup x=some .local\/sc.names.lookup x=some .cell\/sc.names.lookup x=some .free
def Loc (sc:Y0) (x:Str):Prop:=sc.names.lookup x=some .local\/sc.names.lookup x=some .cell
def zW6 (env:Env) (h:Heap) (m:Yh) (x:Str) (u:Yu):Prop :=
 (env.kindOf x=some .local/\m x=some u)\/((env.kindOf x=some .cell\/env.kindOf x=some .free) /\ ∃ c,env.cells.lookup x=some c/\h.IsCell c (some u))
structure Cx.Ok (X:Cx):Prop where
 mod:Mod X.K X.mg X.base
 kind:X.env.scope.kind=.function
 glob:X.env.globals=mainGlobals
 blt:X.env.builtins=builtinsNs
 above:X.s₀.heap.objs.size<=X.env.locals
 inj:∀ x y c,X.env.cells.lookup x=some c->X.env.cells.lookup y=some c->x=y
 has:∀ x,(X.env.kindOf x=some .cell\/X.env.kindOf x=some .free) -> ∃ c,X.env.cells.lookup x=some c
 cab:∀ x c,X.fn x=true->X.env.cells.lookup x=some c->X.s₀.heap.objs.size<=c
 hd:X.calm=true->X.A.handled=none
 frames:X.A.frames=some X.stack
 stk:X.stack=X.outer\/(X.stack=X.env::X.outer/\X.env.frame=some X.env.locals)
 exf:∀ b∈X.ex,b≠X.env.locals /\ ∀ x c,X.env.cells.lookup x=some c->c≠b
 bs:∀ b o,X.base.get? b=some o->X.s₀.heap.get? b=some o/\X.H₀ b=none
 bsz:X.base.objs.size<=X.s₀.heap.objs.size
 noex:∀ b o,X.base.get? b=some o->b∉X.ex
 exfs:∀ b∈X.ex,b∉X.fs
 funs:X.s₀.heap.FunFrames X.base X.outer
 frf:∀ b∈X.fs,X.H₀ b=none
structure Inv (X:Cx) (zB:Yd) (σ:List (Option V)) (H:Hp) (s:Yl):Prop where
 ok:X.Ok
 os:s.os=X.s₀.os
 bare:AllBare s.gens
 base:Un X.fs X.ex X.H₀ H X.s₀.heap s.heap
 loc:∃ m,s.heap.Ns X.env.locals m /\ ∀ (i:Nat) (x:Str) (v:V),X.N[i]?=some x->σ[i]?=some (some v)->Vis X.env.scope x -> ∃ u,zw v u/\zW6 X.env s.heap m x u
 cell:∀ x c,X.env.cells.lookup x=some c -> ∃ v,s.heap.IsCell c v
 free:H X.env.locals=none
 freeC:∀ x c,X.env.cells.lookup x=some c->H c=none
 pin:∀ p∈X.pn++zB,s.heap.get? p.1=some p.2/\H p.1=none/\p.1≠X.env.locals/\p.1∉X.fs /\ ∀ v,p.2.data≠.cell v
 hok:HOk X.prog X.w H s.heap
 len:σ.length=X.N.length
section
variable {X:Cx} {zB:Yd} {σ:List (Option V)} {H H':Hp} {s:Yl} {h':Heap}
def Cx.Ok.nofr (ok:X.Ok) {b:Yt} {o:Obj} (e:X.base.get? b=some o):b∉X.fs:=λhb=>by
 have:=(ok.funs.mem hb).1;rw[e]at this;cases this
def Inv.bs (I:Inv X zB σ H s):∀ b o,X.base.get? b=some o->s.heap.get? b=some o/\H b=none:=λb o e=>
 ⟨I.base.keep b o (I.ok.bs b o e).1 (I.ok.bs b o e).2 (I.ok.nofr e) (I.ok.noex b o e),I.base.free b o (I.ok.bs b o e).1 (I.ok.bs b o e).2 (I.ok.noex b o e)⟩
def Inv.bk (I:Inv X zB σ H s):∀ b o,X.base.get? b=some o->s.heap.get? b=some o:=λb o e=>(I.bs b o e).1
def Inv.mod (I:Inv X zB σ H s):Mod X.K X.mg X.base:=I.ok.mod
noncomputable def Inv.kIn (I:Inv X zB σ H s):X.K.In s.heap:=I.ok.mod.kin.keeps I.bk
def Inv.lt (I:Inv X zB σ H s):X.env.locals<s.heap.objs.size:=let ⟨_,hn,_⟩:=I.loc;hn.lt
def Inv.sz (I:Inv X zB σ H s):X.s₀.heap.objs.size<=s.heap.objs.size:=zXe I.ok.above (Nat.le_of_lt I.lt)
def Inv.nofs (I:Inv X zB σ H s) {a:Yt} (h:s.heap.objs.size<=a):a∉X.fs:=λhb=>by
 obtain ⟨_,o,ho,_⟩:=I.ok.funs.mem hb;exact absurd (zXc (zXO ho) (zXe I.sz h)) (zXv _)
def Inv.cne (I:Inv X zB σ H s):∀ x c,X.env.cells.lookup x=some c->c≠X.env.locals:=λx c e z=>by
 obtain ⟨v,o,ho,hd⟩:=I.cell x c e;obtain ⟨m,⟨o',es,ep,ho',hd',_⟩,_⟩:=I.loc;rw[z,ho']at ho;cases ho;rw[hd']at hd;cases hd
def Inv.funs (I:Inv X zB σ H s):s.heap.FunFrames X.base X.outer:=by
 have all:∀ (l:List Env),(∀ b∈frs l,b∈X.fs)->X.s₀.heap.FunFrames X.base l->s.heap.FunFrames X.base l:=by
  intro l;induction l with
  |nil=>intro _ _;trivial
  |cons env r ih=>
   intro hs hl;obtain ⟨hk,⟨L,o,hf,hn,ho,hd⟩,hr⟩:=hl;have hL:L∈X.fs:=hs L (by unfold frs;rw[List.filterMap_cons,hf];exact zXR);obtain ⟨sl,e⟩:=I.base.slot L o ho (I.ok.frf L hL) hL λz=>I.ok.exfs L z hL;exact ⟨hk,⟨L,_,hf,hn,e,hd⟩,ih (λb hb=>hs b (by unfold frs;rw[List.filterMap_cons,hf];exact zXQ _ hb)) hr⟩
 exact all X.outer (λ_ hb=>hb) I.ok.funs
def Inv.stack (I:Inv X zB σ H s):s.heap.FunFrames X.base X.stack:=by
 rcases I.ok.stk with e|⟨e,hf⟩
 .rw[e];exact I.funs
 .rw[e];obtain ⟨m,hn,_⟩:=I.loc;refine .cons (by rw[I.ok.kind];decide) hf hn ?_ I.funs;exact Heap.get?_none_of_le (zXe I.ok.bsz I.ok.above)
def Inv.stkSub (I:Inv X zB σ H s):∀ b∈frs X.stack,b∈X.env.locals::X.fs:=λb hb=>by
 rcases I.ok.stk with e|⟨e,hf⟩
 .rw[e]at hb;exact zXQ _ hb
 .rw[e]at hb;unfold frs at hb;rw[List.filterMap_cons,hf]at hb;exact hb
def Inv.stkFree (I:Inv X zB σ H s):∀ b∈frs X.stack,H b=none:=λb hb=>by
 rcases zXP.mp (I.stkSub b hb)with e|hb
 .rw[e];exact I.free
 .obtain ⟨_,o,ho,_⟩:=I.ok.funs.mem hb;exact I.base.free b o ho (I.ok.frf b hb) λz=>I.ok.exfs b z hb
def Inv.step {g':Array GenState} {t':Nat} {d':Drawn} {ch:Yg} (I:Inv X zB σ H s)
  (hch:∀ b∈ch,(b∈X.ex\/X.s₀.heap.objs.size<=b)/\b≠X.env.locals/\(∀ x c,X.env.cells.lookup x=some c->c≠b) /\ ∀ p∈X.pn++zB,p.1≠b)
  (keep:∀ b o,b≠X.env.locals->b∉X.fs->b∉ch->s.heap.get? b=some o->H b=none->h'.get? b=some o)
  (slot:∀ b o,b≠X.env.locals->b∈X.fs->b∉ch->s.heap.get? b=some o->H b=none -> ∃ sl,h'.get? b=some { o with slots:=sl }) (free:∀ b o,b∉ch->s.heap.get? b=some o->H b=none->H' b=none)
  (there:∀ b o,b∉ch->s.heap.get? b=some o -> ∃ o',h'.get? b=some o')
  (tups:∀ b xs,H b=some (.tup xs)->H' b=some (.tup xs)) (frzs:∀ b o u,H b=some (.frz o u)->H' b=some (.frz o u)) (tbls:∀ b ps,H b=some (.tbl ps) -> ∃ more,H' b=some (.tbl (ps++more)))
  (ns:∀ m,s.heap.Ns X.env.locals m->h'.Ns X.env.locals m) (hok:HOk X.prog X.w H' h') (hg:AllBare g') :
  Inv X zB σ H' { s with heap:=h',gens:=g',drawn:=d',toks:=t' }:=by
 have neL:∀ b o,X.s₀.heap.get? b=some o->b≠X.env.locals:=λb o e=>zXY (zXc (zXO e) I.ok.above);have neC:∀ b o,X.s₀.heap.get? b=some o->b∉X.ex->b∉ch:=λb o e hx hb=>by
  rcases (hch b hb).1 with z|z
  .exact hx z
  .exact absurd (zXc (zXO e) z) (zXv _)
 have cellK:∀ x c,X.env.cells.lookup x=some c -> ∀ v,s.heap.IsCell c v->h'.IsCell c v:=λx c e v ⟨o,ho,hd⟩=>by
  have nch:c∉ch:=λz=>(hch c z).2.2.1 x c e rfl;by_cases hc:c∈X.fs
  .obtain ⟨sl,q⟩:=slot c o (I.cne x c e) hc nch ho (I.freeC x c e);exact ⟨_,q,hd⟩
  .exact ⟨o,keep c o (I.cne x c e) hc nch ho (I.freeC x c e),hd⟩
 refine ⟨I.ok,I.os,hg,⟨λb o e n hb hx=>?_,λb o e n hb hx=>?_,λb o e n hx=>?_,λb o e hx=>?_,λb xs e=>tups b xs (I.base.tups b xs e),λb o xs e=>frzs b o xs (I.base.frzs b o xs e),λb ps e=>?_⟩,?_,λx c e=>?_,?_,λx c e=>?_,λp hp=>?_,hok,I.len⟩
 .exact keep b o (neL b o e) hb (neC b o e hx) (I.base.keep b o e n hb hx) (I.base.free b o e n hx)
 .obtain ⟨sl,e1⟩:=I.base.slot b o e n hb hx;obtain ⟨sl',e2⟩:=slot b _ (neL b o e) hb (neC b o e hx) e1 (I.base.free b o e n hx);exact ⟨sl',e2⟩
 .obtain ⟨o',e1⟩:=I.base.there b o e hx;exact free b o' (neC b o e hx) e1 (I.base.free b o e n hx)
 .obtain ⟨o',e1⟩:=I.base.there b o e hx;exact there b o' (neC b o e hx) e1
 .obtain ⟨m1,e1⟩:=I.base.tbls b ps e;obtain ⟨m2,e2⟩:=tbls b _ e1;exact ⟨m1++m2,by rw[e2,Array.append_assoc]⟩
 .obtain ⟨m,hn,hl⟩:=I.loc;refine ⟨m,ns m hn,λi x v e1 e2 e3=>?_⟩;obtain ⟨u,r,l⟩:=hl i x v e1 e2 e3;refine ⟨u,r,?_⟩;rcases l with l|⟨k,c,e,z⟩
  .exact .inl l
  .exact .inr ⟨k,c,e,cellK x c e _ z⟩
 .obtain ⟨v,z⟩:=I.cell x c e;exact ⟨v,cellK x c e v z⟩
 .obtain ⟨m,⟨o,_,_,ho,_⟩,_⟩:=I.loc;exact free _ o (λz=>(hch _ z).2.1 rfl) ho I.free
 .obtain ⟨v,o,ho,hd⟩:=I.cell x c e;exact free c o (λz=>(hch c z).2.2.1 x c e rfl) ho (I.freeC x c e)
 .obtain ⟨e,n,ne,nf,d⟩:=I.pin p hp;have nch:p.1∉ch:=λz=>(hch p.1 z).2.2.2 p hp rfl;exact ⟨keep p.1 p.2 ne nf nch e n,free p.1 p.2 nch e n,ne,nf,d⟩
def Inv.un {t':Nat} (I:Inv X zB σ H s) (u:Un X.fs [] H H' s.heap h') (hok:HOk X.prog X.w H' h'):Inv X zB σ H' { s with heap:=h',toks:=t' }:=by
 obtain ⟨m,⟨o,es,ep,ho,r⟩,_⟩:=id I.loc;obtain ⟨sl,hL⟩:=u.any ho I.free (by simp);exact I.step (g':=s.gens) (d':=s.drawn) (ch:=[]) (λ_ z=>nomatch z) (λb o _ hb _ e n=>u.keep b o e n hb (by simp)) (λb o _ hb _ e n=>u.slot b o e n hb (by simp)) (λb o _ e n=>u.free b o e n (by simp)) (λb o _ e=>u.there b o e (by simp)) u.tups u.frzs u.tbls (λm' hm=>by
  obtain ⟨o',es',ep',ho',r'⟩:=hm;rw[ho]at ho';cases ho';exact ⟨_,es',ep',hL,r'⟩) hok I.bare
def Inv.call {g':Array GenState} {t':Nat} {d':Drawn} {ch:Yg} (I:Inv X zB σ H s) (u:Un (frs X.stack) ch H H' s.heap h') (hok:HOk X.prog X.w H' h') (hg:AllBare g')
  (hch:∀ b∈ch,(b∈X.ex\/X.s₀.heap.objs.size<=b)/\b≠X.env.locals/\(∀ x c,X.env.cells.lookup x=some c->c≠b) /\ ∀ p∈X.pn++zB,p.1≠b) :
  Inv X zB σ H' { s with heap:=h',gens:=g',drawn:=d',toks:=t' }:=by
 obtain ⟨m,⟨o,es,ep,ho,r⟩,_⟩:=id I.loc;obtain ⟨sl,hL⟩:=u.any ho I.free λz=>(hch _ z).2.1 rfl;exact I.step (ch:=ch) hch (λb o hL hb hc e n=>u.keep b o e n (λz=>(zXP.mp (I.stkSub b z)).elim hL hb) hc) (λb o _ _ hc e n=>u.any e n hc) (λb o hc e n=>u.free b o e n hc) (λb o hc e=>u.there b o e hc) u.tups u.frzs u.tbls (λm' hm=>by
  obtain ⟨o',es',ep',ho',r'⟩:=hm;rw[ho]at ho';cases ho';exact ⟨_,es',ep',hL,r'⟩) hok hg
def Inv.turned {t':Nat} {it:Yt} (I:Inv X zB σ H s) (k:∀ b o,b≠it->s.heap.get? b=some o->h'.get? b=some o) (hn:H it=none) (hL:it≠X.env.locals)
  (h1:it∈X.ex\/X.s₀.heap.objs.size<=it) (h2:∀ x c,X.env.cells.lookup x=some c->c≠it) (h3:∀ p∈X.pn++zB,p.1≠it):Inv X zB σ H { s with heap:=h',toks:=t' }:=by
 have nit:∀ b u,H b=some u->b≠it:=λb u e z=>by rw[z,hn]at e;cases e
 refine I.step (g':=s.gens) (d':=s.drawn) (ch:=[it]) (λb hb=>?_) (λb o _ _ hc e _=>k b o (λz=>hc (by simp[z])) e) (λb o _ _ hc e _=>⟨o.slots,k b o (λz=>hc (by simp[z])) e⟩) (λ_ _ _ _ n=>n)
  (λb o hc e=>⟨o,k b o (λz=>hc (by simp[z])) e⟩) (λ_ _ e=>e) (λ_ _ _ e=>e) (λb ps e=>⟨#[],by rw[e];simp⟩) (λm hm=>?_) (λb u e=>?_) I.bare
 .have e:b=it:=by simpa using hb
  subst e;exact ⟨h1,hL,h2,h3⟩
 .obtain ⟨o,es,ep,ho,r⟩:=hm;exact ⟨o,es,ep,k _ o (Ne.symm hL) ho,r⟩
 .refine (I.hok b u e).stay (λc v hc q=>k c v ?_ q) (λ_ q=>q) λ_ _ q=>q;rcases hc with z|z
  .rw[z];exact nit b u e
  .exact nit c _ z
def Inv.tok (I:Inv X zB σ H s) (t:Nat):Inv X zB σ H { s with toks:=t }:=I.un (h':=s.heap) (t':=t) Un.refl I.hok
def Inv.kept {t':Nat} (I:Inv X zB σ H s) (k:∀ b u,s.heap.get? b=some u->h'.get? b=some u):Inv X zB σ H { s with heap:=h',toks:=t' }:=I.un (Un.kept k) (I.hok.kept k)
def Inv.laid {a:Yt} {o:HO} {t':Nat} (I:Inv X zB σ H s) (k:∀ b u,s.heap.get? b=some u->h'.get? b=some u) (hp:s.heap.objs.size<=a) (new:zAV X.prog X.w (upd H a o) h' a o) :
  Inv X zB σ (upd H a o) { s with heap:=h',toks:=t' }:=I.un (Un.laid k hp (I.hok.fresh hp)) (I.hok.laid k hp new)
def Inv.write {x e:Yt} {o:HO} {t':Nat} (I:Inv X zB σ H s) (mu:Mut (H x)) (he:e=x\/H e=some (.own x)) (k:∀ b u,b≠e->s.heap.get? b=some u->h'.get? b=some u) (heo:∃ u,h'.get? e=some u)
  (new:zAV X.prog X.w (upd H x o) h' x o):Inv X zB σ (upd H x o) { s with heap:=h',toks:=t' }:=I.un (Un.write mu he k heo) (I.hok.write mu he k heo new)
def Inv.weak {σ':List (Option V)} (I:Inv X zB σ H s) (hl:σ'.length=σ.length) (w:∀ (i:Nat) v,σ'[i]?=some (some v)->σ[i]?=some (some v)):Inv X zB σ' H s :=
 ⟨I.ok,I.os,I.bare,I.base,let ⟨m,hn,hl'⟩:=I.loc;⟨m,hn,λi x v e1 e2 e3=>hl' i x v e1 (w i v e2) e3⟩,I.cell,I.free,I.freeC,I.pin,I.hok,hl.trans I.len⟩
def Inv.pins_of {pins':Yd} (I:Inv X zB σ H s) (h:∀ p∈pins',s.heap.get? p.1=some p.2/\H p.1=none/\p.1≠X.env.locals/\p.1∉X.fs /\ ∀ v,p.2.data≠.cell v):Inv X pins' σ H s :=
 ⟨I.ok,I.os,I.bare,I.base,I.loc,I.cell,I.free,I.freeC,λp hp=>(zXd.mp hp).elim (λz=>I.pin p (zYS _ z)) (h p),I.hok,I.len⟩
def zLo {N:Yk} (hN:N.Nodup) {i j:Nat} {x:Str} (a:N[i]?=some x) (b:N[j]?=some x):i=j:=by
 obtain ⟨h1,e1⟩:=zXG.mp a;obtain ⟨h2,e2⟩:=zXG.mp b;exact (List.getElem_inj hN).mp (e1.trans e2.symm)
noncomputable def zO8 {M:Model} {A:Yn} {E:Yc} {i:Nat} {x:Str} {v:V} {u:Yu} {Q:Unit->Shared->Prop} (I:Inv X zB σ H s) (hN:X.N.Nodup) (hi:X.N[i]?=some x) (hx:Loc X.env.scope x) (r:zw v u)
  (h:∀ s',Inv X zB (σ.set i (some v)) H s'->(∃ a,Heap.SameBut a s.heap s'.heap/\(a=X.env.locals\/X.env.cells.lookup x=some a))->Q () s') (hf:X.fn x=true\/X.env.scope.names.lookup x=some .local:=by first|exact .inl rfl|exact .inr rfl|assumption):wpAny M A (storeName X.env x u) Q E s:=by
 obtain ⟨m,hn,hl⟩:=id I.loc;have hcls:(X.env.scope.kind == .class||(X.env.scope.kind == .module&&X.env.locals != X.env.globals))=false:=by rw[I.ok.kind];rfl
 have hiσ:i<σ.length:=by rw[I.len];exact (zXG.mp hi).1
 have cne:=I.cne;have tracked:∀ {a:Yt} {h':Heap},(∃ o,s.heap.get? a=some o/\H a=none)->Heap.SameBut a s.heap h'->HOk X.prog X.w H h':=λ{a h'} ha hs b ob e=>by
  obtain ⟨_,_,hfree⟩:=ha;refine (I.hok b ob e).stay (λc w' hc q=>(hs.2 c ?_).trans q) (λ_ q=>q) λ_ _ q=>q;rintro rfl;rcases hc with rfl|hc
  .rw[hfree]at e;cases e
  .rw[hfree]at hc;cases hc
 rcases hx with hk|hk
 .refine wpAny_storeName_local hk hn (λh' hn' hs=>?_) hcls;obtain ⟨oL,_,_,hoL,_⟩:=id hn;refine h _ ⟨I.ok,I.os,I.bare,⟨λb o e n hb hx=>?_,λb o e n hb hx=>?_,I.base.free,λb o e hx=>?_,I.base.tups,I.base.frzs,I.base.tbls⟩,⟨_,hn',λj y v' e1 e2 e3=>?_⟩,λy c e=>?_,I.free,I.freeC,λp hp=>?_,tracked ⟨oL,hoL,I.free⟩ hs,by simpa using I.len⟩ ⟨_,hs,.inl rfl⟩
  .exact (hs.2 b (zXY (zXc (zXO e) I.ok.above))).trans (I.base.keep b o e n hb hx)
  .obtain ⟨sl,e1⟩:=I.base.slot b o e n hb hx;exact ⟨sl,(hs.2 b (zXY (zXc (zXO e) I.ok.above))).trans e1⟩
  .obtain ⟨o',e1⟩:=I.base.there b o e hx;exact ⟨o',(hs.2 b (zXY (zXc (zXO e) I.ok.above))).trans e1⟩
  .by_cases hj:j=i
   .subst hj;rw[hi]at e1;cases e1;rw[zX7 hiσ]at e2;cases e2;exact ⟨u,r,.inl ⟨hk,by simp⟩⟩
   .rw[zXh (Ne.symm hj)]at e2;obtain ⟨u',r',q⟩:=hl j y v' e1 e2 e3;refine ⟨u',r',?_⟩;rcases q with ⟨k,e⟩|⟨k,c,e,z⟩
    .refine .inl ⟨k,?_⟩;have:y≠x:=λe=>hj (zLo hN e1 (e▸hi));simp[this,e]
    .exact .inr ⟨k,c,e,z.sameBut hs (cne y c e)⟩
  .obtain ⟨w',z⟩:=I.cell y c e;exact ⟨w',z.sameBut hs (cne y c e)⟩
  .obtain ⟨e,n,ne,nf,d⟩:=I.pin p hp;exact ⟨(hs.2 p.1 ne).trans e,n,ne,nf,d⟩
 .have hfn:X.fn x=true:=by
   rcases hf with z|z
   .exact z
   .rw[z]at hk;cases hk
  obtain ⟨c,hc⟩:=I.ok.has x (.inl hk);obtain ⟨w',z⟩:=I.cell x c hc;refine wpAny_storeName_cell I.ok.kind hk hc z (λh' hc' hs=>?_);obtain ⟨oc,hoc,hocd⟩:=id z;refine h { s with heap:=h' } ⟨I.ok,I.os,I.bare,⟨λb o e n hb hx=>?_,λb o e n hb hx=>?_,I.base.free,λb o e hx=>?_,I.base.tups,I.base.frzs,I.base.tbls⟩,⟨m,hn.sameBut hs (Ne.symm (cne x c hc)),λj y v' e1 e2 e3=>?_⟩,λy c' e=>?_,I.free,I.freeC,λp hp=>?_,tracked ⟨oc,hoc,I.freeC x c hc⟩ hs,by simpa using I.len⟩ ⟨c,hs,.inr hc⟩
  .exact (hs.2 b (zXY (zXc (zXO e) (I.ok.cab x c hfn hc)))).trans (I.base.keep b o e n hb hx)
  .obtain ⟨sl,e1⟩:=I.base.slot b o e n hb hx;exact ⟨sl,(hs.2 b (zXY (zXc (zXO e) (I.ok.cab x c hfn hc)))).trans e1⟩
  .obtain ⟨o',e1⟩:=I.base.there b o e hx;exact ⟨o',(hs.2 b (zXY (zXc (zXO e) (I.ok.cab x c hfn hc)))).trans e1⟩
  .by_cases hj:j=i
   .subst hj;rw[hi]at e1;cases e1;rw[zX7 hiσ]at e2;cases e2;exact ⟨u,r,.inr ⟨.inl hk,c,hc,hc'⟩⟩
   .rw[zXh (Ne.symm hj)]at e2;obtain ⟨u',r',q⟩:=hl j y v' e1 e2 e3;refine ⟨u',r',?_⟩;rcases q with q|⟨k,c',e,z'⟩
    .exact .inl q
    .refine .inr ⟨k,c',e,z'.sameBut hs ?_⟩;rintro rfl;exact hj (zLo hN e1 (I.ok.inj _ _ _ e hc▸hi))
  .by_cases hcc:c'=c
   .subst hcc;exact ⟨_,hc'⟩
   .obtain ⟨w2,z2⟩:=I.cell y c' e;exact ⟨w2,z2.sameBut hs hcc⟩
  .obtain ⟨e,n,ne,nf,d⟩:=I.pin p hp;refine ⟨(hs.2 p.1 ?_).trans e,n,ne,nf,d⟩;intro q;rw[q,hoc]at e;have q':oc=p.2:=zYD e;exact d w' (by rw[<-q'];exact hocd)
noncomputable def zLz {M:Model} {A:Yn} {E:Yc} {i:Nat} {x:Str} {v:V} {u:Yu} {Q:Unit->Shared->Prop} (I:Inv X zB σ H s) (hN:X.N.Nodup) (hi:X.N[i]?=some x) (hx:Loc X.env.scope x) (r:zw v u)
  (h:∀ s',Inv X zB (σ.set i (some v)) H s'->Q () s') (hf:X.fn x=true\/X.env.scope.names.lookup x=some .local:=by first|exact .inl rfl|exact .inr rfl|assumption):wpAny M A (storeName X.env x u) Q E s :=
 zO8 I hN hi hx r (λs' I' _=>h s' I') hf
def Inv.call' {s':Yl} {ch:Yg} (I:Inv X zB σ H s) (ho:s'.os=s.os) (u:Un (frs X.stack) ch H H' s.heap s'.heap) (hok:HOk X.prog X.w H' s'.heap) (hg:AllBare s'.gens)
  (hch:∀ b∈ch,(b∈X.ex\/X.s₀.heap.objs.size<=b)/\b≠X.env.locals/\(∀ x c,X.env.cells.lookup x=some c->c≠b) /\ ∀ p∈X.pn++zB,p.1≠b):Inv X zB σ H' s':=by
 obtain ⟨h',g',d',t',o'⟩:=s';have e:o'=s.os:=ho;subst e;exact I.call (g':=g') (t':=t') (d':=d') u hok hg hch
end
abbrev XK:=Value->Option Addr->Hp->Prop
abbrev St:=List (Option V)
abbrev VK:=V->Hp->Prop
abbrev TE:=St->Hp->VK->Prop
abbrev TT:=St->Hp->(Bool->Hp->Prop)->Prop
abbrev TA:=St->Hp->(List V->Hp->Prop)->Prop
structure Ends where
 nx:St->Hp->Prop
 rt:VK
 bk:St->Hp->Prop:=λ_ _=>False
 ct:St->Hp->Prop:=λ_ _=>False
abbrev TS:=Ends->St->Hp->Prop
def EP (X:Cx) (zB:Yd) (σ:St) (Q:VK) (u:Yu) (s':Yl):Prop:=∃ v H',Inv X zB σ H' s'/\zw v u/\Q v H'
def TP (X:Cx) (zB:Yd) (σ:St) (Q:Bool->Hp->Prop) (b:Bool) (s':Yl):Prop:=∃ H',Inv X zB σ H' s'/\Q b H'
def AP (X:Cx) (zB:Yd) (σ:St) (Q:List V->Hp->Prop) (us:Yf) (s':Yl):Prop:=∃ vs H',Inv X zB σ H' s'/\zg vs us/\Q vs H'
def SP (X:Cx) (zB:Yd) (D:Ends) (f:Flow) (s':Yl):Prop :=
 match f with
 |.next=>∃ σ' H',Inv X zB σ' H' s'/\D.nx σ' H'
 |.brk=>∃ σ' H',Inv X zB σ' H' s'/\D.bk σ' H'
 |.cont=>∃ σ' H',Inv X zB σ' H' s'/\D.ct σ' H'
 |.ret u=>∃ v σ' H',Inv X zB σ' H' s'/\zw v u/\D.rt v H'
def PE (X:Cx) (e:Expr) (t:TE):Prop :=
 ∀ (zB:Yd) (s:Yl) (σ:St) (H:Hp) (Q:VK),Inv X zB σ H s->t σ H Q->wpAny (model X.prog X.w) X.A (eval e X.env) (EP X zB σ Q) X.xe s
def PT (X:Cx) (e:Expr) (t:TT):Prop :=
 ∀ (zB:Yd) (s:Yl) (σ:St) (H:Hp) (Q:Bool->Hp->Prop),Inv X zB σ H s->t σ H Q->wpAny (model X.prog X.w) X.A (isTrue e X.env (eval e X.env)) (TP X zB σ Q) X.xe s
def PW (X:Cx) (e:Expr) (t:TT):Prop :=
 ∀ (whole:Sem Value) (zB:Yd) (s:Yl) (σ:St) (H:Hp) (Q:Bool->Hp->Prop),Inv X zB σ H s->t σ H Q->wpAny (model X.prog X.w) X.A (isTrue e X.env whole) (TP X zB σ Q) X.xe s
def PW.pt {X:Cx} {e:Expr} {t:TT} (h:PW X e t):PT X e t:=h _
def PA (X:Cx) (es:Yi) (t:TA):Prop :=
 ∀ (pos:Pos) (zB:Yd) (s:Yl) (σ:St) (H:Hp) (Q:List V->Hp->Prop),Inv X zB σ H s->t σ H Q->wpAny (model X.prog X.w) X.A (spliced (backTo pos (starEach es X.env))) (AP X zB σ Q) X.xe s
def PS (X:Cx) (st:Stmt) (t:TS):Prop :=
 ∀ (zB:Yd) (s:Yl) (σ:St) (H:Hp) (D:Ends),Inv X zB σ H s->t D σ H->wpAny (model X.prog X.w) X.A (exec st X.env) (SP X zB D) X.xe s
def PSs (X:Cx) (st:Yy) (t:TS):Prop :=
 ∀ (zB:Yd) (s:Yl) (σ:St) (H:Hp) (D:Ends),Inv X zB σ H s->t D σ H->wpAny (model X.prog X.w) X.A (execs st X.env) (SP X zB D) X.xe s
def thn {α:Type} {t:Sem α} {Q Q':α->Shared->Prop} {M:Model} {A:Yn} {E:Yc} {s:Yl} (h:wpAny M A t Q E s) (hQ:∀ a s,Q a s->Q' a s):wpAny M A t Q' E s:=zXj h hQ λ_ _ x=>x
section
variable {X:Cx}
def zTy (i:Nat):TE:=λσ H Q=>∃ v,σ[i]?=some (some v)/\Q v H
def tC (v:V):TE:=λ_ H Q=>Q v H
noncomputable def zUb {i:Nat} {x:Str} {pos:Pos} (hN:X.N[i]?=some x) (hv:Vis X.env.scope x) (hd:(x==("__debug__" : Str))=false:=by decide) (hcd:(x==("__classdict__" : Str))=false:=by decide):PE X (.Name x pos) (zTy i):=by
 intro zB s σ H Q I h;obtain ⟨v,e,h⟩:=h;obtain ⟨m,hn,hl⟩:=I.loc;obtain ⟨u,r,l⟩:=hl i x v hN e hv;have fin:EP X zB σ Q u s:=⟨v,H,I,r,h⟩;rcases l with ⟨hk,hm⟩|⟨hk,c,hc,hcell⟩
 .exact wpAny_Name (wpAny_loadName_local I.ok.kind hk hn hm fin) hd
 .rcases hk with hk|hk
  .exact wpAny_Name (wpAny_loadName_cell I.ok.kind hk hc hcell fin) hd
  .exact wpAny_Name (wpAny_loadName_free I.ok.kind hk hc hcell fin hcd) hd
def zVA {i j pos}:PE X (.Constant (.int i) j pos) (tC (.int i)):=λ_ _ _ H _ I h=>wpAny_Constant_int ⟨.int i,H,I.tok _,⟨_,rfl⟩,h⟩
def zV5 {b j pos}:PE X (.Constant (.bool b) j pos) (tC (.bl b)):=λ_ _ _ H _ I h=>Constant_bool ⟨.bl b,H,I,rfl,h⟩
def zTm {x j pos}:PE X (.Constant (.str x) j pos) (tC (.str x)):=λ_ _ _ H _ I h=>Calls.Constant_str ⟨.str x,H,I.tok _,⟨_,rfl⟩,h⟩
def Gl (X:Cx) (x:Str):Prop:=X.env.kindOf x=some .globalImplicit
noncomputable def zR1 {E:Yc} {zB:Yd} {s:Yl} {σ:St} {H:Hp} {x:Str} {u:Yu} {pos:Pos} {Q:Yc} (I:Inv X zB σ H s) (hg:Gl X x) (hm:X.mg x=some u) (h:Q u s)
  (hd:(x==("__debug__" : Str))=false:=by decide):wpAny (model X.prog X.w) X.A (eval (.Name x pos) X.env) Q E s :=
 Calls.Name_function_global I.ok.kind hg (Calls.loadGlobal_global (by rw[I.ok.glob];exact I.mod.glob.keeps I.bk) hm h) hd
noncomputable def zDj {E:Yc} {zB:Yd} {s:Yl} {σ:St} {H:Hp} {x:Str} {u:Yu} {pos:Pos} {Q:Yc} (I:Inv X zB σ H s) (hg:Gl X x) (hm:X.mg x=none) (hv:bootBuiltins x=some u) (h:Q u s)
  (hn:x ≠ "__name__" := by decide) (hd:(x==("__debug__" : Str))=false:=by decide):wpAny (model X.prog X.w) X.A (eval (.Name x pos) X.env) Q E s:=by
 obtain ⟨mb,h1,h2⟩:=I.mod.blt;exact Calls.Name_function_global I.ok.kind hg (Calls.loadGlobal_builtin (by rw[I.ok.glob];exact I.mod.glob.keeps I.bk) hm (by rw[I.ok.blt];exact h1.keeps I.bk) ((h2 x hn).trans hv) h) hd
noncomputable def zST {x:Str} {v:V} {u:Value} {pos:Pos} (hg:Gl X x) (hm:X.mg x=none) (hv:bootBuiltins x=some u) (r:zw v u) (hn:x ≠ "__name__" := by decide) (hd:(x==("__debug__" : Str))=false:=by decide):PE X (.Name x pos) (tC v) :=
 λ_ _ _ H _ I h=>zDj I hg hm hv ⟨v,H,I,r,h⟩ hn hd
variable {a b:Expr} {ta tb:TE} {pos:Pos}
def PC (X:Cx) (op:CmpOp) (a b:Expr) (t:TE):Prop :=
 ∀ (zB:Yd) (s:Yl) (σ:St) (H:Hp) (Q:VK),Inv X zB σ H s->t σ H Q ->
  wpAny (model X.prog X.w) X.A (eval a X.env) (λv s₁=>wpAny (model X.prog X.w) X.A (eval b X.env) (λu s₂=>wpAny (model X.prog X.w) X.A (compareOp op v u) (EP X zB σ Q) X.xe s₂) X.xe s₁) X.xe s
def tB (t:TE):TT:=λσ H Q=>t σ H λx H1=>∃ c,x=.bl c/\Q c H1
noncomputable def zQo {op:CmpOp} {t:TE} (h:PC X op a b t) (h1:behindInMarks op b=false:=by first|exact nobehind _ (by decide) (by decide)|rfl):PT X (.Compare a [op] [b] pos) (tB t):=by
 intro zB s σ H Q I hw;refine wpAny_isTrue_Compare1 (thn (h zB s σ H _ I hw) λv s1 h1=>thn h1 λu s2 h2=>thn h2 λc s3 ⟨x,H1,I1,r1,q1⟩=>?_) h1;obtain ⟨d,rfl,q⟩:=q1;cases r1;exact wpAny_truthy_bool ⟨H1,I1,q⟩
noncomputable def zT9 {e:Expr} {t:TE} (h:PE X e t) (he:∀ whole,isTrue e X.env whole=(do let v <- whole;standAt e.pos;holding [v] (truthy v)):=by intro _;rfl):PT X e (tB t):=by
 intro zB s σ H Q I hw;refine isTrue_plain (thn (h zB s σ H _ I hw) λv s1 ⟨x,H1,I1,r1,q1⟩=>?_) (he _);obtain ⟨d,rfl,q⟩:=q1;cases r1;exact wpAny_truthy_bool ⟨H1,I1,q⟩
variable {tA tB':TT} {rest:Yi}
def zW3 (t u:TT):TT:=λσ H Q=>t σ H λc H1=>if c=true then u σ H1 Q else Q false H1
def tOr (t u:TT):TT:=λσ H Q=>t σ H λc H1=>if c=true then Q true H1 else u σ H1 Q
def zW5 (t:TT):TT:=λσ H Q=>t σ H λc H1=>Q (!c) H1
def zTX (ha:PT X a tA):PW X (.BoolOp .And [a] pos) tA:=by
 intro wh zB s σ H Q I h;refine isTrue_and (thn (ha zB s σ H Q I h) λc s1 e=>?_);cases c with
 |true=>exact isTrue_and_nil e
 |false=>exact e
def zU2 (ha:PT X a tA):PW X (.BoolOp .Or [a] pos) tA:=by
 intro wh zB s σ H Q I h;refine isTrue_or (thn (ha zB s σ H Q I h) λc s1 e=>?_);cases c with
 |false=>exact isTrue_or_nil e
 |true=>exact e
def zT0 (ha:PT X a tA) (hb:PW X (.BoolOp .And (b::rest) pos) tB'):PW X (.BoolOp .And (a::b::rest) pos) (zW3 tA tB'):=by
 intro wh zB s σ H Q I h;refine isTrue_and (thn (ha zB s σ H _ I h) λc s1 ⟨H1,I1,q1⟩=>?_);cases c with
 |true=>exact hb wh zB s1 σ H1 Q I1 q1
 |false=>exact ⟨H1,I1,q1⟩
def zWV (ha:PT X a tA) (hb:PW X (.BoolOp .Or (b::rest) pos) tB'):PW X (.BoolOp .Or (a::b::rest) pos) (tOr tA tB'):=by
 intro wh zB s σ H Q I h;refine isTrue_or (thn (ha zB s σ H _ I h) λc s1 ⟨H1,I1,q1⟩=>?_);cases c with
 |true=>exact ⟨H1,I1,q1⟩
 |false=>exact hb wh zB s1 σ H1 Q I1 q1
def zU0 (ha:PT X a tA):PT X (.UnaryOp .Not a pos) (zW5 tA):=by
 intro zB s σ H Q I h;exact isTrue_not (ha zB s σ H (λc H1=>Q (!c) H1) I h)
def zVe (ta tb:TE):TE:=λσ H Q=>ta σ H λx H1=>∃ c,x=.bl c/\if c=true then tb σ H1 Q else Q (.bl false) H1
def zVb (ta:TE):TE:=λσ H Q=>ta σ H λx H1=>∃ c,x=.bl c/\Q (.bl (!c)) H1
def zUs {op} {t:TE} (h:PE X a t):PE X (.BoolOp op [a] pos) t:=λzB s σ H Q I hw=>BoolOp_one (h zB s σ H Q I hw)
def zUM (ha:PE X a ta) (hb:PE X (.BoolOp .And (b::rest) pos) tb):PE X (.BoolOp .And (a::b::rest) pos) (zVe ta tb):=by
 intro zB s σ H Q I h;refine BoolOp_and (thn (ha zB s σ H _ I h) λv s1 ⟨x,H1,I1,r1,q1⟩=>?_);obtain ⟨c,rfl,q1⟩:=q1;cases r1;refine wpAny_truthy_bool ?_;cases c with
 |true=>exact hb zB s1 σ H1 Q I1 q1
 |false=>exact ⟨.bl false,H1,I1,rfl,q1⟩
def zUj (ha:PE X a ta):PE X (.UnaryOp .Not a pos) (zVb ta):=by
 intro zB s σ H Q I h;refine UnaryOp_ (thn (ha zB s σ H _ I h) λv s1 ⟨x,H1,I1,r1,q1⟩=>?_);obtain ⟨c,rfl,q1⟩:=q1;cases r1;exact not_of (wpAny_truthy_bool ⟨.bl (!c),H1,I1,rfl,q1⟩)
def tIf (t:TT) (ta tb:TE):TE:=λσ H Q=>t σ H λc H1=>if c=true then ta σ H1 Q else tb σ H1 Q
def zQe {c:Expr} (hc:PT X c tA) (ha:PE X a ta) (hb:PE X b tb):PE X (.IfExp c a b pos) (tIf tA ta tb):=by
 intro zB s σ H Q I h;refine wpAny_IfExp (thn (hc zB s σ H _ I h) λd s1 ⟨H1,I1,q1⟩=>?_);cases d with
 |true=>exact ha zB s1 σ H1 Q I1 q1
 |false=>exact hb zB s1 σ H1 Q I1 q1
end
def SqL (K:Yb) (H:Hp) (a:Yt) (xs:List V):Prop :=
 Rd H a (.lst xs) \/
  ∃ (o:Obj) (its:Array Value) (n:Nat),K.lookup a=some o/\o.cls=.type "list" /\ o.dict=none/\o.data=.seq its n/\its.size<=sizeLine/\zg xs its.toList
def SqT (K:Yb) (H:Hp) (a:Yt) (xs:List V):Prop :=
 Rd H a (.tup xs) \/
  ∃ (o:Obj) (its:Array Value) (n:Nat),K.lookup a=some o/\o.cls=.type "tuple" /\ o.data=.seq its n/\its.size<=sizeLine/\zg xs its.toList
def zWq:Value->Option V
 |.none=>some .non
 |.bool b=>some (.bl b)
 |.int i _=>some (.int i)
 |.str x _=>some (.str x)
 |.bytes b _=>some (.byt b)
 |.float b _=>some (.flt b)
 |.ref a=>some (.ref a)
 |.type n=>some (.ty n)
 |_=>none
def zw.abs {x:V} {u:Yu} (r:zw x u):zWq u=some x:=by
 cases x with
 |non=>cases r;rfl
 |bl _=>cases r;rfl
 |int _=>obtain ⟨t,rfl⟩:=r;rfl
 |str _=>obtain ⟨t,rfl⟩:=r;rfl
 |byt _=>obtain ⟨t,rfl⟩:=r;rfl
 |flt _=>obtain ⟨t,rfl⟩:=r;rfl
 |ref _=>cases r;rfl
 |ty _=>cases r;rfl
def zw.inj {x y:V} {u:Yu} (r:zw x u) (q:zw y u):x=y:=zYD (r.abs.symm.trans q.abs)
def zg.inj:∀ {xs ys:List V} {us:Yf},zg xs us->zg ys us->xs=ys
 |_,_,_,.nil,.nil=>rfl
 |_,_,_,.cons r t,.cons r' t'=>by rw[r.inj r',zg.inj t t']
section
variable {X:Cx} {zB:Yd} {σ:St} {H:Hp} {s:Yl} {a:Yt} {xs ys:List V}
def SqL.of {K:Yb} (h:H a=some (.lst xs)):SqL K H a xs:=.inl (.inl h)
def SqT.of {K:Yb} (h:H a=some (.tup xs)):SqT K H a xs:=.inl (.inl h)
def Inv.list (I:Inv X zB σ H s) (h:SqL X.K H a xs):∃ its:List Value,zg xs its/\PlainL s.heap a its.toArray/\xs.length<=sizeLine:=by
 rcases h with h|⟨o,its,n,hk,hc,hd,hs,hz,r⟩
 .obtain ⟨z,its,n,r,e⟩:=h.ok I.hok;exact ⟨its,r,⟨_,n,e,rfl,rfl,rfl⟩,z⟩
 .refine ⟨its.toList,r,⟨o,n,I.kIn a o hk,hc,hd,by simpa using hs⟩,?_⟩;have e:=r.length;simp only[zXw]at e;omega
def Inv.tuple (I:Inv X zB σ H s) (h:SqT X.K H a xs):∃ its:List Value,zg xs its/\IsTup s.heap a its.toArray/\xs.length<=sizeLine:=by
 rcases h with h|⟨o,its,n,hk,hc,hs,hz,r⟩
 .obtain ⟨z,its,r,p⟩:=h.ok I.hok;exact ⟨its,r,p.tup,z⟩
 .refine ⟨its.toList,r,⟨o,I.kIn a o hk,hc,n,by simpa using hs⟩,?_⟩;have e:=r.length;simp only[zXw]at e;omega
def Inv.list_inj (I:Inv X zB σ H s) (h:SqL X.K H a xs) (h':SqL X.K H a ys):xs=ys:=by
 obtain ⟨its,r,⟨o,n,e,_,_,d⟩,_⟩:=I.list h;obtain ⟨its',r',⟨o',n',e',_,_,d'⟩,_⟩:=I.list h';rw[e]at e';cases e';rw[d]at d';injection d' with d1 _
 have:its=its':=by simpa using zY0 Array.toList d1
 subst this;exact r.inj r'
def Inv.tuple_inj (I:Inv X zB σ H s) (h:SqT X.K H a xs) (h':SqT X.K H a ys):xs=ys:=by
 obtain ⟨its,r,⟨o,e,_,n,d⟩,_⟩:=I.tuple h;obtain ⟨its',r',⟨o',e',_,n',d'⟩,_⟩:=I.tuple h';rw[e]at e';cases e';rw[d]at d';injection d' with d1 _
 have:its=its':=by simpa using zY0 Array.toList d1
 subst this;exact r.inj r'
end
abbrev Cx.wish (X:Cx) (E:Yc):Cx:={ X with xe:=E }
abbrev Cx.nox (X:Cx):Cx:=X.wish λ_ _=>False
def Cx.Ok.wish {X:Cx} (ok:X.Ok) (E:Yc):(X.wish E).Ok :=
 ⟨ok.mod,ok.kind,ok.glob,ok.blt,ok.above,ok.inj,ok.has,ok.cab,ok.hd,ok.frames,ok.stk,ok.exf,ok.bs,ok.bsz,ok.noex,ok.exfs,ok.funs,ok.frf⟩
def Cx.Ok.unwish {X:Cx} {E:Yc} (ok:(X.wish E).Ok):X.Ok :=
 ⟨ok.mod,ok.kind,ok.glob,ok.blt,ok.above,ok.inj,ok.has,ok.cab,ok.hd,ok.frames,ok.stk,ok.exf,ok.bs,ok.bsz,ok.noex,ok.exfs,ok.funs,ok.frf⟩
section
variable {X:Cx} {zB:Yd} {σ:St} {H:Hp} {s:Yl} {E:Yc}
def Inv.wish (I:Inv X zB σ H s) (E:Yc):Inv (X.wish E) zB σ H s:=⟨I.ok.wish E,I.os,I.bare,I.base,I.loc,I.cell,I.free,I.freeC,I.pin,I.hok,I.len⟩
def Inv.unwish (I:Inv (X.wish E) zB σ H s):Inv X zB σ H s:=⟨I.ok.unwish,I.os,I.bare,I.base,I.loc,I.cell,I.free,I.freeC,I.pin,I.hok,I.len⟩
def SP.unwish {D:Ends} {f:Flow} {s':Yl} (h:SP (X.wish E) zB D f s'):SP X zB D f s':=by
 cases f with
 |next=>obtain ⟨σ',H',I,q⟩:=h;exact ⟨σ',H',I.unwish,q⟩
 |brk=>obtain ⟨σ',H',I,q⟩:=h;exact ⟨σ',H',I.unwish,q⟩
 |cont=>obtain ⟨σ',H',I,q⟩:=h;exact ⟨σ',H',I.unwish,q⟩
 |ret u=>obtain ⟨v,σ',H',I,r,q⟩:=h;exact ⟨v,σ',H',I.unwish,r,q⟩
def PSs.nox {st:Yy} {t:TS} (h:PSs X.nox st t):PSs X st t:=λzB s σ H D I hw=>
 zXj (h zB s σ H D (I.wish _) hw) (λ_ _ q=>q.unwish) λ_ _ z=>False.elim z
end
section
variable {X:Cx} {st:Stmt} {rest:Yy} {t u:TS} {e:Expr} {te:TE} {pos:Pos}
def zVq:TS:=λD σ H=>D.nx σ H
def zWx (t u:TS):TS:=λD σ H=>t { D with nx:=u D } σ H
def zTT:PSs X [] zVq:=λ_ _ σ H _ I h=>wpAny_execs_nil ⟨σ,H,I,h⟩
def zRT (h1:PS X st t) (h2:PSs X rest u):PSs X (st::rest) (zWx t u):=by
 intro zB s σ H D I h;refine wpAny_execs_cons (thn (h1 zB s σ H { D with nx:=u D } I h) λf s1 q=>?_);cases f with
 |next=>
  obtain ⟨σ',H',I',q⟩:=q;exact h2 zB s1 σ' H' D I' q
 |ret v=>exact q
 |brk=>exact q
 |cont=>exact q
def zSO (h1:PS X st t):PSs X [st] t:=by
 intro zB s σ H D I h;refine wpAny_execs_cons (thn (h1 zB s σ H D I h) λf s1 q=>?_);cases f with
 |next=>exact wpAny_execs_nil q
 |ret v=>exact q
 |brk=>exact q
 |cont=>exact q
def Inv.quiet {zB:Yd} {σ:St} {H:Hp} {s:Yl} (I:Inv X zB σ H s):interactive X.env=false:=by simp[interactive,I.ok.kind]
def zWg (te:TE):TS:=λD σ H=>te σ H λ_ H1=>D.nx σ H1
def zR8 (he:PE X e te) (hs:swapsWith e none pos.line X.env=pure false:=by rfl):PS X (.Expr e pos) (zWg te):=by
 intro zB s σ H D I h;exact wpAny_Expr_any (thn (he zB s σ H _ I h) λv s1 ⟨x,H1,I1,r1,q1⟩=>⟨σ,H1,I1,q1⟩) I.quiet hs
def zWp (te:TE):TS:=λD σ H=>te σ H D.rt
def zUx (he:PE X e te):PS X (.Return (some e) pos) (zWp te):=by
 intro zB s σ H D I h;exact wpAny_Return_some (thn (he zB s σ H _ I h) λv s1 ⟨x,H1,I1,r1,q1⟩=>⟨x,σ,H1,I1,r1,q1⟩)
def zWz (c:TT) (t u:TS):TS:=λD σ H=>c σ H λb H1=>if b=true then t D σ H1 else u D σ H1
def zVc {c:Expr} {a b:Yy} {tc:TT} (hc:PT X c tc) (ha:PSs X a t) (hb:PSs X b u):PS X (.If c a b pos) (zWz tc t u):=by
 intro zB s σ H D I h;refine wpAny_If (thn (hc zB s σ H _ I h) λd s1 ⟨H1,I1,q1⟩=>?_);cases d with
 |true=>exact ha zB s1 σ H1 D I1 q1
 |false=>exact hb zB s1 σ H1 D I1 q1
end
abbrev TG:=V->St->Hp->(St->Hp->Prop)->Prop
abbrev TGs:=List V->St->Hp->(St->Hp->Prop)->Prop
def PG (X:Cx) (target:Expr) (t:TG):Prop :=
 ∀ (zB:Yd) (s:Yl) (σ:St) (H:Hp) (v:V) (u:Yu) (Q:St->Hp->Prop),Inv X zB σ H s->zw v u->t v σ H Q ->
  wpAny (model X.prog X.w) X.A (assign target X.env u) (λ_ s'=>∃ σ' H',Inv X zB σ' H' s'/\Q σ' H') X.xe s
def PGs (X:Cx) (ts:Yi) (t:TGs):Prop :=
 ∀ (zB:Yd) (s:Yl) (σ:St) (H:Hp) (vs:List V) (us:Yf) (Q:St->Hp->Prop),Inv X zB σ H s->zg vs us->t vs σ H Q ->
  wpAny (model X.prog X.w) X.A (assignInOrder ((assignEach ts X.env).map (·.2)) us) (λ_ s'=>∃ σ' H',Inv X zB σ' H' s'/\Q σ' H') X.xe s
abbrev zUV:=V->V->V->Hp->(Hp->Prop)->Prop
def zVY (X:Cx) (t:zUV):Prop :=
 ∀ (zB:Yd) (s:Yl) (σ:St) (H:Hp) (o i v:V) (ov iv u:Yu) (Q:Hp->Prop),Inv X zB σ H s->zw o ov->zw i iv->zw v u->t o i v H Q ->
  wpAny (model X.prog X.w) X.A (setItem ov iv u) (λ_ s'=>∃ H',Inv X zB σ H' s'/\Q H') X.xe s
section
variable {X:Cx} {pos:Pos}
def zD3 (i:Nat):TG:=λv σ H Q=>Q (σ.set i (some v)) H
noncomputable def zKA {i:Nat} {x:Str} (hN:X.N.Nodup) (hi:X.N[i]?=some x) (hx:Loc X.env.scope x) (hf:X.fn x=true\/X.env.scope.names.lookup x=some .local:=by first|exact .inl rfl|exact .inr rfl|assumption):PG X (.Name x pos) (zD3 i):=by
 intro zB s σ H v u Q I r h;exact wpAny_assign_Name (zLz I hN hi hx r (λs' I'=>⟨_,H,I',h⟩) hf)
def zVW:TGs:=λvs σ H Q=>vs=[]/\Q σ H
def zQS (t:TG) (u:TGs):TGs:=λvs σ H Q=>∃ v r,vs=v::r/\t v σ H λσ' H'=>u r σ' H' Q
def zNQ:PGs X [] zVW:=by
 intro zB s σ H vs us Q I r h;obtain ⟨e,h⟩:=h;subst e;cases r;exact assignInOrder_nil ⟨σ,H,I,h⟩
noncomputable def zIN {e:Expr} {es:Yi} {t:TG} {u:TGs} (h1:PG X e t) (h2:PGs X es u)
  (hs:(assignEach (e::es) X.env).map (·.2)=assign e X.env::(assignEach es X.env).map (·.2):=by rfl):PGs X (e::es) (zQS t u):=by
 intro zB s σ H vs us Q I r h;obtain ⟨v,vr,e1,h⟩:=h;subst e1;cases r with
 |cons r rr=>
  rw[hs];refine assignInOrder_cons (thn (h1 zB s σ H _ _ _ I r h) λ_ s1 ⟨σ1,H1,I1,q1⟩=>?_);exact h2 zB s1 σ1 H1 _ _ Q I1 rr q1
def zWA (K:Yb) (n:Nat) (t:TGs):TG:=λv σ H Q=>∃ a xs,v=.ref a/\SqT K H a xs/\xs.length=n/\t xs σ H Q
noncomputable def zQR {es:Yi} {k:Nat} {t:TGs} {n:Nat} (hc:X.calm=true) (h:PGs X es t)
  (hn:(assignEach es X.env).length=n:=by rfl) (hst:(assignEach es X.env).findIdx? (·.1)=none:=by rfl):PG X (.Tuple es k pos) (zWA X.K n t):=by
 intro zB s σ H v u Q I r hw;obtain ⟨a,xs,e1,hq,hl,hw⟩:=hw;subst e1;cases r;obtain ⟨its,rv,ht,hz⟩:=I.tuple hq;refine assign_Tuple_tuple (I.ok.hd hc) ht (by simp[hn,<-hl,rv.length]) hst λh' hx=>?_;have I1:Inv X zB σ H { s with heap:=h' }:=I.kept (t':=s.toks) λb o e=>hx b o (zXY (zXO e)) e;exact h zB _ σ H xs _ Q I1 (by simpa using rv) hw
def zWs (to ti:TE) (t:zUV):TG:=λv σ H Q=>to σ H λo H1=>ti σ H1 λi H2=>t o i v H2 λH3=>Q σ H3
noncomputable def zUN {o i:Expr} {to ti:TE} {t:zUV} (ho:PE X o to) (hi:PE X i ti) (hs:zVY X t)
  (ha:∀ v,assign (.Subscript o i pos) X.env v=(do
   let ov <- holding [v] (eval o X.env);let iv <- holding [v,ov] (eval i X.env);standAt pos;holding [v,ov,iv] (setItem ov iv v);release [v,ov,iv] []):=by intro _;rfl):PG X (.Subscript o i pos) (zWs to ti t):=by
 intro zB s σ H v u Q I r h;rw[ha];refine zXD (zX6 (thn (ho zB s σ H _ I h) λov s1 ⟨x,H1,I1,r1,q1⟩=>?_));refine zXD (zX6 (thn (hi zB s1 σ H1 _ I1 q1) λiv s2 ⟨y,H2,I2,r2,q2⟩=>?_));refine zXD (zYB (zXD (zX6 (thn (hs zB s2 σ H2 x y v ov iv u _ I2 r1 r2 r q2) λ_ s3 ⟨H3,I3,q3⟩=>?_))));exact wpAny_release ⟨σ,H3,I3,q3⟩
def zRX (te:TE) (g:TG):TS:=λD σ H=>te σ H λx H1=>g x σ H1 D.nx
noncomputable def zQw {tg e:Expr} {te:TE} {g:TG} (he:PE X e te) (hg:PG X tg g) (hs:swapsWithSole [tg] e pos.line X.env=pure false:=by rfl) (hw:swappedStores [tg] e X.env=pure none:=by rfl)
  (h1:(assignEach [tg] X.env).map (·.2)=[assign tg X.env]:=by rfl):PS X (.Assign [tg] e pos) (zRX te g):=by
 intro zB s σ H D I h;refine wpAny_Assign_stores (thn (he zB s σ H _ I h) λv s1 ⟨x,H1,I1,r1,q1⟩=>?_) hs hw;rw[h1];exact thn (hg zB s1 σ H1 x v _ I1 r1 q1) λ_ s2 q=>q
noncomputable def zVK {i:Nat} {x:Str} {e:Expr} {te:TE} {pos':Pos} (hN:X.N.Nodup) (hi:X.N[i]?=some x) (hx:Loc X.env.scope x) (he:PE X e te) (hs:swapsWith e (some (.Name x pos')) pos.line X.env=pure false:=by rfl) (hf:X.fn x=true\/X.env.scope.names.lookup x=some .local:=by first|exact .inl rfl|exact .inr rfl|assumption) :
  PS X (.Assign [.Name x pos'] e pos) (zRX te (zD3 i)):=by
 intro zB s σ H D I h;refine wpAny_Assign_Name (thn (he zB s σ H _ I h) λv s1 ⟨y,H1,I1,r1,q1⟩=>?_) hs;exact zLz I1 hN hi hx r1 (λs2 I2=>⟨_,H1,I2,q1⟩) hf
def zP4 (c:TT) (tb:TS):TS:=λD σ H=>∃ W:Nat->St->Hp->Prop,(∃ m,W m σ H) /\ ∀ m σ H,W m σ H ->
 c σ H λb H1=>if b=true then ∃ N:St->Hp->Prop,(∀ σ' H',N σ' H' -> ∃ m',m'<m/\W m' σ' H')/\tb { D with nx:=N,ct:=N,bk:=D.nx } σ H1 else D.nx σ H1
def zRQ {c:Expr} {body:Yy} {tc:TT} {tb:TS} (hp:PassesOwn (model X.prog X.w) X.A X.env X.xe) (hc:PT X c tc) (hb:PSs X body tb):PS X (.While c body [] pos) (zP4 tc tb):=by
 intro zB s σ H D I h;obtain ⟨W,⟨m0,w0⟩,turn⟩:=h;refine wpAny_While (codeAny_whileLoop (λn s'=>∃ σ' H',Inv X zB σ' H' s'/\W n σ' H') ?_ m0 ⟨σ,H,I,w0⟩);rintro n s1 ⟨σ1,H1,I1,w1⟩;refine wpAny_passesOwn hp (thn (hc zB s1 σ1 H1 _ I1 (turn n σ1 H1 w1)) λb s2 ⟨H2,I2,q2⟩=>?_);cases b with
 |true=>
  obtain ⟨N,hN,q2⟩:=q2;rw[zXS rfl];refine wpAny_passesOwn hp (thn (hb zB s2 σ1 H2 _ I2 q2) λf s3 q3=>?_);cases f with
  |next=>
   obtain ⟨σ3,H3,I3,n3⟩:=q3;obtain ⟨m',hm,w3⟩:=hN σ3 H3 n3;exact ⟨m',hm,σ3,H3,I3,w3⟩
  |cont=>
   obtain ⟨σ3,H3,I3,n3⟩:=q3;obtain ⟨m',hm,w3⟩:=hN σ3 H3 n3;exact ⟨m',hm,σ3,H3,I3,w3⟩
  |brk=>exact q3
  |ret v=>exact q3
 |false=>
  rw[zXV zXZ];exact wpAny_execs_nil ⟨σ1,H2,I2,q2⟩
end
structure It where
 go:Nat->Hp->Prop
 yld:Nat->Hp->V->Hp->Prop
 stop:Nat->Hp->Prop
def zCC (X:Cx) (zB:Yd) (H:Hp) (b:Yt):Prop :=
 H b=none/\b≠X.env.locals/\b∉X.fs/\(b∈X.ex\/X.s₀.heap.objs.size<=b)/\(∀ x c,X.env.cells.lookup x=some c->c≠b) /\ ∀ p∈X.pn++zB,p.1≠b
def Inv.fpOk {X:Cx} {zB:Yd} {σ:St} {H H':Hp} {s:Yl} {b:Yt} (I:Inv X zB σ H s) (hb:s.heap.objs.size<=b) (hn:H' b=none):zCC X zB H' b:=by
 refine ⟨hn,zYi (zXc I.lt hb),I.nofs hb,.inr (zXe I.sz hb),λx c e z=>?_,λp hp z=>?_⟩
 .obtain ⟨v,q⟩:=I.cell x c e;exact absurd (zXc q.lt (by rw[z];exact hb)) (zXv _)
 .exact absurd (zXc (zXO (I.pin p hp).1) (by rw[z];exact hb)) (zXv _)
structure Turn (P:Ym) (w:Yo) (K:Yb) (tg:Expr) (J:It) (fp:Yg) (it:Yt) (tn:Nat->Heap->Prop):Prop where
 mem:it∈fp
 obj:∀ i h,tn i h -> ∀ b∈fp,∃ o,h.get? b=some o /\ ∀ v,o.data≠.cell v
 keep:∀ i h h',tn i h->(∀ b∈fp,∀ o,h.get? b=some o->h'.get? b=some o)->tn i h'
 item:∀ (X:Cx),X.prog=P->X.w=w->X.K=K->X.calm=true -> ∀ (i:Nat) (zB:Yd) (s:Yl) (σ:St) (H:Hp) (E:Yc),Inv X zB σ H s->(∀ b∈fp,zCC X zB H b)->tn i s.heap->J.go i H ->
  wpAny (model P w) X.A (pyNext (.ref it)) (λr s1=>∃ u,r=some u /\
   wpAny (model P w) X.A (letOwnedTupleGo tg (.ref it) u) (λ_ s2=>∃ x H',Inv X zB σ H' s2/\zw x u/\J.yld i H x H'/\tn (i+1) s2.heap /\ ∀ b∈fp,H' b=none) E s1) E s
 done:∀ (X:Cx),X.prog=P->X.w=w->X.K=K->X.calm=true -> ∀ (i:Nat) (zB:Yd) (s:Yl) (σ:St) (H:Hp) (E:Yc),Inv X zB σ H s->(∀ b∈fp,zCC X zB H b)->tn i s.heap->J.stop i H ->
  wpAny (model P w) X.A (pyNext (.ref it)) (λr s1=>r=none/\Inv X zB σ H s1) E s
 self:∀ (A:Yn) (i:Nat) (s:Yl) (Q:Yc) (E:Yc),tn i s.heap->Q (.ref it) s->wpAny (model P w) A (pyIter (.ref it)) Q E s
abbrev TI:=St->Hp->(It->Hp->Prop)->Prop
def PIE (X:Cx) (zB:Yd) (σ:St) (tg:Expr) (R:It->Hp->Prop) (itv:Yu) (s2:Yl):Prop :=
 ∃ (it:Yt) (fp:Yg) (tn:Nat->Heap->Prop) (J:It) (H':Hp),itv=.ref it/\Inv X zB σ H' s2/\Turn X.prog X.w X.K tg J fp it tn/\tn 0 s2.heap/\(∀ b∈fp,zCC X zB H' b)/\R J H'
def PI (X:Cx) (tg iter:Expr) (wi:TI):Prop :=
  ∀ (zB:Yd) (s:Yl) (σ:St) (H:Hp) (R:It->Hp->Prop),Inv X zB σ H s->wi σ H R ->
    wpAny (model X.prog X.w) X.A (eval iter X.env) (λv s1=>wpAny (model X.prog X.w) X.A (pyIter v) (PIE X zB σ tg R) X.xe s1) X.xe s
def zPk {M:Model} {A:Yn} {E:Yc} {s:Yl} {tg:Expr} {it:Yt} {u:Yu} {o:Obj} {n:String} {vs:Yp} {Q:Unit->Shared->Prop} (ho:s.heap.get? it=some o) (hc:o.cls=.type n) (hd:o.data=.fields vs)
    (hn:["enumerate", "zip", "dict_itemiterator", "dict_reverseitemiterator", "odict_iterator", "itertools.zip_longest", "itertools.pairwise"].contains n=false) (hQ:Q () s):wpAny M A (letOwnedTupleGo tg (.ref it) u) Q E s:=by
  unfold letOwnedTupleGo
  cases tg <;> first
    |exact zXF hQ
    | (cases u <;> first
        |exact zXF hQ
        | (refine zXD (wpAny_load ho ?_)
           rw[hc,hd];show wpAny M A (if (["enumerate", "zip", "dict_itemiterator", "dict_reverseitemiterator", "odict_iterator", "itertools.zip_longest", "itertools.pairwise"].contains n&&vs[0]?==some (rawInt _))=true then _ else _) Q E s;rw[zXV (by intro h;rw[hn,Bool.false_and]at h;cases h)];exact zXF hQ))
def Itl (K:Yb) (a:Yt):It :=
 ⟨λi H=>∃ xs x,SqL K H a xs/\xs[i]?=some x,λi H x H'=>H'=H /\ ∀ xs,SqL K H a xs->xs[i]?=some x,λi H=>∃ xs,SqL K H a xs/\xs.length<=i⟩
def Itt (K:Yb) (a:Yt):It :=
 ⟨λi H=>∃ xs x,SqT K H a xs/\xs[i]?=some x,λi H x H'=>H'=H /\ ∀ xs,SqT K H a xs->xs[i]?=some x,λi H=>∃ xs,SqT K H a xs/\xs.length<=i⟩
def Itr (lo:Int) (n:Nat):It:=⟨λi _=>i<n,λi H x H'=>H'=H/\x=.int (lo+i),λi _=>n<=i⟩
def zOg {P:Ym} {w:Yo} {K:Yb} {tg:Expr} (a it:Yt):Turn P w K tg (Itl K a) [it] it (λi h=>h.IsListIter it a i) where
 mem:=by simp
 obj:=λi h st b hb=>by
  have e:b=it:=by simpa using hb
  subst e;obtain ⟨o,e,c,d⟩:=st;exact ⟨o,e,λv z=>by rw[d]at z;cases z⟩
 keep:=λi h h' st k=>st.at λo e=>k it (by simp) o e;item:=by
  intro X hP hw hK hc i zB s σ H E I hf st hg;subst hP hw hK;obtain ⟨xs,x,hq,hx⟩:=hg;obtain ⟨its,rv,p,hz⟩:=I.list hq;obtain ⟨u,hu,ru⟩:=rv.get hx;obtain ⟨f0,f1,f2,f3,f4,f5⟩:=hf it (by simp);refine wpAny_pyNext_list_item st p.isList (x:=u) (by simpa using hu) λh' st' sb=>?_;have I1:Inv X zB σ H { s with heap:=h' }:=I.turned (t':=s.toks) (λb o hb e=>(sb.2 b hb).trans e) f0 f1 f3 f4 f5;obtain ⟨o,e,c,d⟩:=id st';exact ⟨u,rfl,zPk (s:={ s with heap:=h' }) e c d (by decide) ⟨x,H,I1,ru,⟨rfl,λys hy=>by rw[I.list_inj hy hq];exact hx⟩,st',λb hb=>(hf b hb).1⟩⟩
 done:=by
  intro X hP hw hK hc i zB s σ H E I hf st hg;subst hP hw hK;obtain ⟨xs,hq,hx⟩:=hg;obtain ⟨its,rv,p,hz⟩:=I.list hq;obtain ⟨f0,f1,f2,f3,f4,f5⟩:=hf it (by simp);have hl:=rv.length;exact wpAny_pyNext_list_end (I.ok.hd hc) st p.isList (by simp;omega) λh' eb=>⟨rfl,I.turned (t':=s.toks) (λb o hb e=>eb b o hb e) f0 f1 f3 f4 f5⟩
 self:=λ_ _ _ _ _ st h=>wpAny_pyIter_listiter st h
def zMu {P:Ym} {w:Yo} {K:Yb} {tg:Expr} (a it:Yt):Turn P w K tg (Itt K a) [it] it (λi h=>h.IsTupleIter it a i) where
 mem:=by simp
 obj:=λi h st b hb=>by
  have e:b=it:=by simpa using hb
  subst e;obtain ⟨o,e,c,d⟩:=st;exact ⟨o,e,λv z=>by rw[d]at z;cases z⟩
 keep:=λi h h' st k=>st.at λo e=>k it (by simp) o e;item:=by
  intro X hP hw hK hc i zB s σ H E I hf st hg;subst hP hw hK;obtain ⟨xs,x,hq,hx⟩:=hg;obtain ⟨its,rv,p,hz⟩:=I.tuple hq;obtain ⟨u,hu,ru⟩:=rv.get hx;obtain ⟨f0,f1,f2,f3,f4,f5⟩:=hf it (by simp);refine wpAny_pyNext_tuple_item st (show s.heap.IsTuple a its.toArray from p) (x:=u) (by simpa using hu) λh' st' sb=>?_;have I1:Inv X zB σ H { s with heap:=h' }:=I.turned (t':=s.toks) (λb o hb e=>(sb.2 b hb).trans e) f0 f1 f3 f4 f5;obtain ⟨o,e,c,d⟩:=id st';exact ⟨u,rfl,zPk (s:={ s with heap:=h' }) e c d (by decide) ⟨x,H,I1,ru,⟨rfl,λys hy=>by rw[I.tuple_inj hy hq];exact hx⟩,st',λb hb=>(hf b hb).1⟩⟩
 done:=by
  intro X hP hw hK hc i zB s σ H E I hf st hg;subst hP hw hK;obtain ⟨xs,hq,hx⟩:=hg;obtain ⟨its,rv,p,hz⟩:=I.tuple hq;obtain ⟨f0,f1,f2,f3,f4,f5⟩:=hf it (by simp);have hl:=rv.length;exact wpAny_pyNext_tuple_end (I.ok.hd hc) st (show s.heap.IsTuple a its.toArray from p) (by simp;omega) λh' eb=>⟨rfl,I.turned (t':=s.toks) (λb o hb e=>eb b o hb e) f0 f1 f3 f4 f5⟩
 self:=λ_ _ _ _ _ st h=>wpAny_pyIter_tupleiter st h
def zMF {P:Ym} {w:Yo} {K:Yb} {tg:Expr} (it:Yt) (lo:Int) (n:Nat):Turn P w K tg (Itr lo n) [it] it (λi h=>IsRangeIter h it (lo+(i:Nat)*1) ((n:Int)-(i:Nat)) 1) where
 mem:=by simp
 obj:=λi h st b hb=>by
  have e:b=it:=by simpa using hb
  subst e;exact ⟨_,st,λv z=>by
   have z':Data.fields _=Data.cell v:=z;cases z'⟩
 keep:=λi h h' st k=>k it (by simp) _ st;item:=by
  intro X hP hw hK hc i zB s σ H E I hf st hg;subst hP hw hK;obtain ⟨f0,f1,f2,f3,f4,f5⟩:=hf it (by simp);have W:=Walks.range (prog:=X.prog) (w:=X.w) (I.ok.hd hc) it lo 1 n;refine W.item i s _ _ hg st λv h' tk hv st' kk=>?_;obtain ⟨t,rfl⟩:=hv;have I1:Inv X zB σ H { s with heap:=h',toks:=tk }:=I.turned (λb o hb e=>kk b o (by simpa using hb) e) f0 f1 f3 f4 f5;refine ⟨_,rfl,zPk (s:={ s with heap:=h',toks:=tk }) (n := "range_iterator") st' rfl rfl (by decide) ⟨.int (lo+i),H,I1,⟨t,?_⟩,⟨rfl,rfl⟩,st',λb hb=>(hf b hb).1⟩⟩;rw[Int.mul_one]
 done:=by
  intro X hP hw hK hc i zB s σ H E I hf st hg;subst hP hw hK;obtain ⟨f0,f1,f2,f3,f4,f5⟩:=hf it (by simp);exact wpAny_pyNext_range_end (I.ok.hd hc) st (by have:n<=i:=hg;omega) λh' eb=>⟨rfl,I.turned (t':=s.toks) (λb o hb e=>eb b o hb e) f0 f1 f3 f4 f5⟩
 self:=λ_ _ _ _ _ st h=>wpAny_pyIter_rangeiter st h
section
variable {X:Cx} {tg:Expr}
def zLR {zB:Yd} {σ:St} {H:Hp} {s:Yl} {R:It->Hp->Prop} {E:Yc} {lo hi:Int} {t u v:Tok} {tk:Nat} (I:Inv X zB σ H s) (h1 : -(2 ^ 62)<=lo) (h2:lo<2 ^ 62) (h3 : -(2 ^ 62)<=hi) (h4:hi<2 ^ 62)
  (q:R (Itr lo (hi-lo).toNat) H):wpAny (model X.prog X.w) X.A (pyIter (.ref s.heap.objs.size)) (PIE X zB σ tg R) E { s with heap:=s.heap.push { cls:=.type "range", data:=.fields #[.int lo t,.int hi u,.int 1 v] },toks:=tk }:=by
 refine wpAny_pyIter_range (IsRange.new ..) (small_one h1 h2 h3 h4) ?_;have I1:Inv X zB σ H { s with heap:=s.heap.push { cls:=.type "range", data:=.fields #[.int lo t,.int hi u,.int 1 v] },toks:=tk }:=I.kept λb o e=>zXE _ e
 refine ⟨(s.heap.push { cls:=.type "range", data:=.fields #[.int lo t,.int hi u,.int 1 v] }).objs.size,[(s.heap.push { cls:=.type "range", data:=.fields #[.int lo t,.int hi u,.int 1 v] }).objs.size],_,_,H,rfl,
  I1.kept (t':=tk) λb o e=>zXE _ e,zMF _ lo (hi-lo).toNat,?_,λb hb=>?_,q⟩
 .have e1:lo+((0:Nat):Int)*1=lo:=by simp
  have e2:(((hi-lo).toNat:Nat):Int)-((0:Nat):Int)=Builtin.Range.rangeSize lo hi 1:=by rw[rangeSize_one];split <;> omega
  show IsRangeIter _ _ (lo+((0:Nat):Int)*1) ((((hi-lo).toNat:Nat):Int)-((0:Nat):Int)) 1;rw[e1,e2];exact zXN _ rfl
 .have e:b=(s.heap.push { cls:=.type "range", data:=.fields #[.int lo t,.int hi u,.int 1 v] }).objs.size:=by simpa using hb
  subst e;exact I1.fpOk (zXJ _) (I1.hok.fresh (zXJ _))
def zWX (ta:TA):TI:=λσ H R=>ta σ H λvs H1=>∃ j:Int,vs=[.int j] /\ -(2 ^ 62)<=j/\j<2 ^ 62/\R (Itr 0 j.toNat) H1
def zVd (ta:TA):TI:=λσ H R=>ta σ H λvs H1=>∃ i j:Int,vs=[.int i,.int j]/\(-(2 ^ 62)<=i/\i<2 ^ 62 /\ -(2 ^ 62)<=j/\j<2 ^ 62)/\R (Itr i (j-i).toNat) H1
noncomputable def zOk {a:Expr} {ta:TA} {p pos:Pos} (hg:Gl X "range") (hm:X.mg "range" = none) (ha:PA X [a] ta) (hs:starEach [a] X.env=[(false,eval a X.env)]:=by rfl):PI X tg (.Call (.Name "range" p) [a] [] pos) (zWX ta):=by
 intro zB s σ H R I h;refine Call_ (zDj I hg hm boot_range (PyProof.Rows.callWith_type1 (thn (ha pos zB s σ H _ I h) λus s1 ⟨vs,H1,I1,r1,q1⟩=>?_) hs rfl));obtain ⟨j,e,q1,q2,q⟩:=q1;subst e;cases r1 with
 |cons r rr=>
  cases rr;obtain ⟨t,rfl⟩:=r;exact call_range_1 (zLR I1 (by omega) (by omega) q1 q2 (by simpa using q))
noncomputable def zO7 {a b:Expr} {ta:TA} {p pos:Pos} (hg:Gl X "range") (hm:X.mg "range" = none) (ha:PA X [a,b] ta) (hs:starEach [a,b] X.env=[(false,eval a X.env),(false,eval b X.env)]:=by rfl) (hs2:starEach [b] X.env=[(false,eval b X.env)]:=by rfl) :
  PI X tg (.Call (.Name "range" p) [a,b] [] pos) (zVd ta):=by
 intro zB s σ H R I h;refine Call_ (zDj I hg hm boot_range (PyProof.Rows.callWith_type1 (thn (ha pos zB s σ H _ I h) λus s1 ⟨vs,H1,I1,r1,q1⟩=>?_) (by rw[hs,hs2]) (by rw[hs2];rfl)));obtain ⟨i,j,e,⟨q1,q2,q3,q4⟩,q⟩:=q1;subst e;cases r1 with
 |cons r rr=>
  cases rr with
  |cons r' rr=>
   cases rr;obtain ⟨t,rfl⟩:=r;obtain ⟨t',rfl⟩:=r';exact call_range_2 (zLR I1 q1 q2 q3 q4 q)
def zVm (wi:TI) (g:TG) (tb:TS):TS:=λD σ H=>wi σ H λJ H1=>∃ W:Nat->Nat->St->Hp->Prop,(∃ m,W 0 m σ H1) /\ ∀ i m σ H,W i m σ H ->
 (J.stop i H/\D.nx σ H)\/(J.go i H /\ ∃ N:St->Hp->Prop,(∀ σ' H',N σ' H' -> ∃ m',m'<m/\W (i+1) m' σ' H') /\ ∀ x H',J.yld i H x H'->g x σ H' λσ2 H2=>tb { D with nx:=N,ct:=N,bk:=D.nx } σ2 H2)
def zC4 (fp:Yg) (h:Heap):List (Addr × Obj):=fp.filterMap λb=>(h.get? b).map λo=>(b,o)
def zAR {fp:Yg} {h:Heap} {b:Yt} {o:Obj} (hb:b∈fp) (e:h.get? b=some o):(b,o)∈zC4 fp h:=List.mem_filterMap.mpr ⟨b,hb,by rw[e];rfl⟩
def zIr {fp:Yg} {h:Heap} {p:Addr × Obj} (hp:p∈zC4 fp h):p.1∈fp/\h.get? p.1=some p.2:=by
 obtain ⟨b,hb,e⟩:=List.mem_filterMap.mp hp;cases q:h.get? b with
 |none=>rw[q]at e;cases e
 |some o=>
  rw[q]at e;have e':(b,o)=p:=zYD e;subst e';exact ⟨hb,q⟩
def Inv.pinned {zB:Yd} {σ:St} {H:Hp} {s:Yl} {fp:Yg} (I:Inv X zB σ H s) (hf:∀ b∈fp,zCC X zB H b) (ho:∀ b∈fp,∃ o,s.heap.get? b=some o /\ ∀ v,o.data≠.cell v):Inv X (zB++zC4 fp s.heap) σ H s :=
 I.pins_of λp hp=>(zXd.mp hp).elim (λz=>I.pin p (zXX _ z)) λz=>by
  obtain ⟨hb,e⟩:=zIr z;obtain ⟨f0,f1,f2,_⟩:=hf p.1 hb;obtain ⟨o,e',d⟩:=ho p.1 hb;rw[e]at e';cases e';exact ⟨e,f0,f1,f2,d⟩
def Inv.unpinned {zB pl:Yd} {σ:St} {H:Hp} {s:Yl} (I:Inv X (zB++pl) σ H s):Inv X zB σ H s:=I.pins_of λp hp=>I.pin p (zXX _ (zYS _ hp))
noncomputable def zU1 {iter:Expr} {body:Yy} {wi:TI} {g:TG} {tb:TS} {pos:Pos} (hp:PassesOwn (model X.prog X.w) X.A X.env X.xe) (hc:X.calm=true) (hi:PI X tg iter wi) (hg:PG X tg g) (hb:PSs X body tb)
  (hs:∀ x,foldedSetIterable iter X.env x=pure x:=by intro _;rfl):PS X (.For tg iter body [] pos) (zVm wi g tb):=by
 intro zB s σ H D I h;refine wpAny_For (thn (hi zB s σ H _ I h) λv s1 h1=>thn h1 λitv s2 h2=>?_) hs;obtain ⟨it,fp,tn,J,H2,e,I2,T,st2,f2,W,⟨m0,w0⟩,turn⟩:=h2;subst e;have stat:∀ {H':Hp},(∀ b∈fp,H' b=none) -> ∀ b∈fp,zCC X zB H' b:=λhn b hb=>⟨hn b hb,(f2 b hb).2⟩;refine codeAny_forLoop_any (λn s'=>∃ i σ' H',Inv X zB σ' H' s'/\tn i s'.heap/\(∀ b∈fp,H' b=none)/\W i n σ' H') ?_ m0 ⟨0,σ,H2,I2,st2,λb hb=>(f2 b hb).1,w0⟩;rintro n s3 ⟨i,σ3,H3,I3,st3,fr3,w3⟩;rcases turn i n σ3 H3 w3 with ⟨stop,qn⟩|⟨go,N,hN,step⟩
 .refine wpAny_passesOwn hp (thn (T.done X rfl rfl rfl hc i zB s3 σ3 H3 X.xe I3 (stat fr3) st3 stop) λr s4 ⟨hr,I4⟩=>?_);subst hr;exact wpAny_execs_nil ⟨σ3,H3,I4,qn⟩
 .refine wpAny_passesOwn hp (thn (T.item X rfl rfl rfl hc i zB s3 σ3 H3 X.xe I3 (stat fr3) st3 go) λr s4 ⟨u,hr,h4⟩=>?_);subst hr;refine wpAny_passesOwn hp (thn h4 λ_ s5 ⟨x,H5,I5,r5,y5,st5,fr5⟩=>?_);have I5':=I5.pinned (stat fr5) (T.obj _ _ st5);refine wpAny_passesOwn hp (thn (hg _ s5 σ3 H5 x u _ I5' r5 (step x H5 y5)) λ_ s6 ⟨σ6,H6,I6,q6⟩=>?_);refine wpAny_passesOwn hp (thn (hb _ s6 σ6 H6 _ I6 q6) λf s7 q7=>?_);have again:∀ {σ7:St} {H7:Hp},Inv X (zB++zC4 fp s5.heap) σ7 H7 s7->N σ7 H7 -> ∃ m,m<n /\ ∃ i σ' H',Inv X zB σ' H' s7/\tn i s7.heap/\(∀ b∈fp,H' b=none)/\W i m σ' H':=λ{σ7 H7} I7 n7=>by
   obtain ⟨m',hm,w7⟩:=hN σ7 H7 n7;refine ⟨m',hm,i+1,σ7,H7,I7.unpinned,T.keep _ _ _ st5 λb hb o e=>(I7.pin (b,o) (zXX _ (zXX _ (zAR hb e)))).1,λb hb=>?_,w7⟩;obtain ⟨o,e,d⟩:=T.obj _ _ st5 b hb;exact (I7.pin (b,o) (zXX _ (zXX _ (zAR hb e)))).2.1
  cases f with
  |next=>obtain ⟨σ7,H7,I7,n7⟩:=q7;exact again I7 n7
  |cont=>obtain ⟨σ7,H7,I7,n7⟩:=q7;exact again I7 n7
  |brk=>obtain ⟨σ7,H7,I7,q7⟩:=q7;exact ⟨σ7,H7,I7.unpinned,q7⟩
  |ret v=>obtain ⟨x7,σ7,H7,I7,r7,q7⟩:=q7;exact ⟨x7,σ7,H7,I7.unpinned,r7,q7⟩
end
abbrev R2:=V->V->Hp->VK->Prop
def OpR (X:Cx) (f:Y2) (r:R2):Prop :=
 ∀ (zB:Yd) (s:Yl) (σ:St) (H:Hp) (x y:V) (v u:Yu) (Q:VK),Inv X zB σ H s->zw x v->zw y u->r x y H Q ->
  wpAny (model X.prog X.w) X.A (f v u) (EP X zB σ Q) X.xe s
def UnR (X:Cx) (f:Value->Sem Value) (r:V->Hp->VK->Prop):Prop :=
 ∀ (zB:Yd) (s:Yl) (σ:St) (H:Hp) (x:V) (v:Yu) (Q:VK),Inv X zB σ H s->zw x v->r x H Q ->
  wpAny (model X.prog X.w) X.A (f v) (EP X zB σ Q) X.xe s
def zCI (X:Cx) (f:Yu) (r:List V->Hp->VK->Prop):Prop :=
 ∀ (zB:Yd) (s:Yl) (σ:St) (H:Hp) (xs:List V) (us:Yf) (Q:VK),Inv X zB σ H s->zg xs us->r xs H Q ->
  wpAny (model X.prog X.w) X.A (call f us) (EP X zB σ Q) X.xe s
def zWn (X:Cx) (r:V->Hp->(Bool->Hp->Prop)->Prop):Prop :=
 ∀ (zB:Yd) (s:Yl) (σ:St) (H:Hp) (x:V) (v:Yu) (Q:Bool->Hp->Prop),Inv X zB σ H s->zw x v->r x H Q ->
  wpAny (model X.prog X.w) X.A (truthy v) (TP X zB σ Q) X.xe s
def tOp (r:R2) (ta tb:TE):TE:=λσ H Q=>ta σ H λx H1=>tb σ H1 λy H2=>r x y H2 Q
def tUn (r:V->Hp->VK->Prop) (ta:TE):TE:=λσ H Q=>ta σ H λx H1=>r x H1 Q
def rI (C:Int->Int->Prop) (g:Int->Int->V):R2:=λx y H Q=>∃ i j,x=.int i/\y=.int j/\C i j/\Q (g i j) H
def rI0 (g:Int->Int->V):R2:=λx y H Q=>∃ i j,x=.int i/\y=.int j/\Q (g i j) H
def rU (g:Int->V):V->Hp->VK->Prop:=λx H Q=>∃ i,x=.int i/\Q (g i) H
section
variable {X:Cx} {a b c:Expr} {ta tb tc:TE} {pos:Pos}
def zUi (ha:PE X a ta) (hb:PE X b tb) {zB:Yd} {s:Yl} {σ:St} {H:Hp} {R:V->V->Hp->Prop} (I:Inv X zB σ H s)
  (h:ta σ H λx H1=>tb σ H1 λy H2=>R x y H2) {Q:Yc} {f:Y2}
  (hf:∀ v u s2 x y H2,Inv X zB σ H2 s2->zw x v->zw y u->R x y H2->wpAny (model X.prog X.w) X.A (f v u) Q X.xe s2) :
  wpAny (model X.prog X.w) X.A (eval a X.env) (λv s₁=>wpAny (model X.prog X.w) X.A (eval b X.env) (λu s₂=>wpAny (model X.prog X.w) X.A (f v u) Q X.xe s₂) X.xe s₁) X.xe s:=by
 refine thn (ha zB s σ H _ I h) λv s1 ⟨x,H1,I1,r1,q1⟩=>?_;refine thn (hb zB s1 σ H1 _ I1 q1) λu s2 ⟨y,H2,I2,r2,q2⟩=>?_;exact hf v u s2 x y H2 I2 r1 r2 q2
def zV4 {op:Operator} {r:R2} (ho:OpR X (binaryOp op) r) (ha:PE X a ta) (hb:PE X b tb):PE X (.BinOp a op b pos) (tOp r ta tb):=by
 intro zB s σ H Q I h;exact wpAny_BinOp (zUi ha hb I h λv u s2 x y H2 I2 rx ry q=>ho zB s2 σ H2 x y v u Q I2 rx ry q)
def zWc {op:UnaryOp} {r:V->Hp->VK->Prop} (ho:UnR X (unaryOp op) r) (ha:PE X a ta):PE X (.UnaryOp op a pos) (tUn r ta):=by
 intro zB s σ H Q I h;exact UnaryOp_ (thn (ha zB s σ H _ I h) λv s1 ⟨x,H1,I1,r1,q1⟩=>ho zB s1 σ H1 x v Q I1 r1 q1)
def opI {f:Y2} {C:Int->Int->Prop} {g:Int->Int->Int}
  (rule:∀ (i j:Int) (t u:Tok) (s:Yl) (Q:Yc) (E:Yc),C i j->Q (.int (g i j) s.toks) { s with toks:=s.toks+1 }->wpAny (model X.prog X.w) X.A (f (.int i t) (.int j u)) Q E s) :
  OpR X f (rI C λi j=> .int (g i j)):=by
 intro zB s σ H x y v u Q I rx ry h;obtain ⟨i,j,rfl,rfl,hc,q⟩:=h;obtain ⟨t,rfl⟩:=rx;obtain ⟨t',rfl⟩:=ry;exact rule i j t t' s _ _ hc ⟨.int (g i j),H,I.tok _,⟨_,rfl⟩,q⟩
def zV9 {f:Y2} {g:Int->Int->Int}
  (rule:∀ (i j:Int) (t u:Tok) (s:Yl) (Q:Yc) (E:Yc),Q (.int (g i j) s.toks) { s with toks:=s.toks+1 }->wpAny (model X.prog X.w) X.A (f (.int i t) (.int j u)) Q E s) :
  OpR X f (rI0 λi j=> .int (g i j)):=by
 intro zB s σ H x y v u Q I rx ry h;obtain ⟨i,j,rfl,rfl,q⟩:=h;obtain ⟨t,rfl⟩:=rx;obtain ⟨t',rfl⟩:=ry;exact rule i j t t' s _ _ ⟨.int (g i j),H,I.tok _,⟨_,rfl⟩,q⟩
def zTU {f:Y2} {g:Int->Int->Bool}
  (rule:∀ (i j:Int) (t u:Tok) (s:Yl) (Q:Yc) (E:Yc),Q (.bool (g i j)) s->wpAny (model X.prog X.w) X.A (f (.int i t) (.int j u)) Q E s) :
  OpR X f (rI0 λi j=> .bl (g i j)):=by
 intro zB s σ H x y v u Q I rx ry h;obtain ⟨i,j,rfl,rfl,q⟩:=h;obtain ⟨t,rfl⟩:=rx;obtain ⟨t',rfl⟩:=ry;exact rule i j t t' s _ _ ⟨.bl (g i j),H,I,rfl,q⟩
def zWl (i j:Int):Prop:=0<j/\j<1073741824
def zW4 (i j:Int):Prop:=0<=j/\j<=1000000/\i.natAbs<2 ^ 64
def zTu (i j:Int):Prop:=(-(2 ^ 64)<i/\i<2 ^ 64)\/(-(2 ^ 64)<j/\j<2 ^ 64)
def zTu.ok {i j:Int} (h:zTu i j):IntMulOk i j:=by
 rcases h with ⟨h1,h2⟩|⟨h1,h2⟩
 .exact .of_left (intBits_le_64 h1 h2)
 .exact .of_right (intBits_le_64 h1 h2)
def zU5:OpR X (binaryOp .Add) (rI0 λi j=> .int (i+j)):=zV9 λ_ _ _ _ _ _ _ q=>add_int q
def zT6:OpR X (binaryOp .Sub) (rI0 λi j=> .int (i-j)):=zV9 λ_ _ _ _ _ _ _ q=>sub_int q
def zT8:OpR X (binaryOp .Mult) (rI zTu λi j=> .int (i*j)):=opI λ_ _ _ _ _ _ _ hc q=>mul_int q hc.ok
def zTM:OpR X (binaryOp .FloorDiv) (rI zWl λi j=> .int (i / j)):=opI λi j _ _ _ _ _ hc q=>by
 have h1:(0:Int)<j:=hc.1;have h2:j<1073741824:=hc.2;exact floordiv_int (by omega) (by rw[Int.fdiv_eq_ediv_of_nonneg i (by omega)];exact q) (.inl (PyProof.noPylong_small (by omega)))
def zU8:OpR X (binaryOp .Mod) (rI (λ_ j=>0<j) λi j=> .int (i % j)):=opI λi j _ _ _ _ _ hc q=>by
 have h1:(0:Int)<j:=hc;exact mod_int' (by omega) (by rw[Int.fmod_eq_emod_of_nonneg i (by omega)];exact q)
def zUZ:OpR X (binaryOp .Pow) (rI zW4 λi j=> .int (i ^ j.toNat)):=opI λ_ _ _ _ _ _ _ hc q=>pow_int_small hc.1 hc.2.1 hc.2.2 q
def unI {f:Value->Sem Value} {g:Int->Int}
  (rule:∀ (i:Int) (t:Tok) (s:Yl) (Q:Yc) (E:Yc),Q (.int (g i) s.toks) { s with toks:=s.toks+1 }->wpAny (model X.prog X.w) X.A (f (.int i t)) Q E s) :
  UnR X f (rU λi=> .int (g i)):=by
 intro zB s σ H x v Q I rx h;obtain ⟨i,rfl,q⟩:=h;obtain ⟨t,rfl⟩:=rx;exact rule i t s _ _ ⟨.int (g i),H,I.tok _,⟨_,rfl⟩,q⟩
def zUu:UnR X (unaryOp .USub) (rU λi=> .int (-i)):=unI λ_ _ _ _ _ q=>neg_int q
end
noncomputable def zSB:V->V->Bool
 |.non,.non=>true|.non,.int _=>true|.int _,.non=>true|.non,.bl _=>true|.bl _,.non=>true|.non,.str _=>true|.str _,.non=>true
 |.int _,.int _=>true|.bl _,.bl _=>true|.str _,.str _=>true|.byt _,.byt _=>true
 |.int _,.str _=>true|.str _,.int _=>true|.bl _,.str _=>true|.str _,.bl _=>true
 |_,_=>false
def rEq:R2:=λx y H Q=>zSB x y=true/\Q (.bl (decide (x=y))) H
def rNe:R2:=λx y H Q=>zSB x y=true/\Q (.bl (!decide (x=y))) H
def zNs {i j:Int}:decide (V.int i=V.int j)=(i==j):=by
 rw[Bool.eq_iff_iff];simp
def zRq {i j:Bool}:decide (V.bl i=V.bl j)=(i==j):=by
 rw[Bool.eq_iff_iff];simp
def zNY {i j:Str}:decide (V.str i=V.str j)=(i==j):=by
 rw[Bool.eq_iff_iff];simp
def zNi {i j:Array UInt8}:decide (V.byt i=V.byt j)=(i.toList==j.toList):=by
 rw[Bool.eq_iff_iff];cases i;cases j;simp
section
variable {X:Cx} {a b c:Expr} {ta tb tc:TE} {pos:Pos}
def zAD {zB:Yd} {σ:St} {H:Hp} {s:Yl} {Q:VK} {k k':Bool} (I:Inv X zB σ H s) (q:Q (.bl k) H) (e:k=k'):EP X zB σ Q (.bool k') s:=by
 subst e;exact ⟨.bl k,H,I,rfl,q⟩
def zTe:OpR X (compareOp .Eq) rEq:=by
 intro zB s σ H x y v u Q I rx ry h;obtain ⟨hs,q⟩:=h;cases x with
 |non=>
  cases rx;cases y with
  |non=>cases ry;exact PySem.EqNone.eq_none_none (zAD I q (by simp))
  |bl j=>cases ry;exact PySem.EqNone.eq_none_bool (zAD I q (by simp))
  |int j=>obtain ⟨t',rfl⟩:=ry;exact PySem.EqNone.eq_none_int (zAD I q (by simp))
  |str j=>obtain ⟨t',rfl⟩:=ry;exact PySem.EqNone.eq_none_str (zAD I q (by simp))
  |_=>exact absurd (show false=true from hs) zXZ
 |bl i=>
  cases rx;cases y with
  |non=>cases ry;exact PySem.EqNone.eq_bool_none (zAD I q (by simp))
  |bl j=>cases ry;exact eq_bool (zAD I q zRq)
  |str j=>obtain ⟨t',rfl⟩:=ry;exact PySem.EqMixed.eq_bool_str (zAD I q (by simp))
  |_=>exact absurd (show false=true from hs) zXZ
 |int i=>
  obtain ⟨t,rfl⟩:=rx;cases y with
  |non=>cases ry;exact PySem.EqNone.eq_int_none (zAD I q (by simp))
  |int j=>obtain ⟨t',rfl⟩:=ry;exact eq_int (zAD I q zNs)
  |str j=>obtain ⟨t',rfl⟩:=ry;exact PySem.EqMixed.eq_int_str (zAD I q (by simp))
  |_=>exact absurd (show false=true from hs) zXZ
 |str i=>
  obtain ⟨t,rfl⟩:=rx;cases y with
  |non=>cases ry;exact PySem.EqNone.eq_str_none (zAD I q (by simp))
  |bl j=>cases ry;exact PySem.EqMixed.eq_str_bool (zAD I q (by simp))
  |int j=>obtain ⟨t',rfl⟩:=ry;exact PySem.EqMixed.eq_str_int (zAD I q (by simp))
  |str j=>obtain ⟨t',rfl⟩:=ry;exact eq_str (zAD I q zNY)
  |_=>exact absurd (show false=true from hs) zXZ
 |byt i=>
  obtain ⟨t,rfl⟩:=rx;cases y with
  |byt j=>obtain ⟨t',rfl⟩:=ry;exact PySem.W.eq_bytes (zAD I q zNi)
  |_=>exact absurd (show false=true from hs) zXZ
 |_=>cases y <;> exact absurd (show false=true from hs) zXZ
def zWD:OpR X (compareOp .NotEq) rNe:=by
 intro zB s σ H x y v u Q I rx ry h;obtain ⟨hs,q⟩:=h;cases x with
 |non=>
  cases rx;cases y with
  |non=>cases ry;exact PySem.EqNone.ne_none_none (zAD I q (by simp))
  |bl j=>cases ry;exact PySem.EqNone.ne_none_bool (zAD I q (by simp))
  |int j=>obtain ⟨t',rfl⟩:=ry;exact PySem.EqNone.ne_none_int (zAD I q (by simp))
  |str j=>obtain ⟨t',rfl⟩:=ry;exact PySem.EqNone.ne_none_str (zAD I q (by simp))
  |_=>exact absurd (show false=true from hs) zXZ
 |bl i=>
  cases rx;cases y with
  |non=>cases ry;exact PySem.EqNone.ne_bool_none (zAD I q (by simp))
  |bl j=>cases ry;exact ne_bool (zAD I q (zY0 not zRq))
  |str j=>obtain ⟨t',rfl⟩:=ry;exact PySem.EqMixed.ne_bool_str (zAD I q (by simp))
  |_=>exact absurd (show false=true from hs) zXZ
 |int i=>
  obtain ⟨t,rfl⟩:=rx;cases y with
  |non=>cases ry;exact PySem.EqNone.ne_int_none (zAD I q (by simp))
  |int j=>obtain ⟨t',rfl⟩:=ry;exact ne_int (zAD I q (zY0 not zNs))
  |str j=>obtain ⟨t',rfl⟩:=ry;exact PySem.EqMixed.ne_int_str (zAD I q (by simp))
  |_=>exact absurd (show false=true from hs) zXZ
 |str i=>
  obtain ⟨t,rfl⟩:=rx;cases y with
  |non=>cases ry;exact PySem.EqNone.ne_str_none (zAD I q (by simp))
  |bl j=>cases ry;exact PySem.EqMixed.ne_str_bool (zAD I q (by simp))
  |int j=>obtain ⟨t',rfl⟩:=ry;exact PySem.EqMixed.ne_str_int (zAD I q (by simp))
  |str j=>obtain ⟨t',rfl⟩:=ry;exact ne_str (zAD I q (zY0 not zNY))
  |_=>exact absurd (show false=true from hs) zXZ
 |byt i=>
  obtain ⟨t,rfl⟩:=rx;cases y with
  |byt j=>obtain ⟨t',rfl⟩:=ry;exact PySem.W.ne_bytes (zAD I q (zY0 not zNi))
  |_=>exact absurd (show false=true from hs) zXZ
 |_=>cases y <;> exact absurd (show false=true from hs) zXZ
def zWM:OpR X (compareOp .Lt) (rI0 λi j=> .bl (decide (i<j))):=zTU λ_ _ _ _ _ _ _ q=>lt_int q
def zWW:OpR X (compareOp .LtE) (rI0 λi j=> .bl (decide (i<=j))):=zTU λ_ _ _ _ _ _ _ q=>le_int q
def zWd:OpR X (compareOp .Gt) (rI0 λi j=> .bl (decide (j<i))):=zTU λ_ _ _ _ _ _ _ q=>gt_int q
def zVs:OpR X (compareOp .GtE) (rI0 λi j=> .bl (decide (j<=i))):=zTU λ_ _ _ _ _ _ _ q=>ge_int q
def OpR.or {f:Y2} {r r':R2} (h:OpR X f r) (h':OpR X f r'):OpR X f (λx y H Q=>r x y H Q\/r' x y H Q):=by
 intro zB s σ H x y v u Q I rx ry q;rcases q with q|q
 .exact h zB s σ H x y v u Q I rx ry q
 .exact h' zB s σ H x y v u Q I rx ry q
noncomputable def zFC (b:Expr) {op:CmpOp} (h:op≠.In:=by decide) (h2:op≠.NotIn:=by decide):behindInMarks op b=false:=by
 have e1:(op==CmpOp.In)=false:=by cases op <;> first|rfl|exact absurd rfl h
 have e2:(op==CmpOp.NotIn)=false:=by cases op <;> first|rfl|exact absurd rfl h2
 cases b <;> simp[behindInMarks,e1,e2]
def zSw {op:CmpOp} {r:R2} (ho:OpR X (compareOp op) r) (ha:PE X a ta) (hb:PE X b tb) (hm:behindInMarks op b=false):PE X (.Compare a [op] [b] pos) (tOp r ta tb):=by
 intro zB s σ H Q I h;exact wpAny_Compare1 (zUi ha hb I h λv u s2 x y H2 I2 rx ry q=>ho zB s2 σ H2 x y v u Q I2 rx ry q) hm
def zNZ (t:TE):TT:=λσ H Q=>t σ H λx H'=>∃ k,x=.bl k/\Q k H'
def zTV {op:CmpOp} {r:R2} (ho:OpR X (compareOp op) r) (ha:PE X a ta) (hb:PE X b tb) (hm:behindInMarks op b=false):PT X (.Compare a [op] [b] pos) (zNZ (tOp r ta tb)):=by
 intro zB s σ H Q I h;refine wpAny_isTrue_Compare1 (thn (ha zB s σ H _ I h) λv s1 ⟨x,H1,I1,r1,q1⟩=>thn (hb zB s1 σ H1 _ I1 q1) λu s2 ⟨y,H2,I2,r2,q2⟩=>
  thn (ho zB s2 σ H2 x y v u _ I2 r1 r2 q2) λc s3 ⟨z,H3,I3,r3,k,e,q3⟩=>?_) hm
 subst e;cases r3;exact wpAny_truthy_bool ⟨H3,I3,q3⟩
def zWB (K:Yb) (x:V) (H:Hp) (k:Bool):Prop :=
 match x with
 |.non=>k=false
 |.bl b=>k=b
 |.int i=>k=(i != 0)
 |.str y=>y.length<=sizeLine/\k=((y.length:Int) != 0)
 |.byt y=>y.size<=sizeLine/\k=((y.size:Int) != 0)
 |.ref p=>(∃ xs,SqL K H p xs/\k = !xs.isEmpty)\/(∃ xs,SqT K H p xs/\k = !xs.isEmpty) \/ ∃ kvs,H p=some (.dK kvs)/\k = !kvs.isEmpty
 |_=>False
def zNG {κ:Type} {kvs:List (κ × V)} {vs:List (κ × Value)} (r:KV kvs vs):(!vs.isEmpty) = !kvs.isEmpty:=by
 cases r <;> rfl
def zH3 {xs:List V} {its:Yf} (r:zg xs its):(!its.toArray.isEmpty) = !xs.isEmpty:=by
 cases r <;> simp
def zFL:(sizeLine:Nat)<2 ^ 63:=by rw[sizeLine_eq];decide
def zVP:zWn X (λx H Q=>∃ k,zWB X.K x H k/\Q k H):=by
 intro zB s σ H x v Q I rx h;obtain ⟨k,e,q⟩:=h;have hl:=zFL;have hs:sizeLine=16777216:=sizeLine_eq;cases x with
 |non=>
  cases rx;have e':k=false:=e;subst e';exact truthy_none ⟨H,I,q⟩
 |bl b=>
  cases rx;have e':k=b:=e;subst e';exact wpAny_truthy_bool ⟨H,I,q⟩
 |int i=>
  obtain ⟨t,rfl⟩:=rx;have e':k=(i != 0):=e;subst e';exact PySem.P.truthy_int ⟨H,I,q⟩
 |str y=>
  obtain ⟨t,rfl⟩:=rx;obtain ⟨hy,e'⟩:y.length<=sizeLine/\k=((y.length:Int) != 0):=e;subst e';exact PySem.P.truthy_str (by omega) ⟨H,I.tok _,q⟩
 |byt y=>
  obtain ⟨t,rfl⟩:=rx;obtain ⟨hy,e'⟩:y.size<=sizeLine/\k=((y.size:Int) != 0):=e;subst e';exact PySem.W.truthy_bytes (by omega) ⟨H,I.tok _,q⟩
 |ref p=>
  cases rx;have e':(∃ xs,SqL X.K H p xs/\k = !xs.isEmpty)\/(∃ xs,SqT X.K H p xs/\k = !xs.isEmpty) \/ ∃ kvs,H p=some (.dK kvs)/\k = !kvs.isEmpty:=e;rcases e' with ⟨xs,hx,e'⟩|⟨xs,hx,e'⟩|⟨kvs,hx,e'⟩
  .subst e';obtain ⟨its,r,pl,hz⟩:=I.list hx;have hlen:=r.length;exact wpAny_truthy_list pl.isList (by simp only[zXL];omega) ⟨H,I.tok _,by rw[zH3 r];exact q⟩
  .subst e';obtain ⟨its,r,pl,hz⟩:=I.tuple hx;have hlen:=r.length;exact truthy_tuple pl (by simp only[zXL];omega) ⟨H,I.tok _,by rw[zH3 r];exact q⟩
  .subst e';obtain ⟨hz,hS,vs,r,m⟩:kvs.length<=sizeLine/\(p==sysModules)=false /\ ∃ vs,KV kvs vs/\s.heap.DictOf (zAO X.prog X.w) p vs:=I.hok p _ hx;have hlen:kvs.length=vs.length:=Paired.length r;exact wpAny_truthy_dict hS m (by omega) ⟨H,I.tok _,by rw[zNG r];exact q⟩
 |_=>exact (show False from e).elim
def zRS (ha:PE X a ta) (he:∀ whole,isTrue a X.env whole=(do let v <- whole;standAt a.pos;holding [v] (truthy v))) :
  PT X a (λσ H Q=>ta σ H λx H'=>∃ k,zWB X.K x H' k/\Q k H'):=by
 intro zB s σ H Q I h;exact isTrue_plain (thn (ha zB s σ H _ I h) λv s1 ⟨x,H1,I1,r1,q1⟩=>zVP zB s1 σ H1 x v Q I1 r1 q1) (he _)
def zEy {x:V} {us:Yf} (r:zg [x] us):∃ u,us=[u]/\zw x u:=by
 cases r with
 |cons r1 r2=>cases r2;exact ⟨_,rfl,r1⟩
def zRI {x y:V} {us:Yf} (r:zg [x,y] us):∃ u w',us=[u,w']/\zw x u/\zw y w':=by
 cases r with
 |cons r1 r2=>
  cases r2 with
  |cons r3 r4=>cases r4;exact ⟨_,_,rfl,r1,r3⟩
def zOs (hc:X.calm=true):zCI X (.builtin "max") (λxs H Q=>∃ i j,xs=[.int i,.int j]/\Q (.int (if j>i then j else i)) H):=by
 intro zB s σ H xs us Q I r h;obtain ⟨i,j,rfl,q⟩:=h;obtain ⟨u,w',rfl,⟨t,rfl⟩,⟨t',rfl⟩⟩:=zRI r;refine max_two_ints (I.ok.hd hc) λh' tk k=>⟨_,H,I.kept k,?_,q⟩;by_cases hj:j>i
 .rw[zXS hj,zXS hj];exact ⟨_,rfl⟩
 .rw[zXV hj,zXV hj];exact ⟨_,rfl⟩
def zON (hc:X.calm=true):zCI X (.builtin "min") (λxs H Q=>∃ i j,xs=[.int i,.int j]/\Q (.int (if j<i then j else i)) H):=by
 intro zB s σ H xs us Q I r h;obtain ⟨i,j,rfl,q⟩:=h;obtain ⟨u,w',rfl,⟨t,rfl⟩,⟨t',rfl⟩⟩:=zRI r;refine min_two_ints (I.ok.hd hc) λh' tk k=>⟨_,H,I.kept k,?_,q⟩;by_cases hj:j<i
 .rw[zXS hj,zXS hj];exact ⟨_,rfl⟩
 .rw[zXV hj,zXV hj];exact ⟨_,rfl⟩
end
structure ObjM (h:Heap) (x dx C:Yt) (mA:Yh):Prop where
 obj:h.get? x=some (PySem.W.instObj C dx)
 ns:h.Ns1 dx mA
 ne:dx≠x
def zOJ {h:Heap} {dx:Yt} {mA:Yh} (n:h.Ns1 dx mA):∃ od,h.get? dx=some od /\ ∀ name,PySem.W.lookIn name od=some (mA name):=by
 obtain ⟨o,es,ep,ho,hd,hk,_,hm⟩:=n;refine ⟨o,ho,λname=>?_⟩;have e:=hm name;unfold nsFind findBy at e;rw[<-Array.find?_toList]at e;unfold PySem.W.lookIn;rw[hd];dsimp only;split
 .rename_i y q;rw[q]at e;exact zY0 some e
 .rename_i q;rw[q]at e;have a:es.toList.any (·.refKey)=false:=by
   rw[List.any_eq_false];intro y hy;obtain ⟨z,t,hkey⟩:=hk y (Array.mem_toList_iff.mp hy);simp[DictEntry.refKey,hkey]
  have a':¬ es.toList.any (·.refKey)=true:=by rw[a];exact zXZ
  rw[zXV a'];exact zY0 some e
def ObjM.look {h:Heap} {x dx C:Yt} {mA:Yh} (I:ObjM h x dx C mA):∃ od,PySem.W.InstAt h x (PySem.W.instObj C dx) C (some od) /\ ∀ name,PySem.W.lookIn name od=some (mA name) :=
 let ⟨od,ho,hl⟩:=zOJ I.ns
 ⟨od,⟨I.obj,rfl,rfl,ho⟩,hl⟩
def zF6.some_of {v:V} {o:Option Value} (r:zF6 (some v) o):∃ u,o=some u/\zw v u:=by
 cases o with
 |none=>exact (show False from r).elim
 |some u=>exact ⟨u,rfl,r⟩
section
variable {P:Ym} {w:Yo} {H H':Hp} {h h':Heap} {a C dx:Yt} {fs fs':List (Str × V)}
def zSz (hok:HOk P w H h) (e:H a=some (.ins C dx fs)):∃ mA,ObjM h a dx C mA/\(∀ f,zF6 (fs.lookup f) (mA f))/\PySem.Within mA (fs.map (·.1))/\fs.length<=1000/\H dx=some (.own a):=by
 obtain ⟨d,z,ne,ob,mA,n,r,q⟩:=(show zAV P w H h a (.ins C dx fs)from hok a _ e);exact ⟨mA,⟨ob,n,ne⟩,r,q,z,d⟩
end
structure Cls (K:Yb) (C:Yt):Prop where
 pg:PySem.W.plainGet K C Str.empty=true
 hd:PySem.W.hasDictIn K C=true
 po:PySem.W.plainOver K C=true
 sa:PySem.W.findIn K (.ref C) "__setattr__" = some (some (.builtin "object.__setattr__"))
def Cls.get {K:Yb} {C:Yt} (c:Cls K C) (f:Str):PySem.W.plainGet K C f=true:=c.pg
section
variable {X:Cx} {zB:Yd} {σ:St} {H:Hp} {s:Yl} {A:Yn} {E:Yc} {Q:Yc} {c:Yu} {b:Bool}
set_option genInjectivity true in
inductive TyOf (K:Yb) (H:Hp):V->Value->Prop where
 |non:TyOf K H .non (.type "NoneType")
 |bl (x:Bool):TyOf K H (.bl x) (.type "bool")
 |int (i:Int):TyOf K H (.int i) (.type "int")
 |str (x:Str):TyOf K H (.str x) (.type "str")
 |flt (x:UInt64):TyOf K H (.flt x) (.type "float")
 |lst {a:Addr} {xs:List V} (e:H a=some (.lst xs)):TyOf K H (.ref a) (.type "list")
 |frz {a:Addr} {o:Obj} {xs:List V} (e:H a=some (.frz o (.lst xs))):TyOf K H (.ref a) (.type "list")
 |tup {a:Addr} {xs:List V} (e:H a=some (.tup xs)):TyOf K H (.ref a) (.type "tuple")
 |dK {a:Addr} {kvs:List (Key × V)} (e:H a=some (.dK kvs)):TyOf K H (.ref a) (.type "dict")
 |dT {a:Addr} {kvs:List (List Key × V)} (e:H a=some (.dT kvs)):TyOf K H (.ref a) (.type "dict")
 |ins {a C dx:Addr} {fs:List (Str × V)} (e:H a=some (.ins C dx fs)) (cl:Cls K C) (ha:PySem.W.findIn K (.ref C) "__class__" = some (some (.builtin "object.__class__")))
   (hn:PySem.W.specialIn K (.builtin "object.__class__") "__get__" = some (some (.builtin "getset_descriptor.__get__"))) (htk:PySem.W.takesIn K (.builtin "object.__class__")=some true)
   (hm:PySem.W.mroIn K C (.type "object")=some true):TyOf K H (.ref a) (.ref C)
def zPY {x:V} {u t:Yu} (I:Inv X zB σ H s) (rx:zw x u) (ty:TyOf X.K H x t) (e:PySem.W.kitOne X.K t c=some b) (h:∀ tk,Q (.bool b) { s with toks:=tk }) :
  wpAny (model X.prog X.w) A (call (.builtin "isinstance") [u,c]) Q E s:=by
 cases ty with
 |non=>cases (show u=Value.none from rx);exact zYq PySem.W.kitx_none I.kIn True.intro e (λz=>nomatch z) h
 |bl y=>cases (show u=Value.bool y from rx);exact zYq PySem.W.kitx_bool I.kIn True.intro e (λz=>nomatch z) h
 |int i=>obtain ⟨t,q⟩:=(show ∃ t,u=Value.int i t from rx);cases q;exact zYq PySem.W.kitx_int I.kIn True.intro e (λz=>nomatch z) h
 |str y=>obtain ⟨t,q⟩:=(show ∃ t,u=Value.str y t from rx);cases q;exact zYq PySem.W.kitx_str I.kIn True.intro e (λz=>nomatch z) h
 |flt y=>obtain ⟨t,q⟩:=(show ∃ t,u=Value.float y t from rx);cases q;exact zYq PySem.W.kitx_float I.kIn True.intro e (λz=>nomatch z) h
 | @lst a xs ea=>
  cases (show u=Value.ref a from rx);obtain ⟨_,_,n,_,h1⟩:=(show zAV X.prog X.w H s.heap a (.lst xs)from I.hok a _ ea);exact zYq PySem.W.kitx_list I.kIn ⟨_,h1,rfl⟩ e (λz=>nomatch z) h
 | @frz a ob xs ea=>
  cases (show u=Value.ref a from rx);obtain ⟨_,_,_,n,_,h1⟩:=(show zAV X.prog X.w H s.heap a (.frz ob (.lst xs))from I.hok a _ ea);exact zYq PySem.W.kitx_list I.kIn ⟨_,h1,rfl⟩ e (λz=>nomatch z) h
 | @tup a xs ea=>
  cases (show u=Value.ref a from rx);obtain ⟨_,_,_,p⟩:=(show zAV X.prog X.w H s.heap a (.tup xs)from I.hok a _ ea);obtain ⟨o,h1,h2,_⟩:=p;exact zYq PySem.W.kitx_tuple I.kIn ⟨o,h1,h2⟩ e (λz=>nomatch z) h
 | @dK a kvs ea=>
  cases (show u=Value.ref a from rx);obtain ⟨_,_,vs,_,p⟩:=(show zAV X.prog X.w H s.heap a (.dK kvs)from I.hok a _ ea);obtain ⟨o,es,ep,h1,h2,_⟩:=p;exact zYq PySem.W.kitx_dict I.kIn ⟨o,h1,h2.1⟩ e (λz=>nomatch z) h
 | @dT a kvs ea=>
  cases (show u=Value.ref a from rx);obtain ⟨_,_,xs,_,o,es,ep,h1,h2,_⟩:=(show zAV X.prog X.w H s.heap a (.dT kvs)from I.hok a _ ea);exact zYq PySem.W.kitx_dict I.kIn ⟨o,h1,h2.1⟩ e (λz=>nomatch z) h
 | @ins a C dx fs ea cl ha hn htk hm=>
  cases (show u=Value.ref a from rx);obtain ⟨mA,O,_⟩:=zSz I.hok ea;obtain ⟨od,J,_⟩:=O.look;exact zYq (PySem.W.kitx_own (cl.get _) cl.hd ha hn htk hm) I.kIn J e (λz=>nomatch z) h
end
structure Room (k:Nat) (A:Yn):Prop where
 hd:A.handled=none
 dp:A.depth+3*k+5<recursionLimit
 un:A.units+16*k+200<cLine
def Room.mono {j k:Nat} {A:Yn} (r:Room k A) (h:j<=k):Room j A:=⟨r.hd,by have:=r.dp;omega,by have:=r.un;omega⟩
def Room.deeper {k:Nat} {A:Yn} (r:Room (k+1) A) (env:Env):Room k (A.deeper env) :=
 ⟨r.hd,by have:=r.dp;show A.depth+1+3*k+5<_;omega,by have:=r.un;show A.units+3+16*k+200<_;omega⟩
def Room.depth {k:Nat} {A:Yn} (r:Room k A):A.depth<recursionLimit:=by have:=r.dp;omega
def Room.units {k:Nat} {A:Yn} (r:Room k A):A.units+64<cLine:=by have:=r.un;omega
def Room.units0 {k:Nat} {A:Yn} (r:Room k A):A.units<cLine:=by have:=r.un;omega
def zWk:TA:=λ_ H Q=>Q [] H
def zWG (ta:TE) (tr:TA):TA:=λσ H Q=>ta σ H λx H1=>tr σ H1 λxs H2=>Q (x::xs) H2
section
variable {X:Cx} {e:Expr} {es:Yi} {te:TE} {t:TA} {pos:Pos}
def zFG:PA X [] zWk:=λ_ _ _ _ H Q I h=>Calls.spliced_nil ⟨[],H,I,.nil,h⟩
noncomputable def zCw (ha:PE X e te) (hr:PA X es t) (hs:starEach (e::es) X.env=(false,eval e X.env)::starEach es X.env:=by rfl):PA X (e::es) (zWG te t):=by
 intro pos zB s σ H Q I h;rw[hs];show wpAny _ _ (spliced ((false,eval e X.env)::backTo pos (starEach es X.env))) _ _ s;refine Calls.spliced_cons (thn (ha zB s σ H _ I h) λu s1 ⟨x,H1,I1,r1,q1⟩=>?_);exact thn (hr pos zB s1 σ H1 _ I1 q1) λus s2 ⟨xs,H2,I2,r2,q2⟩=>⟨x::xs,H2,I2,.cons r1 r2,q2⟩
def zWt (t:TA):TE:=λσ H Q=>t σ H λxs H1=>xs.length<=sizeLine /\ ∀ p,H1 p=none->Q (.ref p) (upd H1 p (.tup xs))
def zW2 (t:TA):TE:=λσ H Q=>t σ H λxs H1=>xs.length<=sizeLine /\ ∀ p,H1 p=none->Q (.ref p) (upd H1 p (.lst xs))
def zUt {x1} (h:PA X es t):PE X (.Tuple es x1 pos) (zWt t):=by
 intro zB s σ H Q I hq;refine wpAny_Tuple_spliced (thn (h pos zB s σ H _ I hq) λus s1 ⟨xs,H1,I1,r,z,q⟩=>⟨by rw[<-r.length];exact z,?_⟩);have hf:H1 s1.heap.objs.size=none:=I1.hok.fresh (zXJ _);refine ⟨.ref s1.heap.objs.size,upd H1 s1.heap.objs.size (.tup xs),I1.laid (t':=s1.toks) (λb u e=>zXE _ e) (zXJ _) ?_,rfl,q _ hf⟩;exact ⟨z,us,r,⟨_,zXN _ rfl,rfl,⟨_,rfl⟩,rfl⟩⟩
def zUI (h:PA X es t):PE X (.List es pos) (zW2 t):=by
 intro zB s σ H Q I hq;refine wpAny_List_spliced (thn (h pos zB s σ H _ I hq) λus s1 ⟨xs,H1,I1,r,z,q⟩=>⟨by rw[<-r.length];exact z,?_⟩);have hf:H1 s1.heap.objs.size=none:=I1.hok.fresh (zXJ _);refine ⟨.ref s1.heap.objs.size,upd H1 s1.heap.objs.size (.lst xs),I1.laid (t':=s1.toks) (λb u e=>zXE _ e) (zXJ _) ?_,rfl,q _ hf⟩;exact ⟨z,us,0,r,zXN _ rfl⟩
end
abbrev Sp:=List V->Hp->VK->XK->Prop
abbrev CXT:=List Env->Hp->Shared->XK->Value->Shared->Prop
structure Env0 (P:Ym) (w:Yo) (K:Yb) (mg:Yh) (base:Heap) (A:Yn) (outer:List Env) (s:Yl) (H:Hp):Prop where
 frames:A.frames=some outer
 mod:Mod K mg base
 bs:∀ b o,base.get? b=some o->s.heap.get? b=some o/\H b=none
 bsz:base.objs.size<=s.heap.objs.size
 funs:s.heap.FunFrames base outer
 frf:∀ b∈frs outer,H b=none
 hok:HOk P w H s.heap
 bare:AllBare s.gens
def CE (outer:List Env) (P:Ym) (w:Yo) (H:Hp) (s:Yl) (Q:VK) (u:Yu) (s':Yl):Prop :=
 ∃ v H',s'.os=s.os/\AllBare s'.gens/\Un (frs outer) [] H H' s.heap s'.heap/\HOk P w H' s'.heap/\zw v u/\Q v H'
def CR (CX:CXT) (outer:List Env) (P:Ym) (w:Yo) (H:Hp) (s:Yl) (Q:VK) (E:XK) (r:Result) (s':Yl):Prop :=
 match r with
 |.ok (.ret u)=>CE outer P w H s Q u s'
 |.ok _=>False
 |.error e=>CX outer H s E e s'
structure FnOk (P:Ym) (w:Yo) (K:Yb) (mg:Yh) (base:Heap) (CX:CXT) (k:Nat) (f:Yt) (fd:Yz) (ps:Yk) (sp:Sp):Prop where
 len:∀ vs H Q E,sp vs H Q E->vs.length=ps.length
 run:∀ (A:Yn) (outer:List Env) (s:Yl) (H:Hp) (args:Args) (us:Yf) (vs:List V) (Q:VK) (E:XK),Room k A->Env0 P w K mg base A outer s H->BindsTo s fd args (ps.zip us)->zg vs us->sp vs H Q E ->
  codeAny (model P w) A (.call (.ref f) args) (CR CX outer P w H s Q E) s
def FnOk.imp {P:Ym} {w:Yo} {K:Yb} {mg:Yh} {base:Heap} {CX:CXT} {k:Nat} {f:Yt} {fd:Yz} {ps:Yk} {sp sp':Sp} (F:FnOk P w K mg base CX k f fd ps sp)
  (h:∀ vs H Q E,sp' vs H Q E->sp vs H Q E):FnOk P w K mg base CX k f fd ps sp' :=
 ⟨λvs H Q E q=>F.len vs H Q E (h _ _ _ _ q),λA outer s H args us vs Q E hr he hb hv hs=>F.run A outer s H args us vs Q E hr he hb hv (h _ _ _ _ hs)⟩
section
variable {X:Cx} {zB:Yd} {σ:St} {H:Hp} {s s':Yl}
def Inv.env0 (I:Inv X zB σ H s):Env0 X.prog X.w X.K X.mg X.base X.A X.stack s H :=
 ⟨I.ok.frames,I.ok.mod,I.bs,zXe I.ok.bsz I.sz,I.stack,I.stkFree,I.hok,I.bare⟩
def Inv.after {Q:VK} {u:Yu} (I:Inv X zB σ H s) (h:CE X.stack X.prog X.w H s Q u s'):EP X zB σ Q u s':=by
 obtain ⟨v,H',os,bare,un,hok,r,q⟩:=h;obtain ⟨hh,g,d,t,os'⟩:=s';obtain rfl:os'=s.os:=os;exact ⟨v,H',I.call (h':=hh) (g':=g) (d':=d) (t':=t) (ch:=[]) un hok bare (λb z=>absurd z (by simp)),r,q⟩
end
def zV7 (sp:Sp) (dvs:List V) (E:XK) (t:TA):TE:=λσ H Q=>t σ H λvs H1=>sp (vs++dvs) H1 Q E
def zHY (K:Yb) (fd:Yz) (ps:Yk) (ds:Yf):Prop :=
 ∀ (s:Yl) (us:Yf),K.In s.heap->(us++ds).length=ps.length->BindsTo s fd ⟨us,[]⟩ (ps.zip (us++ds))
def zHY.all {K:Yb} {fd:Yz} {ps:Yk} (h:∀ us:List Value,us.length=ps.length->bindArgs fd ⟨us,[]⟩=pure (ps.zip us)):zHY K fd ps []:=λs us _ hl=>by
 rw[zXx]at hl ⊢;exact .of_eq (h us hl)
def zM9 (CX:CXT) (X:Cx) (E:XK):Prop:=∀ (zB:Yd) (σ:St) (H:Hp) (s:Yl) (e:Yu) (s':Yl),Inv X zB σ H s->CX X.stack H s E e s'->X.xe e s'
section
variable {X:Cx} {CX:CXT} {k:Nat} {f C:Yt} {fd:Yz} {ps:Yk} {sp:Sp} {dvs:List V} {ds:Yf} {E:XK} {x m:Str} {p pos apos:Pos} {e o:Expr} {es:Yi} {ta:TE} {t:TA}
def zUG {zB:Yd} {σ:St} {H:Hp} {s:Yl} {Q:VK} {us:Yf} {vs:List V} (F:FnOk X.prog X.w X.K X.mg X.base CX k f fd ps sp) (hr:Room k X.A) (hb:zHY X.K fd ps ds) (hd:zg dvs ds) (hx:zM9 CX X E)
  (I:Inv X zB σ H s) (r:zg vs us) (h:sp (vs++dvs) H Q E):wpAny (model X.prog X.w) X.A (call (.ref f) us) (EP X zB σ Q) X.xe s:=by
 have r2:zg (vs++dvs) (us++ds):=r.append hd;have hl:(us++ds).length=ps.length:=by rw[<-r2.length];exact F.len _ _ _ _ h
 refine wpAny_call (codeAny_mono (F.run X.A X.stack s H ⟨us,[]⟩ (us++ds) (vs++dvs) Q E hr I.env0 (hb s us I.kIn hl) r2 h) λr s' hq=>?_);cases r with
 |error e=>exact hx zB σ H s e s' I hq
 |ok fl=>
  cases fl with
  |ret u=>exact I.after hq
  |next=>exact False.elim hq
  |brk=>exact False.elim hq
  |cont=>exact False.elim hq
noncomputable def zTB (F:FnOk X.prog X.w X.K X.mg X.base CX k f fd ps sp) (hr:Room k X.A) (hg:Gl X x) (hm:X.mg x=some (.ref f)) (hk:PySem.W.keepIn X.K (.ref f)=true) (hb:zHY X.K fd ps ds) (hd:zg dvs ds) (hx:zM9 CX X E)
  (ha:PA X (e::es) t) (hdb:(x==("__debug__" : Str))=false:=by decide) (he:starEach (e::es) X.env=(false,eval e X.env)::starEach es X.env:=by rfl) (hpl:(backTo pos (starEach es X.env)).any (·.1)=false:=by rfl) :
  PE X (.Call (.Name x p) (e::es) [] pos) (zV7 sp dvs E t):=by
 intro zB s σ H Q I h;refine wpAny_Call_Name_kw (zR1 I hg hm ?_ hdb);refine PySem.W.callWith_K (h₀:=X.base) I.ok.mod.kin hk (thn (ha pos zB s σ H _ I h) λus s1 ⟨vs,H1,I1,r,q⟩=>⟨I1.kIn,?_⟩) he hpl;exact zUG F hr hb hd hx I1 r q
end
structure FnScope (N P:Yk) (sc:Y0):Prop where
 kind:sc.kind=.function
 co:sc.isCoroutine=false
 gen:sc.isGenerator=false
 nd:N.Nodup
 pre:N.take P.length=P
 par:∀ x∈P,sc.names.lookup x=some .local\/sc.names.lookup x=some .cell
 nofree:∀ y∈sc.names,y.2≠.free
theorem zIv {kindOf:Str->Option NameKind} {x:Str}:∀ {binds:List (Str × Value)} {m:Yh},(∀ v,(x,v)∉binds)->bindL kindOf binds m x=m x
 |[],_,_=>rfl
 | (n,v)::r,m,h=>by
  unfold bindL;rw[zIv λw hw=>h w (zXQ _ hw)];split
  .have:x≠n:=by rintro rfl;exact h v zXR
   simp[this]
  .rfl
theorem zIx {kindOf:Str->Option NameKind} {x:Str}:∀ {binds:List (Str × Value)} {m:Yh},(∀ v,(x,v)∉binds)->bindC kindOf binds m x=m x
 |[],_,_=>rfl
 | (n,v)::r,m,h=>by
  unfold bindC;rw[zIx λw hw=>h w (zXQ _ hw)];split
  .rfl
  .have:x≠n:=by rintro rfl;exact h v zXR
   simp[this]
theorem zJW {kindOf:Str->Option NameKind} {x:Str} {v:Yu}:∀ {P:Yk} {vs:Yf} {i:Nat} {m:Yh},P.Nodup->P[i]?=some x->vs[i]?=some v->kindOf x=some .local ->
  bindL kindOf (P.zip vs) m x=some v
 |[],_,_,_,_,h,_,_=>by simp at h
 |_::_,[],_,_,_,_,h,_=>by simp at h
 |p::P,w::vs,0,m,nd,h1,h2,hk=>by
  simp at h1 h2;subst h1;subst h2;show bindL kindOf ((p,w)::P.zip vs) m p=_;unfold bindL;rw[zIv λv hv=>(zYX.mp nd).1 (List.of_mem_zip hv).1,zXS hk];simp
 |p::P,w::vs,i+1,m,nd,h1,h2,hk=>by
  show bindL kindOf ((p,w)::P.zip vs) m x=_;unfold bindL;exact zJW (i:=i) (zYX.mp nd).2 (by simpa using h1) (by simpa using h2) hk
theorem zJX {kindOf:Str->Option NameKind} {x:Str} {v:Yu}:∀ {P:Yk} {vs:Yf} {i:Nat} {m:Yh},P.Nodup->P[i]?=some x->vs[i]?=some v->kindOf x≠some .local ->
  bindC kindOf (P.zip vs) m x=some v
 |[],_,_,_,_,h,_,_=>by simp at h
 |_::_,[],_,_,_,_,h,_=>by simp at h
 |p::P,w::vs,0,m,nd,h1,h2,hk=>by
  simp at h1 h2;subst h1;subst h2;show bindC kindOf ((p,w)::P.zip vs) m p=_;unfold bindC;rw[zIx λv hv=>(zYX.mp nd).1 (List.of_mem_zip hv).1,zXV hk];simp
 |p::P,w::vs,i+1,m,nd,h1,h2,hk=>by
  show bindC kindOf ((p,w)::P.zip vs) m x=_;unfold bindC;exact zJX (i:=i) (zYX.mp nd).2 (by simpa using h1) (by simpa using h2) hk
def zEv (N:Yk) (vs:List V):St:=vs.map some++List.replicate (N.length-vs.length) none
noncomputable def zM6 (CX:CXT) (P:Ym) (w:Yo) (K:Yb) (mg:Yh) (base:Heap) (N:Yk) (qual:Str) (scope:Y0) (f:Yt) (cd:Yu) (A:Yn) (outer:List Env) (s:Yl) (H:Hp) (E:XK):Cx where
 prog:=P
 w:=w
 K:=K
 mg:=mg
 base:=base
 A:=A.deeper (envOfC qual scope s.heap.objs.size f cd)
 N:=N
 s₀:=s
 H₀:=H
 env:=envOfC qual scope s.heap.objs.size f cd
 outer:=outer
 stack:=envOfC qual scope s.heap.objs.size f cd::outer
 ex:=[]
 calm:=true
 fn:=λ_=>true
 pn:=[]
 xe:=λe s'=>wpAny (model P w) (A.deeper (envOfC qual scope s.heap.objs.size f cd)) (leaving (envOfC qual scope s.heap.objs.size f cd) e) (λ_ s''=>CX outer H s E e s'') (λe' s''=>CX outer H s E e' s'') s'
def zH8 {sc:Y0} {n:Nat} {x:Str} (h:sc.names.lookup x=some .cell):∃ c,(cellsFrom n sc.names []).lookup x=some c:=by
 have q:=PySem.W.cellsFrom_some sc.names n [] (.inl h);exact Option.isSome_iff_exists.mp q
def zOq {CX:CXT} {P:Ym} {w:Yo} {K:Yb} {mg:Yh} {base:Heap} {N ps:Yk} {qual:Str} {scope:Y0} {f:Yt} {cd:Yu} {A:Yn} {outer:List Env} {s s1:Yl} {H:Hp} {E:XK} {us:Yf} {vs:List V}
  (S:FnScope N ps scope) (hd:A.handled=none) (e0:Env0 P w K mg base A outer s H) (hl:vs.length=ps.length) (r:zg vs us)
  (x:InCallC s s.heap.objs.size (bindL (envOfC qual scope s.heap.objs.size f cd).kindOf (ps.zip us) λ_=>none) (cellsFrom (s.heap.objs.size+1) scope.names []) (bindC (envOfC qual scope s.heap.objs.size f cd).kindOf (ps.zip us) λ_=>none) s1) :
  Inv (zM6 CX P w K mg base N qual scope f cd A outer s H E) [] (zEv N vs) H s1:=by
 have hpl:ps.length<=N.length:=by have:=zY0 List.length S.pre;rw[zYb]at this;omega
 obtain ⟨h1,tk,rfl,hk⟩:=x.done;have noA:∀ b:Addr,b∉(zM6 CX P w K mg base N qual scope f cd A outer s H E).ex:=λb z=>absurd (show b∈([]:List Addr)from z) (by simp)
 refine ⟨⟨e0.mod,S.kind,rfl,rfl,zXJ _,λy z c h1 h2=>?_,λy hy=>?_,λy c _ h=>?_,λ_=>hd,Around.frames_deeper e0.frames,.inr ⟨rfl,rfl⟩,λb z=>absurd z (noA b),e0.bs,e0.bsz,λb _ _=>noA b,λb z=>absurd z (noA b),e0.funs,e0.frf⟩,
  rfl,e0.bare,Un.kept hk,⟨_,x.toInCall.ns,λi y v h1 h2 h3=>?_⟩,λy c h=>⟨_,x.cell y c h⟩,e0.hok.fresh (zXJ _),λy c h=>?_,λp hp=>absurd (show p∈([]:List (Addr × Obj))from hp) (by simp),e0.hok.kept hk,?_⟩
 .exact name_of_addr x.apart (zYF h1) (zYF h2)
 .have hy:scope.names.lookup y=some .cell\/scope.names.lookup y=some .free:=hy;rcases hy with hy|hy
  .exact zH8 hy
  .exact absurd rfl (S.nofree _ (zYF hy))
 .exact Nat.le_of_lt (x.above y c (zYF h))
 .have hi:i<vs.length:=by
   unfold zEv at h2;by_cases hi:i<vs.length
   .exact hi
   .rw[zYN (by simpa using hi)]at h2;rw[List.getElem?_replicate]at h2;split at h2 <;> cases h2
  have ha:vs[i]?=some v:=by
   unfold zEv at h2;rw[zXK (by simpa using hi),zXa]at h2;cases e:vs[i]? with
   |none=>rw[e]at h2;cases h2
   |some a=>rw[e]at h2;cases h2;rfl
  obtain ⟨u,hu,rv⟩:=r.get ha;have hp:ps[i]?=some y:=by
   rw[<-S.pre,List.getElem?_take_of_lt (by omega)];exact h1
  have ndP:ps.Nodup:=by rw[<-S.pre];exact S.nd.sublist (List.take_sublist _ _)
  refine ⟨u,rv,?_⟩;rcases S.par y (zX4 hp)with k|k
  .exact .inl ⟨k,zJW ndP hp hu k⟩
  .obtain ⟨c,e⟩:=zH8 (n:=s.heap.objs.size+1) k;refine .inr ⟨.inl k,c,e,?_⟩;have q:=x.cell y c e;rw[zJX ndP hp hu (by show scope.names.lookup y≠_;rw[k];decide)]at q;exact q
 .exact e0.hok.fresh (Nat.le_of_lt (x.above y c (zYF h)))
 .unfold zEv;show _=N.length;rw[zXT,zXM,List.length_replicate];omega
def zVk {CX:CXT} {P:Ym} {w:Yo} {K:Yb} {mg:Yh} {base:Heap} {k:Nat} {f:Yt} {name qual:Str} {params:Arguments} {body:Yy} {scope:Y0} {dV kV doc pm cdv ct oc:Yu} {an od:Option Addr}
  {osl:Array (Option Value)} {N ps:Yk} {sp:Sp} (lk:K.lookup f=some ⟨oc,od,.func (PySem.W.fnOf name qual params body scope dV kV doc pm an cdv ct),osl⟩) (hcd:PySem.W.codeIn K cdv qual=true) (S:FnScope N ps scope)
  (len:∀ vs H Q E,sp vs H Q E->vs.length=ps.length)
  (hbody:∀ (A:Yn) (outer:List Env) (s:Yl) (H:Hp) (vs:List V) (Q:VK) (E:XK),Room k (A.deeper (envOfC qual scope s.heap.objs.size f cdv))->sp vs H Q E ->
   ∃ t,PSs (zM6 CX P w K mg base N qual scope f cdv A outer s H E) body t/\t { nx:=λ_ H'=>Q .non H',rt:=Q } (zEv N vs) H) :
  FnOk P w K mg base CX (k+1) f (PySem.W.fnOf name qual params body scope dV kV doc pm an cdv ct) ps sp:=by
 refine ⟨len,λA outer s H args us vs Q E hr e0 hb r hsp=>?_⟩;have hl:=len _ _ _ _ hsp;have KX:K.In s.heap:=e0.mod.kin.keeps λb o e=>(e0.bs b o e).1;have lim:s.heap.NoLimit:=e0.mod.nolimit.keeps λb o e=>(e0.bs b o e).1;have hkind:∀ y∈ps.zip us,scope.names.lookup y.1=some .local\/(scope.names.lookup y.1=some .cell/\((cellsFrom (s.heap.objs.size+1) scope.names []).lookup y.1).isSome=true):=λ⟨n,v⟩ hy=>by
  rcases S.par n (List.of_mem_zip hy).1 with q|q
  .exact .inl q
  .exact .inr ⟨q,PySem.W.cellsFrom_some _ _ _ (.inl q)⟩
 refine codeAny_call_function hr.depth (KX _ _ lk) rfl S.co S.gen rfl (PySem.W.codeRec_of KX hcd) (hb _ _ _ _ ?_);refine wpAny_newFunctionEnv_cells S.kind hkind λenv he s1 x=>?_;subst he;refine ⟨lim.keeps x.toInCall.keep,codeAny_func ?_⟩;obtain ⟨t,ht,hq⟩:=hbody A outer s H vs Q E (hr.deeper _) hsp;have I:Inv (zM6 CX P w K mg base N qual scope f cdv A outer s H E) [] (zEv N vs) H s1:=zOq S hr.hd e0 hl r x;refine zXj (ht [] s1 (zEv N vs) H _ I hq) (λfl s' hs=>?_) λe s' hs=>hs;have fin:∀ {σ':St} {H':Hp} {v:V} {u:Yu},Inv (zM6 CX P w K mg base N qual scope f cdv A outer s H E) [] σ' H' s'->zw v u->Q v H'->CE outer P w H s Q u s' :=
  λ{σ' H' v u} J rv q=>⟨v,H',J.os,J.bare,J.base,J.hok,rv,q⟩
 cases fl with
 |ret u=>
  obtain ⟨v,σ',H',J,rv,q⟩:=hs;exact fin J rv q
 |next=>
  obtain ⟨σ',H',J,q⟩:=hs;exact fin (v:=V.non) (u:=Value.none) J rfl q
 |brk=>
  obtain ⟨_,_,_,q⟩:=hs;exact False.elim q
 |cont=>
  obtain ⟨_,_,_,q⟩:=hs;exact False.elim q
section
variable {X:Cx} {x:Str} {p pos:Pos} {e:Expr} {es:Yi} {t:TA} {id T:String} {r:List V->Hp->VK->Prop}
def tCB (r:List V->Hp->VK->Prop) (t:TA):TE:=λσ H Q=>t σ H λvs H1=>r vs H1 Q
noncomputable def zLh (hc:zCI X (.builtin id) r) (hg:Gl X x) (hm:X.mg x=none) (hv:bootBuiltins x=some (.builtin id)) (ha:PA X (e::es) t) (hn:x ≠ "__name__" := by decide) (hdb:(x==("__debug__" : Str))=false:=by decide)
  (he:starEach (e::es) X.env=(false,eval e X.env)::starEach es X.env:=by rfl) (hpl:(backTo pos (starEach es X.env)).any (·.1)=false:=by rfl):PE X (.Call (.Name x p) (e::es) [] pos) (tCB r t):=by
 intro zB s σ H Q I h;refine wpAny_Call_Name_kw (zDj I hg hm hv ?_ hn hdb);exact PyProof.Rows.callWith_builtin1 (thn (ha pos zB s σ H _ I h) λus s1 ⟨vs,H1,I1,r1,q1⟩=>hc zB s1 σ H1 vs us Q I1 r1 q1) he hpl
noncomputable def zDM (hc:zCI X (.type T) r) (hg:Gl X x) (hm:X.mg x=none) (hv:bootBuiltins x=some (.type T)) (ha:PA X (e::es) t) (hn:x ≠ "__name__" := by decide) (hdb:(x==("__debug__" : Str))=false:=by decide)
  (he:starEach (e::es) X.env=(false,eval e X.env)::starEach es X.env:=by rfl) (hpl:(backTo pos (starEach es X.env)).any (·.1)=false:=by rfl):PE X (.Call (.Name x p) (e::es) [] pos) (tCB r t):=by
 intro zB s σ H Q I h;refine wpAny_Call_Name_kw (zDj I hg hm hv ?_ hn hdb);exact PyProof.Rows.callWith_type1 (thn (ha pos zB s σ H _ I h) λus s1 ⟨vs,H1,I1,r1,q1⟩=>hc zB s1 σ H1 vs us Q I1 r1 q1) he hpl
end
end L2
namespace HT
open PySem PyProof.Rows
section
variable {prog:Ym} {w:Yo} {A:Yn} {E:Yc} {s:Yl}
def zSI {t b:Yt} {vs ws:Yf} {Q:Yc} (ht:IsTup s.heap t vs.toArray) (hb:IsTup s.heap b ws.toArray) (hv:vs≠[])
  (h1:ws=[]->Q (.ref t) s) (h2:ws≠[]->Q (.ref s.heap.objs.size) { s with heap:=s.heap.push { cls:=.type "tuple", data:=.seq (vs++ws).toArray } })
  (hsz:vs.length+ws.length<=sizeLine):wpAny (model prog w) A (binaryOp .Add (.ref t) (.ref b)) Q E s:=by
 obtain ⟨⟨cls,dd,data,sl⟩,ho,hc,n,hd⟩:=id ht;obtain ⟨⟨cls2,dd2,data2,sl2⟩,ho2,hc2,n2,hd2⟩:=id hb;simp only at hc hd hc2 hd2;subst hc hd hc2 hd2;have e:vs.toArray++ws.toArray=(vs++ws).toArray:=by simp
 by_cases hw:ws=[]
 .exact concat_meets ⟨_,ho,rfl⟩ ⟨_,ho2,rfl⟩ noFill_tuple_add seq_tuple_add PySem.F.slot_tuple_add PySem.F.entry_tuple_add (PySem.F.args_tuple_add_2 _ _)
   (tuple_addW1 t b vs.toArray ws.toArray n n2 dd dd2 sl sl2 (by simpa using hv) (by simp[hw])) ⟨ho,ho2,h1 hw⟩
 .refine concat_meets ⟨_,ho,rfl⟩ ⟨_,ho2,rfl⟩ noFill_tuple_add seq_tuple_add PySem.F.slot_tuple_add PySem.F.entry_tuple_add (PySem.F.args_tuple_add_2 _ _)
   (tuple_addW2 t b vs.toArray ws.toArray n n2 dd dd2 sl sl2 (by simpa using hv) (by simpa using hw) (by rw[zXL,zXL];exact hsz)) ⟨ho,ho2,?_⟩
  rw[e];exact h2 hw
def sIx (n d:Nat):Option Int->Nat
 |none=>d
 |some v=>if v<0 then (v+(n:Int)).toNat else min v.toNat n
def zHG (n d k:Nat):sIx n d (some (k:Int))=min k n:=by
 show (if (k:Int)<0 then ((k:Int)+(n:Int)).toNat else min (k:Int).toNat n)=min k n;rw[zXV (by omega),Int.toNat_natCast]
def zVD (n d:Nat) (hd:d<=n) (o:Ys):sIx n d o<=n:=by
 cases o with
 |none=>exact hd
 |some v=>
  show (if v<0 then (v+(n:Int)).toNat else min v.toNat n)<=n;by_cases hv:v<0
  .rw[zXS hv];omega
  .rw[zXV hv];exact Nat.min_le_right _ _
def zNS (v:Int) (n d:Nat):(if v<0 then max (v+(n:Int)) 0 else min v (n:Int))=((sIx n d (some v):Nat):Int):=by
 show (if v<0 then max (v+(n:Int)) 0 else min v (n:Int))=(((if v<0 then (v+(n:Int)).toNat else min v.toNat n):Nat):Int);by_cases hv:v<0
 .simp only[zXS hv];omega
 .simp only[zXV hv];omega
def zMo (lo hi:Ys) (n:Nat):Builtin.Slice.sliceAdjust lo hi 1 (n:Int)=(((sIx n 0 lo:Nat):Int),((sIx n n hi:Nat):Int)):=by
 have h1:¬ ((1:Int)<0):=by omega
 unfold Builtin.Slice.sliceAdjust;simp only[h1,if_false];refine Prod.ext ?_ ?_
 .cases lo with
  |none=>rfl
  |some v=>exact zNS v n 0
 .cases hi with
  |none=>rfl
  |some v=>exact zNS v n n
def zMv (i j:Nat):Builtin.Slice.slicePlaces (i:Int) (j:Int) 1=j-i:=by
 unfold Builtin.Slice.slicePlaces;have h1:(1:Int)>0:=by omega
 simp only[h1,if_true,Int.ediv_one];split <;> omega
def zHN {v:Yu} {o:Ys} {Q:Option Int->Shared->Prop} (p:IsPart v o) (h:Q o s):wpAny (model prog w) A (Builtin.Slice.slicePartIndex v) Q E s:=by
 cases p with
 |none=>exact slicePart_none h
 |int i t=>exact slicePart_int h
def zDN {sl:Yt} {vl vu:Yu} {lo hi:Ys} {n:Nat} {Q:Int × Int × Nat->Shared->Prop} (hs:s.heap.IsSliceOf sl vl vu .none) (pl:IsPart vl lo) (pu:IsPart vu hi)
  (h:Q (((sIx n 0 lo:Nat):Int),1,sIx n n hi-sIx n 0 lo) s):wpAny (model prog w) A (Builtin.Slice.sliceApplied (.ref sl) (pure (n:Int))) Q E s:=by
 obtain ⟨os,hos,hcs,hds⟩:=id hs;unfold Builtin.Slice.sliceApplied Builtin.Slice.sliceFields;refine zXD (zXD (zXs hos hds (x:=vl) rfl (zXD (zXs hos hds (x:=vu) rfl (zXD (zXs hos hds (x:=.none) rfl (zXF ?_)))))));refine zXD (slicePart_none ?_);show wpAny _ _ (if ((1:Int)==0)=true then _ else _) _ _ s;rw[zXV (by decide)];refine zXD (zHN pl (zXD (zHN pu (zXD (zXF ?_)))));show wpAny _ _ (match Builtin.Slice.sliceAdjust lo hi 1 (n:Int) with|(lo,hi)=>pure (lo,(1:Int),Builtin.Slice.slicePlaces lo hi 1)) _ _ s;rw[zMo lo hi n];show wpAny _ _ (pure (((sIx n 0 lo:Nat):Int),(1:Int),Builtin.Slice.slicePlaces ((sIx n 0 lo:Nat):Int) ((sIx n n hi:Nat):Int) 1)) _ _ s;rw[zMv];exact zXF h
def zPq (xs:Yp) (i k:Nat):((List.range k).filterMap λ(m:Nat)=>xs[((i:Int)+(m:Int)*1).toNat]?).toArray=((xs.toList.drop i).take k).toArray:=by
 have e:(λ(m:Nat)=>xs[((i:Int)+(m:Int)*1).toNat]?)=λm=>xs[i+m]?:=by
  funext m;have:((i:Int)+(m:Int)*1).toNat=i+m:=by omega
  rw[this]
 rw[e];have:=pick_run xs i k;rw[List.filterMap_map]at this;have e2:((λx=>xs[x]?)∘λx=>i+x)=λm=>xs[i+m]?:=rfl;rw[e2]at this;rw[this]
def zF1 {t sl:Yt} {items:Yp} {vl vu:Yu} {lo hi:Ys} {Q:Yc} (ht:IsTup s.heap t items) (hs:s.heap.IsSliceOf sl vl vu .none) (pl:IsPart vl lo) (pu:IsPart vu hi)
  (hw:¬ (sIx items.size 0 lo=0/\sIx items.size items.size hi=items.size))
  (h:Q (.ref s.heap.objs.size) { s with heap:=s.heap.push { cls:=.type "tuple", data:=.seq ((items.toList.drop (sIx items.size 0 lo)).take (sIx items.size items.size hi-sIx items.size 0 lo)).toArray } })
  (hsz:items.size<=sizeLine):wpAny (model prog w) A (getItem (.ref t) (.ref sl)) Q E s:=by
 have htake:sizeOk (.seq ((items.toList.drop (sIx items.size 0 lo)).take (sIx items.size items.size hi-sIx items.size 0 lo)).toArray):=by
  show ((items.toList.drop (sIx items.size 0 lo)).take (sIx items.size items.size hi-sIx items.size 0 lo)).toArray.size<=sizeLine;rw[zXL,zYb,List.length_drop,zXw];omega
 have hj:sIx items.size items.size hi<=items.size:=zVD _ _ (zXJ _) hi;obtain ⟨os,hos,hcs,hds⟩:=id hs;have hTs:s.TypeIs (.ref sl) "slice" := ⟨os,hos,hcs⟩;unfold getItem;try with_reducible refine zX6 ?_
 first|refine zXD (zXF ?_)|skip
 refine zXD (wpAny_sequenceKey ht.typeIs (by decide) ?_)
 refine zXD (zXp (name:=Str.ofString "__getitem__") ht.typeIs zYl
  (zXq zYl ht.typeIs entry_tuple_getitem ?_ (args_tuple_getitem _ _)))
 show wpAny _ _ (Builtin.Tuple.tupleItemsOf (.ref t) >>= _) _ _ s;refine zXD (tupleItemsOf_ ht ?_);refine zXD (wpAny_typeOf hTs ?_);rw[zXS (by decide)];refine zXD (zDN hs pl pu ?_);have hno:¬ ((((sIx items.size 0 lo:Nat):Int)==0&&(1:Int)==1&&(sIx items.size items.size hi-sIx items.size 0 lo)==items.size)=true):=by
  intro q;rw[zXn,zXn]at q;have q1:((sIx items.size 0 lo:Nat):Int)=0:=eq_of_beq q.1.1;have q2:sIx items.size items.size hi-sIx items.size 0 lo=items.size:=eq_of_beq q.2;exact hw ⟨by omega,by omega⟩
 show wpAny _ _ (if (((sIx items.size 0 lo:Nat):Int)==0&&(1:Int)==1&&(sIx items.size items.size hi-sIx items.size 0 lo)==items.size)=true then _ else _) _ _ s;rw[zXV hno,zPq]
 first
  |exact zXD (m:=Builtin.Tuple.tupleExact _) (zXg (zXF ⟨_,rfl,zXF h⟩) htake)
  |exact zXD (m:=Builtin.Tuple.tupleExact _) (zXg (zXD (zXF (zXF ⟨_,rfl,zXF h⟩))) htake)
  |exact zXD (zXD (m:=Builtin.Tuple.tupleExact _) (zXg (zXF (zXF ⟨_,rfl,zXF h⟩)) htake))
  |exact zXD (zXD (m:=Builtin.Tuple.tupleExact _) (zXg (zXF ⟨_,rfl,zXF h⟩) htake))
end
end HT
namespace L2
open PySem PySem.Spec PyProof.Rows
abbrev TO:=St->Hp->(Option Int->Hp->Prop)->Prop
def PO (X:Cx) (e:Option Expr) (t:TO):Prop :=
 ∀ (zB:Yd) (s:Yl) (σ:St) (H:Hp) (Q:Option Int->Hp->Prop),Inv X zB σ H s->t σ H Q ->
  wpAny (model X.prog X.w) X.A (evalPart e X.env) (λu s'=>∃ o H',Inv X zB σ H' s'/\IsPart u o/\Q o H') X.xe s
def zSH:TO:=λ_ H Q=>Q none H
def zVn (t:TE):TO:=λσ H Q=>t σ H λx H1=>∃ i,x=.int i/\Q (some i) H1
def zMj {ns:Ye}:∀ {us:Yf},zg (ns.map V.int) us->IntsAre us ns:=by
 induction ns with
 |nil=>intro us r;rw[List.map_nil]at r;cases r;exact .nil
 |cons n ns ih=>
  intro us r;rw[zXW]at r;cases r with
  |cons r1 r2=>
   obtain ⟨t,e⟩:=r1;subst e;exact .cons n t (ih r2)
section
variable {X:Cx} {e:Expr} {te:TE} {lo hi:Option Expr} {tl th:TO} {pos p2:Pos}
def zTW:PO X none zSH:=by
 intro zB s σ H Q I h;rw[evalPart_none];exact zXF ⟨none,H,I,.none,h⟩
def zTI (h:PE X e te):PO X (some e) (zVn te):=by
 intro zB s σ H Q I hw;rw[evalPart_some];refine thn (h zB s σ H _ I hw) λu s1 ⟨x,H1,I1,r1,q1⟩=>?_;obtain ⟨i,rfl,q⟩:=q1;obtain ⟨t,rfl⟩:=r1;exact ⟨some i,H1,I1,.int i t,q⟩
def SlR (X:Cx) (r:V->Option Int->Option Int->Hp->VK->Prop):Prop :=
 ∀ (zB:Yd) (s:Yl) (σ:St) (H:Hp) (x:V) (v vl vu:Yu) (lo hi:Ys) (sl:Yt) (Q:VK),Inv X zB σ H s->zw x v->s.heap.IsSliceOf sl vl vu .none->IsPart vl lo->IsPart vu hi->r x lo hi H Q ->
  ∃ T id,typeLookup (.type T) "__getitem__" = pure (some (.builtin id))/\s.TypeIs v T/\wpAny (model X.prog X.w) X.A (getItem v (.ref sl)) (EP X zB σ Q) X.xe s
def SlR.or {r r':V->Option Int->Option Int->Hp->VK->Prop} (h:SlR X r) (h':SlR X r'):SlR X (λx lo hi H Q=>r x lo hi H Q\/r' x lo hi H Q):=by
 intro zB s σ H x v vl vu lo hi sl Q I rx hs pl pu q;rcases q with q|q
 .exact h zB s σ H x v vl vu lo hi sl Q I rx hs pl pu q
 .exact h' zB s σ H x v vl vu lo hi sl Q I rx hs pl pu q
def tSl (r:V->Option Int->Option Int->Hp->VK->Prop) (te:TE) (tl th:TO):TE:=λσ H Q=>te σ H λx H1=>tl σ H1 λl H2=>th σ H2 λu H3=>r x l u H3 Q
def zRV {r:V->Option Int->Option Int->Hp->VK->Prop} (hr:SlR X r) (he:PE X e te) (hl:PO X lo tl) (hu:PO X hi th):PE X (.Subscript e (.Slice lo hi none p2) pos) (tSl r te tl th):=by
 intro zB s σ H Q I h;refine Subscript_ (thn (he zB s σ H _ I h) λv s1 ⟨x,H1,I1,r1,q1⟩=>?_);refine wpAny_Slice (thn (hl zB s1 σ H1 _ I1 q1) λvl s2 ⟨l,H2,I2,pl,q2⟩=>thn (hu zB s2 σ H2 _ I2 q2) λvu s3 ⟨u,H3,I3,pu,q3⟩=>?_);rw[evalPart_none];refine zXF ?_;have I4:Inv X zB σ H3 { s3 with heap:=s3.heap.push { cls:=.type "slice", data:=.fields #[vl,vu,.none] } }:=I3.kept (t':=s3.toks) λb ob q=>zXE _ q;obtain ⟨T,id,hT,ht,hg⟩:=hr zB { s3 with heap:=s3.heap.push { cls:=.type "slice", data:=.fields #[vl,vu,.none] } } σ H3 x v vl vu l u s3.heap.objs.size Q I4 r1 (Heap.IsSliceOf.new ..) pl pu q3;show wpAny (model X.prog X.w) X.A (subscriptTail e (.Slice lo hi none p2) v (.ref s3.heap.objs.size)) (EP X zB σ Q) X.xe { s3 with heap:=s3.heap.push { cls:=.type "slice", data:=.fields #[vl,vu,.none] } };exact tail_any (ops:=[.ref s3.heap.objs.size,v]) ht hT hg (by with_unfolding_all rfl)
def zL3 (xs:List V) (lo hi:Ys):List V:=(xs.drop (HT.sIx xs.length 0 lo)).take (HT.sIx xs.length xs.length hi-HT.sIx xs.length 0 lo)
def zGW (xs:List V) (lo hi:Ys):(zL3 xs lo hi).length<=xs.length:=by
 unfold zL3;rw[zYb,List.length_drop];omega
def zWr (K:Yb):V->Option Int->Option Int->Hp->VK->Prop:=λx lo hi H Q=>∃ a xs,x=.ref a/\SqT K H a xs /\
 ¬ (HT.sIx xs.length 0 lo=0/\HT.sIx xs.length xs.length hi=xs.length) /\ ∀ p,H p=none->Q (.ref p) (upd H p (.tup (zL3 xs lo hi)))
def zUA:SlR X (zWr X.K):=by
 intro zB s σ H x v vl vu lo hi sl Q I rx hs pl pu h;obtain ⟨a,xs,rfl,hx,hw,q⟩:=h;cases rx;obtain ⟨its,r,ht,hz⟩:=I.tuple hx;have hlen:its.toArray.size=xs.length:=by rw[zXL];exact r.length.symm
 refine ⟨"tuple", _,zYl.lookup,ht.typeIs,?_⟩;refine HT.zF1 ht hs pl pu (by rw[hlen];exact hw) ?_ (by rw[hlen];exact hz);rw[hlen];refine ⟨.ref s.heap.objs.size,_,I.laid (t':=s.toks) (o:=.tup (zL3 xs lo hi)) (λb ob q=>zXE _ q) (zXJ _) ?_,rfl,q _ (I.hok.fresh (zXJ _))⟩;exact ⟨zXe (zGW xs lo hi) hz,_,(r.drop (HT.sIx xs.length 0 lo)).take (HT.sIx xs.length xs.length hi-HT.sIx xs.length 0 lo),zCJ.new _ _⟩
def zTb (K:Yb):R2:=λx y H Q=>∃ a b xs ys,x=.ref a/\y=.ref b/\SqT K H a xs/\SqT K H b ys/\xs≠[]/\xs.length+ys.length<=sizeLine /\
 (ys=[]->Q (.ref a) H)/\(ys≠[] -> ∀ p,H p=none->Q (.ref p) (upd H p (.tup (xs++ys))))
def zg.nil_iff {xs:List V} {us:Yf} (r:zg xs us):us=[] ↔ xs=[]:=by
 cases r with
 |nil=>simp
 |cons _ _=>simp
def zRz:OpR X (binaryOp .Add) (zTb X.K):=by
 intro zB s σ H x y v u Q I rx ry h;obtain ⟨a,b,xs,ys,rfl,rfl,ha,hb,hx,hz,q1,q2⟩:=h;cases rx;cases ry;obtain ⟨its,r1,p1,_⟩:=I.tuple ha;obtain ⟨its2,r2,p2,_⟩:=I.tuple hb;refine HT.zSI p1 p2 (λz=>hx (r1.nil_iff.mp z)) (λz=>⟨.ref a,H,I,rfl,q1 (r2.nil_iff.mp z)⟩) (λz=>?_) (by rw[<-r1.length,<-r2.length];exact hz);refine ⟨.ref s.heap.objs.size,_,I.laid (t':=s.toks) (o:=.tup (xs++ys)) (λb ob q=>zXE _ q) (zXJ _) ?_,rfl,q2 (λw=>z (r2.nil_iff.mpr w)) _ (I.hok.fresh (zXJ _))⟩;exact ⟨by rw[zXT];exact hz,_,r1.append r2,zCJ.new _ _⟩
end
def ixN (n:Nat) (i:Int):Option Nat:=if 0<=i then (if i<n then some i.toNat else none) else if -(n:Int)<=i then some (i+n).toNat else none
def atI {α:Type} (xs:List α) (i:Int):Option α:=(ixN xs.length i).bind λj=>xs[j]?
def zKM {n:Nat} {i:Int} {j:Nat} (h:ixN n i=some j):seqIndex? i n=some j/\j<n /\ -(n:Int)<=i/\i<n:=by
 unfold ixN at h;by_cases h0:0<=i
 .rw[zXS h0]at h;by_cases h1:i<n
  .rw[zXS h1]at h;have e:i.toNat=j:=zYD h;exact ⟨by rw[seqIndex_of h0 h1,e],by omega,by omega,h1⟩
  .rw[zXV h1]at h;cases h
 .rw[zXV h0]at h;by_cases h1 : -(n:Int)<=i
  .rw[zXS h1]at h;have e:(i+n).toNat=j:=zYD h;exact ⟨by rw[seqIndex_neg (by omega) h1,e],by omega,h1,by omega⟩
  .rw[zXV h1]at h;cases h
def zKC {α:Type} {xs:List α} {i:Int} {v:α} (h:atI xs i=some v):∃ j,seqIndex? i xs.length=some j/\xs[j]?=some v/\j<xs.length /\ -(xs.length:Int)<=i/\i<xs.length:=by
 unfold atI at h;cases e:ixN xs.length i with
 |none=>rw[e]at h;cases h
 |some j=>
  rw[e]at h;obtain ⟨h1,h2,h3,h4⟩:=zKM e;exact ⟨j,h1,h,h2,h3,h4⟩
def zNg {α:Type} {xs:List α} {j:Nat} {v:α} (h:xs[j]?=some v):atI xs (j:Int)=some v:=by
 have hj:j<xs.length:=(zXG.mp h).1;have e:ixN xs.length (j:Int)=some j:=by
  unfold ixN;rw[zXS (by omega),zXS (by omega)];simp
 unfold atI;rw[e];exact h
def zPj {α:Type} (xs:List α) (v:α):atI (xs++[v]) (-1)=some v:=by
 have hl:(xs++[v]).length=xs.length+1:=by simp
 have e:ixN (xs++[v]).length (-1)=some xs.length:=by
  unfold ixN;rw[hl,zXV (by decide),zXS (by omega)];congr 1;omega
 unfold atI;rw[e];show (xs++[v])[xs.length]?=some v;simp
def zNy (b:Expr):Prop:=∀ o i,subscripted b false o i=operate [o,i] (getItem o i)
def IxR (X:Cx) (r:R2):Prop :=
 ∀ (value slice:Expr) (zB:Yd) (s:Yl) (σ:St) (H:Hp) (x y:V) (v u:Yu) (Q:VK),Inv X zB σ H s->zw x v->zw y u->r x y H Q ->
  subscripted slice false v u=operate [v,u] (getItem v u)->wpAny (model X.prog X.w) X.A (subscriptTail value slice v u) (EP X zB σ Q) X.xe s
def MtR (X:Cx) (id:String) (r:V->List V->Hp->VK->Prop):Prop :=
 ∀ (zB:Yd) (s:Yl) (σ:St) (H:Hp) (x:V) (xs:List V) (v:Yu) (us:Yf) (Q:VK),Inv X zB σ H s->zw x v->zg xs us->r x xs H Q ->
  wpAny (model X.prog X.w) X.A (call (.builtin id) (v::us)) (EP X zB σ Q) X.xe s
section
variable {X:Cx} {a b:Expr} {ta tb:TE} {pos:Pos}
def IxR.or {r r':R2} (h:IxR X r) (h':IxR X r'):IxR X (λx y H Q=>r x y H Q\/r' x y H Q):=by
 intro value slice zB s σ H x y v u Q I rx ry q hs;rcases q with q|q
 .exact h value slice zB s σ H x y v u Q I rx ry q hs
 .exact h' value slice zB s σ H x y v u Q I rx ry q hs
def zVo {r:R2} (hr:IxR X r) (ha:PE X a ta) (hb:PE X b tb) (hs:zNy b):PE X (.Subscript a b pos) (tOp r ta tb):=by
 intro zB s σ H Q I h;exact Subscript_ (zUi ha hb I h λv u s2 x y H2 I2 rx ry q=>hr a b zB s2 σ H2 x y v u Q I2 rx ry q (hs _ _))
def zVh (K:Yb):R2:=λx y H Q=>∃ p xs i v,x=.ref p/\y=.int i/\SqL K H p xs/\atI xs i=some v/\Q v H
def zWI (K:Yb):R2:=λx y H Q=>∃ p xs i v,x=.ref p/\y=.int i/\SqT K H p xs/\atI xs i=some v/\Q v H
def zWZ:R2:=λx y H Q=>∃ z i c,x=.str z/\y=.int i/\z.length<=sizeLine/\atI z.cps.toList i=some c/\Q (.str ⟨#[c]⟩) H
def zSi:IxR X (zVh X.K):=by
 intro value slice zB s σ H x y v u Q I rx ry h hs;obtain ⟨p,xs,i,z,rfl,rfl,hq,he,q⟩:=h;cases rx;obtain ⟨t,rfl⟩:=ry;obtain ⟨its,r,pl,hz⟩:=I.list hq;obtain ⟨j,h1,h2,h3,h4,h5⟩:=zKC he;obtain ⟨w,ew,rw'⟩:=r.get h2;have hl:=r.length;have hn:=zFL;have fin:EP X zB σ Q w s:=⟨z,H,I,rw',q⟩;by_cases h0:0<=i
 .have hj:i.toNat=j:=by
   rw[seqIndex_of h0 h5]at h1;exact zYD h1
  exact item_listR pl.isList h0 (by omega) (by rw[hj];simpa using ew) fin hs
 .have hj:(i+(its.toArray.size:Int)).toNat=j:=by
   rw[seqIndex_neg (by omega) h4]at h1;rw[zXL,<-hl];exact zYD h1
  exact subscriptTail_builtinR (x:=w) pl.isList.typeIs slot_list_getitem.lookup
   (wpAny_getItem_list_neg (Q:=λr s'=>r=w/\EP X zB σ Q r s') pl.isList (by omega) (by rw[zXL] <;> omega) (by omega) (by rw[hj];simpa using ew) ⟨rfl,fin⟩) hs
def zUl:IxR X (zWI X.K):=by
 intro value slice zB s σ H x y v u Q I rx ry h hs;obtain ⟨p,xs,i,z,rfl,rfl,hq,he,q⟩:=h;cases rx;obtain ⟨t,rfl⟩:=ry;obtain ⟨its,r,pl,hz⟩:=I.tuple hq;obtain ⟨j,h1,h2,h3,h4,h5⟩:=zKC he;obtain ⟨w,ew,rw'⟩:=r.get h2;have hl:=r.length;have hn:=zFL;have fin:EP X zB σ Q w s:=⟨z,H,I,rw',q⟩
 exact subscriptTail_builtinR (x:=w) pl.typeIs slot_tuple_getitem.lookup
  (getItem_tuple (j:=j) (Q:=λr s'=>r=w/\EP X zB σ Q r s') pl (by omega) (by omega) (by rw[zXL,<-hl];exact h1) (by simpa using ew) ⟨rfl,fin⟩) hs
def zUv:IxR X zWZ:=by
 intro value slice zB s σ H x y v u Q I rx ry h hs;obtain ⟨z,i,c,rfl,rfl,hz,he,q⟩:=h;obtain ⟨t,rfl⟩:=rx;obtain ⟨t',rfl⟩:=ry;obtain ⟨j,h1,h2,h3,h4,h5⟩:=zKC he;have hl:z.cps.toList.length=z.length:=by simp[Str.length]
 rw[hl]at h1 h4 h5;have hn:=zFL;exact tail_any (typeIs_str s z t) slot_str_getitem.lookup (getItem_str (c:=c) (by
  have e1:decide (i < -(2 ^ 63:Int))=false:=zXm (by omega);have e2:decide (i≥2 ^ 63)=false:=zXm (by omega);rw[e1,e2,Bool.or_false]) (by rw[h1];simpa using h2) ⟨.str ⟨#[c]⟩,H,I.tok _,⟨_,rfl⟩,q⟩) hs
def rIx (K:Yb):R2:=λx y H Q=>zVh K x y H Q\/zWI K x y H Q\/zWZ x y H Q
def zUK:IxR X (rIx X.K):=zSi.or (zUl.or zUv)
def zNF (its:List Value) (n j:Nat) (u:Value):Obj.mapSeq (·.setIfInBounds j u) { cls:=.type "list", data:=.seq its.toArray n }={ cls:=.type "list", data:=.seq (its.set j u).toArray n }:=by
 simp[Obj.mapSeq]
def Inv.lst {zB:Yd} {σ:St} {H:Hp} {s:Yl} {p:Yt} {xs:List V} (I:Inv X zB σ H s) (h:H p=some (.lst xs)) :
  ∃ (its:List Value) (n:Nat),zg xs its/\s.heap.get? p=some { cls:=.type "list", data:=.seq its.toArray n }/\xs.length<=sizeLine:=by
 obtain ⟨z,its,n,r,e⟩:=I.hok p _ h;exact ⟨its,n,r,e,z⟩
def Inv.lstUpd {zB:Yd} {σ:St} {H:Hp} {s:Yl} {p:Yt} {xs ys:List V} {its its':Yf} {n n':Nat} {f:Obj->Obj} (I:Inv X zB σ H s) (h:H p=some (.lst xs))
  (ho:s.heap.get? p=some { cls:=.type "list", data:=.seq its.toArray n }) (hf:f { cls:=.type "list", data:=.seq its.toArray n }={ cls:=.type "list", data:=.seq its'.toArray n' }) (r:zg ys its') (hz:ys.length<=sizeLine) (t:Nat) :
  Inv X zB σ (upd H p (.lst ys)) { s with heap:=s.heap.update p f,toks:=t }:=by
 have e:(s.heap.update p f).get? p=some { cls:=.type "list", data:=.seq its'.toArray n' }:=by
  rw[zX0 f ho (by rw[hf] <;> rfl),hf]
 refine I.write (x:=p) (e:=p) (by rw[h];trivial) (.inl rfl) (λb u hb q=>(zXu _ _ (Ne.symm hb)).trans q) ⟨_,e⟩ ?_;exact ⟨hz,its',n',r,e⟩
def zV0:V->V->V->Hp->(Hp->Prop)->Prop:=λo i v H Q=>∃ p xs k j,o=.ref p/\i=.int k/\H p=some (.lst xs)/\ixN xs.length k=some j/\Q (upd H p (.lst (xs.set j v)))
def zQa:zVY X zV0:=by
 intro zB s σ H o i v ov iv u Q I ro ri rv h;obtain ⟨p,xs,k,j,rfl,rfl,hp,hj,q⟩:=h;cases ro;obtain ⟨t,rfl⟩:=ri;obtain ⟨its,n,r,ho,hz⟩:=I.lst hp;obtain ⟨h1,h2,h3,h4⟩:=zKM hj;have hl:=r.length;have hn:=zFL;have I':Inv X zB σ (upd H p (.lst (xs.set j v))) { s with heap:=s.heap.update p (Obj.mapSeq (·.setIfInBounds j u)) } :=
  I.lstUpd hp ho (zNF its n j u) (r.set rv j) (by rw[zZW];exact hz) s.toks
 by_cases h0:0<=k
 .have hk:k.toNat=j:=by
   rw[seqIndex_of h0 h4]at h1;exact zYD h1
  exact PySem.W.ki_setAt ho h0 (by omega) (by rw[zXL,<-hl];exact h4) (by rw[hk];exact ⟨_,I',q⟩)
 .have hk:(k+(its.toArray.size:Int)).toNat=j:=by
   rw[seqIndex_neg (by omega) h3]at h1;rw[zXL,<-hl];exact zYD h1
  exact PySem.W.ki_setBack ho (by omega) (by rw[zXL,<-hl];exact h3) (by omega) (by rw[hk];exact ⟨_,I',q⟩)
def zJh (lo hi:Ys) (n:Nat):(sliceBounds lo hi none n).1=((HT.sIx n 0 lo:Nat):Int)/\(sliceBounds lo hi none n).2.1=((HT.sIx n n hi:Nat):Int)/\(sliceBounds lo hi none n).2.2=1:=by
 refine ⟨?_,?_,rfl⟩
 .cases lo with
  |none=>simp[sliceBounds,HT.sIx]
  |some i=>
   simp only[sliceBounds,HT.sIx,Option.getD_none,show (1:Int)>0 by decide,if_true];by_cases h:i<0
   .simp only[h,if_true] <;> omega
   .simp only[h,if_false] <;> omega
 .cases hi with
  |none=>simp[sliceBounds,HT.sIx]
  |some i=>
   simp only[sliceBounds,HT.sIx,Option.getD_none,show (1:Int)>0 by decide,if_true];by_cases h:i<0
   .simp only[h,if_true] <;> omega
   .simp only[h,if_false] <;> omega
def zIZ (its:Yf) (lo hi:Ys):slicePick its.toArray lo hi none=((its.drop (HT.sIx its.length 0 lo)).take (HT.sIx its.length its.length hi-HT.sIx its.length 0 lo)).toArray:=by
 obtain ⟨h1,h2,h3⟩:=zJh lo hi its.toArray.size;unfold slicePick;rw[h1,h2,h3];simp only[sliceRange_one,pick_run,zXL] <;> rfl
def zW0 (K:Yb):V->Option Int->Option Int->Hp->VK->Prop:=λx lo hi H Q=>∃ a xs,x=.ref a/\SqL K H a xs /\ ∀ p,H p=none->Q (.ref p) (upd H p (.lst (zL3 xs lo hi)))
def zSc:SlR X (zW0 X.K):=by
 intro zB s σ H x v vl vu lo hi sl Q I rx hs pl pu h;obtain ⟨a,xs,rfl,hx,q⟩:=h;cases rx;obtain ⟨its,r,ht,hz⟩:=I.list hx;have hlen:=r.length;refine ⟨"list", _,slot_list_getitem.lookup,ht.isList.typeIs,?_⟩;refine wpAny_getItem_list_slice ht.isList hs pl pu .none (by simp) ?_ (by rw[zXL] <;> omega);rw[zIZ,<-hlen];refine ⟨.ref s.heap.objs.size,_,I.laid (t':=s.toks) (o:=.lst (zL3 xs lo hi)) (λb ob q=>zXE _ q) (zXJ _) ?_,rfl,q _ (I.hok.fresh (zXJ _))⟩;exact ⟨zXe (zGW xs lo hi) hz,_,0,(r.drop (HT.sIx xs.length 0 lo)).take (HT.sIx xs.length xs.length hi-HT.sIx xs.length 0 lo),zXN _ rfl⟩
def zFZ:V->Bool
 |.non=>true
 |.bl _=>true
 |.int _=>true
 |.str _=>true
 |_=>false
def eqV:V->V->Bool
 |.non,.non=>true
 |.bl a,.bl b=>a==b
 |.bl a,.int b=>(if a then 1 else 0)==b
 |.int a,.bl b=>a==(if b then 1 else 0)
 |.int a,.int b=>a==b
 |.str a,.str b=>a==b
 |_,_=>false
def zTp {A:Yn} {s:Yl} {y x:V} {u v:Yu} (ry:zw y u) (rx:zw x v) (fy:zFZ y=true) (fx:zFZ x=true):SeqAt.EqAt A s u v (eqV y x):=by
 cases y with
 |non=>
  cases ry;cases x with
  |non=>cases rx;exact SeqAt.EqAt.same _
  |bl b=>cases rx;exact SeqAt.EqAt.none_bool b
  |int b=>obtain ⟨t,rfl⟩:=rx;exact SeqAt.EqAt.none_int b t
  |str b=>obtain ⟨t,rfl⟩:=rx;exact SeqAt.EqAt.none_str b t
  |_=>exact absurd (show false=true from fx) zXZ
 |bl a=>
  cases ry;cases x with
  |non=>cases rx;exact SeqAt.EqAt.bool_none a
  |bl b=>cases rx;exact SeqAt.EqAt.bool_bool a b
  |int b=>obtain ⟨t,rfl⟩:=rx;exact SeqAt.EqAt.bool_int a b t
  |str b=>obtain ⟨t,rfl⟩:=rx;exact SeqAt.EqAt.bool_str a b t
  |_=>exact absurd (show false=true from fx) zXZ
 |int a=>
  obtain ⟨t',rfl⟩:=ry;cases x with
  |non=>cases rx;exact SeqAt.EqAt.int_none a t'
  |bl b=>cases rx;exact SeqAt.EqAt.int_bool a t' b
  |int b=>obtain ⟨t,rfl⟩:=rx;exact SeqAt.EqAt.int_int a t' b t
  |str b=>obtain ⟨t,rfl⟩:=rx;exact SeqAt.EqAt.int_str a t' b t
  |_=>exact absurd (show false=true from fx) zXZ
 |str a=>
  obtain ⟨t',rfl⟩:=ry;cases x with
  |non=>cases rx;exact SeqAt.EqAt.str_none a t'
  |bl b=>cases rx;exact SeqAt.EqAt.str_bool a t' b
  |int b=>obtain ⟨t,rfl⟩:=rx;exact SeqAt.EqAt.str_int a t' b t
  |str b=>obtain ⟨t,rfl⟩:=rx;exact SeqAt.EqAt.str_str a t' b t
  |_=>exact absurd (show false=true from fx) zXZ
 |_=>exact absurd (show false=true from fy) zXZ
def eqU (x:V) (u:Yu):Bool:=match u with
 |.none=>eqV .non x
 |.bool b=>eqV (.bl b) x
 |.int i _=>eqV (.int i) x
 |.str z _=>eqV (.str z) x
 |_=>false
def zPu {x y:V} {u:Yu} (r:zw y u) (f:zFZ y=true):eqU x u=eqV y x:=by
 cases y with
 |non=>cases r;rfl
 |bl b=>cases r;rfl
 |int i=>obtain ⟨t,rfl⟩:=r;rfl
 |str z=>obtain ⟨t,rfl⟩:=r;rfl
 |_=>exact absurd (show false=true from f) zXZ
theorem zFy {x:V}:∀ {xs:List V} {us:Yf},zg xs us->xs.all zFZ=true->us.any (eqU x)=xs.any λy=>eqV y x
 |_,_,.nil,_=>rfl
 |y::xs,u::us,.cons r t,f=>by
  rw[List.all_cons,zXn]at f;rw[List.any_cons,List.any_cons,zPu r f.1,zFy t f.2]
theorem zEU {A:Yn} {s:Yl} {x:V} {v:Yu} (rx:zw x v) (fx:zFZ x=true):∀ {xs:List V} {us:Yf},zg xs us->xs.all zFZ=true -> ∀ u∈us,SeqAt.EqAt A s u v (eqU x u)
 |_,_,.nil,_=>λu hu=>by cases hu
 |y::xs,u::us,.cons r t,f=>λu' hu=>by
  rw[List.all_cons,zXn]at f;rcases zXP.mp hu with rfl|hu
  .rw[zPu r f.1];exact zTp r rx f.1 fx
  .exact zEU rx fx t f.2 u' hu
def inV (x:V) (xs:List V):Bool:=xs.any λy=>eqV y x
def rIn (K:Yb) (neg:Bool):R2:=λx y H Q=>∃ p xs,y=.ref p/\(SqL K H p xs\/SqT K H p xs)/\zFZ x=true/\xs.all zFZ=true/\Q (.bl (if neg then !inV x xs else inV x xs)) H
def zOG:OpR X (compareOp .In) (rIn X.K false):=by
 intro zB s σ H x y v u Q I rx ry h;obtain ⟨p,xs,rfl,hq,fx,fs,q⟩:=h;cases ry;rcases hq with hq|hq
 .obtain ⟨its,r,pl,hz⟩:=I.list hq;refine SeqAt.in_listAt (eqU x) pl.isList (λw hw=>zEU rx fx r fs w (by simpa using hw)) ⟨.bl _,H,I,rfl,?_⟩;rw[show its.toArray.any (eqU x)=its.any (eqU x) by simp,zFy r fs];exact q
 .obtain ⟨its,r,pl,hz⟩:=I.tuple hq;refine SeqAt.in_tupleAt (eqU x) pl (λw hw=>zEU rx fx r fs w (by simpa using hw)) ⟨.bl _,H,I,rfl,?_⟩;rw[show its.toArray.any (eqU x)=its.any (eqU x) by simp,zFy r fs];exact q
def zKB:OpR X (compareOp .NotIn) (rIn X.K true):=by
 intro zB s σ H x y v u Q I rx ry h;obtain ⟨p,xs,rfl,hq,fx,fs,q⟩:=h;cases ry;rcases hq with hq|hq
 .obtain ⟨its,r,pl,hz⟩:=I.list hq;refine SeqAt.notIn_listAt (eqU x) pl.isList (λw hw=>zEU rx fx r fs w (by simpa using hw)) ⟨.bl _,H,I,rfl,?_⟩;rw[show its.toArray.any (eqU x)=its.any (eqU x) by simp,zFy r fs];exact q
 .obtain ⟨its,r,pl,hz⟩:=I.tuple hq;refine SeqAt.notIn_tupleAt (eqU x) pl (λw hw=>zEU rx fx r fs w (by simpa using hw)) ⟨.bl _,H,I,rfl,?_⟩;rw[show its.toArray.any (eqU x)=its.any (eqU x) by simp,zFy r fs];exact q
def zKU:zCI X (.builtin "len") (λxs H Q=>∃ p ys,xs=[.ref p]/\(SqL X.K H p ys\/SqT X.K H p ys)/\Q (.int ys.length) H):=by
 intro zB s σ H xs us Q I r h;obtain ⟨p,ys,rfl,hq,q⟩:=h;obtain ⟨u,rfl,rx⟩:=zEy r;cases rx;have hn:=zFL;rcases hq with hq|hq
 .obtain ⟨its,r',pl,hz⟩:=I.list hq;have hlen:=r'.length;exact Calls.call_len_list pl.isList (by simp only[zXL] <;> omega) ⟨.int ys.length,H,I.tok _,⟨s.toks+1,by rw[zXL,hlen]⟩,q⟩
 .obtain ⟨its,r',pl,hz⟩:=I.tuple hq;have hlen:=r'.length;exact len_tuple pl (by simp only[zXL] <;> omega) ⟨.int ys.length,H,I.tok _,⟨s.toks+1,by rw[zXL,hlen]⟩,q⟩
def zKc:zCI X (.type "list") (λxs H Q=>∃ p ys,xs=[.ref p]/\(SqL X.K H p ys\/SqT X.K H p ys) /\ ∀ l,H l=none->Q (.ref l) (upd H l (.lst ys))):=by
 intro zB s σ H xs us Q I r h;obtain ⟨p,ys,rfl,hq,q⟩:=h;obtain ⟨u,rfl,rx⟩:=zEy r;cases rx
 have fin:∀ (its:Yf),zg ys its->ys.length<=sizeLine -> ∀ (h':Heap) (c':Nat),(∀ b o',s.heap.get? b=some o'->h'.get? b=some o') ->
   h'.get? s.heap.objs.size=some { cls:=.type "list", dict:=none,data:=.seq its.toArray c',slots:=#[] }->EP X zB σ Q (.ref s.heap.objs.size) { s with heap:=h' }:=λits r' hz h' c' kp e=>
  ⟨.ref s.heap.objs.size,_,I.laid (t':=s.toks) kp (zXJ _) (show zAV X.prog X.w _ h' _ (.lst ys)from ⟨hz,its,c',r',e⟩),rfl,q _ (I.hok.fresh (zXJ _))⟩
 rcases hq with hq|hq
 .obtain ⟨its,r',pl,hz⟩:=I.list hq;have hlen:=r'.length;obtain ⟨o,ho,hc,n,hd⟩:=pl.isList;exact call_list_seq p (.inl rfl) ho hc hd (λh' c' kp e=>fin its r' hz h' c' kp e) (by simp only[zXL] <;> omega)
 .obtain ⟨its,r',pl,hz⟩:=I.tuple hq;have hlen:=r'.length;obtain ⟨o,ho,hc,n,hd⟩:=pl;exact call_list_seq p (.inr rfl) ho hc hd (λh' c' kp e=>fin its r' hz h' c' kp e) (by simp only[zXL] <;> omega)
def zIq:zCI X (.type "tuple") (λxs H Q=>∃ p ys,xs=[.ref p]/\((SqL X.K H p ys /\ ∀ l,H l=none->Q (.ref l) (upd H l (.tup ys)))\/(SqT X.K H p ys/\Q (.ref p) H))):=by
 intro zB s σ H xs us Q I r h;obtain ⟨p,ys,rfl,h⟩:=h;obtain ⟨u,rfl,rx⟩:=zEy r;cases rx;rcases h with ⟨hq,q⟩|⟨hq,q⟩
 .obtain ⟨its,r',pl,hz⟩:=I.list hq;have hlen:=r'.length;refine call_tuple_list pl.isList (λh' kp=>?_) (by simp only[zXL] <;> omega);have I1:Inv X zB σ H { s with heap:=h' }:=I.kept (t':=s.toks) kp;have I2:Inv X zB σ (upd H h'.objs.size (.tup ys)) { s with heap:=h'.push { cls:=.type "tuple", data:=.seq its.toArray } } :=
   I1.laid (t':=s.toks) (λb o e=>zXE _ e) (zXJ _) (show zAV X.prog X.w _ _ _ (.tup ys)from ⟨hz,its,r',zCJ.new _ _⟩)
  exact ⟨.ref h'.objs.size,_,I2,rfl,q _ (I1.hok.fresh (zXJ _))⟩
 .obtain ⟨its,r',pl,hz⟩:=I.tuple hq;exact call_tuple_same pl ⟨.ref p,H,I,rfl,q⟩
def tyV (K:Yb) (T:String) (x:V) (H:Hp):Prop:=match x with
 |.str _=>T = "str"
 |.int _=>T = "int"
 |.ref p=>(T = "list" /\ ∃ xs,SqL K H p xs)\/(T = "tuple" /\ ((∃ o,K.lookup p=some o/\o.cls=.type "tuple" /\ o.dict=none) \/ ∃ xs,H p=some (.tup xs))) \/
   (T = "dict" /\ ((∃ kvs,H p=some (.dK kvs)) \/ ∃ kvs,H p=some (.dT kvs)))\/(T = "set" /\ ∃ S n,H p=some (.set S n))
 |_=>False
def zVI {zB:Yd} {σ:St} {H:Hp} {s:Yl} {T:String} {x:V} {v:Yu} (I:Inv X zB σ H s) (r:zw x v) (ty:tyV X.K T x H) :
  s.TypeIs v T /\ ∀ a,v=.ref a -> ∃ ob,s.heap.get? a=some ob/\ob.dict=none:=by
 cases x with
 |str z=>
  obtain ⟨t,rfl⟩:=r;cases (show T = "str" from ty);exact ⟨typeIs_str s z t,λ_ e=>nomatch e⟩
 |int i=>
  obtain ⟨t,rfl⟩:=r;cases (show T = "int" from ty);exact ⟨typeIs_int s i t,λ_ e=>nomatch e⟩
 |ref p=>
  cases r;rcases ty with ⟨rfl,xs,hq⟩|⟨rfl,⟨o,hk,hc,hd⟩|⟨xs,hq⟩⟩|⟨rfl,hk⟩|⟨rfl,S,n,hk⟩
  .obtain ⟨its,_,pl,_⟩:=I.list hq;refine ⟨pl.isList.typeIs,λa e=>?_⟩;cases e;obtain ⟨o,n,e,c,hd,_⟩:=pl;exact ⟨o,e,hd⟩
  .refine ⟨⟨o,I.kIn p o hk,hc⟩,λa e=>?_⟩;cases e;exact ⟨o,I.kIn _ o hk,hd⟩
  .obtain ⟨_,its,_,o,e,c,_,hd⟩:=I.hok p _ hq;refine ⟨⟨o,e,c⟩,λa e2=>?_⟩;cases e2;exact ⟨o,e,hd⟩
  .have z:∃ o,s.heap.get? p=some o/\o.ExactDict:=by
    rcases hk with ⟨kvs,hk⟩|⟨kvs,hk⟩
    .obtain ⟨_,_,_,_,o,_,_,e,ex,_⟩:=I.hok p _ hk;exact ⟨o,e,ex⟩
    .obtain ⟨_,_,_,_,o,_,_,e,ex,_⟩:=I.hok p _ hk;exact ⟨o,e,ex⟩
   obtain ⟨o,e,ex⟩:=z;refine ⟨⟨o,e,ex.1⟩,λa e2=>?_⟩;cases e2;exact ⟨o,e,ex.2.1⟩
  .obtain ⟨o,_,_,_,e,ex,_⟩:=I.hok p _ hk;refine ⟨⟨o,e,ex.1⟩,λa e2=>?_⟩;cases e2;exact ⟨o,e,ex.2.1⟩
 |_=>exact False.elim ty
def tBM (K:Yb) (T:String) (r:V->List V->Hp->VK->Prop) (to:TE) (t:TA):TE:=λσ H Q=>to σ H λx H1=>tyV K T x H1/\t σ H1 λxs H2=>r x xs H2 Q
variable {o e:Expr} {es:Yi} {to:TE} {t:TA} {name:Str} {apos cpos:Pos} {T id:String} {r:V->List V->Hp->VK->Prop}
noncomputable def zN1 (pa:PlainAttrs T) (slot:Slot T name id) (hty:typeOf (.builtin id)=pure (.type "method_descriptor")) (hm:MtR X id r) (ho:PE X o to) (ha:PA X (e::es) t)
  (hbase:attributeBase o name X.env (eval o X.env)=eval o X.env:=by rfl)
  (hfew:((backTo cpos (starEach (e::es) X.env)).all (λx=> !x.1)&&(backToKw cpos (keywordEach [] X.env)).all (λx=>x.1.isSome)
   && decide ((e::es).length+([]:List Keyword).length+(if ([]:List Keyword).isEmpty then 0 else 1)<30))=true:=by rfl)
  (hline:(apos.endLine==cpos.line)=true:=by rfl) (hs:starEach (e::es) X.env=(false,eval e X.env)::starEach es X.env:=by rfl) (hplain:(backTo cpos (starEach es X.env)).any (·.1)=false:=by rfl) :
  PE X (.Call (.Attribute o name apos) (e::es) [] cpos) (tBM X.K T r to t):=by
 intro zB s σ H Q I h;refine wpAny_Call_method_late hbase hfew hline rfl (thn (ho zB s σ H _ I h) λv s1 ⟨x,H1,I1,r1,ty,q1⟩=>?_);obtain ⟨h1,h2⟩:=zVI I1 r1 ty;refine ⟨T,id,pa,slot,hty,h1,h2,?_⟩;have hA:=ha cpos zB s1 σ H1 _ I1 q1;rw[hs]at hA ⊢;refine Calls.callWith_builtin (by show (false||(backTo cpos (starEach es X.env)).any (·.1))=false;rw[hplain] <;> rfl) (Calls.evalArgs_plain ?_);exact thn hA λus s2 ⟨vs,H2,I2,r2,q2⟩=>hm zB s2 σ H2 x vs v us Q I2 r1 r2 q2
end
def MtM (X:Cx) (id:String) (r:V->List V->Hp->VK->Prop):Prop :=
 ∀ (zB:Yd) (s:Yl) (σ:St) (H:Hp) (x:V) (xs:List V) (v:Yu) (us:Yf) (Q:VK),Inv X zB σ H s->zw x v->zg xs us->r x xs H Q ->
  wpAny (model X.prog X.w) X.A (call (.builtin id) (v::us)) (EP X zB σ Q) X.xe s
def zg.one:∀ {x:V} {us:Yf},zg [x] us -> ∃ u,us=[u]/\zw x u
 |_,_,.cons r .nil=>⟨_,rfl,r⟩
def zg.eraseIdx:∀ {xs:List V} {us:Yf} (i:Nat),zg xs us->zg (xs.eraseIdx i) (us.eraseIdx i)
 |_,_,_,.nil=> .nil
 |_,_,0,.cons _ t=>t
 |_,_,i+1,.cons r t=> .cons r (zg.eraseIdx i t)
def zg.rep {xs:List V} {us:Yf} (h:zg xs us):∀ k:Nat,zg (List.replicate k xs).flatten (List.replicate k us).flatten
 |0=> .nil
 |k+1=>by
  rw[zYW,zYW,zZC,zZC];exact zg.append h (zg.rep h k)
theorem zIu {α:Type}:∀ (l:List α) (i:Nat),(l.eraseIdx i).length<=l.length
 |[],_=>zXJ _
 |_::_,0=>Nat.le_succ _
 |_::r,i+1=>Nat.succ_le_succ (zIu r i)
theorem zGB (its:Yf):∀ (k:Nat) (acc:Yf),
  List.foldl (λx1 x2=>x1++x2) acc.toArray (List.replicate k its.toArray)=(acc++(List.replicate k its).flatten).toArray
 |0,acc=>by simp
 |k+1,acc=>by
  have e:acc.toArray++its.toArray=(acc++its).toArray:=by simp
  have e2:(acc++its)++(List.replicate k its).flatten=acc++(List.replicate (k+1) its).flatten:=by
   rw[zYW,zZC,zYJ]
  rw[<-e2,<-zGB its k (acc++its),<-e,zYW,List.foldl_cons]
section
variable {X:Cx} {zB:Yd} {σ:St} {H:Hp} {s:Yl} {l b:Yt} {xs ys zs:List V}
def Inv.lset {its its':Yf} {n:Nat} {f:Array Value->Array Value} {t':Nat} (I:Inv X zB σ H s) (hH:H l=some (.lst xs))
  (e:s.heap.get? l=some { cls:=.type "list", data:=.seq its.toArray n }) (hf:f its.toArray=its'.toArray) (hv:zg ys its') (hz:ys.length<=sizeLine) :
  Inv X zB σ (upd H l (.lst ys)) { s with heap:=s.heap.update l (Obj.mapSeq f),toks:=t' }:=by
 have q:=PySem.IsL.update e f;rw[hf]at q;refine I.write (x:=l) (e:=l) (by rw[hH];exact trivial) (.inl rfl) (λb' u hb hu=>(zXu s.heap (Obj.mapSeq f) (Ne.symm hb)).trans hu) ⟨_,q⟩ ?_;exact ⟨hz,its',_,hv,q⟩
def Inv.lnew {its:Yf} {t':Nat} (I:Inv X zB σ H s) (hv:zg ys its) (hz:ys.length<=sizeLine) :
  Inv X zB σ (upd H s.heap.objs.size (.lst ys)) { s with heap:=s.heap.push { cls:=.type "list", data:=.seq its.toArray },toks:=t' } :=
 I.laid (λ_ _ q=>zXE _ q) (zXJ _) ⟨hz,its,0,hv,zXN _ rfl⟩
def Inv.fresh (I:Inv X zB σ H s):H s.heap.objs.size=none:=I.hok.fresh (zXJ _)
def Inv.lstM (I:Inv X zB σ H s) (hH:H l=some (.lst xs)):xs.length<=sizeLine /\ ∃ (its:List Value) (n:Nat),zg xs its/\xs.length=its.length/\s.heap.get? l=some { cls:=.type "list", data:=.seq its.toArray n }:=by
 obtain ⟨z,its,n,r,e⟩:=I.hok l _ hH;exact ⟨z,its,n,r,r.length,e⟩
def zLG {n:Nat} (h:n<=sizeLine):Builtin.List.listTooLong n=false:=by
 unfold Builtin.List.listTooLong;exact zXm (by omega)
end
section
variable {X:Cx}
def zNj:V->List V->Hp->VK->Prop:=λx vs H Q=>∃ l xs y,x=.ref l/\vs=[y]/\H l=some (.lst xs)/\xs.length<sizeLine/\Q .non (upd H l (.lst (xs++[y])))
def zO3:MtM X "list.append" zNj:=by
 intro zB s σ H x vs v us Q I rx rv h;obtain ⟨l,xs,y,rfl,rfl,hH,hz,q⟩:=h;cases rx;obtain ⟨u,rfl,ru⟩:=rv.one;obtain ⟨z,its,n,r,hl,e⟩:=I.lstM hH;refine call_meets F.slot_list_append ⟨_,e,rfl⟩ F.entry_list_append (F.args_list_append_2 _ _) (PySem.list_append l its.toArray n u (by rw[zXL];omega)) ⟨e,?_⟩;refine ⟨.non,_,I.lset (its':=its++[u]) hH e (by simp) (r.append (.cons ru .nil)) ?_,rfl,q⟩;rw[zXT,zaS];omega
def zNe:V->List V->Hp->VK->Prop:=λx vs H Q=>∃ l b xs zs,x=.ref l/\vs=[.ref b]/\H l=some (.lst xs)/\H b=some (.lst zs)/\xs.length+zs.length<=sizeLine/\Q .non (upd H l (.lst (xs++zs)))
def zOx:MtM X "list.extend" zNe:=by
 intro zB s σ H x vs v us Q I rx rv h;obtain ⟨l,b,xs,zs,rfl,rfl,hH,hB,hz,q⟩:=h;cases rx;obtain ⟨u,rfl,ru⟩:=rv.one;cases ru;obtain ⟨z,its,n,r,hl,e⟩:=I.lstM hH;obtain ⟨z2,its2,n2,r2,hl2,e2⟩:=I.lstM hB;have hsz:its.toArray.size+its2.toArray.size<=sizeLine:=by rw[zXL,zXL];omega
 have hlong:¬ (!its.toArray.isEmpty&&Builtin.List.listTooLong (its.toArray.size+its2.toArray.size))=true:=by
  rw[zLG hsz,Bool.and_false];exact zXZ
 refine call_meets F.slot_list_extend ⟨_,e,rfl⟩ F.entry_list_extend (F.args_list_extend_2 _ _)
  (AutoSeq1.list_extend_list_list_0 l its.toArray n b its2.toArray n2 hlong (by rw[zXL];omega) (by omega)) ⟨e,e2,?_⟩
 refine ⟨.non,_,I.lset (its':=its++its2) hH e (by simp) (r.append r2) ?_,rfl,q⟩;rw[zXT];omega
def zPh:V->List V->Hp->VK->Prop:=λx vs H Q=>∃ l xs i k y,x=.ref l/\vs=[.int i]/\H l=some (.lst xs) /\ -(2 ^ 63)<=i/\i<2 ^ 63/\seqIndex? i xs.length=some k/\xs[k]?=some y/\Q y (upd H l (.lst (xs.eraseIdx k)))
def zRo:MtM X "list.pop" zPh:=by
 intro zB s σ H x vs v us Q I rx rv h;obtain ⟨l,xs,i,k,y,rfl,rfl,hH,h1,h2,hk,hy,q⟩:=h;cases rx;obtain ⟨u,rfl,ru⟩:=rv.one;obtain ⟨t,rfl⟩:=ru;obtain ⟨z,its,n,r,hl,e⟩:=I.lstM hH;obtain ⟨w,hw,rw'⟩:=r.get hy
 refine call_meets F.slot_list_pop ⟨_,e,rfl⟩ F.entry_list_pop (F.args_list_pop_2 _ _)
  (MeetsSeq.list_pop_at l its.toArray n i t k w (fitsIndex_both h1 h2) (by rw[zXL,<-hl];exact hk) (by rw[<-Array.getElem?_toList];exact hw) (by rw[zXL];omega)) ⟨e,?_⟩
 refine ⟨y,_,I.lset (its':=its.eraseIdx k) hH e ?_ (r.eraseIdx k) ?_,rw',q⟩
 .show its.toArray.eraseIdxIfInBounds k=(its.eraseIdx k).toArray;rw[List.eraseIdxIfInBounds_toArray]
 .have:=zIu xs k;omega
def zWR:R2:=λx y H Q=>∃ l b xs zs,x=.ref l/\y=.ref b/\H l=some (.lst xs)/\H b=some (.lst zs)/\xs.length+zs.length<=sizeLine /\ ∀ p,H p=none->Q (.ref p) (upd H p (.lst (xs++zs)))
def zUr:OpR X (binaryOp .Add) zWR:=by
 intro zB s σ H x y v u Q I rx ry h;obtain ⟨l,b,xs,zs,rfl,rfl,hH,hB,hz,q⟩:=h;cases rx;cases ry;obtain ⟨z,its,n,r,hl,e⟩:=I.lstM hH;obtain ⟨z2,its2,n2,r2,hl2,e2⟩:=I.lstM hB;refine PySem.P.add_list e e2 ?_ (by rw[zXL,zXL];omega);have ea:its.toArray++its2.toArray=(its++its2).toArray:=by simp
 rw[ea];exact ⟨.ref _,_,I.lnew (t':=s.toks) (r.append r2) (by rw[zXT];omega),rfl,q _ I.fresh⟩
def zWC:R2:=λx y H Q=>∃ l k xs,x=.ref l/\y=.int k/\H l=some (.lst xs) /\ -(2 ^ 63)<=k/\k<2 ^ 63/\xs.length*k.toNat<=sizeLine /\
 ∀ p,H p=none->Q (.ref p) (upd H p (.lst (List.replicate k.toNat xs).flatten))
def zJe {α:Type} (xs:List α) (k:Nat):(List.replicate k xs).flatten.length=k*xs.length:=by
 induction k with
 |zero=>simp
 |succ k ih=>rw[zYW,zZC,zXT,ih,Nat.succ_mul,Nat.add_comm]
def zUX:OpR X (binaryOp .Mult) zWC:=by
 intro zB s σ H x y v u Q I rx ry h;obtain ⟨l,k,xs,rfl,rfl,hH,h1,h2,hz,q⟩:=h;cases rx;obtain ⟨t,rfl⟩:=ry;obtain ⟨z,its,n,r,hl,e⟩:=I.lstM hH;have hlen:its.toArray.size*k.toNat<=sizeLine:=by rw[zXL,<-hl];exact hz
 have hcap:¬ its.toArray.size*k.toNat>(2 ^ 63-1) / 8:=by
  have:(sizeLine:Nat)<=(2 ^ 63-1) / 8:=by decide
  omega
 have hfit:¬ (!Builtin.List.listFitsIndex k)=true:=by
  rw[fitsIndex_both h1 h2];exact zXZ
 have hlong:¬ Builtin.List.listTooLong (its.toArray.size*k.toNat)=true:=by
  rw[zLG hlen];exact zXZ
 have hnew:List.foldl (λx1 x2=>x1++x2) #[] (List.replicate (if its.toArray.isEmpty=true then 0 else k.toNat) its.toArray)=(List.replicate k.toNat its).flatten.toArray:=by
  have f0:∀ m:Nat,List.foldl (λx1 x2=>x1++x2) #[] (List.replicate m its.toArray)=(List.replicate m its).flatten.toArray:=λm=>by
   have:=zGB its m [];rw[zZV]at this;exact this
  rw[f0];cases its with
  |nil=>simp
  |cons a r'=>rw[zXV (by simp)]
 refine wpAny_binaryOp_repeat_ref (T := "list") (U := "int") (by decide) ⟨_,e,rfl⟩ (λs'=>typeIs_int s' k t) noFill_list_mul F.fills_int_mul F.slot_int_rmul repeat_list F.slot_int_index.lookup
  (call_meets F.slot_int_rmul (typeIs_int s k t) F.entry_int_rmul (F.args_int_rmul_2 _ _) (int___rmul___int_list k t l its.toArray n)
   ⟨e,rfl,⟨_,e,rfl⟩,call_meets F.slot_list_mul ⟨_,e,rfl⟩ F.entry_list_mul (F.args_list_mul_2 _ _) (AutoListH.list___mul___list_int_3 l its.toArray n k t hfit hcap hlong) ⟨e,?_⟩⟩)
 rw[hnew];exact ⟨.ref _,_,I.lnew (t':=s.toks) (r.rep k.toNat) (by rw[zJe,Nat.mul_comm];exact hz),rfl,q _ I.fresh⟩
end
end L2
namespace Att
open PySem PySem.W PySem.Calls PyProof.Rows
def zGv {P:Params} {h:Heap}:∀ (ns:Ye) (vs:Yf),WellAll P h vs (ns.map WData.int)->IntsAre vs ns:=by
 intro ns;induction ns with
 |nil=>
  intro vs w;rw[List.map_nil]at w;cases w;exact .nil
 |cons n ns ih=>
  intro vs w;rw[zXW]at w;cases w with
  |cons a b=>
   cases a;exact .cons _ _ (ih _ b)
def zOw {l:OpenLaw} {n:Nat} (hn:l.most=some n) {P:Params} {h:Heap} {args:List WData} {vals:Yf}
  (hpre:l.row.toRowW.claim.pre args=true) (hwl:WellAll P h vals args) :
  ∃ a vs ns,vals=[Value.ref a]/\args=[WData.list (ns.map WData.int)]/\h.get? a=some { cls:=.type "list", data:=.seq vs.toArray }/\IntsAre vs ns/\ns.length<=n:=by
 have hsh:WShape.hasAll [] args [.list .int]=true:=(pre_splitW hpre).1;have hc:l.pre.holds [] { args:=args }=true:=(pre_splitW hpre).2;obtain ⟨d,r,rfl,h1,h2⟩:=hasAllW_cons hsh;obtain rfl:=hasAllW_nil h2;obtain ⟨xs,rfl,h3⟩:=hasW_list h1;obtain ⟨ns,rfl⟩:=items_int h3;have hlen:ns.length<=n:=by
  unfold OpenLaw.pre at hc;have h4:(WTm.not (.lt (.lit (.int (n:Int))) (.len (.arg 0)))).holds [] { args:=[.list (ns.map .int)] }=true:=by
   have h4:=(holds_andW hc).1;rw[hn]at h4;exact h4
  have h5:=condW_of h4 (w_not (w_lt w_lit (w_len_list (w_arg rfl))));rw[zXM]at h5;refine Nat.le_of_not_lt λq=>?_;have q':(n:Int)<((ns.length:Nat):Int):=by omega
  first
   | (rw[zYL q']at h5;exact absurd h5 (by decide))
   | (simp at h5;omega)
 cases hwl with
 |cons w1 w2=>
  cases w2;cases w1 with
  |list ho hall=>exact ⟨_,_,ns,rfl,rfl,ho,zGv ns _ hall,hlen⟩
def zPD (l:OpenLaw) (args:List WData):l.row.toRowW.claim.post args (.bool true) args=true :=
 postW_of (r:=l.row.toRowW) (X:=(true==true))
  (show WShape.has [] (.bool true) .bool=true by first|rfl|decide|simp[WShape.has,WShape.arms,WShape.armsAll])
  (show (WTm.eq .res (.lit (.bool true))).value [] { args:=args,res:=some (.bool true),after:=args }=some (.bool (true==true))from w_eq_bool (w_res rfl) w_lit) rfl
def zK7 {l:OpenLaw} {n:Nat} {q:Ym} {loose:Yk} {XP:(Str->Option Value)->Heap->Prop} {YP:World->Heap->Prop} {d:DefRec}
  (hn:l.most=some n) (hdf:d.params.defaults=[])
  (call:∀ (w:Yo) (s₀ s₁:Yl) (mg mb:Yh) (fa:Yt) (o:Obj) (pm cd doc:Yu) (a:Yt) (vs:Yf) (ns:Ye),
   Ground q loose [] XP w s₀ mg mb s₁.heap->YP w s₁.heap ->
   s₁.heap.get? fa=some o->o.data=.func (docDef d.name d.params d.body d.scope pm cd doc)->s₁.heap.CodeRec cd d.name->mg d.name=some (.ref fa) ->
   s₁.heap.get? a=some { cls:=.type "list", data:=.seq vs.toArray }->IntsAre vs ns->ns.length<=n->s₁.gens = #[] ->
   codeAny (model l.prog w) callerA (.call (.ref fa) ⟨[.ref a],[]⟩) (λr s'=>r=.ok (.ret (.bool true))/\OldK s₁.heap s'.heap/\s'.os=s₁.os/\AllBare s'.gens) s₁) :
  WalkO q loose XP YP l.row.toRowW d [] (λf vs=>PySem.call f vs):=by
 intro w s₀ s₁ mg mb G Y fa o pm cd doc dV kV ho hd hcd hD hmg hg args vals as hpre hlay hrd hwl hlo;obtain rfl:dV=.none:=Dflts.none hD hdf;obtain rfl:kV=.none:=Dflts.noKw hD;obtain ⟨a,vs,ns,rfl,rfl,hobj,hints,hlen⟩:=zOw hn hpre hwl;refine enter_call (codeAny_mono (call w s₀ s₁ mg mb fa o pm cd doc a vs ns G Y ho (fd_plain hd) hcd hmg hobj hints hlen hg) λr s' hq=>?_);obtain ⟨rfl,h2,h3,h4⟩:=hq;exact ⟨.inl ⟨.bool true,.bool true,[],rfl,λ_=>rfl,.bool true,zPD l _,λ_=>⟨List.Pairwise.nil,λ_ hm=>(nomatch hm)⟩⟩,h2,h3,h4⟩
end Att
namespace L2
open PySem PySem.Spec PyProof.Rows
theorem zJG:∀ {vs:Yf} {ns:Ye},IntsAre vs ns->zg (ns.map V.int) vs
 |_,_,.nil=> .nil
 |_,_,.cons n t h=> .cons ⟨t,rfl⟩ (zJG h)
def zS3 (H:Hp):Prop:=∀ b,H b=none \/ ∃ o xs,H b=some (.frz o (.lst xs))
def zQ9 {P:Ym} {w:Yo} {K:Yb} {mg mb:Yh} {CX:CXT} {k:Nat} {fa a:Yt} {fd:Yz} {x:Str} {sp:Sp} {s₁:Yl} {vs:Yf} {ns:Ye}
  (KX:K.In s₁.heap) (hns:s₁.heap.Ns mainGlobals mg) (hb:s₁.heap.Ns builtinsNs mb) (hbb:∀ x:Str,x ≠ "__name__" -> mb x=bootBuiltins x) (hlim:s₁.heap.NoLimit) (hg:s₁.gens = #[])
  (ha:s₁.heap.get? a=some { cls:=.type "list", data:=.seq vs.toArray }) (hi:IntsAre vs ns) (hl:ns.length<=sizeLine) (hr:Room k callerA)
  (F:∀ base:Heap,K.In base->base.Ns mainGlobals mg->FnOk P w K mg base CX k fa fd [x] sp) (hbind:∀ (s:Yl) (u:Yu),BindsTo s fd ⟨[u],[]⟩ [(x,u)])
  (hsp:∀ H:Hp,zS3 H->SqL K H a (ns.map V.int)->sp [.ref a] H (λv _=>v=.bl true) λ_ _ _=>False)
  (hCX:∀ H e s',CX [] H s₁ (λ_ _ _=>False) e s'->False) :
  codeAny (model P w) callerA (.call (.ref fa) ⟨[.ref a],[]⟩) (λr s'=>r=.ok (.ret (.bool true))/\OldK s₁.heap s'.heap/\s'.os=s₁.os/\AllBare s'.gens) s₁:=by
 have rv:=zJG hi;have lenV:=hi.length
 have core:∀ H:Hp,zS3 H->SqL K H a (ns.map V.int)->HOk P w H s₁.heap->(∀ b,H b≠none->b=a)->(H a≠none->K.lookup a=none) ->
   codeAny (model P w) callerA (.call (.ref fa) ⟨[.ref a],[]⟩) (λr s'=>r=.ok (.ret (.bool true))/\OldK s₁.heap s'.heap/\s'.os=s₁.os/\AllBare s'.gens) s₁:=by
  intro H hO hS hok hA hK;have base_of:∀ {b:Yt} {o:Obj},s₁.heap.get? b=some o->H b=none->(zKV s₁.heap H).get? b=some o:=λe n=>zRO e n;have noA:∀ {b:Yt} {o:Obj} {es:Array DictEntry} {ep:Nat},s₁.heap.get? b=some o->o.data=.dict es ep->H b=none:=λ{b o es ep} e d=>by
   cases q:H b with
   |none=>rfl
   |some u=>
    have e':b=a:=hA b (by rw[q];simp);subst e';rw[ha]at e;cases e;have d':Data.seq vs.toArray _=Data.dict es ep:=d;cases d'
  have nsK:∀ {b:Yt} {m:Yh},s₁.heap.Ns b m->(zKV s₁.heap H).Ns b m:=λ{b m} ⟨o,es,ep,e,d,r⟩=>⟨o,es,ep,base_of e (noA e d),d,r⟩;have hKb:K.In (zKV s₁.heap H):=λb o e=>base_of (KX b o e) (by
   cases q:H b with
   |none=>rfl
   |some u=>
    have e':b=a:=hA b (by rw[q];simp);subst e';rw[hK (by rw[q];simp)]at e;cases e)
  have hM:Mod K mg (zKV s₁.heap H):=⟨hKb,nsK hns,⟨mb,nsK hb,hbb⟩,let ⟨mc,h1,h2⟩:=hlim;⟨mc,nsK h1,h2⟩⟩;have e0:Env0 P w K mg (zKV s₁.heap H) callerA [] s₁ H:=⟨rfl,hM,λb o e=>zTO e,Nat.le_of_eq (zPV _ _),trivial,λb hb=>absurd (show b∈([]:List Addr)from hb) (by simp),hok,.of_eq hg⟩;refine codeAny_mono ((F _ hKb (nsK hns)).run callerA [] s₁ H ⟨[.ref a],[]⟩ [.ref a] [.ref a] _ _ hr e0 (hbind s₁ (.ref a)) (.cons rfl .nil) (hsp H hO hS)) λr s' h=>?_;cases r with
  |error e=>exact (hCX H e s' h).elim
  |ok fl=>
   cases fl with
   |next=>exact False.elim h
   |brk=>exact False.elim h
   |cont=>exact False.elim h
   |ret u=>
    obtain ⟨v,H',os,bare,un,hok',r',q⟩:=h;have q':v=.bl true:=q;subst q';obtain rfl:u=Value.bool true:=r';refine ⟨rfl,OldK.of_keep λb o e=>?_,os,bare⟩;cases q:H b with
    |none=>exact un.keep b o e q (by intro z;exact absurd (show b∈([]:List Addr)from z) (by simp)) (by simp)
    |some u=>
     rcases hO b with z|⟨ob,xs,z⟩
     .rw[q]at z;cases z
     .have z2:=un.frzs b ob _ z;obtain ⟨e1,_⟩:=hok b _ z;obtain ⟨e2,_⟩:=hok' b _ z2;rw[e]at e1;cases e1;exact e2
 cases hk:K.lookup a with
 |some o=>
  have e:=KX a o hk;rw[ha]at e;cases e;refine core (λ_=>none) (λ_=> .inl rfl) (.inr ⟨_,vs.toArray,_,hk,rfl,rfl,rfl,by rw[zXL,lenV];exact hl,by simpa using rv⟩) (λb u z=>by have z':(none:Option HO)=some u:=z;cases z') (λb z=>absurd rfl z) λz=>absurd rfl z
 |none=>
  refine core (λb=>if b=a then some (.frz { cls:=.type "list", data:=.seq vs.toArray } (.lst (ns.map V.int))) else none) (λb=>?_) (.inl (.inr ⟨{ cls:=.type "list", data:=.seq vs.toArray },zXS rfl⟩)) (λb u z=>?_) (λb z=>?_) λ_=>hk
  .by_cases hb:b=a
   .exact .inr ⟨_,_,zXS hb⟩
   .exact .inl (zXV hb)
  .by_cases hb:b=a
   .have z':=(zXS hb).symm.trans z;cases z';subst hb;exact ⟨ha,by rw[zXM];exact hl,vs,_,rv,ha⟩
   .have z':=(zXV hb).symm.trans z;cases z'
  .by_cases hb:b=a
   .exact hb
   .exact absurd (zXV hb) z
def zSC {l:PySem.W.OpenLaw} {n k:Nat} {q:Ym} {loose:Yk} {XP:(Str->Option Value)->Heap->Prop} {YP:World->Heap->Prop} {d:DefRec} {K:Params->PySem.W.Frag} {CX:World->CXT} {sp:World->Sp} {x:Str}
  (hn:l.most=some n) (hn2:n<=sizeLine) (hdf:d.params.defaults=[]) (hr:Room k callerA)
  (hY:∀ (w:Yo) (h:Heap),YP w h->(K w.params).In h)
  (F:∀ (w:Yo) (mg:Yh) (fa:Yt) (h:Heap),(K w.params).In h->h.Ns mainGlobals mg->mg d.name=some (.ref fa) ->
   ∃ fd:FuncData,(∀ (s:Yl) (u:Yu),BindsTo s fd ⟨[u],[]⟩ [(x,u)]) /\
    ∀ base:Heap,(K w.params).In base->base.Ns mainGlobals mg->FnOk l.prog w (K w.params) mg base (CX w) k fa fd [x] (sp w))
  (hsp:∀ (w:Yo) (H:Hp) (a:Yt) (ns:Ye),ns.length<=n->zS3 H->SqL (K w.params) H a (ns.map V.int)->sp w [.ref a] H (λv _=>v=.bl true) λ_ _ _=>False)
  (hCX:∀ (w:Yo) (H:Hp) (s:Yl) (e:Yu) (s':Yl),CX w [] H s (λ_ _ _=>False) e s'->False) :
  PySem.W.WalkO q loose XP YP l.row.toRowW d [] (λf vs=>PySem.call f vs):=by
 refine Att.zK7 hn hdf λw s₀ s₁ mg mb fa o pm cd doc a vs ns G Y ho hd hcd hmg hobj hints hlen hg=>?_;have KX:=hY w _ Y;obtain ⟨fd,hb,hF⟩:=F w mg fa _ KX G.T.g hmg;exact zQ9 KX G.T.g G.T.b G.T.builtins G.T.nolimit hg hobj hints (zXe hlen hn2) hr hF hb (λH hO hS=>hsp w H a ns hlen hO hS) λH e s'=>hCX w H s₁ e s'
def zEi (s:Stmt):Arguments:=match s with
 |.FunctionDef _ a _ _ _ _ _ _ _ _=>a
 |_=>{ posonlyargs:=[],args:=[],vararg:=none,kwonlyargs:=[],kw_defaults:=[],kwarg:=none,defaults:=[] }
def zCs (s:Stmt):List Stmt:=match s with
 |.FunctionDef _ _ b _ _ _ _ _ _ _=>b
 |_=>[]
def zU (s:Stmt):Scope:=match s with
 |.FunctionDef _ _ _ _ _ _ sc _ _ _=>sc
 |_=>{ kind:=.function,names:=[],isGenerator:=false,isCoroutine:=false }
abbrev CX0:CXT:=λ_ _ _ _ _ _=>False
abbrev E0:XK:=λ_ _ _=>False
def zVV {X:Cx}:zM9 CX0 X E0:=λ_ _ _ _ _ _ _ h=>h.elim
structure Fun (K:Yb) (x qual:Str) (st:Stmt) (f:Yt) (fd:Yz):Prop where
 ex:∃ (oc:Yu) (od:Option Addr) (kV doc pm:Yu) (an:Option Addr) (cdv ct:Yu) (osl:Array (Option Value)),
  fd=PySem.W.fnOf x qual (zEi st) (zCs st) (zU st) .none kV doc pm an cdv ct/\K.lookup f=some ⟨oc,od,.func fd,osl⟩/\PySem.W.codeIn K cdv qual=true
 kp:PySem.W.keepIn K (.ref f)=true
section
variable {P:Ym} {w:Yo} {K:Yb} {mg:Yh} {base:Heap}
def Fun.ok {x qual:Str} {st:Stmt} {f:Yt} {fd:Yz} {N ps:Yk} {k:Nat} {sp:Sp} (F:Fun K x qual st f fd) (S:FnScope N ps (zU st)) (len:∀ vs H Q E,sp vs H Q E->vs.length=ps.length)
  (hbody:∀ (cdv:Yu) (A:Yn) (outer:List Env) (s:Yl) (H:Hp) (vs:List V) (Q:VK) (E:XK),Room k (A.deeper (envOfC qual (zU st) s.heap.objs.size f cdv))->sp vs H Q E ->
   ∃ t,PSs (zM6 CX0 P w K mg base N qual (zU st) f cdv A outer s H E).nox (zCs st) t/\t { nx:=λ_ H'=>Q .non H',rt:=Q } (zEv N vs) H):FnOk P w K mg base CX0 (k+1) f fd ps sp:=by
 obtain ⟨oc,od,kV,doc,pm,an,cdv,ct,osl,rfl,lk,hcd⟩:=F.ex;refine zVk lk hcd S len λA outer s H vs Q E hr hsp=>?_;obtain ⟨t,h,q⟩:=hbody cdv A outer s H vs Q E hr hsp;exact ⟨t,h.nox,q⟩
def Fun.binds {x qual:Str} {st:Stmt} {f:Yt} {fd:Yz} {ps:Yk} (F:Fun K x qual st f fd)
  (h:∀ (kV doc pm:Yu) (an:Option Addr) (cdv ct:Yu) (us:Yf),us.length=ps.length->bindArgs (PySem.W.fnOf x qual (zEi st) (zCs st) (zU st) .none kV doc pm an cdv ct) ⟨us,[]⟩=pure (ps.zip us)):zHY K fd ps []:=by
 obtain ⟨oc,od,kV,doc,pm,an,cdv,ct,osl,rfl,lk,hcd⟩:=F.ex;exact .all (h kV doc pm an cdv ct)
def zQN {x qual:Str} {st:Stmt} {f:Yt} {oc:Yu} {od an:Option Addr} {osl:Array (Option Value)} {kV doc pm cdv ct:Yu} (l:K.lookup f=some ⟨oc,od,.func (PySem.W.fnOf x qual (zEi st) (zCs st) (zU st) .none kV doc pm an cdv ct),osl⟩)
  (c:PySem.W.codeIn K cdv qual=true) (k:PySem.W.keepIn K (.ref f)=true):Fun K x qual st f (PySem.W.fnOf x qual (zEi st) (zCs st) (zU st) .none kV doc pm an cdv ct):=⟨⟨oc,od,kV,doc,pm,an,cdv,ct,osl,rfl,l,c⟩,k⟩
end
def zGb {A:Yn} {k:Nat} (hr:Room k A):A.units+1<cLine:=Nat.lt_of_le_of_lt (Nat.add_le_add_left (by decide:1<=64) _) hr.units
section
variable {X:Cx}
noncomputable def pv (i:Nat) {x:Str} {pos:Pos} (hN:X.N[i]?=some x:=by rfl) (hv:Vis X.env.scope x:=by first|exact Or.inl rfl|exact Or.inr (Or.inl rfl)|exact Or.inr (Or.inr rfl)) (hd:(x==("__debug__" : Str))=false:=by decide)
  (hcd:(x==("__classdict__" : Str))=false:=by decide):PE X (.Name x pos) (zTy i):=zUb hN hv hd hcd
end
def zHv {A B:Prop} (h:B):if false=true then A else B:=by
 rw[zXV zXZ];exact h
def zH0 {A B:Prop} (h:A):if true=true then A else B:=by
 rw[zXS rfl];exact h
section
variable {κ:Type} [DecidableEq κ]
def zCQ (kvs:List (κ × V)) (k:κ):Option V:=(kvs.find? λkv=>decide (kv.1=k)).map (·.2)
def zB2 (kvs:List (κ × V)) (k:κ) (v:V):List (κ × V) :=
 if (kvs.any λkv=>decide (kv.1=k))=true then kvs.map (λkv=>if kv.1=k then (kv.1,v) else kv) else kvs++[(k,v)]
def zFl {p:κ × V} {r:List (κ × V)} {k:κ} (e:p.1=k):zCQ (p::r) k=some p.2:=by simp[zCQ,zYz,e]
def zFo {p:κ × V} {r:List (κ × V)} {k:κ} (e:¬ p.1=k):zCQ (p::r) k=zCQ r k:=by simp[zCQ,zYz,e]
theorem zMA (k:κ):∀ kvs:List (κ × V),(kvs.any λkv=>decide (kv.1=k))=(zCQ kvs k).isSome
 |[]=>rfl
 |p::r=>by
  rw[List.any_cons];by_cases e:p.1=k
  .simp only[zFl e,zYL e,Bool.true_or,Option.isSome_some]
  .rw[zFo e,zXm e,Bool.false_or];exact zMA k r
def zBk (kvs:List (κ × V)) (k:κ) (v:V):(zB2 kvs k v).length<=kvs.length+1:=by
 unfold zB2;split
 .rw[zXM];omega
 .rw[zXT,zXk,List.length_nil];omega
def zF6.isSome_eq (r:zF6 o u):o.isSome=u.isSome:=by
 cases o with
 |none=>cases u with
  |none=>rfl
  |some _=>exact (show False from r).elim
 |some _=>cases u with
  |none=>exact (show False from r).elim
  |some _=>rfl
def zF6.getD (r:zF6 o u) (rd:zw d d'):zw (o.getD d) (u.getD d'):=by
 cases o with
 |none=>cases u with
  |none=>exact rd
  |some _=>exact (show False from r).elim
 |some _=>cases u with
  |none=>exact (show False from r).elim
  |some _=>exact r
def KV.val {kvs:List (κ × V)} {vs:List (κ × Value)} (r:KV kvs vs) (k:κ):zF6 (zCQ kvs k) (valueAt vs k):=by
 unfold KV at r;induction r with
 |nil=>exact True.intro
 | @cons p q ps qs h t ih=>
  obtain ⟨h1,h2⟩:=h;by_cases e:p.1=k
  .have e':q.1=k:=h1.symm.trans e;have b:valueAt (q::qs) k=some q.2:=by simp[valueAt,zYz,e']
   rw[zFl e,b];exact h2
  .have e':¬ q.1=k:=λz=>e (h1.trans z);have b:valueAt (q::qs) k=valueAt qs k:=by simp[valueAt,zYz,e']
   rw[zFo e,b];exact ih
def KV.any (r:KV kvs vs) (k:κ):(kvs.any λkv=>decide (kv.1=k))=vs.any λkv=>decide (kv.1=k):=by
 unfold KV at r;induction r with
 |nil=>rfl
 |cons h t ih=>rw[List.any_cons,List.any_cons,ih,h.1]
def KV.repl (r:KV kvs vs) (k:κ) (ry:zw y u) :
  KV (kvs.map λkv=>if kv.1=k then (kv.1,y) else kv) (vs.map λkv=>if kv.1=k then (kv.1,u) else kv):=by
 unfold KV at r ⊢;induction r with
 |nil=>exact .nil
 | @cons p q ps qs h t ih=>
  rw[zXW,zXW];refine .cons ?_ ih;obtain ⟨h1,h2⟩:=h;by_cases e:p.1=k
  .rw[zXS e,zXS (h1.symm.trans e)];exact ⟨h1,ry⟩
  .rw[zXV e,zXV (λz=>e (h1.trans z))];exact ⟨h1,h2⟩
def KV.put (r:KV kvs vs) (k:κ) (ry:zw y u):KV (zB2 kvs k y) (stored vs k u):=by
 unfold zB2 stored;rw[r.any k];by_cases e:(vs.any λkv=>decide (kv.1=k))=true
 .rw[zXS e,zXS e];exact r.repl k ry
 .rw[zXV e,zXV e];exact Paired.snoc r ⟨rfl,ry⟩
def KV.length (r:KV kvs vs):kvs.length=vs.length:=Paired.length r
end
def zGd (r:zw (kV k) u):(zAO P w).is k u=true:=by
 cases k with
 |inl i=>obtain ⟨t,e⟩:=(show ∃ t,u=Value.int i t from r);subst e;exact zLj P w i t
 |inr x=>obtain ⟨t,e⟩:=(show ∃ t,u=Value.str x t from r);subst e;exact zLp P w x t
theorem zJQ:∀ {ks:List Key} {us:Yf},zg (ks.map kV) us->ItemsAre (zAO P w) ks us
 |[],_,r=>by rw[List.map_nil]at r;cases r;exact .nil
 |k::ks,_,r=>by
  rw[zXW]at r;cases r with
  |cons h t=>exact .cons (zGd h) (zJQ t)
abbrev KT (H:Hp):List (List Key × V)->List (List Key × Addr × Value)->Prop:=Paired λp q=>p.1=q.1/\H q.2.1=some (.tup (p.1.map kV))/\zw p.2 q.2.2
def KT.val {H:Hp} {kvs:List (List Key × V)} {xs:List (List Key × Addr × Value)} (r:KT H kvs xs) (k:List Key):zF6 (zCQ kvs k) ((atKey xs k).map (·.2)):=by
 induction r with
 |nil=>exact True.intro
 | @cons p q ps qs h t ih=>
  obtain ⟨h1,_,h2⟩:=h;by_cases e:p.1=k
  .have e':q.1=k:=h1.symm.trans e;have b:atKey (q::qs) k=some q.2:=by simp[atKey,zYz,e']
   rw[zFl e,b];exact h2
  .have e':¬ q.1=k:=λz=>e (h1.trans z);have b:atKey (q::qs) k=atKey qs k:=by simp[atKey,zYz,e']
   rw[zFo e,b];exact ih
def KT.repl (r:KT H kvs xs) (k:List Key) (ry:zw y u) :
  KT H (kvs.map λkv=>if kv.1=k then (kv.1,y) else kv) (xs.map (putAt k u)):=by
 induction r with
 |nil=>exact .nil
 | @cons p q ps qs h t ih=>
  rw[zXW,zXW];refine .cons ?_ ih;obtain ⟨h1,h2,h3⟩:=h;unfold putAt;by_cases e:p.1=k
  .rw[zXS e,zXS (h1.symm.trans e)];exact ⟨h1,h2,ry⟩
  .rw[zXV e,zXV (λz=>e (h1.trans z))];exact ⟨h1,h2,h3⟩
def KT.put (r:KT H kvs xs) (k:List Key) (hb:H b=some (.tup (k.map kV))) (ry:zw y u) :
  KT H (zB2 kvs k y) (storedH xs k b u):=by
 have e:(kvs.any λkv=>decide (kv.1=k))=(atKey xs k).isSome:=by
  rw[zMA,(r.val k).isSome_eq,Option.isSome_map]
 unfold zB2 storedH;rw[e];by_cases q:(atKey xs k).isSome=true
 .rw[zXS q,zXS q];exact r.repl k ry
 .rw[zXV q,zXV q];exact Paired.snoc r ⟨rfl,hb,ry⟩
def KT.keeps (r:KT H kvs xs) (ht:∀ b ys,H b=some (.tup ys)->H' b=some (.tup ys)):KT H' kvs xs :=
 Paired.mapP r λ_ _ z=>⟨z.1,ht _ _ z.2.1,z.2.2⟩
section
variable {P:Ym} {w:Yo} {H:Hp} {h:Heap} {a:Yt}
def zTi (ok:HOk P w H h) (e:Rd H a u):zAV P w H h a u:=e.ok ok
def zHt (ok:HOk P w H h) (e:Rd H a (.dK kvs)):kvs.length<=sizeLine/\(a==sysModules)=false /\ ∃ vs,KV kvs vs/\h.DictOf (zAO P w) a vs :=
 show zAV P w H h a (.dK kvs)from zTi ok e
def zRn (ok:HOk P w H h) (e:H a=some (.dK kvs)):kvs.length<=sizeLine/\(a==sysModules)=false /\ ∃ vs,KV kvs vs/\h.DictOf (zAO P w) a vs:=zHt ok (.inl e)
def zEc (ok:HOk P w H h) (e:H a=some (.tup (ks.map kV))):(tupleKind (zAO P w)).is h ks a:=by
 obtain ⟨_,its,r,o,h1,h2,⟨n,h3⟩,_⟩:=(show zAV P w H h a (.tup (ks.map kV))from ok a _ e);exact ⟨o,its.toArray,n,h1,h2,h3,by simpa using zJQ r⟩
def zHi (ok:HOk P w H h) (e:Rd H a (.dT kvs)):kvs.length<=sizeLine/\(a==sysModules)=false /\
  ∃ xs,KT H kvs xs/\h.DictOfH (tupleKind (zAO P w)) a xs:=by
 obtain ⟨z,y,xs,r,o,es,ep,h1,h2,h3,h4,h5⟩:=(show zAV P w H h a (.dT kvs)from zTi ok e);refine ⟨z,y,xs,r,o,es,ep,h1,h2,h3,h4,λx hx=>?_,h5⟩;have all:∀ {l:List (List Key × V)} {m:List (List Key × Addr × Value)},KT H l m -> ∀ x∈m,(tupleKind (zAO P w)).is h x.1 x.2.1:=by
  intro l m q;induction q with
  |nil=>intro x hx;exact nomatch hx
  | @cons p q ps qs hq t ih=>
   intro x hx;rcases zXP.mp hx with e|hx
   .subst e;exact zEc ok (by rw[<-hq.1];exact hq.2.1)
   .exact ih x hx
 exact all r x hx
def zQO (ok:HOk P w H h) (e:H a=some (.dT kvs)):kvs.length<=sizeLine/\(a==sysModules)=false /\
  ∃ xs,KT H kvs xs/\h.DictOfH (tupleKind (zAO P w)) a xs:=zHi ok (.inl e)
end
def zDa (H:Hp) (a:Yt) (y:V) (r:Option V):Prop :=
 (∃ kvs k,Rd H a (.dK kvs)/\y=kV k/\r=zCQ kvs k) \/ ∃ kvs k b,Rd H a (.dT kvs)/\y=.ref b/\H b=some (.tup (k.map kV))/\r=zCQ kvs k
def zFD (H:Hp) (a:Yt) (y v:V) (H':Hp):Prop :=
 (∃ kvs k,H a=some (.dK kvs)/\y=kV k/\kvs.length<sizeLine/\H'=upd H a (.dK (zB2 kvs k v))) \/
 ∃ kvs k b,H a=some (.dT kvs)/\y=.ref b/\H b=some (.tup (k.map kV))/\kvs.length<sizeLine/\H'=upd H a (.dT (zB2 kvs k v))
theorem zDa.k {H:Hp} {a:Yt} {kvs:List (Key × V)} {k:Key} (e:H a=some (.dK kvs)):zDa H a (kV k) (zCQ kvs k):=.inl ⟨kvs,k,.inl e,rfl,rfl⟩
def zDa.t {k:List Key} (e:H a=some (.dT kvs)) (eb:H b=some (.tup (k.map kV))):zDa H a (.ref b) (zCQ kvs k):=.inr ⟨kvs,k,b,.inl e,rfl,eb,rfl⟩
theorem zFD.k {H:Hp} {a:Yt} {kvs:List (Key × V)} {k:Key} {v:V} (e:H a=some (.dK kvs)) (hl:kvs.length<sizeLine):zFD H a (kV k) v (upd H a (.dK (zB2 kvs k v))):=.inl ⟨kvs,k,e,rfl,hl,rfl⟩
def zFD.t {kvs:List (List Key × V)} {k:List Key} (e:H a=some (.dT kvs)) (eb:H b=some (.tup (k.map kV))) (hl:kvs.length<sizeLine) :
  zFD H a (.ref b) v (upd H a (.dT (zB2 kvs k v))):=.inr ⟨kvs,k,b,e,rfl,eb,hl,rfl⟩
section
variable {X:Cx} {zB:Yd} {σ:St} {H:Hp} {s:Yl} {a:Yt} {y v:V} {u r:Yu} {o:Option V} {A:Yn} {E:Yc}
def Inv.big (I:Inv X zB σ H s):sysModules<s.heap.objs.size:=by
 have h:mainGlobals<s.heap.objs.size:=(I.mod.glob.keeps I.bk).lt;exact Nat.lt_trans (by decide) h
def zOh (hu:A.units+1<cLine) (I:Inv X zB σ H s) (g:zDa H a y (some v)) (ry:zw y u) (h:∀ w' s',Inv X zB σ H s'->zw v w'->Q w' s') :
  wpAny (model X.prog X.w) A (getItem (.ref a) u) Q E s:=by
 rcases g with ⟨kvs,k,e,ey,l⟩|⟨kvs,k,b,e,ey,eb,l⟩
 .subst ey;obtain ⟨z,hd,vs,rel,dd⟩:=zHt I.hok e;obtain ⟨w',hw,rw'⟩:=zF6.some_of (v:=v) (o:=valueAt vs k) (by rw[l];exact rel.val k);exact wpAny_getItem_of (zGd ry) dd.mapOf hw (h w' _ (I.tok _) rw')
 .subst ey;cases (show u=Value.ref b from ry);obtain ⟨z,hd,xs,rel,dd⟩:=zHi I.hok e;obtain ⟨w',hw,rw'⟩:=zF6.some_of (v:=v) (o:=(atKey xs k).map (·.2)) (by rw[l];exact rel.val k);obtain ⟨p,hp,hp2⟩:=Option.map_eq_some_iff.mp hw;refine wpAny_getItem_heap (tupleKind_room_in1 hu) (zEc I.hok eb) dd hp ?_;rw[hp2];exact h w' _ (I.tok _) rw'
def zXC (hu:A.units+1<cLine) (I:Inv X zB σ H s) (g:zDa H a y o) (ry:zw y u) (h:∀ s',Inv X zB σ H s'->Q (.bool o.isSome) s') :
  wpAny (model X.prog X.w) A (compareOp .In u (.ref a)) Q E s:=by
 rcases g with ⟨kvs,k,e,ey,l⟩|⟨kvs,k,b,e,ey,eb,l⟩
 .subst ey;obtain ⟨z,hd,vs,rel,dd⟩:=zHt I.hok e;refine wpAny_in_of (zGd ry) hd dd.mapOf ?_;rw[<-(rel.val k).isSome_eq,<-l];exact h _ (I.tok _)
 .subst ey;cases (show u=Value.ref b from ry);obtain ⟨z,hd,xs,rel,dd⟩:=zHi I.hok e;refine wpAny_in_heap (tupleKind_room_in1 hu) (zEc I.hok eb) hd dd ?_;have q:=(rel.val k).isSome_eq;rw[Option.isSome_map]at q;rw[<-q,<-l];exact h _ (I.tok _)
def zR9 (hu:A.units+1<cLine) (I:Inv X zB σ H s) (g:zDa H a y o) (ry:zw y u) (h:∀ s',Inv X zB σ H s'->Q (.bool (!o.isSome)) s') :
  wpAny (model X.prog X.w) A (compareOp .NotIn u (.ref a)) Q E s:=by
 rcases g with ⟨kvs,k,e,ey,l⟩|⟨kvs,k,b,e,ey,eb,l⟩
 .subst ey;obtain ⟨z,hd,vs,rel,dd⟩:=zHt I.hok e;refine wpAny_notIn_of (zGd ry) hd dd.mapOf ?_;rw[<-(rel.val k).isSome_eq,<-l];exact h _ (I.tok _)
 .subst ey;cases (show u=Value.ref b from ry);obtain ⟨z,hd,xs,rel,dd⟩:=zHi I.hok e;refine wpAny_notIn_heap (tupleKind_room_in1 hu) (zEc I.hok eb) hd dd ?_;have q:=(rel.val k).isSome_eq;rw[Option.isSome_map]at q;rw[<-q,<-l];exact h _ (I.tok _)
def zEj (I:Inv X zB σ H s) (mu:Mut (H a)) (hs:Heap.SameBut a s.heap h') (he:∃ q,h'.get? a=some q) (new:zAV X.prog X.w (upd H a ob) h' a ob) :
  Inv X zB σ (upd H a ob) { s with heap:=h',toks:=t' } :=
 I.write (x:=a) (e:=a) mu (.inl rfl) (λb q hb z=>(hs.2 b hb).trans z) he new
def zNB (z:kvs.length<=sizeLine) (hd:(a==sysModules)=false) (rel:KV kvs vs) (dd:h'.DictOf (zAO P w) a vs) :
  zAV P w H' h' a (.dK kvs):=⟨z,hd,vs,rel,dd⟩
def zPX (hu:A.units+1<cLine) (I:Inv X zB σ H s) (g:zFD H a y v H') (ry:zw y u) (rv:zw v r) (h:∀ s',Inv X zB σ H' s'->Q () s') :
  wpAny (model X.prog X.w) A (setItem (.ref a) u r) Q E s:=by
 rcases g with ⟨kvs,k,e,ey,l,eH⟩|⟨kvs,k,b,e,ey,eb,l,eH⟩
 .subst ey eH;obtain ⟨z,hd,vs,rel,dd⟩:=zRn I.hok e;have hz:vs.length<=sizeLine:=by rw[<-rel.length];exact z
  have hl:(zB2 kvs k v).length<=sizeLine:=by have:=zBk kvs k v;omega
  refine wpAny_setItem_pairs (hsz:=hz) (zGd ry) dd λh' dd' hs=>h _ ?_;have he:∃ q,h'.get? a=some q:=let ⟨q,_,_,hq,_⟩:=dd';⟨q,hq⟩;exact zEj I (by rw[e];exact True.intro) hs he (zNB hl hd (rel.put k rv) dd')
 .subst ey eH;cases (show u=Value.ref b from ry);obtain ⟨z,hd,xs,rel,dd⟩:=zQO I.hok e;have hz:xs.length<=sizeLine:=by rw[<-Paired.length rel];exact z
  have hl:(zB2 kvs k v).length<=sizeLine:=by have:=zBk kvs k v;omega
  refine wpAny_setItem_heap (hsz:=hz) (tupleKind_room_in1 hu) (zEc I.hok eb) dd λh' dd' hs=>h _ ?_;obtain ⟨q,es,ep,hq,h2,h3,h4,_,h5⟩:=dd';refine zEj I (by rw[e];exact True.intro) hs ⟨q,hq⟩ ⟨hl,hd,_,(rel.put k eb rv).keeps λc ys ec=>?_,q,es,ep,hq,h2,h3,h4,h5⟩;rw[zZ (zH7 ec e (λz=>nomatch z))];exact ec
end
def zTo (i:Expr):Prop:=∀ ov iv,subscripted i false ov iv=operate [ov,iv] (getItem ov iv)
def zSK {prog:Ym} {w:Yo} {A:Yn} {E:Yc} {s:Yl} {env:Env} {value slice:Expr} {pos:Pos} {T id:String} {Q:Yc}
  (hl:typeLookup (.type T) "__getitem__" = pure (some (.builtin id))) (hs:zTo slice)
  (h:wpAny (model prog w) A (eval value env) (λo s₁=>wpAny (model prog w) A (eval slice env) (λi s₂=>s₂.TypeIs o T/\wpAny (model prog w) A (getItem o i) Q E s₂) E s₁) E s) :
  wpAny (model prog w) A (eval (.Subscript value slice pos) env) Q E s:=by
 refine Subscript_ (zXj h (λo s₁ h₁=>zXj h₁ (λi s₂ h₂=>?_) λ_ _ x=>x) λ_ _ x=>x);obtain ⟨hT,h₂⟩:=h₂;unfold subscriptTail;refine zXD ?_;rw[getitemInPython_of_ne hT.not_modules];refine zXD (wpAny_specialOf hT hl ?_);have fin:wpAny (model prog w) A (subscripted slice false o i) (λr s₃=>wpAny (model prog w) A (letTemporaryGo value o r >>= λ_=>pure r) Q E s₃) E s₂:=by
  rw[hs o i];exact wpAny_operating (zXj h₂ (λr s₃ h₃=>zXD (wpAny_letTemporaryGo (zXF h₃))) λ_ _ x=>x)
 first
  |exact zXF (zXD fin)
  |exact zXD (zXF (zXD fin))
  |exact zXD fin
def zMC (I:Inv X zB σ H s) (g:zDa H a y o):s.TypeIs (.ref a) "dict" := by
 rcases g with ⟨kvs,k,e,_,_⟩|⟨kvs,k,b,e,_,_,_⟩
 .obtain ⟨_,_,vs,_,dd⟩:=zHt I.hok e;exact dd.typeIs
 .obtain ⟨_,_,xs,_,dd⟩:=zHi I.hok e;exact dd.typeIs
def zVj (td ty:TE):TE:=λσ H Q=>td σ H λx H1=>ty σ H1 λy H2=>∃ a v,x=.ref a/\zDa H2 a y (some v)/\Q v H2
def zWo (ty td:TE):TE:=λσ H Q=>ty σ H λy H1=>td σ H1 λx H2=>∃ a o,x=.ref a/\zDa H2 a y o/\Q (.bl o.isSome) H2
def zSs (ty td:TE):TE:=λσ H Q=>ty σ H λy H1=>td σ H1 λx H2=>∃ a o,x=.ref a/\zDa H2 a y o/\Q (.bl (!o.isSome)) H2
def zWh (td ty tv:TE):TS:=λD σ H=>tv σ H λv H1=>td σ H1 λx H2=>ty σ H2 λy H3=>∃ a H4,x=.ref a/\zFD H3 a y v H4/\D.nx σ H4
section
variable {X:Cx} {o i e value:Expr} {pos pos' tpos:Pos} {td ty tv:TE}
def zSQ (hu:X.A.units+1<cLine) (ho:PE X o td) (hi:PE X i ty) (hs:zTo i):PE X (.Subscript o i pos) (zVj td ty):=by
 intro zB s σ H Q I h;refine zSK PySem.F.slot_dict_getitem.lookup hs (thn (ho zB s σ H _ I h) λu s1 ⟨x,H1,I1,rx,q1⟩=>thn (hi zB s1 σ H1 _ I1 q1) λiv s2 ⟨y,H2,I2,ry,a,v,ex,g,q2⟩=>?_);subst ex;obtain rfl:u=Value.ref a:=rx;exact ⟨zMC I2 g,zOh hu I2 g ry λw' s3 I3 rw'=>⟨v,H2,I3,rw',q2⟩⟩
def zUU (hu:X.A.units+1<cLine) (hi:PE X i ty) (ho:PE X o td):PC X .In i o (zWo ty td):=by
 intro zB s σ H Q I h;refine thn (hi zB s σ H _ I h) λiv s1 ⟨y,H1,I1,ry,q1⟩=>thn (ho zB s1 σ H1 _ I1 q1) λu s2 ⟨x,H2,I2,rx,a,ov,ex,g,q2⟩=>?_;subst ex;obtain rfl:u=Value.ref a:=rx;exact zXC hu I2 g ry λs3 I3=>⟨.bl ov.isSome,H2,I3,rfl,q2⟩
def zPL (hu:X.A.units+1<cLine) (hi:PE X i ty) (ho:PE X o td):PC X .NotIn i o (zSs ty td):=by
 intro zB s σ H Q I h;refine thn (hi zB s σ H _ I h) λiv s1 ⟨y,H1,I1,ry,q1⟩=>thn (ho zB s1 σ H1 _ I1 q1) λu s2 ⟨x,H2,I2,rx,a,ov,ex,g,q2⟩=>?_;subst ex;obtain rfl:u=Value.ref a:=rx;exact zR9 hu I2 g ry λs3 I3=>⟨.bl (!ov.isSome),H2,I3,rfl,q2⟩
def zSJ (hu:X.A.units+1<cLine) (ho:PE X o td) (hi:PE X i ty) (hv:PE X value tv) (hs:swapsWith value (some (.Subscript o i pos')) pos.line X.env=pure false) :
  PS X (.Assign [.Subscript o i pos'] value pos) (zWh td ty tv):=by
 intro zB s σ H D I h;refine wpAny_Assign_Subscript (thn (hv zB s σ H _ I h) λr s1 ⟨v,H1,I1,rv,q1⟩=>thn (ho zB s1 σ H1 _ I1 q1) λu s2 ⟨x,H2,I2,rx,q2⟩=>thn (hi zB s2 σ H2 _ I2 q2) λiv s3 ⟨y,H3,I3,ry,a,H4,ex,g,q3⟩=>?_) hs;subst ex;obtain rfl:u=Value.ref a:=rx;exact zPX hu I3 g ry rv λs4 I4=>⟨σ,H4,I4,q3⟩
end
def zL6 (h:Heap) (hb:sysModules<h.objs.size):zAV P w H (h.push { cls:=.type "dict", data:=.dict #[] }) h.objs.size (.dK []) :=
 ⟨zXz _,beq_eq_false_iff_ne.mpr (Ne.symm (zXY hb)),[],.nil,Heap.DictOf.new h⟩
def zQz (h:Heap) (hb:sysModules<h.objs.size):zAV P w H (h.push { cls:=.type "dict", data:=.dict #[] }) h.objs.size (.dT []) :=
 ⟨zXz _,beq_eq_false_iff_ne.mpr (Ne.symm (zXY hb)),[],.nil,_,#[],0,zXN _ rfl,⟨rfl,rfl,rfl⟩,rfl,rfl,List.nodup_nil⟩
def zTz:TE:=λ_ H Q=>∀ p,H p=none->Q (.ref p) (upd H p (.dK []))
def zU9:TE:=λ_ H Q=>∀ p,H p=none->Q (.ref p) (upd H p (.dT []))
section
variable {X:Cx} {pos:Pos}
def zQX:PE X (.Dict [] [] pos) zTz:=λzB s σ H Q I h=>
 wpAny_Dict_empty ⟨.ref s.heap.objs.size,_,I.laid (a:=s.heap.objs.size) (o:=.dK []) (t':=s.toks) (λ_ _ q=>zXE _ q) (zXJ _) (zL6 s.heap I.big),rfl,h _ (I.hok.fresh (zXJ _))⟩
def zQt:PE X (.Dict [] [] pos) zU9:=λzB s σ H Q I h=>
 wpAny_Dict_empty ⟨.ref s.heap.objs.size,_,I.laid (a:=s.heap.objs.size) (o:=.dT []) (t':=s.toks) (λ_ _ q=>zXE _ q) (zXJ _) (zQz s.heap I.big),rfl,h _ (I.hok.fresh (zXJ _))⟩
end
def zMb:List (TE × TE)->St->Hp->(List (V × V)->Hp->Prop)->Prop
 |[],_,H,Q=>Q [] H
 | (tk,tv)::r,σ,H,Q=>tk σ H λx H1=>tv σ H1 λy H2=>zMb r σ H2 λps H3=>Q ((x,y)::ps) H3
abbrev VV:List (V × V)->List (Value × Value)->Prop:=Paired λp q=>zw p.1 q.1/\zw p.2 q.2
def PPs (X:Cx) (pos:Pos) (keys:List (Option Expr)) (values:Yi) (trs:List (TE × TE)):Prop :=
 ∀ (zB:Yd) (s:Yl) (σ:St) (H:Hp) (Q:List (V × V)->Hp->Prop),Inv X zB σ H s->zMb trs σ H Q ->
  wpAny (model X.prog X.w) X.A (evalPairs (pairTrees keys values X.env pos)) (λvs s'=>∃ ps H',Inv X zB σ H' s'/\VV ps vs/\Q ps H') X.xe s
def zR5:PPs X pos [] [] []:=λzB s σ H Q I h=>pairTrees_nil_walk ⟨[],H,I,.nil,h⟩
def zK4 (hk:PE X k tk) (hv:PE X v tv) (hr:PPs X pos ks vs trs) :
  PPs X pos (some k::ks) (v::vs) ((tk,tv)::trs):=λzB s σ H Q I h=>
 pairTrees_cons_walk (thn (hk zB s σ H _ I h) λu s1 ⟨x,H1,I1,rx,q1⟩=>thn (hv zB s1 σ H1 _ I1 q1) λw2 s2 ⟨y,H2,I2,ry,q2⟩=>
  thn (hr zB s2 σ H2 _ I2 q2) λws s3 ⟨ps,H3,I3,rel,q3⟩=>⟨(x,y)::ps,H3,I3,.cons ⟨rx,ry⟩ rel,q3⟩)
def zE4 (kvs more:List (Key × V)):List (Key × V):=more.foldl (λacc kv=>zB2 acc kv.1 kv.2) kvs
def KV.merge:∀ {more:List (Key × V)} {rs:List (Key × Value)} {kvs:List (Key × V)} {vs:List (Key × Value)},KV more rs->KV kvs vs->KV (zE4 kvs more) (merged vs rs):=by
 intro more rs kvs vs r;unfold KV at r;induction r generalizing kvs vs with
 |nil=>intro q;exact q
 | @cons p q ps qs h t ih=>
  intro r0;have e:KV (zB2 kvs p.1 p.2) (stored vs q.1 q.2):=by
   have:=r0.put p.1 h.2;rw[<-h.1];exact this
  exact ih e
theorem zEx:∀ (more kvs:List (Key × V)),(zE4 kvs more).length<=kvs.length+more.length
 |[],kvs=>by show kvs.length<=kvs.length+0;omega
 |p::r,kvs=>by
  have h1:=zEx r (zB2 kvs p.1 p.2);have h2:=zBk kvs p.1 p.2;show (zE4 (zB2 kvs p.1 p.2) r).length<=_;rw[zXk];omega
theorem zIH:∀ {kvs:List (Key × V)} {ws:List (Value × Value)},VV (kvs.map λkv=>(kV kv.1,kv.2)) ws -> ∃ rs,Carries (zAO P w) ws rs/\KV kvs rs
 |[],_,r=>by rw[List.map_nil]at r;cases r;exact ⟨[],True.intro,.nil⟩
 |p::kvs,_,r=>by
  rw[zXW]at r;cases r with
  | @cons a b as bs h t=>
   obtain ⟨rs,c,q⟩:=zIH (P:=P) (w:=w) t;obtain ⟨b1,b2⟩:=b;exact ⟨(p.1,b2)::rs,⟨zGd h.1,rfl,c⟩,.cons ⟨rfl,h.2⟩ q⟩
def zWi (trs:List (TE × TE)):TE:=λσ H Q=>∀ p,H p=none->zMb trs σ (upd H p (.dK [])) λps H2=>H2 p=some (.dK []) /\ ∃ kvs:List (Key × V),ps=kvs.map (λkv=>(kV kv.1,kv.2))/\kvs.length<=15/\Q (.ref p) (upd H2 p (.dK (zE4 [] kvs)))
def zTL (h:PPs X pos keys values trs) (hall:keys.all (·.isSome)=true) (hl:keys.length=values.length) (h0:keys≠[])
  (h15:keys.length<=15):PE X (.Dict keys values pos) (zWi trs):=by
 intro zB s σ H Q I q;have hn:=I.hok.fresh (zXJ s.heap.objs.size);have I1:=I.laid (a:=s.heap.objs.size) (o:=.dK []) (h':=s.heap.push { cls:=.type "dict", data:=.dict #[] }) (t':=s.toks) (λ_ _ q=>zXE _ q) (zXJ _) (zL6 s.heap I.big);refine wpAny_Dict_walk (knd:=zAO X.prog X.w) hall hl h0 h15 (thn (h zB _ σ _ _ I1 (q _ hn)) λws s2 ⟨ps,H2,I2,rel,e,kvs,ep,lk,q2⟩=>?_);subst ep;obtain ⟨rs,c,rk⟩:=zIH (P:=X.prog) (w:=X.w) rel;obtain ⟨z,hd,vs0,r0,dd⟩:=zRn I2.hok e;cases r0;refine ⟨rs,c,dd,λh' dd' hs=>⟨.ref s.heap.objs.size,_,?_,rfl,q2⟩⟩;have hz:(zE4 [] kvs).length<=sizeLine:=by
  have h1:=zEx kvs [];rw[List.length_nil]at h1;rw[sizeLine_eq];omega
 have he:∃ q,h'.get? s.heap.objs.size=some q:=let ⟨q,_,_,hq,_⟩:=dd';⟨q,hq⟩;exact zEj I2 (by rw[e];exact True.intro) hs he (zNB hz hd (rk.merge .nil) dd')
structure M2 (X:Cx) (o:Expr) (m:Str) (apos:Pos) (e f:Expr) (cpos:Pos):Prop where
 base:attributeBase o m X.env (eval o X.env)=eval o X.env
 few:((backTo cpos (starEach [e,f] X.env)).all (λx=> !x.1)&&(backToKw cpos (keywordEach [] X.env)).all (λx=>x.1.isSome)
  && decide (([e,f]:List Expr).length+([]:List Keyword).length+(if ([]:List Keyword).isEmpty then 0 else 1)<30))=true
 line:(apos.endLine==cpos.line)=true
 trees:backTo cpos (starEach [e,f] X.env)=[(false,eval e X.env),(false,eval f X.env)]
def IsD (H:Hp) (a:Yt):Prop:=(∃ kvs,Rd H a (.dK kvs)) \/ ∃ kvs,Rd H a (.dT kvs)
def zRa (I:Inv X zB σ H s) (d:IsD H a) :
  s.TypeIs (.ref a) "dict" /\ (∀ b,Value.ref a=.ref b -> ∃ ob,s.heap.get? b=some ob/\ob.dict=none)/\(a==sysModules)=false:=by
 rcases d with ⟨kvs,e⟩|⟨kvs,e⟩
 .obtain ⟨_,hd,vs,_,dd⟩:=zHt I.hok e;refine ⟨dd.typeIs,λb q=>?_,hd⟩;cases q;obtain ⟨ob,_,_,h1,h2,_⟩:=dd;exact ⟨ob,h1,h2.2.1⟩
 .obtain ⟨_,hd,xs,_,dd⟩:=zHi I.hok e;refine ⟨dd.typeIs,λb q=>?_,hd⟩;cases q;obtain ⟨ob,_,_,h1,h2,_⟩:=dd;exact ⟨ob,h1,h2.2.1⟩
section
variable {X:Cx} {zB:Yd} {σ:St} {H:Hp} {s:Yl} {a:Yt} {y d:V} {u r:Yu} {o:Option V} {A:Yn} {E:Yc}
def zVH (hu:A.units+1<cLine) (I:Inv X zB σ H s) (g:zDa H a y o) (ry:zw y u) (rd:zw d r) (h:∀ w' s',Inv X zB σ H s'->zw (o.getD d) w'->Q w' s') :
  wpAny (model X.prog X.w) A (call (.builtin "dict.get") [.ref a,u,r]) Q E s:=by
 rcases g with ⟨kvs,k,e,ey,l⟩|⟨kvs,k,b,e,ey,eb,l⟩
 .subst ey;obtain ⟨z,hd,vs,rel,dd⟩:=zHt I.hok e;refine call_meetsIn PySem.F.slot_dict_get dd.typeIs PySem.F.entry_dict_get (PySem.F.args_dict_get_3 _ _ _) (meets_dict_get_default (zAO X.prog X.w) a (zGd ry) hd r) ⟨_,dd.mapOf,h _ _ (I.tok _) ?_⟩;rw[l];exact (rel.val k).getD rd
 .subst ey;cases (show u=Value.ref b from ry);obtain ⟨z,hd,xs,rel,dd⟩:=zHi I.hok e;refine call_meetsIn PySem.F.slot_dict_get dd.typeIs PySem.F.entry_dict_get (PySem.F.args_dict_get_3 _ _ _) (meetsH_dict_get_default (tupleKind (zAO X.prog X.w)) a b hd r) ⟨tupleKind_room_in1 hu,k,xs,zEc I.hok eb,dd,h _ _ (I.tok _) ?_⟩;rw[l];exact (rel.val k).getD rd
end
def zRW (td ty tx:TE):TE:=λσ H Q=>td σ H λx H1=>∃ a,x=.ref a/\IsD H1 a/\ty σ H1 λy H2=>tx σ H2 λz H3=>∃ o,zDa H3 a y o/\Q (o.getD z) H3
section
variable {X:Cx} {o e f:Expr} {apos cpos:Pos} {td ty tx:TE}
def zQx (hu:X.A.units+1<cLine) (ho:PE X o td) (he:PE X e ty) (hf:PE X f tx) (m:M2 X o "get" apos e f cpos):PE X (.Call (.Attribute o "get" apos) [e,f] [] cpos) (zRW td ty tx):=by
 intro zB s σ H Q I h;refine wpAny_Call_method m.base m.few m.line PySem.F.plainAttrs_dict PySem.F.slot_dict_get PySem.F.type_dict_get (thn (ho zB s σ H _ I h) λu s1 ⟨x,H1,I1,rx,a,ex,d,q1⟩=>?_);subst ex;obtain rfl:u=Value.ref a:=rx;obtain ⟨t1,t2,_⟩:=zRa I1 d;refine ⟨t1,t2,?_⟩;rw[m.trees];refine Calls.callWith_builtin rfl (Calls.evalArgs_plain (Calls.spliced_cons (thn (he zB s1 σ H1 _ I1 q1) λiv s2 ⟨y,H2,I2,ry,q2⟩=>
  Calls.spliced_cons (thn (hf zB s2 σ H2 _ I2 q2) λfv s3 ⟨z,H3,I3,rz,ov,g,q3⟩=>Calls.spliced_nil ?_))))
 exact zVH hu I3 g ry rz λw' s4 I4 rw'=>⟨_,H3,I4,rw',q3⟩
end
theorem zAv:∀ (names:List (Str × NameKind)) (n:Nat) (acc:Yv),cellsFrom n names acc=cellsFrom n names []++acc
 |[],_,_=>rfl
 | (name,kind)::r,n,acc=>by
  unfold cellsFrom;split
  .rw[zAv r (n+1) ((name,n)::acc),zAv r (n+1) [(name,n)],zYJ];rfl
  .exact zAv r n acc
theorem zCY {α:Type} (x:Str):∀ (l r:List (Str × α)),(l++r).lookup x=(match l.lookup x with|some c=>some c|none=>r.lookup x)
 |[],r=>rfl
 | (k,v)::l,r=>by
  rw[List.cons_append,zZI,zZI];cases hb:x==k with
  |true=>rfl
  |false=>exact zCY x l r
theorem zE3:∀ (names:List (Str × NameKind)) (acc:Yv),
  (∀ y∈names,y.2=.free -> ∃ c,env.cells.lookup y.1=some c) ->
  (∀ x c,acc.lookup x=some c->env.cells.lookup x=some c) ->
  ∃ cl:List (Str × Addr),(forIn names acc (λ(p:Str × NameKind) (cs:Yv)=>(do
    if p.2 == .free then
     let a <- cellOf env p.1;pure (ForInStep.yield ((p.1,a)::cs))
    else pure (ForInStep.yield cs):Sem (ForInStep (List (Str × Addr))))))=pure cl /\
   (∀ x c,cl.lookup x=some c->env.cells.lookup x=some c) /\
   (∀ x,(acc.lookup x).isSome=true->(cl.lookup x).isSome=true) /\ ∀ y∈names,y.2=.free->(cl.lookup y.1).isSome=true
 |[],acc,_,ha=>⟨acc,by rw[List.forIn_nil],ha,λ_ h=>h,λ_ h=>nomatch h⟩
 | (n,k)::r,acc,hf,ha=>by
  rw[List.forIn_cons];by_cases hk:k=.free
  .subst hk;obtain ⟨c,hc⟩:=hf (n,.free) zXR rfl;have hco:cellOf env n=pure c:=by unfold cellOf;rw[hc]
   obtain ⟨cl,e,h1,h2,h3⟩:=zE3 r ((n,c)::acc) (λy hy=>hf y (zXQ _ hy)) (λx d hx=>by
    rw[zZI]at hx;cases hb:x==n with
    |true=>rw[hb]at hx;cases hx;rw[beq_iff_eq.mp hb];exact hc
    |false=>rw[hb]at hx;exact ha x d hx)
   refine ⟨cl,?_,h1,λx hx=>h2 x ?_,λy hy hk=>?_⟩
   .rw[<-e];simp only[beq_self_eq_true,if_true,hco];rfl
   .rw[zZI];cases hb:x==n with
    |true=>rfl
    |false=>exact hx
   .rcases zXP.mp hy with z|z
    .subst z;exact h2 n (by rw[zZI];simp)
    .exact h3 y z hk
  .obtain ⟨cl,e,h1,h2,h3⟩:=zE3 r acc (λy hy=>hf y (zXQ _ hy)) ha;refine ⟨cl,?_,h1,h2,λy hy hk'=>?_⟩
   .rw[<-e];have:(k==NameKind.free)=false:=by simpa using hk
    simp only[this,zYE,if_false];rfl
   .rcases zXP.mp hy with z|z
    .subst z;exact absurd hk' hk
    .exact h3 y z hk'
def zIm (hf:∀ y∈scope.names,y.2=.free -> ∃ c,env.cells.lookup y.1=some c) :
  ∃ cl,closureFor scope env=pure cl/\(∀ x c,cl.lookup x=some c->env.cells.lookup x=some c) /\ ∀ y∈scope.names,y.2=.free->(cl.lookup y.1).isSome=true:=by
 obtain ⟨cl,e,h1,_,h3⟩:=zE3 (env:=env) scope.names [] hf (λx c h=>nomatch h);refine ⟨cl,?_,h1,h3⟩;unfold closureFor;rw[show (pure cl:Sem _)=pure cl >>= pure from rfl,<-e]
def zCu
  (hQ:Q (newEnv scope s.heap.objs.size globals (cellsFrom (s.heap.objs.size+1) scope.names cl) qual none .none (some env) builtinsNs)
   { s with heap:=pushCells (s.heap.push { cls:=.type "dict", data:=.dict #[] }) scope.names }) :
  wpAny M A (newFunctionEnv scope globals cl [] qual none .none (some env)) Q E s:=by
 simp only[newFunctionEnv,Option.isSome_some,if_true];refine zXD (wpAny_alloc ?_);refine zXD (wpAny_layCells _ (λname kind cells=>by cases hkc:kind==NameKind.cell <;> simp[hkc]) _ _ _ _ ?_);rw[show ({ s with heap:=s.heap.push { cls:=.type "dict", data:=.dict #[] } }:Shared).heap.objs.size=s.heap.objs.size+1 from zXt ..];exact zXD (zXF (zXF hQ))
noncomputable def zN (X:Cx) (zB:Yd) (scope:Y0) (cl:Yv) (s:Yl) (H:Hp) (fp:Yg):Cx where
 prog:=X.prog
 w:=X.w
 K:=X.K
 mg:=X.mg
 base:=X.base
 A:=X.A
 N:=X.N
 s₀:=s
 H₀:=H
 env:={ scope:=relabel scope X.env,locals:=s.heap.objs.size+1,globals:=X.env.globals,cells:=cellsFrom (s.heap.objs.size+1+1) scope.names cl,qual:=X.env.qual,func:=none,code:=X.env.code,frame:=X.env.frame,builtins:=X.env.builtins }
 outer:=X.stack
 stack:=X.stack
 ex:=fp
 fn:=λx=>decide (scope.names.lookup x=some .cell)
 calm:=X.calm
 pn:=X.pn++zB
 xe:=λ_ _=>False
theorem zBO {scope:Y0} {env:Env} (x:Str):∀ {names:List (Str × NameKind)} {k:NameKind},
  (names.map λ(n,k)=>if (k==NameKind.free&&env.scope.kind == .function&&env.kindOf n==some .cell) then (n,NameKind.cell) else (n,k)).lookup x=some k ->
  names.lookup x=some k\/(names.lookup x=some .free/\k=.cell)
 |[],_,h=>by simp at h
 | (n,k')::r,k,h=>by
  rw[zXW]at h;by_cases hc:(k'==NameKind.free&&env.scope.kind == .function&&env.kindOf n==some .cell)=true
  .simp only[hc,if_true]at h;rw[zZI]at h ⊢;cases hb:x==n with
   |true=>
    rw[hb]at h;simp only[zXn,beq_iff_eq]at hc;exact .inr ⟨by rw[hc.1.1],(zYD h).symm⟩
   |false=>rw[hb]at h;exact zBO (scope:=scope) x h
  .simp only[hc,zYE,if_false]at h;rw[zZI]at h ⊢;cases hb:x==n with
   |true=>rw[hb]at h;exact .inl h
   |false=>rw[hb]at h;exact zBO (scope:=scope) x h
theorem zHV:∀ (names:List (Str × NameKind)) (n:Nat) (acc:Yv) (x:Str) (c:Yt),(x,c)∈cellsFrom n names acc->(x,c)∉acc->(x,NameKind.cell)∈names
 |[],_,_,_,_,h,h'=>absurd h h'
 | (name,kind)::r,n,acc,x,c,h,h'=>by
  unfold cellsFrom at h;split at h
  .rename_i hk;by_cases e:(x,c)=(name,n)
   .cases e;rw[beq_iff_eq]at hk;subst hk;exact zXR
   .exact zXQ _ (zHV r _ _ x c h λz=>(zXP.mp z).elim e h')
  .exact zXQ _ (zHV r _ _ x c h h')
structure CompScope (X:Cx) (scope:Y0):Prop where
 kind:scope.kind=.function
 names:∀ y∈scope.names,y.2=.local->scope.names.lookup y.1=some .local
 cells:∀ y∈scope.names,y.2=.cell->scope.names.lookup y.1=some .cell
 free:∀ y∈scope.names,y.2=.free->X.env.kindOf y.1=some .cell\/X.env.kindOf y.1=some .free
section
variable {X:Cx} {zB:Yd} {σ σc:St} {H:Hp} {s s4:Yl} {scope:Y0} {cl:Yv} {fp:Yg}
def zFX (S:CompScope X scope) (I:Inv X zB σ H s) (hf:∀ b∈fp,zCC X zB H b) (ho:∀ b:Nat,b∈fp->b<s.heap.objs.size)
  (c1:∀ x c,cl.lookup x=some c->X.env.cells.lookup x=some c) (c2:∀ y∈scope.names,y.2=.free->(cl.lookup y.1).isSome=true)
  (hl:σc.length=σ.length) (hσ:∀ (i:Nat) x v,X.N[i]?=some x->σc[i]?=some (some v)->(relabel scope X.env).names.lookup x≠none->scope.names.lookup x=some .free/\σ[i]?=some (some v))
  (lo:Obj) (hlo:∀ v,lo.data≠.cell v) (hfr:lo.isFreed=false)
  (h4:s4={ s with heap:=pushCells ((s.heap.push lo).push { cls:=.type "dict", data:=.dict #[] }) scope.names }) :
  Inv (zN X zB scope cl s H fp) [(s.heap.objs.size,lo)] σc H s4:=by
 subst h4;have sz1:(s.heap.push lo).objs.size=s.heap.objs.size+1:=zXt ..;have sz2:((s.heap.push lo).push { cls:=.type "dict", data:=.dict #[] }).objs.size=s.heap.objs.size+1+1:=by rw[zXt,sz1]
 have hk:∀ b o,s.heap.get? b=some o->(pushCells ((s.heap.push lo).push { cls:=.type "dict", data:=.dict #[] }) scope.names).get? b=some o:=λb o e=>
  pushCells_keeps _ _ b o (zXE _ (zXE _ e))
 have ok:=cellsFrom_ok scope.names ((s.heap.push lo).push { cls:=.type "dict", data:=.dict #[] }) (s.heap.objs.size+1+1) [] ⟨λ_ _ hm=>(nomatch hm),List.Pairwise.nil⟩ (by rw[sz2];exact zXJ _);rw[sz2]at ok;have look:∀ x c,(cellsFrom (s.heap.objs.size+1+1) scope.names cl).lookup x=some c->((cellsFrom (s.heap.objs.size+1+1) scope.names []).lookup x=some c)\/((cellsFrom (s.heap.objs.size+1+1) scope.names []).lookup x=none/\X.env.cells.lookup x=some c):=λx c e=>by
  rw[zAv,zCY]at e;cases q:(cellsFrom (s.heap.objs.size+1+1) scope.names []).lookup x with
  |some d=>rw[q]at e;exact .inl e
  |none=>rw[q]at e;exact .inr ⟨rfl,c1 x c e⟩
 have old:∀ x (c:Nat),X.env.cells.lookup x=some c->c<s.heap.objs.size:=λx c e=>let ⟨_,q⟩:=I.cell x c e;q.lt;have new:∀ x (c:Nat),(cellsFrom (s.heap.objs.size+1+1) scope.names []).lookup x=some c->s.heap.objs.size+1+1<=c:=λx c e=>(ok.empty x c (zYF e)).2;have own:∀ x,scope.names.lookup x=some .cell -> ∃ c,(cellsFrom (s.heap.objs.size+1+1) scope.names []).lookup x=some c:=λx e=>zH8 e;have cne:∀ x (c:Nat),(cellsFrom (s.heap.objs.size+1+1) scope.names cl).lookup x=some c->c<s.heap.objs.size\/s.heap.objs.size+1+1<=c:=λx c e=>by
  rcases look x c e with q|⟨_,q⟩
  .exact .inr (new x c q)
  .exact .inl (old x c q)
 refine ⟨⟨I.ok.mod,S.kind,I.ok.glob,I.ok.blt,Nat.le_succ _,λx y c h1 h2=>?_,λx hx=>?_,λx c hx h=>?_,I.ok.hd,I.ok.frames,.inl rfl,λb hb=>⟨?_,λx c e z=>?_⟩,I.bs,zXe I.ok.bsz I.sz,λb o e hb=>?_,λb hb z=>?_,I.stack,I.stkFree⟩,
  rfl,I.bare,Un.kept hk,⟨λ_=>none,?_,λi x v h1 h2 h3=>?_⟩,λx c e=>?_,I.hok.fresh (Nat.le_succ _),λx c e=>?_,λp hp=>?_,I.hok.kept hk,hl.trans I.len⟩
 .rcases look x c h1 with a|⟨_,a⟩ <;> rcases look y c h2 with b|⟨_,b⟩
  .exact name_of_addr ok.apart (zYF a) (zYF b)
  .exact absurd (Nat.lt_of_le_of_lt (new x c a) (old y c b)) (by omega)
  .exact absurd (Nat.lt_of_le_of_lt (new y c b) (old x c a)) (by omega)
  .exact I.ok.inj x y c a b
 .have hx':(relabel scope X.env).names.lookup x=some .cell\/(relabel scope X.env).names.lookup x=some .free:=hx;have go:scope.names.lookup x=some .cell\/scope.names.lookup x=some .free:=by
   rcases hx' with q|q
   .rcases zBO (scope:=scope) x q with z|z
    .exact .inl z
    .exact .inr z.1
   .rcases zBO (scope:=scope) x q with z|z
    .exact .inr z
    .exact .inr z.1
  show ∃ c,(cellsFrom (s.heap.objs.size+1+1) scope.names cl).lookup x=some c;rw[zAv,zCY];rcases go with q|q
  .obtain ⟨c,e⟩:=own x q;exact ⟨c,by rw[e]⟩
  .cases e:(cellsFrom (s.heap.objs.size+1+1) scope.names []).lookup x with
   |some d=>exact ⟨d,rfl⟩
   |none=>exact Option.isSome_iff_exists.mp (c2 (x,.free) (zYF q) rfl)
 .obtain ⟨d,e⟩:=own x (zX9 hx);have h':(cellsFrom (s.heap.objs.size+1+1) scope.names cl).lookup x=some c:=h;rw[zAv,zCY,e]at h';cases h';exact zXe (zXe (Nat.le_succ _) (Nat.le_succ _)) (new x _ e)
 .exact zXY (zX2 (ho b hb))
 .rcases look x c e with q|⟨_,q⟩
  .have a:=new x c q;rw[z]at a;exact absurd (Nat.lt_of_le_of_lt a (ho b hb)) (by omega)
  .exact (hf b hb).2.2.2.2.1 x c q z
 .rcases (hf b hb).2.2.2.1 with z|z
  .exact I.ok.noex b o e z
  .exact absurd (zXc (zXO e) (zXe I.ok.bsz z)) (zXv _)
 .rcases zXP.mp (I.stkSub b z)with q|q
  .exact (hf b hb).2.1 q
  .exact (hf b hb).2.2.1 q
 .have q:((s.heap.push lo).push { cls:=.type "dict", data:=.dict #[] }).Ns (s.heap.push lo).objs.size (λ_=>none):=Heap.Ns.new ..;rw[sz1]at q;exact q.keeps (pushCells_keeps _ _)
 .have h3':(relabel scope X.env).names.lookup x≠none:=by
   rcases h3 with z|z|z <;> (intro q;have z':(relabel scope X.env).names.lookup x=_:=z;rw[q]at z';cases z')
  obtain ⟨fr,hv⟩:=hσ i x v h1 h2 h3';obtain ⟨m,hn,hlk⟩:=I.loc;have kx:=S.free (x,.free) (zYF fr) rfl;obtain ⟨u,rv,lk⟩:=hlk i x v h1 hv (by rcases kx with z|z;exact .inr (.inl z);exact .inr (.inr z));refine ⟨u,rv,?_⟩;rcases lk with ⟨z,_⟩|⟨_,c,e,ic⟩
  .rcases kx with k|k <;> (rw[k]at z;cases z)
  .have kind:(relabel scope X.env).names.lookup x=some .cell\/(relabel scope X.env).names.lookup x=some .free:=by
    cases q:(relabel scope X.env).names.lookup x with
    |none=>exact absurd q h3'
    |some k=>
     rcases zBO (scope:=scope) x q with z|z
     .rw[fr]at z;cases z;exact .inr rfl
     .rw[z.2];exact .inl rfl
   refine .inr ⟨kind,c,?_,ic.keeps hk⟩;show (cellsFrom (s.heap.objs.size+1+1) scope.names cl).lookup x=some c;rw[zAv,zCY];obtain ⟨d,hd⟩:=Option.isSome_iff_exists.mp (c2 (x,.free) (zYF fr) rfl);have:=c1 x d hd;rw[e]at this;cases this;have nn:(cellsFrom (s.heap.objs.size+1+1) scope.names []).lookup x=none:=by
    cases q:(cellsFrom (s.heap.objs.size+1+1) scope.names []).lookup x with
    |none=>rfl
    |some d'=>
     have z:=S.cells (x,.cell) (zHV scope.names _ [] x d' (zYF q) λz=>nomatch z) rfl;rw[fr]at z;cases z
   rw[nn];exact hd
 .rcases look x c e with q|⟨_,q⟩
  .exact ⟨none,(ok.empty x c (zYF q)).1⟩
  .obtain ⟨v,z⟩:=I.cell x c q;exact ⟨v,z.keeps hk⟩
 .rcases look x c e with q|⟨_,q⟩
  .exact I.hok.fresh (by have:=new x c q;omega)
  .exact I.freeC x c q
 .have hp':p∈X.pn++zB\/p=(s.heap.objs.size,lo):=by
   rcases zXd.mp hp with z|z
   .exact .inl z
   .exact .inr (by simpa using z)
  rcases hp' with z|z
  .obtain ⟨e,n,ne,nf,d⟩:=I.pin p z;have lt:(p.1:Nat)<s.heap.objs.size:=zXO e;refine ⟨hk _ _ e,n,?_,λq=>?_,d⟩
   .exact zXY (zX2 lt)
   .rcases zXP.mp (I.stkSub _ q)with r|r
    .exact ne r
    .exact nf r
  .subst z;refine ⟨pushCells_keeps _ _ _ _ (zXE _ (zXN _ hfr)),I.hok.fresh (zXJ _),?_,λq=>?_,hlo⟩
   .show s.heap.objs.size≠s.heap.objs.size+1;omega
   .rcases zXP.mp (I.stkSub _ q)with r|r
    .exact absurd I.lt (by rw[<-r];exact zXv _)
    .exact I.nofs (zXJ _) r
end
def clr (own:Yj) (σ:St):St:=own.foldl (λσ i=>σ.set i none) σ
theorem zBg:∀ (own:Yj) (σ:St),(clr own σ).length=σ.length
 |[],_=>rfl
 |i::r,σ=>by
  show (clr r (σ.set i none)).length=_;rw[zBg r,zZW]
theorem zCv:∀ (own:Yj) (σ:St) (j:Nat) (v:V),(clr own σ)[j]?=some (some v)->σ[j]?=some (some v)/\j∉own
 |[],_,_,_,h=>⟨h,λz=>nomatch z⟩
 |i::r,σ,j,v,h=>by
  have h':(clr r (σ.set i none))[j]?=some (some v):=h;obtain ⟨a,b⟩:=zCv r _ j v h';rw[zYm]at a;split at a
  .split at a <;> cases a
  .rename_i hne;exact ⟨a,λz=>(zXP.mp z).elim (λe=>hne e.symm) b⟩
def Ext (a b:St):Prop:=b.length=a.length /\ ∀ (i:Nat) v,a[i]?=some (some v)->b[i]?=some (some v)
def Ext.refl (a:St):Ext a a:=⟨rfl,λ_ _ h=>h⟩
def Ext.set (e:Ext (clr own σ) a) (h:i∈own):Ext (clr own σ) (a.set i (some v)):=by
 refine ⟨by rw[zZW];exact e.1,λj u q=>?_⟩;rw[zYm];split
 .rename_i z;exact absurd (z▸h) (zCv own σ j u q).2
 .exact e.2 j u q
def zGf (X:Cx) (ifs:Yi) (t:TT):Prop :=
 ∀ (zB:Yd) (s:Yl) (σ:St) (H:Hp) (Q:Bool->Hp->Prop),Inv X zB σ H s->t σ H Q ->
  wpAny (model X.prog X.w) X.A (forIn ifs true λc r=>if r=true then do let ok <- isTrue c X.env (eval c X.env);pure (ForInStep.yield ok) else pure (ForInStep.yield r)) (TP X zB σ Q) X.xe s
def zWm:TT:=λ_ H Q=>Q true H
def zQ8:zGf X [] zWm:=λ_ _ _ H _ I h=>wpAny_tests_nil ⟨H,I,h⟩
def zP6 (h:PT X c t):zGf X [c] t:=λzB s σ H Q I hq=>wpAny_tests_one (h zB s σ H Q I hq)
section
variable {prog:Ym} {w:Yo} {A:Yn} {E:Yc} {R:Yx} {s:Yl}
def zKh (I:Nat->Shared->Prop)
  (turn:∀ n s,I n s->wpAny (model prog w) A (pyNext it) (λr s₁=>match r with
   |none=>R (.ok .next) s₁
   |some v=>wpAny (model prog w) A (letOwnedTupleGo target it v) (λ_ s₁'=>wpAny (model prog w) A (assign target env v) (λ_ s₂=>
     wpAny (model prog w) A (forIn ifs true λc r=>if r=true then do let ok <- isTrue c env (eval c env);pure (ForInStep.yield ok) else pure (ForInStep.yield r)) (λok s₃=>
      if ok=true then wpAny (model prog w) A (eval elt env) (λx s₄=>
       wpAny (model prog w) A (call (.builtin "list.append") [acc,x]) (λ_ s₅=>∃ m,m<n/\I m s₅) (λ_ _=>False) s₄) (λ_ _=>False) s₃
      else ∃ m,m<n/\I m s₃) (λ_ _=>False) s₂) (λ_ _=>False) s₁') (λ_ _=>False) s₁) (λ_ _=>False) s)
  (n:Nat) (h:I n s) :
  codeAny (model prog w) A (.compLoop (.ListComp elt [⟨target,iter,ifs,0⟩] scope pos) 0 it acc env) R s:=by
 refine codeAny_loop rfl I (λn s hI=>?_) n h;show wpAny _ A ((compTurn (.ListComp elt [⟨target,iter,ifs,0⟩] scope pos) 0 it acc env).onRaise (λx=>do noteFrame x env;theTreesLotGoes x)) _ _ s;refine wpAny_noted ?_;rw[compTurn_list];refine zXD (zYB (zXD (zXj (turn n s hI) (λr s₁ h₁=>?_) λ_ _ h'=>h'.elim)));cases r with
 |none=>exact zXF h₁
 |some v=>
  refine zXD (zXj h₁ (λ_ s₁' h₁'=>?_) λ_ _ h'=>h'.elim);refine zXD (zXj h₁' (λ_ s₂ h₂=>zXD (zXj h₂ (λok s₃ h₃=>?_) λ_ _ h'=>h'.elim)) λ_ _ h'=>h'.elim);cases ok with
  |false=>exact zXF ⟨rfl,h₃⟩
  |true=>
   exact zXD (zXD (zXj h₃ (λx s₄ h₄=>zXD (zXj h₄ (λ_ s₅ h₅=>zXF (zXF ⟨rfl,h₅⟩)) λ_ _ h'=>h'.elim)) λ_ _ h'=>h'.elim))
end
def zRU (own:Yj) (wi:TI) (g:TG) (tc:TT) (te:TE):TE:=λσ H Q=>wi σ H λJ H1=>∃ W:Nat->Nat->List V->Hp->Prop,(∃ m,W 0 m [] H1) /\ ∀ i m ys H,W i m ys H ->
 (J.stop i H/\ys.length<=sizeLine /\ ∀ D,H D=none->Q (.ref D) (upd H D (.lst ys))) \/
 (J.go i H /\ ∀ x H',J.yld i H x H'->g x (clr own σ) H' λσ2 H2=>Ext (clr own σ) σ2/\tc σ2 H2 λb H3=>
  if b=true then te σ2 H3 λv H4=>ys.length<sizeLine /\ ∃ m',m'<m/\W (i+1) m' (ys++[v]) H4 else ∃ m',m'<m/\W (i+1) m' ys H3)
abbrev zn (its:List Value) (n:Nat):Obj:={ cls:=.type "list", data:=.seq its.toArray n }
section
variable {X:Cx} {zB:Yd} {σ:St} {H:Hp} {s:Yl}
def Inv.repin (I:Inv X (pl++[(D,o)]) σ H s) (hpl:∀ p∈X.pn++pl,p.1≠D) (hs:Heap.SameBut D s.heap h') (hD:X.s₀.heap.objs.size<=D) (hc:∀ x c,X.env.cells.lookup x=some c->c≠D)
  (e:h'.get? D=some o') (hn:∀ v,o'.data≠.cell v):Inv X (pl++[(D,o')]) σ H { s with heap:=h' }:=by
 obtain ⟨e0,n0,ne0,nf0,d0⟩:=I.pin (D,o) (by simp);have I1:Inv X pl σ H s:=I.pins_of λp hp=>I.pin p (by simp[hp]);have I2:Inv X pl σ H { s with heap:=h' }:=I1.turned (t':=s.toks) (it:=D) (λb u hb q=>hs.extBut b u hb q) n0 ne0 (.inr hD) hc hpl;exact I2.pins_of λp hp=>by
  rcases zXd.mp hp with z|z
  .exact I2.pin p (zXX _ z)
  .have:p=(D,o'):=by simpa using z
   subst this;exact ⟨e,n0,ne0,nf0,hn⟩
end
section
variable {X:Cx} {zB:Yd} {σ:St} {H:Hp} {s:Yl} {scope:Y0} {cl:Yv} {fp:Yg} {it:Yt} {tn:Nat->Heap->Prop} {J:It} {tg elt iter:Expr} {ifs:Yi} {pos:Pos}
 {own:Yj} {g:TG} {tc:TT} {te:TE} {E:Yc}
structure CompIn (X:Cx) (scope:Y0) (own:Yj):Prop where
 sc:CompScope X scope
 nm:∀ (i:Nat) x,X.N[i]?=some x->i∈own\/scope.names.lookup x=none\/scope.names.lookup x=some .free
def zCT (x:Str) (h:scope.names.lookup x=none):(relabel scope env).names.lookup x=none:=by
 cases q:(relabel scope env).names.lookup x with
 |none=>rfl
 |some k=>
  rcases zBO (scope:=scope) x q with z|z
  .rw[h]at z;cases z
  .rw[h]at z;cases z.1
def zHW (C:CompIn X scope own) (hcalm:X.calm=true) (I:Inv X zB σ H s) (T:Turn X.prog X.w X.K tg J fp it tn) (st:tn 0 s.heap) (hf:∀ b∈fp,zCC X zB H b)
  (c1:∀ x c,cl.lookup x=some c->X.env.cells.lookup x=some c) (c2:∀ y∈scope.names,y.2=.free->(cl.lookup y.1).isSome=true)
  (hg:PG (zN X zB scope cl s H fp) tg g) (hi:zGf (zN X zB scope cl s H fp) ifs tc) (he:PE (zN X zB scope cl s H fp) elt te)
  {RR:Value->Addr->Result->Shared->Prop} {QQ:List V->Hp->Prop} {W:Nat->Nat->List V->Hp->Prop} {m0:Nat} (w0:W 0 m0 [] H)
  (turn:∀ i m ys H,W i m ys H->(J.stop i H/\ys.length<=sizeLine/\QQ ys H) \/
   (J.go i H /\ ∀ x H',J.yld i H x H'->g x (clr own σ) H' λσ2 H2=>Ext (clr own σ) σ2/\tc σ2 H2 λb H3=>
    if b=true then te σ2 H3 λv H4=>ys.length<sizeLine /\ ∃ m',m'<m/\W (i+1) m' (ys++[v]) H4 else ∃ m',m'<m/\W (i+1) m' ys H3))
  (fin:∀ σc H' s' its n ys,Inv (zN X zB scope cl s H fp) [(s.heap.objs.size,zn its n)] σc H' s'->zg ys its->ys.length<=sizeLine->QQ ys H'->RR (.ref s.heap.objs.size) (s.heap.objs.size+1) (.ok .next) s') :
  wpAny (model X.prog X.w) X.A (newList []) (λacc s₃=>wpAny (model X.prog X.w) X.A (newFunctionEnv scope X.env.globals cl [] X.env.qual none .none (some X.env)) (λcenv s₄=>
   codeAny (model X.prog X.w) X.A (.compStart (.ListComp elt [⟨tg,iter,ifs,0⟩] scope pos) 0 (.ref it) acc { cenv with scope:=relabel scope X.env }) (RR acc cenv.locals) s₄) E s₃) E s:=by
 have ob:∀ b:Nat,b∈fp->b<s.heap.objs.size:=λb hb=>let ⟨_,e,_⟩:=T.obj 0 _ st b hb;zXO e;refine zXg (zCu ?_);have sz1:(s.heap.push (zn [] 0)).objs.size=s.heap.objs.size+1:=zXt ..;have I4:=zFX (X:=X) (zB:=zB) (σ:=σ) (σc:=clr own σ) (H:=H) (s:=s) (scope:=scope) (cl:=cl) (fp:=fp) C.sc I hf ob c1 c2 (zBg own σ) (λi x v h1 h2 h3=>by
  obtain ⟨a,b⟩:=zCv own σ i v h2;rcases C.nm i x h1 with z|z|z
  .exact absurd z b
  .exact absurd (zCT x z) h3
  .exact ⟨z,a⟩) (zn [] 0) (by intro v z;cases z) rfl rfl
 have st4:tn 0 (pushCells ((s.heap.push (zn [] 0)).push { cls:=.type "dict", data:=.dict #[] }) scope.names):=T.keep 0 _ _ st λb _ o e=>pushCells_keeps _ _ b o (zXE _ (zXE _ e));unfold newEnv;rw[sz1];have hDfp:s.heap.objs.size∉fp:=λz=>zXv _ (ob _ z);have hcD:∀ x c,(zN X zB scope cl s H fp).env.cells.lookup x=some c->c≠s.heap.objs.size:=λx c e z=>by
  obtain ⟨v,o,ho,hd⟩:=I4.cell x c e;obtain ⟨q,_⟩:=I4.pin (s.heap.objs.size,zn [] 0) (by simp);rw[z,q]at ho;cases ho;cases hd
 have fpk:∀ {H':Hp} {pl:Yd},(∀ b∈fp,H' b=none)->(∀ p∈pl,p.1=s.heap.objs.size) -> ∀ b∈fp,zCC (zN X zB scope cl s H fp) pl H' b:=λ{H' pl} hn hp b hb=>
  ⟨hn b hb,(I4.ok.exf b hb).1,I4.ok.exfs b hb,.inl hb,(I4.ok.exf b hb).2,λp hq=>by
   rcases zXd.mp hq with z|z
   .exact (hf b hb).2.2.2.2.2 p z
   .intro e;have e2:=hp p z;rw[e]at e2;exact hDfp (e2▸hb)⟩
 have loop:codeAny (model X.prog X.w) X.A (.compLoop (.ListComp elt [⟨tg,iter,ifs,0⟩] scope pos) 0 (.ref it) (.ref s.heap.objs.size) (zN X zB scope cl s H fp).env) (RR (.ref s.heap.objs.size) (s.heap.objs.size+1))
   { s with heap:=pushCells ((s.heap.push (zn [] 0)).push { cls:=.type "dict", data:=.dict #[] }) scope.names }:=by
  refine zKh (λn s'=>∃ i H' ys its k,Inv (zN X zB scope cl s H fp) [(s.heap.objs.size,zn its k)] (clr own σ) H' s'/\zg ys its/\tn i s'.heap/\(∀ b∈fp,H' b=none)/\W i n ys H') ?_ m0
   ⟨0,H,[],[],0,I4,.nil,st4,λb hb=>(hf b hb).1,w0⟩
  rintro n s5 ⟨i,H5,ys,its,k,I5,r5,st5,f5,w5⟩;have pinD:∀ p∈[(s.heap.objs.size,zn its k)],p.1=s.heap.objs.size:=λp hp=>by
   have:p=(s.heap.objs.size,zn its k):=by simpa using hp
   rw[this]
  rcases turn i n ys H5 w5 with ⟨stop,hz,qq⟩|⟨go,step⟩
  .refine thn (T.done (zN X zB scope cl s H fp) rfl rfl rfl hcalm i _ s5 _ H5 _ I5 (fpk f5 pinD) st5 stop) λr s6 ⟨hr,I6⟩=>?_;subst hr;exact fin _ H5 s6 its k ys I6 r5 hz qq
  .refine thn (T.item (zN X zB scope cl s H fp) rfl rfl rfl hcalm i _ s5 _ H5 _ I5 (fpk f5 pinD) st5 go) λr s6 ⟨u,hr,h6⟩=>?_;subst hr;refine thn h6 λ_ s7 ⟨x,H7,I7,r7,y7,st7,f7⟩=>?_;have I7':=I7.pinned (fpk f7 pinD) (T.obj _ _ st7);refine thn (hg _ s7 _ H7 x u _ I7' r7 (step x H7 y7)) λ_ s8 ⟨σ8,H8,I8,x8,q8⟩=>?_;refine thn (hi _ s8 σ8 H8 _ I8 q8) λok s9 ⟨H9,I9,q9⟩=>?_;have back:∀ {s':Yl} {Hx:Hp},Inv (zN X zB scope cl s H fp) ([(s.heap.objs.size,zn its k)]++zC4 fp s7.heap) σ8 Hx s'->tn (i+1) s'.heap /\ ∀ b∈fp,Hx b=none:=λ{s' Hx} Ix=>
    ⟨T.keep _ _ _ st7 λb hb o e=>(Ix.pin (b,o) (zXX _ (zXX _ (zAR hb e)))).1,λb hb=>by
     obtain ⟨o,e,d⟩:=T.obj _ _ st7 b hb;exact (Ix.pin (b,o) (zXX _ (zXX _ (zAR hb e)))).2.1⟩
   cases ok with
   |false=>
    obtain ⟨m',hm,w'⟩:=q9;obtain ⟨b1,b2⟩:=back I9;exact ⟨m',hm,i+1,H9,ys,its,k,(I9.weak (by rw[x8.1]) x8.2).unpinned,r5,b1,b2,w'⟩
   |true=>
    refine thn (he _ s9 σ8 H9 _ I9 q9) λv s10 ⟨y,H10,I10,r10,hlt,m',hm,w'⟩=>?_;obtain ⟨b1,b2⟩:=back I10;have J10:=(I10.weak (by rw[x8.1]) x8.2).unpinned;obtain ⟨e10,n10,ne10,nf10,d10⟩:=J10.pin (s.heap.objs.size,zn its k) (by simp);have hlen:its.toArray.size<=sizeLine:=by
     have:=r5.length;rw[zXL,<-this];exact Nat.le_of_lt hlt
    refine wpAny_list_append_plain (hsz:=hlen) (show s10.heap.PlainList s.heap.objs.size its.toArray from ⟨k,e10⟩) λh' hl' hs'=>?_;obtain ⟨k',e'⟩:=hl';have e'':h'.get? s.heap.objs.size=some (zn (its++[v]) k'):=by rw[e'];simp[zn]
    refine ⟨m',hm,i+1,H10,ys++[y],its++[v],k',?_,r5.append (.cons r10 .nil),T.keep _ _ _ b1 λb hb o e=>hs'.extBut b o (λz=>hDfp (z▸hb)) e,b2,w'⟩;refine Inv.repin (pl:=[]) J10 (λp hp=>?_) hs' (zXJ _) hcD e'' (by intro v z;cases z);rw[zXx]at hp;have hp':p∈X.pn++zB:=hp;exact zXY (zXO (I.pin p hp').1)
 exact codeAny_compStart_list loop (T.self _ 0 _ _ _ st4 loop)
end
section
variable {X:Cx} {zB:Yd} {σ:St} {H:Hp} {s:Yl} {scope:Y0} {cl:Yv} {fp:Yg}
def zHr (I:Inv X zB σ H s) (hf:∀ b∈fp,zCC X zB H b)
  (Ic:Inv (zN X zB scope cl s H fp) [(s.heap.objs.size,zn its n)] σc H' s') (rv:zg ys its) (hz:ys.length<=sizeLine) (hs:Heap.SameBut (s.heap.objs.size+1) s'.heap h') :
  Inv X zB σ (upd H' s.heap.objs.size (.lst ys)) { s' with heap:=h' }/\H' s.heap.objs.size=none:=by
 obtain ⟨eD,nD,_⟩:=Ic.pin (s.heap.objs.size,zn its n) (by simp);have nC:H' (s.heap.objs.size+1)=none:=Ic.free;have eD':h'.get? s.heap.objs.size=some (zn its n):=hs.extBut _ _ (zXY (zYA _)) eD;have lt1:∀ {b:Yt} {o:Obj},s.heap.get? b=some o->b≠s.heap.objs.size+1/\b≠s.heap.objs.size:=λe=>⟨zXY (zX2 (zXO e)),zXY (zXO e)⟩;have tr:∀ b u,H' b=some u->b≠s.heap.objs.size+1/\b≠s.heap.objs.size:=λb u e=>⟨λz=>(by rw[z,nC]at e;cases e),λz=>(by rw[z,nD]at e;cases e)⟩;refine ⟨?_,nD⟩;have B:=Ic.base;have un:Un (frs X.stack) fp H (upd H' s.heap.objs.size (.lst ys)) s.heap h':=by
  refine ⟨λb o e q hb hx=>hs.extBut b o (lt1 e).1 (B.keep b o e q hb hx),λb o e q hb hx=>?_,λb o e q hx=>?_,λb o e hx=>?_,λb xs e=>?_,λb o xs e=>?_,λb ps e=>?_⟩
  .obtain ⟨sl,e1⟩:=B.slot b o e q hb hx;exact ⟨sl,hs.extBut b _ (lt1 e).1 e1⟩
  .rw[zZ (lt1 e).2];exact B.free b o e q hx
  .obtain ⟨o',e1⟩:=B.there b o e hx;exact ⟨o',hs.extBut b _ (lt1 e).1 e1⟩
  .have q:=B.tups b xs e;rw[zZ (tr b _ q).2];exact q
  .have q:=B.frzs b o xs e;rw[zZ (tr b _ q).2];exact q
  .obtain ⟨more,q⟩:=B.tbls b ps e;exact ⟨more,by rw[zZ (tr b _ q).2];exact q⟩
 have hok:HOk X.prog X.w (upd H' s.heap.objs.size (.lst ys)) h':=λb u e=>by
  by_cases hb:b=s.heap.objs.size
  .subst hb;rw[zAB]at e;cases e;exact ⟨hz,its,n,rv,eD'⟩
  .rw[zZ hb]at e;refine (Ic.hok b u e).stay (λc v hc q=>hs.extBut c v ?_ q) (λc q=>by rw[zZ (tr c _ q).2];exact q) λc xs q=>by rw[zZ (tr c _ q).2];exact q
   rcases hc with z|z
   .rw[z];exact (tr b u e).1
   .exact (tr c _ z).1
 exact I.call' (s':={ s' with heap:=h' }) (ch:=fp) Ic.os un hok Ic.bare λb hb=>⟨(hf b hb).2.2.2.1,(hf b hb).2.1,(hf b hb).2.2.2.2.1,(hf b hb).2.2.2.2.2⟩
end
section
variable {X:Cx} {scope:Y0} {tg elt iter:Expr} {ifs:Yi} {pos:Pos} {own:Yj} {wi:TI} {g:TG} {tc:TT} {te:TE}
structure CompParts (X:Cx) (scope:Y0) (tg:Expr) (ifs:Yi) (elt:Expr) (g:TG) (tc:TT) (te:TE):Prop where
 g:∀ zB cl s H fp,PG (zN X zB scope cl s H fp) tg g
 c:∀ zB cl s H fp,zGf (zN X zB scope cl s H fp) ifs tc
 e:∀ zB cl s H fp,PE (zN X zB scope cl s H fp) elt te
def CompScope.closure (S:CompScope X scope) (I:Inv X zB σ H s) :
  ∃ cl,closureFor scope X.env=pure cl/\(∀ x c,cl.lookup x=some c->X.env.cells.lookup x=some c) /\ ∀ y∈scope.names,y.2=.free->(cl.lookup y.1).isSome=true :=
 zIm λy hy hk=>I.ok.has y.1 (S.free y hy hk)
noncomputable def zSa (C:CompIn X scope own) (hcalm:X.calm=true) (hi:PI X tg iter wi) (p:CompParts X scope tg ifs elt g tc te) (hs:∀ x,foldedSetIterable iter X.env x=pure x:=by intro _;rfl) :
  PE X (.ListComp elt [⟨tg,iter,ifs,0⟩] scope pos) (zRU own wi g tc te):=by
 intro zB s σ H Q I h;obtain ⟨cl,hcl,c1,c2⟩:=C.sc.closure I;rw[eval_ListComp];refine zY7 (use:=none) rfl hs hcl C.sc.kind C.sc.names (thn (hi zB s σ H _ I h) λv s1 h1=>thn h1 λitv s2 h2=>?_);obtain ⟨it,fp,tn,J,H2,e,I2,T,st2,f2,W,⟨m0,w0⟩,turn⟩:=h2;subst e;refine zHW C hcalm I2 T st2 f2 c1 c2 (p.g _ _ _ _ _) (p.c _ _ _ _ _) (p.e _ _ _ _ _) (RR:=λacc C r s'=>compPost (model X.prog X.w) X.A X.xe none (EP X zB σ Q) acc C r s') (QQ:=λys H=>∀ D,H D=none->Q (.ref D) (upd H D (.lst ys))) w0 turn ?_;intro σc H' s' its n ys Ic rv hz qq;obtain ⟨m,hn,_⟩:=Ic.loc;refine ⟨m,hn,λh' hs'=>?_⟩;obtain ⟨J',nD⟩:=zHr I2 f2 Ic rv hz hs';exact ⟨.ref s2.heap.objs.size,_,J',rfl,qq _ nD⟩
noncomputable def zNL (hN:X.N.Nodup) (hi':X.N[i]?=some x) (hx:Loc X.env.scope x) (hfn:X.fn x=true\/X.env.scope.names.lookup x=some .local)
  (C:CompIn X scope own) (hcalm:X.calm=true) (hi:PI X tg iter wi) (p:CompParts X scope tg ifs elt g tc te)
  (hsw:swapsWith (.ListComp elt [⟨tg,iter,ifs,0⟩] scope pos) (some (.Name x pos')) pos''.line X.env=pure true) (hs:∀ x,foldedSetIterable iter X.env x=pure x:=by intro _;rfl) :
  PS X (.Assign [.Name x pos'] (.ListComp elt [⟨tg,iter,ifs,0⟩] scope pos) pos'') (zRX (zRU own wi g tc te) (zD3 i)):=by
 intro zB s σ H D I h;obtain ⟨cl,hcl,c1,c2⟩:=C.sc.closure I;rw[exec_Assign_Name_used _ _ _ _ hsw];refine zXD (zYB (zXD ?_))
 refine zXD (zXj (zY7 (use:=some (assign (.Name x pos') X.env)) (Q:=λ_ s'=>SP X zB D .next s') rfl hs hcl C.sc.kind C.sc.names
  (thn (hi zB s σ H _ I h) λv s1 h1=>thn h1 λitv s2 h2=>?_)) (λ_ s' hq=>zXF (zXF hq)) λ_ _ e=>e)
 obtain ⟨it,fp,tn,J,H2,e,I2,T,st2,f2,W,⟨m0,w0⟩,turn⟩:=h2;subst e
 refine zHW C hcalm I2 T st2 f2 c1 c2 (p.g _ _ _ _ _) (p.c _ _ _ _ _) (p.e _ _ _ _ _) (RR:=λacc C r s'=>compPost (model X.prog X.w) X.A X.xe (some (assign (.Name x pos') X.env)) (λ_ s'=>SP X zB D .next s') acc C r s')
  (QQ:=λys H=>∀ E,H E=none->zD3 i (.ref E) σ (upd H E (.lst ys)) D.nx) w0 turn ?_
 intro σc H' s' its n ys Ic rv hz qq;obtain ⟨m,hn,_⟩:=Ic.loc;obtain ⟨J',nD⟩:=zHr (h':=s'.heap) I2 f2 Ic rv hz (.refl ..);obtain ⟨oC,es,ep,hoC,hdC,r1,r2⟩:=id hn;have nC:upd H' s2.heap.objs.size (.lst ys) (s2.heap.objs.size+1)=none:=by rw[zZ (zYi (zYA _))];exact Ic.free
 have K':Inv X (zB++[(s2.heap.objs.size+1,oC)]) σ (upd H' s2.heap.objs.size (.lst ys)) s':=J'.pins_of λq hq=>by
  rcases zXd.mp hq with z|z
  .exact J'.pin q (zXX _ z)
  .have e:q=(s2.heap.objs.size+1,oC):=by simpa using z
   subst e;refine ⟨hoC,nC,zYi (zX2 I2.lt),I2.nofs (Nat.le_succ _),λv z=>?_⟩;have z':oC.data=.cell v:=z;rw[hdC]at z';cases z'
 refine thn (zKA hN hi' hx hfn _ s' σ _ (.ref s2.heap.objs.size) (.ref s2.heap.objs.size) _ K' rfl (qq _ nD)) λ_ s'' ⟨σ'',H'',I'',q''⟩=>?_;obtain ⟨eC,_⟩:=I''.pin (s2.heap.objs.size+1,oC) (by simp);refine ⟨m,⟨oC,es,ep,eC,hdC,r1,r2⟩,λh' hs'=>⟨σ'',H'',?_,q''⟩⟩;have I3:Inv X zB σ'' H'' s'':=I''.unpinned;obtain ⟨_,nC'',neC,_,_⟩:=I''.pin (s2.heap.objs.size+1,oC) (by simp);refine I3.turned (t':=s''.toks) (it:=s2.heap.objs.size+1) (λb o hb e=>hs'.extBut b o hb e) nC'' neC (.inr (zXe I2.sz (Nat.le_succ _))) (λx c e z=>?_) (λq hq z=>?_)
 .obtain ⟨v,o,ho,hd⟩:=I3.cell x c e;rw[z,eC]at ho;cases ho;rw[hdC]at hd;cases hd
 .obtain ⟨e,_⟩:=I2.pin q hq;exact zXY (zX2 (zXO e)) z
end
abbrev zBl (elt t1 i1:Expr) (f1:Yi) (t2 i2:Expr) (f2:Yi) (scope:Y0) (pos:Pos):Expr:=.ListComp elt [⟨t1,i1,f1,0⟩,⟨t2,i2,f2,0⟩] scope pos
def zIU (elt t1 i1:Expr) (f1:Yi) (t2 i2:Expr) (f2:Yi) (scope:Y0) (pos:Pos) (it acc:Yu) (env:Env) :
  compTurn (zBl elt t1 i1 f1 t2 i2 f2 scope pos) 0 it acc env=(do
   standAt i1.pos;match <- pyNext it with
   |none=>pure (.done .next)
   |some v=>
    letOwnedTupleGo t1 it v;assign t1 env v;let mut ok:=true
    for c in f1 do
     if ok then ok <- isTrue c env (eval c env)
    if ok then
     let x <- eval i2 env;standAt i2.pos;let x <- foldedSetIterable i2 env x;let _ <- runOwn (.compStart (zBl elt t1 i1 f1 t2 i2 f2 scope pos) 1 (<- holding [x] (pyIter x)) acc env) env
    again (.compLoop (zBl elt t1 i1 f1 t2 i2 f2 scope pos) 0 it acc env)):=by rfl
def zKo (elt t1 i1:Expr) (f1:Yi) (t2 i2:Expr) (f2:Yi) (scope:Y0) (pos:Pos) (it acc:Yu) (env:Env) :
  compTurn (zBl elt t1 i1 f1 t2 i2 f2 scope pos) 1 it acc env=(do
   standAt i2.pos;match <- pyNext it with
   |none=>pure (.done .next)
   |some v=>
    letOwnedTupleGo t2 it v;assign t2 env v;let mut ok:=true
    for c in f2 do
     if ok then ok <- isTrue c env (eval c env)
    if ok then
     (do let _ <- call (.builtin "list.append") [acc,<-eval elt env])
    again (.compLoop (zBl elt t1 i1 f1 t2 i2 f2 scope pos) 1 it acc env)):=by rfl
section
variable {prog:Ym} {w:Yo} {A:Yn} {E:Yc} {R:Yx} {s:Yl}
variable {elt t1 i1 t2 i2:Expr} {f1 f2:Yi} {scope:Y0} {pos:Pos} {it acc:Yu} {env:Env}
def zJo (I:Nat->Shared->Prop)
  (turn:∀ n s,I n s->wpAny (model prog w) A (pyNext it) (λr s₁=>match r with
   |none=>R (.ok .next) s₁
   |some v=>wpAny (model prog w) A (letOwnedTupleGo t2 it v) (λ_ s₁'=>wpAny (model prog w) A (assign t2 env v) (λ_ s₂=>
     wpAny (model prog w) A (forIn f2 true λc r=>if r=true then do let ok <- isTrue c env (eval c env);pure (ForInStep.yield ok) else pure (ForInStep.yield r)) (λok s₃=>
      if ok=true then wpAny (model prog w) A (eval elt env) (λx s₄=>
       wpAny (model prog w) A (call (.builtin "list.append") [acc,x]) (λ_ s₅=>∃ m,m<n/\I m s₅) (λ_ _=>False) s₄) (λ_ _=>False) s₃
      else ∃ m,m<n/\I m s₃) (λ_ _=>False) s₂) (λ_ _=>False) s₁') (λ_ _=>False) s₁) (λ_ _=>False) s)
  (n:Nat) (h:I n s) :
  codeAny (model prog w) A (.compLoop (zBl elt t1 i1 f1 t2 i2 f2 scope pos) 1 it acc env) R s:=by
 refine codeAny_loop rfl I (λn s hI=>?_) n h;show wpAny _ A ((compTurn (zBl elt t1 i1 f1 t2 i2 f2 scope pos) 1 it acc env).onRaise (λx=>do noteFrame x env;theTreesLotGoes x)) _ _ s;refine wpAny_noted ?_;rw[zKo];refine zXD (zYB (zXD (zXj (turn n s hI) (λr s₁ h₁=>?_) λ_ _ h'=>h'.elim)));cases r with
 |none=>exact zXF h₁
 |some v=>
  refine zXD (zXj h₁ (λ_ s₁' h₁'=>?_) λ_ _ h'=>h'.elim);refine zXD (zXj h₁' (λ_ s₂ h₂=>zXD (zXj h₂ (λok s₃ h₃=>?_) λ_ _ h'=>h'.elim)) λ_ _ h'=>h'.elim);cases ok with
  |false=>exact zXF ⟨rfl,h₃⟩
  |true=>
   exact zXD (zXD (zXj h₃ (λx s₄ h₄=>zXD (zXj h₄ (λ_ s₅ h₅=>zXF (zXF ⟨rfl,h₅⟩)) λ_ _ h'=>h'.elim)) λ_ _ h'=>h'.elim))
def zIQ
  (h0:codeAny (model prog w) A (.compLoop (zBl elt t1 i1 f1 t2 i2 f2 scope pos) 1 it acc env) R s)
  (h:wpAny (model prog w) A (pyIter it) (λit' s'=>codeAny (model prog w) A (.compLoop (zBl elt t1 i1 f1 t2 i2 f2 scope pos) 1 it' acc env) R s')
   (notedBy (model prog w) A env λx s'=>R (.error x) s') s) :
  codeAny (model prog w) A (.compStart (zBl elt t1 i1 f1 t2 i2 f2 scope pos) 1 it acc env) R s:=by
 refine codeAny_of_tree ?_;show wpAny _ _ ((compStart (zBl elt t1 i1 f1 t2 i2 f2 scope pos) 1 it acc env).onRaise (λx=>do noteFrame x env;standAt theWindowsPlace)) _ _ s;refine wpAny_notedAt ?_;unfold compStart;refine zXD (wpAny_askSetting (wpAny_ite ?_));split
 .first
   |exact zXD (zXF (zXF (And.intro rfl h0)))
   |exact zXF (And.intro rfl h0)
 .first
   |exact zXD (zYa (zXD (zYB (zXD (zXj h (λit' s' h'=>zXF (And.intro rfl h')) λ_ _ x=>x)))))
   | (refine zXD (zYa ?_);show wpAny _ _ (standAt i2.pos >>= _) _ _ s;exact zXD (zYB (zXD (zXj h (λit' s' h'=>zXF (And.intro rfl h')) λ_ _ x=>x))))
def zId (hs2:∀ x,foldedSetIterable i2 env x=pure x) (I:Nat->Shared->Prop)
  (turn:∀ n s,I n s->wpAny (model prog w) A (pyNext it) (λr s₁=>match r with
   |none=>R (.ok .next) s₁
   |some v=>wpAny (model prog w) A (letOwnedTupleGo t1 it v) (λ_ s₁'=>wpAny (model prog w) A (assign t1 env v) (λ_ s₂=>
     wpAny (model prog w) A (forIn f1 true λc r=>if r=true then do let ok <- isTrue c env (eval c env);pure (ForInStep.yield ok) else pure (ForInStep.yield r)) (λok s₃=>
      if ok=true then wpAny (model prog w) A (eval i2 env) (λx s₄=>wpAny (model prog w) A (pyIter x) (λit2 s₅=>
       codeAny (model prog w) A (.compStart (zBl elt t1 i1 f1 t2 i2 f2 scope pos) 1 it2 acc env) (λr s₆=>r=.ok .next /\ ∃ m,m<n/\I m s₆) s₅) (λ_ _=>False) s₄) (λ_ _=>False) s₃
      else ∃ m,m<n/\I m s₃) (λ_ _=>False) s₂) (λ_ _=>False) s₁') (λ_ _=>False) s₁) (λ_ _=>False) s)
  (n:Nat) (h:I n s) :
  codeAny (model prog w) A (.compLoop (zBl elt t1 i1 f1 t2 i2 f2 scope pos) 0 it acc env) R s:=by
 refine codeAny_loop rfl I (λn s hI=>?_) n h;show wpAny _ A ((compTurn (zBl elt t1 i1 f1 t2 i2 f2 scope pos) 0 it acc env).onRaise (λx=>do noteFrame x env;theTreesLotGoes x)) _ _ s;refine wpAny_noted ?_;rw[zIU];refine zXD (zYB (zXD (zXj (turn n s hI) (λr s₁ h₁=>?_) λ_ _ h'=>h'.elim)));cases r with
 |none=>exact zXF h₁
 |some v=>
  refine zXD (zXj h₁ (λ_ s₁' h₁'=>?_) λ_ _ h'=>h'.elim);refine zXD (zXj h₁' (λ_ s₂ h₂=>zXD (zXj h₂ (λok s₃ h₃=>?_) λ_ _ h'=>h'.elim)) λ_ _ h'=>h'.elim);cases ok with
  |false=>exact zXF ⟨rfl,h₃⟩
  |true=>
   refine zXD (zXj h₃ (λx s₄ h₄=>zXD (zYB (zXD (wpAny_of_eq (hs2 x) (zXD (zX6 (zXj h₄ (λit2 s₅ h₅=>?_) λ_ _ h'=>h'.elim))))))) λ_ _ h'=>h'.elim);refine zXD (wpAny_runOwn (codeAny_mono h₅ λr s₆ hr=>?_));obtain ⟨rfl,hr⟩:=hr;exact zXF ⟨rfl,hr⟩
end
def tIn (own2:Yj) (wi2:TI) (g2:TG) (tc2:TT) (te:TE) (σ2:St) (H3:Hp) (ys:List V) (QQ:List V->Hp->Prop):Prop :=
 wi2 σ2 H3 λJ2 H4=>∃ W2:Nat->Nat->List V->Hp->Prop,(∃ m,W2 0 m ys H4) /\ ∀ j m zs H,W2 j m zs H ->
  (J2.stop j H/\QQ zs H) \/
  (J2.go j H /\ ∀ x H',J2.yld j H x H'->g2 x (clr own2 σ2) H' λσ3 H5=>Ext (clr own2 σ2) σ3/\tc2 σ3 H5 λb H6=>
   if b=true then te σ3 H6 λv H7=>zs.length<sizeLine /\ ∃ m',m'<m/\W2 (j+1) m' (zs++[v]) H7 else ∃ m',m'<m/\W2 (j+1) m' zs H6)
section
variable {C:Cx} {elt t1 i1 t2 i2:Expr} {f1 f2:Yi} {scope:Y0} {pos:Pos} {pl:Yd} {σ:St} {H:Hp} {s:Yl} {D:Yt}
 {own2:Yj} {wi2:TI} {g2:TG} {tc2:TT} {te:TE} {R:Yx}
def zRZ (hxe:C.xe=λ_ _=>False) (hcalm:C.calm=true) (hi:PI C t2 i2 wi2) (hg:PG C t2 g2) (hc:zGf C f2 tc2) (he:PE C elt te) (hD:C.s₀.heap.objs.size<=D)
  (hcD:∀ x c,C.env.cells.lookup x=some c->c≠D) (hpl:∀ p∈C.pn++pl,p.1≠D) (I:Inv C (pl++[(D,zn its k)]) σ H s) (rv:zg ys its) (h:tIn own2 wi2 g2 tc2 te σ H ys QQ)
  (fin:∀ s' H' its' k' zs,Inv C (pl++[(D,zn its' k')]) (clr own2 σ) H' s'->zg zs its'->QQ zs H'->R (.ok .next) s') :
  wpAny (model C.prog C.w) C.A (eval i2 C.env) (λx s₄=>wpAny (model C.prog C.w) C.A (pyIter x) (λit2 s₅=>
   codeAny (model C.prog C.w) C.A (.compStart (zBl elt t1 i1 f1 t2 i2 f2 scope pos) 1 it2 (.ref D) C.env) R s₅) (λ_ _=>False) s₄) (λ_ _=>False) s:=by
 have hpi:=hi _ s σ H _ I h;rw[hxe]at hpi;refine thn hpi λv s1 h1=>thn h1 λitv s2 h2=>?_;obtain ⟨it,fp,tn,J,H2,e,I2,T,st2,f2',W,⟨m0,w0⟩,turn⟩:=h2;subst e;have hDfp:D∉fp:=λz=>(f2' D z).2.2.2.2.2 (D,zn its k) (by simp) rfl;have loop:∀ s',(∃ H',Inv C (pl++[(D,zn its k)]) (clr own2 σ) H' s'/\tn 0 s'.heap/\(∀ b∈fp,H' b=none)/\W 0 m0 ys H')->codeAny (model C.prog C.w) C.A (.compLoop (zBl elt t1 i1 f1 t2 i2 f2 scope pos) 1 (.ref it) (.ref D) C.env) R s':=by
  rintro s' ⟨H',I',st',hn',w'⟩;have fpk:∀ {H':Hp} {its:Yf} {k:Nat},(∀ b∈fp,H' b=none) -> ∀ b∈fp,zCC C (pl++[(D,zn its k)]) H' b:=λ{H' its k} hn b hb=>by
   obtain ⟨_,a2,a3,a4,a5,a6⟩:=f2' b hb;refine ⟨hn b hb,a2,a3,a4,a5,λp hp=>?_⟩;rcases zXd.mp hp with z|z
   .exact a6 p (zYS _ z)
   .rcases zXd.mp z with z|z
    .exact a6 p (zXX _ (zYS _ z))
    .have:p=(D,zn its k):=by simpa using z
     rw[this];intro q;have q':D=b:=q;exact hDfp (q'▸hb)
  refine zJo (λn s'=>∃ i H' ys its k,Inv C (pl++[(D,zn its k)]) (clr own2 σ) H' s'/\zg ys its/\tn i s'.heap/\(∀ b∈fp,H' b=none)/\W i n ys H') ?_ m0 ⟨0,H',ys,its,k,I',rv,st',hn',w'⟩;rintro n s5 ⟨i,H5,ys,its,k,I5,r5,st5,f5,w5⟩;rcases turn i n ys H5 w5 with ⟨stop,qq⟩|⟨go,step⟩
  .refine thn (T.done C rfl rfl rfl hcalm i _ s5 _ H5 _ I5 (fpk f5) st5 stop) λr s6 ⟨hr,I6⟩=>?_;subst hr;exact fin s6 H5 its k ys I6 r5 qq
  .refine thn (T.item C rfl rfl rfl hcalm i _ s5 _ H5 _ I5 (fpk f5) st5 go) λr s6 ⟨u,hr,h6⟩=>?_;subst hr;refine thn h6 λ_ s7 ⟨x,H7,I7,r7,y7,st7,f7⟩=>?_;have I7':=I7.pinned (fpk f7) (T.obj _ _ st7);have hgg:=hg _ s7 _ H7 x u _ I7' r7 (step x H7 y7);rw[hxe]at hgg;refine thn hgg λ_ s8 ⟨σ8,H8,I8,x8,q8⟩=>?_;have hcc:=hc _ s8 σ8 H8 _ I8 q8;rw[hxe]at hcc;refine thn hcc λok s9 ⟨H9,I9,q9⟩=>?_;have back:∀ {s':Yl} {Hx:Hp},Inv C ((pl++[(D,zn its k)])++zC4 fp s7.heap) σ8 Hx s'->tn (i+1) s'.heap /\ ∀ b∈fp,Hx b=none:=λ{s' Hx} Ix=>
    ⟨T.keep _ _ _ st7 λb hb o e=>(Ix.pin (b,o) (zXX _ (zXX _ (zAR hb e)))).1,λb hb=>by
     obtain ⟨o,e,d⟩:=T.obj _ _ st7 b hb;exact (Ix.pin (b,o) (zXX _ (zXX _ (zAR hb e)))).2.1⟩
   cases ok with
   |false=>
    obtain ⟨m',hm,w'⟩:=q9;obtain ⟨b1,b2⟩:=back I9;exact ⟨m',hm,i+1,H9,ys,its,k,(I9.weak (by rw[x8.1]) x8.2).unpinned,r5,b1,b2,w'⟩
   |true=>
    have hee:=he _ s9 σ8 H9 _ I9 q9;rw[hxe]at hee;refine thn hee λv s10 ⟨y,H10,I10,r10,hlt,m',hm,w'⟩=>?_;obtain ⟨b1,b2⟩:=back I10;have J10:=(I10.weak (by rw[x8.1]) x8.2).unpinned;obtain ⟨e10,n10,ne10,nf10,d10⟩:=J10.pin (D,zn its k) (by simp);have hlen:its.toArray.size<=sizeLine:=by
     have:=r5.length;rw[zXL,<-this];exact Nat.le_of_lt hlt
    refine wpAny_list_append_plain (hsz:=hlen) (show s10.heap.PlainList D its.toArray from ⟨k,e10⟩) λh' hl' hs'=>?_;obtain ⟨k',e'⟩:=hl';have e'':h'.get? D=some (zn (its++[v]) k'):=by rw[e'];simp[zn]
    refine ⟨m',hm,i+1,H10,ys++[y],its++[v],k',?_,r5.append (.cons r10 .nil),T.keep _ _ _ b1 λb hb o e=>hs'.extBut b o (λz=>hDfp (z▸hb)) e,b2,w'⟩;exact Inv.repin (pl:=pl) J10 hpl hs' hD hcD e'' (by intro v z;cases z)
 have l0:=loop s2 ⟨H2,I2.weak (zBg own2 σ) (λi v h=>(zCv own2 σ i v h).1),st2,λb hb=>(f2' b hb).1,w0⟩;exact zIQ l0 (T.self _ 0 _ _ _ st2 l0)
end
section
variable {X:Cx} {zB:Yd} {σ:St} {H:Hp} {s:Yl} {scope:Y0} {cl:Yv} {fp:Yg} {it:Yt} {tn:Nat->Heap->Prop} {J:It} {elt t1 i1 t2 i2:Expr} {f1 f2:Yi} {pos:Pos}
 {own own2:Yj} {g g2:TG} {tc tc2:TT} {te:TE} {wi wi2:TI} {E:Yc}
theorem zLB:∀ (own:Yj) (σ:St) (j:Nat),j∉own->(clr own σ)[j]?=σ[j]?
 |[],_,_,_=>rfl
 |i::r,σ,j,h=>by
  show (clr r (σ.set i none))[j]?=_;rw[zLB r _ j (λz=>h (zXQ _ z)),zXh (λz=>h (by rw[z];exact zXR))]
def zK6 (hsub:∀ i∈own2,i∈own) (C:CompIn X scope own) (hcalm:X.calm=true) (I:Inv X zB σ H s) (T:Turn X.prog X.w X.K t1 J fp it tn) (st:tn 0 s.heap) (hf:∀ b∈fp,zCC X zB H b)
  (c1:∀ x c,cl.lookup x=some c->X.env.cells.lookup x=some c) (c2:∀ y∈scope.names,y.2=.free->(cl.lookup y.1).isSome=true)
  (hg:PG (zN X zB scope cl s H fp) t1 g) (hi:zGf (zN X zB scope cl s H fp) f1 tc)
  (hi2:PI (zN X zB scope cl s H fp) t2 i2 wi2) (hg2:PG (zN X zB scope cl s H fp) t2 g2) (hc2:zGf (zN X zB scope cl s H fp) f2 tc2) (he:PE (zN X zB scope cl s H fp) elt te)
  (hs2:∀ x,foldedSetIterable i2 (zN X zB scope cl s H fp).env x=pure x)
  {RR:Value->Addr->Result->Shared->Prop} {QQ:List V->Hp->Prop} {W:Nat->Nat->List V->Hp->Prop} {m0:Nat} (w0:W 0 m0 [] H)
  (turn:∀ i m ys H,W i m ys H->(J.stop i H/\ys.length<=sizeLine/\QQ ys H) \/
   (J.go i H /\ ∀ x H',J.yld i H x H'->g x (clr own σ) H' λσ2 H2=>Ext (clr own σ) σ2/\tc σ2 H2 λb H3=>
    if b=true then tIn own2 wi2 g2 tc2 te σ2 H3 ys λzs H4=>∃ m',m'<m/\W (i+1) m' zs H4 else ∃ m',m'<m/\W (i+1) m' ys H3))
  (fin:∀ σc H' s' its n ys,Inv (zN X zB scope cl s H fp) [(s.heap.objs.size,zn its n)] σc H' s'->zg ys its->ys.length<=sizeLine->QQ ys H'->RR (.ref s.heap.objs.size) (s.heap.objs.size+1) (.ok .next) s') :
  wpAny (model X.prog X.w) X.A (newList []) (λacc s₃=>wpAny (model X.prog X.w) X.A (newFunctionEnv scope X.env.globals cl [] X.env.qual none .none (some X.env)) (λcenv s₄=>
   codeAny (model X.prog X.w) X.A (.compStart (zBl elt t1 i1 f1 t2 i2 f2 scope pos) 0 (.ref it) acc { cenv with scope:=relabel scope X.env }) (RR acc cenv.locals) s₄) E s₃) E s:=by
 have ob:∀ b:Nat,b∈fp->b<s.heap.objs.size:=λb hb=>let ⟨_,e,_⟩:=T.obj 0 _ st b hb;zXO e;refine zXg (zCu ?_);have sz1:(s.heap.push (zn [] 0)).objs.size=s.heap.objs.size+1:=zXt ..;have I4:=zFX (X:=X) (zB:=zB) (σ:=σ) (σc:=clr own σ) (H:=H) (s:=s) (scope:=scope) (cl:=cl) (fp:=fp) C.sc I hf ob c1 c2 (zBg own σ) (λi x v h1 h2 h3=>by
  obtain ⟨a,b⟩:=zCv own σ i v h2;rcases C.nm i x h1 with z|z|z
  .exact absurd z b
  .exact absurd (zCT x z) h3
  .exact ⟨z,a⟩) (zn [] 0) (by intro v z;cases z) rfl rfl
 have st4:tn 0 (pushCells ((s.heap.push (zn [] 0)).push { cls:=.type "dict", data:=.dict #[] }) scope.names):=T.keep 0 _ _ st λb _ o e=>pushCells_keeps _ _ b o (zXE _ (zXE _ e));unfold newEnv;rw[sz1];have hDfp:s.heap.objs.size∉fp:=λz=>zXv _ (ob _ z);have hcD:∀ x c,(zN X zB scope cl s H fp).env.cells.lookup x=some c->c≠s.heap.objs.size:=λx c e z=>by
  obtain ⟨v,o,ho,hd⟩:=I4.cell x c e;obtain ⟨q,_⟩:=I4.pin (s.heap.objs.size,zn [] 0) (by simp);rw[z,q]at ho;cases ho;cases hd
 have fpk:∀ {H':Hp} {pl:Yd},(∀ b∈fp,H' b=none)->(∀ p∈pl,p.1=s.heap.objs.size) -> ∀ b∈fp,zCC (zN X zB scope cl s H fp) pl H' b:=λ{H' pl} hn hp b hb=>
  ⟨hn b hb,(I4.ok.exf b hb).1,I4.ok.exfs b hb,.inl hb,(I4.ok.exf b hb).2,λp hq=>by
   rcases zXd.mp hq with z|z
   .exact (hf b hb).2.2.2.2.2 p z
   .intro e;have e2:=hp p z;rw[e]at e2;exact hDfp (e2▸hb)⟩
 have loop:codeAny (model X.prog X.w) X.A (.compLoop (zBl elt t1 i1 f1 t2 i2 f2 scope pos) 0 (.ref it) (.ref s.heap.objs.size) (zN X zB scope cl s H fp).env) (RR (.ref s.heap.objs.size) (s.heap.objs.size+1))
   { s with heap:=pushCells ((s.heap.push (zn [] 0)).push { cls:=.type "dict", data:=.dict #[] }) scope.names }:=by
  refine zId hs2 (λn s'=>∃ i H' ys its k,Inv (zN X zB scope cl s H fp) [(s.heap.objs.size,zn its k)] (clr own σ) H' s'/\zg ys its/\tn i s'.heap/\(∀ b∈fp,H' b=none)/\W i n ys H') ?_ m0
   ⟨0,H,[],[],0,I4,.nil,st4,λb hb=>(hf b hb).1,w0⟩
  rintro n s5 ⟨i,H5,ys,its,k,I5,r5,st5,f5,w5⟩;have pinD:∀ p∈[(s.heap.objs.size,zn its k)],p.1=s.heap.objs.size:=λp hp=>by
   have:p=(s.heap.objs.size,zn its k):=by simpa using hp
   rw[this]
  rcases turn i n ys H5 w5 with ⟨stop,hz,qq⟩|⟨go,step⟩
  .refine thn (T.done (zN X zB scope cl s H fp) rfl rfl rfl hcalm i _ s5 _ H5 _ I5 (fpk f5 pinD) st5 stop) λr s6 ⟨hr,I6⟩=>?_;subst hr;exact fin _ H5 s6 its k ys I6 r5 hz qq
  .refine thn (T.item (zN X zB scope cl s H fp) rfl rfl rfl hcalm i _ s5 _ H5 _ I5 (fpk f5 pinD) st5 go) λr s6 ⟨u,hr,h6⟩=>?_;subst hr;refine thn h6 λ_ s7 ⟨x,H7,I7,r7,y7,st7,f7⟩=>?_;have I7':=I7.pinned (fpk f7 pinD) (T.obj _ _ st7);refine thn (hg _ s7 _ H7 x u _ I7' r7 (step x H7 y7)) λ_ s8 ⟨σ8,H8,I8,x8,q8⟩=>?_;refine thn (hi _ s8 σ8 H8 _ I8 q8) λok s9 ⟨H9,I9,q9⟩=>?_;have back:∀ {σx:St} {s':Yl} {Hx:Hp} {its:Yf} {k:Nat},(clr own σ).length=σx.length->(∀ (i:Nat) v,(clr own σ)[i]?=some (some v)->σx[i]?=some (some v))->Inv (zN X zB scope cl s H fp) (zC4 fp s7.heap++[(s.heap.objs.size,zn its k)]) σx Hx s'->Inv (zN X zB scope cl s H fp) [(s.heap.objs.size,zn its k)] (clr own σ) Hx s'/\tn (i+1) s'.heap /\ ∀ b∈fp,Hx b=none:=λ{σx s' Hx its k} hl hk Ix=>
    ⟨(Ix.weak hl hk).pins_of λp hp=>Ix.pin p (zXX _ (zXX _ hp)),
     T.keep _ _ _ st7 λb hb o e=>(Ix.pin (b,o) (zXX _ (zYS _ (zAR hb e)))).1,λb hb=>by
     obtain ⟨o,e,d⟩:=T.obj _ _ st7 b hb;exact (Ix.pin (b,o) (zXX _ (zYS _ (zAR hb e)))).2.1⟩
   have I9':Inv (zN X zB scope cl s H fp) (zC4 fp s7.heap++[(s.heap.objs.size,zn its k)]) σ8 H9 s9:=I9.pins_of λp hp=>I9.pin p (zXX _ (by
    rcases zXd.mp hp with z|z
    .exact zXX _ z
    .exact zYS _ z))
   cases ok with
   |false=>
    obtain ⟨m',hm,w'⟩:=q9;obtain ⟨b0,b1,b2⟩:=back (by rw[x8.1]) x8.2 I9';exact ⟨m',hm,i+1,H9,ys,its,k,b0,r5,b1,b2,w'⟩
   |true=>
    refine zRZ (C:=zN X zB scope cl s H fp) rfl hcalm hi2 hg2 hc2 he (zXJ _) hcD (λp hp=>?_) I9' r5 q9 λs' H' its' k' zs I' rv' q'=>?_
    .rcases zXd.mp hp with z|z
     .exact zXY (zXO (I.pin p z).1)
     .obtain ⟨hb,_⟩:=zIr z;exact zXY (ob _ hb)
    .obtain ⟨m',hm,w'⟩:=q';obtain ⟨b0,b1,b2⟩:=back (by rw[zBg own2,x8.1]) (λi v hv=>by rw[zLB own2 _ i (λz=>(zCv own σ i v hv).2 (hsub i z))];exact x8.2 i v hv) I';exact ⟨rfl,m',hm,i+1,H',zs,its',k',b0,rv',b1,b2,w'⟩
 exact codeAny_compStart_list loop (T.self _ 0 _ _ _ st4 loop)
def zRu (own own2:Yj) (wi:TI) (g:TG) (tc:TT) (wi2:TI) (g2:TG) (tc2:TT) (te:TE):TE:=λσ H Q=>wi σ H λJ H1=>∃ W:Nat->Nat->List V->Hp->Prop,(∃ m,W 0 m [] H1) /\ ∀ i m ys H,W i m ys H ->
 (J.stop i H/\ys.length<=sizeLine /\ ∀ D,H D=none->Q (.ref D) (upd H D (.lst ys))) \/
 (J.go i H /\ ∀ x H',J.yld i H x H'->g x (clr own σ) H' λσ2 H2=>Ext (clr own σ) σ2/\tc σ2 H2 λb H3=>
  if b=true then tIn own2 wi2 g2 tc2 te σ2 H3 ys λzs H4=>∃ m',m'<m/\W (i+1) m' zs H4 else ∃ m',m'<m/\W (i+1) m' ys H3)
structure CompParts2 (X:Cx) (scope:Y0) (t1:Expr) (f1:Yi) (t2 i2:Expr) (f2:Yi) (elt:Expr) (g:TG) (tc:TT) (wi2:TI) (g2:TG) (tc2:TT) (te:TE):Prop where
 g:∀ zB cl s H fp,PG (zN X zB scope cl s H fp) t1 g
 c:∀ zB cl s H fp,zGf (zN X zB scope cl s H fp) f1 tc
 w2:∀ zB cl s H fp,PI (zN X zB scope cl s H fp) t2 i2 wi2
 g2:∀ zB cl s H fp,PG (zN X zB scope cl s H fp) t2 g2
 c2:∀ zB cl s H fp,zGf (zN X zB scope cl s H fp) f2 tc2
 e:∀ zB cl s H fp,PE (zN X zB scope cl s H fp) elt te
 s2:∀ zB cl s H fp x,foldedSetIterable i2 (zN X zB scope cl s H fp).env x=pure x
noncomputable def zQq (hsub:∀ i∈own2,i∈own) (C:CompIn X scope own) (hcalm:X.calm=true) (hi:PI X t1 i1 wi) (p:CompParts2 X scope t1 f1 t2 i2 f2 elt g tc wi2 g2 tc2 te) (hs:∀ x,foldedSetIterable i1 X.env x=pure x:=by intro _;rfl) :
  PE X (zBl elt t1 i1 f1 t2 i2 f2 scope pos) (zRu own own2 wi g tc wi2 g2 tc2 te):=by
 intro zB s σ H Q I h;obtain ⟨cl,hcl,c1,c2⟩:=C.sc.closure I;rw[eval_ListComp];refine zY7 (use:=none) rfl hs hcl C.sc.kind C.sc.names (thn (hi zB s σ H _ I h) λv s1 h1=>thn h1 λitv s2 h2=>?_);obtain ⟨it,fp,tn,J,H2,e,I2,T,st2,f2,W,⟨m0,w0⟩,turn⟩:=h2;subst e;refine zK6 hsub C hcalm I2 T st2 f2 c1 c2 (p.g _ _ _ _ _) (p.c _ _ _ _ _) (p.w2 _ _ _ _ _) (p.g2 _ _ _ _ _) (p.c2 _ _ _ _ _) (p.e _ _ _ _ _) (p.s2 _ _ _ _ _) (RR:=λacc C r s'=>compPost (model X.prog X.w) X.A X.xe none (EP X zB σ Q) acc C r s') (QQ:=λys H=>∀ D,H D=none->Q (.ref D) (upd H D (.lst ys))) w0 turn ?_;intro σc H' s' its n ys Ic rv hz qq;obtain ⟨m,hn,_⟩:=Ic.loc;refine ⟨m,hn,λh' hs'=>?_⟩;obtain ⟨J',nD⟩:=zHr I2 f2 Ic rv hz hs';exact ⟨.ref s2.heap.objs.size,_,J',rfl,qq _ nD⟩
end
end L2
namespace L3
open PySem PySem.Spec PyProof.Rows L2
abbrev Sv:=List (Option V)
set_option genInjectivity true in
inductive D where
 |non|bl (b:Bool)|int (i:Int)|str (x:Str)|tup (xs:List D)|ref (n:Nat)
set_option genInjectivity true in
inductive MO where
 |lst (xs:List D)|fro (xs:List D)|dict (kvs:List (D × D))|dicT (kvs:List (D × D))|set (xs:List D)|froT (kvs:List (D × D))|froK (kvs:List (D × D))
mutual
def Rep (L:Yg) (H:Hp):D->V->Prop
 |.non,v=>v=.non
 |.bl b,v=>v=.bl b
 |.int i,v=>v=.int i
 |.str x,v=>v=.str x
 |.tup ds,v=>∃ a vs,v=.ref a/\H a=some (.tup vs)/\zR L H ds vs
 |.ref n,v=>∃ a,v=.ref a/\L[n]?=some a
def zR (L:Yg) (H:Hp):List D->List V->Prop
 |[],vs=>vs=[]
 |d::ds,vs=>∃ v r,vs=v::r/\Rep L H d v/\zR L H ds r
end
def zR.length:∀ {ds:List D} {vs:List V},zR L H ds vs->vs.length=ds.length
 |[],_,h=>by unfold zR at h;subst h;rfl
 |d::ds,_,h=>by
  unfold zR at h;obtain ⟨v,r,rfl,_,h2⟩:=h;simp[zR.length h2]
def zR.nil:zR L H [] []:=by unfold zR;rfl
def zR.cons (h:Rep L H d v) (t:zR L H ds vs):zR L H (d::ds) (v::vs):=by
 unfold zR;exact ⟨v,vs,rfl,h,t⟩
def zR.get:∀ {ds:List D} {vs:List V} {i:Nat} {d:D},zR L H ds vs->ds[i]?=some d -> ∃ v,vs[i]?=some v/\Rep L H d v
 |[],_,_,_,_,e=>by simp at e
 |d::ds,_,0,d',h,e=>by
  unfold zR at h;obtain ⟨v,r,rfl,h1,h2⟩:=h;simp at e;subst e;exact ⟨v,rfl,h1⟩
 |d::ds,_,i+1,d',h,e=>by
  unfold zR at h;obtain ⟨v,r,rfl,h1,h2⟩:=h;obtain ⟨u,e1,e2⟩:=zR.get (i:=i) h2 (by simpa using e);exact ⟨u,by simpa using e1,e2⟩
def zR.app:∀ {ds es:List D} {vs ws:List V},zR L H ds vs->zR L H es ws->zR L H (ds++es) (vs++ws)
 |[],_,_,_,h,t=>by unfold zR at h;subst h;exact t
 |d::ds,_,_,_,h,t=>by
  unfold zR at h;obtain ⟨v,r,rfl,h1,h2⟩:=h;exact .cons h1 (zR.app h2 t)
def zR.set (h:Rep L H d v):∀ {ds:List D} {vs:List V} (i:Nat),zR L H ds vs->zR L H (ds.set i d) (vs.set i v)
 |[],_,_,t=>by unfold zR at t;subst t;exact .nil
 |_::_,_,0,t=>by
  unfold zR at t;obtain ⟨v',r,rfl,h1,h2⟩:=t;exact .cons h h2
 |_::_,_,i+1,t=>by
  unfold zR at t;obtain ⟨v',r,rfl,h1,h2⟩:=t;exact .cons h1 (zR.set h i h2)
def zR.drop:∀ {ds:List D} {vs:List V} (n:Nat),zR L H ds vs->zR L H (ds.drop n) (vs.drop n)
 |_,_,0,t=>t
 |[],_,n+1,t=>by unfold zR at t;subst t;exact .nil
 |_::_,_,n+1,t=>by
  unfold zR at t;obtain ⟨v',r,rfl,h1,h2⟩:=t;exact zR.drop n h2
def zR.take:∀ {ds:List D} {vs:List V} (n:Nat),zR L H ds vs->zR L H (ds.take n) (vs.take n)
 |_,_,0,t=> .nil
 |[],_,n+1,t=>by unfold zR at t;subst t;exact .nil
 |_::_,_,n+1,t=>by
  unfold zR at t;obtain ⟨v',r,rfl,h1,h2⟩:=t;exact .cons h1 (zR.take n h2)
def zR.eraseIdx:∀ {ds:List D} {vs:List V} (n:Nat),zR L H ds vs->zR L H (ds.eraseIdx n) (vs.eraseIdx n)
 |[],_,n,t=>by unfold zR at t;subst t;exact .nil
 |_::_,_,0,t=>by
  unfold zR at t;obtain ⟨v',r,rfl,h1,h2⟩:=t;exact h2
 |_::_,_,n+1,t=>by
  unfold zR at t;obtain ⟨v',r,rfl,h1,h2⟩:=t;exact .cons h1 (zR.eraseIdx n h2)
structure Stp (L:Yg) (H:Hp) (L':Yg) (H':Hp):Prop where
 pre:∃ N,L'=L++N
 new:∀ a∈L',a∈L\/H a=none
 old:∀ a o,H a=some o->a∉L->H' a=some o
 tup:∀ a xs,H a=some (.tup xs)->H' a=some (.tup xs)
 frz:∀ a o u,H a=some (.frz o u)->H' a=some (.frz o u)
def Stp.refl (L:Yg) (H:Hp):Stp L H L H:=⟨⟨[],by simp⟩,λ_ h=> .inl h,λ_ _ h _=>h,λ_ _ h=>h,λ_ _ _ h=>h⟩
def Stp.trans (a:Stp L H L1 H1) (b:Stp L1 H1 L2 H2):Stp L H L2 H2:=by
 obtain ⟨N,rfl⟩:=a.pre;obtain ⟨N',rfl⟩:=b.pre;have back:∀ c,c∉L->H1 c=none->H c=none:=λc hc h1=>by
  cases q:H c with
  |none=>rfl
  |some o=>rw[a.old c o q hc]at h1;cases h1
 refine ⟨⟨N++N',by simp⟩,λc hc=>?_,λc o e hc=>?_,λc xs e=>b.tup c xs (a.tup c xs e),λc o u e=>b.frz c o u (a.frz c o u e)⟩
 .by_cases hL:c∈L
  .exact .inl hL
  .rcases b.new c hc with z|z
   .exact a.new c z
   .exact .inr (back c hL z)
 .refine b.old c o (a.old c o e hc) λz=>?_;rcases a.new c z with q|q
  .exact hc q
  .rw[q]at e;cases e
def Stp.grow (h:∀ a o,H a=some o->H' a=some o):Stp L H L H':=⟨⟨[],by simp⟩,λ_ h=> .inl h,λa o e _=>h a o e,λa _ e=>h a _ e,λa _ _ e=>h a _ e⟩
theorem Stp.upd (h:H p=none):Stp L H L (upd H p o):=.grow λa u e=>by rw[zZ (zAF e h)];exact e
def zBp {L N:Yg} {n:Nat} {a:Yt} (h:L[n]?=some a):(L++N)[n]?=some a:=by
 rw[zXK (zXG.mp h).1];exact h
mutual
theorem Rep.stp {L L':Yg} {H H':Hp} (s:Stp L H L' H'):∀ {d:D} {v:V},Rep L H d v->Rep L' H' d v
 |.non,_,h=>by unfold Rep at h ⊢;exact h
 |.bl _,_,h=>by unfold Rep at h ⊢;exact h
 |.int _,_,h=>by unfold Rep at h ⊢;exact h
 |.str _,_,h=>by unfold Rep at h ⊢;exact h
 |.tup ds,_,h=>by
  unfold Rep at h ⊢;obtain ⟨a,vs,rfl,e,r⟩:=h;exact ⟨a,vs,rfl,s.tup a vs e,zR.stp s r⟩
 |.ref n,_,h=>by
  unfold Rep at h ⊢;obtain ⟨a,rfl,e⟩:=h;obtain ⟨N,rfl⟩:=s.pre;exact ⟨a,rfl,zBp e⟩
theorem zR.stp (s:Stp L H L' H'):∀ {ds:List D} {vs:List V},zR L H ds vs->zR L' H' ds vs
 |[],_,h=>by unfold zR at h ⊢;exact h
 |d::ds,_,h=>by
  unfold zR at h ⊢;obtain ⟨v,r,rfl,h1,h2⟩:=h;exact ⟨v,r,rfl,Rep.stp s h1,zR.stp s h2⟩
end
def zCR:D->Option Key
 |.int i=>some (.inl i)
 |.str x=>some (.inr x)
 |_=>none
def zH2:List D->Option (List Key)
 |[]=>some []
 |d::r=>match zCR d,zH2 r with
  |some k,some ks=>some (k::ks)
  |_,_=>none
def tkD:D->Option (List Key)
 |.tup ds=>zH2 ds
 |_=>none
def zA6 {κ:Type} (kf:D->Option κ) (L:Yg) (H:Hp):List (D × D)->List (κ × V)->Prop
 |[],vs=>vs=[]
 |p::r,vs=>∃ k v r',vs=(k,v)::r'/\kf p.1=some k/\Rep L H p.2 v/\zA6 kf L H r r'
def zA6.stp {κ:Type} {kf:D->Option κ} {L L':Yg} {H H':Hp} (s:Stp L H L' H'):∀ {ps:List (D × D)} {vs:List (κ × V)},zA6 kf L H ps vs->zA6 kf L' H' ps vs
 |[],_,h=>h
 |p::r,_,h=>by
  obtain ⟨k,v,r',rfl,e,h1,h2⟩:=h;exact ⟨k,v,r',rfl,e,h1.stp s,zA6.stp s h2⟩
def zA6.length {κ:Type} {kf:D->Option κ} {L:Yg} {H:Hp}:∀ {ps:List (D × D)} {vs:List (κ × V)},zA6 kf L H ps vs->vs.length=ps.length
 |[],_,h=>by unfold zA6 at h;subst h;rfl
 |p::r,_,h=>by
  obtain ⟨k,v,r',rfl,e,h1,h2⟩:=h;simp[zA6.length h2]
def zHe (K:Yb) (L:Yg) (H:Hp) (a:Yt):MO->Prop
 |.lst xs=>∃ vs,H a=some (.lst vs)/\zR L H xs vs
 |.fro xs=>∃ o vs,H a=some (.frz o (.lst vs))/\zR L H xs vs
 |.dict ps=>∃ vs,H a=some (.dK vs)/\zA6 zCR L H ps vs
 |.dicT ps=>∃ vs,H a=some (.dT vs)/\zA6 tkD L H ps vs
 |.set _=>∃ o u,H a=some (.frz o u)
 |.froT ps=>∃ o vs,H a=some (.frz o (.dT vs))/\zA6 tkD L H ps vs
 |.froK ps=>∃ o vs,H a=some (.frz o (.dK vs))/\zA6 zCR L H ps vs
def zHe.there {K:Yb} {L:Yg} {H:Hp} {a:Yt} {m:MO} (h:zHe K L H a m):∃ o,H a=some o:=by
 cases m with
 |lst xs=>obtain ⟨vs,e,_⟩:=h;exact ⟨_,e⟩
 |fro xs=>obtain ⟨o,vs,e,_⟩:=h;exact ⟨_,e⟩
 |dict ps=>obtain ⟨vs,e,_⟩:=h;exact ⟨_,e⟩
 |dicT ps=>obtain ⟨vs,e,_⟩:=h;exact ⟨_,e⟩
 |set _=>obtain ⟨o,u,e⟩:=h;exact ⟨_,e⟩
 |froT ps=>obtain ⟨o,vs,e,_⟩:=h;exact ⟨_,e⟩
 |froK ps=>obtain ⟨o,vs,e,_⟩:=h;exact ⟨_,e⟩
def zHe.stp {K:Yb} {L L':Yg} {H H':Hp} {a:Yt} {m:MO} (s:Stp L H L' H') (hk:∀ o,H a=some o->H' a=some o) (h:zHe K L H a m):zHe K L' H' a m:=by
 cases m with
 |lst xs=>obtain ⟨vs,e,r⟩:=h;exact ⟨vs,hk _ e,r.stp s⟩
 |fro xs=>obtain ⟨o,vs,e,r⟩:=h;exact ⟨o,vs,hk _ e,r.stp s⟩
 |dict ps=>obtain ⟨vs,e,r⟩:=h;exact ⟨vs,hk _ e,r.stp s⟩
 |dicT ps=>obtain ⟨vs,e,r⟩:=h;exact ⟨vs,hk _ e,r.stp s⟩
 |set _=>obtain ⟨o,u,e⟩:=h;exact ⟨o,u,hk _ e⟩
 |froT ps=>obtain ⟨o,vs,e,r⟩:=h;exact ⟨o,vs,hk _ e,r.stp s⟩
 |froK ps=>obtain ⟨o,vs,e,r⟩:=h;exact ⟨o,vs,hk _ e,r.stp s⟩
structure Cor (K:Yb) (L:Yg) (M:List MO) (H:Hp):Prop where
 len:L.length=M.length
 nd:L.Nodup
 obj:∀ (n:Nat) a m,L[n]?=some a->M[n]?=some m->zHe K L H a m
def zBo (L:Yg) (H:Hp) (σ:List (Option D)) (τ:Sv):Prop:=τ.length=σ.length /\ ∀ (i:Nat) d,σ[i]?=some (some d) -> ∃ v,τ[i]?=some (some v)/\Rep L H d v
def zBo.stp (s:Stp L H L' H') (h:zBo L H σ τ):zBo L' H' σ τ :=
 ⟨h.1,λi d e=>let ⟨v,e1,r⟩:=h.2 i d e;⟨v,e1,r.stp s⟩⟩
def Cor.tracked {K:Yb} {L:Yg} {M:List MO} {H:Hp} (c:Cor K L M H) {a:Yt} (h:a∈L):∃ o,H a=some o:=by
 obtain ⟨n,hn⟩:=List.getElem?_of_mem h;have hl:n<M.length:=by rw[<-c.len];exact (zXG.mp hn).1
 have m:=c.obj n a M[n] hn (zXH hl);exact m.there
def Cor.grow {K:Yb} {L:Yg} {M:List MO} {H H':Hp} (c:Cor K L M H) (h:∀ a o,H a=some o->H' a=some o):Cor K L M H':=by
 exact ⟨c.len,c.nd,λn a m e1 e2=>(c.obj n a m e1 e2).stp (.grow h) λo e=>h a o e⟩
theorem Cor.upd {K:Yb} {L:Yg} {M:List MO} {H:Hp} {p:Yt} {o:HO} (c:Cor K L M H) (h:H p=none):Cor K L M (upd H p o):=c.grow λa u e=>by rw[zZ (zAF e h)];exact e
def Cor.write {K:Yb} {L:Yg} {M:List MO} {H:Hp} {n:Nat} {p:Yt} {xs xs':List D} {vs':List V} (c:Cor K L M H) (h1:L[n]?=some p) (h2:M[n]?=some (.lst xs)) (r:zR L H xs' vs') :
  Cor K L (M.set n (.lst xs')) (L2.upd H p (.lst vs'))/\Stp L H L (L2.upd H p (.lst vs')):=by
 obtain ⟨vs,hp,_⟩:=c.obj n p _ h1 h2;have st:Stp L H L (L2.upd H p (.lst vs')):=by
  refine ⟨⟨[],by simp⟩,λa ha=> .inl ha,λa o e ha=>?_,λa o e=>?_,λa o u e=>?_⟩
  .rw[zZ (show a≠p from λz=>ha (by rw[z];exact zX4 h1))];exact e
  .rw[zZ (zH7 e hp (by intro z;cases z))];exact e
  .rw[zZ (zH7 e hp (by intro z;cases z))];exact e
 refine ⟨⟨by simp[c.len],c.nd,λk a m e1 e2=>?_⟩,st⟩;rw[zYm]at e2;split at e2
 .rename_i hk;subst hk;rw[h1]at e1;cases e1;split at e2
  .cases e2;exact ⟨vs',zAB,r.stp st⟩
  .cases e2
 .rename_i hk;have hne:a≠p:=λz=>hk (by
   subst z;exact (List.getElem?_inj (zXG.mp h1).1 c.nd).mp (h1.trans e1.symm))
  exact (c.obj k a m e1 e2).stp st λo e=>by rw[zZ hne];exact e
set_option genInjectivity true in
inductive EV where
 |dat (d:D)|fl (xs:List D)
def zk (H0:Hp) (L:Yg) (H:Hp):EV->V->Prop
 |.dat d,v=>Rep L H d v
 |.fl xs,v=>∃ p vs,v=.ref p/\H0 p=none/\H p=some (.lst vs)/\p∉L/\zR L H xs vs
abbrev Sd:=List (Option D)
abbrev Mem:=List MO
abbrev FE:=Sd->Mem->Option (EV × Mem)
abbrev FD:=Sd->Mem->Option (D × Mem)
abbrev FT:=Sd->Mem->Option (Bool × Mem)
abbrev FA:=Sd->Mem->Option (List D × Mem)
def Stp.out (s:Stp L H L' H') (h:H p=some o) (hp:p∉L):p∉L':=λz=>by
 rcases s.new p z with q|q
 .exact hp q
 .rw[h]at q;cases q
def zk.stp (s:Stp L H L' H') (h:zk H0 L H e v):zk H0 L' H' e v:=by
 cases e with
 |dat d=>exact Rep.stp s h
 |fl xs=>
  obtain ⟨p,vs,rfl,e0,e1,e2,r⟩:=h;exact ⟨p,vs,rfl,e0,s.old p _ e1 e2,s.out e1 e2,r.stp s⟩
def zk.back {H0 H1:Hp} {L0 L1 L:Yg} {H:Hp} (s:Stp L0 H0 L1 H1) {M:List MO} {K:Yb} (c:Cor K L0 M H0) {e:EV} {v:V} (h:zk H1 L H e v) (hL:∀ a∈L1,a∈L):zk H0 L H e v:=by
 cases e with
 |dat d=>exact h
 |fl xs=>
  obtain ⟨p,vs,rfl,e0,e1,e2,r⟩:=h;refine ⟨p,vs,rfl,?_,e1,e2,r⟩;cases q:H0 p with
  |none=>rfl
  |some o=>
   by_cases hp:p∈L0
   .obtain ⟨N,hN⟩:=s.pre;exact absurd (hL p (by rw[hN];exact zYS _ hp)) e2
   .rw[s.old p o q hp]at e0;cases e0
section
variable (K:Yb)
def trE (f:FE):TE:=λτ H Q=>∃ L σ M d M',Cor K L M H/\zBo L H σ τ/\f σ M=some (d,M') /\ ∀ L' H' v,Stp L H L' H'->Cor K L' M' H'->zk H L' H' d v->Q v H'
def trD (f:FD):TE:=λτ H Q=>∃ L σ M d M',Cor K L M H/\zBo L H σ τ/\f σ M=some (d,M') /\ ∀ L' H' v,Stp L H L' H'->Cor K L' M' H'->Rep L' H' d v->Q v H'
def trT (f:FT):TT:=λτ H Q=>∃ L σ M d M',Cor K L M H/\zBo L H σ τ/\f σ M=some (d,M') /\ ∀ L' H',Stp L H L' H'->Cor K L' M' H'->Q d H'
def trA (f:FA):TA:=λτ H Q=>∃ L σ M ds M',Cor K L M H/\zBo L H σ τ/\f σ M=some (ds,M') /\ ∀ L' H' vs,Stp L H L' H'->Cor K L' M' H'->zR L' H' ds vs->Q vs H'
end
section
variable {X:Cx} {e:Expr}
def PE.imp (h:PE X e t) (hi:∀ τ H Q,t' τ H Q->t τ H Q):PE X e t':=λzB s σ H Q I q=>h zB s σ H Q I (hi _ _ _ q)
def PT.imp (h:PT X e t) (hi:∀ τ H Q,t' τ H Q->t τ H Q):PT X e t':=λzB s σ H Q I q=>h zB s σ H Q I (hi _ _ _ q)
def PS.imp {st:Stmt} {t t':TS} (h:PS X st t) (hi:∀ D τ H,t' D τ H->t D τ H):PS X st t':=λzB s σ H D I q=>h zB s σ H D I (hi _ _ _ q)
def PSs.imp {st:Yy} {t t':TS} (h:PSs X st t) (hi:∀ D τ H,t' D τ H->t D τ H):PSs X st t':=λzB s σ H D I q=>h zB s σ H D I (hi _ _ _ q)
structure QE (X:Cx) (e:Expr) (f:FE):Prop where
 un:PE X e (trE X.K f)
structure QD (X:Cx) (e:Expr) (f:FD):Prop where
 un:PE X e (trD X.K f)
structure QT (X:Cx) (e:Expr) (f:FT):Prop where
 un:PT X e (trT X.K f)
structure QA (X:Cx) (es:Yi) (f:FA):Prop where
 un:PA X es (trA X.K f)
def toD (f:FE):FD:=λσ M=>match f σ M with
 |some (.dat d,M')=>some (d,M')
 |some (.fl xs,M')=>some (.ref M'.length,M'++[.lst xs])
 |none=>none
mutual
theorem Rep.more (N:Yg):∀ {d:D} {v:V},Rep L H d v->Rep (L++N) H d v
 |.non,_,h=>by unfold Rep at h ⊢;exact h
 |.bl _,_,h=>by unfold Rep at h ⊢;exact h
 |.int _,_,h=>by unfold Rep at h ⊢;exact h
 |.str _,_,h=>by unfold Rep at h ⊢;exact h
 |.tup ds,_,h=>by
  unfold Rep at h ⊢;obtain ⟨a,vs,rfl,e,r⟩:=h;exact ⟨a,vs,rfl,e,zR.more N r⟩
 |.ref n,_,h=>by
  unfold Rep at h ⊢;obtain ⟨a,rfl,e⟩:=h;exact ⟨a,rfl,zBp e⟩
theorem zR.more (N:Yg):∀ {ds:List D} {vs:List V},zR L H ds vs->zR (L++N) H ds vs
 |[],_,h=>by unfold zR at h ⊢;exact h
 |d::ds,_,h=>by
  unfold zR at h ⊢;obtain ⟨v,r,rfl,h1,h2⟩:=h;exact ⟨v,r,rfl,Rep.more N h1,zR.more N h2⟩
end
def zA6.more {κ:Type} {kf:D->Option κ} {L:Yg} {H:Hp} (N:Yg):∀ {ps:List (D × D)} {vs:List (κ × V)},zA6 kf L H ps vs->zA6 kf (L++N) H ps vs
 |[],_,h=>h
 |p::r,_,h=>by
  obtain ⟨k,v,r',rfl,e,h1,h2⟩:=h;exact ⟨k,v,r',rfl,e,h1.more N,zA6.more N h2⟩
def zHe.more {K:Yb} {L:Yg} {H:Hp} {a:Yt} {m:MO} (N:Yg) (h:zHe K L H a m):zHe K (L++N) H a m:=by
 cases m with
 |lst xs=>obtain ⟨vs,e,r⟩:=h;exact ⟨vs,e,r.more N⟩
 |fro xs=>obtain ⟨o,vs,e,r⟩:=h;exact ⟨o,vs,e,r.more N⟩
 |dict ps=>obtain ⟨vs,e,r⟩:=h;exact ⟨vs,e,r.more N⟩
 |dicT ps=>obtain ⟨vs,e,r⟩:=h;exact ⟨vs,e,r.more N⟩
 |set _=>exact h
 |froT ps=>obtain ⟨o,vs,e,r⟩:=h;exact ⟨o,vs,e,r.more N⟩
 |froK ps=>obtain ⟨o,vs,e,r⟩:=h;exact ⟨o,vs,e,r.more N⟩
def zTh {K:Yb} {L L':Yg} {M':List MO} {H H':Hp} {p:Yt} {xs:List D} {vs:List V} (s:Stp L H L' H') (c:Cor K L' M' H') (h0:H p=none) (h1:H' p=some (.lst vs)) (h2:p∉L') (r:zR L' H' xs vs) :
  Cor K (L'++[p]) (M'++[.lst xs]) H'/\Stp L H (L'++[p]) H':=by
 refine ⟨⟨by simp[c.len],?_,λn a m e1 e2=>?_⟩,?_⟩
 .rw[zYR];exact ⟨c.nd,by simp,λa ha b hb z=>by
   have:b=p:=by simpa using hb
   subst this;subst z;exact h2 ha⟩
 .by_cases hn:n<L'.length
  .rw[zXK hn]at e1;rw[zXK (by rw[<-c.len];exact hn)]at e2;exact (c.obj n a m e1 e2).more [p]
  .have hn':n=L'.length:=by
    have:=(zXG.mp e1).1;rw[zXT]at this;simp at this;omega
   subst hn';simp at e1;rw[c.len]at e2;simp at e2;subst e1;subst e2;exact ⟨vs,h1,r.more [p]⟩
 .obtain ⟨N,hN⟩:=s.pre;refine ⟨⟨N++[p],by rw[hN];simp⟩,λa ha=>?_,s.old,s.tup,s.frz⟩;rcases zXd.mp ha with z|z
  .exact s.new a z
  .have:a=p:=by simpa using z
   subst this;exact .inr h0
def Rep.last {L:Yg} {M:List MO} {H:Hp} {K:Yb} {p:Yt} (c:Cor K L M H):Rep (L++[p]) H (.ref M.length) (.ref p):=by
 unfold Rep;exact ⟨p,rfl,by rw[<-c.len];simp⟩
def zA9 {f:FE} (h:QE X e f):QD X e (toD f):=.mk <| PE.imp h.un λτ H Q zz=>by
 obtain ⟨L,σ,M,d,M',c,rs,hf,q⟩:=zz;unfold toD at hf;split at hf
 .rename_i d' M1 e1;cases hf;exact ⟨L,σ,M,_,_,c,rs,e1,λL' H' v s c' r=>q L' H' v s c' r⟩
 .rename_i xs M1 e1;cases hf;refine ⟨L,σ,M,_,_,c,rs,e1,λL' H' v s c' r=>?_⟩;obtain ⟨p,vs,rfl,e0,e2,e3,r⟩:=r;obtain ⟨c2,s2⟩:=zTh s c' e0 e2 e3 r;exact q _ H' _ s2 c2 (Rep.last c')
 .cases hf
def zC (i:Nat):FE:=λσ M=>match σ[i]? with
 |some (some d)=>some (.dat d,M)
 |_=>none
def zCB (h:PE X (.Name x pos) (zTy i)):QE X (.Name x pos) (zC i):=.mk <| PE.imp h λτ H Q zz=>by
 obtain ⟨L,σ,M,d,M',c,rs,hf,q⟩:=zz;unfold zC at hf;split at hf
 .rename_i d' e1;cases hf;obtain ⟨v,e2,r⟩:=rs.2 i d' e1;exact ⟨v,e2,q L H v (.refl L H) c r⟩
 .cases hf
def fC (d:D):FE:=λ_ M=>some (.dat d,M)
def zJ8 (hd:∀ L H,Rep L H d v) (h:PE X e (tC v)):QE X e (fC d):=.mk <| PE.imp h λτ H Q zz=>by
 obtain ⟨L,σ,M,d',M',c,rs,hf,q⟩:=zz;unfold fC at hf;cases hf;exact q L H v (.refl L H) c (hd L H)
def zWj {i j pos}:QE X (.Constant (.int i) j pos) (fC (.int i)):=zJ8 (λ_ _=>by unfold Rep;rfl) zVA
def zWQ {b j pos}:QE X (.Constant (.bool b) j pos) (fC (.bl b)):=zJ8 (λ_ _=>by unfold Rep;rfl) zV5
def zWN {x j pos}:QE X (.Constant (.str x) j pos) (fC (.str x)):=zJ8 (λ_ _=>by unfold Rep;rfl) zTm
def zH:FA:=λ_ M=>some ([],M)
def zD (f:FD) (g:FA):FA:=λσ M=>match f σ M with
 |some (d,M1)=>match g σ M1 with
  |some (ds,M2)=>some (d::ds,M2)
  |none=>none
 |none=>none
def PA.imp (h:PA X es t) (hi:∀ τ H Q,t' τ H Q->t τ H Q):PA X es t':=λpos zB s σ H Q I q=>h pos zB s σ H Q I (hi _ _ _ q)
def zNE:QA X [] zH:=.mk <| PA.imp zFG λτ H Q zz=>by
 obtain ⟨L,σ,M,d,M',c,rs,hf,q⟩:=zz;unfold zH at hf;cases hf;exact q L H [] (.refl L H) c .nil
noncomputable def zFf (h1:QD X e f) (h2:QA X es g) (hs:starEach (e::es) X.env=(false,eval e X.env)::starEach es X.env:=by rfl):QA X (e::es) (zD f g) :=
 .mk <| PA.imp (zCw h1.un h2.un hs) λτ H Q zz=>by
  obtain ⟨L,σ,M,d,M',c,rs,hf,q⟩:=zz;unfold zD at hf;split at hf
  .rename_i d1 M1 e1;split at hf
   .rename_i ds M2 e2;cases hf;refine ⟨L,σ,M,_,_,c,rs,e1,λL1 H1 v s1 c1 r1=>⟨L1,σ,M1,_,_,c1,rs.stp s1,e2,λL2 H2 vs s2 c2 r2=>?_⟩⟩;exact q L2 H2 _ (s1.trans s2) c2 (.cons (r1.stp s2) r2)
   .cases hf
  .cases hf
def zAd (g:FA):FE:=λσ M=>match g σ M with
 |some (ds,M1)=>if ds.length<=sizeLine then some (.dat (.tup ds),M1) else none
 |none=>none
def zAb (g:FA):FE:=λσ M=>match g σ M with
 |some (ds,M1)=>if ds.length<=sizeLine then some (.fl ds,M1) else none
 |none=>none
def Rep.newTup (h:H p=none) (r:zR L H ds vs):Rep L (upd H p (.tup vs)) (.tup ds) (.ref p):=by
 unfold Rep;exact ⟨p,vs,rfl,zAB,r.stp (.upd h)⟩
def zVU {x1 pos} (h:QA X es g):QE X (.Tuple es x1 pos) (zAd g):=.mk <| PE.imp (zUt h.un) λτ H Q zz=>by
 obtain ⟨L,σ,M,d,M',c,rs,hf,q⟩:=zz;unfold zAd at hf;split at hf
 .rename_i ds M1 e1;split at hf
  .rename_i hz;cases hf;refine ⟨L,σ,M,_,_,c,rs,e1,λL1 H1 vs s1 c1 r1=>⟨by rw[r1.length];exact hz,λp hp=>?_⟩⟩;exact q L1 _ _ (s1.trans (.upd hp)) (c1.upd hp) (Rep.newTup hp r1)
  .cases hf
 .cases hf
def zN8 {L L1:Yg} {H H1:Hp} {K:Yb} {M M1:List MO} (s:Stp L H L1 H1) (c:Cor K L M H) (c1:Cor K L1 M1 H1) {p:Yt} (hp:H1 p=none):H p=none/\p∉L1:=by
 have hp1:p∉L1:=λz=>by obtain ⟨o,e⟩:=c1.tracked z;rw[hp]at e;cases e
 refine ⟨?_,hp1⟩;cases q:H p with
 |none=>rfl
 |some o=>
  have:p∉L:=λz=>hp1 (by obtain ⟨N,hN⟩:=s.pre;rw[hN];exact zYS _ z);rw[s.old p o q this]at hp;cases hp
def zk.newLst {L L1:Yg} {H H1:Hp} {K:Yb} {M M1:List MO} {p:Yt} {ds:List D} {vs:List V} (s:Stp L H L1 H1) (c:Cor K L M H) (c1:Cor K L1 M1 H1) (hp:H1 p=none) (r:zR L1 H1 ds vs) :
  zk H L1 (upd H1 p (.lst vs)) (.fl ds) (.ref p):=by
 obtain ⟨a,b⟩:=zN8 s c c1 hp;exact ⟨p,vs,rfl,a,zAB,b,r.stp (.upd hp)⟩
def zVv {pos} (h:QA X es g):QE X (.List es pos) (zAb g):=.mk <| PE.imp (zUI h.un) λτ H Q zz=>by
 obtain ⟨L,σ,M,d,M',c,rs,hf,q⟩:=zz;unfold zAb at hf;split at hf
 .rename_i ds M1 e1;split at hf
  .rename_i hz;cases hf;refine ⟨L,σ,M,_,_,c,rs,e1,λL1 H1 vs s1 c1 r1=>⟨by rw[r1.length];exact hz,λp hp=>?_⟩⟩;exact q L1 _ _ (s1.trans (.upd hp)) (c1.upd hp) (zk.newLst s1 c c1 hp r1)
  .cases hf
 .cases hf
end
abbrev FAE:=Sd->Mem->Option (List EV × Mem)
def zCy (H0:Hp) (L:Yg) (H:Hp):List EV->List V->Prop
 |[],vs=>vs=[]
 |e::es,vs=>∃ v r,vs=v::r/\zk H0 L H e v/\zCy H0 L H es r
def Stp.sub (s:Stp L H L' H'):∀ a∈L,a∈L':=λa h=>by
 obtain ⟨N,hN⟩:=s.pre;rw[hN];exact zYS _ h
def zCy.back {H0 H1:Hp} {L0 L1 L:Yg} {H:Hp} (s:Stp L0 H0 L1 H1) {M:List MO} {K:Yb} (c:Cor K L0 M H0) (hL:∀ a∈L1,a∈L):∀ {es:List EV} {vs:List V},zCy H1 L H es vs->zCy H0 L H es vs
 |[],_,h=>h
 |e::es,_,h=>by
  obtain ⟨v,r,rfl,h1,h2⟩:=h;exact ⟨v,r,rfl,h1.back s c hL,zCy.back s c hL h2⟩
def zV2 (K:Yb) (f:FAE):TA:=λτ H Q=>∃ L σ M ds M',Cor K L M H/\zBo L H σ τ/\f σ M=some (ds,M') /\ ∀ L' H' vs,Stp L H L' H'->Cor K L' M' H'->zCy H L' H' ds vs->Q vs H'
structure QAE (X:Cx) (es:Yi) (f:FAE):Prop where
 un:PA X es (zV2 X.K f)
section
variable {X:Cx} {a b e:Expr} {es:Yi} {pos:Pos}
def ze:FAE:=λ_ M=>some ([],M)
def zQ (f:FE) (g:FAE):FAE:=λσ M=>match f σ M with
 |some (d,M1)=>match g σ M1 with
  |some (ds,M2)=>some (d::ds,M2)
  |none=>none
 |none=>none
def zJ0:QAE X [] ze:=.mk <| PA.imp zFG λτ H Q zz=>by
 obtain ⟨L,σ,M,d,M',c,rs,hf,q⟩:=zz;unfold ze at hf;cases hf;exact q L H [] (.refl L H) c rfl
noncomputable def zHD (h1:QE X e f) (h2:QAE X es g) (hs:starEach (e::es) X.env=(false,eval e X.env)::starEach es X.env:=by rfl):QAE X (e::es) (zQ f g) :=
 .mk <| PA.imp (zCw h1.un h2.un hs) λτ H Q zz=>by
  obtain ⟨L,σ,M,d,M',c,rs,hf,q⟩:=zz;unfold zQ at hf;split at hf
  .rename_i d1 M1 e1;split at hf
   .rename_i ds M2 e2;cases hf;refine ⟨L,σ,M,_,_,c,rs,e1,λL1 H1 v s1 c1 r1=>⟨L1,σ,M1,_,_,c1,rs.stp s1,e2,λL2 H2 vs s2 c2 r2=>?_⟩⟩;exact q L2 H2 _ (s1.trans s2) c2 ⟨v,vs,rfl,r1.stp s2,r2.back s1 c s2.sub⟩
   .cases hf
  .cases hf
abbrev K2:=EV->EV->Mem->Option (EV × Mem)
def zDW (K:Yb) (r:R2) (k:K2):Prop:=∀ {L:Yg} {M M':Mem} {H H0:Hp} {x y d:EV} {v w:V} {Q:VK},Cor K L M H->zk H0 L H x v->zk H0 L H y w->k x y M=some (d,M') ->
 (∀ L' H' u,Stp L H L' H'->Cor K L' M' H'->zk H L' H' d u->Q u H')->r v w H Q
def fOp (k:K2) (f g:FE):FE:=λσ M=>match f σ M with
 |some (x,M1)=>match g σ M1 with
  |some (y,M2)=>k x y M2
  |none=>none
 |none=>none
def zDZ {K:Yb} {r:R2} {k:K2} {f g:FE} (hk:zDW K r k) {τ:Sv} {H:Hp} {Q:VK} (h:trE K (fOp k f g) τ H Q):tOp r (trE K f) (trE K g) τ H Q:=by
 obtain ⟨L,σ,M,d,M',c,rs,hf,q⟩:=h;unfold fOp at hf;split at hf
 .rename_i x M1 e1;split at hf
  .rename_i y M2 e2;refine ⟨L,σ,M,_,_,c,rs,e1,λL1 H1 v s1 c1 r1=>⟨L1,σ,M1,_,_,c1,rs.stp s1,e2,λL2 H2 w s2 c2 r2=>?_⟩⟩;refine hk (H0:=H) c2 (r1.stp s2) (r2.back s1 c s2.sub) hf λL3 H3 u s3 c3 r3=>?_;exact q L3 H3 u ((s1.trans s2).trans s3) c3 (r3.back (s1.trans s2) c s3.sub)
  .cases hf
 .cases hf
def zK2 (hk:zDW X.K r k) (ho:OpR X (binaryOp op) r) (h1:QE X a f) (h2:QE X b g):QE X (.BinOp a op b pos) (fOp k f g):=.mk <| PE.imp (zV4 ho h1.un h2.un) λ_ _ _ h=>zDZ hk h
def zV6 (hk:zDW X.K r k) (ho:OpR X (compareOp op) r) (h1:QE X a f) (h2:QE X b g) (hm:behindInMarks op b=false):QE X (.Compare a [op] [b] pos) (fOp k f g) :=
 .mk <| PE.imp (zSw ho h1.un h2.un hm) λ_ _ _ h=>zDZ hk h
def tst (f:FE):FT:=λσ M=>match f σ M with
 |some (.dat (.bl c),M')=>some (c,M')
 |_=>none
def zEr {K:Yb} {f:FE} {τ:Sv} {H:Hp} {Q:Bool->Hp->Prop} (h:trT K (tst f) τ H Q):zNZ (trE K f) τ H Q:=by
 obtain ⟨L,σ,M,d,M',c,rs,hf,q⟩:=h;unfold tst at hf;split at hf
 .rename_i k M1 e1;cases hf;refine ⟨L,σ,M,_,_,c,rs,e1,λL1 H1 v s1 c1 r1=>?_⟩;have:v=.bl d:=by unfold zk Rep at r1;exact r1
  exact ⟨d,this,q L1 H1 s1 c1⟩
 .cases hf
def zE8 (h:∀ τ H Q,t τ H Q->t' τ H Q) (q:zNZ t τ H Q):zNZ t' τ H Q:=h _ _ _ q
def zEB {op:CmpOp} {r:R2} {k:K2} {f g:FE} (hk:zDW X.K r k) (ho:OpR X (compareOp op) r) (h1:QE X a f) (h2:QE X b g) (hm:behindInMarks op b=false):QT X (.Compare a [op] [b] pos) (tst (fOp k f g)) :=
 .mk <| PT.imp (zTV ho h1.un h2.un hm) λ_ _ _ h=>zE8 (λ_ _ _ z=>zDZ hk z) (zEr h)
def zJ6 (h:QE X e f) (he:∀ whole,isTrue e X.env whole=(do let v <- whole;standAt e.pos;holding [v] (truthy v)):=by intro _;rfl):QT X e (tst f) :=
 .mk <| PT.imp (zT9 h.un he) λ_ _ _ h=>zEr h
def kI (C:Int->Int->Bool) (g:Int->Int->D):K2:=λx y M=>match x,y with
 |.dat (.int i),.dat (.int j)=>if C i j then some (.dat (g i j),M) else none
 |_,_=>none
def kI0 (g:Int->Int->D):K2:=kI (λ_ _=>true) g
def zLy {K:Yb} {C:Int->Int->Bool} {C':Int->Int->Prop} {g:Int->Int->D} {g':Int->Int->V} (hC:∀ i j,C i j=true->C' i j) (hg:∀ L H i j,Rep L H (g i j) (g' i j)):zDW K (rI C' g') (kI C g):=by
 intro L M M' H H0 x y d v w Q c rx ry hk q;unfold kI at hk;split at hk
 .rename_i i j;split at hk
  .rename_i hc;cases hk;refine ⟨i,j,by unfold zk Rep at rx;exact rx,by unfold zk Rep at ry;exact ry,hC i j hc,q L H _ (.refl L H) c (hg L H i j)⟩
  .cases hk
 .cases hk
def zGM {K:Yb} {g:Int->Int->D} {g':Int->Int->V} (hg:∀ L H i j,Rep L H (g i j) (g' i j)):zDW K (rI0 g') (kI0 g):=by
 intro L M M' H H0 x y d v w Q c rx ry hk q;obtain ⟨i,j,h1,h2,_,h4⟩:=zLy (C:=λ_ _=>true) (C':=λ_ _=>True) (λ_ _ _=>trivial) hg c rx ry hk q;exact ⟨i,j,h1,h2,h4⟩
def zAp:Rep L H (.int i) (.int i):=by unfold Rep;rfl
def zCK:Rep L H (.bl i) (.bl i):=by unfold Rep;rfl
def zPA (i j:Int):Bool:=(decide (-(2 ^ 64)<i)&&decide (i<2 ^ 64))||(decide (-(2 ^ 64)<j)&&decide (j<2 ^ 64))
abbrev zXA:K2:=kI0 λi j=> .int (i+j)
abbrev zGj:K2:=kI0 λi j=> .int (i-j)
abbrev zM3:K2:=kI zPA λi j=> .int (i*j)
abbrev zDn:K2:=kI (λ_ j=>decide (0<j)) λi j=> .int (i % j)
abbrev zMt:K2:=kI (λ_ j=>decide (0<j)&&decide (j<1073741824)) λi j=> .int (i / j)
abbrev zOe:K2:=kI (λi j=>decide (0<=j)&&decide (j<=1000000)&&decide (i.natAbs<2 ^ 64)) λi j=> .int (i ^ j.toNat)
abbrev kLt:K2:=kI0 λi j=> .bl (decide (i<j))
abbrev kLe:K2:=kI0 λi j=> .bl (decide (i<=j))
abbrev kGt:K2:=kI0 λi j=> .bl (decide (j<i))
abbrev kGe:K2:=kI0 λi j=> .bl (decide (j<=i))
section
variable {f g:FE}
def zWO (h1:QE X a f) (h2:QE X b g):QE X (.BinOp a .Sub b pos) (fOp zGj f g):=zK2 (zGM λ_ _ _ _=>zAp) zT6 h1 h2
def zWE (h1:QE X a f) (h2:QE X b g):QE X (.BinOp a .Mult b pos) (fOp zM3 f g):=zK2 (zLy (λi j h=>by
 unfold zPA at h;simp only[Bool.or_eq_true,zXn,zYQ]at h;exact h) λ_ _ _ _=>zAp) zT8 h1 h2
def zVx (h1:QE X a f) (h2:QE X b g):QE X (.BinOp a .Mod b pos) (fOp zDn f g):=zK2 (zLy (λi j h=>zX9 h) λ_ _ _ _=>zAp) zU8 h1 h2
def zWe (h1:QE X a f) (h2:QE X b g):QE X (.BinOp a .FloorDiv b pos) (fOp zMt f g):=zK2 (zLy (λi j h=>by
 simp only[zXn,zYQ]at h;exact h) λ_ _ _ _=>zAp) zTM h1 h2
def zVu (h1:QE X a f) (h2:QE X b g):QE X (.BinOp a .Pow b pos) (fOp zOe f g):=zK2 (zLy (λi j h=>by
 simp only[zXn,zYQ]at h;exact ⟨h.1.1,h.1.2,h.2⟩) λ_ _ _ _=>zAp) zUZ h1 h2
def zVt (h1:QE X a f) (h2:QE X b g):QT X (.Compare a [.Lt] [b] pos) (tst (fOp kLt f g)):=zEB (zGM λ_ _ _ _=>zCK) zWM h1 h2 (zFC _)
def zVy (h1:QE X a f) (h2:QE X b g):QT X (.Compare a [.LtE] [b] pos) (tst (fOp kLe f g)):=zEB (zGM λ_ _ _ _=>zCK) zWW h1 h2 (zFC _)
def zVZ (h1:QE X a f) (h2:QE X b g):QT X (.Compare a [.Gt] [b] pos) (tst (fOp kGt f g)):=zEB (zGM λ_ _ _ _=>zCK) zWd h1 h2 (zFC _)
def zVg (h1:QE X a f) (h2:QE X b g):QT X (.Compare a [.GtE] [b] pos) (tst (fOp kGe f g)):=zEB (zGM λ_ _ _ _=>zCK) zVs h1 h2 (zFC _)
end
end
def zBa (M:Mem):EV->Option (List D)
 |.fl xs=>some xs
 |.dat (.ref n)=>match M[n]? with
  |some (.lst xs)=>some xs
  |some (.fro xs)=>some xs
  |_=>none
 |_=>none
def zCP:EV->Option (List D)
 |.dat (.tup xs)=>some xs
 |_=>none
def zAL (M:Mem) (x:EV):Option (List D):=match zCP x with
 |some xs=>some xs
 |none=>zBa M x
def zBP {K:Yb} {L:Yg} {M:Mem} {H H0:Hp} {x:EV} {v:V} {xs:List D} (c:Cor K L M H) (r:zk H0 L H x v) (h:zBa M x=some xs):∃ a vs,v=.ref a/\Rd H a (.lst vs)/\zR L H xs vs:=by
 cases x with
 |fl ys=>
  cases h;obtain ⟨p,vs,rfl,_,e,_,r⟩:=r;exact ⟨p,vs,rfl,.inl e,r⟩
 |dat d=>
  cases d with
  |ref n=>
   unfold zk Rep at r;obtain ⟨a,rfl,e⟩:=r;unfold zBa at h;dsimp only at h;cases q:M[n]? with
   |none=>rw[q]at h;cases h
   |some m=>
    rw[q]at h;have z:=c.obj n a m e q;cases m with
    |lst ys=>cases h;obtain ⟨vs,e1,r1⟩:=z;exact ⟨a,vs,rfl,.inl e1,r1⟩
    |fro ys=>cases h;obtain ⟨o,vs,e1,r1⟩:=z;exact ⟨a,vs,rfl,.inr ⟨o,e1⟩,r1⟩
    |dict _=>cases h
    |dicT _=>cases h
    |set _=>cases h
    |froT _=>cases h
    |froK _=>cases h
  |_=>cases h
def zCA {L:Yg} {H H0:Hp} {x:EV} {v:V} {xs:List D} (r:zk H0 L H x v) (h:zCP x=some xs):∃ a vs,v=.ref a/\H a=some (.tup vs)/\zR L H xs vs:=by
 cases x with
 |fl ys=>cases h
 |dat d=>
  cases d with
  |tup ys=>cases h;unfold zk Rep at r;exact r
  |_=>cases h
def zHB {K:Yb} {L:Yg} {M:Mem} {H H0:Hp} {x:EV} {v:V} {xs:List D} (c:Cor K L M H) (r:zk H0 L H x v) (h:zAL M x=some xs):∃ a vs,v=.ref a/\(SqL K H a vs\/SqT K H a vs)/\zR L H xs vs:=by
 unfold zAL at h;cases q:zCP x with
 |some ys=>
  rw[q]at h;cases h;obtain ⟨a,vs,e,h1,h2⟩:=zCA r q;exact ⟨a,vs,e,.inr (.of h1),h2⟩
 |none=>
  rw[q]at h;obtain ⟨a,vs,e,h1,h2⟩:=zBP c r h;exact ⟨a,vs,e,.inl (.inl h1),h2⟩
def zUT {L:Yg} {H:Hp} {xs:List D} {vs:List V} {i:Int} {d:D} (r:zR L H xs vs) (h:atI xs i=some d):∃ v,atI vs i=some v/\Rep L H d v:=by
 unfold atI at h ⊢;rw[r.length];cases q:ixN xs.length i with
 |none=>rw[q]at h;cases h
 |some j=>rw[q]at h;exact r.get h
def zSl {L:Yg} {H:Hp} {i:Str}:Rep L H (.str i) (.str i):=by unfold Rep;rfl
noncomputable def kIx:K2:=λx y M=>match y with
 |.dat (.int i)=>match zAL M x with
  |some xs=>match atI xs i with
   |some d=>some (.dat d,M)
   |none=>none
  |none=>match x with
   |.dat (.str z)=>if z.length<=sizeLine then match atI z.cps.toList i with
     |some c=>some (.dat (.str ⟨#[c]⟩),M)
     |none=>none
    else none
   |_=>none
 |_=>none
def zVJ {K:Yb}:zDW K (rIx K) kIx:=by
 intro L M M' H H0 x y d v w Q c rx ry hk q;unfold kIx at hk;split at hk
 .rename_i i;have ew:w=.int i:=by unfold zk Rep at ry;exact ry
  split at hk
  .rename_i xs e1;split at hk
   .rename_i d' e2;cases hk;obtain ⟨a,vs,rfl,hs,r⟩:=zHB c rx e1;obtain ⟨u,e3,r3⟩:=zUT r e2;rcases hs with hs|hs
    .exact .inl ⟨a,vs,i,u,rfl,ew,hs,e3,q L H u (.refl L H) c r3⟩
    .exact .inr (.inl ⟨a,vs,i,u,rfl,ew,hs,e3,q L H u (.refl L H) c r3⟩)
   .cases hk
  .split at hk
   .rename_i z _;split at hk
    .rename_i hz;split at hk
     .rename_i ch e2;cases hk;have ev:v=.str z:=by unfold zk Rep at rx;exact rx
      exact .inr (.inr ⟨z,i,ch,ev,ew,hz,e2,q L H _ (.refl L H) c (zSl (L:=L) (H:=H))⟩)
     .cases hk
    .cases hk
   .cases hk
 .cases hk
section
variable {prog:Ym} {w:Yo} {A:Yn} {E:Yc} {s:Yl}
def zMW {t sl:Yt} {items:Yp} {vl vu:Yu} {lo hi:Ys} {Q:Yc} (T:IsTup s.heap t items) (S:s.heap.IsSliceOf sl vl vu .none) (pl:IsPart vl lo) (pu:IsPart vu hi)
  (h1:HT.sIx items.size 0 lo=0) (h2:HT.sIx items.size items.size hi=items.size) (h:Q (.ref t) s):wpAny (model prog w) A (getItem (.ref t) (.ref sl)) Q E s:=by
 obtain ⟨o,O,C,G⟩:=id S;have TS:s.TypeIs (.ref sl) "slice" := ⟨o,O,C⟩;unfold getItem;try with_reducible refine zX6 ?_
 first|refine zXD (zXF ?_)|skip
 refine zXD (wpAny_sequenceKey T.typeIs (by decide) ?_);refine zXD (zXp (name:=Str.ofString "__getitem__") T.typeIs zYl (zXq zYl T.typeIs entry_tuple_getitem ?_ (args_tuple_getitem _ _)));refine zXD (m:=Builtin.Tuple.tupleItemsOf (.ref t)) (tupleItemsOf_ T (zXD (wpAny_typeOf TS ?_)));rw[zXS (by decide)];refine zXD (HT.zDN S pl pu ?_);rw[h1,h2];show wpAny _ _ (if ((((0:Nat):Int)==0&&(1:Int)==1&&(items.size-0)==items.size))=true then _ else _) _ _ s;rw[zXS (by simp)];unfold Builtin.Tuple.tupleIsExact;refine zXD (zXD (wpAny_typeOf T.typeIs (zXF ?_)));rw[zXS (by decide)];exact zXD (zYa (zXF ⟨_,rfl,zXF h⟩))
end
def zXB (K:Yb):V->Option Int->Option Int->Hp->VK->Prop:=λx lo hi H Q=>∃ a xs,x=.ref a/\SqT K H a xs/\(HT.sIx xs.length 0 lo=0/\HT.sIx xs.length xs.length hi=xs.length)/\Q (.ref a) H
def zSW {X:Cx}:SlR X (zXB X.K):=by
 intro zB s σ H x v vl vu lo hi sl Q I rx hs pl pu h;obtain ⟨a,xs,rfl,hx,hw,q⟩:=h;cases rx;obtain ⟨its,r,ht,hz⟩:=I.tuple hx;have hlen:its.toArray.size=xs.length:=by rw[zXL];exact r.length.symm
 exact ⟨"tuple", _,zYl.lookup,ht.typeIs,zMW ht hs pl pu (by rw[hlen];exact hw.1) (by rw[hlen];exact hw.2) ⟨.ref a,H,I,rfl,q⟩⟩
section
variable {X:Cx} {a b e:Expr} {es:Yi} {pos:Pos} {f g:FE}
def zWy (h1:QE X a f) (h2:QE X b g) (hs:zNy b:=by intro _ _;rfl):QE X (.Subscript a b pos) (fOp kIx f g):=.mk <| PE.imp (zVo zUK h1.un h2.un hs) λ_ _ _ h=>zDZ zVJ h
abbrev FO:=Sd->Mem->Option (Option Int × Mem)
def trO (K:Yb) (f:FO):TO:=λτ H Q=>∃ L σ M d M',Cor K L M H/\zBo L H σ τ/\f σ M=some (d,M') /\ ∀ L' H',Stp L H L' H'->Cor K L' M' H'->Q d H'
structure QO (X:Cx) (e:Option Expr) (f:FO):Prop where
 un:PO X e (trO X.K f)
def zBz:FO:=λ_ M=>some (none,M)
def zBY (f:FE):FO:=λσ M=>match f σ M with
 |some (.dat (.int i),M')=>some (some i,M')
 |_=>none
def PO.imp {e:Option Expr} {t t':TO} (h:PO X e t) (hi:∀ τ H Q,t' τ H Q->t τ H Q):PO X e t':=λzB s σ H Q I q=>h zB s σ H Q I (hi _ _ _ q)
def zR6:QO X none zBz:=.mk <| PO.imp zTW λτ H Q zz=>by
 obtain ⟨L,σ,M,d,M',c,rs,hf,q⟩:=zz;unfold zBz at hf;cases hf;exact q L H (.refl L H) c
def zTE (h:QE X e f):QO X (some e) (zBY f):=.mk <| PO.imp (zTI h.un) λτ H Q zz=>by
 obtain ⟨L,σ,M,d,M',c,rs,hf,q⟩:=zz;unfold zBY at hf;split at hf
 .rename_i i M1 e1;cases hf;refine ⟨L,σ,M,_,_,c,rs,e1,λL1 H1 v s1 c1 r1=>?_⟩;exact ⟨i,by unfold zk Rep at r1;exact r1,q L1 H1 s1 c1⟩
 .cases hf
def zDp (xs:List D) (lo hi:Ys):List D:=(xs.drop (HT.sIx xs.length 0 lo)).take (HT.sIx xs.length xs.length hi-HT.sIx xs.length 0 lo)
def zNr {L:Yg} {H:Hp} {xs:List D} {vs:List V} {lo hi:Ys} (r:zR L H xs vs):zR L H (zDp xs lo hi) (zL3 vs lo hi):=by
 unfold zDp zL3;rw[r.length];exact (r.drop _).take _
def kSl (x:EV) (lo hi:Ys) (M:Mem):Option (EV × Mem):=match zCP x with
 |some xs=>some (.dat (.tup (zDp xs lo hi)),M)
 |none=>match zBa M x with
  |some xs=>some (.fl (zDp xs lo hi),M)
  |none=>none
def fSl (f:FE) (fl fh:FO):FE:=λσ M=>match f σ M with
 |some (x,M1)=>match fl σ M1 with
  |some (lo,M2)=>match fh σ M2 with
   |some (hi,M3)=>kSl x lo hi M3
   |none=>none
  |none=>none
 |none=>none
def zS6 {lo hi:Option Expr} {p2:Pos} {fl fh:FO} (h:QE X e f) (hl:QO X lo fl) (hh:QO X hi fh):QE X (.Subscript e (.Slice lo hi none p2) pos) (fSl f fl fh) :=
 .mk <| PE.imp (zRV (SlR.or zSc (SlR.or zUA zSW)) h.un hl.un hh.un) λτ H Q zz=>by
  obtain ⟨L,σ,M,d,M',c,rs,hf,q⟩:=zz;unfold fSl at hf;split at hf
  .rename_i x M1 e1;split at hf
   .rename_i l M2 e2;split at hf
    .rename_i u M3 e3;refine ⟨L,σ,M,_,_,c,rs,e1,λL1 H1 v s1 c1 r1=>⟨L1,σ,M1,_,_,c1,rs.stp s1,e2,λL2 H2 s2 c2=>⟨L2,σ,M2,_,_,c2,rs.stp (s1.trans s2),e3,λL3 H3 s3 c3=>?_⟩⟩⟩;have s:=(s1.trans s2).trans s3;have r3:zk H L3 H3 x v:=(r1.stp s2).stp s3;unfold kSl at hf;cases t:zCP x with
     |some xs=>
      rw[t]at hf;cases hf;obtain ⟨a,vs,rfl,e4,r4⟩:=zCA r3 t;by_cases hw:HT.sIx vs.length 0 l=0/\HT.sIx vs.length vs.length u=vs.length
      .refine .inr (.inr ⟨a,vs,rfl,.of e4,hw,?_⟩);have ec:zDp xs l u=xs:=by
        unfold zDp;rw[<-r4.length,hw.1,hw.2,r4.length];simp
       rw[ec]at q;refine q L3 H3 _ s c3 ?_;unfold zk Rep;exact ⟨a,vs,rfl,e4,r4⟩
      .refine .inr (.inl ⟨a,vs,rfl,.of e4,hw,λp hp=>?_⟩);exact q L3 _ _ (s.trans (.upd hp)) (c3.upd hp) (Rep.newTup hp (zNr r4))
     |none=>
      rw[t]at hf;dsimp only at hf;split at hf
      .rename_i xs e4;cases hf;obtain ⟨a,vs,rfl,e5,r5⟩:=zBP c3 r3 e4;refine .inl ⟨a,vs,rfl,.inl e5,λp hp=>?_⟩;exact q L3 _ _ (s.trans (.upd hp)) (c3.upd hp) (zk.newLst s c c3 hp (zNr r5))
      .cases hf
    .cases hf
   .cases hf
  .cases hf
abbrev KB:=List EV->Mem->Option (EV × Mem)
def zGo (K:Yb) (r:List V->Hp->VK->Prop) (k:KB):Prop:=∀ {L:Yg} {M M':Mem} {H H0:Hp} {xs:List EV} {d:EV} {vs:List V} {Q:VK},Cor K L M H->zCy H0 L H xs vs->k xs M=some (d,M') ->
 (∀ L' H' u,Stp L H L' H'->Cor K L' M' H'->zk H L' H' d u->Q u H')->r vs H Q
def fB (k:KB) (f:FAE):FE:=λσ M=>match f σ M with
 |some (xs,M1)=>k xs M1
 |none=>none
def zQg {K:Yb} {r:List V->Hp->VK->Prop} {k:KB} {f:FAE} (hk:zGo K r k) {τ:Sv} {H:Hp} {Q:VK} (h:trE K (fB k f) τ H Q):tCB r (zV2 K f) τ H Q:=by
 obtain ⟨L,σ,M,d,M',c,rs,hf,q⟩:=h;unfold fB at hf;split at hf
 .rename_i xs M1 e1;refine ⟨L,σ,M,_,_,c,rs,e1,λL1 H1 vs s1 c1 r1=>?_⟩;refine hk c1 r1 hf λL2 H2 u s2 c2 r2=>?_;exact q L2 H2 u (s1.trans s2) c2 (r2.back s1 c s2.sub)
 .cases hf
def zCy.one {H0:Hp} {L:Yg} {H:Hp} {x:EV} {vs:List V} (h:zCy H0 L H [x] vs):∃ v,vs=[v]/\zk H0 L H x v:=by
 obtain ⟨v,r,rfl,h1,h2⟩:=h;unfold zCy at h2;subst h2;exact ⟨v,rfl,h1⟩
def zAX:KB:=λxs M=>match xs with
 |[x]=>match zAL M x with
  |some ys=>some (.dat (.int ys.length),M)
  |none=>none
 |_=>none
def zRy:zGo X.K (λxs H Q=>∃ p ys,xs=[.ref p]/\(SqL X.K H p ys\/SqT X.K H p ys)/\Q (.int ys.length) H) zAX:=by
 intro L M M' H H0 xs d vs Q c r hk q;unfold zAX at hk;split at hk
 .rename_i x;split at hk
  .rename_i ys e1;cases hk;obtain ⟨v,rfl,r1⟩:=r.one;obtain ⟨a,ws,rfl,hs,r2⟩:=zHB c r1 e1;refine ⟨a,ws,rfl,hs,q L H _ (.refl L H) c ?_⟩;rw[r2.length];exact (zAp (L:=L) (H:=H))
  .cases hk
 .cases hk
noncomputable def zEh {x:Str} {p:Pos} {id:String} {r:List V->Hp->VK->Prop} {k:KB} {f:FAE} (hk:zGo X.K r k) (hc:zCI X (.builtin id) r) (hv:bootBuiltins x=some (.builtin id)) (hg:Gl X x) (hm:X.mg x=none) (ha:QAE X (e::es) f) (hn:x ≠ "__name__" := by decide) (hdb:(x==("__debug__" : Str))=false:=by decide)
  (he:starEach (e::es) X.env=(false,eval e X.env)::starEach es X.env:=by rfl) (hpl:(backTo pos (starEach es X.env)).any (·.1)=false:=by rfl):QE X (.Call (.Name x p) (e::es) [] pos) (fB k f) :=
 .mk <| PE.imp (zLh hc hg hm hv ha.un hn hdb he hpl) λ_ _ _ h=>zQg hk h
noncomputable def zIM {x:Str} {p:Pos} {T:String} {r:List V->Hp->VK->Prop} {k:KB} {f:FAE} (hk:zGo X.K r k) (hc:zCI X (.type T) r) (hv:bootBuiltins x=some (.type T)) (hg:Gl X x) (hm:X.mg x=none) (ha:QAE X (e::es) f) (hn:x ≠ "__name__" := by decide) (hdb:(x==("__debug__" : Str))=false:=by decide)
  (he:starEach (e::es) X.env=(false,eval e X.env)::starEach es X.env:=by rfl) (hpl:(backTo pos (starEach es X.env)).any (·.1)=false:=by rfl):QE X (.Call (.Name x p) (e::es) [] pos) (fB k f) :=
 .mk <| PE.imp (zDM hc hg hm hv ha.un hn hdb he hpl) λ_ _ _ h=>zQg hk h
def zA2:KB:=λxs M=>match xs with
 |[x]=>match zAL M x with
  |some ys=>some (.dat (.tup ys),M)
  |none=>none
 |_=>none
def zOF:zGo X.K (λxs H Q=>∃ p ys,xs=[.ref p]/\((SqL X.K H p ys /\ ∀ l,H l=none->Q (.ref l) (upd H l (.tup ys)))\/(SqT X.K H p ys/\Q (.ref p) H))) zA2:=by
 intro L M M' H H0 xs d vs Q c r hk q;unfold zA2 at hk;split at hk
 .rename_i x;split at hk
  .rename_i ys e1;cases hk;obtain ⟨v,rfl,r1⟩:=r.one;unfold zAL at e1;cases t:zCP x with
   |some zs=>
    rw[t]at e1;cases e1;obtain ⟨a,ws,rfl,e2,r2⟩:=zCA r1 t;refine ⟨a,ws,rfl,.inr ⟨.of e2,q L H _ (.refl L H) c ?_⟩⟩;unfold zk Rep;exact ⟨a,ws,rfl,e2,r2⟩
   |none=>
    rw[t]at e1;obtain ⟨a,ws,rfl,e2,r2⟩:=zBP c r1 e1;refine ⟨a,ws,rfl,.inl ⟨.inl e2,λp hp=>?_⟩⟩;exact q L _ _ (.upd hp) (c.upd hp) (Rep.newTup hp r2)
  .cases hk
 .cases hk
end
set_option genInjectivity true in
inductive Out where
 |nx|ret (d:D)|brk|cnt
abbrev FS:=Sd->Mem->Option (Out × Sd × Mem)
def zWL (E:Ends) (L:Yg) (H:Hp) (σ:Sd):Out->Prop
 |.nx=>∀ τ,zBo L H σ τ->E.nx τ H
 |.ret d=>∀ v,Rep L H d v->E.rt v H
 |.brk=>∀ τ,zBo L H σ τ->E.bk τ H
 |.cnt=>∀ τ,zBo L H σ τ->E.ct τ H
def trS (K:Yb) (f:FS):TS:=λE τ H=>∃ L σ M o σ' M',Cor K L M H/\zBo L H σ τ/\f σ M=some (o,σ',M') /\ ∀ L' H',Stp L H L' H'->Cor K L' M' H'->zWL E L' H' σ' o
structure QS (X:Cx) (st:Stmt) (f:FS):Prop where
 un:PS X st (trS X.K f)
structure QSs (X:Cx) (st:Yy) (f:FS):Prop where
 un:PSs X st (trS X.K f)
def zBo.set (h:zBo L H σ τ) (r:Rep L H d v):zBo L H (σ.set i (some d)) (τ.set i (some v)):=by
 refine ⟨by simp[h.1],λj e q=>?_⟩;rw[zYm]at q ⊢;split at q
 .rename_i z;subst z;split at q
  .rename_i hl;cases q;rw[zXS rfl,zXS (by rw[h.1];exact hl)];exact ⟨v,rfl,r⟩
  .cases q
 .rename_i z;rw[zXV z];exact h.2 j e q
def zKx {K:Yb} {f:FE} {τ:Sv} {H:Hp} {Q:VK} (h:trD K (toD f) τ H Q):trE K f τ H Q:=by
 obtain ⟨L,σ,M,d,M',c,rs,hf,q⟩:=h;unfold toD at hf;split at hf
 .rename_i d' M1 e1;cases hf;exact ⟨L,σ,M,_,_,c,rs,e1,λL' H' v s c' r=>q L' H' v s c' r⟩
 .rename_i xs M1 e1;cases hf;refine ⟨L,σ,M,_,_,c,rs,e1,λL' H' v s c' r=>?_⟩;obtain ⟨p,vs,rfl,e0,e2,e3,r⟩:=r;obtain ⟨c2,s2⟩:=zTh s c' e0 e2 e3 r;exact q _ H' _ s2 c2 (Rep.last c')
 .cases hf
def zBB:FS:=λσ M=>some (.nx,σ,M)
def zX (f g:FS):FS:=λσ M=>match f σ M with
 |some (.nx,σ1,M1)=>g σ1 M1
 |r=>r
def sIf (c:FT) (f g:FS):FS:=λσ M=>match c σ M with
 |some (true,M1)=>f σ M1
 |some (false,M1)=>g σ M1
 |none=>none
def zAS (f:FE):FS:=λσ M=>match toD f σ M with
 |some (d,M1)=>some (.ret d,σ,M1)
 |none=>none
def zq (i:Nat) (f:FE):FS:=λσ M=>match toD f σ M with
 |some (d,M1)=>some (.nx,σ.set i (some d),M1)
 |none=>none
def zAk (f:FE):FS:=λσ M=>match f σ M with
 |some (_,M1)=>some (.nx,σ,M1)
 |none=>none
section
variable {X:Cx} {st:Stmt} {rest:Yy} {e c:Expr} {pos:Pos}
def zJY:QSs X [] zBB:=.mk <| PSs.imp zTT λE τ H zz=>by
 obtain ⟨L,σ,M,o,σ',M',c,rs,hf,q⟩:=zz;unfold zBB at hf;cases hf;exact q L H (.refl L H) c τ rs
def zHA (h1:QS X st f) (h2:QSs X rest g):QSs X (st::rest) (zX f g):=.mk <| PSs.imp (zRT h1.un h2.un) λE τ H zz=>by
 obtain ⟨L,σ,M,o,σ',M',c,rs,hf,q⟩:=zz;unfold zX at hf;split at hf
 .rename_i σ1 M1 e1;refine ⟨L,σ,M,_,_,_,c,rs,e1,λL1 H1 s1 c1 τ1 r1=>⟨L1,σ1,M1,_,_,_,c1,r1,hf,λL2 H2 s2 c2=>q L2 H2 (s1.trans s2) c2⟩⟩
 .rename_i hne;refine ⟨L,σ,M,_,_,_,c,rs,hf,λL1 H1 s1 c1=>?_⟩;have z:=q L1 H1 s1 c1;cases o with
  |nx=>exact absurd hf (hne σ' M')
  |ret d=>exact z
  |brk=>exact z
  |cnt=>exact z
def zIE (h1:QS X st f):QSs X [st] f:=.mk <| PSs.imp (zSO h1.un) λ_ _ _ h=>h
def zR2 (hc:QT X c fc) (ha:QSs X a f) (hb:QSs X b g):QS X (.If c a b pos) (sIf fc f g):=.mk <| PS.imp (zVc hc.un ha.un hb.un) λE τ H zz=>by
 obtain ⟨L,σ,M,o,σ',M',c,rs,hf,q⟩:=zz;unfold sIf at hf;split at hf
 .rename_i M1 e1;refine ⟨L,σ,M,_,_,c,rs,e1,λL1 H1 s1 c1=>?_⟩;exact zH0 ⟨L1,σ,M1,_,_,_,c1,rs.stp s1,hf,λL2 H2 s2 c2=>q L2 H2 (s1.trans s2) c2⟩
 .rename_i M1 e1;refine ⟨L,σ,M,_,_,c,rs,e1,λL1 H1 s1 c1=>?_⟩;exact zHv ⟨L1,σ,M1,_,_,_,c1,rs.stp s1,hf,λL2 H2 s2 c2=>q L2 H2 (s1.trans s2) c2⟩
 .cases hf
def zLl (h:QE X e f):QS X (.Return (some e) pos) (zAS f):=.mk <| PS.imp (zUx (zA9 h).un) λE τ H zz=>by
 obtain ⟨L,σ,M,o,σ',M',c,rs,hf,q⟩:=zz;unfold zAS at hf;split at hf
 .rename_i d M1 e1;cases hf;exact ⟨L,σ,M,_,_,c,rs,e1,λL1 H1 v s1 c1 r1=>q L1 H1 s1 c1 v r1⟩
 .cases hf
def zHs {K:Yb} {i:Nat} {f:FE} {t:TE} (ht:∀ τ H Q,trE K f τ H Q->t τ H Q) {E:Ends} {τ:Sv} {H:Hp} (h:trS K (zq i f) E τ H):zRX t (zD3 i) E τ H:=by
 obtain ⟨L,σ,M,o,σ',M',c,rs,hf,q⟩:=h;unfold zq at hf;split at hf
 .rename_i d M1 e1;cases hf;exact ht _ _ _ (zKx ⟨L,σ,M,_,_,c,rs,e1,λL1 H1 v s1 c1 r1=>q L1 H1 s1 c1 _ ((rs.stp s1).set r1)⟩)
 .cases hf
noncomputable def zVz {i:Nat} {x:Str} {f:FE} {pos':Pos} (hN:X.N.Nodup) (hi:X.N[i]?=some x) (hx:Loc X.env.scope x) (h:QE X e f) (hs:swapsWith e (some (.Name x pos')) pos.line X.env=pure false:=by rfl)
  (hf:X.fn x=true\/X.env.scope.names.lookup x=some .local:=by first|exact .inl rfl|exact .inr rfl|assumption):QS X (.Assign [.Name x pos'] e pos) (zq i f) :=
 .mk <| PS.imp (zVK hN hi hx h.un hs hf) λ_ _ _ z=>zHs (λ_ _ _ z=>z) z
noncomputable def zTx (h:QE X e f) (hs:swapsWith e none pos.line X.env=pure false:=by rfl):QS X (.Expr e pos) (zAk f):=.mk <| PS.imp (zR8 h.un hs) λE τ H zz=>by
 obtain ⟨L,σ,M,o,σ',M',c,rs,hf,q⟩:=zz;unfold zAk at hf;split at hf
 .rename_i d M1 e1;cases hf;exact ⟨L,σ,M,_,_,c,rs,e1,λL1 H1 v s1 c1 r1=>q L1 H1 s1 c1 τ (rs.stp s1)⟩
 .cases hf
abbrev FG:=D->Sd->Option Sd
def GOk (g:TG) (fg:FG):Prop:=∀ {L:Yg} {H:Hp} {σ σ':Sd} {τ:Sv} {d:D} {v:V} {Q:Sv->Hp->Prop},zBo L H σ τ->Rep L H d v->fg d σ=some σ'->(∀ τ',zBo L H σ' τ'->Q τ' H)->g v τ H Q
def gN (i:Nat):FG:=λd σ=>some (σ.set i (some d))
def zPv:GOk (zD3 i) (gN i):=by
 intro L H σ σ' τ d v Q rs r hf q;unfold gN at hf;cases hf;exact q _ (rs.set r)
abbrev FI:=Sd->Mem->Option (List D × Option (Mem->Prop) × Mem)
def zBA (g:Option (Mem->Prop)) (xs:List D) (M:Mem):Prop:=match g with
 |none=>True
 |some p=>p M
def zVa (K:Yb) (J:It) (L:Yg) (H:Hp) (xs:List D) (g:Option (Mem->Prop)):Prop:=∀ L' H' M',Stp L H L' H'->Cor K L' M' H'->zBA g xs M' ->
 (∀ (i:Nat) d,xs[i]?=some d->J.go i H' /\ ∀ v H'',J.yld i H' v H''->(∀ a o,H' a=some o->H'' a=some o)/\Rep L' H'' d v)/\J.stop xs.length H'
def trI (K:Yb) (f:FI):TI:=λτ H R=>∃ L σ M xs g M',Cor K L M H/\zBo L H σ τ/\f σ M=some (xs,g,M') /\ ∀ L' H' J,Stp L H L' H'->Cor K L' M' H'->zVa K J L' H' xs g->R J H'
structure QI (X:Cx) (tg e:Expr) (f:FI):Prop where
 un:PI X tg e (trI X.K f)
def PI.imp (h:PI X tg e t) (hi:∀ τ H R,t' τ H R->t τ H R):PI X tg e t':=λzB s σ H R I q=>h zB s σ H R I (hi _ _ _ q)
noncomputable def zC3 (g:FG) (b:FS) (all:List D) (gd:Option (Mem->Prop)):List D->Sd->Mem->Option (Out × Sd × Mem)
 |[],σ,M=>open Classical in if zBA gd all M then some (.nx,σ,M) else none
 |x::r,σ,M=>open Classical in if zBA gd all M then match g x σ with
   |some σ1=>match b σ1 M with
    |some (.nx,σ2,M2)=>zC3 g b all gd r σ2 M2
    |some (.cnt,σ2,M2)=>zC3 g b all gd r σ2 M2
    |some (.brk,σ2,M2)=>some (.nx,σ2,M2)
    |some (.ret d,σ2,M2)=>some (.ret d,σ2,M2)
    |none=>none
   |none=>none
  else none
def zBw (fi:FI) (g:FG) (b:FS):FS:=λσ M=>match fi σ M with
 |some (xs,gd,M1)=>zC3 g b xs gd xs σ M1
 |none=>none
def zCW {α:Type} {xs:List α} (h:i<xs.length):xs.drop i=xs[i]::xs.drop (i+1):=List.drop_eq_getElem_cons h
def Stp.yld (s:Stp L H L' H') (h:∀ a o,H' a=some o->H'' a=some o):Stp L H L' H'':=s.trans (.grow h)
def zQ0 {K:Yb} {fi:FI} {g:TG} {fg:FG} {b:FS} (hg:GOk g fg) {E:Ends} {τ:Sv} {H:Hp} (h:trS K (zBw fi fg b) E τ H):zVm (trI K fi) g (trS K b) E τ H:=by
 obtain ⟨L,σ,M,o,σf,Mf,c,rs,hf,q⟩:=h;unfold zBw at hf;split at hf
 .rename_i xs gd M1 e1;refine ⟨L,σ,M,_,_,_,c,rs,e1,λL1 H1 J s1 c1 it=>?_⟩
  refine ⟨λi m τ' H'=>m=xs.length-i/\i<=xs.length /\ ∃ L' σ' M',Stp L1 H1 L' H'/\Cor K L' M' H'/\zBo L' H' σ' τ'/\zC3 fg b xs gd (xs.drop i) σ' M'=some (o,σf,Mf),
   ⟨xs.length,by simp,zXz _,L1,σ,M1,.refl _ _,c1,rs.stp s1,by simpa using hf⟩,?_⟩
  rintro i m τ' H' ⟨rfl,hi,L',σ',M',s',c',rs',e'⟩;by_cases hlt:i<xs.length
  .rw[zCW hlt]at e';unfold zC3 at e';split at e'
   .rename_i hgd;obtain ⟨step,_⟩:=it L' H' M' s' c' hgd;obtain ⟨go,yl⟩:=step i xs[i] (zXH hlt);cases eg:fg xs[i] σ' with
    |none=>rw[eg]at e';cases e'
    |some σ1=>
     rw[eg]at e';dsimp only at e';refine .inr ⟨go,λτ2 H2=>∃ L2 σ2 M2,Stp L1 H1 L2 H2/\Cor K L2 M2 H2/\zBo L2 H2 σ2 τ2/\zC3 fg b xs gd (xs.drop (i+1)) σ2 M2=some (o,σf,Mf),λτ2 H2 ⟨L2,σ2,M2,a1,a2,a3,a4⟩=>⟨xs.length-(i+1),by omega,rfl,hlt,L2,σ2,M2,a1,a2,a3,a4⟩,λv H2 hy=>?_⟩;obtain ⟨gr,rv⟩:=yl v H2 hy;refine hg (zBo.stp (.grow gr) rs') rv eg λτ2 r2=>?_;cases eb:b σ1 M' with
     |none=>rw[eb]at e';cases e'
     |some r=>
      obtain ⟨o2,σ2,M2⟩:=r;rw[eb]at e';refine ⟨L',σ1,M',_,_,_,c'.grow gr,r2,eb,λL3 H3 s3 c3=>?_⟩;have s13:Stp L1 H1 L3 H3:=(s'.yld gr).trans s3;cases o2 with
      |nx=>exact λτ3 r3=>⟨L3,σ2,M2,s13,c3,r3,e'⟩
      |cnt=>exact λτ3 r3=>⟨L3,σ2,M2,s13,c3,r3,e'⟩
      |brk=>cases e';exact q L3 H3 (s1.trans s13) c3
      |ret d=>cases e';exact q L3 H3 (s1.trans s13) c3
   .cases e'
  .have hi':i=xs.length:=by omega
   subst hi';rw[List.drop_length]at e';unfold zC3 at e';split at e'
   .rename_i hgd;cases e';obtain ⟨_,stop⟩:=it L' H' _ s' c' hgd;exact .inl ⟨stop,q L' H' (s1.trans s') c' τ' rs'⟩
   .cases e'
 .cases hf
noncomputable def zTc (hg:GOk g fg) (hp:PassesOwn (model X.prog X.w) X.A X.env X.xe) (hc:X.calm=true) (hi:QI X tg iter fi) (ht:PG X tg g) (hb:QSs X body b)
  (hs:∀ x,foldedSetIterable iter X.env x=pure x:=by intro _;rfl):QS X (.For tg iter body [] pos) (zBw fi fg b):=.mk <| PS.imp (zU1 hp hc hi.un ht hb.un hs) λ_ _ _ h=>zQ0 hg h
end
section
variable {X:Cx} {e c iter tg elt:Expr} {pos:Pos} {scope:Y0} {ifs:Yi}
noncomputable def zBf (c:FT) (b:FS):Nat->Sd->Mem->Option (Out × Sd × Mem)
 |0,_,_=>none
 |n+1,σ,M=>match c σ M with
  |some (true,M1)=>match b σ M1 with
   |some (.nx,σ2,M2)=>zBf c b n σ2 M2
   |some (.cnt,σ2,M2)=>zBf c b n σ2 M2
   |some (.brk,σ2,M2)=>some (.nx,σ2,M2)
   |some (.ret d,σ2,M2)=>some (.ret d,σ2,M2)
   |none=>none
  |some (false,M1)=>some (.nx,σ,M1)
  |none=>none
def zNA {K:Yb} {fc:FT} {b:FS} {n:Nat} {E:Ends} {τ:Sv} {H:Hp} (h:trS K (zBf fc b n) E τ H):zP4 (trT K fc) (trS K b) E τ H:=by
 obtain ⟨L,σ,M,o,σf,Mf,c,rs,hf,q⟩:=h;refine ⟨λm τ' H'=>∃ L' σ' M',Stp L H L' H'/\Cor K L' M' H'/\zBo L' H' σ' τ'/\zBf fc b m σ' M'=some (o,σf,Mf),⟨n,L,σ,M,.refl _ _,c,rs,hf⟩,?_⟩;rintro m τ' H' ⟨L',σ',M',s',c',rs',e'⟩;cases m with
 |zero=>unfold zBf at e';cases e'
 |succ m=>
  unfold zBf at e';split at e'
  .rename_i M1 e1;refine ⟨L',σ',M',_,_,c',rs',e1,λL1 H1 s1 c1=>zH0 ?_⟩;refine ⟨λτ2 H2=>∃ L2 σ2 M2,Stp L H L2 H2/\Cor K L2 M2 H2/\zBo L2 H2 σ2 τ2/\zBf fc b m σ2 M2=some (o,σf,Mf),λτ2 H2 h2=>⟨m,zYA m,h2⟩,?_⟩;cases eb:b σ' M1 with
   |none=>rw[eb]at e';cases e'
   |some r=>
    obtain ⟨o2,σ2,M2⟩:=r;rw[eb]at e';refine ⟨L1,σ',M1,_,_,_,c1,rs'.stp s1,eb,λL3 H3 s3 c3=>?_⟩;have s13:Stp L H L3 H3:=(s'.trans s1).trans s3;cases o2 with
    |nx=>exact λτ3 r3=>⟨L3,σ2,M2,s13,c3,r3,e'⟩
    |cnt=>exact λτ3 r3=>⟨L3,σ2,M2,s13,c3,r3,e'⟩
    |brk=>cases e';exact q L3 H3 s13 c3
    |ret d=>cases e';exact q L3 H3 s13 c3
  .rename_i M1 e1;cases e';exact ⟨L',_,M',_,_,c',rs',e1,λL1 H1 s1 c1=>zHv (q L1 H1 (s'.trans s1) c1 τ' (rs'.stp s1))⟩
  .cases e'
def zSG (n:Nat) (hp:PassesOwn (model X.prog X.w) X.A X.env X.xe) (hc:QT X c fc) (hb:QSs X body b):QS X (.While c body [] pos) (zBf fc b n) :=
 .mk <| PS.imp (zRQ hp hc.un hb.un) λ_ _ _ h=>zNA h
def zBN (own:Yj) (σ:Sd):Sd:=own.foldl (λσ i=>σ.set i none) σ
theorem zEo:∀ (own:Yj) {σ:Sd} {τ:Sv},zBo L H σ τ->zBo L H (zBN own σ) (clr own τ)
 |[],_,_,h=>h
 |i::r,σ,τ,h=>by
  refine zEo r (σ:=σ.set i none) (τ:=τ.set i none) ⟨by simp[h.1],λj d q=>?_⟩;rw[zYm]at q ⊢;split at q
  .split at q <;> cases q
  .rename_i z;rw[zXV z];exact h.2 j d q
noncomputable def zA8 (g:FG) (tc:FT) (te:FE) (σ:Sd) (all:List D) (gd:Option (Mem->Prop)):List D->Mem->Option (List D × Mem)
 |[],M=>open Classical in if zBA gd all M then some ([],M) else none
 |x::r,M=>open Classical in if zBA gd all M then match g x σ with
   |some σ1=>match tc σ1 M with
    |some (true,M1)=>match toD te σ1 M1 with
     |some (d,M2)=>match zA8 g tc te σ all gd r M2 with
      |some (ds,M3)=>some (d::ds,M3)
      |none=>none
     |none=>none
    |some (false,M1)=>zA8 g tc te σ all gd r M1
    |none=>none
   |none=>none
  else none
def zi (own:Yj) (fi:FI) (g:FG) (tc:FT) (te:FE):FE:=λσ M=>match fi σ M with
 |some (xs,gd,M1)=>if xs.length<=sizeLine then match zA8 g tc te (zBN own σ) xs gd xs M1 with
   |some (ys,M2)=>some (.fl ys,M2)
   |none=>none
  else none
 |none=>none
def zFk (own:Yj) (g:TG) (fg:FG):Prop:=∀ {L:Yg} {H:Hp} {σ σ':Sd} {τ τ0:Sv} {d:D} {v:V} {Q:Sv->Hp->Prop},zBo L H σ τ->Ext (clr own τ0) τ->Rep L H d v->fg d σ=some σ'->(∀ τ',zBo L H σ' τ'->Ext (clr own τ0) τ'->Q τ' H)->g v τ H Q
def zBj (hi:i∈own):zFk own (zD3 i) (gN i):=by
 intro L H σ σ' τ τ0 d v Q rs ex r hf q;unfold gN at hf;cases hf;exact q _ (rs.set r) (ex.set hi)
def zJV {K:Yb} {own:Yj} {fi:FI} {g:TG} {fg:FG} {tc:FT} {te:FE} (hg:zFk own g fg) {τ:Sv} {H:Hp} {Q:VK} (h:trE K (zi own fi fg tc te) τ H Q):zRU own (trI K fi) g (trT K tc) (trD K (toD te)) τ H Q:=by
 obtain ⟨L,σ,M,d,Mf,c,rs,hf,q⟩:=h;unfold zi at hf;split at hf
 .rename_i xs gd M1 e1;split at hf
  .rename_i hz;split at hf
   .rename_i zs M2 e2;cases hf;refine ⟨L,σ,M,_,_,_,c,rs,e1,λL1 H1 J s1 c1 it=>?_⟩
    refine ⟨λi m ys H'=>m=xs.length-i/\i<=xs.length /\ ∃ L' M' as bs,Stp L1 H1 L' H'/\Cor K L' M' H'/\zR L' H' as ys/\as.length<=i/\zA8 fg tc te (zBN own σ) xs gd (xs.drop i) M'=some (bs,Mf)/\as++bs=zs,
     ⟨xs.length,by simp,zXz _,L1,M1,[],zs,.refl _ _,c1,.nil,zXJ _,by simpa using e2,rfl⟩,?_⟩
    rintro i m ys H' ⟨rfl,hi,L',M',as,bs,s',c',r',hl,e',hab⟩;have hys:ys.length<=i:=by rw[r'.length];exact hl
    by_cases hlt:i<xs.length
    .rw[zCW hlt]at e';unfold zA8 at e';split at e'
     .rename_i hgd;obtain ⟨step,_⟩:=it L' H' M' s' c' hgd;obtain ⟨go,yl⟩:=step i xs[i] (zXH hlt);split at e'
      .rename_i σ1 eg;refine .inr ⟨go,λv H2 hy=>?_⟩;obtain ⟨gr,rv⟩:=yl v H2 hy;have s2:Stp L1 H1 L' H2:=s'.yld gr;refine hg (zEo own ((rs.stp s1).stp s2)) (.refl _) rv eg λτ2 r2 x2=>⟨x2,?_⟩;split at e'
       .rename_i M3 e3;split at e'
        .rename_i d M4 e4;split at e'
         .rename_i ds M5 e5;cases e';refine ⟨L',σ1,M',_,_,c'.grow gr,r2,e3,λL3 H3 s3 c3=>zH0 ?_⟩;refine ⟨L3,σ1,M3,_,_,c3,r2.stp s3,e4,λL4 H4 w s4 c4 r4=>?_⟩;have st:Stp L' H' L4 H4:=((Stp.grow gr).trans s3).trans s4;refine ⟨Nat.lt_of_le_of_lt hys (zXc hlt hz),xs.length-(i+1),by omega,rfl,hlt,L4,M4,as++[d],ds,s'.trans st,c4,(r'.stp st).app (.cons r4 .nil),by simp;omega,e5,by rw[<-hab];simp⟩
         .cases e'
        .cases e'
       .rename_i M3 e3;refine ⟨L',σ1,M',_,_,c'.grow gr,r2,e3,λL3 H3 s3 c3=>zHv ?_⟩;have st:Stp L' H' L3 H3:=(Stp.grow gr).trans s3;exact ⟨xs.length-(i+1),by omega,rfl,hlt,L3,M3,as,bs,s'.trans st,c3,r'.stp st,by omega,e',hab⟩
       .cases e'
      .cases e'
     .cases e'
    .have hi':i=xs.length:=by omega
     subst hi';rw[List.drop_length]at e';unfold zA8 at e';split at e'
     .rename_i hgd;cases e';obtain ⟨_,stop⟩:=it L' H' _ s' c' hgd;refine .inl ⟨stop,zXe hys hz,λp hp=>?_⟩;rw[zXx]at hab;subst hab;exact q L' _ _ ((s1.trans s').trans (.upd hp)) (c'.upd hp) (zk.newLst (s1.trans s') c c' hp r')
     .cases e'
   .cases hf
  .cases hf
 .cases hf
structure QIfs (X:Cx) (ifs:Yi) (f:FT):Prop where
 un:zGf X ifs (trT X.K f)
def zv:FT:=λ_ M=>some (true,M)
def zQY:QIfs X [] zv:=.mk λzB s σ H Q I h=>by
 obtain ⟨L,σ',M,d,M',c,rs,hf,q⟩:=h;unfold zv at hf;cases hf;exact zQ8 zB s σ H Q I (q L H (.refl L H) c)
def zVM (h:QT X c f):QIfs X [c] f:=.mk (zP6 h.un)
structure QParts (X:Cx) (scope:Y0) (tg:Expr) (ifs:Yi) (elt:Expr) (g:TG) (tc:FT) (te:FE):Prop where
 g:∀ zB cl s H fp,PG (zN X zB scope cl s H fp) tg g
 c:∀ zB cl s H fp,QIfs (zN X zB scope cl s H fp) ifs tc
 e:∀ zB cl s H fp,QE (zN X zB scope cl s H fp) elt te
def QParts.parts {g:TG} {tc:FT} {te:FE} (p:QParts X scope tg ifs elt g tc te):CompParts X scope tg ifs elt g (trT X.K tc) (trD X.K (toD te)) :=
 ⟨p.g,λzB cl s H fp=>(p.c zB cl s H fp).un,λzB cl s H fp=>(zA9 (p.e zB cl s H fp)).un⟩
noncomputable def zJw (hg:zFk own g fg) (C:CompIn X scope own) (hcalm:X.calm=true) (hi:QI X tg iter fi) (p:QParts X scope tg ifs elt g tc te) (hs:∀ x,foldedSetIterable iter X.env x=pure x:=by intro _;rfl) :
  QE X (.ListComp elt [⟨tg,iter,ifs,0⟩] scope pos) (zi own fi fg tc te):=.mk <| PE.imp (zSa C hcalm hi.un p.parts hs) λ_ _ _ h=>zJV hg h
noncomputable def zIt (hN:X.N.Nodup) (hi':X.N[i]?=some x) (hx:Loc X.env.scope x) (hfn:X.fn x=true\/X.env.scope.names.lookup x=some .local)
  (hsw:swapsWith (.ListComp elt [⟨tg,iter,ifs,0⟩] scope pos) (some (.Name x pos')) pos''.line X.env=pure true)
  (hg:zFk own g fg) (C:CompIn X scope own) (hcalm:X.calm=true) (hi:QI X tg iter fi) (p:QParts X scope tg ifs elt g tc te) (hs:∀ x,foldedSetIterable iter X.env x=pure x:=by intro _;rfl) :
  QS X (.Assign [.Name x pos'] (.ListComp elt [⟨tg,iter,ifs,0⟩] scope pos) pos'') (zq i (zi own fi fg tc te)) :=
 .mk <| PS.imp (zNL hN hi' hx hfn C hcalm hi.un p.parts hsw hs) λ_ _ _ z=>zHs (λ_ _ _ z=>zJV hg z) z
end
abbrev FF:=List D->Mem->Option (D × Mem)
def spF (K:Yb) (n:Nat) (g:FF):Sp:=λvs H Q _=>∃ L ds M d M',Cor K L M H/\zR L H ds vs/\ds.length=n/\g ds M=some (d,M') /\ ∀ L' H' v,Stp L H L' H'->Cor K L' M' H'->Rep L' H' d v->Q v H'
def zP (g:FF) (fa:FA):FE:=λσ M=>match fa σ M with
 |some (ds,M1)=>match g ds M1 with
  |some (d,M2)=>some (.dat d,M2)
  |none=>none
 |none=>none
section
variable {X:Cx} {e:Expr} {es:Yi} {pos p:Pos} {x:Str} {k:Nat} {f:Yt} {fd:Yz} {ps:Yk}
noncomputable def zUH (F:FnOk X.prog X.w X.K X.mg X.base CX0 k f fd ps (spF X.K (e::es).length g)) (hr:Room k X.A) (hg:Gl X x) (hm:X.mg x=some (.ref f)) (hk:PySem.W.keepIn X.K (.ref f)=true) (hb:zHY X.K fd ps [])
  (ha:QA X (e::es) fa) (hl:∀ σ M ds M1,fa σ M=some (ds,M1)->ds.length=(e::es).length) (hdb:(x==("__debug__" : Str))=false:=by decide) (he:starEach (e::es) X.env=(false,eval e X.env)::starEach es X.env:=by rfl) (hpl:(backTo pos (starEach es X.env)).any (·.1)=false:=by rfl) :
  QE X (.Call (.Name x p) (e::es) [] pos) (zP g fa) :=
 .mk <| PE.imp (zTB F hr hg hm hk hb .nil zVV ha.un hdb he hpl) λτ H Q zz=>by
  obtain ⟨L,σ,M,d,M',c,rs,hf,q⟩:=zz;unfold zP at hf;split at hf
  .rename_i ds M1 e1;split at hf
   .rename_i d' M2 e2;cases hf;refine ⟨L,σ,M,_,_,c,rs,e1,λL1 H1 vs s1 c1 r1=>?_⟩;dsimp only;rw[zXx];exact ⟨L1,ds,M1,d',_,c1,r1,hl _ _ _ _ e1,e2,λL2 H2 v s2 c2 r2=>q L2 H2 v (s1.trans s2) c2 r2⟩
   .cases hf
  .cases hf
def zRp (fa:FA) (n:Nat):Prop:=∀ σ M ds M1,fa σ M=some (ds,M1)->ds.length=n
def zLs:zRp zH 0:=λσ M ds M1 h=>by unfold zH at h;cases h;rfl
def zGO {f:FD} {g:FA} {n:Nat} (h:zRp g n):zRp (zD f g) (n+1):=λσ M ds M1 q=>by
 unfold zD at q;split at q
 .split at q
  .rename_i e2;cases q;simp[h _ _ _ _ e2]
  .cases q
 .cases q
def zBV (n:Nat) (b:FS):FF:=λds M=>match b (ds.map some++List.replicate (n-ds.length) none) M with
 |some (.ret d,_,M')=>some (d,M')
 |some (.nx,_,M')=>some (.non,M')
 |_=>none
def zIy:∀ {ds:List D} {vs:List V},zR L H ds vs->zBo L H (ds.map some++List.replicate (N.length-ds.length) none) (L2.zEv N vs):=λ{ds vs} r=>by
 unfold L2.zEv;have hl:=r.length;refine ⟨by simp[hl],λi d q=>?_⟩;by_cases hi:i<ds.length
 .rw[zXK (by simpa using hi),zXa]at q;rw[zXK (by simpa [hl] using hi),zXa];cases e1:ds[i]? with
  |none=>rw[e1]at q;cases q
  |some d'=>
   rw[e1]at q;cases q;obtain ⟨v,e2,r2⟩:=r.get e1;exact ⟨v,by rw[e2];rfl,r2⟩
 .rw[zYN (by simpa using hi),List.getElem?_replicate]at q;split at q <;> cases q
def zAG {P:Ym} {w:Yo} {K:Yb} {mg:Yh} {base:Heap} {qual:Str} {st:Stmt} {N:Yk} {b:FS} {n:Nat} (F:Fun K x qual st f fd) (S:FnScope N ps (zU st)) (hn:ps.length=n)
  (hb:∀ (cdv:Yu) (A:Yn) (outer:List Env) (s:Yl) (H:Hp) (E:XK),Room k (A.deeper (envOfC qual (zU st) s.heap.objs.size f cdv))->QSs (zM6 CX0 P w K mg base N qual (zU st) f cdv A outer s H E).nox (zCs st) b) :
  FnOk P w K mg base CX0 (k+1) f fd ps (spF K n (zBV N.length b)):=by
 refine F.ok S (λvs H Q E h=>?_) (λcdv A outer s H vs Q E hr h=>⟨_,(hb cdv A outer s H E hr).un,?_⟩)
 .obtain ⟨L,ds,M,d,M',c,r,hl,_⟩:=h;rw[r.length,hl,hn]
 .obtain ⟨L,ds,M,d,M',c,r,hl,hf,q⟩:=h;unfold zBV at hf;split at hf
  .rename_i d' σ' M1 e1;cases hf;exact ⟨L,_,M,_,_,_,c,zIy r,e1,λL1 H1 s1 c1 v r1=>q L1 H1 v s1 c1 r1⟩
  .rename_i σ' M1 e1;cases hf;exact ⟨L,_,M,_,_,_,c,zIy r,e1,λL1 H1 s1 c1 τ' r1=>q L1 H1 .non s1 c1 (by unfold Rep;rfl)⟩
  .cases hf
mutual
def D.und (n:Nat):D->Bool
 |.tup ds=>D.unds n ds
 |.ref k=>decide (k<n)
 |_=>true
def D.unds (n:Nat):List D->Bool
 |[]=>true
 |d::ds=>D.und n d&&D.unds n ds
end
mutual
theorem Rep.less:∀ {d:D} {v:V},D.und L.length d=true->Rep (L++N) H d v->Rep L H d v
 |.non,_,_,h=>by unfold Rep at h ⊢;exact h
 |.bl _,_,_,h=>by unfold Rep at h ⊢;exact h
 |.int _,_,_,h=>by unfold Rep at h ⊢;exact h
 |.str _,_,_,h=>by unfold Rep at h ⊢;exact h
 |.tup ds,_,hb,h=>by
  unfold D.und at hb;unfold Rep at h ⊢;obtain ⟨a,vs,rfl,e,r⟩:=h;exact ⟨a,vs,rfl,e,zR.less hb r⟩
 |.ref n,_,hb,h=>by
  unfold D.und at hb;unfold Rep at h ⊢;obtain ⟨a,rfl,e⟩:=h;exact ⟨a,rfl,by rwa [zXK (zX9 hb)]at e⟩
theorem zR.less:∀ {ds:List D} {vs:List V},D.unds L.length ds=true->zR (L++N) H ds vs->zR L H ds vs
 |[],_,_,h=>by unfold zR at h ⊢;exact h
 |d::ds,_,hb,h=>by
  unfold D.unds at hb;rw[zXn]at hb;unfold zR at h ⊢;obtain ⟨v,r,rfl,h1,h2⟩:=h;exact ⟨v,r,rfl,Rep.less hb.1 h1,zR.less hb.2 h2⟩
end
def zA6.less {κ:Type} {kf:D->Option κ} {L N:Yg} {H:Hp}:∀ {ps:List (D × D)} {vs:List (κ × V)},(ps.all λp=>D.und L.length p.1&&D.und L.length p.2)=true->zA6 kf (L++N) H ps vs->zA6 kf L H ps vs
 |[],_,_,h=>h
 |p::r,_,hb,h=>by
  rw[List.all_cons,zXn,zXn]at hb;obtain ⟨k,v,r',rfl,e,h1,h2⟩:=h;exact ⟨k,v,r',rfl,e,Rep.less hb.1.2 h1,zA6.less hb.2 h2⟩
noncomputable def MO.und (n:Nat):MO->Bool
 |.lst xs=>D.unds n xs
 |.fro xs=>D.unds n xs
 |.dict kvs=>kvs.all λp=>D.und n p.1&&D.und n p.2
 |.dicT kvs=>kvs.all λp=>D.und n p.1&&D.und n p.2
 |.set xs=>D.unds n xs
 |.froT kvs=>kvs.all λp=>D.und n p.1&&D.und n p.2
 |.froK kvs=>kvs.all λp=>D.und n p.1&&D.und n p.2
def zFd (g:FF):FF:=λds M=>match g ds M with
 |some (d,M')=>if D.und M.length d&&(M'.take M.length).all (MO.und M.length)&&decide (M.length<=M'.length) then some (d,M'.take M.length) else none
 |none=>none
def zFR {P:Ym} {w:Yo} {K:Yb} {mg:Yh} {base:Heap} {n:Nat} {g:FF} (h:FnOk P w K mg base CX0 k f fd ps (spF K n g)):FnOk P w K mg base CX0 k f fd ps (spF K n (zFd g)) :=
 h.imp λvs H Q E ⟨L,ds,M,d,M',c,r,hl,hf,q⟩=>by
  unfold zFd at hf;split at hf
  .rename_i d' M1 e1;split at hf
   .rename_i hb;cases hf;simp only[zXn,zYQ,zXo]at hb;obtain ⟨⟨hb1,hb2⟩,hb3⟩:=hb;refine ⟨L,ds,M,_,_,c,r,hl,e1,λL1 H1 v s1 c1 r1=>?_⟩;obtain ⟨N,rfl⟩:=s1.pre;rw[<-c.len]at hb1 hb2 hb3;refine q L H1 v ⟨⟨[],by simp⟩,λa ha=> .inl ha,s1.old,s1.tup,s1.frz⟩ ⟨?_,?_,λi a m e2 e3=>?_⟩ (Rep.less hb1 r1)
    .rw[zYb,<-c.len];omega
    .exact (zYR.mp c1.nd).1
    .rw[<-c.len]at e3;have hi:i<L.length:=(zXG.mp e2).1;have hm:m∈M1.take L.length:=zX4 e3;rw[List.getElem?_take_of_lt hi]at e3;have z:=c1.obj i a m (zBp e2) e3;have bl:=hb2 m hm;cases m with
     |lst xs=>obtain ⟨ws,e4,r4⟩:=z;exact ⟨ws,e4,zR.less bl r4⟩
     |fro xs=>obtain ⟨o,ws,e4,r4⟩:=z;exact ⟨o,ws,e4,zR.less bl r4⟩
     |dict ps=>obtain ⟨vs,e,r⟩:=z;exact ⟨vs,e,zA6.less bl r⟩
     |dicT ps=>obtain ⟨vs,e,r⟩:=z;exact ⟨vs,e,zA6.less bl r⟩
     |set _=>exact z
     |froT ps=>obtain ⟨o,vs,e,r⟩:=z;exact ⟨o,vs,e,zA6.less bl r⟩
     |froK ps=>obtain ⟨o,vs,e,r⟩:=z;exact ⟨o,vs,e,zA6.less bl r⟩
   .cases hf
  .cases hf
def zHU (g:FF):FF:=λds M=>if D.unds 0 ds then match g ds [] with
  |some (d,_)=>if D.und 0 d then some (d,M) else none
  |none=>none
 else none
def zKP {P:Ym} {w:Yo} {K:Yb} {mg:Yh} {base:Heap} {n:Nat} {g:FF} (h:FnOk P w K mg base CX0 k f fd ps (spF K n g)):FnOk P w K mg base CX0 k f fd ps (spF K n (zHU g)) :=
 h.imp λvs H Q E ⟨L,ds,M,d,M',c,r,hl,hf,q⟩=>by
  unfold zHU at hf;split at hf
  .rename_i hb0;split at hf
   .rename_i d' M1 e1;split at hf
    .rename_i hb;cases hf;refine ⟨[],ds,[],_,_,⟨rfl,.nil,λi a m e=>by simp at e⟩,zR.less (L:=[]) (N:=L) hb0 (by simpa using r),hl,e1,λL1 H1 v s1 c1 r1=>?_⟩;have gr:∀ a o,H a=some o->H1 a=some o:=λa o e=>s1.old a o e (by simp);exact q L H1 v (.grow gr) (c.grow gr) ((Rep.less (L:=[]) (N:=L1) hb (by simpa using r1)).more L |> λz=>by simpa using z)
    .cases hf
   .cases hf
  .cases hf
def zVB (hl:PE X l tl):PI X tg l (λσ H R=>tl σ H λx H1=>∃ a,x=.ref a/\((∃ xs,SqL X.K H1 a xs)/\R (Itl X.K a) H1\/(∃ xs,SqT X.K H1 a xs)/\R (Itt X.K a) H1)):=by
 intro zB s σ H R I h;refine thn (hl zB s σ H _ I h) λv s1 ⟨y,H1,I1,r1,a,hy,h1⟩=>?_;subst hy;cases r1;have fpk:∀ b∈[s1.heap.objs.size],zCC X zB H1 b:=λb hb=>by
  have e:b=s1.heap.objs.size:=by simpa using hb
  subst e;exact I1.fpOk (zXJ _) (I1.hok.fresh (zXJ _))
 rcases h1 with ⟨⟨xs,hq⟩,q⟩|⟨⟨xs,hq⟩,q⟩
 .obtain ⟨its,rv,pl,hz⟩:=I1.list hq;exact wpAny_pyIter_list pl.isList ⟨s1.heap.objs.size,[s1.heap.objs.size],_,_,H1,rfl,I1.kept (t':=s1.toks) λb o e=>zXE _ e,zOg a _,⟨_,zXN _ rfl,rfl,rfl⟩,fpk,q⟩
 .obtain ⟨its,rv,pl,hz⟩:=I1.tuple hq;exact wpAny_pyIter_tuple (show s1.heap.IsTuple a its.toArray from pl) ⟨s1.heap.objs.size,[s1.heap.objs.size],_,_,H1,rfl,I1.kept (t':=s1.toks) λb o e=>zXE _ e,zMu a _,⟨_,zXN _ rfl,rfl,rfl⟩,fpk,q⟩
def zCq (x:EV) (xs:List D):Option (Mem->Prop):=match x with
 |.dat (.ref n)=>some λM=>M[n]?=some (.lst xs)\/M[n]?=some (.fro xs)
 |_=>none
def zu (f:FE):FI:=λσ M=>match f σ M with
 |some (x,M1)=>match zAL M1 x with
  |some xs=>some (xs,zCq x xs,M1)
  |none=>none
 |none=>none
noncomputable def zAA (f:FA):FI:=λσ M=>match f σ M with
 |some ([.int j],M1)=>if -(2 ^ 62)<=j/\j<2 ^ 62 then some ((List.range j.toNat).map λ(k:Nat)=>D.int k,none,M1) else none
 |some ([.int i,.int j],M1)=>if -(2 ^ 62)<=i/\i<2 ^ 62 /\ -(2 ^ 62)<=j/\j<2 ^ 62 then some ((List.range (j-i).toNat).map λ(k:Nat)=>D.int (i+k),none,M1) else none
 |_=>none
def zVN (h:QE X e g):QI X tg e (zu g):=.mk <| PI.imp (zVB h.un) λτ H R zz=>by
 obtain ⟨L,σ,M,xs,gd,M',c,rs,hf,q⟩:=zz;unfold zu at hf;split at hf
 .rename_i y M1 e1;split at hf
  .rename_i zs e2;cases hf;refine ⟨L,σ,M,_,_,c,rs,e1,λL1 H1 v s1 c1 r1=>?_⟩;unfold zAL at e2;cases t:zCP y with
   |some ws=>
    rw[t]at e2;cases e2;obtain ⟨a,vs,rfl,e3,r3⟩:=zCA r1 t;refine ⟨a,rfl,.inr ⟨⟨vs,.of e3⟩,q L1 H1 _ s1 c1 λL2 H2 M2 s2 c2 _=>?_⟩⟩;have e4:=s2.tup a vs e3;have r4:=r3.stp s2;refine ⟨λi d hd=>?_,⟨vs,.of e4,by rw[r4.length];exact zXJ _⟩⟩;obtain ⟨u,hu,ru⟩:=r4.get hd;refine ⟨⟨vs,u,.of e4,hu⟩,λv H3 ⟨hH,hv⟩=>?_⟩;subst hH;have:=hv vs (.of e4);rw[hu]at this;cases this;exact ⟨λ_ _ z=>z,ru⟩
   |none=>
    rw[t]at e2;obtain ⟨a,vs,rfl,e3,r3⟩:=zBP c1 r1 e2;refine ⟨a,rfl,.inl ⟨⟨vs,.inl e3⟩,q L1 H1 _ s1 c1 λL2 H2 M2 s2 c2 hgd=>?_⟩⟩;have key:∃ vs',SqL X.K H2 a vs'/\zR L2 H2 xs vs':=by
     cases y with
     |fl ys=>
      cases e2;obtain ⟨p',vs',hp',_,e5,e6,r6⟩:=r1;cases hp';exact ⟨vs',.of (s2.old _ _ e5 e6),r6.stp s2⟩
     |dat d=>
      cases d with
      |ref n=>
       unfold zk Rep at r1;obtain ⟨a',ha',e5⟩:=r1;cases ha';have e6:L2[n]?=some a:=by obtain ⟨N,hN⟩:=s2.pre;rw[hN];exact zBp e5
       rcases hgd with z|z
       .obtain ⟨vs',e7,r7⟩:=c2.obj n a _ e6 z;exact ⟨vs',.of e7,r7⟩
       .obtain ⟨o,vs',e7,r7⟩:=c2.obj n a _ e6 z;exact ⟨vs',.inl (.inr ⟨o,e7⟩),r7⟩
      |_=>cases e2
    obtain ⟨vs',hq,r7⟩:=key;refine ⟨λi d hd=>?_,⟨vs',hq,by rw[r7.length];exact zXJ _⟩⟩;obtain ⟨u,hu,ru⟩:=r7.get hd;refine ⟨⟨vs',u,hq,hu⟩,λv H3 ⟨hH,hv⟩=>?_⟩;subst hH;have:=hv vs' hq;rw[hu]at this;cases this;exact ⟨λ_ _ z=>z,ru⟩
  .cases hf
 .cases hf
def zEm (h:zR L H [.int j] vs):vs=[.int j]:=by
 unfold zR at h;obtain ⟨v,r,rfl,h1,h2⟩:=h;unfold zR at h2;unfold Rep at h1;subst h1 h2;rfl
def zOL (h:zR L H [.int i,.int j] vs):vs=[.int i,.int j]:=by
 unfold zR at h;obtain ⟨v,r,rfl,h1,h2⟩:=h;unfold Rep at h1;rw[zEm h2,h1]
def zLt {K:Yb} {L:Yg} {H:Hp} {lo:Int} {n:Nat}:zVa K (Itr lo n) L H ((List.range n).map λ(k:Nat)=>D.int (lo+k)) none:=by
 intro L' H' M' s c _;refine ⟨λi d hd=>?_,by simp[Itr]⟩;rw[zXa]at hd;cases q:(List.range n)[i]? with
 |none=>rw[q]at hd;cases hd
 |some k=>
  rw[q]at hd;cases hd;have hi:i<n:=by have:=(zXG.mp q).1;simpa using this
  rw[zZH hi]at q;cases q;refine ⟨hi,λv H'' ⟨hH,hv⟩=>?_⟩;subst hH hv;exact ⟨λ_ _ z=>z,zAp⟩
noncomputable def zPF {tg a:Expr} {g:FA} (hg:Gl X "range") (hm:X.mg "range" = none) (ha:QA X [a] g) (hl:zRp g 1) (hs:starEach [a] X.env=[(false,eval a X.env)]:=by rfl):QI X tg (.Call (.Name "range" p) [a] [] pos) (zAA g) :=
 .mk <| PI.imp (zOk hg hm ha.un hs) λτ H R zz=>by
  obtain ⟨L,σ,M,xs,gd,M',c,rs,hf,q⟩:=zz;unfold zAA at hf;split at hf
  .rename_i j M1 e1;split at hf
   .rename_i hb;cases hf;refine ⟨L,σ,M,_,_,c,rs,e1,λL1 H1 vs s1 c1 r1=>⟨j,zEm r1,hb.1,hb.2,q L1 H1 _ s1 c1 ?_⟩⟩;have z:=zLt (K:=X.K) (L:=L1) (H:=H1) (lo:=0) (n:=j.toNat);simpa using z
   .cases hf
  .rename_i e1;have:=hl _ _ _ _ e1;simp at this
  .cases hf
noncomputable def zPP (hg:Gl X "range") (hm:X.mg "range" = none) (ha:QA X [a,b] g) (hl:zRp g 2) (hs:starEach [a,b] X.env=[(false,eval a X.env),(false,eval b X.env)]:=by rfl) (hs2:starEach [b] X.env=[(false,eval b X.env)]:=by rfl):QI X tg (.Call (.Name "range" p) [a,b] [] pos) (zAA g) :=
 .mk <| PI.imp (zO7 hg hm ha.un hs hs2) λτ H R zz=>by
  obtain ⟨L,σ,M,xs,gd,M',c,rs,hf,q⟩:=zz;unfold zAA at hf;split at hf
  .rename_i e1;have:=hl _ _ _ _ e1;simp at this
  .rename_i i j M1 e1;split at hf
   .rename_i hb;cases hf;exact ⟨L,σ,M,_,_,c,rs,e1,λL1 H1 vs s1 c1 r1=>⟨i,j,zOL r1,hb,q L1 H1 _ s1 c1 zLt⟩⟩
   .cases hf
  .cases hf
end
section
variable {X:Cx} {a b c e:Expr} {es rest:Yi} {pos p apos cpos:Pos}
def zCx (f g:FT):FT:=λσ M=>match f σ M with
 |some (true,M1)=>g σ M1
 |r=>r
def zEN (f g:FT):FT:=λσ M=>match f σ M with
 |some (false,M1)=>g σ M1
 |r=>r
def zDK (f:FT):FT:=λσ M=>match f σ M with
 |some (k,M1)=>some (!k,M1)
 |none=>none
structure QW (X:Cx) (e:Expr) (f:FT):Prop where
 un:PW X e (trT X.K f)
def PW.imp (h:PW X e t) (hi:∀ τ H Q,t' τ H Q->t τ H Q):PW X e t':=λwh zB s σ H Q I q=>h wh zB s σ H Q I (hi _ _ _ q)
def zTC (h:QT X a f):QW X (.BoolOp .And [a] pos) f:=.mk (zTX h.un)
def zQd (h:QT X a f):QW X (.BoolOp .Or [a] pos) f:=.mk (zU2 h.un)
def zU3 (h1:QT X a f) (h2:QW X (.BoolOp .And (b::rest) pos) g):QW X (.BoolOp .And (a::b::rest) pos) (zCx f g):=.mk <| PW.imp (zT0 h1.un h2.un) λτ H Q zz=>by
 obtain ⟨L,σ,M,d,M',c,rs,hf,q⟩:=zz;unfold zCx at hf;split at hf
 .rename_i M1 e1;exact ⟨L,σ,M,_,_,c,rs,e1,λL1 H1 s1 c1=>zH0 ⟨L1,σ,M1,_,_,c1,rs.stp s1,hf,λL2 H2 s2 c2=>q L2 H2 (s1.trans s2) c2⟩⟩
 .rename_i hne;cases d with
  |true=>exact absurd hf (hne M')
  |false=>exact ⟨L,σ,M,_,_,c,rs,hf,λL1 H1 s1 c1=>zHv (q L1 H1 s1 c1)⟩
def zQh (h1:QT X a f) (h2:QW X (.BoolOp .Or (b::rest) pos) g):QW X (.BoolOp .Or (a::b::rest) pos) (zEN f g):=.mk <| PW.imp (zWV h1.un h2.un) λτ H Q zz=>by
 obtain ⟨L,σ,M,d,M',c,rs,hf,q⟩:=zz;unfold zEN at hf;split at hf
 .rename_i M1 e1;exact ⟨L,σ,M,_,_,c,rs,e1,λL1 H1 s1 c1=>zHv ⟨L1,σ,M1,_,_,c1,rs.stp s1,hf,λL2 H2 s2 c2=>q L2 H2 (s1.trans s2) c2⟩⟩
 .rename_i hne;cases d with
  |false=>exact absurd hf (hne M')
  |true=>exact ⟨L,σ,M,_,_,c,rs,hf,λL1 H1 s1 c1=>zH0 (q L1 H1 s1 c1)⟩
def zVF (h:QW X e f):QT X e f:=.mk (PW.pt h.un)
def zPo (h:QT X a f):QT X (.UnaryOp .Not a pos) (zDK f):=.mk <| PT.imp (zU0 h.un) λτ H Q zz=>by
 obtain ⟨L,σ,M,d,M',c,rs,hf,q⟩:=zz;unfold zDK at hf;split at hf
 .rename_i k M1 e1;cases hf;exact ⟨L,σ,M,_,_,c,rs,e1,λL1 H1 s1 c1=>q L1 H1 s1 c1⟩
 .cases hf
def zMM (f g:FE):FE:=λσ M=>match f σ M with
 |some (.dat (.bl true),M1)=>g σ M1
 |some (.dat (.bl false),M1)=>some (.dat (.bl false),M1)
 |_=>none
def zRN (f:FE):FE:=λσ M=>match f σ M with
 |some (.dat (.bl k),M1)=>some (.dat (.bl (!k)),M1)
 |_=>none
def zEk (h:zk H0 L H (.dat (.bl k)) v):v=.bl k:=by unfold zk Rep at h;exact h
def zPz {op} (h:QE X a f):QE X (.BoolOp op [a] pos) f:=.mk (zUs h.un)
def zMr (h1:QE X a f) (h2:QE X (.BoolOp .And (b::rest) pos) g):QE X (.BoolOp .And (a::b::rest) pos) (zMM f g):=.mk <| PE.imp (zUM h1.un h2.un) λτ H Q zz=>by
 obtain ⟨L,σ,M,d,M',c,rs,hf,q⟩:=zz;unfold zMM at hf;split at hf
 .rename_i M1 e1;exact ⟨L,σ,M,_,_,c,rs,e1,λL1 H1 v s1 c1 r1=>⟨true,zEk r1,zH0 ⟨L1,σ,M1,_,_,c1,rs.stp s1,hf,λL2 H2 w s2 c2 r2=>q L2 H2 w (s1.trans s2) c2 (r2.back s1 c s2.sub)⟩⟩⟩
 .rename_i M1 e1;cases hf;exact ⟨L,σ,M,_,_,c,rs,e1,λL1 H1 v s1 c1 r1=>⟨false,zEk r1,zHv (q L1 H1 _ s1 c1 (by have:=zEk r1;subst this;exact r1))⟩⟩
 .cases hf
def zTs (h:QE X a f):QE X (.UnaryOp .Not a pos) (zRN f):=.mk <| PE.imp (zUj h.un) λτ H Q zz=>by
 obtain ⟨L,σ,M,d,M',c,rs,hf,q⟩:=zz;unfold zRN at hf;split at hf
 .rename_i k M1 e1;cases hf;exact ⟨L,σ,M,_,_,c,rs,e1,λL1 H1 v s1 c1 r1=>⟨k,zEk r1,q L1 H1 _ s1 c1 (by unfold zk Rep;rfl)⟩⟩
 .cases hf
def vIf (t:FT) (f g:FE):FE:=λσ M=>match t σ M with
 |some (true,M1)=>f σ M1
 |some (false,M1)=>g σ M1
 |none=>none
def zS5 (hc:QT X c t) (h1:QE X a f) (h2:QE X b g):QE X (.IfExp c a b pos) (vIf t f g):=.mk <| PE.imp (zQe hc.un h1.un h2.un) λτ H Q zz=>by
 obtain ⟨L,σ,M,d,M',c,rs,hf,q⟩:=zz;unfold vIf at hf;split at hf
 .rename_i M1 e1;exact ⟨L,σ,M,_,_,c,rs,e1,λL1 H1 s1 c1=>zH0 ⟨L1,σ,M1,_,_,c1,rs.stp s1,hf,λL2 H2 w s2 c2 r2=>q L2 H2 w (s1.trans s2) c2 (r2.back s1 c s2.sub)⟩⟩
 .rename_i M1 e1;exact ⟨L,σ,M,_,_,c,rs,e1,λL1 H1 s1 c1=>zHv ⟨L1,σ,M1,_,_,c1,rs.stp s1,hf,λL2 H2 w s2 c2 r2=>q L2 H2 w (s1.trans s2) c2 (r2.back s1 c s2.sub)⟩⟩
 .cases hf
abbrev KM:=EV->List D->Mem->Option (D × Mem)
noncomputable def fM (k:KM) (f:FE) (g:FA):FE:=λσ M=>match f σ M with
 |some (x,M1)=>match zBa M1 x with
  |some _=>match g σ M1 with
   |some (ds,M2)=>match k x ds M2 with
    |some (d,M3)=>some (.dat d,M3)
    |none=>none
   |none=>none
  |none=>none
 |none=>none
def zQm (K:Yb) (r:V->List V->Hp->VK->Prop) (k:KM):Prop:=∀ {L:Yg} {M M':Mem} {H H0:Hp} {x:EV} {ds:List D} {d:D} {v:V} {vs:List V} {Q:VK},Cor K L M H->zk H0 L H x v->zR L H ds vs->k x ds M=some (d,M') ->
 (∀ L' H' u,Stp L H L' H'->Cor K L' M' H'->Rep L' H' d u->Q u H')->r v vs H Q
def zJd {K:PySem.W.Frag} {r:V->List V->Hp->VK->Prop} {k:KM} {f:FE} {g:FA} (hk:zQm K r k) {τ:Sv} {H:Hp} {Q:VK} (h:trE K (fM k f g) τ H Q):tBM K "list" r (trE K f) (trA K g) τ H Q:=by
 obtain ⟨L,σ,M,d,M',c,rs,hf,q⟩:=h;unfold fM at hf;split at hf
 .rename_i x M1 e1;split at hf
  .rename_i xs e2;split at hf
   .rename_i ds M2 e3;split at hf
    .rename_i d' M3 e4;cases hf;refine ⟨L,σ,M,_,_,c,rs,e1,λL1 H1 v s1 c1 r1=>?_⟩;obtain ⟨a,vs,rfl,e5,r5⟩:=zBP c1 r1 e2;refine ⟨.inl ⟨rfl,vs,.inl e5⟩,L1,σ,M1,_,_,c1,rs.stp s1,e3,λL2 H2 ws s2 c2 r2=>?_⟩;exact hk c2 (r1.stp s2) r2 e4 λL3 H3 u s3 c3 r3=>q L3 H3 u ((s1.trans s2).trans s3) c3 r3
    .cases hf
   .cases hf
  .cases hf
 .cases hf
def zr:KM:=λx ds M=>match x,ds with
 |.dat (.ref n),[d]=>match M[n]? with
  |some (.lst xs)=>if xs.length<sizeLine then some (.non,M.set n (.lst (xs++[d]))) else none
  |_=>none
 |_,_=>none
def zR.one (h:zR L H [d] vs):∃ v,vs=[v]/\Rep L H d v:=by
 unfold zR at h;obtain ⟨v,r,rfl,h1,h2⟩:=h;unfold zR at h2;subst h2;exact ⟨v,rfl,h1⟩
def zMQ {K:Yb}:zQm K zNj zr:=by
 intro L M M' H H0 x ds d v vs Q c rx rd hk q;unfold zr at hk;split at hk
 .rename_i n d';split at hk
  .rename_i xs e1;split at hk
   .rename_i hz;cases hk;unfold zk Rep at rx;obtain ⟨a,rfl,e2⟩:=rx;obtain ⟨ws,e3,r3⟩:=c.obj n a _ e2 e1;obtain ⟨w,rfl,r4⟩:=rd.one;obtain ⟨c5,s5⟩:=c.write e2 e1 (r3.app (.cons r4 .nil));exact ⟨a,ws,w,rfl,rfl,e3,by rw[r3.length];exact hz,q L _ _ s5 c5 (by unfold Rep;rfl)⟩
   .cases hk
  .cases hk
 .cases hk
noncomputable def zPi (h:QE X a f) (hg:QA X [e] g) (hbase:attributeBase a "append" X.env (eval a X.env)=eval a X.env:=by rfl)
  (hfew:((backTo cpos (starEach [e] X.env)).all (λx=> !x.1)&&(backToKw cpos (keywordEach [] X.env)).all (λx=>x.1.isSome)&&decide ([e].length+([]:List Keyword).length+(if ([]:List Keyword).isEmpty then 0 else 1)<30))=true:=by rfl)
  (hline:(apos.endLine==cpos.line)=true:=by rfl) (hs:starEach [e] X.env=(false,eval e X.env)::starEach [] X.env:=by rfl) (hplain:(backTo cpos (starEach [] X.env)).any (·.1)=false:=by rfl) :
  QE X (.Call (.Attribute a "append" apos) [e] [] cpos) (fM zr f g) :=
 .mk <| PE.imp (zN1 PySem.F.plainAttrs_list PySem.F.slot_list_append PySem.F.type_list_append zO3 h.un hg.un hbase hfew hline hs hplain) λ_ _ _ z=>zJd zMQ z
noncomputable def zIb:KM:=λx ds M=>match x,ds with
 |.dat (.ref n),[.int i]=>match M[n]? with
  |some (.lst xs)=>match ixN xs.length i with
   |some k=>match xs[k]? with
    |some d=>if -(2 ^ 63)<=i/\i<2 ^ 63 then some (d,M.set n (.lst (xs.eraseIdx k))) else none
    |none=>none
   |none=>none
  |_=>none
 |_,_=>none
def zTJ {K:Yb}:zQm K zPh zIb:=by
 intro L M M' H H0 x ds d v vs Q c rx rd hk q;unfold zIb at hk;split at hk
 .rename_i n i;split at hk
  .rename_i xs e1;split at hk
   .rename_i k e2;split at hk
    .rename_i d' e3;split at hk
     .rename_i hb;cases hk;unfold zk Rep at rx;obtain ⟨a,rfl,e4⟩:=rx;obtain ⟨ws,e5,r5⟩:=c.obj n a _ e4 e1;obtain ⟨u,e6,r6⟩:=r5.get e3;obtain ⟨c5,s5⟩:=c.write e4 e1 (r5.eraseIdx k);exact ⟨a,ws,i,k,u,rfl,zEm rd,e5,hb.1,hb.2,by rw[r5.length];exact (zKM e2).1,e6,q L _ _ s5 c5 (r6.stp s5)⟩
     .cases hk
    .cases hk
   .cases hk
  .cases hk
 .cases hk
noncomputable def zWU (h:QE X a f) (hg:QA X [e] g) (hbase:attributeBase a "pop" X.env (eval a X.env)=eval a X.env:=by rfl)
  (hfew:((backTo cpos (starEach [e] X.env)).all (λx=> !x.1)&&(backToKw cpos (keywordEach [] X.env)).all (λx=>x.1.isSome)&&decide ([e].length+([]:List Keyword).length+(if ([]:List Keyword).isEmpty then 0 else 1)<30))=true:=by rfl)
  (hline:(apos.endLine==cpos.line)=true:=by rfl) (hs:starEach [e] X.env=(false,eval e X.env)::starEach [] X.env:=by rfl) (hplain:(backTo cpos (starEach [] X.env)).any (·.1)=false:=by rfl) :
  QE X (.Call (.Attribute a "pop" apos) [e] [] cpos) (fM zIb f g) :=
 .mk <| PE.imp (zN1 PySem.F.plainAttrs_list PySem.F.slot_list_pop PySem.F.type_list_pop zRo h.un hg.un hbase hfew hline hs hplain) λ_ _ _ z=>zJd zTJ z
noncomputable def zK5 (x:EV) (i:D) (d:D) (M:Mem):Option Mem:=match x,i with
 |.dat (.ref n),.int i=>match M[n]? with
  |some (.lst xs)=>match ixN xs.length i with
   |some j=>some (M.set n (.lst (xs.set j d)))
   |none=>none
  |_=>none
 |_,_=>none
noncomputable def zMV (fv fo fi:FE):FS:=λσ M=>match toD fv σ M with
 |some (d,M1)=>match fo σ M1 with
  |some (x,M2)=>match toD fi σ M2 with
   |some (i,M3)=>match zK5 x i d M3 with
    |some M4=>some (.nx,σ,M4)
    |none=>none
   |none=>none
  |none=>none
 |none=>none
noncomputable def zQT (hv:QE X v fv) (ho:QE X o fo) (hi:QE X i fi)
  (ha:∀ v,assign (.Subscript o i p) X.env v=(do
   let ov <- holding [v] (eval o X.env);let iv <- holding [v,ov] (eval i X.env);standAt p;holding [v,ov,iv] (setItem ov iv v);release [v,ov,iv] []):=by intro _;rfl)
  (hs:swapsWithSole [.Subscript o i p] v pos.line X.env=pure false:=by rfl) (hw:swappedStores [.Subscript o i p] v X.env=pure none:=by rfl) (h1:(assignEach [.Subscript o i p] X.env).map (·.2)=[assign (.Subscript o i p) X.env]:=by rfl) :
  QS X (.Assign [.Subscript o i p] v pos) (zMV fv fo fi):=.mk <| PS.imp (zQw (zA9 hv).un (zUN ho.un (zA9 hi).un zQa ha) hs hw h1) λE τ H zz=>by
 obtain ⟨L,σ,M,out,σ',M',c,rs,hf,q⟩:=zz;unfold zMV at hf;split at hf
 .rename_i d M1 e1;split at hf
  .rename_i x M2 e2;split at hf
   .rename_i j M3 e3;split at hf
    .rename_i M4 e4;cases hf;refine ⟨L,σ,M,_,_,c,rs,e1,λL1 H1 u s1 c1 r1=>⟨L1,σ,M1,_,_,c1,rs.stp s1,e2,λL2 H2 w s2 c2 r2=>⟨L2,σ,M2,_,_,c2,rs.stp (s1.trans s2),e3,λL3 H3 z s3 c3 r3=>?_⟩⟩⟩;have st:=(s1.trans s2).trans s3;unfold zK5 at e4;split at e4
     .rename_i n k;split at e4
      .rename_i xs e5;split at e4
       .rename_i m e6;cases e4;have r2':=r2.stp s3;unfold zk Rep at r2';obtain ⟨a,rfl,e7⟩:=r2';obtain ⟨ws,e8,r8⟩:=c3.obj n a _ e7 e5;obtain ⟨c9,s9⟩:=c3.write e7 e5 (zR.set ((r1.stp s2).stp s3) m r8);exact ⟨a,ws,k,m,rfl,by unfold Rep at r3;exact r3,e8,by rw[r8.length];exact e6,q L3 _ (st.trans s9) c9 τ ((rs.stp st).stp s9)⟩
       .cases e4
      .cases e4
     .cases e4
    .cases hf
   .cases hf
  .cases hf
 .cases hf
def zGY:D->Option V
 |.non=>some .non
 |.bl k=>some (.bl k)
 |.int i=>some (.int i)
 |.str x=>some (.str x)
 |_=>none
def zFT (h:Rep L H d v) (e:zGY d=some u):v=u:=by
 cases d with
 |non=>cases e;unfold Rep at h;exact h
 |bl _=>cases e;unfold Rep at h;exact h
 |int _=>cases e;unfold Rep at h;exact h
 |str _=>cases e;unfold Rep at h;exact h
 |tup _=>cases e
 |ref _=>cases e
def zLE (neg:Bool):K2:=λx y M=>match x,y with
 |.dat d,.dat d'=>match zGY d,zGY d' with
  |some u,some w=>if zSB u w then some (.dat (.bl (if neg then !decide (u=w) else decide (u=w))),M) else none
  |_,_=>none
 |_,_=>none
def zIs (h:zLE neg x y M=some (r,M')):∃ d d' u w,x=.dat d/\y=.dat d'/\zGY d=some u/\zGY d'=some w/\zSB u w=true/\r=.dat (.bl (if neg then !decide (u=w) else decide (u=w)))/\M'=M:=by
 unfold zLE at h;split at h
 .rename_i d d';split at h
  .rename_i u w e1 e2;split at h
   .rename_i hs;cases h;exact ⟨d,d',u,w,rfl,rfl,e1,e2,hs,rfl,rfl⟩
   .cases h
  .cases h
 .cases h
def zNt {K:Yb}:zDW K rEq (zLE false):=by
 intro L M M' H H0 x y d v w Q c rx ry hk q;obtain ⟨d1,d2,u,z,rfl,rfl,e1,e2,hs,rfl,rfl⟩:=zIs hk;have a1:=zFT rx e1;have a2:=zFT ry e2;subst a1 a2;exact ⟨hs,q L H _ (.refl L H) c (zCK (L:=L) (H:=H))⟩
def zSp {K:Yb}:zDW K rNe (zLE true):=by
 intro L M M' H H0 x y d v w Q c rx ry hk q;obtain ⟨d1,d2,u,z,rfl,rfl,e1,e2,hs,rfl,rfl⟩:=zIs hk;have a1:=zFT rx e1;have a2:=zFT ry e2;subst a1 a2;exact ⟨hs,q L H _ (.refl L H) c (zCK (L:=L) (H:=H))⟩
def zUQ (neg:Bool) (K:Yb):R2:=λx y H Q=>∃ p q xs,x=.ref p/\y=.ref q/\SqL K H p xs/\SqL K H q []/\Q (.bl (if neg then !xs.isEmpty else xs.isEmpty)) H
def zKF (r:zg [] its):its=[]:=by cases r;rfl
def zLw (hu:X.A.units<cLine):OpR X (compareOp .Eq) (zUQ false X.K):=by
 intro zB s σ H x y v u Q I rx ry h;obtain ⟨p,q,xs,rfl,rfl,h1,h2,hq⟩:=h;cases rx;cases ry;obtain ⟨its,rv,pl,_⟩:=I.list h1;obtain ⟨its2,rv2,pl2,_⟩:=I.list h2;cases zKF rv2;cases rv with
 |nil=>exact SeqAt.eq_listAt (e:=λ_=>true) pl.isList pl2.isList rfl hu (λj h1=>by simp at h1) ⟨.bl true,H,I,rfl,hq⟩
 |cons _ _=>exact SeqAt.eq_list_lengthsAt pl.isList pl2.isList (by simp) hu ⟨.bl false,H,I,rfl,hq⟩
def zQp (hu:X.A.units<cLine):OpR X (compareOp .NotEq) (zUQ true X.K):=by
 intro zB s σ H x y v u Q I rx ry h;obtain ⟨p,q,xs,rfl,rfl,h1,h2,hq⟩:=h;cases rx;cases ry;obtain ⟨its,rv,pl,_⟩:=I.list h1;obtain ⟨its2,rv2,pl2,_⟩:=I.list h2;cases zKF rv2;cases rv with
 |nil=>exact SeqAt.RcNeAt.lists (e:=λ_=>true) pl.isList pl2.isList rfl hu (λj h1=>by simp at h1) _ _ _ _ ⟨.bl false,H,I,rfl,hq⟩
 |cons _ _=>exact SeqAt.RcNeAt.lists_lengths pl.isList pl2.isList (by simp) hu _ _ _ _ ⟨.bl true,H,I,rfl,hq⟩
def zOX (neg:Bool):K2:=λx y M=>match zBa M x,zBa M y with
 |some xs,some []=>some (.dat (.bl (if neg then !xs.isEmpty else xs.isEmpty)),M)
 |_,_=>none
def zJs {K:Yb} {neg:Bool}:zDW K (zUQ neg K) (zOX neg):=by
 intro L M M' H H0 x y d v w Q c rx ry hk q;unfold zOX at hk;split at hk
 .rename_i xs e1 e2;cases hk;obtain ⟨p1,vs,rfl,h1,r1⟩:=zBP c rx e1;obtain ⟨p2,ws,rfl,h2,r2⟩:=zBP c ry e2;unfold zR at r2;subst r2;refine ⟨p1,p2,vs,rfl,rfl,.inl h1,.inl h2,q L H _ (.refl L H) c ?_⟩;have:vs.isEmpty=xs.isEmpty:=by
   have:=r1.length;cases vs <;> cases xs <;> simp_all
  rw[this];exact (zCK (L:=L) (H:=H))
 .cases hk
def kOr (k1 k2:K2):K2:=λx y M=>match k1 x y M with
 |some r=>some r
 |none=>k2 x y M
def zJj {K:Yb} {r1 r2:R2} {k1 k2:K2} (h1:zDW K r1 k1) (h2:zDW K r2 k2):zDW K (λx y H Q=>r1 x y H Q\/r2 x y H Q) (kOr k1 k2):=by
 intro L M M' H H0 x y d v w Q c rx ry hk q;unfold kOr at hk;split at hk
 .rename_i r e1;cases hk;exact .inl (h1 c rx ry e1 q)
 .exact .inr (h2 c rx ry hk q)
abbrev kEq:K2:=kOr (zLE false) (zOX false)
abbrev kNe:K2:=kOr (zLE true) (zOX true)
variable {f g:FE}
def zTn (hu:X.A.units<cLine) (h1:QE X a f) (h2:QE X b g):QE X (.Compare a [.Eq] [b] pos) (fOp kEq f g):=zV6 (zJj zNt zJs) (zTe.or (zLw hu)) h1 h2 (zFC _)
def zVw (hu:X.A.units<cLine) (h1:QE X a f) (h2:QE X b g):QT X (.Compare a [.Eq] [b] pos) (tst (fOp kEq f g)):=zEB (zJj zNt zJs) (zTe.or (zLw hu)) h1 h2 (zFC _)
def zTg (hu:X.A.units<cLine) (h1:QE X a f) (h2:QE X b g):QT X (.Compare a [.NotEq] [b] pos) (tst (fOp kNe f g)):=zEB (zJj zSp zJs) (zWD.or (zQp hu)) h1 h2 (zFC _)
end
section
variable {X:Cx} {a b c e:Expr} {es rest:Yi} {pos p apos cpos:Pos}
def zRF {prog:Ym} {w:Yo} {A:Yn} {E:Yc} {s:Yl} {t b:Yt} {ws:Yf} {Q:Yc} (ht:IsTup s.heap t #[]) (hb:IsTup s.heap b ws.toArray) (h1:Q (.ref b) s) :
  wpAny (model prog w) A (binaryOp .Add (.ref t) (.ref b)) Q E s:=by
 obtain ⟨⟨cls,dd,data,sl⟩,ho,hc,n,hd⟩:=id ht;obtain ⟨⟨cls2,dd2,data2,sl2⟩,ho2,hc2,n2,hd2⟩:=id hb;simp only at hc hd hc2 hd2;subst hc hd hc2 hd2
 exact concat_meets ⟨_,ho,rfl⟩ ⟨_,ho2,rfl⟩ noFill_tuple_add seq_tuple_add PySem.F.slot_tuple_add PySem.F.entry_tuple_add (PySem.F.args_tuple_add_2 _ _)
   (tuple_addW0 t b #[] ws.toArray n n2 dd dd2 sl sl2 (by simp)) ⟨ho,ho2,h1⟩
def zRs (K:Yb):R2:=λx y H Q=>∃ a b ys,x=.ref a/\y=.ref b/\SqT K H a []/\SqT K H b ys/\Q (.ref b) H
def zQ4:OpR X (binaryOp .Add) (zRs X.K):=by
 intro zB s σ H x y v u Q I rx ry h;obtain ⟨a,b,ys,rfl,rfl,ha,hb,q⟩:=h;cases rx;cases ry;obtain ⟨its,r1,p1,_⟩:=I.tuple ha;obtain ⟨its2,r2,p2,_⟩:=I.tuple hb;cases zKF r1;exact zRF p1 p2 ⟨.ref b,H,I,rfl,q⟩
def zRL:K2:=λx y M=>match zCP x,zCP y with
 |some xs,some ys=>if xs.length+ys.length<=sizeLine then some (.dat (.tup (xs++ys)),M) else none
 |_,_=>none
def zPn {K:Yb}:zDW K (λx y H Q=>zTb K x y H Q\/zRs K x y H Q) zRL:=by
 intro L M M' H H0 x y d v w Q c rx ry hk q;unfold zRL at hk;split at hk
 .rename_i xs ys e1 e2;split at hk
  .rename_i hz;cases hk;obtain ⟨p1,vs,rfl,h1,r1⟩:=zCA rx e1;obtain ⟨p2,ws,rfl,h2,r2⟩:=zCA ry e2;cases xs with
   |nil=>
    refine .inr ⟨p1,p2,ws,rfl,rfl,.of (by unfold zR at r1;subst r1;exact h1),.of h2,q L H _ (.refl L H) c ?_⟩;unfold zk Rep;exact ⟨p2,ws,rfl,h2,r2⟩
   |cons x0 xr=>
    have hv:vs≠[]:=λz=>by have:=r1.length;rw[z]at this;simp at this
    refine .inl ⟨p1,p2,vs,ws,rfl,rfl,.of h1,.of h2,hv,by rw[r1.length,r2.length];exact hz,λz=>?_,λz pp hp=>?_⟩
    .have:ys=[]:=by
      have:=r2.length;rw[z]at this;cases ys with
      |nil=>rfl
      |cons _ _=>simp at this
     subst this;refine q L H _ (.refl L H) c ?_;unfold zk Rep;rw[zXx];exact ⟨p1,vs,rfl,h1,r1⟩
    .exact q L _ _ (.upd hp) (c.upd hp) (Rep.newTup hp (r1.app r2))
  .cases hk
 .cases hk
abbrev zAI:K2:=kOr zXA zRL
variable {f g:FE}
def zVQ (h1:QE X a f) (h2:QE X b g):QE X (.BinOp a .Add b pos) (fOp zAI f g):=zK2 (zJj (zGM λ_ _ _ _=>zAp) zPn) (zU5.or (zRz.or zQ4)) h1 h2
structure Kinds (K:Yb):Prop where
 k:∀ t T,t∈["NoneType", "bool", "int", "str", "list", "tuple", "dict"]->T∈["int", "bool", "str", "tuple"]->PySem.W.kitOne K (.type t) (.type T)=some (decide (t=T)||(decide (t = "bool")&&decide (T = "int")))
noncomputable def zMn (M:Mem):EV->Option String
 |.dat .non=>some "NoneType"
 |.dat (.bl _)=>some "bool"
 |.dat (.int _)=>some "int"
 |.dat (.str _)=>some "str"
 |.dat (.tup _)=>some "tuple"
 |.fl _=>some "list"
 |.dat (.ref n)=>match M[n]? with
  |some (.lst _)=>some "list"
  |some (.fro _)=>some "list"
  |some (.dict _)=>some "dict"
  |some (.dicT _)=>some "dict"
  |_=>none
def zUe {K:PySem.W.Frag} {L:List Addr} {M:Mem} {H H0:Hp} {x:EV} {v:V} {t:String} (c:Cor K L M H) (r:zk H0 L H x v) (h:zMn M x=some t):TyOf K H v (.type t)/\t∈["NoneType", "bool", "int", "str", "list", "tuple", "dict"]:=by
 unfold zMn at h;split at h
 .cases h;unfold zk Rep at r;subst r;exact ⟨.non,by simp⟩
 .cases h;unfold zk Rep at r;subst r;exact ⟨.bl _,by simp⟩
 .cases h;unfold zk Rep at r;subst r;exact ⟨.int _,by simp⟩
 .cases h;unfold zk Rep at r;subst r;exact ⟨.str _,by simp⟩
 .cases h;unfold zk Rep at r;obtain ⟨a,vs,rfl,e,_⟩:=r;exact ⟨.tup e,by simp⟩
 .cases h;obtain ⟨p,vs,rfl,_,e,_⟩:=r;exact ⟨.lst e,by simp⟩
 .unfold zk Rep at r;obtain ⟨a,rfl,e⟩:=r;split at h
  .rename_i e1;cases h;obtain ⟨vs,q,_⟩:=c.obj _ a _ e e1;exact ⟨.lst q,by simp⟩
  .rename_i e1;cases h;obtain ⟨o,vs,q,_⟩:=c.obj _ a _ e e1;exact ⟨.frz q,by simp⟩
  .rename_i e1;cases h;obtain ⟨vs,q,_⟩:=c.obj _ a _ e e1;exact ⟨.dK q,by simp⟩
  .rename_i e1;cases h;obtain ⟨vs,q,_⟩:=c.obj _ a _ e e1;exact ⟨.dT q,by simp⟩
  .cases h
def isT (t T:String):Bool:=decide (t=T)||(decide (t = "bool")&&decide (T = "int"))
def zD7 (T:String) (f:FE):FE:=λσ M=>match f σ M with
 |some (x,M1)=>match zMn M1 x with
  |some t=>some (.dat (.bl (isT t T)),M1)
  |none=>none
 |none=>none
def zWS (K:Yb) (T:String):List V->Hp->VK->Prop:=λxs H Q=>∃ x t b,xs=[x,.ty T]/\TyOf K H x t/\PySem.W.kitOne K t (.type T)=some b/\Q (.bl b) H
def zPg:zCI X (.builtin "isinstance") (zWS X.K T):=by
 intro zB s σ H xs us Q I r h;obtain ⟨x,t,b,rfl,ty,e,q⟩:=h;cases r with
 |cons r1 r2=>
  cases r2 with
  |cons r3 r4=>
   cases r4;cases r3;exact zPY I r1 ty e λtk=>⟨.bl b,H,I.tok _,rfl,q⟩
noncomputable def zIB (hK:Kinds X.K) (hT:T∈["int", "bool", "str", "tuple"]) (hg:Gl X "isinstance") (hm:X.mg "isinstance" = none) (hg2:Gl X y) (hm2:X.mg y=none) (hv2:bootBuiltins y=some (.type T)) (hn2:y ≠ "__name__") (hd2:(y==("__debug__" : Str))=false) (h:QE X e f)
  (he:starEach (e::[.Name y p2]) X.env=(false,eval e X.env)::starEach [.Name y p2] X.env:=by rfl) (he2:starEach [.Name y p2] X.env=(false,eval (.Name y p2) X.env)::starEach [] X.env:=by rfl) (hpl:(backTo pos (starEach [.Name y p2] X.env)).any (·.1)=false:=by rfl) :
  QE X (.Call (.Name "isinstance" p1) [e,.Name y p2] [] pos) (zD7 T f) :=
 .mk <| PE.imp (zLh (r:=zWS X.K T) zPg hg hm (by rfl) (zCw h.un (zCw (zST (v:=.ty T) hg2 hm2 hv2 rfl hn2 hd2) zFG he2) he) (by decide) (by decide) he hpl) λτ H Q zz=>by
  obtain ⟨L,σ,M,d,M',c,rs,hf,q⟩:=zz;unfold zD7 at hf;split at hf
  .rename_i x M1 e1;split at hf
   .rename_i t e2;cases hf;refine ⟨L,σ,M,_,_,c,rs,e1,λL1 H1 v s1 c1 r1=>?_⟩;obtain ⟨ty,ht⟩:=zUe c1 r1 e2;exact ⟨v,_,_,rfl,ty,hK.k t T ht hT,q L1 H1 _ s1 c1 (zCK (L:=L1) (H:=H1))⟩
   .cases hf
  .cases hf
def zR.two (h:zR L H [d,d'] vs):∃ v v',vs=[v,v']/\Rep L H d v/\Rep L H d' v':=by
 unfold zR at h;obtain ⟨v,r,rfl,h1,h2⟩:=h;obtain ⟨v',rfl,h3⟩:=h2.one;exact ⟨v,v',rfl,h1,h3⟩
section
variable {fa:FAE}
noncomputable def zQn (hg:Gl X "len") (hm:X.mg "len" = none) (ha:QAE X [e] fa) (he:starEach [e] X.env=(false,eval e X.env)::starEach [] X.env:=by rfl) (hpl:(backTo pos (starEach [] X.env)).any (·.1)=false:=by rfl):QE X (.Call (.Name "len" p) [e] [] pos) (fB zAX fa) :=
 zEh zRy zKU PySem.boot_len hg hm ha (by decide) (by decide) he hpl
noncomputable def zSL (hg:Gl X "tuple") (hm:X.mg "tuple" = none) (ha:QAE X [e] fa) (he:starEach [e] X.env=(false,eval e X.env)::starEach [] X.env:=by rfl) (hpl:(backTo pos (starEach [] X.env)).any (·.1)=false:=by rfl):QE X (.Call (.Name "tuple" p) [e] [] pos) (fB zA2 fa) :=
 zIM zOF zIq (by rfl) hg hm ha (by decide) (by decide) he hpl
end
end
noncomputable def zFv (sc scope:Y0):Bool:=scope.names.all λy=>
 (y.2 != .local||scope.names.lookup y.1==some .local)&&(y.2 != .cell||scope.names.lookup y.1==some .cell)&&(y.2 != .free||(sc.names.lookup y.1==some .cell||sc.names.lookup y.1==some .free))
def zG7 (N:Yk) (scope:Y0) (own:Yj):Bool:=(List.range N.length).all λi=>match N[i]? with
 |some x=>decide (i∈own)||(scope.names.lookup x==none)||(scope.names.lookup x==some .free)
 |none=>true
def zGG (hk:scope.kind=.function) (hs:X.env.scope=sc) (hN:X.N=N) (h1:zFv sc scope=true) (h2:zG7 N scope own=true):CompIn X scope own:=by
 unfold zFv at h1;rw[zXo]at h1;refine ⟨⟨hk,λy hy e=>?_,λy hy e=>?_,λy hy e=>?_⟩,λi x e=>?_⟩
 .have:=h1 y hy;simp[e]at this;exact this
 .have:=h1 y hy;simp[e]at this;exact this
 .have:=h1 y hy;simp[e]at this;show X.env.scope.names.lookup y.1=_\/X.env.scope.names.lookup y.1=_;rw[hs];exact this
 .unfold zG7 at h2;rw[zXo]at h2;rw[hN]at e;have hi:i<N.length:=(zXG.mp e).1;have:=h2 i (by simpa using hi);rw[e]at this;simp only[Bool.or_eq_true,zYQ,beq_iff_eq,or_assoc]at this;exact this
def zJu (K:Yb):Bool:=K.all λp=>match p.2.cls with
 |.type n=>n != "list"
 |_=>true
theorem zKu:∀ {K:Yb},K.lookup a=some o->(a,o)∈K
 |[],h=>by cases h
 | (b,u)::r,h=>by
  have h':List.lookup a ((b,u)::r)=some o:=h;rw[zZI]at h';cases q:a==b with
  |true=>rw[q]at h';cases h';rw[beq_iff_eq.mp q];exact zXR
  |false=>rw[q]at h';exact zXQ _ (zKu h')
def zOD {K:PySem.W.Frag} (h:zJu K=true) {o:Obj} (e:K.lookup a=some o) (hc:o.cls=.type "list"):False:=by
 unfold zJu at h;rw[zXo]at h;have:=h (a,o) (zKu e);simp[hc]at this
theorem zJR:∀ (ns:Ye),zR L H (ns.map D.int) (ns.map V.int)
 |[]=> .nil
 |n::r=> .cons (by unfold Rep;rfl) (zJR r)
def zPC {K:Yb} {m:FF} {H:Hp} {a:Yt} {ns:Ye} {E:XK} (hL:zJu K=true) (hO:zS3 H) (hS:SqL K H a (ns.map V.int)) (h:∃ M',m [.ref 0] [.fro (ns.map D.int)]=some (.bl true,M')) :
  spF K 1 m [.ref a] H (λv _=>v=.bl true) E:=by
 obtain ⟨M',e⟩:=h;have hf:∃ o,H a=some (.frz o (.lst (ns.map V.int))):=by
  rcases hS with (h1|h1)|⟨o,its,n,h1,h2,_⟩
  .rcases hO a with z|⟨o,xs,z⟩
   .rw[h1]at z;cases z
   .rw[h1]at z;cases z
  .exact h1
  .exact (zOD hL h1 h2).elim
 obtain ⟨o,hf⟩:=hf;refine ⟨[a],[.ref 0],[.fro (ns.map D.int)],_,_,⟨rfl,by simp,λn b m e1 e2=>?_⟩,.cons ?_ .nil,rfl,e,λL' H' v s c r=>?_⟩
 .cases n with
  |zero=>simp at e1 e2;subst e1;subst e2;exact ⟨o,_,hf,zJR ns⟩
  |succ n=>simp at e1
 .unfold Rep;exact ⟨a,rfl,rfl⟩
 .unfold Rep at r;exact r
def Ok {α:Type} (x:Option (α × Mem)) (P:α->Mem->Prop):Prop:=∃ a M,x=some (a,M)/\P a M
def OkS (x:Option (Out × Sd × Mem)) (P:Out->Sd->Mem->Prop):Prop:=∃ o σ M,x=some (o,σ,M)/\P o σ M
def Ok.mono {α:Type} {x:Option (α × Mem)} {P Q:α->Mem->Prop} (h:Ok x P) (hq:∀ a M,P a M->Q a M):Ok x Q:=let ⟨a,M,e,p⟩:=h;⟨a,M,e,hq a M p⟩
def OkS.mono {x:Option (Out × Sd × Mem)} {P Q:Out->Sd->Mem->Prop} (h:OkS x P) (hq:∀ o σ M,P o σ M->Q o σ M):OkS x Q:=let ⟨a,σ,M,e,p⟩:=h;⟨a,σ,M,e,hq a σ M p⟩
def zAC {α:Type} {a:α} {M:Mem} {P:α->Mem->Prop}:Ok (some (a,M)) P ↔ P a M:=⟨λ⟨_,_,e,p⟩=>by cases e;exact p,λp=>⟨a,M,rfl,p⟩⟩
def zHF {α:Type} {P:α->Mem->Prop}:Ok (none:Option (α × Mem)) P ↔ False:=⟨(λ⟨_,_,e,_⟩=>(nomatch e)),λh=>h.elim⟩
def zPd {o:Out} {σ:Sd} {M:Mem} {P:Out->Sd->Mem->Prop}:OkS (some (o,σ,M)) P ↔ P o σ M:=⟨λ⟨_,_,_,e,p⟩=>by cases e;exact p,λp=>⟨o,σ,M,rfl,p⟩⟩
section
variable {σ:Sd} {M:Mem} {f g:FE} {P:EV->Mem->Prop}
def zAa {i:Nat}:Ok (zC i σ M) P ↔ ∃ d,σ[i]?=some (some d)/\P (.dat d) M:=by
 unfold zC;constructor
 .rintro ⟨a,M1,e,p⟩;split at e
  .rename_i d e1;cases e;exact ⟨d,e1,p⟩
  .cases e
 .rintro ⟨d,e1,p⟩;rw[e1];exact ⟨_,_,rfl,p⟩
def zFt {d:D}:Ok (fC d σ M) P ↔ P (.dat d) M:=zAC
def zBb {k:K2}:Ok (fOp k f g σ M) P ↔ Ok (f σ M) λx M1=>Ok (g σ M1) λy M2=>Ok (k x y M2) P:=by
 unfold fOp;constructor
 .rintro ⟨a,M1,e,p⟩;split at e
  .rename_i x M2 e1;split at e
   .rename_i y M3 e2;exact ⟨x,M2,e1,y,M3,e2,a,M1,e,p⟩
   .cases e
  .cases e
 .rintro ⟨x,M2,e1,y,M3,e2,a,M1,e,p⟩;rw[e1];dsimp only;rw[e2];exact ⟨a,M1,e,p⟩
def zGx (P:D->Mem->Prop):EV->Mem->Prop
 |.dat d,M=>P d M
 |.fl xs,M=>P (.ref M.length) (M++[.lst xs])
def zAY {P:D->Mem->Prop}:Ok (toD f σ M) P ↔ Ok (f σ M) (zGx P):=by
 unfold toD;constructor
 .rintro ⟨a,M1,e,p⟩;split at e
  .rename_i d M2 e1;cases e;exact ⟨_,_,e1,p⟩
  .rename_i xs M2 e1;cases e;exact ⟨_,_,e1,p⟩
  .cases e
 .rintro ⟨x,M2,e1,p⟩;rw[e1];cases x with
  |dat d=>exact ⟨d,M2,rfl,p⟩
  |fl xs=>exact ⟨_,_,rfl,p⟩
def zL {P:D->Mem->Prop} {d:D} {M:Mem}:zGx P (.dat d) M ↔ P d M:=Iff.rfl
def zKH {P:D->Mem->Prop} {xs:List D} {M:Mem}:zGx P (.fl xs) M ↔ P (.ref M.length) (M++[.lst xs]):=Iff.rfl
section
variable {P:List D->Mem->Prop}
def zAh:Ok (zH σ M) P ↔ P [] M:=zAC
def zy {f:FD} {g:FA}:Ok (zD f g σ M) P ↔ Ok (f σ M) λd M1=>Ok (g σ M1) λds M2=>P (d::ds) M2:=by
 unfold zD;constructor
 .rintro ⟨a,M1,e,p⟩;split at e
  .rename_i x M2 e1;split at e
   .rename_i y M3 e2;cases e;exact ⟨x,M2,e1,y,_,e2,p⟩
   .cases e
  .cases e
 .rintro ⟨x,M2,e1,y,M3,e2,p⟩;rw[e1];dsimp only;rw[e2];exact ⟨_,_,rfl,p⟩
end
section
variable {P:List EV->Mem->Prop}
def zFV:Ok (ze σ M) P ↔ P [] M:=zAC
def zEL {f:FE} {g:FAE}:Ok (zQ f g σ M) P ↔ Ok (f σ M) λd M1=>Ok (g σ M1) λds M2=>P (d::ds) M2:=by
 unfold zQ;constructor
 .rintro ⟨a,M1,e,p⟩;split at e
  .rename_i x M2 e1;split at e
   .rename_i y M3 e2;cases e;exact ⟨x,M2,e1,y,_,e2,p⟩
   .cases e
  .cases e
 .rintro ⟨x,M2,e1,y,M3,e2,p⟩;rw[e1];dsimp only;rw[e2];exact ⟨_,_,rfl,p⟩
end
def zUR {a:FA}:Ok (zAd a σ M) P ↔ Ok (a σ M) λds M1=>ds.length<=sizeLine/\P (.dat (.tup ds)) M1:=by
 unfold zAd;constructor
 .rintro ⟨x,M1,e,p⟩;split at e
  .rename_i ds M2 e1;split at e
   .rename_i hz;cases e;exact ⟨ds,_,e1,hz,p⟩
   .cases e
  .cases e
 .rintro ⟨ds,M1,e1,hz,p⟩;rw[e1];dsimp only;rw[zXS hz];exact ⟨_,_,rfl,p⟩
def zEI {a:FA}:Ok (zAb a σ M) P ↔ Ok (a σ M) λds M1=>ds.length<=sizeLine/\P (.fl ds) M1:=by
 unfold zAb;constructor
 .rintro ⟨x,M1,e,p⟩;split at e
  .rename_i ds M2 e1;split at e
   .rename_i hz;cases e;exact ⟨ds,_,e1,hz,p⟩
   .cases e
  .cases e
 .rintro ⟨ds,M1,e1,hz,p⟩;rw[e1];dsimp only;rw[zXS hz];exact ⟨_,_,rfl,p⟩
def zP7 {k:KB} {a:FAE}:Ok (fB k a σ M) P ↔ Ok (a σ M) λxs M1=>Ok (k xs M1) P:=by
 unfold fB;constructor
 .rintro ⟨x,M1,e,p⟩;split at e
  .rename_i ds M2 e1;exact ⟨ds,_,e1,x,M1,e,p⟩
  .cases e
 .rintro ⟨ds,M1,e1,p⟩;rw[e1];exact p
def zAj {m:FF} {a:FA}:Ok (zP m a σ M) P ↔ Ok (a σ M) λds M1=>Ok (m ds M1) λd M2=>P (.dat d) M2:=by
 unfold zP;constructor
 .rintro ⟨x,M1,e,p⟩;split at e
  .rename_i ds M2 e1;split at e
   .rename_i d M3 e2;cases e;exact ⟨ds,_,e1,d,_,e2,p⟩
   .cases e
  .cases e
 .rintro ⟨ds,M1,e1,d,M2,e2,p⟩;rw[e1];dsimp only;rw[e2];exact ⟨_,_,rfl,p⟩
def zFz {k:KM} {a:FA}:Ok (fM k f a σ M) P ↔ Ok (f σ M) λx M1=>(∃ xs,zBa M1 x=some xs)/\Ok (a σ M1) λds M2=>Ok (k x ds M2) λd M3=>P (.dat d) M3:=by
 unfold fM;constructor
 .rintro ⟨x,M1,e,p⟩;split at e
  .rename_i y M2 e1;split at e
   .rename_i xs e2;split at e
    .rename_i ds M3 e3;split at e
     .rename_i d M4 e4;cases e;exact ⟨y,_,e1,⟨xs,e2⟩,ds,_,e3,d,_,e4,p⟩
     .cases e
    .cases e
   .cases e
  .cases e
 .rintro ⟨y,M1,e1,⟨xs,e2⟩,ds,M2,e3,d,M3,e4,p⟩;rw[e1];dsimp only;rw[e2];dsimp only;rw[e3];dsimp only;rw[e4];exact ⟨_,_,rfl,p⟩
section
variable {P:Option Int->Mem->Prop}
def zRR:Ok (zBz σ M) P ↔ P none M:=zAC
def zV8 (P:Option Int->Mem->Prop):EV->Mem->Prop
 |.dat (.int i),M=>P (some i) M
 |_,_=>False
def zQv {i:Int} {M:Mem}:zV8 P (.dat (.int i)) M ↔ P (some i) M:=Iff.rfl
def zRv:Ok (zBY f σ M) P ↔ Ok (f σ M) (zV8 P):=by
 unfold zBY;constructor
 .rintro ⟨x,M1,e,p⟩;split at e
  .rename_i i M2 e1;cases e;exact ⟨_,_,e1,p⟩
  .cases e
 .rintro ⟨x,M1,e1,p⟩;rw[e1];cases x with
  |fl xs=>exact p.elim
  |dat d=>
   cases d with
   |int i=>exact ⟨_,_,rfl,p⟩
   |_=>exact p.elim
end
def zWF {l h:FO}:Ok (fSl f l h σ M) P ↔ Ok (f σ M) λx M1=>Ok (l σ M1) λlo M2=>Ok (h σ M2) λhi M3=>Ok (kSl x lo hi M3) P:=by
 unfold fSl;constructor
 .rintro ⟨x,M1,e,p⟩;split at e
  .rename_i y M2 e1;split at e
   .rename_i lo M3 e2;split at e
    .rename_i hi M4 e3;exact ⟨y,_,e1,lo,_,e2,hi,_,e3,x,M1,e,p⟩
    .cases e
   .cases e
  .cases e
 .rintro ⟨y,M1,e1,lo,M2,e2,hi,M3,e3,p⟩;rw[e1];dsimp only;rw[e2];dsimp only;rw[e3];exact p
def blP (P:Bool->Mem->Prop):EV->Mem->Prop
 |.dat (.bl k),M=>P k M
 |_,_=>False
def zJy {P:Bool->Mem->Prop} {k:Bool} {M:Mem}:blP P (.dat (.bl k)) M ↔ P k M:=Iff.rfl
def zKG {P:Bool->Mem->Prop}:Ok (tst f σ M) P ↔ Ok (f σ M) (blP P):=by
 unfold tst;constructor
 .rintro ⟨x,M1,e,p⟩;split at e
  .rename_i i M2 e1;cases e;exact ⟨_,_,e1,p⟩
  .cases e
 .rintro ⟨x,M1,e1,p⟩;rw[e1];cases x with
  |fl xs=>exact p.elim
  |dat d=>
   cases d with
   |bl i=>exact ⟨_,_,rfl,p⟩
   |_=>exact p.elim
section
variable {P:Bool->Mem->Prop} {s t:FT}
def zFi:Ok (zv σ M) P ↔ P true M:=zAC
def zUF:Ok (zEN s t σ M) P ↔ Ok (s σ M) λk M1=>if k then P true M1 else Ok (t σ M1) P:=by
 unfold zEN;constructor
 .rintro ⟨x,M1,e,p⟩;split at e
  .rename_i M2 e1;exact ⟨false,M2,e1,by simpa using ⟨x,M1,e,p⟩⟩
  .rename_i hn;cases x with
   |false=>exact absurd e (hn M1)
   |true=>exact ⟨true,M1,e,by simpa using p⟩
 .rintro ⟨x,M1,e1,p⟩;rw[e1];cases x with
  |false=>simpa using p
  |true=>exact ⟨true,M1,rfl,by simpa using p⟩
def zNT:Ok (zDK s σ M) P ↔ Ok (s σ M) λk M1=>P (!k) M1:=by
 unfold zDK;constructor
 .rintro ⟨x,M1,e,p⟩;split at e
  .rename_i k M2 e1;cases e;exact ⟨k,_,e1,p⟩
  .cases e
 .rintro ⟨k,M1,e1,p⟩;rw[e1];exact ⟨_,_,rfl,p⟩
end
end
section
variable {σ:Sd} {M:Mem} {f g:FS} {P:Out->Sd->Mem->Prop}
def nxP (k:Sd->Mem->Prop) (P:Out->Sd->Mem->Prop):Out->Sd->Mem->Prop
 |.nx,σ,M=>k σ M
 |o,σ,M=>P o σ M
def zM {k:Sd->Mem->Prop}:nxP k P .nx σ M ↔ k σ M:=Iff.rfl
def zJ4 {k:Sd->Mem->Prop} {d:D}:nxP k P (.ret d) σ M ↔ P (.ret d) σ M:=Iff.rfl
def zAi:OkS (zBB σ M) P ↔ P .nx σ M:=zPd
def zI:OkS (zX f g σ M) P ↔ OkS (f σ M) (nxP (λσ1 M1=>OkS (g σ1 M1) P) P):=by
 unfold zX;constructor
 .rintro ⟨o,σ1,M1,e,p⟩;split at e
  .rename_i σ2 M2 e1;exact ⟨_,_,_,e1,o,σ1,M1,e,p⟩
  .rename_i hn;refine ⟨o,σ1,M1,e,?_⟩;cases o with
   |nx=>exact absurd e (hn σ1 M1)
   |_=>exact p
 .rintro ⟨o,σ1,M1,e1,p⟩;rw[e1];cases o with
  |nx=>exact p
  |_=>exact ⟨_,_,_,rfl,p⟩
def zA1 {c:FT}:OkS (sIf c f g σ M) P ↔ Ok (c σ M) λk M1=>if k then OkS (f σ M1) P else OkS (g σ M1) P:=by
 unfold sIf;constructor
 .rintro ⟨o,σ1,M1,e,p⟩;split at e
  .rename_i M2 e1;exact ⟨_,_,e1,by dsimp only;rw[zXS rfl];exact ⟨o,σ1,M1,e,p⟩⟩
  .rename_i M2 e1;exact ⟨_,_,e1,by simpa using ⟨o,σ1,M1,e,p⟩⟩
  .cases e
 .rintro ⟨x,M1,e1,p⟩;rw[e1];cases x with
  |true=>simpa using p
  |false=>simpa using p
def zBI {h:FE}:OkS (zAS h σ M) P ↔ Ok (h σ M) (zGx λd M1=>P (.ret d) σ M1):=by
 rw[<-zAY];unfold zAS;constructor
 .rintro ⟨o,σ1,M1,e,p⟩;split at e
  .rename_i d M2 e1;cases e;exact ⟨_,_,e1,p⟩
  .cases e
 .rintro ⟨x,M1,e1,p⟩;rw[e1];exact ⟨_,_,_,rfl,p⟩
def zT {i:Nat} {h:FE}:OkS (zq i h σ M) P ↔ Ok (h σ M) (zGx λd M1=>P .nx (σ.set i (some d)) M1):=by
 rw[<-zAY];unfold zq;constructor
 .rintro ⟨o,σ1,M1,e,p⟩;split at e
  .rename_i d M2 e1;cases e;exact ⟨_,_,e1,p⟩
  .cases e
 .rintro ⟨x,M1,e1,p⟩;rw[e1];exact ⟨_,_,_,rfl,p⟩
def zBC {h:FE}:OkS (zAk h σ M) P ↔ Ok (h σ M) λ_ M1=>P .nx σ M1:=by
 unfold zAk;constructor
 .rintro ⟨o,σ1,M1,e,p⟩;split at e
  .rename_i d M2 e1;cases e;exact ⟨_,_,e1,p⟩
  .cases e
 .rintro ⟨x,M1,e1,p⟩;rw[e1];exact ⟨_,_,_,rfl,p⟩
def zNm {v o i:FE}:OkS (zMV v o i σ M) P ↔ Ok (v σ M) (zGx λd M1=>Ok (o σ M1) λx M2=>Ok (i σ M2) (zGx λj M3=>∃ M4,zK5 x j d M3=some M4/\P .nx σ M4)):=by
 rw[<-zAY];unfold zMV;constructor
 .rintro ⟨o,σ1,M1,e,p⟩;split at e
  .rename_i d M2 e1;split at e
   .rename_i x M3 e2;split at e
    .rename_i j M4 e3;split at e
     .rename_i M5 e4;cases e;refine ⟨_,_,e1,_,_,e2,?_⟩;dsimp only;rw[<-zAY];exact ⟨_,_,e3,_,e4,p⟩
     .cases e
    .cases e
   .cases e
  .cases e
 .rintro ⟨d,M1,e1,x,M2,e2,p⟩;rw[<-zAY]at p;obtain ⟨j,M3,e3,M4,e4,p⟩:=p;rw[e1];dsimp only;rw[e2];dsimp only;rw[e3];dsimp only;rw[e4];exact ⟨_,_,_,rfl,p⟩
noncomputable def zAE {n:Nat} {ds:List D} {Q:D->Mem->Prop}:Ok (zBV n f ds M) Q ↔ OkS (f (ds.map some++List.replicate (n-ds.length) none) M) λo _ M1=>match o with|.ret d=>Q d M1|.nx=>Q .non M1|_=>False:=by
 unfold zBV;constructor
 .rintro ⟨o,M1,e,p⟩;split at e
  .rename_i d σ1 M2 e1;cases e;exact ⟨_,_,_,e1,p⟩
  .rename_i σ1 M2 e1;cases e;exact ⟨_,_,_,e1,p⟩
  .cases e
 .rintro ⟨o,σ1,M1,e1,p⟩;rw[e1];cases o with
  |ret d=>exact ⟨_,_,rfl,p⟩
  |nx=>exact ⟨_,_,rfl,p⟩
  |brk=>exact p.elim
  |cnt=>exact p.elim
theorem zDO {c:FT} {b:FS} (I:Nat->Sd->Mem->Prop) (hs:∀ m σ M,I m σ M->Ok (c σ M) λk M1=>if k then OkS (b σ M1) λo σ2 M2=>match o with|.nx=>∃ m',m'<m/\I m' σ2 M2|.cnt=>∃ m',m'<m/\I m' σ2 M2|.brk=>P .nx σ2 M2|.ret d=>P (.ret d) σ2 M2 else P .nx σ M1) :
  ∀ (n m:Nat) (σ:Sd) (M:Mem),m<n->I m σ M->OkS (zBf c b n σ M) P
 |0,m,σ,M,h,_=>absurd h (Nat.not_lt_zero _)
 |n+1,m,σ,M,h,hi=>by
  obtain ⟨k,M1,e,q⟩:=hs m σ M hi;unfold zBf;rw[e];cases k with
  |false=>exact ⟨_,_,_,rfl,by simpa using q⟩
  |true=>
   rw[zXS rfl]at q;obtain ⟨o,σ2,M2,e2,q⟩:=q;dsimp only;rw[e2];cases o with
   |nx=>obtain ⟨m',hm,q⟩:=q;exact zDO I hs n m' σ2 M2 (by omega) q
   |cnt=>obtain ⟨m',hm,q⟩:=q;exact zDO I hs n m' σ2 M2 (by omega) q
   |brk=>exact ⟨_,_,_,rfl,q⟩
   |ret d=>exact ⟨_,_,_,rfl,q⟩
theorem zAf {g:FG} {b:FS} {all:List D} {gd:Option (Mem->Prop)} (I:List D->Sd->Mem->Prop)
  (hs:∀ x r σ M,I (x::r) σ M->zBA gd all M /\ ∃ σ1,g x σ=some σ1/\OkS (b σ1 M) λo σ2 M2=>match o with|.nx=>I r σ2 M2|.cnt=>I r σ2 M2|.brk=>P .nx σ2 M2|.ret d=>P (.ret d) σ2 M2)
  (he:∀ σ M,I [] σ M->zBA gd all M/\P .nx σ M):∀ (xs:List D) (σ:Sd) (M:Mem),I xs σ M->OkS (zC3 g b all gd xs σ M) P
 |[],σ,M,hi=>by
  unfold zC3;obtain ⟨h1,h2⟩:=he σ M hi;rw[zXS h1];exact ⟨_,_,_,rfl,h2⟩
 |x::r,σ,M,hi=>by
  unfold zC3;obtain ⟨h1,σ1,e1,o,σ2,M2,e2,q⟩:=hs x r σ M hi;rw[zXS h1,e1];dsimp only;rw[e2];cases o with
  |nx=>exact zAf I hs he r σ2 M2 q
  |cnt=>exact zAf I hs he r σ2 M2 q
  |brk=>exact ⟨_,_,_,rfl,q⟩
  |ret d=>exact ⟨_,_,_,rfl,q⟩
def zAs {i:FI} {g:FG} {b:FS}:OkS (zBw i g b σ M) P ↔ ∃ xs gd M1,i σ M=some (xs,gd,M1)/\OkS (zC3 g b xs gd xs σ M1) P:=by
 unfold zBw;constructor
 .rintro ⟨o,σ1,M1,e,p⟩;split at e
  .rename_i xs gd M2 e1;exact ⟨_,_,_,e1,_,_,_,e,p⟩
  .cases e
 .rintro ⟨xs,gd,M1,e1,p⟩;rw[e1];exact p
theorem zBv {g:FG} {tc:FT} {te:FE} {all:List D} {gd:Option (Mem->Prop)} (I:List D->List D->Mem->Prop)
  (hs:∀ x r acc M,I (x::r) acc M->zBA gd all M /\ ∃ σ1,g x σ=some σ1/\Ok (tc σ1 M) λk M1=>if k then Ok (te σ1 M1) (zGx λd M2=>I r (acc++[d]) M2) else I r acc M1)
  {Q:List D->Mem->Prop} (he:∀ acc M,I [] acc M->zBA gd all M/\Q acc M):∀ (xs acc:List D) (M:Mem),I xs acc M->Ok (zA8 g tc te σ all gd xs M) λys M1=>Q (acc++ys) M1
 |[],acc,M,hi=>by
  unfold zA8;obtain ⟨h1,h2⟩:=he acc M hi;rw[zXS h1];exact ⟨_,_,rfl,by simpa using h2⟩
 |x::r,acc,M,hi=>by
  unfold zA8;obtain ⟨h1,σ1,e1,k,M1,e2,q⟩:=hs x r acc M hi;rw[zXS h1,e1];dsimp only;rw[e2];cases k with
  |false=>exact zBv I hs he r acc M1 (by simpa using q)
  |true=>
   rw[zXS rfl,<-zAY]at q;obtain ⟨d,M2,e3,q⟩:=q;dsimp only;rw[e3];obtain ⟨ys,M3,e4,p⟩:=zBv I hs he r (acc++[d]) M2 q;dsimp only;rw[e4];exact ⟨_,_,rfl,by simpa using p⟩
def zC0 {own:Yj} {i:FI} {g:FG} {tc:FT} {te:FE} {Q:EV->Mem->Prop}:Ok (zi own i g tc te σ M) Q ↔ ∃ xs gd M1,i σ M=some (xs,gd,M1)/\xs.length<=sizeLine/\Ok (zA8 g tc te (zBN own σ) xs gd xs M1) λys M2=>Q (.fl ys) M2:=by
 unfold zi;constructor
 .rintro ⟨o,M1,e,p⟩;split at e
  .rename_i xs gd M2 e1;split at e
   .rename_i hz;split at e
    .rename_i ys M3 e2;cases e;exact ⟨_,_,_,e1,hz,_,_,e2,p⟩
    .cases e
   .cases e
  .cases e
 .rintro ⟨xs,gd,M1,e1,hz,ys,M2,e2,p⟩;rw[e1];dsimp only;rw[zXS hz,e2];exact ⟨_,_,rfl,p⟩
def zCt {h:FE} {x:EV} {M1:Mem} {xs:List D} (e:h σ M=some (x,M1)) (e2:zAL M1 x=some xs):zu h σ M=some (xs,zCq x xs,M1):=by
 unfold zu;rw[e];dsimp only;rw[e2]
def zMa {a:FA} {M1:Mem} {j:Int} (e:a σ M=some ([.int j],M1)) (h1:0<=j) (h2:j<2 ^ 62):zAA a σ M=some ((List.range j.toNat).map λ(k:Nat)=>D.int k,none,M1):=by
 unfold zAA;rw[e];dsimp only;rw[zXS ⟨by omega,h2⟩]
end
section
variable {M:Mem} {P:EV->Mem->Prop} {i j:Int}
def zGA:Ok (zAI (.dat (.int i)) (.dat (.int j)) M) P ↔ P (.dat (.int (i+j))) M:=zAC
def zQA:Ok (zM3 (.dat (.int i)) (.dat (.int j)) M) P ↔ zPA i j=true/\P (.dat (.int (i*j))) M:=by
 unfold zM3 kI;dsimp only;split
 .rename_i h;rw[zAC];simp[h]
 .rename_i h;rw[zHF];simp[h]
def zTd:Ok (zDn (.dat (.int i)) (.dat (.int j)) M) P ↔ 0<j/\P (.dat (.int (i % j))) M:=by
 unfold zDn kI;dsimp only;split
 .rename_i h;rw[zAC];simp at h;simp[h]
 .rename_i h;rw[zHF];simp at h;simp;intro h';omega
def zTY:Ok (zMt (.dat (.int i)) (.dat (.int j)) M) P ↔ (0<j/\j<1073741824)/\P (.dat (.int (i / j))) M:=by
 unfold zMt kI;dsimp only;split
 .rename_i h;rw[zAC];simp at h;simp[h]
 .rename_i h;rw[zHF];simp at h;simp;intro h' h2;have:=h h';omega
def zWP:Ok (zOe (.dat (.int i)) (.dat (.int j)) M) P ↔ (0<=j/\j<=1000000/\i.natAbs<2 ^ 64)/\P (.dat (.int (i ^ j.toNat))) M:=by
 unfold zOe kI;dsimp only;split
 .rename_i h;rw[zAC];simp only[zXn,zYQ]at h;simp[h]
 .rename_i h;rw[zHF];simp only[zXn,zYQ,not_and]at h;simp only[false_iff,not_and];intro ⟨a,b,c⟩;exact absurd c (h ⟨a,b⟩)
def zVG:Ok (kLt (.dat (.int i)) (.dat (.int j)) M) P ↔ P (.dat (.bl (decide (i<j)))) M:=zAC
def zW8:Ok (kLe (.dat (.int i)) (.dat (.int j)) M) P ↔ P (.dat (.bl (decide (i<=j)))) M:=zAC
def zW1:Ok (kGe (.dat (.int i)) (.dat (.int j)) M) P ↔ P (.dat (.bl (decide (j<=i)))) M:=zAC
def zKt:Ok (kEq (.dat (.int i)) (.dat (.int j)) M) P ↔ P (.dat (.bl (decide (i=j)))) M:=by
 have:kEq (.dat (.int i)) (.dat (.int j)) M=some (.dat (.bl (decide (V.int i=V.int j))),M):=rfl;rw[this,zAC];simp
def zU4:Ok (kNe (.dat (.int i)) (.dat (.int j)) M) P ↔ P (.dat (.bl (decide (i≠j)))) M:=by
 have:kNe (.dat (.int i)) (.dat (.int j)) M=some (.dat (.bl (!decide (V.int i=V.int j))),M):=rfl;rw[this,zAC];simp
def zS4 {x:EV} {xs:List D} (h:zBa M x=some xs) (hx:∀ d,x=.dat d->zGY d=none):Ok (kNe x (.fl []) M) P ↔ P (.dat (.bl (!xs.isEmpty))) M:=by
 have e1:zLE true x (.fl []) M=none:=by cases x <;> rfl
 have e2:kNe x (.fl []) M=some (.dat (.bl (!xs.isEmpty)),M):=by
  unfold kNe kOr;rw[e1];unfold zOX;rw[h];rfl
 rw[e2,zAC]
def zR7 {x:EV} {xs:List D} {d:D} (h:zAL M x=some xs) (hd:atI xs i=some d) (p:P (.dat d) M):Ok (kIx x (.dat (.int i)) M) P:=by
 have:kIx x (.dat (.int i)) M=some (.dat d,M):=by unfold kIx;dsimp only;rw[h];dsimp only;rw[hd]
 rw[this,zAC];exact p
def zKQ {xs:List D} {k:Nat} {d:D} (h:xs[k]?=some d):atI xs (k:Int)=some d:=zNg h
def zKE {xs:List D} {i:Int} {d:D} (h0:0<=i) (h:xs[i.toNat]?=some d):atI xs i=some d:=by
 have:i=((i.toNat:Nat):Int):=by omega
 rw[this];exact zNg h
def zV3 {x:EV} {xs:List D} (h:zAL M x=some xs):Ok (zAX [x] M) P ↔ P (.dat (.int xs.length)) M:=by
 have:zAX [x] M=some (.dat (.int xs.length),M):=by unfold zAX;dsimp only;rw[h]
 rw[this,zAC]
def zKZ {x:EV} {xs:List D} (h:zAL M x=some xs):Ok (zA2 [x] M) P ↔ P (.dat (.tup xs)) M:=by
 have:zA2 [x] M=some (.dat (.tup xs),M):=by unfold zA2;dsimp only;rw[h]
 rw[this,zAC]
def zUn {x:EV} {xs:List D} {lo hi:Ys} (h:zBa M x=some xs) (ht:zCP x=none):Ok (kSl x lo hi M) P ↔ P (.fl (zDp xs lo hi)) M:=by
 have:kSl x lo hi M=some (.fl (zDp xs lo hi),M):=by unfold kSl;rw[ht];dsimp only;rw[h]
 rw[this,zAC]
def zj {xs:List D}:zAL M (.dat (.tup xs))=some xs:=rfl
def zDC {xs:List D}:zAL M (.fl xs)=some xs:=rfl
def zQ2 {xs:List D}:zBa M (.fl xs)=some xs:=rfl
def zAJ {n:Nat} {xs:List D} (h:M[n]?=some (.lst xs)):zBa M (.dat (.ref n))=some xs:=by unfold zBa;dsimp only;rw[h]
def zNc {n:Nat} {xs:List D} (h:M[n]?=some (.fro xs)):zBa M (.dat (.ref n))=some xs:=by unfold zBa;dsimp only;rw[h]
def za {n:Nat} {xs:List D} (h:M[n]?=some (.lst xs)):zAL M (.dat (.ref n))=some xs:=zAJ h
def zSD {n:Nat} {xs:List D} (h:M[n]?=some (.fro xs)):zAL M (.dat (.ref n))=some xs:=zNc h
def zBZ {n:Nat} {xs:List D} {d:D} {Q:D->Mem->Prop} (h:M[n]?=some (.lst xs)) (hz:xs.length<sizeLine):Ok (zr (.dat (.ref n)) [d] M) Q ↔ Q .non (M.set n (.lst (xs++[d]))):=by
 have:zr (.dat (.ref n)) [d] M=some (.non,M.set n (.lst (xs++[d]))):=by unfold zr;dsimp only;rw[h];dsimp only;rw[zXS hz]
 rw[this,zAC]
def zTr {n:Nat} {x:D} {xs:List D} {Q:D->Mem->Prop} (h:M[n]?=some (.lst (x::xs))):Ok (zIb (.dat (.ref n)) [.int 0] M) Q ↔ Q x (M.set n (.lst xs)):=by
 have:zIb (.dat (.ref n)) [.int 0] M=some (x,M.set n (.lst xs)):=by
  unfold zIb;dsimp only;rw[h];dsimp only;have e:ixN (x::xs).length 0=some 0:=by unfold ixN;rw[zXS (by omega),zXS (by simp)];rfl
  rw[e];dsimp only[List.getElem?_cons_zero];rw[zXS (by decide)];rfl
 rw[this,zAC]
def zK0 {n k:Nat} {xs:List D} {d:D} (h:M[n]?=some (.lst xs)) (hk:k<xs.length):zK5 (.dat (.ref n)) (.int k) d M=some (M.set n (.lst (xs.set k d))):=by
 unfold zK5;dsimp only;rw[h];dsimp only;have e:ixN xs.length (k:Int)=some k:=by unfold ixN;rw[zXS (by omega),zXS (by omega)];simp
 rw[e]
end
def zFn {m:FF} {ds:List D} {M:Mem} {Q:D->Mem->Prop} (h:Ok (m ds M) λd M1=>(D.und M.length d=true/\M.length<=M1.length /\ ∀ (j:Nat) u,j<M.length->M1[j]?=some u->MO.und M.length u=true)/\Q d (M1.take M.length)):Ok (zFd m ds M) Q:=by
 obtain ⟨d,M1,e,⟨h1,h2,h3⟩,q⟩:=h;unfold zFd;rw[e];dsimp only;rw[zXS]
 .exact ⟨_,_,rfl,q⟩
 .simp only[zXn,zYQ,zXo];refine ⟨⟨h1,λu hu=>?_⟩,h2⟩;obtain ⟨j,hj⟩:=List.getElem?_of_mem hu;have hlt:j<M.length:=by
   have:=(zXG.mp hj).1;rw[zYb]at this;omega
  rw[List.getElem?_take_of_lt hlt]at hj;exact h3 j u hlt hj
def zJ2 {m:FF} {ds:List D} {M:Mem} {Q:D->Mem->Prop} (h0:D.unds 0 ds=true) (h:Ok (m ds []) λd _=>D.und 0 d=true/\Q d M):Ok (zHU m ds M) Q:=by
 obtain ⟨d,M1,e,h1,q⟩:=h;unfold zHU;rw[zXS h0,e];dsimp only;rw[zXS h1];exact ⟨_,_,rfl,q⟩
section
variable {prog:Ym} {w:Yo} {A:Yn} {E:Yc} {s:Yl}
def TIt.but (x:h.IsTupleIter a t i) (hs:Heap.ExtBut b h h') (n:a≠b):h'.IsTupleIter a t i:=x.extBut hs n
def Tup.but (x:h.IsTuple a its) (hs:Heap.ExtBut b h h') (n:a≠b):h'.IsTuple a its:=x.extBut hs n
def zCc (I:s.heap.IsTupleIter it t i) (T:s.heap.IsTuple t its) (hx:its[i]?=some x)
  (q:∀ h',h'.IsTupleIter it t (i+1)->Heap.SameBut it s.heap h'->Q x { s with heap:=h' }):wpAny (model prog w) A (Builtin.SmallTypes.nextOf (.ref it)) Q E s:=by
 obtain ⟨o,O,C,FD⟩:=id I;obtain ⟨u,U,_,m,G⟩:=T;unfold Builtin.SmallTypes.nextOf;refine zXD (zXp (name:=Str.ofString "__next__") I.typeIs PySem.F.slot_tuple_iterator_next (zXq PySem.F.slot_tuple_iterator_next I.typeIs PySem.F.entry_tuple_iterator_next ?_ (PySem.F.args_tuple_iterator_next_1 _)));refine zXD (m:=field (.ref it) 0) (zXs O FD (x:=.ref t) rfl ?_);rw[zXV (show ¬ ((Value.ref t==Value.none)=true) by exact zXZ)];refine zXD (m:=field (.ref it) 1) (zXs O FD (x:=.int i 0) rfl ?_);refine zXD (m:=seqItems? (.ref t)) (zX3 U G ?_);simp only[hx,Int.toNat_natCast];refine zXD (wpAny_setField O FD (by simp) (zXF ⟨x,rfl,zXF (q _ ⟨_,zX0 _ O (Obj.isFreed_of_fields (zYU FD _)),(Obj.cls_mapFields ..).trans C,?_⟩ (zYG ..))⟩));rw[zYU FD];simp[rawInt]
def zDS (hh:A.handled=none) (I:s.heap.IsTupleIter it t i) (T:s.heap.IsTuple t its) (hx:its[i]?=none)
  (q:∀ h' e,Heap.ExtBut it s.heap h'->(∃ o,h'.get? e=some o/\o.cls=.type "StopIteration")->E (.ref e) { s with heap:=h' }):wpAny (model prog w) A (Builtin.SmallTypes.nextOf (.ref it)) Q E s:=by
 obtain ⟨o,O,C,FD⟩:=id I;obtain ⟨u,U,_,m,G⟩:=T;unfold Builtin.SmallTypes.nextOf;refine zXD (zXp (name:=Str.ofString "__next__") I.typeIs PySem.F.slot_tuple_iterator_next (zXq PySem.F.slot_tuple_iterator_next I.typeIs PySem.F.entry_tuple_iterator_next ?_ (PySem.F.args_tuple_iterator_next_1 _)));refine zXD (m:=field (.ref it) 0) (zXs O FD (x:=.ref t) rfl ?_);rw[zXV (show ¬ ((Value.ref t==Value.none)=true) by exact zXZ)];refine zXD (m:=field (.ref it) 1) (zXs O FD (x:=.int i 0) rfl ?_);refine zXD (m:=seqItems? (.ref t)) (zX3 U G ?_);simp only[hx,Int.toNat_natCast];refine zXD (zYa (zXD (wpAny_setField O FD (by simp) ?_)));refine zXD (m:=newExc (.type "StopIteration") []) ?_;simp only[newTuple,newExc];refine zXD (zXg (zXD (m:=firstArgMember _ _) (wpAny_of_eq (a:=Value.none) (by first|rfl|(simp only[firstArgMember];rfl)) (zXg ?_ (by size_fits)))) (by size_fits));simp only[raiseNew];refine zXD (wpAny_handled ?_);first|rw[hh]|rw[show A.in1.handled=none from hh]
 exact zXD (zXF (wpAny_throw (q _ _ (((zYG ..).extBut.push _).push _) ⟨_,zXN _ rfl,rfl⟩)))
structure ZipT (h:Heap) (z TI TO i1 i2 t1 t2:Yt) (f:Yu) (k1 k2:Nat):Prop where
 z:IsZip h z TI TO f
 ti:IsPair h TI (.ref i1) (.ref i2)
 to:∃ a b,IsPair h TO a b
 a:h.IsTupleIter i1 t1 k1
 b:h.IsTupleIter i2 t2 k2
def zPT {z TI TO i1 i2 t1 t2:Yt} {k:Nat} {xs ys:Yp} {x y:Yu} {Q:Option Value->Shared->Prop} (D:ZipApart z TI TO i1 i2 t1 t2) (Z:ZipT s.heap z TI TO i1 i2 t1 t2 .none k k)
  (T1:s.heap.IsTuple t1 xs) (T2:s.heap.IsTuple t2 ys) (hx:xs[k]?=some x) (hy:ys[k]?=some y)
  (q:∀ h',ZipT h' z TI TO i1 i2 t1 t2 (rawInt s.heap.objs.size) (k+1) (k+1)->IsPair h' s.heap.objs.size x y ->
   (∀ c o,c∉[z,TO,i1,i2]->s.heap.get? c=some o->h'.get? c=some o)->Q (some (.ref s.heap.objs.size)) { s with heap:=h' }):wpAny (model prog w) A (pyNext (.ref z)) Q E s:=by
 obtain ⟨Z0,P0,⟨a,b,O0⟩,I1,I2⟩:=Z;have ty:s.TypeIs (.ref z) "zip" := ⟨_,Z0,rfl⟩;unfold pyNext;refine zXD (wpAny_attempt (zXp (name:=Str.ofString "__next__") ty zYr (zXq zYr ty PySem.F.entry_zip_next ?_ (PySem.F.args_zip_next_1 _))));refine zXD (m:=field (.ref z) 2) (zXs Z0 rfl (x:=.bool false) rfl ?_);refine zXD (m:=field (.ref z) 3) (zXs Z0 rfl (x:=.ref TI) rfl ?_);refine zXD (zX3 P0 rfl ?_);refine zXD (m:=Builtin.SmallTypes.ownedTupleIsFree (.ref z)) ?_;unfold Builtin.SmallTypes.ownedTupleIsFree;refine zXD (zXs Z0 rfl (x:=.none) rfl (zXF ?_));simp only[if_true];refine zXD (zYa (zXD (zXs Z0 rfl (x:=.ref TO) rfl (zXD (zYT Z0 (by simp) λh1 Z1 e1=>?_)))));replace Z1:IsZip h1 z TI TO .ellipsis:=Z1;refine zXD ?_;simp only[List.forIn_cons,List.forIn_nil,List.zipIdx_cons,List.zipIdx_nil];refine zXD (zXD (zZD (zXD (m:=Builtin.SmallTypes.nextOf (.ref i1)) (zCc (TIt.but I1 e1.extBut D.i1z) (Tup.but T1 e1.extBut D.l1z) hx λh2 J1 e2=>zXF ?_))));have O2:IsPair h2 TO a b:=e2.extBut _ _ D.TOi1 (e1.extBut _ _ D.TOz O0);refine zXD (zX3 O2 rfl (zXD (wpAny_updateSeq_pair O2 λh3 O3 e3=>zXD (wpAny_letGo (zXF ?_)))));replace O3:IsPair h3 TO x b:=O3
 refine zXD (zXD (zZD (zXD (m:=Builtin.SmallTypes.nextOf (.ref i2)) (zCc (TIt.but (TIt.but (TIt.but I2 e1.extBut D.i2z) e2.extBut D.i12.symm) e3.extBut D.TOi2.symm)
  (Tup.but (Tup.but (Tup.but T2 e1.extBut D.l2z) e2.extBut D.l2i1) e3.extBut D.l2TO) hy λh4 J2 e4=>zXF ?_))))
 have O4:IsPair h4 TO x b:=e4.extBut _ _ D.TOi2 O3;refine zXD (zX3 O4 rfl (zXD (wpAny_updateSeq_pair O4 λh5 O5 e5=>zXD (wpAny_letGo (zXF (zXF ?_))))));replace O5:IsPair h5 TO x y:=O5;refine zXD (zX3 O5 rfl (zXD (wpAny_newTuple ?_)));have sz:h5.objs.size=s.heap.objs.size:=by rw[e5.1,e4.1,e3.1,e2.1,e1.1]
 have Z5:IsZip h5 z TI TO .ellipsis:=e5.extBut _ _ D.TOz.symm (e4.extBut _ _ D.i2z.symm (e3.extBut _ _ D.TOz.symm (e2.extBut _ _ D.i1z.symm Z1)));have kp:∀ c o,c∉[z,TO,i1,i2]->s.heap.get? c=some o->h5.get? c=some o:=λc o n e=>by
  simp only[zXP,zXi,zYY,not_or]at n;obtain ⟨n1,n2,n3,n4⟩:=n;exact e5.extBut _ _ n2 (e4.extBut _ _ n4 (e3.extBut _ _ n2 (e2.extBut _ _ n3 (e1.extBut _ _ n1 e))))
 have A5:h5.IsTupleIter i1 t1 (k+1):=TIt.but (TIt.but (TIt.but J1 e3.extBut D.TOi1.symm) e4.extBut D.i12) e5.extBut D.TOi1.symm;have B5:h5.IsTupleIter i2 t2 (k+1):=TIt.but J2 e5.extBut D.TOi2.symm;have zl:z<h5.objs.size:=zXO Z5;refine zXD (m:=Builtin.SmallTypes.ownedTupleHandOut (.ref z) (.ref h5.objs.size)) ?_;unfold Builtin.SmallTypes.ownedTupleHandOut;have Z6:IsZip (h5.push { cls:=.type "tuple", data:=.seq #[x,y] }) z TI TO .ellipsis:=zXE _ Z5;refine zXD (zYT Z6 (by simp) λh7 Z7 e7=>?_);replace Z7:IsZip h7 z TI TO (rawInt h5.objs.size):=Z7;refine zYT Z7 (by simp) λh8 Z8 e8=>?_;replace Z8:IsZip h8 z TI TO (rawInt h5.objs.size):=Z8;have up:∀ c o,c≠z->h5.get? c=some o->h8.get? c=some o:=λc o n e=>e8.extBut _ _ n (e7.extBut _ _ n (zXE _ e));have N8:IsPair h8 h5.objs.size x y:=e8.extBut _ _ (zYi zl) (e7.extBut _ _ (zYi zl) (zXN _ rfl));rw[sz]at Z8 N8;refine zXF ⟨_,rfl,?_⟩;rw[sz];refine zXF (q h8 ⟨Z8,up _ _ D.TIz (kp _ _ (by simp[D.TIz,D.TITO,D.TIi1,D.TIi2]) P0),⟨_,_,up _ _ D.TOz O5⟩,?_,?_⟩ N8 λc o n e=>up c o (λm=>n (by simp[m])) (kp c o n e))
 .obtain ⟨o,e,r⟩:=A5;exact ⟨o,up _ _ D.i1z e,r⟩
 .obtain ⟨o,e,r⟩:=B5;exact ⟨o,up _ _ D.i2z e,r⟩
def zP5 {z TI TO i1 i2 t1 t2:Yt} {k:Nat} {xs ys:Yp} {Q:Option Value->Shared->Prop} (hh:A.handled=none) (D:ZipApart z TI TO i1 i2 t1 t2) (Z:ZipT s.heap z TI TO i1 i2 t1 t2 .none k k)
  (T1:s.heap.IsTuple t1 xs) (T2:s.heap.IsTuple t2 ys) (he:xs[k]?=none\/ys[k]?=none)
  (q:∀ h',(∀ c o,c∉[z,TO,i1,i2]->s.heap.get? c=some o->h'.get? c=some o)->Q none { s with heap:=h' }):wpAny (model prog w) A (pyNext (.ref z)) Q E s:=by
 obtain ⟨Z0,P0,⟨a,b,O0⟩,I1,I2⟩:=Z;have ty:s.TypeIs (.ref z) "zip" := ⟨_,Z0,rfl⟩
 have stop:∀ (e:Addr) (h':Heap),(∀ c o,c∉[z,TO,i1,i2]->s.heap.get? c=some o->h'.get? c=some o)->(∃ o,h'.get? e=some o/\o.cls=.type "StopIteration") ->
   wpAny (model prog w) A (do if (<- isInstance (.ref e) (.type "StopIteration")) then pure none else throw (.ref e):Sem (Option Value)) Q E { s with heap:=h' }:=λe h' k1 ⟨o,e1,e2⟩=>
  zXD (wpAny_isInstance (T := "StopIteration") (b:=true) ⟨o,e1,e2⟩ isSubtype_stop (zXF (q h' k1)))
 unfold pyNext;refine zXD (wpAny_attempt (zXp (name:=Str.ofString "__next__") ty zYr (zXq zYr ty PySem.F.entry_zip_next ?_ (PySem.F.args_zip_next_1 _))));refine zXD (m:=field (.ref z) 2) (zXs Z0 rfl (x:=.bool false) rfl ?_);refine zXD (m:=field (.ref z) 3) (zXs Z0 rfl (x:=.ref TI) rfl ?_);refine zXD (zX3 P0 rfl ?_);refine zXD (m:=Builtin.SmallTypes.ownedTupleIsFree (.ref z)) ?_;unfold Builtin.SmallTypes.ownedTupleIsFree;refine zXD (zXs Z0 rfl (x:=.none) rfl (zXF ?_));simp only[if_true];refine zXD (zYa (zXD (zXs Z0 rfl (x:=.ref TO) rfl (zXD (zYT Z0 (by simp) λh1 Z1 e1=>?_)))));replace Z1:IsZip h1 z TI TO .ellipsis:=Z1;refine zXD ?_;simp only[List.forIn_cons,List.forIn_nil,List.zipIdx_cons,List.zipIdx_nil];cases hx:xs[k]? with
 |none=>
  refine zXD (zXD (zZD (zXD (m:=Builtin.SmallTypes.nextOf (.ref i1)) (zDS hh (TIt.but I1 e1.extBut D.i1z) (Tup.but T1 e1.extBut D.l1z) hx λh2 e e2 he=>?_))));obtain ⟨oe,o1,o2⟩:=he;have Z2:IsZip h2 z TI TO .ellipsis:=e2 _ _ D.i1z.symm Z1;have ne:e≠z:=λm=>by subst m;rw[Z2]at o1;cases o1;simp at o2
  refine zYT Z2 (by simp) λh3 _ e3=>stop e h3 (λc o n x=>?_) ⟨oe,e3.extBut _ _ ne o1,o2⟩;simp only[zXP,zXi,zYY,not_or]at n;exact e3.extBut _ _ n.1 (e2 _ _ n.2.2.1 (e1.extBut _ _ n.1 x))
 |some x=>
  have hy:ys[k]?=none:=by
   rcases he with m|m
   .rw[hx]at m;cases m
   .exact m
  refine zXD (zXD (zZD (zXD (m:=Builtin.SmallTypes.nextOf (.ref i1)) (zCc (TIt.but I1 e1.extBut D.i1z) (Tup.but T1 e1.extBut D.l1z) hx λh2 J1 e2=>zXF ?_))));have O2:IsPair h2 TO a b:=e2.extBut _ _ D.TOi1 (e1.extBut _ _ D.TOz O0);refine zXD (zX3 O2 rfl (zXD (wpAny_updateSeq_pair O2 λh3 O3 e3=>zXD (wpAny_letGo (zXF ?_)))))
  refine zXD (zXD (zZD (zXD (m:=Builtin.SmallTypes.nextOf (.ref i2)) (zDS hh (TIt.but (TIt.but (TIt.but I2 e1.extBut D.i2z) e2.extBut D.i12.symm) e3.extBut D.TOi2.symm)
   (Tup.but (Tup.but (Tup.but T2 e1.extBut D.l2z) e2.extBut D.l2i1) e3.extBut D.l2TO) hy λh4 e e4 he=>?_))))
  obtain ⟨oe,o1,o2⟩:=he;have Z4:IsZip h4 z TI TO .ellipsis:=e4 _ _ D.i2z.symm (e3.extBut _ _ D.TOz.symm (e2.extBut _ _ D.i1z.symm Z1));have ne:e≠z:=λm=>by subst m;rw[Z4]at o1;cases o1;simp at o2
  refine zYT Z4 (by simp) λh5 _ e5=>stop e h5 (λc o n x=>?_) ⟨oe,e5.extBut _ _ ne o1,o2⟩;simp only[zXP,zXi,zYY,not_or]at n;exact e5.extBut _ _ n.1 (e4 _ _ n.2.2.2 (e3.extBut _ _ n.2.1 (e2.extBut _ _ n.2.2.1 (e1.extBut _ _ n.1 x))))
abbrev zT1 (h:Heap) (a:Addr):Heap:=h.push { cls:=.type "tuple_iterator", data:=.fields #[.ref a,.int 0 0] }
abbrev zT2 (h:Heap) (a b:Yt):Heap:=zT1 (zT1 h a) b
abbrev zT3 (h:Heap) (a b:Addr):Heap:=(zT2 h a b).push { cls:=.type "tuple", data:=.seq #[.ref h.objs.size,.ref (zT1 h a).objs.size] }
abbrev zT4 (h:Heap) (a b:Addr):Heap:=(zT3 h a b).push { cls:=.type "tuple", data:=.seq #[.none,.none] }
abbrev zT5 (h:Heap) (a b:Addr):Heap:=(zT4 h a b).push { cls:=.type "zip", data:=.fields #[.none,.bool false,.bool false,.ref (zT2 h a b).objs.size,.ref (zT3 h a b).objs.size] }
def zMe (a b:Addr) (xs ys:Array Value):Meets (Builtin.«zip.__new__» ⟨[.type "zip", .ref a,.ref b],[]⟩) (λ_ R s=>s.heap.IsTuple a xs/\s.heap.IsTuple b ys/\R (.ok (.ret (.ref (zT4 s.heap a b).objs.size))) { s with heap:=zT5 s.heap a b }) :=
 .of_wp λprog w A R s h=>by
  obtain ⟨hp,g,d,tk,os⟩:=s;obtain ⟨Ta,Tb,h⟩:=h;have sz:=sub_zip;have U1:Heap.IsTuple (Shared.heap ⟨hp,g,d,tk,os⟩) a xs:=Ta;have U2:Heap.IsTuple (Shared.heap ⟨hp.push { cls:=.type "tuple_iterator", data:=.fields #[.ref a,.int 0 0] },g,d,tk,os⟩) b ys:=Heap.IsTuple.push Tb _;wp_walk using wpAny_pyIter_tuple U1,wpAny_pyIter_tuple U2;exact ⟨_,rfl,h⟩
def zQf (Ta:s.heap.IsTuple a xs) (Tb:s.heap.IsTuple b ys)
  (h:∀ h',ZipT h' (s.heap.objs.size+4) (s.heap.objs.size+2) (s.heap.objs.size+3) s.heap.objs.size (s.heap.objs.size+1) a b .none 0 0->(∀ c o,s.heap.get? c=some o->h'.get? c=some o)->Q (.ref (s.heap.objs.size+4)) { s with heap:=h' }) :
  wpAny (model prog w) A (call (.type "zip") [.ref a,.ref b]) Q E s:=by
 refine callType_new PySem.F.called_zip (by decide) (PySem.F.typeCall_zip_2 _ _) (PySem.F.newCall_zip_2 _ _) (λobj=>PySem.F.args_object_init_3 obj _ _) PySem.F.entry_zip_new (zMe a b xs ys) ⟨Ta,Tb,?_⟩;have q1:(zT1 s.heap a).objs.size=s.heap.objs.size+1:=zXt ..;have q2:(zT2 s.heap a b).objs.size=s.heap.objs.size+2:=by rw[zXt,q1]
 have q3:(zT3 s.heap a b).objs.size=s.heap.objs.size+3:=by rw[zXt,q2]
 have q4:(zT4 s.heap a b).objs.size=s.heap.objs.size+4:=by rw[zXt,q3]
 have u:∀ {h:Heap} {c:Yt} {o p:Obj},h.get? c=some o->(h.push p).get? c=some o:=λe=>zXE _ e;have p5:(zT5 s.heap a b).get? (zT4 s.heap a b).objs.size=some _:=zXN _ rfl;have p4:(zT5 s.heap a b).get? (zT3 s.heap a b).objs.size=some _:=u (zXN _ rfl);have p3:(zT5 s.heap a b).get? (zT2 s.heap a b).objs.size=some _:=u (u (zXN _ rfl));have p2:(zT5 s.heap a b).get? (zT1 s.heap a).objs.size=some _:=u (u (u (zXN _ rfl)));have p1:(zT5 s.heap a b).get? s.heap.objs.size=some _:=u (u (u (u (zXN _ rfl))));rw[q2,q3,q4]at p5;rw[q1,q2]at p3;rw[q3]at p4;rw[q1]at p2;rw[q4];exact ⟨⟨_,p5,rfl⟩,h _ ⟨p5,p3,⟨_,_,p4⟩,⟨_,p1,rfl,rfl⟩,⟨_,p2,rfl,rfl⟩⟩ λc o x=>u (u (u (u (u x))))⟩
end
def zEX {X:Cx} {zB:Yd} {σ:L2.St} {H:Hp} {s:Yl} {h':Heap} {t':Nat} {ch:Yg} {T:Yt} {o:HO} (I:Inv X zB σ H s) (hf:∀ b∈ch,zCC X zB H b)
  (k:∀ b u,b∉ch->s.heap.get? b=some u->h'.get? b=some u) (hT:s.heap.objs.size<=T) (new:zAV X.prog X.w (upd H T o) h' T o):Inv X zB σ (upd H T o) { s with heap:=h',toks:=t' }:=by
 have hn:H T=none:=I.hok.fresh hT;have nch:∀ b u,H b=some u->b∉ch:=λb u e z=>by rw[(hf b z).1]at e;cases e
 have un:∀ b u,H b=some u->upd H T o b=some u:=λb u e=>by rw[zZ (zAF e hn)];exact e
 refine I.step (g':=s.gens) (d':=s.drawn) (ch:=ch) (λb hb=>⟨(hf b hb).2.2.2.1,(hf b hb).2.1,(hf b hb).2.2.2.2.1,(hf b hb).2.2.2.2.2⟩) (λb u _ _ hc e _=>k b u hc e) (λb u _ _ hc e _=>⟨u.slots,k b u hc e⟩)
  (λb u _ e n=>by rw[zZ (λz=>by rw[z]at e;exact absurd (zXO e) (Nat.not_lt.mpr hT))];exact n) (λb u hc e=>⟨u,k b u hc e⟩) (λb xs e=>un b _ e) (λb p u e=>un b _ e) (λb ps e=>⟨#[],by rw[un b _ e];simp⟩) (λm hm=>?_) (λb u e=>?_) I.bare
 .obtain ⟨p,es,ep,ho,r⟩:=hm;exact ⟨p,es,ep,k _ p (λz=>(hf _ z).2.1 rfl) ho,r⟩
 .by_cases hb:b=T
  .subst hb;rw[zAB]at e;cases e;exact new
  .rw[zZ hb]at e;refine (I.hok b u e).stay (λc v hc q=>k c v ?_ q) (λc q=>un c _ q) λc xs q=>un c _ q;rcases hc with z|z
   .rw[z];exact nch b u e
   .exact nch c _ z
def zDL {X:Cx} {zB:Yd} {σ:L2.St} {H:Hp} {s:Yl} {h':Heap} {t':Nat} {ch:Yg} (I:Inv X zB σ H s) (hf:∀ b∈ch,zCC X zB H b)
  (k:∀ b u,b∉ch->s.heap.get? b=some u->h'.get? b=some u):Inv X zB σ H { s with heap:=h',toks:=t' }:=by
 have nch:∀ b u,H b=some u->b∉ch:=λb u e z=>by rw[(hf b z).1]at e;cases e
 refine I.step (g':=s.gens) (d':=s.drawn) (ch:=ch) (λb hb=>⟨(hf b hb).2.2.2.1,(hf b hb).2.1,(hf b hb).2.2.2.2.1,(hf b hb).2.2.2.2.2⟩) (λb u _ _ hc e _=>k b u hc e) (λb u _ _ hc e _=>⟨u.slots,k b u hc e⟩)
  (λb u _ e n=>n) (λb u hc e=>⟨u,k b u hc e⟩) (λb xs e=>e) (λb p u e=>e) (λb ps e=>⟨#[],by rw[e];simp⟩) (λm hm=>?_) (λb u e=>?_) I.bare
 .obtain ⟨p,es,ep,ho,r⟩:=hm;exact ⟨p,es,ep,k _ p (λz=>(hf _ z).2.1 rfl) ho,r⟩
 .refine (I.hok b u e).stay (λc v hc q=>k c v ?_ q) (λc q=>q) λc xs q=>q;rcases hc with z|z
  .rw[z];exact nch b u e
  .exact nch c _ z
noncomputable def Itz (K:Yb) (a b:Yt):It :=
 ⟨λi H=>∃ xs ys x y,SqT K H a xs/\SqT K H b ys/\xs[i]?=some x/\ys[i]?=some y,
  λi H v H'=>∃ T x y,v=.ref T/\H T=none/\H'=upd H T (.tup [x,y])/\(∀ xs,SqT K H a xs->xs[i]?=some x) /\ ∀ ys,SqT K H b ys->ys[i]?=some y,
  λi H=>∃ xs ys,SqT K H a xs/\SqT K H b ys/\(xs.length<=i\/ys.length<=i)⟩
def zOE {P:Ym} {w:Yo} {K:Yb} {es:Yi} {ek:Nat} {ep:Pos} {z TI TO i1 i2 a b:Yt} (D:ZipApart z TI TO i1 i2 a b) :
  Turn P w K (.Tuple es ek ep) (Itz K a b) [z,TI,TO,i1,i2] z (λi h=>ZipT h z TI TO i1 i2 a b .none i i) where
 mem:=by simp
 obj:=λi h Z c hc=>by
  obtain ⟨Z0,P0,⟨x,y,O0⟩,⟨o1,e1,_,d1⟩,⟨o2,e2,_,d2⟩⟩:=Z;simp only[zXP,zXi,zYY]at hc;rcases hc with rfl|rfl|rfl|rfl|rfl
  .exact ⟨_,Z0,λv m=>by cases m⟩
  .exact ⟨_,P0,λv m=>by cases m⟩
  .exact ⟨_,O0,λv m=>by cases m⟩
  .exact ⟨_,e1,λv m=>by rw[d1]at m;cases m⟩
  .exact ⟨_,e2,λv m=>by rw[d2]at m;cases m⟩
 keep:=λi h h' Z k=>by
  obtain ⟨Z0,P0,⟨x,y,O0⟩,⟨o1,e1,r1⟩,⟨o2,e2,r2⟩⟩:=Z;exact ⟨k z (by simp) _ Z0,k TI (by simp) _ P0,⟨x,y,k TO (by simp) _ O0⟩,⟨o1,k i1 (by simp) _ e1,r1⟩,⟨o2,k i2 (by simp) _ e2,r2⟩⟩
 item:=by
  intro X hP hw hK hc i zB s σ H E I hf Z hg;subst hP hw hK;obtain ⟨xs,ys,x,y,sa,sb,hx,hy⟩:=hg;obtain ⟨its,rv,p1,z1⟩:=I.tuple sa;obtain ⟨its2,rv2,p2,z2⟩:=I.tuple sb;obtain ⟨u,hu,ru⟩:=rv.get hx;obtain ⟨u2,hu2,ru2⟩:=rv2.get hy;refine zPT D Z (show s.heap.IsTuple a its.toArray from p1) (show s.heap.IsTuple b its2.toArray from p2) (x:=u) (y:=u2) (by simpa using hu) (by simpa using hu2) λh' Z' N' kp=>⟨_,rfl,?_⟩;refine wpAny_letOwnedTupleGo_zip Z'.z λh2 Z2 e2=>?_;have hch:∀ c∈[z,TO,i1,i2],zCC X zB H c:=λc hm=>hf c (by
   simp only[zXP,zXi,zYY]at hm ⊢;rcases hm with q|q|q|q <;> simp[q])
  have kk:∀ c o,c∉[z,TO,i1,i2]->s.heap.get? c=some o->h2.get? c=some o:=λc o n e=>e2.extBut _ _ (λm=>n (by simp[m])) (kp c o n e);have zlt:z<s.heap.objs.size:=zXO Z.z;have NT:IsPair h2 s.heap.objs.size u u2:=e2.extBut _ _ (zYi zlt) N';have hfr:H s.heap.objs.size=none:=I.hok.fresh (zXJ _);refine ⟨.ref s.heap.objs.size,upd H s.heap.objs.size (.tup [x,y]),zEX (s:=s) (h':=h2) (t':=s.toks) I hch kk (zXJ _) ?_,rfl,⟨_,x,y,rfl,hfr,rfl,λws hw=>?_,λws hw=>?_⟩,?_,λc hm=>?_⟩
  .exact ⟨by show 2<=sizeLine;decide,[u,u2],.cons ru (.cons ru2 .nil),⟨_,NT,rfl,⟨_,rfl⟩,rfl⟩⟩
  .rw[I.tuple_inj hw sa];exact hx
  .rw[I.tuple_inj hw sb];exact hy
  .obtain ⟨_,P1,⟨q1,q2,O1⟩,⟨o1,f1,r1⟩,⟨o2,f2,r2⟩⟩:=Z';exact ⟨Z2,e2.extBut _ _ D.TIz P1,⟨q1,q2,e2.extBut _ _ D.TOz O1⟩,⟨o1,e2.extBut _ _ D.i1z f1,r1⟩,⟨o2,e2.extBut _ _ D.i2z f2,r2⟩⟩
  .have lt:c<s.heap.objs.size:=by
    obtain ⟨Z0,P0,⟨q1,q2,O0⟩,⟨o1,f1,_⟩,⟨o2,f2,_⟩⟩:=Z;simp only[zXP,zXi,zYY]at hm;rcases hm with rfl|rfl|rfl|rfl|rfl
    .exact zXO Z0
    .exact zXO P0
    .exact zXO O0
    .exact zXO f1
    .exact zXO f2
   rw[zZ (zXY lt)];exact (hf c hm).1
 done:=by
  intro X hP hw hK hc i zB s σ H E I hf Z hg;subst hP hw hK;obtain ⟨xs,ys,sa,sb,hz⟩:=hg;obtain ⟨its,rv,p1,z1⟩:=I.tuple sa;obtain ⟨its2,rv2,p2,z2⟩:=I.tuple sb;have l1:=rv.length;have l2:=rv2.length;refine zP5 (I.ok.hd hc) D Z (show s.heap.IsTuple a its.toArray from p1) (show s.heap.IsTuple b its2.toArray from p2) ?_ λh' kp=>⟨rfl,zDL (s:=s) (h':=h') (t':=s.toks) I (λc hm=>hf c (by
   simp only[zXP,zXi,zYY]at hm ⊢;rcases hm with q|q|q|q <;> simp[q])) kp⟩
  rcases hz with q|q
  .exact .inl (by simp;omega)
  .exact .inr (by simp;omega)
 self:=λ_ _ _ _ _ Z h=>wpAny_pyIter_zip Z.z h
section
variable {X:Cx} {a b:Expr} {es:Yi} {ek:Nat} {ep p pos:Pos}
noncomputable def zVC {ta:TA} (hg:Gl X "zip") (hm:X.mg "zip" = none) (ha:PA X [a,b] ta) (hs:starEach [a,b] X.env=[(false,eval a X.env),(false,eval b X.env)]:=by rfl) (hs2:starEach [b] X.env=[(false,eval b X.env)]:=by rfl) :
  PI X (.Tuple es ek ep) (.Call (.Name "zip" p) [a,b] [] pos) (λσ H R=>ta σ H λvs H1=>∃ l1 l2 xs ys,vs=[.ref l1,.ref l2]/\SqT X.K H1 l1 xs/\SqT X.K H1 l2 ys/\R (Itz X.K l1 l2) H1):=by
 intro zB s σ H R I h;refine Call_ (zDj I hg hm (by rfl) (PyProof.Rows.callWith_type1 (thn (ha pos zB s σ H _ I h) λus s1 ⟨vs,H1,I1,r1,q1⟩=>?_) (by rw[hs,hs2]) (by rw[hs2];rfl)));obtain ⟨l1,l2,xs,ys,rfl,s1',s2',q⟩:=q1;cases r1 with
 |cons r rr=>
  cases rr with
  |cons r' rr=>
   cases rr;cases r;cases r';obtain ⟨its,rv,p1,_⟩:=I1.tuple s1';obtain ⟨its2,rv2,p2,_⟩:=I1.tuple s2';have d1:l1<s1.heap.objs.size:=by obtain ⟨_,e,_⟩:=p1;exact zXO e
   have d2:l2<s1.heap.objs.size:=by obtain ⟨_,e,_⟩:=p2;exact zXO e
   refine zQf (show s1.heap.IsTuple l1 its.toArray from p1) (show s1.heap.IsTuple l2 its2.toArray from p2) λh' Z kp=>wpAny_pyIter_zip Z.z ?_;refine ⟨s1.heap.objs.size+4,[s1.heap.objs.size+4,s1.heap.objs.size+2,s1.heap.objs.size+3,s1.heap.objs.size,s1.heap.objs.size+1],_,_,H1,rfl,I1.kept (t':=s1.toks) kp,zOE (zipApart_new d1 d2),Z,λc hc=>?_,q⟩;have ge:s1.heap.objs.size<=c:=by
    simp only[zXP,zXi,zYY]at hc;rcases hc with rfl|rfl|rfl|rfl|rfl
    .exact zY2 _ 4
    .exact zY2 _ 2
    .exact zY2 _ 3
    .exact zXJ _
    .exact zY2 _ 1
   exact I1.fpOk ge (I1.hok.fresh ge)
def zGq (g:FA):FI:=λσ M=>match g σ M with
 |some ([.tup xs,.tup ys],M1)=>some ((xs.zip ys).map λq=>D.tup [q.1,q.2],none,M1)
 |_=>none
noncomputable def zQs (hg:Gl X "zip") (hm:X.mg "zip" = none) (ha:QA X [a,b] g) (hs:starEach [a,b] X.env=[(false,eval a X.env),(false,eval b X.env)]:=by rfl) (hs2:starEach [b] X.env=[(false,eval b X.env)]:=by rfl) :
  QI X (.Tuple es ek ep) (.Call (.Name "zip" p) [a,b] [] pos) (zGq g):=.mk <| PI.imp (zVC hg hm ha.un hs hs2) λτ H R zz=>by
 obtain ⟨L,σ,M,xs,gd,M',c,rs,hf,q⟩:=zz;unfold zGq at hf;split at hf
 .rename_i ds es' M1 e1;cases hf;refine ⟨L,σ,M,_,_,c,rs,e1,λL1 H1 vs s1 c1 r1=>?_⟩;obtain ⟨v,v',rfl,r2,r3⟩:=r1.two;unfold Rep at r2 r3;obtain ⟨l1,ws1,rfl,h1,q1⟩:=r2;obtain ⟨l2,ws2,rfl,h2,q2⟩:=r3;refine ⟨l1,l2,ws1,ws2,rfl,.of h1,.of h2,q L1 H1 _ s1 c1 λL2 H2 M2 s2 c2 _=>?_⟩;have k1:=s2.tup l1 ws1 h1;have k2:=s2.tup l2 ws2 h2;have p1:=q1.stp s2;have p2:=q2.stp s2;refine ⟨λi d hd=>?_,⟨ws1,ws2,.of k1,.of k2,?_⟩⟩
  .rw[zXa]at hd;cases e2:(ds.zip es')[i]? with
   |none=>rw[e2]at hd;cases hd
   |some pr=>
    rw[e2]at hd;cases hd;obtain ⟨f1,f2⟩:=List.getElem?_zip_eq_some.mp e2;obtain ⟨u,hu,ru⟩:=p1.get f1;obtain ⟨u2,hu2,ru2⟩:=p2.get f2;refine ⟨⟨ws1,ws2,u,u2,.of k1,.of k2,hu,hu2⟩,λv H3 hy=>?_⟩;obtain ⟨T,x,y,rfl,hT,rfl,hxx,hyy⟩:=hy;have ex:=hxx ws1 (.of k1);have ey:=hyy ws2 (.of k2);rw[hu]at ex;cases ex;rw[hu2]at ey;cases ey;exact ⟨λa o e=>by rw[zZ (zAF e hT)];exact e,Rep.newTup hT (.cons ru (.cons ru2 .nil))⟩
  .rw[zXM,List.length_zip,p1.length,p2.length];omega
 .cases hf
def zBU (i j:Nat):FG:=λd σ=>match d with
 |.tup [x,y]=>some ((σ.set i (some x)).set j (some y))
 |_=>none
abbrev gP2 (K:Yb) (i j:Nat):TG:=zWA K 2 (zQS (zD3 i) (zQS (zD3 j) zVW))
def zLF {K:Yb} {i j:Nat}:GOk (gP2 K i j) (zBU i j):=by
 intro L H σ σ' τ d v Q rs r hf q;unfold zBU at hf;split at hf
 .rename_i x y;cases hf;unfold Rep at r;obtain ⟨a,vs,rfl,e,r⟩:=r;obtain ⟨v1,v2,rfl,r1,r2⟩:=r.two;exact ⟨a,_,rfl,.of e,rfl,v1,[v2],rfl,v2,[],rfl,rfl,q _ ((rs.set r1).set r2)⟩
 .cases hf
def zF2 {K:Yb} {own:Yj} {i j:Nat} (hi:i∈own) (hj:j∈own):zFk own (gP2 K i j) (zBU i j):=by
 intro L H σ σ' τ τ0 d v Q rs ex r hf q;unfold zBU at hf;split at hf
 .rename_i x y;cases hf;unfold Rep at r;obtain ⟨a,vs,rfl,e,r⟩:=r;obtain ⟨v1,v2,rfl,r1,r2⟩:=r.two;exact ⟨a,_,rfl,.of e,rfl,v1,[v2],rfl,v2,[],rfl,rfl,q _ ((rs.set r1).set r2) ((ex.set hi).set hj)⟩
 .cases hf
end
section
variable {X:Cx} {a b c e:Expr} {es:Yi} {pos p p2 pos2:Pos} {f g h:FE}
theorem zNk:∀ {bs:List Bool} {its:Yf},zg (bs.map V.bl) its -> ∀ (i:Nat) v,its[i]?=some v -> ∃ k,bs[i]?=some k/\v=.bool k
 |[],_,.nil,_,_,h=>by simp at h
 |k::bs,_,.cons r t,0,v,h=>by
  simp at h;subst h;exact ⟨k,rfl,r⟩
 |k::bs,_,.cons r t,i+1,v,h=>by
  obtain ⟨k',e1,e2⟩:=zNk t i v (by simpa using h);exact ⟨k',by simpa using e1,e2⟩
def zNI (bs:List Bool):((List.range bs.length).all λi=>(bs[i]?).getD true)=bs.all id:=by
 rw[Bool.eq_iff_iff,zXo,zXo];constructor
 .intro q k hk;obtain ⟨i,hi,rfl⟩:=List.getElem_of_mem hk;have:=q i (zXr.mpr hi);rw[zXH hi]at this;exact this
 .intro q i hi;rw[zXH (zXr.mp hi)];exact q _ (zXl _)
def zVS (K:Yb) (F:List Bool->Bool):List V->Hp->VK->Prop:=λxs H Q=>∃ q bs,xs=[.ref q]/\SqL K H q (bs.map V.bl)/\Q (.bl (F bs)) H
def zPE (hc:X.calm=true):zCI X (.builtin "all") (zVS X.K λbs=>bs.all id):=by
 intro zB s σ H xs us Q I r h;obtain ⟨l,bs,rfl,hq,q⟩:=h;obtain ⟨u,rfl,rx⟩:=zEy r;cases rx;obtain ⟨its,rv,pl,_⟩:=I.list hq;have hlt:l<s.heap.objs.size:=by obtain ⟨_,z,_⟩:=pl.isList;exact zXO z
 refine call_all_walk (wpAny_pyIter_list pl.isList ⟨s.heap.objs.size,[s.heap.objs.size,l],[s.heap.objs.size],its.toArray.size,_,_,λi=>(bs[i]?).getD true,rfl,Walks.list (A:=X.A.in1) (I.ok.hd hc) _ l (zXY hlt) its.toArray,
  ⟨⟨_,zXN _ rfl,rfl,rfl⟩,pl.isList.push _⟩,λi v s' Q' E' hP hQ=>?_,λh' tk hk=>?_⟩)
 .obtain ⟨k,z,rfl⟩:=zNk rv i v (by simpa using hP);dsimp only at hQ;rw[z]at hQ;exact wpAny_truthy_bool hQ
 .have hl:=rv.length;rw[zXM]at hl;rw[zXL,<-hl,zNI];exact ⟨.bl _,H,I.kept (t':=tk) λb o z=>hk b o (λm=>by rw[zXf.mp m]at z;exact zXv _ (zXO z)) (zXE _ z),rfl,q⟩
def zGa:List D->Option (List Bool)
 |[]=>some []
 |.bl k::r=>match zGa r with
  |some bs=>some (k::bs)
  |none=>none
 |_=>none
theorem zNu:∀ {ds:List D} {bs:List Bool} {vs:List V},zGa ds=some bs->zR L H ds vs->vs=bs.map V.bl
 |[],bs,vs,e,r=>by cases e;unfold zR at r;exact r
 |d::ds,bs,vs,e,r=>by
  unfold zR at r;obtain ⟨v,r',rfl,r1,r2⟩:=r;cases d with
  |bl k=>
   unfold zGa at e;cases q:zGa ds with
   |none=>rw[q]at e;cases e
   |some bs'=>
    rw[q]at e;cases e;unfold Rep at r1;rw[r1,zNu q r2];rfl
  |_=>cases e
def zO6 (F:List Bool->Bool):KB:=λxs M=>match xs with
 |[x]=>match zBa M x with
  |some ds=>match zGa ds with
   |some bs=>some (.dat (.bl (F bs)),M)
   |none=>none
  |none=>none
 |_=>none
def zSg {K:Yb} {F:List Bool->Bool}:zGo K (zVS K F) (zO6 F):=by
 intro L M M' H H0 xs d vs Q c r hk q;unfold zO6 at hk;split at hk
 .rename_i x;split at hk
  .rename_i ds e1;split at hk
   .rename_i bs e2;cases hk;obtain ⟨v,rfl,r1⟩:=r.one;obtain ⟨l,ws,rfl,h1,r2⟩:=zBP c r1 e1;have:=zNu e2 r2;subst this;exact ⟨l,bs,rfl,.inl h1,q L H _ (.refl L H) c (zCK (L:=L) (H:=H))⟩
   .cases hk
  .cases hk
 .cases hk
abbrev zSZ:KB:=zO6 λbs=>bs.all id
section
variable {fa:FAE}
noncomputable def zTj (hc:X.calm=true) (hg:Gl X "all") (hm:X.mg "all" = none) (ha:QAE X [e] fa) (he:starEach [e] X.env=(false,eval e X.env)::starEach [] X.env:=by rfl) (hpl:(backTo pos (starEach [] X.env)).any (·.1)=false:=by rfl):QE X (.Call (.Name "all" p) [e] [] pos) (fB zSZ fa) :=
 zEh zSg (zPE hc) (by rfl) hg hm ha (by decide) (by decide) he hpl
end
def zTk (h:zBa M x=some ds) (hb:zGa ds=some bs):Ok (zO6 F [x] M) P ↔ P (.dat (.bl (F bs))) M:=by
 have:zO6 F [x] M=some (.dat (.bl (F bs)),M):=by unfold zO6;dsimp only;rw[h];dsimp only;rw[hb]
 rw[this,zAC]
theorem zGI:∀ bs:List Bool,zGa (bs.map D.bl)=some bs
 |[]=>rfl
 |k::bs=>by rw[zXW];unfold zGa;rw[zGI bs]
def zSF (f:FE):FE:=λσ M=>match f σ M with
 |some (.dat (.int i),M1)=>some (.dat (.int (-i)),M1)
 |_=>none
def zWb (h1:QE X a f):QE X (.UnaryOp .USub a pos) (zSF f):=.mk <| PE.imp (zWc zUu h1.un) λτ H Q zz=>by
 obtain ⟨L,σ,M,d,M',cc,rs,hf,q⟩:=zz;unfold zSF at hf;split at hf
 .rename_i i M1 e1;cases hf;refine ⟨L,σ,M,_,_,cc,rs,e1,λL1 H1 v s1 c1 r1=>?_⟩;exact ⟨i,by unfold zk Rep at r1;exact r1,q L1 H1 _ s1 c1 (zAp (L:=L1) (H:=H1))⟩
 .cases hf
def zGU:KB:=λxs M=>match xs with
 |[x]=>match zAL M x with
  |some ys=>some (.fl ys,M)
  |none=>none
 |_=>none
def zRA:zGo X.K (λxs H Q=>∃ q ys,xs=[.ref q]/\(SqL X.K H q ys\/SqT X.K H q ys) /\ ∀ l,H l=none->Q (.ref l) (upd H l (.lst ys))) zGU:=by
 intro L M M' H H0 xs d vs Q cc r hk q;unfold zGU at hk;split at hk
 .rename_i x;split at hk
  .rename_i ys e1;cases hk;obtain ⟨v,rfl,r1⟩:=r.one;obtain ⟨l,ws,rfl,hs,r2⟩:=zHB cc r1 e1;refine ⟨l,ws,rfl,hs,λk hk=>?_⟩;exact q L _ _ (.upd hk) (cc.upd hk) (zk.newLst (.refl L H) cc cc hk r2)
  .cases hk
 .cases hk
noncomputable def zUD (hg:Gl X "list") (hm:X.mg "list" = none) (ha:QAE X [e] fa) (he:starEach [e] X.env=(false,eval e X.env)::starEach [] X.env:=by rfl) (hpl:(backTo pos (starEach [] X.env)).any (·.1)=false:=by rfl):QE X (.Call (.Name "list" p) [e] [] pos) (fB zGU fa) :=
 zIM zRA zKc (by rfl) hg hm ha (by decide) (by decide) he hpl
def zQy (hh:zAL M x=some xs):Ok (zGU [x] M) P ↔ P (.fl xs) M:=by
 have:zGU [x] M=some (.fl xs,M):=by unfold zGU;dsimp only;rw[hh]
 rw[this,zAC]
end
open AutoSeq1 (wpAny_loadPart')
section
variable {prog:Ym} {w:Yo} {A:Yn} {E:Yc} {s:Yl}
def zP2 {r:Yt} {lo hi:Int} {t u v:Tok} {n:Nat} {Q:List Value->Shared->Prop} (hh:A.handled=none) (R:IsRange s.heap r lo hi 1 t u v) (sm:Builtin.Range.small lo hi 1=true) (hn:Builtin.Range.rangeSize lo hi 1=n) (hz:n<=2 ^ 24)
  (q:∀ h' tk (acc:Yp),(∀ b o,s.heap.get? b=some o->h'.get? b=some o)->ItemsOf (λi v=>∃ t,v=.int (lo+i*1) t) acc n->Q acc.toList { s with heap:=h',toks:=tk }):wpAny (model prog w) A (collect (.ref r)) Q E s:=by
 unfold collect;refine zXD (wpAny_runValue (codeAny_builtin PySem.F.entry_proto_collect ?_));rw[Around.under_plainId PySem.F.plain_proto_collect _];refine zXD (m:=newList []) (zXg (zXF ⟨plainId_quiet PySem.F.plain_list_iadd _,codeAny_builtin PySem.F.entry_list_iadd ?_⟩));rw[Around.under_plainId PySem.F.plain_list_iadd _];have S0:(s.heap.push { cls:=.type "list", data:=.seq ([]:List Value).toArray }).get? s.heap.objs.size=some { cls:=.type "list", data:=.seq #[] 0 }:=zXN _ rfl
 have fin:∀ (h':Heap) (tk:Nat) (acc:Array Value) (k:Nat),(∀ b o,b≠s.heap.objs.size->(s.heap.push { cls:=.type "list", data:=.seq ([]:List Value).toArray }).get? b=some o->h'.get? b=some o) ->
   h'.get? s.heap.objs.size=some { cls:=.type "list", dict:=none,data:=.seq acc k,slots:=#[] }->ItemsOf (λi v=>∃ t,v=.int (lo+i*1) t) acc n ->
   wpAny (model prog w) A (match Value.ref s.heap.objs.size with
    |Value.ref a=>do
     match (<- load a).data with
      |Data.seq xs _=>pure xs.toList
      |_=>unsupported "internal:collect"
    |_=>unsupported "internal:collect") Q E { s with heap:=h',toks:=tk }:=λh' tk acc k kp e it=>by
  refine zXD (m:=load s.heap.objs.size) (wpAny_load e (zXF (q h' tk acc (λb o m=>kp b o (zXY (zXO m)) (zXE _ m)) it)))
 refine zXj (wpAny_extend_range (A:=A) (s:={ s with heap:=s.heap.push { cls:=.type "list", data:=.seq ([]:List Value).toArray } })
  (R:=λr s'=>r=.ok (.ret (.ref s.heap.objs.size)) /\ ∃ h' tk acc k,s'={ s with heap:=h',toks:=tk }/\(∀ b o,b≠s.heap.objs.size->(s.heap.push { cls:=.type "list", data:=.seq ([]:List Value).toArray }).get? b=some o->h'.get? b=some o) /\
   h'.get? s.heap.objs.size=some { cls:=.type "list", dict:=none,data:=.seq acc k,slots:=#[] }/\ItemsOf (λi v=>∃ t,v=.int (lo+i*1) t) acc n)
  hh (zXE _ R) sm hn hz s.heap.objs.size (.ref s.heap.objs.size) 0 S0 λh' tk acc k kp e it=>⟨rfl,h',tk,acc,k,rfl,kp,e,it⟩) (λf s' z=>?_) (λe s' z=>?_)
 .cases f with
  |done f=>
   obtain ⟨e,h',tk,acc,k,rfl,z1,z2,z3⟩:=z;cases e;exact fin h' tk acc k z1 z2 z3
  |again c'=>exact ⟨z.1,codeAny_mono z.2 λr s'' z=>by obtain ⟨rfl,h',tk,acc,k,rfl,z1,z2,z3⟩:=z;exact fin h' tk acc k z1 z2 z3⟩
 .exact absurd z.1 (by simp)
end
def zJm (r:Yt) (lo hi:Int) (t u v:Tok) (n:Nat) (sm:Builtin.Range.small lo hi 1=true) (hn:Builtin.Range.rangeSize lo hi 1=n) (hz:n<=2 ^ 24) :
  Meets (Builtin.«tuple.__new__» ⟨[.type "tuple", .ref r],[]⟩) (λA R s=>A.handled=none/\IsRange s.heap r lo hi 1 t u v /\
   ∀ (h':Heap) (tk:Nat) (acc:Array Value),(∀ b o,s.heap.get? b=some o->h'.get? b=some o)->ItemsOf (λi v=>∃ t,v=.int (lo+i*1) t) acc n->R (.ok (.ret (.ref h'.objs.size))) { s with heap:=h'.push { cls:=.type "tuple", data:=.seq acc },toks:=tk }) :=
 .of_wp λprog w A R s h=>by
  obtain ⟨hp,g,d,tk,os⟩:=s;obtain ⟨hh,Ra,h⟩:=h;have h1:=sub_tuple_self;have h2:=init_tuple_lookup;have h3:=madeHere_tuple;have T:Shared.TypeIs ⟨hp,g,d,tk,os⟩ (.ref r) "range" := ⟨_,Ra,rfl⟩;wp_walk using wpAny_loadPart' Ra,wpAny_typeOf T,zP2 (show A.in1.handled=none from hh) Ra sm hn hz;intro h' tk' acc kp it;refine zXD (m:=Builtin.Tuple.tupleExact acc.toList.toArray) ?_;unfold Builtin.Tuple.tupleExact;have sz:acc.toList.toArray.size<=sizeLine:=by rw[zXL,zXw,it.1,sizeLine_eq];omega
  refine zXg (zXF ⟨_,rfl,?_⟩) sz;have e:acc.toList.toArray=acc:=by simp
  rw[e];exact h h' tk' acc kp it
section
variable {X:Cx} {a e:Expr} {es:Yi} {pos p p2 pos2:Pos} {f:FE}
def zL8:zCI X (.type "range") (λxs H Q=>∃ j,xs=[.int j] /\ ∀ l,H l=none->Q (.ref l) (upd H l (.rng 0 j))):=by
 intro zB s σ H xs us Q I r h;obtain ⟨j,rfl,q⟩:=h;obtain ⟨u,rfl,rx⟩:=zEy r;obtain ⟨t,rfl⟩:=rx;refine call_range_1 ⟨.ref s.heap.objs.size,_,I.laid (λb o z=>zXE _ z) (zXJ _) ?_,rfl,q _ (I.hok.fresh (zXJ _))⟩;exact ⟨_,_,_,zXN _ rfl⟩
def upV (n:Nat):List V:=(List.range n).map λ(k:Nat)=>V.int k
def zLe (h:ItemsOf (λi v=>∃ t,v=.int ((0:Int)+i*1) t) acc n):zg (upV n) acc.toList:=by
 obtain ⟨hz,hi⟩:=h;have:∀ (xs:Yf) (k:Nat),(∀ j v,xs[j]?=some v -> ∃ t,v=Value.int ((k+j:Nat):Int) t)->zg ((List.range' k xs.length).map λ(k:Nat)=>V.int k) xs:=by
  intro xs;induction xs with
  |nil=>intro k _;exact .nil
  |cons x xs ih=>
   intro k hk;rw[zXk,List.range'_succ,zXW];refine .cons ?_ (ih (k+1) λj v e=>?_)
   .obtain ⟨t,e⟩:=hk 0 x rfl;exact ⟨t,by simpa using e⟩
   .obtain ⟨t,e'⟩:=hk (j+1) v (by simpa using e);exact ⟨t,by rw[e'];congr 2;omega⟩
 have q:=this acc.toList 0 (λj v e=>by
  obtain ⟨t,e'⟩:=hi j v (by simpa using e);exact ⟨t,by rw[e'];congr 1;omega⟩)
 unfold upV;rw[List.range_eq_range'];rw[zXw,hz]at q;exact q
def zI5 (h0:0<=j) (h1:j<=16777216):Builtin.Range.small 0 j 1=true/\Builtin.Range.rangeSize 0 j 1=(j.toNat:Int):=by
 refine ⟨small_one (by omega) (by omega) (by omega) (by omega),?_⟩;rw[rangeSize_one];split <;> omega
def zVr (mk:List V->HO):List V->Hp->VK->Prop:=λxs H Q=>∃ r j,xs=[.ref r]/\H r=some (.rng 0 j)/\0<=j/\j<=16777216 /\ ∀ l,H l=none->Q (.ref l) (upd H l (mk (upV j.toNat)))
def zIL (n:Nat):(upV n).length=n:=by unfold upV;simp
def zOz (hc:X.calm=true):zCI X (.type "tuple") (zVr HO.tup):=by
 intro zB s σ H xs us Q I r h;obtain ⟨l,j,rfl,hr,h0,h1,q⟩:=h;obtain ⟨u,rfl,rx⟩:=zEy r;cases rx;obtain ⟨t,u,v,er⟩:=(show zAV X.prog X.w H s.heap l (.rng 0 j)from I.hok l _ hr);obtain ⟨sm,sz⟩:=zI5 h0 h1
 refine callType_new PySem.F.called_tuple (by decide) (PySem.F.typeCall_tuple_1 _) (PySem.F.newCall_tuple_1 _) (λobj=>PySem.F.args_object_init_2 obj _) PySem.F.entry_tuple_new (zJm l 0 j t u v j.toNat sm sz (by omega))
  ⟨I.ok.hd hc,er,λh' tk acc kp it=>⟨⟨_,zXN _ rfl,rfl⟩,?_⟩⟩
 have I1:Inv X zB σ H { s with heap:=h',toks:=tk }:=I.kept kp;refine ⟨.ref h'.objs.size,_,I1.laid (t':=tk) (λb o z=>zXE _ z) (zXJ _) ?_,rfl,q _ (I1.hok.fresh (zXJ _))⟩;exact ⟨by rw[zIL,sizeLine_eq];omega,acc.toList,zLe it,by simpa using zCJ.new h' acc⟩
def zO0 (hc:X.calm=true):zCI X (.type "list") (zVr HO.lst):=by
 intro zB s σ H xs us Q I r h;obtain ⟨l,j,rfl,hr,h0,h1,q⟩:=h;obtain ⟨u,rfl,rx⟩:=zEy r;cases rx;obtain ⟨t,u,v,er⟩:=(show zAV X.prog X.w H s.heap l (.rng 0 j)from I.hok l _ hr);obtain ⟨sm,sz⟩:=zI5 h0 h1;refine call_list_range (I.ok.hd hc) er sm sz (by omega) λh' tk acc k kp z it=>?_;refine ⟨.ref s.heap.objs.size,_,I.laid (t':=tk) kp (zXJ _) (show zAV X.prog X.w _ h' _ (.lst (upV j.toNat))from ⟨by rw[zIL,sizeLine_eq];omega,acc.toList,k,zLe it,by simpa using z⟩),rfl,q _ (I.hok.fresh (zXJ _))⟩
def upD (n:Nat):List D:=(List.range n).map λ(k:Nat)=>D.int k
def zNx (n:Nat):zR L H (upD n) (upV n):=by
 have:∀ xs:List Nat,zR L H (xs.map λ(k:Nat)=>D.int k) (xs.map λ(k:Nat)=>V.int k):=by
  intro xs;induction xs with
  |nil=>exact .nil
  |cons x xs ih=>exact .cons zAp ih
 exact this _
def zNa (f:FE):FE:=λσ M=>match f σ M with
 |some (.dat (.int j),M1)=>if 0<=j/\j<=16777216 then some (.dat (.tup (upD j.toNat)),M1) else none
 |_=>none
def zFw (f:FE):FE:=λσ M=>match f σ M with
 |some (.dat (.int j),M1)=>if 0<=j/\j<=16777216 then some (.fl (upD j.toNat),M1) else none
 |_=>none
noncomputable def zUh (hc:X.calm=true) (hg:Gl X "tuple") (hm:X.mg "tuple" = none) (hg2:Gl X "range") (hm2:X.mg "range" = none) (ha:QE X a f)
  (he:starEach [Expr.Call (.Name "range" p2) [a] [] pos2] X.env=(false,eval (Expr.Call (.Name "range" p2) [a] [] pos2) X.env)::starEach [] X.env:=by rfl) (hpl:(backTo pos (starEach [] X.env)).any (·.1)=false:=by rfl)
  (he2:starEach [a] X.env=(false,eval a X.env)::starEach [] X.env:=by rfl) (hpl2:(backTo pos2 (starEach [] X.env)).any (·.1)=false:=by rfl) :
  QE X (.Call (.Name "tuple" p) [.Call (.Name "range" p2) [a] [] pos2] [] pos) (zNa f) :=
 .mk <| PE.imp (zDM (zOz hc) hg hm (by rfl) (zCw (zDM zL8 hg2 hm2 boot_range (zCw ha.un zFG he2) (by decide) (by decide) he2 hpl2) zFG he) (by decide) (by decide) he hpl) λτ H Q zz=>by
  obtain ⟨L,σ,M,d,M',c,rs,hf,q⟩:=zz;unfold zNa at hf;split at hf
  .rename_i j M1 e1;split at hf
   .rename_i hb;cases hf;refine ⟨L,σ,M,_,_,c,rs,e1,λL1 H1 v s1 c1 r1=>⟨j,by unfold zk Rep at r1;rw[r1],λl hl=>⟨l,j,rfl,zAB,hb.1,hb.2,λk hk=>?_⟩⟩⟩;exact q L1 _ _ ((s1.trans (.upd hl)).trans (.upd hk)) ((c1.upd hl).upd hk) (Rep.newTup hk (zNx _))
   .cases hf
  .cases hf
noncomputable def zUC (hc:X.calm=true) (hg:Gl X "list") (hm:X.mg "list" = none) (hg2:Gl X "range") (hm2:X.mg "range" = none) (ha:QE X a f)
  (he:starEach [Expr.Call (.Name "range" p2) [a] [] pos2] X.env=(false,eval (Expr.Call (.Name "range" p2) [a] [] pos2) X.env)::starEach [] X.env:=by rfl) (hpl:(backTo pos (starEach [] X.env)).any (·.1)=false:=by rfl)
  (he2:starEach [a] X.env=(false,eval a X.env)::starEach [] X.env:=by rfl) (hpl2:(backTo pos2 (starEach [] X.env)).any (·.1)=false:=by rfl) :
  QE X (.Call (.Name "list" p) [.Call (.Name "range" p2) [a] [] pos2] [] pos) (zFw f) :=
 .mk <| PE.imp (zDM (zO0 hc) hg hm (by rfl) (zCw (zDM zL8 hg2 hm2 boot_range (zCw ha.un zFG he2) (by decide) (by decide) he2 hpl2) zFG he) (by decide) (by decide) he hpl) λτ H Q zz=>by
  obtain ⟨L,σ,M,d,M',c,rs,hf,q⟩:=zz;unfold zFw at hf;split at hf
  .rename_i j M1 e1;split at hf
   .rename_i hb;cases hf;refine ⟨L,σ,M,_,_,c,rs,e1,λL1 H1 v s1 c1 r1=>⟨j,by unfold zk Rep at r1;rw[r1],λl hl=>⟨l,j,rfl,zAB,hb.1,hb.2,λk hk=>?_⟩⟩⟩;have s2:Stp L H L1 (upd H1 l (.rng 0 j)):=s1.trans (.upd hl);exact q L1 _ _ (s2.trans (.upd hk)) ((c1.upd hl).upd hk) (zk.newLst s2 c (c1.upd hl) hk (zNx _))
   .cases hf
  .cases hf
end
def zS7 {P:Ym} {w:Yo} {K:Yb} {mg:Yh} {base:Heap} {k:Nat} {f:Yt} {fd:Yz} {ps:Yk} {n:Nat}:FnOk P w K mg base CX0 k f fd ps (spF K n λ_ _=>none):=by
 have no:∀ vs H Q E,¬ spF K n (λ_ _=>none) vs H Q E:=λvs H Q E ⟨_,_,_,_,_,_,_,_,h,_⟩=>by cases h
 exact ⟨λvs H Q E h=>absurd h (no vs H Q E),λA outer s H args us vs Q E _ _ _ _ h=>absurd h (no vs H Q E)⟩
def zFp:Expr->Bool
 |.Starred .. =>false
 |_=>true
def zO (h:zFp e=true):starEach (e::es) env=(false,eval e env)::starEach es env:=by
 cases e <;> first|rfl|cases h
def zDP (h:zFp e=true):starEach [e] env=[(false,eval e env)]:=zO h
def zFS (h:zFp e=true) (h':zFp e'=true):starEach [e,e'] env=[(false,eval e env),(false,eval e' env)]:=by rw[zO h,zDP h']
theorem zA7:∀ {es:Yi},es.all zFp=true->(backTo pos (starEach es env)).any (·.1)=false
 |[],_=>rfl
 |e::es,h=>by
  rw[List.all_cons,zXn]at h;rw[zO h.1];have:=zA7 (pos:=pos) (env:=env) h.2;simpa [backTo] using this
def Cor.pushO {K:Yb} {L:Yg} {M:List MO} {H:Hp} {p:Yt} {o:HO} {m:MO} (c:Cor K L M H) (h:H p=none) (new:zHe K (L++[p]) (L2.upd H p o) p m) :
  Cor K (L++[p]) (M++[m]) (L2.upd H p o)/\Stp L H (L++[p]) (L2.upd H p o):=by
 have hp:p∉L:=λz=>by obtain ⟨o,e⟩:=c.tracked z;rw[h]at e;cases e
 have st:Stp L H (L++[p]) (L2.upd H p o):=by
  refine ⟨⟨[p],rfl⟩,λa ha=>?_,λa o e _=>?_,λa o e=>?_,λa o u e=>?_⟩
  .rcases zXd.mp ha with z|z
   .exact .inl z
   .have:a=p:=by simpa using z
    subst this;exact .inr h
  all_goals (rw[zZ (zAF e h)];exact e)
 refine ⟨⟨by simp[c.len],?_,λn a m e1 e2=>?_⟩,st⟩
 .rw[zYR];exact ⟨c.nd,by simp,λa ha b hb z=>by
   have:b=p:=by simpa using hb
   subst this;subst z;exact hp ha⟩
 .by_cases hn:n<L.length
  .rw[zXK hn]at e1;rw[zXK (by rw[<-c.len];exact hn)]at e2;exact (c.obj n a m e1 e2).stp st λo e=>by rw[zZ (zAF e h)];exact e
  .have hn':n=L.length:=by
    have:=(zXG.mp e1).1;rw[zXT]at this;simp at this;omega
   subst hn';simp at e1;rw[c.len]at e2;simp at e2;subst e1;subst e2;exact new
def Cor.put {K:Yb} {L:Yg} {M:List MO} {H:Hp} {n:Nat} {p:Yt} {o o':HO} {m:MO} (c:Cor K L M H) (h1:L[n]?=some p) (ho:H p=some o) (ht:∀ xs,o≠.tup xs) (hf:∀ a u,o≠.frz a u)
  (new:Stp L H L (L2.upd H p o')->zHe K L (L2.upd H p o') p m):Cor K L (M.set n m) (L2.upd H p o')/\Stp L H L (L2.upd H p o'):=by
 have st:Stp L H L (L2.upd H p o'):=by
  refine ⟨⟨[],by simp⟩,λa ha=> .inl ha,λa o e ha=>?_,λa xs e=>?_,λa b u e=>?_⟩
  .rw[zZ (show a≠p from λz=>ha (by rw[z];exact zX4 h1))];exact e
  .rw[zZ (zH7 e ho (λz=>ht xs z.symm))];exact e
  .rw[zZ (zH7 e ho (λz=>hf b u z.symm))];exact e
 refine ⟨⟨by simp[c.len],c.nd,λk a m' e1 e2=>?_⟩,st⟩;rw[zYm]at e2;split at e2
 .rename_i hk;subst hk;rw[h1]at e1;cases e1;split at e2
  .cases e2;exact new st
  .cases e2
 .rename_i hk;have hne:a≠p:=λz=>hk (by
   subst z;exact (List.getElem?_inj (zXG.mp h1).1 c.nd).mp (h1.trans e1.symm))
  exact (c.obj k a m' e1 e2).stp st λo e=>by rw[zZ hne];exact e
section
variable {X:Cx} {a b e:Expr} {pos:Pos} {f g:FE}
def zMh:FE:=λ_ M=>some (.dat (.ref M.length),M++[.dict []])
def zKS:FE:=λ_ M=>some (.dat (.ref M.length),M++[.dicT []])
def zS1:QE X (.Dict [] [] pos) zMh:=.mk <| PE.imp zQX λτ H Q ⟨L,σ,M,d,M',c,rs,hf,q⟩ p hp=>by
 unfold zMh at hf;cases hf;obtain ⟨c2,s2⟩:=c.pushO (m:=.dict []) hp ⟨[],zAB,rfl⟩;refine q _ _ _ s2 c2 ?_;unfold zk Rep;exact ⟨p,rfl,by rw[<-c.len];simp⟩
def zS0:QE X (.Dict [] [] pos) zKS:=.mk <| PE.imp zQt λτ H Q ⟨L,σ,M,d,M',c,rs,hf,q⟩ p hp=>by
 unfold zKS at hf;cases hf;obtain ⟨c2,s2⟩:=c.pushO (m:=.dicT []) hp ⟨[],zAB,rfl⟩;refine q _ _ _ s2 c2 ?_;unfold zk Rep;exact ⟨p,rfl,by rw[<-c.len];simp⟩
def zG8 (h:Rep L H d v) (e:zCR d=some k):v=kV k:=by
 cases d with
 |int i=>cases e;unfold Rep at h;exact h
 |str x=>cases e;unfold Rep at h;exact h
 |_=>cases e
def zKb (M:Mem):EV->Option (List D)
 |.fl xs=>some xs
 |.dat (.ref n)=>match M[n]? with
  |some (.lst xs)=>some xs
  |_=>none
 |_=>none
def zMJ {K:Yb} {L:Yg} {M:Mem} {H H0:Hp} {x:EV} {v:V} {xs:List D} (c:Cor K L M H) (r:zk H0 L H x v) (h:zKb M x=some xs):∃ a vs,v=.ref a/\H a=some (.lst vs)/\zR L H xs vs:=by
 cases x with
 |fl ys=>
  cases h;obtain ⟨p,vs,rfl,_,e,_,r⟩:=r;exact ⟨p,vs,rfl,e,r⟩
 |dat d=>
  cases d with
  |ref n=>
   unfold zk Rep at r;obtain ⟨a,rfl,e⟩:=r;unfold zKb at h;dsimp only at h;split at h
   .rename_i ys q;cases h;obtain ⟨vs,e1,r1⟩:=c.obj n a _ e q;exact ⟨a,vs,rfl,e1,r1⟩
   .cases h
  |_=>cases h
def zGX:K2:=λx y M=>match zKb M x,zKb M y with
 |some xs,some ys=>if xs.length+ys.length<=sizeLine then some (.fl (xs++ys),M) else none
 |_,_=>none
def zRc {K:Yb}:zDW K zWR zGX:=by
 intro L M M' H H0 x y d v w Q c rx ry hk q;unfold zGX at hk;split at hk
 .rename_i xs ys e1 e2;split at hk
  .rename_i hz;cases hk;obtain ⟨l,vs,rfl,h1,r1⟩:=zMJ c rx e1;obtain ⟨l2,ws,rfl,h2,r2⟩:=zMJ c ry e2;refine ⟨l,l2,vs,ws,rfl,rfl,h1,h2,by rw[r1.length,r2.length];exact hz,λp hp=>?_⟩;exact q L _ _ (.upd hp) (c.upd hp) (zk.newLst (.refl L H) c c hp (r1.app r2))
  .cases hk
 .cases hk
def zVE (h1:QE X a f) (h2:QE X b g):QE X (.BinOp a .Add b pos) (fOp zGX f g):=zK2 zRc zUr h1 h2
def zND (h1:zKb M x=some xs) (h2:zKb M y=some ys) (hz:xs.length+ys.length<=100000) (q:P (.fl (xs++ys)) M):Ok (zGX x y M) P:=by
 refine ⟨_,_,?_,q⟩;unfold zGX;rw[h1,h2];dsimp only;rw[zXS (zXe hz (by decide))]
end
end L3
namespace LR
open PySem PySem.Spec PyProof.Rows
open Sem (wp)
open Sem (wp)
open AutoSeq1 (wpAny_loadPart')
open Sem (wp)
open AutoSeq1 (wpAny_loadPart')
end LR
namespace L3
open PySem PySem.Spec PyProof.Rows L2
section
variable {X:Cx} {a b e o:Expr} {pos p apos cpos:Pos} {f g:FE}
def zAu:List D->Option (List Int)
 |[]=>some []
 |.int i::r=>match zAu r with
  |some bs=>some (i::bs)
  |none=>none
 |_=>none
theorem zCZ:∀ {ds:List D} {bs:Ye} {vs:List V},zAu ds=some bs->zR L H ds vs->vs=bs.map V.int
 |[],bs,vs,e,r=>by cases e;unfold zR at r;exact r
 |d::ds,bs,vs,e,r=>by
  unfold zR at r;obtain ⟨v,r',rfl,r1,r2⟩:=r;cases d with
  |int k=>
   unfold zAu at e;cases q:zAu ds with
   |none=>rw[q]at e;cases e
   |some bs'=>
    rw[q]at e;cases e;unfold Rep at r1;rw[r1,zCZ q r2];rfl
  |_=>cases e
theorem zCj:∀ xs:List Int,zAu (xs.map D.int)=some xs
 |[]=>rfl
 |x::r=>by rw[zXW];unfold zAu;rw[zCj r]
def zPM (xs:Ye):(xs.map V.int).all zFZ=true:=by
 rw[zXo];intro x hx;obtain ⟨i,_,rfl⟩:=zXU.mp hx;rfl
def zS2 (i:Int) (xs:Ye):inV (.int i) (xs.map V.int)=xs.any λy=>decide (y=i):=by
 unfold inV;rw[List.any_map];congr 1
noncomputable def kIn (neg:Bool):K2:=λx y M=>match x with
 |.dat (.int i)=>match zAL M y with
  |some ds=>match zAu ds with
   |some xs=>some (.dat (.bl (if neg then !(xs.any λy=>decide (y=i)) else xs.any λy=>decide (y=i))),M)
   |none=>none
  |none=>none
 |_=>none
def zQH {K:Yb} {neg:Bool}:zDW K (rIn K neg) (kIn neg):=by
 intro L M M' H H0 x y d v w Q cc rx ry hk q;unfold kIn at hk;split at hk
 .rename_i i;split at hk
  .rename_i ds e1;split at hk
   .rename_i xs e2;cases hk;have ev:v=.int i:=by unfold zk Rep at rx;exact rx
    obtain ⟨p,vs,rfl,hs,r⟩:=zHB cc ry e1;have:=zCZ e2 r;subst this;refine ⟨p,_,rfl,hs,by rw[ev];rfl,zPM xs,?_⟩;rw[ev,zS2];exact q L H _ (.refl L H) cc (zCK (L:=L) (H:=H))
   .cases hk
  .cases hk
 .cases hk
def zWT (h1:QE X a f) (h2:QE X b g) (hm:behindInMarks .In b=false:=by rfl):QT X (.Compare a [.In] [b] pos) (tst (fOp (kIn false) f g)):=zEB zQH zOG h1 h2 hm
def zRb (h1:QE X a f) (h2:QE X b g) (hm:behindInMarks .NotIn b=false:=by rfl):QT X (.Compare a [.NotIn] [b] pos) (tst (fOp (kIn true) f g)):=zEB zQH zKB h1 h2 hm
end
end L3
namespace L2
open PySem PySem.Spec PyProof.Rows
section
variable {prog:Ym} {w:Yo} {A:Yn} {E:Yc} {R:Yx} {s:Yl}
def zIh (I:Nat->Shared->Prop)
  (turn:∀ n s,I n s->wpAny (model prog w) A (pyNext it) (λr s₁=>match r with
   |none=>R (.ok .next) s₁
   |some v=>wpAny (model prog w) A (letOwnedTupleGo target it v) (λ_ s₁'=>wpAny (model prog w) A (assign target env v) (λ_ s₂=>
     wpAny (model prog w) A (forIn ifs true λc r=>if r=true then do let ok <- isTrue c env (eval c env);pure (ForInStep.yield ok) else pure (ForInStep.yield r)) (λok s₃=>
      if ok=true then wpAny (model prog w) A (eval kx env) (λkv s₄=>wpAny (model prog w) A (eval vx env) (λvv s₅=>
       wpAny (model prog w) A (dictSet D kv vv) (λ_ s₆=>∃ m,m<n/\I m s₆) (λ_ _=>False) s₅) (λ_ _=>False) s₄) (λ_ _=>False) s₃
      else ∃ m,m<n/\I m s₃) (λ_ _=>False) s₂) (λ_ _=>False) s₁') (λ_ _=>False) s₁) (λ_ _=>False) s)
  (n:Nat) (h:I n s) :
  codeAny (model prog w) A (.compLoop (.DictComp kx vx [⟨target,iter,ifs,0⟩] scope pos) 0 it (.ref D) env) R s:=by
 refine codeAny_loop rfl I (λn s hI=>?_) n h;show wpAny _ A ((compTurn (.DictComp kx vx [⟨target,iter,ifs,0⟩] scope pos) 0 it (.ref D) env).onRaise (λx=>do noteFrame x env;theTreesLotGoes x)) _ _ s;refine wpAny_noted ?_;rw[compTurn_dict];refine zXD (zYB (zXD (zXj (turn n s hI) (λr s₁ h₁=>?_) λ_ _ h'=>h'.elim)));cases r with
 |none=>exact zXF h₁
 |some v=>
  refine zXD (zXj h₁ (λ_ s₁' h₁'=>?_) λ_ _ h'=>h'.elim);refine zXD (zXj h₁' (λ_ s₂ h₂=>zXD (zXj h₂ (λok s₃ h₃=>?_) λ_ _ h'=>h'.elim)) λ_ _ h'=>h'.elim);cases ok with
  |false=>exact zXF ⟨rfl,h₃⟩
  |true=>
   exact zXD (zXD (zXj h₃ (λkv s₄ h₄=>zXD (zX6 (zXj h₄ (λvv s₅ h₅=>zXD (zYB (zX6 (zXj h₅ (λ_ s₆ h₆=>zXF ⟨rfl,h₆⟩) λ_ _ h'=>h'.elim)))) λ_ _ h'=>h'.elim))) λ_ _ h'=>h'.elim))
def zJb (elt target iter:Expr) (ifs:Yi) (scope:Y0) (pos:Pos) (it acc:Yu) (env:Env) :
  compTurn (.SetComp elt [⟨target,iter,ifs,0⟩] scope pos) 0 it acc env=(do
   standAt iter.pos;match <- pyNext it with
   |none=>pure (.done .next)
   |some v=>
    letOwnedTupleGo target it v;assign target env v;let mut ok:=true
    for c in ifs do
     if ok then ok <- isTrue c env (eval c env)
    if ok then (do let v <- eval elt env;standAt elt.pos;let _ <- call (.builtin "set.add") [acc,v])
    again (.compLoop (.SetComp elt [⟨target,iter,ifs,0⟩] scope pos) 0 it acc env)):=by rfl
def zKL (I:Nat->Shared->Prop)
  (turn:∀ n s,I n s->wpAny (model prog w) A (pyNext it) (λr s₁=>match r with
   |none=>R (.ok .next) s₁
   |some v=>wpAny (model prog w) A (letOwnedTupleGo target it v) (λ_ s₁'=>wpAny (model prog w) A (assign target env v) (λ_ s₂=>
     wpAny (model prog w) A (forIn ifs true λc r=>if r=true then do let ok <- isTrue c env (eval c env);pure (ForInStep.yield ok) else pure (ForInStep.yield r)) (λok s₃=>
      if ok=true then wpAny (model prog w) A (eval elt env) (λx s₄=>
       wpAny (model prog w) A (call (.builtin "set.add") [acc,x]) (λ_ s₅=>∃ m,m<n/\I m s₅) (λ_ _=>False) s₄) (λ_ _=>False) s₃
      else ∃ m,m<n/\I m s₃) (λ_ _=>False) s₂) (λ_ _=>False) s₁') (λ_ _=>False) s₁) (λ_ _=>False) s)
  (n:Nat) (h:I n s) :
  codeAny (model prog w) A (.compLoop (.SetComp elt [⟨target,iter,ifs,0⟩] scope pos) 0 it acc env) R s:=by
 refine codeAny_loop rfl I (λn s hI=>?_) n h;show wpAny _ A ((compTurn (.SetComp elt [⟨target,iter,ifs,0⟩] scope pos) 0 it acc env).onRaise (λx=>do noteFrame x env;theTreesLotGoes x)) _ _ s;refine wpAny_noted ?_;rw[zJb];refine zXD (zYB (zXD (zXj (turn n s hI) (λr s₁ h₁=>?_) λ_ _ h'=>h'.elim)));cases r with
 |none=>exact zXF h₁
 |some v=>
  refine zXD (zXj h₁ (λ_ s₁' h₁'=>?_) λ_ _ h'=>h'.elim);refine zXD (zXj h₁' (λ_ s₂ h₂=>zXD (zXj h₂ (λok s₃ h₃=>?_) λ_ _ h'=>h'.elim)) λ_ _ h'=>h'.elim);cases ok with
  |false=>exact zXF ⟨rfl,h₃⟩
  |true=>
   exact zXD (zXD (zXj h₃ (λx s₄ h₄=>zXD (zYB (zXD (zXj h₄ (λ_ s₅ h₅=>zXF (zXF ⟨rfl,h₅⟩)) λ_ _ h'=>h'.elim)))) λ_ _ h'=>h'.elim))
end
end L2
namespace LR
open PySem PySem.Spec PyProof.Rows
open Sem (wp)
end LR
namespace L3
open PySem PySem.Spec PyProof.Rows L2
end L3
namespace ST
open PySem
abbrev Up (xs:Array Nat):Prop:=xs.toList.Pairwise (· < ·)
def Up.get (h:Up xs) (hik:i<k) (hk:k<xs.size):xs[i]'(by omega)<xs[k]:=by
 have:=List.pairwise_iff_getElem.mp h i k (by simpa using (show i<xs.size by omega)) (by simpa using hk) hik;simpa using this
theorem zKO (h:Up xs) (j:Nat):∀ (fuel lo hi:Nat),lo<=hi->hi<=xs.size->hi-lo<=fuel->(∀ i (hi':i<xs.size),i<lo->xs[i]<j)->(∀ i (hi':i<xs.size),hi<=i->j<=xs[i]) ->
  (SetTable.below.go xs j fuel lo hi<=xs.size)/\(∀ i (hi':i<xs.size),i<SetTable.below.go xs j fuel lo hi->xs[i]<j)/\(∀ i (hi':i<xs.size),SetTable.below.go xs j fuel lo hi<=i->j<=xs[i])
 |0,lo,hi,h1,h2,h3,a,b=>by
  have:lo=hi:=by omega
  subst this;unfold SetTable.below.go;exact ⟨h2,a,b⟩
 |fuel+1,lo,hi,h1,h2,h3,a,b=>by
  unfold SetTable.below.go;by_cases hl:lo<hi
  .rw[zXS hl];dsimp only;have hm:(lo+hi) / 2<xs.size:=by omega
   have eg:xs.getD ((lo+hi) / 2) j=xs[(lo+hi) / 2]:=by simp[Array.getD,hm]
   rw[eg];by_cases hc:xs[(lo+hi) / 2]<j
   .rw[zXS hc];refine zKO h j fuel _ _ (by omega) h2 (by omega) (λi hi' hlt=>?_) b;rcases zYZ i ((lo+hi) / 2)with z|z
    .exact Nat.lt_trans (h.get z hm) hc
    .have:i=(lo+hi) / 2:=by omega
     subst this;exact hc
   .rw[zXV hc];refine zKO h j fuel _ _ (by omega) (by omega) (by omega) a (λi hi' hge=>?_);rcases zYZ ((lo+hi) / 2) i with z|z
    .have:=h.get z hi';omega
    .have:i=(lo+hi) / 2:=by omega
     subst this;omega
  .rw[zXV hl];have:lo=hi:=by omega
   subst this;exact ⟨h2,a,b⟩
def zDl (h:Up xs) (j:Nat):SetTable.below xs j<=xs.size/\(∀ i (hi':i<xs.size),i<SetTable.below xs j->xs[i]<j)/\(∀ i (hi':i<xs.size),SetTable.below xs j<=i->j<=xs[i]):=by
 unfold SetTable.below;exact zKO h j xs.size 0 xs.size (zXz _) (zXJ _) (by omega) (λi _ z=>by omega) (λi hi' z=>by omega)
def zMd (h:Up xs):SetTable.below xs 0=0:=by
 obtain ⟨a,b,c⟩:=zDl h 0;rcases Nat.eq_zero_or_pos (SetTable.below xs 0)with z|z
 .exact z
 .have:=b 0 (by omega) z;omega
def zMm (h:Up xs) (hk:k<xs.size):SetTable.below xs (xs[k]+1)=k+1:=by
 obtain ⟨a,b,c⟩:=zDl h (xs[k]+1);rcases Nat.lt_trichotomy (SetTable.below xs (xs[k]+1)) (k+1)with z|z|z
 .have:=c k hk (by omega);omega
 .exact z
 .have h1:k+1<xs.size:=by omega
  have:=b (k+1) h1 z;have:=h.get (show k<k+1 by omega) h1;omega
def zGn {α:Type} (xs:Array α) (p:Nat) (x:α):(SetTable.insertAt xs p x).toList=xs.toList.take p++x::xs.toList.drop p:=by
  unfold SetTable.insertAt;simp;have:xs.toList.length<=xs.size:=by simp
  rw[List.take_of_length_le (by simp)]
theorem zOa (h : Up xs) (hj : j ∉ xs.toList) : Up (SetTable.insertAt xs (SetTable.below xs j) j) := by
  obtain ⟨a, b, c⟩ := zDl h j;unfold Up;rw [zGn];rw [List.pairwise_append];have hT : ∀ x ∈ xs.toList.take (SetTable.below xs j), x < j := fun x hx => by
    obtain ⟨i,hi,e⟩:=List.getElem_of_mem hx;rw[List.getElem_take]at e;rw[zYb]at hi
    have h1 : i < xs.size := by have : xs.toList.length = xs.size := by simp
                                omega
    have:=b i h1 (by omega);rw[<-e];simpa using this
  have hD : ∀ x ∈ xs.toList.drop (SetTable.below xs j), j < x := fun x hx => by
    obtain ⟨i,hi,e⟩:=List.getElem_of_mem hx;rw[List.getElem_drop]at e;rw[List.length_drop]at hi
    have h1 : SetTable.below xs j + i < xs.size := by have : xs.toList.length = xs.size := by simp
                                                      omega
    have h2:=c _ h1 (by omega);have h3:x≠j:=λz=>hj (z▸List.mem_of_mem_drop hx);have e':xs[SetTable.below xs j+i]=x:=by simpa using e
    omega
  refine ⟨h.sublist (List.take_sublist _ _),zZN.mpr ⟨hD,h.sublist (List.drop_sublist _ _)⟩,λx hx y hy=>?_⟩;rcases zXP.mp hy with z|z
  .rw[z];exact hT x hx
  .exact Nat.lt_trans (hT x hx) (hD y z)
def zJF (j:Nat):SetTable.has #[] j=false:=by
 unfold SetTable.has;simp
def zNK {t:SetTable} (h:Up t.place) (he:t.slot j=.empty):j∉t.place.toList:=λhm=>by
 obtain ⟨a,b,c⟩:=zDl h j;obtain ⟨k,hk,e⟩:=List.getElem_of_mem hm;have hk':k<t.place.size:=by simpa using hk
 have e':t.place[k]=j:=by simpa using e
 have eb:SetTable.below t.place j=k:=by
  rcases Nat.lt_trichotomy (SetTable.below t.place j) k with z|z|z
  .have h1:SetTable.below t.place j<t.place.size:=by omega
   have:=c _ h1 (zXJ _);have:=h.get z hk';omega
  .exact z
  .have:=b k hk' z;omega
 unfold SetTable.slot at he;rw[eb,zXS (by simp[hk',e'])]at he;cases he
theorem zK8 (hd:t.dummies = #[]):∀ (fuel:Nat) (p:SetTable.Probe) {j:Nat} {d:Option Nat},p.dummy=none->SetTable.probe.go t hashAt h fuel p=some (.empty j d)->d=none/\t.slot j=.empty
 |0,_,_,_,_,e=>by unfold SetTable.probe.go at e;cases e
 |fuel+1,p,j,d,hp,e=>by
  unfold SetTable.probe.go at e;split at e
  .rename_i hs;cases e;exact ⟨hp,hs⟩
  .rename_i hs;unfold SetTable.slot at hs;dsimp only at hs;rw[hd,zJF]at hs;split at hs <;> first|cases hs|simp at hs
  .split at e
   .cases e
   .refine zK8 hd fuel _ ?_ e;unfold SetTable.advance;split <;> simp[hp]
def zOm {t:SetTable} (hu:Up t.place) (hd:t.dummies = #[]) (e:t.freeSlot h=some (j,b)):b=false/\j∉t.place.toList:=by
 unfold SetTable.freeSlot at e;split at e
 .rename_i j' d hp;unfold SetTable.probe at hp;obtain ⟨h1,h2⟩:=zK8 hd _ _ (by rfl) hp;subst h1;simp at e;obtain ⟨rfl,rfl⟩:=e;exact ⟨rfl,zNK hu h2⟩
 .cases e
structure TabOk (w:Yo) (t:SetTable):Prop where
 led:t.led = !w.params.followText "set-order"
 up:Up t.place
 nod:t.dummies = #[]
def zPw (n:Nat):Up (Array.range n):=by
 unfold Up;rw[Array.toList_range];exact List.pairwise_lt_range
def TabOk.standIn (h:TabOk w t) (n:Nat):TabOk w (t.standIn n):=⟨h.led,zPw n,rfl⟩
def TabOk.orStandIn (h:TabOk w t) (n:Nat):TabOk w (t.orStandIn n):=by
 unfold SetTable.orStandIn;split
 .exact h
 .exact h.standIn n
def TabOk.put (h:TabOk w t) (hj:j∉t.place.toList):TabOk w (t.put j).1:=by
 unfold SetTable.put;refine ⟨h.led,zOa h.up hj,?_⟩;rw[h.nod,zJF];rfl
theorem TabOk.layNew (h:TabOk w t) (es:Yw) (hh:Int) (x:Yu):TabOk w (layNew t es hh x).2.1:=by
 unfold PySem.layNew;split
 .rename_i j b e;exact (h.put (zOm h.up h.nod e).2).orStandIn _
 .exact h.standIn _
def TabOk.relaid (h:TabOk w t) (e:t.relaid hs wanted=some (t',order)):TabOk w t':=by
 unfold SetTable.relaid SetTable.laid at e;cases q:SetTable.layClean (SetTable.sizeAbove wanted-1) hs with
 |none=>rw[q]at e;cases e
 |some owner=>
  rw[q]at e;simp only[Option.bind_eq_bind,Option.bind_some,Option.pure_def,Option.some.injEq,Prod.mk.injEq]at e;obtain ⟨rfl,_⟩:=e;refine ⟨h.led,?_,rfl⟩;unfold Up;rw[List.pairwise_map,List.pairwise_filterMap];refine List.pairwise_lt_range.imp λ{a b} hab x hx y hy=>?_;cases o1:owner.getD a none with
  |none=>rw[o1]at hx;cases hx
  |some u=>
   cases o2:owner.getD b none with
   |none=>rw[o2]at hy;cases hy
   |some v=>
    rw[o1]at hx;rw[o2]at hy;cases hx;cases hy;exact hab
theorem TabOk.relayAll (h:TabOk w t) (es:Yw) (wanted:Nat):TabOk w (relayAll t es wanted).2.1:=by
 unfold PySem.relayAll;split
 .rename_i t' order e;dsimp only;split
  .exact h.relaid e
  .exact h.standIn _
 .exact h.standIn _
theorem TabOk.plain (h:TabOk w t) (b:Bool):TabOk w { t with plain:=b }:=⟨h.led,h.up,h.nod⟩
def TabOk.fresh:TabOk w (SetTable.fresh 0 0 (!w.params.followText "set-order")):=⟨rfl,List.Pairwise.nil,rfl⟩
open Sem (wp)
set_option genInjectivity true in
inductive F2 {α β:Type} (R:α->β->Prop):List α->List β->Prop
 |nil:F2 R [] []
 |cons {x y xs ys}:R x y->F2 R xs ys->F2 R (x::xs) (y::ys)
section
variable {prog:Ym} {w:Yo} {K:Type} [DecidableEq K]
def zU6 (knd:KeyKind prog w K) (e:Int × Value) (k:K):Prop:=(knd.is k e.2=true/\e.1=knd.hash k)/\e.2.scannable=true
structure SetK (knd:KeyKind prog w K) (o:Obj) (es:Yw) (ep:Nat) (t:SetTable) (ks:List K):Prop where
 ex:o.ExactSet
 data:o.data=.set es ep t
 tab:TabOk w t
 fits:t.fits es.size=true
 bound:es.size<scanBound
 ent:∃ ks',ks'.Perm ks/\F2 (zU6 knd) es.toList ks'
def ins (ks:List K) (k:K):List K:=if k∈ks then ks else ks++[k]
variable {knd:KeyKind prog w K} {o:Obj} {es:Yw} {ep:Nat} {t:SetTable} {ks:List K}
theorem zED {α β:Type} {R:α->β->Prop}:∀ {xs:List α} {ys:List β},F2 R xs ys->xs.length=ys.length
 |_,_,.nil=>rfl
 |_,_,.cons _ h=>by simp[zED h]
theorem zEC {α β:Type} {R:α->β->Prop}:∀ {xs:List α} {ys:List β},F2 R xs ys -> ∀ x∈xs,∃ y∈ys,R x y
 |_,_,.nil,x,hx=>by cases hx
 |_,_,.cons h r,x,hx=>by
  rcases zXP.mp hx with z|z
  .subst z;exact ⟨_,zXR,h⟩
  .obtain ⟨y,hy,q⟩:=zEC r x z;exact ⟨y,zXQ _ hy,q⟩
theorem zF0 {α β:Type} {R:α->β->Prop}:∀ {xs:List α} {ys:List β},F2 R xs ys -> ∀ y∈ys,∃ x∈xs,R x y
 |_,_,.nil,x,hx=>by cases hx
 |_,_,.cons h r,x,hx=>by
  rcases zXP.mp hx with z|z
  .subst z;exact ⟨_,zXR,h⟩
  .obtain ⟨y,hy,q⟩:=zF0 r x z;exact ⟨y,zXQ _ hy,q⟩
theorem zEO {α β:Type} {R:α->β->Prop}:∀ {xs:List α} {ys:List β} {us:List α} {vs:List β},F2 R xs ys->F2 R us vs->F2 R (xs++us) (ys++vs)
 |_,_,_,_,.nil,h=>h
 |_,_,_,_,.cons h r,q=> .cons h (zEO r q)
def zFr {α β:Type} {R:α->β->Prop} {xs xs':List α} (p:xs'.Perm xs):∀ {ys:List β},F2 R xs ys -> ∃ ys',ys'.Perm ys/\F2 R xs' ys':=by
 have p':=p.symm;clear p;induction p' with
 |nil=>intro ys h;exact ⟨ys,.refl _,h⟩
 |cons x _ ih=>
  intro ys h;cases h with
  |cons h r=>
   obtain ⟨ys',q1,q2⟩:=ih r;exact ⟨_,q1.cons _,.cons h q2⟩
 |swap x y l=>
  intro ys h;cases h with
  |cons h r=>
   cases r with
   |cons h2 r=>
    exact ⟨_,List.Perm.swap _ _ _,.cons h2 (.cons h r)⟩
 |trans _ _ ih1 ih2=>
  intro ys h;obtain ⟨ys',q1,q2⟩:=ih1 h;obtain ⟨ys'',r1,r2⟩:=ih2 q2;exact ⟨ys'',r1.trans q1,r2⟩
def SetK.size (h:SetK knd o es ep t ks):es.size=ks.length:=by
 obtain ⟨ks',p,f⟩:=h.ent;rw[<-p.length_eq,<-zED f,zXw]
def SetK.elems (h:SetK knd o es ep t ks):ElemsOf knd es.toList:=λe he=>by
 obtain ⟨ks',p,f⟩:=h.ent;obtain ⟨k,_,q⟩:=zEC f e he;exact ⟨⟨k,q.1⟩,q.2⟩
def SetK.mem (h:SetK knd o es ep t ks) (k:K):k∈ks ↔ ∃ e∈es.toList,knd.is k e.2=true:=by
 obtain ⟨ks',p,f⟩:=h.ent;rw[<-p.mem_iff];constructor
 .intro hk;obtain ⟨e,he,q⟩:=zF0 f k hk;exact ⟨e,he,q.1.1⟩
 .rintro ⟨e,he,q⟩;obtain ⟨k',hk',q'⟩:=zEC f e he;rw[knd.inj e.2 k k' q q'.1.1];exact hk'
variable {A:Yn} {E:Yc} {s:Yl} {a:Yt} {k:K} {x:Yu}
def SetK.typeIs (h:SetK knd o es ep t ks) (ho:s.heap.get? a=some o):s.TypeIs (.ref a) "set" := ⟨o,ho,h.ex.1⟩
def zJN {h:Heap} (ho:h.get? a=some o) (hd:o.data=.set es ep t) :
  (h.update a (Obj.putSet es' t')).get? a=some { o with data:=.set es' (ep+1) t' }:=by
 have:=zX0 (Obj.putSet es' t') ho (by rw[putSet_of es' t' hd];rfl);rw[putSet_of es' t' hd]at this;exact this
def zGp {Q:Bool->Shared->Prop} (hkey:knd.is k x=true) (hsc:x.scannable=true) (ho:s.heap.get? a=some o) (hS:SetK knd o es ep t ks) (hroom:ks.length+1<scanBound)
  (h:∀ h' o' es' ep' t' b,Heap.SameBut a s.heap h'->h'.get? a=some o'->SetK knd o' es' ep' t' (ins ks k)->Q b { s with heap:=h' }) :
  wpAny (model prog w) A (setAddHashed a x (knd.hash k)) Q E s:=by
 have hd:=hS.data;have hf:=hS.fits;have hel:=hS.elems;have hb:=hS.bound;have hb1:es.size+1<scanBound:=by rw[hS.size];exact hroom
 unfold setAddHashed setAddHashedIn;refine zX6 (zXD (wpAny_setState_of ho hd hf ?_));dsimp only;rw[byScan_of hsc hb hel];simp only[↓reduceIte];unfold setAddByScan;refine zXD ?_;refine zXD (zYa ?_);refine zXD (wpAny_setScan_of hkey ho hd hf hel ?_);cases hr:List.findIdx? (λe=>knd.is k e.2) es.toList with
 |some j=>
  obtain ⟨hj,hpj,_⟩:=List.findIdx?_eq_some_iff_getElem.mp hr;have hSk:k∈ks:=(hS.mem k).mpr ⟨es.toList[j],zXl hj,hpj⟩;refine zXF (zXF ?_);have e:s={ s with heap:=s.heap }:=by cases s;rfl
  rw[e];refine h s.heap o es ep t _ (Heap.SameBut.refl a s.heap) ho ?_;unfold ins;rw[zXS hSk];exact hS
 |none=>
  have hSk:k∉ks:=λhk=>by
   obtain ⟨e,he,hp⟩:=(hS.mem k).mp hk;have:=List.findIdx?_eq_none_iff.mp hr e he;rw[hp]at this;exact Bool.noConfusion this
  have hgw:∀ (b:Bool) {s₁:Shared} {Q':Unit->Shared->Prop},Q' () s₁->wpAny (model prog w) A (match b with|true=>rule "set.scan.the-table-gave-way" |false=>pure ()) Q' E s₁ :=
   λb s₁ Q' hq=>by cases b <;> first|exact zXF hq|exact zYa hq
  have hperm:=layNew_perm t es (knd.hash k) x;have hfits:=layNew_fits t es (knd.hash k) x;have htab:=hS.tab.layNew es (knd.hash k) x;generalize hL:layNew t es (knd.hash k) x=L at hperm hfits htab ⊢;obtain ⟨es1,t1,wasDummy,gave⟩:=L;rw[Array.toList_push]at hperm;have hb1':es1.size<scanBound:=by rw[<-zXw,hperm.length_eq,zXT,zXw];simpa using hb1
  obtain ⟨ks',p,f⟩:=hS.ent;have f1:F2 (zU6 knd) (es.toList++[(knd.hash k,x)]) (ks'++[k]):=zEO f (.cons ⟨⟨hkey,rfl⟩,hsc⟩ .nil);obtain ⟨ks1,p1,f2⟩:=zFr hperm f1;have pI:ks1.Perm (ins ks k):=by
   unfold ins;rw[zXV hSk];exact p1.trans (p.append_right _)
  refine zXD (hgw _ ?_)
  have tail:∀ t2:SetTable,TabOk w t2->t2.fits es1.size=true->wpAny (model prog w) A (do
    storeSet a es1 t2
    if (!wasDummy&&t2.tooFull)=true then do
      (match (relayAll t2 es1 (SetTable.grown es1.size)).2.2 with|true=>rule "set.scan.the-table-gave-way" |false=>pure ())
      storeSet a (relayAll t2 es1 (SetTable.grown es1.size)).1 (relayAll t2 es1 (SetTable.grown es1.size)).2.1;pure (some true)
     else pure (some true)) (λr s'=>wpAny (model prog w) A (match r with|some added=>pure added|none=>setAddHashedIn a x (knd.hash k) 99999) Q E s') E s:=by
   intro t2 T2 F2;refine zXD (wpAny_storeSet_of ho hd ?_ (fits_of_scanBound hb1'));have g1:=zJN (es':=es1) (t':=t2) ho hd;have sb1:=zYG s.heap a (Obj.putSet es1 t2);have S1:SetK knd { o with data:=.set es1 (ep+1) t2 } es1 (ep+1) t2 (ins ks k):=⟨hS.ex,rfl,T2,F2,hb1',ks1,pI,f2⟩;split
   .have hp:=relayAll_perm t2 es1 (SetTable.grown es1.size);have hfr:=relayAll_fits t2 es1 (SetTable.grown es1.size);have htr:=T2.relayAll es1 (SetTable.grown es1.size);generalize hRl:relayAll t2 es1 (SetTable.grown es1.size)=Rl at hp hfr htr ⊢;obtain ⟨es2,t3,gave2⟩:=Rl;have hsz:es2.size=es1.size:=by rw[<-zXw,hp.length_eq,zXw]
    have hb2:es2.size<scanBound:=by rw[hsz];exact hb1'
    obtain ⟨ks2,p2,f3⟩:=zFr hp f2;refine zXD (hgw _ ?_);refine zXD (wpAny_storeSet_of g1 rfl ?_ (fits_of_scanBound hb2));have g2:=zJN (es':=es2) (t':=t3) g1 rfl;exact zXF (zXF (h _ _ _ _ _ _ (sb1.trans (zYG _ a _)) g2 ⟨hS.ex,rfl,htr,hfr,hb2,ks2,p2.trans pI,f3⟩))
   .exact zXF (zXF (h _ _ _ _ _ _ sb1 g1 S1))
  split
  .refine zXD ?_;rw[hashByValue_scannable 8 hsc];refine zXF ?_;refine tail _ ?_ ?_
   .split
    .exact htab
    .exact htab.plain _
   .split
    .exact hfits
    .exact SetTable.fits_plain_off hfits
  .refine zXD (zXF ?_);simp only[↓reduceIte];exact tail _ htab hfits
def zRC (hkey:knd.is k x=true) (hsc:x.scannable=true) (ho:s.heap.get? a=some o) (hS:SetK knd o es ep t ks) (hroom:ks.length+1<scanBound)
  (h:∀ h' o' es' ep' t',Heap.SameBut a s.heap h'->h'.get? a=some o'->SetK knd o' es' ep' t' (ins ks k)->Q .none { s with heap:=h',toks:=s.toks+1 }) :
  wpAny (model prog w) A (call (.builtin "set.add") [.ref a,x]) Q E s:=by
 refine zXq F.slot_set_add (hS.typeIs ho) F.entry_set_add ?_ (F.args_set_add_2 _ _);unfold Builtin.«set.add» Builtin.Frozenset.oneOther;simp only[List.isEmpty_nil,bind_assoc];unfold Builtin.Frozenset.addrOf setAdd;refine zXD (zXF ?_);try dsimp only
 refine zXD (zXF ?_);try dsimp only
 refine zXD ?_;refine zX6 ?_;refine zXD (knd.pyHash hkey ?_);refine zGp (s:={ s with toks:=s.toks+1 }) hkey hsc ho hS hroom λh' o' es' ep' t' b hsb ho' hS'=>?_;exact zXF ⟨_,rfl,h h' o' es' ep' t' hsb ho' hS'⟩
def zCG (w:World):Obj:={ cls:=.type "set", dict:=none,data:=.set #[] 0 (.fresh 0 0 (!w.params.followText "set-order")) }
def SetK.fresh:SetK knd (zCG w) #[] 0 (.fresh 0 0 (!w.params.followText "set-order")) []:=⟨⟨rfl,rfl,rfl⟩,rfl,.fresh,by rfl,by decide,[],.refl _,.nil⟩
def zOH (h:Q (.ref s.heap.objs.size) { s with heap:=s.heap.push (zCG w) }) :
  wpAny (model prog w) A (newSet (.type "set")) Q E s:=by
 unfold newSet setsByText;refine zXD (zXD (wpAny_askSetting (zXF ?_)));simp only[newObj];exact zXD (wpAny_alloc (zXF h))
end
open PySem.Spec PyProof.Rows
open Sem (wp)
def zL4:Manifest.owners.lookup (String.ofList ['r','o','t','a','r','e','t','i','_','t','e','s'].reverse)=some Manifest.sig_set_iterator:=by kernel_rfl
def zAN:Slot "set_iterator" "__next__" "set_iterator.__next__" := .of (owner := "set_iterator") (n := "__next__") (by rw[typeLookup_type,builtinLookup_eq_fast];kernel_rfl) (by decide +kernel) (by decide +kernel) (by decide +kernel) (by first|exact .inl (by decide +kernel)|exact .inr (by decide +kernel)) (by rw[isSubtype_type];kernel_rfl)
def zFu:Slot "set_iterator" "__iter__" "set_iterator.__iter__" := .of (owner := "set_iterator") (n := "__iter__") (by rw[typeLookup_type,builtinLookup_eq_fast];kernel_rfl) (by decide +kernel) (by decide +kernel) (by decide +kernel) (by first|exact .inl (by decide +kernel)|exact .inr (by decide +kernel)) (by rw[isSubtype_type];kernel_rfl)
def zCS (a:Value):argsOk "set_iterator.__next__" ⟨[a],[]⟩:=by
 unfold argsOk;rw[signature?_of (id := "set_iterator.__next__") (n:=['_','_','t','x','e','n','_','_']) (o:=['r','o','t','a','r','e','t','i','_','t','e','s']) (by kernel_rfl) zL4];kernel_rfl
def zKJ (a:Value):argsOk "set_iterator.__iter__" ⟨[a],[]⟩:=by
 unfold argsOk;rw[signature?_of (id := "set_iterator.__iter__") (n:=['_','_','r','e','t','i','_','_']) (o:=['r','o','t','a','r','e','t','i','_','t','e','s']) (by kernel_rfl) zL4];kernel_rfl
def zB8:entryFor table "set_iterator.__next__" = some Builtin.«set_iterator.__next__»:=entryFor_of_tree (by kernel_rfl)
def zIO:entryFor table "set_iterator.__iter__" = some Builtin.«dict_keyiterator.__iter__» :=
 entryFor_alias (id' := "dict_keyiterator.__iter__") (by kernel_rfl) (by first|rfl|decide +kernel|(unfold String.splitOn;simp +decide [String.splitOnAux])) (by decide +kernel) (by kernel_rfl)
def zHc:entryFor table "set.__iter__" = some Builtin.«frozenset.__iter__» :=
 entryFor_alias (id' := "frozenset.__iter__") (by kernel_rfl) rfl (by decide +kernel) (by kernel_rfl)
def zBX (f:Value) (i:Nat) (a:Addr) (n ep:Nat):Obj:={ cls:=.type "set_iterator", data:=.fields #[f,rawInt i,.ref a,rawInt n,rawInt ep] }
theorem zFF {α:Type}:∀ {l:List α} {i:Nat} (h:i<l.length),(l[i]::l.eraseIdx i).Perm l
 |[],i,h=>by simp at h
 |x::l,0,h=>by simp
 |x::l,i+1,h=>by
  have:=zFF (l:=l) (i:=i) (by simpa using h);rw[List.getElem_cons_succ,List.eraseIdx_cons_succ];exact (List.Perm.swap _ _ _).trans (this.cons x)
def zIw {α:Type} {l:List α} (h:i<l.length) (e:n+1=l.length):n=(l.eraseIdx i).length:=by
 rw[List.length_eraseIdx,zXS h];omega
theorem zJD {α:Type} (next:Nat->Nat):∀ (fuel k:Nat) (left:List α) (out:Array α),fuel=left.length->(pickOrder.go next fuel k left out).toList.Perm (out.toList++left)
 |0,k,left,out,h=>by
  have:left=[]:=List.length_eq_zero_iff.mp h.symm;subst this;unfold pickOrder.go;simp
 |fuel+1,k,left,out,h=>by
  unfold pickOrder.go;have hl:0<left.length:=by omega
  have hm:next k % left.length<left.length:=Nat.mod_lt _ hl
  rw[zXH hm];refine (zJD next fuel (k+1) _ _ (zIw hm h)).trans ?_;rw[Array.toList_push,zYJ];exact (zFF hm).append_left _
def zEP {α:Type} (next:Nat->Nat) (xs:Array α):(pickOrder next xs).toList.Perm xs.toList:=by
 unfold pickOrder;simpa using zJD next xs.size 0 xs.toList #[] (by simp)
section
variable {prog:Ym} {w:Yo} {A:Yn} {E:Yc} {s:Yl}
def zKK (h0:n≠0) (h:∀ r d,r<n->Q r { s with drawn:=d }):wpAny (model prog w) A (choose src n) Q E s :=
 λΓ p hΓ=>⟨h0,h _ _ (Nat.mod_lt _ (by omega))⟩
theorem zD0 {α:Type}:∀ (n:Nat) (xs:List α) {s:Yl} {Q:List α->Shared->Prop},n=xs.length->(∀ ys d,ys.Perm xs->Q ys { s with drawn:=d })->wpAny (model prog w) A (drawOrder n xs) Q E s
 |0,xs,s,Q,h,q=>by
  have:xs=[]:=List.length_eq_zero_iff.mp h.symm;subst this;have e:s={ s with drawn:=s.drawn }:=by cases s;rfl
  rw[e];exact zXF (q [] s.drawn (.refl _))
 |n+1,[],s,Q,h,q=>by cases h
 |n+1,x::xs,s,Q,h,q=>by
  unfold drawOrder;refine zXD (zKK (by simp) λr d hr=>?_);rw[zXH hr];refine zXD (zD0 n _ (zIw hr h) λys d' hp=>zXF ?_);exact q _ d' ((hp.cons _).trans (zFF hr))
variable {K:Type} [DecidableEq K] {knd:KeyKind prog w K} {o:Obj} {es:Yw} {ep:Nat} {t:SetTable} {ks:List K} {a I:Yt}
def zIG (h:s.heap.get? I=some (zBX f i a n ep)):s.TypeIs (.ref I) "set_iterator" := ⟨_,h,rfl⟩
def zN2 (hI:s.heap.get? I=some (zBX f i a n ep)) (h:Q (.ref I) s):wpAny (model prog w) A (pyIter (.ref I)) Q E s:=by
 refine wpAny_pyIter_slot (zIG hI) zFu (zXq zFu (zIG hI) zIO ?_ (zKJ _));exact zXF ⟨_,rfl, "set_iterator", _,zIG hI,zAN.lookup,h⟩
structure Nexts (prog:Ym) (w:Yo) (o:Obj) (a:Yt) (ep:Nat) (n:Nat) (at_:Nat->Nat) (ord:Yf):Prop where
 len:ord.length=n
 nx:∀ (A:Yn) (E:Yc) (i:Nat) (s:Yl) (Q:Option (Value × Nat)->Shared->Prop),i<=n->s.heap.get? a=some o->Q ((ord[i]?).map λx=>(x,at_ (i+1))) s->wpAny (model prog w) A (setNext a (at_ i) i ep) Q E s
def zPN (N:Nexts prog w o a ep ks.length at_ ord) (hS:SetK knd o es ep t ks) (hI:s.heap.get? I=some (zBX (rawInt (at_ i)) i a ks.length ep)) (ho:s.heap.get? a=some o)
  (hx:ord[i]?=some x) (hQ:∀ h',h'.get? I=some (zBX (rawInt (at_ (i+1))) (i+1) a ks.length ep)->Heap.SameBut I s.heap h'->Q (some x) { s with heap:=h' }):wpAny (model prog w) A (pyNext (.ref I)) Q E s:=by
 have hT:=zIG hI;have hi:i<ks.length:=by have:=(zXG.mp hx).1;rw[N.len]at this;exact this
 unfold pyNext;refine zXD (wpAny_attempt (zXp (name:=Str.ofString "__next__") hT zAN (zXq zAN hT zB8 ?_ (zCS _))));unfold Builtin.«set_iterator.__next__» slotArgs;simp only[List.isEmpty_nil,Bool.not_true,zYE,↓reduceIte,List.length_nil,bne_self_eq_false,pure_bind,bind_assoc];refine zXD (wpAny_fieldsOf hI rfl ?_);dsimp only[rawInt];refine zXD (wpAny_setEntries_of ho hS.data hS.fits ?_);rw[zXV (by rw[hS.size];simp)];refine zXD (N.nx _ _ i s _ (by omega) ho ?_);rw[hx];dsimp only[Option.map];refine zXD (wpAny_setField hI rfl (by simp) ?_);have e1:=zX0 (Obj.mapFields λvs=>vs.set! 0 (rawInt (at_ (i+1)))) hI (Obj.isFreed_of_fields (zYU rfl _));refine zXD (wpAny_setField e1 (zYU rfl _) (by simp) ?_);have e2:=zX0 (Obj.mapFields λvs=>vs.set! 1 (rawInt ((i:Int)+1))) e1 (Obj.isFreed_of_fields (zYU (zYU rfl _) _));refine zXF ⟨x,rfl,zXF (hQ _ ?_ ((zYG ..).trans (zYG ..)))⟩;refine e2.trans ?_;simp[Obj.mapFields,zBX,rawInt]
end
open Sem (wp)
section
variable {prog:Ym} {w:Yo} {A:Yn} {E:Yc} {s:Yl}
variable {K:Type} [DecidableEq K] {knd:KeyKind prog w K} {o:Obj} {es:Yw} {ep:Nat} {t:SetTable} {ks:List K} {a I:Yt}
def zPb (hh:A.handled=none) (N:Nexts prog w o a ep ks.length at_ ord) (hS:SetK knd o es ep t ks) (hI:s.heap.get? I=some (zBX (rawInt (at_ ks.length)) ks.length a ks.length ep)) (ho:s.heap.get? a=some o)
  (hQ:∀ h',Heap.ExtBut I s.heap h'->Q none { s with heap:=h' }):wpAny (model prog w) A (pyNext (.ref I)) Q E s:=by
 have hT:=zIG hI;unfold pyNext;refine zXD (wpAny_attempt (zXp (name:=Str.ofString "__next__") hT zAN (zXq zAN hT zB8 ?_ (zCS _))));unfold Builtin.«set_iterator.__next__» slotArgs;simp only[List.isEmpty_nil,Bool.not_true,zYE,↓reduceIte,List.length_nil,bne_self_eq_false,pure_bind,bind_assoc];refine zXD (wpAny_fieldsOf hI rfl ?_);dsimp only[rawInt];refine zXD (wpAny_setEntries_of ho hS.data hS.fits ?_);rw[zXV (by rw[hS.size];simp)];refine zXD (N.nx _ _ ks.length s _ (zXJ _) ho ?_);rw[zYM (by rw[N.len];exact zXJ _)];dsimp only[Option.map];refine zXD (wpAny_setField hI rfl (by simp) ?_);simp only[newExc,newTuple,bind_assoc,pure_bind];refine zXD (zXg (zXD (m:=firstArgMember _ _) (wpAny_of_eq (a:=Value.none) (by first|rfl|(simp only[firstArgMember];rfl)) (zXD (zXg ?_ (by size_fits))))) (by size_fits));simp only[raiseNew];refine zXD (wpAny_handled ?_);rw[show A.in1.handled=none from hh];refine zXD (zXF (wpAny_throw ?_));refine zXD (wpAny_isInstance (T := "StopIteration") (b:=true) ⟨_,zXN _ rfl,rfl⟩ isSubtype_stop (zXF ?_));exact hQ _ (((zYG ..).extBut.push _).push _)
def zLq (hh:A.handled=none) (hne:a≠I) (N:Nexts prog w o a ep ks.length at_ ord) (hS:SetK knd o es ep t ks) :
  Walks prog w A I [I,a] [I] ks.length (λi v=>ord[i]?=some v) (λi h=>h.get? I=some (zBX (rawInt (at_ i)) i a ks.length ep)/\h.get? a=some o) where
 sub:=λb hb=>by simp at hb;simp[hb]
 frame:=λ_ _ _ st hk=>⟨hk I (by simp) _ st.1,hk a (by simp) _ st.2⟩;item:=λi s Q E hi st hQ=>by
  have hx:ord[i]?=some (ord[i]'(by rw[N.len];exact hi)):=zXH _;refine zPN N hS st.1 st.2 hx λh' hI' hs'=>?_;exact hQ _ h' s.toks hx ⟨hI',hs'.extBut a o hne st.2⟩ λb u hb ee=>hs'.extBut b u (λh=>hb (by simp[h])) ee
 done:=λs Q E st hQ=>zPb hh N hS st.1 st.2 λh' he'=>hQ h' s.toks λb u hb ee=>he' b u (λh=>hb (by simp[h])) ee;self:=λ_ _ _ _ st hQ=>zN2 st.1 hQ
def zMT {pl:Yj} (hS:SetK knd o es ep t ks) (hl:pl.length=ks.length) (hI:s.heap.get? I=some (zBX (.ref T) i a ks.length ep)) (ho:s.heap.get? a=some o)
  (hT:IsTup s.heap T (pl.map λ(k:Nat)=>rawInt k).toArray)
  (hx:(pl[i]?).bind (λk=>(es[k]?).map (·.2))=some x) (hQ:∀ h',h'.get? I=some (zBX (.ref T) (i+1) a ks.length ep)->Heap.SameBut I s.heap h'->Q (some x) { s with heap:=h' }):wpAny (model prog w) A (pyNext (.ref I)) Q E s:=by
 have hTy:=zIG hI;obtain ⟨oT,hoT,hcT,nT,hdT⟩:=id hT;cases hp:pl[i]? with
 |none=>rw[hp]at hx;cases hx
 |some k=>
  rw[hp]at hx;cases he:es[k]? with
  |none=>simp only[Option.bind_some]at hx;rw[he]at hx;cases hx
  |some e=>
   simp only[Option.bind_some]at hx;rw[he]at hx;cases hx;unfold pyNext;refine zXD (wpAny_attempt (zXp (name:=Str.ofString "__next__") hTy zAN (zXq zAN hTy zB8 ?_ (zCS _))));unfold Builtin.«set_iterator.__next__» slotArgs;simp only[List.isEmpty_nil,Bool.not_true,zYE,↓reduceIte,List.length_nil,bne_self_eq_false,pure_bind,bind_assoc];refine zXD (wpAny_fieldsOf hI rfl ?_);dsimp only[rawInt];refine zXD (wpAny_setEntries_of ho hS.data hS.fits ?_);rw[zXV (by rw[hS.size];simp)];refine zXD (zX3 hoT hdT ?_);dsimp only;have e5:(List.map (λ(k:Nat)=>rawInt k) pl).toArray[(i:Int).toNat]?=some (rawInt k):=by simp[hp]
   rw[e5];dsimp only[rawInt];unfold setNextDrawn;simp only[bind_assoc];refine zXD (wpAny_setState_of ho hS.data hS.fits ?_);rw[zXV (by simp)];have e6:es[(k:Int).toNat]?=some e:=by simpa using he
   rw[e6];obtain ⟨e1,e2⟩:=e;simp only[pure_bind];refine zXD (wpAny_setField hI rfl (by simp) ?_);refine zXF ⟨e2,rfl,zXF (hQ _ ?_ (zYG ..))⟩;refine (zX0 _ hI (Obj.isFreed_of_fields (zYU rfl _))).trans ?_;simp[Obj.mapFields,zBX,rawInt]
def zN7 {pl:Yj} (hh:A.handled=none) (hS:SetK knd o es ep t ks) (hl:pl.length=ks.length) (hI:s.heap.get? I=some (zBX (.ref T) ks.length a ks.length ep)) (ho:s.heap.get? a=some o)
  (hT:IsTup s.heap T (pl.map λ(k:Nat)=>rawInt k).toArray) (hQ:∀ h',Heap.ExtBut I s.heap h'->Q none { s with heap:=h' }):wpAny (model prog w) A (pyNext (.ref I)) Q E s:=by
 have hTy:=zIG hI;obtain ⟨oT,hoT,hcT,nT,hdT⟩:=id hT;unfold pyNext;refine zXD (wpAny_attempt (zXp (name:=Str.ofString "__next__") hTy zAN (zXq zAN hTy zB8 ?_ (zCS _))));unfold Builtin.«set_iterator.__next__» slotArgs;simp only[List.isEmpty_nil,Bool.not_true,zYE,↓reduceIte,List.length_nil,bne_self_eq_false,pure_bind,bind_assoc];refine zXD (wpAny_fieldsOf hI rfl ?_);dsimp only[rawInt];refine zXD (wpAny_setEntries_of ho hS.data hS.fits ?_);rw[zXV (by rw[hS.size];simp)];refine zXD (zX3 hoT hdT ?_);dsimp only;have e5:(List.map (λ(k:Nat)=>rawInt k) pl).toArray[(ks.length:Int).toNat]?=none:=by simp[hl]
 rw[e5];dsimp only[rawInt];refine zXD (wpAny_setField hI rfl (by simp) ?_);have e1:=zX0 (Obj.mapFields λvs=>vs.set! 0 (rawInt 0)) hI (Obj.isFreed_of_fields (zYU rfl _));refine zXD (wpAny_setField e1 (zYU rfl _) (by simp) ?_);simp only[newExc,newTuple,bind_assoc,pure_bind];refine zXD (zXg (zXD (m:=firstArgMember _ _) (wpAny_of_eq (a:=Value.none) (by first|rfl|(simp only[firstArgMember];rfl)) (zXD (zXg ?_ (by size_fits))))) (by size_fits));simp only[raiseNew];refine zXD (wpAny_handled ?_);rw[show A.in1.handled=none from hh];refine zXD (zXF (wpAny_throw ?_));refine zXD (wpAny_isInstance (T := "StopIteration") (b:=true) ⟨_,zXN _ rfl,rfl⟩ isSubtype_stop (zXF ?_));exact hQ _ ((((zYG ..).trans (zYG ..)).extBut.push _).push _)
def zK9 {pl:Yj} (hh:A.handled=none) (hne:a≠I) (hneT:T≠I) (hS:SetK knd o es ep t ks) (hl:pl.length=ks.length) (hb:∀ k∈pl,k<es.size) :
  Walks prog w A I [I,a,T] [I] ks.length (λi v=>(pl[i]?).bind (λk=>(es[k]?).map (·.2))=some v) (λi h=>h.get? I=some (zBX (.ref T) i a ks.length ep)/\h.get? a=some o/\IsTup h T (pl.map λ(k:Nat)=>rawInt k).toArray) where
 sub:=λb hb=>by simp at hb;simp[hb]
 frame:=λ_ _ _ st hk=>⟨hk I (by simp) _ st.1,hk a (by simp) _ st.2.1,let ⟨oT,ho,r⟩:=st.2.2;⟨oT,hk T (by simp) oT ho,r⟩⟩;item:=λi s Q E hi st hQ=>by
  have hi':i<pl.length:=by rw[hl];exact hi
  have hk:pl[i]<es.size:=hb _ (zXl hi');have hx:(pl[i]?).bind (λk=>(es[k]?).map (·.2))=some (es[pl[i]].2):=by
   rw[zXH hi'];simp[hk]
  refine zMT hS hl st.1 st.2.1 st.2.2 hx λh' hI' hs'=>?_;exact hQ _ h' s.toks hx ⟨hI',hs'.extBut a o hne st.2.1,st.2.2.extBut hs'.extBut hneT⟩ λb u hb ee=>hs'.extBut b u (λh=>hb (by simp[h])) ee
 done:=λs Q E st hQ=>zN7 hh hS hl st.1 st.2.1 st.2.2 λh' he'=>hQ h' s.toks λb u hb ee=>he' b u (λh=>hb (by simp[h])) ee;self:=λ_ _ _ _ st hQ=>zN2 st.1 hQ
end
open Sem (wp)
def zOv {prog:Ym} {w:Yo} {A:Yn} {I:Yt} {fp wr:Yg} {n:Nat} {P P':Nat->Value->Prop} {St:Nat->Heap->Prop} (W:Walks prog w A I fp wr n P St) (h:∀ i v,P i v->P' i v):Walks prog w A I fp wr n P' St where
 sub:=W.sub;frame:=W.frame;item:=λi s Q E hi st hQ=>W.item i s Q E hi st λv h' tk hP=>hQ v h' tk (h i v hP);done:=W.done;self:=W.self
section
variable {prog:Ym} {w:Yo} {A:Yn} {E:Yc} {s:Yl}
variable {K:Type} [DecidableEq K] {knd:KeyKind prog w K} {o:Obj} {es:Yw} {ep:Nat} {t:SetTable} {ks:List K} {a I:Yt}
def zC2 (h:Q (w.params.followText "set-order") s):wpAny (model prog w) A setsByText Q E s:=by
 unfold setsByText;exact zXD (wpAny_askSetting (zXF h))
def zMP (hS:SetK knd o es ep t ks) (hT:w.params.followText "set-order" = true):Nexts prog w o a ep ks.length (λ_=>0) ((pickOrder (w.params.setOrder a ep) es).toList.map (·.2)) where
 len:=by rw[zXM,(zEP _ es).length_eq,zXw,hS.size]
 nx:=λA E i s Q hi ho hQ=>by
  unfold setNext;refine zXD (wpAny_setState_of ho hS.data hS.fits ?_);refine zXD (zC2 ?_);rw[hT,zXS rfl,zXV (by simp)];refine zXD ?_;unfold setWalk;refine zXD (wpAny_setState_of ho hS.data hS.fits ?_);refine zXD (zC2 ?_);rw[hT,zXS rfl];refine zXD (wpAny_askSetting (zXF ?_));refine zXF ?_;have e:(Option.map (λ(e:Int × Value)=>(e.2,0)) (pickOrder (w.params.setOrder a ep) es)[i]?)=Option.map (λx=>(x,0)) ((pickOrder (w.params.setOrder a ep) es).toList.map (·.2))[i]?:=by
   rw[zXa,Array.getElem?_toList];cases (pickOrder (w.params.setOrder a ep) es)[i]? <;> rfl
  show Q (Option.map (λ(e:Int × Value)=>(e.2,0)) (pickOrder (w.params.setOrder a ep) es)[i]?) s;rw[e];exact hQ
def zMN (t:SetTable):Nat->Nat
 |0=>0
 |i+1=>t.place.getD i 0+1
def zPl (h:Up t.place) (hi:i<=t.place.size):SetTable.below t.place (zMN t i)=i:=by
 cases i with
 |zero=>exact zMd h
 |succ i=>
  show SetTable.below t.place (t.place.getD i 0+1)=i+1;have hl:i<t.place.size:=by omega
  have e:t.place.getD i 0=t.place[i]:=by simp[Array.getD,hl]
  rw[e];exact zMm h hl
def zN6 (hS:SetK knd o es ep t ks):t.place.size=es.size:=by
 have:=hS.fits;simp only[SetTable.fits,zXn,beq_iff_eq]at this;exact this.1
def zKs (hS:SetK knd o es ep t ks) (hT:w.params.followText "set-order" = false) (hd:(!t.plain&&decide (es.size>1))=false):Nexts prog w o a ep ks.length (zMN t) (es.toList.map (·.2)) where
 len:=by rw[zXM,zXw,hS.size]
 nx:=λA E i s Q hi ho hQ=>by
  have hz:=zN6 hS;unfold setNext;refine zXD (wpAny_setState_of ho hS.data hS.fits ?_);refine zXD (zC2 ?_);rw[hT,zXV (by decide)];show wpAny _ _ (if (!t.plain&&decide (es.size>1))=true then _ else _) _ _ _;rw[zXV (by rw[hd];decide)];have hl:t.led=true:=by rw[hS.tab.led,hT];rfl
  refine zXD ?_;show wpAny _ _ (if (!t.led && !es.isEmpty)=true then unsupported "set:maker-not-led" else pure ()) _ _ _;rw[zXV (by rw[hl];simp)];refine zXF ?_;rw[zPl hS.tab.up (by rw[hz,hS.size];exact hi)];refine zXF ?_;rw[zXa,Array.getElem?_toList]at hQ;by_cases q:i<es.size
  .have q2:i<t.place.size:=by rw[hz];exact q
   rw[zXy q,zXy q2];rw[zXy q]at hQ;have e:zMN t (i+1)=t.place[i]+1:=by
    show t.place.getD i 0+1=_;simp[Array.getD,q2]
   simp only[Option.map]at hQ;rw[e]at hQ;exact hQ
  .have:i=es.size:=by rw[hS.size]at q ⊢;omega
   rw[Array.getElem?_eq_none (by omega)]at hQ ⊢;exact hQ
def zQU (ho:s.heap.get? a=some o) (hS:SetK knd o es ep t ks)
  (h:∀ (h':Heap) (d:Drawn) (I:Yt) (fp:Yg) (ord:Yf) (St:Nat->Heap->Prop),(∀ b u,s.heap.get? b=some u->h'.get? b=some u)->s.heap.objs.size<=I->(∀ b∈fp,b<h'.objs.size/\(b=a\/s.heap.objs.size<=b)) ->
   (∀ A:Around,A.handled=none->Walks prog w A I fp [I] ks.length (λi v=>ord[i]?=some v) St)->St 0 h'->ord.Perm (es.toList.map (·.2))->Q (.ref I) { s with heap:=h',drawn:=d }) :
  wpAny (model prog w) A (pyIter (.ref a)) Q E s:=by
 have hT:=hS.typeIs ho;have hal:a<s.heap.objs.size:=zXO ho;refine wpAny_pyIter_slot hT F.slot_set_iter (zXq F.slot_set_iter hT zHc ?_ (F.args_set_iter_1 _));unfold Builtin.«frozenset.__iter__» Builtin.Frozenset.slot0 slotArgs Builtin.Frozenset.addrOf Builtin.Frozenset.sizeOf;simp only[List.isEmpty_nil,Bool.not_true,zYE,↓reduceIte,List.length_nil,bne_self_eq_false,pure_bind,bind_assoc];refine zXD (wpAny_setEntries_of ho hS.data hS.fits ?_);unfold setDrawn;simp only[bind_assoc];refine zXD (wpAny_setState_of ho hS.data hS.fits ?_);refine zXD (zC2 ?_);simp only[pure_bind];have hsz:=hS.size;have plain:∀ (at_:Nat->Nat) (ord:Yf),at_ 0=0->Nexts prog w o a ep ks.length at_ ord->ord.Perm (es.toList.map (·.2))->Q (.ref s.heap.objs.size) { s with heap:=s.heap.push (zBX (rawInt 0) 0 a ks.length ep) }:=by
  intro at_ ord h0 N hp;have e:s.heap.push (zBX (rawInt 0) 0 a ks.length ep)=s.heap.push (zBX (rawInt 0) 0 a ks.length ep):=rfl
  have:=h (s.heap.push (zBX (rawInt 0) 0 a ks.length ep)) s.drawn s.heap.objs.size [s.heap.objs.size,a] ord (λi h=>h.get? s.heap.objs.size=some (zBX (rawInt (at_ i)) i a ks.length ep)/\h.get? a=some o)
   (λb u e=>zXE _ e) (zXJ _) (λb hb=>by
    rw[zXt];rcases zXP.mp hb with z|z
    .rw[z];exact ⟨zYA _,.inr (zXJ _)⟩
    .rw[zXf.mp z];exact ⟨zX2 hal,.inl rfl⟩)
   (λA hh=>zLq hh (zXY hal) N hS) ⟨by rw[h0];exact zXN _ rfl,zXE _ ho⟩ hp
  exact this
 have mk:∀ (s1:Yl) (f:Yu) (hv:s1.heap.get? a=some o) {Q':Fin->Shared->Prop},Q' (.done (.ret (.ref s1.heap.objs.size))) { s1 with heap:=s1.heap.push (zBX f 0 a ks.length ep) }->wpAny (model prog w) A.in1 (do
   let e <- setEpoch a;let r <- newFields "set_iterator" [f,rawInt 0,Value.ref a,rawInt es.size,rawInt e];ret r) Q' E s1:=by
  intro s1 f hv Q' hq;refine zXD (wpAny_setEpoch_of hv hS.data hS.fits ?_);unfold newFields;refine zXD (zXg (zXF ?_));rw[hsz];exact hq
 have ty:∀ (s1:Shared) (f:Value),(∃ T' r,Shared.TypeIs { s1 with heap:=s1.heap.push (zBX f 0 a ks.length ep) } (.ref s1.heap.objs.size) T'/\typeLookup (Value.type T') (Str.ofString "__next__")=pure (some r)/\True):=λs1 f=>⟨"set_iterator", _,⟨_,zXN _ rfl,rfl⟩,zAN.lookup,trivial⟩;show wpAny _ _ (if (!w.params.followText "set-order" && (!t.plain&&decide (es.size>1)))=true then _ else _) _ _ _;by_cases hc:(!w.params.followText "set-order" && (!t.plain&&decide (es.size>1)))=true
 .rw[zXS hc];refine zXD (zD0 _ _ (by simp) λpl d hp=>?_);refine zXD ?_;unfold newTuple;have hpl:pl.length=ks.length:=by rw[hp.length_eq,zZA,hsz]
  refine zXg ?_ (by
   show (List.map (λ(i:Nat)=>rawInt i) pl).toArray.size<=sizeLine;rw[zXL,zXM,hpl,<-hsz];exact fits_of_scanBound hS.bound)
  generalize hH:s.heap.push { cls:=.type "tuple", data:=.seq (List.map (λ(i:Nat)=>rawInt i) pl).toArray }=H;have kH:∀ b u,s.heap.get? b=some u->H.get? b=some u:=λb u e=>by rw[<-hH];exact zXE _ e
  have hT1:IsTup H s.heap.objs.size (pl.map λ(k:Nat)=>rawInt k).toArray:=⟨_,by rw[<-hH];exact zXN _ rfl,rfl,0,rfl⟩;have szH:H.objs.size=s.heap.objs.size+1:=by rw[<-hH];exact zXt ..
  have szlt:s.heap.objs.size<H.objs.size:=by rw[szH];exact zYA _
  have alt:a<H.objs.size:=Nat.lt_trans hal szlt;refine mk { s with heap:=H,drawn:=d } (.ref s.heap.objs.size) (kH _ _ ho) ?_;obtain ⟨T',r,e1,e2,_⟩:=ty { s with heap:=H,drawn:=d } (.ref s.heap.objs.size);refine ⟨_,rfl,T',r,e1,e2,?_⟩;have kH2:∀ b u,s.heap.get? b=some u->(H.push (zBX (.ref s.heap.objs.size) 0 a ks.length ep)).get? b=some u:=λb u e=>zXE _ (kH b u e);refine h _ d H.objs.size [H.objs.size,a,s.heap.objs.size] (pl.map λk=>((es[k]?).map (·.2)).getD .none) (λi h=>h.get? H.objs.size=some (zBX (.ref s.heap.objs.size) i a ks.length ep)/\h.get? a=some o/\IsTup h s.heap.objs.size (pl.map λ(k:Nat)=>rawInt k).toArray) kH2 (by rw[szH];exact Nat.le_succ _) (λb hb=>?_) (λA hh=>?_) ⟨zXN _ rfl,kH2 a o ho,?_⟩ ?_
  .rw[zXt];simp only[zXP,zXi,zYY]at hb;rcases hb with z|z|z
   .rw[z];exact ⟨zYA _,.inr (Nat.le_of_lt szlt)⟩
   .rw[z];exact ⟨zX2 alt,.inl rfl⟩
   .rw[z];exact ⟨zX2 szlt,.inr (zXJ _)⟩
  .have hb:∀ k∈pl,k<es.size:=λk hk=>by have:=hp.mem_iff.mp hk;simpa using this
   refine zOv (zK9 hh (a:=a) (I:=H.objs.size) (T:=s.heap.objs.size) (zXY alt) (zXY szlt) hS hpl hb) λi v hv=>?_;rw[zXa];cases q:pl[i]? with
   |none=>rw[q]at hv;cases hv
   |some k=>
    rw[q]at hv;simp only[Option.bind_some]at hv;rw[Option.map_some,hv];rfl
  .exact hT1.push _
  .have e:es.toList.map (·.2)=(List.range es.size).map λk=>((es[k]?).map (·.2)).getD .none:=by
    apply zZZ;intro i;rw[zXa,zXa,Array.getElem?_toList];by_cases q:i<es.size
    .rw[zZH q,zXy q];simp[q]
    .rw[Array.getElem?_eq_none (by omega),zYM (by simp;omega)];rfl
   rw[e];exact hp.map _
 .rw[zXV hc];refine mk s (rawInt 0) ho ?_;obtain ⟨T',r,e1,e2,_⟩:=ty s (rawInt 0);refine ⟨_,rfl,T',r,e1,e2,?_⟩;cases hX:w.params.followText "set-order" with
  |true=>exact plain _ _ rfl (zMP hS hX) ((zEP _ es).map _)
  |false=>
   rw[hX]at hc;exact plain _ _ rfl (zKs hS hX (by simpa using hc)) (.refl _)
end
open Sem (wp)
section
variable {prog:Ym} {w:Yo} {A:Yn} {E:Yc} {s:Yl}
variable {K:Type} [DecidableEq K] {knd:KeyKind prog w K} {o:Obj} {es:Yw} {ep:Nat} {t:SetTable} {ks:List K} {a I:Yt}
def zRr:isSubtype (.type "set") (.type "set")=pure true:=sub_set_self
def zPa (hT:s.TypeIs (.ref a) "set") (h:Q false s):wpAny (model prog w) A (Builtin.List.listLengthHint (.ref a)) Q E s:=by
 unfold Builtin.List.listLengthHint;refine zXD (wpAny_specialOf hT F.slot_set_len.lookup ?_);have hsp:splitId "set.__len__" = some ("set", "__len__"):=by decide +kernel
 dsimp only;rw[hsp];refine zXD (wpAny_isInstance hT zRr ?_);rw[zXV (by decide),zXS (by decide +kernel)];refine zXD (wpAny_typeOf hT ?_);exact zXF h
def zLx (hh:A.handled=none) (ho:s.heap.get? a=some o) (hS:SetK knd o es ep t ks)
  (hQ:∀ (s':Yl) (acc:Yf),(∀ b u,s.heap.get? b=some u->s'.heap.get? b=some u)->s'.os=s.os->s'.gens=s.gens->acc.Perm (es.toList.map (·.2))->Q acc s'):wpAny (model prog w) A (collect (.ref a)) Q E s:=by
 have hal:a<s.heap.objs.size:=zXO ho;have hn:ks.length<=sizeLine:=by rw[<-hS.size];exact fits_of_scanBound hS.bound
 unfold collect;refine zXD (wpAny_runValue (codeAny_builtin F.entry_proto_collect ?_));rw[Around.under_plainId F.plain_proto_collect _];refine zXD (zXg (zXF ⟨plainId_quiet F.plain_list_iadd _,codeAny_builtin F.entry_list_iadd ?_⟩));rw[Around.under_plainId F.plain_list_iadd _];generalize hH:s.heap.push { cls:=.type "list", data:=.seq ([]:List Value).toArray }=H;have kH:∀ b u,s.heap.get? b=some u->H.get? b=some u:=λb u e=>by rw[<-hH];exact zXE _ e
 have szH:H.objs.size=s.heap.objs.size+1:=by rw[<-hH];exact zXt ..
 have hL1:H.get? s.heap.objs.size=some { cls:=.type "list", data:=.seq ([]:List Value).toArray }:=by rw[<-hH];exact zXN _ rfl
 have ho1:=kH a o ho;show wpAny _ A.in1 (Builtin.List.listExtendWith (.ref s.heap.objs.size) (.ref a) (.ref s.heap.objs.size)) _ _ { s with heap:=H };unfold Builtin.List.listExtendWith;have hT1:Shared.TypeIs { s with heap:=H } (.ref a) "set" := ⟨o,ho1,hS.ex.1⟩;refine zXD (wpAny_typeOf hT1 ?_);have hneL:s.heap.objs.size≠a:=zYi hal;have h1:Builtin.List.listSameRef (.ref s.heap.objs.size) (.ref a)=false:=by simp[Builtin.List.listSameRef,hneL]
 have h2:(Value.type "set" == Value.type "list")=false:=by decide
 have h3:(Value.type "set" == Value.type "tuple")=false:=by decide
 simp only[h1,h2,h3,Bool.or_false,zYE,if_false];refine zXD (zQU (s:={ s with heap:=H }) ho1 hS λh2 d I fp ord St k2 hI2 hfp W st0 hp=>?_);have ho2:=k2 a o ho1;refine zXD (zX6 (zPa (s:={ s with heap:=h2,drawn:=d }) ⟨o,ho2,hS.ex.1⟩ ?_));rw[zXS (by decide +kernel)];refine zXD (zYa (zXD ?_));have hL2:=k2 _ _ hL1;refine zXD (wpAny_updateSeq (s:={ s with heap:=h2,drawn:=d }) hL2 rfl ?_);have hS2:=zX0 (Obj.mapSeq (·.push Value.none)) hL2 rfl;refine wpAny_updateSeq hS2 rfl ?_;have hS3:=zX0 (Obj.mapSeq (·.pop)) hS2 rfl;generalize hH3:(h2.update s.heap.objs.size (Obj.mapSeq (·.push Value.none))).update s.heap.objs.size (Obj.mapSeq (·.pop))=H3 at hS3;have oth:∀ b u,b≠s.heap.objs.size->h2.get? b=some u->H3.get? b=some u:=λb u hb e=>by
  rw[<-hH3];exact (zXu _ _ (Ne.symm hb)).trans ((zXu _ _ (Ne.symm hb)).trans e)
 have hSf:s.heap.objs.size∉fp:=λhm=>by
  rcases (hfp _ hm).2 with z|z
  .exact hneL z
  .have z':H.objs.size<=s.heap.objs.size:=z;rw[szH]at z';exact absurd z' (Nat.not_succ_le_self _)
 have WS:=(W A.in1.in1 hh).toS;have st3:St 0 H3:=(W A.in1.in1 hh).frame 0 _ _ st0 λb hb u e=>oth b u (λz=>hSf (z▸hb)) e;have hI3:I≠s.heap.objs.size:=λz=>by
  have z':H.objs.size<=I:=hI2;rw[szH,z]at z';exact absurd z' (Nat.not_succ_le_self _)
 refine zXF ⟨plainId_quiet F.plain_extend_loop _,codeAny_extend_loopS (A:=A) (WalksS.of_in1 WS) hn _ hSf _ ks.length 0 { s with heap:=H3,drawn:=d } _ _ rfl (zXz _) st3 hS3 (ItemsOf.nil _) λs' acc' c' hm hS' hacc=>?_⟩;refine zXD (wpAny_load hS' (zXF (hQ s' _ (λb u e=>hm.heap b u (λq=>?_) (oth b u (λz=>zXv _ (z▸zXO e)) (k2 b u (kH b u e)))) hm.os hm.gens ?_)))
 .rcases zXP.mp q with z|z
  .exact zXv _ (z▸zXO e)
  .have z':H.objs.size<=I:=hI2;rw[<-zXf.mp z,szH]at z';exact zXv _ (Nat.lt_trans (zXc (zYA _) z') (zXO e))
 .have e:acc'.toList=ord:=by
   have hl:ord.length=ks.length:=by rw[hp.length_eq,zXM,zXw,hS.size]
   apply zZZ;intro i;rw[Array.getElem?_toList];by_cases q:i<ks.length
   .have q':i<acc'.size:=by rw[hacc.1];exact q
    rw[zXy q'];exact (hacc.2 i _ (zXy q')).symm
   .rw[Array.getElem?_eq_none (by rw[hacc.1];omega),zYM (by omega)]
  rw[e];exact hp
end
end ST
namespace L2
open PySem PySem.Spec PyProof.Rows ST
section
variable {prog:Ym} {w:Yo} {A:Yn} {R:Yx} {s:Yl}
def zD9 {elt target iter ifs rest scope pos it acc env}
  (h0:codeAny (model prog w) A (.compLoop (.SetComp elt (⟨target,iter,ifs,0⟩::rest) scope pos) 0 it acc env) R s)
  (h:wpAny (model prog w) A (pyIter it) (λit' s'=>codeAny (model prog w) A (.compLoop (.SetComp elt (⟨target,iter,ifs,0⟩::rest) scope pos) 0 it' acc env) R s')
   (notedBy (model prog w) A env λx s'=>R (.error x) s') s) :
  codeAny (model prog w) A (.compStart (.SetComp elt (⟨target,iter,ifs,0⟩::rest) scope pos) 0 it acc env) R s:=by
 refine codeAny_of_tree ?_;show wpAny _ _ ((compStart (.SetComp elt (⟨target,iter,ifs,0⟩::rest) scope pos) 0 it acc env).onRaise (λx=>do noteFrame x env;standAt theWindowsPlace)) _ _ s;refine wpAny_notedAt ?_;unfold compStart;refine zXD (wpAny_askSetting (wpAny_ite ?_));split
 .first
   |exact zXD (zXF (zXF (And.intro rfl h0)))
   |exact zXF (And.intro rfl h0)
 .first
   |exact zXD (zYa (zXD (zYB (zXD (zXj h (λit' s' h'=>zXF (And.intro rfl h')) λ_ _ x=>x)))))
   | (refine zXD (zYa ?_);show wpAny _ _ (standAt iter.pos >>= _) _ _ s;exact zXD (zYB (zXD (zXj h (λit' s' h'=>zXF (And.intro rfl h')) λ_ _ x=>x))))
end
section
variable {X:Cx} {zB:Yd} {σ:St} {H:Hp} {s:Yl} {scope:Y0} {cl:Yv} {fp:Yg} {it:Yt} {tn:Nat->Heap->Prop} {J:It} {tg elt iter:Expr} {ifs:Yi} {pos:Pos}
 {own:Yj} {g:TG} {tc:TT} {te:TE} {E:Yc}
def zMf (h:SetK (intKind prog w) o es ep t ks):∀ v,o.data≠.cell v:=λv z=>by rw[h.data]at z;cases z
def zHw (C:CompIn X scope own) (hcalm:X.calm=true) (I:Inv X zB σ H s) (T:Turn X.prog X.w X.K tg J fp it tn) (st:tn 0 s.heap) (hf:∀ b∈fp,zCC X zB H b)
  (c1:∀ x c,cl.lookup x=some c->X.env.cells.lookup x=some c) (c2:∀ y∈scope.names,y.2=.free->(cl.lookup y.1).isSome=true)
  (hg:PG (zN X zB scope cl s H fp) tg g) (hi:zGf (zN X zB scope cl s H fp) ifs tc) (he:PE (zN X zB scope cl s H fp) elt te)
  {RR:Value->Addr->Result->Shared->Prop} {QQ:List Int->Hp->Prop} {W:Nat->Nat->List Int->Hp->Prop} {m0:Nat} (w0:W 0 m0 [] H)
  (turn:∀ i m ys H,W i m ys H->(J.stop i H/\QQ ys H) \/
   (J.go i H /\ ∀ x H',J.yld i H x H'->g x (clr own σ) H' λσ2 H2=>Ext (clr own σ) σ2/\tc σ2 H2 λb H3=>
    if b=true then te σ2 H3 λv H4=>∃ k,v=.int k/\ys.length+1<scanBound /\ ∃ m',m'<m/\W (i+1) m' (ins ys k) H4 else ∃ m',m'<m/\W (i+1) m' ys H3))
  (fin:∀ σc H' s' o es ep t ys,Inv (zN X zB scope cl s H fp) [(s.heap.objs.size,o)] σc H' s'->SetK (intKind X.prog X.w) o es ep t ys->QQ ys H'->RR (.ref s.heap.objs.size) (s.heap.objs.size+1) (.ok .next) s') :
  wpAny (model X.prog X.w) X.A (newSet (.type "set")) (λacc s₃=>wpAny (model X.prog X.w) X.A (newFunctionEnv scope X.env.globals cl [] X.env.qual none .none (some X.env)) (λcenv s₄=>
   codeAny (model X.prog X.w) X.A (.compStart (.SetComp elt [⟨tg,iter,ifs,0⟩] scope pos) 0 (.ref it) acc { cenv with scope:=relabel scope X.env }) (RR acc cenv.locals) s₄) E s₃) E s:=by
 have ob:∀ b:Nat,b∈fp->b<s.heap.objs.size:=λb hb=>let ⟨_,e,_⟩:=T.obj 0 _ st b hb;zXO e;refine zOH (zCu ?_);have sz1:(s.heap.push (zCG X.w)).objs.size=s.heap.objs.size+1:=zXt ..;have I4:=zFX (X:=X) (zB:=zB) (σ:=σ) (σc:=clr own σ) (H:=H) (s:=s) (scope:=scope) (cl:=cl) (fp:=fp) C.sc I hf ob c1 c2 (zBg own σ) (λi x v h1 h2 h3=>by
  obtain ⟨a,b⟩:=zCv own σ i v h2;rcases C.nm i x h1 with z|z|z
  .exact absurd z b
  .exact absurd (zCT x z) h3
  .exact ⟨z,a⟩) (zCG X.w) (by intro v z;cases z) rfl rfl
 have st4:tn 0 (pushCells ((s.heap.push (zCG X.w)).push { cls:=.type "dict", data:=.dict #[] }) scope.names):=T.keep 0 _ _ st λb _ o e=>pushCells_keeps _ _ b o (zXE _ (zXE _ e));unfold newEnv;rw[sz1];have hDfp:s.heap.objs.size∉fp:=λz=>zXv _ (ob _ z);have hcD:∀ x c,(zN X zB scope cl s H fp).env.cells.lookup x=some c->c≠s.heap.objs.size:=λx c e z=>by
  obtain ⟨v,o,ho,hd⟩:=I4.cell x c e;obtain ⟨q,_⟩:=I4.pin (s.heap.objs.size,zCG X.w) (by simp);rw[z,q]at ho;cases ho;cases hd
 have fpk:∀ {H':Hp} {pl:Yd},(∀ b∈fp,H' b=none)->(∀ p∈pl,p.1=s.heap.objs.size) -> ∀ b∈fp,zCC (zN X zB scope cl s H fp) pl H' b:=λ{H' pl} hn hp b hb=>
  ⟨hn b hb,(I4.ok.exf b hb).1,I4.ok.exfs b hb,.inl hb,(I4.ok.exf b hb).2,λp hq=>by
   rcases zXd.mp hq with z|z
   .exact (hf b hb).2.2.2.2.2 p z
   .intro e;have e2:=hp p z;rw[e]at e2;exact hDfp (e2▸hb)⟩
 have loop:codeAny (model X.prog X.w) X.A (.compLoop (.SetComp elt [⟨tg,iter,ifs,0⟩] scope pos) 0 (.ref it) (.ref s.heap.objs.size) (zN X zB scope cl s H fp).env) (RR (.ref s.heap.objs.size) (s.heap.objs.size+1))
   { s with heap:=pushCells ((s.heap.push (zCG X.w)).push { cls:=.type "dict", data:=.dict #[] }) scope.names }:=by
  refine zKL (λn s'=>∃ i H' ys o es ep t,Inv (zN X zB scope cl s H fp) [(s.heap.objs.size,o)] (clr own σ) H' s'/\SetK (intKind X.prog X.w) o es ep t ys/\tn i s'.heap/\(∀ b∈fp,H' b=none)/\W i n ys H') ?_ m0
   ⟨0,H,[],zCG X.w,_,_,_,I4,.fresh,st4,λb hb=>(hf b hb).1,w0⟩
  rintro n s5 ⟨i,H5,ys,o,es,ep,t,I5,r5,st5,f5,w5⟩;have pinD:∀ p∈[(s.heap.objs.size,o)],p.1=s.heap.objs.size:=λp hp=>by
   have:p=(s.heap.objs.size,o):=by simpa using hp
   rw[this]
  rcases turn i n ys H5 w5 with ⟨stop,qq⟩|⟨go,step⟩
  .refine thn (T.done (zN X zB scope cl s H fp) rfl rfl rfl hcalm i _ s5 _ H5 _ I5 (fpk f5 pinD) st5 stop) λr s6 ⟨hr,I6⟩=>?_;subst hr;exact fin _ H5 s6 o es ep t ys I6 r5 qq
  .refine thn (T.item (zN X zB scope cl s H fp) rfl rfl rfl hcalm i _ s5 _ H5 _ I5 (fpk f5 pinD) st5 go) λr s6 ⟨u,hr,h6⟩=>?_;subst hr;refine thn h6 λ_ s7 ⟨x,H7,I7,r7,y7,st7,f7⟩=>?_;have I7':=I7.pinned (fpk f7 pinD) (T.obj _ _ st7);refine thn (hg _ s7 _ H7 x u _ I7' r7 (step x H7 y7)) λ_ s8 ⟨σ8,H8,I8,x8,q8⟩=>?_;refine thn (hi _ s8 σ8 H8 _ I8 q8) λok s9 ⟨H9,I9,q9⟩=>?_;have back:∀ {s':Yl} {Hx:Hp},Inv (zN X zB scope cl s H fp) ([(s.heap.objs.size,o)]++zC4 fp s7.heap) σ8 Hx s'->tn (i+1) s'.heap /\ ∀ b∈fp,Hx b=none:=λ{s' Hx} Ix=>
    ⟨T.keep _ _ _ st7 λb hb o e=>(Ix.pin (b,o) (zXX _ (zXX _ (zAR hb e)))).1,λb hb=>by
     obtain ⟨o,e,d⟩:=T.obj _ _ st7 b hb;exact (Ix.pin (b,o) (zXX _ (zXX _ (zAR hb e)))).2.1⟩
   cases ok with
   |false=>
    obtain ⟨m',hm,w'⟩:=q9;obtain ⟨b1,b2⟩:=back I9;exact ⟨m',hm,i+1,H9,ys,o,es,ep,t,(I9.weak (by rw[x8.1]) x8.2).unpinned,r5,b1,b2,w'⟩
   |true=>
    refine thn (he _ s9 σ8 H9 _ I9 q9) λv s10 ⟨y,H10,I10,r10,k,hk,hlt,m',hm,w'⟩=>?_;subst hk;obtain ⟨b1,b2⟩:=back I10;have J10:=(I10.weak (by rw[x8.1]) x8.2).unpinned;obtain ⟨e10,n10,ne10,nf10,d10⟩:=J10.pin (s.heap.objs.size,o) (by simp);obtain ⟨tk,hv⟩:∃ tk,v=.int k tk:=r10;subst hv;refine zRC (knd:=intKind X.prog X.w) (intKind_is _ _ _ _) rfl e10 r5 hlt λh' o' es' ep' t' hs' e' S'=>?_;refine ⟨m',hm,i+1,H10,ins ys k,o',es',ep',t',?_,S',T.keep _ _ _ b1 λb hb o e=>hs'.extBut b o (λz=>hDfp (z▸hb)) e,b2,w'⟩;refine (Inv.repin (pl:=[]) J10 (λp hp=>?_) hs' (zXJ _) hcD e' (zMf S')).tok _;rw[zXx]at hp;have hp':p∈X.pn++zB:=hp;exact zXY (zXO (I.pin p hp').1)
 exact zD9 loop (T.self _ 0 _ _ _ st4 loop)
def zJn (I:Inv X zB σ H s) (hf:∀ b∈fp,zCC X zB H b)
  (Ic:Inv (zN X zB scope cl s H fp) [(s.heap.objs.size,oD)] σc H' s') (hs:Heap.SameBut (s.heap.objs.size+1) s'.heap h') :
  Inv X zB σ H' { s' with heap:=h' }/\h'.get? s.heap.objs.size=some oD:=by
 obtain ⟨eD,nD,_⟩:=Ic.pin (s.heap.objs.size,oD) (by simp);have nC:H' (s.heap.objs.size+1)=none:=Ic.free;have eD':h'.get? s.heap.objs.size=some oD:=hs.extBut _ _ (zXY (zYA _)) eD;have lt1:∀ {b:Yt} {o:Obj},s.heap.get? b=some o->b≠s.heap.objs.size+1:=λe=>zXY (zX2 (zXO e));have tr:∀ b u,H' b=some u->b≠s.heap.objs.size+1:=λb u e z=>by rw[z,nC]at e;cases e
 refine ⟨?_,eD'⟩;have B:=Ic.base;have un:Un (frs X.stack) fp H H' s.heap h':=by
  refine ⟨λb o e q hb hx=>hs.extBut b o (lt1 e) (B.keep b o e q hb hx),λb o e q hb hx=>?_,λb o e q hx=>B.free b o e q hx,λb o e hx=>?_,λb xs e=>B.tups b xs e,λb o xs e=>B.frzs b o xs e,λb ps e=>B.tbls b ps e⟩
  .obtain ⟨sl,e1⟩:=B.slot b o e q hb hx;exact ⟨sl,hs.extBut b _ (lt1 e) e1⟩
  .obtain ⟨o',e1⟩:=B.there b o e hx;exact ⟨o',hs.extBut b _ (lt1 e) e1⟩
 have hok:HOk X.prog X.w H' h':=λb u e=>by
  refine (Ic.hok b u e).stay (λc v hc q=>hs.extBut c v ?_ q) (λc q=>q) λc xs q=>q;rcases hc with z|z
  .rw[z];exact tr b u e
  .exact tr c _ z
 exact I.call' (s':={ s' with heap:=h' }) (ch:=fp) Ic.os un hok Ic.bare λb hb=>⟨(hf b hb).2.2.2.1,(hf b hb).2.1,(hf b hb).2.2.2.2.1,(hf b hb).2.2.2.2.2⟩
end
abbrev TZ:=St->Hp->(List Int->Hp->Prop)->Prop
def PZ (X:Cx) (e:Expr) (t:TZ):Prop:=∀ (zB:Yd) (s:Yl) (σ:St) (H:Hp) (Q:List Int->Hp->Prop),Inv X zB σ H s->t σ H Q ->
 wpAny (model X.prog X.w) X.A (eval e X.env) (λv s'=>∃ a o es ep tb ks H',v=.ref a/\s'.heap.get? a=some o/\SetK (intKind X.prog X.w) o es ep tb ks/\Inv X zB σ H' s'/\Q ks H') X.xe s
def zLm (own:Yj) (wi:TI) (g:TG) (tc:TT) (te:TE):TZ:=λσ H Q=>wi σ H λJ H1=>∃ W:Nat->Nat->List Int->Hp->Prop,(∃ m,W 0 m [] H1) /\ ∀ i m ys H,W i m ys H ->
 (J.stop i H/\Q ys H) \/
 (J.go i H /\ ∀ x H',J.yld i H x H'->g x (clr own σ) H' λσ2 H2=>Ext (clr own σ) σ2/\tc σ2 H2 λb H3=>
  if b=true then te σ2 H3 λv H4=>∃ k,v=.int k/\ys.length+1<scanBound /\ ∃ m',m'<m/\W (i+1) m' (ins ys k) H4 else ∃ m',m'<m/\W (i+1) m' ys H3)
section
variable {X:Cx} {scope:Y0} {tg elt iter:Expr} {ifs:Yi} {pos:Pos} {own:Yj} {wi:TI} {g:TG} {tc:TT} {te:TE}
noncomputable def zR0 (C:CompIn X scope own) (hcalm:X.calm=true) (hi:PI X tg iter wi) (p:CompParts X scope tg ifs elt g tc te) (hs:∀ x,foldedSetIterable iter X.env x=pure x:=by intro _;rfl) :
  PZ X (.SetComp elt [⟨tg,iter,ifs,0⟩] scope pos) (zLm own wi g tc te):=by
 intro zB s σ H Q I h;obtain ⟨cl,hcl,c1,c2⟩:=C.sc.closure I;rw[arm_eval_SetComp];refine zY7 (use:=none) rfl hs hcl C.sc.kind C.sc.names (thn (hi zB s σ H _ I h) λv s1 h1=>thn h1 λitv s2 h2=>?_);obtain ⟨it,fp,tn,J,H2,e,I2,T,st2,f2,W,⟨m0,w0⟩,turn⟩:=h2;subst e;refine zHw C hcalm I2 T st2 f2 c1 c2 (p.g _ _ _ _ _) (p.c _ _ _ _ _) (p.e _ _ _ _ _) (RR:=λacc C r s'=>compPost (model X.prog X.w) X.A X.xe none (λv s'=>∃ a o es ep tb ks H',v=.ref a/\s'.heap.get? a=some o/\SetK (intKind X.prog X.w) o es ep tb ks/\Inv X zB σ H' s'/\Q ks H') acc C r s') (QQ:=Q) w0 turn ?_;intro σc H' s' o es ep t ys Ic rv qq;obtain ⟨m,hn,_⟩:=Ic.loc;refine ⟨m,hn,λh' hs'=>?_⟩;obtain ⟨J',eD⟩:=zJn I2 f2 Ic hs';exact ⟨_,o,es,ep,t,ys,H',rfl,eD,rv,J',qq⟩
end
end L2
namespace ST
open PySem PySem.Spec PyProof.Rows
open Sem (wp)
section
variable {prog:Ym} {w:Yo} {A:Yn} {E:Yc} {s:Yl}
variable {K:Type} [DecidableEq K] {knd:KeyKind prog w K}
def zV (ks:List K):List K:=ks.foldl ins []
def zEZ (ks:List K) (k:K):zV (ks++[k])=ins (zV ks) k:=by unfold zV;rw[zZB];rfl
def zTG (ks:List K) (k:K):(ins ks k).length<=ks.length+1:=by unfold ins;split <;> simp
def zB3 (ks:List K):(zV ks).length<=ks.length:=by
 have:∀ (l acc:List K),(l.foldl ins acc).length<=acc.length+l.length:=by
  intro l;induction l with
  |nil=>intro acc;simp
  |cons x r ih=>intro acc;have:=ih (ins acc x);have:=zTG acc x;simp only[List.foldl_cons,zXk];omega
 simpa [zV] using this ks []
def zSf (ks:List K) (k x:K):x∈ins ks k ↔ x∈ks\/x=k:=by
 unfold ins;split
 .rename_i h;constructor
  .exact .inl
  .rintro (z|z)
   .exact z
   .rw[z];exact h
 .simp
def zDd (ks:List K) (x:K):x∈zV ks ↔ x∈ks:=by
  have:∀ (l acc:List K),x∈l.foldl ins acc ↔ x∈acc\/x∈l:=by
    intro l;induction l with
    |nil=>intro acc;simp
    |cons y r ih=>intro acc;rw[List.foldl_cons,ih,zSf,zXP];simp[or_assoc]
  simpa [zV] using this ks []
theorem zPG (h : ks.Nodup) (k : K) : (ins ks k).Nodup := by
  unfold ins;split
  .exact h
  · rename_i q
    rw[zYR]
    exact ⟨h, by simp, fun a ha b hb z => by have : b = k := by simpa using hb
                                             subst this;subst z;exact q ha⟩
def zJf (ks:List K):(zV ks).Nodup:=by
 have:∀ (l acc:List K),acc.Nodup->(l.foldl ins acc).Nodup:=by
  intro l;induction l with
  |nil=>intro acc h;exact h
  |cons y r ih=>intro acc h;exact ih _ (zPG h y)
 exact this ks [] (by simp)
variable {R:Yx} {I:Yt} {fp wr:Yg} {G:Array GenState->Array GenState->Prop} {n:Nat} {P:Nat->Value->Prop} {St:Nat->Shared->Prop}
end
def zD1 (ks:Ye):List Int:=ks.mergeSort λa b=>decide (a<=b)
def zB6 (ks:Ye):(zD1 ks).Perm ks:=List.mergeSort_perm _ _
def zHm (ks:Ye):(zD1 ks).Pairwise (· <= ·):=by
 have:=List.pairwise_mergeSort (le:=λ(a b:Int)=>decide (a<=b)) (λa b c h1 h2=>by simp at h1 h2 ⊢;omega) (λa b=>by simp;omega) ks;exact this.imp λh=>by simpa using h
theorem zJL:∀ {xs ys:Ye},xs.Perm ys->xs.Pairwise (· <= ·)->ys.Pairwise (· <= ·)->xs=ys
 |[],ys,p,_,_=>by have:=p.length_eq;simp at this;rw[List.length_eq_zero_iff.mp this.symm]
 |x::xs,[],p,_,_=>by have:=p.length_eq;simp at this
 |x::xs,y::ys,p,h1,h2=>by
  have hx:=zZN.mp h1;have hy:=zZN.mp h2;have e:x=y:=by
   have a:x∈y::ys:=p.mem_iff.mp zXR;have b:y∈x::xs:=p.mem_iff.mpr zXR;rcases zXP.mp a with z|z
   .exact z
   .rcases zXP.mp b with q|q
    .exact q.symm
    .exact Int.le_antisymm (hx.1 y q) (hy.1 x z)
  subst e;rw[zJL (p.cons_inv) hx.2 hy.2]
def zLQ (p:xs.Perm ys) (h:xs.Pairwise (· <= ·)):xs=zD1 ys:=zJL (p.trans (zB6 ys).symm) h (zHm ys)
section
variable {prog:Ym} {w:Yo} {A:Yn} {E:Yc} {s:Yl}
def zM8
  (hc:wpAny (model prog w) A.in1 (collect v) (λvs s1=>∃ ns,IntsAre vs ns/\vs.length<64 /\ ∀ (h':Heap) (out:List Value) (n:Nat),(∀ b u,s1.heap.get? b=some u->h'.get? b=some u)->h'.get? s1.heap.objs.size=some (seqObj "list" out.toArray n)->IntsAre out (zD1 ns)->Q (.ref s1.heap.objs.size) { s1 with heap:=h' }) E s) :
  wpAny (model prog w) A (call (.builtin "sorted") [v]) Q E s:=by
 refine Calls.call_function_entry kind_sorted plain_sorted entry_sorted (args_sorted1 _) ?_;unfold Builtin.«sorted»;refine zXD (m:=checkCount "sorted" 1 1 _) (zXF ?_);refine zXD (zXj hc (λvs s1 h1=>?_) λ_ _ h'=>h');obtain ⟨ns,hI,h64,h⟩:=h1;refine zXD (wpAny_newList ?_ (by rw[sizeLine_eq];omega));have hoL:(s1.heap.push (seqObj "list" vs.toArray 0)).get? s1.heap.objs.size=some (seqObj "list" vs.toArray 0):=zXN _ rfl;refine zXD (zX6 (zXq slot_list_sort ⟨_,hoL,rfl⟩ entry_list_sort (list_sort_tree (s:={ s1 with heap:=s1.heap.push (seqObj "list" vs.toArray 0) }) hoL hI h64 λout ns' a1 a2 a3=>⟨_,rfl,?_⟩) (args_list_sort _)));refine zXF ⟨_,rfl,?_⟩;have g1:=get?_update_seq hoL (λ_=> #[]);have g2:(((s1.heap.push (seqObj "list" vs.toArray 0)).update s1.heap.objs.size (Obj.mapSeq λ_=> #[])).push (seqObj "tuple" vs.toArray 0)).get? s1.heap.objs.size=_:=zXE _ g1;have g3:=zXE (seqObj "list" #[] 0) g2;have g4:=get?_update_seq g3 (λ_=>out);have eS:=zLQ a2 a3;subst eS;refine h _ out.toList _ (λb u e=>?_) (by rw[Array.toArray_toList];exact g4) a1;have hb:s1.heap.objs.size≠b:=λz=>zXv _ (z▸zXO e);exact (zXu _ _ hb).trans (zXE _ (zXE _ ((zXu _ _ hb).trans (zXE _ e))))
def zPH (h:F2 (zU6 (intKind prog w)) es ks):IntsAre (es.map (·.2)) ks:=by
 induction h with
 |nil=>exact .nil
 |cons h _ ih=>
  obtain ⟨⟨h1,_⟩,_⟩:=h;obtain ⟨t,e⟩:=Value.isInt_shape h1;rw[zXW,e];exact .cons _ _ ih
def zPO (p:us.Perm vs):∀ {ks:Ye},IntsAre vs ks -> ∃ ks',ks'.Perm ks/\IntsAre us ks':=by
 have p':=p.symm;clear p;induction p' with
 |nil=>intro ks h;exact ⟨ks,.refl _,h⟩
 |cons x _ ih=>
  intro ks h;cases h with
  |cons n t r=>
   obtain ⟨ys',q1,q2⟩:=ih r;exact ⟨_,q1.cons _,.cons _ _ q2⟩
 |swap x y l=>
  intro ks h;cases h with
  |cons n t r=>
   cases r with
   |cons n2 t2 r=>exact ⟨_,List.Perm.swap _ _ _,.cons _ _ (.cons _ _ r)⟩
 |trans _ _ ih1 ih2=>
  intro ks h;obtain ⟨ys',q1,q2⟩:=ih1 h;obtain ⟨ys'',r1,r2⟩:=ih2 q2;exact ⟨ys'',r1.trans q1,r2⟩
def zL5 (p:xs.Perm ys):zD1 xs=zD1 ys:=zLQ ((zB6 xs).trans p) (zHm xs)
def zMY (hh:A.handled=none) (ho:s.heap.get? a=some o) (hS:SetK (intKind prog w) o es ep t ks) (h64:ks.length<64)
  (h:∀ (s1:Shared) (h':Heap) (out:List Value) (n:Nat),(∀ b u,s.heap.get? b=some u->s1.heap.get? b=some u)->s1.os=s.os->s1.gens=s.gens->(∀ b u,s1.heap.get? b=some u->h'.get? b=some u)->h'.get? s1.heap.objs.size=some (seqObj "list" out.toArray n)->IntsAre out (zD1 ks)->Q (.ref s1.heap.objs.size) { s1 with heap:=h' }) :
  wpAny (model prog w) A (call (.builtin "sorted") [.ref a]) Q E s:=by
 refine zM8 (zLx (A:=A.in1) hh ho hS λs' acc k1 k2 k3 hp=>?_);obtain ⟨ks',p,f⟩:=hS.ent;obtain ⟨ks2,p2,f2⟩:=zPO hp (zPH f);refine ⟨ks2,f2,?_,λh' out n e1 e2 e3=>?_⟩
 .rw[hp.length_eq,zXM,zXw,hS.size];exact h64
 .rw[zL5 (p2.trans p)]at e3;exact h s' h' out n k1 k2 k3 e1 e2 e3
end
end ST
namespace L2
open PySem PySem.Spec PyProof.Rows ST
section
variable {X:Cx} {e:Expr} {p pos:Pos} {zB:Yd} {σ:St} {H:Hp} {s:Yl}
def Inv.kept' (I:Inv X zB σ H s) (k:∀ b u,s.heap.get? b=some u->s1.heap.get? b=some u) (ho:s1.os=s.os) (hg:s1.gens=s.gens):Inv X zB σ H s1 :=
 I.call' (ch:=[]) ho (Un.kept k) (I.hok.kept k) (by rw[hg];exact I.bare) λb hb=>nomatch hb
theorem zHX:∀ {ns:Ye} {us:Yf},IntsAre us ns->zg (ns.map V.int) us
 |_,_,.nil=> .nil
 |_,_,.cons n t h=> .cons ⟨t,rfl⟩ (zHX h)
def zQL (ks:Ye):(zD1 ks).length=ks.length:=(zB6 ks).length_eq
noncomputable def zQZ (hc:X.calm=true) (hg:Gl X "sorted") (hm:X.mg "sorted" = none) (ha:PZ X e t) (hs:starEach [e] X.env=(false,eval e X.env)::starEach [] X.env:=by rfl) (hpl:(backTo pos (starEach [] X.env)).any (·.1)=false:=by rfl) :
  PE X (.Call (.Name "sorted" p) [e] [] pos) (λσ H Q=>t σ H λks H1=>ks.length<64 /\ ∀ q,H1 q=none->Q (.ref q) (upd H1 q (.lst ((zD1 ks).map V.int)))):=by
 intro zB s σ H Q I h;refine wpAny_Call_Name_kw (zDj I hg hm (by rfl) ?_ (by decide) (by decide));refine callWith_builtin1 ?_ hs hpl;rw[hs];refine Calls.spliced_cons (thn (ha zB s σ H _ I h) λu s1 ⟨a,o,es,ep,tb,ks,H1,hv,ho,hS,I1,h64,q⟩=>Calls.spliced_nil ?_);subst hv;refine zMY (I1.ok.hd hc) ho hS h64 λs2 h' out n k1 k2 k3 k4 e4 i4=>?_;have I2:Inv X zB σ H1 s2:=I1.kept' k1 k2 k3;have hf:H1 s2.heap.objs.size=none:=I2.hok.fresh (zXJ _);refine ⟨.ref s2.heap.objs.size,upd H1 s2.heap.objs.size (.lst ((zD1 ks).map V.int)),I2.laid (t':=s2.toks) k4 (zXJ _) ⟨by rw[zXM,zQL,sizeLine_eq];omega,out,n,zHX i4,e4⟩,rfl,q _ hf⟩
end
end L2
namespace L3
open PySem PySem.Spec PyProof.Rows L2 ST
abbrev FZ:=Sd->Mem->Option (List Int × Mem)
def trZ (K:Yb) (f:FZ):TZ:=λτ H Q=>∃ L σ M ks M',Cor K L M H/\zBo L H σ τ/\f σ M=some (ks,M') /\ ∀ L' H',Stp L H L' H'->Cor K L' M' H'->Q ks H'
structure QZ (X:Cx) (e:Expr) (f:FZ):Prop where
 un:PZ X e (trZ X.K f)
def PZ.imp (h:PZ X e t) (hi:∀ τ H Q,t' τ H Q->t τ H Q):PZ X e t':=λzB s σ H Q I q=>h zB s σ H Q I (hi _ _ _ q)
def zJM (own:Yj) (fi:FI) (g:FG) (tc:FT) (te:FE):FZ:=λσ M=>match zi own fi g tc te σ M with
 |some (.fl ys,M2)=>match zAu ys with
  |some ks=>if ks.length+1<scanBound then some (zV ks,M2) else none
  |none=>none
 |_=>none
theorem zHh:∀ {as bs:List D} {zs:Ye},zAu (as++bs)=some zs -> ∃ xs ys,zAu as=some xs/\zAu bs=some ys/\zs=xs++ys
 |[],bs,zs,h=>⟨[],zs,rfl,h,rfl⟩
 |a::as,bs,zs,h=>by
  cases a with
  |int i=>
   rw[List.cons_append]at h;unfold zAu at h;split at h
   .rename_i us e;cases h;obtain ⟨xs,ys,e1,e2,e3⟩:=zHh e;refine ⟨i::xs,ys,?_,e2,by rw[e3];rfl⟩;unfold zAu;rw[e1]
   .cases h
  |_=>cases h
def zLW (h:zAu as=some xs):zAu (as++[.int i])=some (xs++[i]):=by
 induction as generalizing xs with
 |nil=>cases h;rfl
 |cons a as ih=>
  cases a with
  |int j=>
   unfold zAu at h;split at h
   .rename_i us e;cases h;rw[List.cons_append];unfold zAu;rw[ih e];rfl
   .cases h
  |_=>cases h
def zPU {K:Yb} {own:Yj} {fi:FI} {g:TG} {fg:FG} {tc:FT} {te:FE} (hg:zFk own g fg) {τ:Sv} {H:Hp} {Q:List Int->Hp->Prop} (h:trZ K (zJM own fi fg tc te) τ H Q):zLm own (trI K fi) g (trT K tc) (trD K (toD te)) τ H Q:=by
 obtain ⟨L,σ,M,d,Mf,c,rs,hf,q⟩:=h;unfold zJM zi at hf;cases e1:fi σ M with
 |none=>rw[e1]at hf;cases hf
 |some r=>
  obtain ⟨xs,gd,M1⟩:=r;rw[e1]at hf;dsimp only at hf;by_cases hz:xs.length<=sizeLine
  .rw[zXS hz]at hf;cases e2:zA8 fg tc te (zBN own σ) xs gd xs M1 with
   |none=>rw[e2]at hf;cases hf
   |some r=>
    obtain ⟨zs,M2⟩:=r;rw[e2]at hf;dsimp only at hf;split at hf
    .rename_i kz ez;split at hf
     .rename_i hb;cases hf;refine ⟨L,σ,M,_,_,_,c,rs,e1,λL1 H1 J s1 c1 it=>?_⟩
      refine ⟨λi m ys H'=>m=xs.length-i/\i<=xs.length /\ ∃ L' M' as bs ka,Stp L1 H1 L' H'/\Cor K L' M' H'/\zAu as=some ka/\ys=zV ka/\zA8 fg tc te (zBN own σ) xs gd (xs.drop i) M'=some (bs,Mf)/\as++bs=zs,
       ⟨xs.length,by simp,zXz _,L1,M1,[],zs,[],.refl _ _,c1,rfl,rfl,by simpa using e2,rfl⟩,?_⟩
      rintro i m ys H' ⟨rfl,hi,L',M',as,bs,ka,s',c',r',hl,e',hab⟩;by_cases hlt:i<xs.length
      .rw[zCW hlt]at e';unfold zA8 at e';split at e'
       .rename_i hgd;obtain ⟨step,_⟩:=it L' H' M' s' c' hgd;obtain ⟨go,yl⟩:=step i xs[i] (zXH hlt);split at e'
        .rename_i σ1 eg;refine .inr ⟨go,λv H2 hy=>?_⟩;obtain ⟨gr,rv⟩:=yl v H2 hy;have s2:Stp L1 H1 L' H2:=s'.yld gr;refine hg (zEo own ((rs.stp s1).stp s2)) (.refl _) rv eg λτ2 r2 x2=>⟨x2,?_⟩;split at e'
         .rename_i M3 e3;split at e'
          .rename_i d M4 e4;split at e'
           .rename_i ds M5 e5;cases e';refine ⟨L',σ1,M',_,_,c'.grow gr,r2,e3,λL3 H3 s3 c3=>zH0 ?_⟩;refine ⟨L3,σ1,M3,_,_,c3,r2.stp s3,e4,λL4 H4 w s4 c4 r4=>?_⟩;have st:Stp L' H' L4 H4:=((Stp.grow gr).trans s3).trans s4;have ez':=ez;rw[<-hab]at ez';obtain ⟨x1,y1,g1,g2,g3⟩:=zHh ez';obtain ⟨k,hk⟩:∃ k,d=.int k:=by
             cases d with
             |int k=>exact ⟨k,rfl⟩
             |_=>cases g2
            subst hk;have ew:w=.int k:=by unfold Rep at r4;exact r4
            have hka:ka.length<=kz.length:=by
             rw[r']at g1;cases g1;rw[g3,zXT];omega
            refine ⟨k,ew,?_,xs.length-(i+1),by omega,rfl,hlt,L4,M4,as++[.int k],ds,ka++[k],s'.trans st,c4,zLW r',by rw[hl,zEZ],e5,by rw[<-hab];simp⟩;rw[hl];have:=zB3 ka;omega
           .cases e'
          .cases e'
         .rename_i M3 e3;refine ⟨L',σ1,M',_,_,c'.grow gr,r2,e3,λL3 H3 s3 c3=>zHv ?_⟩;have st:Stp L' H' L3 H3:=(Stp.grow gr).trans s3;exact ⟨xs.length-(i+1),by omega,rfl,hlt,L3,M3,as,bs,ka,s'.trans st,c3,r',hl,e',hab⟩
         .cases e'
        .cases e'
       .cases e'
      .have hi':i=xs.length:=by omega
       subst hi';rw[List.drop_length]at e';unfold zA8 at e';split at e'
       .rename_i hgd;cases e';obtain ⟨_,stop⟩:=it L' H' _ s' c' hgd;rw[zXx]at hab;subst hab;rw[r']at ez;cases ez;refine .inl ⟨stop,?_⟩;rw[hl];exact q L' H' (s1.trans s') c'
       .cases e'
     .cases hf
    .cases hf
  .rw[zXV hz]at hf;cases hf
section
variable {X:Cx} {scope:Y0} {tg elt iter:Expr} {ifs:Yi} {pos p:Pos} {own:Yj} {e:Expr} {f:FE}
noncomputable def zUz (hg:zFk own g fg) (C:CompIn X scope own) (hcalm:X.calm=true) (hi:QI X tg iter fi) (p:QParts X scope tg ifs elt g tc te) (hs:∀ x,foldedSetIterable iter X.env x=pure x:=by intro _;rfl) :
  QZ X (.SetComp elt [⟨tg,iter,ifs,0⟩] scope pos) (zJM own fi fg tc te) :=
 .mk <| PZ.imp (zR0 C hcalm hi.un p.parts hs) λ_ _ _ h=>zPU hg h
def zHy (f:FZ):FE:=λσ M=>match f σ M with
 |some (ks,M1)=>if ks.length<64 then some (.fl ((zD1 ks).map D.int),M1) else none
 |none=>none
theorem zJK:∀ (ns:Ye),zR L H (ns.map D.int) (ns.map V.int)
 |[]=> .nil
 |n::ns=> .cons zAp (zJK ns)
noncomputable def zSS (hc:X.calm=true) (hg:Gl X "sorted") (hm:X.mg "sorted" = none) (h:QZ X e fz) (hs:starEach [e] X.env=(false,eval e X.env)::starEach [] X.env:=by rfl) (hpl:(backTo pos (starEach [] X.env)).any (·.1)=false:=by rfl) :
  QE X (.Call (.Name "sorted" p) [e] [] pos) (zHy fz):=.mk <| PE.imp (zQZ hc hg hm h.un hs hpl) λτ H Q zz=>by
 obtain ⟨L,σ,M,d,M',c,rs,hf,q⟩:=zz;unfold zHy at hf;split at hf
 .rename_i ks M1 e1;split at hf
  .rename_i hb;cases hf;refine ⟨L,σ,M,_,_,c,rs,e1,λL1 H1 s1 c1=>⟨hb,λp hp=>?_⟩⟩;exact q L1 _ _ (s1.trans (.upd hp)) (c1.upd hp) (zk.newLst s1 c c1 hp (zJK _))
  .cases hf
 .cases hf
end
open AutoSeq1 (wpAny_loadPart')
def zUo (hh:A.handled=none) (it l:Yt) (hne:l≠it) (items:Yp) :
  Draws prog w A it [it,l] items.size (λi v=>items[i]?=some v) (λi h=>h.IsTupleIter it l i/\h.IsTuple l items) where
 live:=λ_ _ st=>let ⟨o,ho,_⟩:=st.1;⟨o,ho⟩;frame:=λ_ _ _ st hk=>⟨let ⟨o,ho,r⟩:=st.1;⟨o,hk it (by simp) o ho,r⟩,let ⟨o,ho,r⟩:=st.2;⟨o,hk l (by simp) o ho,r⟩⟩;item:=λi s Q E hi st hQ=>by
  refine zCc st.1 st.2 (x:=items[i]) (by simp[hi]) λh' hit' hs'=>?_;exact hQ _ h' s.toks (by simp[hi]) ⟨hit',Tup.but st.2 hs'.extBut hne⟩ hs'
 done:=λs Q E st hE=>zDS hh st.1 st.2 (by simp) hE
def zLZ (l:Yt) (items:Yp) (n:Nat) (dct:Option Addr) (sl:Array (Option Value)) :
  Meets (Builtin.«enumerate.__new__» ⟨[.type "enumerate", .ref l],[]⟩) (λ_ R s=>s.heap.get? l=some { cls:=.type "tuple", dict:=dct,data:=.seq items n,slots:=sl } /\
   R (.ok (.ret (.ref (s.heap.push { cls:=.type "tuple_iterator", data:=.fields #[.ref l,.int 0 0] }).objs.size)))
    { s with heap:=(s.heap.push { cls:=.type "tuple_iterator", data:=.fields #[.ref l,.int 0 0] }).push { cls:=.type "enumerate", data:=.fields #[.none,.bool false,.ref s.heap.objs.size,rawInt 0,.none,.none] } }) :=
 .of_wp λprog w A R s h=>by
  obtain ⟨hp,g,d,tk,os⟩:=s;obtain ⟨hl,h⟩:=h;have hsub:=sub_enumerate;have hL:Heap.IsTuple (Shared.heap ⟨hp,g,d,tk,os⟩) l items:=⟨_,hl,rfl,n,rfl⟩;wp_walk using wpAny_loadPart' hl;refine wpAny_stack_any λst=>zXF ?_;split
  .rename_i c _ _ _ _ _;cases (c==Value.type "enumerate")
   .wp_walk using wpAny_loadPart' hl,wpAny_pyIter_tuple hL;exact ⟨_,rfl,h⟩
   .wp_walk using wpAny_loadPart' hl,wpAny_pyIter_tuple hL;exact ⟨_,rfl,h⟩
  .wp_walk using wpAny_loadPart' hl,wpAny_pyIter_tuple hL;exact ⟨_,rfl,h⟩
section
variable {prog:Ym} {w:Yo} {A:Yn} {E:Yc} {s:Yl}
def zM7 (hL:s.heap.IsTuple l items)
  (h:∀ h',IsEnum h' (s.heap.objs.size+1) s.heap.objs.size 0 .none->h'.IsTupleIter s.heap.objs.size l 0->(∀ c o,s.heap.get? c=some o->h'.get? c=some o)->Q (.ref (s.heap.objs.size+1)) { s with heap:=h' }) :
  wpAny (model prog w) A (call (.type "enumerate") [.ref l]) Q E s:=by
 obtain ⟨o,ho,hc,n,hd⟩:=hL;obtain ⟨ocls,odict,odata,oslots⟩:=o;simp only at hc hd;subst hc;subst hd;refine callType_new PySem.F.called_enumerate (by decide) (PySem.F.typeCall_enumerate_1 _) (PySem.F.newCall_enumerate_1 _) (λobj=>PySem.F.args_object_init_2 obj _) PySem.F.entry_enumerate_new (zLZ l items n odict oslots) ⟨ho,?_⟩;have q1:(s.heap.push { cls:=.type "tuple_iterator", data:=.fields #[.ref l,.int 0 0] }).objs.size=s.heap.objs.size+1:=zXt ..;have p2:((s.heap.push { cls:=.type "tuple_iterator", data:=.fields #[.ref l,.int 0 0] }).push { cls:=.type "enumerate", data:=.fields #[.none,.bool false,.ref s.heap.objs.size,rawInt 0,.none,.none] }).get? (s.heap.push { cls:=.type "tuple_iterator", data:=.fields #[.ref l,.int 0 0] }).objs.size=some _:=zXN _ rfl;rw[q1]at p2;rw[q1];exact ⟨⟨_,p2,rfl⟩,h _ p2 ⟨_,zXE _ (zXN _ rfl),rfl,rfl⟩ λc o x=>zXE _ (zXE _ x)⟩
def zLc (he:IsEnum s.heap e it i old)
  (hn:∀ (Q':Value->Shared->Prop) (E':Value->Shared->Prop),(∀ h' x,Heap.ExtBut it s.heap h'->(∃ o,h'.get? x=some o/\o.cls=.type "StopIteration")->E' (.ref x) { s with heap:=h' })->wpAny (model prog w) A.in1 (Builtin.SmallTypes.nextOf (.ref it)) Q' E' s)
  (hQ:∀ h',Heap.ExtBut it s.heap h'->Q none { s with heap:=h' }):wpAny (model prog w) A (pyNext (.ref e)) Q E s:=by
 have hT:s.TypeIs (.ref e) "enumerate" := ⟨_,he,rfl⟩;unfold pyNext
 refine zXD (wpAny_attempt (zXp (name:=Str.ofString "__next__") hT PySem.F.slot_enumerate_next
  (zXq PySem.F.slot_enumerate_next hT PySem.F.entry_enumerate_next ?_ (PySem.F.args_enumerate_next_1 _))))
 show wpAny _ _ (field (.ref e) 2 >>= _) _ _ _;refine zXD (zXs he rfl (x:=.ref it) rfl ?_);refine zXD (hn _ _ λh' x he' hx'=>?_);obtain ⟨o,ho,hc⟩:=hx';refine zXD (wpAny_isInstance (T := "StopIteration") (b:=true) ⟨o,ho,hc⟩ isSubtype_stop ?_);exact zXF (hQ _ he')
end
noncomputable def zKr (K:Yb) (isT:Bool) (a:Yt):It :=
 ⟨λi H=>∃ xs x,(if isT then SqT K H a xs else SqL K H a xs)/\xs[i]?=some x,
  λi H v H'=>∃ T x,v=.ref T/\H T=none/\H'=upd H T (.tup [.int i,x]) /\ ∀ xs,(if isT then SqT K H a xs else SqL K H a xs)->xs[i]?=some x,
  λi H=>∃ xs,(if isT then SqT K H a xs else SqL K H a xs)/\xs.length<=i⟩
def zSj (isT:Bool) (it a:Yt) (i:Nat) (h:Heap):Prop:=if isT then h.IsTupleIter it a i else h.IsListIter it a i
def zOp {P:Ym} {w:Yo} {K:Yb} {es:Yi} {ek:Nat} {ep:Pos} {isT:Bool} {e it a:Yt} (hei:e≠it) (hae:a≠e) (hai:a≠it) :
  Turn P w K (.Tuple es ek ep) (zKr K isT a) [e,it] e (λi h=>(∃ old,IsEnum h e it i old)/\zSj isT it a i h) where
 mem:=by simp
 obj:=λi h ⟨⟨old,he⟩,st⟩ c hc=>by
  simp only[zXP,zXi,zYY]at hc;rcases hc with rfl|rfl
  .exact ⟨_,he,λv m=>by cases m⟩
  .cases isT with
   |true=>obtain ⟨o1,e1,_,d1⟩:=(show h.IsTupleIter c a i from st);exact ⟨_,e1,λv m=>by rw[d1]at m;cases m⟩
   |false=>obtain ⟨o1,e1,_,d1⟩:=(show h.IsListIter c a i from st);exact ⟨_,e1,λv m=>by rw[d1]at m;cases m⟩
 keep:=λi h h' ⟨⟨old,he⟩,st⟩ k=>by
  refine ⟨⟨old,k e (by simp) _ he⟩,?_⟩;cases isT with
  |true=>obtain ⟨o1,e1,r⟩:=(show h.IsTupleIter it a i from st);exact ⟨o1,k it (by simp) _ e1,r⟩
  |false=>obtain ⟨o1,e1,r⟩:=(show h.IsListIter it a i from st);exact ⟨o1,k it (by simp) _ e1,r⟩
 item:=by
  intro X hP hw hK hc i zB s σ H E I hf Z hg;subst hP hw hK;obtain ⟨⟨old,he⟩,st⟩:=Z;obtain ⟨xs,x,sa,hx⟩:=hg;have hch:∀ c∈[e,it],zCC X zB H c:=hf;have elt:e<s.heap.objs.size:=zXO he
  have fin:∀ (its:List Value) (u:Value) (h':Heap) (tk:Nat),zg xs its->its[i]?=some u->IsEnumOut h' e it ((i:Int)+1) u s.heap.objs.size->zSj isT it a (i+1) h'->h'.get? s.heap.objs.size=some { cls:=.type "tuple", data:=.seq #[.int i tk,u] } ->
    (∀ b o,b≠e->b≠it->s.heap.get? b=some o->h'.get? b=some o)->it<s.heap.objs.size ->
    ∃ u',some (Value.ref s.heap.objs.size)=some u'/\wpAny (model X.prog X.w) X.A (letOwnedTupleGo (.Tuple es ek ep) (.ref e) u') (λ_ s2=>∃ x H',Inv X zB σ H' s2/\zw x u'/\(zKr X.K isT a).yld i H x H'/\((∃ old,IsEnum s2.heap e it ((i+1:Nat):Int) old)/\zSj isT it a (i+1) s2.heap) /\ ∀ b∈[e,it],H' b=none) E { s with heap:=h',toks:=tk+1 }:=by
   intro its u h' tk rv hu ho st' hT hk ilt;refine ⟨_,rfl,wpAny_letOwnedTupleGo_enum ho λh2 he2 e2=>?_⟩;have kk:∀ c o,c∉[e,it]->s.heap.get? c=some o->h2.get? c=some o:=λc o n q=>by
    simp only[zXP,zXi,zYY,not_or]at n;exact e2.extBut _ _ n.1 (hk c o n.1 n.2 q)
   have NT:=e2.extBut _ _ (zYi elt) hT;have hfr:H s.heap.objs.size=none:=I.hok.fresh (zXJ _);obtain ⟨u2,hu2,ru⟩:=rv.get hx;rw[hu]at hu2;cases hu2;refine ⟨.ref s.heap.objs.size,upd H s.heap.objs.size (.tup [.int i,x]),zEX (s:=s) (h':=h2) (t':=tk+1) I hch kk (zXJ _) ?_,rfl,⟨_,x,rfl,hfr,rfl,λws hw=>?_⟩,⟨⟨u,by simpa using he2⟩,?_⟩,λc hm=>?_⟩
   .exact ⟨by show 2<=sizeLine;decide,[.int i tk,u],.cons ⟨tk,rfl⟩ (.cons ru .nil),⟨_,NT,rfl,⟨_,rfl⟩,rfl⟩⟩
   .cases isT with
    |true=>rw[I.tuple_inj hw sa];exact hx
    |false=>rw[I.list_inj hw sa];exact hx
   .cases isT with
    |true=>obtain ⟨o1,e1,r⟩:=(show h'.IsTupleIter it a (i+1)from st');exact ⟨o1,e2.extBut _ _ hei.symm e1,r⟩
    |false=>obtain ⟨o1,e1,r⟩:=(show h'.IsListIter it a (i+1)from st');exact ⟨o1,e2.extBut _ _ hei.symm e1,r⟩
   .have lt:c<s.heap.objs.size:=by
     simp only[zXP,zXi,zYY]at hm;rcases hm with rfl|rfl
     .exact elt
     .exact ilt
    rw[zZ (zXY lt)];exact (hf c hm).1
  have hef:e∉[it,a]:=by simp only[zXP,zXi,zYY,not_or];exact ⟨hei,hae.symm⟩
  cases isT with
  |true=>
   obtain ⟨its,rv,p1,z1⟩:=I.tuple sa;have st':s.heap.IsTupleIter it a i:=st;obtain ⟨o1,e1,_⟩:=id st';refine wpAny_pyNext_enum_itemD (zUo (prog:=X.prog) (w:=X.w) (A:=X.A.in1) (I.ok.hd hc) it a hai its.toArray) he ⟨st',show s.heap.IsTuple a its.toArray from p1⟩ (by have:=rv.length;have:=(zXG.mp hx).1;rw[zXL];omega) hei hef λu h' tk hu ho hs hT _ hk=>?_;exact fin its u h' tk rv (by simpa using hu) ho hs.1 hT hk (zXO e1)
  |false=>
   obtain ⟨its,rv,p1,z1⟩:=I.list sa;have st':s.heap.IsListIter it a i:=st;obtain ⟨o1,e1,_⟩:=id st';refine wpAny_pyNext_enum_itemD (Draws.list (prog:=X.prog) (w:=X.w) (A:=X.A.in1) (I.ok.hd hc) it a hai its.toArray) he ⟨st',p1.isList⟩ (by have:=rv.length;have:=(zXG.mp hx).1;rw[zXL];omega) hei hef λu h' tk hu ho hs hT _ hk=>?_;exact fin its u h' tk rv (by simpa using hu) ho hs.1 hT hk (zXO e1)
 done:=by
  intro X hP hw hK hc i zB s σ H E I hf Z hg;subst hP hw hK;obtain ⟨⟨old,he⟩,st⟩:=Z;obtain ⟨xs,sa,hz⟩:=hg;have out:∀ h',Heap.ExtBut it s.heap h'->(none:Option Value)=none/\Inv X zB σ H { s with heap:=h' }:=λh' x=>⟨rfl,zDL (s:=s) (h':=h') (t':=s.toks) I hf λc o n q=>x c o (λm=>n (by simp[m])) q⟩;cases isT with
  |true=>
   obtain ⟨its,rv,p1,z1⟩:=I.tuple sa;refine zLc he (λQ' E' hq=>zDS (I.ok.hd hc) (show s.heap.IsTupleIter it a i from st) (show s.heap.IsTuple a its.toArray from p1) (by have:=rv.length;simp;omega) hq) out
  |false=>
   obtain ⟨its,rv,p1,z1⟩:=I.list sa;refine zLc he (λQ' E' hq=>wpAny_nextOf_list_end (I.ok.hd hc) (show s.heap.IsListIter it a i from st) p1.isList (by have:=rv.length;simp;omega) hq) out
 self:=λ_ _ _ _ _ Z h=>let ⟨⟨_,he⟩,_⟩:=Z;wpAny_pyIter_enum he h
section
variable {X:Cx} {a:Expr} {es:Yi} {ek:Nat} {ep p pos:Pos}
noncomputable def zSR {te:TE} (hg:Gl X "enumerate") (hm:X.mg "enumerate" = none) (ha:PE X a te) (hs:starEach [a] X.env=(false,eval a X.env)::starEach [] X.env:=by rfl) (hpl:(backTo pos (starEach [] X.env)).any (·.1)=false:=by rfl) :
  PI X (.Tuple es ek ep) (.Call (.Name "enumerate" p) [a] [] pos) (λσ H R=>te σ H λx H1=>∃ l,x=.ref l/\((∃ xs,SqT X.K H1 l xs)/\R (zKr X.K true l) H1\/(∃ xs,SqL X.K H1 l xs)/\R (zKr X.K false l) H1)):=by
 intro zB s σ H R I h;refine wpAny_Call_Name_kw (zDj I hg hm (by rfl) ?_ (by decide) (by decide));refine callWith_type1 ?_ hs hpl;rw[hs];refine Calls.spliced_cons (thn (ha zB s σ H _ I h) λu s1 ⟨x,H1,I1,r1,l,hx,q⟩=>Calls.spliced_nil ?_);subst hx;cases r1
 have out:∀ (isT:Bool) (h':Heap),l<s1.heap.objs.size->IsEnum h' (s1.heap.objs.size+1) s1.heap.objs.size 0 .none->zSj isT s1.heap.objs.size l 0 h'->(∀ c o,s1.heap.get? c=some o->h'.get? c=some o)->R (zKr X.K isT l) H1 ->
   wpAny (model X.prog X.w) X.A (pyIter (.ref (s1.heap.objs.size+1))) (PIE X zB σ (.Tuple es ek ep) R) X.xe { s1 with heap:=h' }:=by
  intro isT h' hl he st kp q;refine wpAny_pyIter_enum (s:={ s1 with heap:=h' }) he ?_;refine ⟨s1.heap.objs.size+1,[s1.heap.objs.size+1,s1.heap.objs.size],_,_,H1,rfl,I1.kept (t':=s1.toks) kp,zOp (isT:=isT) (zYi (zYA _)) (zXY (zX2 hl)) (zXY hl),⟨⟨_,he⟩,st⟩,λc hc=>?_,q⟩;have ge:s1.heap.objs.size<=c:=by
   simp only[zXP,zXi,zYY]at hc;rcases hc with rfl|rfl
   .exact Nat.le_succ _
   .exact zXJ _
  exact I1.fpOk ge (I1.hok.fresh ge)
 rcases q with ⟨⟨xs,hq⟩,q⟩|⟨⟨xs,hq⟩,q⟩
 .obtain ⟨its,rv,p1,_⟩:=I1.tuple hq;have hl:l<s1.heap.objs.size:=by obtain ⟨_,e,_⟩:=p1;exact zXO e
  exact zM7 (show s1.heap.IsTuple l its.toArray from p1) λh' he st kp=>out true h' hl he st kp q
 .obtain ⟨its,rv,p1,_⟩:=I1.list hq;have hl:l<s1.heap.objs.size:=by obtain ⟨_,_,e,_⟩:=p1;exact zXO e
  exact call_enumerate_list p1.isList λh' he st _ kp=>out false h' hl he st kp q
def zIf (xs:List D):List D:=((List.range xs.length).zip xs).map λq=>D.tup [.int (q.1:Nat),q.2]
def zRe {xs:List D} {i:Nat} {d:D} (h:(zIf xs)[i]?=some d):∃ x,xs[i]?=some x/\d=.tup [.int (i:Nat),x]:=by
 unfold zIf at h;rw[zXa]at h;cases e:((List.range xs.length).zip xs)[i]? with
 |none=>rw[e]at h;cases h
 |some pr=>
  rw[e]at h;cases h;obtain ⟨f1,f2⟩:=List.getElem?_zip_eq_some.mp e;have hi:i<xs.length:=(zXG.mp f2).1;rw[zZH hi]at f1;cases f1;exact ⟨pr.2,f2,rfl⟩
def zRw (xs:List D):(zIf xs).length=xs.length:=by unfold zIf;simp
def zD4 (f:FE):FI:=λσ M=>match f σ M with
 |some (x,M1)=>match zAL M1 x with
  |some xs=>some (zIf xs,zCq x xs,M1)
  |none=>none
 |none=>none
noncomputable def zR4 {g:FE} (hg:Gl X "enumerate") (hm:X.mg "enumerate" = none) (h:QE X a g) (hs:starEach [a] X.env=(false,eval a X.env)::starEach [] X.env:=by rfl) (hpl:(backTo pos (starEach [] X.env)).any (·.1)=false:=by rfl) :
  QI X (.Tuple es ek ep) (.Call (.Name "enumerate" p) [a] [] pos) (zD4 g):=.mk <| PI.imp (zSR hg hm h.un hs hpl) λτ H R zz=>by
 obtain ⟨L,σ,M,xs,gd,M',c,rs,hf,q⟩:=zz;unfold zD4 at hf;split at hf
 .rename_i y M1 e1;split at hf
  .rename_i zs e2;cases hf;refine ⟨L,σ,M,_,_,c,rs,e1,λL1 H1 v s1 c1 r1=>?_⟩
   have step:∀ (isT:Bool) (l:Yt) (L2:Yg) (H2:Hp) (vs:List V),(if isT then SqT X.K H2 l vs else SqL X.K H2 l vs)->zR L2 H2 zs vs ->
     (∀ (i:Nat) d,(zIf zs)[i]?=some d->(zKr X.K isT l).go i H2 /\ ∀ v H'',(zKr X.K isT l).yld i H2 v H''->(∀ a o,H2 a=some o->H'' a=some o)/\Rep L2 H'' d v)/\(zKr X.K isT l).stop (zIf zs).length H2:=by
    intro isT l L2 H2 vs hq r;refine ⟨λi d hd=>?_,⟨vs,hq,by rw[zRw,r.length];exact zXJ _⟩⟩;obtain ⟨x,hx,rfl⟩:=zRe hd;obtain ⟨u,hu,ru⟩:=r.get hx;refine ⟨⟨vs,u,hq,hu⟩,λv H3 hy=>?_⟩;obtain ⟨T,x',rfl,hT,rfl,hxx⟩:=hy;have ex:=hxx vs hq;rw[hu]at ex;cases ex;exact ⟨λa o e=>by rw[zZ (zAF e hT)];exact e,Rep.newTup hT (.cons zAp (.cons ru .nil))⟩
   unfold zAL at e2;cases t:zCP y with
   |some ws=>
    rw[t]at e2;cases e2;obtain ⟨a,vs,rfl,e3,r3⟩:=zCA r1 t;refine ⟨a,rfl,.inl ⟨⟨vs,.of e3⟩,q L1 H1 _ s1 c1 λL2 H2 M2 s2 c2 _=>?_⟩⟩;exact step true a L2 H2 vs (.of (s2.tup a vs e3)) (r3.stp s2)
   |none=>
    rw[t]at e2;obtain ⟨a,vs,rfl,e3,r3⟩:=zBP c1 r1 e2;refine ⟨a,rfl,.inr ⟨⟨vs,.inl e3⟩,q L1 H1 _ s1 c1 λL2 H2 M2 s2 c2 hgd=>?_⟩⟩;have key:∃ vs',SqL X.K H2 a vs'/\zR L2 H2 zs vs':=by
     cases y with
     |fl ys=>
      cases e2;obtain ⟨p',vs',hp',_,e5,e6,r6⟩:=r1;cases hp';exact ⟨vs',.of (s2.old _ _ e5 e6),r6.stp s2⟩
     |dat d=>
      cases d with
      |ref n=>
       unfold zk Rep at r1;obtain ⟨a',ha',e5⟩:=r1;cases ha';have e6:L2[n]?=some a:=by obtain ⟨N,hN⟩:=s2.pre;rw[hN];exact zBp e5
       rcases hgd with z|z
       .obtain ⟨vs',e7,r7⟩:=c2.obj n a _ e6 z;exact ⟨vs',.of e7,r7⟩
       .obtain ⟨o,vs',e7,r7⟩:=c2.obj n a _ e6 z;exact ⟨vs',.inl (.inr ⟨o,e7⟩),r7⟩
      |_=>cases e2
    obtain ⟨vs',hq,r7⟩:=key;exact step false a L2 H2 vs' hq r7
  .cases hf
 .cases hf
end
section
variable {κ:Type} [DecidableEq κ]
def zBy (kf:D->Option κ) (kvs:List (D × D)) (k:κ):Option D:=(kvs.find? λp=>decide (kf p.1=some k)).map (·.2)
def zGr (kf:D->Option κ) (kvs:List (D × D)) (k:κ) (kd v:D):List (D × D) :=
 if (kvs.any λp=>decide (kf p.1=some k))=true then kvs.map λp=>if kf p.1=some k then (p.1,v) else p else kvs++[(kd,v)]
theorem zCm (k:κ):∀ {kvs:List (D × D)} {vs:List (κ × V)},zA6 kf L H kvs vs->(zBy kf kvs k=none/\zCQ vs k=none) \/ ∃ d v,zBy kf kvs k=some d/\zCQ vs k=some v/\Rep L H d v
 |[],vs,h=>by unfold zA6 at h;subst h;exact .inl ⟨rfl,rfl⟩
 |p::r,vs,h=>by
  obtain ⟨k',v,r',rfl,e,h1,h2⟩:=h;by_cases q:k'=k
  .subst q;exact .inr ⟨p.2,v,by unfold zBy;rw[zYz,e];simp,by rw[zFl rfl],h1⟩
  .have e1:zBy kf (p::r) k=zBy kf r k:=by unfold zBy;rw[zYz,e];simp[q]
   rw[e1,zFo q];exact zCm k h2
theorem zLr (k:κ):∀ {kvs:List (D × D)} {vs:List (κ × V)},zA6 kf L H kvs vs->(kvs.any λp=>decide (kf p.1=some k))=(vs.any λkv=>decide (kv.1=k))
 |[],vs,h=>by unfold zA6 at h;subst h;rfl
 |p::r,vs,h=>by
  obtain ⟨k',v,r',rfl,e,h1,h2⟩:=h;rw[List.any_cons,List.any_cons,zLr k h2,e];simp
theorem zHI (k:κ) (hd:Rep L H d u):∀ {kvs:List (D × D)} {vs:List (κ × V)},zA6 kf L H kvs vs->zA6 kf L H (kvs.map λp=>if kf p.1=some k then (p.1,d) else p) (vs.map λkv=>if kv.1=k then (kv.1,u) else kv)
 |[],vs,h=>by unfold zA6 at h;subst h;rfl
 |p::r,vs,h=>by
  obtain ⟨k',v,r',rfl,e,h1,h2⟩:=h;rw[zXW,zXW];by_cases q:k'=k
  .subst q;rw[zXS e,zXS rfl];exact ⟨k',u,_,rfl,e,hd,zHI k' hd h2⟩
  .rw[zXV (by rw[e];simpa using q),zXV q];exact ⟨k',v,_,rfl,e,h1,zHI k hd h2⟩
theorem zI0 (hk:kf kd=some k) (hd:Rep L H d u):∀ {kvs:List (D × D)} {vs:List (κ × V)},zA6 kf L H kvs vs->zA6 kf L H (kvs++[(kd,d)]) (vs++[(k,u)])
 |[],vs,h=>by unfold zA6 at h;subst h;exact ⟨k,u,[],rfl,hk,hd,rfl⟩
 |p::r,vs,h=>by
  obtain ⟨k',v,r',rfl,e,h1,h2⟩:=h;exact ⟨k',v,_,rfl,e,h1,zI0 hk hd h2⟩
def zKp {kf:D->Option κ} {L:Yg} {H:Hp} {k:κ} {kd d:D} {u:V} (hk:kf kd=some k) (hd:Rep L H d u) {kvs:List (D × D)} {vs:List (κ × V)} (h:zA6 kf L H kvs vs):zA6 kf L H (zGr kf kvs k kd d) (zB2 vs k u):=by
 unfold zGr zB2;rw[zLr k h];split
 .exact zHI k hd h
 .exact zI0 hk hd h
end
theorem zKy:∀ {ds:List D} {vs:List V} {ks:List Key},zR L H ds vs->zH2 ds=some ks->vs=ks.map kV
 |[],vs,ks,h,e=>by cases e;unfold zR at h;exact h
 |d::ds,vs,ks,h,e=>by
  unfold zR at h;obtain ⟨v,r,rfl,h1,h2⟩:=h;unfold zH2 at e;cases e1:zCR d with
  |none=>rw[e1]at e;cases e
  |some k=>
   cases e2:zH2 ds with
   |none=>rw[e1,e2]at e;cases e
   |some ks'=>
    rw[e1,e2]at e;cases e;rw[zG8 h1 e1,zKy h2 e2];rfl
def zJx (h:Rep L H d v) (e:tkD d=some ks):∃ b,v=.ref b/\H b=some (.tup (ks.map kV)):=by
 cases d with
 |tup ds=>
  unfold Rep at h;obtain ⟨a,vs,rfl,e1,r⟩:=h;exact ⟨a,rfl,by rw[e1,zKy r e]⟩
 |_=>cases e
noncomputable def zDT (M:Mem) (x:EV) (k:D):Option (Option D):=match x with
 |.dat (.ref n)=>match M[n]? with
  |some (.dict kvs)=>match zCR k with
   |some kk=>some (zBy zCR kvs kk)
   |none=>none
  |some (.dicT kvs)=>match tkD k with
   |some kk=>some (zBy tkD kvs kk)
   |none=>none
  |some (.froK kvs)=>match zCR k with
   |some kk=>some (zBy zCR kvs kk)
   |none=>none
  |some (.froT kvs)=>match tkD k with
   |some kk=>some (zBy tkD kvs kk)
   |none=>none
  |_=>none
 |_=>none
def zWH (L:Yg) (H:Hp):Option D->Option V->Prop
 |none,o=>o=none
 |some d,o=>∃ v,o=some v/\Rep L H d v
def zFs {K:Yb} {L:Yg} {M:Mem} {H H0:Hp} {x:EV} {v w:V} {k:D} {o:Option D} (c:Cor K L M H) (rx:zk H0 L H x v) (rk:Rep L H k w) (e:zDT M x k=some o):∃ a ov,v=.ref a/\zDa H a w ov/\zWH L H o ov:=by
 cases x with
 |fl xs=>cases e
 |dat d=>
  cases d with
  |ref n=>
   unfold zk Rep at rx;obtain ⟨a,rfl,ea⟩:=rx;unfold zDT at e;dsimp only at e;cases q:M[n]? with
   |none=>rw[q]at e;cases e
   |some m=>
    rw[q]at e;have z:=c.obj n a m ea q;cases m with
    |dict kvs=>
     cases e2:zCR k with
     |none=>rw[e2]at e;cases e
     |some kk=>
      rw[e2]at e;cases e;obtain ⟨vs,e3,r⟩:=z;refine ⟨a,zCQ vs kk,rfl,?_,?_⟩
      .rw[zG8 rk e2];exact zDa.k e3
      .rcases zCm kk r with ⟨h1,h2⟩|⟨d,v,h1,h2,h3⟩
       .rw[h1,h2];rfl
       .rw[h1,h2];exact ⟨v,rfl,h3⟩
    |dicT kvs=>
     cases e2:tkD k with
     |none=>rw[e2]at e;cases e
     |some kk=>
      rw[e2]at e;cases e;obtain ⟨vs,e3,r⟩:=z;obtain ⟨b,rfl,eb⟩:=zJx rk e2;refine ⟨a,zCQ vs kk,rfl,zDa.t e3 eb,?_⟩;rcases zCm kk r with ⟨h1,h2⟩|⟨d,v,h1,h2,h3⟩
      .rw[h1,h2];rfl
      .rw[h1,h2];exact ⟨v,rfl,h3⟩
    |froK kvs=>
     cases e2:zCR k with
     |none=>rw[e2]at e;cases e
     |some kk=>
      rw[e2]at e;cases e;obtain ⟨ob,vs,e3,r⟩:=z;refine ⟨a,zCQ vs kk,rfl,.inl ⟨vs,kk,.inr ⟨ob,e3⟩,zG8 rk e2,rfl⟩,?_⟩;rcases zCm kk r with ⟨h1,h2⟩|⟨d,v,h1,h2,h3⟩
      .rw[h1,h2];rfl
      .rw[h1,h2];exact ⟨v,rfl,h3⟩
    |froT kvs=>
     cases e2:tkD k with
     |none=>rw[e2]at e;cases e
     |some kk=>
      rw[e2]at e;cases e;obtain ⟨ob,vs,e3,r⟩:=z;obtain ⟨b,rfl,eb⟩:=zJx rk e2;refine ⟨a,zCQ vs kk,rfl,.inr ⟨vs,kk,b,.inr ⟨ob,e3⟩,rfl,eb,rfl⟩,?_⟩;rcases zCm kk r with ⟨h1,h2⟩|⟨d,v,h1,h2,h3⟩
      .rw[h1,h2];rfl
      .rw[h1,h2];exact ⟨v,rfl,h3⟩
    |_=>cases e
  |_=>cases e
noncomputable def zD2 (M:Mem) (n:Nat) (k v:D):Option Mem:=match M[n]? with
 |some (.dict kvs)=>match zCR k with
  |some kk=>if kvs.length<sizeLine then some (M.set n (.dict (zGr zCR kvs kk k v))) else none
  |none=>none
 |some (.dicT kvs)=>match tkD k with
  |some kk=>if kvs.length<sizeLine then some (M.set n (.dicT (zGr tkD kvs kk k v))) else none
  |none=>none
 |_=>none
def zH6 {K:Yb} {L:Yg} {M M':Mem} {H:Hp} {n:Nat} {a:Yt} {k v:D} {w u:V} (c:Cor K L M H) (ea:L[n]?=some a) (rk:Rep L H k w) (rv:Rep L H v u) (e:zD2 M n k v=some M'):∃ H',zFD H a w u H'/\Cor K L M' H'/\Stp L H L H':=by
 unfold zD2 at e;cases q:M[n]? with
 |none=>rw[q]at e;cases e
 |some m=>
  rw[q]at e;have z:=c.obj n a m ea q;cases m with
  |dict kvs=>
   cases e2:zCR k with
   |none=>rw[e2]at e;cases e
   |some kk=>
    rw[e2]at e;dsimp only at e;split at e
    .rename_i hl;cases e;obtain ⟨vs,e3,r⟩:=z;obtain ⟨c3,s3⟩:=c.put (m:=.dict (zGr zCR kvs kk k v)) (o':=.dK (zB2 vs kk u)) ea e3 (λ_ z=>by cases z) (λ_ _ z=>by cases z) λs3=>⟨_,zAB,(zKp e2 rv r).stp s3⟩;refine ⟨_,?_,c3,s3⟩;rw[zG8 rk e2];exact zFD.k e3 (by rw[r.length];exact hl)
    .cases e
  |dicT kvs=>
   cases e2:tkD k with
   |none=>rw[e2]at e;cases e
   |some kk=>
    rw[e2]at e;dsimp only at e;split at e
    .rename_i hl;cases e;obtain ⟨vs,e3,r⟩:=z;obtain ⟨b,rfl,eb⟩:=zJx rk e2;obtain ⟨c3,s3⟩:=c.put (m:=.dicT (zGr tkD kvs kk k v)) (o':=.dT (zB2 vs kk u)) ea e3 (λ_ z=>by cases z) (λ_ _ z=>by cases z) λs3=>⟨_,zAB,(zKp e2 rv r).stp s3⟩;exact ⟨_,zFD.t e3 eb (by rw[r.length];exact hl),c3,s3⟩
    .cases e
  |_=>cases e
section
variable {X:Cx} {a b e o i value:Expr} {pos pos' apos cpos:Pos} {f g h:FE}
def zp:K2:=λx y M=>match y with
 |.dat k=>match zDT M x k with
  |some (some d)=>some (.dat d,M)
  |_=>none
 |_=>none
def zRi {K:Yb}:zDW K (λx y H Q=>∃ a v,x=.ref a/\zDa H a y (some v)/\Q v H) zp:=by
 intro L M M' H H0 x y d v w Q c rx ry hk q;unfold zp at hk;split at hk
 .rename_i k;split at hk
  .rename_i d' e1;cases hk;obtain ⟨a,ov,rfl,h1,h2⟩:=zFs c rx ry e1;obtain ⟨u,rfl,r⟩:=h2;exact ⟨a,u,rfl,h1,q L H u (.refl L H) c r⟩
  .cases hk
 .cases hk
def zUk (hu:X.A.units+1<cLine) (h1:QE X o f) (h2:QE X i g) (hs:zTo i:=by intro _ _;rfl):QE X (.Subscript o i pos) (fOp zp f g):=.mk <| PE.imp (zSQ hu h1.un h2.un hs) λ_ _ _ h=>zDZ zRi h
def zAe (neg:Bool):K2:=λx y M=>match x with
  |.dat k=>match zDT M y k with
    |some o=>some (.dat (.bl (if neg then !o.isSome else o.isSome)),M)
    |none=>none
  |_=>none
def zL9 {o:Option D} {ov:Option V} (h:zWH L H o ov):ov.isSome=o.isSome:=by
  cases o with
  | none => have h' : ov = none := h
            rw[h'];rfl
  |some d=>obtain ⟨v,rfl,_⟩:=h;rfl
def zSv {K:Yb}:zDW K (λy x H Q=>∃ a o,x=.ref a/\zDa H a y o/\Q (.bl o.isSome) H) (zAe false):=by
 intro L M M' H H0 x y d v w Q c rx ry hk q;unfold zAe at hk;split at hk
 .rename_i k;split at hk
  .rename_i o e1;cases hk;obtain ⟨a,ov,rfl,h1,h2⟩:=zFs c ry rx e1;refine ⟨a,ov,rfl,h1,?_⟩;rw[zL9 h2];exact q L H _ (.refl L H) c (zCK (L:=L) (H:=H))
  .cases hk
 .cases hk
def zNN {K:Yb}:zDW K (λy x H Q=>∃ a o,x=.ref a/\zDa H a y o/\Q (.bl (!o.isSome)) H) (zAe true):=by
 intro L M M' H H0 x y d v w Q c rx ry hk q;unfold zAe at hk;split at hk
 .rename_i k;split at hk
  .rename_i o e1;cases hk;obtain ⟨a,ov,rfl,h1,h2⟩:=zFs c ry rx e1;refine ⟨a,ov,rfl,h1,?_⟩;rw[zL9 h2];exact q L H _ (.refl L H) c (zCK (L:=L) (H:=H))
  .cases hk
 .cases hk
noncomputable def zTq (hu:X.A.units+1<cLine) (h1:QE X a f) (h2:QE X b g) (hm:behindInMarks .In b=false:=by rfl):QT X (.Compare a [.In] [b] pos) (tst (fOp (zAe false) f g)):=.mk <| PT.imp (zQo (zUU hu h1.un h2.un) hm) λ_ _ _ h=>zE8 (λ_ _ _ z=>zDZ zSv z) (zEr h)
noncomputable def zO1 (hu:X.A.units+1<cLine) (h1:QE X a f) (h2:QE X b g) (hm:behindInMarks .NotIn b=false:=by rfl):QT X (.Compare a [.NotIn] [b] pos) (tst (fOp (zAe true) f g)):=.mk <| PT.imp (zQo (zPL hu h1.un h2.un) hm) λ_ _ _ h=>zE8 (λ_ _ _ z=>zDZ zNN z) (zEr h)
noncomputable def zBn (fv fo fi:FE):FS:=λσ M=>match toD fv σ M with
 |some (v,M1)=>match toD fo σ M1 with
  |some (.ref n,M2)=>match toD fi σ M2 with
   |some (k,M3)=>match zD2 M3 n k v with
    |some M4=>some (.nx,σ,M4)
    |none=>none
   |none=>none
  |_=>none
 |none=>none
noncomputable def zUW (hu:X.A.units+1<cLine) (hv:QE X value f) (ho:QE X o g) (hi:QE X i h) (hs:swapsWith value (some (.Subscript o i pos')) pos.line X.env=pure false:=by rfl):QS X (.Assign [.Subscript o i pos'] value pos) (zBn f g h) :=
 .mk <| PS.imp (zSJ hu (zA9 ho).un (zA9 hi).un (zA9 hv).un hs) λE τ H zz=>by
  obtain ⟨L,σ,M,out,σ',M',c,rs,hf,q⟩:=zz;unfold zBn at hf;split at hf
  .rename_i v M1 e1;split at hf
   .rename_i n M2 e2;split at hf
    .rename_i k M3 e3;split at hf
     .rename_i M4 e4;cases hf;refine ⟨L,σ,M,_,_,c,rs,e1,λL1 H1 u s1 c1 r1=>⟨L1,σ,M1,_,_,c1,rs.stp s1,e2,λL2 H2 y s2 c2 r2=>⟨L2,σ,M2,_,_,c2,(rs.stp s1).stp s2,e3,λL3 H3 z s3 c3 r3=>?_⟩⟩⟩;unfold Rep at r2;obtain ⟨a,rfl,ea⟩:=r2;have ea3:L3[n]?=some a:=by obtain ⟨N,hN⟩:=s3.pre;rw[hN];exact zBp ea
      obtain ⟨H4,h1,h2,h3⟩:=zH6 c3 ea3 r3 ((r1.stp s2).stp s3) e4;exact ⟨a,H4,rfl,h1,q L3 H4 (((s1.trans s2).trans s3).trans h3) h2 τ ((((rs.stp s1).stp s2).stp s3).stp h3)⟩
     .cases hf
    .cases hf
   .cases hf
  .cases hf
noncomputable def zBG (fo fi fx:FE):FE:=λσ M=>match toD fo σ M with
 |some (.ref n,M1)=>match M1[n]? with
  |some (.dict _)|some (.dicT _)=>match toD fi σ M1 with
   |some (k,M2)=>match toD fx σ M2 with
    |some (x,M3)=>match zDT M3 (.dat (.ref n)) k with
     |some o=>some (.dat (o.getD x),M3)
     |none=>none
    |none=>none
   |none=>none
  |_=>none
 |_=>none
def zSn (hu:X.A.units+1<cLine) (ho:QE X o f) (hi:QE X i g) (hx:QE X e h) (m:M2 X o "get" apos i e cpos):QE X (.Call (.Attribute o "get" apos) [i,e] [] cpos) (zBG f g h) :=
 .mk <| PE.imp (zQx hu (zA9 ho).un (zA9 hi).un (zA9 hx).un m) λτ H Q zz=>by
  obtain ⟨L,σ,M,d,M',c,rs,hf,q⟩:=zz
  have key:∀ n M1,toD f σ M=some (.ref n,M1)->(∃ kvs,M1[n]?=some (.dict kvs)\/M1[n]?=some (.dicT kvs))->(match toD g σ M1 with
   |some (k,M2)=>match toD h σ M2 with
    |some (x,M3)=>match zDT M3 (.dat (.ref n)) k with
     |some o=>some (EV.dat (o.getD x),M3)
     |none=>none
    |none=>none
   |none=>none)=some (d,M')->zRW (trD X.K (toD f)) (trD X.K (toD g)) (trD X.K (toD h)) τ H Q:=by
   intro n M1 e1 hd hf;split at hf
   .rename_i k M2 e2;split at hf
    .rename_i x M3 e3;split at hf
     .rename_i ov e4;cases hf;refine ⟨L,σ,M,_,_,c,rs,e1,λL1 H1 u s1 c1 r1=>?_⟩;unfold Rep at r1;obtain ⟨a,rfl,ea⟩:=r1;refine ⟨a,rfl,?_,L1,σ,M1,_,_,c1,rs.stp s1,e2,λL2 H2 y s2 c2 r2=>⟨L2,σ,M2,_,_,c2,(rs.stp s1).stp s2,e3,λL3 H3 z s3 c3 r3=>?_⟩⟩
      .obtain ⟨kvs,hk|hk⟩:=hd
       .obtain ⟨vs,e5,_⟩:=c1.obj n a _ ea hk;exact .inl ⟨vs,.inl e5⟩
       .obtain ⟨vs,e5,_⟩:=c1.obj n a _ ea hk;exact .inr ⟨vs,.inl e5⟩
      .have ra:zk H L3 H3 (.dat (.ref n)) (.ref a):=by
        unfold zk Rep;exact ⟨a,rfl,by obtain ⟨N,hN⟩:=(s2.trans s3).pre;rw[hN];exact zBp ea⟩
       obtain ⟨a',o',e6,h1,h2⟩:=zFs c3 ra (r2.stp s3) e4;cases e6;refine ⟨o',h1,?_⟩;cases ov with
       |none=>
        have h':o'=none:=h2;subst h';exact q L3 H3 _ ((s1.trans s2).trans s3) c3 r3
       |some dd=>
        obtain ⟨v,rfl,rv⟩:=h2;exact q L3 H3 _ ((s1.trans s2).trans s3) c3 rv
     .cases hf
    .cases hf
   .cases hf
  unfold zBG at hf;split at hf
  .rename_i n M1 e1;split at hf
   .rename_i kvs e5;exact key n M1 e1 ⟨kvs,.inl e5⟩ hf
   .rename_i kvs e5;exact key n M1 e1 ⟨kvs,.inr e5⟩ hf
   .cases hf
  .cases hf
end
end L3
namespace L2
open PySem PySem.Spec PyProof.Rows
section
variable {prog:Ym} {w:Yo} {A:Yn} {R:Yx} {s:Yl}
def zDQ {kx vx target iter ifs rest scope pos it acc env}
  (h0:codeAny (model prog w) A (.compLoop (.DictComp kx vx (⟨target,iter,ifs,0⟩::rest) scope pos) 0 it acc env) R s)
  (h:wpAny (model prog w) A (pyIter it) (λit' s'=>codeAny (model prog w) A (.compLoop (.DictComp kx vx (⟨target,iter,ifs,0⟩::rest) scope pos) 0 it' acc env) R s')
   (notedBy (model prog w) A env λx s'=>R (.error x) s') s) :
  codeAny (model prog w) A (.compStart (.DictComp kx vx (⟨target,iter,ifs,0⟩::rest) scope pos) 0 it acc env) R s:=by
 refine codeAny_of_tree ?_;show wpAny _ _ ((compStart (.DictComp kx vx (⟨target,iter,ifs,0⟩::rest) scope pos) 0 it acc env).onRaise (λx=>do noteFrame x env;standAt theWindowsPlace)) _ _ s;refine wpAny_notedAt ?_;unfold compStart;refine zXD (wpAny_askSetting (wpAny_ite ?_));split
 .first
   |exact zXD (zXF (zXF (And.intro rfl h0)))
   |exact zXF (And.intro rfl h0)
 .first
   |exact zXD (zYa (zXD (zYB (zXD (zXj h (λit' s' h'=>zXF (And.intro rfl h')) λ_ _ x=>x)))))
   | (refine zXD (zYa ?_);show wpAny _ _ (standAt iter.pos >>= _) _ _ s;exact zXD (zYB (zXD (zXj h (λit' s' h'=>zXF (And.intro rfl h')) λ_ _ x=>x))))
end
section
variable {X:Cx} {zB:Yd} {σ:St} {H:Hp} {s:Yl}
def Inv.trackAt (I:Inv X zB σ H s) (ho:s.heap.get? D=some o) (hn:H D=none) (h0:X.s₀.heap.objs.size<=D) (hL:D≠X.env.locals) (hc:∀ x c,X.env.cells.lookup x=some c->c≠D) (hp:∀ p∈X.pn++zB,p.1≠D)
  (new:zAV X.prog X.w (upd H D u) s.heap D u):Inv X zB σ (upd H D u) s:=by
 have un:∀ b v,H b=some v->upd H D u b=some v:=λb v e=>by rw[zZ (zAF e hn)];exact e
 have e0:s={ s with heap:=s.heap,gens:=s.gens,drawn:=s.drawn,toks:=s.toks }:=by cases s;rfl
 rw[e0];refine I.step (g':=s.gens) (d':=s.drawn) (ch:=[D]) (λb hb=>?_) (λb v _ _ _ e _=>e) (λb v _ _ _ e _=>⟨v.slots,e⟩) (λb v hb e n=>?_) (λb v _ e=>⟨v,e⟩) (λb xs e=>un b _ e) (λb p v e=>un b _ e) (λb ps e=>⟨#[],by rw[un b _ e];simp⟩) (λm hm=>hm) (λb v e=>?_) I.bare
 .have:b=D:=by simpa using hb
  subst this;exact ⟨.inr h0,hL,hc,hp⟩
 .rw[zZ (λz=>hb (by simp[z]))];exact n
 .by_cases hb:b=D
  .subst hb;rw[zAB]at e;cases e;exact new
  .rw[zZ hb]at e;exact (I.hok b v e).stay (λc v hc q=>q) (λc q=>un c _ q) λc xs q=>un c _ q
def zJC (hu:A.units+1<cLine) (I:Inv X zB σ H s) (g:zFD H a y v H') (ry:zw y u) (rv:zw v r) (h:∀ s',Inv X zB σ H' s'->Heap.SameBut a s.heap s'.heap->Q () s') :
  wpAny (model X.prog X.w) A (dictSet a u r) Q E s:=by
 rcases g with ⟨kvs,k,e,ey,l,eH⟩|⟨kvs,k,b,e,ey,eb,l,eH⟩
 .subst ey eH;obtain ⟨z,hd,vs,rel,dd⟩:=zRn I.hok e;have hz:vs.length<=sizeLine:=by rw[<-rel.length];exact z
  have hl:(zB2 kvs k v).length<=sizeLine:=by have:=zBk kvs k v;omega
  refine wpAny_dictSet_pairs (hsz:=hz) (zGd ry) dd λh' dd' hs=>h _ ?_ hs;have he:∃ q,h'.get? a=some q:=let ⟨q,_,_,hq,_⟩:=dd';⟨q,hq⟩;exact zEj I (by rw[e];exact True.intro) hs he (zNB hl hd (rel.put k rv) dd')
 .subst ey eH;cases (show u=Value.ref b from ry);obtain ⟨z,hd,xs,rel,dd⟩:=zQO I.hok e;have hz:xs.length<=sizeLine:=by rw[<-Paired.length rel];exact z
  have hl:(zB2 kvs k v).length<=sizeLine:=by have:=zBk kvs k v;omega
  refine wpAny_dictSet_heap (hsz:=hz) (show (tupleKind (zAO X.prog X.w)).room A from Nat.lt_of_succ_lt hu) (zEc I.hok eb) dd λh' dd' hs=>h _ ?_ hs;obtain ⟨q,es,ep,hq,h2,h3,h4,_,h5⟩:=dd';refine zEj I (by rw[e];exact True.intro) hs ⟨q,hq⟩ ⟨hl,hd,_,(rel.put k eb rv).keeps λc ys ec=>?_,q,es,ep,hq,h2,h3,h4,h5⟩;rw[zZ (zH7 ec e (λz=>nomatch z))];exact ec
end
def zBr (isT:Bool):HO:=if isT then .dT [] else .dK []
abbrev zAy:Obj:={ cls:=.type "dict", data:=.dict #[] }
section
variable {X:Cx} {zB:Yd} {σ:St} {H:Hp} {s:Yl} {scope:Y0} {cl:Yv} {fp:Yg} {it:Yt} {tn:Nat->Heap->Prop} {J:It} {tg kx vx iter:Expr} {ifs:Yi} {pos:Pos}
 {own:Yj} {g:TG} {tc:TT} {tk tv:TE} {E:Yc} {isT:Bool}
def zDz (hu:X.A.units+1<cLine) (C:CompIn X scope own) (hcalm:X.calm=true) (I:Inv X zB σ H s) (T:Turn X.prog X.w X.K tg J fp it tn) (st:tn 0 s.heap) (hf:∀ b∈fp,zCC X zB H b)
  (c1:∀ x c,cl.lookup x=some c->X.env.cells.lookup x=some c) (c2:∀ y∈scope.names,y.2=.free->(cl.lookup y.1).isSome=true)
  (hg:PG (zN X zB scope cl s H fp) tg g) (hi:zGf (zN X zB scope cl s H fp) ifs tc) (hk:PE (zN X zB scope cl s H fp) kx tk) (hv:PE (zN X zB scope cl s H fp) vx tv)
  {RR:Value->Addr->Result->Shared->Prop} {QQ:Hp->Prop} {W:Nat->Nat->Hp->Prop} {m0:Nat} (w0:W 0 m0 (upd H s.heap.objs.size (zBr isT)))
  (turn:∀ i m H,W i m H->(J.stop i H/\QQ H) \/
   (J.go i H /\ ∀ x H',J.yld i H x H'->g x (clr own σ) H' λσ2 H2=>Ext (clr own σ) σ2/\tc σ2 H2 λb H3=>
    if b=true then tk σ2 H3 λk H4=>tv σ2 H4 λv H5=>∃ H6 m',zFD H5 s.heap.objs.size k v H6/\m'<m/\W (i+1) m' H6 else ∃ m',m'<m/\W (i+1) m' H3))
  (fin:∀ σc H' s',Inv (zN X zB scope cl s H fp) [] σc H' s'->QQ H'->RR (.ref s.heap.objs.size) (s.heap.objs.size+1) (.ok .next) s') :
  wpAny (model X.prog X.w) X.A newDict (λacc s₃=>wpAny (model X.prog X.w) X.A (newFunctionEnv scope X.env.globals cl [] X.env.qual none .none (some X.env)) (λcenv s₄=>
   codeAny (model X.prog X.w) X.A (.compStart (.DictComp kx vx [⟨tg,iter,ifs,0⟩] scope pos) 0 (.ref it) acc { cenv with scope:=relabel scope X.env }) (RR acc cenv.locals) s₄) E s₃) E s:=by
 have ob:∀ b:Nat,b∈fp->b<s.heap.objs.size:=λb hb=>let ⟨_,e,_⟩:=T.obj 0 _ st b hb;zXO e;refine zXg (zCu ?_);have sz1:(s.heap.push zAy).objs.size=s.heap.objs.size+1:=zXt ..;have I4:=zFX (X:=X) (zB:=zB) (σ:=σ) (σc:=clr own σ) (H:=H) (s:=s) (scope:=scope) (cl:=cl) (fp:=fp) C.sc I hf ob c1 c2 (zBg own σ) (λi x v h1 h2 h3=>by
  obtain ⟨a,b⟩:=zCv own σ i v h2;rcases C.nm i x h1 with z|z|z
  .exact absurd z b
  .exact absurd (zCT x z) h3
  .exact ⟨z,a⟩) zAy (by intro v z;cases z) rfl rfl
 have st4:tn 0 (pushCells ((s.heap.push zAy).push { cls:=.type "dict", data:=.dict #[] }) scope.names):=T.keep 0 _ _ st λb _ o e=>pushCells_keeps _ _ b o (zXE _ (zXE _ e));unfold newEnv;rw[sz1];have hDfp:s.heap.objs.size∉fp:=λz=>zXv _ (ob _ z);obtain ⟨pD,nD,neD,nfD,dD⟩:=I4.pin (s.heap.objs.size,zAy) (by simp);have hcD:∀ x c,(zN X zB scope cl s H fp).env.cells.lookup x=some c->c≠s.heap.objs.size:=λx c e z=>by
  obtain ⟨v,o,ho,hd⟩:=I4.cell x c e;rw[z,pD]at ho;cases ho;cases hd
 have hpn:∀ p∈(zN X zB scope cl s H fp).pn++[],p.1≠s.heap.objs.size:=λp hp=>by
  rw[zXx]at hp;have hp':p∈X.pn++zB:=hp;exact zXY (zXO (I.pin p hp').1)
 have big:sysModules<s.heap.objs.size:=I.big;have hsm:(s.heap.objs.size==sysModules)=false:=by rw[beq_eq_false_iff_ne];exact zYi big
 have I5:Inv (zN X zB scope cl s H fp) [] (clr own σ) (upd H s.heap.objs.size (zBr isT)) { s with heap:=pushCells ((s.heap.push zAy).push { cls:=.type "dict", data:=.dict #[] }) scope.names }:=by
  have I4':Inv (zN X zB scope cl s H fp) [] (clr own σ) H { s with heap:=pushCells ((s.heap.push zAy).push { cls:=.type "dict", data:=.dict #[] }) scope.names }:=I4.pins_of λp hp=>nomatch hp;refine I4'.trackAt pD nD (zXJ _) neD hcD hpn ?_;cases isT with
  |false=>exact ⟨zXz _,hsm,[],.nil,zAy,#[],0,pD,⟨rfl,rfl,rfl⟩,rfl,λ_ he=>by simp at he,.nil,List.nodup_nil⟩
  |true=>exact ⟨zXz _,hsm,[],.nil,zAy,#[],0,pD,⟨rfl,rfl,rfl⟩,rfl,rfl,List.nodup_nil⟩
 have fpk:∀ {H':Hp},(∀ b∈fp,H' b=none) -> ∀ b∈fp,zCC (zN X zB scope cl s H fp) [] H' b:=λ{H'} hn b hb=>
  ⟨hn b hb,(I4.ok.exf b hb).1,I4.ok.exfs b hb,.inl hb,(I4.ok.exf b hb).2,λp hq=>by
   rw[zXx]at hq;exact (hf b hb).2.2.2.2.2 p hq⟩
 have loop:codeAny (model X.prog X.w) X.A (.compLoop (.DictComp kx vx [⟨tg,iter,ifs,0⟩] scope pos) 0 (.ref it) (.ref s.heap.objs.size) (zN X zB scope cl s H fp).env) (RR (.ref s.heap.objs.size) (s.heap.objs.size+1))
   { s with heap:=pushCells ((s.heap.push zAy).push { cls:=.type "dict", data:=.dict #[] }) scope.names }:=by
  refine zIh (λn s'=>∃ i H',Inv (zN X zB scope cl s H fp) [] (clr own σ) H' s'/\tn i s'.heap/\(∀ b∈fp,H' b=none)/\W i n H') ?_ m0
   ⟨0,_,I5,st4,λb hb=>by rw[zZ (show b≠s.heap.objs.size from λz=>hDfp (by rw[<-z];exact hb))];exact (hf b hb).1,w0⟩
  rintro n s5 ⟨i,H5,J5,st5,f5,w5⟩;rcases turn i n H5 w5 with ⟨stop,qq⟩|⟨go,step⟩
  .refine thn (T.done (zN X zB scope cl s H fp) rfl rfl rfl hcalm i _ s5 _ H5 _ J5 (fpk f5) st5 stop) λr s6 ⟨hr,I6⟩=>?_;subst hr;exact fin _ H5 s6 I6 qq
  .refine thn (T.item (zN X zB scope cl s H fp) rfl rfl rfl hcalm i _ s5 _ H5 _ J5 (fpk f5) st5 go) λr s6 ⟨u,hr,h6⟩=>?_;subst hr;refine thn h6 λ_ s7 ⟨x,H7,I7,r7,y7,st7,f7⟩=>?_;have I7':=I7.pinned (fpk f7) (T.obj _ _ st7);refine thn (hg _ s7 _ H7 x u _ I7' r7 (step x H7 y7)) λ_ s8 ⟨σ8,H8,I8,x8,q8⟩=>?_;refine thn (hi _ s8 σ8 H8 _ I8 q8) λok s9 ⟨H9,I9,q9⟩=>?_;have back:∀ {s':Yl} {Hx:Hp},Inv (zN X zB scope cl s H fp) ([]++zC4 fp s7.heap) σ8 Hx s'->tn (i+1) s'.heap /\ ∀ b∈fp,Hx b=none:=λ{s' Hx} Ix=>
    ⟨T.keep _ _ _ st7 λb hb o e=>(Ix.pin (b,o) (zXX _ (zXX _ (zAR hb e)))).1,λb hb=>by
     obtain ⟨o,e,d⟩:=T.obj _ _ st7 b hb;exact (Ix.pin (b,o) (zXX _ (zXX _ (zAR hb e)))).2.1⟩
   cases ok with
   |false=>
    obtain ⟨m',hm,w'⟩:=q9;obtain ⟨b1,b2⟩:=back I9;exact ⟨m',hm,i+1,H9,(I9.weak (by rw[x8.1]) x8.2).unpinned,b1,b2,w'⟩
   |true=>
    refine thn (hk _ s9 σ8 H9 _ I9 q9) λkv s10 ⟨y,H10,I10,r10,q10⟩=>?_;refine thn (hv _ s10 σ8 H10 _ I10 q10) λvv s11 ⟨z,H11,I11,r11,H12,m',hp,hm,w'⟩=>?_;refine zJC (X:=zN X zB scope cl s H fp) hu I11 hp r10 r11 λs12 I12 hs=>?_;obtain ⟨b1,b2⟩:=back I12;exact ⟨m',hm,i+1,H12,(I12.weak (by rw[x8.1]) x8.2).unpinned,b1,b2,w'⟩
 exact zDQ loop (T.self _ 0 _ _ _ st4 loop)
def zEw (I:Inv X zB σ H s) (hf:∀ b∈fp,zCC X zB H b)
  (Ic:Inv (zN X zB scope cl s H fp) [] σc H' s') (hs:Heap.SameBut (s.heap.objs.size+1) s'.heap h'):Inv X zB σ H' { s' with heap:=h' }:=by
 have nC:H' (s.heap.objs.size+1)=none:=Ic.free;have lt1:∀ {b:Yt} {o:Obj},s.heap.get? b=some o->b≠s.heap.objs.size+1:=λe=>zXY (zX2 (zXO e));have tr:∀ b u,H' b=some u->b≠s.heap.objs.size+1:=λb u e z=>by rw[z,nC]at e;cases e
 have B:=Ic.base;have un:Un (frs X.stack) fp H H' s.heap h':=by
  refine ⟨λb o e q hb hx=>hs.extBut b o (lt1 e) (B.keep b o e q hb hx),λb o e q hb hx=>?_,λb o e q hx=>B.free b o e q hx,λb o e hx=>?_,λb xs e=>B.tups b xs e,λb o xs e=>B.frzs b o xs e,λb ps e=>B.tbls b ps e⟩
  .obtain ⟨sl,e1⟩:=B.slot b o e q hb hx;exact ⟨sl,hs.extBut b _ (lt1 e) e1⟩
  .obtain ⟨o',e1⟩:=B.there b o e hx;exact ⟨o',hs.extBut b _ (lt1 e) e1⟩
 have hok:HOk X.prog X.w H' h':=λb u e=>by
  refine (Ic.hok b u e).stay (λc v hc q=>hs.extBut c v ?_ q) (λc q=>q) λc xs q=>q;rcases hc with z|z
  .rw[z];exact tr b u e
  .exact tr c _ z
 exact I.call' (s':={ s' with heap:=h' }) (ch:=fp) Ic.os un hok Ic.bare λb hb=>⟨(hf b hb).2.2.2.1,(hf b hb).2.1,(hf b hb).2.2.2.2.1,(hf b hb).2.2.2.2.2⟩
end
def zGS (isT:Bool) (own:Yj) (wi:TI) (g:TG) (tc:TT) (tk tv:TE):TE:=λσ H Q=>wi σ H λJ H1=>∀ D,H1 D=none -> ∃ W:Nat->Nat->Hp->Prop,(∃ m,W 0 m (upd H1 D (zBr isT))) /\ ∀ i m H,W i m H ->
 (J.stop i H/\Q (.ref D) H) \/
 (J.go i H /\ ∀ x H',J.yld i H x H'->g x (clr own σ) H' λσ2 H2=>Ext (clr own σ) σ2/\tc σ2 H2 λb H3=>
  if b=true then tk σ2 H3 λk H4=>tv σ2 H4 λv H5=>∃ H6 m',zFD H5 D k v H6/\m'<m/\W (i+1) m' H6 else ∃ m',m'<m/\W (i+1) m' H3)
section
variable {X:Cx} {scope:Y0} {tg kx vx iter:Expr} {ifs:Yi} {pos:Pos} {own:Yj} {wi:TI} {g:TG} {tc:TT} {tk tv:TE} {isT:Bool}
noncomputable def zLD (hu:X.A.units+1<cLine) (C:CompIn X scope own) (hcalm:X.calm=true) (hi:PI X tg iter wi) (p:CompParts X scope tg ifs kx g tc tk) (p2:∀ zB cl s H fp,PE (zN X zB scope cl s H fp) vx tv) (hs:∀ x,foldedSetIterable iter X.env x=pure x:=by intro _;rfl) :
  PE X (.DictComp kx vx [⟨tg,iter,ifs,0⟩] scope pos) (zGS isT own wi g tc tk tv):=by
 intro zB s σ H Q I h;obtain ⟨cl,hcl,c1,c2⟩:=C.sc.closure I;rw[arm_eval_DictComp];refine zY7 (use:=none) rfl hs hcl C.sc.kind C.sc.names (thn (hi zB s σ H _ I h) λv s1 h1=>thn h1 λitv s2 h2=>?_);obtain ⟨it,fp,tn,J,H2,e,I2,T,st2,f2,hD⟩:=h2;subst e;obtain ⟨W,⟨m0,w0⟩,turn⟩:=hD s2.heap.objs.size (I2.hok.fresh (zXJ _));refine zDz hu C hcalm I2 T st2 f2 c1 c2 (p.g _ _ _ _ _) (p.c _ _ _ _ _) (p.e _ _ _ _ _) (p2 _ _ _ _ _) (RR:=λacc C r s'=>compPost (model X.prog X.w) X.A X.xe none (EP X zB σ Q) acc C r s') (QQ:=λH=>Q (.ref s2.heap.objs.size) H) w0 turn ?_;intro σc H' s' Ic qq;obtain ⟨m,hn,_⟩:=Ic.loc;refine ⟨m,hn,λh' hs'=>?_⟩;exact ⟨.ref s2.heap.objs.size,_,zEw I2 f2 Ic hs',rfl,qq⟩
end
end L2
namespace L3
open PySem PySem.Spec PyProof.Rows L2
def zFE (isT:Bool):MO:=if isT then .dicT [] else .dict []
def zCi (g:FG) (tc:FT) (tk tv:FE) (σ:Sd) (n:Nat) (all:List D) (gd:Option (Mem->Prop)):List D->Mem->Option Mem
 |[],M=>open Classical in if zBA gd all M then some M else none
 |x::r,M=>open Classical in if zBA gd all M then match g x σ with
   |some σ1=>match tc σ1 M with
    |some (true,M1)=>match toD tk σ1 M1 with
     |some (k,M2)=>match toD tv σ1 M2 with
      |some (v,M3)=>match zD2 M3 n k v with
       |some M4=>zCi g tc tk tv σ n all gd r M4
       |none=>none
      |none=>none
     |none=>none
    |some (false,M1)=>zCi g tc tk tv σ n all gd r M1
    |none=>none
   |none=>none
  else none
def zC7 (isT:Bool) (own:Yj) (fi:FI) (g:FG) (tc:FT) (tk tv:FE):FE:=λσ M=>match fi σ M with
 |some (xs,gd,M1)=>match zCi g tc tk tv (zBN own σ) M1.length xs gd xs (M1++[zFE isT]) with
  |some M2=>some (.dat (.ref M1.length),M2)
  |none=>none
 |none=>none
def zHf {K:Yb} {isT:Bool} {own:Yj} {fi:FI} {g:TG} {fg:FG} {tc:FT} {tk tv:FE} (hg:zFk own g fg) {τ:Sv} {H:Hp} {Q:VK} (h:trE K (zC7 isT own fi fg tc tk tv) τ H Q):zGS isT own (trI K fi) g (trT K tc) (trD K (toD tk)) (trD K (toD tv)) τ H Q:=by
 obtain ⟨L,σ,M,d,Mf,c,rs,hf,q⟩:=h;unfold zC7 at hf;split at hf
 .rename_i xs gd M1 e1;split at hf
  .rename_i M2 e2;cases hf;refine ⟨L,σ,M,_,_,_,c,rs,e1,λL1 H1 J s1 c1 it p hp=>?_⟩;obtain ⟨c0,s0⟩:Cor K (L1++[p]) (M1++[zFE isT]) (upd H1 p (zBr isT))/\Stp L1 H1 (L1++[p]) (upd H1 p (zBr isT)):=by
    cases isT with
    |true=>exact c1.pushO (m:=.dicT []) hp ⟨[],zAB,rfl⟩
    |false=>exact c1.pushO (m:=.dict []) hp ⟨[],zAB,rfl⟩
   have lp0:(L1++[p])[M1.length]?=some p:=by rw[<-c1.len];simp
   refine ⟨λi m H'=>m=xs.length-i/\i<=xs.length /\ ∃ L' M',Stp (L1++[p]) (upd H1 p (zBr isT)) L' H'/\Cor K L' M' H'/\zCi fg tc tk tv (zBN own σ) M1.length xs gd (xs.drop i) M'=some Mf,
    ⟨xs.length,by simp,zXz _,_,_,.refl _ _,c0,by simpa using e2⟩,?_⟩
   rintro i m H' ⟨rfl,hi,L',M',s',c',e'⟩;have lp:L'[M1.length]?=some p:=by obtain ⟨N,hN⟩:=s'.pre;rw[hN];exact zBp lp0
   by_cases hlt:i<xs.length
   .rw[zCW hlt]at e';unfold zCi at e';split at e'
    .rename_i hgd;obtain ⟨step,_⟩:=it L' H' M' (s0.trans s') c' hgd;obtain ⟨go,yl⟩:=step i xs[i] (zXH hlt);split at e'
     .rename_i σ1 eg;refine .inr ⟨go,λv H2 hy=>?_⟩;obtain ⟨gr,rv⟩:=yl v H2 hy;have s2:Stp (L1++[p]) (upd H1 p (zBr isT)) L' H2:=s'.yld gr;refine hg (zEo own (((rs.stp s1).stp s0).stp s2)) (.refl _) rv eg λτ2 r2 x2=>⟨x2,?_⟩;split at e'
      .rename_i M3 e3;split at e'
       .rename_i kd M4 e4;split at e'
        .rename_i vd M5 e5;split at e'
         .rename_i M6 e6;refine ⟨L',σ1,M',_,_,c'.grow gr,r2,e3,λL3 H3 s3 c3=>zH0 ?_⟩;refine ⟨L3,σ1,M3,_,_,c3,r2.stp s3,e4,λL4 H4 w s4 c4 r4=>?_⟩;refine ⟨L4,σ1,M4,_,_,c4,(r2.stp s3).stp s4,e5,λL5 H5 u s5 c5 r5=>?_⟩;have st:Stp L' H' L5 H5:=(((Stp.grow gr).trans s3).trans s4).trans s5;have lp5:L5[M1.length]?=some p:=by obtain ⟨N,hN⟩:=st.pre;rw[hN];exact zBp lp
          obtain ⟨H6,h1,h2,h3⟩:=zH6 c5 lp5 (r4.stp s5) r5 e6;exact ⟨H6,xs.length-(i+1),h1,by omega,rfl,hlt,L5,M6,(s'.trans st).trans h3,h2,e'⟩
         .cases e'
        .cases e'
       .cases e'
      .rename_i M3 e3;refine ⟨L',σ1,M',_,_,c'.grow gr,r2,e3,λL3 H3 s3 c3=>zHv ?_⟩;have st:Stp L' H' L3 H3:=(Stp.grow gr).trans s3;exact ⟨xs.length-(i+1),by omega,rfl,hlt,L3,M3,s'.trans st,c3,e'⟩
      .cases e'
     .cases e'
    .cases e'
   .have hi':i=xs.length:=by omega
    subst hi';rw[List.drop_length]at e';unfold zCi at e';split at e'
    .rename_i hgd;cases e';obtain ⟨_,stop⟩:=it L' H' _ (s0.trans s') c' hgd;refine .inl ⟨stop,?_⟩;refine q L' _ _ ((s1.trans s0).trans s') c' ?_;unfold zk Rep;exact ⟨p,rfl,lp⟩
    .cases e'
  .cases hf
 .cases hf
section
variable {X:Cx} {scope:Y0} {tg kx vx iter:Expr} {ifs:Yi} {pos:Pos} {own:Yj} {isT:Bool}
noncomputable def zSV {fi:FI} {g:TG} {fg:FG} {tc:FT} {tk tv:FE} (hu:X.A.units+1<cLine) (hg:zFk own g fg) (C:CompIn X scope own) (hcalm:X.calm=true) (hi:QI X tg iter fi) (p:QParts X scope tg ifs kx g tc tk) (p2:∀ zB cl s H fp,QE (zN X zB scope cl s H fp) vx tv) (hs:∀ x,foldedSetIterable iter X.env x=pure x:=by intro _;rfl) :
  QE X (.DictComp kx vx [⟨tg,iter,ifs,0⟩] scope pos) (zC7 isT own fi fg tc tk tv) :=
 .mk <| PE.imp (zLD (isT:=isT) hu C hcalm hi.un p.parts (λ_ _ _ _ _=>(zA9 (p2 _ _ _ _ _)).un) hs) λ_ _ _ h=>zHf hg h
end
section
variable {X:Cx} {a b e o:Expr} {pos apos cpos:Pos} {f g:FE}
def zWJ (n:Nat) (hn:n<=8) (hr:Room k A):A.units+1+n<cLine:=by
 have:=hr.units;omega
end
open Builtin
def zII:fillsNumberSlot (.type "tuple") "mul" = pure false :=
 PySem.fillsNumberSlot_seq (id := "tuple.__mul__") (r:=some (.builtin "tuple.__rmul__")) F.slot_tuple_mul.lookup (by decide +kernel) F.slot_tuple_rmul.lookup (by decide +kernel)
def zM0:seqRepeat? (.type "tuple")=pure (some (.builtin "tuple.__mul__")):=by
 unfold seqRepeat?;rw[PySem.seqSlot_of (T := "tuple") (name := "__mul__") (id := "tuple.__mul__") F.slot_tuple_mul.lookup (by decide +kernel),PySem.seqSlot_of (T := "tuple") (name := "__rmul__") (id := "tuple.__rmul__") F.slot_tuple_rmul.lookup (by decide +kernel)];rfl
def zP0 (a:Int) (t:Tok) (l:Yt) (items:Yp) (n:Nat) (dd:Option Addr) (sl:Array (Option Value)) :
  Meets (Builtin.«int.__rmul__» ⟨[.int a t,.ref l],[]⟩) (λ_ R s=>s.heap.get? l=some { cls:=.type "tuple", dict:=dd,data:=.seq items n,slots:=sl }/\R (.ok (.ret Value.notImplemented)) s) :=
 .of_wp λprog w A R s h=>by obtain ⟨hp,g,d,tk,os⟩:=s;obtain ⟨hl,h⟩:=h;wp_walk using wpAny_loadPart' hl;exact ⟨_,rfl,h⟩
def zK3 (l:Yt) (items:Yp) (n:Nat) (dd:Option Addr) (sl:Array (Option Value)) (u:Tok) :
  Meets (Builtin.«tuple.__mul__» ⟨[.ref l,.int 1 u],[]⟩) (λ_ R s=>s.heap.get? l=some { cls:=.type "tuple", dict:=dd,data:=.seq items n,slots:=sl }/\R (.ok (.ret (.ref l))) s) :=
 .of_wp λprog w A R s h=>by
  obtain ⟨hp,g,d,tk,os⟩:=s;obtain ⟨hl,h⟩:=h;have f1:=AutoSeq1.idx_int;wp_walk using wpAny_loadPart' hl;exact ⟨_,rfl,h⟩
def zLY (l:Yt) (items:Yp) (n:Nat) (dd:Option Addr) (sl:Array (Option Value)) (x:Int) (u:Tok) (h0:¬ (decide (x < -(2 ^ 63))||decide (x≥2 ^ 63))=true) (h1:¬ (items.isEmpty||x==1)=true) (h2:¬ (decide (x<=0)||items.isEmpty)=true) (h3:¬ (items.size:Int)*x>(2 ^ 63-1) / 8) (h4:¬ Builtin.Tuple.tupleTooMany (items.size*x)=true)
  (hsz:(List.foldl (λx1 x2=>x1++x2) #[] (List.replicate x.toNat items)).size<=sizeLine) :
  Meets (Builtin.«tuple.__mul__» ⟨[.ref l,.int x u],[]⟩) (λ_ R s=>s.heap.get? l=some { cls:=.type "tuple", dict:=dd,data:=.seq items n,slots:=sl }/\R (.ok (.ret (Value.ref s.heap.objs.size))) { s with heap:=s.heap.push { cls:=Value.type "tuple", data:=Data.seq (List.foldl (λx1 x2=>x1++x2) #[] (List.replicate x.toNat items)) },toks:=s.toks }) :=
 .of_wp λprog w A R s h=>by
  obtain ⟨hp,g,d,tk,os⟩:=s;obtain ⟨hl,h⟩:=h;have f1:=AutoSeq1.idx_int;wp_walk using wpAny_loadPart' hl;rw[zXV h0];wp_walk using wpAny_loadPart' hl;rw[zXV h3];wp_walk using wpAny_loadPart' hl;all_goals first|exact ⟨_,rfl,h⟩|skip
section
variable {X:Cx} {a b o e e2:Expr} {pos p apos cpos:Pos} {f g:FE}
def zTf (K:Yb):R2:=λx y H Q=>∃ a k xs,x=.ref a/\y=.int k/\SqT K H a xs/\xs≠[]/\1<=k/\xs.length*k.toNat<=sizeLine /\
 (k=1->Q (.ref a) H)/\(k≠1 -> ∀ p,H p=none->Q (.ref p) (upd H p (.tup (List.replicate k.toNat xs).flatten)))
def zSb:OpR X (binaryOp .Mult) (zTf X.K):=by
 intro zB s σ H x y v u Q I rx ry h;obtain ⟨a,k,xs,rfl,rfl,ha,hx,hk,hz,q1,q2⟩:=h;cases rx;obtain ⟨t,rfl⟩:=ry;obtain ⟨its,r,p1,_⟩:=I.tuple ha;obtain ⟨⟨cls,dd,data,sl⟩,ho,hc,n,hd⟩:=id p1;simp only at hc hd;subst hc hd;have hl:its.toArray.size=xs.length:=by rw[zXL];exact r.length.symm
 have hx0:0<xs.length:=List.length_pos_iff.mpr hx;have hkz:k.toNat<=sizeLine:=zXe (Nat.le_mul_of_pos_left _ hx0) hz;have hk63:k<2 ^ 63:=by
  have:(sizeLine:Nat)<2 ^ 62:=by decide
  omega
 refine wpAny_binaryOp_repeat_ref (T := "tuple") (U := "int") (by decide) ⟨_,ho,rfl⟩ (λs'=>typeIs_int s' k t) zII F.fills_int_mul F.slot_int_rmul zM0 F.slot_int_index.lookup
  (call_meets F.slot_int_rmul (typeIs_int s k t) F.entry_int_rmul (F.args_int_rmul_2 _ _) (zP0 k t a its.toArray n dd sl)
   ⟨ho,rfl,⟨_,ho,rfl⟩,?_⟩)
 by_cases h1:k=1
 .subst h1;exact call_meets F.slot_tuple_mul ⟨_,ho,rfl⟩ F.entry_tuple_mul (F.args_tuple_mul_2 _ _) (zK3 a its.toArray n dd sl t) ⟨ho,⟨.ref a,H,I,rfl,q1 rfl⟩⟩
 .have hnew:List.foldl (λx1 x2=>x1++x2) #[] (List.replicate k.toNat its.toArray)=(List.replicate k.toNat its).flatten.toArray:=by
   have:=zGB its k.toNat [];rw[zZV]at this;exact this
  have hlr:(List.replicate k.toNat its).flatten.length<=sizeLine:=by
   rw[zJe,<-r.length,Nat.mul_comm];exact hz
  have hem:its.toArray.isEmpty=false:=by
   rw[Array.isEmpty_eq_false_iff];intro z;rw[z]at hl;simp at hl;omega
  have hprod:((its.toArray.size:Int))*k=((xs.length*k.toNat:Nat):Int):=by
   rw[hl];rw[Int.natCast_mul,show ((k.toNat:Nat):Int)=k by omega]
  refine call_meets F.slot_tuple_mul ⟨_,ho,rfl⟩ F.entry_tuple_mul (F.args_tuple_mul_2 _ _) (zLY a its.toArray n dd sl k t ?_ ?_ ?_ ?_ ?_ ?_) ⟨ho,?_⟩
  .rw[zXm (by omega),zXm (by omega)];decide
  .rw[hem,Bool.false_or];intro z;exact h1 (eq_of_beq z)
  .rw[hem,Bool.or_false,zXm (by omega)];decide
  .rw[hprod];have:(sizeLine:Nat)<=(2 ^ 63-1) / 8:=by decide
   omega
  .rw[hprod];unfold Builtin.Tuple.tupleTooMany;rw[zXm (by omega)];decide
  .rw[hnew,zXL];exact hlr
  .rw[hnew];refine ⟨.ref s.heap.objs.size,_,I.laid (t':=s.toks) (o:=.tup (List.replicate k.toNat xs).flatten) (λb ob q=>zXE _ q) (zXJ _) ?_,rfl,q2 h1 _ (I.hok.fresh (zXJ _))⟩;exact ⟨by rw[zJe,Nat.mul_comm];exact hz,_,r.rep k.toNat,zCJ.new _ _⟩
def zR.rep (h:zR L H ds vs):∀ k:Nat,zR L H (List.replicate k ds).flatten (List.replicate k vs).flatten
 |0=> .nil
 |k+1=>by
  rw[zYW,zYW,zZC,zZC];exact zR.app h (zR.rep h k)
noncomputable def zJl:K2:=λx y M=>match y with
 |.dat (.int k)=>match zCP x with
  |some xs=>if 0<xs.length/\1<=k/\xs.length*k.toNat<=sizeLine then some (.dat (.tup (List.replicate k.toNat xs).flatten),M) else none
  |none=>match zKb M x with
   |some xs=>if -(2 ^ 63)<=k/\k<2 ^ 63/\xs.length*k.toNat<=sizeLine then some (.fl (List.replicate k.toNat xs).flatten,M) else none
   |none=>none
 |_=>none
def zRx {K:Yb}:zDW K (λx y H Q=>zWC x y H Q\/zTf K x y H Q) zJl:=by
 intro L M M' H H0 x y d v w Q c rx ry hk q;unfold zJl at hk;split at hk
 .rename_i k;have hw:w=.int k:=by unfold zk Rep at ry;exact ry
  subst hw;split at hk
  .rename_i xs e1;split at hk
   .rename_i hz;cases hk;obtain ⟨p1,vs,rfl,h1,r1⟩:=zCA rx e1;refine .inr ⟨p1,k,vs,rfl,rfl,.of h1,?_,hz.2.1,by rw[r1.length];exact hz.2.2,λz=>?_,λz pp hp=>?_⟩
    .intro z;have:=r1.length;rw[z]at this;simp at this;omega
    .subst z;refine q L H _ (.refl L H) c ?_;have:(List.replicate (1:Int).toNat xs).flatten=xs:=by simp
     rw[this];unfold zk Rep;exact ⟨p1,vs,rfl,h1,r1⟩
    .exact q L _ _ (.upd hp) (c.upd hp) (Rep.newTup hp (r1.rep k.toNat))
   .cases hk
  .split at hk
   .rename_i xs e1;split at hk
    .rename_i hz;cases hk;obtain ⟨l,vs,rfl,h1,r1⟩:=zMJ c rx e1;refine .inl ⟨l,k,vs,rfl,rfl,h1,hz.1,hz.2.1,by rw[r1.length];exact hz.2.2,λp hp=>?_⟩;exact q L _ _ (.upd hp) (c.upd hp) (zk.newLst (.refl L H) c c hp (r1.rep k.toNat))
    .cases hk
   .cases hk
 .cases hk
def zWa (h1:QE X a f) (h2:QE X b g):QE X (.BinOp a .Mult b pos) (fOp zJl f g):=zK2 zRx (zUX.or zSb) h1 h2
def zLf:KB:=λxs M=>match xs with
 |[.dat (.int i),.dat (.int j)]=>some (.dat (.int (if j>i then j else i)),M)
 |_=>none
def zHp:KB:=λxs M=>match xs with
 |[.dat (.int i),.dat (.int j)]=>some (.dat (.int (if j<i then j else i)),M)
 |_=>none
def zGT (r:zCy H0 L H [.dat (.int i),.dat (.int j)] vs):vs=[.int i,.int j]:=by
 unfold zCy at r;obtain ⟨v,r1,rfl,a1,a2⟩:=r;unfold zCy at a2;obtain ⟨v2,r2,rfl,b1,b2⟩:=a2;unfold zCy at b2;subst b2;unfold zk Rep at a1 b1;subst a1 b1;rfl
def zPp {K:Yb}:zGo K (λxs H Q=>∃ i j,xs=[.int i,.int j]/\Q (.int (if j>i then j else i)) H) zLf:=by
 intro L M M' H H0 xs d vs Q c r hk q;unfold zLf at hk;split at hk
 .rename_i i j;cases hk;exact ⟨i,j,zGT r,q L H _ (.refl L H) c (zAp (L:=L) (H:=H))⟩
 .cases hk
def zQu {K:Yb}:zGo K (λxs H Q=>∃ i j,xs=[.int i,.int j]/\Q (.int (if j<i then j else i)) H) zHp:=by
 intro L M M' H H0 xs d vs Q c r hk q;unfold zHp at hk;split at hk
 .rename_i i j;cases hk;exact ⟨i,j,zGT r,q L H _ (.refl L H) c (zAp (L:=L) (H:=H))⟩
 .cases hk
noncomputable def zUO (hcalm:X.calm=true) (hg:Gl X "max") (hm:X.mg "max" = none) (ha:QAE X [e,e2] fa) (he:starEach [e,e2] X.env=(false,eval e X.env)::starEach [e2] X.env:=by rfl) (hpl:(backTo pos (starEach [e2] X.env)).any (·.1)=false:=by rfl):QE X (.Call (.Name "max" p) [e,e2] [] pos) (fB zLf fa) :=
 zEh zPp (zOs hcalm) (by rfl) hg hm ha (by decide) (by decide) he hpl
noncomputable def zUJ (hcalm:X.calm=true) (hg:Gl X "min") (hm:X.mg "min" = none) (ha:QAE X [e,e2] fa) (he:starEach [e,e2] X.env=(false,eval e X.env)::starEach [e2] X.env:=by rfl) (hpl:(backTo pos (starEach [e2] X.env)).any (·.1)=false:=by rfl):QE X (.Call (.Name "min" p) [e,e2] [] pos) (fB zHp fa) :=
 zEh zQu (zON hcalm) (by rfl) hg hm ha (by decide) (by decide) he hpl
def zEp:KM:=λx ds M=>match x,ds with
 |.dat (.ref n),[.ref m]=>match M[n]?,M[m]? with
  |some (.lst xs),some (.lst ys)=>if xs.length+ys.length<=sizeLine then some (.non,M.set n (.lst (xs++ys))) else none
  |_,_=>none
 |_,_=>none
def zM1 {K:Yb}:zQm K zNe zEp:=by
 intro L M M' H H0 x ds d v vs Q c rx rd hk q;unfold zEp at hk;split at hk
 .rename_i n m;split at hk
  .rename_i xs ys e1 e1';split at hk
   .rename_i hz;cases hk;unfold zk Rep at rx;obtain ⟨a,rfl,e2⟩:=rx;obtain ⟨ws,e3,r3⟩:=c.obj n a _ e2 e1;obtain ⟨w,rfl,r4⟩:=rd.one;unfold Rep at r4;obtain ⟨b,rfl,e4⟩:=r4;obtain ⟨zs,e5,r5⟩:=c.obj m b _ e4 e1';obtain ⟨c5,s5⟩:=c.write e2 e1 (r3.app r5);exact ⟨a,b,ws,zs,rfl,rfl,e3,e5,by rw[r3.length,r5.length];exact hz,q L _ _ s5 c5 (by unfold Rep;rfl)⟩
   .cases hk
  .cases hk
 .cases hk
noncomputable def zQG (h:QE X a f) (hg:QA X [e] fg) (hbase:attributeBase a "extend" X.env (eval a X.env)=eval a X.env:=by rfl)
  (hfew:((backTo cpos (starEach [e] X.env)).all (λx=> !x.1)&&(backToKw cpos (keywordEach [] X.env)).all (λx=>x.1.isSome)&&decide ([e].length+([]:List Keyword).length+(if ([]:List Keyword).isEmpty then 0 else 1)<30))=true:=by rfl)
  (hline:(apos.endLine==cpos.line)=true:=by rfl) (hs:starEach [e] X.env=(false,eval e X.env)::starEach [] X.env:=by rfl) (hplain:(backTo cpos (starEach [] X.env)).any (·.1)=false:=by rfl) :
  QE X (.Call (.Attribute a "extend" apos) [e] [] cpos) (fM zEp f fg) :=
 .mk <| PE.imp (zN1 PySem.F.plainAttrs_list PySem.F.slot_list_extend PySem.F.type_list_extend zOx h.un hg.un hbase hfew hline hs hplain) λ_ _ _ z=>zJd zM1 z
end
end L3
namespace HT
open PySem PySem.Spec PyProof.Rows
end HT
namespace L3
open PySem PySem.Spec PyProof.Rows L2
section
variable {X:Cx} {a b o e e2 st:Expr} {pos p p2 apos cpos:Pos} {f g:FE} {te:TE} {ts:TO}
def zOY:MtM X "list.index" (λx vs H Q=>∃ (l:Addr) (i:Int) (xs:List Int),x=.ref l/\vs=[.int i]/\H l=some (.lst (xs.map V.int))/\xs.length<=90000/\i∈xs/\Q (.int (xs.idxOf i)) H):=by
 intro zB s σ H x xs v us Q I rx rv z;obtain ⟨p,i,ns,rfl,rfl,hp,hz,hi,q⟩:=z;cases rx;obtain ⟨u,rfl,ru⟩:=rv.one;obtain ⟨t,rfl⟩:=ru;obtain ⟨z,its,n,r,hl,ee⟩:=I.lstM hp;have hia:=zMj r;have hlen:=hia.length;have hj:ns.idxOf i<ns.length:=List.idxOf_lt_length_iff.mpr hi
 refine call_meets PySem.F.slot_list_index ⟨_,ee,rfl⟩ PySem.F.entry_list_index (PySem.F.args_list_index_2 _ _)
  (PySem.SeqAt.list_indexAt p its.toArray n none #[] (.int i t) (isInt i) (ns.idxOf i) (by simpa [hlen] using hj) (by omega) ?_ ?_) ⟨ee,λy hy=>(eq_isInt i t hia y (by simpa using hy)).at _ _,⟨.int (ns.idxOf i),H,I.tok _,⟨_,rfl⟩,q⟩⟩
 .show isInt i its[ns.idxOf i]=true;rw[isInt_at i hia _ (by omega) hj];simpa using List.getElem_idxOf hj
 .intro j hjs hlt;show isInt i its[j]=false;rw[isInt_at i hia j (by simpa using hjs) (by omega)];exact ne_of_lt_idxOf hlt _
noncomputable def zEs:KM:=λx ds M=>match x,ds with
 |.dat (.ref n),[.int i]=>match M[n]? with
  |some (.lst ds)=>match zAu ds with
   |some xs=>if i∈xs/\xs.length<=90000 then some (.int (xs.idxOf i),M) else none
   |none=>none
  |_=>none
 |_,_=>none
def zNM {K:Yb}:zQm K (λx vs H Q=>∃ (l:Yt) (i:Int) (xs:Ye),x=.ref l/\vs=[.int i]/\H l=some (.lst (xs.map V.int))/\xs.length<=90000/\i∈xs/\Q (.int (xs.idxOf i)) H) zEs:=by
 intro L M M' H H0 x ds d v vs Q c rx rd hk q;unfold zEs at hk;split at hk
 .rename_i n i;split at hk
  .rename_i ds e1;split at hk
   .rename_i xs e2;split at hk
    .rename_i hi;cases hk;unfold zk Rep at rx;obtain ⟨a,rfl,e4⟩:=rx;obtain ⟨ws,e5,r5⟩:=c.obj n a _ e4 e1;have ev:=zCZ e2 r5;subst ev;exact ⟨a,i,xs,rfl,zEm rd,e5,hi.2,hi.1,q L H _ (.refl L H) c (by unfold Rep;rfl)⟩
    .cases hk
   .cases hk
  .cases hk
 .cases hk
noncomputable def zRK (h:QE X a f) (hg:QA X [e] fg) (hbase:attributeBase a "index" X.env (eval a X.env)=eval a X.env:=by rfl)
  (hfew:((backTo cpos (starEach [e] X.env)).all (λx=> !x.1)&&(backToKw cpos (keywordEach [] X.env)).all (λx=>x.1.isSome)&&decide ([e].length+([]:List Keyword).length+(if ([]:List Keyword).isEmpty then 0 else 1)<30))=true:=by rfl)
  (hline:(apos.endLine==cpos.line)=true:=by rfl) (hs:starEach [e] X.env=(false,eval e X.env)::starEach [] X.env:=by rfl) (hplain:(backTo cpos (starEach [] X.env)).any (·.1)=false:=by rfl) :
  QE X (.Call (.Attribute a "index" apos) [e] [] cpos) (fM zEs f fg) :=
 .mk <| PE.imp (zN1 PySem.F.plainAttrs_list PySem.F.slot_list_index PySem.F.type_list_index zOY h.un hg.un hbase hfew hline hs hplain) λ_ _ _ z=>zJd zNM z
end
section
variable {X:Cx} {a b a2 b2 o e e2:Expr} {pos p apos cpos:Pos}
noncomputable def zKX (k1:Str) (fv:FE) (k2:Str) (fw:FE):FE:=λσ M=>match toD fv σ (M++[.dict []]) with
 |some (v,M1)=>match toD fw σ M1 with
  |some (w,M2)=>match M2[M.length]? with
   |some (.dict [])=>if k1=k2 then none else some (.dat (.ref M.length),M2.set M.length (.dict [(.str k1,v),(.str k2,w)]))
   |_=>none
  |none=>none
 |none=>none
def zTA (h1:QE X a (fC (.str k1))) (h2:QE X b fv) (h3:QE X a2 (fC (.str k2))) (h4:QE X b2 fw):QE X (.Dict [some a,some a2] [b,b2] pos) (zKX k1 fv k2 fw):=.mk <| PE.imp (zTL (zK4 (zA9 h1).un (zA9 h2).un (zK4 (zA9 h3).un (zA9 h4).un zR5)) rfl rfl (by simp) (by simp)) λτ H Q ⟨L,σ,M,d,M',c,rs,hf,q⟩ p hp=>by
 unfold zKX at hf;split at hf
 .rename_i v M1 e2;split at hf
  .rename_i w M2 e4;split at hf
   .rename_i e5;split at hf
    .cases hf
    .rename_i hne;cases hf;obtain ⟨c0,s0⟩:=c.pushO (m:=.dict []) (o:=.dK []) hp ⟨[],zAB,rfl⟩;refine ⟨L++[p],σ,_,_,_,c0,rs.stp s0,(rfl:toD (fC (.str k1)) σ (M++[.dict []])=some (.str k1,_)),λL1 H1 x st1 c1 r1=>⟨L1,σ,_,_,_,c1,(rs.stp s0).stp st1,e2,λL2 H2 y st2 c2 r2=>?_⟩⟩;refine ⟨L2,σ,_,_,_,c2,((rs.stp s0).stp st1).stp st2,(rfl:toD (fC (.str k2)) σ M1=some (.str k2,_)),λL3 H3 x' st3 c3 r3=>⟨L3,σ,_,_,_,c3,(((rs.stp s0).stp st1).stp st2).stp st3,e4,λL4 H4 y' st4 c4 r4=>?_⟩⟩;have st:=(((s0.trans st1).trans st2).trans st3).trans st4;have hx:x=.str k1:=by unfold Rep at r1;exact r1
     have hx':x'=.str k2:=by unfold Rep at r3;exact r3
     have lp:L4[M.length]?=some p:=by
      obtain ⟨N,hN⟩:=((st1.trans st2).trans st3).trans st4 |>.pre;rw[hN,<-c.len];simp
     obtain ⟨vs,ev,dv⟩:=c4.obj _ p _ lp e5;unfold zA6 at dv;subst dv;have hm:zE4 [] [((Sum.inr k1:Key),y),(Sum.inr k2,y')]=[((Sum.inr k1:Key),y),(Sum.inr k2,y')]:=by
      unfold zE4 zB2;have h12:¬ ((Sum.inr k1:Key)=Sum.inr k2):=λz=>hne (Sum.inr.inj z);simp[h12]
     refine ⟨ev,[(Sum.inr k1,y),(Sum.inr k2,y')],by rw[hx,hx'];rfl,by simp,?_⟩;rw[hm];obtain ⟨c5,s5⟩:=c4.put (m:=.dict [(.str k1,v),(.str k2,w)]) (o':=.dK [(Sum.inr k1,y),(Sum.inr k2,y')]) lp ev (λ_ z=>by cases z) (λ_ _ z=>by cases z) λs5=>⟨_,zAB,_,y,[(Sum.inr k2,y')],rfl,rfl,(r2.stp (st3.trans st4)).stp s5,_,y',[],rfl,rfl,r4.stp s5,rfl⟩;refine q _ _ _ (st.trans s5) c5 ?_;unfold zk Rep;exact ⟨p,rfl,lp⟩
   .cases hf
  .cases hf
 .cases hf
end
section
variable {X:Cx} {e tg:Expr} {pos:Pos}
def zPQ (fg:FG) (f:FE):FS:=λσ M=>match toD f σ M with
 |some (d,M1)=>match fg d σ with
  |some σ1=>some (.nx,σ1,M1)
  |none=>none
 |none=>none
noncomputable def zVf (hk:GOk g fg) (h:QE X e f) (hg:PG X tg g) (hs:swapsWithSole [tg] e pos.line X.env=pure false:=by rfl) (hw:swappedStores [tg] e X.env=pure none:=by rfl)
  (h1:(assignEach [tg] X.env).map (·.2)=[assign tg X.env]:=by rfl):QS X (.Assign [tg] e pos) (zPQ fg f) :=
 .mk <| PS.imp (zQw h.un hg hs hw h1) λE τ H zz=>by
  obtain ⟨L,σ,M,o,σ',M',c,rs,hf,q⟩:=zz;unfold zPQ at hf;split at hf
  .rename_i d M1 e1;split at hf
   .rename_i σ1 e2;cases hf;refine zKx ⟨L,σ,M,_,_,c,rs,e1,λL1 H1 v s1 c1 r1=>?_⟩;exact hk (rs.stp s1) r1 e2 λτ' rs'=>q L1 H1 s1 c1 τ' rs'
   .cases hf
  .cases hf
variable {σ:Sd} {M:Mem} {P:Out->Sd->Mem->Prop} {fg:FG} {f:FE}
def zNb:OkS (zPQ fg f σ M) P ↔ Ok (f σ M) (zGx λd M1=>∃ σ1,fg d σ=some σ1/\P .nx σ1 M1):=by
 rw[<-zAY];unfold zPQ;constructor
 .rintro ⟨o,σ',M',e,p⟩;split at e
  .rename_i d M1 e1;split at e
   .rename_i σ1 e2;cases e;exact ⟨d,_,e1,_,e2,p⟩
   .cases e
  .cases e
 .rintro ⟨d,M1,e1,σ1,e2,p⟩;refine ⟨.nx,σ1,M1,?_,p⟩;rw[e1];dsimp only;rw[e2]
end
def SI (b:Bool) (h:Heap) (it t:Yt) (k:Nat):Prop:=if b then h.IsTupleIter it t k else h.IsListIter it t k
def SO (b:Bool) (h:Heap) (t:Yt) (xs:Yp):Prop:=if b then h.IsTuple t xs else h.IsList t xs
abbrev itO (b:Bool) (t:Addr):Obj:={ cls:=.type (if b then "tuple_iterator" else "list_iterator"),data:=.fields #[.ref t,.int 0 0] }
def SI.keep (x:SI b h it t k) (e:∀ o,h.get? it=some o->h'.get? it=some o):SI b h' it t k:=by
 cases b with
 |true=>obtain ⟨o,q,r⟩:=(show h.IsTupleIter it t k from x);exact (show h'.IsTupleIter it t k from ⟨o,e o q,r⟩)
 |false=>obtain ⟨o,q,r⟩:=(show h.IsListIter it t k from x);exact (show h'.IsListIter it t k from ⟨o,e o q,r⟩)
def SO.keep (x:SO b h t xs) (e:∀ o,h.get? t=some o->h'.get? t=some o):SO b h' t xs:=by
 cases b with
 |true=>obtain ⟨o,q,r⟩:=(show h.IsTuple t xs from x);exact (show h'.IsTuple t xs from ⟨o,e o q,r⟩)
 |false=>obtain ⟨o,q,r⟩:=(show h.IsList t xs from x);exact (show h'.IsList t xs from ⟨o,e o q,r⟩)
def SI.but (x:SI b h a t i) (hs:Heap.ExtBut c h h') (n:a≠c):SI b h' a t i:=x.keep λo e=>hs a o n e
def SO.but (x:SO b h a its) (hs:Heap.ExtBut c h h') (n:a≠c):SO b h' a its:=x.keep λo e=>hs a o n e
def SI.obj (x:SI b h it t k):∃ o,h.get? it=some o /\ ∀ v,o.data≠.cell v:=by
 cases b with
 |true=>obtain ⟨o,q,_,r⟩:=(show h.IsTupleIter it t k from x);exact ⟨o,q,λv m=>by rw[r]at m;cases m⟩
 |false=>obtain ⟨o,q,_,r⟩:=(show h.IsListIter it t k from x);exact ⟨o,q,λv m=>by rw[r]at m;cases m⟩
section
variable {prog:Ym} {w:Yo} {A:Yn} {E:Yc} {s:Yl}
def zFM (I:SI b s.heap it t i) (T:SO b s.heap t its) (hx:its[i]?=some x)
  (q:∀ h',SI b h' it t (i+1)->Heap.SameBut it s.heap h'->Q x { s with heap:=h' }):wpAny (model prog w) A (Builtin.SmallTypes.nextOf (.ref it)) Q E s:=by
 cases b with
 |true=>exact zCc (show s.heap.IsTupleIter it t i from I) (show s.heap.IsTuple t its from T) hx q
 |false=>exact wpAny_nextOf_list_item (show s.heap.IsListIter it t i from I) (show s.heap.IsList t its from T) hx q
def zI2 (hh:A.handled=none) (I:SI b s.heap it t i) (T:SO b s.heap t its) (hx:its[i]?=none)
  (q:∀ h' e,Heap.ExtBut it s.heap h'->(∃ o,h'.get? e=some o/\o.cls=.type "StopIteration")->E (.ref e) { s with heap:=h' }):wpAny (model prog w) A (Builtin.SmallTypes.nextOf (.ref it)) Q E s:=by
 cases b with
 |true=>exact zDS hh (show s.heap.IsTupleIter it t i from I) (show s.heap.IsTuple t its from T) hx q
 |false=>exact wpAny_nextOf_list_end hh (show s.heap.IsListIter it t i from I) (show s.heap.IsList t its from T) hx q
def zNl (hl:SO b s.heap l items) (hQ:Q (.ref s.heap.objs.size) { s with heap:=s.heap.push (itO b l) }):wpAny (model prog w) A (pyIter (.ref l)) Q E s:=by
 cases b with
 |true=>exact wpAny_pyIter_tuple (show s.heap.IsTuple l items from hl) hQ
 |false=>exact wpAny_pyIter_list (show s.heap.IsList l items from hl) hQ
structure ZipG (b1 b2:Bool) (h:Heap) (z TI TO i1 i2 t1 t2:Yt) (f:Yu) (k1 k2:Nat):Prop where
 z:IsZip h z TI TO f
 ti:IsPair h TI (.ref i1) (.ref i2)
 to:∃ a b,IsPair h TO a b
 a:SI b1 h i1 t1 k1
 b:SI b2 h i2 t2 k2
def zOA {b1 b2:Bool} {z TI TO i1 i2 t1 t2:Yt} {k:Nat} {xs ys:Yp} {x y:Yu} {Q:Option Value->Shared->Prop} (D:ZipApart z TI TO i1 i2 t1 t2) (Z:ZipG b1 b2 s.heap z TI TO i1 i2 t1 t2 .none k k)
  (T1:SO b1 s.heap t1 xs) (T2:SO b2 s.heap t2 ys) (hx:xs[k]?=some x) (hy:ys[k]?=some y)
  (q:∀ h',ZipG b1 b2 h' z TI TO i1 i2 t1 t2 (rawInt s.heap.objs.size) (k+1) (k+1)->IsPair h' s.heap.objs.size x y ->
   (∀ c o,c∉[z,TO,i1,i2]->s.heap.get? c=some o->h'.get? c=some o)->Q (some (.ref s.heap.objs.size)) { s with heap:=h' }):wpAny (model prog w) A (pyNext (.ref z)) Q E s:=by
 obtain ⟨Z0,P0,⟨a,b,O0⟩,I1,I2⟩:=Z;have ty:s.TypeIs (.ref z) "zip" := ⟨_,Z0,rfl⟩;unfold pyNext;refine zXD (wpAny_attempt (zXp (name:=Str.ofString "__next__") ty zYr (zXq zYr ty PySem.F.entry_zip_next ?_ (PySem.F.args_zip_next_1 _))));refine zXD (m:=field (.ref z) 2) (zXs Z0 rfl (x:=.bool false) rfl ?_);refine zXD (m:=field (.ref z) 3) (zXs Z0 rfl (x:=.ref TI) rfl ?_);refine zXD (zX3 P0 rfl ?_);refine zXD (m:=Builtin.SmallTypes.ownedTupleIsFree (.ref z)) ?_;unfold Builtin.SmallTypes.ownedTupleIsFree;refine zXD (zXs Z0 rfl (x:=.none) rfl (zXF ?_));simp only[if_true];refine zXD (zYa (zXD (zXs Z0 rfl (x:=.ref TO) rfl (zXD (zYT Z0 (by simp) λh1 Z1 e1=>?_)))));replace Z1:IsZip h1 z TI TO .ellipsis:=Z1;refine zXD ?_;simp only[List.forIn_cons,List.forIn_nil,List.zipIdx_cons,List.zipIdx_nil];refine zXD (zXD (zZD (zXD (m:=Builtin.SmallTypes.nextOf (.ref i1)) (zFM (SI.but I1 e1.extBut D.i1z) (SO.but T1 e1.extBut D.l1z) hx λh2 J1 e2=>zXF ?_))));have O2:IsPair h2 TO a b:=e2.extBut _ _ D.TOi1 (e1.extBut _ _ D.TOz O0);refine zXD (zX3 O2 rfl (zXD (wpAny_updateSeq_pair O2 λh3 O3 e3=>zXD (wpAny_letGo (zXF ?_)))));replace O3:IsPair h3 TO x b:=O3
 refine zXD (zXD (zZD (zXD (m:=Builtin.SmallTypes.nextOf (.ref i2)) (zFM (SI.but (SI.but (SI.but I2 e1.extBut D.i2z) e2.extBut D.i12.symm) e3.extBut D.TOi2.symm)
  (SO.but (SO.but (SO.but T2 e1.extBut D.l2z) e2.extBut D.l2i1) e3.extBut D.l2TO) hy λh4 J2 e4=>zXF ?_))))
 have O4:IsPair h4 TO x b:=e4.extBut _ _ D.TOi2 O3;refine zXD (zX3 O4 rfl (zXD (wpAny_updateSeq_pair O4 λh5 O5 e5=>zXD (wpAny_letGo (zXF (zXF ?_))))));replace O5:IsPair h5 TO x y:=O5;refine zXD (zX3 O5 rfl (zXD (wpAny_newTuple ?_)));have sz:h5.objs.size=s.heap.objs.size:=by rw[e5.1,e4.1,e3.1,e2.1,e1.1]
 have Z5:IsZip h5 z TI TO .ellipsis:=e5.extBut _ _ D.TOz.symm (e4.extBut _ _ D.i2z.symm (e3.extBut _ _ D.TOz.symm (e2.extBut _ _ D.i1z.symm Z1)));have kp:∀ c o,c∉[z,TO,i1,i2]->s.heap.get? c=some o->h5.get? c=some o:=λc o n e=>by
  simp only[zXP,zXi,zYY,not_or]at n;obtain ⟨n1,n2,n3,n4⟩:=n;exact e5.extBut _ _ n2 (e4.extBut _ _ n4 (e3.extBut _ _ n2 (e2.extBut _ _ n3 (e1.extBut _ _ n1 e))))
 have A5:SI b1 h5 i1 t1 (k+1):=SI.but (SI.but (SI.but J1 e3.extBut D.TOi1.symm) e4.extBut D.i12) e5.extBut D.TOi1.symm;have B5:SI b2 h5 i2 t2 (k+1):=SI.but J2 e5.extBut D.TOi2.symm;have zl:z<h5.objs.size:=zXO Z5;refine zXD (m:=Builtin.SmallTypes.ownedTupleHandOut (.ref z) (.ref h5.objs.size)) ?_;unfold Builtin.SmallTypes.ownedTupleHandOut;have Z6:IsZip (h5.push { cls:=.type "tuple", data:=.seq #[x,y] }) z TI TO .ellipsis:=zXE _ Z5;refine zXD (zYT Z6 (by simp) λh7 Z7 e7=>?_);replace Z7:IsZip h7 z TI TO (rawInt h5.objs.size):=Z7;refine zYT Z7 (by simp) λh8 Z8 e8=>?_;replace Z8:IsZip h8 z TI TO (rawInt h5.objs.size):=Z8;have up:∀ c o,c≠z->h5.get? c=some o->h8.get? c=some o:=λc o n e=>e8.extBut _ _ n (e7.extBut _ _ n (zXE _ e));have N8:IsPair h8 h5.objs.size x y:=e8.extBut _ _ (zYi zl) (e7.extBut _ _ (zYi zl) (zXN _ rfl));rw[sz]at Z8 N8;refine zXF ⟨_,rfl,?_⟩;rw[sz];refine zXF (q h8 ⟨Z8,up _ _ D.TIz (kp _ _ (by simp[D.TIz,D.TITO,D.TIi1,D.TIi2]) P0),⟨_,_,up _ _ D.TOz O5⟩,?_,?_⟩ N8 λc o n e=>up c o (λm=>n (by simp[m])) (kp c o n e))
 .exact A5.keep λo e=>up _ o D.i1z e
 .exact B5.keep λo e=>up _ o D.i2z e
def zRJ {b1 b2:Bool} {z TI TO i1 i2 t1 t2:Yt} {k:Nat} {xs ys:Yp} {Q:Option Value->Shared->Prop} (hh:A.handled=none) (D:ZipApart z TI TO i1 i2 t1 t2) (Z:ZipG b1 b2 s.heap z TI TO i1 i2 t1 t2 .none k k)
  (T1:SO b1 s.heap t1 xs) (T2:SO b2 s.heap t2 ys) (he:xs[k]?=none\/ys[k]?=none)
  (q:∀ h',(∀ c o,c∉[z,TO,i1,i2]->s.heap.get? c=some o->h'.get? c=some o)->Q none { s with heap:=h' }):wpAny (model prog w) A (pyNext (.ref z)) Q E s:=by
 obtain ⟨Z0,P0,⟨a,b,O0⟩,I1,I2⟩:=Z;have ty:s.TypeIs (.ref z) "zip" := ⟨_,Z0,rfl⟩
 have stop:∀ (e:Addr) (h':Heap),(∀ c o,c∉[z,TO,i1,i2]->s.heap.get? c=some o->h'.get? c=some o)->(∃ o,h'.get? e=some o/\o.cls=.type "StopIteration") ->
   wpAny (model prog w) A (do if (<- isInstance (.ref e) (.type "StopIteration")) then pure none else throw (.ref e):Sem (Option Value)) Q E { s with heap:=h' }:=λe h' k1 ⟨o,e1,e2⟩=>
  zXD (wpAny_isInstance (T := "StopIteration") (b:=true) ⟨o,e1,e2⟩ isSubtype_stop (zXF (q h' k1)))
 unfold pyNext;refine zXD (wpAny_attempt (zXp (name:=Str.ofString "__next__") ty zYr (zXq zYr ty PySem.F.entry_zip_next ?_ (PySem.F.args_zip_next_1 _))));refine zXD (m:=field (.ref z) 2) (zXs Z0 rfl (x:=.bool false) rfl ?_);refine zXD (m:=field (.ref z) 3) (zXs Z0 rfl (x:=.ref TI) rfl ?_);refine zXD (zX3 P0 rfl ?_);refine zXD (m:=Builtin.SmallTypes.ownedTupleIsFree (.ref z)) ?_;unfold Builtin.SmallTypes.ownedTupleIsFree;refine zXD (zXs Z0 rfl (x:=.none) rfl (zXF ?_));simp only[if_true];refine zXD (zYa (zXD (zXs Z0 rfl (x:=.ref TO) rfl (zXD (zYT Z0 (by simp) λh1 Z1 e1=>?_)))));replace Z1:IsZip h1 z TI TO .ellipsis:=Z1;refine zXD ?_;simp only[List.forIn_cons,List.forIn_nil,List.zipIdx_cons,List.zipIdx_nil];cases hx:xs[k]? with
 |none=>
  refine zXD (zXD (zZD (zXD (m:=Builtin.SmallTypes.nextOf (.ref i1)) (zI2 hh (SI.but I1 e1.extBut D.i1z) (SO.but T1 e1.extBut D.l1z) hx λh2 e e2 he=>?_))));obtain ⟨oe,o1,o2⟩:=he;have Z2:IsZip h2 z TI TO .ellipsis:=e2 _ _ D.i1z.symm Z1;have ne:e≠z:=λm=>by subst m;rw[Z2]at o1;cases o1;simp at o2
  refine zYT Z2 (by simp) λh3 _ e3=>stop e h3 (λc o n x=>?_) ⟨oe,e3.extBut _ _ ne o1,o2⟩;simp only[zXP,zXi,zYY,not_or]at n;exact e3.extBut _ _ n.1 (e2 _ _ n.2.2.1 (e1.extBut _ _ n.1 x))
 |some x=>
  have hy:ys[k]?=none:=by
   rcases he with m|m
   .rw[hx]at m;cases m
   .exact m
  refine zXD (zXD (zZD (zXD (m:=Builtin.SmallTypes.nextOf (.ref i1)) (zFM (SI.but I1 e1.extBut D.i1z) (SO.but T1 e1.extBut D.l1z) hx λh2 J1 e2=>zXF ?_))));have O2:IsPair h2 TO a b:=e2.extBut _ _ D.TOi1 (e1.extBut _ _ D.TOz O0);refine zXD (zX3 O2 rfl (zXD (wpAny_updateSeq_pair O2 λh3 O3 e3=>zXD (wpAny_letGo (zXF ?_)))))
  refine zXD (zXD (zZD (zXD (m:=Builtin.SmallTypes.nextOf (.ref i2)) (zI2 hh (SI.but (SI.but (SI.but I2 e1.extBut D.i2z) e2.extBut D.i12.symm) e3.extBut D.TOi2.symm)
   (SO.but (SO.but (SO.but T2 e1.extBut D.l2z) e2.extBut D.l2i1) e3.extBut D.l2TO) hy λh4 e e4 he=>?_))))
  obtain ⟨oe,o1,o2⟩:=he;have Z4:IsZip h4 z TI TO .ellipsis:=e4 _ _ D.i2z.symm (e3.extBut _ _ D.TOz.symm (e2.extBut _ _ D.i1z.symm Z1));have ne:e≠z:=λm=>by subst m;rw[Z4]at o1;cases o1;simp at o2
  refine zYT Z4 (by simp) λh5 _ e5=>stop e h5 (λc o n x=>?_) ⟨oe,e5.extBut _ _ ne o1,o2⟩;simp only[zXP,zXi,zYY,not_or]at n;exact e5.extBut _ _ n.1 (e4 _ _ n.2.2.2 (e3.extBut _ _ n.2.1 (e2.extBut _ _ n.2.2.1 (e1.extBut _ _ n.1 x))))
def zRY (e:h.get? it=some (itO b t)):SI b h it t 0:=by
 cases b with
 |true=>exact (show h.IsTupleIter it t 0 from ⟨_,e,rfl,rfl⟩)
 |false=>exact (show h.IsListIter it t 0 from ⟨_,e,rfl,rfl⟩)
abbrev zG1 (b1:Bool) (h:Heap) (a:Yt):Heap:=h.push (itO b1 a)
abbrev zG2 (b1 b2:Bool) (h:Heap) (a b:Yt):Heap:=zG1 b2 (zG1 b1 h a) b
abbrev zG3 (b1 b2:Bool) (h:Heap) (a b:Addr):Heap:=(zG2 b1 b2 h a b).push { cls:=.type "tuple", data:=.seq #[.ref h.objs.size,.ref (zG1 b1 h a).objs.size] }
abbrev zG4 (b1 b2:Bool) (h:Heap) (a b:Addr):Heap:=(zG3 b1 b2 h a b).push { cls:=.type "tuple", data:=.seq #[.none,.none] }
abbrev zG5 (b1 b2:Bool) (h:Heap) (a b:Addr):Heap:=(zG4 b1 b2 h a b).push { cls:=.type "zip", data:=.fields #[.none,.bool false,.bool false,.ref (zG2 b1 b2 h a b).objs.size,.ref (zG3 b1 b2 h a b).objs.size] }
def zMw (b1 b2:Bool) (a b:Addr) (xs ys:Array Value):Meets (Builtin.«zip.__new__» ⟨[.type "zip", .ref a,.ref b],[]⟩) (λ_ R s=>SO b1 s.heap a xs/\SO b2 s.heap b ys/\R (.ok (.ret (.ref (zG4 b1 b2 s.heap a b).objs.size))) { s with heap:=zG5 b1 b2 s.heap a b }) :=
 .of_wp λprog w A R s h=>by
  obtain ⟨hp,g,d,tk,os⟩:=s;obtain ⟨Ta,Tb,h⟩:=h;have sz:=sub_zip;have U1:SO b1 (Shared.heap ⟨hp,g,d,tk,os⟩) a xs:=Ta;have U2:SO b2 (Shared.heap ⟨hp.push (itO b1 a),g,d,tk,os⟩) b ys:=Tb.keep λo e=>zXE _ e;wp_walk using zNl U1,zNl U2;exact ⟨_,rfl,h⟩
def zQF (Ta:SO b1 s.heap a xs) (Tb:SO b2 s.heap b ys)
  (h:∀ h',ZipG b1 b2 h' (s.heap.objs.size+4) (s.heap.objs.size+2) (s.heap.objs.size+3) s.heap.objs.size (s.heap.objs.size+1) a b .none 0 0->(∀ c o,s.heap.get? c=some o->h'.get? c=some o)->Q (.ref (s.heap.objs.size+4)) { s with heap:=h' }) :
  wpAny (model prog w) A (call (.type "zip") [.ref a,.ref b]) Q E s:=by
 refine callType_new PySem.F.called_zip (by decide) (PySem.F.typeCall_zip_2 _ _) (PySem.F.newCall_zip_2 _ _) (λobj=>PySem.F.args_object_init_3 obj _ _) PySem.F.entry_zip_new (zMw b1 b2 a b xs ys) ⟨Ta,Tb,?_⟩;have q1:(zG1 b1 s.heap a).objs.size=s.heap.objs.size+1:=zXt ..;have q2:(zG2 b1 b2 s.heap a b).objs.size=s.heap.objs.size+2:=by rw[zXt,q1]
 have q3:(zG3 b1 b2 s.heap a b).objs.size=s.heap.objs.size+3:=by rw[zXt,q2]
 have q4:(zG4 b1 b2 s.heap a b).objs.size=s.heap.objs.size+4:=by rw[zXt,q3]
 have u:∀ {h:Heap} {c:Yt} {o p:Obj},h.get? c=some o->(h.push p).get? c=some o:=λe=>zXE _ e;have p5:(zG5 b1 b2 s.heap a b).get? (zG4 b1 b2 s.heap a b).objs.size=some _:=zXN _ rfl;have p4:(zG5 b1 b2 s.heap a b).get? (zG3 b1 b2 s.heap a b).objs.size=some _:=u (zXN _ rfl);have p3:(zG5 b1 b2 s.heap a b).get? (zG2 b1 b2 s.heap a b).objs.size=some _:=u (u (zXN _ rfl));have p2:(zG5 b1 b2 s.heap a b).get? (zG1 b1 s.heap a).objs.size=some _:=u (u (u (zXN _ rfl)));have p1:(zG5 b1 b2 s.heap a b).get? s.heap.objs.size=some _:=u (u (u (u (zXN _ rfl))));rw[q2,q3,q4]at p5;rw[q1,q2]at p3;rw[q3]at p4;rw[q1]at p2;rw[q4];exact ⟨⟨_,p5,rfl⟩,h _ ⟨p5,p3,⟨_,_,p4⟩,zRY p1,zRY p2⟩ λc o x=>u (u (u (u (u x))))⟩
end
def SqG (K:Yb) (b:Bool) (H:Hp) (a:Yt) (xs:List V):Prop:=if b then SqT K H a xs else SqL K H a xs
def zE2 (I:Inv X zB σ H s) (h:SqG X.K b H a xs):∃ its,zg xs its/\SO b s.heap a its.toArray:=by
 cases b with
 |true=>obtain ⟨its,rv,p1,_⟩:=I.tuple h;exact ⟨its,rv,p1⟩
 |false=>obtain ⟨its,rv,p1,_⟩:=I.list h;exact ⟨its,rv,p1.isList⟩
def zN3 (I:Inv X zB σ H s) (h:SqG X.K b H a xs) (h':SqG X.K b H a ys):xs=ys:=by
 cases b with
 |true=>exact I.tuple_inj h h'
 |false=>exact I.list_inj h h'
def zUS (x:SO b h a its):a<h.objs.size:=by
 cases b with
 |true=>obtain ⟨_,e,_⟩:=(show h.IsTuple a its from x);exact zXO e
 |false=>obtain ⟨_,e,_⟩:=(show h.IsList a its from x);exact zXO e
noncomputable def zWf (K:Yb) (b1 b2:Bool) (a b:Yt):It :=
 ⟨λi H=>∃ xs ys x y,SqG K b1 H a xs/\SqG K b2 H b ys/\xs[i]?=some x/\ys[i]?=some y,
  λi H v H'=>∃ T x y,v=.ref T/\H T=none/\H'=upd H T (.tup [x,y])/\(∀ xs,SqG K b1 H a xs->xs[i]?=some x) /\ ∀ ys,SqG K b2 H b ys->ys[i]?=some y,
  λi H=>∃ xs ys,SqG K b1 H a xs/\SqG K b2 H b ys/\(xs.length<=i\/ys.length<=i)⟩
def zO4 {b1 b2:Bool} {P:Ym} {w:Yo} {K:Yb} {es:Yi} {ek:Nat} {ep:Pos} {z TI TO i1 i2 a b:Yt} (D:ZipApart z TI TO i1 i2 a b) :
  Turn P w K (.Tuple es ek ep) (zWf K b1 b2 a b) [z,TI,TO,i1,i2] z (λi h=>ZipG b1 b2 h z TI TO i1 i2 a b .none i i) where
 mem:=by simp
 obj:=λi h Z c hc=>by
  obtain ⟨Z0,P0,⟨x,y,O0⟩,S1,S2⟩:=Z;obtain ⟨o1,e1,d1⟩:=S1.obj;obtain ⟨o2,e2,d2⟩:=S2.obj;simp only[zXP,zXi,zYY]at hc;rcases hc with rfl|rfl|rfl|rfl|rfl
  .exact ⟨_,Z0,λv m=>by cases m⟩
  .exact ⟨_,P0,λv m=>by cases m⟩
  .exact ⟨_,O0,λv m=>by cases m⟩
  .exact ⟨_,e1,d1⟩
  .exact ⟨_,e2,d2⟩
 keep:=λi h h' Z k=>by
  obtain ⟨Z0,P0,⟨x,y,O0⟩,S1,S2⟩:=Z;exact ⟨k z (by simp) _ Z0,k TI (by simp) _ P0,⟨x,y,k TO (by simp) _ O0⟩,S1.keep λo e=>k i1 (by simp) o e,S2.keep λo e=>k i2 (by simp) o e⟩
 item:=by
  intro X hP hw hK hc i zB s σ H E I hf Z hg;subst hP hw hK;obtain ⟨xs,ys,x,y,sa,sb,hx,hy⟩:=hg;obtain ⟨its,rv,p1⟩:=zE2 I sa;obtain ⟨its2,rv2,p2⟩:=zE2 I sb;obtain ⟨u,hu,ru⟩:=rv.get hx;obtain ⟨u2,hu2,ru2⟩:=rv2.get hy;refine zOA D Z p1 p2 (x:=u) (y:=u2) (by simpa using hu) (by simpa using hu2) λh' Z' N' kp=>⟨_,rfl,?_⟩;refine wpAny_letOwnedTupleGo_zip Z'.z λh2 Z2 e2=>?_;have hch:∀ c∈[z,TO,i1,i2],zCC X zB H c:=λc hm=>hf c (by
   simp only[zXP,zXi,zYY]at hm ⊢;rcases hm with q|q|q|q <;> simp[q])
  have kk:∀ c o,c∉[z,TO,i1,i2]->s.heap.get? c=some o->h2.get? c=some o:=λc o n e=>e2.extBut _ _ (λm=>n (by simp[m])) (kp c o n e);have zlt:z<s.heap.objs.size:=zXO Z.z;have NT:IsPair h2 s.heap.objs.size u u2:=e2.extBut _ _ (zYi zlt) N';have hfr:H s.heap.objs.size=none:=I.hok.fresh (zXJ _);refine ⟨.ref s.heap.objs.size,upd H s.heap.objs.size (.tup [x,y]),zEX (s:=s) (h':=h2) (t':=s.toks) I hch kk (zXJ _) ?_,rfl,⟨_,x,y,rfl,hfr,rfl,λws hw=>?_,λws hw=>?_⟩,?_,λc hm=>?_⟩
  .exact ⟨by show 2<=sizeLine;decide,[u,u2],.cons ru (.cons ru2 .nil),⟨_,NT,rfl,⟨_,rfl⟩,rfl⟩⟩
  .rw[zN3 I hw sa];exact hx
  .rw[zN3 I hw sb];exact hy
  .obtain ⟨_,P1,⟨q1,q2,O1⟩,S1,S2⟩:=Z';exact ⟨Z2,e2.extBut _ _ D.TIz P1,⟨q1,q2,e2.extBut _ _ D.TOz O1⟩,S1.keep λo e=>e2.extBut _ o D.i1z e,S2.keep λo e=>e2.extBut _ o D.i2z e⟩
  .have lt:c<s.heap.objs.size:=by
    obtain ⟨Z0,P0,⟨q1,q2,O0⟩,S1,S2⟩:=Z;obtain ⟨o1,f1,_⟩:=S1.obj;obtain ⟨o2,f2,_⟩:=S2.obj;simp only[zXP,zXi,zYY]at hm;rcases hm with rfl|rfl|rfl|rfl|rfl
    .exact zXO Z0
    .exact zXO P0
    .exact zXO O0
    .exact zXO f1
    .exact zXO f2
   rw[zZ (zXY lt)];exact (hf c hm).1
 done:=by
  intro X hP hw hK hc i zB s σ H E I hf Z hg;subst hP hw hK;obtain ⟨xs,ys,sa,sb,hz⟩:=hg;obtain ⟨its,rv,p1⟩:=zE2 I sa;obtain ⟨its2,rv2,p2⟩:=zE2 I sb;have l1:=rv.length;have l2:=rv2.length;refine zRJ (I.ok.hd hc) D Z p1 p2 ?_ λh' kp=>⟨rfl,zDL (s:=s) (h':=h') (t':=s.toks) I (λc hm=>hf c (by
   simp only[zXP,zXi,zYY]at hm ⊢;rcases hm with q|q|q|q <;> simp[q])) kp⟩
  rcases hz with q|q
  .exact .inl (by simp;omega)
  .exact .inr (by simp;omega)
 self:=λ_ _ _ _ _ Z h=>wpAny_pyIter_zip Z.z h
section
variable {X:Cx} {a b:Expr} {es:Yi} {ek:Nat} {ep p pos:Pos}
noncomputable def zTF {ta:TA} (hg:Gl X "zip") (hm:X.mg "zip" = none) (ha:PA X [a,b] ta) (hs:starEach [a,b] X.env=[(false,eval a X.env),(false,eval b X.env)]:=by rfl) (hs2:starEach [b] X.env=[(false,eval b X.env)]:=by rfl) :
  PI X (.Tuple es ek ep) (.Call (.Name "zip" p) [a,b] [] pos) (λσ H R=>ta σ H λvs H1=>∃ b1 b2 l1 l2 xs ys,vs=[.ref l1,.ref l2]/\SqG X.K b1 H1 l1 xs/\SqG X.K b2 H1 l2 ys/\R (zWf X.K b1 b2 l1 l2) H1):=by
 intro zB s σ H R I h;refine Call_ (zDj I hg hm (by rfl) (PyProof.Rows.callWith_type1 (thn (ha pos zB s σ H _ I h) λus s1 ⟨vs,H1,I1,r1,q1⟩=>?_) (by rw[hs,hs2]) (by rw[hs2];rfl)));obtain ⟨b1,b2,l1,l2,xs,ys,rfl,s1',s2',q⟩:=q1;cases r1 with
 |cons r rr=>
  cases rr with
  |cons r' rr=>
   cases rr;cases r;cases r';obtain ⟨its,rv,p1⟩:=zE2 I1 s1';obtain ⟨its2,rv2,p2⟩:=zE2 I1 s2';have d1:l1<s1.heap.objs.size:=zUS p1;have d2:l2<s1.heap.objs.size:=zUS p2;refine zQF p1 p2 λh' Z kp=>wpAny_pyIter_zip Z.z ?_;refine ⟨s1.heap.objs.size+4,[s1.heap.objs.size+4,s1.heap.objs.size+2,s1.heap.objs.size+3,s1.heap.objs.size,s1.heap.objs.size+1],_,_,H1,rfl,I1.kept (t':=s1.toks) kp,zO4 (zipApart_new d1 d2),Z,λc hc=>?_,q⟩;have ge:s1.heap.objs.size<=c:=by
    simp only[zXP,zXi,zYY]at hc;rcases hc with rfl|rfl|rfl|rfl|rfl
    .exact zY2 _ 4
    .exact zY2 _ 2
    .exact zY2 _ 3
    .exact zXJ _
    .exact zY2 _ 1
   exact I1.fpOk ge (I1.hok.fresh ge)
noncomputable def zLd (g:FA):FI:=λσ M=>match g σ M with
 |some ([x,y],M1)=>match zAL M1 (.dat x),zAL M1 (.dat y) with
  |some xs,some ys=>some ((xs.zip ys).map λq=>D.tup [q.1,q.2],some λM=>zAL M (.dat x)=some xs/\zAL M (.dat y)=some ys,M1)
  |_,_=>none
 |_=>none
def zNJ {K:Yb} {L1:Yg} {M1:Mem} {H1:Hp} {x:D} {v:V} {xs:List D} (c1:Cor K L1 M1 H1) (r1:Rep L1 H1 x v) (e:zAL M1 (.dat x)=some xs) :
  ∃ b l,v=.ref l/\(∃ vs,SqG K b H1 l vs) /\ ∀ L2 H2 M2,Stp L1 H1 L2 H2->Cor K L2 M2 H2->zAL M2 (.dat x)=some xs -> ∃ vs',SqG K b H2 l vs'/\zR L2 H2 xs vs':=by
 have r1':zk H1 L1 H1 (.dat x) v:=r1;cases x with
 |tup ds=>
  cases e;obtain ⟨a,vs,rfl,e3,r3⟩:=zCA r1' (xs:=xs) rfl;exact ⟨true,a,rfl,⟨vs,(show SqT K H1 a vs from .of e3)⟩,λL2 H2 M2 s2 c2 _=>⟨vs,(show SqT K H2 a vs from .of (s2.tup a vs e3)),r3.stp s2⟩⟩
 |ref n=>
  have e2:zBa M1 (.dat (.ref n))=some xs:=e;obtain ⟨a,vs,rfl,e3,r3⟩:=zBP c1 r1' e2;refine ⟨false,a,rfl,⟨vs,(show SqL K H1 a vs from .inl e3)⟩,λL2 H2 M2 s2 c2 hq=>?_⟩;unfold Rep at r1;obtain ⟨a',ha',e5⟩:=r1;cases ha';have e6:L2[n]?=some a:=by obtain ⟨N,hN⟩:=s2.pre;rw[hN];exact zBp e5
  have r2:zk H2 L2 H2 (.dat (.ref n)) (.ref a):=by unfold zk Rep;exact ⟨a,rfl,e6⟩
  obtain ⟨a2,vs',h2,e7,r7⟩:=zBP c2 r2 (show zBa M2 (.dat (.ref n))=some xs from hq);cases h2;exact ⟨vs',(show SqL K H2 a vs' from .inl e7),r7⟩
 |_=>cases e
noncomputable def zSM (hg:Gl X "zip") (hm:X.mg "zip" = none) (ha:QA X [a,b] g) (hs:starEach [a,b] X.env=[(false,eval a X.env),(false,eval b X.env)]:=by rfl) (hs2:starEach [b] X.env=[(false,eval b X.env)]:=by rfl) :
  QI X (.Tuple es ek ep) (.Call (.Name "zip" p) [a,b] [] pos) (zLd g):=.mk <| PI.imp (zTF hg hm ha.un hs hs2) λτ H R zz=>by
 obtain ⟨L,σ,M,xs,gd,M',c,rs,hf,q⟩:=zz;unfold zLd at hf;split at hf
 .rename_i x y M1 e1;split at hf
  .rename_i ds es' e2 e3;cases hf;refine ⟨L,σ,M,_,_,c,rs,e1,λL1 H1 vs s1 c1 r1=>?_⟩;obtain ⟨v,v',rfl,r2,r3⟩:=r1.two;obtain ⟨b1,l1,rfl,⟨w1,h1⟩,k1⟩:=zNJ c1 r2 e2;obtain ⟨b2,l2,rfl,⟨w2,h2⟩,k2⟩:=zNJ c1 r3 e3;refine ⟨b1,b2,l1,l2,w1,w2,rfl,h1,h2,q L1 H1 _ s1 c1 λL2 H2 M2 s2 c2 hgd=>?_⟩;obtain ⟨ws1,g1,p1⟩:=k1 L2 H2 M2 s2 c2 hgd.1;obtain ⟨ws2,g2,p2⟩:=k2 L2 H2 M2 s2 c2 hgd.2;refine ⟨λi d hd=>?_,⟨ws1,ws2,g1,g2,?_⟩⟩
   .rw[zXa]at hd;cases e2:(ds.zip es')[i]? with
    |none=>rw[e2]at hd;cases hd
    |some pr=>
     rw[e2]at hd;cases hd;obtain ⟨f1,f2⟩:=List.getElem?_zip_eq_some.mp e2;obtain ⟨u,hu,ru⟩:=p1.get f1;obtain ⟨u2,hu2,ru2⟩:=p2.get f2;refine ⟨⟨ws1,ws2,u,u2,g1,g2,hu,hu2⟩,λv H3 hy=>?_⟩;obtain ⟨T,x,y,rfl,hT,rfl,hxx,hyy⟩:=hy;have ex:=hxx ws1 g1;have ey:=hyy ws2 g2;rw[hu]at ex;cases ex;rw[hu2]at ey;cases ey;exact ⟨λa o e=>by rw[zZ (zAF e hT)];exact e,Rep.newTup hT (.cons ru (.cons ru2 .nil))⟩
   .rw[zXM,List.length_zip,p1.length,p2.length];omega
  .cases hf
 .cases hf
end
def zH9 {ns:Ye} {its:Yf} (r:zg (ns.map V.int) its) {i:Nat} {v:Yu} (h:its.toArray[i]?=some v):∃ t,v=.int (ns.getD i 0) t:=by
 have h':its[i]?=some v:=by simpa using h
 have hi:i<its.length:=(zXG.mp h').1;have hl:=r.length;rw[zXM]at hl;have hx:(ns.map V.int)[i]?=some (.int (ns.getD i 0)):=by
  rw[zXa,zXI,zXH (by omega)];rfl
 obtain ⟨u,hu,ru⟩:=r.get hx;rw[h']at hu;cases hu;obtain ⟨t,rfl⟩:=ru;exact ⟨t,rfl⟩
def zRt (hh:A.handled=none) (b:Bool) (I ax:Yt) (hne:ax≠I) (items:Yp) :
  Walks prog w A I [I,ax] [I] items.size (λi v=>items[i]?=some v) (λi h=>SI b h I ax i/\SO b h ax items):=by
 cases b with
 |true=>exact Walks.tuple hh I ax hne items
 |false=>exact Walks.list hh I ax hne items
section
variable {X:Cx} {e:Expr} {pos p:Pos}
def zO9 (gt:Bool) (hc:X.calm=true):zCI X (.builtin (if gt then "max" else "min")) (λxs H Q=>∃ (b:Bool) (a:Addr) (ns:List Int) (m:Int),xs=[.ref a]/\SqG X.K b H a (ns.map V.int)/\m∈ns/\(∀ x∈ns,if gt then x<=m else m<=x)/\Q (.int m) H):=by
 intro zB s σ H xs us Q I r h;obtain ⟨b,a,ns,m,rfl,hs,hm,hb,q⟩:=h;obtain ⟨u,rfl,ru⟩:=zEy r;cases ru;obtain ⟨its,rv,p1⟩:=zE2 I hs;have hl:its.toArray.size=ns.length:=by have:=rv.length;simp at this ⊢;omega
 have hpos:0<ns.length:=List.length_pos_of_mem hm;have hlt:=zUS p1;have hfp:∀ c∈[s.heap.objs.size,a],c<(s.heap.push (itO b a)).objs.size:=λc hc'=>by
  rw[zXt];simp only[zXP,zXi,zYY]at hc';rcases hc' with rfl|rfl
  .exact zYA _
  .exact zX2 hlt
 have st:SI b (s.heap.push (itO b a)) s.heap.objs.size a 0/\SO b (s.heap.push (itO b a)) a its.toArray:=⟨zRY (zXN _ rfl),p1.keep λo e=>zXE _ e⟩;have kp:∀ h':Heap,(∀ c o,c∉[s.heap.objs.size]->(s.heap.push (itO b a)).get? c=some o->h'.get? c=some o) -> ∀ c o,s.heap.get? c=some o->h'.get? c=some o:=λh' hk c o e0=>
  hk c o (by simp only[zXP,zXi,zYY];exact zXY (zXO e0)) (zXE _ e0)
 have fin:∀ (i:Nat) (v:Yu) (h':Heap) (tk:Nat),its.toArray[i]?=some v->ns.getD i 0=m->(∀ c o,s.heap.get? c=some o->h'.get? c=some o)->EP X zB σ Q v { s with heap:=h',toks:=tk }:=λi v h' tk hv hi hk=>by
  obtain ⟨t,rfl⟩:=zH9 rv hv;rw[hi];exact ⟨.int m,H,I.kept hk,⟨t,rfl⟩,q⟩
 cases gt with
 |true=>
  refine call_max_walk (zNl p1 ⟨s.heap.objs.size,[s.heap.objs.size,a],[s.heap.objs.size],its.toArray.size,λi v=>its.toArray[i]?=some v,λi h=>SI b h s.heap.objs.size a i/\SO b h a its.toArray,_,rfl,zRt (A:=X.A.in1) (I.ok.hd hc) b _ a (zXY hlt) its.toArray,st,hfp,by omega,CmpOf.ints_gt (λi=>ns.getD i 0) (λ_ _ hv=>zH9 rv hv),λv h' tk hP hk=>?_⟩);refine fin _ v h' tk hP ?_ (kp h' hk);obtain ⟨h1,h2⟩:=argBest_gt (λi=>ns.getD i 0) (its.toArray.size-1);rw[hl]at h1 h2 ⊢;generalize argBest _ (ns.length-1)=q at h1 h2 ⊢;obtain ⟨j,hj,ej⟩:=List.mem_iff_getElem.mp hm;have h3:=h2 j (by omega);have e3:ns.getD j 0=m:=by rw[zXI,zXH hj];exact ej
  have hq:q<ns.length:=by omega
  have h4:ns.getD q 0<=m:=by
   have:=hb (ns.getD q 0) (by rw[zXI,zXH hq];exact zXl hq);simpa using this
  rw[e3]at h3;omega
 |false=>
  refine call_min_walk (zNl p1 ⟨s.heap.objs.size,[s.heap.objs.size,a],[s.heap.objs.size],its.toArray.size,λi v=>its.toArray[i]?=some v,λi h=>SI b h s.heap.objs.size a i/\SO b h a its.toArray,_,rfl,zRt (A:=X.A.in1) (I.ok.hd hc) b _ a (zXY hlt) its.toArray,st,hfp,by omega,CmpOf.ints_lt (λi=>ns.getD i 0) (λ_ _ hv=>zH9 rv hv),λv h' tk hP hk=>?_⟩);refine fin _ v h' tk hP ?_ (kp h' hk);obtain ⟨h1,h2⟩:=argBest_lt (λi=>ns.getD i 0) (its.toArray.size-1);rw[hl]at h1 h2 ⊢;generalize argBest _ (ns.length-1)=q at h1 h2 ⊢;obtain ⟨j,hj,ej⟩:=List.mem_iff_getElem.mp hm;have h3:=h2 j (by omega);have e3:ns.getD j 0=m:=by rw[zXI,zXH hj];exact ej
  have hq:q<ns.length:=by omega
  have h4:m<=ns.getD q 0:=by
   have:=hb (ns.getD q 0) (by rw[zXI,zXH hq];exact zXl hq);simpa using this
  rw[e3]at h3;omega
def zDD (gt:Bool):Int->List Int->Int
 |m,[]=>m
 |m,x::r=>zDD gt (if (if gt then m<x else x<m) then x else m) r
theorem zDe (gt:Bool):∀ (r:Ye) (m:Int),zDD gt m r∈m::r /\ ∀ x∈m::r,if gt then x<=zDD gt m r else zDD gt m r<=x
 |[],m=>by
  refine ⟨by simp[zDD],λx hx=>?_⟩;have:x=m:=by simpa using hx
  subst this;cases gt <;> simp[zDD]
 |y::r,m=>by
  unfold zDD;obtain ⟨h1,h2⟩:=zDe gt r (if (if gt then m<y else y<m) then y else m);generalize hb:zDD gt (if (if gt then m<y else y<m) then y else m) r=B at h1 h2;constructor
  .rcases zXP.mp h1 with q|q
   .rw[q];by_cases hc:(if gt=true then m<y else y<m)
    .rw[zXS hc];simp
    .rw[zXV hc];simp
   .simp[q]
  .intro x hx;have h0:=h2 _ zXR;rcases zXP.mp hx with q|q
   .subst q;cases gt with
    |true=>simp at h0 ⊢;split at h0 <;> omega
    |false=>simp at h0 ⊢;split at h0 <;> omega
   .rcases zXP.mp q with z|z
    .subst z;cases gt with
     |true=>simp at h0 ⊢;split at h0 <;> omega
     |false=>simp at h0 ⊢;split at h0 <;> omega
    .exact h2 x (zXQ _ z)
noncomputable def zFg (gt:Bool):KB:=λxs M=>match xs with
 |[.dat d]=>match zAL M (.dat d) with
  |some ds=>match zAu ds with
   |some (n::ns)=>some (.dat (.int (zDD gt n ns)),M)
   |_=>none
  |none=>none
 |[.fl ds]=>match zAu ds with
  |some (n::ns)=>some (.dat (.int (zDD gt n ns)),M)
  |_=>none
 |_=>none
def zRD {K:Yb} {gt:Bool}:zGo K (λxs H Q=>∃ (b:Bool) (a:Yt) (ns:Ye) (m:Int),xs=[.ref a]/\SqG K b H a (ns.map V.int)/\m∈ns/\(∀ x∈ns,if gt then x<=m else m<=x)/\Q (.int m) H) (zFg gt):=by
 intro L M M' H H0 xs d vs Q c r hk q;unfold zFg at hk;split at hk
 .rename_i d0;split at hk
  .rename_i ds e1;split at hk
   .rename_i n ns e2;cases hk;obtain ⟨v,rfl,r1⟩:=r.one;have r1':Rep L H d0 v:=r1;obtain ⟨b,l,rfl,_,key⟩:=zNJ c r1' e1;obtain ⟨vs',hq,rr⟩:=key L H M (.refl L H) c e1;have ev:=zCZ e2 rr;subst ev;obtain ⟨h1,h2⟩:=zDe gt ns n;exact ⟨b,l,n::ns,zDD gt n ns,rfl,hq,h1,h2,q L H _ (.refl L H) c (zAp (L:=L) (H:=H))⟩
   .cases hk
  .cases hk
 .rename_i ds;split at hk
  .rename_i n ns e2;cases hk;obtain ⟨v,rfl,r1⟩:=r.one;obtain ⟨l,vs',rfl,hq,rr⟩:=zBP c r1 (show zBa M (.fl ds)=some ds from rfl);have ev:=zCZ e2 rr;subst ev;obtain ⟨h1,h2⟩:=zDe gt ns n;exact ⟨false,l,n::ns,zDD gt n ns,rfl,.inl hq,h1,h2,q L H _ (.refl L H) c (zAp (L:=L) (H:=H))⟩
  .cases hk
 .cases hk
noncomputable def zVO (hcalm:X.calm=true) (hg:Gl X "min") (hm:X.mg "min" = none) (ha:QAE X [e] fa) (he:starEach [e] X.env=(false,eval e X.env)::starEach [] X.env:=by rfl) (hpl:(backTo pos (starEach [] X.env)).any (·.1)=false:=by rfl):QE X (.Call (.Name "min" p) [e] [] pos) (fB (zFg false) fa) :=
 zEh zRD (zO9 false hcalm) (by rfl) hg hm ha (by decide) (by decide) he hpl
end
section
variable {X:Cx} {a e e2 o:Expr} {pos p apos cpos:Pos} {f:FE}
def zPS (f:FE):FT:=λσ M=>match f σ M with
 |some (x,M1)=>match zAL M1 x with
  |some xs=>some (!xs.isEmpty,M1)
  |none=>none
 |none=>none
noncomputable def zSy (h:QE X a f) (he:∀ whole,isTrue a X.env whole=(do let v <- whole;standAt a.pos;holding [v] (truthy v)):=by intro _;rfl):QT X a (zPS f) :=
 .mk <| PT.imp (zRS h.un he) λτ H Q zz=>by
  obtain ⟨L,σ,M,d,M',c,rs,hf,q⟩:=zz;unfold zPS at hf;split at hf
  .rename_i x M1 e1;split at hf
   .rename_i xs e2;cases hf;refine ⟨L,σ,M,_,_,c,rs,e1,λL1 H1 v s1 c1 r1=>⟨!xs.isEmpty,?_,q L1 H1 s1 c1⟩⟩;unfold zAL at e2;have emp:∀ {vs:List V},zR L1 H1 xs vs->(!xs.isEmpty) = !vs.isEmpty:=λ{vs} r=>by
     have:=r.length;cases xs <;> cases vs <;> first|rfl|simp at this
    cases t:zCP x with
    |some ws=>
     rw[t]at e2;cases e2;obtain ⟨l,vs,rfl,e3,r3⟩:=zCA r1 t;exact .inr (.inl ⟨vs,.of e3,emp r3⟩)
    |none=>
     rw[t]at e2;obtain ⟨l,vs,rfl,e3,r3⟩:=zBP c1 r1 e2;exact .inl ⟨vs,.inl e3,emp r3⟩
   .cases hf
  .cases hf
def zOM:zCI X (.builtin "len") (λxs H Q=>∃ (p:Addr) (kvs:List (Key × V)),xs=[.ref p]/\H p=some (.dK kvs)/\Q (.int kvs.length) H):=by
 intro zB s σ H xs us Q I r h;obtain ⟨p,kvs,rfl,hx,q⟩:=h;obtain ⟨u,rfl,rx⟩:=zEy r;cases rx;have hn:=zFL;obtain ⟨hz,hS,vs,r',m⟩:kvs.length<=sizeLine/\(p==sysModules)=false /\ ∃ vs,KV kvs vs/\s.heap.DictOf (zAO X.prog X.w) p vs:=I.hok p _ hx;have hlen:kvs.length=vs.length:=Paired.length r';exact call_len_dict hS m (by omega) ⟨.int kvs.length,H,I.tok _,⟨s.toks+1,by rw[hlen]⟩,q⟩
def zI7:KB:=λxs M=>match xs with
 |[.dat (.ref n)]=>match M[n]? with
  |some (.dict kvs)=>some (.dat (.int kvs.length),M)
  |_=>none
 |_=>none
def zQQ {K:Yb}:zGo K (λxs H Q=>∃ (p:Yt) (kvs:List (Key × V)),xs=[.ref p]/\H p=some (.dK kvs)/\Q (.int kvs.length) H) zI7:=by
 intro L M M' H H0 xs d vs Q c r hk q;unfold zI7 at hk;split at hk
 .rename_i n;split at hk
  .rename_i kvs e1;cases hk;obtain ⟨v,rfl,r1⟩:=r.one;unfold zk Rep at r1;obtain ⟨a,rfl,e2⟩:=r1;obtain ⟨ws,e3,r3⟩:=c.obj n a _ e2 e1;have hl:=r3.length;refine ⟨a,ws,rfl,e3,?_⟩;have:=q L H (.int kvs.length) (.refl L H) c (zAp (L:=L) (H:=H));rw[<-hl]at this;exact this
  .cases hk
 .cases hk
noncomputable def zUY (hg:Gl X "len") (hm:X.mg "len" = none) (ha:QAE X [e] fa) (he:starEach [e] X.env=(false,eval e X.env)::starEach [] X.env:=by rfl) (hpl:(backTo pos (starEach [] X.env)).any (·.1)=false:=by rfl):QE X (.Call (.Name "len" p) [e] [] pos) (fB zI7 fa) :=
 zEh zQQ zOM PySem.boot_len hg hm ha (by decide) (by decide) he hpl
end
noncomputable def zKk (fg:FG) (tc:FT) (fi2:FI) (own2:Yj) (fg2:FG) (tc2:FT) (te:FE) (σ:Sd) (all:List D) (gd:Option (Mem->Prop)):List D->List D->Mem->Option (List D × Mem)
 |[],acc,M=>open Classical in if zBA gd all M then some (acc,M) else none
 |x::r,acc,M=>open Classical in if zBA gd all M then match fg x σ with
   |some σ1=>match tc σ1 M with
    |some (true,M1)=>match fi2 σ1 M1 with
     |some (ys,gd2,M2)=>if acc.length+ys.length<=sizeLine then match zA8 fg2 tc2 te (zBN own2 σ1) ys gd2 ys M2 with
       |some (ds,M3)=>zKk fg tc fi2 own2 fg2 tc2 te σ all gd r (acc++ds) M3
       |none=>none
      else none
     |none=>none
    |some (false,M1)=>zKk fg tc fi2 own2 fg2 tc2 te σ all gd r acc M1
    |none=>none
   |none=>none
  else none
def zGE (own own2:Yj) (fi:FI) (fg:FG) (tc:FT) (fi2:FI) (fg2:FG) (tc2:FT) (te:FE):FE:=λσ M=>match fi σ M with
 |some (xs,gd,M1)=>match zKk fg tc fi2 own2 fg2 tc2 te (zBN own σ) xs gd xs [] M1 with
  |some (ys,M2)=>some (.fl ys,M2)
  |none=>none
 |none=>none
def zNO {K:Yb} {own own2:Yj} {fi fi2:FI} {g g2:TG} {fg fg2:FG} {tc tc2:FT} {te:FE} (hg:zFk own g fg) (hg2:zFk own2 g2 fg2) {τ:Sv} {H:Hp} {Q:VK} (h:trE K (zGE own own2 fi fg tc fi2 fg2 tc2 te) τ H Q) :
  zRu own own2 (trI K fi) g (trT K tc) (trI K fi2) g2 (trT K tc2) (trD K (toD te)) τ H Q:=by
 obtain ⟨L,σ,M,d,Mf,c,rs,hf,q⟩:=h;unfold zGE at hf;split at hf
 .rename_i xs gd M1 e1;split at hf
  .rename_i zs M2 e2;cases hf;refine ⟨L,σ,M,_,_,_,c,rs,e1,λL1 H1 J s1 c1 it=>?_⟩
   refine ⟨λi m ys H'=>m=xs.length-i/\i<=xs.length /\ ∃ L' M' as,Stp L1 H1 L' H'/\Cor K L' M' H'/\zR L' H' as ys/\as.length<=sizeLine/\zKk fg tc fi2 own2 fg2 tc2 te (zBN own σ) xs gd (xs.drop i) as M'=some (zs,Mf),
    ⟨xs.length,by simp,zXz _,L1,M1,[],.refl _ _,c1,.nil,zXz _,by simpa using e2⟩,?_⟩
   rintro i m ys H' ⟨rfl,hi,L',M',as,s',c',r',hl,e'⟩;by_cases hlt:i<xs.length
   .rw[zCW hlt]at e';unfold zKk at e';split at e'
    .rename_i hgd;obtain ⟨step,_⟩:=it L' H' M' s' c' hgd;obtain ⟨go,yl⟩:=step i xs[i] (zXH hlt);split at e'
     .rename_i σ1 eg;refine .inr ⟨go,λv H2 hy=>?_⟩;obtain ⟨gr,rv⟩:=yl v H2 hy;have s2:Stp L1 H1 L' H2:=s'.yld gr;refine hg (zEo own ((rs.stp s1).stp s2)) (.refl _) rv eg λτ2 r2 x2=>⟨x2,?_⟩;split at e'
      .rename_i M3 e3;split at e'
       .rename_i ys2 gd2 M4 e4;split at e'
        .rename_i hz2;split at e'
         .rename_i ds M5 e5;refine ⟨L',σ1,M',_,_,c'.grow gr,r2,e3,λL3 H3 s3 c3=>zH0 ?_⟩;have st3:Stp L' H' L3 H3:=(Stp.grow gr).trans s3;refine ⟨L3,σ1,M3,_,_,_,c3,r2.stp s3,e4,λL4 H4 J2 s4 c4 it2=>?_⟩
          refine ⟨λj m2 ws H5=>m2=ys2.length-j/\j<=ys2.length /\ ∃ L5 M6 bs cs,Stp L4 H4 L5 H5/\Cor K L5 M6 H5/\zR L5 H5 (as++bs) ws/\bs.length<=j/\zA8 fg2 tc2 te (zBN own2 σ1) ys2 gd2 (ys2.drop j) M6=some (cs,M5)/\bs++cs=ds,
           ⟨ys2.length,by simp,zXz _,L4,M4,[],ds,.refl _ _,c4,by simpa using (r'.stp st3).stp s4,zXJ _,by simpa using e5,rfl⟩,?_⟩
          rintro j m2 ws H5 ⟨rfl,hj,L5,M6,bs,cs,s5,c5,r5,hbl,e6,hbc⟩;have hws:ws.length<=as.length+j:=by rw[r5.length,zXT];omega
          by_cases hlt2:j<ys2.length
          .rw[zCW hlt2]at e6;unfold zA8 at e6;split at e6
           .rename_i hgd2;obtain ⟨step2,_⟩:=it2 L5 H5 M6 s5 c5 hgd2;obtain ⟨go2,yl2⟩:=step2 j ys2[j] (zXH hlt2);split at e6
            .rename_i σ2 eg2;refine .inr ⟨go2,λv2 H6 hy2=>?_⟩;obtain ⟨gr2,rv2⟩:=yl2 v2 H6 hy2;have s6:Stp L4 H4 L5 H6:=s5.yld gr2;refine hg2 (zEo own2 (((r2.stp s3).stp s4).stp s6)) (.refl _) rv2 eg2 λτ3 r3 x3=>⟨x3,?_⟩;split at e6
             .rename_i M7 e7;split at e6
              .rename_i d M8 e8;split at e6
               .rename_i ds' M9 e9;cases e6;refine ⟨L5,σ2,M6,_,_,c5.grow gr2,r3,e7,λL7 H7 s7 c7=>zH0 ?_⟩;refine ⟨L7,σ2,M7,_,_,c7,r3.stp s7,e8,λL8 H8 w s8 c8 r8=>?_⟩;have st:Stp L5 H5 L8 H8:=((Stp.grow gr2).trans s7).trans s8;refine ⟨by omega,ys2.length-(j+1),by omega,rfl,hlt2,L8,M8,bs++[d],ds',s5.trans st,c8,?_,by simp;omega,e9,by rw[<-hbc];simp⟩;have:=(r5.stp st).app (.cons r8 .nil);simpa using this
               .cases e6
              .cases e6
             .rename_i M7 e7;refine ⟨L5,σ2,M6,_,_,c5.grow gr2,r3,e7,λL7 H7 s7 c7=>zHv ?_⟩;have st:Stp L5 H5 L7 H7:=(Stp.grow gr2).trans s7;exact ⟨ys2.length-(j+1),by omega,rfl,hlt2,L7,M7,bs,cs,s5.trans st,c7,r5.stp st,by omega,e6,hbc⟩
             .cases e6
            .cases e6
           .cases e6
          .have hj':j=ys2.length:=by omega
           subst hj';rw[List.drop_length]at e6;unfold zA8 at e6;split at e6
           .rename_i hgd2;cases e6;obtain ⟨_,stop2⟩:=it2 L5 H5 _ s5 c5 hgd2;rw[zXx]at hbc;subst hbc;refine .inl ⟨stop2,xs.length-(i+1),by omega,rfl,hlt,L5,M5,as++bs,s'.trans ((st3.trans s4).trans s5),c5,r5,by rw[zXT];omega,e'⟩
           .cases e6
         .cases e'
        .cases e'
       .cases e'
      .rename_i M3 e3;refine ⟨L',σ1,M',_,_,c'.grow gr,r2,e3,λL3 H3 s3 c3=>zHv ?_⟩;have st:Stp L' H' L3 H3:=(Stp.grow gr).trans s3;exact ⟨xs.length-(i+1),by omega,rfl,hlt,L3,M3,as,s'.trans st,c3,r'.stp st,hl,e'⟩
      .cases e'
     .cases e'
    .cases e'
   .have hi':i=xs.length:=by omega
    subst hi';rw[List.drop_length]at e';unfold zKk at e';split at e'
    .rename_i hgd;cases e';obtain ⟨_,stop⟩:=it L' H' _ s' c' hgd;refine .inl ⟨stop,by rw[r'.length];exact hl,λp hp=>?_⟩;exact q L' _ _ ((s1.trans s').trans (.upd hp)) (c'.upd hp) (zk.newLst (s1.trans s') c c' hp r')
    .cases e'
  .cases hf
 .cases hf
section
variable {X:Cx} {scope:Y0} {elt t1 i1 t2 i2:Expr} {f1 f2:Yi} {pos:Pos}
structure QParts2 (X:Cx) (scope:Y0) (t1:Expr) (f1:Yi) (t2 i2:Expr) (f2:Yi) (elt:Expr) (g:TG) (tc:FT) (fi2:FI) (g2:TG) (tc2:FT) (te:FE):Prop where
 g:∀ zB cl s H fp,PG (zN X zB scope cl s H fp) t1 g
 c:∀ zB cl s H fp,QIfs (zN X zB scope cl s H fp) f1 tc
 w2:∀ zB cl s H fp,QI (zN X zB scope cl s H fp) t2 i2 fi2
 g2:∀ zB cl s H fp,PG (zN X zB scope cl s H fp) t2 g2
 c2:∀ zB cl s H fp,QIfs (zN X zB scope cl s H fp) f2 tc2
 e:∀ zB cl s H fp,QE (zN X zB scope cl s H fp) elt te
 s2:∀ zB cl s H fp x,foldedSetIterable i2 (zN X zB scope cl s H fp).env x=pure x
noncomputable def zSE {own own2:Yj} {fi fi2:FI} {g g2:TG} {fg fg2:FG} {tc tc2:FT} {te:FE} (hsub:∀ i∈own2,i∈own) (hg:zFk own g fg) (hg2:zFk own2 g2 fg2) (C:CompIn X scope own) (hcalm:X.calm=true) (hi:QI X t1 i1 fi) (p:QParts2 X scope t1 f1 t2 i2 f2 elt g tc fi2 g2 tc2 te) (hs:∀ x,foldedSetIterable i1 X.env x=pure x:=by intro _;rfl) :
  QE X (zBl elt t1 i1 f1 t2 i2 f2 scope pos) (zGE own own2 fi fg tc fi2 fg2 tc2 te) :=
 .mk <| PE.imp (zQq hsub C hcalm hi.un ⟨p.g,λzB cl s H fp=>(p.c zB cl s H fp).un,λzB cl s H fp=>(p.w2 zB cl s H fp).un,p.g2,λzB cl s H fp=>(p.c2 zB cl s H fp).un,λzB cl s H fp=>(zA9 (p.e zB cl s H fp)).un,p.s2⟩ hs) λ_ _ _ h=>zNO hg hg2 h
end
end L3
namespace L2
open PySem PySem.Spec PyProof.Rows
section
variable {X:Cx} {scope:Y0} {tg kx vx iter:Expr} {ifs:Yi} {pos:Pos} {own:Yj} {isT:Bool} {wi:TI} {g:TG} {tc:TT} {tk tv:TE}
noncomputable def zHZ (hN:X.N.Nodup) (hi':X.N[i]?=some x) (hx:Loc X.env.scope x) (hfn:X.fn x=true\/X.env.scope.names.lookup x=some .local)
  (hsw:swapsWith (.DictComp kx vx [⟨tg,iter,ifs,0⟩] scope pos) (some (.Name x pos')) pos''.line X.env=pure true)
  (hu:X.A.units+1<cLine) (C:CompIn X scope own) (hcalm:X.calm=true) (hi:PI X tg iter wi) (p:CompParts X scope tg ifs kx g tc tk) (p2:∀ zB cl s H fp,PE (zN X zB scope cl s H fp) vx tv) (hs:∀ x,foldedSetIterable iter X.env x=pure x:=by intro _;rfl) :
  PS X (.Assign [.Name x pos'] (.DictComp kx vx [⟨tg,iter,ifs,0⟩] scope pos) pos'') (zRX (zGS isT own wi g tc tk tv) (zD3 i)):=by
 intro zB s σ H D I h;obtain ⟨cl,hcl,c1,c2⟩:=C.sc.closure I;rw[exec_Assign_Name_used _ _ _ _ hsw];refine zXD (zYB (zXD ?_));show wpAny _ X.A (do let _ <- comprehension (.DictComp kx vx [⟨tg,iter,ifs,0⟩] scope pos) scope X.env _ newDict false (eval iter X.env) (some (assign (.Name x pos') X.env))) _ _ s
 refine zXD (zXj (zY7 (use:=some (assign (.Name x pos') X.env)) (Q:=λ_ s'=>SP X zB D .next s') rfl hs hcl C.sc.kind C.sc.names
  (thn (hi zB s σ H _ I h) λv s1 h1=>thn h1 λitv s2 h2=>?_)) (λ_ s' hq=>zXF (zXF hq)) λ_ _ e=>e)
 obtain ⟨it,fp,tn,J,H2,e,I2,T,st2,f2,hD⟩:=h2;subst e;obtain ⟨W,⟨m0,w0⟩,turn⟩:=hD s2.heap.objs.size (I2.hok.fresh (zXJ _))
 refine zDz hu C hcalm I2 T st2 f2 c1 c2 (p.g _ _ _ _ _) (p.c _ _ _ _ _) (p.e _ _ _ _ _) (p2 _ _ _ _ _) (RR:=λacc C r s'=>compPost (model X.prog X.w) X.A X.xe (some (assign (.Name x pos') X.env)) (λ_ s'=>SP X zB D .next s') acc C r s')
  (QQ:=λH=>zD3 i (.ref s2.heap.objs.size) σ H D.nx) w0 turn ?_
 intro σc H' s' Ic qq;obtain ⟨m,hn,_⟩:=Ic.loc;have J':=zEw (h':=s'.heap) I2 f2 Ic (.refl ..);obtain ⟨oC,es,ep,hoC,hdC,r1,r2⟩:=id hn;have nC:H' (s2.heap.objs.size+1)=none:=Ic.free;have K':Inv X (zB++[(s2.heap.objs.size+1,oC)]) σ H' s':=J'.pins_of λq hq=>by
  rcases zXd.mp hq with z|z
  .exact J'.pin q (zXX _ z)
  .have e:q=(s2.heap.objs.size+1,oC):=by simpa using z
   subst e;refine ⟨hoC,nC,zYi (zX2 I2.lt),I2.nofs (Nat.le_succ _),λv z=>?_⟩;have z':oC.data=.cell v:=z;rw[hdC]at z';cases z'
 show wpAny _ X.A (assign (.Name x pos') X.env (.ref s2.heap.objs.size)) _ _ _;refine thn (zKA hN hi' hx hfn _ s' σ _ (.ref s2.heap.objs.size) (.ref s2.heap.objs.size) _ K' rfl qq) λ_ s'' ⟨σ'',H'',I'',q''⟩=>?_;obtain ⟨eC,_⟩:=I''.pin (s2.heap.objs.size+1,oC) (by simp);refine ⟨m,⟨oC,es,ep,eC,hdC,r1,r2⟩,λh' hs'=>⟨σ'',H'',?_,q''⟩⟩;have I3:Inv X zB σ'' H'' s'':=I''.unpinned;obtain ⟨_,nC'',neC,_,_⟩:=I''.pin (s2.heap.objs.size+1,oC) (by simp);refine I3.turned (t':=s''.toks) (it:=s2.heap.objs.size+1) (λb o hb e=>hs'.extBut b o hb e) nC'' neC (.inr (zXe I2.sz (Nat.le_succ _))) (λx c e z=>?_) (λq hq z=>?_)
 .obtain ⟨v,o,ho,hd⟩:=I3.cell x c e;rw[z,eC]at ho;cases ho;rw[hdC]at hd;cases hd
 .obtain ⟨e,_⟩:=I2.pin q hq;exact zXY (zX2 (zXO e)) z
end
end L2
namespace L3
open PySem PySem.Spec PyProof.Rows L2
section
variable {X:Cx} {scope:Y0} {tg kx vx iter:Expr} {ifs:Yi} {pos:Pos} {own:Yj} {isT:Bool}
noncomputable def zM4 (hN:X.N.Nodup) (hi':X.N[i]?=some x) (hx:Loc X.env.scope x) (hfn:X.fn x=true\/X.env.scope.names.lookup x=some .local)
  (hsw:swapsWith (.DictComp kx vx [⟨tg,iter,ifs,0⟩] scope pos) (some (.Name x pos')) pos''.line X.env=pure true)
  (hu:X.A.units+1<cLine) (hg:zFk own g fg) (C:CompIn X scope own) (hcalm:X.calm=true) (hi:QI X tg iter fi) (p:QParts X scope tg ifs kx g tc tk) (p2:∀ zB cl s H fp,QE (zN X zB scope cl s H fp) vx tv) (hs:∀ x,foldedSetIterable iter X.env x=pure x:=by intro _;rfl) :
  QS X (.Assign [.Name x pos'] (.DictComp kx vx [⟨tg,iter,ifs,0⟩] scope pos) pos'') (zq i (zC7 isT own fi fg tc tk tv)) :=
 .mk <| PS.imp (zHZ (isT:=isT) hN hi' hx hfn hsw hu C hcalm hi.un p.parts (λ_ _ _ _ _=>(zA9 (p2 _ _ _ _ _)).un) hs) λ_ _ _ z=>zHs (λ_ _ _ z=>zHf hg z) z
end
end L3
namespace L2
open PySem PySem.Spec PyProof.Rows
end L2
namespace L3
open PySem PySem.Spec PyProof.Rows L2
open SeqAt
structure Df (K:Yb) (mg:Yh) (x:Str) (st:Stmt) (ps:Yk) where
 f:Addr
 fd:FuncData
 F:Fun K x x st f fd
 b:zHY K fd ps []
 m:mg x=some (.ref f)
structure Dg (K:Yb) (x:Str) (st:Stmt) where
 f:Addr
 {od an:Option Addr}
 {sl:Array (Option Value)}
 {oc kV dc pm cd ct:Yu}
 a:PySem.W.nsIn K mainGlobals x=some (some (.ref f))
 l:K.lookup f=some ⟨oc,od,.func (PySem.W.fnOf x x (zEi st) (zCs st) (zU st) .none kV dc pm an cd ct),sl⟩
 c:PySem.W.codeIn K cd x=true
 k:PySem.W.keepIn K (.ref f)=true
noncomputable abbrev Dg.df {K:Yb} {x:Str} {st:Stmt} {ps:Yk} {h:Heap} {mg:Yh} (g:Dg K x st) (X:K.In h) (G:h.Ns mainGlobals mg)
  (hb:∀ (kV doc pm:Yu) (an:Option Addr) (cdv ct:Yu) (us:Yf),us.length=ps.length->bindArgs (PySem.W.fnOf x x (zEi st) (zCs st) (zU st) .none kV doc pm an cdv ct) ⟨us,[]⟩=pure (ps.zip us)):Df K mg x st ps :=
 ⟨g.f,_,zQN g.l g.c g.k,(zQN g.l g.c g.k).binds hb,PySem.W.mg_of X G g.a⟩
abbrev Od (P:Ym) (w:Yo) (base:Heap) (k:Nat) {K:Yb} {mg:Yh} {x:Str} {st:Stmt} {ps:Yk} (d:Df K mg x st ps) (m:FF):Prop:=FnOk P w K mg base CX0 k d.f d.fd ps (spF K ps.length m)
abbrev Zn (K:Yb) (x:Str):Prop:=PySem.W.nsIn K mainGlobals x=some none
abbrev Ki (K:Yb) (t T:String) (b:Bool):Prop:=PySem.W.kitOne K (.type t) (.type T)=some b
def zGk {P:List Value->Prop} (h:∀ a,P [a]):∀ us:List Value,us.length=1->P us
 |[a],_=>h a
def zKf {P:List Value->Prop} (h:∀ a b,P [a,b]):∀ us:List Value,us.length=2->P us
 |[a,b],_=>h a b
def zM5 {P:List Value->Prop} (h:∀ a b c,P [a,b,c]):∀ us:List Value,us.length=3->P us
 |[a,b,c],_=>h a b c
def zWw {P:List Value->Prop} (h:∀ a b c d,P [a,b,c,d]):∀ us:List Value,us.length=4->P us
 |[a,b,c,d],_=>h a b c d
section
variable {X:Cx} {e:Expr} {es:Yi} {pos p:Pos} {x:Str} {k:Nat} {st:Stmt} {ps:Yk}
def zWY {d:Df X.K X.mg x st ps} (F:FnOk X.prog X.w X.K X.mg X.base CX0 k d.f d.fd ps (spF X.K (e::es).length g)) (hr:Room k X.A) (hg:Gl X x)
  (ha:QA X (e::es) fa) (hl:∀ σ M ds M1,fa σ M=some (ds,M1)->ds.length=(e::es).length) (hdb:(x==("__debug__" : Str))=false) (he:starEach (e::es) X.env=(false,eval e X.env)::starEach es X.env) (hpl:(backTo pos (starEach es X.env)).any (·.1)=false) :
  QE X (.Call (.Name x p) (e::es) [] pos) (zP g fa):=zUH F hr hg d.m d.F.kp d.b ha hl hdb he hpl
noncomputable def zWu (hN:X.N.Nodup) (hi:X.N[i]?=some x) (h:QE X e f) (hx:Loc X.env.scope x:=by first|exact Or.inl rfl|exact Or.inr rfl) (hs:swapsWith e (some (.Name x pos')) pos.line X.env=pure false:=by rfl)
  (hf:X.fn x=true\/X.env.scope.names.lookup x=some .local:=by first|exact .inl rfl|exact .inr rfl|assumption):QS X (.Assign [.Name x pos'] e pos) (zq i f):=zVz hN hi hx h hs hf
noncomputable def zQM (hN:X.N.Nodup) (hi:X.N[i]?=some x) (hx:Loc X.env.scope x:=by first|exact Or.inl rfl|exact Or.inr rfl) (hf:X.fn x=true\/X.env.scope.names.lookup x=some .local:=by first|exact .inl rfl|exact .inr rfl|assumption):PG X (.Name x pos) (zD3 i):=zKA hN hi hx hf
end
section
variable {prog:Ym} {w:Yo} {K:Type} [DecidableEq K] {knd:HeapKind prog w K} {A:Yn} {E:Yc} {s:Yl}
def zLa (hu:knd.room A) (hkey:knd.is s.heap k a) (hm:s.heap.DictOfH knd d xs) (hz:xs.length<=sizeLine)
  (h1:∀ u,(atKey xs k).map (·.2)=some u->Q u { s with toks:=s.toks+knd.draws k })
  (h2:(atKey xs k).map (·.2)=none -> ∀ h',h'.DictOfH knd d (storedH xs k a v)->Heap.SameBut d s.heap h'->Q v { s with heap:=h',toks:=s.toks+knd.draws k }) :
  wpAny (model prog w) A (dictSetDefault d (.ref a) v) Q E s:=by
 obtain ⟨o,es,ep,ho,hc,hd,he,his,hn⟩:=hm;unfold dictSetDefault;try with_reducible refine zX6 ?_
 refine zXD (knd.pyHash hu hkey (zXD (wpAny_dictFind_heap (s:={ s with toks:=s.toks+knd.draws k }) hu hkey ho hd he his hn (λhno=>?_) λj p hj=>?_)))
 .have ha:=atKey_none_of_get hno;have hnot:k∉xs.map (·.1):=not_mem_keys_of_get hno;refine zXD (zYa (zXD (wpAny_updateDictKeys (hz:=by have e:=size_of_entries he;omega) (s:={ s with toks:=s.toks+knd.draws k }) ho hd (zXF (h2 (by rw[ha];rfl) _ ⟨_,_,ep+1,zX0 _ ho (Obj.isFreed_of_dict (Obj.data_mapDictKeys hd _)),hc.mapDictKeys _,Obj.data_mapDictKeys hd _,?_,?_,?_⟩ (zYG ..))))));all_goals rw[storedH_new ha]
  .simp[he,entryOfKey]
  .intro x hx;rcases zXd.mp hx with q|q
   .exact knd.keeps (his x q) ho hd (zYG ..)
   .simp only[zXf]at q;subst q;exact knd.keeps hkey ho hd (zYG ..)
  .rw[zX5,zYR];refine ⟨hn,by simp,λx hx y hy=>?_⟩;simp only[zXW,List.map_nil,zXf]at hy;subst hy;exact λe=>hnot (e▸hx)
 .have ha:=atKey_of_get hn hj;refine zXD (wpAny_dictEntries (s:={ s with toks:=s.toks+knd.draws k }) ho hd ?_);rw[entry_at he j,hj];exact zXD (zYa (zXF (h1 p.2 (by rw[ha];rfl))))
def zIn (hd:(d==sysModules)=false) (v:Yu) :
  MeetsIn prog w (Builtin.«dict.setdefault» ⟨[.ref d,.ref a,v],[]⟩) (λA R s=>knd.room A.in1 /\ ∃ k xs,knd.is s.heap k a/\s.heap.DictOfH knd d xs/\xs.length<=sizeLine /\
   (∀ u,(atKey xs k).map (·.2)=some u->R (.ok (.ret u)) { s with toks:=s.toks+knd.draws k }) /\
   ((atKey xs k).map (·.2)=none -> ∀ h',h'.DictOfH knd d (storedH xs k a v)->Heap.SameBut d s.heap h'->R (.ok (.ret v)) { s with heap:=h',toks:=s.toks+knd.draws k })) :=
 .of_wp λA R s ⟨hu,k,xs,hkey,hm,hz,h1,h2⟩=>by
  unfold Builtin.«dict.setdefault»;refine zXD ?_;unfold Builtin.Dict.keyAndDefault;refine zXD (wpAny_notOrdered_dict hm.typeIs ?_);refine zXF ?_;show wpAny _ _ (if (d==sysModules)=true then _ else (dictSetDefault d (.ref a) v >>= _)) _ _ s;rw[zXV (by rw[hd];decide)];exact zXD (zLa hu hkey hm hz (λu hv=>zXF ⟨u,rfl,h1 u hv⟩) λhn h' hm' hs'=>zXF ⟨v,rfl,h2 hn h' hm' hs'⟩)
end
section
variable {X:Cx} {zB:Yd} {σ:L2.St} {H:Hp} {s:Yl} {a:Yt} {y v:V} {u r:Yu} {A:Yn} {E:Yc}
def zQ3 (hu:A.units+1<cLine) (I:Inv X zB σ H s) (e:H a=some (.dT kvs)) (eb:H b=some (.tup (k.map kV))) (hl:kvs.length<sizeLine) (rv:zw v r)
  (h1:∀ x,zCQ kvs k=some x -> ∀ w' s',Inv X zB σ H s'->zw x w'->Q w' s') (h2:zCQ kvs k=none -> ∀ s',Inv X zB σ (upd H a (.dT (zB2 kvs k v))) s'->Q r s') :
  wpAny (model X.prog X.w) A (call (.builtin "dict.setdefault") [.ref a,.ref b,r]) Q E s:=by
 obtain ⟨z,hd,xs,rel,dd⟩:=zQO I.hok e;have hz:xs.length<=sizeLine:=by rw[<-Paired.length rel];exact z
 refine call_meetsIn PySem.F.slot_dict_setdefault dd.typeIs PySem.F.entry_dict_setdefault (PySem.F.args_dict_setdefault_3 _ _ _) (zIn (knd:=tupleKind (zAO X.prog X.w)) hd r) ⟨tupleKind_room_in1 hu,k,xs,zEc I.hok eb,dd,hz,λu' hu'=>?_,λhn h' dd' hs=>?_⟩
 .have rl:=rel.val k;rw[hu']at rl;cases hv:zCQ kvs k with
  |none=>rw[hv]at rl;cases rl
  |some x=>
   rw[hv]at rl;exact h1 x hv _ _ (I.tok _) rl
 .have rl:=rel.val k;rw[hn]at rl;cases hv:zCQ kvs k with
  |some x=>rw[hv]at rl;cases rl
  |none=>
   refine h2 hv _ ?_;have hl':(zB2 kvs k v).length<=sizeLine:=by have:=zBk kvs k v;omega
   obtain ⟨q,es,ep,hq,q2,q3,q4,_,q5⟩:=dd';refine zEj I (by rw[e];exact True.intro) hs ⟨q,hq⟩ ⟨hl',hd,_,(rel.put k eb rv).keeps λc ys ec=>?_,q,es,ep,hq,q2,q3,q4,q5⟩;rw[zZ (zH7 ec e (λz=>nomatch z))];exact ec
end
def zTK (td ty tx:TE):TE:=λσ H Q=>td σ H λx H1=>∃ a,x=.ref a/\IsD H1 a/\ty σ H1 λy H2=>tx σ H2 λz H3=>∃ kvs k b,H3 a=some (.dT kvs)/\y=.ref b/\H3 b=some (.tup (k.map kV))/\kvs.length<sizeLine/\(∀ v,zCQ kvs k=some v->Q v H3)/\(zCQ kvs k=none->Q z (upd H3 a (.dT (zB2 kvs k z))))
section
variable {X:Cx} {e o i:Expr} {apos cpos:Pos} {td ty tx:TE} {f g h:FE}
def zOo (hu:X.A.units+1<cLine) (ho:PE X o td) (he:PE X i ty) (hf:PE X e tx) (m:M2 X o "setdefault" apos i e cpos):PE X (.Call (.Attribute o "setdefault" apos) [i,e] [] cpos) (zTK td ty tx):=by
 intro zB s σ H Q I q;refine wpAny_Call_method m.base m.few m.line PySem.F.plainAttrs_dict PySem.F.slot_dict_setdefault PySem.F.type_dict_setdefault (thn (ho zB s σ H _ I q) λu s1 ⟨x,H1,I1,rx,a,ex,d,q1⟩=>?_);subst ex;obtain rfl:u=Value.ref a:=rx;obtain ⟨t1,t2,_⟩:=zRa I1 d;refine ⟨t1,t2,?_⟩;rw[m.trees];refine Calls.callWith_builtin rfl (Calls.evalArgs_plain (Calls.spliced_cons (thn (he zB s1 σ H1 _ I1 q1) λiv s2 ⟨y,H2,I2,ry,q2⟩=>Calls.spliced_cons (thn (hf zB s2 σ H2 _ I2 q2) λfv s3 ⟨z,H3,I3,rz,kvs,k,b,e3,ey,eb,hl,qa,qb⟩=>Calls.spliced_nil ?_))));subst ey;cases (show iv=Value.ref b from ry);exact zQ3 hu I3 e3 eb hl rz (λv hv w' s4 I4 rw'=>⟨v,H3,I4,rw',qa v hv⟩) λhn s4 I4=>⟨z,_,I4,rz,qb hn⟩
noncomputable def zB7 (fo fi fx:FE):FE:=λσ M=>match toD fo σ M with
 |some (.ref n,M1)=>match M1[n]? with
  |some (.dicT _)=>match toD fi σ M1 with
   |some (k,M2)=>match toD fx σ M2 with
    |some (x,M3)=>match M3[n]?,tkD k with
     |some (.dicT kvs),some kk=>if kvs.length<sizeLine then match zBy tkD kvs kk with
       |some v=>some (.dat v,M3)
       |none=>some (.dat x,M3.set n (.dicT (zGr tkD kvs kk k x))) else none
     |_,_=>none
    |none=>none
   |none=>none
  |_=>none
 |_=>none
def zP3 (hu:X.A.units+1<cLine) (ho:QE X o f) (hi:QE X i g) (hx:QE X e h) (m:M2 X o "setdefault" apos i e cpos):QE X (.Call (.Attribute o "setdefault" apos) [i,e] [] cpos) (zB7 f g h) :=
 .mk <| PE.imp (zOo hu (zA9 ho).un (zA9 hi).un (zA9 hx).un m) λτ H Q zz=>by
  obtain ⟨L,σ,M,d,M',c,rs,hf,q⟩:=zz;unfold zB7 at hf;split at hf
  .rename_i n M1 e1;split at hf
   .rename_i kvs0 e0;split at hf
    .rename_i k M2 e2;split at hf
     .rename_i x M3 e3;split at hf
      .rename_i kvs kk e4 e5;split at hf
       .rename_i hl;refine ⟨L,σ,M,_,_,c,rs,e1,λL1 H1 u s1 c1 r1=>?_⟩;unfold Rep at r1;obtain ⟨a,rfl,ea⟩:=r1;refine ⟨a,rfl,?_,L1,σ,M1,_,_,c1,rs.stp s1,e2,λL2 H2 y s2 c2 r2=>⟨L2,σ,M2,_,_,c2,(rs.stp s1).stp s2,e3,λL3 H3 z s3 c3 r3=>?_⟩⟩
        .obtain ⟨vs,q5,_⟩:=c1.obj n a _ ea e0;exact .inr ⟨vs,.inl q5⟩
        have ea3:L3[n]?=some a:=by obtain ⟨N,hN⟩:=(s2.trans s3).pre;rw[hN];exact zBp ea
        obtain ⟨vs,q5,r⟩:=c3.obj n a _ ea3 e4;obtain ⟨b,rfl,eb⟩:=zJx (r2.stp s3) e5;refine ⟨vs,kk,b,q5,rfl,eb,by rw[r.length];exact hl,λv hv=>?_,λhv=>?_⟩
        .rcases zCm kk r with ⟨h1,h2⟩|⟨d',v',h1,h2,h3⟩
         .rw[h2]at hv;cases hv
         .rw[h1]at hf;rw[h2]at hv;cases hf;cases hv;exact q L3 H3 _ ((s1.trans s2).trans s3) c3 h3
        .rcases zCm kk r with ⟨h1,h2⟩|⟨d',v',h1,h2,h3⟩
         .rw[h1]at hf;cases hf;obtain ⟨c4,s4⟩:=c3.put (m:=.dicT (zGr tkD kvs kk k x)) (o':=.dT (zB2 vs kk z)) ea3 q5 (λ_ z=>by cases z) (λ_ _ z=>by cases z) λs4=>⟨_,zAB,(zKp e5 r3 r).stp s4⟩;exact q L3 _ _ (((s1.trans s2).trans s3).trans s4) c4 (r3.stp s4)
         .rw[h2]at hv;cases hv
       .cases hf
      .cases hf
     .cases hf
    .cases hf
   .cases hf
  .cases hf
end
end L3
namespace ST
open PySem PySem.Spec PyProof.Rows
end ST
namespace L3
open PySem PySem.Spec PyProof.Rows L2 ST
end L3
namespace ST
open PySem PySem.Spec PyProof.Rows
end ST
namespace L3
open PySem PySem.Spec PyProof.Rows L2 ST
end L3
namespace L2
open PySem PySem.Spec PyProof.Rows
section
variable {prog:Ym} {w:Yo} {A:Yn} {E:Yc} {s:Yl}
def zJZ (hx:s.heap.get? a=some o) (hc:o.cls=.type "list") (hdat:o.data=.seq xs k) (hd:o.dict=none) (hA:A.handled=none)
  (h:∀ h' tk,(∀ b u,s.heap.get? b=some u->h'.get? b=some u)->Q none { s with heap:=h',toks:=tk }):wpAny (model prog w) A (getAttr? (.ref a) "keys") Q E s:=by
 obtain ⟨c,dct,dat,sl⟩:=o;simp only at hc hdat hd;subst hc hdat hd;obtain ⟨hp,g,d,tk,os⟩:=s;have hT:∀ tk',(⟨hp,g,d,tk',os⟩:Shared).TypeIs (.ref a) "list" := λ_=>⟨_,hx,rfl⟩;have f1:=sub_AttributeError;have f3:=F.slot_list_getattribute.lookup;have f4:=F.slot_list_getattribute.bind (.ref a);have f5:=am_list_getattr_none;have hmiss:typeLookup (.type "list") "keys" = pure none:=by rw[typeLookup_type,builtinLookup_eq_fast];kernel_rfl
 unfold getAttr? getAttrBy? getAttrBy;repeat (any_goals (first|assumption|exact hT _|((with_reducible show wpAny _ _ (call (Value.builtin "list.__getattribute__") _ _) _ _ _);refine call_meets F.slot_list_getattribute (hT _) am_entry_list_getattribute (F.args_list_getattribute_2 _ _) (meets_getattribute_miss_list a xs k sl "keys" _ hmiss (by decide)) ⟨hx,hA,λh' tk' e hx'=>?_⟩)|wp_step))
 obtain ⟨t',u',he⟩:=hx'.there;unfold getattributeRaised;repeat (any_goals (first|assumption|wp_step))
 exact h _ _ hx'.keeps
end
set_option genInjectivity true in
inductive Puts (d:Yt):List V->Hp->Hp->Prop
 |nil {H:Hp}:Puts d [] H H
 |cons {b:Yt} {k x:V} {vs:List V} {H H1 H2:Hp}:H b=some (.tup [k,x])->zFD H d k x H1->Puts d vs H1 H2->Puts d (.ref b::vs) H H2
def zDy:entryFor table "dict.update.loop" = some Builtin.«dict.update.loop»:=entryFor_of_tree (by kernel_rfl)
def zBd:plainId "dict.update.loop" = true:=by decide +kernel
def zFD.some {H H1:Hp} {d:Yt} {k x:V} (p:zFD H d k x H1):H d≠none /\ ∀ b,b≠d->H1 b=H b:=by
 rcases p with ⟨kvs,k,e,_,_,rfl⟩|⟨kvs,k,b,e,_,_,_,rfl⟩
 .exact ⟨by rw[e];simp,λb hb=>zZ hb⟩
 .exact ⟨by rw[e];simp,λb hb=>zZ hb⟩
section
variable {X:Cx} {zB:Yd} {σ:St} {A:Yn}
def zO5 (hu:A.units+2<cLine) (hA:A.handled=none) (hai:a≠it) (had:a≠d) (P:Puts d vs H H2) :
  ∀ (pre its:Yf) (j:Int) (s:Yl),items.toList=pre++its->zg vs its->Inv X zB σ H s->zCC X zB H it->s.heap.IsListIter it a pre.length->s.heap.IsList a items ->
   (∀ s',Inv X zB σ H2 s'->R (.ok (.ret .none)) s')->codeAny (model X.prog X.w) A (.builtin "dict.update.loop" ⟨[.ref d,.ref it,rawInt j,.none],[]⟩) R s:=by
 have W:=Walks.list (prog:=X.prog) (w:=X.w) (A:=A.in1) (by simpa using hA) it a hai items;induction P with
 |nil=>
  intro pre its j s hi hv I hf h1 h2 hR;cases hv;have hn:items.size=pre.length:=by rw[<-zXw,hi];simp
  refine codeAny_builtin zDy ?_;rw[Around.under_plainId zBd _];refine zXD (W.done s _ _ (by rw[hn];exact ⟨h1,h2⟩) λh' tk k=>?_);refine zXD (zXF ?_);exact zXF (hR _ (L3.zDL (s:=s) (h':=h') (t':=tk) I (ch:=[it]) (λb hb=>by cases zXf.mp hb;exact hf) λb u hb e=>k b u hb e))
 | @cons b k x vs H H1 H2 eb dp _ ih=>
  intro pre its j s hi hv I hf h1 h2 hR;cases hv with
  | @cons _ u _ its rb hv=>
  cases rb;have hlt:pre.length<items.size:=by rw[<-zXw,hi];simp
  refine codeAny_builtin zDy ?_;rw[Around.under_plainId zBd _];refine zXD (W.item pre.length s _ _ hlt ⟨h1,h2⟩ λv h' tk hP hst kk=>?_);have hv':v=.ref b:=by
   rw[<-Array.getElem?_toList,hi]at hP;simpa using hP.symm
  subst hv';have I1:Inv X zB σ H { s with heap:=h',toks:=tk }:=L3.zDL (s:=s) (h':=h') (t':=tk) I (ch:=[it]) (λb hb=>by cases zXf.mp hb;exact hf) λb u hb e=>kk b u hb e;obtain ⟨us,ru,⟨o,eo,oc,no,od⟩,_⟩:=I1.tuple (a:=b) (xs:=[k,x]) (.inl (.inl eb));obtain ⟨u1,u2,rfl,r1,r2⟩:=zRI ru;refine zXD (zX6 ?_);refine zXD (wpAny_tryCatch ?_);unfold Builtin.Dict.pairItems;refine zXD (wpAny_typeOf (T := "tuple") ⟨o,eo,oc⟩ ?_);rw[zXS (by decide)];refine zXD (zX3 eo od (zXF ?_));refine zX6 (zJC (show A.in1.units+1<cLine from hu) I1 dp r1 r2 λs3 I3 hs=>?_);obtain ⟨dn,ds⟩:=dp.some;have hid:it≠d:=λz=>dn (z▸hf.1);have hst3:=W.frame (pre.length+1) h' s3.heap hst λc hc o e=>by
   rw[hs.2 c (λz=>by
    rcases zXP.mp hc with q|q
    .exact hid (q.symm.trans z)
    .exact had ((zXf.mp q).symm.trans z))]
   exact e
  refine zXF ⟨plainId_quiet zBd _,ih (pre++[.ref b]) its (j+1) s3 (by rw[hi];simp) hv I3 ⟨(ds it hid).trans hf.1,hf.2⟩ (by rw[zXT];exact hst3.1) hst3.2 hR⟩
def zMD (hu:X.A.units+1+4<cLine) (hc:X.calm=true):zCI X (.type "dict") (λxs H Q=>∃ a vs isT,xs=[.ref a]/\H a=some (.lst vs) /\ ∀ p,H p=none -> ∃ H2,Puts p vs (upd H p (zBr isT)) H2/\Q (.ref p) H2):=by
 intro zB s σ H xs us Q I r h;obtain ⟨a,vs,isT,rfl,ea,q⟩:=h;obtain ⟨u,rfl,rx⟩:=zEy r;cases rx;obtain ⟨its,rv,⟨ol,nl,e1,e2,e3,e4⟩,hz⟩:=I.list (xs:=vs) (.inl (.inl ea));have hA:X.A.handled=none:=I.ok.hd hc;have hp:H s.heap.objs.size=none:=I.hok.fresh (zXJ _);obtain ⟨H2,P,qq⟩:=q _ hp;refine callType_codes (Q₁:=λobj s₁=>obj=.ref s.heap.objs.size/\s₁={ s with heap:=s.heap.push zAy }) F.kt_called_dict (F.kt_typeCall_dict_1 _) F.entry_dict_init (kt_code_dict_new _ ⟨rfl,rfl⟩) ?_;rintro obj s₁ ⟨rfl,rfl⟩;have big:sysModules<s.heap.objs.size:=I.big;have hsm:(s.heap.objs.size==sysModules)=false:=by rw[beq_eq_false_iff_ne];exact zYi big
 have pD:(s.heap.push zAy).get? s.heap.objs.size=some zAy:=zXN _ rfl;have I1:Inv X zB σ (upd H s.heap.objs.size (zBr isT)) { s with heap:=s.heap.push zAy }:=by
  refine I.laid (t':=s.toks) (λb q z=>zXE _ z) (zXJ _) ?_;cases isT with
  |false=>exact ⟨zXz _,hsm,[],.nil,zAy,#[],0,pD,⟨rfl,rfl,rfl⟩,rfl,λ_ he=>by simp at he,.nil,List.nodup_nil⟩
  |true=>exact ⟨zXz _,hsm,[],.nil,zAy,#[],0,pD,⟨rfl,rfl,rfl⟩,rfl,rfl,List.nodup_nil⟩
 have hl1:(s.heap.push zAy).get? a=some ol:=zXE _ e1;have hap:a≠s.heap.objs.size:=zXY (zXO e1);refine ⟨⟨_,pD,rfl⟩,F.args_dict_init_2 _ _,?_⟩;unfold Builtin.«dict.__init__»;refine zXD ?_;unfold Builtin.Dict.selfAndRest;refine zXD (wpAny_notOrdered_dict ⟨_,pD,rfl⟩ ?_);refine zXF ?_;show wpAny _ _ (Builtin.Dict.updateFrom "dict.__init__" s.heap.objs.size (.ref a) [] .none) _ _ _;unfold Builtin.Dict.updateFrom;refine zXD (wpAny_typeOf (T := "list") ⟨ol,hl1,e2⟩ ?_);rw[zXS (by decide)];refine zXD (zJZ hl1 e2 e4 e3 (by simpa using hA) λh' tk k=>?_);have I2:Inv X zB σ (upd H s.heap.objs.size (zBr isT)) { s with heap:=h',toks:=tk }:=I1.kept (t':=tk) k;rw[zXS (show (none:Option Value).isNone=true from rfl)];refine zXD (zYa ?_);have hl2:h'.IsList a its.toArray:=⟨ol,k _ _ hl1,e2,nl,e4⟩;refine zXD (wpAny_pyIter_list (s:={ s with heap:=h',toks:=tk }) hl2 ?_);refine zXF ⟨plainId_quiet zBd _,?_⟩;have I3:Inv X zB σ (upd H s.heap.objs.size (zBr isT)) { s with heap:=h'.push { cls:=.type "list_iterator", data:=.fields #[.ref a,.int 0 0] },toks:=tk }:=I2.kept (t':=tk) λb u z=>zXE _ z;refine zO5 (items:=its.toArray) (show X.A.in1.units+2<cLine from Nat.lt_of_le_of_lt (by show X.A.units+1+2<=_;omega) hu) (by simpa using hA) (zXY (zXO (k _ _ hl1))) hap P [] its 0 _ (by simp) rv I3 ?_ ?_ ?_ ?_
 .exact I2.fpOk (zXJ _) (I2.hok.fresh (zXJ _))
 .exact ⟨_,zXN _ rfl,rfl,rfl⟩
 .exact ⟨ol,zXE _ (k _ _ hl1),e2,nl,e4⟩
 .exact λs' I'=>⟨rfl,.ref s.heap.objs.size,H2,I',rfl,qq⟩
end
end L2
namespace L3
open PySem PySem.Spec PyProof.Rows L2
def zF8 (n:Nat):List D->Mem->Option Mem
 |[],M=>some M
 |.tup [k,v]::ds,M=>match zD2 M n k v with
  |some M1=>zF8 n ds M1
  |none=>none
 |_::_,_=>none
def zEq (isT:Bool):KB:=λxs M=>match xs with
 |[.fl ds]=>match zF8 M.length ds (M++[zFE isT]) with
  |some M1=>some (.dat (.ref M.length),M1)
  |none=>none
 |_=>none
theorem zID {K:Yb} {n:Nat} {p:Yt}:∀ {ds:List D} {L:Yg} {M M':Mem} {H:Hp} {vs:List V},Cor K L M H->L[n]?=some p->zR L H ds vs->zF8 n ds M=some M' -> ∃ H',Puts p vs H H'/\Cor K L M' H'/\Stp L H L H'
 |[],L,M,M',H,vs,c,lp,r,e=>by
  unfold zR at r;subst r;cases e;exact ⟨H,.nil,c,.refl L H⟩
 |d::ds,L,M,M',H,vs,c,lp,r,e=>by
  unfold zR at r;obtain ⟨v,r',rfl,r1,r2⟩:=r;unfold zF8 at e;split at e
  .rename_i h;cases h
  .rename_i k x ds' e0;cases e0;split at e
   .rename_i M1 e1;unfold Rep at r1;obtain ⟨b,ws,rfl,e2,r3⟩:=r1;unfold zR at r3;obtain ⟨vk,r4,rfl,rk,r5⟩:=r3;unfold zR at r5;obtain ⟨vx,r6,rfl,rx,r7⟩:=r5;unfold zR at r7;subst r7;obtain ⟨H1,dp,c1,s1⟩:=zH6 c lp rk rx e1;obtain ⟨H2,P,c2,s2⟩:=zID c1 lp (r2.stp s1) e;exact ⟨H2,.cons e2 dp P,c2,s1.trans s2⟩
   .cases e
  .cases e
section
variable {X:Cx}
def zMc (isT:Bool):zGo X.K (λxs H Q=>∃ a vs isT,xs=[.ref a]/\H a=some (.lst vs) /\ ∀ p,H p=none -> ∃ H2,Puts p vs (upd H p (zBr isT)) H2/\Q (.ref p) H2) (zEq isT):=by
 intro L M M' H H0 xs d vs Q c r hk q;unfold zEq at hk;split at hk
 .rename_i ds;split at hk
  .rename_i M1 e1;cases hk;obtain ⟨v,rfl,r1⟩:=r.one;unfold zk at r1;obtain ⟨a,ws,rfl,_,e2,_,r2⟩:=r1;refine ⟨a,ws,isT,rfl,e2,λp hp=>?_⟩;obtain ⟨c0,s0⟩:Cor X.K (L++[p]) (M++[zFE isT]) (upd H p (zBr isT))/\Stp L H (L++[p]) (upd H p (zBr isT)):=by
    cases isT with
    |true=>exact c.pushO (m:=.dicT []) hp ⟨[],zAB,rfl⟩
    |false=>exact c.pushO (m:=.dict []) hp ⟨[],zAB,rfl⟩
   have lp0:(L++[p])[M.length]?=some p:=by rw[<-c.len];simp
   obtain ⟨H2,P,c2,s2⟩:=zID c0 lp0 (r2.stp s0) e1;refine ⟨H2,P,q _ _ _ (s0.trans s2) c2 ?_⟩;unfold zk Rep;exact ⟨p,rfl,lp0⟩
  .cases hk
 .cases hk
noncomputable def zP9 (isT:Bool) (hu:X.A.units+1+4<cLine) (hc:X.calm=true) (hg:Gl X "dict") (hm:X.mg "dict" = none) (ha:QAE X [e] fa) (he:starEach [e] X.env=(false,eval e X.env)::starEach [] X.env:=by rfl) (hpl:(backTo pos (starEach [] X.env)).any (·.1)=false:=by rfl):QE X (.Call (.Name "dict" p) [e] [] pos) (fB (zEq isT) fa) :=
 zIM (zMc isT) (zMD hu hc) (by rfl) hg hm ha (by decide) (by decide) he hpl
end
end L3
namespace Law
open PySem PySem.Spec PyProof.Rows L2 L3
theorem zm (n:Nat):∀ c:List Int,D.unds n (c.map D.int)=true
 |[]=>rfl
 |x::r=>by
  show (D.und n (D.int x)&&D.unds n (r.map D.int))=true;rw[zm n r];rfl
def zLA {M:Mem} (h:M[k]?=some u):M.set k u=M:=by
 apply zZZ;intro i;rw[zYm];split
 .rename_i e;subst e;rw[zXS (zXG.mp h).1];exact h.symm
 .rfl
def at0 {x:D} {xs:List D}:atI (x::xs) 0=some x:=zKQ (k:=0) rfl
def zRE (ns:Ye) (lo hi:Ys):∃ c:List Int,L3.zDp (ns.map D.int) lo hi=c.map D.int/\c.length<=ns.length:=by
 refine ⟨(ns.drop (HT.sIx ns.length 0 lo)).take (HT.sIx ns.length ns.length hi-HT.sIx ns.length 0 lo),?_,?_⟩
 .unfold L3.zDp;rw[zXM,List.map_take,List.map_drop]
 .rw[zYb,List.length_drop];omega
def zBF (h:x::r=c.map D.int):∃ y c',c=y::c'/\x=.int y/\r=c'.map D.int:=by
 cases c with
 |nil=>cases h
 |cons y c'=>rw[zXW]at h;exact ⟨y,c',rfl,(zYH h).1,(zYH h).2⟩
def zAK:zBA none xs M:=trivial
def zY (h:n<=100000):n<=sizeLine:=zXe h (by decide)
mutual
theorem zHP (h:a<=b):∀ {d:D},D.und a d=true->D.und b d=true
 |.non,_=>by unfold D.und;rfl
 |.bl _,_=>by unfold D.und;rfl
 |.int _,_=>by unfold D.und;rfl
 |.str _,_=>by unfold D.und;rfl
 |.tup ds,e=>by unfold D.und at e ⊢;exact zCX h e
 |.ref k,e=>by unfold D.und at e ⊢;simp at e ⊢;omega
theorem zCX (h:a<=b):∀ {ds:List D},D.unds a ds=true->D.unds b ds=true
 |[],_=>by unfold D.unds;rfl
 |d::ds,e=>by
  unfold D.unds at e ⊢;rw[zXn]at e ⊢;exact ⟨zHP h e.1,zCX h e.2⟩
end
def zBQ (h:a<=b) (e:MO.und a u=true):MO.und b u=true:=by
 cases u with
 |lst xs=>exact zCX h e
 |fro xs=>exact zCX h e
 |set xs=>exact zCX h e
 |dict kvs|dicT kvs|froT kvs|froK kvs=>
  unfold MO.und at e ⊢;rw[zXo]at e ⊢;intro p hp;have:=e p hp;rw[zXn]at this ⊢;exact ⟨zHP h this.1,zHP h this.2⟩
theorem zFe:∀ {xs ys:List D},D.unds n (xs++ys)=(D.unds n xs&&D.unds n ys)
 |[],ys=>by simp[D.unds]
 |x::xs,ys=>by
  show (D.und n x&&D.unds n (xs++ys))=((D.und n x&&D.unds n xs)&&D.unds n ys);rw[zFe,Bool.and_assoc]
theorem zFW:∀ {xs:List D},(∀ x∈xs,D.und n x=true)->D.unds n xs=true
 |[],_=>rfl
 |x::xs,h=>by
  show (D.und n x&&D.unds n xs)=true;rw[h x zXR,zFW λy hy=>h y (zXQ _ hy)];rfl
def zA5 (c:Ye):D.und n (.tup (c.map D.int))=true:=by unfold D.und;exact zm n c
def zCL (i:Nat):Nat->List D
 |0=>[]
 |n+1=> .int i::zCL (i+1) n
def zJt (n:Nat):∀ i,((List.range' i n).map λ(k:Nat)=>D.int k)=zCL i n:=by
 induction n with
 |zero=>intro i;rfl
 |succ n ih=>intro i;rw[List.range'_succ,zXW,ih];rfl
def zHQ (n:Nat):((List.range n).map λ(k:Nat)=>D.int k)=zCL 0 n:=by rw[List.range_eq_range',zJt]
theorem zC9:∀ (n i:Nat),(zCL i n).length=n
 |0,_=>rfl
 |n+1,i=>by show (zCL (i+1) n).length+1=_;rw[zC9 n]
def zHu (n:Nat) (I:Nat->Sd->Mem->Prop)
  (hs:∀ i σ M,i<n->I i σ M -> ∃ σ1,g (.int i) σ=some σ1/\OkS (b σ1 M) λo σ2 M2=>match o with|.nx=>I (i+1) σ2 M2|.cnt=>I (i+1) σ2 M2|.brk=>P .nx σ2 M2|.ret d=>P (.ret d) σ2 M2)
  (he:∀ σ M,I n σ M->P .nx σ M) (σ:Sd) (M:Mem) (h0:I 0 σ M):OkS (zC3 g b all none (zCL 0 n) σ M) P:=by
 refine zAf (I:=λr σ M=>∃ i,i<=n/\r=zCL i (n-i)/\I i σ M) ?_ ?_ _ _ _ ⟨0,zXz _,by simp,h0⟩
 .rintro x r σ M ⟨i,hi,e,hI⟩;have hlt:i<n:=by
   rcases zYZ i n with z|z
   .exact z
   .rw[show n-i=0 by omega]at e;cases e
  rw[show n-i=(n-(i+1))+1 by omega]at e;obtain ⟨rfl,rfl⟩:=zYH e;obtain ⟨σ1,e1,q⟩:=hs i σ M hlt hI;refine ⟨zAK,σ1,e1,OkS.mono q ?_⟩;intro o σ2 M2 z;cases o with
  |nx=>exact ⟨i+1,hlt,rfl,z⟩
  |cnt=>exact ⟨i+1,hlt,rfl,z⟩
  |brk=>exact z
  |ret d=>exact z
 .rintro σ M ⟨i,hi,e,hI⟩;have:i=n:=by
   rcases zYZ i n with z|z
   .rw[show n-i=(n-(i+1))+1 by omega]at e;cases e
   .omega
  subst this;exact ⟨zAK,he σ M hI⟩
def zUL (n:Nat) (I:Nat->List D->Mem->Prop)
  (hs:∀ i acc M,i<n->I i acc M -> ∃ σ1,g (.int i) σ=some σ1/\Ok (te σ1 M) (zGx λd M2=>I (i+1) (acc++[d]) M2)) (h0:I 0 [] M) :
  Ok (zA8 g zv te σ all none (zCL 0 n) M) λys M1=>I n ys M1:=by
 refine Ok.mono (zBv (I:=λr acc M=>∃ i,i<=n/\r=zCL i (n-i)/\I i acc M) (Q:=λacc M=>I n acc M) ?_ ?_ _ [] _ ⟨0,zXz _,by simp,h0⟩) λys M1 q=>by simpa using q
 .rintro x r acc M ⟨i,hi,e,hI⟩;have hlt:i<n:=by
   rcases zYZ i n with z|z
   .exact z
   .rw[show n-i=0 by omega]at e;cases e
  rw[show n-i=(n-(i+1))+1 by omega]at e;obtain ⟨rfl,rfl⟩:=zYH e;obtain ⟨σ1,e1,q⟩:=hs i acc M hlt hI;refine ⟨zAK,σ1,e1,zFi.mpr ?_⟩;rw[zXS rfl];refine Ok.mono q ?_;intro x M2 z;cases x with
  |dat d=>exact ⟨i+1,hlt,rfl,z⟩
  |fl xs=>exact ⟨i+1,hlt,rfl,z⟩
 .rintro acc M ⟨i,hi,e,hI⟩;have:i=n:=by
   rcases zYZ i n with z|z
   .rw[show n-i=(n-(i+1))+1 by omega]at e;cases e
   .omega
  subst this;exact ⟨zAK,hI⟩
def zBt (e:f σ M=some (.dat (.int j),M)) (h1:0<=j) (h2:j<2 ^ 62):zAA (zD (toD f) zH) σ M=some (zCL 0 j.toNat,none,M):=by
 have e':(zD (toD f) zH) σ M=some ([.int j],M):=by unfold zD toD zH;rw[e]
 rw[zMa e' h1 h2,zHQ]
def mD (zA:Ya):D:=.tup (zA.map λr=> .tup (r.map D.int))
structure IsM (zA:Ya) (l:Nat):Prop where
 r0:0<zA.length
 l0:0<l
 row:∀ r∈zA,r.length=l /\ ∀ g∈r,0<=g/\g<zA.length
def zH5 (zA:Ya):D.und n (mD zA)=true:=by
 unfold mD D.und;refine zFW λx hx=>?_;obtain ⟨r,_,rfl⟩:=zXU.mp hx;exact zA5 r
def zPm (zA:Ya):D.unds n (zA.map λr=>D.tup (r.map D.int))=true:=by
 refine zFW λx hx=>?_;obtain ⟨r,_,rfl⟩:=zXU.mp hx;exact zA5 r
def zW {α:Type} {x:Option (α × Mem)} {a:α} {M:Mem} (h:Ok x λb M'=>b=a/\M'=M):x=some (a,M):=by
 obtain ⟨b,M',e,rfl,rfl⟩:=h;exact e
def zE {α:Type} {x:Option (α × Mem)} {a:α} {M:Mem} {P:α->Mem->Prop} (h:x=some (a,M)) (p:P a M):Ok x P:=⟨a,M,h,p⟩
def zDm {c:FT} {a g:FS} {σ:Sd} {M:Mem} {P:Out->Sd->Mem->Prop} (hc:c σ M=some (false,M)) (h:OkS (g σ M) P):OkS (zX (sIf c a zBB) g σ M) P:=by
 rw[zI,zA1];refine zE hc ?_;rw[zXV (by decide),zAi];exact h
def zP1 {c:FT} {a:FS} {σ:Sd} {M:Mem} {P:Out->Sd->Mem->Prop} (hc:c σ M=some (false,M)) (h:P .nx σ M):OkS (sIf c a zBB σ M) P:=by
 rw[zA1];refine zE hc ?_;rw[zXV (by decide),zAi];exact h
def zc {f:FE} {σ:Sd} {M:Mem} {d:D} (h:f σ M=some (.dat d,M)):zD (toD f) zH σ M=some ([d],M):=by
 unfold zD toD zH;rw[h]
def zt {f:FE} {g:FA} {σ:Sd} {M:Mem} {d:D} {ds:List D} (h:f σ M=some (.dat d,M)) (hg:g σ M=some (ds,M)):zD (toD f) g σ M=some (d::ds,M):=by
 unfold zD toD;rw[h];dsimp only;rw[hg]
def zAM {m:FF} {a:FA} {σ:Sd} {M M':Mem} {ds:List D} {d:D} (h:a σ M=some (ds,M)) (hm:m ds M=some (d,M')):zP m a σ M=some (.dat d,M'):=by
 unfold zP;rw[h];dsimp only;rw[hm]
def zJ {k:K2} {f g:FE} {σ:Sd} {M:Mem} {x y:EV} {r:Option (EV × Mem)} (hf:f σ M=some (x,M)) (hg:g σ M=some (y,M)) (hk:k x y M=r):fOp k f g σ M=r:=by
 unfold fOp;rw[hf];dsimp only;rw[hg];exact hk
def zAx {x:EV} {xs:List D} {i:Int} {d:D} {M:Mem} (h:zAL M x=some xs) (hd:atI xs i=some d):kIx x (.dat (.int i)) M=some (.dat d,M):=zW (zR7 h hd ⟨rfl,rfl⟩)
def zBh {f:FE} {x:EV} {xs:List D} {σ:Sd} {M:Mem} (hf:f σ M=some (x,M)) (h:zAL M x=some xs):fB zAX (zQ f ze) σ M=some (.dat (.int xs.length),M):=by
 unfold fB zQ ze;rw[hf];exact zW ((zV3 h).mpr ⟨rfl,rfl⟩)
def zd (zA:Ya) (h g:Int):Int:=(zA.getD h.toNat []).getD g.toNat 0
def zDG (zA:Ya) (room:Int) (word:Ye):Int:=word.foldl (zd zA) room
def zFN {zA:Ya} {h:Int} (h0:0<=h) (h1:h<zA.length):atI (zA.map λr=>D.tup (r.map D.int)) h=some (.tup ((zA.getD h.toNat []).map D.int)):=by
 refine zKE h0 ?_;rw[zXa,zXI,zXH (by omega)];rfl
def zEK {r:Ye} {g:Int} (h0:0<=g) (h1:g<r.length):atI (r.map D.int) g=some (.int (r.getD g.toNat 0)):=by
 refine zKE h0 ?_;rw[zXa,zXI,zXH (by omega)];rfl
def IsM.get {zA:Ya} {l:Nat} (m:IsM zA l) {h:Int} (h0:0<=h) (h1:h<zA.length):(zA.getD h.toNat []).length=l /\ ∀ g∈zA.getD h.toNat [],0<=g/\g<zA.length:=by
 refine m.row _ ?_;rw[zXI,zXH (by omega)];exact zXl _
def IsM.step {zA:Ya} {l:Nat} (m:IsM zA l) {h g:Int} (h0:0<=h) (h1:h<zA.length) (g0:0<=g) (g1:g<l):0<=zd zA h g/\zd zA h g<zA.length:=by
 obtain ⟨q1,q2⟩:=m.get h0 h1;refine q2 _ ?_;unfold zd;rw[zXI (l:=zA.getD h.toNat []),zXH (by omega)];exact zXl _
def IsM.ix {zA:Ya} {l:Nat} (m:IsM zA l) {h g:Int} (h0:0<=h) (h1:h<zA.length) (g0:0<=g) (g1:g<l) {f1 f2 f3:FE} {σ:Sd} {M:Mem} (e1:f1 σ M=some (.dat (mD zA),M)) (e2:f2 σ M=some (.dat (.int h),M)) (e3:f3 σ M=some (.dat (.int g),M)) :
  fOp kIx (fOp kIx f1 f2) f3 σ M=some (.dat (.int (zd zA h g)),M):=by
 obtain ⟨q1,_⟩:=m.get h0 h1;exact zJ (zJ e1 e2 (zAx zj (zFN h0 h1))) e3 (zAx zj (zEK g0 (by omega)))
def zMl (hf:f σ M=some (x,M)) (ht:zMn M x=some t):zD7 T f σ M=some (.dat (.bl (isT t T)),M):=by
 unfold zD7;rw[hf];dsimp only;rw[ht]
def zo (h:f σ M=some (.dat (.bl k),M')):tst f σ M=some (k,M'):=by unfold tst;rw[h]
def isV (hf:f σ M=some (x,M)) (ht:zMn M x=some t) (h:isT t T=k):zD7 T f σ M=some (.dat (.bl k),M):=by
 rw[zMl hf ht,h]
def isF (hf:f σ M=some (x,M)) (ht:zMn M x=some t) (h:isT t T=false):tst (zD7 T f) σ M=some (false,M):=by
 rw[zo (zMl hf ht),h]
def zVi (hf:f σ M=some (x,M)) (ht:zMn M x=some t) (h:isT t T=true):tst (zD7 T f) σ M=some (true,M):=by
 rw[zo (zMl hf ht),h]
def zTH (hc:c σ M=some (true,M)) (h:OkS (a σ M) (nxP (λσ1 M1=>OkS (g σ1 M1) P) P)):OkS (zX (sIf c a b) g σ M) P:=by
 rw[zI,zA1];refine zE hc ?_;rw[zXS rfl];exact h
def zAZ (hf:f σ M=some (.dat d,M)) (h:P (.ret d) σ M):OkS (zAS f σ M) P:=by
 rw[zBI];exact zE hf h
def zQP (h:(zGY d).isSome=true):kEq (.dat d) (.dat d) M=some (.dat (.bl true),M):=by
 cases d with
 |tup _=>cases h
 |ref _=>cases h
 |non=>rfl
 |bl k=>cases k <;> rfl
 |int i=>show some (EV.dat (.bl (decide (V.int i=V.int i))),M)=_;simp
 |str x=>show some (EV.dat (.bl (decide (V.str x=V.str x))),M)=_;simp
def zI9 (hf:f σ M=some (.dat (.bl true),M)) (hg:g σ M=some (.dat (.bl true),M)):zMM f g σ M=some (.dat (.bl true),M):=by
 unfold zMM;rw[hf];exact hg
def zNH (hf:f σ M=some (.dat (.bl false),M)):zRN f σ M=some (.dat (.bl true),M):=by
 unfold zRN;rw[hf];rfl
def zAg {α:Type} (as:List α) (enc out:α->D) (hi:fi σ M=some (as.map enc,gd,M)) (hgd:zBA gd (as.map enc) M) (hz:as.length<=100000)
  (he:∀ a∈as,∃ σ1,g (enc a) (zBN own σ)=some σ1/\te σ1 M=some (.dat (out a),M)):zi own fi g zv te σ M=some (.fl (as.map out),M):=by
 refine zW (zC0.mpr ⟨_,_,_,hi,by rw[zXM];exact zY hz,?_⟩);refine Ok.mono (zBv (I:=λr acc M'=>M'=M /\ ∃ ra rb:List α,as=rb++ra/\r=ra.map enc/\acc=rb.map out) (Q:=λacc M'=>M'=M/\acc=as.map out) ?_ ?_ _ [] _ ⟨rfl,as,[],rfl,rfl,rfl⟩) ?_
 .rintro x r acc M' ⟨rfl,ra,rb,hab,hr,rfl⟩;cases ra with
  |nil=>cases hr
  |cons a ra=>
   rw[zXW]at hr;obtain ⟨rfl,rfl⟩:=zYH hr;obtain ⟨σ1,e1,e2⟩:=he a (by rw[hab];simp);refine ⟨hgd,σ1,e1,zFi.mpr ?_⟩;rw[zXS rfl];refine zE e2 ?_;rw[zL];exact ⟨rfl,ra,rb++[a],by rw[hab];simp,rfl,by simp⟩
 .rintro acc M' ⟨rfl,ra,rb,hab,hr,rfl⟩;cases ra with
  |nil=>rw[zXx]at hab;subst hab;exact ⟨hgd,rfl,rfl⟩
  |cons a ra=>cases hr
 .rintro ys M' ⟨rfl,h⟩;rw[zZV]at h;subst h;exact ⟨rfl,rfl⟩
def zCl (hf:f σ M=some (x,M)) (h:zAL M x=some xs):fB zA2 (zQ f ze) σ M=some (.dat (.tup xs),M):=by
 unfold fB zQ ze;rw[hf];exact zW ((zKZ h).mpr ⟨rfl,rfl⟩)
def zEn (hf:f σ M=some (.dat (.tup xs),M)):zu f σ M=some (xs,none,M):=zCt hf zj
def zMi (n:Nat):zCL 0 n=(List.range n).map λ(k:Nat)=>D.int k:=(zHQ n).symm
def zEl (e:f σ M=some (.dat (.int j),M)) (h1:0<=j) (h2:j<2 ^ 62):zAA (zD (toD f) zH) σ M=some ((List.range j.toNat).map (λ(k:Nat)=>D.int k),none,M):=by
 rw[zBt e h1 h2,zMi]
def zC8 (hf:f σ M=some (.dat d,M)) (h:OkS (g (σ.set i (some d)) M) P):OkS (zX (zq i f) g σ M) P:=by
 rw[zI,zT];exact zE hf h
def zWK (h:f σ M=some (.dat d,M')):zD (toD f) zH σ M=some ([d],M'):=by
 unfold zD toD zH;rw[h]
theorem zHb {α β:Type} (f:α->β) (d:α):∀ xs:List α,(List.range xs.length).map (λi=>f (xs.getD i d))=xs.map f
 |[]=>rfl
 |x::xs=>by
  rw[zXk,List.range_succ_eq_map,zXW,zXb,zXW,<-zHb f d xs];rfl
open ST
def ris (xs:Ye):List Int:=zD1 (zV xs)
def zCr (xs:Ye) (x:Int):x∈ris xs ↔ x∈xs:=by
 unfold ris;rw[(zB6 _).mem_iff,zDd]
def zKI (xs:Ye):(ris xs).Pairwise (· < ·):=by
 have h1:=zHm (zV xs);have h2:(ris xs).Nodup:=(zB6 _).nodup_iff.mpr (zJf xs);unfold ris at h2 ⊢;exact (h1.and h2).imp λ{a b} h=>by have:=h.1;have:=h.2;omega
theorem zGQ:∀ {xs ys:Ye},xs.Pairwise (· < ·)->ys.Pairwise (· < ·)->(∀ x,x∈xs ↔ x∈ys)->xs=ys
 |[],[],_,_,_=>rfl
 |[],y::ys,_,_,h=>by have:=(h y).mpr zXR;cases this
 |x::xs,[],_,_,h=>by have:=(h x).mp zXR;cases this
 |x::xs,y::ys,h1,h2,h=>by
  have hx:=zZN.mp h1;have hy:=zZN.mp h2;have e:x=y:=by
   have a:=(h x).mp zXR;have b:=(h y).mpr zXR;rcases zXP.mp a with z|z
   .exact z
   .rcases zXP.mp b with q|q
    .exact q.symm
    .have:=hx.1 y q;have:=hy.1 x z;omega
  subst e;rw[zGQ hx.2 hy.2 λz=>?_];constructor
  .intro hz;rcases zXP.mp ((h z).mp (zXQ _ hz))with q|q
   .subst q;have:=hx.1 _ hz;omega
   .exact q
  .intro hz;rcases zXP.mp ((h z).mpr (zXQ _ hz))with q|q
   .subst q;have:=hy.1 _ hz;omega
   .exact q
def zGy (h:∀ x,x∈xs ↔ x∈ys):ris xs=ris ys:=zGQ (zKI xs) (zKI ys) λx=>by rw[zCr,zCr];exact h x
def zJq (h:xs.Pairwise (· < ·)):ris xs=xs:=zGQ (zKI xs) h λx=>zCr xs x
def zNW (xs:Ye):(ris xs).length<=xs.length:=by
 unfold ris;rw[(zB6 _).length_eq];exact zB3 xs
def zT7 (h:0<xs.length):0<(ris xs).length:=by
 cases xs with
 |nil=>cases h
 |cons x r=>exact List.length_pos_of_mem ((zCr (x::r) x).mpr zXR)
def zR3 (f:Int->Int) (xs:Ye):ris ((ris xs).map f)=ris (xs.map f):=zGy λx=>by simp[zCr]
def zTD (h:zi own fi g tc te σ M=some (.fl (ks.map D.int),M)) (hz:ks.length<=4000):zJM own fi g tc te σ M=some (zV ks,M):=by
 unfold zJM;rw[h];dsimp only;rw[zCj];dsimp only;rw[zXS (by unfold scanBound;omega)]
def zRg (h:fz σ M=some (zV ks,M)) (hz:(zV ks).length<64):zHy fz σ M=some (.fl ((ris ks).map D.int),M):=by
 unfold zHy;rw[h];dsimp only;rw[zXS hz];rfl
def zF4:FS:=(zAS (fB zA2 (zQ (zHy (zJM [3] (zu (zC 1)) (gN 3) zv (fOp kIx (fOp kIx (zC 0) (zC 3)) (zC 2)))) ze)))
def zBT:FF:=zHU (zBV 4 zF4)
def setR (zA:Ya) (S:Ye) (g:Int):List Int:=ris (S.map λh=>zd zA h g)
def zME (zA:Ya) (S word:Ye):List Int:=word.foldl (setR zA) S
structure IsS (zA:Ya) (S:Ye):Prop where
 pw:S.Pairwise (· < ·)
 n0:0<S.length
 mem:∀ x∈S,0<=x/\x<(zA.length:Int)
theorem zQl:∀ {S:Ye} {a:Int} {n:Nat},S.Pairwise (· < ·)->(∀ x∈S,a<=x/\x<a+(n:Int))->S.length<=n
 |[],_,_,_,_=>zXz _
 |x::S,a,n,h,hm=>by
  have hx:=zZN.mp h;obtain ⟨m0,m1⟩:=hm x zXR;have hn:0<n:=by omega
  have:=zQl (S:=S) (a:=x+1) (n:=(a+n-(x+1)).toNat) hx.2 λy hy=>by
   have:=hx.1 y hy;have:=(hm y (zXQ _ hy)).2;omega
  simp only[zXk];omega
def IsS.len (h:IsS zA S):S.length<=zA.length:=zQl h.pw (a:=0) λx hx=>by have:=h.mem x hx;omega
theorem IsM.setR {zA:Ya} {l:Nat} (m:IsM zA l) {S:Ye} (s:IsS zA S) {g:Int} (g0:0<=g) (g1:g<l):IsS zA (setR zA S g):=by
 refine ⟨zKI _,zT7 (by rw[zXM];exact s.n0),λx hx=>?_⟩;obtain ⟨y,hy,rfl⟩:=zXU.mp ((zCr _ _).mp hx);obtain ⟨y0,y1⟩:=s.mem y hy;exact m.step y0 y1 g0 g1
theorem zN4 (zA:Ya):∀ (word:Ye) (S:Ye),zME zA (ris S) word=ris (S.map λr=>zDG zA r word)
 |[],S=>by show ris S=ris (S.map λr=>r);rw[List.map_id']
 |g::w,S=>by
  show zME zA (setR zA (ris S) g) w=_;unfold setR;rw[zR3];rw[zN4 zA w];rw[zXb];rfl
def zPr (h:S.Pairwise (· < ·)) (word:Ye):zME zA S word=ris (S.map λr=>zDG zA r word):=by
 have:=zN4 zA word S;rw[zJq h]at this;exact this
def tI (xs:Ye):D:=.tup (xs.map D.int)
def zKq {zA:Ya} {l:Nat} (m:IsM zA l) (hR:zA.length<64) {S:Ye} (s:IsS zA S) {g:Int} (g0:0<=g) (g1:g<l) {M:Mem}:zBT [mD zA,tI S,.int g] M=some (tI (setR zA S g),M):=by
 refine zW ?_;unfold zBT;refine zJ2 (by unfold D.unds D.unds D.unds D.unds;rw[zH5];simp[tI,zA5,D.und,zm]) ?_;rw[zAE];unfold zF4;have hl:=s.len;have hz:(zV (S.map λh=>zd zA h g)).length<64:=by have:=zB3 (S.map λh=>zd zA h g);rw[zXM]at this;omega
 refine zAZ (d:=tI (setR zA S g)) ?_ ⟨by unfold tI;exact zA5 _,rfl,rfl⟩;refine zCl (zRg (ks:=S.map λh=>zd zA h g) (zTD ?_ (by rw[zXM];omega)) hz) zDC;refine (zAg S D.int (λh=> .int (zd zA h g)) (zEn rfl) trivial (by omega) λh hh=>⟨_,rfl,?_⟩).trans ?_
 .obtain ⟨h0,h1⟩:=s.mem h hh;exact m.ix h0 h1 g0 g1 rfl rfl rfl
 .rw[zXb];rfl
end Law
namespace Law
open PySem PySem.Spec PyProof.Rows L2 L3 ST
def zMH (hgd:zBA gd all M) (hg:g x σ=some σ1) (hk:tk σ1 M=some (.dat k,M)) (hv:tv σ1 M=some (.dat v,M)) (hp:zD2 M n k v=some M'):zCi g zv tk tv σ n all gd (x::r) M=zCi g zv tk tv σ n all gd r M':=by
 rw[zCi];rw[zXS hgd,hg];have et:zv σ1 M=some (true,M):=rfl;have e1:toD tk σ1 M=some (k,M):=by unfold toD;rw[hk]
 have e2:toD tv σ1 M=some (v,M):=by unfold toD;rw[hv]
 dsimp only;rw[et];dsimp only;rw[e1];dsimp only;rw[e2];dsimp only;rw[hp]
def zJI (hgd:zBA gd all M):zCi g tc tk tv σ n all gd [] M=some M:=by
 rw[zCi,zXS hgd]
def zUg {M:Mem} {n:Nat} {xs:List D} {k:Nat} {d:D} {Q:D->Mem->Prop} (h:M[n]?=some (.lst xs)) (hk:xs[k]?=some d) (hz:k<90000) (q:Q d (M.set n (.lst (xs.eraseIdx k)))):Ok (zIb (.dat (.ref n)) [.int (k:Int)] M) Q:=by
 refine ⟨d,M.set n (.lst (xs.eraseIdx k)),?_,q⟩;have hl:k<xs.length:=(zXG.mp hk).1;unfold zIb;dsimp only;rw[h];dsimp only;have e:ixN xs.length (k:Int)=some k:=by unfold ixN;rw[zXS (by omega),zXS (by omega)];simp
 rw[e];dsimp only;rw[hk];dsimp only;rw[zXS ⟨by omega,by omega⟩]
def zCF (e:f σ M=some (.dat (mD zA),M)):fB zAX (zQ f ze) σ M=some (.dat (.int zA.length),M):=by
 have:=zBh e zj;rw[zXM]at this;exact this
def zNq (m:IsM zA l) (e:f σ M=some (.dat (mD zA),M)):fB zAX (zQ (fOp kIx f (fC (.int 0))) ze) σ M=some (.dat (.int l),M):=by
 have r0:=m.r0;have:=zBh (zJ (g:=fC (.int 0)) e rfl (zAx zj (zFN (h:=0) (by omega) (by omega)))) zj;rw[zXM,(m.get (h:=0) (by omega) (by omega)).1]at this;exact this
def zUq {bs:List Bool} (h:f σ M=some (.fl (bs.map D.bl),M)):fB zSZ (zQ f ze) σ M=some (.dat (.bl (bs.all id)),M):=by
 unfold fB zQ ze;rw[h];exact zW ((zTk zQ2 (zGI bs)).mpr ⟨rfl,rfl⟩)
def oS (h:f σ M=some (.dat (.int i),M)):zBY f σ M=some (some i,M):=by unfold zBY;rw[h]
def zPI (h0:0<p) (hx:0<xs.length):L3.zDp xs (some p) none=xs.drop p.toNat:=by
 have e:p=((p.toNat:Nat):Int):=by omega
 have s:HT.sIx xs.length 0 (some p)=min p.toNat xs.length:=by
  have q:=HT.zHG xs.length 0 p.toNat;rw[<-e]at q;exact q
 have z:HT.sIx xs.length xs.length none=xs.length:=rfl;unfold L3.zDp;rw[s,z];rcases Nat.le_total p.toNat xs.length with q|q
 .rw[Nat.min_eq_left q,List.take_of_length_le (by simp)]
 .rw[Nat.min_eq_right q,List.drop_of_length_le (zXJ _),List.drop_of_length_le q];simp
end Law
namespace Lac
open PySem PySem.Spec PyProof.Rows L2 L3 ST Law
def zb (h:P (.ref M.length) (M++[.lst xs])):zGx P (.fl xs) M:=h
def zS (A:Mem) (u:MO):(A++[u])[A.length]?=some u:=by simp
def zEY:FS:=(zAS (zNa (fB zAX (zQ (zC 0) ze))))
def zAH:FF:=zBV 1 zEY
def zE9:FS:=(zAS (zGE [1,2] [2] (zu (zC 0)) (gN 1) zv (zu (zC 0)) (gN 2) (tst (fOp kLt (zC 1) (zC 2))) (zAd (zD (toD (zC 1)) (zD (toD (zC 2)) zH)))))
def zAT:FF:=zBV 3 zE9
theorem zLC {α:Type} (enc out:α->D) (keep:α->Bool):∀ (as:List α),(∀ a∈as,∃ σ1,g (enc a) σ=some σ1/\tc σ1 M=some (keep a,M)/\(keep a=true->te σ1 M=some (.dat (out a),M)))->zA8 g tc te σ all none (as.map enc) M=some ((as.filter keep).map out,M)
 |[],_=>by
  rw[List.map_nil];unfold zA8;rw[zXS (show zBA none all M from trivial)];rfl
 |a::r,h=>by
  obtain ⟨σ1,e1,e2,e3⟩:=h a zXR;have ih:=zLC (all:=all) (σ:=σ) enc out keep r λb hb=>h b (zXQ _ hb);rw[zXW];unfold zA8;rw[zXS (show zBA none all M from trivial),e1];dsimp only;rw[e2];cases hk:keep a with
  |false=>
   dsimp only;rw[ih,List.filter_cons_of_neg (by simp[hk])]
  |true=>
   dsimp only;rw[show toD te σ1 M=some (out a,M) by unfold toD;rw[e3 hk]];dsimp only;rw[ih,List.filter_cons_of_pos hk];rfl
def zQJ {α β:Type} (as:List α) (enc:α->D) (bs:α->List β) (enc2:β->D) (keep:α->β->Bool) (out:α->β->D) (B:Nat)
  (hi:fi σ M=some (as.map enc,none,M)) (hB:∀ a∈as,(bs a).length<=B) (hz:as.length*B<=90000)
  (he:∀ a∈as,∃ σ1,fg (enc a) (zBN own σ)=some σ1/\fi2 σ1 M=some ((bs a).map enc2,none,M) /\ ∀ b∈bs a,∃ σ2,fg2 (enc2 b) (zBN own2 σ1)=some σ2/\tc2 σ2 M=some (keep a b,M)/\(keep a b=true->te σ2 M=some (.dat (out a b),M))) :
  zGE own own2 fi fg zv fi2 fg2 tc2 te σ M=some (.fl (as.flatMap λa=>((bs a).filter (keep a)).map (out a)),M):=by
 have key:∀ (r:List α) (acc:List D),(∀ a∈r,a∈as)->acc.length+r.length*B<=90000->zKk fg zv fi2 own2 fg2 tc2 te (zBN own σ) (as.map enc) none (r.map enc) acc M=some (acc++r.flatMap λa=>((bs a).filter (keep a)).map (out a),M):=by
  intro r;induction r with
  |nil=>
   intro acc _ _;rw[List.map_nil];unfold zKk;rw[zXS (show zBA none (as.map enc) M from trivial)];simp
  |cons a r ih=>
   intro acc hs hl;have ha:=hs a zXR;obtain ⟨σ1,e1,e2,e3⟩:=he a ha;have hb:=hB a ha;have hlen:(((bs a).filter (keep a)).map (out a)).length<=(bs a).length:=by rw[zXM];exact zZX _ _
   rw[zXk,Nat.add_mul]at hl;rw[zXW];unfold zKk;rw[zXS (show zBA none (as.map enc) M from trivial),e1];dsimp only;rw[show zv σ1 M=some (true,M)from rfl];dsimp only;rw[e2];dsimp only;rw[zXS (zY (by rw[zXM];omega)),zLC enc2 (out a) (keep a) (bs a) e3];dsimp only;rw[ih _ (λb hb=>hs b (zXQ _ hb)) (by rw[zXT];omega)];rw[List.flatMap_cons,zYJ]
 unfold zGE;rw[hi];dsimp only;rw[key as [] (λ_ h=>h) (by simpa using hz)];simp
def zK (xs:Ye):List (List Int):=xs.flatMap λa=>(xs.filter λb=>decide (a<b)).map λb=>[a,b]
def zFU (hz:xs.length<=200):zAT [tI xs] M=some (.ref M.length,M++[.lst ((zK xs).map tI)]):=by
 suffices h:Ok (zAT [tI xs] M) λd M'=>d=.ref M.length/\M'=M++[.lst ((zK xs).map tI)] by
  obtain ⟨d,M',e,rfl,rfl⟩:=h;exact e
 unfold zAT;rw[zAE];unfold zE9;rw[zBI];have hq:xs.length*xs.length<=90000:=zXe (zYp hz hz) (by decide);refine zE (zQJ xs D.int (λ_=>xs) D.int (λa b=>decide (a<b)) (λa b=>tI [a,b]) xs.length (zEn rfl) (λ_ _=>zXJ _) hq λa ha=>⟨_,rfl,zEn rfl,λb hb=>⟨_,rfl,?_,λ_=>?_⟩⟩) (zb ⟨rfl,?_⟩)
 .exact zo (zJ (x:=.dat (.int a)) (y:=.dat (.int b)) rfl rfl (zW (zVG.mpr ⟨rfl,rfl⟩)))
 .unfold zAd;rw[zt (d:=.int a) rfl (zc (d:=.int b) rfl)];dsimp only;rw[zXS (zY (by simp))];rfl
 .congr 3;unfold zK;rw[List.map_flatMap];congr 1;funext a;rw[zXb];rfl
def zh:p∈zK xs ↔ ∃ a b,p=[a,b]/\a∈xs/\b∈xs/\a<b:=by
 unfold zK;rw[List.mem_flatMap];constructor
 .rintro ⟨a,ha,h⟩;obtain ⟨b,hb,rfl⟩:=zXU.mp h;obtain ⟨h1,h2⟩:=zYO.mp hb;exact ⟨a,b,rfl,ha,h1,zX9 h2⟩
 .rintro ⟨a,b,rfl,ha,hb,hlt⟩;exact ⟨a,ha,zXU.mpr ⟨b,zYO.mpr ⟨hb,zYL hlt⟩,rfl⟩⟩
def zEe (hz:zA.length<=1000):zAH [mD zA] M=some (tI ((List.range zA.length).map λ(k:Nat)=>(k:Int)),M):=by
 refine zW ?_;unfold zAH;rw[zAE];unfold zEY;refine zAZ (d:=tI ((List.range zA.length).map λ(k:Nat)=>(k:Int))) ?_ ⟨rfl,rfl⟩;unfold zNa;rw[show fB zAX (zQ (zC 0) ze) ([mD zA].map some++List.replicate (1 - [mD zA].length) none) M=some (.dat (.int zA.length),M)from zCF rfl];dsimp only;rw[zXS ⟨by omega,by omega⟩];unfold upD tI;rw[zXb,show (zA.length:Int).toNat=zA.length by omega];rfl
def zKg (g:Ye):List Key:=g.map Sum.inl
theorem zL2:∀ {a b:Ye},zKg a=zKg b->a=b
 |[],[],_=>rfl
 |[],_::_,h=>by cases h
 |_::_,[],h=>by cases h
 |x::a,y::b,h=>by
  have h1:=(zYH h).1;have h2:=zL2 (zYH h).2;cases h1;rw[h2]
theorem zHJ:∀ g:List Int,zH2 (g.map D.int)=some (zKg g)
 |[]=>rfl
 |x::r=>by
  rw[zXW];unfold zH2;rw[zHJ r];rfl
def zFh (g:Ye):tkD (tI g)=some (zKg g):=zHJ g
abbrev zEt (T:List (List Int × D)):List (D × D):=T.map λq=>(tI q.1,q.2)
abbrev dT (T:List (List Int × D)):MO:=.dicT (zEt T)
def zG:List (List Int × D)->List Int->Option D
 |[],_=>none
 |q::r,g=>if q.1=g then some q.2 else zG r g
def zCU (T:List (List Int × D)) (g:Ye) (v:D):List (List Int × D):=match zG T g with
 |some _=>T.map λq=>if q.1=g then (q.1,v) else q
 |none=>T++[(g,v)]
def zJa (a g:Ye):decide (tkD (tI a)=some (zKg g))=decide (a=g):=by
 rw[zFh];by_cases h:a=g
 .subst h;simp
 .rw[zXm h,zXm];intro e;exact h (zL2 (zYD e))
theorem zML (g:Ye):∀ T:List (List Int × D),zBy tkD (zEt T) (zKg g)=zG T g
 |[]=>rfl
 |q::r=>by
  have ih:=zML g r;unfold zBy at ih ⊢;unfold zEt at ih ⊢;rw[zXW,zYz];rw[zJa];unfold zG;by_cases h:q.1=g
  .rw[zYL h,zXS h];rfl
  .rw[zXm h,zXV h];exact ih
theorem zTl (g:Ye):∀ T:List (List Int × D),((zEt T).any λp=>decide (tkD p.1=some (zKg g)))=(zG T g).isSome
 |[]=>rfl
 |q::r=>by
  have ih:=zTl g r;unfold zEt at ih ⊢;rw[zXW,List.any_cons,zJa];unfold zG;by_cases h:q.1=g
  .rw[zYL h,zXS h];rfl
  .rw[zXm h,zXV h,Bool.false_or];exact ih
def zTa (T:List (List Int × D)) (g:Ye) (v:D):zGr tkD (zEt T) (zKg g) (tI g) v=zEt (zCU T g v):=by
 unfold zGr zCU;rw[zTl];cases h:zG T g with
 |none=>
  rw[zXV (by simp)];unfold zEt;rw[zX5];rfl
 |some d=>
  rw[zXS (by simp)];unfold zEt;rw[zXb,zXb];apply List.map_congr_left;intro q _;show (if tkD (tI q.1)=some (zKg g) then (tI q.1,v) else (tI q.1,q.2))=(tI (if q.1=g then (q.1,v) else q).1,(if q.1=g then (q.1,v) else q).2);have hd:=zJa q.1 g;by_cases hq:q.1=g
  .rw[zYL hq]at hd;rw[zXS (zX9 hd),zXS hq]
  .rw[zXm hq]at hd;rw[zXV (of_decide_eq_false hd),zXV hq]
def zDV (T:List (List Int × D)) (g h:Ye) (v:D):zG (zCU T g v) h=if g=h then some v else zG T h:=by
 have app:∀ (T:List (List Int × D)),zG T g=none->zG (T++[(g,v)]) h=if g=h then some v else zG T h:=by
  intro T;induction T with
  |nil=>intro _;rfl
  |cons q r ih=>
   intro e;unfold zG at e;by_cases hq:q.1=g
   .rw[zXS hq]at e;cases e
   .rw[zXV hq]at e;show (if q.1=h then some q.2 else zG (r++[(g,v)]) h)=if g=h then some v else if q.1=h then some q.2 else zG r h
    rw[ih e];by_cases h1:q.1=h
    .rw[zXS h1,zXS h1,zXV (λz=>hq (h1.trans z.symm))]
    .rw[zXV h1,zXV h1]
 have mp:∀ (T:List (List Int × D)),(zG T g).isSome=true->zG (T.map λq=>if q.1=g then (q.1,v) else q) h=if g=h then some v else zG T h:=by
  intro T;by_cases hgh:g=h
  .subst hgh;induction T with
   |nil=>intro e;cases e
   |cons q r ih=>
    intro e;rw[zXW];unfold zG;by_cases hq:q.1=g
    .rw[zXS hq];simp[hq]
    .rw[zXV hq,zXV hq];unfold zG at e;rw[zXV hq]at e;rw[ih e,zXS rfl,zXS rfl]
  .intro hx;clear hx;rw[zXV hgh];induction T with
   |nil=>rfl
   |cons q r ih=>
    rw[zXW];unfold zG;by_cases hq:q.1=g
    .have:¬ q.1=h:=λz=>hgh (hq.symm.trans z);rw[zXS hq];rw[zXV this,zXV this];exact ih
    .rw[zXV hq];by_cases h1:q.1=h
     .rw[zXS h1,zXS h1]
     .rw[zXV h1,zXV h1];exact ih
 unfold zCU;cases e:zG T g with
 |none=>exact app T e
 |some d=>exact mp T (by rw[e];rfl)
def zHH (T:List (List Int × D)) (g:Ye) (v:D):(zCU T g v).length<=T.length+1:=by
 unfold zCU;cases zG T g with
 |none=>simp
 |some d=>simp
section
variable {M:Mem} {n:Nat} {T:List (List Int × D)} {g:Ye}
def dgT (h:M[n]?=some (dT T)):zDT M (.dat (.ref n)) (tI g)=some (zG T g):=by
 unfold zDT;dsimp only;rw[h];dsimp only;rw[zFh];dsimp only;rw[zML]
def zHo (h:M[n]?=some (dT T)):zAe neg (.dat (tI g)) (.dat (.ref n)) M=some (.dat (.bl (if neg then !(zG T g).isSome else (zG T g).isSome)),M):=by
 unfold zAe;dsimp only;rw[dgT h]
def zE0 (h:M[n]?=some (dT T)) (hd:zG T g=some d):zp (.dat (.ref n)) (.dat (tI g)) M=some (.dat d,M):=by
 unfold zp;dsimp only;rw[dgT h,hd]
def zJS (h:M[n]?=some (dT T)) (hz:T.length<90000):zD2 M n (tI g) v=some (M.set n (dT (zCU T g v))):=by
 unfold zD2;rw[h];dsimp only;rw[zFh];dsimp only;rw[zXS (by rw[zXM];exact zXc hz (zY (by omega))),zTa]
end
abbrev TB:=List (List Int × Int)
def zHT (v:Int) (T:TB) (p:Ye):TB:=if p∈T.map (·.1) then T else T++[(p,v)]
theorem zB0 (w:Int):∀ (ps:Ya) (T:TB),∃ new:List (List Int),ps.foldl (zHT w) T=T++new.map (λp=>(p,w))/\(∀ p∈new,p∈ps/\p∉T.map (·.1))/\new.Nodup /\ ∀ p∈ps,p∈T.map (·.1)\/p∈new
 |[],T=>⟨[],by simp,(λp h=>by cases h),List.nodup_nil,(λp h=>by cases h)⟩
 |p::ps,T=>by
  rw[List.foldl_cons];by_cases h:p∈T.map (·.1)
  .rw[show zHT w T p=T from zXS h];obtain ⟨new,e,h1,h2,h3⟩:=zB0 w ps T;refine ⟨new,e,λq hq=>⟨zXQ _ (h1 q hq).1,(h1 q hq).2⟩,h2,λq hq=>?_⟩;rcases zXP.mp hq with rfl|z
   .exact .inl h
   .exact h3 q z
  .rw[show zHT w T p=T++[(p,w)]from zXV h];obtain ⟨new,e,h1,h2,h3⟩:=zB0 w ps (T++[(p,w)]);have hk:∀ q,q∈(T++[(p,w)]).map (·.1) ↔ q∈T.map (·.1)\/q=p:=λq=>by rw[zX5,zXd];simp
   refine ⟨p::new,by rw[e];simp,λq hq=>?_,?_,λq hq=>?_⟩
   .rcases zXP.mp hq with rfl|z
    .exact ⟨zXR,h⟩
    .exact ⟨zXQ _ (h1 q z).1,λy=>(h1 q z).2 ((hk q).mpr (.inl y))⟩
   .exact zYX.mpr ⟨λz=>(h1 p z).2 ((hk p).mpr (.inr rfl)),h2⟩
   .rcases zXP.mp hq with rfl|z
    .exact .inr zXR
    .rcases h3 q z with y|y
     .rcases (hk q).mp y with x|x
      .exact .inl x
      .exact .inr (by rw[x];exact zXR)
     .exact .inr (zXQ _ y)
structure BI (src:Y1) (goals:Ya) (T:TB) (i:Nat):Prop where
 nd:(T.map (·.1)).Nodup
 st:∀ g∈goals,(g,(0:Int))∈T
 ent:∀ p v,(p,v)∈T->(v=0/\p∈goals) \/ ∃ q u,(q,u)∈T/\v=u+1/\p∈src q
 cl:∀ (j:Nat) q u,j<i->T[j]?=some (q,u) -> ∀ p∈src q,∃ v,(p,v)∈T/\v<=u+1
 mono:∀ (j k:Nat) p q u v,j<=k->T[j]?=some (p,u)->T[k]?=some (q,v)->u<=v
 top:∀ q u,T[i]?=some (q,u) -> ∀ p v,(p,v)∈T->v<=u+1
 pos:∀ p v,(p,v)∈T->0<=v
def zRl (nd:goals.Nodup):BI src goals (goals.map λg=>(g,(0:Int))) 0 where
 nd:=by rw[zXb,show ((λ(x:List Int × Int)=>x.1)∘λ(t:Ye)=>(t,(0:Int)))=id from rfl,List.map_id];exact nd
 st:=λg h=>zXU.mpr ⟨g,h,rfl⟩;ent:=λp v h=>by obtain ⟨g,hg,e⟩:=zXU.mp h;cases e;exact .inl ⟨rfl,hg⟩
 cl:=λj q u h=>absurd h (Nat.not_lt_zero _);mono:=λj k p q u v _ h1 h2=>by
  obtain ⟨g,_,e⟩:=zXU.mp (zX4 h1);cases e;obtain ⟨g,_,e⟩:=zXU.mp (zX4 h2);cases e;exact Int.le_refl _
 top:=λq u h p v h2=>by
  obtain ⟨g,_,e⟩:=zXU.mp (zX4 h);cases e;obtain ⟨g,_,e⟩:=zXU.mp h2;cases e;omega
 pos:=λp v h=>by obtain ⟨g,_,e⟩:=zXU.mp h;cases e;omega
def zSk (h:BI src goals T i) (hi:T[i]?=some (q,u)):BI src goals ((src q).foldl (zHT (u+1)) T) (i+1):=by
 obtain ⟨new,e,h1,h2,h3⟩:=zB0 (u+1) (src q) T;rw[e];have hil:=(zXG.mp hi).1;have hq:(q,u)∈T:=zX4 hi;have old:∀ {p v},(p,v)∈T->(p,v)∈T++new.map (λp=>(p,u+1)):=λz=>zYS _ z;have at':∀ {j:Nat} {p v},(T++new.map (λp=>(p,u+1)))[j]?=some (p,v)->T[j]?=some (p,v)\/(T.length<=j/\p∈new/\v=u+1):=λ{j p v} z=>by
  rcases zYZ j T.length with y|y
  .rw[zXK y]at z;exact .inl z
  .rw[zYN y]at z;obtain ⟨g,hg,e⟩:=zXU.mp (zX4 z);cases e;exact .inr ⟨y,hg,rfl⟩
 have mem':∀ {p v},(p,v)∈T++new.map (λp=>(p,u+1))->(p,v)∈T\/(p∈new/\v=u+1):=λ{p v} z=>by
  rcases zXd.mp z with y|y
  .exact .inl y
  .obtain ⟨g,hg,e⟩:=zXU.mp y;cases e;exact .inr ⟨hg,rfl⟩
 refine ⟨?_,λg hg=>old (h.st g hg),λp v hp=>?_,λj q' u' hj hq' p hp=>?_,λj k p q' u' v hjk ej ek=>?_,λq' u' eq' p v hp=>?_,λp v hp=>?_⟩
 .rw[zX5,zYR];refine ⟨h.nd,?_,λa ha b hb=>?_⟩
  .rw[zXb,show ((λ(x:List Int × Int)=>x.1)∘λ(t:Ye)=>(t,u+1))=id from rfl,List.map_id];exact h2
  .rw[zXb,show ((λ(x:List Int × Int)=>x.1)∘λ(t:Ye)=>(t,u+1))=id from rfl,List.map_id]at hb;intro z;subst z;exact (h1 a hb).2 ha
 .rcases mem' hp with z|⟨z,rfl⟩
  .rcases h.ent p v z with y|⟨q',u',y1,y2,y3⟩
   .exact .inl y
   .exact .inr ⟨q',u',old y1,y2,y3⟩
  .exact .inr ⟨q,u,old hq,rfl,(h1 p z).1⟩
 .rcases zYZ j i with z|z
  .have hjl:j<T.length:=by omega
   rw[zXK hjl]at hq';obtain ⟨v,y1,y2⟩:=h.cl j q' u' z hq' p hp;exact ⟨v,old y1,y2⟩
  .have:j=i:=by omega
   subst this;rw[zXK hil,hi]at hq';cases hq';rcases h3 p hp with y|y
   .obtain ⟨⟨p',v⟩,hv,rfl⟩:=zXU.mp y;exact ⟨v,old hv,h.top q u hi p' v hv⟩
   .exact ⟨u+1,zXX _ (zXU.mpr ⟨p,y,rfl⟩),Int.le_refl _⟩
 .rcases at' ej with z|⟨z,_,rfl⟩ <;> rcases at' ek with y|⟨y,_,rfl⟩
  .exact h.mono j k p q' u' v hjk z y
  .exact h.top q u hi p u' (zX4 z)
  .have:=(zXG.mp y).1;omega
  .exact Int.le_refl _
 .have hle:u<=u':=by
   rcases at' eq' with z|⟨_,_,rfl⟩
   .exact h.mono i (i+1) q q' u u' (by omega) hi z
   .omega
  rcases mem' hp with z|⟨z,rfl⟩
  .have:=h.top q u hi p v z;omega
  .omega
 .rcases mem' hp with z|⟨z,rfl⟩
  .exact h.pos p v z
  .have:=h.pos q u hq;omega
def LR (src:Y1) (goals:Ya):Nat->List Int->Prop
 |0,p=>p∈goals
 |n+1,p=>∃ q,p∈src q/\LR src goals n q
theorem zIJ (h:BI src goals T i):∀ (n:Nat) p,(p,(n:Int))∈T->LR src goals n p
 |0,p,hp=>by
  rcases h.ent p _ hp with ⟨_,z⟩|⟨q,u,z1,z2,_⟩
  .exact z
  .have:=h.pos q u z1;omega
 |n+1,p,hp=>by
  rcases h.ent p _ hp with ⟨z,_⟩|⟨q,u,z1,z2,z3⟩
  .omega
  .have:u=(n:Int):=by omega
   subst this;exact ⟨q,z3,zIJ h n q z1⟩
theorem zG0 (h:BI src goals T T.length):∀ (n:Nat) p,LR src goals n p -> ∃ v,(p,v)∈T/\v<=(n:Int)
 |0,p,hp=>⟨0,h.st p hp,by omega⟩
 |n+1,p,⟨q,h1,h2⟩=>by
  obtain ⟨u,hu,hle⟩:=zG0 h n q h2;obtain ⟨j,hj⟩:=List.mem_iff_getElem?.mp hu;obtain ⟨v,hv,hle2⟩:=h.cl j q u (zXG.mp hj).1 hj p h1;exact ⟨v,hv,by omega⟩
def zMy (h:BI src goals T T.length):p∈T.map (·.1) ↔ ∃ n,LR src goals n p:=by
 constructor
 .intro z;obtain ⟨⟨p',v⟩,hv,rfl⟩:=zXU.mp z;have h0:=h.pos p' v hv;exact ⟨v.toNat,zIJ h v.toNat p' (by rw[show ((v.toNat:Nat):Int)=v by omega];exact hv)⟩
 .rintro ⟨n,hn⟩;obtain ⟨v,hv,_⟩:=zG0 h n p hn;exact zXU.mpr ⟨(p,v),hv,rfl⟩
abbrev zAU (T:TB):List (List Int × D):=T.map λq=>(q.1,D.int q.2)
def zJE (nd:(T.map (·.1)).Nodup) (h:(p,v)∈T):zG (zAU T) p=some (.int v):=by
 induction T with
 |nil=>cases h
 |cons q r ih=>
  rw[zXW,zYX]at nd;show (if q.1=p then some (D.int q.2) else zG (zAU r) p)=_;rcases zXP.mp h with rfl|z
  .rw[zXS rfl]
  .rw[zXV (λe=>nd.1 (by rw[e];exact zXU.mpr ⟨(p,v),z,rfl⟩))];exact ih nd.2 z
def zFB (h:p∉T.map (·.1)):zG (zAU T) p=none:=by
 induction T with
 |nil=>rfl
 |cons q r ih=>
  rw[zXW,zXP]at h;show (if q.1=p then some (D.int q.2) else zG (zAU r) p)=_;rw[zXV (λe=>h (.inl e.symm))];exact ih λz=>h (.inr z)
def zFj (nd:(T.map (·.1)).Nodup):(zG (zAU T) p).isSome=decide (p∈T.map (·.1)):=by
 by_cases h:p∈T.map (·.1)
 .obtain ⟨⟨p',v⟩,hv,rfl⟩:=zXU.mp h;rw[zJE nd hv,zYL h];rfl
 .rw[zFB h,zXm h];rfl
def zET:FS:=(zX (zq 1 zKS)
  (zX (zBw (zu (zP zAT (zD (toD (zP zAH (zD (toD (zC 0)) zH))) zH))) (gN 2) (zBw (zAA (zD (toD (fB zAX (zQ (fOp kIx (zC 0) (fC (.int 0))) ze))) zH)) (gN 3) (zX (zq 4 (zP zBT (zD (toD (zC 0)) (zD (toD (zC 2)) (zD (toD (zC 3)) zH)))))
  (zX (sIf (tst (fOp (zAe true) (zC 4) (zC 1))) (zBn (zAb zH) (zC 1) (zC 4)) zBB)
  (zAk (fM zr (fOp zp (zC 1) (zC 4)) (zD (toD (zC 2)) zH)))))))
  (zAS (zC 1))))
def zCD:FF:=zBV 5 zET
def zDE (zA:Ya) (ps:List (List Int × Int)) (g:Ye):List (List Int):=(ps.filter λq=>decide (setR zA q.1 q.2=g)).map (·.1)
def zHg (zA:Ya) (ps:List (List Int × Int)) (p:Ye) (x:Int) (g:Ye):zDE zA (ps++[(p,x)]) g=zDE zA ps g++(if setR zA p x=g then [p] else []):=by
 unfold zDE;rw[List.filter_append,zX5];congr 1;by_cases h:setR zA p x=g
 .rw[zXS h,List.filter_cons_of_pos (by simpa using h)];rfl
 .rw[zXV h,List.filter_cons_of_neg (by simpa using h)];rfl
structure Sr (zA:Ya) (M:Mem) (jd lo:Nat) (ps:List (List Int × Int)):Prop where
 ex:∃ T:List (List Int × D),M[jd]?=some (dT T)/\T.length<=ps.length/\(∀ g d,zG T g=some d -> ∃ j,d=.ref j/\lo<j/\M[j]?=some (.lst ((zDE zA ps g).map tI)))/\(∀ g,zG T g=none->zDE zA ps g=[]) /\ ∀ g g' j,zG T g=some (.ref j)->zG T g'=some (.ref j)->g=g'
def zOj {zA:Ya} {l:Nat} (m:IsM zA l) (hR:zA.length<64) {M:Mem} {jd lo:Nat} {ps:List (List Int × Int)} (hps:ps.length<50000) (hlo:jd<lo) (hlo2:lo<M.length) (sr:Sr zA M jd lo ps) {p:Ye} (hp:IsS zA p) {x:Int} (x0:0<=x) (x1:x<l) {y4:Option D} :
  OkS (zX (zq 4 (zP zBT (zD (toD (zC 0)) (zD (toD (zC 2)) (zD (toD (zC 3)) zH))))) (zX (sIf (tst (fOp (zAe true) (zC 4) (zC 1))) (zBn (zAb zH) (zC 1) (zC 4)) zBB) (zAk (fM zr (fOp zp (zC 1) (zC 4)) (zD (toD (zC 2)) zH)))) [some (mD zA),some (.ref jd),some (tI p),some (.int x),y4] M)
   λo σ' M'=>o=.nx/\(∃ y,σ'=[some (mD zA),some (.ref jd),some (tI p),some (.int x),y])/\Sr zA M' jd lo (ps++[(p,x)])/\M.length<=M'.length /\ ∀ j,j<=lo->j≠jd->M'[j]?=M[j]?:=by
 obtain ⟨T,ed,hT,h1,h2,h3⟩:=sr.ex;refine zC8 (zAM (zt rfl (zt rfl (zc rfl))) (zKq m hR hp x0 x1)) ?_;generalize hg:setR zA p x=goal;show OkS (zX _ _ [some (mD zA),some (.ref jd),some (tI p),some (.int x),some (tI goal)] M) _;rw[zI,zA1];refine zE (M:=M) (a:=!(zG T goal).isSome) (zo (zJ (x:=.dat (tI goal)) (y:=.dat (.ref jd)) rfl rfl (zHo ed))) ?_
 have last:∀ (A:Mem) (T':List (List Int × D)) (j:Nat),A[jd]?=some (dT T')->zG T' goal=some (.ref j)->lo<j->A[j]?=some (.lst ((zDE zA ps goal).map tI))->T'.length<=ps.length+1->M.length<=A.length->(∀ j,j<=lo->j≠jd->A[j]?=M[j]?) ->
   (∀ g d,zG T' g=some d -> ∃ j,d=.ref j/\lo<j/\A[j]?=some (.lst ((zDE zA ps g).map tI)))->(∀ g,zG T' g=none->zDE zA ps g=[])->(∀ g g' j,zG T' g=some (.ref j)->zG T' g'=some (.ref j)->g=g') ->
   OkS (zAk (fM zr (fOp zp (zC 1) (zC 4)) (zD (toD (zC 2)) zH)) [some (mD zA),some (.ref jd),some (tI p),some (.int x),some (tI goal)] A)
    λo σ' M'=>o=.nx/\(∃ y,σ'=[some (mD zA),some (.ref jd),some (tI p),some (.int x),y])/\Sr zA M' jd lo (ps++[(p,x)])/\M.length<=M'.length /\ ∀ j,j<=lo->j≠jd->M'[j]?=M[j]?:=by
  intro A T' j ea el hj ej hz hle hfr k1 k2 k3;rw[zBC];have hfl:(zDE zA ps goal).length<=ps.length:=by unfold zDE;rw[zXM];exact zZX _ _
  have jl:j<A.length:=(zXG.mp ej).1;refine zFz.mpr (zE (zJ (x:=.dat (.ref jd)) (y:=.dat (tI goal)) rfl rfl (zE0 ea el)) ⟨⟨_,zAJ ej⟩,zE (zc (d:=tI p) rfl) ?_⟩);rw[zBZ ej (by rw[zXM];exact zXc (m:=95000) (by omega) (zY (by omega)))];refine ⟨rfl,⟨_,rfl⟩,⟨T',by rw[zXh (by omega)];exact ea,by simpa using hz,λg d hd=>?_,λg hd=>?_,k3⟩,by simpa using hle,λi hi hn=>by rw[zXh (by omega)];exact hfr i hi hn⟩
  .obtain ⟨j',rfl,hj',ej'⟩:=k1 g d hd;refine ⟨j',rfl,hj',?_⟩;rw[zHg,hg];by_cases hgg:goal=g
   .subst hgg;rw[el]at hd;cases hd;rw[zX7 jl,zXS rfl,zX5];rfl
   .rw[zXV hgg,zXx];have:j≠j':=λz=>hgg (k3 goal g j el (by rw[z];exact hd));rw[zXh this];exact ej'
  .rw[zHg,hg,zXV (λz=>by rw[<-z,el]at hd;cases hd),zXx];exact k2 g hd
 cases hl:zG T goal with
 |some d=>
  obtain ⟨j,rfl,hj,ej⟩:=h1 goal d hl;rw[zXV (by simp),zAi,zM];exact last M T j ed hl hj ej (by omega) (zXJ _) (λ_ _ _=>rfl) h1 h2 h3
 |none=>
  rw[zXS (by simp)];have e0:=h2 goal hl;have jdl:jd<M.length:=(zXG.mp ed).1;have ed':(M++[MO.lst ([]:List D)])[jd]?=some (dT T):=by rw[zXK jdl];exact ed
  refine ⟨.nx,[some (mD zA),some (.ref jd),some (tI p),some (.int x),some (tI goal)],(M++[MO.lst ([]:List D)]).set jd (dT (zCU T goal (.ref M.length))),?_,?_⟩
  .unfold zBn;rw[show toD (zAb zH) [some (mD zA),some (.ref jd),some (tI p),some (.int x),some (tI goal)] M=some (.ref M.length,M++[.lst []]) by
    unfold toD zAb zH;dsimp only;rw[zXS (zY (by simp))]]
   dsimp only;rw[show toD (zC 1) [some (mD zA),some (.ref jd),some (tI p),some (.int x),some (tI goal)] (M++[.lst []])=some (.ref jd,M++[.lst []])from rfl];dsimp only;rw[show toD (zC 4) [some (mD zA),some (.ref jd),some (tI p),some (.int x),some (tI goal)] (M++[.lst []])=some (tI goal,M++[.lst []])from rfl];dsimp only;rw[zJS ed' (by omega)]
  rw[zM];have hput:=λg=>zDV T goal g (.ref M.length);refine last _ (zCU T goal (.ref M.length)) M.length (zX7 (by simp;omega)) (by rw[hput,zXS rfl]) hlo2 ?_ (by have:=zHH T goal (.ref M.length);omega) (by simp) (λi hi hn=>?_) (λg d hd=>?_) (λg hd=>?_) (λg g' j hd hd'=>?_)
  .rw[zXh (by omega),e0];simp
  .rw[zXh (Ne.symm hn),zXK (by omega)]
  .rw[hput]at hd;by_cases hgg:goal=g
   .subst hgg;rw[zXS rfl]at hd;cases hd;exact ⟨M.length,rfl,hlo2,by rw[zXh (by omega),e0];simp⟩
   .rw[zXV hgg]at hd;obtain ⟨j,rfl,hj,ej⟩:=h1 g d hd;exact ⟨j,rfl,hj,by rw[zXh (by omega),zXK (zXG.mp ej).1];exact ej⟩
  .rw[hput]at hd;by_cases hgg:goal=g
   .rw[zXS hgg]at hd;cases hd
   .rw[zXV hgg]at hd;exact h2 g hd
  .rw[hput]at hd hd';by_cases a:goal=g
   .by_cases b:goal=g'
    .rw[<-a,<-b]
    .rw[zXS a]at hd;rw[zXV b]at hd';cases hd;obtain ⟨j,e,_,ej⟩:=h1 g' _ hd';cases e;exact absurd (zXG.mp ej).1 (zXv _)
   .rw[zXV a]at hd;by_cases b:goal=g'
    .rw[zXS b]at hd';cases hd';obtain ⟨j,e,_,ej⟩:=h1 g _ hd;cases e;exact absurd (zXG.mp ej).1 (zXv _)
    .rw[zXV b]at hd';exact h3 g g' j hd hd'
def zF (zA:Ya):List Int:=(List.range zA.length).map λ(k:Nat)=>(k:Int)
def zCn (l:Nat) (ps:Ya):List (List Int × Int):=ps.flatMap λp=>(List.range l).map λ(x:Nat)=>(p,(x:Int))
def zHa (l:Nat) (ps:Ya):(zCn l ps).length=ps.length*l:=by
 unfold zCn;induction ps with
 |nil=>simp
 |cons p r ih=>rw[List.flatMap_cons,zXT,ih,zXM,zZA,zXk,Nat.add_mul];omega
def zBe (xs:Ye):(zK xs).length<=xs.length*xs.length:=by
 unfold zK;have:∀ (r:Ye),(r.flatMap λa=>(xs.filter λb=>decide (a<b)).map λb=>[a,b]).length<=r.length*xs.length:=by
  intro r;induction r with
  |nil=>simp
  |cons a r ih=>
   rw[List.flatMap_cons,zXT,zXM,zXk,Nat.add_mul];have:=zZX (λb=>decide (a<b)) xs;omega
 exact this xs
def zNX (h:p∈zK (zF zA)):IsS zA p:=by
 obtain ⟨a,b,rfl,ha,hb,hlt⟩:=zh.mp h;obtain ⟨i,hi,rfl⟩:=zXU.mp ha;obtain ⟨j,hj,rfl⟩:=zXU.mp hb;have:=zXr.mp hi;have:=zXr.mp hj;refine ⟨by simp;omega,by simp,λx hx=>?_⟩;simp only[zXP,zXi,zYY]at hx;omega
def zC1 {M M1:Mem} (ha:a σ M=some (ds,M)) (hg:g ds M=some (.ref j,M1)) (hj:M1[j]?=some (.lst xs)):zu (zP g a) σ M=some (xs,zCq (.dat (.ref j)) xs,M1):=by
 have:zP g a σ M=some (.dat (.ref j),M1):=by unfold zP;rw[ha];dsimp only;rw[hg]
 unfold zu;rw[this];dsimp only;rw[za hj]
def zSu {zA:Ya} {l:Nat} (m:IsM zA l) (hR:zA.length<64) (hl:l<=12) {M:Mem}:Ok (zCD [mD zA] M) λd M'=>d=.ref M.length/\Sr zA M' M.length (M.length+1) (zCn l (zK (zF zA)))/\M.length+1<M'.length /\ ∀ j,j<M.length->M'[j]?=M[j]?:=by
 unfold zCD;rw[zAE];unfold zET;rw[zI,zT];refine zE (M:=M++[.dicT []]) (a:=.dat (.ref M.length)) rfl ?_;rw[zL,zM,zI,zAs];have hrl:(zF zA).length=zA.length:=by unfold zF;simp
 have epr:=zFU (xs:=zF zA) (by omega) (M:=M++[.dicT []]);refine ⟨_,_,_,zC1 (zc (d:=tI (zF zA)) (zAM (zc (d:=mD zA) rfl) (zEe (by omega)))) epr (zS _ _),?_⟩;rw[show (M++[MO.dicT []]).length=M.length+1 by simp];generalize hP:zK (zF zA)=P;have hPl:P.length<=3969:=by
  rw[<-hP];have h1:=zBe (zF zA);rw[hrl]at h1;exact zXe h1 (zYp (show zA.length<=63 by omega) (show zA.length<=63 by omega))
 have e1:(M++[MO.dicT []]++[MO.lst (P.map tI)])[M.length+1]?=some (.lst (P.map tI)):=by
  rw[zYJ,zYN (by omega)];simp
 have e0:(M++[MO.dicT []]++[MO.lst (P.map tI)])[M.length]?=some (dT []):=by
  rw[zYJ,zYN (by omega)];simp
 have ef:∀ j,j<M.length->(M++[MO.dicT []]++[MO.lst (P.map tI)])[j]?=M[j]?:=λj hj=>by rw[zYJ,zXK hj]
 have el:(M++[MO.dicT []]++[MO.lst (P.map tI)]).length=M.length+2:=by simp
 generalize M++[MO.dicT []]++[MO.lst (P.map tI)]=M1 at e1 e0 ef el;refine zAf (I:=λr σ M'=>(∃ y2 y3 y4,σ=[some (mD zA),some (.ref M.length),y2,y3,y4]) /\ ∃ us vs:List (List Int),P=us++vs/\r=vs.map tI/\Sr zA M' M.length (M.length+1) (zCn l us)/\M'[M.length+1]?=some (.lst (P.map tI))/\M.length+1<M'.length /\ ∀ j,j<M.length->M'[j]?=M[j]?) ?_ ?_ _ _ _ ⟨⟨_,_,_,rfl⟩,[],P,rfl,rfl,⟨[],e0,by simp,(λg d h=>by cases h),(λ_ _=>rfl),(λg g' j h=>by cases h)⟩,e1,by omega,ef⟩
 .rintro x r σ M' ⟨⟨y2,y3,y4,rfl⟩,us,vs,hab,hr,sr,ep,hlen,hfr⟩;cases vs with
  |nil=>cases hr
  |cons p vs=>
   rw[zXW]at hr;obtain ⟨rfl,rfl⟩:=zYH hr;have hpm:p∈zK (zF zA):=by rw[hP,hab];simp
   have hul:us.length<3969:=by have:=zY0 List.length hab;simp at this;omega
   refine ⟨.inl ep,_,rfl,?_⟩;rw[zAs];refine ⟨_,_,_,zBt (zNq m rfl) (by omega) (by omega),?_⟩;rw[show (l:Int).toNat=l by omega];refine zHu (n:=l) (I:=λi σ M''=>(∃ y3 y4,σ=[some (mD zA),some (.ref M.length),some (tI p),y3,y4])/\Sr zA M'' M.length (M.length+1) (zCn l us++(List.range i).map λ(x:Nat)=>(p,(x:Int)))/\M''[M.length+1]?=some (.lst (P.map tI))/\M.length+1<M''.length /\ ∀ j,j<M.length->M''[j]?=M[j]?) ?_ ?_ _ _ ⟨⟨_,_,rfl⟩,by simpa using sr,ep,hlen,hfr⟩
   .rintro i σ M2 hi ⟨⟨y3,y4,rfl⟩,sr2,ep2,hlen2,hfr2⟩;refine ⟨_,rfl,?_⟩;have hcount:(zCn l us++(List.range i).map λ(x:Nat)=>(p,(x:Int))).length<50000:=by
     rw[zXT,zHa,zXM,zZA];have:=zYp (show us.length<=3968 by omega) hl;omega
    refine OkS.mono (zOj m hR hcount (zYA _) hlen2 sr2 (zNX hpm) (x:=(i:Int)) (by omega) (by omega)) ?_;rintro o σ' M3 ⟨rfl,⟨y,rfl⟩,sr3,hl3,hf3⟩;refine ⟨⟨_,_,rfl⟩,?_,by rw[hf3 _ (zXJ _) (by omega)];exact ep2,by omega,λj hj=>by rw[hf3 j (by omega) (by omega)];exact hfr2 j hj⟩;rw[List.range_succ,zX5,<-zYJ];exact sr3
   .rintro σ M2 ⟨⟨y3,y4,rfl⟩,sr2,ep2,hlen2,hfr2⟩;refine ⟨⟨_,_,_,rfl⟩,us++[p],vs,by rw[hab];simp,rfl,?_,ep2,hlen2,hfr2⟩;have:zCn l (us++[p])=zCn l us++(List.range l).map λ(x:Nat)=>(p,(x:Int)):=by
     unfold zCn;rw[List.flatMap_append];simp
    rw[this];exact sr2
 .rintro σ M' ⟨⟨y2,y3,y4,rfl⟩,us,vs,hab,hr,sr,ep,hlen,hfr⟩;have:vs=[]:=by cases vs with|nil=>rfl|cons _ _=>cases hr
  subst this;rw[zXx]at hab;subst hab;refine ⟨.inl ep,?_⟩;rw[zM];exact zAZ rfl ⟨rfl,sr,hlen,hfr⟩
def zDc:FS:=(zX (zq 2 (zP zCD (zD (toD (zC 0)) zH)))
  (zX (zq 3 (zC 1))
  (zX (zq 4 (zC7 true [5] (zu (zC 1)) (gN 5) zv (zC 5) (fC (.int 0))))
  (zX (zBf (zPS (zC 3)) (zX (zq 6 (zAb zH))
  (zX (zBw (zu (zC 3)) (gN 5) (zBw (zu (zBG (zC 2) (zC 5) (zAb zH))) (gN 7) (sIf (tst (fOp (zAe true) (zC 7) (zC 4))) (zX (zBn (fOp zAI (fOp zp (zC 4) (zC 5)) (fC (.int 1))) (zC 4) (zC 7))
  (zAk (fM zr (zC 6) (zD (toD (zC 7)) zH)))) zBB)))
  (zq 3 (zC 6)))) 1000)
  (zAS (zC 4))))))
def zBS:FF:=zBV 8 zDc
abbrev Fd:=List (List Int × D) × List (List Int)
def zBJ (k:Int) (st:Fd) (p:Ye):Fd:=if (zG st.1 p).isSome then st else (zCU st.1 p (.int k),st.2++[p])
structure Lv (M0 M:Mem) (jf jb:Nat) (st:Fd):Prop where
 f:M[jf]?=some (dT st.1)
 b:M[jb]?=some (.lst (st.2.map tI))
 len:M0.length<=M.length
 fr:∀ j,j<M0.length->j≠jf->j≠jb->M[j]?=M0[j]?
def zRG (k:Int) (st:Fd) (p:Ye):(zBJ k st p).1.length<=st.1.length+1/\(zBJ k st p).2.length<=st.2.length+1:=by
 unfold zBJ;split
 .exact ⟨by omega,by omega⟩
 .exact ⟨zHH _ _ _,by simp⟩
def zSx {M0:Mem} {jf jb js jd jl:Nat} {zA:Ya} {x1 x3 y7:Option D} {goal:Ye} {k:Int} {ps:Ya} (hne:jf≠jb) (h1:jf<M0.length) (h2:jb<M0.length) :
  ∀ (M:Mem) (st:Fd),Lv M0 M jf jb st->M[js]?=some (.lst (ps.map tI))->js≠jf->js≠jb->zG st.1 goal=some (.int k)->st.1.length+ps.length<=80000->st.2.length+ps.length<=80000 ->
  OkS (zC3 (gN 7) (sIf (tst (fOp (zAe true) (zC 7) (zC 4))) (zX (zBn (fOp zAI (fOp zp (zC 4) (zC 5)) (fC (.int 1))) (zC 4) (zC 7)) (zAk (fM zr (zC 6) (zD (toD (zC 7)) zH)))) zBB) (ps.map tI) (zCq (.dat (.ref js)) (ps.map tI)) (ps.map tI) [some (mD zA),x1,some (.ref jd),x3,some (.ref jf),some (tI goal),some (.ref jb),y7] M)
   λo σ' M'=>o=.nx/\(∃ y,σ'=[some (mD zA),x1,some (.ref jd),x3,some (.ref jf),some (tI goal),some (.ref jb),y])/\Lv M0 M' jf jb (ps.foldl (zBJ (k+1)) st)/\M'.length=M.length /\ ∀ j,j≠jf->j≠jb->M'[j]?=M[j]?:=by
 intro M st lv ejs n1 n2 hgl z1 z2;refine zAf (I:=λr σ M'=>(∃ y,σ=[some (mD zA),x1,some (.ref jd),x3,some (.ref jf),some (tI goal),some (.ref jb),y]) /\ ∃ us vs:List (List Int),ps=us++vs/\r=vs.map tI/\Lv M0 M' jf jb (us.foldl (zBJ (k+1)) st)/\zG (us.foldl (zBJ (k+1)) st).1 goal=some (.int k)/\(us.foldl (zBJ (k+1)) st).1.length<=st.1.length+us.length/\(us.foldl (zBJ (k+1)) st).2.length<=st.2.length+us.length/\M'.length=M.length /\ ∀ j,j≠jf->j≠jb->M'[j]?=M[j]?) ?_ ?_ _ _ _ ⟨⟨_,rfl⟩,[],ps,rfl,rfl,lv,hgl,by simp,by simp,rfl,λ_ _ _=>rfl⟩
 .rintro x r σ M' ⟨⟨y,rfl⟩,us,vs,hab,hr,lv',hg',l1,l2,hl,hfr⟩;cases vs with
  |nil=>cases hr
  |cons p vs=>
   rw[zXW]at hr;obtain ⟨rfl,rfl⟩:=zYH hr;have hul:us.length<ps.length:=by rw[hab];simp
   refine ⟨.inl (by rw[hfr js n1 n2];exact ejs),_,rfl,?_⟩;have hfold:(us++[p]).foldl (zBJ (k+1)) st=zBJ (k+1) (us.foldl (zBJ (k+1)) st) p:=by rw[zZB];rfl
   generalize us.foldl (zBJ (k+1)) st=st' at lv' hg' l1 l2 hfold;have al:=zRG (k+1) st' p;rw[zA1];refine zE (M:=M') (a:=!(zG st'.1 p).isSome) (zo (zJ (x:=.dat (tI p)) (y:=.dat (.ref jf)) rfl rfl (zHo lv'.f))) ?_;cases hlk:zG st'.1 p with
   |some d=>
    have ea:zBJ (k+1) st' p=st':=by unfold zBJ;rw[hlk];rfl
    rw[zXV (by simp),zAi];refine ⟨⟨_,rfl⟩,us++[p],vs,by rw[hab];simp,rfl,?_⟩;rw[hfold,ea];exact ⟨lv',hg',by simp;omega,by simp;omega,hl,hfr⟩
   |none=>
    have ea:zBJ (k+1) st' p=(zCU st'.1 p (.int (k+1)),st'.2++[p]):=by unfold zBJ;rw[hlk];rfl
    have hgp:p≠goal:=λz=>by rw[z,hg']at hlk;cases hlk
    rw[zXS (by simp),zI];have ev:fOp zAI (fOp zp (zC 4) (zC 5)) (fC (.int 1)) [some (mD zA),x1,some (.ref jd),x3,some (.ref jf),some (tI goal),some (.ref jb),some (tI p)] M'=some (.dat (.int (k+1)),M'):=zJ (x:=.dat (.int k)) (zJ (x:=.dat (.ref jf)) (y:=.dat (tI goal)) rfl rfl (zE0 lv'.f hg')) rfl rfl;have hd:OkS (zBn (fOp zAI (fOp zp (zC 4) (zC 5)) (fC (.int 1))) (zC 4) (zC 7) [some (mD zA),x1,some (.ref jd),x3,some (.ref jf),some (tI goal),some (.ref jb),some (tI p)] M') λo σ' M2=>o=.nx/\σ'=[some (mD zA),x1,some (.ref jd),x3,some (.ref jf),some (tI goal),some (.ref jb),some (tI p)]/\M2=M'.set jf (dT (zCU st'.1 p (.int (k+1)))):=by
     refine ⟨.nx,_,_,?_,rfl,rfl,rfl⟩;unfold zBn;rw[show toD (fOp zAI (fOp zp (zC 4) (zC 5)) (fC (.int 1))) [some (mD zA),x1,some (.ref jd),x3,some (.ref jf),some (tI goal),some (.ref jb),some (tI p)] M'=some (.int (k+1),M') by unfold toD;rw[ev]];dsimp only;rw[show toD (zC 4) [some (mD zA),x1,some (.ref jd),x3,some (.ref jf),some (tI goal),some (.ref jb),some (tI p)] M'=some (.ref jf,M')from rfl];dsimp only;rw[show toD (zC 7) [some (mD zA),x1,some (.ref jd),x3,some (.ref jf),some (tI goal),some (.ref jb),some (tI p)] M'=some (tI p,M')from rfl];dsimp only;rw[zJS lv'.f (by omega)]
    refine OkS.mono hd ?_;rintro o σ' M2 ⟨rfl,rfl,rfl⟩;rw[zM,zBC];have eb:(M'.set jf (dT (zCU st'.1 p (.int (k+1)))))[jb]?=some (.lst (st'.2.map tI)):=by rw[zXh hne];exact lv'.b
    refine zFz.mpr (zAa.mpr ⟨_,rfl,⟨_,zAJ eb⟩,zE (zc (d:=tI p) rfl) ?_⟩);rw[zBZ eb (by rw[zXM];exact zXc (m:=95000) (by omega) (zY (by omega)))];have jfl:jf<M'.length:=zXc h1 lv'.len;have jbl:jb<M'.length:=zXc h2 lv'.len;refine ⟨⟨_,rfl⟩,us++[p],vs,by rw[hab];simp,rfl,?_⟩;rw[hfold];refine ⟨?_,?_,by simp;omega,by simp;omega,by simp[hl],λj q1 q2=>by rw[zXh (Ne.symm q2),zXh (Ne.symm q1)];exact hfr j q1 q2⟩
    .rw[ea];refine ⟨by rw[zXh (Ne.symm hne),zX7 jfl],by rw[zX7 (by simpa using jbl),zX5];rfl,by simpa using lv'.len,λj q0 q1 q2=>by rw[zXh (Ne.symm q2),zXh (Ne.symm q1)];exact lv'.fr j q0 q1 q2⟩
    .rw[ea];rw[zDV,zXV hgp];exact hg'
 .rintro σ M' ⟨⟨y,rfl⟩,us,vs,hab,hr,lv',hg',l1,l2,hl,hfr⟩;have:vs=[]:=by cases vs with|nil=>rfl|cons _ _=>cases hr
  subst this;rw[zXx]at hab;subst hab;exact ⟨.inl (by rw[hfr js n1 n2];exact ejs),rfl,⟨_,rfl⟩,lv',hl,hfr⟩
def zVX {f g:FE} {σ:Sd} {M:Mem} {n:Nat} {T:List (List Int × D)} {k:Ye} (hf:f σ M=some (.dat (.ref n),M)) (hn:M[n]?=some (dT T)) (hg:g σ M=some (.dat (tI k),M)):zBG f g (zAb zH) σ M=some (.dat ((zG T k).getD (.ref M.length)),M++[.lst []]):=by
 have nl:n<M.length:=(zXG.mp hn).1;unfold zBG;rw[show toD f σ M=some (.ref n,M) by unfold toD;rw[hf]];dsimp only;rw[hn];rw[show toD g σ M=some (tI k,M) by unfold toD;rw[hg]];dsimp only;rw[show toD (zAb zH) σ M=some (.ref M.length,M++[.lst []]) by
  unfold toD zAb zH;dsimp only;rw[zXS (zY (by simp))]]
 dsimp only;rw[dgT (g:=k) (show (M++[MO.lst ([]:List D)])[n]?=some (dT T) by rw[zXK nl];exact hn)]
def zB5 (src:Y1) (k:Int) (gs:Ya) (st:Fd):Fd:=gs.foldl (λst g=>(src g).foldl (zBJ (k+1)) st) st
def zOU {k:Int} {st:Fd} {p g:Ye} {d:D} (h:zG st.1 g=some d):zG (zBJ k st p).1 g=some d:=by
 unfold zBJ;split
 .exact h
 .rename_i q;rw[zDV,zXV (λz=>q (by rw[z,h];rfl))];exact h
theorem zHR {k:Int} {g:Ye} {d:D}:∀ (ps:Ya) {st:Fd},zG st.1 g=some d->zG (ps.foldl (zBJ k) st).1 g=some d
 |[],_,h=>h
 |p::r,_,h=>zHR r (zOU h)
def zV1 (M:Mem) (Ts:List (List Int × D)) (jf jb:Nat) (src:Y1):Prop:=∀ g,(∃ j,zG Ts g=some (.ref j)/\j≠jf/\j≠jb/\M[j]?=some (.lst ((src g).map tI)))\/(zG Ts g=none/\src g=[])
def zSN {M0:Mem} {jf jb jd jl:Nat} {zA:Ya} {x1 y5 y7:Option D} {k:Int} {gs:Ya} {src:Y1} {Ts:List (List Int × D)} (hne:jf≠jb) (h1:jf<M0.length) (h2:jb<M0.length) (hd:M0[jd]?=some (dT Ts)) (d1:jd≠jf) (d2:jd≠jb) (hl:M0[jl]?=some (.lst (gs.map tI))) (l1:jl≠jf) (l2:jl≠jb) (hs:zV1 M0 Ts jf jb src) (B:Nat) (hB:∀ g∈gs,(src g).length<=B)
  {st:Fd} (hg:∀ g∈gs,zG st.1 g=some (.int k)) (Z:Nat) (hZB:Z+B<=80000) (hZ:∀ us vs,gs=us++vs->(zB5 src k us st).1.length<=Z/\(zB5 src k us st).2.length<=Z) (lv:Lv M0 M0 jf jb st) :
  OkS (zC3 (gN 5) (zBw (zu (zBG (zC 2) (zC 5) (zAb zH))) (gN 7) (sIf (tst (fOp (zAe true) (zC 7) (zC 4))) (zX (zBn (fOp zAI (fOp zp (zC 4) (zC 5)) (fC (.int 1))) (zC 4) (zC 7)) (zAk (fM zr (zC 6) (zD (toD (zC 7)) zH)))) zBB)) (gs.map tI) (zCq (.dat (.ref jl)) (gs.map tI)) (gs.map tI) [some (mD zA),x1,some (.ref jd),some (.ref jl),some (.ref jf),y5,some (.ref jb),y7] M0)
   λo σ' M'=>o=.nx/\(∃ y5 y7,σ'=[some (mD zA),x1,some (.ref jd),some (.ref jl),some (.ref jf),y5,some (.ref jb),y7])/\Lv M0 M' jf jb (zB5 src k gs st):=by
 refine zAf (I:=λr σ M'=>(∃ y5 y7,σ=[some (mD zA),x1,some (.ref jd),some (.ref jl),some (.ref jf),y5,some (.ref jb),y7]) /\ ∃ us vs:List (List Int),gs=us++vs/\r=vs.map tI/\Lv M0 M' jf jb (zB5 src k us st)/\(∀ g∈gs,zG (zB5 src k us st).1 g=some (.int k))) ?_ ?_ _ _ _ ⟨⟨_,_,rfl⟩,[],gs,rfl,rfl,lv,hg⟩
 .rintro x r σ M' ⟨⟨y5,y7,rfl⟩,us,vs,hab,hr,lv',hg'⟩;cases vs with
  |nil=>cases hr
  |cons g vs=>
   rw[zXW]at hr;obtain ⟨rfl,rfl⟩:=zYH hr;have hgm:g∈gs:=by rw[hab];simp
   have hsb:=hB g hgm;obtain ⟨b1,b2⟩:=hZ us (g::vs) hab;have keep:∀ {j:Nat} {u:MO},M0[j]?=some u->j≠jf->j≠jb->M'[j]?=some u:=λ{j u} e q1 q2=>(lv'.fr j (zXG.mp e).1 q1 q2).trans e;refine ⟨.inl (keep hl l1 l2),_,rfl,?_⟩;have hfold:zB5 src k (us++[g]) st=(src g).foldl (zBJ (k+1)) (zB5 src k us st):=by unfold zB5;rw[zZB];rfl
   generalize zB5 src k us st=st' at lv' hg' b1 b2 hfold;have e2:=zVX (f:=zC 2) (g:=zC 5) (σ:=[some (mD zA),x1,some (.ref jd),some (.ref jl),some (.ref jf),some (tI g),some (.ref jb),y7]) (M:=M') (k:=g) rfl (keep hd d1 d2) rfl;have lvA:Lv M0 (M'++[.lst []]) jf jb st':=by
    have f1:=(zXG.mp lv'.f).1;have f2:=(zXG.mp lv'.b).1;have f3:=lv'.len;exact ⟨by rw[zXK f1];exact lv'.f,by rw[zXK f2];exact lv'.b,by simp;omega,λj q0 q1 q2=>by rw[zXK (by omega)];exact lv'.fr j q0 q1 q2⟩
   obtain ⟨js,ejs,n1,n2,el⟩:∃ js,(zG Ts g).getD (.ref M'.length)=.ref js/\js≠jf/\js≠jb/\(M'++[MO.lst ([]:List D)])[js]?=some (.lst ((src g).map tI)):=by
    rcases hs g with ⟨j,e,q1,q2,q3⟩|⟨e,q⟩
    .have:=keep q3 q1 q2;exact ⟨j,by rw[e];rfl,q1,q2,by rw[zXK (zXG.mp this).1];exact this⟩
    .have:=lv'.len;exact ⟨M'.length,by rw[e];rfl,by omega,by omega,by rw[q];simp⟩
   rw[ejs]at e2;rw[zAs];refine ⟨_,_,_,(show zu (zBG (zC 2) (zC 5) (zAb zH)) [some (mD zA),x1,some (.ref jd),some (.ref jl),some (.ref jf),some (tI g),some (.ref jb),y7] M'=some ((src g).map tI,zCq (.dat (.ref js)) ((src g).map tI),M'++[.lst []]) by unfold zu;rw[e2];dsimp only;rw[za el]),?_⟩;refine OkS.mono (zSx (jl:=jl) (k:=k) hne h1 h2 _ st' lvA el n1 n2 (hg' g hgm) (by omega) (by omega)) ?_;rintro o σ' M2 ⟨rfl,⟨y,rfl⟩,lv2,_,_⟩;refine ⟨⟨_,_,rfl⟩,us++[g],vs,by rw[hab];simp,rfl,?_⟩;rw[hfold];exact ⟨lv2,λg' hg''=>zHR _ (hg' g' hg'')⟩
 .rintro σ M' ⟨⟨y5,y7,rfl⟩,us,vs,hab,hr,lv',hg'⟩;have:vs=[]:=by cases vs with|nil=>rfl|cons _ _=>cases hr
  subst this;rw[zXx]at hab;subst hab;have keep:∀ {j:Nat} {u:MO},M0[j]?=some u->j≠jf->j≠jb->M'[j]?=some u:=λ{j u} e q1 q2=>(lv'.fr j (zXG.mp e).1 q1 q2).trans e;exact ⟨.inl (keep hl l1 l2),rfl,⟨_,_,rfl⟩,lv'⟩
def zOt (k:Int) (st:Fd) (p t:Ye):zG (zBJ k st p).1 t=(if (zG st.1 t).isSome then zG st.1 t else if t=p then some (.int k) else none)/\(t∈(zBJ k st p).2 ↔ t∈st.2\/(zG st.1 t=none/\t=p)):=by
 unfold zBJ;by_cases h:(zG st.1 p).isSome=true
 .rw[zXS h];constructor
  .by_cases ht:(zG st.1 t).isSome=true
   .rw[zXS ht]
   .rw[zXV ht,zXV (λz=>ht (by rw[z];exact h))];cases e:zG st.1 t with
    |none=>rfl
    |some d=>rw[e]at ht;simp at ht
  .constructor
   .exact .inl
   .rintro (q|⟨q,rfl⟩)
    .exact q
    .rw[q]at h;cases h
 .rw[zXV h];have hn:zG st.1 p=none:=by
   cases e:zG st.1 p with
   |none=>rfl
   |some d=>rw[e]at h;simp at h
  constructor
  .rw[zDV];by_cases ht:p=t
   .subst ht;rw[zXS rfl,zXV h,zXS rfl]
   .rw[zXV ht];by_cases hs:(zG st.1 t).isSome=true
    .rw[zXS hs]
    .rw[zXV hs,zXV (λz=>ht z.symm)];cases e:zG st.1 t with
     |none=>rfl
     |some d=>rw[e]at hs;simp at hs
  .rw[zXd,zXf];constructor
   .rintro (q|rfl)
    .exact .inl q
    .exact .inr ⟨hn,rfl⟩
   .rintro (q|⟨_,q⟩)
    .exact .inl q
    .exact .inr q
theorem zHM (k:Int):∀ (ps:Ya) (st:Fd) (t:Ye),zG (ps.foldl (zBJ k) st).1 t=(if (zG st.1 t).isSome then zG st.1 t else if t∈ps then some (.int k) else none)/\(t∈(ps.foldl (zBJ k) st).2 ↔ t∈st.2\/(zG st.1 t=none/\t∈ps))
 |[],st,t=>by
  constructor
  .by_cases h:(zG st.1 t).isSome=true
   .rw[zXS h];rfl
   .rw[zXV h,zXV (by simp)];cases e:zG st.1 t with
    |none=>exact e
    |some d=>rw[e]at h;simp at h
  .simp
 |p::r,st,t=>by
  obtain ⟨a1,a2⟩:=zOt k st p t;obtain ⟨b1,b2⟩:=zHM k r (zBJ k st p) t;rw[List.foldl_cons,b1,b2,a2,a1];by_cases h:(zG st.1 t).isSome=true
  .rw[zXS h,zXS h,zXS h];refine ⟨rfl,?_⟩;have hn:¬ zG st.1 t=none:=λz=>by rw[z]at h;cases h
   simp[hn]
  .have hn:zG st.1 t=none:=by
    cases e:zG st.1 t with
    |none=>rfl
    |some d=>rw[e]at h;simp at h
   rw[zXV h,zXV h];by_cases hp:t=p
   .rw[zXS hp];refine ⟨?_,?_⟩
    .rw[zXS (show (some (D.int k)).isSome=true from rfl),zXS (by rw[hp];exact zXR)]
    .simp[hn,hp]
   .rw[zXV hp];refine ⟨?_,?_⟩
    .rw[zXV (by simp)];by_cases hr:t∈r
     .rw[zXS hr,zXS (zXQ _ hr)]
     .rw[zXV hr,zXV (by simp[hp,hr])]
    .simp[hn,hp]
def zJT (src:Y1) (k:Int) (gs:Ya) (st:Fd) (t:Ye):zG (zB5 src k gs st).1 t=(if (zG st.1 t).isSome then zG st.1 t else if t∈gs.flatMap src then some (.int (k+1)) else none)/\(t∈(zB5 src k gs st).2 ↔ t∈st.2\/(zG st.1 t=none/\t∈gs.flatMap src)):=by
 have:∀ (gs:Ya) (st:Fd),zB5 src k gs st=(gs.flatMap src).foldl (zBJ (k+1)) st:=by
  intro gs;induction gs with
  |nil=>intro st;rfl
  |cons g r ih=>
   intro st;show zB5 src k r ((src g).foldl (zBJ (k+1)) st)=_;rw[ih,List.flatMap_cons,zZB]
 rw[this gs st];exact zHM (k+1) (gs.flatMap src) st t
def Rch (zA:Ya) (l:Nat) (G:Yq) (t:Ye) (n:Nat):Prop:=∃ w:List Int,w.length=n/\(∀ x∈w,0<=x/\x<(l:Int))/\G (zME zA t w)
def Dst (zA:Ya) (l:Nat) (G:Yq) (t:Ye) (n:Nat):Prop:=Rch zA l G t n /\ ∀ m,m<n -> ¬ Rch zA l G t m
def zDH:Rch zA l G t (n+1) ↔ ∃ x:Int,(0<=x/\x<(l:Int))/\Rch zA l G (setR zA t x) n:=by
 constructor
 .rintro ⟨w,hw,hb,hl⟩;cases w with
  |nil=>cases hw
  |cons x w=>exact ⟨x,hb x zXR,w,by simpa using hw,λy hy=>hb y (zXQ _ hy),hl⟩
 .rintro ⟨x,hx,w,hw,hb,hl⟩;exact ⟨x::w,by simp[hw],λy hy=>by rcases zXP.mp hy with rfl|q;exact hx;exact hb y q,hl⟩
def zEQ:Rch zA l G t 0 ↔ G t:=by
 constructor
 .rintro ⟨w,hw,_,hl⟩;have:w=[]:=List.length_eq_zero_iff.mp hw;subst this;exact hl
 .intro h;exact ⟨[],rfl,(λ_ h=>by cases h),h⟩
def zBM:Dst zA l G t 0 ↔ G t:=by
 unfold Dst;rw[zEQ];exact ⟨λh=>h.1,λh=>⟨h,λm hm=>by omega⟩⟩
def zDF:Dst zA l G t (n+1) ↔ (∀ m,m<=n -> ¬ Rch zA l G t m) /\ ∃ x:Int,(0<=x/\x<(l:Int))/\Dst zA l G (setR zA t x) n:=by
 constructor
 .rintro ⟨h1,h2⟩;obtain ⟨x,hx,hr⟩:=zDH.mp h1;exact ⟨λm hm=>h2 m (by omega),x,hx,hr,λm hm hq=>h2 (m+1) (by omega) (zDH.mpr ⟨x,hx,hq⟩)⟩
 .rintro ⟨h1,x,hx,hr,_⟩;exact ⟨zDH.mpr ⟨x,hx,hr⟩,λm hm=>h1 m (by omega)⟩
def zCg:∀ n,Rch zA l G t n -> ∃ m,m<=n/\Dst zA l G t m:=by
 intro n;induction n using Nat.strongRecOn with
 |ind n ih=>
  intro h;by_cases q:∃ m,m<n/\Rch zA l G t m
  .obtain ⟨m,hm,hr⟩:=q;obtain ⟨m',h1,h2⟩:=ih m hm hr;exact ⟨m',by omega,h2⟩
  .exact ⟨n,zXJ _,h,λm hm hr=>q ⟨m,hm,hr⟩⟩
def zAw (h1:Dst zA l G t a) (h2:Dst zA l G t b):a=b:=by
 rcases Nat.lt_trichotomy a b with q|q|q
 .exact absurd h1.1 (h2.2 a q)
 .exact q
 .exact absurd h2.1 (h1.2 b q)
def zHl (zA:Ya) (l:Nat) (G:Yq) (U:Yq) (k:Nat) (fd:List (List Int × D)) (lev:Ya):Prop:=(∀ t d,zG fd t=some d ↔ U t /\ ∃ n:Nat,n<=k/\Dst zA l G t n/\d=.int (n:Int)) /\ ∀ t,t∈lev ↔ U t/\Dst zA l G t k
def zGR (h:zHl zA l G U k fd lev) (u:U t):zG fd t=none ↔ ∀ m,m<=k -> ¬ Rch zA l G t m:=by
 constructor
 .intro e m hm hr;obtain ⟨n,hn,hd⟩:=zCg m hr;rw[(h.1 t (.int (n:Int))).mpr ⟨u,n,by omega,hd,rfl⟩]at e;cases e
 .intro q;cases e:zG fd t with
  |none=>rfl
  |some d=>
   obtain ⟨_,n,hn,hd,_⟩:=(h.1 t d).mp e;exact absurd hd.1 (q n hn)
def zOl {zA:Ya} {l:Nat} {U P:Yq} {src:Y1} (hs:∀ g t,t∈src g ↔ P t /\ ∃ x:Int,(0<=x/\x<(l:Int))/\setR zA t x=g) (hP:∀ t,P t->U t) (hU:∀ t n,U t -> ¬ G t->Rch zA l G t n->P t) (hc:∀ t (x:Int),U t->0<=x/\x<(l:Int)->U (setR zA t x))
  {k:Nat} {fd:List (List Int × D)} {lev:Ya} (h:zHl zA l G U k fd lev):zHl zA l G U (k+1) (zB5 src (k:Int) lev (fd,[])).1 (zB5 src (k:Int) lev (fd,[])).2:=by
 have key:∀ t,(zG fd t=none/\t∈lev.flatMap src) ↔ U t/\Dst zA l G t (k+1):=by
  intro t;constructor
  .rintro ⟨e,hm⟩;obtain ⟨g,hg,ht⟩:=List.mem_flatMap.mp hm;obtain ⟨p,x,hx,hq⟩:=(hs g t).mp ht;have u:=hP t p;refine ⟨u,zDF.mpr ⟨(zGR h u).mp e,x,hx,?_⟩⟩;rw[hq];exact ((h.2 g).mp hg).2
  .rintro ⟨u,hd⟩;obtain ⟨q,x,hx,hr⟩:=zDF.mp hd;refine ⟨(zGR h u).mpr q,List.mem_flatMap.mpr ⟨setR zA t x,(h.2 _).mpr ⟨hc t x u hx,hr⟩,(hs _ t).mpr ⟨hU t _ u ?_ hd.1,x,hx,rfl⟩⟩⟩;intro h1;exact q 0 (zXz _) (zEQ.mpr h1)
 constructor
 .intro t d;rw[(zJT src (k:Int) lev (fd,[]) t).1];cases e:zG fd t with
  |some d'=>
   rw[zXS (show (some d').isSome=true from rfl)];obtain ⟨u,n,hn,hd,rfl⟩:=(h.1 t d').mp e;constructor
   .intro z;cases z;exact ⟨u,n,by omega,hd,rfl⟩
   .rintro ⟨_,m,_,hm,rfl⟩;rw[zAw hm hd]
  |none=>
   rw[zXV (by simp)];by_cases hm:t∈lev.flatMap src
   .rw[zXS hm];obtain ⟨u,hd⟩:=(key t).mp ⟨e,hm⟩;constructor
    .intro z;cases z;exact ⟨u,k+1,zXJ _,hd,by simp⟩
    .rintro ⟨_,m,_,hm',rfl⟩;rw[zAw hm' hd];simp
   .rw[zXV hm];constructor
    .intro z;cases z
    .rintro ⟨u,m,hk,hd,rfl⟩;exfalso;by_cases hmk:m<=k
     .exact (zGR h u).mp e m hmk hd.1
     .have:m=k+1:=by omega
      subst this;exact hm ((key t).mpr ⟨u,hd⟩).2
 .intro t;rw[(zJT src (k:Int) lev (fd,[]) t).2];rw[key t];simp
def zPf {zA:Ya} {l:Nat} {G:Yq} {U:Yq} (hc:∀ t (x:Int),U t->0<=x/\x<(l:Int)->U (setR zA t x)) {k:Nat} {fd:List (List Int × D)} (h:zHl zA l G U k fd []) (t:Ye) (d:D):zG fd t=some d ↔ U t /\ ∃ n:Nat,Dst zA l G t n/\d=.int (n:Int):=by
 have far:∀ n t,U t -> ¬ Dst zA l G t (k+n):=by
  intro n;induction n with
  |zero=>intro t u hd;exact absurd ((h.2 t).mpr ⟨u,hd⟩) (by simp)
  |succ n ih=>
   intro t u hd;obtain ⟨_,x,hx,hr⟩:=zDF.mp (show Dst zA l G t ((k+n)+1)from hd);exact ih _ (hc t x u hx) hr
 rw[h.1 t d];constructor
 .rintro ⟨u,n,_,a,b⟩;exact ⟨u,n,a,b⟩
 .rintro ⟨u,n,a,b⟩;refine ⟨u,n,?_,a,b⟩;by_cases q:n<=k
  .exact q
  .exfalso;have e:n=k+(n-k):=by omega
   rw[e]at a;exact far _ t u a
def Th (zA:Ya) (t:Ye):Prop:=IsS zA t/\t.length<=2
def zD8 (zA:Ya) (l:Nat) (g:Ye):List (List Int):=zDE zA (zCn l (zK (zF zA))) g
def zSo (g t:Ye):t∈zD8 zA l g ↔ t∈zK (zF zA) /\ ∃ x:Int,(0<=x/\x<(l:Int))/\setR zA t x=g:=by
 unfold zD8 zDE zCn;simp only[zXU,zYO,List.mem_flatMap,zXr,zYQ];constructor
 .rintro ⟨q,⟨⟨p,hp,k,hk,rfl⟩,hq⟩,rfl⟩;exact ⟨hp,(k:Int),⟨by omega,by omega⟩,hq⟩
 .rintro ⟨hp,x,⟨x0,x1⟩,hq⟩;refine ⟨(t,x),⟨⟨t,hp,x.toNat,by omega,?_⟩,hq⟩,rfl⟩;rw[show ((x.toNat:Nat):Int)=x by omega]
def zDU:x∈zF zA ↔ 0<=x/\x<(zA.length:Int):=by
 unfold zF;simp only[zXU,zXr];constructor
 .rintro ⟨k,hk,rfl⟩;omega
 .rintro ⟨h0,h1⟩;exact ⟨x.toNat,by omega,by omega⟩
def zBH (t:Ye) (h:t∈zK (zF zA)):Th zA t:=by
 refine ⟨zNX h,?_⟩;obtain ⟨a,b,rfl,_⟩:=zh.mp h;exact zXJ _
def zG9 (t:Ye) (h:Th zA t) (h1:t.length≠1):t∈zK (zF zA):=by
 obtain ⟨⟨pw,n0,hm⟩,h2⟩:=h;match t,pw,n0,hm,h1,h2 with
 |[a,b],pw,_,hm,_,_=>
  exact zh.mpr ⟨a,b,rfl,zDU.mpr (hm a (by simp)),zDU.mpr (hm b (by simp)),by simpa using pw⟩
 |[a],_,_,_,h1,_=>exact absurd rfl h1
 |[],_,n0,_,_,_=>cases n0
 |_::_::_::_,_,_,_,_,h2=>simp at h2
def zCN (m:IsM zA l) (t:Ye) (x:Int) (h:Th zA t) (hx:0<=x/\x<(l:Int)):Th zA (setR zA t x):=by
 refine ⟨m.setR h.1 hx.1 hx.2,?_⟩;have:=zNW (t.map λh=>zd zA h x);rw[zXM]at this;exact zXe this h.2
def zC5 (zA:Ya) (G:Yq):Prop:=(∀ t,Th zA t->t.length=1->G t) \/ ∀ t,t.length=1 -> ¬ G t
theorem zCV (m:IsM zA l):∀ (w t:Ye),Th zA t->t.length=1->(∀ x∈w,0<=x/\x<(l:Int))->(zME zA t w).length=1
 |[],_,_,h,_=>h
 |x::w,t,u,h,hw=>by
  have hx:=hw x zXR;have u':=zCN m t x u hx;refine zCV m w (setR zA t x) u' ?_ λy hy=>hw y (zXQ _ hy);have h1:=zNW (t.map λh=>zd zA h x);rw[zXM,h]at h1;have h2:=u'.1.n0;have h3:(setR zA t x).length<=1:=h1;omega
def zGJ (m:IsM zA l) (o:zC5 zA G) (t:Ye) (n:Nat) (u:Th zA t) (g:¬ G t) (r:Rch zA l G t n):t∈zK (zF zA):=by
 refine zG9 t u λh1=>?_;rcases o with o|o
 .exact g (o t u h1)
 .obtain ⟨w,_,hw,hg⟩:=r;exact o _ (zCV m w t u h1 hw) hg
def zLT (m:IsM zA l) (o:zC5 zA G) (h:zHl zA l G (Th zA) k fd lev):zHl zA l G (Th zA) (k+1) (zB5 (zD8 zA l) (k:Int) lev (fd,[])).1 (zB5 (zD8 zA l) (k:Int) lev (fd,[])).2 :=
 zOl (P:=λt=>t∈zK (zF zA)) zSo zBH (zGJ m o) (zCN m) h
def zPW (hts:∀ t,t∈ts ↔ Th zA t/\G t) (h:∀ t d,zG fd t=some d ↔ t∈ts/\d=.int 0):zHl zA l G (Th zA) 0 fd ts:=by
 have key:∀ t,t∈ts ↔ Th zA t/\Dst zA l G t 0:=λt=>by rw[zBM,hts]
 refine ⟨λt d=>?_,key⟩;rw[h t d,key t];constructor
 .rintro ⟨⟨a,b⟩,rfl⟩;exact ⟨a,0,zXJ _,b,by simp⟩
 .rintro ⟨a,n,hn,b,rfl⟩;have:n=0:=by omega
  subst this;exact ⟨⟨a,b⟩,by simp⟩
abbrev One (t:Ye):Prop:=t.length=1
def zRf (t:Ye):t∈(zF zA).map (λr=>[r]) ↔ Th zA t/\One t:=by
 rw[zXU];constructor
 .rintro ⟨r,hr,rfl⟩;have:=zDU.mp hr;refine ⟨⟨⟨by simp,by simp,λx hx=>?_⟩,by simp⟩,rfl⟩;rw[zXf]at hx;subst hx;exact this
 .rintro ⟨⟨s,_⟩,h1⟩;obtain ⟨r,rfl⟩:=List.length_eq_one_iff.mp h1;exact ⟨r,zDU.mpr (s.mem r (by simp)),rfl⟩
def zSA:zC5 zA One:=.inl λ_ _ h=>h
def whole (m:IsM zA l) (h:zHl zA l G (Th zA) k fd []) (t:Ye) (d:D):zG fd t=some d ↔ Th zA t /\ ∃ n:Nat,Dst zA l G t n/\d=.int (n:Int):=zPf (zCN m) h t d
theorem zGH {α:Type} [DecidableEq α]:∀ (xs ys:List α),xs.Nodup->(∀ x∈xs,x∈ys)->xs.length<=ys.length
 |[],_,_,_=>zXz _
 |x::r,ys,h,hm=>by
  obtain ⟨h1,h2⟩:=zYX.mp h;have hx:x∈ys:=hm x zXR;have:=zGH r (ys.erase x) h2 λy hy=>(List.mem_erase_of_ne (λz=>h1 (by rw[<-z];exact hy))).mpr (hm y (zXQ _ hy));rw[List.length_erase_of_mem hx]at this;have:=List.length_pos_of_mem hx;simp only[zXk];omega
theorem zEd:∀ {T:List (List Int × D)} {g:Ye},(zG T g).isSome=true ↔ g∈T.map (·.1)
 |[],g=>by simp[zG]
 |q::r,g=>by
  unfold zG;by_cases h:q.1=g
  .simp[h]
  .rw[zXV h,zEd (T:=r)];simp only[zXW,zXP];constructor
   .exact .inr
   .rintro (z|z)
    .exact absurd z.symm h
    .exact z
structure Sz (n:Nat) (st:Fd):Prop where
 ks:(st.1.map (·.1)).Nodup
 nd:st.2.Nodup
 sub:∀ t∈st.2,t∈st.1.map (·.1)
 len:st.1.length=n+st.2.length
def zSd {n:Nat} {st:Fd} (k:Int) (p:Ye) (h:Sz n st):Sz n (zBJ k st p):=by
 unfold zBJ;by_cases q:(zG st.1 p).isSome=true
 .rw[zXS q];exact h
 .rw[zXV q];have hn:zG st.1 p=none:=by
   cases e:zG st.1 p with
   |none=>rfl
   |some d=>rw[e]at q;simp at q
  have hk:p∉st.1.map (·.1):=λz=>q (zEd.mpr z);have e:zCU st.1 p (.int k)=st.1++[(p,.int k)]:=by unfold zCU;rw[hn]
  rw[e];refine ⟨?_,?_,?_,?_⟩
  .rw[zX5,zYR];refine ⟨h.ks,by simp,λa ha b hb=>?_⟩;simp at hb;subst hb;intro z;subst z;exact hk ha
  .rw[zYR];refine ⟨h.nd,by simp,λa ha b hb=>?_⟩;simp at hb;subst hb;intro z;subst z;exact hk (h.sub _ ha)
  .intro t ht;rw[zX5,zXd];rcases zXd.mp (show t∈st.2++[p]from ht)with z|z
   .exact .inl (h.sub t z)
   .right;simpa using z
  .rw[zXT,zXT,h.len];simp;omega
theorem zG6 (src:Y1) (k:Int):∀ (gs:Ya) {st:Fd},Sz n st->Sz n (zB5 src k gs st)
 |[],st,h=>h
 |g::r,st,h=>by
  refine zG6 src k r ?_;have:∀ (ps:Ya) {st:Fd},Sz n st->Sz n (ps.foldl (zBJ (k+1)) st):=by
   intro ps;induction ps with
   |nil=>intro st h;exact h
   |cons p ps ih=>intro st h;exact ih (zSd (k+1) p h)
  exact this _ h
def zOB (k:Int) (st:Fd) (p:Ye):st.1.length<=(zBJ k st p).1.length:=by
 unfold zBJ;split
 .exact zXJ _
 .unfold zCU;cases zG st.1 p <;> simp
theorem zI8 (src:Y1) (k:Int):∀ (gs:Ya) (st:Fd),st.1.length<=(zB5 src k gs st).1.length
 |[],st=>zXJ _
 |g::r,st=>by
  have h1:∀ (ps:Ya) (st:Fd),st.1.length<=(ps.foldl (zBJ (k+1)) st).1.length:=by
   intro ps;induction ps with
   |nil=>intro st;exact zXJ _
   |cons p ps ih=>intro st;exact zXe (zOB (k+1) st p) (ih _)
  exact zXe (h1 (src g) st) (zI8 src k r _)
def zF3 (h:zHl zA l G (Th zA) k fd lev) (hk:(fd.map (·.1)).Nodup):fd.length<=zA.length+zA.length*zA.length:=by
 have hr:(zF zA).length=zA.length:=by unfold zF;simp
 have h1:=zGH (fd.map (·.1)) ((zF zA).map (λr=>[r])++zK (zF zA)) hk λt ht=>by
  have hs:=zEd.mpr ht;cases e:zG fd t with
  |none=>rw[e]at hs;cases hs
  |some d=>
   obtain ⟨u,_⟩:=(h.1 t d).mp e;rw[zXd];by_cases h1:t.length=1
   .obtain ⟨r,rfl⟩:=List.length_eq_one_iff.mp h1;exact .inl (zXU.mpr ⟨r,zDU.mpr (u.1.mem r (by simp)),rfl⟩)
   .exact .inr (zG9 t u h1)
 have h2:=zBe (zF zA);rw[zXM,zXT,zXM,hr]at h1;rw[hr]at h2;omega
def zVL (h:f σ M=some (.dat (.ref j),M)) (hj:M[j]?=some (.lst xs)):zPS f σ M=some (!xs.isEmpty,M):=by
 unfold zPS;rw[h];dsimp only;rw[za hj]
def zTP (zA:Ya) (l:Nat) (g:Ye):(zD8 zA l g).length<=zA.length*zA.length*l:=by
 unfold zD8 zDE;rw[zXM];refine zXe (zZX _ _) ?_;rw[zHa];have:=zBe (zF zA);have hr:(zF zA).length=zA.length:=by unfold zF;simp
 rw[hr]at this;exact Nat.mul_le_mul_right l this
def zQW (m:IsM zA l) (oa:zC5 zA G) (hR:zA.length<=26) (hl:l<=12) (h1:jf<M0.length) (hd:M0[jd]?=some (dT Ts)) (d1:jd≠jf) (hs:∀ g,(∃ j,zG Ts g=some (.ref j)/\j≠jf/\M0[j]?=some (.lst ((zD8 zA l g).map tI)))\/(zG Ts g=none/\zD8 zA l g=[])) (hf:M0[jf]?=some (dT fd)) (hv:M0[jl]?=some (.lst (lev.map tI))) (l1:jl≠jf) (inv:zHl zA l G (Th zA) 0 fd lev) (nk:(fd.map (·.1)).Nodup) (nl:lev.length<=fd.length) :
  OkS (zBf (zPS (zC 3)) (zX (zq 6 (zAb zH)) (zX (zBw (zu (zC 3)) (gN 5) (zBw (zu (zBG (zC 2) (zC 5) (zAb zH))) (gN 7) (sIf (tst (fOp (zAe true) (zC 7) (zC 4))) (zX (zBn (fOp zAI (fOp zp (zC 4) (zC 5)) (fC (.int 1))) (zC 4) (zC 7)) (zAk (fM zr (zC 6) (zD (toD (zC 7)) zH)))) zBB))) (zq 3 (zC 6)))) 1000 [some (mD zA),x1,some (.ref jd),some (.ref jl),some (.ref jf),y5,y6,y7] M0)
   λo σ' M'=>o=.nx/\(∃ y3 y5 y6 y7,σ'=[some (mD zA),x1,some (.ref jd),y3,some (.ref jf),y5,y6,y7])/\(∃ fd',M'[jf]?=some (dT fd')/\fd'.length<=702 /\ ∀ t d,zG fd' t=some d ↔ Th zA t /\ ∃ n:Nat,Dst zA l G t n/\d=.int (n:Int))/\M0.length<=M'.length /\ ∀ j,j<M0.length->j≠jf->M'[j]?=M0[j]?:=by
 have hN:zA.length+zA.length*zA.length<=702:=by
  have:=zYp hR hR;omega
 have hB:zA.length*zA.length*l<=8112:=zYp (zYp hR hR) hl;refine zDO (I:=λz σ M=>∃ (jl:Nat) (y5 y6 y7:Option D) (k:Nat) (fd:List (List Int × D)) (lev:Ya),σ=[some (mD zA),x1,some (.ref jd),some (.ref jl),some (.ref jf),y5,y6,y7]/\M[jf]?=some (dT fd)/\M[jl]?=some (.lst (lev.map tI))/\jl≠jf/\zHl zA l G (Th zA) k fd lev/\(fd.map (·.1)).Nodup/\lev.length<=fd.length/\M0.length<=M.length/\(∀ j,j<M0.length->j≠jf->M[j]?=M0[j]?)/\z=(702-fd.length)+(if lev.isEmpty then 0 else 1)) ?_ 1000 ((702-fd.length)+(if lev.isEmpty then 0 else 1)) _ _ (by split <;> omega) ⟨jl,y5,y6,y7,0,fd,lev,rfl,hf,hv,l1,inv,nk,nl,zXJ _,λ_ _ _=>rfl,rfl⟩;rintro z σ M ⟨jl,y5,y6,y7,k,fd,lev,rfl,hf,hv,l1,inv,nk,nl,hlen,fr,rfl⟩;have hfl:=zXe (zF3 inv nk) hN;refine zE (M:=M) (a:=!(lev.map tI).isEmpty) (zVL rfl hv) ?_;cases lev with
 |nil=>
  exact ⟨rfl,⟨_,_,_,_,rfl⟩,⟨fd,hf,hfl,whole m inv⟩,hlen,fr⟩
 |cons g0 lev0=>
  show OkS (zX _ _ [some (mD zA),x1,some (.ref jd),some (.ref jl),some (.ref jf),y5,y6,y7] M) _;generalize hlv:g0::lev0=lev at *;have hne0:lev.isEmpty=false:=by rw[<-hlv];rfl
  rw[zI,zT];refine zE (M:=M) (a:=.fl []) (by unfold zAb zH;dsimp only;rw[zXS (zY (by simp))]) ?_;rw[zKH,zM,zI,zAs];have fl:=(zXG.mp hf).1;have vl:=(zXG.mp hv).1;have up:∀ {j:Nat},j<M.length->(M++[MO.lst ([]:List D)])[j]?=M[j]?:=λh=>zXK h;have dl:=(zXG.mp hd).1;refine ⟨_,_,_,(show zu (zC 3) [some (mD zA),x1,some (.ref jd),some (.ref jl),some (.ref jf),y5,some (.ref M.length),y7] (M++[.lst []])=some (lev.map tI,zCq (.dat (.ref jl)) (lev.map tI),M++[.lst []]) by
   unfold zu;rw[show zC 3 [some (mD zA),x1,some (.ref jd),some (.ref jl),some (.ref jf),y5,some (.ref M.length),y7] (M++[.lst []])=some (.dat (.ref jl),M++[.lst []])from rfl];dsimp only;rw[za ((up vl).trans hv)]),?_⟩
  have sz0:Sz fd.length (fd,([]:List (List Int))):=⟨nk,by simp,(λt h=>by cases h),by simp⟩;have szw:Sz fd.length (zB5 (zD8 zA l) (k:Int) lev (fd,[])):=zG6 _ _ lev sz0;have hflw:=zXe (zF3 (zLT m oa inv) szw.ks) hN;refine OkS.mono (zSN (k:=(k:Int)) (src:=zD8 zA l) (st:=(fd,[])) (Ts:=Ts) (by omega) (by simp;omega) (by simp) ((up (by omega)).trans ((fr _ dl d1).trans hd)) d1 (by omega) ((up vl).trans hv) l1 (by omega) ?_ 8112 (λg _=>zXe (zTP zA l g) hB) ?_ 702 (by omega) (λus vs e=>?_) ⟨(up fl).trans hf,by simp,zXJ _,λ_ _ _ _=>rfl⟩) ?_
  .intro g;rcases hs g with ⟨j,e,q1,q2⟩|q
   .have jl':=(zXG.mp q2).1;exact .inl ⟨j,e,q1,by omega,(up (by omega)).trans ((fr _ jl' q1).trans q2)⟩
   .exact .inr q
  .intro g hg;obtain ⟨u,hd'⟩:=(inv.2 g).mp hg;exact (inv.1 g _).mpr ⟨u,k,zXJ _,hd',rfl⟩
  .have h3:=zI8 (zD8 zA l) (k:Int) vs (zB5 (zD8 zA l) (k:Int) us (fd,[]));have h4:zB5 (zD8 zA l) (k:Int) vs (zB5 (zD8 zA l) (k:Int) us (fd,[]))=zB5 (zD8 zA l) (k:Int) lev (fd,[]):=by rw[e];unfold zB5;rw[zZB]
   rw[h4]at h3;have h5:=(zG6 (zD8 zA l) (k:Int) us sz0).len;omega
  .rintro o σ' M' ⟨rfl,⟨y5,y7,rfl⟩,lv⟩;rw[zM,zT];refine zE (M:=M') (a:=.dat (.ref M.length)) rfl ?_;rw[zL];have sz:Sz fd.length (zB5 (zD8 zA l) (k:Int) lev (fd,[])):=zG6 _ _ lev ⟨nk,by simp,(λt h=>by cases h),by simp⟩;have inv':=zLT m oa inv;generalize zB5 (zD8 zA l) (k:Int) lev (fd,[])=st at lv sz inv';have hfl':=zXe (zF3 inv' sz.ks) hN;have hsl:=sz.len;refine ⟨(702-st.1.length)+(if st.2.isEmpty then 0 else 1),?_,M.length,y5,_,y7,k+1,st.1,st.2,rfl,lv.f,lv.b,by omega,inv',sz.ks,by omega,?_,?_,rfl⟩
   .rw[hne0];cases e:st.2 with
    |nil=>simp;omega
    |cons a r=>rw[e]at hsl;simp at hsl ⊢;omega
   .have:=lv.len;simp at this;omega
   .intro j hj hjf;rw[lv.fr j (by simp;omega) hjf (by omega),up (by omega)];exact fr j hj hjf
def zOP {M:Mem} {ts:Ya} (hf:f σ M=some (.dat (.ref jl),M)) (hj:M[jl]?=some (.lst (ts.map tI))) (nd:ts.Nodup) (hz:ts.length<=80000) (hg:∀ a,gN i a (zBN own σ)=some ((zBN own σ).set i (some a))) (hs:∀ (a:D) M',zC i ((zBN own σ).set i (some a)) M'=some (.dat a,M')) :
  zC7 true own (zu f) (gN i) zv (zC i) (fC (.int 0)) σ M=some (.dat (.ref M.length),M++[dT (ts.map λt=>(t,.int 0))]):=by
 have hjl:=(zXG.mp hj).1;unfold zC7 zu;rw[hf];dsimp only;rw[za hj];dsimp only;have loop:∀ (r q:Ya),q++r=ts->zCi (gN i) zv (zC i) (fC (.int 0)) (zBN own σ) M.length (ts.map tI) (zCq (.dat (.ref jl)) (ts.map tI)) (r.map tI) (M++[dT (q.map λt=>(t,.int 0))])=some (M++[dT (ts.map λt=>(t,.int 0))]):=by
  intro r;induction r with
  |nil=>intro q e;rw[zXx]at e;subst e;exact zJI (.inl (by rw[zXK hjl];exact hj))
  |cons x r ih=>
   intro q e;have hx:x∉q:=λz=>by
    rw[<-e,zYR]at nd;exact nd.2.2 x z x zXR rfl
   have hl:q.length<90000:=by have:=zY0 List.length e;simp at this;omega
   have hk:zG (q.map λt=>(t,D.int 0)) x=none:=by
    cases e2:zG (q.map λt=>(t,D.int 0)) x with
    |none=>rfl
    |some d=>
     have:=zEd.mp (show (zG (q.map λt=>(t,D.int 0)) x).isSome=true by rw[e2];rfl);rw[zXb]at this;obtain ⟨y,hy,rfl⟩:=zXU.mp this;exact absurd hy hx
   have hgd:zBA (zCq (.dat (.ref jl)) (ts.map tI)) (ts.map tI) (M++[dT (q.map λt=>(t,.int 0))]):=.inl (by rw[zXK hjl];exact hj);rw[zXW,zMH (σ1:=(zBN own σ).set i (some (tI x))) (k:=tI x) (v:=.int 0) (M':=M++[dT ((q++[x]).map λt=>(t,.int 0))]) hgd (hg _) (hs _ _) rfl]
   .exact ih (q++[x]) (by rw[<-e];simp)
   .rw[zJS (T:=q.map λt=>(t,.int 0)) (by simp) (by rw[zXM];exact hl)];unfold zCU;rw[hk];simp
 have:=loop ts [] rfl;rw[show zFE true=dT []from rfl];rw[show (([]:List (List Int)).map λt=>(t,D.int 0))=[]from rfl]at this;rw[this]
def zEz {zA:Ya} (m:IsM zA l) (oa:zC5 zA G) (hR:zA.length<=26) (hl:l<=12) {M:Mem} {ts:Ya} (hj:M[jg]?=some (.lst (ts.map tI))) (nd:ts.Nodup) (hts:∀ t,t∈ts ↔ Th zA t/\G t) (hz:ts.length<=80000):Ok (zBS [mD zA,.ref jg] M) λd M'=>∃ jf,d=.ref jf/\M.length<=jf/\(∃ fd,M'[jf]?=some (dT fd)/\fd.length<=702 /\ ∀ t d,zG fd t=some d ↔ Th zA t /\ ∃ n:Nat,Dst zA l G t n/\d=.int (n:Int))/\M.length<=M'.length /\ ∀ j,j<M.length->M'[j]?=M[j]?:=by
 have hjl:=(zXG.mp hj).1;unfold zBS;rw[zAE];unfold zDc;rw[zI,zT];refine zAj.mpr (zE (zc rfl) (Ok.mono (zSu m (by omega) hl) ?_));rintro d M1 ⟨rfl,sr,h1,fr⟩;rw[zL,zM];refine zC8 (d:=.ref jg) rfl ?_;have hj1:=(fr _ hjl).trans hj;rw[zI,zT];refine zE (zOP (jl:=jg) (ts:=ts) rfl hj1 nd hz (λ_=>rfl) (λ_ _=>rfl)) ?_;rw[zL,zM];obtain ⟨T,ed,hT,a1,a2,a3⟩:=sr.ex;have up:∀ {j:Nat} {u:MO},M1[j]?=some u->(M1++[dT (ts.map λt=>(t,D.int 0))])[j]?=some u:=λ{j u} h=>by rw[zXK (zXG.mp h).1];exact h
 have ed':=(zXG.mp ed).1;rw[zI];refine OkS.mono (zQW (jf:=M1.length) (jd:=M.length) (jl:=jg) (Ts:=T) (lev:=ts) (fd:=ts.map λt=>(t,D.int 0)) m oa hR hl (by simp) (up ed) (by omega) ?_ (by simp) (up hj1) (by omega) (zPW hts ?_) ?_ (by simp)) ?_
 .intro g;cases e:zG T g with
  |none=>exact .inr ⟨rfl,a2 g e⟩
  |some d=>
   obtain ⟨j,rfl,q1,q2⟩:=a1 g d e;have:=(zXG.mp q2).1;exact .inl ⟨j,rfl,by omega,up q2⟩
 .intro t d;have gen:∀ (ts:Ya),zG (ts.map λt=>(t,D.int 0)) t=some d ↔ t∈ts/\d=.int 0:=by
   intro ts;induction ts with
   |nil=>simp[zG]
   |cons x r ih=>
    rw[zXW,zG];by_cases q:x=t
    .subst q;simp[eq_comm]
    .rw[zXV q,ih,zXP];constructor
     .rintro ⟨z1,z2⟩;exact ⟨.inr z1,z2⟩
     .rintro ⟨z1|z1,z2⟩
      .exact absurd z1.symm q
      .exact ⟨z1,z2⟩
  exact gen _
 .rw[zXb];rw[show ((λ(x:List Int × D)=>x.1)∘λ(t:Ye)=>(t,D.int 0))=id from rfl,List.map_id];exact nd
 .rintro o σ' M' ⟨rfl,⟨y3,y5,y6,y7,rfl⟩,⟨fd,e1,e2,e3⟩,hlen,fr'⟩;rw[zM];rw[zXT]at hlen fr';refine zAZ (d:=.ref M1.length) rfl ⟨M1.length,rfl,by omega,⟨fd,e1,e2,e3⟩,by omega,λj hj=>?_⟩;rw[fr' j (by omega) (by omega),zXK (by omega)];exact fr j hj
def zGP:FS:=(zAS (zP zBS (zD (toD (zC 0)) (zD (toD (zi [1] (zAA (zD (toD (fB zAX (zQ (zC 0) ze))) zH)) (gN 1) zv (zAd (zD (toD (zC 1)) zH)))) zH))))
def zDR:FF:=zBV 2 zGP
def zMS (m:IsM zA l) (hR:zA.length<=26) (hl:l<=12):Ok (zDR [mD zA] M) λd M'=>∃ jf,d=.ref jf/\M.length<=jf/\(∃ fd,M'[jf]?=some (dT fd)/\fd.length<=702 /\ ∀ t d,zG fd t=some d ↔ Th zA t /\ ∃ n:Nat,Dst zA l One t n/\d=.int (n:Int))/\M.length<=M'.length /\ ∀ j,j<M.length->M'[j]?=M[j]?:=by
 unfold zDR;rw[zAE];unfold zGP;have er:zAA (zD (toD (fB zAX (zQ (zC 0) ze))) zH) [some (mD zA),none] M=some ((List.range zA.length).map (λ(k:Nat)=>D.int k),none,M):=by
  rw[zBt (j:=(zA.length:Int)) (zCF rfl) (by omega) (by omega),zHQ];rw[show (zA.length:Int).toNat=zA.length by omega]
 have ec:zi [1] (zAA (zD (toD (fB zAX (zQ (zC 0) ze))) zH)) (gN 1) zv (zAd (zD (toD (zC 1)) zH)) [some (mD zA),none] M=some (.fl ((List.range zA.length).map λ(k:Nat)=>tI [(k:Int)]),M) :=
  zAg (List.range zA.length) (λ(k:Nat)=>D.int k) (λ(k:Nat)=>tI [(k:Int)]) er trivial (by rw[zZA];omega) λk _=>⟨_,rfl,rfl⟩
 have el:((List.range zA.length).map λ(k:Nat)=>tI [(k:Int)])=((zF zA).map λr=>[r]).map tI:=by
  unfold zF;rw[zXb,zXb];rfl
 rw[el]at ec;rw[zBI];refine zAj.mpr (zy.mpr (zAY.mpr (zAa.mpr ⟨_,rfl,?_⟩)));rw[zL];refine zy.mpr (zAY.mpr (zE ec ?_));rw[zKH,zAh];refine Ok.mono (zEz m zSA hR hl (jg:=M.length) (ts:=(zF zA).map λr=>[r]) (by simp) ?_ zRf ?_) ?_
 .unfold zF;rw[zXb];exact List.pairwise_map.mpr (List.Pairwise.imp (λ{a b} h z=>h (by simp at z;omega)) List.nodup_range)
 .unfold zF;simp;omega
 rintro d M' ⟨jf,rfl,h1,h2,h3,h4⟩;rw[zL];rw[zXT]at h1 h3 h4;refine ⟨jf,rfl,by omega,h2,by omega,λj hj=>?_⟩;rw[h4 j (by omega),zXK hj]
set_option genInjectivity true in
inductive Climb (zA:Ya) (l:Nat) (G:Yq):List Int->List Int->Prop
 |nil {t:Ye}:G t->Climb zA l G t []
 |cons {t:Ye} {x:Int} {w:Ye} {n:Nat}:Dst zA l G t (n+1)->0<=x->x<(l:Int)->Dst zA l G (setR zA t x) n->(∀ y,0<=y->y<x -> ¬ Dst zA l G (setR zA t y) n)->Climb zA l G (setR zA t x) w->Climb zA l G t (x::w)
theorem zJA:∀ {w t:Ye} {n:Nat},Climb zA l G t w->Dst zA l G t n->w.length=n
 |[],_,_,.nil h,d=>by have:=zAw (zBM.mpr h) d;simpa using this
 |x::w,_,n,.cons (n:=a) d1 _ _ e1 _ c1,d=>by
  have h1:=zJA c1 e1;have h2:=zAw d1 d;rw[zXk];omega
def zKa {P:Int->Prop}:∀ (k:Nat),P (k:Int) -> ∃ x:Nat,x<=k/\P (x:Int) /\ ∀ y:Int,0<=y->y<(x:Int) -> ¬ P y:=by
 intro k;induction k using Nat.strongRecOn with
 |ind k ih=>
  intro h;by_cases q:∃ j:Nat,j<k/\P (j:Int)
  .obtain ⟨j,hj,hp⟩:=q;obtain ⟨x,h1,h2,h3⟩:=ih j hj hp;exact ⟨x,by omega,h2,h3⟩
  .refine ⟨k,zXJ _,h,λy y0 y1 hp=>q ⟨y.toNat,by omega,?_⟩⟩;rw[show ((y.toNat:Nat):Int)=y by omega];exact hp
theorem zFb:∀ (n:Nat) {t:Ye},Dst zA l G t n -> ∃ w,Climb zA l G t w
 |0,t,d=>⟨[],.nil (zBM.mp d)⟩
 |n+1,t,d=>by
  obtain ⟨_,x,hx,hd⟩:=zDF.mp d;obtain ⟨y,h1,h2,h3⟩:=zKa (P:=λx=>Dst zA l G (setR zA t x) n) x.toNat (by rw[show ((x.toNat:Nat):Int)=x by omega];exact hd);obtain ⟨w,hw⟩:=zFb n h2;exact ⟨(y:Int)::w,.cons d (by omega) (by omega) h2 h3 hw⟩
end Lac
namespace Lac
open PySem PySem.Spec PyProof.Rows L2 L3 ST Law
def aC' {f:FE} {g:FA} {σ:Sd} {M M1 M2:Mem} {d:D} {ds:List D} (h:toD f σ M=some (d,M1)) (hg:g σ M1=some (ds,M2)):zD (toD f) g σ M=some (d::ds,M2):=by
 unfold zD;rw[h];dsimp only;rw[hg]
def zER (h:f σ M=some (.dat d,M)):toD f σ M=some (d,M):=by unfold toD;rw[h]
def zTZ {M M1:Mem} (h:f σ M=some (.fl xs,M1)):toD f σ M=some (.ref M1.length,M1++[.lst xs]):=by unfold toD;rw[h]
def zPR {g:FA} {σ:Sd} {M M1:Mem} {ds:List D} (h:g σ M=some (ds,M1)) (hz:ds.length<=100000):zAb g σ M=some (.fl ds,M1):=by
 unfold zAb;rw[h];dsimp only;rw[zXS (zY hz)]
def zHO {g:FA} {σ:Sd} {M M1:Mem} {ds:List D} (h:g σ M=some (ds,M1)) (hz:ds.length<=100000):zAd g σ M=some (.dat (.tup ds),M1):=by
 unfold zAd;rw[h];dsimp only;rw[zXS (zY hz)]
def zSh (hf:f σ M=some (.dat (.int i),M)) (hg:g σ M=some (.dat (.int j),M)):fB zLf (zQ f (zQ g ze)) σ M=some (.dat (.int (if j>i then j else i)),M):=by
 unfold fB zQ ze;rw[hf];dsimp only;rw[hg];rfl
theorem zHj {α:Type} [DecidableEq α]:∀ (a b:List α),a.Nodup->(∀ x∈a,x∈b)->a.length<=b.length
 |[],_,_,_=>zXz _
 |x::r,b,h,s=>by
  rw[zYX]at h;have hx:=s x zXR;have:=zHj r (b.erase x) h.2 λy hy=>(List.mem_erase_of_ne (λe=>h.1 (by rw[<-e];exact hy))).mpr (s y (zXQ _ hy));rw[List.length_erase_of_mem hx]at this;have:0<b.length:=List.length_pos_of_mem hx;simp only[zXk];omega
structure Bm (B M:Mem) (jF jR:Nat) (T:TB):Prop where
 f:M[jF]?=some (dT (zAU T))
 r:M[jR]?=some (.lst ((T.map (·.1)).map tI))
 len:B.length<=M.length
 fr:∀ j,j<B.length->j≠jF->j≠jR->M[j]?=B[j]?
 wf:∀ (j:Nat) u,B.length<=j->M[j]?=some u->u=.lst []
def Bm.new (h:Bm B M jF jR T):Bm B (M++[.lst []]) jF jR T:=by
 have hf:=(zXG.mp h.f).1;have hr:=(zXG.mp h.r).1;have hl:=h.len;refine ⟨by rw[zXK hf];exact h.f,by rw[zXK hr];exact h.r,by simp;omega,λj hj a b=>by rw[zXK (by omega)];exact h.fr j hj a b,λj u hj e=>?_⟩;rcases zYZ j M.length with z|z
 .rw[zXK z]at e;exact h.wf j u hj e
 .have:=(zXG.mp e).1;rw[zXT,zaS]at this;have:j=M.length:=by omega
  subst this;rw[zS]at e;cases e;rfl
def zLg (h:p∉T.map (·.1)):zCU (zAU T) p (.int w)=zAU (T++[(p,w)]):=by
 unfold zCU;rw[zFB h];simp[zAU]
def zTN {B M:Mem} {jF jR:Nat} {T:TB} (h:Bm B M jF jR T) (nd:(T.map (·.1)).Nodup) (hFB:jF<B.length) (hRB:jR<B.length) (n1:jF≠jR) (hz:T.length<=900) {i:Nat} {q p:Ye} {u:Int} (hi:T[i]?=some (q,u)) {σ:Sd}
  (v3:∀ M,zC 3 σ M=some (.dat (tI p),M)) (v6:∀ M,zC 6 σ M=some (.dat (.ref jF),M)) (v8:∀ M,zC 8 σ M=some (.dat (.ref jR),M)) (v9:∀ M,zC 9 σ M=some (.dat (.int (i:Int)),M)) :
  OkS (sIf (tst (fOp (zAe true) (zC 3) (zC 6))) (zX (zBn (fOp zAI (fOp zp (zC 6) (fOp kIx (zC 8) (zC 9))) (fC (.int 1))) (zC 6) (zC 3)) (zAk (fM zr (zC 8) (zD (toD (zC 3)) zH)))) zBB σ M)
   λo σ' M'=>o=.nx/\σ'=σ/\Bm B M' jF jR (zHT (u+1) T p) /\ ∀ j,j≠jF->j≠jR->M'[j]?=M[j]?:=by
 rw[zA1];refine zE (M:=M) (a:=!(zG (zAU T) p).isSome) (zo (zJ (v3 M) (v6 M) (zHo h.f))) ?_;rw[zFj nd];by_cases hp:p∈T.map (·.1)
 .rw[zYL hp,zXV (by simp),zAi];exact ⟨rfl,rfl,by rw[show zHT (u+1) T p=T from zXS hp];exact h,λ_ _ _=>rfl⟩
 .rw[zXm hp,zXS (by simp),show zHT (u+1) T p=T++[(p,u+1)]from zXV hp];have hf:=(zXG.mp h.f).1;have hr:=(zXG.mp h.r).1;have eq:fOp zp (zC 6) (fOp kIx (zC 8) (zC 9)) σ M=some (.dat (.int u),M):=by
   refine zJ (v6 M) (zJ (v8 M) (v9 M) (zAx (za h.r) (zKQ (d:=tI q) (by rw[zXa,zXa,hi];rfl)))) ?_;exact zE0 h.f (zJE nd (zX4 hi))
  rw[zI];refine ⟨.nx,σ,M.set jF (dT (zAU (T++[(p,u+1)]))),?_,?_⟩
  .unfold zBn;rw[zER (zJ (k:=zAI) (r:=some (.dat (.int (u+1)),M)) eq (rfl:fC (.int 1) σ M=some (.dat (.int 1),M)) rfl)];dsimp only;rw[zER (v6 M)];dsimp only;rw[zER (v3 M)];dsimp only;rw[zJS h.f (by unfold zAU;rw[zXM];omega),zLg hp]
  rw[zM,zBC];have er:(M.set jF (dT (zAU (T++[(p,u+1)]))))[jR]?=some (.lst ((T.map (·.1)).map tI)):=by rw[zXh n1];exact h.r
  refine zFz.mpr (zE (v8 _) ⟨⟨_,zAJ er⟩,zE (zc (v3 _)) ?_⟩);rw[zBZ er (by rw[zXM,zXM];exact zXc (m:=95000) (by omega) (zY (by omega)))];refine ⟨rfl,rfl,⟨by rw[zXh (Ne.symm n1),zX7 hf],?_,by simpa using h.len,λj hj a b=>by rw[zXh (Ne.symm b),zXh (Ne.symm a)];exact h.fr j hj a b,λj w hj e=>?_⟩,λj a b=>by rw[zXh (Ne.symm b),zXh (Ne.symm a)]⟩
  .rw[zX7 (by rw[zZW];exact hr)];simp
  .rw[zXh (by omega),zXh (by omega)]at e;exact h.wf j w hj e
def zRP (w:Int) (ps:Ya) (T:TB) {i:Nat} {x:List Int × Int} (h:T[i]?=some x):(ps.foldl (zHT w) T)[i]?=some x:=by
 obtain ⟨new,e,_⟩:=zB0 w ps T;rw[e,zXK (zXG.mp h).1];exact h
def zNP {U:Ya} (w:Int) (ps:Ya) (hp:∀ p∈ps,p∈U) (T:TB) (hT:∀ p∈T.map (·.1),p∈U):∀ p∈(ps.foldl (zHT w) T).map (·.1),p∈U:=by
 obtain ⟨new,e,h1,_⟩:=zB0 w ps T;intro p z;rw[e,zX5,zXd]at z;rcases z with z|z
 .exact hT p z
 .rw[zXb]at z;obtain ⟨y,hy,rfl⟩:=zXU.mp z;exact hp _ (h1 y hy).1
def zSm (w:Int) (ps:Ya) (T:TB) (nd:(T.map (·.1)).Nodup):((ps.foldl (zHT w) T).map (·.1)).Nodup:=by
 obtain ⟨new,e,h1,h2,_⟩:=zB0 w ps T;rw[e,zX5,zYR];refine ⟨nd,?_,λa ha b hb=>?_⟩
 .rw[zXb,show ((λ(x:List Int × Int)=>x.1)∘λ(t:Ye)=>(t,w))=id from rfl,List.map_id];exact h2
 .rw[zXb,show ((λ(x:List Int × Int)=>x.1)∘λ(t:Ye)=>(t,w))=id from rfl,List.map_id]at hb;intro z;subst z;exact (h1 a hb).2 ha
abbrev bvS (zA:Ya) (x1:Option D) (jA:Nat) (y3 y4 y5:Option D) (jF:Nat) (y7:Option D) (jR:Nat) (i:Nat):Sd:=[some (mD zA),x1,some (.ref jA),y3,y4,y5,some (.ref jF),y7,some (.ref jR),some (.int (i:Int))]
def zOO {zA:Ya} {src:Y1} {goals U:Ya} {B:Mem} {jA jF jR:Nat} {TA:List (List Int × D)} {T:TB} {x1 y3 y4 y5 y7:Option D} (hA:B[jA]?=some (dT TA)) (a1:jA≠jF) (a2:jA≠jR) (n1:jF≠jR) (hFB:jF<B.length) (hRB:jR<B.length)
  (hs:∀ g,(∃ j,zG TA g=some (.ref j)/\j≠jF/\j≠jR/\B[j]?=some (.lst ((src g).map tI)))\/(zG TA g=none/\src g=[])) (hb:Bm B B jF jR T) (bi:BI src goals T 0) (hU:∀ g,∀ p∈src g,p∈U) (hT:∀ p∈T.map (·.1),p∈U) (hz:U.length<=800) :
  OkS (zBf (tst (fOp kLt (zC 9) (fB zAX (zQ (zC 8) ze)))) (zX (zBw (zu (zBG (zC 2) (fOp kIx (zC 8) (zC 9)) (zAb zH))) (gN 3) (sIf (tst (fOp (zAe true) (zC 3) (zC 6))) (zX (zBn (fOp zAI (fOp zp (zC 6) (fOp kIx (zC 8) (zC 9))) (fC (.int 1))) (zC 6) (zC 3)) (zAk (fM zr (zC 8) (zD (toD (zC 3)) zH)))) zBB)) (zq 9 (fOp zAI (zC 9) (fC (.int 1))))) 1000 (bvS zA x1 jA y3 y4 y5 jF y7 jR 0) B)
   λo σ' M'=>o=.nx/\(∃ y3 i,σ'=bvS zA x1 jA y3 y4 y5 jF y7 jR i) /\ ∃ T',Bm B M' jF jR T'/\BI src goals T' T'.length /\ ∀ p∈T'.map (·.1),p∈U:=by
 have small:∀ T':TB,(T'.map (·.1)).Nodup->(∀ p∈T'.map (·.1),p∈U)->T'.length<=800:=λT' h1 h2=>by
  have:=zHj _ _ h1 h2;rw[zXM]at this;omega
 refine zDO (I:=λz σ M'=>∃ (T':TB) (i:Nat) (y3:Option D),σ=bvS zA x1 jA y3 y4 y5 jF y7 jR i/\Bm B M' jF jR T'/\BI src goals T' i/\(∀ p∈T'.map (·.1),p∈U)/\i<=T'.length/\z=801-i) ?_ 1000 801 _ _ (by omega) ⟨T,0,y3,rfl,hb,bi,hT,zXz _,rfl⟩;rintro z σ M ⟨T',i,y3,rfl,b,bi,hT',hi,rfl⟩;have h8:=small T' bi.nd hT';have elen:=zBh (f:=zC 8) (σ:=bvS zA x1 jA y3 y4 y5 jF y7 jR i) (M:=M) (x:=.dat (.ref jR)) rfl (za b.r);rw[zXM,zXM]at elen;refine zE (M:=M) (a:=decide ((i:Int)<(T'.length:Int))) (zo (zJ (x:=.dat (.int (i:Int))) rfl elen rfl)) ?_;by_cases hlt:i<T'.length
 .rw[zYL (by omega)];rcases hq:T'[i]with ⟨q,u⟩;have hqi:T'[i]?=some (q,u):=by rw[zXH hlt,hq]
  have hAl:=(zXG.mp hA).1;have eA:M[jA]?=some (dT TA):=(b.fr jA hAl a1 a2).trans hA;have b1:=b.new;have eA1:(M++[MO.lst []])[jA]?=some (dT TA):=by rw[zXK (zXG.mp eA).1];exact eA
  have eq:fOp kIx (zC 8) (zC 9) (bvS zA x1 jA y3 y4 y5 jF y7 jR i) M=some (.dat (tI q),M):=zJ (x:=.dat (.ref jR)) (y:=.dat (.int (i:Int))) rfl rfl (zAx (za b.r) (zKQ (d:=tI q) (by rw[zXa,zXa,hqi];rfl)));have eG:zBG (zC 2) (fOp kIx (zC 8) (zC 9)) (zAb zH) (bvS zA x1 jA y3 y4 y5 jF y7 jR i) M=some (.dat ((zG TA q).getD (.ref M.length)),M++[.lst []]):=by
   unfold zBG;rw[show toD (zC 2) (bvS zA x1 jA y3 y4 y5 jF y7 jR i) M=some (.ref jA,M)from rfl];dsimp only;rw[eA];rw[zER eq];dsimp only;rw[zTZ (zPR (rfl:zH _ M=some ([],M)) (by simp))];dsimp only;rw[dgT eA1]
  obtain ⟨js,ejs,hjF,hjR,el⟩:∃ js,(zG TA q).getD (.ref M.length)=.ref js/\js≠jF/\js≠jR/\(M++[MO.lst []])[js]?=some (.lst ((src q).map tI)):=by
   have hbl:=b.len;rcases hs q with ⟨j,e,z1,z2,z3⟩|⟨e,z⟩
   .have jl:=(zXG.mp z3).1;exact ⟨j,by rw[e];rfl,z1,z2,by rw[zXK (by omega),b.fr j jl z1 z2];exact z3⟩
   .exact ⟨M.length,by rw[e];rfl,by omega,by omega,by rw[zS,z];rfl⟩
  rw[ejs]at eG;rw[zI,zAs];refine ⟨_,_,_,(show zu (zBG (zC 2) (fOp kIx (zC 8) (zC 9)) (zAb zH)) (bvS zA x1 jA y3 y4 y5 jF y7 jR i) M=some ((src q).map tI,zCq (.dat (.ref js)) ((src q).map tI),M++[.lst []]) by unfold zu;rw[eG];dsimp only;rw[za el]),?_⟩;have biT:=zSk bi hqi;refine zAf (I:=λr σ M2=>∃ (us vs:Ya) (y3:Option D),σ=bvS zA x1 jA y3 y4 y5 jF y7 jR i/\src q=us++vs/\r=vs.map tI/\Bm B M2 jF jR (us.foldl (zHT (u+1)) T')/\M2[js]?=some (.lst ((src q).map tI))) ?_ ?_ _ _ _ ⟨[],src q,y3,rfl,rfl,rfl,b1,el⟩
  .rintro x r σ M2 ⟨us,vs,y3,rfl,hab,hr,bm,eS⟩;cases vs with
   |nil=>cases hr
   |cons p vs=>
    rw[zXW]at hr;obtain ⟨rfl,rfl⟩:=zYH hr;refine ⟨.inl eS,_,rfl,?_⟩;have hus:∀ p∈us,p∈U:=λp hp=>hU q p (by rw[hab];exact zYS _ hp);have nd':=zSm (u+1) us T' bi.nd;have sm:=small _ nd' (zNP (u+1) us hus T' hT');refine OkS.mono (zTN (i:=i) (q:=q) (p:=p) (u:=u) (σ:=bvS zA x1 jA (some (tI p)) y4 y5 jF y7 jR i) bm nd' hFB hRB n1 (by omega) (zRP _ _ _ hqi) (λ_=>rfl) (λ_=>rfl) (λ_=>rfl) (λ_=>rfl)) ?_;rintro o σ' M3 ⟨rfl,rfl,bm3,fr3⟩;refine ⟨us++[p],vs,_,rfl,by rw[hab];simp,rfl,by rw[zZB];exact bm3,(fr3 js hjF hjR).trans eS⟩
  .rintro σ M2 ⟨us,vs,y3,rfl,hab,hr,bm,eS⟩;have:vs=[]:=by cases vs with|nil=>rfl|cons _ _=>cases hr
   subst this;rw[zXx]at hab;refine ⟨.inl eS,?_⟩;rw[zM,zT];refine zE (M:=M2) (a:=.dat (.int ((i+1:Nat):Int))) rfl ?_;rw[zL];rw[<-hab]at bm;have hin:=zNP (u+1) (src q) (hU q) T' hT';obtain ⟨new,enew,_⟩:=zB0 (u+1) (src q) T';refine ⟨801-(i+1),by omega,_,i+1,y3,rfl,bm,biT,hin,?_,rfl⟩;rw[enew,zXT];omega
 .rw[zXm (by omega)];have:i=T'.length:=by omega
  subst this;exact ⟨rfl,⟨_,_,rfl⟩,T',b,bi,hT'⟩
def zCz (ps:List (List Int × List Int)) (g:Ye):List (List Int):=(ps.filter λq=>decide (q.2=g)).map (·.1)
def zH4 (ps:List (List Int × List Int)) (p goal g:Ye):zCz (ps++[(p,goal)]) g=zCz ps g++(if goal=g then [p] else []):=by
 unfold zCz;rw[List.filter_append,zX5];congr 1;by_cases h:goal=g
 .rw[zXS h,List.filter_cons_of_pos (by simpa using h)];rfl
 .rw[zXV h,List.filter_cons_of_neg (by simpa using h)];rfl
def zPZ (ps:List (List Int × List Int)) (g p:Ye):p∈zCz ps g ↔ (p,g)∈ps:=by
 unfold zCz;constructor
 .intro h;obtain ⟨⟨a,b⟩,hq,rfl⟩:=zXU.mp h;obtain ⟨h1,h2⟩:=zYO.mp hq;have:b=g:=zX9 h2;rw[<-this];exact h1
 .exact λh=>zXU.mpr ⟨(p,g),zYO.mpr ⟨h,by simp⟩,rfl⟩
structure SrG (M:Mem) (jd lo:Nat) (ps:List (List Int × List Int)):Prop where
 ex:∃ T:List (List Int × D),M[jd]?=some (dT T)/\T.length<=ps.length/\(∀ g d,zG T g=some d -> ∃ j,d=.ref j/\lo<j/\M[j]?=some (.lst ((zCz ps g).map tI)))/\(∀ g,zG T g=none->zCz ps g=[]) /\ ∀ g g' j,zG T g=some (.ref j)->zG T g'=some (.ref j)->g=g'
def zSX {M:Mem} {jd lo:Nat} {ps:List (List Int × List Int)} (hps:ps.length<50000) (hlo:jd<lo) (hlo2:lo<M.length) (sr:SrG M jd lo ps) (hAd:∀ T,M[jd]?=some (dT T) -> ∀ q∈T,∃ j,q.2=.ref j/\j<M.length) {p goal:Ye} {σ:Sd} {i1 i4:Nat} {fk:FE}
  (v1:∀ M,zC i1 σ M=some (.dat (.ref jd),M)) (v6:∀ M,fk σ M=some (.dat (tI goal),M)) (v4:∀ M,zC i4 σ M=some (.dat (tI p),M)) :
  OkS (zAk (fM zr (zB7 (zC i1) fk (zAb zH)) (zD (toD (zC i4)) zH)) σ M) λo σ' M'=>o=.nx/\σ'=σ/\SrG M' jd lo (ps++[(p,goal)])/\(∀ T,M'[jd]?=some (dT T) -> ∀ q∈T,∃ j,q.2=.ref j/\j<M'.length)/\M.length<=M'.length/\(∀ j,j<=lo->j≠jd->M'[j]?=M[j]?) /\ ∀ (j:Nat) u,lo<j->M'[j]?=some u->(∃ ts:List (List Int),u=.lst (ts.map tI))\/M[j]?=some u:=by
 obtain ⟨T,ed,hT,h1,h2,h3⟩:=sr.ex;have jdl:jd<M.length:=(zXG.mp ed).1;have ed':(M++[MO.lst ([]:List D)])[jd]?=some (dT T):=by rw[zXK jdl];exact ed
 have last:∀ (A:Mem) (T':List (List Int × D)) (j:Nat),zB7 (zC i1) fk (zAb zH) σ M=some (.dat (.ref j),A)->A[jd]?=some (dT T')->zG T' goal=some (.ref j)->lo<j->A[j]?=some (.lst ((zCz ps goal).map tI))->T'.length<=ps.length+1->(∀ q∈T',∃ j,q.2=.ref j/\j<A.length)->M.length<=A.length->(∀ j,j<=lo->j≠jd->A[j]?=M[j]?) ->
   (∀ (j:Nat) u,lo<j->A[j]?=some u->(∃ ts:List (List Int),u=.lst (ts.map tI))\/M[j]?=some u) ->
   (∀ g d,zG T' g=some d -> ∃ j,d=.ref j/\lo<j/\A[j]?=some (.lst ((zCz ps g).map tI)))->(∀ g,zG T' g=none->zCz ps g=[])->(∀ g g' j,zG T' g=some (.ref j)->zG T' g'=some (.ref j)->g=g') ->
   OkS (zAk (fM zr (zB7 (zC i1) fk (zAb zH)) (zD (toD (zC i4)) zH)) σ M) λo σ' M'=>o=.nx/\σ'=σ/\SrG M' jd lo (ps++[(p,goal)])/\(∀ T,M'[jd]?=some (dT T) -> ∀ q∈T,∃ j,q.2=.ref j/\j<M'.length)/\M.length<=M'.length/\(∀ j,j<=lo->j≠jd->M'[j]?=M[j]?) /\ ∀ (j:Nat) u,lo<j->M'[j]?=some u->(∃ ts:List (List Int),u=.lst (ts.map tI))\/M[j]?=some u:=by
  intro A T' j hsd ea el hj ej hz hAt hle hfr hkd k1 k2 k3;rw[zBC];have hfl:(zCz ps goal).length<=ps.length:=by unfold zCz;rw[zXM];exact zZX _ _
  have jl:j<A.length:=(zXG.mp ej).1;refine zFz.mpr (zE hsd ⟨⟨_,zAJ ej⟩,zE (zc (v4 A)) ?_⟩);rw[zBZ ej (by rw[zXM];exact zXc (m:=95000) (by omega) (zY (by omega)))];refine ⟨rfl,rfl,⟨T',by rw[zXh (by omega)];exact ea,by simpa using hz,λg d hd=>?_,λg hd=>?_,k3⟩,λT2 e2=>?_,by simpa using hle,λi hi hn=>by rw[zXh (by omega)];exact hfr i hi hn,λi u hi hu=>?_⟩
  .obtain ⟨j',rfl,hj',ej'⟩:=k1 g d hd;refine ⟨j',rfl,hj',?_⟩;rw[zH4];by_cases hgg:goal=g
   .subst hgg;rw[el]at hd;cases hd;rw[zX7 jl,zXS rfl,zX5];rfl
   .rw[zXV hgg,zXx];have:j≠j':=λz=>hgg (k3 goal g j el (by rw[z];exact hd));rw[zXh this];exact ej'
  .rw[zH4,zXV (λz=>by rw[<-z,el]at hd;cases hd),zXx];exact k2 g hd
  .rw[zXh (by omega),ea]at e2;have eT:zEt T'=zEt T2:=MO.dicT.inj (zYD e2);intro q hq;have hm:(tI q.1,q.2)∈zEt T2:=zXU.mpr ⟨q,hq,rfl⟩;rw[<-eT]at hm;obtain ⟨q',hq',e'⟩:=zXU.mp hm;obtain ⟨j',h1',h2'⟩:=hAt q' hq';refine ⟨j',?_,by rw[zZW];exact h2'⟩;rw[<-h1'];exact (zY0 Prod.snd e').symm
  .by_cases q:j=i
   .subst q;rw[zX7 jl]at hu;cases hu;exact .inl ⟨zCz ps goal++[p],by simp⟩
   .rw[zXh q]at hu;exact hkd i u hi hu
 have esd:zB7 (zC i1) fk (zAb zH) σ M=match zG T goal with
   |some v=>some (EV.dat v,M++[MO.lst ([]:List D)])
   |none=>some (EV.dat (.ref M.length),(M++[MO.lst ([]:List D)]).set jd (dT (zCU T goal (.ref M.length)))):=by
  unfold zB7;rw[zER (v1 M)];dsimp only;rw[ed];rw[zER (v6 M)];dsimp only;rw[zTZ (zPR (rfl:zH σ M=some ([],M)) (by simp))];dsimp only;rw[ed',zFh];dsimp only;rw[zXS (by rw[zXM];exact zXc (m:=95000) (by omega) (zY (by omega))),zML,zTa];all_goals (cases zG T goal <;> rfl)
 cases hl:zG T goal with
 |some d=>
  obtain ⟨j,rfl,hj,ej⟩:=h1 goal d hl;rw[hl]at esd;have jl:=(zXG.mp ej).1;refine last (M++[.lst []]) T j esd ed' hl hj (by rw[zXK jl];exact ej) (by omega) (λq hq=>by obtain ⟨j',a,b⟩:=hAd T ed q hq;exact ⟨j',a,by simp;omega⟩) (by simp) (λi hi _=>zXK (by omega)) (λi u hi hu=>?_) (λg d hd=>?_) h2 h3
  .rcases zYZ i M.length with q|q
   .rw[zXK q]at hu;exact .inr hu
   .have:=(zXG.mp hu).1;rw[zXT,zaS]at this;have:i=M.length:=by omega
    subst this;rw[zS]at hu;cases hu;exact .inl ⟨[],rfl⟩
  .obtain ⟨j',rfl,hj',ej'⟩:=h1 g d hd;exact ⟨j',rfl,hj',by rw[zXK (zXG.mp ej').1];exact ej'⟩
 |none=>
  rw[hl]at esd;have e0:=h2 goal hl;have hput:=λg=>zDV T goal g (.ref M.length);refine last _ (zCU T goal (.ref M.length)) M.length esd (zX7 (by simp;omega)) (by rw[hput,zXS rfl]) hlo2 ?_ (by have:=zHH T goal (.ref M.length);omega) (λq hq=>?_) (by simp) (λi hi hn=>?_) (λi u hi hu=>?_) (λg d hd=>?_) (λg hd=>?_) (λg g' j hd hd'=>?_)
  .rw[zXh (by omega),e0];simp
  .unfold zCU at hq;rw[hl]at hq;rcases zXd.mp hq with z|z
   .obtain ⟨j',a,b⟩:=hAd T ed q z;exact ⟨j',a,by simp;omega⟩
   .rw[zXf]at z;subst z;exact ⟨M.length,rfl,by simp⟩
  .rw[zXh (Ne.symm hn),zXK (by omega)]
  .rw[zXh (by omega)]at hu;rcases zYZ i M.length with q|q
   .rw[zXK q]at hu;exact .inr hu
   .have:=(zXG.mp hu).1;rw[zXT,zaS]at this;have:i=M.length:=by omega
    subst this;rw[zS]at hu;cases hu;exact .inl ⟨[],rfl⟩
  .rw[hput]at hd;by_cases hgg:goal=g
   .subst hgg;rw[zXS rfl]at hd;cases hd;exact ⟨M.length,rfl,hlo2,by rw[zXh (by omega),e0];simp⟩
   .rw[zXV hgg]at hd;obtain ⟨j,rfl,hj,ej⟩:=h1 g d hd;exact ⟨j,rfl,hj,by rw[zXh (by omega),zXK (zXG.mp ej).1];exact ej⟩
  .rw[hput]at hd;by_cases hgg:goal=g
   .rw[zXS hgg]at hd;cases hd
   .rw[zXV hgg]at hd;exact h2 g hd
  .rw[hput]at hd hd';by_cases a:goal=g
   .by_cases b:goal=g'
    .rw[<-a,<-b]
    .rw[zXS a]at hd;rw[zXV b]at hd';cases hd;obtain ⟨j,e,_,ej⟩:=h1 g' _ hd';cases e;exact absurd (zXG.mp ej).1 (zXv _)
   .rw[zXV a]at hd;by_cases b:goal=g'
    .rw[zXS b]at hd';cases hd';obtain ⟨j,e,_,ej⟩:=h1 g _ hd;cases e;exact absurd (zXG.mp ej).1 (zXv _)
    .rw[zXV b]at hd';exact h3 g g' j hd hd'
def zCe:FS:=(zX (zq 3 (zi [4] (zAA (zD (toD (fB zAX (zQ (fOp kIx (zC 0) (fC (.int 0))) ze))) zH)) (gN 4) zv (zP zBT (zD (toD (zC 0)) (zD (toD (zC 1)) (zD (toD (zC 4)) zH))))))
  (zAS (fB (zFg false) (zQ (zi [4,5] (zD4 (zC 3)) (zBU 4 5) (zCx (tst (fOp (zAe false) (zC 5) (zC 2))) (tst (fOp kEq (fOp zp (zC 2) (zC 5)) (fOp zGj (fOp zp (zC 2) (zC 1)) (fC (.int 1)))))) (zC 4)) ze))))
def zAQ:FF:=zBV 6 zCe
def zFA:FS:=(zX (zq 2 (zi [3] (zu (zP zAT (zD (toD (zP zAH (zD (toD (zC 0)) zH))) zH))) (gN 3) (tst (fOp kGt (zBG (zC 1) (zC 3) (fC (.int 0))) (fC (.int 0)))) (zC 3)))
  (zAS (zC7 true [3] (zu (zC 2)) (gN 3) zv (zC 3) (zAd (zD (toD (fOp zp (zC 1) (zC 3))) (zD (toD (zP zAQ (zD (toD (zC 0)) (zD (toD (zC 3)) (zD (toD (zC 1)) zH))))) zH))))))
def zCa:FF:=zBV 4 zFA
def zF9:FS:=(zX (zq 3 (zAb zH))
  (zX (zq 4 (zC 2))
  (zX (zBf (tst (fOp (zAe false) (zC 4) (zC 1))) (zX (zq 5 (fOp kIx (fOp zp (zC 1) (zC 4)) (fC (.int 1))))
  (zX (zAk (fM zr (zC 3) (zD (toD (zC 5)) zH)))
  (zq 4 (zP zBT (zD (toD (zC 0)) (zD (toD (zC 4)) (zD (toD (zC 5)) zH))))))) 1000)
  (zAS (fB zA2 (zQ (zC 3) ze))))))
def zDI:FF:=zBV 6 zF9
theorem zJP {α:Type} (hgd:zBA gd all M) (enc out:α->D) (keep:α->Bool):∀ (as:List α),(∀ a∈as,∃ σ1,g (enc a) σ=some σ1/\tc σ1 M=some (keep a,M)/\(keep a=true->te σ1 M=some (.dat (out a),M)))->zA8 g tc te σ all gd (as.map enc) M=some ((as.filter keep).map out,M)
 |[],_=>by
  rw[List.map_nil];unfold zA8;rw[zXS hgd];rfl
 |a::r,h=>by
  obtain ⟨σ1,e1,e2,e3⟩:=h a zXR;have ih:=zJP (σ:=σ) hgd enc out keep r λb hb=>h b (zXQ _ hb);rw[zXW];unfold zA8;rw[zXS hgd,e1];dsimp only;rw[e2];cases hk:keep a with
  |false=>
   dsimp only;rw[ih,List.filter_cons_of_neg (by simp[hk])]
  |true=>
   dsimp only;rw[show toD te σ1 M=some (out a,M) by unfold toD;rw[e3 hk]];dsimp only;rw[ih,List.filter_cons_of_pos hk];rfl
def zAr {α:Type} {own:Yj} {fi:FI} {g:FG} {tc:FT} {te:FE} {σ:Sd} {M M1:Mem} {gd:Option (Mem->Prop)} (as:List α) (enc out:α->D) (keep:α->Bool) (hi:fi σ M=some (as.map enc,gd,M1)) (hgd:zBA gd (as.map enc) M1) (hz:as.length<=100000)
  (he:∀ a∈as,∃ σ1,g (enc a) (zBN own σ)=some σ1/\tc σ1 M1=some (keep a,M1)/\(keep a=true->te σ1 M1=some (.dat (out a),M1))):zi own fi g tc te σ M=some (.fl ((as.filter keep).map out),M1) :=
 zW (zC0.mpr ⟨_,_,_,hi,by rw[zXM];exact zY hz,zE (zJP hgd enc out keep as he) ⟨rfl,rfl⟩⟩)
def zNo {f:FE} {σ:Sd} {M M1:Mem} {xs:Ye} (hf:f σ M=some (.fl (xs.map D.int),M1)) (hx:xs≠[]):∃ b,fB (zFg false) (zQ f ze) σ M=some (.dat (.int b),M1)/\b∈xs /\ ∀ y∈xs,b<=y:=by
 cases xs with
 |nil=>exact absurd rfl hx
 |cons x r=>
  obtain ⟨h1,h2⟩:=zDe false r x;refine ⟨zDD false x r,?_,h1,λy hy=>by simpa using h2 y hy⟩;unfold fB zQ ze;rw[hf];unfold zFg;dsimp only;rw[zCj]
def zIK (zA:Ya) (l:Nat) (G:Yq) (fd:List (List Int × D)):Prop:=∀ t d,zG fd t=some d ↔ Th zA t /\ ∃ n:Nat,Dst zA l G t n/\d=.int (n:Int)
structure Fst (zA:Ya) (l:Nat) (G:Yq) (p:Ye) (n:Nat) (x:Int):Prop where
 x0:0<=x
 x1:x<(l:Int)
 d:Dst zA l G (setR zA p x) n
 f:∀ y,0<=y->y<x -> ¬ Dst zA l G (setR zA p y) n
def isN (n:Nat):Option D->Bool
 |some (.int v)=>decide (v=(n:Int))
 |_=>false
def zHE (sp:zIK zA l G fd) (u:Th zA t):isN n (zG fd t)=true ↔ Dst zA l G t n:=by
 constructor
 .intro h;cases e:zG fd t with
  |none=>rw[e]at h;cases h
  |some d=>
   obtain ⟨_,k,hk,rfl⟩:=(sp t d).mp e;rw[e]at h;have:(k:Int)=(n:Int):=zX9 h;rw[show n=k by omega];exact hk
 .intro h;rw[(sp t _).mpr ⟨u,n,h,rfl⟩];exact zYL rfl
def eqE:kEq (.dat (.int a)) (.dat (.int b)) M=some (.dat (.bl (decide (a=b))),M):=zW (zKt.mpr ⟨rfl,rfl⟩)
def zVT:zGj (.dat (.int a)) (.dat (.int b)) M=some (.dat (.int (a-b)),M):=rfl
def gtE:kGt (.dat (.int a)) (.dat (.int b)) M=some (.dat (.bl (decide (b<a))),M):=rfl
def zKi (ha:a σ M=some (true,M)) (hb:b σ M=some (k,M)):zCx a b σ M=some (k,M):=by unfold zCx;rw[ha];exact hb
def zKe (ha:a σ M=some (false,M)):zCx a b σ M=some (false,M):=by unfold zCx;rw[ha]
def zQC {zA:Ya} {l:Nat} {G:Yq} (m:IsM zA l) (hR:zA.length<=26) (hl:l<=12) {M:Mem} {jf:Nat} {fd:List (List Int × D)} (hf:M[jf]?=some (dT fd)) (sp:zIK zA l G fd) {p:Ye} (u:Th zA p) {n:Nat} (hd:Dst zA l G p (n+1)) :
  Ok (zAQ [mD zA,tI p,.ref jf] M) λd M'=>∃ x:Int,d=.int x/\Fst zA l G p n x /\ ∃ us,M'=M++us:=by
 unfold zAQ;rw[zAE];unfold zCe;have hfl:=(zXG.mp hf).1;have er:=zEl (σ:=[some (mD zA),some (tI p),some (.ref jf),none,none,none]) (M:=M) (zNq m (f:=zC 0) rfl) (by omega) (by omega);rw[show (l:Int).toNat=l by omega]at er;have ec:=zAg (own:=[4]) (g:=gN 4) (te:=zP zBT (zD (toD (zC 0)) (zD (toD (zC 1)) (zD (toD (zC 4)) zH)))) (List.range l) (λ(k:Nat)=>D.int k) (λ(k:Nat)=>tI (setR zA p (k:Int))) er trivial (by rw[zZA];omega) λk hk=>⟨_,rfl,zAM (zt (d:=mD zA) rfl (zt (d:=tI p) rfl (zc (d:=.int (k:Int)) rfl))) (zKq m (by omega) u.1 (by omega) (by have:=zXr.mp hk;omega))⟩;rw[zI,zT];refine zE ec (zb ?_);rw[zM];generalize hA:M++[MO.lst ((List.range l).map λ(k:Nat)=>tI (setR zA p (k:Int)))]=A;have a1:A[M.length]?=some (.lst ((List.range l).map λ(k:Nat)=>tI (setR zA p (k:Int)))):=by rw[<-hA];simp
 have a2:A[jf]?=some (dT fd):=by rw[<-hA,zXK hfl];exact hf
 have hen:zD4 (zC 3) [some (mD zA),some (tI p),some (.ref jf),some (.ref M.length),none,none] A=some ((List.range l).map (λ(k:Nat)=>D.tup [.int (k:Nat),tI (setR zA p (k:Int))]),zCq (.dat (.ref M.length)) ((List.range l).map λ(k:Nat)=>tI (setR zA p (k:Int))),A):=by
  unfold zD4;rw[show zC 3 [some (mD zA),some (tI p),some (.ref jf),some (.ref M.length),none,none] A=some (.dat (.ref M.length),A)from rfl];dsimp only;rw[za a1];dsimp only;congr 2;unfold zIf;rw[zXM,zZA];apply zZZ;intro i;by_cases hi:i<l
  .rw[zXa,zXa,List.zip_eq_zipWith,List.getElem?_zipWith,zXa,zZH hi];rfl
  .rw[zYM (by simp;omega),zYM (by simp;omega)]
 have lp:zG fd p=some (.int ((n+1:Nat):Int)):=(sp p _).mpr ⟨u,n+1,hd,rfl⟩;have ef:=zAr (own:=[4,5]) (g:=zBU 4 5) (tc:=zCx (tst (fOp (zAe false) (zC 5) (zC 2))) (tst (fOp kEq (fOp zp (zC 2) (zC 5)) (fOp zGj (fOp zp (zC 2) (zC 1)) (fC (.int 1)))))) (te:=zC 4) (List.range l) _ (λ(k:Nat)=>D.int (k:Int)) (λ(k:Nat)=>isN n (zG fd (setR zA p (k:Int)))) hen (.inl a1) (by rw[zZA];omega) (λk hk=>by
  have u':=zCN m p (k:Int) u ⟨by omega,by have:=zXr.mp hk;omega⟩;refine ⟨[some (mD zA),some (tI p),some (.ref jf),some (.ref M.length),some (.int (k:Int)),some (tI (setR zA p (k:Int)))],rfl,?_,λ_=>rfl⟩;have e1:fOp (zAe false) (zC 5) (zC 2) [some (mD zA),some (tI p),some (.ref jf),some (.ref M.length),some (.int (k:Int)),some (tI (setR zA p (k:Int)))] A=_:=zJ (x:=.dat (tI (setR zA p (k:Int)))) (y:=.dat (.ref jf)) rfl rfl (zHo a2);rw[zXV (by decide)]at e1;cases e:zG fd (setR zA p (k:Int)) with
  |none=>
   rw[e]at e1;exact zKe (zo e1)
  |some d=>
   obtain ⟨_,v,_,rfl⟩:=(sp _ d).mp e;rw[e]at e1;refine zKi (zo e1) (zo ?_);refine zJ (x:=.dat (.int (v:Int))) (y:=.dat (.int (((n+1:Nat):Int)-1))) (zJ (x:=.dat (.ref jf)) (y:=.dat (tI (setR zA p (k:Int)))) rfl rfl (zE0 a2 e)) (zJ (x:=.dat (.int ((n+1:Nat):Int))) (y:=.dat (.int 1)) (zJ (x:=.dat (.ref jf)) (y:=.dat (tI p)) rfl rfl (zE0 a2 lp)) rfl zVT) ?_;rw[eqE];unfold isN;congr 5;exact propext ⟨λh=>by omega,λh=>by omega⟩)
 rw[show ((List.range l).filter λ(k:Nat)=>isN n (zG fd (setR zA p (k:Int)))).map (λ(k:Nat)=>D.int (k:Int))=(((List.range l).filter λ(k:Nat)=>isN n (zG fd (setR zA p (k:Int)))).map λ(k:Nat)=>(k:Int)).map D.int by rw[zXb];rfl]at ef;obtain ⟨b,eb,hb1,hb2⟩:=zNo ef (by
  obtain ⟨_,x,hx,hr⟩:=zDF.mp hd;have:((x.toNat:Nat):Int)∈((List.range l).filter λ(k:Nat)=>isN n (zG fd (setR zA p (k:Int)))).map λ(k:Nat)=>(k:Int):=zXU.mpr ⟨x.toNat,zYO.mpr ⟨zXr.mpr (by omega),by rw[show ((x.toNat:Nat):Int)=x by omega];exact (zHE sp (zCN m p x u hx)).mpr hr⟩,rfl⟩;exact List.ne_nil_of_mem this)
 obtain ⟨k,hk,rfl⟩:=zXU.mp hb1;obtain ⟨k1,k2⟩:=zYO.mp hk;have k3:=zXr.mp k1;refine zAZ eb ⟨(k:Int),rfl,⟨by omega,by omega,(zHE sp (zCN m p _ u ⟨by omega,by omega⟩)).mp k2,λy y0 y1 hy=>?_⟩,_,hA.symm⟩;have:=hb2 y (zXU.mpr ⟨y.toNat,zYO.mpr ⟨zXr.mpr (by omega),by rw[show ((y.toNat:Nat):Int)=y by omega];exact (zHE sp (zCN m p y u ⟨y0,by omega⟩)).mpr hy⟩,by omega⟩);omega
def zMG (a:Fst zA l G p n x) (b:Fst zA l G p n y):x=y:=by
 rcases Int.lt_trichotomy x y with q|q|q
 .exact absurd a.d (b.f x a.x0 q)
 .exact q
 .exact absurd b.d (a.f y b.x0 q)
open Classical in
def zGl (zA:Ya) (l:Nat) (G:Yq) (t:Ye):Nat:=if h:∃ n,Dst zA l G t n then Classical.choose h else 0
open Classical in
def zTt (zA:Ya) (l:Nat) (G:Yq) (t:Ye):Int:=if h:∃ x,Fst zA l G t (zGl zA l G t-1) x then Classical.choose h else 0
def zEg (h:Dst zA l G t n):zGl zA l G t=n:=by
 unfold zGl;have hx:∃ n,Dst zA l G t n:=⟨n,h⟩;rw[dif_pos hx];exact zAw (Classical.choose_spec hx) h
def zL0 (h:0<zGl zA l G t):Dst zA l G t (zGl zA l G t):=by
 by_cases hx:∃ n,Dst zA l G t n
 .obtain ⟨n,hn⟩:=hx;rw[zEg hn];exact hn
 .unfold zGl at h;rw[dif_neg hx]at h;omega
def zN5 (hd:Dst zA l G t (n+1)) (h:Fst zA l G t n x):zTt zA l G t=x:=by
 unfold zTt;rw[zEg hd];have hx:∃ x,Fst zA l G t (n+1-1) x:=⟨x,h⟩;rw[dif_pos hx];exact zMG (Classical.choose_spec hx) h
def zNV (zA:Ya) (l:Nat) (G:Yq) (t:Ye):Bool:=decide (0<zGl zA l G t)
def zJJ (zA:Ya) (l:Nat) (G:Yq) (t:Ye):D:=.tup [.int (zGl zA l G t:Nat),.int (zTt zA l G t)]
def zBx (zA:Ya) (l:Nat) (G:Yq):List (List Int):=(zK (zF zA)).filter (zNV zA l G)
def zE1 (zA:Ya) (l:Nat) (G:Yq):List (List Int × D):=(zBx zA l G).map λp=>(p,zJJ zA l G p)
theorem zLK {f:List Int->D} {t:Ye}:∀ {ps:Ya},zG (ps.map λp=>(p,f p)) t=if t∈ps then some (f t) else none
 |[]=>rfl
 |p::r=>by
  rw[zXW,zG];by_cases h:p=t
  .subst h;rw[zXS rfl,zXS zXR]
  .rw[zXV h,zLK (ps:=r)];by_cases hr:t∈r
   .rw[zXS hr,zXS (zXQ _ hr)]
   .rw[zXV hr,zXV (by simp[hr,Ne.symm h])]
def zTQ (h:g∉T.map (·.1)):zCU T g v=T++[(g,v)]:=by
 unfold zCU;cases e:zG T g with
 |none=>rfl
 |some d=>exact absurd (zEd.mp (show (zG T g).isSome=true by rw[e];rfl)) h
def zDq (h:xs.Nodup):(zK xs).Nodup:=by
 have gen:∀ r:List Int,r.Nodup->(r.flatMap λa=>(xs.filter λb=>decide (a<b)).map λb=>[a,b]).Nodup:=by
  intro r;induction r with
  |nil=>intro _;simp
  |cons a r ih=>
   intro hr;obtain ⟨h1,h2⟩:=zYX.mp hr;rw[List.flatMap_cons,zYR];refine ⟨?_,ih h2,λu hu v hv=>?_⟩
   .refine List.pairwise_map.mpr (List.Pairwise.imp (λ{x y} q z=>q (by simpa using z)) (List.Pairwise.filter _ h))
   .obtain ⟨b,_,rfl⟩:=zXU.mp hu;obtain ⟨c,hc,hv⟩:=List.mem_flatMap.mp hv;obtain ⟨d,_,rfl⟩:=zXU.mp hv;intro z;have:a=c:=by simpa using (zYH z).1
    exact h1 (by rw[this];exact hc)
 exact gen xs h
def zEH (zA:Ya):(zF zA).Nodup:=by
 unfold zF;exact List.pairwise_map.mpr (List.Pairwise.imp (λ{a b} h z=>h (by omega)) List.nodup_range)
def zB4:t∈zBx zA l G ↔ t∈zK (zF zA) /\ ∃ n,Dst zA l G t (n+1):=by
 unfold zBx zNV;rw[zYO];constructor
 .rintro ⟨a,b⟩;have:=zL0 (zX9 b);exact ⟨a,zGl zA l G t-1,by rw[show zGl zA l G t-1+1=zGl zA l G t by have:=zX9 b;omega];exact this⟩
 .rintro ⟨a,n,h⟩;exact ⟨a,zYL (by rw[zEg h];omega)⟩
def zUd (hf:f σ M=some (.dat (.ref n),M)) (hn:M[n]?=some (dT T)) (hg:g σ M=some (.dat (tI k),M)):zBG f g (fC c) σ M=some (.dat ((zG T k).getD c),M):=by
 unfold zBG;rw[show toD f σ M=some (.ref n,M) by unfold toD;rw[hf]];dsimp only;rw[hn];rw[show toD g σ M=some (tI k,M) by unfold toD;rw[hg]];dsimp only;rw[show toD (fC c) σ M=some (c,M)from rfl];dsimp only;rw[dgT hn]
def zOQ {own:Yj} {i:Nat} {tv:FE} {σ:Sd} {M:Mem} {jl jk:Nat} {K:MO} {ts:Ya} {val:List Int->D} (hj:M[jl]?=some (.lst (ts.map tI))) (hk:M[jk]?=some K) (nd:ts.Nodup) (hz:ts.length<=80000)
  (hg:∀ a,gN i a (zBN own σ)=some ((zBN own σ).set i (some a))) (hs:∀ (a:D) M',zC i ((zBN own σ).set i (some a)) M'=some (.dat a,M'))
  (hv:∀ t∈ts,∀ M':Mem,M'[jk]?=some K -> ∃ us,tv ((zBN own σ).set i (some (tI t))) M'=some (.dat (val t),M'++us)) {n:Nat} (hn:n=M.length) :
  ∃ us,zCi (gN i) zv (zC i) tv (zBN own σ) n (ts.map tI) (zCq (.dat (.ref jl)) (ts.map tI)) (ts.map tI) (M++[dT []])=some (M++dT (ts.map λt=>(t,val t))::us):=by
 subst hn;have hjl:=(zXG.mp hj).1;have hkl:=(zXG.mp hk).1;have loop:∀ (r q:Ya) (ws:Mem),q++r=ts -> ∃ us,zCi (gN i) zv (zC i) tv (zBN own σ) M.length (ts.map tI) (zCq (.dat (.ref jl)) (ts.map tI)) (r.map tI) (M++dT (q.map λt=>(t,val t))::ws)=some (M++dT (ts.map λt=>(t,val t))::us):=by
  intro r;induction r with
  |nil=>
   intro q ws e;rw[zXx]at e;subst e;exact ⟨ws,zJI (.inl (by rw[zXK hjl];exact hj))⟩
  |cons x r ih=>
   intro q ws e;have hx:x∉q:=λz=>by
    rw[<-e,zYR]at nd;exact nd.2.2 x z x zXR rfl
   have hl:q.length<90000:=by have:=zY0 List.length e;simp at this;omega
   obtain ⟨us,hu⟩:=hv x (by rw[<-e];simp) (M++dT (q.map λt=>(t,val t))::ws) (by rw[zXK hkl];exact hk);obtain ⟨vs,hvs⟩:=ih (q++[x]) (ws++us) (by rw[<-e];simp);refine ⟨vs,?_⟩;rw[<-hvs,zXW];have hgd:zBA (zCq (.dat (.ref jl)) (ts.map tI)) (ts.map tI) (M++dT (q.map λt=>(t,val t))::ws):=.inl (by rw[zXK hjl];exact hj);rw[zCi,zXS hgd,hg];dsimp only;rw[show zv ((zBN own σ).set i (some (tI x))) (M++dT (q.map λt=>(t,val t))::ws)=some (true,M++dT (q.map λt=>(t,val t))::ws)from rfl];dsimp only;rw[show toD (zC i) ((zBN own σ).set i (some (tI x))) (M++dT (q.map λt=>(t,val t))::ws)=some (tI x,M++dT (q.map λt=>(t,val t))::ws) by unfold toD;rw[hs]];dsimp only;rw[show toD tv ((zBN own σ).set i (some (tI x))) (M++dT (q.map λt=>(t,val t))::ws)=some (val x,M++dT (q.map λt=>(t,val t))::ws++us) by unfold toD;rw[hu]];dsimp only;rw[zJS (T:=q.map λt=>(t,val t)) (by simp) (by rw[zXM];exact hl),zTQ (by rw[zXb];simpa using hx)];congr 1;rw[zYJ,List.set_append_right _ _ (zXJ _)];simp
 exact loop ts [] [] rfl
def zLO {zA:Ya} {l:Nat} {G:Yq} (m:IsM zA l) (hR:zA.length<=26) (hl:l<=12) {M:Mem} {jf:Nat} {fd:List (List Int × D)} (hf:M[jf]?=some (dT fd)) (sp:zIK zA l G fd) :
  Ok (zCa [mD zA,.ref jf] M) λd M'=>∃ jr us,d=.ref jr/\M'=M++us/\M.length<=jr/\M'[jr]?=some (dT (zE1 zA l G)):=by
 unfold zCa;rw[zAE];unfold zFA;have hfl:=(zXG.mp hf).1;have hrl:(zF zA).length=zA.length:=by unfold zF;simp
 have epr:=zFU (xs:=zF zA) (by omega) (M:=M);have ei:zu (zP zAT (zD (toD (zP zAH (zD (toD (zC 0)) zH))) zH)) [some (mD zA),some (.ref jf),none,none] M=_:=zC1 (zc (d:=tI (zF zA)) (zAM (zc (d:=mD zA) rfl) (zEe (by omega)))) epr (zS _ _);have hPl:(zK (zF zA)).length<=676:=by
  have h1:=zBe (zF zA);rw[hrl]at h1;exact zXe h1 (zYp hR hR)
 generalize hA:M++[MO.lst ((zK (zF zA)).map tI)]=A at ei;have a1:A[M.length]?=some (.lst ((zK (zF zA)).map tI)):=by rw[<-hA];simp
 have a2:A[jf]?=some (dT fd):=by rw[<-hA,zXK hfl];exact hf
 have ef:=zAr (own:=[3]) (g:=gN 3) (tc:=tst (fOp kGt (zBG (zC 1) (zC 3) (fC (.int 0))) (fC (.int 0)))) (te:=zC 3) (zK (zF zA)) tI tI (zNV zA l G) ei (.inl a1) (by omega) (λp hp=>by
  refine ⟨[some (mD zA),some (.ref jf),none,some (tI p)],rfl,zo ?_,λ_=>rfl⟩;have e1:zBG (zC 1) (zC 3) (fC (.int 0)) [some (mD zA),some (.ref jf),none,some (tI p)] A=_:=zUd (k:=p) rfl a2 rfl;unfold zNV;cases e:zG fd p with
  |none=>
   rw[e]at e1;rw[zJ (x:=.dat (.int 0)) (y:=.dat (.int 0)) e1 rfl gtE];have:¬ 0<zGl zA l G p:=λh=>by
    rw[(sp p _).mpr ⟨zBH p hp,_,zL0 h,rfl⟩]at e;cases e
   rw[zXm this];rfl
  |some d=>
   obtain ⟨_,v,hv,rfl⟩:=(sp _ d).mp e;rw[e]at e1;rw[zJ (x:=.dat (.int (v:Int))) (y:=.dat (.int 0)) e1 rfl gtE,zEg hv];congr 5;exact propext ⟨λh=>by omega,λh=>by omega⟩)
 rw[zI,zT];refine zE ef (zb ?_);rw[zM];show OkS (zAS _ [some (mD zA),some (.ref jf),some (.ref A.length),none] (A++[.lst ((zBx zA l G).map tI)])) _;have nd:(zBx zA l G).Nodup:=List.Pairwise.filter _ (zDq (zEH zA));have hrl2:(zBx zA l G).length<=676:=zXe (zZX _ _) hPl;generalize hB:A++[MO.lst ((zBx zA l G).map tI)]=B;have b1:B[A.length]?=some (.lst ((zBx zA l G).map tI)):=by rw[<-hB];simp
 have b2:B[jf]?=some (dT fd):=by rw[<-hB,zXK (zXG.mp a2).1];exact a2
 obtain ⟨us,hu⟩:=zOQ (own:=[3]) (i:=3) (σ:=[some (mD zA),some (.ref jf),some (.ref A.length),none]) (tv:=zAd (zD (toD (fOp zp (zC 1) (zC 3))) (zD (toD (zP zAQ (zD (toD (zC 0)) (zD (toD (zC 3)) (zD (toD (zC 1)) zH))))) zH))) (val:=zJJ zA l G) b1 b2 nd (by omega) (λ_=>rfl) (λ_ _=>rfl) (λt ht M' hM=>by
  obtain ⟨ht1,n,hn⟩:=zB4.mp ht;obtain ⟨d,M2,e,x,rfl,fx,us,rfl⟩:=zQC m hR hl hM sp (zBH t ht1) hn;refine ⟨us,?_⟩;show zAd _ [some (mD zA),some (.ref jf),some (.ref A.length),some (tI t)] M'=_;have e1:fOp zp (zC 1) (zC 3) [some (mD zA),some (.ref jf),some (.ref A.length),some (tI t)] M'=some (.dat (.int ((n+1:Nat):Int)),M'):=zJ (x:=.dat (.ref jf)) (y:=.dat (tI t)) rfl rfl (zE0 hM ((sp t _).mpr ⟨zBH t ht1,n+1,hn,rfl⟩));have e2:zP zAQ (zD (toD (zC 0)) (zD (toD (zC 3)) (zD (toD (zC 1)) zH))) [some (mD zA),some (.ref jf),some (.ref A.length),some (tI t)] M'=some (.dat (.int x),M'++us):=zAM (zt (d:=mD zA) rfl (zt (d:=tI t) rfl (zc (d:=.ref jf) rfl))) e;rw[zHO (aC' (zER e1) (zWK e2)) (by simp)];unfold zJJ;rw[zEg hn,zN5 hn fx]) rfl
 have ed:zC7 true [3] (zu (zC 2)) (gN 3) zv (zC 3) (zAd (zD (toD (fOp zp (zC 1) (zC 3))) (zD (toD (zP zAQ (zD (toD (zC 0)) (zD (toD (zC 3)) (zD (toD (zC 1)) zH))))) zH))) [some (mD zA),some (.ref jf),some (.ref A.length),none] B=some (.dat (.ref B.length),B++dT (zE1 zA l G)::us):=by
  unfold zC7 zu;rw[show zC 2 [some (mD zA),some (.ref jf),some (.ref A.length),none] B=some (.dat (.ref A.length),B)from rfl];dsimp only;rw[za b1];dsimp only;rw[show zFE true=dT []from rfl,hu];rfl
 rw[zBI];refine zE ed ⟨B.length,[MO.lst ((zK (zF zA)).map tI)]++([MO.lst ((zBx zA l G).map tI)]++dT (zE1 zA l G)::us),rfl,by rw[<-hB,<-hA];simp only[zYJ],?_,by simp⟩;rw[<-hB,<-hA];simp only[zXT];omega
theorem zI4 (m:IsM zA l) (o:zC5 zA G):∀ (n:Nat) (t:Ye),Th zA t->Dst zA l G t n -> ∃ ts:List (List Int),ts.length=n/\ts.Nodup /\ ∀ s∈ts,s∈zK (zF zA) /\ ∃ k,k<=n/\Dst zA l G s k
 |0,_,_,_=>⟨[],rfl,List.nodup_nil,λ_ h=>by cases h⟩
 |n+1,t,u,d=>by
  obtain ⟨q,x,hx,hd⟩:=zDF.mp d;obtain ⟨ts,h1,h2,h3⟩:=zI4 m o n (setR zA t x) (zCN m t x u hx) hd;refine ⟨t::ts,by simp[h1],zYX.mpr ⟨λz=>?_,h2⟩,λs hs=>?_⟩
  .obtain ⟨_,k,hk,hk2⟩:=h3 t z;have:=zAw hk2 d;omega
  .rcases zXP.mp hs with rfl|z
   .exact ⟨zGJ m o s (n+1) u (λg=>by have:=zAw (zBM.mpr g) d;omega) d.1,n+1,zXJ _,d⟩
   .obtain ⟨a,k,hk,b⟩:=h3 s z;exact ⟨a,k,by omega,b⟩
def zUm (m:IsM zA l) (o:zC5 zA G) (u:Th zA t) (d:Dst zA l G t n):n<=(zK (zF zA)).length:=by
 obtain ⟨ts,h1,h2,h3⟩:=zI4 m o n t u d;rw[<-h1];exact zGH ts _ h2 λs hs=>(h3 s hs).1
def zBE (hR:zA.length<=26):(zK (zF zA)).length<=676:=by
 have h1:=zBe (zF zA);have hrl:(zF zA).length=zA.length:=by unfold zF;simp
 rw[hrl]at h1;exact zXe h1 (zYp hR hR)
def zO2 (c:Climb zA l G t w):Dst zA l G t w.length:=by
 cases c with
 |nil g=>exact zBM.mpr g
 |cons d x0 x1 e f c=>rw[zXk,zJA c e];exact d
def zIz:zG (zE1 zA l G) t=if t∈zBx zA l G then some (zJJ zA l G t) else none:=zLK
def zMp (m:IsM zA l) (o:zC5 zA G) (hR:zA.length<=26) (hr:M[jr]?=some (dT (zE1 zA l G))) (u:Th zA p) (c:Climb zA l G p w) :
  Ok (zDI [mD zA,.ref jr,tI p] M) λd M'=>d=tI w /\ ∃ us,M'=M++us:=by
 have hrl:=(zXG.mp hr).1;have hw:w.length<=676:=zXe (zUm m o u (zO2 c)) (zBE hR);unfold zDI;rw[zAE];unfold zF9;rw[zI,zT];refine zE (M:=M) (a:=.fl []) (zPR rfl (by simp)) (zb ?_);rw[zM];refine zC8 (d:=tI p) rfl ?_;rw[zI];refine zDO (I:=λz σ M'=>∃ (w1 w2 here:Ye) (y:Option D),w=w1++w2/\Climb zA l G here w2/\Th zA here/\z=w2.length/\σ=[some (mD zA),some (.ref jr),some (tI p),some (.ref M.length),some (tI here),y]/\M'=M++[.lst (w1.map D.int)]) ?_ 1000 w.length _ _ (by omega) ⟨[],w,p,none,rfl,c,u,rfl,rfl,rfl⟩;rintro z σ M' ⟨w1,w2,here,y,hw12,c2,u2,rfl,rfl,rfl⟩;have hM:(M++[MO.lst (w1.map D.int)])[jr]?=some (dT (zE1 zA l G)):=by rw[zXK hrl];exact hr
 have hL:(M++[MO.lst (w1.map D.int)])[M.length]?=some (.lst (w1.map D.int)):=by simp
 have et:tst (fOp (zAe false) (zC 4) (zC 1)) [some (mD zA),some (.ref jr),some (tI p),some (.ref M.length),some (tI here),y] (M++[MO.lst (w1.map D.int)])=some ((zG (zE1 zA l G) here).isSome,M++[MO.lst (w1.map D.int)]):=by
  have:=zJ (k:=zAe false) (f:=zC 4) (g:=zC 1) (σ:=[some (mD zA),some (.ref jr),some (tI p),some (.ref M.length),some (tI here),y]) (x:=.dat (tI here)) (y:=.dat (.ref jr)) rfl rfl (zHo hM);rw[zXV (by decide)]at this;exact zo this
 refine zE et ?_;cases c2 with
 |nil g=>
  have hlk:zG (zE1 zA l G) here=none:=by rw[zIz,zXV (λh=>by obtain ⟨_,n,hn⟩:=zB4.mp h;have:=zAw (zBM.mpr g) hn;omega)]
  rw[hlk];rw[zXx]at hw12;subst hw12;exact zAZ (d:=tI w) (zCl (f:=zC 3) rfl (za hL)) ⟨rfl,_,rfl⟩
 | @cons _ x w3 n d x0 x1 e f c3=>
  have hp:=zGJ m o here (n+1) u2 (λg=>by have:=zAw (zBM.mpr g) d;omega) d.1;have hin:here∈zBx zA l G:=zB4.mpr ⟨hp,n,d⟩;have fx:Fst zA l G here n x:=⟨x0,x1,e,f⟩;have hv:zJJ zA l G here=.tup [.int ((n+1:Nat):Int),.int x]:=by unfold zJJ;rw[zEg d,zN5 d fx]
  have hlk:zG (zE1 zA l G) here=some (.tup [.int ((n+1:Nat):Int),.int x]):=by rw[zIz,zXS hin,hv]
  rw[hlk];have hlen:=zY0 List.length hw12;rw[zXT,zXk]at hlen;refine zC8 (d:=.int x) (zJ (x:=.dat (.tup [.int ((n+1:Nat):Int),.int x])) (y:=.dat (.int 1)) (zJ (x:=.dat (.ref jr)) (y:=.dat (tI here)) rfl rfl (zE0 hM hlk)) rfl (zAx zj rfl)) ?_;rw[zI,zBC];refine zFz.mpr (zE (a:=.dat (.ref M.length)) (M:=M++[MO.lst (w1.map D.int)]) rfl ⟨⟨_,zAJ hL⟩,zE (zc (d:=.int x) rfl) ((zBZ hL (by rw[zXM];exact zXc (show w1.length<1000 by omega) (zY (by omega)))).mpr ?_)⟩);rw[zM];have hset:(M++[MO.lst (w1.map D.int)]).set M.length (.lst (w1.map D.int++[.int x]))=M++[MO.lst ((w1++[x]).map D.int)]:=by
   rw[List.set_append_right _ _ (zXJ _)];simp
  rw[hset,zT];refine zE (zAM (zt (d:=mD zA) rfl (zt (d:=tI here) rfl (zc (d:=.int x) rfl))) (zKq m (by omega) u2.1 x0 x1)) ?_;exact ⟨w3.length,by simp,w1++[x],w3,setR zA here x,some (.int x),by rw[hw12];simp,c3,zCN m here x u2 ⟨x0,x1⟩,rfl,rfl,rfl⟩
def zAl (a b:Int):List Int:=[if b<a then b else a,if b>a then b else a]
def zNn:(ris [a,b]).length=1 ↔ a=b:=by
 constructor
 .intro h;obtain ⟨r,e⟩:=List.length_eq_one_iff.mp h;have ha:a∈ris [a,b]:=(zCr _ _).mpr (by simp);have hb:b∈ris [a,b]:=(zCr _ _).mpr (by simp);rw[e,zXf]at ha hb;rw[ha,hb]
 .rintro rfl;rw[show ris [a,a]=ris [a]from zGy (by simp),zJq (by simp)];rfl
def zQ6 (h:a≠b):(zAl a b).Pairwise (· < ·):=by
 unfold zAl;simp only[zZN,zXf,forall_eq,zXi,false_implies,implies_true,List.Pairwise.nil,and_true];split <;> split <;> omega
end Lac
namespace Lac
open PySem PySem.Spec PyProof.Rows L2 L3 ST Law
def zQr:D->Bool
 |.non|.bl _|.int _=>true
 |_=>false
def zLb (h:zQr d=true):(zGY d).isSome=true:=by cases d <;> first|rfl|cases h
def zRj (h:zQr d=true):kEq (.dat d) (.dat d) M=some (.dat (.bl true),M):=zQP (zLb h)
def zLL {xs:Ye} (h:xs.Pairwise (· < ·)) (hi:i<xs.length):xs.filter (λb=>decide (xs[i]<b))=xs.drop (i+1):=by
 have hg:=List.pairwise_iff_getElem.mp h;have h1:(xs.take (i+1)).filter (λb=>decide (xs[i]<b))=[]:=by
  rw[List.filter_eq_nil_iff];intro b hb;obtain ⟨j,hj,rfl⟩:=List.getElem_of_mem hb;rw[zYb]at hj;rw[List.getElem_take,zYQ];rcases zYZ j i with q|q
  .have:=hg j i (by omega) hi q;omega
  .have:j=i:=by omega
   subst this;omega
 have h2:(xs.drop (i+1)).filter (λb=>decide (xs[i]<b))=xs.drop (i+1):=by
  rw[List.filter_eq_self];intro b hb;obtain ⟨j,hj,rfl⟩:=List.getElem_of_mem hb;rw[List.length_drop]at hj;rw[List.getElem_drop,zYQ];exact hg i (i+1+j) hi (by omega) (by omega)
 have key:∀ f:Int->Bool,(xs.take (i+1)).filter f=[]->(xs.drop (i+1)).filter f=xs.drop (i+1)->xs.filter f=xs.drop (i+1):=λf a b=>by
  have:=List.filter_append (p:=f) (xs.take (i+1)) (xs.drop (i+1));rw[List.take_append_drop,a,b]at this;simpa using this
 exact key _ h1 h2
def zGF (xs:Ye) (k:Nat):List (List Int):=(List.range k).flatMap λi=>(xs.drop (i+1)).map λb=>[xs.getD i 0,b]
def zOK {xs:Ye} (h:xs.Pairwise (· < ·)):zGF xs xs.length=zK xs:=by
 have e:zK xs=(List.range xs.length).flatMap λi=>(xs.filter λb=>decide (xs.getD i 0<b)).map λb=>[xs.getD i 0,b]:=by
  unfold zK;have:xs=(List.range xs.length).map λi=>xs.getD i 0:=by
   have:=zHb (λx:Int=>x) 0 xs;simpa using this.symm
  conv=>lhs;arg 2;rw[this]
  rw[List.flatMap_map]
 rw[e];unfold zGF;have:∀ i∈List.range xs.length,(xs.drop (i+1)).map (λb=>[xs.getD i 0,b])=(xs.filter λb=>decide (xs.getD i 0<b)).map λb=>[xs.getD i 0,b]:=λi hi=>by
  have hi':=zXr.mp hi;rw[<-zLL h hi'];congr 2;funext b;rw[zXI,zXH hi'];rfl
 rw[List.flatMap_def,List.flatMap_def,List.map_congr_left this]
def zSt (xs:Ye):∀ k,(zGF xs k).length<=k*xs.length:=by
 intro k;induction k with
 |zero=>simp[zGF]
 |succ k ih=>
  unfold zGF at ih ⊢;rw[List.range_succ,List.flatMap_append,zXT];simp only[List.flatMap_cons,List.flatMap_nil,zXx,zXM,List.length_drop];rw[Nat.add_mul];omega
def zB9 (n:Nat) (ps:Ya):D.unds n (ps.map tI)=true:=by
 induction ps with
 |nil=>rfl
 |cons p r ih=>rw[zXW];unfold D.unds;rw[ih,show D.und n (tI p)=true from zA5 p];rfl
def zI3 (h:p≠q):zAl p q=ris [p,q]:=by
 refine (zJq (zQ6 h)).symm.trans (zGy λx=>?_);unfold zAl;by_cases z:q<p
 .rw[zXS z,zXV (by omega)];simp[or_comm]
 .rw[zXV z,zXS (by omega)]
end Lac
namespace Lad
open PySem PySem.Spec PyProof.Rows L2 L3 ST Law
def zEA:FS:=(zX (zq 1 (fC (.int 7)))
  (zX (zBw (zu (fSl (zC 0) zBz (zBY (fC (.int 63))))) (gN 2) (zq 1 (fOp zDn (fOp zAI (fOp zAI (fOp zM3 (zC 1) (fC (.int 6364136223846793005))) (zC 2)) (fC (.int 1442695040888963407))) (fC (.int 2305843009213693951)))))
  (zAS (zKX "great" (zi [2] (zu (fSl (zC 0) zBz (zBY (fC (.int 63))))) (gN 2) (tst (fOp kGe (zC 2) (fOp zOe (fC (.int 10)) (fC (.int 18))))) (zC 2)) "seed" (zC 1)))))
def zCH:FF:=zBV 3 zEA
noncomputable def zFO:FS:=(zX (sIf (tst (fOp kNe (fOp zp (zC 0) (fC (.str "great"))) (zAb zH))) (zX (zq 2 (fOp zDn (fOp kIx (fOp zp (zC 0) (fC (.str "great"))) (fC (.int 0))) (zC 1)))
  (zX (zMV (fOp zMt (fOp kIx (fOp zp (zC 0) (fC (.str "great"))) (fC (.int 0))) (zC 1)) (fOp zp (zC 0) (fC (.str "great"))) (fC (.int 0)))
  (zX (sIf (tst (fOp kEq (fOp kIx (fOp zp (zC 0) (fC (.str "great"))) (fC (.int 0))) (fC (.int 0)))) (zAk (fM zIb (fOp zp (zC 0) (fC (.str "great"))) (zD (toD (fC (.int 0))) zH))) zBB)
  (zAS (zC 2))))) zBB)
  (zX (zBn (fOp zDn (fOp zAI (fOp zM3 (fOp zp (zC 0) (fC (.str "seed"))) (fC (.int 3935559000370003845))) (fC (.int 2691343689449507681))) (fC (.int 2305843009213693951))) (zC 0) (fC (.str "seed")))
  (zX (zq 3 (fOp zMt (fOp zp (zC 0) (fC (.str "seed"))) (fC (.int 65537))))
  (zAS (fOp zDn (fOp zMt (fOp zDn (fOp zM3 (zC 3) (zC 3)) (fC (.int 998244353))) (fC (.int 3))) (zC 1))))))
def zf:FF:=zBV 4 zFO
abbrev gS (k:Nat) (s:Int):MO:=.dict [(.str "great", .ref k),(.str "seed", .int s)]
structure Gen (M:Mem) (n k:Nat):Prop where
 ex:∃ (c:Ye) (s:Int),M[n]?=some (gS k s)/\M[k]?=some (.lst (c.map D.int))/\(∀ x∈c,0<=x)/\c.length<=63/\0<=s/\s<2305843009213693951
 ne:n≠k
 wf:∀ (j:Nat) u,M[j]?=some u->MO.und M.length u=true
structure Nw (M M':Mem) (n k:Nat):Prop where
 gen:Gen M' n k
 len:M.length<=M'.length
 fr:∀ j,j<M.length->j≠n->j≠k->M'[j]?=M[j]?
def Nw.refl (h:Gen M n k):Nw M M n k:=⟨h,zXJ _,λ_ _ _ _=>rfl⟩
def Nw.trans {M M1 M2:Mem} {n k:Nat} (a:Nw M M1 n k) (b:Nw M1 M2 n k):Nw M M2 n k :=
 ⟨b.gen,zXe a.len b.len,λj h h1 h2=>(b.fr j (zXc h a.len) h1 h2).trans (a.fr j h h1 h2)⟩
def Gen.lt (h:Gen M n k):n<M.length/\k<M.length:=by
 obtain ⟨c,s,e1,e2,_⟩:=h.ex;exact ⟨(zXG.mp e1).1,(zXG.mp e2).1⟩
def zPs (hk:k<N):MO.und N (gS k s)=true:=by
 unfold MO.und;simp[D.und,hk]
def Gen.put {M:Mem} (h:Gen M n k) {c:Ye} (hc:∀ x∈c,0<=x) (hl:c.length<=63) (h0:0<=s) (h1:s<2305843009213693951) :
  Nw M ((M.set k (.lst (c.map D.int))).set n (gS k s)) n k:=by
 obtain ⟨hn,hk⟩:=h.lt;refine ⟨⟨⟨c,s,?_,?_,hc,hl,h0,h1⟩,h.ne,λj u e=>?_⟩,by simp,λj _ h1 h2=>?_⟩
 .rw[zX7 (by simpa using hn)]
 .rw[zXh h.ne,zX7 hk]
 .rw[zZW,zZW];rw[zYm]at e;split at e
  .split at e
   .cases e;exact zPs hk
   .cases e
  .rw[zYm]at e;split at e
   .rename_i z;subst z;cases e;exact zm _ _
   .exact h.wf j u e
 .rw[zXh (Ne.symm h1),zXh (Ne.symm h2)]
def Gen.app (h:Gen A n k) (hu:∀ u∈us,MO.und (A.length+us.length) u=true):Nw A (A++us) n k:=by
 obtain ⟨c,s,e1,e2,r⟩:=h.ex;obtain ⟨hn,hk⟩:=h.lt;refine ⟨⟨⟨c,s,by rw[zXK hn];exact e1,by rw[zXK hk];exact e2,r⟩,h.ne,λj u e=>?_⟩,by simp,λj hj _ _=>zXK hj⟩;rw[zXT];by_cases hj:j<A.length
 .rw[zXK hj]at e;exact zBQ (by omega) (h.wf j u e)
 .rw[zYN (by omega)]at e;exact hu u (zX4 e)
def Gen.lst (h:Gen A n k) (xs:List D) (hx:D.unds A.length xs=true):Nw A (A++[.lst xs]) n k:=h.app λu hu=>by
 have:u=.lst xs:=by simpa using hu
 subst this;exact zCX (by simp) hx
def Nw.setB (h:Nw M A n k) (g:Gen M n k) (hj:M.length<=j) (hu:MO.und A.length u=true):Nw M (A.set j u) n k:=by
 obtain ⟨hn,hk⟩:=g.lt;obtain ⟨c,s,e1,e2,r⟩:=h.gen.ex;refine ⟨⟨⟨c,s,by rw[zXh (by omega)];exact e1,by rw[zXh (by omega)];exact e2,r⟩,g.ne,λi v e=>?_⟩,by rw[zZW];exact h.len,λi hi h1 h2=>by rw[zXh (by omega)];exact h.fr i hi h1 h2⟩;rw[zZW];rw[zYm]at e;split at e
 .split at e
  .cases e;exact hu
  .cases e
 .exact h.gen.wf i v e
def Nw.wf0 (h:Nw M M' n k) (g:Gen M n k):∀ (j:Nat) u,j<M.length->M'[j]?=some u->MO.und M.length u=true:=λj u hj e=>by
 obtain ⟨hn,hk⟩:=g.lt;obtain ⟨c,s,e1,e2,r⟩:=h.gen.ex;by_cases q1:j=n
 .subst q1;rw[e1]at e;cases e;exact zPs hk
 .by_cases q2:j=k
  .subst q2;rw[e2]at e;cases e;exact zm _ _
  .rw[h.fr j hj q1 q2]at e;exact g.wf j u e
def Nw.trim (h:Nw M M' n k) (g:Gen M n k):Nw M (M'.take M.length) n k:=by
 obtain ⟨hn,hk⟩:=g.lt;have tk:∀ j,j<M.length->(M'.take M.length)[j]?=M'[j]?:=λj hj=>List.getElem?_take_of_lt hj;have tl:(M'.take M.length).length=M.length:=by have:=h.len;rw[zYb];omega
 obtain ⟨c,s,e1,e2,r⟩:=h.gen.ex;refine ⟨⟨⟨c,s,(tk n hn).trans e1,(tk k hk).trans e2,r⟩,g.ne,λj u e=>?_⟩,by omega,λj hj h1 h2=>(tk j hj).trans (h.fr j hj h1 h2)⟩;have hj:j<M.length:=by have:=(zXG.mp e).1;omega
 rw[tk j hj]at e;rw[tl];exact h.wf0 g j u hj e
def Nw.get (h:Nw M M' n k) (e:M[j]?=some u) (h1:j≠n) (h2:j≠k):M'[j]?=some u :=
 (h.fr j (zXG.mp e).1 h1 h2).trans e
def zJU (hf:f σ M=some (.dat (.ref n),M)) (hM:M[n]?=some (gS k s)):fOp zp f (fC (.str "great")) σ M=some (.dat (.ref k),M)/\fOp zp f (fC (.str "seed")) σ M=some (.dat (.int s),M):=by
 constructor
 .refine zJ hf rfl ?_;unfold zp zDT;dsimp only;rw[hM];rfl
 .refine zJ hf rfl ?_;unfold zp zDT;dsimp only;rw[hM];rfl
def zW7 (hM:M[n]?=some (gS k s)):zD2 M n (.str "seed") (.int s')=some (M.set n (gS k s')):=by
 unfold zD2;rw[hM];dsimp only[zCR];rw[zXS (show [(D.str (Str.ofString "great"),D.ref k),(D.str (Str.ofString "seed"),D.int s)].length<sizeLine from zY (n:=3) (by omega))];rfl
def zP8 (h1:fv σ M=some (.dat v,M)) (h2:fo σ M=some (.dat (.ref n),M)) (h3:fi σ M=some (.dat k,M)) (h4:zD2 M n k v=some M4) (q:P .nx σ M4):OkS (zBn fv fo fi σ M) P:=by
 refine ⟨.nx,σ,M4,?_,q⟩;unfold zBn toD;rw[h1];dsimp only;rw[h2];dsimp only;rw[h3];dsimp only;rw[h4]
def zEb (h:0<b):zDn (.dat (.int a)) (.dat (.int b)) M=some (.dat (.int (a % b)),M):=zW (zTd.mpr ⟨h,rfl,rfl⟩)
def zRM (h:0<b/\b<1073741824):zMt (.dat (.int a)) (.dat (.int b)) M=some (.dat (.int (a / b)),M):=zW (zTY.mpr ⟨h,rfl,rfl⟩)
def zNd {M:Mem} (h:Gen M n k) (h0:0<m) (h1:m<1073741824) :
  Ok (zf [.ref n,.int m] M) λd M'=>(∃ i,d=.int i/\0<=i/\i<m)/\Nw M M' n k/\M'.length=M.length:=by
 unfold zf;rw[zAE];unfold zFO;obtain ⟨c,s,e1,e2,e3,e4,e5,e6⟩:=h.ex;obtain ⟨hn,hk⟩:=h.lt;rw[zI,zA1];have ne:Ok (tst (fOp kNe (fOp zp (zC 0) (fC (.str "great"))) (zAb zH)) [some (.ref n),some (.int m),none,none] M) λb M'=>b=(!c.isEmpty)/\M'=M:=by
  refine zKG.mpr (zBb.mpr (zE (zJU rfl e1).1 (zEI.mpr (zAh.mpr ⟨zXz _,?_⟩))));rw[zS4 (zAJ e2) (by intro d e;cases e;rfl)];rw[zJy];exact ⟨by simp,rfl⟩
 refine Ok.mono ne ?_;rintro b M' ⟨rfl,rfl⟩;cases c with
 |nil=>
  simp only[List.isEmpty_nil,Bool.not_true,zYE,if_false];rw[zAi,zM,zI];have hs0:0<=(s*3935559000370003845+2691343689449507681) % 2305843009213693951:=Int.emod_nonneg _ (by decide);have hs1:(s*3935559000370003845+2691343689449507681) % 2305843009213693951<2305843009213693951:=Int.emod_lt_of_pos _ (by decide);have ev:fOp zDn (fOp zAI (fOp zM3 (fOp zp (zC 0) (fC (.str "seed"))) (fC (.int 3935559000370003845))) (fC (.int 2691343689449507681))) (fC (.int 2305843009213693951)) [some (.ref n),some (.int m),none,none] M'=some (.dat (.int ((s*3935559000370003845+2691343689449507681) % 2305843009213693951)),M') :=
   zJ (zJ (zJ (zJU rfl e1).2 rfl (zW (zQA.mpr ⟨by simp[zPA] <;> omega,rfl,rfl⟩))) rfl rfl) rfl (zEb (by decide))
  generalize (s*3935559000370003845+2691343689449507681) % 2305843009213693951=s' at hs0 hs1 ev;refine zP8 ev rfl rfl (zW7 e1) ?_;rw[zM];have P:=h.put (c:=[]) (s:=s') (λ_ h=>by cases h) (by simp) hs0 hs1;rw[zLA (show M'[k]?=some (.lst (([]:List Int).map D.int))from e2)]at P;have e1':(M'.set n (gS k s'))[n]?=some (gS k s'):=zX7 hn;refine zC8 (zJ (zJU rfl e1').2 rfl (zRM ⟨by decide,by decide⟩)) ?_;have hm0:0<=s' / 65537:=Int.ediv_nonneg hs0 (by decide);have hm1:s' / 65537<2305843009213693951:=by omega
  refine zAZ (zJ (zJ (zJ (zJ (x:=.dat (.int (s' / 65537))) (y:=.dat (.int (s' / 65537))) rfl rfl (zW (zQA.mpr ⟨by simp[zPA] <;> omega,rfl,rfl⟩))) rfl (zEb (by decide))) rfl (zRM ⟨by decide,by decide⟩)) rfl (zEb h0)) ?_;exact ⟨⟨_,rfl,Int.emod_nonneg _ (by omega),Int.emod_lt_of_pos _ h0⟩,P,by simp⟩
 |cons x c=>
  simp only[List.isEmpty_cons,Bool.not_false,if_true];have hd:∀ {x:Int} {c:List Int} {M:Mem} {σ:Sd},zC 0 σ M=some (.dat (.ref n),M)->M[n]?=some (gS k s)->M[k]?=some (.lst ((x::c).map D.int))->fOp kIx (fOp zp (zC 0) (fC (.str "great"))) (fC (.int 0)) σ M=some (.dat (.int x),M):=λ{x c M σ} hf hM hK=>
   zJ (zJU hf hM).1 rfl (zAx (za hK) at0)
  refine zC8 (zJ (hd rfl e1 e2) rfl (zEb h0)) ?_;rw[zI,zNm];refine zBb.mpr (zE (hd rfl e1 e2) (zAa.mpr ⟨_,rfl,zTY.mpr ⟨⟨h0,h1⟩,?_⟩⟩));rw[zL];refine zE (zJU rfl e1).1 (zFt.mpr ?_);rw[zL];refine ⟨_,zK0 (k:=0) e2 (by simp),?_⟩;rw[zM,zI];have hx:=e3 x zXR;have hq:0<=x / m:=Int.ediv_nonneg hx (by omega);have e2':(M'.set k (.lst (((x / m)::c).map D.int)))[k]?=some (.lst (((x / m)::c).map D.int)):=zX7 hk;have e1':(M'.set k (.lst (((x / m)::c).map D.int)))[n]?=some (gS k s):=by rw[zXh (Ne.symm h.ne)];exact e1
  rw[zA1];refine zE (zo (zJ (hd rfl e1' e2') rfl (zW (zKt.mpr ⟨rfl,rfl⟩)))) ?_;have fin:∀ (c':Ye),(∀ y∈c',0<=y)->c'.length<=63->Nw M' (M'.set k (.lst (c'.map D.int))) n k:=λc' q1 q2=>by
   have P:=h.put (c:=c') (s:=s) q1 q2 e5 e6;rw[zLA (k:=n) (by rw[zXh (Ne.symm h.ne)];exact e1)]at P;exact P
  by_cases hz:x / m=0
  .rw[zXS (by simpa using hz),zBC];refine zFz.mpr (zE (zJU rfl e1').1 ⟨⟨_,zAJ e2'⟩,zy.mpr (zAY.mpr (zFt.mpr (zL.mpr (zAh.mpr ?_))))⟩);rw[zXW]at e2' ⊢;rw[zTr e2',zM];refine zAZ rfl ⟨⟨_,rfl,Int.emod_nonneg _ (by omega),Int.emod_lt_of_pos _ h0⟩,?_,by simp⟩;rw[List.set_set];exact fin c (λy hy=>e3 y (zXQ _ hy)) (by simp at e4;omega)
  .rw[zXV (by simpa using hz),zAi,zM];refine zAZ rfl ⟨⟨_,rfl,Int.emod_nonneg _ (by omega),Int.emod_lt_of_pos _ h0⟩,fin ((x / m)::c) (λy hy=>?_) (by simpa using e4),by simp⟩;rcases zXP.mp hy with z|z
   .subst z;exact hq
   .exact e3 y (zXQ _ z)
def zAz (h:Gen M n k) (ha:fa σ M=some (.dat (.ref n),M)) (hb:fb σ M=some (.dat (.int m),M)) (h0:0<m) (h1:m<1073741824)
  (q:∀ i M',0<=i->i<m->Nw M M' n k->M'.length=M.length->P (.dat (.int i)) M'):Ok (zP zf (zD (toD fa) (zD (toD fb) zH)) σ M) P:=by
 rw[zAj,zy,zAY];refine ⟨_,_,ha,?_⟩;rw[zL,zy,zAY];refine ⟨_,_,hb,?_⟩;rw[zL,zAh];refine Ok.mono (zNd h h0 h1) ?_;rintro d M' ⟨⟨i,rfl,i0,i1⟩,nx,hl⟩;exact q i M' i0 i1 nx hl
def zRk {ns:Ye} (h:ns.length<=63):Ok (zCH [.ref 0] [.fro (ns.map D.int)]) λd M'=>d=.ref 1/\Gen M' 1 2/\M'[0]?=some (.fro (ns.map D.int)):=by
 unfold zCH;rw[zAE];unfold zEA;have e0:([.fro (ns.map D.int)]:Mem)[0]?=some (.fro (ns.map D.int)):=rfl;obtain ⟨cut,ec,lc⟩:=zRE ns none (some 63);have sl:∀ {σ:Sd} {us:Mem},σ[0]?=some (some (.ref 0))->fSl (zC 0) zBz (zBY (fC (.int 63))) σ (.fro (ns.map D.int)::us)=some (.fl (cut.map D.int),.fro (ns.map D.int)::us):=λ{σ us} hσ=>by
  refine zW (zWF.mpr (zAa.mpr ⟨_,hσ,zRR.mpr (zRv.mpr (zFt.mpr (zQv.mpr ?_)))⟩));rw[zUn (zNc (xs:=ns.map D.int) rfl) rfl,ec];exact ⟨rfl,rfl⟩
 refine zC8 rfl ?_;rw[zI,zAs];refine ⟨_,_,_,zCt (sl rfl) zDC,?_⟩;refine zAf (I:=λr σ M=>M=[.fro (ns.map D.int)]/\(∃ c:List Int,r=c.map D.int) /\ ∃ s y,σ=[some (.ref 0),some (.int s),y]/\0<=s/\s<2305843009213693951) ?_ ?_ _ _ _ ⟨rfl,⟨cut,rfl⟩,_,none,rfl,by decide,by decide⟩
 .rintro x r σ M ⟨rfl,⟨c,hc⟩,s,y,rfl,h0,h1⟩;obtain ⟨z,c',rfl,rfl,rfl⟩:=zBF hc;refine ⟨zAK,_,rfl,?_⟩;rw[zT];refine zBb.mpr (zBb.mpr (zBb.mpr (zBb.mpr (zAa.mpr ⟨_,rfl,zFt.mpr (zQA.mpr ⟨by simp[zPA],?_⟩)⟩))));refine zAa.mpr ⟨_,rfl,zGA.mpr (zFt.mpr (zGA.mpr (zFt.mpr (zTd.mpr ⟨by decide,?_⟩))))⟩;rw[zL];exact ⟨rfl,⟨c',rfl⟩,_,_,rfl,Int.emod_nonneg _ (by decide),Int.emod_lt_of_pos _ (by decide)⟩
 .rintro σ M ⟨rfl,_,s,y,rfl,h0,h1⟩;refine ⟨zAK,?_⟩;rw[zM,zBI];have cp:Ok (zi [2] (zu (fSl (zC 0) zBz (zBY (fC (.int 63))))) (gN 2) (tst (fOp kGe (zC 2) (fOp zOe (fC (.int 10)) (fC (.int 18))))) (zC 2) [some (.ref 0),some (.int s),y] [.fro (ns.map D.int),.dict []]) λx M=>M=[.fro (ns.map D.int),.dict []] /\ ∃ b:List Int,x=.fl (b.map D.int)/\b.length<=63 /\ ∀ x∈b,0<=x:=by
   rw[zC0];refine ⟨_,_,_,zCt (sl rfl) zDC,by rw[zXM];exact zY (by omega),?_⟩;refine Ok.mono (zBv (I:=λr acc M=>M=[.fro (ns.map D.int),.dict []]/\(∃ c:List Int,r=c.map D.int)/\r.length+acc.length<=63 /\ ∃ b:List Int,acc=b.map D.int /\ ∀ x∈b,0<=x) (Q:=λacc M=>M=[.fro (ns.map D.int),.dict []]/\acc.length<=63 /\ ∃ b:List Int,acc=b.map D.int /\ ∀ x∈b,0<=x) ?_ ?_ _ [] _ ⟨rfl,⟨cut,rfl⟩,by simp;omega,[],rfl,λ_ h=>by cases h⟩) ?_
   .rintro x r acc M ⟨rfl,⟨c,hc⟩,hl,b,rfl,hb⟩;obtain ⟨z,c',rfl,rfl,rfl⟩:=zBF hc;refine ⟨zAK,_,rfl,?_⟩;refine zKG.mpr (zBb.mpr (zAa.mpr ⟨_,rfl,zBb.mpr (zFt.mpr (zFt.mpr (zWP.mpr ⟨by decide,zW1.mpr (zJy.mpr ?_)⟩)))⟩));by_cases hz:(10:Int) ^ (18:Int).toNat<=z
    .rw[zXS (by simpa using hz)];have big:(0:Int)<=10 ^ (18:Int).toNat:=by decide
     refine zAa.mpr ⟨_,rfl,zL.mpr ⟨rfl,⟨c',rfl⟩,?_,b++[z],by simp,?_⟩⟩
     .simp at hl ⊢;omega
     .intro y hy;rcases zXd.mp hy with q|q
      .exact hb y q
      .have:y=z:=by simpa using q
       rw[this];exact Int.le_trans big hz
    .rw[zXV (by simpa using hz)];exact ⟨rfl,⟨c',rfl⟩,by simp at hl ⊢;omega,b,rfl,hb⟩
   .rintro acc M ⟨rfl,_,hl,hb⟩;exact ⟨zAK,rfl,by simpa using hl,hb⟩
   .rintro ys M ⟨rfl,hl,b,hb,hp⟩;rw[zZV]at hb hl;subst hb;exact ⟨rfl,b,rfl,by simpa using hl,hp⟩
  obtain ⟨x,M1,ex,rfl,b,rfl,hl,hb⟩:=cp;refine zE (M:=[.fro (ns.map D.int),gS 2 s,.lst (b.map D.int)]) (a:=.dat (.ref 1)) ?_ ?_
  .unfold zKX;have e1:toD (zi [2] (zu (fSl (zC 0) zBz (zBY (fC (.int 63))))) (gN 2) (tst (fOp kGe (zC 2) (fOp zOe (fC (.int 10)) (fC (.int 18))))) (zC 2)) [some (.ref 0),some (.int s),y] ([.fro (ns.map D.int)]++[.dict []])=some (.ref 2,[.fro (ns.map D.int),.dict [],.lst (b.map D.int)]):=by
    unfold toD;rw[show ([.fro (ns.map D.int)]++[.dict []]:Mem)=[.fro (ns.map D.int),.dict []]from rfl,ex];rfl
   rw[e1];rfl
  .rw[zL];refine ⟨rfl,⟨⟨b,s,rfl,rfl,hb,hl,h0,h1⟩,by decide,?_⟩,rfl⟩;intro j u e;match j,e with
   |0,e=>cases e;exact zm _ _
   |1,e=>cases e;rfl
   |2,e=>cases e;exact zm _ _
   |j+3,e=>simp at e
def zDh:FS:=(zX (zq 3 (zi [4] (zAA (zD (toD (zC 1)) zH)) (gN 4) zv (zP zf (zD (toD (zC 0)) (zD (toD (zC 1)) zH)))))
  (zX (zPQ (zBU 5 6) (zAd (zD (toD (fOp kIx (zC 3) (fC (.int 0)))) (zD (toD (fOp kIx (zC 3) (zSF (fC (.int 1))))) zH))))
  (zX (sIf (tst (fOp kEq (zC 2) (fC (.int 0)))) (zAS (zC 3)) zBB)
  (zX (sIf (tst (fOp kEq (zC 2) (fC (.int 5)))) (zAS (fOp zJl (zAb (zD (toD (zC 5)) zH)) (zC 1))) zBB)
  (zX (sIf (tst (fOp kEq (zC 2) (fC (.int 6)))) (zAS (zi [4,7] (zD4 (zC 3)) (zBU 4 7) zv (vIf (tst (fOp kLe (zC 4) (zC 5))) (fOp zDn (zC 7) (fOp zAI (zC 5) (fC (.int 1)))) (fOp zAI (fOp zAI (zC 5) (fC (.int 1))) (fOp zDn (zC 7) (fOp zGj (fOp zGj (zC 1) (zC 5)) (fC (.int 1)))))))) zBB)
  (zX (zq 8 (zFw (zC 1)))
  (zX (sIf (tst (fOp kEq (zC 2) (fC (.int 3)))) (zAS (fOp zGX (fSl (zC 8) (zBY (fC (.int 1))) zBz) (fSl (zC 8) zBz (zBY (fC (.int 1)))))) zBB)
  (zX (sIf (tst (fOp kLt (zC 2) (fC (.int 3)))) (zX (zq 9 (zFw (zC 1)))
  (zq 8 (zi [7] (zu (zC 3)) (gN 7) zv (fM zIb (zC 9) (zD (toD (fOp zDn (zC 7) (fB zAX (zQ (zC 9) ze)))) zH))))) zBB)
  (zX (sIf (tst (fOp (kIn false) (zC 2) (zAd (zD (toD (fC (.int 2))) (zD (toD (fC (.int 4))) zH))))) (zMV (fOp kIx (zC 8) (zC 6)) (zC 8) (zC 5)) zBB)
  (zAS (zC 8)))))))))))
def zAo:FF:=zBV 10 zDh
def zDA:FS:=(zX (zq 3 (fOp zAI (fC (.int 1)) (zP zf (zD (toD (zC 0)) (zD (toD (fOp kIx (zAb (zD (toD (fC (.int 3))) (zD (toD (fC (.int 7))) (zD (toD (zC 1)) zH)))) (zP zf (zD (toD (zC 0)) (zD (toD (fC (.int 3))) zH))))) zH)))))
  (zX (zq 4 (fOp zAI (fC (.int 1)) (zP zf (zD (toD (zC 0)) (zD (toD (zC 2)) zH)))))
  (zX (zq 5 (zP zf (zD (toD (zC 0)) (zD (toD (fC (.int 10))) zH))))
  (zX (zq 6 (zAb zH))
  (zX (zBw (zAA (zD (toD (zC 4)) zH)) (gN 7) (zX (zq 8 (fOp kIx (zAb (zD (toD (fC (.int 3))) (zD (toD (fC (.int 4))) zH))) (fOp zDn (zC 7) (fC (.int 2)))))
  (zX (sIf (tst (fOp kLt (zC 5) (fC (.int 7)))) (zq 8 (zC 5)) zBB)
  (zX (sIf (tst (fOp kEq (zC 5) (fC (.int 9)))) (zq 8 (zP zf (zD (toD (zC 0)) (zD (toD (fC (.int 7))) zH)))) zBB)
  (zAk (fM zr (zC 6) (zD (toD (zP zAo (zD (toD (zC 0)) (zD (toD (zC 3)) (zD (toD (zC 8)) zH))))) zH)))))))
  (zX (sIf (tst (fOp kEq (zC 5) (fC (.int 8)))) (zq 6 (fOp zJl (fSl (zC 6) zBz (zBY (fC (.int 1)))) (zC 4))) zBB)
  (zAS (fB zA2 (zQ (zi [10] (zAA (zD (toD (zC 3)) zH)) (gN 10) zv (fB zA2 (zQ (zi [9] (zu (zC 6)) (gN 9) zv (fOp kIx (zC 9) (zC 10))) ze))) ze)))))))))
def zBD:FF:=zFd (zBV 11 zDA)
def Col (many:Int) (c:Ye):Prop:=(c.length:Int)=many /\ ∀ x∈c,0<=x/\x<many
def zLI (h:Gen M n k) (h0:0<few) (h1:few<1073741824) (m0:0<=many) (m1:many<=90000)
  (hf:f σ M=some (.dat (.int many),M)) (ha:∀ (x:D) (M:Mem),fa ((zBN own σ).set i (some x)) M=some (.dat (.ref n),M)) (hb:∀ (x:D) (M:Mem),fb ((zBN own σ).set i (some x)) M=some (.dat (.int few),M)) :
  Ok (zi own (zAA (zD (toD f) zH)) (gN i) zv (zP zf (zD (toD fa) (zD (toD fb) zH))) σ M) λx M'=>(∃ c:List Int,x=.fl (c.map D.int)/\(c.length:Int)=many /\ ∀ y∈c,0<=y/\y<few)/\Nw M M' n k/\M'.length=M.length:=by
 refine zC0.mpr ⟨_,_,_,zBt hf m0 (by omega),by rw[zC9];exact zY (by omega),?_⟩;refine Ok.mono (zUL (n:=many.toNat) (I:=λj acc M2=>(∃ c:List Int,acc=c.map D.int/\c.length=j /\ ∀ y∈c,0<=y/\y<few)/\Nw M M2 n k/\M2.length=M.length) ?_ ⟨⟨[],rfl,rfl,λ_ h=>by cases h⟩,Nw.refl h,rfl⟩) ?_
 .rintro j acc M2 hj ⟨⟨c,rfl,hcl,hc⟩,nw,hl⟩;refine ⟨_,rfl,?_⟩;refine zAz nw.gen (ha _ _) (hb _ _) h0 h1 λg M3 g0 g1 nw3 hl3=>?_;rw[zL];refine ⟨⟨c++[g],by simp,by simp[hcl],λz hz=>?_⟩,nw.trans nw3,by omega⟩;rcases zXd.mp hz with q|q
  .exact hc z q
  .have:z=g:=by simpa using q
   subst this;exact ⟨g0,g1⟩
 .rintro ys M2 ⟨⟨c,rfl,hcl,hc⟩,nw,hl⟩;exact ⟨⟨c,rfl,by omega,hc⟩,nw,hl⟩
def zNh (j:Nat):upD j=((List.range j).map λ(k:Nat)=>(k:Int)).map D.int:=by
 unfold upD;rw[zXb];rfl
def zTv (h:0<=many):Col many ((List.range many.toNat).map λ(k:Nat)=>(k:Int)):=by
 refine ⟨by simp;omega,λx hx=>?_⟩;obtain ⟨k,hk,rfl⟩:=zXU.mp hx;have:=zXr.mp hk;omega
def zb (h:P (.ref M.length) (M++[.lst xs])):zGx P (.fl xs) M:=h
def zS (A:Mem) (u:MO):(A++[u])[A.length]?=some u:=by simp
def zRh (h:Col many c) (hj:j<c.length):Col many (c.set i (c.getD j 0)):=by
 refine ⟨by rw[zZW];exact h.1,λx hx=>?_⟩;rcases List.mem_or_eq_of_mem_set hx with q|q
 .exact h.2 x q
 .rw[q,zXI,zXH hj];exact h.2 _ (zXl hj)
def zJ1 (h:Col many c) (hj:j<c.length):0<=c.getD j 0/\c.getD j 0<many:=by
 rw[zXI,zXH hj];exact h.2 _ (zXl hj)
def zFa (xs:Ye) (i:Nat):(xs.eraseIdx i).map D.int=(xs.map D.int).eraseIdx i:=by
 induction xs generalizing i with
 |nil=>rfl
 |cons x r ih=>
  cases i with
  |zero=>rfl
  |succ i=>simp[ih]
def zJH:L3.zDp xs none (some 1)=xs.take 1:=by
 have s:HT.sIx xs.length xs.length (some 1)=min 1 xs.length:=HT.zHG xs.length xs.length 1;have z:HT.sIx xs.length 0 none=0:=rfl;unfold L3.zDp;rw[s,z];simp only[List.drop_zero,Nat.sub_zero];cases xs with
 |nil=>rfl
 |cons a r=>simp
def slL {f:FE} {fl fh:FO} {σ:Sd} {M:Mem} {x:EV} {xs:List D} {lo hi:Ys} (hf:f σ M=some (x,M)) (ht:zCP x=none) (hx:zBa M x=some xs) (hl:fl σ M=some (lo,M)) (hh:fh σ M=some (hi,M)):fSl f fl fh σ M=some (.fl (L3.zDp xs lo hi),M):=by
 unfold fSl;rw[hf];dsimp only;rw[hl];dsimp only;rw[hh];dsimp only;unfold kSl;rw[ht];dsimp only;rw[hx]
def zOb {M:Mem} {n k:Nat} (h:Gen M n k) {many way:Int} (m0:0<many) (m1:many<=1000) :
  Ok (zAo [.ref n,.int many,.int way] M) λd M'=>∃ j c,d=.ref j/\M'[j]?=some (.lst (c.map D.int))/\Col many c/\M.length<=j/\Nw M M' n k:=by
 obtain ⟨hn,hk⟩:=h.lt;unfold zAo;rw[zAE];unfold zDh;rw[zI,zT];refine Ok.mono (zLI h m0 (by omega) (by omega) (by omega) rfl (λ_ _=>rfl) (λ_ _=>rfl)) ?_;rintro x M1 ⟨⟨c,rfl,hcl,hc⟩,nw1,hl1⟩;refine zb ?_;rw[zM];have nw2:=nw1.trans (nw1.gen.lst (c.map D.int) (zm _ _));have e3:(M1++[MO.lst (c.map D.int)])[M1.length]?=some (.lst (c.map D.int)):=zS _ _;generalize hM2:M1++[MO.lst (c.map D.int)]=M2 at nw2 e3;have hj3:M.length<=M1.length:=nw1.len;generalize hj:M1.length=j3 at e3 hj3;have cl:c.length=many.toNat:=by omega
 have cc:Col many c:=⟨hcl,hc⟩;have hfst:atI (c.map D.int) 0=some (.int (c.getD 0 0)):=zEK (by decide) (by omega);have hlst:atI (c.map D.int) (-1)=some (.int (c.getD (c.length-1) 0)):=by
  have hne:c≠[]:=by intro e;rw[e]at cl;simp at cl;omega
  have e:=(List.dropLast_concat_getLast hne).symm;have eg:c.getD (c.length-1) 0=c.getLast hne:=by
   rw[zXI,zXH (by omega),List.getLast_eq_getElem];rfl
  rw[eg];generalize c.getLast hne=z at e;rw[e,zX5];exact L2.zPj _ _
 obtain ⟨o0,o1⟩:=zJ1 cc (j:=0) (by omega);obtain ⟨p0,p1⟩:=zJ1 cc (j:=c.length-1) (by omega);generalize c.getD 0 0=one at hfst o0 o1;generalize c.getD (c.length-1) 0=oth at hlst p0 p1;rw[zI,zNb];have etup:zAd (zD (toD (fOp kIx (zC 3) (fC (.int 0)))) (zD (toD (fOp kIx (zC 3) (zSF (fC (.int 1))))) zH)) [some (.ref n),some (.int many),some (.int way),some (.ref j3),none,none,none,none,none,none] M2=some (.dat (.tup [.int one,.int oth]),M2):=by
  unfold zAd;rw[zt (zJ rfl rfl (zAx (za e3) hfst)) (zc (zJ (y:=.dat (.int (-1))) rfl rfl (zAx (za e3) hlst)))];dsimp only;rw[zXS (zY (by simp))]
 refine zE etup ?_;rw[zL];refine ⟨_,rfl,?_⟩;rw[zM];have isw:∀ (j:Int) (σ:Sd) (M:Mem),σ[2]?=some (some (.int way))->tst (fOp kEq (zC 2) (fC (.int j))) σ M=some (decide (way=j),M):=λj σ M e=>by
  have v4:zC 2 σ M=some (.dat (.int way),M):=by unfold zC;rw[e]
  exact zo (zJ v4 rfl (zW (zKt.mpr ⟨rfl,rfl⟩)))
 have new:∀ (A:Mem) (c':Ye),Nw M A n k->Col many c' -> ∃ j c,D.ref A.length=D.ref j/\(A++[MO.lst (c'.map D.int)])[j]?=some (.lst (c.map D.int))/\Col many c/\M.length<=j/\Nw M (A++[MO.lst (c'.map D.int)]) n k:=λA c' nw hc'=>
  ⟨A.length,c',rfl,zS _ _,hc',nw.len,nw.trans (nw.gen.lst _ (zm _ _))⟩
 rw[zI,zA1];refine zE (isw 0 _ _ rfl) ?_;by_cases w0:way=0
 .rw[zXS (by simpa using w0)];exact zAZ rfl ⟨j3,c,rfl,e3,cc,hj3,nw2⟩
 rw[zXV (by simpa using w0),zAi,zM,zI,zA1];refine zE (isw 5 _ _ rfl) ?_;by_cases w5:way=5
 .rw[zXS (by simpa using w5),zBI];refine zBb.mpr (zEI.mpr (zy.mpr (zAY.mpr (zAa.mpr ⟨_,rfl,zL.mpr (zAh.mpr ⟨zY (by simp),zAa.mpr ⟨_,rfl,?_⟩⟩)⟩))));have er:zJl (.fl [.int one]) (.dat (.int many)) M2=some (.fl ((List.replicate many.toNat one).map D.int),M2):=by
   unfold zJl;dsimp only[zCP,zKb];rw[zXS ⟨by omega,by omega,zY (by simp;omega)⟩];have:(List.replicate many.toNat [D.int one]).flatten=(List.replicate many.toNat one).map D.int:=by
    rw[List.map_replicate];generalize many.toNat=q;induction q with
    |zero=>rfl
    |succ q ih=>rw[zYW,zZC,ih,zYW];rfl
   rw[this]
  refine zE er (zb ?_);rw[zJ4];refine new M2 _ nw2 ⟨by simp;omega,λx hx=>?_⟩;rw[(List.mem_replicate.mp hx).2];exact ⟨o0,o1⟩
 rw[zXV (by simpa using w5),zAi,zM,zI,zA1];refine zE (isw 6 _ _ rfl) ?_;by_cases w6:way=6
 .rw[zXS (by simpa using w6),zBI];have hen:zD4 (zC 3) [some (.ref n),some (.int many),some (.int way),some (.ref j3),none,some (.int one),some (.int oth),none,none,none] M2=some (((List.range c.length).zip c).map λq=>D.tup [.int (q.1:Nat),.int q.2],zCq (.dat (.ref j3)) (c.map D.int),M2):=by
   unfold zD4;rw[show zC 3 [some (.ref n),some (.int many),some (.int way),some (.ref j3),none,some (.int one),some (.int oth),none,none,none] M2=some (.dat (.ref j3),M2)from rfl];dsimp only;rw[za e3];dsimp only;unfold zIf;rw[zXM,List.zip_map_right,zXb];rfl
  have step:∀ q∈(List.range c.length).zip c,(0<=(if (q.1:Int)<=one then q.2 % (one+1) else one+1+q.2 % (many-one-1))/\(if (q.1:Int)<=one then q.2 % (one+1) else one+1+q.2 % (many-one-1))<many)/\(one<(q.1:Int)->0<many-one-1):=by
   intro q hq;have hq1:=zXr.mp (List.of_mem_zip hq).1;by_cases hle:(q.1:Int)<=one
   .rw[zXS hle];have:=Int.emod_nonneg q.2 (show one+1≠0 by omega);have:=Int.emod_lt_of_pos q.2 (show 0<one+1 by omega);omega
   .rw[zXV hle];have h1:0<many-one-1:=by omega
    have:=Int.emod_nonneg q.2 (show many-one-1≠0 by omega);have:=Int.emod_lt_of_pos q.2 h1;omega
  have ec:=zAg (own:=[4,7]) (g:=zBU 4 7) (te:=vIf (tst (fOp kLe (zC 4) (zC 5))) (fOp zDn (zC 7) (fOp zAI (zC 5) (fC (.int 1)))) (fOp zAI (fOp zAI (zC 5) (fC (.int 1))) (fOp zDn (zC 7) (fOp zGj (fOp zGj (zC 1) (zC 5)) (fC (.int 1)))))) ((List.range c.length).zip c) (λq=>D.tup [.int (q.1:Nat),.int q.2]) (λq=> .int (if (q.1:Int)<=one then q.2 % (one+1) else one+1+q.2 % (many-one-1))) hen ?_ ?_ ?_
  .refine zE ec (zb ?_);rw[zJ4,show (λq:Nat × Int=>D.int (if (q.1:Int)<=one then q.2 % (one+1) else one+1+q.2 % (many-one-1)))=D.int∘(λq:Nat × Int=>(if (q.1:Int)<=one then q.2 % (one+1) else one+1+q.2 % (many-one-1)))from rfl,<-zXb];refine new M2 _ nw2 ⟨by simp;omega,λx hx=>?_⟩;obtain ⟨q,hq,rfl⟩:=zXU.mp hx;exact (step q hq).1
  .exact .inl e3
  .simp;omega
  .intro q hq;refine ⟨_,rfl,?_⟩;have hs:=step q hq;unfold vIf;have ht:tst (fOp kLe (zC 4) (zC 5)) [some (.ref n),some (.int many),some (.int way),some (.ref j3),some (.int (q.1:Nat)),some (.int one),some (.int oth),some (.int q.2),none,none] M2=some (decide ((q.1:Int)<=one),M2):=zo (zJ rfl rfl (zW (zW8.mpr ⟨rfl,rfl⟩)));show (match tst (fOp kLe (zC 4) (zC 5)) [some (.ref n),some (.int many),some (.int way),some (.ref j3),some (.int (q.1:Nat)),some (.int one),some (.int oth),some (.int q.2),none,none] M2 with|some (true,M1)=>_|some (false,M1)=>_|none=>none)=_;rw[ht];by_cases hle:(q.1:Int)<=one
   .rw[zYL hle,zXS hle];exact zJ (x:=.dat (.int q.2)) (y:=.dat (.int (one+1))) rfl rfl (zEb (by omega))
   .rw[zXm hle,zXV hle];exact zJ (x:=.dat (.int (one+1))) rfl (zJ (x:=.dat (.int q.2)) (y:=.dat (.int (many-one-1))) rfl rfl (zEb (hs.2 (by omega)))) rfl
 rw[zXV (by simpa using w6),zAi,zM,zI,zT];have elr:∀ {σ:Sd} {A:Mem},σ[1]?=some (some (.int many))->zFw (zC 1) σ A=some (.fl (((List.range many.toNat).map λ(k:Nat)=>(k:Int)).map D.int),A):=λ{σ A} e=>by
  unfold zFw zC;rw[e];dsimp only;rw[zXS ⟨by omega,by omega⟩,zNh]
 refine zE (elr rfl) (zb ?_);rw[zM];have nw4:=nw2.trans (nw2.gen.lst (((List.range many.toNat).map λ(k:Nat)=>(k:Int)).map D.int) (zm _ _));have e8:(M2++[MO.lst (((List.range many.toNat).map λ(k:Nat)=>(k:Int)).map D.int)])[M2.length]?=some (.lst (((List.range many.toNat).map λ(k:Nat)=>(k:Int)).map D.int)):=zS _ _;have e3':(M2++[MO.lst (((List.range many.toNat).map λ(k:Nat)=>(k:Int)).map D.int)])[j3]?=some (.lst (c.map D.int)):=by
  rw[zXK (zXG.mp e3).1];exact e3
 have hj8:M.length<=M2.length:=nw2.len;have hj38:j3<M2.length:=(zXG.mp e3).1;generalize hM4:M2++[MO.lst (((List.range many.toNat).map λ(k:Nat)=>(k:Int)).map D.int)]=M4 at nw4 e8 e3';generalize hj8':M2.length=j8 at e8 hj8 hj38;have cu:=zTv (many:=many) (by omega);generalize hup:((List.range many.toNat).map λ(k:Nat)=>(k:Int))=up at e8 cu elr;rw[zI,zA1];refine zE (isw 3 _ _ rfl) ?_;by_cases w3:way=3
 .rw[zXS (by simpa using w3),zBI];have s1:=slL (f:=zC 8) (fl:=zBY (fC (.int 1))) (fh:=zBz) (σ:=[some (.ref n),some (.int many),some (.int way),some (.ref j3),none,some (.int one),some (.int oth),none,some (.ref j8),none]) rfl rfl (zAJ e8) (oS (i:=1) rfl) rfl;have s2:=slL (f:=zC 8) (fl:=zBz) (fh:=zBY (fC (.int 1))) (σ:=[some (.ref n),some (.int many),some (.int way),some (.ref j3),none,some (.int one),some (.int oth),none,some (.ref j8),none]) rfl rfl (zAJ e8) rfl (oS (i:=1) rfl);have hul:up.length=many.toNat:=by have:=cu.1;omega
  rw[zPI (by decide) (by rw[zXM];omega)]at s1;rw[zJH]at s2;refine zBb.mpr (zE s1 (zE s2 (zND rfl rfl (by simp;omega) (zb ?_))));rw[zJ4,show (1:Int).toNat=1 from rfl,<-List.map_drop,<-List.map_take,<-zX5];refine new M4 _ nw4 ⟨by simp;omega,λx hx=>?_⟩;rcases zXd.mp hx with q|q
  .exact cu.2 x (List.mem_of_mem_drop q)
  .exact cu.2 x (List.mem_of_mem_take q)
 rw[zXV (by simpa using w3),zAi,zM,zI]
 have tail:∀ (y7 y9:Option D) (A:Mem) (j:Nat) (c':Ye),Nw M A n k->M.length<=j->A[j]?=some (.lst (c'.map D.int))->Col many c' ->
   OkS (zX (sIf (tst (fOp (kIn false) (zC 2) (zAd (zD (toD (fC (.int 2))) (zD (toD (fC (.int 4))) zH))))) (zMV (fOp kIx (zC 8) (zC 6)) (zC 8) (zC 5)) zBB) (zAS (zC 8)) [some (.ref n),some (.int many),some (.int way),some (.ref j3),none,some (.int one),some (.int oth),y7,some (.ref j),y9] A) λo x M1=>match o with|.ret d=>∃ j c,d=.ref j/\M1[j]?=some (.lst (c.map D.int))/\Col many c/\M.length<=j/\Nw M M1 n k|.nx=>∃ j c,D.non=.ref j/\M1[j]?=some (.lst (c.map D.int))/\Col many c/\M.length<=j/\Nw M M1 n k|_=>False:=by
  intro y7 y9 A j c' nw hj ej hc';rw[zI,zA1];have hin:tst (fOp (kIn false) (zC 2) (zAd (zD (toD (fC (.int 2))) (zD (toD (fC (.int 4))) zH)))) [some (.ref n),some (.int many),some (.int way),some (.ref j3),none,some (.int one),some (.int oth),y7,some (.ref j),y9] A=some ([2,4].any λy:Int=>decide (y=way),A):=by
   refine zo (zJ (x:=.dat (.int way)) (y:=.dat (.tup [.int 2,.int 4])) rfl ?_ rfl);unfold zAd;rw[zt (d:=.int 2) rfl (zc (d:=.int 4) rfl)];dsimp only;rw[zXS (zY (by simp))]
  refine zE hin ?_;have hcl':c'.length=many.toNat:=by have:=hc'.1;omega
  by_cases hb:([2,4].any λy:Int=>decide (y=way))=true
  .rw[zXS hb,zNm];refine zE (zJ (x:=.dat (.ref j)) (y:=.dat (.int oth)) rfl rfl (zAx (za ej) (zEK p0 (by omega)))) ?_;rw[zL];refine zAa.mpr ⟨_,rfl,zAa.mpr ⟨_,rfl,?_⟩⟩;rw[zL];have eo:one=((one.toNat:Nat):Int):=by omega
   refine ⟨A.set j (.lst ((c'.map D.int).set one.toNat (.int (c'.getD oth.toNat 0)))),?_,?_⟩
   .have:=zK0 (k:=one.toNat) (d:=.int (c'.getD oth.toNat 0)) ej (by rw[zXM];omega);rw[<-eo]at this;exact this
   rw[zM];have hlj:j<A.length:=(zXG.mp ej).1;refine zAZ rfl ⟨j,c'.set one.toNat (c'.getD oth.toNat 0),rfl,?_,zRh hc' (by omega),hj,?_⟩
   .rw[zX7 hlj,List.map_set]
   .refine nw.setB h hj ?_;rw[<-List.map_set];exact zm _ _
  .rw[zXV hb,zAi,zM];exact zAZ rfl ⟨j,c',rfl,ej,hc',hj,nw⟩
 rw[zA1];refine zE (M:=M4) (a:=decide (way<3)) (zo (zJ (x:=.dat (.int way)) rfl rfl (zW (zVG.mpr ⟨rfl,rfl⟩)))) ?_;by_cases wl:way<3
 .rw[zXS (by simpa using wl),zI,zT];refine zE (elr rfl) (zb ?_);rw[zM,zT];have nw5:=nw4.trans (nw4.gen.lst (up.map D.int) (zm _ _));have e9:(M4++[MO.lst (up.map D.int)])[M4.length]?=some (.lst (up.map D.int)):=zS _ _;have e3'':(M4++[MO.lst (up.map D.int)])[j3]?=some (.lst (c.map D.int)):=by
   rw[zXK (zXG.mp e3').1];exact e3'
  have hj9:M.length<=M4.length:=nw4.len;have hj39:j3<M4.length:=(zXG.mp e3').1;generalize hM5:M4++[MO.lst (up.map D.int)]=M5 at nw5 e9 e3'';generalize hj9':M4.length=j9 at e9 hj9 hj39;have hul:up.length=many.toNat:=by have:=cu.1;omega
  refine zC0.mpr ⟨_,_,_,zCt (x:=.dat (.ref j3)) rfl (za e3''),by rw[zXM];exact zY (by omega),?_⟩
  refine Ok.mono (zBv (I:=λr acc M'=>∃ (r' a left:Ye),r=r'.map D.int/\acc=a.map D.int/\(a.length+r'.length:Nat)=many.toNat/\(∀ x∈a,0<=x/\x<many)/\left.length=r'.length/\(∀ x∈left,0<=x/\x<many)/\M'[j9]?=some (.lst (left.map D.int))/\M'[j3]?=some (.lst (c.map D.int))/\(∀ x∈r',0<=x)/\Nw M M' n k)
   (Q:=λacc M'=>∃ a:List Int,acc=a.map D.int/\Col many a/\Nw M M' n k) ?_ ?_ _ [] _ ⟨c,[],up,rfl,rfl,by simp;omega,(λ_ h=>by cases h),by omega,cu.2,e9,e3'',(λx hx=>(hc x hx).1),nw5⟩) ?_
  .rintro x r acc M' ⟨r',a,left,hr,rfl,hal,ha,hll,hlf,e9',e3s,hr0,nw⟩;obtain ⟨g,r'',rfl,rfl,rfl⟩:=zBF hr;refine ⟨.inl e3s,_,rfl,zFi.mpr ?_⟩;rw[zXS rfl];have hg0:=hr0 g zXR;have hlen0:0<left.length:=by rw[hll];simp
   have hz:left.length<=1000:=by rw[hll];omega
   have ei:fOp zDn (zC 7) (fB zAX (zQ (zC 9) ze)) [some (.ref n),some (.int many),some (.int way),some (.ref j3),none,some (.int one),some (.int oth),some (.int g),some (.ref j8),some (.ref j9)] M'=some (.dat (.int ((g.toNat % left.length:Nat):Int)),M'):=by
    have:=zBh (f:=zC 9) (σ:=[some (.ref n),some (.int many),some (.int way),some (.ref j3),none,some (.int one),some (.int oth),some (.int g),some (.ref j8),some (.ref j9)]) (M:=M') rfl (za e9');rw[zXM]at this;refine zJ (x:=.dat (.int g)) rfl this ?_;rw[zEb (by omega)];rw[show ((g.toNat % left.length:Nat):Int)=g % left.length by rw[Int.natCast_emod,Int.toNat_of_nonneg hg0]]
   have hlt:g.toNat % left.length<left.length:=Nat.mod_lt _ hlen0;refine zFz.mpr (zAa.mpr ⟨_,rfl,⟨_,zAJ e9'⟩,zE (zc ei) ?_⟩);have hget:(left.map D.int)[g.toNat % left.length]?=some (.int (left[g.toNat % left.length])):=by
    rw[zXa,zXH hlt];rfl
   refine zUg e9' hget (by omega) ?_;rw[zL];have hl9:j9<M'.length:=(zXG.mp e9').1;refine ⟨r'',a++[left[g.toNat % left.length]],left.eraseIdx (g.toNat % left.length),rfl,by simp,by simp at hal ⊢;omega,λx hx=>?_,?_,λx hx=>hlf x (List.mem_of_mem_eraseIdx hx),?_,?_,λx hx=>hr0 x (zXQ _ hx),?_⟩
   .rcases zXd.mp hx with q|q
    .exact ha x q
    .have:x=left[g.toNat % left.length]:=by simpa using q
     rw[this];exact hlf _ (zXl hlt)
   .rw[List.length_eraseIdx_of_lt hlt,hll];simp
   .rw[zX7 hl9,zFa]
   .rw[zXh (by omega)];exact e3s
   .refine nw.setB h hj9 ?_;rw[<-zFa];exact zm _ _
  .rintro acc M' ⟨r',a,left,hr,rfl,hal,ha,hll,hlf,e9',e3s,hr0,nw⟩;have:r'=[]:=by cases r' with|nil=>rfl|cons _ _=>cases hr
   subst this;exact ⟨.inl e3s,a,rfl,⟨by simp at hal;omega,ha⟩,nw⟩
  .rintro ys M' ⟨a,ea,hca,nw⟩;rw[zZV]at ea;subst ea;refine zb ?_;rw[zM];exact tail _ _ _ M'.length a (nw.trans (nw.gen.lst _ (zm _ _))) nw.len (zS _ _) hca
 .rw[zXV (by simpa using wl),zAi,zM];exact tail _ _ M4 j8 up nw4 hj8 e8 cu
def zDX (many:Int) (cs:Ya):List (List Int):=(List.range many.toNat).map λr=>cs.map λc=>c.getD r 0
def zPJ (h0:0<many) (hc:∀ c∈cs,Col many c) (hl:0<cs.length):IsM (zDX many cs) cs.length:=by
 have hlen:(zDX many cs).length=many.toNat:=by unfold zDX;simp
 refine ⟨by omega,hl,λr hr=>?_⟩;rw[hlen];unfold zDX at hr;obtain ⟨k,hk,rfl⟩:=zXU.mp hr;refine ⟨by simp,λg hg=>?_⟩;obtain ⟨c,hcm,rfl⟩:=zXU.mp hg;have:=hc c hcm;have h1:=this.1;have:=zJ1 this (j:=k) (by have:=zXr.mp hk;omega);omega
def zJg (M:Mem) (lo:Nat) (many:Int) (js:Yj) (cs:Ya):Prop:=js.length=cs.length /\ ∀ (i:Nat) j c,js[i]?=some j->cs[i]?=some c->lo<j/\M[j]?=some (.lst (c.map D.int))/\Col many c
def zHx {M:Mem} {n k:Nat} {most lm:Int} (h:Gen M n k) (hm:0<most) (hm1:most<=900) (hl:0<lm) (hl1:lm<=900) :
  Ok (zBD [.ref n,.int most,.int lm] M) λd M'=>(∃ zA l,d=mD zA/\IsM zA l/\(zA.length<=8\/(zA.length:Int)<=most)/\(l:Int)<=lm)/\Nw M M' n k:=by
 obtain ⟨hn,hk⟩:=h.lt;unfold zBD;refine zFn ?_;rw[zAE];unfold zDA;show OkS (zX _ _ [some (.ref n),some (.int most),some (.int lm),none,none,none,none,none,none,none,none] M) _;rw[zI,zT];refine zBb.mpr (zFt.mpr ?_);refine zAj.mpr (zy.mpr (zAY.mpr (zAa.mpr ⟨_,rfl,?_⟩)));rw[zL,zy,zAY,zBb];simp only[zy,zAY,zFt,zAa,zL,zKH,zEI,zAh,List.getElem?_cons_succ,List.getElem?_cons_zero,Option.some.injEq,exists_eq_left'];refine ⟨zY (by simp),zAz h rfl rfl (by decide) (by decide) λi M0 i0 i1 nw0 _=>?_⟩;obtain ⟨mm,em,m0,m1,m2⟩:∃ mm:Int,[D.int 3,D.int 7,D.int most][i.toNat]?=some (.int mm)/\0<mm/\mm<=900/\(mm<=7\/mm<=most):=by
  have hi:i=0\/i=1\/i=2:=by omega
  rcases hi with rfl|rfl|rfl
  .exact ⟨3,rfl,by decide,by decide,.inl (by decide)⟩
  .exact ⟨7,rfl,by decide,by decide,.inl (by decide)⟩
  .exact ⟨most,rfl,hm,hm1,.inr (Int.le_refl _)⟩
 refine zR7 zDC (zKE i0 em) ?_;rw[zL];refine Ok.mono (zNd nw0.gen m0 (by omega)) ?_;rintro d M1 ⟨⟨R,rfl,R0,R1⟩,nw1,_⟩;rw[zGA,zL,zM];have nw1':=nw0.trans nw1;generalize eR:1+R=many;have r0:0<many:=by omega
 have r1:many<=900:=by omega
 have r2:many<=7\/many<=most:=by omega
 rw[zI,zT];refine zBb.mpr (zFt.mpr (zAz nw1'.gen rfl rfl hl (by omega) λL M2 L0 L1 nw2 _=>zGA.mpr ?_));rw[zL,zM,zI,zT];generalize eL:1+L=cnt;have nw2':=nw1'.trans nw2;refine zAz nw2'.gen rfl rfl (by decide) (by decide) λsrt M3 s0 s1 nw3 _=>?_;have nw3':=nw2'.trans nw3;rw[zL,zM,zI,zT];refine zEI.mpr (zAh.mpr ⟨zY (by simp),zb ?_⟩);rw[zM,zI,zAs];have nw4:=nw3'.trans (nw3'.gen.lst [] rfl);have e6:(M3++[MO.lst ([]:List D)])[M3.length]?=some (.lst []):=zS _ _;have hj6:M.length<=M3.length:=nw3'.len;generalize hM4:M3++[MO.lst ([]:List D)]=M4 at nw4 e6;generalize hj6':M3.length=j6 at e6 hj6;refine ⟨_,_,_,zBt rfl (by omega) (by omega),?_⟩;refine zHu (n:=cnt.toNat) (I:=λi σ M'=>∃ x y,σ=[some (.ref n),some (.int most),some (.int lm),some (.int many),some (.int cnt),some (.int srt),some (.ref j6),x,y,none,none] /\ ∃ (js:Yj) (cs:Ya),M'[j6]?=some (.lst (js.map D.ref))/\zJg M' j6 many js cs/\cs.length=i/\Nw M M' n k) ?_ ?_ _ _ ⟨none,none,rfl,[],[],e6,⟨rfl,λi j c h=>by simp at h⟩,rfl,nw4⟩
 .rintro i σ M' hi ⟨x,y,rfl,js,cs,ej,hcs,hl,nw⟩;refine ⟨_,rfl,?_⟩;rw[zI,zT];have hmod:∃ w0:Int,fOp kIx (zAb (zD (toD (fC (.int 3))) (zD (toD (fC (.int 4))) zH))) (fOp zDn (zC 7) (fC (.int 2))) [some (.ref n),some (.int most),some (.int lm),some (.int many),some (.int cnt),some (.int srt),some (.ref j6),some (.int (i:Nat)),y,none,none] M'=some (.dat (.int w0),M'):=by
   have ei:fOp zDn (zC 7) (fC (.int 2)) [some (.ref n),some (.int most),some (.int lm),some (.int many),some (.int cnt),some (.int srt),some (.ref j6),some (.int (i:Nat)),y,none,none] M'=some (.dat (.int ((i:Int) % 2)),M'):=zJ (x:=.dat (.int (i:Nat))) rfl rfl (zEb (by decide));have el:zAb (zD (toD (fC (.int 3))) (zD (toD (fC (.int 4))) zH)) [some (.ref n),some (.int most),some (.int lm),some (.int many),some (.int cnt),some (.int srt),some (.ref j6),some (.int (i:Nat)),y,none,none] M'=some (.fl [.int 3,.int 4],M'):=zW (zEI.mpr (zE (zt (d:=.int 3) rfl (zc (d:=.int 4) rfl)) ⟨zY (by simp),rfl,rfl⟩));have h2:(i:Int) % 2=0\/(i:Int) % 2=1:=by omega
   rcases h2 with q|q
   .rw[q]at ei;exact ⟨3,zJ el ei rfl⟩
   .rw[q]at ei;exact ⟨4,zJ el ei rfl⟩
  obtain ⟨w0,ew⟩:=hmod;refine zE ew ?_;rw[zL,zM]
  have fin:∀ (way:Int) (M5:Mem),Nw M' M5 n k->OkS (zAk (fM zr (zC 6) (zD (toD (zP zAo (zD (toD (zC 0)) (zD (toD (zC 3)) (zD (toD (zC 8)) zH))))) zH)) [some (.ref n),some (.int most),some (.int lm),some (.int many),some (.int cnt),some (.int srt),some (.ref j6),some (.int (i:Nat)),some (.int way),none,none] M5)
    λo σ2 M2=>match o with|.nx=>(∃ x y,σ2=[some (.ref n),some (.int most),some (.int lm),some (.int many),some (.int cnt),some (.int srt),some (.ref j6),x,y,none,none] /\ ∃ (js:Yj) (cs:Ya),M2[j6]?=some (.lst (js.map D.ref))/\zJg M2 j6 many js cs/\cs.length=i+1/\Nw M M2 n k)|_=>False:=by
   intro way M5 nw5;have ej5:=nw5.get ej (by omega) (by omega);rw[zBC];refine zFz.mpr (zAa.mpr ⟨_,rfl,⟨_,zAJ ej5⟩,zy.mpr (zAY.mpr (zAj.mpr (zE (zt rfl (zt rfl (zc rfl))) ?_)))⟩);refine Ok.mono (zOb nw5.gen r0 (by omega)) ?_;rintro d M6 ⟨j,c,rfl,ec,cc,hj,nw6⟩;have ej6:=nw6.get ej5 (by omega) (by omega);rw[zL,zAh,zBZ ej6 (by rw[zXM,hcs.1,hl];exact zXc (m:=95000) (by omega) (zY (by omega)))];have hlt6:j6<M5.length:=(zXG.mp ej5).1;have hlt6':j6<M6.length:=zXc hlt6 nw6.len;refine ⟨_,_,rfl,js++[j],cs++[c],?_,⟨by simp[hcs.1],λa b c' h1 h2=>?_⟩,by simp[hl],?_⟩
   .rw[zX7 hlt6',zX5];rfl
   .have keep:∀ {b:Nat} {u:MO},j6<b->M6[b]?=some u->(M6.set j6 (.lst (js.map D.ref++[.ref j])))[b]?=some u:=λ{b u} hb e=>by rw[zXh (by omega)];exact e
    by_cases ha:a<js.length
    .rw[zXK ha]at h1;rw[zXK (by rw[<-hcs.1];exact ha)]at h2;obtain ⟨q1,q2,q3⟩:=hcs.2 a b c' h1 h2;exact ⟨q1,keep q1 (nw6.get (nw5.get q2 (by omega) (by omega)) (by omega) (by omega)),q3⟩
    .have ha':a=js.length:=by
      have:=(zXG.mp h1).1;simp at this;omega
     subst ha';rw[zYN (zXJ _)]at h1;rw[zYN (by rw[hcs.1];exact zXJ _)]at h2;simp at h1;rw[hcs.1]at h2;simp at h2;subst h1 h2;exact ⟨by omega,keep (by omega) ec,cc⟩
   .refine ((nw.trans nw5).trans nw6).setB h hj6 ?_;show D.unds _ _=true;have w1:D.unds M6.length (js.map D.ref)=true:=nw6.gen.wf j6 _ ej6;have hlj:j<M6.length:=(zXG.mp ec).1;rw[zFe,w1];simp[D.unds,D.und,hlj]
  have two:∀ (way:Int) (R:Out->Sd->Mem->Prop),(∀ σ2 M2,(∃ x y,σ2=[some (.ref n),some (.int most),some (.int lm),some (.int many),some (.int cnt),some (.int srt),some (.ref j6),x,y,none,none] /\ ∃ (js:Yj) (cs:Ya),M2[j6]?=some (.lst (js.map D.ref))/\zJg M2 j6 many js cs/\cs.length=i+1/\Nw M M2 n k)->R .nx σ2 M2) ->
    OkS (zX (sIf (tst (fOp kEq (zC 5) (fC (.int 9)))) (zq 8 (zP zf (zD (toD (zC 0)) (zD (toD (fC (.int 7))) zH)))) zBB) (zAk (fM zr (zC 6) (zD (toD (zP zAo (zD (toD (zC 0)) (zD (toD (zC 3)) (zD (toD (zC 8)) zH))))) zH))) [some (.ref n),some (.int most),some (.int lm),some (.int many),some (.int cnt),some (.int srt),some (.ref j6),some (.int (i:Nat)),some (.int way),none,none] M') R:=by
   intro way R hR;have go:∀ (way:Int) (M5:Mem),Nw M' M5 n k->OkS (zAk (fM zr (zC 6) (zD (toD (zP zAo (zD (toD (zC 0)) (zD (toD (zC 3)) (zD (toD (zC 8)) zH))))) zH)) [some (.ref n),some (.int most),some (.int lm),some (.int many),some (.int cnt),some (.int srt),some (.ref j6),some (.int (i:Nat)),some (.int way),none,none] M5) R:=λway M5 nw5=>OkS.mono (fin way M5 nw5) (by
    intro o σ2 M2 z;cases o with
    |nx=>exact hR _ _ z
    |_=>exact z.elim)
   rw[zI,zA1];refine zE (M:=M') (a:=decide (srt=9)) (zo (zJ (x:=.dat (.int srt)) rfl rfl (zW (zKt.mpr ⟨rfl,rfl⟩)))) ?_;by_cases h9:srt=9
   .rw[zXS (by simpa using h9),zT];refine zAz nw.gen rfl rfl (by decide) (by decide) λw M5 _ _ nw5 _=>?_;rw[zL,zM];exact go w M5 nw5
   .rw[zXV (by simpa using h9),zAi,zM];exact go way M' (Nw.refl nw.gen)
  rw[zI,zA1];refine zE (M:=M') (a:=decide (srt<7)) (zo (zJ (x:=.dat (.int srt)) rfl rfl (zW (zVG.mpr ⟨rfl,rfl⟩)))) ?_;by_cases h7:srt<7
  .rw[zXS (by simpa using h7),zT];refine zAa.mpr ⟨_,rfl,?_⟩;rw[zL,zM];exact two srt _ λσ2 M2 z=>z
  .rw[zXV (by simpa using h7),zAi,zM];exact two w0 _ λσ2 M2 z=>z
 .rintro σ M' ⟨x,y,rfl,js,cs,ej,hcs,hl,nw⟩;rw[zM]
  have last:∀ (A:Mem) (j:Nat) (js':Yj) (cs':Ya),Nw M A n k->A[j]?=some (.lst (js'.map D.ref))->zJg A j6 many js' cs'->cs'.length=cnt.toNat ->
    OkS (zAS (fB zA2 (zQ (zi [10] (zAA (zD (toD (zC 3)) zH)) (gN 10) zv (fB zA2 (zQ (zi [9] (zu (zC 6)) (gN 9) zv (fOp kIx (zC 9) (zC 10))) ze))) ze)) [some (.ref n),some (.int most),some (.int lm),some (.int many),some (.int cnt),some (.int srt),some (.ref j),x,y,none,none] A)
     λo x M1=>match o with
     |.ret d=>(D.und M.length d=true/\M.length<=M1.length /\ ∀ (j:Nat) u,j<M.length->M1[j]?=some u->MO.und M.length u=true)/\(∃ zA l,d=mD zA/\IsM zA l/\(zA.length<=8\/(zA.length:Int)<=most)/\(l:Int)<=lm)/\Nw M (M1.take M.length) n k
     |.nx=>(D.und M.length D.non=true/\M.length<=M1.length /\ ∀ (j:Nat) u,j<M.length->M1[j]?=some u->MO.und M.length u=true)/\(∃ zA l,D.non=mD zA/\IsM zA l/\(zA.length<=8\/(zA.length:Int)<=most)/\(l:Int)<=lm)/\Nw M (M1.take M.length) n k
     |_=>False:=by
   intro A j js' cs' nwA eA hA hlA;have hcol:∀ c∈cs',Col many c:=λc hc=>by
    obtain ⟨i,hi,rfl⟩:=List.mem_iff_getElem.mp hc;exact (hA.2 i (js'[i]'(by rw[hA.1];exact hi)) cs'[i] (zXH _) (zXH _)).2.2
   have hlen:(zDX many cs').length=many.toNat:=by unfold zDX;simp
   refine zAZ (d:=mD (zDX many cs')) ?_ ⟨⟨zH5 _,nwA.len,nwA.wf0 h⟩,⟨zDX many cs',cs'.length,rfl,zPJ r0 hcol (by omega),by omega,by omega⟩,nwA.trim h⟩;refine (zCl (zAg (List.range many.toNat) (λk=>D.int k) (λk=> .tup ((cs'.map λc=>c.getD k 0).map D.int)) (zEl (f:=zC 3) rfl (by omega) (by omega)) trivial (by simp;omega) λr hr=>⟨_,rfl,?_⟩) zDC).trans ?_
   .have hr':=zXr.mp hr;refine (zCl (zAg (gd:=zCq (.dat (.ref j)) (js'.map D.ref)) (List.range js'.length) (λi=>D.ref (js'.getD i 0)) (λi=> .int ((cs'.getD i []).getD r 0)) ?_ ?_ (by rw[zZA,hA.1,hlA];omega) λi hi=>⟨_,rfl,?_⟩) zDC).trans ?_
    .rw[show ((List.range js'.length).map λi=>D.ref (js'.getD i 0))=js'.map D.ref by
      apply List.ext_getElem
      .simp
      .intro i h1 h2;simp at h1;simp[h1]]
     exact zCt (x:=.dat (.ref j)) rfl (za eA)
    .exact .inl eA
    .have hi':=zXr.mp hi;have hc':i<cs'.length:=by rw[<-hA.1];exact hi'
     have ej':js'[i]?=some (js'.getD i 0):=by rw[zXI,zXH hi'];rfl
     have ec':cs'[i]?=some (cs'.getD i []):=by rw[zXI,zXH hc'];rfl
     obtain ⟨_,q2,q3⟩:=hA.2 i _ _ ej' ec';have hz:=q3.1;exact zJ (x:=.dat (.ref (js'.getD i 0))) (y:=.dat (.int (r:Nat))) rfl rfl (zAx (za q2) (zEK (by omega) (by omega)))
    .congr 3;rw[zXb];refine zY0 D.tup ?_;apply List.ext_getElem
     .simp[hA.1]
     .intro i h1 h2;simp at h1 h2;have h2':i<cs'.length:=h2;simp[h2']
   .unfold mD zDX;rw[zXb];rfl
  rw[zI,zA1];refine zE (M:=M') (a:=decide (srt=8)) (zo (zJ (x:=.dat (.int srt)) rfl rfl (zW (zKt.mpr ⟨rfl,rfl⟩)))) ?_;by_cases h8:srt=8
  .rw[zXS (by simpa using h8),zT];have s2:=slL (f:=zC 6) (fl:=zBz) (fh:=zBY (fC (.int 1))) (σ:=[some (.ref n),some (.int most),some (.int lm),some (.int many),some (.int cnt),some (.int srt),some (.ref j6),x,y,none,none]) rfl rfl (zAJ ej) rfl (oS (i:=1) rfl);rw[zJH]at s2;have hjl:0<js.length:=by rw[hcs.1];omega
   have hcl:0<cs.length:=by omega
   obtain ⟨j0,jr,rfl⟩:∃ a b,js=a::b:=by cases js with|nil=>simp at hjl|cons a b=>exact ⟨a,b,rfl⟩
   obtain ⟨c0,cr,rfl⟩:∃ a b,cs=a::b:=by cases cs with|nil=>simp at hcl|cons a b=>exact ⟨a,b,rfl⟩
   rw[show ((j0::jr).map D.ref).take 1=[D.ref j0]from rfl]at s2;have er:zJl (.fl [D.ref j0]) (.dat (.int cnt)) M'=some (.fl ((List.replicate cnt.toNat j0).map D.ref),M'):=by
    unfold zJl;dsimp only[zCP,zKb];rw[zXS ⟨by omega,by omega,zY (by simp;omega)⟩];have:(List.replicate cnt.toNat [D.ref j0]).flatten=(List.replicate cnt.toNat j0).map D.ref:=by
     rw[List.map_replicate];generalize cnt.toNat=q;induction q with
     |zero=>rfl
     |succ q ih=>rw[zYW,zZC,ih,zYW];rfl
    rw[this]
   refine zBb.mpr (zE s2 (zAa.mpr ⟨_,rfl,zE er (zb ?_)⟩));rw[zM];obtain ⟨q1,q2,q3⟩:=hcs.2 0 j0 c0 rfl rfl;have hlj:j0<M'.length:=(zXG.mp q2).1;refine last _ M'.length (List.replicate cnt.toNat j0) (List.replicate cnt.toNat c0) (nw.trans (nw.gen.lst _ (zFW λz hz=>?_))) (zS _ _) ⟨by simp,λi j c h1 h2=>?_⟩ (by simp)
   .obtain ⟨a,ha,rfl⟩:=zXU.mp hz;rw[(List.mem_replicate.mp ha).2];simp[D.und,hlj]
   .have e1:j=j0:=(List.mem_replicate.mp (zX4 h1)).2;have e2:c=c0:=(List.mem_replicate.mp (zX4 h2)).2;subst e1 e2;exact ⟨q1,by rw[zXK hlj];exact q2,q3⟩
  .rw[zXV (by simpa using h8),zAi,zM];exact last M' j6 js cs nw ej hcs hl
def zCp:FS:=(zX (zq 1 (zAb zH))
  (zX (zBw (zu (zC 0)) (gN 2) (sIf (tst (fOp (kIn true) (zC 2) (zC 1))) (zAk (fM zr (zC 1) (zD (toD (zC 2)) zH))) zBB))
  (zAS (fB zA2 (zQ (zi [2] (zu (zC 0)) (gN 2) zv (fM zEs (zC 1) (zD (toD (zC 2)) zH))) ze)))))
def zAc:FF:=zFd (zBV 3 zCp)
def zOI {xs:Ye} (h:zAL M y=some (xs.map D.int)):kIn neg (.dat (.int g)) y M=some (.dat (.bl (if neg then !(xs.any λy=>decide (y=g)) else xs.any λy=>decide (y=g))),M):=by
 unfold kIn;dsimp only;rw[h];dsimp only;rw[zCj]
def zS9 (xs:Ye) (g:Int):(xs.any λy=>decide (y=g))=decide (g∈xs):=by
 induction xs with
 |nil=>rfl
 |cons x r ih=>
  rw[List.any_cons,ih];by_cases h:x=g
  .subst h;simp
  .have:¬ g=x:=λe=>h e.symm;simp[h,this]
def zD6 (xs:Ye):List Int:=xs.map λx=>((zV xs).idxOf x:Int)
def zHq (xs:Ye):(zD6 xs).length=xs.length:=by unfold zD6;simp
def zOT {M:Mem} {xs:Ye} (h:M[j]?=some (.lst (xs.map D.int))) (hi:i∈xs) (hz:xs.length<=90000):zEs (.dat (.ref j)) [.int i] M=some (.int (xs.idxOf i),M):=by
 unfold zEs;dsimp only;rw[h];dsimp only;rw[zCj];dsimp only;rw[zXS ⟨hi,hz⟩]
def zGc {M:Mem} (wf:∀ (j:Nat) u,M[j]?=some u->MO.und M.length u=true) {xs:Ye} (hj:M[j]?=some (.lst (xs.map D.int))) (hz:xs.length<=4000):zAc [.ref j] M=some (tI (zD6 xs),M):=by
 refine zW ?_;unfold zAc;refine zFn ?_;rw[zAE];unfold zCp;have hjl:j<M.length:=(zXG.mp hj).1;rw[zI,zT];refine zEI.mpr (zAh.mpr ⟨zY (by simp),zb ?_⟩);rw[zM,zI,zAs];have ej:∀ u:MO,(M++[u])[j]?=some (.lst (xs.map D.int)):=λu=>by rw[zXK hjl];exact hj
 refine ⟨_,_,_,zCt (x:=.dat (.ref j)) rfl (za (ej _)),?_⟩;refine zAf (I:=λr σ M'=>∃ (y:Option D) (a b:Ye),σ=[some (.ref j),some (.ref M.length),y]/\r=b.map D.int/\a++b=xs/\M'=M++[.lst ((zV a).map D.int)]) ?_ ?_ _ _ _ ⟨none,[],xs,rfl,rfl,rfl,rfl⟩
 .rintro x r σ M' ⟨y,a,b,rfl,hr,hab,rfl⟩;obtain ⟨g,b',rfl,rfl,rfl⟩:=zBF hr;refine ⟨.inl (ej _),_,rfl,?_⟩;have ek:(M++[MO.lst ((zV a).map D.int)])[M.length]?=some (.lst ((zV a).map D.int)):=zS _ _;have hin:zV (a++[g])=ins (zV a) g:=by unfold zV;rw[zZB];rfl
  rw[zA1];refine zE (M:=M++[MO.lst ((zV a).map D.int)]) (a:=!decide (g∈zV a)) ?_ ?_
  .refine zo (zJ (x:=.dat (.int g)) (y:=.dat (.ref M.length)) rfl rfl ?_);rw[zOI (za ek),zS9];rfl
  have hla:a.length<xs.length:=by rw[<-hab];simp
  have hli:=zB3 a;by_cases hg:g∈zV a
  .rw[zXV (by simp[hg]),zAi];refine ⟨_,a++[g],b',rfl,rfl,by rw[<-hab];simp,?_⟩;rw[hin];unfold ins;rw[zXS hg]
  .rw[zXS (by simp[hg]),zBC];refine zFz.mpr (zAa.mpr ⟨_,rfl,⟨_,zAJ ek⟩,zE (zc (d:=.int g) rfl) ?_⟩);rw[zBZ ek (by rw[zXM];exact zXc (m:=95000) (by omega) (zY (by omega)))];refine ⟨_,a++[g],b',rfl,rfl,by rw[<-hab];simp,?_⟩;rw[hin];unfold ins;rw[zXV hg,List.set_append_right _ _ (zXJ _)];simp
 .rintro σ M' ⟨y,a,b,rfl,hr,hab,rfl⟩;have:b=[]:=by cases b with|nil=>rfl|cons _ _=>cases hr
  subst this;rw[zXx]at hab;subst hab;refine ⟨.inl (ej _),?_⟩;rw[zM];have ek:(M++[MO.lst ((zV a).map D.int)])[M.length]?=some (.lst ((zV a).map D.int)):=zS _ _;have hli:=zB3 a;refine zAZ (d:=tI (zD6 a)) ?_ ⟨⟨zA5 _,by simp,λi u hi e=>?_⟩,rfl,by simp⟩
  .refine (zCl (zAg (gd:=zCq (.dat (.ref j)) (a.map D.int)) a D.int (λx=> .int ((zV a).idxOf x:Int)) (zCt (x:=.dat (.ref j)) rfl (za (ej _))) (.inl (ej _)) (by omega) λx hx=>⟨_,rfl,?_⟩) zDC).trans ?_
   .refine zW (zFz.mpr (zAa.mpr ⟨_,rfl,⟨_,zAJ ek⟩,zE (zc (d:=.int x) rfl) (zE (zOT ek ((zDd a x).mpr hx) (by omega)) ⟨rfl,rfl⟩)⟩))
   .unfold zD6 tI;rw[zXb];rfl
  .rw[zXK hi]at e;exact wf i u e
def zUp (ha:a σ M=some (true,M)):zEN a b σ M=some (true,M):=by unfold zEN;rw[ha]
def zHk (ha:a σ M=some (false,M)) (hb:b σ M=some (k,M)):zEN a b σ M=some (k,M):=by unfold zEN;rw[ha];exact hb
def ntT (ha:a σ M=some (.dat (.bl k),M)):zDK (tst a) σ M=some (!k,M):=by
 refine zW (zNT.mpr (zE (zo ha) ⟨rfl,rfl⟩))
def zER (h:f σ M=some (.dat d,M)):toD f σ M=some (d,M):=by unfold toD;rw[h]
def zPR {g:FA} {σ:Sd} {M M1:Mem} {ds:List D} (h:g σ M=some (ds,M1)) (hz:ds.length<=100000):zAb g σ M=some (.fl ds,M1):=by
 unfold zAb;rw[h];dsimp only;rw[zXS (zY hz)]
def zHO {g:FA} {σ:Sd} {M M1:Mem} {ds:List D} (h:g σ M=some (ds,M1)) (hz:ds.length<=100000):zAd g σ M=some (.dat (.tup ds),M1):=by
 unfold zAd;rw[h];dsimp only;rw[zXS (zY hz)]
def zQE (hf:f σ M=some (.dat (.bl true),M)) (h:P .nx σ M):OkS (sIf (zDK (tst f)) a zBB σ M) P:=zP1 (ntT hf) h
def zNR (hf:f σ M=some (.dat (.int i),M)) (hg:g σ M=some (.dat (.int j),M)):fB zHp (zQ f (zQ g ze)) σ M=some (.dat (.int (if j<i then j else i)),M):=by
 unfold fB zQ ze;rw[hf];dsimp only;rw[hg];rfl
def zOd (h1:M[n]?=some (.lst xs)) (h2:M[m]?=some (.lst ys)) (hz:xs.length+ys.length<=90000):zEp (.dat (.ref n)) [.ref m] M=some (.non,M.set n (.lst (xs++ys))):=by
 unfold zEp;dsimp only;rw[h1,h2];dsimp only;rw[zXS (zY (by omega))]
def zN9 (e1:f σ M=some (.dat (.int i),M)) (e2:g σ M=some (.dat (.int j),M)) (h1:0<=i) (h2:i<=90000) (h3:0<=j) (h4:j<=90000):zAA (zD (toD f) (zD (toD g) zH)) σ M=some ((List.range (j-i).toNat).map (λ(k:Nat)=>D.int (i+k)),none,M):=by
 unfold zAA;rw[zt e1 (zc e2)];dsimp only;rw[zXS ⟨by omega,by omega,by omega,by omega⟩]
def zDt:FS:=(zX (zq 3 (zP zBD (zD (toD (zC 0)) (zD (toD (fC (.int 7))) (zD (toD (zC 2)) zH)))))
  (zX (zq 4 (fOp zAI (fB zAX (zQ (zC 3) ze)) (zP zf (zD (toD (zC 0)) (zD (toD (fOp zGj (fOp zAI (zC 1) (fC (.int 1))) (fB zAX (zQ (zC 3) ze)))) zH)))))
  (zX (zq 5 (fOp zGX (zFw (fB zAX (zQ (zC 3) ze))) (zi [6] (zAA (zD (toD (fOp zGj (zC 4) (fB zAX (zQ (zC 3) ze)))) zH)) (gN 6) zv (zP zf (zD (toD (zC 0)) (zD (toD (fB zAX (zQ (zC 3) ze))) zH))))))
  (zX (zq 7 (zP zf (zD (toD (zC 0)) (zD (toD (zC 4)) zH))))
  (zX (zq 5 (fOp zGX (fSl (zC 5) (zBY (zC 7)) zBz) (fSl (zC 5) zBz (zBY (zC 7)))))
  (zX (zq 8 (zAb zH))
  (zX (zBw (zu (zC 5)) (gN 9) (zX (zq 10 (zAb zH))
  (zX (zBw (zu (fOp kIx (zC 3) (zC 9))) (gN 11) (zX (zq 12 (zi [6] (zAA (zD (toD (zC 4)) zH)) (gN 6) (tst (fOp kEq (fOp kIx (zC 5) (zC 6)) (zC 11))) (zC 6)))
  (zAk (fM zr (zC 10) (zD (toD (fOp kIx (zC 12) (zP zf (zD (toD (zC 0)) (zD (toD (fB zAX (zQ (zC 12) ze))) zH))))) zH)))))
  (zAk (fM zr (zC 8) (zD (toD (fB zA2 (zQ (zC 10) ze))) zH))))))
  (zAS (zAd (zD (toD (fB zA2 (zQ (zC 8) ze))) (zD (toD (zC 5)) zH)))))))))))
def zBq:FF:=zBV 13 zDt
def zDx:FS:=(zX (sIf (tst (fOp kEq (zP zf (zD (toD (zC 0)) (zD (toD (fC (.int 2))) zH))) (fC (.int 0)))) (zPQ (zBU 3 4) (zP zBq (zD (toD (zC 0)) (zD (toD (zC 1)) (zD (toD (zC 2)) zH))))) (zX (zq 3 (zP zBD (zD (toD (zC 0)) (zD (toD (zC 1)) (zD (toD (zC 2)) zH)))))
  (zX (zq 5 (fOp zAI (fC (.int 1)) (zP zf (zD (toD (zC 0)) (zD (toD (fB zAX (zQ (zC 3) ze))) zH)))))
  (zq 4 (zi [6] (zu (zC 3)) (gN 6) zv (zP zf (zD (toD (zC 0)) (zD (toD (zC 5)) zH))))))))
  (zAS (zAd (zD (toD (zC 3)) (zD (toD (zP zAc (zD (toD (zC 4)) zH))) zH)))))
def zBs:FF:=zFd (zBV 7 zDx)
def zOC (h:Gen M n k) (h0:0<few) (h1:few<1073741824) (m1:xs.length<=90000)
  (hf:f σ M=some (.dat (.tup xs),M)) (ha:∀ (x:D) (M:Mem),fa ((zBN own σ).set i (some x)) M=some (.dat (.ref n),M)) (hb:∀ (x:D) (M:Mem),fb ((zBN own σ).set i (some x)) M=some (.dat (.int few),M)) :
  Ok (zi own (zu f) (gN i) zv (zP zf (zD (toD fa) (zD (toD fb) zH))) σ M) λx M'=>(∃ c:List Int,x=.fl (c.map D.int)/\c.length=xs.length /\ ∀ y∈c,0<=y/\y<few)/\Nw M M' n k:=by
 refine zC0.mpr ⟨_,_,_,zEn hf,zY (by omega),?_⟩;refine Ok.mono (zBv (I:=λr acc M2=>(∃ c:List Int,acc=c.map D.int/\c.length+r.length=xs.length /\ ∀ y∈c,0<=y/\y<few)/\Nw M M2 n k) (Q:=λacc M2=>(∃ c:List Int,acc=c.map D.int/\c.length=xs.length /\ ∀ y∈c,0<=y/\y<few)/\Nw M M2 n k) ?_ ?_ _ [] _ ⟨⟨[],rfl,by simp,λ_ h=>by cases h⟩,Nw.refl h⟩) ?_
 .rintro x r acc M2 ⟨⟨c,rfl,hcl,hc⟩,nw⟩;refine ⟨zAK,_,rfl,zFi.mpr ?_⟩;rw[zXS rfl];refine zAz nw.gen (ha _ _) (hb _ _) h0 h1 λg M3 g0 g1 nw3 hl3=>?_;rw[zL];refine ⟨⟨c++[g],by simp,by simp at hcl ⊢;omega,λz hz=>?_⟩,nw.trans nw3⟩;rcases zXd.mp hz with q|q
  .exact hc z q
  .have:z=g:=by simpa using q
   subst this;exact ⟨g0,g1⟩
 .rintro acc M2 ⟨⟨c,rfl,hcl,hc⟩,nw⟩;exact ⟨zAK,⟨c,rfl,by simpa using hcl,hc⟩,nw⟩
 .rintro ys M2 ⟨⟨c,hc0,hcl,hc⟩,nw⟩;rw[zZV]at hc0;exact ⟨⟨c,by rw[hc0],hcl,hc⟩,nw⟩
def zOu {xs:List D} (h:q<=xs.length):L3.zDp xs (some (q:Int)) none=xs.drop q:=by
 have s:HT.sIx xs.length 0 (some (q:Int))=q:=by rw[HT.zHG];omega
 have z:HT.sIx xs.length xs.length none=xs.length:=rfl;unfold L3.zDp;rw[s,z,List.take_of_length_le (by simp)]
def zOi {xs:List D} (h:q<=xs.length):L3.zDp xs none (some (q:Int))=xs.take q:=by
 have s:HT.sIx xs.length xs.length (some (q:Int))=q:=by rw[HT.zHG];omega
 have z:HT.sIx xs.length 0 none=0:=rfl;unfold L3.zDp;rw[s,z];simp
def zMI {M:Mem} {ow:Ye} (hz:many<=1000) (hl:ow.length=many) (ej:M[j]?=some (.lst (ow.map D.int))) (hg:g∈ow) :
  Ok (zi [6] (zAA (zD (toD (zC 4)) zH)) (gN 6) (tst (fOp kEq (fOp kIx (zC 5) (zC 6)) (zC 11))) (zC 6) [a0,a1,a2,a3,some (.int many),some (.ref j),a6,a7,a8,a9,a10,some (.int g),a12] M) λx M'=>M'=M /\ ∃ c:List Int,x=.fl (c.map D.int)/\c≠[]/\c.length<=many /\ ∀ y∈c,0<=y/\y<(many:Int):=by
 refine zC0.mpr ⟨_,_,_,zBt (j:=(many:Int)) rfl (by omega) (by omega),by rw[zC9];exact zY (by omega),?_⟩;rw[show (many:Int).toNat=many by omega];refine Ok.mono (zBv (I:=λr acc M2=>M2=M /\ ∃ (i:Nat) (c:Ye),i<=many/\r=zCL i (many-i)/\acc=c.map D.int/\c.length<=i/\(∀ y∈c,0<=y/\y<(many:Int)) /\ ∀ r,r<i->ow.getD r 0=g->c≠[]) (Q:=λacc M2=>M2=M /\ ∃ c:List Int,acc=c.map D.int/\c≠[]/\c.length<=many /\ ∀ y∈c,0<=y/\y<(many:Int)) ?_ ?_ _ [] _ ⟨rfl,0,[],zXz _,by simp,rfl,by simp,(λ_ h=>by cases h),λr h=>by omega⟩) ?_
 .rintro x r acc M2 ⟨rfl,i,c,hi,e,rfl,hcl,hc,hne⟩;have hlt:i<many:=by
   rcases zYZ i many with z|z
   .exact z
   .rw[show many-i=0 by omega]at e;cases e
  rw[show many-i=(many-(i+1))+1 by omega]at e;obtain ⟨rfl,rfl⟩:=zYH e;refine ⟨zAK,_,rfl,?_⟩;have hat:atI (ow.map D.int) ((i:Nat):Int)=some (.int (ow.getD i 0)):=by
   have:=zEK (r:=ow) (g:=((i:Nat):Int)) (by omega) (by omega);rw[Int.toNat_natCast]at this;exact this
  refine zE (M:=M2) (a:=decide (ow.getD i 0=g)) (zo (zJ (x:=.dat (.int (ow.getD i 0))) (y:=.dat (.int g)) (zJ (x:=.dat (.ref j)) (y:=.dat (.int ((i:Nat):Int))) rfl rfl (zAx (za ej) hat)) rfl (zW (zKt.mpr ⟨rfl,rfl⟩)))) ?_;by_cases he:ow.getD i 0=g
  .rw[zXS (by simpa using he)];refine zE (M:=M2) (a:=.dat (.int ((i:Nat):Int))) rfl ?_;rw[zL];refine ⟨rfl,i+1,c++[((i:Nat):Int)],hlt,rfl,by simp,by simp;omega,λy hy=>?_,λ_ _ _=>by simp⟩;rcases zXd.mp hy with q|q
   .exact hc y q
   .have:y=((i:Nat):Int):=by simpa using q
    omega
  .rw[zXV (by simpa using he)];refine ⟨rfl,i+1,c,hlt,rfl,rfl,by omega,hc,λr hr hq=>?_⟩;rcases zYZ r i with z|z
   .exact hne r z hq
   .have:r=i:=by omega
    subst this;exact absurd hq he
 .rintro acc M2 ⟨rfl,i,c,hi,e,rfl,hcl,hc,hne⟩;have:i=many:=by
   rcases zYZ i many with z|z
   .rw[show many-i=(many-(i+1))+1 by omega]at e;cases e
   .omega
  subst this;obtain ⟨q,hq,eq⟩:=List.mem_iff_getElem.mp hg;exact ⟨zAK,rfl,c,rfl,hne q (by omega) (by rw[zXI,zXH hq];exact eq),hcl,hc⟩
 .rintro ys M2 ⟨rfl,c,e,h⟩;rw[zZV]at e;exact ⟨rfl,c,by rw[e],h⟩
def zPB (h:Gen M n k) (hm:9<=most) (hm1:most<=900) (hl:0<lm) (hl1:lm<=900) :
  Ok (zBq [.ref n,.int most,.int lm] M) λd M'=>∃ zA l j ow,d=.tup [mD zA,.ref j]/\IsM zA l/\(zA.length:Int)<=most/\(l:Int)<=lm/\M'[j]?=some (.lst ((ow:Ye).map D.int))/\ow.length=zA.length/\Nw M M' n k:=by
 obtain ⟨hn,hk⟩:=h.lt;unfold zBq;rw[zAE];unfold zDt;rw[zI,zT];refine zAj.mpr (zE (zt rfl (zt rfl (zc rfl))) ?_);refine Ok.mono (zHx h (by decide) (by decide) hl hl1) ?_;rintro d M1 ⟨⟨base,l,rfl,mb,hB,hL⟩,nw1⟩;have b0:=mb.r0;have l0:=mb.l0;have hB':base.length<=8:=by omega
 rw[zL,zM,zI,zT];refine zBb.mpr (zE (zCF rfl) ?_);refine zAz nw1.gen rfl (zJ (x:=.dat (.int (most+1))) (zJ rfl rfl rfl) (zCF rfl) rfl) (by omega) (by omega) λex M2 x0 x1 nw2 _=>zGA.mpr ?_;rw[zL,zM,zI,zT];have nw2':=nw1.trans nw2;obtain ⟨many,hmany⟩:∃ many:Nat,(base.length:Int)+ex=(many:Int):=⟨((base.length:Int)+ex).toNat,by omega⟩;rw[hmany];have mB:base.length<=many:=by omega
 have mM:(many:Int)<=most:=by omega
 have elr:zFw (fB zAX (zQ (zC 3) ze)) [some (.ref n),some (.int most),some (.int lm),some (mD base),some (.int many),none,none,none,none,none,none,none,none] M2=some (.fl (((List.range base.length).map λ(k:Nat)=>(k:Int)).map D.int),M2):=by
  unfold zFw;rw[zCF (zA:=base) rfl];dsimp only;rw[zXS ⟨by omega,by omega⟩,zNh,show (base.length:Int).toNat=base.length by omega]
 refine zBb.mpr (zE elr ?_);refine Ok.mono (zLI nw2'.gen (few:=base.length) (many:=(many:Int)-base.length) (by omega) (by omega) (by omega) (by omega) (zJ rfl (zCF rfl) rfl) (λ_ _=>rfl) (λ_ _=>zCF rfl)) ?_;rintro x M3 ⟨⟨cx,rfl,hcl,hcx⟩,nw3,_⟩;have nw3':=nw2'.trans nw3;refine zND rfl rfl (by simp;omega) (zb ?_);rw[<-zX5,zM];generalize how:((List.range base.length).map λ(k:Nat)=>(k:Int))++cx=ow;have owl:ow.length=many:=by rw[<-how];simp;omega
 have owb:∀ x∈ow,0<=x/\x<base.length:=by
  intro x hx;rw[<-how]at hx;rcases zXd.mp hx with q|q
  .obtain ⟨a,ha,rfl⟩:=zXU.mp q;have:=zXr.mp ha;omega
  .exact hcx x q
 have ows:∀ g:Int,0<=g->g<base.length->g∈ow:=by
  intro g g0 g1;rw[<-how];exact zYS _ (zXU.mpr ⟨g.toNat,zXr.mpr (by omega),by omega⟩)
 have nw4:=nw3'.trans (nw3'.gen.lst (ow.map D.int) (zm _ _));have e5:(M3++[MO.lst (ow.map D.int)])[M3.length]?=some (.lst (ow.map D.int)):=zS _ _;have hj5:M.length<=M3.length:=nw3'.len;generalize hM4:M3++[MO.lst (ow.map D.int)]=M4 at nw4 e5;generalize M3.length=j5 at e5 hj5;rw[zI,zT];refine zAz nw4.gen rfl rfl (by omega) (by omega) λtn M5 t0 t1 nw5 _=>?_;rw[zL,zM,zI,zT];have nw5':=nw4.trans nw5;have e5':=nw5.get e5 (by omega) (by omega);obtain ⟨t,ht⟩:∃ t:Nat,tn=(t:Int):=⟨tn.toNat,by omega⟩;subst ht;have s1:=slL (f:=zC 5) (fl:=zBY (zC 7)) (fh:=zBz) (σ:=[some (.ref n),some (.int most),some (.int lm),some (mD base),some (.int many),some (.ref j5),none,some (.int (t:Nat)),none,none,none,none,none]) rfl rfl (zAJ e5') (oS (i:=(t:Int)) rfl) rfl;have s2:=slL (f:=zC 5) (fl:=zBz) (fh:=zBY (zC 7)) (σ:=[some (.ref n),some (.int most),some (.int lm),some (mD base),some (.int many),some (.ref j5),none,some (.int (t:Nat)),none,none,none,none,none]) rfl rfl (zAJ e5') rfl (oS (i:=(t:Int)) rfl);rw[zOu (by simp;omega)]at s1;rw[zOi (by simp;omega)]at s2;refine zBb.mpr (zE s1 (zE s2 (zND rfl rfl (by simp;omega) (zb ?_))));rw[<-List.map_drop,<-List.map_take,<-zX5,zM];have hmem:∀ x,x∈ow.drop t++ow.take t ↔ x∈ow:=λx=>by
  rw[zXd,Or.comm,<-zXd,List.take_append_drop]
 have hlen':(ow.drop t++ow.take t).length=many:=by simp;omega
 generalize ow.drop t++ow.take t=ow2 at hmem hlen';replace owb:∀ x∈ow2,0<=x/\x<base.length:=λx hx=>owb x ((hmem x).mp hx);replace ows:∀ g:Int,0<=g->g<base.length->g∈ow2:=λg g0 g1=>(hmem g).mpr (ows g g0 g1);have nw6:=nw5'.trans (nw5'.gen.lst (ow2.map D.int) (zm _ _));have e6:(M5++[MO.lst (ow2.map D.int)])[M5.length]?=some (.lst (ow2.map D.int)):=zS _ _;have hj6:M.length<=M5.length:=nw5'.len;generalize M5++[MO.lst (ow2.map D.int)]=M6 at nw6 e6;generalize M5.length=j at e6 hj6;rw[zI,zT];refine zEI.mpr (zAh.mpr ⟨zY (by simp),zb ?_⟩);rw[zM];have nw7:=nw6.trans (nw6.gen.lst [] rfl);have e8:(M6++[MO.lst ([]:List D)])[M6.length]?=some (.lst []):=zS _ _;have hj8:M.length<=M6.length:=nw6.len;have hjlt:j<M6.length:=(zXG.mp e6).1;have e6':(M6++[MO.lst ([]:List D)])[j]?=some (.lst (ow2.map D.int)):=by rw[zXK hjlt];exact e6
 generalize M6++[MO.lst ([]:List D)]=M7 at nw7 e8 e6';generalize M6.length=j8 at e8 hj8 hjlt;rw[zI,zAs];refine ⟨_,_,_,zCt (x:=.dat (.ref j)) rfl (za e6'),?_⟩;refine zAf (I:=λr σ M'=>(∃ y6 y9 y10 y11 y12,σ=[some (.ref n),some (.int most),some (.int lm),some (mD base),some (.int many),some (.ref j),y6,some (.int (t:Nat)),some (.ref j8),y9,y10,y11,y12]) /\ ∃ (r':Ye) (zA:Ya),r=r'.map D.int/\(∀ x∈r',x∈ow2)/\zA.length+r'.length=many/\(∀ q∈zA,q.length=l /\ ∀ g∈q,0<=g/\g<(many:Int))/\M'[j]?=some (.lst (ow2.map D.int))/\M'[j8]?=some (.lst (zA.map λr=>D.tup (r.map D.int)))/\Nw M M' n k) ?_ ?_ _ _ _ ⟨⟨_,_,_,_,_,rfl⟩,ow2,[],rfl,λ_ h=>h,by simpa using hlen',(λ_ h=>by cases h),e6',e8,nw7⟩
 .rintro x r σ M' ⟨⟨y6,y9,y10,y11,y12,rfl⟩,r',zA,hr,hsub,hrl,hrw,ej,ej8,nw⟩;obtain ⟨o,r'',rfl,rfl,rfl⟩:=zBF hr;refine ⟨.inl ej,_,rfl,?_⟩;obtain ⟨o0,o1⟩:=owb o (hsub o zXR);obtain ⟨bl,bb⟩:=mb.get (h:=o) o0 o1;rw[zI,zT];refine zEI.mpr (zAh.mpr ⟨zY (by simp),zb ?_⟩);rw[zM];have nwa:=nw.trans (nw.gen.lst [] rfl);have e10:(M'++[MO.lst ([]:List D)])[M'.length]?=some (.lst []):=zS _ _;have hj10:M.length<=M'.length:=nw.len;have l8:j8<M'.length:=(zXG.mp ej8).1;have l5:j<M'.length:=(zXG.mp ej).1;have ej':(M'++[MO.lst ([]:List D)])[j]?=some (.lst (ow2.map D.int)):=by rw[zXK l5];exact ej
  have ej8':(M'++[MO.lst ([]:List D)])[j8]?=some (.lst (zA.map λr=>D.tup (r.map D.int))):=by rw[zXK l8];exact ej8
  generalize M'++[MO.lst ([]:List D)]=Ma at nwa e10 ej' ej8';generalize M'.length=j10 at e10 hj10 l8 l5;generalize hrow:base.getD o.toNat []=row at bl bb;rw[zI,zAs];have erow:fOp kIx (zC 3) (zC 9) [some (.ref n),some (.int most),some (.int lm),some (mD base),some (.int many),some (.ref j),y6,some (.int (t:Nat)),some (.ref j8),some (.int o),some (.ref j10),y11,y12] Ma=some (.dat (.tup (row.map D.int)),Ma):=by
   rw[<-hrow];exact zJ rfl rfl (zAx zj (zFN o0 o1))
  refine ⟨_,_,_,zEn erow,?_⟩;refine zAf (I:=λr σ M''=>(∃ y6 y11 y12,σ=[some (.ref n),some (.int most),some (.int lm),some (mD base),some (.int many),some (.ref j),y6,some (.int (t:Nat)),some (.ref j8),some (.int o),some (.ref j10),y11,y12]) /\ ∃ (r' q:Ye),r=r'.map D.int/\(∀ x∈r',x∈row)/\q.length+r'.length=l/\(∀ g∈q,0<=g/\g<(many:Int))/\M''[j]?=some (.lst (ow2.map D.int))/\M''[j8]?=some (.lst (zA.map λr=>D.tup (r.map D.int)))/\M''[j10]?=some (.lst (q.map D.int))/\Nw M M'' n k) ?_ ?_ _ _ _ ⟨⟨_,_,_,rfl⟩,row,[],rfl,λ_ h=>h,by simpa using bl,(λ_ h=>by cases h),ej',ej8',e10,nwa⟩
  .rintro x r σ Mx ⟨⟨y6,y11,y12,rfl⟩,r',q,hr',hsub',hql,hq,f5,f8,f10,nwx⟩;obtain ⟨g,rr,rfl,rfl,rfl⟩:=zBF hr';refine ⟨zAK,_,rfl,?_⟩;obtain ⟨g0,g1⟩:=bb g (hsub' g zXR);rw[zI,zT];refine Ok.mono (zMI (by omega) hlen' f5 (ows g g0 g1)) ?_;rintro x M9 ⟨rfl,c,rfl,hne,hcz,hc⟩;refine zb ?_;rw[zM,zBC];have nwb:=nwx.trans (nwx.gen.lst (c.map D.int) (zm _ _));have e12:(M9++[MO.lst (c.map D.int)])[M9.length]?=some (.lst (c.map D.int)):=zS _ _;have p5:j<M9.length:=(zXG.mp f5).1;have p8:j8<M9.length:=(zXG.mp f8).1;have p10:j10<M9.length:=(zXG.mp f10).1;have f5':(M9++[MO.lst (c.map D.int)])[j]?=some (.lst (ow2.map D.int)):=by rw[zXK p5];exact f5
   have f8':(M9++[MO.lst (c.map D.int)])[j8]?=some (.lst (zA.map λr=>D.tup (r.map D.int))):=by rw[zXK p8];exact f8
   have f10':(M9++[MO.lst (c.map D.int)])[j10]?=some (.lst (q.map D.int)):=by rw[zXK p10];exact f10
   have hj12:M.length<=M9.length:=nwx.len;generalize M9++[MO.lst (c.map D.int)]=Mb at nwb e12 f5' f8' f10';generalize M9.length=j12 at e12 hj12 p5 p8 p10;have hcl0:0<c.length:=List.length_pos_iff.mpr hne;have elen:fB zAX (zQ (zC 12) ze) [some (.ref n),some (.int most),some (.int lm),some (mD base),some (.int many),some (.ref j),y6,some (.int (t:Nat)),some (.ref j8),some (.int o),some (.ref j10),some (.int g),some (.ref j12)] Mb=some (.dat (.int c.length),Mb):=by
    have:=zBh (f:=zC 12) (σ:=[some (.ref n),some (.int most),some (.int lm),some (mD base),some (.int many),some (.ref j),y6,some (.int (t:Nat)),some (.ref j8),some (.int o),some (.ref j10),some (.int g),some (.ref j12)]) (M:=Mb) rfl (za e12);rw[zXM]at this;exact this
   refine zFz.mpr (zAa.mpr ⟨_,rfl,⟨_,zAJ f10'⟩,zy.mpr (zAY.mpr (zBb.mpr (zAa.mpr ⟨_,rfl,?_⟩)))⟩);refine zAz nwb.gen rfl elen (by omega) (by omega) λz Mc z0 z1 nwc _=>?_;have h12:=nwc.get e12 (by omega) (by omega);refine zR7 (za h12) (zEK z0 z1) ?_;have hcv:=hc (c.getD z.toNat 0) (by rw[zXI,zXH (by omega)];exact zXl _);have h5:=nwc.get f5' (by omega) (by omega);have h8:=nwc.get f8' (by omega) (by omega);have h10:=nwc.get f10' (by omega) (by omega);generalize c.getD z.toNat 0=v at hcv;have hql':q.length<l:=by simp at hql;omega
   rw[zL,zAh,zBZ h10 (by rw[zXM];exact zXc (m:=95000) (by omega) (zY (by omega)))];refine ⟨⟨_,_,_,rfl⟩,rr,q++[v],rfl,λx hx=>hsub' x (zXQ _ hx),by simp at hql ⊢;omega,λx hx=>?_,?_,?_,?_,?_⟩
   .rcases zXd.mp hx with w|w
    .exact hq x w
    .have:x=v:=by simpa using w
     subst this;exact hcv
   .rw[zXh (by omega)];exact h5
   .rw[zXh (by omega)];exact h8
   .rw[zX7 (zXG.mp h10).1,zX5];rfl
   .refine (nwb.trans nwc).setB h (by omega) ?_;show D.unds _ _=true;rw[zFe,zm];rfl
  .rintro σ Mx ⟨⟨y6,y11,y12,rfl⟩,r',q,hr',hsub',hql,hq,f5,f8,f10,nwx⟩;have:r'=[]:=by cases r' with|nil=>rfl|cons _ _=>cases hr'
   subst this;refine ⟨zAK,?_⟩;rw[zM,zBC];have et:fB zA2 (zQ (zC 10) ze) [some (.ref n),some (.int most),some (.int lm),some (mD base),some (.int many),some (.ref j),y6,some (.int (t:Nat)),some (.ref j8),some (.int o),some (.ref j10),y11,y12] Mx=some (.dat (.tup (q.map D.int)),Mx):=zCl (x:=.dat (.ref j10)) rfl (za f10);refine zFz.mpr (zAa.mpr ⟨_,rfl,⟨_,zAJ f8⟩,zE (zc et) ?_⟩);have hrl':zA.length<many:=by simp at hrl;omega
   rw[zBZ f8 (by rw[zXM];exact zXc (m:=95000) (by omega) (zY (by omega)))];refine ⟨⟨_,_,_,_,_,rfl⟩,r'',zA++[q],rfl,λx hx=>hsub x (zXQ _ hx),by simp at hrl ⊢;omega,λx hx=>?_,?_,?_,?_⟩
   .rcases zXd.mp hx with w|w
    .exact hrw x w
    .have:x=q:=by simpa using w
     subst this;exact ⟨by simpa using hql,hq⟩
   .rw[zXh (by omega)];exact f5
   .rw[zX7 (zXG.mp f8).1,zX5];rfl
   .refine nwx.setB h hj8 ?_;show D.unds _ _=true;rw[zFe,zPm];simp[D.unds,zA5]
 .rintro σ M' ⟨⟨y6,y9,y10,y11,y12,rfl⟩,r',zA,hr,hsub,hrl,hrw,ej,ej8,nw⟩;have:r'=[]:=by cases r' with|nil=>rfl|cons _ _=>cases hr
  subst this;refine ⟨.inl ej,?_⟩;rw[zM];have hrl':zA.length=many:=by simpa using hrl
  refine zAZ (zHO (zt (d:=mD zA) (zCl (x:=.dat (.ref j8)) rfl (za ej8)) (zc (d:=.ref j) rfl)) (by simp)) ⟨zA,l,j,ow2,rfl,⟨by omega,l0,λq hq=>?_⟩,by omega,hL,ej,by omega,nw⟩;obtain ⟨q1,q2⟩:=hrw q hq;exact ⟨q1,λg hg=>by rw[hrl'];exact q2 g hg⟩
def zOy (h:Gen M n k) (hm:9<=most) (hm1:most<=900) (hl:0<lm) (hl1:lm<=900) :
  Ok (zBs [.ref n,.int most,.int lm] M) λd M'=>∃ zA l p,d=.tup [mD zA,tI p]/\IsM zA l/\(zA.length:Int)<=most/\(l:Int)<=lm/\p.length=zA.length/\Nw M M' n k:=by
 obtain ⟨hn,hk⟩:=h.lt;unfold zBs;refine zFn ?_;rw[zAE];unfold zDx
 have tail:∀ (A:Mem) (zA:Ya) (l j:Nat) (ow:Ye) (y5 y6:Option D),Nw M A n k->IsM zA l->(zA.length:Int)<=most->(l:Int)<=lm->A[j]?=some (.lst (ow.map D.int))->ow.length=zA.length ->
   OkS (zAS (zAd (zD (toD (zC 3)) (zD (toD (zP zAc (zD (toD (zC 4)) zH))) zH))) [some (.ref n),some (.int most),some (.int lm),some (mD zA),some (.ref j),y5,y6] A) λo x M1=>match o with
    |.ret d=>(D.und M.length d=true/\M.length<=M1.length /\ ∀ (j:Nat) u,j<M.length->M1[j]?=some u->MO.und M.length u=true) /\ ∃ zA l p,d=.tup [mD zA,tI p]/\IsM zA l/\(zA.length:Int)<=most/\(l:Int)<=lm/\p.length=zA.length/\Nw M (M1.take M.length) n k
    |.nx=>(D.und M.length .non=true/\M.length<=M1.length /\ ∀ (j:Nat) u,j<M.length->M1[j]?=some u->MO.und M.length u=true) /\ ∃ zA l p,D.non=.tup [mD zA,tI p]/\IsM zA l/\(zA.length:Int)<=most/\(l:Int)<=lm/\p.length=zA.length/\Nw M (M1.take M.length) n k
    |_=>False:=by
  intro A zA l j ow y5 y6 nw m h1 h2 ej hol;refine zAZ (zHO (zt (d:=mD zA) rfl (zc (d:=tI (zD6 ow)) (zAM (zc (d:=.ref j) rfl) (zGc nw.gen.wf ej (by omega))))) (by simp)) ⟨⟨?_,nw.len,nw.wf0 h⟩,zA,l,zD6 ow,rfl,m,h1,h2,by rw[zHq,hol],nw.trim h⟩;unfold D.und D.unds D.unds D.unds;rw[zH5];simp[tI,zA5]
 rw[zI,zA1];refine zKG.mpr (zBb.mpr (zAz h rfl rfl (by decide) (by decide) λw M1 w0 w1 nw1 _=>zFt.mpr (zKt.mpr (zJy.mpr ?_))));by_cases hw:w=0
 .rw[zXS (by simpa using hw),zNb];refine zAj.mpr (zE (zt rfl (zt rfl (zc rfl))) ?_);refine Ok.mono (zPB nw1.gen hm hm1 hl hl1) ?_;rintro d M2 ⟨zA,l,j,ow,rfl,m,h1,h2,ej,hol,nw2⟩;rw[zL];refine ⟨_,rfl,?_⟩;rw[zM];exact tail M2 zA l j ow _ _ (nw1.trans nw2) m h1 h2 ej hol
 .rw[zXV (by simpa using hw),zI,zT];refine zAj.mpr (zE (zt rfl (zt rfl (zc rfl))) ?_);refine Ok.mono (zHx nw1.gen (by omega) hm1 hl hl1) ?_;rintro d M2 ⟨⟨zA,l,rfl,m,h1,h2⟩,nw2⟩;have r0:=m.r0;have nw2':=nw1.trans nw2;rw[zL,zM,zI,zT];refine zBb.mpr (zFt.mpr (zAz nw2'.gen rfl (zCF rfl) (by omega) (by omega) λf M3 f0 f1 nw3 _=>zGA.mpr ?_));have nw3':=nw2'.trans nw3;rw[zL,zM,zT];refine Ok.mono (zOC nw3'.gen (few:=1+f) (xs:=zA.map λr=>D.tup (r.map D.int)) (by omega) (by omega) (by simp;omega) rfl (λ_ _=>rfl) (λ_ _=>rfl)) ?_;rintro x M4 ⟨⟨c,rfl,hcl,_⟩,nw4⟩;have nw4':=nw3'.trans nw4;refine zb ?_;rw[zM];exact tail _ zA l M4.length c _ _ (nw4'.trans (nw4'.gen.lst _ (zm _ _))) m (by omega) h2 (zS _ _) (by rw[hcl];simp)
open Lac
def zE6:FS:=(zAS (zAd (zD (toD (fB zHp (zQ (zC 0) (zQ (zC 1) ze)))) (zD (toD (fB zLf (zQ (zC 0) (zQ (zC 1) ze)))) zH))))
def zAt:FF:=zBV 2 zE6
def zEF:FS:=(zX (zq 1 (zAb zH))
  (zX (zBw (zAA (zD (toD (zC 0)) zH)) (gN 2) (zAk (fM zEp (zC 1) (zD (toD (zi [3] (zAA (zD (toD (fOp zAI (zC 2) (fC (.int 1)))) (zD (toD (zC 0)) zH))) (gN 3) zv (zAd (zD (toD (zC 2)) (zD (toD (zC 3)) zH))))) zH))))
  (zAS (zC 1))))
def zAP:FF:=zBV 4 zEF
def zGZ:zAt [.int a,.int b] M=some (tI (zAl a b),M):=by
 refine zW ?_;unfold zAt;rw[zAE];unfold zE6;exact zAZ (d:=tI (zAl a b)) (zHO (zt (zNR (i:=a) (j:=b) rfl rfl) (zc (zSh (i:=a) (j:=b) rfl rfl))) (by simp[zAl])) ⟨rfl,rfl⟩
def zMq (hk:k<n):((List.range n).map λ(k:Nat)=>(k:Int)).drop (k+1)=(List.range (n-(k+1))).map λ(j:Nat)=>((k:Int)+1+(j:Int)):=by
 apply zZZ;intro i;rw[List.getElem?_drop,zXa,zXa];by_cases h:i<n-(k+1)
 .rw[zZH (by omega),zZH h];simp only[Option.map_some];all_goals (congr 1 <;> omega)
 .rw[zYM (by rw[zZA];omega),zYM (by rw[zZA];omega)];rfl
def zDr (hN:N=(zA.length:Int)) (hz:zA.length<=100) :
  Ok (zAP [.int N] M) λd M'=>d=.ref M.length /\ ∃ us:Mem,M'=M ++ .lst ((zK (zF zA)).map tI)::us /\ ∀ u∈us,MO.und 0 u=true:=by
 have hrl:(zF zA).length=zA.length:=by unfold zF;simp
 have hpw:(zF zA).Pairwise (· < ·):=by
  unfold zF;rw[List.pairwise_map];exact List.Pairwise.imp (λh=>by omega) List.pairwise_lt_range
 unfold zAP;rw[zAE];unfold zEF;rw[zI,zT];refine zE (M:=M) (a:=.fl []) (zPR rfl (by simp)) (zb ?_);rw[zM];rw[zI,zAs];refine ⟨_,_,_,zBt (j:=N) rfl (by omega) (by omega),?_⟩;rw[show N.toNat=zA.length by omega];refine zHu (n:=zA.length) (I:=λk σ M'=>(∃ y2 y3,σ=[some (.int N),some (.ref M.length),y2,y3]) /\ ∃ us:Mem,M'=M ++ .lst ((zGF (zF zA) k).map tI)::us /\ ∀ u∈us,MO.und 0 u=true) ?_ ?_ _ _ ⟨⟨_,_,rfl⟩,[],by simp[zGF],(λ_ h=>by cases h)⟩
 .rintro k σ M' hk ⟨⟨y2,y3,rfl⟩,us,rfl,hu⟩;refine ⟨_,rfl,?_⟩;generalize hA:M++MO.lst ((zGF (zF zA) k).map tI)::us=A;have a1:A[M.length]?=some (.lst ((zGF (zF zA) k).map tI)):=by rw[<-hA];simp
  have al:M.length<A.length:=(zXG.mp a1).1;rw[zBC];have ec:=zAg (own:=[3]) (g:=gN 3) (te:=zAd (zD (toD (zC 2)) (zD (toD (zC 3)) zH))) (σ:=[some (.int N),some (.ref M.length),some (.int (k:Int)),y3]) (M:=A) (List.range (N-((k:Int)+1)).toNat) (λ(j:Nat)=>D.int ((k:Int)+1+(j:Int))) (λ(j:Nat)=>tI [(k:Int),(k:Int)+1+(j:Int)]) (zN9 (f:=fOp zAI (zC 2) (fC (.int 1))) (g:=zC 0) (i:=(k:Int)+1) (j:=N) rfl rfl (by omega) (by omega) (by omega) (by omega)) trivial (by rw[zZA];omega) λb _=>⟨_,rfl,zHO (zt (d:=.int (k:Int)) rfl (zc (d:=.int ((k:Int)+1+(b:Int))) rfl)) (by simp)⟩;have htl:=zSt (zF zA) k;rw[hrl]at htl;have hmul:k*zA.length<=100*100:=zYp (by omega) hz;refine zFz.mpr (zE (a:=.dat (.ref M.length)) (M:=A) rfl ⟨⟨_,zAJ a1⟩,zy.mpr (zAY.mpr (zE ec (zb ?_)))⟩);rw[zAh];have ey:((List.range (N-((k:Int)+1)).toNat).map λ(j:Nat)=>tI [(k:Int),(k:Int)+1+(j:Int)])=((zF zA).drop (k+1)).map λb=>tI [(zF zA).getD k 0,b]:=by
   have e1:(zF zA).getD k 0=(k:Int):=by
    unfold zF;rw[zXI,zXa,zZH hk];rfl
   rw[e1];unfold zF;rw[zMq hk,zXb,show (N-((k:Int)+1)).toNat=zA.length-(k+1) by omega];rfl
  rw[ey];refine zE (zOd (n:=M.length) (m:=A.length) (xs:=(zGF (zF zA) k).map tI) (ys:=((zF zA).drop (k+1)).map λb=>tI [(zF zA).getD k 0,b]) (by rw[zXK al];exact a1) (zS _ _) (by rw[zXM,zXM,List.length_drop,hrl];omega)) ?_;refine ⟨⟨_,_,rfl⟩,us++[.lst (((zF zA).drop (k+1)).map λb=>tI [(zF zA).getD k 0,b])],?_,λu hu'=>?_⟩
  .rw[<-hA,zYJ,List.set_append_right _ _ (zXJ _)];have:(zGF (zF zA) (k+1)).map tI=(zGF (zF zA) k).map tI++((zF zA).drop (k+1)).map λb=>tI [(zF zA).getD k 0,b]:=by
    unfold zGF;rw[List.range_succ,List.flatMap_append,zX5];simp[zXb,Function.comp_def]
   rw[this];simp
  .rcases zXd.mp hu' with q|q
   .exact hu u q
   .rw[zXf]at q;subst q;rw[show ((zF zA).drop (k+1)).map (λb=>tI [(zF zA).getD k 0,b])=(((zF zA).drop (k+1)).map λb=>[(zF zA).getD k 0,b]).map tI by rw[zXb];rfl];exact zB9 0 _
 .rintro σ M' ⟨⟨y2,y3,rfl⟩,us,rfl,hu⟩;rw[zM];exact zAZ (d:=.ref M.length) rfl ⟨rfl,us,by rw[<-hrl,zOK hpw],hu⟩
def zC6 (zA:Ya) (a:Int):List Int:=zA.getD a.toNat []
def zpR (zA:Ya) (p:Ye):List (List Int):=((zC6 zA (p.getD 0 0)).zip (zC6 zA (p.getD 1 0))).map λq=>zAl q.1 q.2
def stB (zA:Ya) (ps:Ya):List (List Int × List Int):=ps.flatMap λp=>(zpR zA p).map λg=>(p,g)
def zQ5 (zA:Ya) (ps:Ya) (p:Ye):stB zA (ps++[p])=stB zA ps++(zpR zA p).map λg=>(p,g):=by
 unfold stB;rw[List.flatMap_append];simp
def zSq:(p,g)∈stB zA ps ↔ p∈ps/\g∈zpR zA p:=by
 unfold stB;rw[List.mem_flatMap];constructor
 .rintro ⟨a,ha,h⟩;obtain ⟨b,hb,e⟩:=zXU.mp h;cases e;exact ⟨ha,hb⟩
 .rintro ⟨h1,h2⟩;exact ⟨p,h1,zXU.mpr ⟨g,h2,rfl⟩⟩
def zNp (m:IsM zA l) (h:p∈zK (zF zA)):(zpR zA p).length=l:=by
 obtain ⟨a,b,rfl,ha,hb,_⟩:=zh.mp h;obtain ⟨i,hi,rfl⟩:=zXU.mp ha;obtain ⟨j,hj,rfl⟩:=zXU.mp hb;have:=zXr.mp hi;have:=zXr.mp hj;have h1:=(m.get (h:=(i:Int)) (by omega) (by omega)).1;have h2:=(m.get (h:=(j:Int)) (by omega) (by omega)).1;unfold zpR;rw[zXM,List.length_zip];show min (zC6 zA (i:Int)).length (zC6 zA (j:Int)).length=l;unfold zC6;rw[h1,h2];omega
theorem zN0 (m:IsM zA l):∀ {ps:Ya},(∀ p∈ps,p∈zK (zF zA))->(stB zA ps).length=ps.length*l
 |[],_=>by simp[stB]
 |p::r,h=>by
  have ih:=zN0 m (ps:=r) λq hq=>h q (zXQ _ hq);unfold stB at ih ⊢;rw[List.flatMap_cons,zXT,ih,zXM,zNp m (h p zXR),zXk,Nat.add_mul];omega
abbrev bhS (zA:Ya) (x1:Option D) (jA:Nat) (y3 y4 y5:Option D):Sd:=[some (mD zA),x1,some (.ref jA),y3,y4,y5,none,none,none,none]
structure Wb (zA:Ya) (B M:Mem) (jA:Nat) (ps:List (List Int × List Int)):Prop where
 a:SrG M jA (B.length-1) ps
 ad:∀ T,M[jA]?=some (dT T) -> ∀ q∈T,∃ j,q.2=.ref j/\j<M.length
 len:B.length<=M.length
 fr:∀ j,j<B.length->j≠jA->M[j]?=B[j]?
 wf:∀ (j:Nat) u,B.length<=j->M[j]?=some u -> ∃ ts:List (List Int),u=.lst (ts.map tI)
def zSU (h:Wb zA B M jA ps) (hA:jA<B.length-1) (hps:ps.length<50000) (hσ:(zC 4 σ M=some (.dat (.int a),M)/\zC 5 σ M=some (.dat (.int b),M)))
  (v2:∀ M,zC 2 σ M=some (.dat (.ref jA),M)) (v3:∀ M,zC 3 σ M=some (.dat (tI p),M)) (v4:∀ M,zC 4 σ M=some (.dat (.int a),M)) (v5:∀ M,zC 5 σ M=some (.dat (.int b),M)) (hB:0<B.length) :
  OkS (zAk (fM zr (zB7 (zC 2) (zP zAt (zD (toD (zC 4)) (zD (toD (zC 5)) zH))) (zAb zH)) (zD (toD (zC 3)) zH)) σ M) λo σ' M'=>o=.nx/\σ'=σ/\Wb zA B M' jA (ps++[(p,zAl a b)]):=by
 have hlen:=h.len;refine OkS.mono (zSX (lo:=B.length-1) (goal:=zAl a b) (fk:=zP zAt (zD (toD (zC 4)) (zD (toD (zC 5)) zH))) hps hA (by omega) h.a h.ad v2 (λM=>zAM (zt (v4 M) (zc (v5 M))) zGZ) v3) ?_;rintro o σ' M' ⟨rfl,rfl,sr,ad,hl,fr,wf⟩;refine ⟨rfl,rfl,sr,ad,by omega,λj hj hn=>(fr j (by omega) hn).trans (h.fr j hj hn),λj u hj e=>?_⟩;rcases wf j u (by omega) e with z|z
 .exact z
 .exact h.wf j u hj z
def zQB (m:IsM zA l) (hR:zA.length<=26) (hl:l<=12) (hA:M[jA]?=some (dT [])) (hJ:jA<M.length) :
  OkS (zBw (zu (zP zAP (zD (toD (fB zAX (zQ (zC 0) ze))) zH))) (gN 3) (zBw (zGq (zD (toD (fOp kIx (zC 0) (fOp kIx (zC 3) (fC (.int 0))))) (zD (toD (fOp kIx (zC 0) (fOp kIx (zC 3) (fC (.int 1))))) zH))) (zBU 4 5) (zAk (fM zr (zB7 (zC 2) (zP zAt (zD (toD (zC 4)) (zD (toD (zC 5)) zH))) (zAb zH)) (zD (toD (zC 3)) zH)))) (bhS zA x1 jA y3 y4 y5) M)
   λo σ' M'=>o=.nx/\(∃ y3 y4 y5,σ'=bhS zA x1 jA y3 y4 y5) /\ ∃ B:Mem,jA<B.length-1/\M.length<B.length/\Wb zA B M' jA (stB zA (zK (zF zA)))/\(∀ j,j<M.length->B[j]?=M[j]?) /\ ∀ (j:Nat) u,M.length<=j->B[j]?=some u->MO.und 0 u=true:=by
 have eL:toD (fB zAX (zQ (zC 0) ze)) (bhS zA x1 jA y3 y4 y5) M=some (.int (zA.length:Int),M):=by
  have:=zBh (f:=zC 0) (σ:=bhS zA x1 jA y3 y4 y5) (M:=M) (x:=.dat (mD zA)) rfl zj;rw[zXM]at this;exact zER this
 obtain ⟨d,M1,e1,rfl,us,eM1,hus⟩:=zDr (zA:=zA) (M:=M) (N:=(zA.length:Int)) rfl (by omega);have eP:M1[M.length]?=some (.lst ((zK (zF zA)).map tI)):=by rw[eM1];simp
 rw[zAs];refine ⟨_,_,_,zC1 (ds:=[.int (zA.length:Int)]) (by unfold zD zH;rw[eL]) e1 eP,?_⟩;have h1:M.length<M1.length:=(zXG.mp eP).1;have hfr:∀ j,j<M.length->M1[j]?=M[j]?:=λj hj=>by rw[eM1,zXK hj]
 have hund:∀ (j:Nat) u,M.length<=j->M1[j]?=some u->MO.und 0 u=true:=λj u hj e=>by
  rw[eM1,zYN hj]at e;have:=zX4 e;rcases zXP.mp this with z|z
  .subst z;exact zB9 0 _
  .exact hus u z
 have hPl:(zK (zF zA)).length<=676:=by
  have h2:=zBe (zF zA);have hrl:(zF zA).length=zA.length:=by unfold zF;simp
  rw[hrl]at h2;exact zXe h2 (zYp hR hR)
 have eA1:M1[jA]?=some (dT []):=(hfr jA hJ).trans hA;have w0:Wb zA M1 M1 jA (stB zA []):=by
  refine ⟨⟨[],eA1,by simp,(λg d h=>by cases h),(λ_ _=>rfl),(λg g' j h=>by cases h)⟩,λT e q hq=>?_,zXJ _,λ_ _ _=>rfl,λj u hj e=>absurd (zXG.mp e).1 (by omega)⟩;rw[eA1]at e;have:zEt ([]:List (List Int × D))=zEt T:=MO.dicT.inj (zYD e);cases T with
  |nil=>cases hq
  |cons _ _=>cases this
 refine zAf (I:=λr σ M'=>(∃ y3 y4 y5,σ=bhS zA x1 jA y3 y4 y5) /\ ∃ us vs:List (List Int),zK (zF zA)=us++vs/\r=vs.map tI/\Wb zA M1 M' jA (stB zA us)) ?_ ?_ _ _ _ ⟨⟨_,_,_,rfl⟩,[],_,rfl,rfl,w0⟩
 .rintro x r σ M' ⟨⟨y3,y4,y5,rfl⟩,us,vs,hab,hr,w⟩;have ep:M'[M.length]?=some (.lst ((zK (zF zA)).map tI)):=(w.fr _ h1 (by omega)).trans eP;cases vs with
  |nil=>cases hr
  |cons p vs=>
   rw[zXW]at hr;obtain ⟨rfl,rfl⟩:=zYH hr;have hpm:p∈zK (zF zA):=by rw[hab];simp
   have hul:us.length<676:=by have:=zY0 List.length hab;simp at this;omega
   refine ⟨.inl ep,_,rfl,?_⟩;obtain ⟨a,b,rfl,ha,hb,_⟩:=zh.mp hpm;obtain ⟨i,hi,rfl⟩:=zXU.mp ha;obtain ⟨j,hj,rfl⟩:=zXU.mp hb;have hi':=zXr.mp hi;have hj':=zXr.mp hj;have ra:=zFN (zA:=zA) (h:=(i:Int)) (by omega) (by omega);have rb:=zFN (zA:=zA) (h:=(j:Int)) (by omega) (by omega);rw[zAs];have ez:zGq (zD (toD (fOp kIx (zC 0) (fOp kIx (zC 3) (fC (.int 0))))) (zD (toD (fOp kIx (zC 0) (fOp kIx (zC 3) (fC (.int 1))))) zH)) (bhS zA x1 jA (some (tI [(i:Int),(j:Int)])) y4 y5) M'=some (((zC6 zA (i:Int)).zip (zC6 zA (j:Int))).map (λq=>D.tup [.int q.1,.int q.2]),none,M'):=by
    unfold zGq;rw[zt (d:=.tup ((zC6 zA (i:Int)).map D.int)) (zJ (x:=.dat (mD zA)) (y:=.dat (.int (i:Int))) rfl (zJ (x:=.dat (tI [(i:Int),(j:Int)])) (y:=.dat (.int 0)) rfl rfl (zAx zj rfl)) (zAx zj ra)) (zc (d:=.tup ((zC6 zA (j:Int)).map D.int)) (zJ (x:=.dat (mD zA)) (y:=.dat (.int (j:Int))) rfl (zJ (x:=.dat (tI [(i:Int),(j:Int)])) (y:=.dat (.int 1)) rfl rfl (zAx zj rfl)) (zAx zj rb)))];dsimp only;rw[List.zip_map,zXb];rfl
   refine ⟨_,_,_,ez,?_⟩;have hcnt:∀ us2:List (Int × Int),us2.length<=12->(stB zA us++(us2.map λq=>zAl q.1 q.2).map λg=>([(i:Int),(j:Int)],g)).length<50000:=λus2 h=>by
    rw[zXT,zN0 m (λq hq=>by rw[hab];exact zYS _ hq),zXM,zXM];have:=zYp (show us.length<=676 by omega) hl;omega
   have hzl:((zC6 zA (i:Int)).zip (zC6 zA (j:Int))).length=l:=by
    have:=zNp m hpm;unfold zpR at this;rw[zXM]at this;exact this
   generalize hZ:(zC6 zA (i:Int)).zip (zC6 zA (j:Int))=Z at hzl;refine zAf (I:=λr σ M''=>(∃ y4 y5,σ=bhS zA x1 jA (some (tI [(i:Int),(j:Int)])) y4 y5) /\ ∃ us2 vs2:List (Int × Int),Z=us2++vs2/\r=vs2.map (λq=>D.tup [.int q.1,.int q.2])/\Wb zA M1 M'' jA (stB zA us++(us2.map λq=>zAl q.1 q.2).map λg=>([(i:Int),(j:Int)],g))) ?_ ?_ _ _ _ ⟨⟨_,_,rfl⟩,[],Z,rfl,rfl,by simpa using w⟩
   .rintro x r σ M2 ⟨⟨y4,y5,rfl⟩,us2,vs2,hab2,hr2,w2⟩;cases vs2 with
    |nil=>cases hr2
    |cons q vs2=>
     rw[zXW]at hr2;obtain ⟨rfl,rfl⟩:=zYH hr2;have hu2:us2.length<=12:=by have:=zY0 List.length hab2;simp at this;omega
     refine ⟨zAK,_,rfl,?_⟩;refine OkS.mono (zSU (p:=[(i:Int),(j:Int)]) (a:=q.1) (b:=q.2) (σ:=bhS zA x1 jA (some (tI [(i:Int),(j:Int)])) (some (.int q.1)) (some (.int q.2))) w2 (by omega) (hcnt us2 hu2) ⟨rfl,rfl⟩ (λ_=>rfl) (λ_=>rfl) (λ_=>rfl) (λ_=>rfl) (by omega)) ?_;rintro o σ' M3 ⟨rfl,rfl,w3⟩;refine ⟨⟨_,_,rfl⟩,us2++[q],vs2,by rw[hab2];simp,rfl,?_⟩;rw[zX5,zX5,<-zYJ];exact w3
   .rintro σ M2 ⟨⟨y4,y5,rfl⟩,us2,vs2,hab2,hr2,w2⟩;have:vs2=[]:=by cases vs2 with|nil=>rfl|cons _ _=>cases hr2
    subst this;rw[zXx]at hab2;refine ⟨zAK,⟨_,_,_,rfl⟩,us++[[(i:Int),(j:Int)]],vs,by rw[hab];simp,rfl,?_⟩;rw[zQ5];have:zpR zA [(i:Int),(j:Int)]=us2.map λq=>zAl q.1 q.2:=by
     unfold zpR;rw[<-hab2,<-hZ];rfl
    rw[this];exact w2
 .rintro σ M' ⟨⟨y3,y4,y5,rfl⟩,us,vs,hab,hr,w⟩;have:vs=[]:=by cases vs with|nil=>rfl|cons _ _=>cases hr
  subst this;rw[zXx]at hab;rw[<-hab]at w;exact ⟨.inl ((w.fr _ h1 (by omega)).trans eP),rfl,⟨_,_,_,rfl⟩,M1,by omega,h1,w,hfr,hund⟩
def zDo:FS:=(zX (zq 2 zKS)
  (zX (zBw (zu (zP zAP (zD (toD (fB zAX (zQ (zC 0) ze))) zH))) (gN 3) (zBw (zGq (zD (toD (fOp kIx (zC 0) (fOp kIx (zC 3) (fC (.int 0))))) (zD (toD (fOp kIx (zC 0) (fOp kIx (zC 3) (fC (.int 1))))) zH))) (zBU 4 5) (zAk (fM zr (zB7 (zC 2) (zP zAt (zD (toD (zC 4)) (zD (toD (zC 5)) zH))) (zAb zH)) (zD (toD (zC 3)) zH)))))
  (zX (zq 6 (fB (zEq true) (zQ (zi [7] (zu (zC 1)) (gN 7) zv (zAd (zD (toD (zC 7)) (zD (toD (fC (.int 0))) zH)))) ze)))
  (zX (zq 8 (fB zGU (zQ (zC 1) ze)))
  (zX (zq 9 (fC (.int 0)))
  (zX (zBf (tst (fOp kLt (zC 9) (fB zAX (zQ (zC 8) ze)))) (zX (zBw (zu (zBG (zC 2) (fOp kIx (zC 8) (zC 9)) (zAb zH))) (gN 3) (sIf (tst (fOp (zAe true) (zC 3) (zC 6))) (zX (zBn (fOp zAI (fOp zp (zC 6) (fOp kIx (zC 8) (zC 9))) (fC (.int 1))) (zC 6) (zC 3))
  (zAk (fM zr (zC 8) (zD (toD (zC 3)) zH)))) zBB))
  (zq 9 (fOp zAI (zC 9) (fC (.int 1))))) 1000)
  (zAS (zC 6))))))))
def zA4:FF:=zBV 10 zDo
theorem zLu:∀ (r q:Ya),(q++r).Nodup->(q++r).length<=80000->L3.zF8 A.length (r.map λg=>D.tup [tI g,.int 0]) (A++[dT (zAU (q.map λg=>(g,(0:Int))))])=some (A++[dT (zAU ((q++r).map λg=>(g,(0:Int))))])
 |[],q,_,_=>by rw[zXx];rfl
 |g::r,q,nd,hz=>by
  have hg:g∉(q.map λg=>(g,(0:Int))).map (·.1):=by
   rw[zXb,show ((λ(x:List Int × Int)=>x.1)∘λ(t:Ye)=>(t,(0:Int)))=id from rfl,List.map_id];rw[zYR]at nd;exact λz=>nd.2.2 g z g zXR rfl
  have hl:q.length<90000:=by simp at hz;omega
  rw[zXW];unfold L3.zF8;rw[zJS (T:=zAU (q.map λg=>(g,(0:Int)))) (zS _ _) (by unfold zAU;rw[zXM,zXM];exact hl),zLg hg];dsimp only;rw[List.set_append_right _ _ (zXJ _),Nat.sub_self,List.set_cons_zero];have:=zLu (A:=A) r (q++[g]) (by simpa using nd) (by simpa using hz);rw[show (q++[g]).map (λg=>(g,(0:Int)))=q.map (λg=>(g,(0:Int)))++[(g,0)] by simp]at this;rw[this,zYJ];rfl
def zEJ (zA:Ya) (g:Ye):List (List Int):=zCz (stB zA (zK (zF zA))) g
def zHS:p∈zEJ zA g ↔ p∈zK (zF zA)/\g∈zpR zA p:=by
 unfold zEJ;rw[zPZ,zSq]
def zEu {zA:Ya} (m:IsM zA l) (hR:zA.length<=26) (hl:l<=12) {M:Mem} {gs:Ya} (hg:M[jg]?=some (.lst (gs.map tI))) (nd:gs.Nodup) {U:Ya} (hU1:∀ p∈zK (zF zA),p∈U) (hU2:∀ g∈gs,g∈U) (hz:U.length<=800) :
  Ok (zA4 [mD zA,.ref jg] M) λd M'=>∃ jf T,d=.ref jf/\M.length<=jf/\M'[jf]?=some (dT (zAU T))/\BI (zEJ zA) gs T T.length/\(∀ p∈T.map (·.1),p∈U)/\M.length<=M'.length/\(∀ j,j<M.length->M'[j]?=M[j]?) /\ ∀ (j:Nat) u,M.length<=j->M'[j]?=some u->MO.und M'.length u=true:=by
 have hgl:=(zXG.mp hg).1;have hgz:gs.length<=800:=zXe (zHj _ _ nd hU2) hz;unfold zA4;rw[zAE];unfold zDo;show OkS (zX _ _ [some (mD zA),some (.ref jg),none,none,none,none,none,none,none,none] M) _;rw[zI,zT];refine zE (M:=M++[.dicT []]) (a:=.dat (.ref M.length)) rfl ?_;rw[zL,zM];rw[zI];simp only[List.set_cons_succ,List.set_cons_zero];refine OkS.mono (zQB m hR hl (zS _ _) (by simp)) ?_;rintro o σ' M2 ⟨rfl,⟨y3,y4,y5,rfl⟩,B1,hA1,hB1,w,fr1,und1⟩;rw[zXT,zaS]at hB1 fr1 und1;rw[zM,zI,zT];have w2:=w.len;have g2:M2[jg]?=some (.lst (gs.map tI)):=by rw[w.fr jg (by omega) (by omega),fr1 jg (by omega),zXK hgl];exact hg
 have ec:=zAg (own:=[7]) (g:=gN 7) (te:=zAd (zD (toD (zC 7)) (zD (toD (fC (.int 0))) zH))) (fi:=zu (zC 1)) (σ:=bhS zA (some (.ref jg)) M.length y3 y4 y5) (M:=M2) gs tI (λg=>D.tup [tI g,.int 0]) (gd:=zCq (.dat (.ref jg)) (gs.map tI)) (by unfold zu;rw[show zC 1 (bhS zA (some (.ref jg)) M.length y3 y4 y5) M2=some (.dat (.ref jg),M2)from rfl];dsimp only;rw[za g2]) (.inl g2) (by omega) λg _=>⟨_,rfl,zHO (zt (d:=tI g) rfl (zc (d:=.int 0) rfl)) (by simp)⟩;have ed:fB (zEq true) (zQ (zi [7] (zu (zC 1)) (gN 7) zv (zAd (zD (toD (zC 7)) (zD (toD (fC (.int 0))) zH)))) ze) (bhS zA (some (.ref jg)) M.length y3 y4 y5) M2=some (.dat (.ref M2.length),M2++[dT (zAU (gs.map λg=>(g,(0:Int))))]):=by
  unfold fB zQ ze;rw[ec];unfold zEq;dsimp only;have:=zLu (A:=M2) gs [] (by simpa using nd) (by simp;omega);rw[show zFE true=dT (zAU (([]:List (List Int)).map λg=>(g,(0:Int))))from rfl,this];rfl
 refine zE ed ?_;rw[zL,zM];have hM2:M.length+1<M2.length:=by omega
 have g3:(M2++[dT (zAU (gs.map λg=>(g,(0:Int))))])[jg]?=some (.lst (gs.map tI)):=by rw[zXK (by omega)];exact g2
 rw[zI,zT];refine zP7.mpr (zEL.mpr (zAa.mpr ⟨_,rfl,zFV.mpr ((zQy (za g3)).mpr (zb ?_))⟩));rw[zM];refine zC8 (d:=.int 0) rfl ?_;generalize hB:M2++[dT (zAU (gs.map λg=>(g,(0:Int))))]++[MO.lst (gs.map tI)]=B;have eJ:(M2++[dT (zAU (gs.map λg=>(g,(0:Int))))]).length=M2.length+1:=by simp
 rw[eJ];have bl:B.length=M2.length+2:=by rw[<-hB];simp
 have bF:B[M2.length]?=some (dT (zAU (gs.map λg=>(g,(0:Int))))):=by rw[<-hB,zXK (by simp)];exact zS _ _
 have bR:B[M2.length+1]?=some (.lst (gs.map tI)):=by
  have:=zS (M2++[dT (zAU (gs.map λg=>(g,(0:Int))))]) (MO.lst (gs.map tI));rw[eJ]at this;rw[<-hB];exact this
 have bO:∀ j,j<M2.length->B[j]?=M2[j]?:=λj hj=>by rw[<-hB,zYJ,zXK hj]
 obtain ⟨TA,eA,hTl,k1,k2,k3⟩:=w.a.ex;have key:((gs.map λg=>(g,(0:Int))).map (·.1))=gs:=by rw[zXb,show ((λ(x:List Int × Int)=>x.1)∘λ(t:Ye)=>(t,(0:Int)))=id from rfl,List.map_id]
 have hPl:(zK (zF zA)).length<=676:=by
  have h2:=zBe (zF zA);have hrl:(zF zA).length=zA.length:=by unfold zF;simp
  rw[hrl]at h2;exact zXe h2 (zYp hR hR)
 rw[zI];refine OkS.mono (zOO (src:=zEJ zA) (goals:=gs) (U:=U) (TA:=TA) (T:=gs.map λg=>(g,(0:Int))) (by rw[bO _ (by omega)];exact eA) (by omega) (by omega) (by omega) (by omega) (by omega) (λg=>?_) ⟨bF,by rw[key];exact bR,zXJ _,λ_ _ _ _=>rfl,λj u hj e=>absurd (zXG.mp e).1 (by omega)⟩ (zRl nd) (λg p hp=>hU1 p (zHS.mp hp).1) (λp hp=>by rw[key]at hp;exact hU2 p hp) hz) ?_
 .cases e:zG TA g with
  |none=>exact .inr ⟨rfl,k2 g e⟩
  |some d=>
   obtain ⟨j,rfl,hj,ej⟩:=k1 g d e;have:=(zXG.mp ej).1;exact .inl ⟨j,rfl,by omega,by omega,by rw[bO j this];exact ej⟩
 .rintro o σ' M3 ⟨rfl,⟨y3,i,rfl⟩,T,b,bi,hU⟩;rw[zM];have bl3:=b.len;refine zAZ (d:=.ref M2.length) rfl ⟨M2.length,T,rfl,by omega,b.f,bi,hU,by omega,λj hj=>?_,λj u hj e=>?_⟩
  .rw[b.fr j (by omega) (by omega) (by omega),bO j (by omega),w.fr j (by omega) (by omega),fr1 j (by omega),zXK hj]
  .rcases zYZ j B.length with z|z
   .by_cases z1:j=M2.length
    .subst z1;rw[b.f]at e;cases e;show ((zEt (zAU T)).all λp=>D.und M3.length p.1&&D.und M3.length p.2)=true;rw[zXo];intro p hp;obtain ⟨r,hr,rfl⟩:=zXU.mp hp;obtain ⟨r',hr',rfl⟩:=zXU.mp hr;simp[tI,zA5,D.und,zm]
    by_cases z2:j=M2.length+1
    .subst z2;rw[b.r]at e;cases e;exact zB9 _ _
    rw[b.fr j z z1 z2,bO j (by omega)]at e;by_cases z3:j=M.length
    .subst z3;rw[eA]at e;cases e;show ((zEt TA).all λp=>D.und M3.length p.1&&D.und M3.length p.2)=true;rw[zXo];intro p hp;obtain ⟨r,hr,rfl⟩:=zXU.mp hp;obtain ⟨j,h1,h2⟩:=w.ad TA eA r hr;rw[h1];have:j<M3.length:=by omega
     simp[tI,zA5,D.und,zm,this]
    rcases zYZ j B1.length with y|y
    .rw[w.fr j y z3]at e;exact zBQ (zXz _) (und1 j u (by omega) e)
    .obtain ⟨ts,rfl⟩:=w.wf j u y e;exact zB9 _ _
   .rw[b.wf j u z e];rfl
end Lad
namespace Lac
open PySem PySem.Spec PyProof.Rows L2 L3 ST Law
end Lac
namespace Lac
open PySem PySem.Spec PyProof.Rows L2 L3 ST Law
def zKN:FS:=(zX (zq 1 (zP zDR (zD (toD (zC 0)) zH)))
  (zAS (fB zA2 (zQ (zi [2] (zu (zP zAT (zD (toD (zP zAH (zD (toD (zC 0)) zH))) zH))) (gN 2) (tst (fOp (zAe true) (zC 2) (zC 1))) (zC 2)) ze))))
def zFx:FF:=zHU (zBV 3 zKN)
open Classical in
def zx (zA:Ya) (l:Nat):List (List Int):=(zK (zF zA)).filter λp=>decide (p∉zBx zA l One)
def zNU (n:Nat) (ps:Ya):D.und n (.tup (ps.map tI))=true:=by unfold D.und;exact zB9 n ps
def zQ7 (m:IsM zA l) (hR:zA.length<=26) (hl:l<=12):zFx [mD zA] M=some (.tup ((zx zA l).map tI),M):=by
 refine zW ?_;unfold zFx;refine zJ2 ?_ ?_
 .unfold D.unds D.unds;rw[zH5];rfl
 rw[zAE];unfold zKN;obtain ⟨d,M1,e,jf,rfl,_,⟨fd,h2,_,sp⟩,_,_⟩:=zMS m hR hl (M:=[]);rw[zI,zT];refine zE (zAM (zc (d:=mD zA) rfl) e) ?_;rw[zL,zM];have hrl:(zF zA).length=zA.length:=by unfold zF;simp
 have epr:=zFU (xs:=zF zA) (by omega) (M:=M1);have ei:zu (zP zAT (zD (toD (zP zAH (zD (toD (zC 0)) zH))) zH)) [some (mD zA),some (.ref jf),none] M1=_:=zC1 (zc (d:=tI (zF zA)) (zAM (zc (d:=mD zA) rfl) (zEe (by omega)))) epr (zS _ _);have hjl:=(zXG.mp h2).1;have hPl:=zBE hR;have ef:=zAr (own:=[2]) (g:=gN 2) (tc:=tst (fOp (zAe true) (zC 2) (zC 1))) (te:=zC 2) (zK (zF zA)) tI tI (λp=>open Classical in decide (p∉zBx zA l One)) ei (.inl (zS _ _)) (by omega) (λp hp=>by
  refine ⟨[some (mD zA),some (.ref jf),some (tI p)],rfl,?_,λ_=>rfl⟩;have e1:fOp (zAe true) (zC 2) (zC 1) [some (mD zA),some (.ref jf),some (tI p)] (M1++[MO.lst ((zK (zF zA)).map tI)])=_:=zJ (x:=.dat (tI p)) (y:=.dat (.ref jf)) rfl rfl (zHo (T:=fd) (by rw[zXK hjl];exact h2));rw[zXS rfl]at e1;have hb:(zG fd p).isSome=true ↔ p∈zBx zA l One:=by
   rw[zB4];constructor
   .intro h;cases eL:zG fd p with
    |none=>rw[eL]at h;cases h
    |some d=>
     obtain ⟨_,n,hn,_⟩:=(sp p d).mp eL;cases n with
     |zero=>
      obtain ⟨a,b,rfl,_⟩:=zh.mp hp;exact absurd (zBM.mp hn) (by simp[One])
     |succ n=>exact ⟨hp,n,hn⟩
   .rintro ⟨_,n,hn⟩;rw[(sp p _).mpr ⟨zBH p hp,n+1,hn,rfl⟩];rfl
  rw[zo e1];by_cases hin:p∈zBx zA l One
  .rw[hb.mpr hin,zXm (by simpa using hin)];rfl
  .have:(zG fd p).isSome=false:=by
    cases h:(zG fd p).isSome with
    |false=>rfl
    |true=>exact absurd (hb.mp h) hin
   rw[this,zYL hin];rfl)
 rw[zBI];refine zP7.mpr (zEL.mpr (zE ef (zFV.mpr ((zKZ zDC).mpr ?_))));rw[zL];exact ⟨zNU 0 _,rfl,rfl⟩
end Lac
namespace Lad
open PySem PySem.Spec PyProof.Rows L2 L3 ST Law Lac
def zBm:r∈zF zA ↔ 0<=r/\r<(zA.length:Int):=by
 unfold zF;constructor
 .intro h;obtain ⟨k,hk,rfl⟩:=zXU.mp h;have:=zXr.mp hk;omega
 .rintro ⟨h1,h2⟩;exact zXU.mpr ⟨r.toNat,zXr.mpr (by omega),by omega⟩
def zA0:[a,b]∈zK (zF zA) ↔ (0<=a/\a<(zA.length:Int))/\(0<=b/\b<(zA.length:Int))/\a<b:=by
 rw[zh];constructor
 .rintro ⟨a',b',e,h1,h2,h3⟩;cases e;exact ⟨zBm.mp h1,zBm.mp h2,h3⟩
 .rintro ⟨h1,h2,h3⟩;exact ⟨a,b,rfl,zBm.mpr h1,zBm.mpr h2,h3⟩
def zUf (m:IsM zA l) (h:[a,b]∈zK (zF zA)):g∈zpR zA [a,b] ↔ ∃ x:Int,(0<=x/\x<(l:Int))/\g=zAl (zd zA a x) (zd zA b x):=by
 obtain ⟨⟨a0,a1⟩,⟨b0,b1⟩,_⟩:=zA0.mp h;have ha:=(m.get a0 a1).1;have hb:=(m.get b0 b1).1;unfold zpR;show g∈((zC6 zA a).zip (zC6 zA b)).map _ ↔ _;unfold zC6;rw[zXU];constructor
 .rintro ⟨q,hq,rfl⟩;obtain ⟨k,hk⟩:=List.mem_iff_getElem?.mp hq;rw[List.getElem?_zip_eq_some]at hk;have hkl:=(zXG.mp hk.1).1;refine ⟨(k:Int),⟨by omega,by omega⟩,?_⟩;unfold zd;rw[Int.toNat_natCast,zXI (l:=zA.getD a.toNat []),zXI (l:=zA.getD b.toNat []),hk.1,hk.2];rfl
 .rintro ⟨x,⟨x0,x1⟩,rfl⟩;refine ⟨(zd zA a x,zd zA b x),?_,rfl⟩;refine List.mem_iff_getElem?.mpr ⟨x.toNat,?_⟩;rw[List.getElem?_zip_eq_some];unfold zd;constructor
  .rw[zXI (l:=zA.getD a.toNat []),zXH (by omega)];rfl
  .rw[zXI (l:=zA.getD b.toNat []),zXH (by omega)];rfl
def zEf (m:IsM zA l) (h:[a,b]∈zK (zF zA)):[a,b]∈zEJ zA q ↔ ∃ x:Int,(0<=x/\x<(l:Int))/\q=zAl (zd zA a x) (zd zA b x):=by
 rw[zHS,zUf m h];exact ⟨λz=>z.2,λz=>⟨h,z⟩⟩
def zDu (u:Int):zAl u u=[u,u]:=by unfold zAl;simp
def zFP (hu:0<=u/\u<(zA.length:Int)) (hv:0<=v/\v<(zA.length:Int)) (ne:u≠v):zAl u v∈zK (zF zA):=by
 unfold zAl;rw[zA0];split <;> split <;> omega
def zFm (u:Int):[u,u]∉zK (zF zA):=λh=>by
 have:=(zA0.mp h).2.2;omega
def zFc (e:zd zA a x=zd zA b x):setR zA [a,b] x=[zd zA b x]:=by
 show ris [zd zA a x,zd zA b x]=_;rw[e];refine (zGy (ys:=[zd zA b x]) λy=>by simp).trans (zJq (by simp))
def zDJ (ne:zd zA a x≠zd zA b x):setR zA [a,b] x=zAl (zd zA a x) (zd zA b x):=(zI3 ne).symm
def zNw (h:LR (zEJ zA) gs n [u,u]):n=0/\[u,u]∈gs:=by
 cases n with
 |zero=>exact ⟨rfl,h⟩
 |succ n=>
  obtain ⟨q,h1,_⟩:=h;exact absurd (zHS.mp h1).1 (zFm u)
def zD5 (zA:Ya):List (List Int):=(zF zA).map λr=>[r,r]
def zJO:g∈zD5 zA ↔ ∃ r,(0<=r/\r<(zA.length:Int))/\g=[r,r]:=by
 unfold zD5;rw[zXU];exact ⟨λ⟨r,h,e⟩=>⟨r,zBm.mp h,e.symm⟩,λ⟨r,h,e⟩=>⟨r,zBm.mpr h,e.symm⟩⟩
theorem zQD (m:IsM zA l):∀ (n:Nat) (a b:Int),[a,b]∈zK (zF zA)->LR (zEJ zA) (zD5 zA) n [a,b]->Rch zA l One [a,b] n
 |0,a,b,hp,h=>by
  obtain ⟨r,_,e⟩:=zJO.mp h;cases e;exact absurd hp (zFm _)
 |n+1,a,b,hp,⟨q,h1,h2⟩=>by
  obtain ⟨x,hx,rfl⟩:=(zEf m hp).mp h1;obtain ⟨⟨a0,a1⟩,⟨b0,b1⟩,_⟩:=zA0.mp hp;have hu:=m.step a0 a1 hx.1 hx.2;have hv:=m.step b0 b1 hx.1 hx.2;rw[zDH];refine ⟨x,hx,?_⟩;by_cases e:zd zA a x=zd zA b x
  .rw[e,zDu]at h2;obtain ⟨rfl,_⟩:=zNw h2;rw[zFc e,zEQ];rfl
  .rw[zDJ e];have hin:=zFP hu hv e;unfold zAl at hin h2 ⊢;exact zQD m n _ _ hin h2
theorem zPy (m:IsM zA l):∀ (n:Nat) (a b:Int),[a,b]∈zK (zF zA)->Rch zA l One [a,b] n -> ∃ k,LR (zEJ zA) (zD5 zA) k [a,b]
 |0,a,b,hp,h=>by
  have:One [a,b]:=zEQ.mp h;cases this
 |n+1,a,b,hp,h=>by
  obtain ⟨x,hx,h2⟩:=zDH.mp h;obtain ⟨⟨a0,a1⟩,⟨b0,b1⟩,_⟩:=zA0.mp hp;have hu:=m.step a0 a1 hx.1 hx.2;have hv:=m.step b0 b1 hx.1 hx.2;by_cases e:zd zA a x=zd zA b x
  .refine ⟨1,zAl (zd zA a x) (zd zA b x),(zEf m hp).mpr ⟨x,hx,rfl⟩,?_⟩;rw[e,zDu];exact zJO.mpr ⟨_,hv,rfl⟩
  .rw[zDJ e]at h2;have hin:=zFP hu hv e;have hs:[a,b]∈zEJ zA (zAl (zd zA a x) (zd zA b x)):=(zEf m hp).mpr ⟨x,hx,rfl⟩;unfold zAl at hin h2 hs;obtain ⟨k,hk⟩:=zPy m n _ _ hin h2;exact ⟨k+1,_,hs,hk⟩
theorem zES (m:IsM zA l) (hg:∀ g∈gs,g∈zK (zF zA)):∀ (n:Nat) (a b:Int),[a,b]∈zK (zF zA)->(LR (zEJ zA) gs n [a,b] ↔ Rch zA l (· ∈ gs) [a,b] n)
 |0,a,b,hp=>by rw[zEQ];exact Iff.rfl
 |n+1,a,b,hp=>by
  obtain ⟨⟨a0,a1⟩,⟨b0,b1⟩,_⟩:=zA0.mp hp;have key:∀ x:Int,(0<=x/\x<(l:Int))->(LR (zEJ zA) gs n (zAl (zd zA a x) (zd zA b x)) ↔ Rch zA l (· ∈ gs) (setR zA [a,b] x) n):=λx hx=>by
   have hu:=m.step a0 a1 hx.1 hx.2;have hv:=m.step b0 b1 hx.1 hx.2;by_cases e:zd zA a x=zd zA b x
   .rw[zFc e,e,zDu];constructor
    .intro h;obtain ⟨_,h2⟩:=zNw h;exact absurd (hg _ h2) (zFm _)
    .rintro ⟨w,hw,hwb,hG⟩;have hth:Th zA [zd zA b x]:=⟨⟨by simp,by simp,λy hy=>by rw[zXf.mp hy];exact hv⟩,by simp⟩;have h1:=zCV m w [zd zA b x] hth rfl hwb;obtain ⟨c,d,e',_⟩:=zh.mp (hg _ hG);rw[e']at h1;cases h1
   .rw[zDJ e];have hin:=zFP hu hv e;unfold zAl at hin ⊢;exact zES m hg n _ _ hin
  rw[zDH];constructor
  .rintro ⟨q,h1,h2⟩;obtain ⟨x,hx,rfl⟩:=(zEf m hp).mp h1;exact ⟨x,hx,(key x hx).mp h2⟩
  .rintro ⟨x,hx,h2⟩;exact ⟨_,(zEf m hp).mpr ⟨x,hx,rfl⟩,(key x hx).mpr h2⟩
def zFJ:FS:=(zX (zq 1 (zP zA4 (zD (toD (zC 0)) (zD (toD (zi [2] (zAA (zD (toD (fB zAX (zQ (zC 0) ze))) zH)) (gN 2) zv (zAd (zD (toD (zC 2)) (zD (toD (zC 2)) zH))))) zH))))
  (zAS (zi [3] (zu (zP zAP (zD (toD (fB zAX (zQ (zC 0) ze))) zH))) (gN 3) (tst (fOp (zAe true) (zC 3) (zC 1))) (zC 3))))
def zB1:FF:=zBV 4 zFJ
def zLH (zA:Ya):(zD5 zA).Nodup:=by
 unfold zD5 zF;rw[zXb];refine (List.nodup_range (n:=zA.length)).map (f:=(λr=>[r,r])∘λ(k:Nat)=>(k:Int)) ?_ |> λh=>h;intro a b h e;have:(a:Int)=b:=(zYH e).1;omega
def zIj (m:IsM zA l) (bi:BI (zEJ zA) (zD5 zA) T T.length) (hp:p∈zK (zF zA)):p∈T.map (·.1) ↔ p∈zBx zA l One:=by
 obtain ⟨a,b,rfl,_⟩:=zh.mp hp;rw[zMy bi,zB4];constructor
 .rintro ⟨n,hn⟩;obtain ⟨k,_,hk⟩:=zCg n (zQD m n a b hp hn);cases k with
  |zero=>exact absurd (zBM.mp hk) (by simp[Lac.One])
  |succ k=>exact ⟨hp,k,hk⟩
 .rintro ⟨_,n,hn⟩;exact zPy m (n+1) a b hp hn.1
def zLn (m:IsM zA l) (hR:zA.length<=26) (hl:l<=12) :
  Ok (zB1 [mD zA] M) λd M'=>∃ j,d=.ref j/\M.length<=j/\M'[j]?=some (.lst ((zx zA l).map tI))/\M.length<=M'.length/\(∀ j,j<M.length->M'[j]?=M[j]?) /\ ∀ (j:Nat) u,M.length<=j->M'[j]?=some u->MO.und M'.length u=true:=by
 unfold zB1;rw[zAE];unfold zFJ;have eL:∀ {σ:Sd} {M:Mem},zC 0 σ M=some (.dat (mD zA),M)->fB zAX (zQ (zC 0) ze) σ M=some (.dat (.int (zA.length:Int)),M):=λ{σ M} h=>by
  have:=zBh h (zj (M:=M));rw[zXM]at this;exact this
 have ec:zi [2] (zAA (zD (toD (fB zAX (zQ (zC 0) ze))) zH)) (gN 2) zv (zAd (zD (toD (zC 2)) (zD (toD (zC 2)) zH))) [some (mD zA),none,none,none] M=some (.fl ((zD5 zA).map tI),M):=by
  have h:=zAg (own:=[2]) (g:=gN 2) (te:=zAd (zD (toD (zC 2)) (zD (toD (zC 2)) zH))) (σ:=[some (mD zA),none,none,none]) (M:=M) (List.range zA.length) (λ(k:Nat)=>D.int k) (λ(k:Nat)=>tI [(k:Int),(k:Int)]) (gd:=none) (by
   have:=zEl (eL (σ:=[some (mD zA),none,none,none]) (M:=M) rfl) (by omega) (by omega);rw[show ((zA.length:Int)).toNat=zA.length by omega]at this;exact this) trivial (by rw[zZA];omega) λk _=>⟨_,rfl,zHO (zt (d:=.int (k:Int)) rfl (zc (d:=.int (k:Int)) rfl)) (by simp)⟩
  rw[h];unfold zD5 zF;rw[zXb,zXb];rfl
 rw[zI,zT];refine zAj.mpr (zy.mpr (zE (a:=mD zA) (M:=M) rfl (zy.mpr (zAY.mpr (zE ec (zb (zAh.mpr ?_)))))));have hsl:(zD5 zA).length<=100:=by unfold zD5 zF;simp;omega
 refine Ok.mono (zEu m hR hl (zS _ _) (zLH zA) (U:=zK (zF zA)++zD5 zA) (λp hp=>zYS _ hp) (λg hg=>zXX _ hg) (by rw[zXT];have:=zBE hR;omega)) ?_;rintro d M1 ⟨jf,T,rfl,h1,h2,bi,hU,h3,fr,und⟩;rw[zXT,zaS]at h1 h3 fr und;rw[zL,zM];obtain ⟨d,M2,e2,rfl,us,eM2,hus⟩:=zDr (zA:=zA) (M:=M1) (N:=(zA.length:Int)) rfl (by omega);have eP:M2[M1.length]?=some (.lst ((zK (zF zA)).map tI)):=by rw[eM2];simp
 have ei:zu (zP zAP (zD (toD (fB zAX (zQ (zC 0) ze))) zH)) [some (mD zA),some (.ref jf),none,none] M1=_:=zC1 (ds:=[.int (zA.length:Int)]) (zc (eL rfl)) e2 eP;have h4:M1.length<M2.length:=(zXG.mp eP).1;have fr2:∀ j,j<M1.length->M2[j]?=M1[j]?:=λj hj=>by rw[eM2,zXK hj]
 have hjl:=(zXG.mp h2).1;have hPl:(zK (zF zA)).length<=676:=zBE hR;have ef:=zAr (own:=[3]) (g:=gN 3) (tc:=tst (fOp (zAe true) (zC 3) (zC 1))) (te:=zC 3) (zK (zF zA)) tI tI (λp=>open Classical in decide (p∉zBx zA l One)) ei (.inl eP) (by omega) (λp hp=>by
  refine ⟨[some (mD zA),some (.ref jf),none,some (tI p)],rfl,?_,λ_=>rfl⟩;have e1:fOp (zAe true) (zC 3) (zC 1) [some (mD zA),some (.ref jf),none,some (tI p)] M2=_:=zJ (x:=.dat (tI p)) (y:=.dat (.ref jf)) rfl rfl (zHo (T:=zAU T) ((fr2 jf hjl).trans h2));rw[zXS rfl,zFj bi.nd]at e1;rw[zo e1];have hb:=zIj m bi hp;by_cases hin:p∈zBx zA l One
  .rw[zYL (hb.mpr hin),zXm (by simpa using hin)];rfl
  .rw[zXm (λz=>hin (hb.mp z)),zYL hin];rfl)
 rw[zBI];refine zE ef (zb ?_);refine ⟨M2.length,rfl,by omega,zS _ _,by simp;omega,λj hj=>?_,λj u hj e=>?_⟩
 .rw[zXK (by omega),fr2 j (by omega),fr j (by omega),zXK hj]
 .rcases zYZ j M2.length with z|z
  .rw[zXK z]at e;rcases zYZ j M1.length with y|y
   .rw[fr2 j y]at e;rcases Nat.eq_or_lt_of_le hj with x|x
    .rw[<-x,fr M.length (by omega),zS]at e;cases e;exact zB9 _ _
    .exact zBQ (by simp;omega) (und j u (by omega) e)
   .rw[eM2,zYN y]at e;rcases zXP.mp (zX4 e)with x|x
    .subst x;exact zB9 _ _
    .exact zBQ (zXz _) (hus u x)
  .have:=(zXG.mp e).1;rw[zXT,zaS]at this;have:j=M2.length:=by omega
   subst this;rw[zS]at e;cases e;exact zB9 _ _
def zDb:FS:=(zX (zq 2 (zAb zH))
  (zX (zBw (zAA (zD (toD (fB zAX (zQ (zC 0) ze))) zH)) (gN 3) (zAk (fM zr (zC 2) (zD (toD (fOp kIx (zi [4] (zAA (zD (toD (fOp zAI (zC 3) (fC (.int 1)))) zH)) (gN 4) (tst (fOp (zAe true) (zAd (zD (toD (zC 4)) (zD (toD (zC 3)) zH))) (zC 1))) (zC 4)) (fC (.int 0)))) zH))))
  (zAS (zP zAc (zD (toD (zC 2)) zH)))))
def zBR:FF:=zFd (zBV 5 zDb)
open Classical in
def okL (bad:Yq) (r:Nat):List Nat:=(List.range (r+1)).filter λ(o:Nat)=>decide (o=r \/ ¬ bad [(o:Int),(r:Int)])
def zF7 (bad:Yq) (r:Nat):Int:=(((okL bad r).headD 0:Nat):Int)
def zBc (bad:Yq) (n:Nat):List Int:=(List.range n).map (zF7 bad)
def zUP (bad:Yq) (r:Nat):okL bad r≠[]:=by
 intro h;have:r∈okL bad r:=by unfold okL;exact zYO.mpr ⟨zXr.mpr (by omega),by simp⟩
 rw[h]at this;cases this
def zIR (m:IsM zA l) (hR:zA.length<=26) (wf:∀ (j:Nat) u,M[j]?=some u->MO.und M.length u=true) (hT:M[jr]?=some (dT (zAU T))) (nd:(T.map (·.1)).Nodup) (hs:∀ u:Int,[u,u]∉T.map (·.1)) :
  zBR [mD zA,.ref jr] M=some (tI (zD6 (zBc (· ∈ T.map (·.1)) zA.length)),M):=by
 have hjl:=(zXG.mp hT).1;refine zW ?_;unfold zBR;refine zFn ?_;rw[zAE];unfold zDb;show OkS (zX _ _ [some (mD zA),some (.ref jr),none,none,none] M) _;rw[zI,zT];refine zE (M:=M) (a:=.fl []) (zPR rfl (by simp)) (zb ?_);rw[zM];simp only[List.set_cons_succ,List.set_cons_zero];rw[zI,zAs];have eL:=zBh (f:=zC 0) (σ:=[some (mD zA),some (.ref jr),some (.ref M.length),none,none]) (M:=M++[.lst []]) (x:=.dat (mD zA)) rfl zj;rw[zXM]at eL;refine ⟨_,_,_,zBt eL (by omega) (by omega),?_⟩;rw[show ((zA.length:Int)).toNat=zA.length by omega];refine zHu (n:=zA.length) (I:=λk σ M'=>(∃ y3 y4,σ=[some (mD zA),some (.ref jr),some (.ref M.length),y3,y4])/\M'=M++[.lst ((zBc (· ∈ T.map (·.1)) k).map D.int)]) ?_ ?_ _ _ ⟨⟨_,_,rfl⟩,by simp[zBc]⟩
 .rintro k σ M' hk ⟨⟨y3,y4,rfl⟩,rfl⟩;refine ⟨_,rfl,?_⟩;generalize hA:M++[MO.lst ((zBc (· ∈ T.map (·.1)) k).map D.int)]=A;have aR:A[jr]?=some (dT (zAU T)):=by rw[<-hA,zXK hjl];exact hT
  have aL:A[M.length]?=some (.lst ((zBc (· ∈ T.map (·.1)) k).map D.int)):=by rw[<-hA];exact zS _ _
  rw[zBC];have ei:zAA (zD (toD (fOp zAI (zC 3) (fC (.int 1)))) zH) [some (mD zA),some (.ref jr),some (.ref M.length),some (.int (k:Int)),y4] A=some ((List.range (k+1)).map (λ(j:Nat)=>D.int j),none,A):=by
   have:=zEl (f:=fOp zAI (zC 3) (fC (.int 1))) (σ:=[some (mD zA),some (.ref jr),some (.ref M.length),some (.int (k:Int)),y4]) (M:=A) (j:=(k:Int)+1) rfl (by omega) (by omega);rw[show ((k:Int)+1).toNat=k+1 by omega]at this;exact this
  have ef:=zAr (own:=[4]) (g:=gN 4) (tc:=tst (fOp (zAe true) (zAd (zD (toD (zC 4)) (zD (toD (zC 3)) zH))) (zC 1))) (te:=zC 4) (List.range (k+1)) (λ(j:Nat)=>D.int j) (λ(j:Nat)=>D.int j) (λ(o:Nat)=>open Classical in decide (o=k \/ ¬ [(o:Int),(k:Int)]∈T.map (·.1))) ei trivial (by rw[zZA];omega) (λo ho=>by
   refine ⟨[some (mD zA),some (.ref jr),some (.ref M.length),some (.int (k:Int)),some (.int (o:Int))],rfl,?_,λ_=>rfl⟩;have e1:fOp (zAe true) (zAd (zD (toD (zC 4)) (zD (toD (zC 3)) zH))) (zC 1) [some (mD zA),some (.ref jr),some (.ref M.length),some (.int (k:Int)),some (.int (o:Int))] A=_:=zJ (x:=.dat (tI [(o:Int),(k:Int)])) (y:=.dat (.ref jr)) (zHO (zt (d:=.int (o:Int)) rfl (zc (d:=.int (k:Int)) rfl)) (by simp)) rfl (zHo aR);rw[zXS rfl,zFj nd]at e1;rw[zo e1];by_cases hin:[(o:Int),(k:Int)]∈T.map (·.1)
   .have hok:o≠k:=λz=>hs (k:Int) (by rw[z]at hin;exact hin);rw[zYL hin,zXm (by rintro (z|z);exact hok z;exact z hin)];rfl
   .rw[zXm hin,zYL (.inr hin)];rfl)
  have hne:=zUP (· ∈ T.map (·.1)) k;have e0:fOp kIx (zi [4] (zAA (zD (toD (fOp zAI (zC 3) (fC (.int 1)))) zH)) (gN 4) (tst (fOp (zAe true) (zAd (zD (toD (zC 4)) (zD (toD (zC 3)) zH))) (zC 1))) (zC 4)) (fC (.int 0)) [some (mD zA),some (.ref jr),some (.ref M.length),some (.int (k:Int)),y4] A=some (.dat (.int (zF7 (· ∈ T.map (·.1)) k)),A):=by
   refine zJ ef (rfl:fC (.int 0) _ A=some (.dat (.int 0),A)) (zAx (zDC) ?_);have ek:((List.range (k+1)).filter λ(o:Nat)=>decide (o=k \/ ¬ [(o:Int),(k:Int)]∈T.map (·.1)))=okL (· ∈ T.map (·.1)) k:=List.filter_congr λo _=>decide_eq_decide.mpr Iff.rfl;rw[ek];unfold zF7;cases e:okL (· ∈ T.map (·.1)) k with
   |nil=>exact absurd e hne
   |cons a r=>exact zKQ (k:=0) rfl
  refine zFz.mpr (zE (a:=.dat (.ref M.length)) (M:=A) rfl ⟨⟨_,zAJ aL⟩,zE (zc e0) ?_⟩);rw[zBZ aL (by rw[zXM];unfold zBc;rw[zXM,zZA];exact zXc (m:=95000) (by omega) (zY (by omega)))];refine ⟨⟨_,_,rfl⟩,?_⟩;rw[<-hA,List.set_append_right _ _ (zXJ _),Nat.sub_self,List.set_cons_zero];unfold zBc;rw[List.range_succ];simp
 .rintro σ M' ⟨⟨y3,y4,rfl⟩,rfl⟩;rw[zM];have hc:(zBc (· ∈ T.map (·.1)) zA.length).length=zA.length:=by unfold zBc;simp
  have en:=zGc (M:=M++[MO.lst ((zBc (· ∈ T.map (·.1)) zA.length).map D.int)]) (j:=M.length) (xs:=zBc (· ∈ T.map (·.1)) zA.length) (λj u e=>?_) (zS _ _) (by omega)
  .generalize zD6 (zBc (· ∈ T.map (·.1)) zA.length)=N at en ⊢;generalize zBc (· ∈ T.map (·.1)) zA.length=C at en ⊢;refine zAZ (d:=tI N) (zAM (zc (d:=.ref M.length) rfl) en) ⟨⟨zA5 N,by simp,λj u hj e=>?_⟩,rfl,by simp⟩;rw[zXK hj]at e;exact wf j u e
  .rcases zYZ j M.length with z|z
   .rw[zXK z]at e;exact zBQ (by simp) (wf j u e)
   .have:=(zXG.mp e).1;rw[zXT,zaS]at this;have:j=M.length:=by omega
    subst this;rw[zS]at e;cases e;exact zm _ _
def zEV:FS:=(zX (zq 1 zMh)
  (zX (zBw (zu (zC 0)) (gN 2) (sIf (tst (fOp (zAe true) (zC 2) (zC 1))) (zBn (fB zI7 (zQ (zC 1) ze)) (zC 1) (zC 2)) zBB))
  (zAS (fB zA2 (zQ (zi [2] (zu (zC 0)) (gN 2) zv (fOp zp (zC 1) (zC 2))) ze)))))
def zCE:FF:=zBV 3 zEV
def zBW:Nat->List Int->List (D × D)
 |_,[]=>[]
 |i,k::r=>(.int k,.int (i:Int))::zBW (i+1) r
theorem zHd:∀ (i:Nat) (ks:Ye),(zBW i ks).length=ks.length
 |_,[]=>rfl
 |i,k::r=>by unfold zBW;rw[zXk,zHd,zXk]
theorem zI6:∀ (i:Nat) (ks:Ye) (k:Int),zBW i (ks++[k])=zBW i ks++[(.int k,.int ((i+ks.length:Nat):Int))]
 |i,[],k=>rfl
 |i,a::r,k=>by
  rw[List.cons_append];unfold zBW;rw[zI6,List.cons_append,zXk,show i+1+r.length=i+(r.length+1) by omega]
theorem zKl:∀ (i:Nat) (ks:Ye) (k:Int),zBy zCR (zBW i ks) (Sum.inl k)=if k∈ks then some (.int ((i+ks.idxOf k:Nat):Int)) else none
 |i,[],k=>rfl
 |i,a::r,k=>by
  have ih:=zKl (i+1) r k;unfold zBy at ih ⊢;rw[show zBW i (a::r)=(D.int a,D.int (i:Int))::zBW (i+1) r from rfl,zYz];by_cases h:a=k
  .subst h;rw[show decide (zCR (D.int a)=some (Sum.inl a))=true from zYL rfl];simp
  .rw[show decide (zCR (D.int a)=some (Sum.inl k))=false from zXm (λz=>h (Sum.inl.inj (zYD z)))];by_cases hk:k∈r
   .rw[zXS (zXQ _ hk)];rw[zXS hk]at ih;rw[List.idxOf_cons,show (a==k)=false from beq_false_of_ne h];simp only[cond_false];rw[show i+(List.idxOf k r+1)=i+1+List.idxOf k r by omega];exact ih
   .rw[zXV (by simp[hk,Ne.symm h])];rw[zXV hk]at ih;exact ih
def zVp (ks:Ye) (k:Int) (h:k∉ks):zGr zCR (zBW 0 ks) (Sum.inl k) (.int k) (.int (ks.length:Int))=zBW 0 (ks++[k]):=by
 have hl:=zKl 0 ks k;rw[zXV h]at hl;unfold zBy at hl;have ha:((zBW 0 ks).any λp=>decide (zCR p.1=some (Sum.inl k)))=false:=by
  rw[List.any_eq_false];intro p hp;have:=(Option.map_eq_none_iff.mp hl);rw[List.find?_eq_none]at this;exact this p hp
 unfold zGr;rw[ha,zXV (by simp),zI6];simp
def zJk (hj:M[j]?=some (.lst (xs.map D.int))) (hz:xs.length<=1000) :
  Ok (zCE [.ref j] M) λd M'=>d=tI (zD6 xs)/\M.length<=M'.length /\ ∀ i,i<M.length->M'[i]?=M[i]?:=by
 have hjl:=(zXG.mp hj).1;unfold zCE;rw[zAE];unfold zEV;show OkS (zX _ _ [some (.ref j),none,none] M) _;rw[zI,zT];refine zE (M:=M++[.dict []]) (a:=.dat (.ref M.length)) rfl ?_;rw[zL,zM];simp only[List.set_cons_succ,List.set_cons_zero];have up:∀ u:MO,(M++[u])[j]?=some (.lst (xs.map D.int)):=λu=>by rw[zXK hjl];exact hj
 rw[zI,zAs];refine ⟨_,_,_,(show zu (zC 0) [some (.ref j),some (.ref M.length),none] (M++[.dict []])=some (xs.map D.int,zCq (.dat (.ref j)) (xs.map D.int),M++[.dict []]) by
  unfold zu;rw[show zC 0 [some (.ref j),some (.ref M.length),none] (M++[.dict []])=some (.dat (.ref j),M++[.dict []])from rfl];dsimp only;rw[za (up _)]),?_⟩
 have insl:∀ us:List Int,(zV us).length<=us.length:=λus=>zB3 us;refine zAf (I:=λr σ M'=>∃ (us vs:Ye) (y:Option D),σ=[some (.ref j),some (.ref M.length),y]/\xs=us++vs/\r=vs.map D.int/\M'=M++[.dict (zBW 0 (zV us))]) ?_ ?_ _ _ _ ⟨[],xs,none,rfl,rfl,rfl,rfl⟩
 .rintro x r σ M' ⟨us,vs,y,rfl,hab,hr,rfl⟩;cases vs with
  |nil=>cases hr
  |cons k vs=>
   rw[zXW]at hr;obtain ⟨rfl,rfl⟩:=zYH hr;refine ⟨.inl (up _),_,rfl,?_⟩;have hul:us.length<1000:=by have:=zY0 List.length hab;simp at this;omega
   have e0:(M++[MO.dict (zBW 0 (zV us))])[M.length]?=some (.dict (zBW 0 (zV us))):=zS _ _;show OkS (sIf _ _ _ [some (.ref j),some (.ref M.length),some (.int k)] _) _;rw[zA1];have eg:zDT (M++[MO.dict (zBW 0 (zV us))]) (.dat (.ref M.length)) (.int k)=some (if k∈zV us then some (.int ((0+(zV us).idxOf k:Nat):Int)) else none):=by
    unfold zDT;dsimp only;rw[e0];show some (zBy zCR (zBW 0 (zV us)) (Sum.inl k))=_;rw[zKl]
   refine zE (M:=M++[MO.dict (zBW 0 (zV us))]) (a:=!decide (k∈zV us)) (zo (zJ (x:=.dat (.int k)) (y:=.dat (.ref M.length)) rfl rfl (by unfold zAe;dsimp only;rw[eg];by_cases h:k∈zV us <;> simp[h]))) ?_;by_cases h:k∈zV us
   .rw[zYL h,zXV (by simp),zAi];refine ⟨us++[k],vs,_,rfl,by rw[hab];simp,rfl,?_⟩;rw[zEZ];unfold ins;rw[zXS h]
   .rw[zXm h,zXS (by simp)];have hil:=insl us;refine ⟨.nx,[some (.ref j),some (.ref M.length),some (.int k)],M++[.dict (zBW 0 (zV us++[k]))],?_,us++[k],vs,_,rfl,by rw[hab];simp,rfl,by rw[zEZ];unfold ins;rw[zXV h]⟩;unfold zBn;rw[zER (show fB zI7 (zQ (zC 1) ze) [some (.ref j),some (.ref M.length),some (.int k)] (M++[MO.dict (zBW 0 (zV us))])=some (.dat (.int ((zV us).length:Int)),M++[MO.dict (zBW 0 (zV us))]) by
     unfold fB zQ ze;rw[show zC 1 [some (.ref j),some (.ref M.length),some (.int k)] (M++[MO.dict (zBW 0 (zV us))])=some (.dat (.ref M.length),M++[MO.dict (zBW 0 (zV us))])from rfl];unfold zI7;dsimp only;rw[e0];dsimp only;rw[zHd])]
    dsimp only;rw[show toD (zC 1) [some (.ref j),some (.ref M.length),some (.int k)] (M++[MO.dict (zBW 0 (zV us))])=some (.ref M.length,M++[MO.dict (zBW 0 (zV us))])from rfl];dsimp only;rw[show toD (zC 2) [some (.ref j),some (.ref M.length),some (.int k)] (M++[MO.dict (zBW 0 (zV us))])=some (.int k,M++[MO.dict (zBW 0 (zV us))])from rfl];dsimp only;unfold zD2;rw[e0];rw[show zCR (.int k)=some (Sum.inl k)from rfl];dsimp only;rw[zXS (by rw[zHd];exact zXc (m:=95000) (by omega) (zY (by omega))),zVp _ _ h];simp
 .rintro σ M' ⟨us,vs,y,rfl,hab,hr,rfl⟩;have:vs=[]:=by cases vs with|nil=>rfl|cons _ _=>cases hr
  subst this;rw[zXx]at hab;subst hab;refine ⟨.inl (up _),?_⟩;rw[zM];have e0:(M++[MO.dict (zBW 0 (zV xs))])[M.length]?=some (.dict (zBW 0 (zV xs))):=zS _ _;have ec:=zAg (own:=[2]) (g:=gN 2) (te:=fOp zp (zC 1) (zC 2)) (fi:=zu (zC 0)) (σ:=[some (.ref j),some (.ref M.length),y]) (M:=M++[MO.dict (zBW 0 (zV xs))]) xs D.int (λk=>D.int (((zV xs).idxOf k:Nat):Int)) (gd:=zCq (.dat (.ref j)) (xs.map D.int)) (by
   unfold zu;rw[show zC 0 [some (.ref j),some (.ref M.length),y] (M++[MO.dict (zBW 0 (zV xs))])=some (.dat (.ref j),M++[MO.dict (zBW 0 (zV xs))])from rfl];dsimp only;rw[za (up _)]) (.inl (up _)) (by omega) λk hk=>⟨_,rfl,zJ (x:=.dat (.ref M.length)) (y:=.dat (.int k)) rfl rfl (by
    unfold zp;unfold zDT;dsimp only;rw[e0];show (match some (zBy zCR (zBW 0 (zV xs)) (Sum.inl k)) with|some (some d)=>_|_=>_)=_;rw[zKl,zXS ((zDd xs k).mpr hk),Nat.zero_add])⟩
  refine zAZ (d:=tI (zD6 xs)) ?_ ⟨rfl,by simp,λi hi=>zXK hi⟩;unfold fB zQ ze;rw[ec];unfold zD6 tI;rw[zXb];rfl
def zDg:FS:=(zX (zq 2 (zP zAH (zD (toD (zC 0)) zH)))
  (zAS (zP zCE (zD (toD (zi [4] (zu (zC 2)) (gN 4) zv (fB (zFg false) (zQ (zi [3] (zu (zC 2)) (gN 3) (zEN (tst (fOp kEq (zC 3) (zC 4))) (zCx (tst (fOp kLt (zC 3) (zC 4))) (tst (fOp (zAe true) (zAd (zD (toD (zC 3)) (zD (toD (zC 4)) zH))) (zC 1))))) (zC 3)) ze)))) zH))))
def zBu:FF:=zBV 5 zDg
def zJB (h1:b∈okL bad r) (h2:∀ y∈okL bad r,b<=y):zF7 bad r=(b:Int):=by
 have pw:(okL bad r).Pairwise (· < ·):=List.Pairwise.filter _ List.pairwise_lt_range;unfold zF7;cases e:okL bad r with
 |nil=>rw[e]at h1;cases h1
 |cons a t=>
  rw[e]at h1 h2 pw;have ha:=h2 a zXR;rcases zXP.mp h1 with z|z
  .rw[z];rfl
  .have:=(zZN.mp pw).1 b z;omega
open Classical in
def zHC {bad:Yq} {r o:Nat}:o∈okL bad r ↔ o<=r/\(o=r \/ ¬ bad [(o:Int),(r:Int)]):=by
 unfold okL;rw[zYO,zXr,zYQ];exact ⟨λ⟨a,b⟩=>⟨by omega,b⟩,λ⟨a,b⟩=>⟨by omega,b⟩⟩
def zIa (hR:zA.length<=26) (hf:M[jf]?=some (dT fd)) :
  Ok (zBu [mD zA,.ref jf] M) λd M'=>d=tI (zD6 (zBc (λp=>(zG fd p).isSome=true) zA.length))/\M.length<=M'.length /\ ∀ i,i<M.length->M'[i]?=M[i]?:=by
 unfold zBu;rw[zAE];unfold zDg;refine zC8 (zAM (zc (d:=mD zA) rfl) (zEe (by omega))) ?_;have eI:∀ (y3 y4:Option D),zu (zC 2) [some (mD zA),some (.ref jf),some (tI ((List.range zA.length).map λ(k:Nat)=>(k:Int))),y3,y4] M=some ((List.range zA.length).map (λ(k:Nat)=>D.int (k:Int)),none,M):=λy3 y4=>by
  unfold zu;rw[show zC 2 [some (mD zA),some (.ref jf),some (tI ((List.range zA.length).map λ(k:Nat)=>(k:Int))),y3,y4] M=some (.dat (tI ((List.range zA.length).map λ(k:Nat)=>(k:Int))),M)from rfl];dsimp only;rw[show zAL M (.dat (tI ((List.range zA.length).map λ(k:Nat)=>(k:Int))))=some (((List.range zA.length).map λ(k:Nat)=>(k:Int)).map D.int)from rfl,zXb];rfl
 have inner:∀ (r:Nat),r<zA.length->fB (zFg false) (zQ (zi [3] (zu (zC 2)) (gN 3) (zEN (tst (fOp kEq (zC 3) (zC 4))) (zCx (tst (fOp kLt (zC 3) (zC 4))) (tst (fOp (zAe true) (zAd (zD (toD (zC 3)) (zD (toD (zC 4)) zH))) (zC 1))))) (zC 3)) ze) [some (mD zA),some (.ref jf),some (tI ((List.range zA.length).map λ(k:Nat)=>(k:Int))),none,some (.int (r:Int))] M=some (.dat (.int (zF7 (λp=>(zG fd p).isSome=true) r)),M):=λr hr=>by
  have ef:=zAr (own:=[3]) (g:=gN 3) (tc:=zEN (tst (fOp kEq (zC 3) (zC 4))) (zCx (tst (fOp kLt (zC 3) (zC 4))) (tst (fOp (zAe true) (zAd (zD (toD (zC 3)) (zD (toD (zC 4)) zH))) (zC 1))))) (te:=zC 3) (List.range zA.length) (λ(k:Nat)=>D.int (k:Int)) (λ(k:Nat)=>D.int (k:Int)) (λ(o:Nat)=>decide (o=r)||(decide (o<r) && !(zG fd [(o:Int),(r:Int)]).isSome)) (eI none (some (.int (r:Int)))) trivial (by rw[zZA];omega) (λo ho=>by
   refine ⟨[some (mD zA),some (.ref jf),some (tI ((List.range zA.length).map λ(k:Nat)=>(k:Int))),some (.int (o:Int)),some (.int (r:Int))],rfl,?_,λ_=>rfl⟩;have e1:tst (fOp kEq (zC 3) (zC 4)) [some (mD zA),some (.ref jf),some (tI ((List.range zA.length).map λ(k:Nat)=>(k:Int))),some (.int (o:Int)),some (.int (r:Int))] M=some (decide (o=r),M):=by
    refine zo (zJ (x:=.dat (.int (o:Int))) (y:=.dat (.int (r:Int))) rfl rfl (zW (zKt.mpr ⟨?_,rfl⟩)));by_cases h:o=r
    .subst h;simp
    .simp[h];omega
   have e2:tst (fOp kLt (zC 3) (zC 4)) [some (mD zA),some (.ref jf),some (tI ((List.range zA.length).map λ(k:Nat)=>(k:Int))),some (.int (o:Int)),some (.int (r:Int))] M=some (decide ((o:Int)<(r:Int)),M):=zo (zJ (x:=.dat (.int (o:Int))) (y:=.dat (.int (r:Int))) rfl rfl rfl);have e3:=zo (zJ (k:=zAe true) (f:=zAd (zD (toD (zC 3)) (zD (toD (zC 4)) zH))) (g:=zC 1) (σ:=[some (mD zA),some (.ref jf),some (tI ((List.range zA.length).map λ(k:Nat)=>(k:Int))),some (.int (o:Int)),some (.int (r:Int))]) (M:=M) (x:=.dat (tI [(o:Int),(r:Int)])) (y:=.dat (.ref jf)) (zHO (zt (d:=.int (o:Int)) rfl (zc (d:=.int (r:Int)) rfl)) (by simp)) rfl (zHo hf));rw[zXS rfl]at e3;by_cases h:o=r
   .rw[zYL h]at e1 ⊢;exact zUp e1
   .rw[zXm h]at e1 ⊢;rw[zHk e1 (k:=decide (o<r) && !(zG fd [(o:Int),(r:Int)]).isSome) ?_]
    .rfl
    by_cases h2:o<r
    .rw[zYL (by omega)]at e2;rw[zKi e2 e3,zYL h2];rfl
    .rw[zXm (by omega)]at e2;rw[zKe e2,zXm h2];rfl)
  generalize hF:((List.range zA.length).filter λ(o:Nat)=>decide (o=r)||(decide (o<r) && !(zG fd [(o:Int),(r:Int)]).isSome))=F at ef;have hm:∀ o,o∈F ↔ o∈okL (λp=>(zG fd p).isSome=true) r:=λo=>by
   rw[zHC,<-hF,zYO,zXr];simp only[Bool.or_eq_true,zXn,zYQ,Bool.not_eq_true'];constructor
   .rintro ⟨h1,h2|⟨h2,h3⟩⟩
    .exact ⟨by omega,.inl h2⟩
    .exact ⟨by omega,.inr (by rw[h3];simp)⟩
   .rintro ⟨h1,h2|h2⟩
    .exact ⟨by omega,.inl h2⟩
    .rcases Nat.eq_or_lt_of_le h1 with z|z
     .exact ⟨by omega,.inl z⟩
     .exact ⟨by omega,.inr ⟨z,by simpa using h2⟩⟩
  have hne:F≠[]:=λz=>by
   have:r∈F:=(hm r).mpr (zHC.mpr ⟨zXJ _,.inl rfl⟩);rw[z]at this;cases this
  obtain ⟨b,eb,b1,b2⟩:=zNo (xs:=F.map λ(k:Nat)=>(k:Int)) (by rw[zXb];exact ef) (by simpa using hne);obtain ⟨b',hb',rfl⟩:=zXU.mp b1;rw[eb,zJB ((hm b').mp hb') λy hy=>?_];have:=b2 (y:Int) (zXU.mpr ⟨y,(hm y).mpr hy,rfl⟩);omega
 have ec:=zAg (own:=[4]) (g:=gN 4) (te:=fB (zFg false) (zQ (zi [3] (zu (zC 2)) (gN 3) (zEN (tst (fOp kEq (zC 3) (zC 4))) (zCx (tst (fOp kLt (zC 3) (zC 4))) (tst (fOp (zAe true) (zAd (zD (toD (zC 3)) (zD (toD (zC 4)) zH))) (zC 1))))) (zC 3)) ze)) (σ:=[some (mD zA),some (.ref jf),some (tI ((List.range zA.length).map λ(k:Nat)=>(k:Int))),none,none]) (M:=M) (List.range zA.length) (λ(k:Nat)=>D.int (k:Int)) (λ(k:Nat)=>D.int (zF7 (λp=>(zG fd p).isSome=true) k)) (eI none none) trivial (by rw[zZA];omega) λr hr=>⟨_,rfl,inner r (zXr.mp hr)⟩;rw[zBI];refine zAj.mpr (zy.mpr (zAY.mpr (zE ec (zb (zAh.mpr ?_)))));have eC:(List.range zA.length).map (λ(k:Nat)=>D.int (zF7 (λp=>(zG fd p).isSome=true) k))=(zBc (λp=>(zG fd p).isSome=true) zA.length).map D.int:=by unfold zBc;rw[zXb];rfl
 rw[eC];refine Ok.mono (zJk (zS _ _) (by unfold zBc;rw[zXM,zZA];omega)) ?_;rintro d M' ⟨rfl,h1,h2⟩;rw[zXT,zaS]at h1 h2;rw[zL];exact ⟨rfl,by omega,λi hi=>by rw[h2 i (by omega),zXK hi]⟩
end Lad
namespace Lad
open PySem PySem.Spec PyProof.Rows L2 L3 ST Law Lac
def zCd:FS:=(zAS (zi [2,3] (zu (zP zAT (zD (toD (zP zAH (zD (toD (zC 0)) zH))) zH))) (zBU 2 3) (tst (fOp kNe (fOp kIx (zC 1) (zC 2)) (fOp kIx (zC 1) (zC 3)))) (zAd (zD (toD (zC 2)) (zD (toD (zC 3)) zH)))))
def zBL:FF:=zBV 4 zCd
def zIF (h:∀ o r:Nat,o<r->r<n->(bad [(o:Int),(r:Int)] ↔ bad' [(o:Int),(r:Int)])):zBc bad n=zBc bad' n:=by
 unfold zBc;refine List.map_congr_left λr hr=>?_;have hrn:=zXr.mp hr;have e:okL bad r=okL bad' r:=by
  unfold okL;refine List.filter_congr λo ho=>?_;have:=zXr.mp ho;rw[decide_eq_decide];by_cases z:o=r
  .simp[z]
  .rw[h o r (by omega) hrn]
 unfold zF7;rw[e]
def zCh:FS:=(zX (zq 1 (zP zBS (zD (toD (zC 0)) (zD (toD (fB zGU (zQ (zP zFx (zD (toD (zC 0)) zH)) ze))) zH))))
  (zX (zq 2 (zP zBu (zD (toD (zC 0)) (zD (toD (zC 1)) zH))))
  (zX (zq 3 (zP zCa (zD (toD (zC 0)) (zD (toD (zC 1)) zH))))
  (zAS (zAd (zD (toD (zC 2)) (zD (toD (fB zA2 (zQ (zi [4] (zu (zP zBL (zD (toD (zC 0)) (zD (toD (zC 2)) zH)))) (gN 4) zv (zP zDI (zD (toD (zC 0)) (zD (toD (zC 3)) (zD (toD (zC 4)) zH))))) ze))) zH)))))))
def zBK:FF:=zHU (zBV 5 zCh)
def zAn (h:p∈zx zA l):p∈zK (zF zA):=(zYO.mp h).1
end Lad
namespace Lad
open PySem PySem.Spec PyProof.Rows L2 L3 ST Law Lac
def Mt (zA:Ya) (l:Nat) (a b:Int):Prop:=∃ w:List Int,(∀ x∈w,0<=x/\x<(l:Int))/\zDG zA a w=zDG zA b w
def Stb (zA:Ya) (l:Nat) (a b:Int):Prop:=∀ w:List Int,(∀ x∈w,0<=x/\x<(l:Int))->Mt zA l (zDG zA a w) (zDG zA b w)
def zGz (zA:Ya) (a:Int) (v w:Ye):zDG zA a (v++w)=zDG zA (zDG zA a v) w:=by unfold zDG;rw[zZB]
def Mt.of (e:a=b):Mt zA l a b:=⟨[],⟨λ_ h=>(by cases h),e⟩⟩
def Mt.refl (a:Int):Mt zA l a a:=Mt.of rfl
def Mt.symm (h:Mt zA l a b):Mt zA l b a:=let ⟨w,h1,h2⟩:=h;⟨w,h1,h2.symm⟩
def Stb.symm (h:Stb zA l a b):Stb zA l b a:=λw hw=>(h w hw).symm
def Stb.refl (a:Int):Stb zA l a a:=λw hw=>Mt.refl _
def Stb.trans (h:Stb zA l a b) (g:Stb zA l b c):Stb zA l a c:=λw hw=>by
 obtain ⟨v,hv,e⟩:=h w hw;have hwv:∀ x∈w++v,0<=x/\x<(l:Int):=λx hx=>(zXd.mp hx).elim (hw x) (hv x);obtain ⟨u,hu,e2⟩:=g (w++v) hwv;refine ⟨v++u,λx hx=>(zXd.mp hx).elim (hv x) (hu x),?_⟩;rw[zGz,zGz]at e2;rw[zGz,zGz,e,e2]
theorem zMO (m:IsM zA l):∀ (w:Ye) {a:Int},0<=a/\a<(zA.length:Int)->(∀ x∈w,0<=x/\x<(l:Int))->0<=zDG zA a w/\zDG zA a w<(zA.length:Int)
 |[],a,h,_=>h
 |x::w,a,h,hw=>by
  have hx:=hw x zXR;exact zMO m w (m.step h.1 h.2 hx.1 hx.2) λy hy=>hw y (zXQ _ hy)
def zNv (h:a<b) (w:Ye):zME zA [a,b] w=ris [zDG zA a w,zDG zA b w]:=zPr (by simpa using h) w
def zNz (h:a<b) (w:Ye):One (zME zA [a,b] w) ↔ zDG zA a w=zDG zA b w:=by
 rw[zNv h];exact zNn
def zQc (hp:[a,b]∈zK (zF zA)):[a,b]∈zx zA l ↔ ¬ Mt zA l a b:=by
 have hab:=(zA0.mp hp).2.2;unfold zx;rw[zYO];constructor
 .rintro ⟨_,h⟩ ⟨w,hw,e⟩;have h:=zX9 h;apply h;have r:Rch zA l One [a,b] w.length:=⟨w,rfl,hw,(zNz hab w).mpr e⟩;obtain ⟨k,_,hk⟩:=zCg _ r;refine zB4.mpr ⟨hp,?_⟩;cases k with
  |zero=>exact absurd (zBM.mp hk) (by unfold Lac.One;simp)
  |succ k=>exact ⟨k,hk⟩
 .intro h;refine ⟨hp,zYL λz=>h ?_⟩;obtain ⟨_,n,hn⟩:=zB4.mp z;obtain ⟨w,_,hw,g⟩:=hn.1;exact ⟨w,hw,(zNz hab w).mp g⟩
def zQk (ne:u≠v):ris [u,v]=zAl u v:=(zI3 ne).symm
def Mt.pair:(∀ a b,zAl u v=[a,b] -> ¬ Mt zA l a b) ↔ ¬ Mt zA l u v:=by
 unfold zAl;constructor
 .intro h z;by_cases q:v<u
  .exact h v u (by rw[zXS q,zXV (by omega)]) z.symm
  .by_cases q2:v>u
   .exact h u v (by rw[zXV q,zXS q2]) z
   .exact h u u (by rw[zXV q,zXV q2]) (Mt.refl _)
 .intro h a b e z;injection e with e1 e2
  injection e2 with e2 _
  subst e1;subst e2;by_cases q:v<u
  .rw[zXS q,zXV (by omega)]at z;exact h z.symm
  .rw[zXV q]at z;by_cases q2:v>u
   .rw[zXS q2]at z;exact h z
   .have:u=v:=by omega
    subst this;exact h (Mt.refl _)
def Rk (zA:Ya) (l:Nat) (p:Ye):Prop:=∃ k,Rch zA l (· ∈ zx zA l) p k
def zRd (m:IsM zA l) (hp:[a,b]∈zK (zF zA)):Rk zA l [a,b] ↔ ¬ Stb zA l a b:=by
 obtain ⟨ha,hb,hab⟩:=zA0.mp hp;have key:∀ w:List Int,(∀ x∈w,0<=x/\x<(l:Int))->(zME zA [a,b] w∈zx zA l ↔ ¬ Mt zA l (zDG zA a w) (zDG zA b w)):=λw hw=>by
  rw[zNv hab];have ua:=zMO m w ha hw;have ub:=zMO m w hb hw;by_cases e:zDG zA a w=zDG zA b w
  .constructor
   .intro h;obtain ⟨c,d,e2,_⟩:=zh.mp (zAn h);have:=zNn.mpr e;rw[e2]at this;simp at this
   .intro h;exact absurd (Mt.of e) h
  .rw[zQk e];have hin:=zFP (zA:=zA) ua ub e;rw[<-Mt.pair];obtain ⟨c,d,e2,_⟩:=zh.mp hin;rw[e2]at hin ⊢;rw[zQc hin];constructor
   .rintro h x y e3;injection e3 with e3 e4
    injection e4 with e4 _
    subst e3;subst e4;exact h
   .exact λh=>h c d rfl
 constructor
 .rintro ⟨k,w,_,hw,g⟩ s;exact (key w hw).mp g (s w hw)
 .intro h;apply Classical.byContradiction;intro z;apply h;intro w hw;apply Classical.byContradiction;intro z2;exact z ⟨w.length,w,rfl,hw,(key w hw).mpr z2⟩
def zQb (r:Nat):∃ b:Nat,zF7 bad r=(b:Int)/\b∈okL bad r /\ ∀ y∈okL bad r,b<=y:=by
  obtain ⟨b,hb,hm⟩:∃ b,b∈okL bad r /\ ∀ y∈okL bad r,b<=y:=by
    have hr:r∈okL bad r:=zHC.mpr ⟨zXJ _,.inl rfl⟩;generalize okL bad r=L at hr;induction L generalizing r with
    |nil=>cases hr
    |cons x xs ih=>
      cases xs with
      |nil=>exact ⟨x,zXR,λy hy=>Nat.le_of_eq (show y=x by simpa using hy).symm⟩
      |cons z zs=>
        obtain ⟨b,hb,hm⟩:=ih z zXR;by_cases q:x<=b
        . refine ⟨x,zXR,λy hy=>?_⟩
          rcases zXP.mp hy with e|e
          .omega
          .have:=hm y e;omega
        . refine ⟨b,zXQ _ hb,λy hy=>?_⟩
          rcases zXP.mp hy with e|e
          .omega
          .exact hm y e
  exact ⟨b,zJB hb hm,hb,hm⟩
def zSP {bad:Yq} {E:Int->Int->Prop} {n:Nat} (er:∀ a,E a a) (es:∀ {a b},E a b->E b a) (et:∀ {a b c},E a b->E b c->E a c) (h:∀ o r:Nat,o<r->r<n->(bad [(o:Int),(r:Int)] ↔ ¬ E o r)) {o r:Nat} (ho:o<r) (hr:r<n):zF7 bad o=zF7 bad r ↔ E o r:=by
 have mem:∀ {y k:Nat},k<n->(y∈okL bad k ↔ y<=k/\E y k):=λ{y k} hk=>by
  rw[zHC];constructor
  .rintro ⟨h1,h2|h2⟩
   .exact ⟨h1,by rw[h2];exact er _⟩
   .refine ⟨h1,?_⟩;rcases zYZ y k with q|q
    .exact Classical.byContradiction λz=>h2 ((h y k q hk).mpr z)
    .have:y=k:=by omega
     rw[this];exact er _
  .rintro ⟨h1,h2⟩;refine ⟨h1,?_⟩;rcases zYZ y k with q|q
   .exact .inr λz=>(h y k q hk).mp z h2
   .exact .inl (by omega)
 obtain ⟨b,e1,b1,b2⟩:=zQb (bad:=bad) o;obtain ⟨c,e2,c1,c2⟩:=zQb (bad:=bad) r;have b3:=(mem (by omega)).mp b1;have c3:=(mem hr).mp c1;rw[e1,e2];constructor
 .intro e;have e:b=c:=by omega
  subst e;exact et (es b3.2) c3.2
 .intro e;have h1:c<=b:=c2 b ((mem hr).mpr ⟨by omega,et b3.2 e⟩);have h2:b<=c:=by
   rcases zYZ o c with q|q
   .omega
   .exact b2 c ((mem (by omega)).mpr ⟨q,et c3.2 (es e)⟩)
  omega
def zQK (hi:i<xs.length) (hj:j<xs.length):(zD6 xs).getD i 0=(zD6 xs).getD j 0 ↔ xs.getD i 0=xs.getD j 0:=by
 unfold zD6;have g:∀ {k:Nat} (hk:k<xs.length),(xs.map λx=>((zV xs).idxOf x:Int)).getD k 0=((zV xs).idxOf (xs.getD k 0):Int):=λ{k} hk=>by
  rw[zXI,zXI,zXa,zXH hk];rfl
 have mm:∀ {k:Nat} (hk:k<xs.length),xs.getD k 0∈zV xs:=λ{k} hk=>by
  rw[zDd,zXI,zXH hk];exact zXl hk
 rw[g hi,g hj];constructor
 .intro e;have e:(zV xs).idxOf (xs.getD i 0)=(zV xs).idxOf (xs.getD j 0):=by omega
  have h1:=List.getElem_idxOf (List.idxOf_lt_length_of_mem (mm hi));have h2:=List.getElem_idxOf (List.idxOf_lt_length_of_mem (mm hj));rw[<-h1,<-h2];simp only[e]
 .intro e;rw[e]
open Classical in
def zAW (zA:Ya) (l:Nat):List (List Int):=(zK (zF zA)).filter λp=>decide (Rk zA l p)
abbrev stN (zA:Ya) (l:Nat):List Int:=zD6 (zBc (λp=>∃ k,Rch zA l (· ∈ zx zA l) p k) zA.length)
def zNf (h:k<n):(zBc bad n).getD k 0=zF7 bad k:=by
 unfold zBc;rw[zXI,zXa,zZH h];rfl
def zSe {zA:Ya} {l:Nat} (m:IsM zA l) {a b:Int} (hp:[a,b]∈zK (zF zA)):(stN zA l).getD a.toNat 0=(stN zA l).getD b.toNat 0 ↔ ¬ Rk zA l [a,b]:=by
 obtain ⟨ha,hb,hab⟩:=zA0.mp hp;have cl:∀ {bad:Yq},(zBc bad zA.length).length=zA.length:=λ{bad}=>by unfold zBc;simp
 rw[zQK (by rw[cl];omega) (by rw[cl];omega),zNf (by omega),zNf (by omega)];have:=zSP (bad:=λp=>∃ k,Rch zA l (λx=>x∈zx zA l) p k) (E:=Stb zA l) (n:=zA.length) Stb.refl (λh=>h.symm) (λh g=>h.trans g) (λo r ho hr=>zRd m (zA0.mpr (by omega))) (show a.toNat<b.toNat by omega) (show b.toNat<zA.length by omega);rw[this,zRd m hp,Int.toNat_of_nonneg ha.1,Int.toNat_of_nonneg hb.1];exact ⟨λh z=>z h,λh=>Classical.byContradiction h⟩
def zOV (m:IsM zA l) (hR:zA.length<=26) :
  zBL [mD zA,tI (stN zA l)] M=some (.ref (M.length+1),M++[.lst ((zK (zF zA)).map tI)]++[.lst ((zAW zA l).map tI)]):=by
 refine zW ?_;unfold zBL;rw[zAE];unfold zCd;have hP:(stN zA l).length=zA.length:=by rw[zHq];unfold zBc;simp
 have sti:∀ p∈zK (zF zA),(!decide ((stN zA l).getD (p.getD 0 0).toNat 0=(stN zA l).getD (p.getD 1 0).toNat 0)) = @decide (Rk zA l p) (Classical.propDecidable _):=λp hp=>by
  obtain ⟨a,b,rfl,_⟩:=zh.mp hp;have:=zSe m hp;by_cases h:Rk zA l [a,b]
  .rw[@zYL _ (Classical.propDecidable _) h];simp only[List.getD_cons_zero,List.getD_cons_succ];rw[zXm λz=>this.mp z h];rfl
  .rw[@zXm _ (Classical.propDecidable _) h];simp only[List.getD_cons_zero,List.getD_cons_succ];rw[zYL (this.mpr h)];rfl
 have fl:(zK (zF zA)).filter (λp=> !decide ((stN zA l).getD (p.getD 0 0).toNat 0=(stN zA l).getD (p.getD 1 0).toNat 0))=zAW zA l:=List.filter_congr sti;generalize stN zA l=P at hP fl;have hrl:(zF zA).length=zA.length:=by unfold zF;simp
 have epr:=zFU (xs:=zF zA) (by omega) (M:=M);have ei:zu (zP zAT (zD (toD (zP zAH (zD (toD (zC 0)) zH))) zH)) [some (mD zA),some (tI P),none,none] M=_:=zC1 (zc (d:=tI (zF zA)) (zAM (zc (d:=mD zA) rfl) (zEe (by omega)))) epr (zS _ _);have hPl:=zBE hR;have ef:=zAr (own:=[2,3]) (g:=zBU 2 3) (tc:=tst (fOp kNe (fOp kIx (zC 1) (zC 2)) (fOp kIx (zC 1) (zC 3)))) (te:=zAd (zD (toD (zC 2)) (zD (toD (zC 3)) zH))) (zK (zF zA)) tI tI (λp=> !decide (P.getD (p.getD 0 0).toNat 0=P.getD (p.getD 1 0).toNat 0)) ei (.inl (zS _ _)) (by omega) (λp hp=>by
  obtain ⟨a,b,rfl,ha,hb,_⟩:=zh.mp hp;obtain ⟨a0,a1⟩:=zBm.mp ha;obtain ⟨b0,b1⟩:=zBm.mp hb;refine ⟨[some (mD zA),some (tI P),some (.int a),some (.int b)],rfl,?_,λ_=>zHO (zt (d:=.int a) rfl (zc (d:=.int b) rfl)) (by simp)⟩;exact zo (zJ (x:=.dat (.int (P.getD a.toNat 0))) (y:=.dat (.int (P.getD b.toNat 0))) (zJ (x:=.dat (tI P)) (y:=.dat (.int a)) rfl rfl (zAx zj (zEK a0 (by omega)))) (zJ (x:=.dat (tI P)) (y:=.dat (.int b)) rfl rfl (zAx zj (zEK b0 (by omega)))) (zW (zU4.mpr ⟨by simp,rfl⟩))))
 rw[fl]at ef;rw[zBI];exact zE ef (zb ⟨by simp,rfl⟩)
def upW (zA:Ya) (l:Nat) (p:Ye):List Int:=open Classical in if h:∃ w,Climb zA l (· ∈ zx zA l) p w then Classical.choose h else []
def zQV (h:Rk zA l p):Climb zA l (· ∈ zx zA l) p (upW zA l p):=by
 obtain ⟨k,hk⟩:=h;obtain ⟨n,_,hn⟩:=zCg k hk;have h:=zFb n hn;unfold upW;rw[dif_pos h];exact Classical.choose_spec h
def zLS:p∈zAW zA l ↔ p∈zK (zF zA)/\Rk zA l p:=by
 unfold zAW;rw[zYO];simp
def zOr:zC5 zA (· ∈ zx zA l):=.inr λt ht hin=>by
 obtain ⟨a,b,rfl,_⟩:=zh.mp (zAn hin);cases ht
def zRH (m:IsM zA l) (hR:zA.length<=26) (hl:l<=12) :
  zBK [mD zA] M=some (.tup [tI (stN zA l),.tup ((zAW zA l).map λp=>tI (upW zA l p))],M):=by
 refine zW ?_;unfold zBK;refine zJ2 ?_ ?_
 .unfold D.unds D.unds;rw[zH5];rfl
 rw[zAE];unfold zCh;rw[zI,zT];refine zAj.mpr (zy.mpr (zE (a:=mD zA) (M:=[]) rfl (zy.mpr (zAY.mpr (zP7.mpr (zEL.mpr (zE (zAM (zc (d:=mD zA) rfl) (zQ7 m hR hl)) (zFV.mpr ((zQy (zj)).mpr (zb (zAh.mpr ?_)))))))))));have nd:(zx zA l).Nodup:=(zDq (zEH zA)).filter _;have hal:(zx zA l).length<=676:=zXe (zZX _ _) (zBE hR);have oa:zC5 zA (· ∈ zx zA l):=zOr;refine Ok.mono (zEz m oa hR hl (zS _ _) nd (λt=>⟨λh=>⟨zBH t (zAn h),h⟩,λh=>h.2⟩) (by omega)) ?_;rintro d M1 ⟨jf,rfl,_,⟨fd,h2,_,sp⟩,_,_⟩;rw[zL,zM];rw[zI,zT];refine zAj.mpr (zE (zt (d:=mD zA) rfl (zc (d:=.ref jf) rfl)) (Ok.mono (zIa hR h2) ?_));have hjf:=(zXG.mp h2).1;rintro d M2 ⟨rfl,h3,fr2⟩;have ecl:zBc (λp=>(zG fd p).isSome=true) zA.length=zBc (λp=>∃ k,Rch zA l (· ∈ zx zA l) p k) zA.length:=zIF λo r ho hr=>by
  constructor
  .intro z;cases e:zG fd [(o:Int),(r:Int)] with
   |none=>rw[e]at z;cases z
   |some d=>
    obtain ⟨_,n,hn,_⟩:=(sp _ _).mp e;exact ⟨n,hn.1⟩
  .rintro ⟨k,hk⟩;obtain ⟨n,_,hn⟩:=zCg k hk;rw[(sp _ _).mpr ⟨zBH _ (zA0.mpr (by omega)),n,hn,rfl⟩];rfl
 rw[ecl,show zD6 (zBc (λp=>∃ k,Rch zA l (· ∈ zx zA l) p k) zA.length)=stN zA l from rfl,zL,zM];have eac:=λA=>zOV m hR (M:=A);have hfew:(zAW zA l).length<=676:=zXe (zZX _ _) (zBE hR);generalize stN zA l=N at eac ⊢;rw[zI,zT];refine zAj.mpr (zE (zt (d:=mD zA) rfl (zc (d:=.ref jf) rfl)) (Ok.mono (zLO m hR hl ((fr2 jf hjf).trans h2) sp) ?_));rintro d M3 ⟨jr,us,rfl,rfl,_,h4⟩;rw[zL,zM];generalize M2++us=A at h4 ⊢;rw[zBI];refine zUR.mpr (zy.mpr (zE (a:=tI N) (M:=A) rfl (zy.mpr (zAY.mpr (zP7.mpr (zEL.mpr (zC0.mpr ?_)))))));have e1:=eac A;have hA1:(A++[MO.lst ((zK (zF zA)).map tI)]++[MO.lst ((zAW zA l).map tI)])[A.length+1]?=some (.lst ((zAW zA l).map tI)):=by
  have:=zS (A++[MO.lst ((zK (zF zA)).map tI)]) (MO.lst ((zAW zA l).map tI));rw[zXT,zaS]at this;exact this
 have hr1:(A++[MO.lst ((zK (zF zA)).map tI)]++[MO.lst ((zAW zA l).map tI)])[jr]?=some (dT (zE1 zA l (· ∈ zx zA l))):=by
  rw[zYJ,zXK (zXG.mp h4).1];exact h4
 generalize A++[MO.lst ((zK (zF zA)).map tI)]++[MO.lst ((zAW zA l).map tI)]=A1 at e1 hA1 hr1;refine ⟨_,_,_,zC1 (ds:=[mD zA,tI N]) (zt (d:=mD zA) rfl (zc (d:=tI N) rfl)) e1 hA1,by rw[zXM];exact zY (by omega),?_⟩;refine Ok.mono (zBv (I:=λr acc M'=>(∃ us,M'=A1++us) /\ ∃ vs ds:List (List Int),r=vs.map tI/\ds++vs=zAW zA l/\acc=ds.map λp=>tI (upW zA l p)) (Q:=λacc M'=>acc=(zAW zA l).map λp=>tI (upW zA l p)) ?_ ?_ _ [] _ ⟨⟨[],by simp⟩,zAW zA l,[],rfl,rfl,rfl⟩) ?_
 .rintro x r acc M' ⟨⟨us,rfl⟩,vs,ds,hr,hv,rfl⟩;cases vs with
  |nil=>cases hr
  |cons p vs=>
   rw[zXW]at hr;obtain ⟨rfl,rfl⟩:=zYH hr;have up:∀ {j:Nat} {u:MO},A1[j]?=some u->(A1++us)[j]?=some u:=λ{j u} h=>by rw[zXK (zXG.mp h).1];exact h
   refine ⟨.inl (up hA1),[some (mD zA),some (.ref jf),some (tI N),some (.ref jr),some (tI p)],rfl,⟨true,_,rfl,?_⟩⟩;dsimp only;rw[zXS rfl];obtain ⟨hp1,hp2⟩:=zLS.mp (show p∈zAW zA l by rw[<-hv];simp);refine zAj.mpr (zE (zt (d:=mD zA) rfl (zt (d:=.ref jr) rfl (zc (d:=tI p) rfl))) (Ok.mono (zMp m oa hR (up hr1) (zBH p hp1) (zQV hp2)) ?_));rintro d M4 ⟨rfl,us2,rfl⟩;rw[zL];exact ⟨⟨us++us2,by simp⟩,vs,ds++[p],rfl,by rw[<-hv];simp,by simp⟩
 .rintro acc M' ⟨⟨us,rfl⟩,vs,ds,hr,hv,rfl⟩;have:vs=[]:=by cases vs with|nil=>rfl|cons _ _=>cases hr
  subst this;rw[zXx]at hv;exact ⟨.inl (by rw[zXK (zXG.mp hA1).1];exact hA1),by rw[hv]⟩
 .rintro ys M5 e;rw[zZV]at e;subst e;refine zFV.mpr ((zKZ zDC).mpr ?_);rw[zL,zAh];refine ⟨zY (by simp),?_⟩;rw[zL];refine ⟨?_,rfl,rfl⟩;have:=zNU 0 ((zAW zA l).map (upW zA l));rw[zXb]at this;unfold D.und D.unds D.unds D.unds;rw[show D.und 0 (tI N)=true from zA5 N,show D.und 0 (.tup ((zAW zA l).map λp=>tI (upW zA l p)))=true from this];rfl
def zFQ (g_rec:FF):FS:=(zX (sIf (tst (zD7 "tuple" (zC 1))) (zX (sIf (zEN (zDK (tst (zD7 "tuple" (zC 0)))) (tst (fOp kNe (fB zAX (zQ (zC 0) ze)) (fB zAX (zQ (zC 1) ze))))) (zAS (fC (.bl false))) zBB)
  (zAS (fB zSZ (zQ (zi [2,3] (zGq (zD (toD (zC 0)) (zD (toD (zC 1)) zH))) (zBU 2 3) zv (zP g_rec (zD (toD (zC 2)) (zD (toD (zC 3)) zH)))) ze)))) zBB)
  (zX (sIf (tst (zD7 "bool" (zC 1))) (zAS (zMM (zD7 "bool" (zC 0)) (fOp kEq (zC 0) (zC 1)))) zBB)
  (zAS (zMM (zD7 "int" (zC 0)) (zMM (zRN (zD7 "bool" (zC 0))) (fOp kEq (zC 0) (zC 1)))))))
def zA3:Nat->FF
 |0=>λ_ _=>none
 |n+1=>zBV 4 (zFQ (zA3 n))
def zFY:FF:=zA3 5
def zQi (n:Nat) (i:Int) (M:Mem):zA3 (n+1) [.int i,.int i] M=some (.bl true,M):=by
 refine zW ?_;unfold zA3;rw[zAE];unfold zFQ;refine zDm (isF rfl rfl (by decide)) (zDm (isF rfl rfl (by decide)) ?_);exact zAZ (zI9 (isV rfl rfl (by decide)) (zI9 (zNH (isV rfl rfl (by decide))) (zJ rfl rfl (zRj rfl)))) ⟨rfl,rfl⟩
def zS8 (n:Nat) (c:Ye) (hz:c.length<=1000) (M:Mem):zA3 (n+2) [tI c,tI c] M=some (.bl true,M):=by
 refine zW ?_;unfold zA3;rw[zAE];unfold zFQ;refine zTH (zVi rfl rfl (by decide)) (zDm ?_ ?_)
 .refine zW (zUF.mpr (zNT.mpr (zE (zVi rfl rfl (by decide)) ?_)));rw[zXV (by decide)];refine zKG.mpr (zE (zJ (zBh rfl zj) (zBh rfl zj) (zW (zU4.mpr ⟨rfl,rfl⟩))) ?_);rw[zJy];simp
 .rw[zBI];have ec:=zAg (own:=[2,3]) (g:=zBU 2 3) (te:=zP (zA3 (n+1)) (zD (toD (zC 2)) (zD (toD (zC 3)) zH))) (fi:=zGq (zD (toD (zC 0)) (zD (toD (zC 1)) zH))) (σ:=[some (tI c),some (tI c),none,none]) (M:=M) c (λi=>D.tup [.int i,.int i]) (λ_=>D.bl true) (gd:=none) (by
   unfold zGq;rw[zt (d:=tI c) rfl (zc (d:=tI c) rfl)];show some (((c.map D.int).zip (c.map D.int)).map (λq=>D.tup [q.1,q.2]),(none:Option (Mem->Prop)),M)=_;rw[show ((c.map D.int).zip (c.map D.int)).map (λq=>D.tup [q.1,q.2])=c.map λi=>D.tup [.int i,.int i] by
    rw[List.zip_map,zXb];clear hz;induction c with
    |nil=>rfl
    |cons a r ih=>simp only[List.zip_cons_cons,zXW];rw[ih];rfl]) trivial (by omega) λi _=>⟨_,rfl,zAM (zt rfl (zc rfl)) (zQi n i M)⟩
  refine zP7.mpr (zEL.mpr (zE ec (zFV.mpr ((zTk (bs:=List.replicate c.length true) zQ2 (by rw[show c.map (λ_=>D.bl true)=(List.replicate c.length true).map D.bl by simp[List.map_const']];exact zGI _)).mpr ?_))));rw[zL];exact ⟨by simp,rfl⟩
def zCM:FS:=(zX (sIf (zDK (tst (zD7 "tuple" (zC 2)))) (zAS (fC (.bl false))) zBB)
  (zX (zBw (zu (zC 2)) (gN 4) (zX (zq 5 (zi [6,7] (zGq (zD (toD (fOp kIx (zC 0) (fOp kIx (zC 1) (fC (.int 0))))) (zD (toD (fOp kIx (zC 0) (fOp kIx (zC 1) (fC (.int 1))))) zH))) (zBU 6 7) zv (zP zAt (zD (toD (zC 6)) (zD (toD (zC 7)) zH)))))
  (zX (zq 8 (zi [9,10] (zD4 (zC 5)) (zBU 9 10) (zCx (tst (fOp (zAe false) (zC 10) (zC 3))) (tst (fOp kEq (fOp zp (zC 3) (zC 10)) (fOp zGj (fOp zp (zC 3) (zC 1)) (fC (.int 1)))))) (zC 9)))
  (zX (sIf (zEN (tst (fOp kEq (zC 8) (zAb zH))) (zDK (tst (zP zFY (zD (toD (zC 4)) (zD (toD (fOp kIx (zC 8) (fC (.int 0)))) zH)))))) (zAS (fC (.bl false))) zBB)
  (zq 1 (fOp kIx (zC 5) (zC 4)))))))
  (zAS (fOp kEq (fOp zp (zC 3) (zC 1)) (fC (.int 0))))))
def zAm:FF:=zFd (zBV 11 zCM)
def zSY (m:IsM zA l) (bi:BI (zEJ zA) (zx zA l) T T.length) (hU:∀ p∈T.map (·.1),p∈zK (zF zA)):zIK zA l (· ∈ zx zA l) (zAU T):=by
 have r1:∀ (p:Ye) (v:Int),(p,v)∈T -> ∃ n:Nat,v=(n:Int)/\Dst zA l (· ∈ zx zA l) p n:=λp v h=>by
  have h0:=bi.pos p v h;have hp:=hU p (zXU.mpr ⟨_,h,rfl⟩);have hv:v=((v.toNat:Nat):Int):=by omega
  rw[hv]at h;obtain ⟨a,b,rfl,_⟩:=zh.mp hp;refine ⟨v.toNat,hv,(zES m (λ_ h=>zAn h) _ _ _ hp).mp (zIJ bi _ _ h),λk hk z=>?_⟩;obtain ⟨u,hu,hle⟩:=zG0 bi k _ ((zES m (λ_ h=>zAn h) _ _ _ hp).mpr z);have e1:=zJE bi.nd hu;rw[zJE bi.nd h]at e1;cases e1;omega
 intro t d;constructor
 .intro e;by_cases hk:t∈T.map (·.1)
  .obtain ⟨⟨p,v⟩,hv,rfl⟩:=zXU.mp hk;obtain ⟨n,rfl,hn⟩:=r1 p v hv;rw[zJE bi.nd hv]at e;cases e;exact ⟨zBH _ (hU _ hk),n,hn,rfl⟩
  .rw[zFB hk]at e;cases e
 .rintro ⟨u,n,hn,rfl⟩;have hp:t∈zK (zF zA):=zG9 t u λh1=>by
   obtain ⟨w,_,hw,g⟩:=hn.1;obtain ⟨a,b,e,_⟩:=zh.mp (zAn g);have:=zCV m w t u h1 hw;rw[e]at this;cases this
  obtain ⟨a,b,rfl,_⟩:=zh.mp hp;obtain ⟨v,hv,hle⟩:=zG0 bi n _ ((zES m (λ_ h=>zAn h) _ _ _ hp).mpr hn.1);obtain ⟨k,rfl,hk⟩:=r1 _ v hv;rw[zAw hn hk];exact zJE bi.nd hv
def glR (zA:Ya) (a b:Int) (k:Nat):List Int:=zAl (zd zA a (k:Int)) (zd zA b (k:Int))
def zLP (m:IsM zA l) (sp:zIK zA l (· ∈ zx zA l) (zAU T)) (hp:[a,b]∈zK (zF zA)) (hk:k<l):isN n (zG (zAU T) (glR zA a b k))=true ↔ Dst zA l (· ∈ zx zA l) (setR zA [a,b] (k:Int)) n:=by
 have u':=zCN m [a,b] (k:Int) (zBH _ hp) ⟨by omega,by omega⟩;by_cases e:zd zA a (k:Int)=zd zA b (k:Int)
 .constructor
  .intro h;unfold glR at h;rw[e,zDu]at h;cases e2:zG (zAU T) [zd zA b (k:Int),zd zA b (k:Int)] with
   |none=>rw[e2]at h;cases h
   |some d=>
    have:=((sp _ _).mp e2).1.1.pw;simp at this
  .intro h;rw[zFc e]at h u';obtain ⟨w,_,hw,g⟩:=h.1;obtain ⟨a,b,e2,_⟩:=zh.mp (zAn g);have:=zCV m w _ u' rfl hw;rw[e2]at this;cases this
 .rw[zDJ e]at u' ⊢;exact zHE sp u'
def zRm (m:IsM zA l) (ha:0<=a/\a<(zA.length:Int)) (hb:0<=b/\b<(zA.length:Int)):(zC6 zA a).zip (zC6 zA b)=(List.range l).map λ(k:Nat)=>(zd zA a (k:Int),zd zA b (k:Int)):=by
 have h1:=(m.get ha.1 ha.2).1;have h2:=(m.get hb.1 hb.2).1;unfold zC6 zd;generalize zA.getD a.toNat []=A at h1;generalize zA.getD b.toNat []=B at h2;apply zZZ;intro i;by_cases hi:i<l
 .rw[List.zip_eq_zipWith,List.getElem?_zipWith,zXa,zZH hi,zXH (by omega),zXH (by omega)];simp only[Option.map_some,Int.toNat_natCast];rw[zXI,zXI,zXH (show i<A.length by omega),zXH (show i<B.length by omega)];rfl
 .rw[zYM (by simp;omega),zYM (by simp;omega)]
def zVR (h:M[j]?=some (.lst xs)):kEq (.dat (.ref j)) (.fl []) M=some (.dat (.bl xs.isEmpty),M):=by
 have e1:zLE false (.dat (.ref j)) (.fl []) M=none:=rfl;unfold kEq kOr;rw[e1];unfold zOX;rw[zAJ h];rfl
abbrev wyS (zA:Ya) (p w:Ye) (jr:Nat) (y4 y5 y6 y7 y8 y9 y10:Option D):Sd:=[some (mD zA),some (tI p),some (tI w),some (.ref jr),y4,y5,y6,y7,y8,y9,y10]
def zPx (m:IsM zA l) (hl:l<=12) (hp:[a,b]∈zK (zF zA)) :
  zi [6,7] (zGq (zD (toD (fOp kIx (zC 0) (fOp kIx (zC 1) (fC (.int 0))))) (zD (toD (fOp kIx (zC 0) (fOp kIx (zC 1) (fC (.int 1))))) zH))) (zBU 6 7) zv (zP zAt (zD (toD (zC 6)) (zD (toD (zC 7)) zH))) (wyS zA [a,b] w jr y4 y5 y6 y7 y8 y9 y10) M=some (.fl ((List.range l).map λ(k:Nat)=>tI (glR zA a b k)),M):=by
 obtain ⟨ha,hb,_⟩:=zA0.mp hp;have ra:=zFN (zA:=zA) ha.1 ha.2;have rb:=zFN (zA:=zA) hb.1 hb.2;refine zAg (List.range l) (λ(k:Nat)=>D.tup [.int (zd zA a (k:Int)),.int (zd zA b (k:Int))]) (λ(k:Nat)=>tI (glR zA a b k)) (gd:=none) ?_ trivial (by rw[zZA];omega) λk hk=>⟨[some (mD zA),some (tI [a,b]),some (tI w),some (.ref jr),y4,y5,some (.int (zd zA a (k:Int))),some (.int (zd zA b (k:Int))),y8,y9,y10],rfl,zAM (zt (d:=.int (zd zA a (k:Int))) rfl (zc (d:=.int (zd zA b (k:Int))) rfl)) zGZ⟩;unfold zGq;rw[zt (d:=.tup ((zC6 zA a).map D.int)) (zJ (x:=.dat (mD zA)) (y:=.dat (.int a)) rfl (zJ (x:=.dat (tI [a,b])) (y:=.dat (.int 0)) rfl rfl (zAx zj rfl)) (zAx zj ra)) (zc (d:=.tup ((zC6 zA b).map D.int)) (zJ (x:=.dat (mD zA)) (y:=.dat (.int b)) rfl (zJ (x:=.dat (tI [a,b])) (y:=.dat (.int 1)) rfl rfl (zAx zj rfl)) (zAx zj rb)))];dsimp only;rw[List.zip_map,zXb,zRm m ha hb,zXb];rfl
def zSr (m:IsM zA l) (hl:l<=12) (sp:zIK zA l (· ∈ zx zA l) (zAU T)) (hp:[a,b]∈zK (zF zA)) (hd:Dst zA l (· ∈ zx zA l) [a,b] (n+1)) (hr:A[jr]?=some (dT (zAU T))) (hg:A[jg]?=some (.lst ((List.range l).map λ(k:Nat)=>tI (glR zA a b k)))) :
  zi [9,10] (zD4 (zC 5)) (zBU 9 10) (zCx (tst (fOp (zAe false) (zC 10) (zC 3))) (tst (fOp kEq (fOp zp (zC 3) (zC 10)) (fOp zGj (fOp zp (zC 3) (zC 1)) (fC (.int 1)))))) (zC 9) (wyS zA [a,b] w jr y4 (some (.ref jg)) y6 y7 y8 y9 y10) A=some (.fl (((List.range l).filter λ(k:Nat)=>isN n (zG (zAU T) (glR zA a b k))).map λ(k:Nat)=>D.int (k:Int)),A):=by
 have hen:zD4 (zC 5) (wyS zA [a,b] w jr y4 (some (.ref jg)) y6 y7 y8 y9 y10) A=some ((List.range l).map (λ(k:Nat)=>D.tup [.int (k:Nat),tI (glR zA a b k)]),zCq (.dat (.ref jg)) ((List.range l).map λ(k:Nat)=>tI (glR zA a b k)),A):=by
  unfold zD4;rw[show zC 5 (wyS zA [a,b] w jr y4 (some (.ref jg)) y6 y7 y8 y9 y10) A=some (.dat (.ref jg),A)from rfl];dsimp only;rw[za hg];dsimp only;congr 2;unfold zIf;rw[zXM,zZA];apply zZZ;intro i;by_cases hi:i<l
  .rw[zXa,zXa,List.zip_eq_zipWith,List.getElem?_zipWith,zXa,zZH hi];rfl
  .rw[zYM (by simp;omega),zYM (by simp;omega)]
 have lp:zG (zAU T) [a,b]=some (.int ((n+1:Nat):Int)):=(sp _ _).mpr ⟨zBH _ hp,n+1,hd,rfl⟩;refine zAr (List.range l) _ (λ(k:Nat)=>D.int (k:Int)) (λ(k:Nat)=>isN n (zG (zAU T) (glR zA a b k))) hen (.inl hg) (by rw[zZA];omega) (λk hk=>?_);refine ⟨[some (mD zA),some (tI [a,b]),some (tI w),some (.ref jr),y4,some (.ref jg),y6,y7,y8,some (.int (k:Int)),some (tI (glR zA a b k))],rfl,?_,λ_=>rfl⟩;generalize hσ:([some (mD zA),some (tI [a,b]),some (tI w),some (.ref jr),y4,some (.ref jg),y6,y7,y8,some (.int (k:Int)),some (tI (glR zA a b k))]:Sd)=σ;have v10:zC 10 σ A=some (.dat (tI (glR zA a b k)),A):=by rw[<-hσ];rfl
 have v3:zC 3 σ A=some (.dat (.ref jr),A):=by rw[<-hσ];rfl
 have v1:zC 1 σ A=some (.dat (tI [a,b]),A):=by rw[<-hσ];rfl
 have e1:fOp (zAe false) (zC 10) (zC 3) σ A=_:=zJ v10 v3 (zHo hr);rw[zXV (by decide)]at e1;cases e:zG (zAU T) (glR zA a b k) with
 |none=>
  rw[e]at e1;exact zKe (zo e1)
 |some d=>
  obtain ⟨_,v,_,rfl⟩:=(sp _ d).mp e;rw[e]at e1;refine zKi (zo e1) (zo ?_);refine zJ (x:=.dat (.int (v:Int))) (y:=.dat (.int (((n+1:Nat):Int)-1))) (zJ v3 v10 (zE0 hr e)) (zJ (x:=.dat (.int ((n+1:Nat):Int))) (y:=.dat (.int 1)) (zJ v3 v1 (zE0 hr lp)) rfl zVT) ?_;rw[eqE];unfold isN;congr 5;exact propext ⟨λh=>by omega,λh=>by omega⟩
def zKn (hx:x<l) (h1:p x=true) (h2:∀ y,y<x->p y=false):∃ r,(List.range l).filter p=x::r:=by
 refine ⟨((List.range l).drop (x+1)).filter p,?_⟩;have e:List.range l=List.range x++x::(List.range l).drop (x+1):=by
  apply zZZ;intro i;rw[List.getElem?_append,zZA];split
  .rename_i h;rw[zZH (by omega),zZH h]
  .rename_i h;cases hi:i-x with
   |zero=>rw[show i=x by omega,zZH hx];rfl
   |succ k=>rw[List.getElem?_cons_succ,List.getElem?_drop,show x+1+k=i by omega]
 rw[e,List.filter_append,List.filter_cons,zXS h1];have:(List.range x).filter p=[]:=List.filter_eq_nil_iff.mpr λy hy=>by rw[h2 y (zXr.mp hy)];simp
 rw[this,zZV];congr 2;rw[<-e]
def zUE (m:IsM zA l) (hl:l<=12) (sp:zIK zA l (· ∈ zx zA l) (zAU T)) (wf:∀ (j:Nat) u,M[j]?=some u->MO.und M.length u=true) (hr:M[jr]?=some (dT (zAU T))) (hp:p∈zK (zF zA)) (c:Climb zA l (· ∈ zx zA l) p w) :
  zAm [mD zA,tI p,tI w,.ref jr] M=some (.bl true,M):=by
 have hjl:=(zXG.mp hr).1;refine zW ?_;unfold zAm;refine zFn ?_;rw[zAE];unfold zCM;refine zDm (ntT (a:=zD7 "tuple" (zC 2)) (k:=true) (isV (x:=.dat (tI w)) rfl rfl (by decide))) ?_;rw[zI,zAs];refine ⟨_,_,_,zEn (xs:=w.map D.int) rfl,?_⟩;refine zAf (I:=λr σ M'=>(∃ us,M'=M++us) /\ ∃ h v y4 y5 y6 y7 y8 y9 y10,σ=wyS zA h w jr y4 y5 y6 y7 y8 y9 y10/\r=v.map D.int/\h∈zK (zF zA)/\Climb zA l (· ∈ zx zA l) h v) ?_ ?_ _ _ _ ⟨⟨[],by simp⟩,p,w,_,_,_,_,_,_,_,rfl,rfl,hp,c⟩
 .rintro x r σ M' ⟨⟨us,rfl⟩,h,v,y4,y5,y6,y7,y8,y9,y10,rfl,hv,hh,ch⟩;cases ch with
  |nil _=>cases hv
  | @cons _ x' v n d x0 x1 e f ch=>
   rw[zXW]at hv;obtain ⟨rfl,rfl⟩:=zYH hv;refine ⟨zAK,_,rfl,?_⟩;obtain ⟨a,b,rfl,ha,hb,hab⟩:=zh.mp hh;rw[zI,zT];refine zE (zPx m hl hh) (zb ?_);rw[zM];simp only[List.set_cons_succ,List.set_cons_zero];have up:∀ {N us:Mem} {j:Nat} {u:MO},N[j]?=some u->(N++us)[j]?=some u:=λ{N us j u} h=>by rw[zXK (zXG.mp h).1];exact h
   have g1:=zS (M++us) (MO.lst ((List.range l).map λ(k:Nat)=>tI (glR zA a b k)));have r1:(M++us++[MO.lst ((List.range l).map λ(k:Nat)=>tI (glR zA a b k))])[jr]?=some (dT (zAU T)):=up (up hr);obtain ⟨us1,hus1⟩:∃ us1,M++us++[MO.lst ((List.range l).map λ(k:Nat)=>tI (glR zA a b k))]=M++us1:=⟨_,zYJ _ _ _⟩;rw[hus1]at g1 r1 ⊢;generalize (M++us).length=jg at g1 ⊢;rw[zI,zT];refine zE (zSr m hl sp hh d r1 g1) (zb ?_);rw[zM];simp only[List.set_cons_succ,List.set_cons_zero];obtain ⟨rest,hrest⟩:=zKn (p:=λ(k:Nat)=>isN n (zG (zAU T) (glR zA a b k))) (l:=l) (x:=x'.toNat) (by omega) ((zLP m sp hh (by omega)).mpr (by rw[show ((x'.toNat:Nat):Int)=x' by omega];exact e)) (λy hy=>by
    cases z:isN n (zG (zAU T) (glR zA a b y)) with
    |false=>rfl
    |true=>exact absurd ((zLP m sp hh (by omega)).mp z) (f (y:Int) (by omega) (by omega)))
   rw[hrest,zXW,show ((x'.toNat:Nat):Int)=x' by omega];have n2:=zS (M++us1) (MO.lst (D.int x'::rest.map λ(k:Nat)=>D.int (k:Int)));have g2:=up (us:=[MO.lst (D.int x'::rest.map λ(k:Nat)=>D.int (k:Int))]) g1;obtain ⟨us2,hus2⟩:∃ us2,M++us1++[MO.lst (D.int x'::rest.map λ(k:Nat)=>D.int (k:Int))]=M++us2:=⟨_,zYJ _ _ _⟩;rw[hus2]at n2 g2 ⊢;generalize (M++us1).length=jn at n2 ⊢;refine zDm (zHk (zo (zJ (x:=.dat (.ref jn)) (y:=.fl []) rfl rfl (zVR n2))) (ntT (a:=zP zFY (zD (toD (zC 4)) (zD (toD (fOp kIx (zC 8) (fC (.int 0)))) zH))) (k:=true) (zAM (zt (d:=.int x') rfl (zc (d:=.int x') (zJ (x:=.dat (.ref jn)) (y:=.dat (.int 0)) rfl rfl (zAx (za n2) at0)))) (zQi 4 x' _)))) ?_;rw[zT];refine zE (zJ (x:=.dat (.ref jg)) (y:=.dat (.int x')) rfl rfl (zAx (d:=tI (glR zA a b x'.toNat)) (za g2) (zKE x0 (by rw[zXa,zZH (by omega)];rfl)))) ?_;rw[zL];have hne:zd zA a x'≠zd zA b x':=λz=>by
    have u':=zCN m [a,b] x' (zBH _ hh) ⟨x0,x1⟩;rw[zFc z]at e u';obtain ⟨w,_,hw,g⟩:=e.1;obtain ⟨a,b,e2,_⟩:=zh.mp (zAn g);have:=zCV m w _ u' rfl hw;rw[e2]at this;cases this
   have hgl:glR zA a b x'.toNat=setR zA [a,b] x':=by
    unfold glR;rw[show ((x'.toNat:Nat):Int)=x' by omega,zDJ hne]
   rw[hgl];refine ⟨⟨us2,rfl⟩,setR zA [a,b] x',v,_,_,_,_,_,_,_,rfl,rfl,zG9 _ (zCN m _ _ (zBH _ hh) ⟨x0,x1⟩) λz=>?_,ch⟩;rw[zDJ hne]at z;cases z
 .rintro σ M' ⟨⟨us,rfl⟩,h,v,y4,y5,y6,y7,y8,y9,y10,rfl,hv,hh,ch⟩;cases ch with
  |cons _ _ _ _ _ _=>cases hv
  |nil g=>
   refine ⟨zAK,?_⟩;have l0:zG (zAU T) h=some (.int 0):=(sp _ _).mpr ⟨zBH _ hh,0,zBM.mpr g,rfl⟩;have r1:(M++us)[jr]?=some (dT (zAU T)):=by rw[zXK hjl];exact hr
   rw[zM];refine zAZ (zJ (x:=.dat (.int 0)) (y:=.dat (.int 0)) (zJ (x:=.dat (.ref jr)) (y:=.dat (tI h)) rfl rfl (zE0 r1 l0)) rfl eqE) ⟨⟨rfl,by simp,λj u hj e=>?_⟩,rfl,by simp⟩;rw[zXK hj]at e;exact wf j u e
def zPc:FS:=(zX (zq 1 (zP zCH (zD (toD (zC 0)) zH)))
  (zX (zBw (zAA (zD (toD (fB zHp (zQ (fC (.int 4)) (zQ (fOp zAI (fC (.int 1)) (fB zAX (zQ (zC 0) ze))) ze)))) zH)) (gN 2) (zX (zq 3 (fOp kIx (zP zBs (zD (toD (zC 1)) (zD (toD (fC (.int 26))) (zD (toD (fC (.int 6))) zH)))) (fC (.int 0))))
  (zX (zq 4 (zP zA4 (zD (toD (zC 3)) (zD (toD (zP zB1 (zD (toD (zC 3)) zH))) zH))))
  (zX (zq 5 (zP zBK (zD (toD (zC 3)) zH)))
  (zX (sIf (zEN (zDK (tst (zD7 "tuple" (zC 5)))) (zEN (tst (fOp kNe (fB zAX (zQ (zC 5) ze)) (fC (.int 2)))) (zDK (tst (zP zFY (zD (toD (fOp kIx (zC 5) (fC (.int 0)))) (zD (toD (zP zBR (zD (toD (zC 3)) (zD (toD (zC 4)) zH)))) zH))))))) (zAS (fC (.bl false))) zBB)
  (zX (zq 6 (zi [7] (zu (zP zAP (zD (toD (fB zAX (zQ (zC 3) ze))) zH))) (gN 7) (tst (fOp (zAe false) (zC 7) (zC 4))) (zC 7)))
  (zX (sIf (zEN (zDK (tst (zD7 "tuple" (fOp kIx (zC 5) (fC (.int 1)))))) (tst (fOp kNe (fB zAX (zQ (fOp kIx (zC 5) (fC (.int 1))) ze)) (fB zAX (zQ (zC 6) ze))))) (zAS (fC (.bl false))) zBB)
  (sIf (zDK (tst (fB zSZ (zQ (zi [7,8] (zLd (zD (toD (zC 6)) (zD (toD (fOp kIx (zC 5) (fC (.int 1)))) zH))) (zBU 7 8) zv (zP zAm (zD (toD (zC 3)) (zD (toD (zC 7)) (zD (toD (zC 8)) (zD (toD (zC 4)) zH)))))) ze)))) (zAS (fC (.bl false))) zBB))))))))
  (zAS (fC (.bl true)))))
def zGV:FF:=zBV 9 zPc
def Gen.more (g:Gen M n k) (hl:M.length<=M'.length) (f:∀ j,j<M.length->M'[j]?=M[j]?) (u:∀ (j:Nat) u,M'[j]?=some u->MO.und M'.length u=true):Nw M M' n k:=by
 obtain ⟨hn,hk⟩:=g.lt;obtain ⟨c,s,e1,e2,r⟩:=g.ex;exact ⟨⟨⟨c,s,(f n hn).trans e1,(f k hk).trans e2,r⟩,g.ne,u⟩,hl,λj hj _ _=>f j hj⟩
def zQj (m:IsM zA l) (hR:zA.length<=26) (hl:l<=12) (wf:∀ (j:Nat) u,M[j]?=some u->MO.und M.length u=true) (v:∀ M,zC i σ M=some (.dat (mD zA),M)) :
  Ok (zP zA4 (zD (toD (zC i)) (zD (toD (zP zB1 (zD (toD (zC i)) zH))) zH)) σ M)
   λe M'=>∃ jf T,e=.dat (.ref jf)/\M.length<=jf/\M'[jf]?=some (dT (zAU T))/\BI (zEJ zA) (zx zA l) T T.length/\(∀ p∈T.map (·.1),p∈zK (zF zA))/\M.length<=M'.length/\(∀ j,j<M.length->M'[j]?=M[j]?) /\ ∀ (j:Nat) u,M'[j]?=some u->MO.und M'.length u=true:=by
 have tv:∀ M,toD (zC i) σ M=some (mD zA,M):=λM=>zER (v M);refine zAj.mpr (zy.mpr (zE (tv M) (zy.mpr (zAY.mpr (zAj.mpr (zE (zc (v M)) ?_))))));refine Ok.mono (zLn m hR hl) ?_;rintro d M1 ⟨j1,rfl,g1,e1,n1,f1,u1⟩;rw[zL,zAh];have nd:(zx zA l).Nodup:=(zDq (zEH zA)).filter _;refine Ok.mono (zEu m hR hl e1 nd (U:=zK (zF zA)) (λ_ h=>h) (λ_ h=>zAn h) (zXe (zBE hR) (by omega))) ?_;rintro d M2 ⟨j2,T,rfl,g2,e2,bi,hU,n2,f2,u2⟩;refine ⟨j2,T,rfl,by omega,e2,bi,hU,by omega,λj hj=>(f2 j (by omega)).trans (f1 j hj),λj u e=>?_⟩;rcases zYZ j M1.length with z|z
 .rw[f2 j z]at e;rcases zYZ j M.length with y|y
  .rw[f1 j y]at e;exact zBQ (by omega) (wf j u e)
  .exact zBQ n2 (u1 j u y e)
 .exact u2 j u z e
def zMZ (m:IsM zA l) (hR:zA.length<=26) (wf:∀ (j:Nat) u,M[j]?=some u->MO.und M.length u=true) (hT:M[jr]?=some (dT (zAU T))) (bi:BI (zEJ zA) (zx zA l) T T.length) (hU:∀ p∈T.map (·.1),p∈zK (zF zA)):zBR [mD zA,.ref jr] M=some (tI (stN zA l),M):=by
 have es:=zIR m hR wf hT bi.nd λu hu=>zFm u (hU _ hu);have ec:zBc (· ∈ T.map (·.1)) zA.length=zBc (λp=>∃ k,Rch zA l (· ∈ zx zA l) p k) zA.length:=zIF λo r ho hr=>by
  have hp:[(o:Int),(r:Int)]∈zK (zF zA):=zA0.mpr (by omega);rw[zMy bi];constructor
  .rintro ⟨n,hn⟩;exact ⟨n,(zES m (λ_ h=>zAn h) n _ _ hp).mp hn⟩
  .rintro ⟨n,hn⟩;exact ⟨n,(zES m (λ_ h=>zAn h) n _ _ hp).mpr hn⟩
 rw[ec]at es;exact es
def zQ1 (bi:BI (zEJ zA) (zx zA l) T T.length) (m:IsM zA l):(zK (zF zA)).filter (λp=>decide (p∈T.map (·.1)))=zAW zA l:=by
 unfold zAW;refine List.filter_congr λp hp=>?_;obtain ⟨a,b,rfl,_⟩:=zh.mp hp;rw[decide_eq_decide,zMy bi];constructor
 .rintro ⟨n,hn⟩;exact ⟨n,(zES m (λ_ h=>zAn h) n _ _ hp).mp hn⟩
 .rintro ⟨n,hn⟩;exact ⟨n,(zES m (λ_ h=>zAn h) n _ _ hp).mpr hn⟩
def zOc (m:IsM zA l) (hR:zA.length<=26) (wf:∀ (j:Nat) u,M[j]?=some u->MO.und M.length u=true) (hT:M[jr]?=some (dT (zAU T))) (bi:BI (zEJ zA) (zx zA l) T T.length) :
  Ok (zi [7] (zu (zP zAP (zD (toD (fB zAX (zQ (zC 3) ze))) zH))) (gN 7) (tst (fOp (zAe false) (zC 7) (zC 4))) (zC 7) [y0,y1,y2,some (mD zA),some (.ref jr),y5,y6,y7,y8] M)
   λe M'=>e=.fl ((zAW zA l).map tI)/\M.length<=M'.length/\(∀ j,j<M.length->M'[j]?=M[j]?) /\ ∀ (j:Nat) u,M'[j]?=some u->MO.und M'.length u=true:=by
 have hjl:=(zXG.mp hT).1;have eL:=zBh (f:=zC 3) (σ:=[y0,y1,y2,some (mD zA),some (.ref jr),y5,y6,y7,y8]) (M:=M) (x:=.dat (mD zA)) rfl zj;rw[zXM]at eL;obtain ⟨d,M2,e2,rfl,us,eM2,hus⟩:=zDr (zA:=zA) (M:=M) (N:=(zA.length:Int)) rfl (by omega);have eP:M2[M.length]?=some (.lst ((zK (zF zA)).map tI)):=by rw[eM2];simp
 have ei:zu (zP zAP (zD (toD (fB zAX (zQ (zC 3) ze))) zH)) [y0,y1,y2,some (mD zA),some (.ref jr),y5,y6,y7,y8] M=_:=zC1 (ds:=[.int (zA.length:Int)]) (zc eL) e2 eP;have h4:M.length<M2.length:=(zXG.mp eP).1;have fr2:∀ j,j<M.length->M2[j]?=M[j]?:=λj hj=>by rw[eM2,zXK hj]
 have hPl:(zK (zF zA)).length<=676:=zBE hR;have ef:=zAr (own:=[7]) (g:=gN 7) (tc:=tst (fOp (zAe false) (zC 7) (zC 4))) (te:=zC 7) (zK (zF zA)) tI tI (λp=>decide (p∈T.map (·.1))) ei (.inl eP) (by omega) (λp hp=>by
  refine ⟨[y0,y1,y2,some (mD zA),some (.ref jr),y5,y6,some (tI p),y8],rfl,?_,λ_=>rfl⟩;have e1:fOp (zAe false) (zC 7) (zC 4) [y0,y1,y2,some (mD zA),some (.ref jr),y5,y6,some (tI p),y8] M2=_:=zJ (x:=.dat (tI p)) (y:=.dat (.ref jr)) rfl rfl (zHo (T:=zAU T) ((fr2 jr hjl).trans hT));rw[zXV (by decide),zFj bi.nd]at e1;exact zo e1)
 rw[zQ1 bi m]at ef;refine zE ef ⟨rfl,by omega,fr2,λj u e=>?_⟩;rcases zYZ j M.length with y|y
 .rw[fr2 j y]at e;exact zBQ (by omega) (wf j u e)
 .rw[eM2,zYN y]at e;rcases zXP.mp (zX4 e)with x|x
  .subst x;exact zB9 _ _
  .exact zBQ (zXz _) (hus u x)
def zTR:(stN zA l).length=zA.length:=by rw[zHq];unfold zBc;simp
set_option maxHeartbeats 4000000 in
def zPt (ns:Ye) (h:ns.length<=63):∃ M',zGV [.ref 0] [.fro (ns.map D.int)]=some (.bl true,M'):=by
 suffices hh:Ok (zGV [.ref 0] [.fro (ns.map D.int)]) λd _=>d=.bl true by
  obtain ⟨d,M',e,rfl⟩:=hh;exact ⟨M',e⟩
 unfold zGV;rw[zAE];unfold zPc;rw[zI,zT];refine zAj.mpr (zE (zc rfl) ?_);refine Ok.mono (zRk h) ?_;rintro d M1 ⟨rfl,g1,e0⟩;rw[zL,zM];rw[zI,zAs];have el:fB zAX (zQ (zC 0) ze) [some (.ref 0),some (.ref 1),none,none,none,none,none,none,none] M1=some (.dat (.int (ns.map D.int).length),M1):=zBh (x:=.dat (.ref 0)) rfl (zSD e0);rw[zXM]at el;have emin:fB zHp (zQ (fC (.int 4)) (zQ (fOp zAI (fC (.int 1)) (fB zAX (zQ (zC 0) ze))) ze)) [some (.ref 0),some (.ref 1),none,none,none,none,none,none,none] M1=some (.dat (.int (if 1+(ns.length:Int)<4 then 1+(ns.length:Int) else 4)),M1):=zNR rfl (zJ rfl el rfl);refine ⟨_,_,_,zBt emin (by split <;> omega) (by split <;> omega),?_⟩;refine zHu (n:=(if 1+(ns.length:Int)<4 then 1+(ns.length:Int) else 4).toNat) (I:=λi σ M'=>(∃ y2 y3 y4 y5 y6 y7 y8,σ=[some (.ref 0),some (.ref 1),y2,y3,y4,y5,y6,y7,y8])/\Gen M' 1 2) ?_ ?_ _ _ ⟨⟨_,_,_,_,_,_,_,rfl⟩,g1⟩
 .rintro i σ M' hi ⟨⟨y2,y3,y4,y5,y6,y7,y8,rfl⟩,g⟩;refine ⟨_,rfl,?_⟩;rw[zI,zT];refine zBb.mpr (zAj.mpr (zE (zt rfl (zt rfl (zc rfl))) ?_));refine Ok.mono (zOy g (by decide) (by decide) (by decide) (by decide)) ?_;rintro d M3 ⟨zA,l,p,rfl,m,hR,hL,hp,nw3⟩;have hR':zA.length<=26:=by omega
  have hL':l<=12:=by omega
  refine zFt.mpr (zR7 (d:=mD zA) zj at0 ?_);rw[zL,zM];simp only[List.set_cons_succ,List.set_cons_zero];rw[zI,zT];refine Ok.mono (zQj m hR' hL' nw3.gen.wf λ_=>rfl) ?_;rintro e M4 ⟨jr,T,rfl,hj4,e4,bi,hU,n4,f4,u4⟩;have sp:=zSY m bi hU;have g4:=(nw3.gen.more n4 f4 u4).gen;rw[zL,zM];simp only[List.set_cons_succ,List.set_cons_zero];have esh:=zRH m hR' hL' (M:=M4);have edue:=zMZ m hR' u4 e4 bi hU;have hNl:(stN zA l).length<=1000:=by rw[zTR];omega
  generalize stN zA l=N at esh edue hNl;refine zC8 (zAM (zc (d:=mD zA) rfl) esh) ?_;simp only[List.set_cons_succ,List.set_cons_zero];generalize hW:(zAW zA l).map (λp=>tI (upW zA l p))=W;refine zDm (zHk (ntT (a:=zD7 "tuple" (zC 5)) (k:=true) (isV (x:=.dat (.tup [tI N,.tup W])) rfl rfl (by decide))) (zHk (zo (zJ (x:=.dat (.int 2)) (y:=.dat (.int 2)) (zBh (f:=zC 5) (x:=.dat (.tup [tI N,.tup W])) rfl zj) rfl rfl)) (ntT (k:=true) (zAM (zt (d:=tI N) (zJ (x:=.dat (.tup [tI N,.tup W])) (y:=.dat (.int 0)) rfl rfl (zAx zj rfl)) (zc (d:=tI N) (zAM (zt (d:=mD zA) rfl (zc (d:=.ref jr) rfl)) edue))) (zS8 3 N hNl _))))) ?_;rw[zI,zT];refine Ok.mono (zOc m hR' u4 e4 bi) ?_;rintro e M5 ⟨rfl,n5,f5,u5⟩;refine zb ?_;rw[zM];simp only[List.set_cons_succ,List.set_cons_zero];have nw5:=g4.more n5 f5 u5;have e5:=nw5.get e4 (by have:=nw3.gen.lt;omega) (by have:=nw3.gen.lt;omega);have nw6:=nw5.gen.lst ((zAW zA l).map tI) (zB9 _ _);have p6:=zS M5 (MO.lst ((zAW zA l).map tI));have e6:=nw6.get e5 (by have:=nw3.gen.lt;omega) (by have:=nw3.gen.lt;omega);have g6:=nw6.gen;generalize M5++[MO.lst ((zAW zA l).map tI)]=M6 at p6 e6 g6 ⊢;generalize M5.length=jp at p6 ⊢;have i1:fOp kIx (zC 5) (fC (.int 1)) [some (.ref 0),some (.ref 1),some (.int (i:Nat)),some (mD zA),some (.ref jr),some (.tup [tI N,.tup W]),some (.ref jp),y7,y8] M6=some (.dat (.tup W),M6):=zJ (x:=.dat (.tup [tI N,.tup W])) (y:=.dat (.int 1)) rfl rfl (zAx zj rfl);refine zDm (zHk (ntT (k:=true) (isV i1 rfl (by decide))) (zo (zJ (zBh i1 zj) (zBh (f:=zC 6) (x:=.dat (.ref jp)) rfl (za p6)) (zW (zU4.mpr ⟨by rw[<-hW,zXM,zXM];simp,rfl⟩))))) ?_;have hz:zLd (zD (toD (zC 6)) (zD (toD (fOp kIx (zC 5) (fC (.int 1)))) zH)) [some (.ref 0),some (.ref 1),some (.int (i:Nat)),some (mD zA),some (.ref jr),some (.tup [tI N,.tup W]),some (.ref jp),y7,y8] M6=some ((zAW zA l).map (λp=>D.tup [tI p,tI (upW zA l p)]),some λM=>zAL M (.dat (.ref jp))=some ((zAW zA l).map tI)/\zAL M (.dat (.tup W))=some W,M6):=by
   unfold zLd;rw[zt (d:=.ref jp) rfl (zc (d:=.tup W) i1)];dsimp only;rw[za p6,zj];dsimp only;rw[show (((zAW zA l).map tI).zip W).map (λq=>D.tup [q.1,q.2])=(zAW zA l).map (λp=>D.tup [tI p,tI (upW zA l p)]) by
    rw[<-hW,List.zip_map',zXb];rfl]
  have hfew:(zAW zA l).length<=676:=zXe (zZX _ _) (zBE hR');have ec:=zAg (own:=[7,8]) (g:=zBU 7 8) (te:=zP zAm (zD (toD (zC 3)) (zD (toD (zC 7)) (zD (toD (zC 8)) (zD (toD (zC 4)) zH))))) (zAW zA l) (λp=>D.tup [tI p,tI (upW zA l p)]) (λ_=>D.bl true) hz ⟨za p6,zj⟩ (by omega) λp hp=>by
   obtain ⟨hp1,hp2⟩:=zLS.mp hp;exact ⟨[some (.ref 0),some (.ref 1),some (.int (i:Nat)),some (mD zA),some (.ref jr),some (.tup [tI N,.tup W]),some (.ref jp),some (tI p),some (tI (upW zA l p))],rfl,zAM (zt (d:=mD zA) rfl (zt (d:=tI p) rfl (zt (d:=tI (upW zA l p)) rfl (zc (d:=.ref jr) rfl)))) (zUE m hL' sp g6.wf e6 hp1 (zQV hp2))⟩
  rw[show (zAW zA l).map (λ_=>D.bl true)=(List.replicate (zAW zA l).length true).map D.bl by simp[List.map_const']]at ec;have ea:=zUq ec;rw[show (List.replicate (zAW zA l).length true).all id=true by simp]at ea;refine zQE ea ?_;exact ⟨⟨_,_,_,_,_,_,_,rfl⟩,g6⟩
 .rintro σ M' ⟨⟨y2,y3,y4,y5,y6,y7,y8,rfl⟩,g⟩;rw[zM];exact zAZ rfl rfl
end Lad
set_option maxHeartbeats 4000000
namespace Lad
open PySem PySem.Spec PyProof.Rows L2 L3 Law Lac
-- the text by places
def top (i:Nat):Stmt:=PySem.Challenge.pw_bringhome_k46_stable_shown.main.body.getD i (.Pass ⟨0,0,0,0⟩)
abbrev zEM:Stmt:=top 1
abbrev zGD:Stmt:=top 3
abbrev zE7:Stmt:=top 5
abbrev zEG:Stmt:=top 6
abbrev zDf:Stmt:=top 7
abbrev zGL:Stmt:=top 8
abbrev zCk:Stmt:=top 9
abbrev zFI:Stmt:=top 10
abbrev zGK:Stmt:=top 11
abbrev zJ3:Stmt:=top 12
abbrev zEE:Stmt:=top 14
abbrev zCb:Stmt:=top 16
abbrev zDv:Stmt:=top 17
abbrev zCf:Stmt:=top 18
abbrev zEa:Stmt:=top 20
abbrev zE5:Stmt:=top 21
abbrev zDk:Stmt:=top 22
abbrev zDB:Stmt:=top 23
abbrev zDY:Stmt:=top 24
abbrev zCo:Stmt:=top 25
abbrev zDw:Stmt:=top 26
abbrev zFH:Stmt:=top 27
abbrev zEW:Stmt:=top 28
abbrev zDi:Stmt:=top 29
abbrev zFK:Stmt:=top 30
abbrev zDs:Stmt:=top 31
abbrev zFq:Stmt:=top 32
abbrev zCO:Stmt:=top 33
abbrev zQI:Stmt:=top 34
structure Txt (K:Yb) (mg:Yh) where
  d_all_rooms:Df K mg "all_rooms" zEM ["machine"]
  d_stepped:Df K mg "stepped" zGD ["machine", "rooms", "letter"]
  d_pairs_of:Df K mg "pairs_of" zE7 ["rooms"]
  d_ways_back:Df K mg "ways_back" zEG ["machine"]
  d_lengths_to:Df K mg "lengths_to" zDf ["machine", "goals"]
  d_lengths:Df K mg "lengths" zGL ["machine"]
  d_first_letter:Df K mg "first_letter" zCk ["machine", "pair", "found"]
  d_rungs_to:Df K mg "rungs_to" zFI ["machine", "found"]
  d_climbed:Df K mg "climbed" zGK ["machine", "steps", "pair"]
  d_apart:Df K mg "apart" zJ3 ["machine"]
  d_parted_by:Df K mg "parted_by" zEE ["marks"]
  d_pairs_across:Df K mg "pairs_across" zCb ["machine", "parting"]
  d_parted_but:Df K mg "parted_but" zDv ["machine", "found"]
  d_stable_shown:Df K mg "stable_shown" zCf ["machine"]
  d_law_begin:Df K mg "_law_begin" zEa ["_law_script"]
  d_law_next:Df K mg "_law_next" zE5 ["_law_state", "_law_many"]
  d_law_column:Df K mg "_law_column" zDk ["_law_state", "_law_many", "_law_way"]
  d_law_machine:Df K mg "_law_machine" zDB ["_law_state", "_law_most", "_law_letters"]
  d_law_copies:Df K mg "_law_copies" zDY ["_law_state", "_law_most", "_law_letters"]
  d_law_numbered:Df K mg "_law_numbered" zCo ["_law_classes"]
  d_law_either:Df K mg "_law_either" zDw ["_law_state", "_law_most", "_law_letters"]
  d_law_pair:Df K mg "_law_pair" zFH ["_law_one", "_law_other"]
  d_law_pairs:Df K mg "_law_pairs" zEW ["_law_many"]
  d_law_behind:Df K mg "_law_behind" zDi ["_law_machine_here", "_law_goals"]
  d_law_lost:Df K mg "_law_lost" zFK ["_law_machine_here"]
  d_law_stable:Df K mg "_law_stable" zDs ["_law_machine_here", "_law_risky"]
  d_law_is:Df K mg "_law_is" zFq ["_law_found", "_law_due"]
  d_law_way_right:Df K mg "_law_way_right" zCO ["_law_machine_here", "_law_pair_here", "_law_way", "_law_risky"]
  d_law:Df K mg "law" zQI ["_law_script"]
  z_tuple:mg "tuple" = none
  z_range:mg "range" = none
  z_len:mg "len" = none
  z_sorted:mg "sorted" = none
  z_min:mg "min" = none
  z_enumerate:mg "enumerate" = none
  z_list:mg "list" = none
  z_max:mg "max" = none
  z_dict:mg "dict" = none
  z_zip:mg "zip" = none
  z_isinstance:mg "isinstance" = none
  z_bool:mg "bool" = none
  z_all:mg "all" = none
  z_int:mg "int" = none
  kinds:Kinds K
section
variable {P:Ym} {w:Yo} {K:Yb} {mg:Yh} {base:Heap}
def zBi {X:Cx} {scope sc:Y0} {own:Yj} {N ps:Yk} (_:FnScope N ps sc) (hk:scope.kind=.function) (hs:X.env.scope=sc) (hN:X.N=N) (h1:zFv sc scope=true) (h2:zG7 N scope own=true):CompIn X scope own:=zGG hk hs hN h1 h2
def zPK {X:Cx} {scope sc sd:Y0} {own:Yj} {N ps:Yk} (_:FnScope N ps sd) (hk:scope.kind=.function) (hs:X.env.scope=sc) (hN:X.N=N) (h1:zFv sc scope=true) (h2:zG7 N scope own=true):CompIn X scope own:=zGG hk hs hN h1 h2
set_option hygiene false in
local macro_rules | `(tactic| decreasing_trivial)=> `(tactic| repeat' first
  |refine zCB (pv _)
  |refine zA9 ?_
  |refine zFf ?_ ?_ (zO rfl)
  |refine zNE
  |refine zGO ?_
  |refine zHA ?_ ?_
  |refine zWj
  |refine zIE ?_
  |refine zLs
  |refine zQM sc.nd rfl
  |refine zWY (by first|exact zLi T|exact zJ9 T|exact zLX T|exact zMX T|exact zJ5 T|exact zKv T|exact zGm T|exact zIo T|exact zIS T|exact zHK T|exact zOn T|exact zJv T|exact zJi T|exact zGh T|exact zIW T|exact zMx T|exact zIg T|exact zPe T|exact zIp T|exact zK1 T|exact zGs T|exact zMg T|exact zKm T|exact zIY T|exact zMB T|exact zGu T|exact zIT T|exact zF5 T) (hr.mono (by omega)) rfl ?_ ?_ (by decide) (zO rfl) (zA7 rfl)
  |refine zHD ?_ ?_ (zO rfl)
  |refine zJ0
  |refine zLl ?_
  |refine zWy ?_ ?_
  |refine zVN ?_
  |refine zQn rfl T.z_len ?_ (zO rfl) rfl
  |refine zQY
  |refine zR2 ?_ ?_ ?_
  |refine zJY
  |refine zUk (zGb hr) ?_ ?_
  |refine zIN ?_ ?_
  |refine zVQ ?_ ?_
  |refine zVv ?_
  |refine zTc zPv PassesOwn.never rfl ?_ ?_ ?_
  |refine zVU ?_
  |refine zJw (zBj (by decide)) (zBi sc rfl rfl rfl (by decide +kernel) (by decide +kernel)) rfl ?_ ⟨λ_ _ _ _ _=>?_,λ_ _ _ _ _=>?_,λ_ _ _ _ _=>?_⟩
  |refine zVw hr.units0 ?_ ?_
  |refine zPF rfl T.z_range ?_ ?_ (zDP rfl)
  |refine zVM ?_
  |refine zTx ?_
  |refine zWN
  |refine zSL rfl T.z_tuple ?_ (zO rfl) rfl
  |refine zPi ?_ ?_
  |refine zVx ?_ ?_
  |refine zNQ
  |refine zQR rfl ?_
  |refine zO1 (zGb hr) ?_ ?_
  |refine zR6
  |refine zTE ?_
  |refine zS6 ?_ ?_ ?_
  |refine zIt sc.nd rfl (by first|exact Or.inl rfl|exact Or.inr rfl) (by first|exact .inl rfl|exact .inr rfl) rfl (zBj (by decide)) (zBi sc rfl rfl rfl (by decide +kernel) (by decide +kernel)) rfl ?_ ⟨λ_ _ _ _ _=>?_,λ_ _ _ _ _=>?_,λ_ _ _ _ _=>?_⟩
  |refine zWO ?_ ?_
  |refine zPo ?_
  |refine zWQ
  |refine zVt ?_ ?_
  |refine zUW (zGb hr) ?_ ?_ ?_
  |refine zTg hr.units0 ?_ ?_
  |refine zTq (zGb hr) ?_ ?_
  |refine zJw (zF2 (K:=K) (by decide) (by decide)) (zBi sc rfl rfl rfl (by decide +kernel) (by decide +kernel)) rfl ?_ ⟨λ_ _ _ _ _=>?_,λ_ _ _ _ _=>?_,λ_ _ _ _ _=>?_⟩
  |refine zQd ?_
  |refine zWE ?_ ?_
  |refine zWe ?_ ?_
  |refine zR4 rfl T.z_enumerate ?_ (zO rfl) rfl
  |refine zTC ?_
  |refine zSG _ PassesOwn.never ?_ ?_
  |refine zUC rfl rfl T.z_list rfl T.z_range ?_ (zO rfl) rfl (zO rfl) rfl
  |refine zVE ?_ ?_
  |refine zSn (zGb hr) ?_ ?_ ?_ ⟨rfl,rfl,rfl,rfl⟩
  |refine zIB T.kinds (by decide) rfl T.z_isinstance rfl T.z_tuple (by rfl) (by decide) (by decide) ?_ (zO rfl) (zO rfl) (zA7 rfl)
  |refine zQT ?_ ?_ ?_
  |refine zWU ?_ ?_
  |refine zUJ rfl rfl T.z_min ?_ (zO rfl) (zA7 rfl)
  |refine zS0
  |refine zVO rfl rfl T.z_min ?_ (zO rfl) rfl
  |refine zJw (zBj (by decide)) (zPK sc rfl rfl rfl (by rfl) (by decide +kernel)) rfl ?_ ⟨λ_ _ _ _ _=>?_,λ_ _ _ _ _=>?_,λ_ _ _ _ _=>?_⟩
  |refine zVf (zLF (K:=K)) ?_ ?_
  |refine zWa ?_ ?_
  |refine zQs rfl T.z_zip ?_ (zFS rfl rfl) (zDP rfl)
  |refine zUD rfl T.z_list ?_ (zO rfl) rfl
  |refine zIt sc.nd rfl (by first|exact Or.inl rfl|exact Or.inr rfl) (by first|exact .inl rfl|exact .inr rfl) rfl (zF2 (K:=K) (by decide) (by decide)) (zBi sc rfl rfl rfl (by decide +kernel) (by decide +kernel)) rfl ?_ ⟨λ_ _ _ _ _=>?_,λ_ _ _ _ _=>?_,λ_ _ _ _ _=>?_⟩
  |refine zUh rfl rfl T.z_tuple rfl T.z_range ?_ (zO rfl) rfl (zO rfl) rfl
  |refine zUz (zBj (by decide)) (zBi sc rfl rfl rfl (by decide +kernel) (by decide +kernel)) rfl ?_ ⟨λ_ _ _ _ _=>?_,λ_ _ _ _ _=>?_,λ_ _ _ _ _=>?_⟩
  |refine zSS rfl rfl T.z_sorted ?_ (zO rfl) rfl
  |refine zSE (by decide) (zBj (by decide)) (zBj (by decide)) (zBi sc rfl rfl rfl (by decide +kernel) (by decide +kernel)) rfl ?_ ⟨λ_ _ _ _ _=>?_,λ_ _ _ _ _=>?_,λ_ _ _ _ _=>?_,λ_ _ _ _ _=>?_,λ_ _ _ _ _=>?_,λ_ _ _ _ _=>?_,λ_ _ _ _ _ _=>rfl⟩
  |refine zS1
  |refine zUY rfl T.z_len ?_ (zO rfl) rfl
  |refine zVu ?_ ?_
  |refine zVg ?_ ?_
  |refine zTA ?_ ?_ ?_ ?_
  |refine zRb ?_ ?_
  |refine zRK ?_ ?_
  |refine zUO rfl rfl T.z_max ?_ (zO rfl) (zA7 rfl)
  |refine zPP rfl T.z_range ?_ ?_ (zFS rfl rfl) (zDP rfl)
  |refine zQG ?_ ?_
  |refine zWb ?_
  |refine zVy ?_ ?_
  |refine zS5 ?_ ?_ ?_
  |refine zWT ?_ ?_
  |refine zP3 (zGb hr) ?_ ?_ ?_ ⟨rfl,rfl,rfl,rfl⟩
  |refine zTc (zLF (K:=K)) PassesOwn.never rfl ?_ ?_ ?_
  |refine zP9 true (zWJ 4 (by decide) hr) rfl rfl T.z_dict ?_ (zO rfl) rfl
  |refine zM4 sc.nd rfl (by first|exact Or.inl rfl|exact Or.inr rfl) (by first|exact .inl rfl|exact .inr rfl) rfl (zGb hr) (zBj (by decide)) (zBi sc rfl rfl rfl (by decide +kernel) (by decide +kernel)) rfl ?_ ⟨λ_ _ _ _ _=>?_,λ_ _ _ _ _=>?_,λ_ _ _ _ _=>?_⟩ λ_ _ _ _ _=>?_
  |refine zSy ?_
  |refine zVZ ?_ ?_
  |refine zSV (zGb hr) (zBj (by decide)) (zBi sc rfl rfl rfl (by decide +kernel) (by decide +kernel)) rfl ?_ ⟨λ_ _ _ _ _=>?_,λ_ _ _ _ _=>?_,λ_ _ _ _ _=>?_⟩ λ_ _ _ _ _=>?_
  |refine zTn hr.units0 ?_ ?_
  |refine zQh ?_ ?_
  |refine zSM rfl T.z_zip ?_ (zFS rfl rfl) (zDP rfl)
  |refine zTj rfl rfl T.z_all ?_ (zO rfl) rfl
  |refine zWu sc.nd rfl ?_
  |refine zVF (zQh ?_ ?_)
  |refine zVF (zU3 ?_ ?_)
  |refine zJ6 ?_)
abbrev zLN:List Str:=["machine"]
def zKD:FnScope zLN ["machine"] (zU zEM):=⟨rfl,rfl,rfl,by decide +kernel,rfl,by decide +kernel,by decide +kernel⟩
def zJ9 (T:Txt K mg):Od P w base 1 T.d_all_rooms zAH:=by
  unfold zAH;have sc:=zKD;exact zAG (n:=1) T.d_all_rooms.F sc rfl (λcdv A outer s H E hr=>by
    unfold zEY;decreasing_trivial)
abbrev zOW:List Str:=["machine", "rooms", "letter", "room"]
def zMK:FnScope zOW ["machine", "rooms", "letter"] (zU zGD):=⟨rfl,rfl,rfl,by decide +kernel,rfl,by decide +kernel,by decide +kernel⟩
def zMX (T:Txt K mg):Od P w base 1 T.d_stepped zBT:=by
  unfold zBT;have sc:=zMK;exact zKP (zAG (n:=3) T.d_stepped.F sc rfl (λcdv A outer s H E hr=>by
    unfold zF4;decreasing_trivial))
abbrev zMk:List Str:=["rooms", "one", "other"]
def zL1:FnScope zMk ["rooms"] (zU zE7):=⟨rfl,rfl,rfl,by decide +kernel,rfl,by decide +kernel,by decide +kernel⟩
def zLX (T:Txt K mg):Od P w base 1 T.d_pairs_of zAT:=by
  unfold zAT;have sc:=zL1;exact zAG (n:=1) T.d_pairs_of.F sc rfl (λcdv A outer s H E hr=>by
    unfold zE9;decreasing_trivial)
abbrev zKw:List Str:=["marks", "numbers", "mark"]
def zKY:FnScope zKw ["marks"] (zU zEE):=⟨rfl,rfl,rfl,by decide +kernel,rfl,by decide +kernel,by decide +kernel⟩
def zJv (T:Txt K mg):Od P w base 1 T.d_parted_by zCE:=by
  unfold zCE;have sc:=zKY;exact zAG (n:=1) T.d_parted_by.F sc rfl (λcdv A outer s H E hr=>by
    unfold zEV;decreasing_trivial)
abbrev zLM:List Str:=["_law_script", "_law_seed", "_law_cell"]
def zJ7:FnScope zLM ["_law_script"] (zU zEa):=⟨rfl,rfl,rfl,by decide +kernel,rfl,by decide +kernel,by decide +kernel⟩
def zKm (T:Txt K mg):Od P w base 1 T.d_law_begin zCH:=by
  unfold zCH;have sc:=zJ7;exact zAG (n:=1) T.d_law_begin.F sc rfl (λcdv A outer s H E hr=>by
    unfold zEA;decreasing_trivial)
abbrev zNC:List Str:=["_law_state", "_law_many", "_law_digit", "_law_mixed"]
def zLv:FnScope zNC ["_law_state", "_law_many"] (zU zE5):=⟨rfl,rfl,rfl,by decide +kernel,rfl,by decide +kernel,by decide +kernel⟩
def zLi (T:Txt K mg):Od P w base 1 T.d_law_next zf:=by
  unfold zf;have sc:=zLv;exact zAG (n:=2) T.d_law_next.F sc rfl (λcdv A outer s H E hr=>by
    unfold zFO;decreasing_trivial)
abbrev zHL:List Str:=["_law_classes", "_law_known", "_law_own"]
def zGi:FnScope zHL ["_law_classes"] (zU zCo):=⟨rfl,rfl,rfl,by decide +kernel,rfl,by decide +kernel,by decide +kernel⟩
def zGm (T:Txt K mg):Od P w base 1 T.d_law_numbered zAc:=by
  unfold zAc;have sc:=zGi;exact zFR (zAG (n:=1) T.d_law_numbered.F sc rfl (λcdv A outer s H E hr=>by
    unfold zCp;decreasing_trivial))
abbrev zMR:List Str:=["_law_one", "_law_other"]
def zKz:FnScope zMR ["_law_one", "_law_other"] (zU zFH):=⟨rfl,rfl,rfl,by decide +kernel,rfl,by decide +kernel,by decide +kernel⟩
def zKv (T:Txt K mg):Od P w base 1 T.d_law_pair zAt:=by
  unfold zAt;have sc:=zKz;exact zAG (n:=2) T.d_law_pair.F sc rfl (λcdv A outer s H E hr=>by
    unfold zE6;decreasing_trivial)
abbrev zL7:List Str:=["_law_many", "_law_found", "_law_one", "_law_other"]
def zKR:FnScope zL7 ["_law_many"] (zU zEW):=⟨rfl,rfl,rfl,by decide +kernel,rfl,by decide +kernel,by decide +kernel⟩
def zJ5 (T:Txt K mg):Od P w base 1 T.d_law_pairs zAP:=by
  unfold zAP;have sc:=zKR;exact zAG (n:=1) T.d_law_pairs.F sc rfl (λcdv A outer s H E hr=>by
    unfold zEF;decreasing_trivial)
abbrev zLV:List Str:=["machine", "sources", "pair", "letter", "goal"]
def zKd:FnScope zLV ["machine"] (zU zEG):=⟨rfl,rfl,rfl,by decide +kernel,rfl,by decide +kernel,by decide +kernel⟩
def zJi (T:Txt K mg):Od P w base 2 T.d_ways_back zCD:=by
  unfold zCD;have sc:=zKd;exact zAG (n:=1) T.d_ways_back.F sc rfl (λcdv A outer s H E hr=>by
    unfold zET;decreasing_trivial)
abbrev zHz:List Str:=["machine", "pair", "found", "goals", "letter", "goal"]
def zGt:FnScope zHz ["machine", "pair", "found"] (zU zCk):=⟨rfl,rfl,rfl,by decide +kernel,rfl,by decide +kernel,by decide +kernel⟩
def zGh (T:Txt K mg):Od P w base 2 T.d_first_letter zAQ:=by
  unfold zAQ;have sc:=zGt;exact zAG (n:=3) T.d_first_letter.F sc rfl (λcdv A outer s H E hr=>by
    unfold zCe;decreasing_trivial)
abbrev zOZ:List Str:=["machine", "steps", "pair", "word", "here", "letter"]
def zM2:FnScope zOZ ["machine", "steps", "pair"] (zU zGK):=⟨rfl,rfl,rfl,by decide +kernel,rfl,by decide +kernel,by decide +kernel⟩
def zMg (T:Txt K mg):Od P w base 2 T.d_climbed zDI:=by
  unfold zDI;have sc:=zM2;exact zAG (n:=3) T.d_climbed.F sc rfl (λcdv A outer s H E hr=>by
    unfold zF9;decreasing_trivial)
abbrev zHn:List Str:=["machine", "parting", "one", "other"]
def zGw:FnScope zHn ["machine", "parting"] (zU zCb):=⟨rfl,rfl,rfl,by decide +kernel,rfl,by decide +kernel,by decide +kernel⟩
def zGs (T:Txt K mg):Od P w base 2 T.d_pairs_across zBL:=by
  unfold zBL;have sc:=zGw;exact zAG (n:=2) T.d_pairs_across.F sc rfl (λcdv A outer s H E hr=>by
    unfold zCd;decreasing_trivial)
abbrev zJz:List Str:=["machine", "found", "rooms", "one", "room"]
def zIi:FnScope zJz ["machine", "found"] (zU zDv):=⟨rfl,rfl,rfl,by decide +kernel,rfl,by decide +kernel,by decide +kernel⟩
def zIp (T:Txt K mg):Od P w base 2 T.d_parted_but zBu:=by
  unfold zBu;have sc:=zIi;exact zAG (n:=2) T.d_parted_but.F sc rfl (λcdv A outer s H E hr=>by
    unfold zDg;decreasing_trivial)
abbrev zKT:List Str:=["_law_state", "_law_many", "_law_way", "_law_column_here", "_law_room", "_law_one", "_law_other", "_law_goal", "_law_made", "_law_left"]
def zIe:FnScope zKT ["_law_state", "_law_many", "_law_way"] (zU zDk):=⟨rfl,rfl,rfl,by decide +kernel,rfl,by decide +kernel,by decide +kernel⟩
def zIW (T:Txt K mg):Od P w base 2 T.d_law_column zAo:=by
  unfold zAo;have sc:=zIe;exact zAG (n:=3) T.d_law_column.F sc rfl (λcdv A outer s H E hr=>by
    unfold zDh;decreasing_trivial)
abbrev zKj:List Str:=["_law_machine_here", "_law_goals", "_law_ahead", "_law_pair_here", "_law_one", "_law_other", "_law_found", "_law_goal", "_law_row", "_law_at"]
def zIP:FnScope zKj ["_law_machine_here", "_law_goals"] (zU zDi):=⟨rfl,rfl,rfl,by decide +kernel,rfl,by decide +kernel,by decide +kernel⟩
def zIo (T:Txt K mg):Od P w base 2 T.d_law_behind zA4:=by
  unfold zA4;have sc:=zIP;exact zAG (n:=2) T.d_law_behind.F sc rfl (λcdv A outer s H E hr=>by
    unfold zDo;decreasing_trivial)
abbrev zJp:List Str:=["_law_machine_here", "_law_risky", "_law_classes", "_law_room", "_law_other"]
def zIk:FnScope zJp ["_law_machine_here", "_law_risky"] (zU zDs):=⟨rfl,rfl,rfl,by decide +kernel,rfl,by decide +kernel,by decide +kernel⟩
def zIT (T:Txt K mg):Od P w base 2 T.d_law_stable zBR:=by
  unfold zBR;have sc:=zIk;exact zFR (zAG (n:=2) T.d_law_stable.F sc rfl (λcdv A outer s H E hr=>by
    unfold zDb;decreasing_trivial))
abbrev zJr:List Str:=["machine", "goals", "sources", "level", "found", "goal", "behind", "pair"]
def zIc:FnScope zJr ["machine", "goals"] (zU zDf):=⟨rfl,rfl,rfl,by decide +kernel,rfl,by decide +kernel,by decide +kernel⟩
def zIS (T:Txt K mg):Od P w base 3 T.d_lengths_to zBS:=by
  unfold zBS;have sc:=zIc;exact zAG (n:=2) T.d_lengths_to.F sc rfl (λcdv A outer s H E hr=>by
    unfold zDc;decreasing_trivial)
abbrev zMU:List Str:=["machine", "found", "pairs", "pair"]
def zLk:FnScope zMU ["machine", "found"] (zU zFI):=⟨rfl,rfl,rfl,by decide +kernel,rfl,by decide +kernel,by decide +kernel⟩
def zK1 (T:Txt K mg):Od P w base 3 T.d_rungs_to zCa:=by
  unfold zCa;have sc:=zLk;exact zAG (n:=2) T.d_rungs_to.F sc rfl (λcdv A outer s H E hr=>by
    unfold zFA;decreasing_trivial)
abbrev zIV:List Str:=["_law_state", "_law_most", "_law_letters", "_law_many", "_law_count", "_law_sort", "_law_columns", "_law_letter", "_law_way", "_law_column_here", "_law_room"]
def zH1:FnScope zIV ["_law_state", "_law_most", "_law_letters"] (zU zDB):=⟨rfl,rfl,rfl,by decide +kernel,rfl,by decide +kernel,by decide +kernel⟩
def zHK (T:Txt K mg):Od P w base 3 T.d_law_machine zBD:=by
  unfold zBD;have sc:=zH1;exact zFR (zAG (n:=3) T.d_law_machine.F sc rfl (λcdv A outer s H E hr=>by
    unfold zDA;decreasing_trivial))
abbrev zMz:List Str:=["_law_machine_here", "_law_met", "_law_room", "_law_pair_here"]
def zLU:FnScope zMz ["_law_machine_here"] (zU zFK):=⟨rfl,rfl,rfl,by decide +kernel,rfl,by decide +kernel,by decide +kernel⟩
def zMB (T:Txt K mg):Od P w base 3 T.d_law_lost zB1:=by
  unfold zB1;have sc:=zLU;exact zAG (n:=1) T.d_law_lost.F sc rfl (λcdv A outer s H E hr=>by
    unfold zFJ;decreasing_trivial)
abbrev zOf:List Str:=["machine", "room"]
def zMs:FnScope zOf ["machine"] (zU zGL):=⟨rfl,rfl,rfl,by decide +kernel,rfl,by decide +kernel,by decide +kernel⟩
def zMx (T:Txt K mg):Od P w base 4 T.d_lengths zDR:=by
  unfold zDR;have sc:=zMs;exact zAG (n:=1) T.d_lengths.F sc rfl (λcdv A outer s H E hr=>by
    unfold zGP;decreasing_trivial)
abbrev zKW:List Str:=["_law_state", "_law_most", "_law_letters", "_law_base", "_law_many", "_law_owners", "_law_room", "_law_turn", "_law_rows", "_law_own", "_law_row", "_law_goal", "_law_copies_here"]
def zIl:FnScope zKW ["_law_state", "_law_most", "_law_letters"] (zU zDY):=⟨rfl,rfl,rfl,by decide +kernel,rfl,by decide +kernel,by decide +kernel⟩
def zIg (T:Txt K mg):Od P w base 4 T.d_law_copies zBq:=by
  unfold zBq;have sc:=zIl;exact zAG (n:=3) T.d_law_copies.F sc rfl (λcdv A outer s H E hr=>by
    unfold zDt;decreasing_trivial)
abbrev zTS:List Str:=["machine", "found", "pair"]
def zRB:FnScope zTS ["machine"] (zU zJ3):=⟨rfl,rfl,rfl,by decide +kernel,rfl,by decide +kernel,by decide +kernel⟩
def zPe (T:Txt K mg):Od P w base 5 T.d_apart zFx:=by
  unfold zFx;have sc:=zRB;exact zKP (zAG (n:=1) T.d_apart.F sc rfl (λcdv A outer s H E hr=>by
    unfold zKN;decreasing_trivial))
abbrev zJc:List Str:=["_law_state", "_law_most", "_law_letters", "_law_machine_here", "_law_owners", "_law_few", "_law_room"]
def zIX:FnScope zJc ["_law_state", "_law_most", "_law_letters"] (zU zDw):=⟨rfl,rfl,rfl,by decide +kernel,rfl,by decide +kernel,by decide +kernel⟩
def zIY (T:Txt K mg):Od P w base 5 T.d_law_either zBs:=by
  unfold zBs;have sc:=zIX;exact zFR (zAG (n:=3) T.d_law_either.F sc rfl (λcdv A outer s H E hr=>by
    unfold zDx;decreasing_trivial))
abbrev zLJ:List Str:=["_law_found", "_law_due", "_law_one", "_law_other"]
def zGN:FnScope zLJ ["_law_found", "_law_due"] (zU zFq):=⟨rfl,rfl,rfl,by decide +kernel,rfl,by decide +kernel,by decide +kernel⟩
theorem zIA (T:Txt K mg):∀ n:Nat,FnOk P w K mg base CX0 (n+0) T.d_law_is.f T.d_law_is.fd ["_law_found", "_law_due"] (spF K 2 (zA3 n))
  |0=>zS7
  |n+1=>by
    have hrec:=zIA T n;unfold zA3;rw[show n+1+0=(n+0)+1 by omega];exact zAG (n:=2) T.d_law_is.F zGN rfl (λcdv A outer s H E hr=>by
      unfold zFQ;exact (zHA (zR2 (zJ6 (zIB T.kinds (by decide) rfl T.z_isinstance rfl T.z_tuple (by rfl) (by decide) (by decide) (zCB (pv 1)) (zO rfl) (zO rfl) (zA7 rfl))) (zHA (zR2 (zVF (zQh (zPo (zJ6 (zIB T.kinds (by decide) rfl T.z_isinstance rfl T.z_tuple (by rfl) (by decide) (by decide) (zCB (pv 0)) (zO rfl) (zO rfl) (zA7 rfl)))) (zQd (zTg hr.units0 (zQn rfl T.z_len (zHD (zCB (pv 0)) zJ0 (zO rfl)) (zO rfl) rfl) (zQn rfl T.z_len (zHD (zCB (pv 1)) zJ0 (zO rfl)) (zO rfl) rfl))))) (zIE (zLl zWQ)) zJY)
    (zIE (zLl (zTj rfl rfl T.z_all (zHD (zJw (zF2 (i:=2) (j:=3) (by decide) (by decide)) (zGG (sc:=zU zFq) (N:=zLJ) rfl rfl rfl (by decide +kernel) (by decide +kernel)) rfl (zQs rfl T.z_zip (zFf (zA9 (zCB (pv 0))) (zFf (zA9 (zCB (pv 1))) zNE (zO rfl)) (zO rfl)) (zFS rfl rfl) (zDP rfl)) ⟨λ_ _ _ _ _=>(zQR rfl (zIN (zQM (i:=2) zGN.nd rfl) (zIN (zQM (i:=3) zGN.nd rfl) zNQ))),λ_ _ _ _ _=>zQY,λ_ _ _ _ _=>(zWY hrec (hr.mono (by omega)) rfl (zFf (zA9 (zCB (pv 2))) (zFf (zA9 (zCB (pv 3))) zNE (zO rfl)) (zO rfl)) (zGO (zGO zLs)) (by decide) (zO rfl) (zA7 rfl))⟩) zJ0 (zO rfl)) (zO rfl) rfl)))) zJY)
    (zHA (zR2 (zJ6 (zIB T.kinds (by decide) rfl T.z_isinstance rfl T.z_bool (by rfl) (by decide) (by decide) (zCB (pv 1)) (zO rfl) (zO rfl) (zA7 rfl))) (zIE (zLl (zMr (zIB T.kinds (by decide) rfl T.z_isinstance rfl T.z_bool (by rfl) (by decide) (by decide) (zCB (pv 0)) (zO rfl) (zO rfl) (zA7 rfl)) (zPz (zTn hr.units0 (zCB (pv 0)) (zCB (pv 1))))))) zJY)
    (zIE (zLl (zMr (zIB T.kinds (by decide) rfl T.z_isinstance rfl T.z_int (by rfl) (by decide) (by decide) (zCB (pv 0)) (zO rfl) (zO rfl) (zA7 rfl)) (zMr (zTs (zIB T.kinds (by decide) rfl T.z_isinstance rfl T.z_bool (by rfl) (by decide) (by decide) (zCB (pv 0)) (zO rfl) (zO rfl) (zA7 rfl))) (zPz (zTn hr.units0 (zCB (pv 0)) (zCB (pv 1)))))))))))
def zOn (T:Txt K mg):Od P w base 5 T.d_law_is zFY:=zIA T 5
abbrev zIC:List Str:=["machine", "found", "parting", "steps", "pair"]
def zGg:FnScope zIC ["machine"] (zU zCf):=⟨rfl,rfl,rfl,by decide +kernel,rfl,by decide +kernel,by decide +kernel⟩
def zGu (T:Txt K mg):Od P w base 6 T.d_stable_shown zBK:=by
  unfold zBK;have sc:=zGg;exact zKP (zAG (n:=1) T.d_stable_shown.F sc rfl (λcdv A outer s H E hr=>by
    unfold zCh;decreasing_trivial))
abbrev zGe:List Str:=["_law_machine_here", "_law_pair_here", "_law_way", "_law_risky", "_law_letter", "_law_goals", "_law_one", "_law_other", "_law_near", "_law_k", "_law_goal"]
def zGC:FnScope zGe ["_law_machine_here", "_law_pair_here", "_law_way", "_law_risky"] (zU zCO):=⟨rfl,rfl,rfl,by decide +kernel,rfl,by decide +kernel,by decide +kernel⟩
def zF5 (T:Txt K mg):Od P w base 6 T.d_law_way_right zAm:=by
  unfold zAm;have sc:=zGC;exact zFR (zAG (n:=4) T.d_law_way_right.F sc rfl (λcdv A outer s H E hr=>by
    unfold zCM;decreasing_trivial))
abbrev zVl:List Str:=["_law_script", "_law_state", "_law_turn", "_law_machine_here", "_law_risky", "_law_found", "_law_parted", "_law_pair_here", "_law_way"]
def zUB:FnScope zVl ["_law_script"] (zU zQI):=⟨rfl,rfl,rfl,by decide +kernel,rfl,by decide +kernel,by decide +kernel⟩
def zUa (T:Txt K mg):Od P w base 7 T.d_law zGV:=by
  unfold zGV;have sc:=zUB;exact zAG (n:=1) T.d_law.F sc rfl (λcdv A outer s H E hr=>by
    unfold zPc;decreasing_trivial)
end
def zUy {l:PySem.W.OpenLaw} {w:World} {K:PySem.W.Frag} {h:Heap} {mg:Str->Option Value} {fa:Addr} (X:K.In h) (G:h.Ns mainGlobals mg) (hfa:mg "law" = some (.ref fa))
    (g1:Dg K "all_rooms" zEM) (g2:Dg K "stepped" zGD) (g3:Dg K "pairs_of" zE7) (g4:Dg K "ways_back" zEG) (g5:Dg K "lengths_to" zDf) (g6:Dg K "lengths" zGL) (g7:Dg K "first_letter" zCk) (g8:Dg K "rungs_to" zFI) (g9:Dg K "climbed" zGK) (g10:Dg K "apart" zJ3) (g11:Dg K "parted_by" zEE) (g12:Dg K "pairs_across" zCb) (g13:Dg K "parted_but" zDv) (g14:Dg K "stable_shown" zCf) (g15:Dg K "_law_begin" zEa) (g16:Dg K "_law_next" zE5) (g17:Dg K "_law_column" zDk) (g18:Dg K "_law_machine" zDB) (g19:Dg K "_law_copies" zDY) (g20:Dg K "_law_numbered" zCo) (g21:Dg K "_law_either" zDw) (g22:Dg K "_law_pair" zFH) (g23:Dg K "_law_pairs" zEW) (g24:Dg K "_law_behind" zDi) (g25:Dg K "_law_lost" zFK) (g26:Dg K "_law_stable" zDs) (g27:Dg K "_law_is" zFq) (g28:Dg K "_law_way_right" zCO) (g29:Dg K "law" zQI) (z1:Zn K "tuple") (z2:Zn K "range") (z3:Zn K "len") (z4:Zn K "sorted") (z5:Zn K "min") (z6:Zn K "enumerate") (z7:Zn K "list") (z8:Zn K "max") (z9:Zn K "dict") (z10:Zn K "zip") (z11:Zn K "isinstance") (z12:Zn K "bool") (z13:Zn K "all") (z14:Zn K "int") (y1:Ki K "NoneType" "int" false) (y2:Ki K "NoneType" "bool" false) (y3:Ki K "NoneType" "str" false) (y4:Ki K "NoneType" "tuple" false) (y5:Ki K "bool" "int" true) (y6:Ki K "bool" "bool" true) (y7:Ki K "bool" "str" false) (y8:Ki K "bool" "tuple" false) (y9:Ki K "int" "int" true) (y10:Ki K "int" "bool" false) (y11:Ki K "int" "str" false) (y12:Ki K "int" "tuple" false) (y13:Ki K "str" "int" false) (y14:Ki K "str" "bool" false) (y15:Ki K "str" "str" true) (y16:Ki K "str" "tuple" false) (y17:Ki K "list" "int" false) (y18:Ki K "list" "bool" false) (y19:Ki K "list" "str" false) (y20:Ki K "list" "tuple" false) (y21:Ki K "tuple" "int" false) (y22:Ki K "tuple" "bool" false) (y23:Ki K "tuple" "str" false) (y24:Ki K "tuple" "tuple" true) (y25:Ki K "dict" "int" false) (y26:Ki K "dict" "bool" false) (y27:Ki K "dict" "str" false) (y28:Ki K "dict" "tuple" false) :
    ∃ fd:FuncData,(∀ (s:Shared) (v:Value),BindsTo s fd ⟨[v],[]⟩ [("_law_script", v)]) /\ ∀ base:Heap,K.In base->base.Ns mainGlobals mg->FnOk l.prog w K mg base CX0 7 fa fd ["_law_script"] (spF K 1 zGV):=by
  have e:=hfa.symm.trans (PySem.W.mg_of X G g29.a);cases e;have kinds:Kinds K:=⟨by
    intro t T ht hT;simp only[zXP,zXi,zYY]at ht hT;rcases ht with rfl|rfl|rfl|rfl|rfl|rfl|rfl <;> rcases hT with rfl|rfl|rfl|rfl <;> assumption⟩
  let T:Txt K mg:=⟨g1.df X G λ_ _ _ _ _ _=>zGk λ_=>rfl,g2.df X G λ_ _ _ _ _ _=>zM5 λ_ _ _=>rfl,g3.df X G λ_ _ _ _ _ _=>zGk λ_=>rfl,g4.df X G λ_ _ _ _ _ _=>zGk λ_=>rfl,g5.df X G λ_ _ _ _ _ _=>zKf λ_ _=>rfl,g6.df X G λ_ _ _ _ _ _=>zGk λ_=>rfl,g7.df X G λ_ _ _ _ _ _=>zM5 λ_ _ _=>rfl,g8.df X G λ_ _ _ _ _ _=>zKf λ_ _=>rfl,g9.df X G λ_ _ _ _ _ _=>zM5 λ_ _ _=>rfl,g10.df X G λ_ _ _ _ _ _=>zGk λ_=>rfl,g11.df X G λ_ _ _ _ _ _=>zGk λ_=>rfl,g12.df X G λ_ _ _ _ _ _=>zKf λ_ _=>rfl,g13.df X G λ_ _ _ _ _ _=>zKf λ_ _=>rfl,g14.df X G λ_ _ _ _ _ _=>zGk λ_=>rfl,g15.df X G λ_ _ _ _ _ _=>zGk λ_=>rfl,g16.df X G λ_ _ _ _ _ _=>zKf λ_ _=>rfl,g17.df X G λ_ _ _ _ _ _=>zM5 λ_ _ _=>rfl,g18.df X G λ_ _ _ _ _ _=>zM5 λ_ _ _=>rfl,g19.df X G λ_ _ _ _ _ _=>zM5 λ_ _ _=>rfl,g20.df X G λ_ _ _ _ _ _=>zGk λ_=>rfl,g21.df X G λ_ _ _ _ _ _=>zM5 λ_ _ _=>rfl,g22.df X G λ_ _ _ _ _ _=>zKf λ_ _=>rfl,g23.df X G λ_ _ _ _ _ _=>zGk λ_=>rfl,g24.df X G λ_ _ _ _ _ _=>zKf λ_ _=>rfl,g25.df X G λ_ _ _ _ _ _=>zGk λ_=>rfl,g26.df X G λ_ _ _ _ _ _=>zKf λ_ _=>rfl,g27.df X G λ_ _ _ _ _ _=>zKf λ_ _=>rfl,g28.df X G λ_ _ _ _ _ _=>zWw λ_ _ _ _=>rfl,g29.df X G λ_ _ _ _ _ _=>zGk λ_=>rfl,zYC X G z1,zYC X G z2,zYC X G z3,zYC X G z4,zYC X G z5,zYC X G z6,zYC X G z7,zYC X G z8,zYC X G z9,zYC X G z10,zYC X G z11,zYC X G z12,zYC X G z13,zYC X G z14,kinds⟩;refine ⟨T.d_law.fd,λs v=> .of_eq rfl,λbase _ _=>?_⟩;exact zUa (P:=l.prog) (w:=w) (base:=base) T
def zW9 {l:PySem.W.OpenLaw} {q:Ym} {loose:Yk} {XP:(Str->Option Value)->Heap->Prop} {YP:World->Heap->Prop} {d:DefRec} {K:Params->PySem.W.Frag} (hn:l.most=some 63) (hdf:d.params.defaults=[])
    (hY:∀ (w:Yo) (h:Heap),YP w h->(K w.params).In h) (hL:∀ w:World,zJu (K w.params)=true)
    (F:∀ (w:Yo) (mg:Yh) (fa:Yt) (h:Heap),(K w.params).In h->h.Ns mainGlobals mg->mg d.name=some (.ref fa) ->
      ∃ fd:FuncData,(∀ (s:Shared) (u:Value),BindsTo s fd ⟨[u],[]⟩ [("_law_script", u)]) /\ ∀ base:Heap,(K w.params).In base->base.Ns mainGlobals mg->FnOk l.prog w (K w.params) mg base CX0 7 fa fd ["_law_script"] (spF (K w.params) 1 zGV)) :
    PySem.W.WalkO q loose XP YP l.row.toRowW d [] (λf vs=>PySem.call f vs) :=
  L2.zSC (n:=63) (k:=7) (x := "_law_script") (CX:=λ_=>CX0) (sp:=λw=>spF (K w.params) 1 zGV) hn (by decide) hdf ⟨rfl,by decide,by decide⟩ hY F
    (λw H a ns hl hO hS=>zPC (hL w) hO hS (zPt ns hl)) λ_ _ _ _ _ z=>z
end Lad
open PySem PySem.W PyProof.Rows
set_option maxRecDepth 100000 in
set_option maxHeartbeats 0 in
theorem PySem.Challenge.cw_bringhome_k46_stable_shown_holds : PySem.Challenge.rw_bringhome_k46_stable_shown.Holds := by
  w_on;o_law;k_head;(case hw=>w_witness2);k_fill;refine Lad.zW9 (l:=PySem.Challenge.rw_bringhome_k46_stable_shown) rfl rfl (λw h Y=>PySem.W.kIn_of Y) (λw=>by rfl) ?F
  case F=>
    intro w mg fa h KX G hmg;refine' Lad.zUy KX G hmg ?_ ?_ ?_ ?_ ?_ ?_ ?_ ?_ ?_ ?_ ?_ ?_ ?_ ?_ ?_ ?_ ?_ ?_ ?_ ?_ ?_ ?_ ?_ ?_ ?_ ?_ ?_ ?_ ?_ ?_ ?_ ?_ ?_ ?_ ?_ ?_ ?_ ?_ ?_ ?_ ?_ ?_ ?_ ?_ ?_ ?_ ?_ ?_ ?_ ?_ ?_ ?_ ?_ ?_ ?_ ?_ ?_ ?_ ?_ ?_ ?_ ?_ ?_ ?_ ?_ ?_ ?_ ?_ ?_ ?_ ?_;all_goals first|exact ⟨_,by k_is,by k_is,by k_is,by k_is⟩|(unfold L3.Zn;k_is)|(unfold L3.Ki;kit_is)|k_is
