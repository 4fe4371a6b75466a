import PyProof.Rows.All
import Wide.All
import OpenK.AllK
import Wide.FinOn
import Lean
import PyProof.EqAt
import PyProof.EqKinds
import PyProof.TupleCall
import PyProof.NeKinds
import PyProof.ZipIter
import PyProof.ListRange
import PyProof.TupleOfSeq
import PyProof.ConsumeWalk
import PyProof.IsRules
import PyProof.SetKind
import PyProof.SetRoads
import PyProof.Rows.SetFrom
import PyProof.Draws
import PyProof.EnumMake
import PyProof.DictCompW
import PyProof.ListMulRoad
import PyProof.Rows.SeqMore2
import PyProof.WalkInts
import PyProof.DictRoadsH
import PyProof.DictItems
import KE.KDictList
import KE.KDictOf
import PyProof.AttrMissHeap
import PyProof.SliceList
import KE.KRevIter
import KE.KEqDict
import PySem.Challenge.RW_bringhome_k87_whole_letters_twice_and_le
section
open PySem
abbrev Ya:=List (List Int)
abbrev Yb:=W.Frag
abbrev Yc:=Value->Shared->Prop
abbrev Yd:=List (Addr × Obj)
abbrev Ye:=List Int
abbrev Yf:=List Value
abbrev Yg:=List Addr
abbrev Yh:=Str->Option Value
abbrev Yi:=List Expr
abbrev Yj:=List Nat
abbrev Yk:=List Str
abbrev Yl:=Shared
abbrev Ym:=Program
abbrev Yn:=Around
abbrev Yo:=World
abbrev Yp:=Array Value
abbrev Yq:=List Int->Prop
abbrev Yr:=Value->Nat
abbrev Ys:=Option Int
abbrev Yt:=Addr
abbrev Yu:=Value
abbrev Yv:=List (Str × Addr)
abbrev Yw:=Array (Int × Value)
abbrev Yx:=Result->Shared->Prop
abbrev Yy:=List Stmt
abbrev Yz:=FuncData
abbrev Y0:=Scope
abbrev Y1:=List Int->List (List Int)
abbrev Y2:=Value->Value->Sem Value
end
namespace PySem.W.Fast
def tw6045639256110095203:=0
def tw10179416887933459217:=0
def tw377186322409011953:=0
def tw11112817893983748126:=0
def tw1766134315240756521:=0
def tw4939997386543464673:=0
def tw13217332968583747159:=0
def tw16042973140234185452:=0
def tw15907423647631176314:=0
def tw12445047251979317009:=0
def tw12275275152636245551:=0
def tw4354388153214192292:=0
def tw5036039695426652122:=0
def tw9399457943755418864:=0
def tw2504743078708464577:=0
def tw16389792101394020099:=0
def tw6744968607198184329:=0
def tw8697762563833961707:=0
def tw10525175431519396181:=0
def tw10082685386599937343:=0
def tw5063813081602781478:=0
def tw17232537444214072695:=0
def tw8896685398582982272:=0
def tw258310318862709555:=0
def tw14034209349926684431:=0
def tw7189506681508008360:=0
def tw17371460759949038298:=0
def tw10445934846671660026:=0
def tw4941516553586930159:=0
def tw13252534008840929966:=0
def tw9086533554197866412:=0
def tw7233139960508382795:=0
def tw18426531487393836980:=0
def tw11938420278644006503:=0
def tw12016048552974757057:=0
def tw10912770569967483702:=0
def tw6329276900450907819:=0
def tw151931326607328246:=0
def tw6703391371883620948:=0
def tw8679209589309222918:=0
def tw15139403254846587456:=0
def tw3407259624412052510:=0
def tw14331691080867231117:=0
def tw17832505768565007634:=0
def tw12520047257988928533:=0
end PySem.W.Fast
section
open PySem PySem.Spec PyProof.Rows
theorem zVg:type_of% @wpAny_bind:=@wpAny_bind
theorem zVh:type_of% @Heap.get?_push_of_some:=@Heap.get?_push_of_some
theorem zVi:type_of% @wpAny_pure:=@wpAny_pure
theorem zVj:type_of% @List.getElem?_eq_some_iff:=@List.getElem?_eq_some_iff
theorem zVk:type_of% @List.getElem?_eq_getElem:=@List.getElem?_eq_getElem
theorem zVl:type_of% @List.getD_eq_getElem?_getD:=@List.getD_eq_getElem?_getD
theorem zVm:type_of% @Nat.le_refl:=@Nat.le_refl
theorem zVn:type_of% @List.getElem?_append_left:=@List.getElem?_append_left
theorem zVo:type_of% @List.size_toArray:=@List.size_toArray
theorem zVp:type_of% @List.length_map:=@List.length_map
theorem zVq:type_of% @Heap.get?_push_size:=@Heap.get?_push_size
theorem zVr:type_of% @Heap.lt_size:=@Heap.lt_size
theorem zVs:type_of% @List.mem_cons:=@List.mem_cons
theorem zVt:type_of% @List.mem_cons_of_mem:=@List.mem_cons_of_mem
theorem zVu:type_of% @List.mem_cons_self:=@List.mem_cons_self
theorem zVv:type_of% @if_pos:=@if_pos
theorem zVw:type_of% @List.length_append:=@List.length_append
theorem zVx:type_of% @List.mem_map:=@List.mem_map
theorem zVy:type_of% @if_neg:=@if_neg
theorem zVz:type_of% @List.map_cons:=@List.map_cons
theorem zV0:type_of% @List.mem_append_right:=@List.mem_append_right
theorem zV1:type_of% @Nat.ne_of_lt:=@Nat.ne_of_lt
theorem zV2:type_of% @Bool.false_ne_true:=@Bool.false_ne_true
theorem zV3:type_of% @List.getElem?_map:=@List.getElem?_map
theorem zV4:type_of% @List.map_map:=@List.map_map
theorem zV5:type_of% @Nat.lt_of_lt_of_le:=@Nat.lt_of_lt_of_le
theorem zV6:type_of% @List.mem_append:=@List.mem_append
theorem zV7:type_of% @Nat.le_trans:=@Nat.le_trans
theorem zV8:type_of% @List.mem_singleton:=@List.mem_singleton
theorem zV9:type_of% @wpAny_newObj_type:=@wpAny_newObj_type
theorem zWA:type_of% @List.getElem?_set_ne:=@List.getElem?_set_ne
theorem zWB:type_of% @List.not_mem_nil:=@List.not_mem_nil
theorem zWC:type_of% @wpAny_mono:=@wpAny_mono
theorem zWD:type_of% @List.length_cons:=@List.length_cons
theorem zWE:type_of% @List.getElem_mem:=@List.getElem_mem
theorem zWF:type_of% @decide_eq_false:=@decide_eq_false
theorem zWG:type_of% @Bool.and_eq_true:=@Bool.and_eq_true
theorem zWH:type_of% @List.all_eq_true:=@List.all_eq_true
theorem zWI:type_of% @wpAny_callSpecial?_slot:=@wpAny_callSpecial?_slot
theorem zWJ:type_of% @wpAny_call_entry:=@wpAny_call_entry
theorem zWK:type_of% @List.mem_range:=@List.mem_range
theorem zWL:type_of% @wpAny_field:=@wpAny_field
theorem zWM:type_of% @Heap.size_push:=@Heap.size_push
theorem zWN:type_of% @Heap.get?_update_other:=@Heap.get?_update_other
theorem zWO:type_of% @Nat.lt_irrefl:=@Nat.lt_irrefl
theorem zWP:type_of% @Array.length_toList:=@Array.length_toList
theorem zWQ:type_of% @List.append_nil:=@List.append_nil
theorem zWR:type_of% @Array.getElem?_eq_getElem:=@Array.getElem?_eq_getElem
theorem zWS:type_of% @Nat.zero_le:=@Nat.zero_le
theorem zWT:type_of% @Heap.get?_update_self:=@Heap.get?_update_self
theorem zWV:type_of% @Nat.lt_succ_of_lt:=@Nat.lt_succ_of_lt
theorem zWX:type_of% @List.mem_of_getElem?:=@List.mem_of_getElem?
theorem zWY:type_of% @List.map_append:=@List.map_append
theorem zWZ:type_of% @wpAny_holding:=@wpAny_holding
theorem zWa:type_of% @List.getElem?_set_self:=@List.getElem?_set_self
theorem zWb:type_of% @Around.under_plainId:=@Around.under_plainId
theorem zWc:type_of% @of_decide_eq_true:=@of_decide_eq_true
theorem zWd:type_of% @Nat.lt_succ_self:=@Nat.lt_succ_self
theorem zWe:type_of% @wpAny_standAt:=@wpAny_standAt
theorem zWf:type_of% @PySem.W.mg_none_of:=@PySem.W.mg_none_of
theorem zWg:type_of% @Option.some.inj:=@Option.some.inj
theorem zWh:type_of% @Bool.false_eq_true:=@Bool.false_eq_true
theorem zWi:type_of% @PySem.mem_of_lookup:=@PySem.mem_of_lookup
theorem zWj:type_of% @Heap.SameBut.update:=@Heap.SameBut.update
theorem zWk:type_of% @List.cons.inj:=@List.cons.inj
theorem zWl:type_of% @codeAny_builtin:=@codeAny_builtin
theorem zWm:type_of% @List.append_assoc:=@List.append_assoc
theorem zWo:type_of% @decide_eq_true:=@decide_eq_true
theorem zWq:type_of% @List.getElem?_append_right:=@List.getElem?_append_right
theorem zWr:type_of% @List.mem_filter:=@List.mem_filter
theorem zWt:type_of% @decide_eq_true_eq:=@decide_eq_true_eq
theorem zWu:type_of% @List.nodup_append:=@List.nodup_append
theorem zWv:type_of% @List.mem_append_left:=@List.mem_append_left
theorem zWx:type_of% @Obj.data_mapFields:=@Obj.data_mapFields
theorem zW3:type_of% @wpAny_rule:=@wpAny_rule
theorem zW4:type_of% @List.length_take:=@List.length_take
theorem zXB:type_of% @Nat.ne_of_gt:=@Nat.ne_of_gt
theorem zXE:type_of% @PyProof.Rows.slot_tuple_getitem:=@PyProof.Rows.slot_tuple_getitem
theorem zXF:type_of% @List.getElem?_set:=@List.getElem?_set
theorem zXI:type_of% @Nat.mul_le_mul:=@Nat.mul_le_mul
theorem zXL:type_of% @Array.getElem?_toList:=@Array.getElem?_toList
theorem zXO:type_of% @Nat.le_succ:=@Nat.le_succ
theorem zXR:type_of% @wpAny_setField:=@wpAny_setField
theorem zXS:type_of% @List.find?_cons:=@List.find?_cons
theorem zXa:type_of% @wpAny_comprehension_free:=@wpAny_comprehension_free
theorem zXd:type_of% @List.length_range:=@List.length_range
theorem zXj:type_of% @List.getElem_of_mem:=@List.getElem_of_mem
theorem zXl:type_of% @List.lookup_cons:=@List.lookup_cons
theorem zX0:type_of% @List.length_filter_le:=@List.length_filter_le
end
set_option Elab.async false
set_option linter.all false
set_option maxRecDepth 100000
set_option genSizeOf false
set_option genInjectivity false
noncomputable section
namespace L2
open PySem PySem.Spec PyProof.Rows
abbrev Key:=Sum Int Str
def zIE:Key->Value->Bool
 |.inl k,v=>Value.isInt k v
 |.inr x,v=>Value.isStrOf x v
def zVf (w:Yo):Key->Int
 |.inl k=>hashInt k
 |.inr x=>hashStr w x
theorem zAW:∀ {k:Key} {v:Yu},zIE k v=true->(∃ i t,k=Sum.inl i/\v=Value.int i t)\/(∃ x t,k=Sum.inr x/\v=Value.str x t)
 |.inl i,v,h=>by
  obtain ⟨t,e⟩:=Value.isInt_shape (k:=i) (v:=v) h;exact .inl ⟨i,t,rfl,e⟩
 |.inr x,v,h=>by
  obtain ⟨t,e⟩:=Value.isStrOf_shape (x:=x) (v:=v) h;exact .inr ⟨x,t,rfl,e⟩
theorem zMy (i:Int) (t:Tok):zIE (.inl i) (.int i t)=true:=by simp[zIE,Value.isInt]
theorem zNR (x:Str) (t:Tok):zIE (.inr x) (.str x t)=true:=by simp[zIE,Value.isStrOf]
theorem zTg (a b:Int):decide ((Sum.inl a:Key)=Sum.inl b)=(a==b):=by
 by_cases e:a=b
 .subst e;simp
 .have h:¬ (Sum.inl a:Key)=Sum.inl b:=λq=>e (Sum.inl.inj q);rw[zWF h];exact (beq_eq_false_iff_ne.mpr e).symm
theorem zSY (a b:Str):decide ((Sum.inr a:Key)=Sum.inr b)=decide (a=b):=by
 by_cases e:a=b
 .subst e;simp
 .have h:¬ (Sum.inr a:Key)=Sum.inr b:=λq=>e (Sum.inr.inj q);rw[zWF h,zWF e]
theorem zSQ (a:Int) (b:Str):decide ((Sum.inl a:Key)=Sum.inr b)=false:=zWF (λq=>nomatch q)
theorem zTS (a:Str) (b:Int):decide ((Sum.inr a:Key)=Sum.inl b)=false:=zWF (λq=>nomatch q)
def zAL (prog:Ym) (w:Yo):PySem.KeyKind prog w Key where
 is:=zIE
 hash:=zVf w
 inj:=λv a b ha hb=>by
  rcases zAW ha with ⟨i,t,rfl,rfl⟩|⟨x,t,rfl,rfl⟩
  .rcases zAW hb with ⟨j,u,rfl,e⟩|⟨y,u,rfl,e⟩
   .injection e with e1 _;rw[e1]
   .exact nomatch e
  .rcases zAW hb with ⟨j,u,rfl,e⟩|⟨y,u,rfl,e⟩
   .exact nomatch e
   .injection e with e1 _;rw[e1]
 byValue:=λk v h=>by
  rcases zAW h with ⟨i,t,rfl,rfl⟩|⟨x,t,rfl,rfl⟩ <;> rfl
 pyHash:=λhv h=>by
  rcases zAW hv with ⟨i,t,rfl,rfl⟩|⟨x,t,rfl,rfl⟩
  .exact wpAny_pyHash_int h
  .exact wpAny_pyHash_str h
 eqBool:=λhu hv h=>by
  rcases zAW hu with ⟨i,t,rfl,rfl⟩|⟨x,t,rfl,rfl⟩
  .rcases zAW hv with ⟨j,u,rfl,rfl⟩|⟨y,u,rfl,rfl⟩
   .rw[zTg]at h;exact wpAny_eqBool_int h
   .rw[zSQ]at h;exact SeqAt.EqAt.int_str i t y u _ _ _ _ h
  .rcases zAW hv with ⟨j,u,rfl,rfl⟩|⟨y,u,rfl,rfl⟩
   .rw[zTS]at h;exact SeqAt.EqAt.str_int x t j u _ _ _ _ h
   .rw[zSY]at h;exact wpAny_eqBool_str h
 «strs»:=λk x t v h=>by
  rcases zAW h with ⟨i,u,rfl,e⟩|⟨y,u,rfl,e⟩
  .exact nomatch e
  .injection e with e1 _
   subst e1
   cases v <;> rfl
theorem zKW (prog:Ym) (w:Yo) (i:Int) (t:Tok):(zAL prog w).is (.inl i) (.int i t)=true:=zMy i t
theorem zJb (prog:Ym) (w:Yo) (x:Str) (t:Tok):(zAL prog w).is (.inr x) (.str x t)=true:=zNR x t
set_option genInjectivity true in
inductive V where
 |non|bl (b:Bool)|int (i:Int)|str (x:Str)|byt (b:Array UInt8)|flt (b:UInt64)|ref (a:Yt)|ty (n:String)
 deriving DecidableEq
def ze:V->Value->Prop
 |.non,u=>u=Value.none
 |.bl b,u=>u=Value.bool b
 |.int i,u=>∃ t,u=Value.int i t
 |.str x,u=>∃ t,u=Value.str x t
 |.byt b,u=>∃ t,u=Value.bytes b t
 |.flt b,u=>∃ t,u=Value.float b t
 |.ref a,u=>u=Value.ref a
 |.ty n,u=>u=Value.type n
abbrev zb:List V->List Value->Prop:=Paired ze
theorem zb.length {xs:List V} {us:Yf} (r:zb xs us):xs.length=us.length:=Paired.length r
theorem zb.get:∀ {xs:List V} {us:Yf} {i:Nat} {x:V},zb xs us->xs[i]?=some x -> ∃ u,us[i]?=some u/\ze x u
 |_,_,_,_,.nil,e=>by simp at e
 |_,_,0,_,.cons r _,e=>by simp at e;subst e;exact ⟨_,rfl,r⟩
 |_,_,i+1,x,.cons _ t,e=>by
  obtain ⟨u,h1,h2⟩:=zb.get (i:=i) (x:=x) t (by simpa using e);exact ⟨u,by simpa using h1,h2⟩
theorem zb.set {x:V} {u:Yu} (r:ze x u):∀ {xs:List V} {us:Yf} (i:Nat),zb xs us->zb (xs.set i x) (us.set i u)
 |_,_,_,.nil=> .nil
 |_,_,0,.cons _ t=> .cons r t
 |_,_,i+1,.cons q t=> .cons q (zb.set r i t)
theorem zb.append:∀ {xs ys:List V} {us ws:Yf},zb xs us->zb ys ws->zb (xs++ys) (us++ws)
 |_,_,_,_,.nil,s=>s
 |_,_,_,_,.cons r t,s=> .cons r (zb.append t s)
theorem zb.take:∀ {xs:List V} {us:Yf} (n:Nat),zb xs us->zb (xs.take n) (us.take n)
 |_,_,0,_=> .nil
 |_,_,_+1,.nil=> .nil
 |_,_,n+1,.cons r t=> .cons r (zb.take n t)
theorem zb.drop:∀ {xs:List V} {us:Yf} (n:Nat),zb xs us->zb (xs.drop n) (us.drop n)
 |_,_,0,r=>r
 |_,_,_+1,.nil=> .nil
 |_,_,n+1,.cons _ t=>zb.drop n t
def zFl:Option V->Option Value->Prop
 |some v,some u=>ze v u
 |none,none=>True
 |_,_=>False
def KV {κ:Type}:List (κ × V)->List (κ × Value)->Prop:=Paired λ(p:κ × V) (q:κ × Value)=>p.1=q.1/\ze p.2 q.2
def kV:Key->V
 |.inl i=> .int i
 |.inr x=> .str x
set_option genInjectivity true in
inductive HO where
 |lst (xs:List V)
 |tup (xs:List V)
 |dK (kvs:List (Key × V))|dT (kvs:List (List Key × V))
 |set (S:Int->Bool) (n:Nat)
 |ins (C dx:Yt) (fs:List (Str × V))
 |own (x:Yt)
 |xd (fs:List (Str × V))
 |met (f x:Yt)
 |rng (lo hi:Int)
 |frz (o:Obj) (u:HO)
 |tbl (ps:Yp)
 |ext (φ:Heap->Prop)
abbrev Hp:=Addr->Option HO
def upd (H:Hp) (a:Yt) (o:HO):Hp:=λb=>if b=a then some o else H b
theorem zt {H:Hp} {a:Yt} {o:HO}:upd H a o a=some o:=by unfold upd;rw[zVv rfl]
theorem zV {H:Hp} {a b:Yt} {o:HO} (h:b≠a):upd H a o b=H b:=by unfold upd;rw[zVy h]
theorem zGQ {H:Hp} {a b:Yt} {o u:HO} (h:H a=some o) (h':H b=some u) (d:o≠u):a≠b:=by
 intro e;subst e;rw[h]at h';exact d (zWg h')
theorem zu {H:Hp} {a b:Yt} {o:HO} (h:H a=some o) (h':H b=none):a≠b:=by
 intro e;subst e;rw[h]at h';cases h'
def zCN (h:Heap) (a:Addr) (items:Array Value):Prop:=∃ o,h.get? a=some o/\o.cls=.type "tuple" /\ (∃ n,o.data=.seq items n)/\o.dict=none
theorem zCN.tup {h:Heap} {a:Yt} {items:Yp} (x:zCN h a items):IsTup h a items:=let ⟨o,e,c,d,_⟩:=x;⟨o,e,c,d⟩
theorem zCN.lt {h:Heap} {a:Yt} {items:Yp} (x:zCN h a items):a<h.objs.size:=let ⟨_,e,_⟩:=x;zVr e
theorem zCN.new (h:Heap) (items:Array Value):zCN (h.push { cls:=.type "tuple", data:=.seq items }) h.objs.size items:=⟨_,zVq _ rfl,rfl,⟨_,rfl⟩,rfl⟩
section
variable (P:Ym) (w:Yo)
def zAm (H:Hp) (h:Heap) (a:Yt):HO->Prop
 |.lst xs=>xs.length<=sizeLine /\ ∃ (its:List Value) (n:Nat),zb xs its/\h.get? a=some { cls:=.type "list", data:=.seq its.toArray n }
 |.tup xs=>xs.length<=sizeLine /\ ∃ its:List Value,zb xs its/\zCN h a its.toArray
 |.dK kvs=>kvs.length<=sizeLine/\(a==sysModules)=false /\ ∃ vs,KV kvs vs/\h.DictOf (zAL P w) a vs
 |.dT kvs=>kvs.length<=sizeLine/\(a==sysModules)=false /\ ∃ xs:List (List Key × Addr × Value),
   Paired (λ(p:List Key × V) (q:List Key × Addr × Value)=>p.1=q.1/\H q.2.1=some (.tup (p.1.map kV))/\ze p.2 q.2.2) kvs xs /\
   ∃ o es ep,h.get? a=some o/\o.ExactDict/\o.data=.dict es ep/\es.toList=xs.map (entryOfKey (tupleKind (zAL P w)))/\(xs.map (·.1)).Nodup
 |.set S n=>h.SetOf (intKind P w) a S n
 |.ins C dx fs=>H dx=some (.own a)/\fs.length<=1000/\dx≠a/\h.get? a=some (PySem.W.instObj C dx) /\
   ∃ mA,h.Ns1 dx mA/\(∀ f,zFl (fs.lookup f) (mA f))/\PySem.Within mA (fs.map (·.1))
 |.own _=>∃ o,h.get? a=some o
 |.xd fs=>∃ mA,h.Ns1 a mA /\ ∀ f,zFl (fs.lookup f) (mA f)
 |.rng lo hi=>∃ t u v,h.get? a=some { cls:=.type "range", data:=.fields #[.int lo t,.int hi u,.int 1 v] }
 |.frz o u=>h.get? a=some o/\zAm H h a u
 |.tbl ps=>h.get? a=some { cls:=.none,data:=.fields ps }
 |.met f x=>h.get? a=some (PySem.W.methodObj (.ref f) (.ref x))
 |.ext φ=>φ h/\(∃ o,h.get? a=some o) /\ ∀ h1 h2:Heap,φ h1->(∀ o,h1.get? a=some o->h2.get? a=some o)->φ h2
def HOk (H:Hp) (h:Heap):Prop:=∀ a o,H a=some o->zAm P w H h a o
end
section
variable {P:Ym} {w:Yo} {H H':Hp} {h h':Heap} {a:Yt} {o:HO}
theorem zAm.lt (x:zAm P w H h a o):a<h.objs.size:=by
 cases o with
 |lst xs=>obtain ⟨_,_,_,_,e⟩:=x;exact zVr e
 |tup xs=>obtain ⟨_,_,_,p⟩:=x;exact p.lt
 |dK kvs=>obtain ⟨_,_,_,_,o,_,_,e,_⟩:=x;exact zVr e
 |dT kvs=>obtain ⟨_,_,_,_,o,_,_,e,_⟩:=x;exact zVr e
 |set S n=>obtain ⟨o,_,_,_,e,_⟩:=x;exact zVr e
 |ins C dx fs=>obtain ⟨_,_,_,e,_⟩:=x;exact zVr e
 |own y=>obtain ⟨_,e⟩:=x;exact zVr e
 |xd fs=>obtain ⟨_,⟨_,_,_,e,_⟩,_⟩:=x;exact zVr e
 |rng lo hi=>obtain ⟨_,_,_,e⟩:=x;exact zVr e
 |frz ob u=>obtain ⟨e,_⟩:=x;exact zVr e
 |tbl ps=>exact zVr (show h.get? a=some _ from x)
 |met f y=>exact zVr (show h.get? a=some _ from x)
 |ext φ=>obtain ⟨_,⟨_,e⟩,_⟩:=x;exact zVr e
theorem Paired.mapP {α β:Type} {F G:α->β->Prop}:∀ {l₁:List α} {l₂:List β},Paired F l₁ l₂->(∀ a b,F a b->G a b)->Paired G l₁ l₂
 |_,_,.nil,_=> .nil
 |_,_,.cons r t,f=> .cons (f _ _ r) (Paired.mapP t f)
theorem zAm.stay (x:zAm P w H h a o) (k:∀ b u,(b=a\/H b=some (.own a))->h.get? b=some u->h'.get? b=some u)
  (ho:∀ b,H b=some (.own a)->H' b=some (.own a)) (ht:∀ b xs,H b=some (.tup xs)->H' b=some (.tup xs)):zAm P w H' h' a o:=by
 induction o with
 |lst xs=>obtain ⟨z,its,n,r,e⟩:=x;exact ⟨z,its,n,r,k _ _ (.inl rfl) e⟩
 |tup xs=>obtain ⟨z,its,r,ob,e,c⟩:=x;exact ⟨z,its,r,ob,k _ _ (.inl rfl) e,c⟩
 |dK kvs=>obtain ⟨z,y,vs,r,ob,es,ep,e,c⟩:=x;exact ⟨z,y,vs,r,ob,es,ep,k _ _ (.inl rfl) e,c⟩
 |dT kvs=>
  obtain ⟨z,y,xs,r,ob,es,ep,e,c⟩:=x;exact ⟨z,y,xs,Paired.mapP r λp q z=>⟨z.1,ht _ _ z.2.1,z.2.2⟩,ob,es,ep,k _ _ (.inl rfl) e,c⟩
 |set S n=>obtain ⟨ob,es,ep,t,e,c⟩:=x;exact ⟨ob,es,ep,t,k _ _ (.inl rfl) e,c⟩
 |ins C dx fs=>
  obtain ⟨d,z,ne,e,mA,⟨od,es,ep,e2,c⟩,r⟩:=x;exact ⟨ho _ d,z,ne,k _ _ (.inl rfl) e,mA,⟨od,es,ep,k _ _ (.inr d) e2,c⟩,r⟩
 |own y=>obtain ⟨ob,e⟩:=x;exact ⟨ob,k _ _ (.inl rfl) e⟩
 |xd fs=>obtain ⟨mA,⟨od,es,ep,e,c⟩,r⟩:=x;exact ⟨mA,⟨od,es,ep,k _ _ (.inl rfl) e,c⟩,r⟩
 |rng lo hi=>obtain ⟨t,u,v,e⟩:=x;exact ⟨t,u,v,k _ _ (.inl rfl) e⟩
 |frz ob u ih=>obtain ⟨e,q⟩:=x;exact ⟨k _ _ (.inl rfl) e,ih q⟩
 |tbl ps=>
  have e:h.get? a=some { cls:=.none,data:=.fields ps }:=x;show h'.get? a=some { cls:=.none,data:=.fields ps };exact k a _ (.inl rfl) e
 |met f y=>
  have e:h.get? a=some (PySem.W.methodObj (.ref f) (.ref y)):=x;show h'.get? a=some (PySem.W.methodObj (.ref f) (.ref y));exact k a _ (.inl rfl) e
 |ext φ=>obtain ⟨p,⟨o,e⟩,st⟩:=x;exact ⟨st _ _ p λo q=>k _ _ (.inl rfl) q,⟨o,k _ _ (.inl rfl) e⟩,st⟩
theorem HOk.lt (x:HOk P w H h) (e:H a=some o):a<h.objs.size:=(x a o e).lt
theorem HOk.fresh (x:HOk P w H h) (e:h.objs.size<=a):H a=none:=by
 cases q:H a with
 |none=>rfl
 |some u=>exact absurd (zV5 (x.lt q) e) (zWO _)
theorem HOk.kept (x:HOk P w H h) (k:∀ b u,h.get? b=some u->h'.get? b=some u):HOk P w H h':=λa o e=>
 (x a o e).stay (λb u _ q=>k b u q) (λ_ q=>q) λ_ _ q=>q
theorem HOk.laid (x:HOk P w H h) (k:∀ b u,h.get? b=some u->h'.get? b=some u) (hp:h.objs.size<=a) (new:zAm P w (upd H a o) h' a o):HOk P w (upd H a o) h':=λb u e=>by
 have hn:=x.fresh hp;by_cases hb:b=a
 .subst hb;rw[zt]at e;cases e;exact new
 .rw[zV hb]at e;exact (x b u e).stay (λc v _ q=>k c v q) (λc q=>by rw[zV (zu q hn)];exact q) λc xs q=>by rw[zV (zu q hn)];exact q
end
def Rd (H:Hp) (a:Yt) (u:HO):Prop:=H a=some u \/ ∃ o,H a=some (.frz o u)
theorem Rd.ok {P:Ym} {w:Yo} {H:Hp} {h:Heap} {a:Yt} {u:HO} (r:Rd H a u) (x:HOk P w H h):zAm P w H h a u:=by
 rcases r with r|⟨o,r⟩
 .exact x a u r
 .obtain ⟨_,q⟩:=x a _ r;exact q
def Mut:Option HO->Prop
 |some (.lst _)=>True
 |some (.dK _)=>True
 |some (.dT _)=>True
 |some (.set _ _)=>True
 |some (.ins _ _ _)=>True
 |some (.ext _)=>True
 |_=>False
section
variable {P:Ym} {w:Yo} {H:Hp} {h h':Heap} {x e:Yt} {o':HO}
theorem HOk.write (ok:HOk P w H h) (mu:Mut (H x)) (he:e=x\/H e=some (.own x)) (k:∀ b u,b≠e->h.get? b=some u->h'.get? b=some u) (heo:∃ u,h'.get? e=some u)
  (new:zAm P w (upd H x o') h' x o'):HOk P w (upd H x o') h':=λb u q=>by
 have nown:∀ c y,H c=some (.own y)->c≠x:=λc y r z=>by subst z;rw[r]at mu;exact mu
 have ntup:∀ c xs,H c=some (.tup xs)->c≠x:=λc xs r z=>by subst z;rw[r]at mu;exact mu
 by_cases hb:b=x
 .subst hb;rw[zt]at q;cases q;exact new
 .rw[zV hb]at q;by_cases hbe:b=e
  .have q':H b=some (.own x):=by
    rcases he with z|z
    .exact absurd (hbe.trans z) hb
    .rw[hbe];exact z
   rw[q]at q';cases q';obtain ⟨v,hv⟩:=heo;exact ⟨v,by rw[hbe];exact hv⟩
  .refine (ok b u q).stay (λc v hc r=>k c v ?_ r) (λc r=>by rw[zV (nown c b r)];exact r) λc xs r=>by rw[zV (ntup c xs r)];exact r
   rcases hc with rfl|hc
   .exact hbe
   .rintro rfl;rcases he with z|z
    .exact nown c b hc z
    .rw[hc]at z;cases z;exact hb rfl
end
structure Un (fs ex:Yg) (H H':Hp) (h h':Heap):Prop where
 keep:∀ b o,h.get? b=some o->H b=none->b∉fs->b∉ex->h'.get? b=some o
 slot:∀ b o,h.get? b=some o->H b=none->b∈fs->b∉ex -> ∃ sl,h'.get? b=some { o with slots:=sl }
 free:∀ b o,h.get? b=some o->H b=none->b∉ex->H' b=none
 there:∀ b o,h.get? b=some o->b∉ex -> ∃ o',h'.get? b=some o'
 tups:∀ b xs,H b=some (.tup xs)->H' b=some (.tup xs)
 frzs:∀ b o u,H b=some (.frz o u)->H' b=some (.frz o u)
 tbls:∀ b ps,H b=some (.tbl ps) -> ∃ more,H' b=some (.tbl (ps++more))
section
variable {fs fs' ex ex':Yg} {H H1 H2:Hp} {h h1 h2 h':Heap} {a x e:Yt} {o:HO}
theorem Un.any (u:Un fs ex H H1 h h1) {b:Yt} {ob:Obj} (q:h.get? b=some ob) (n:H b=none) (hx:b∉ex):∃ sl,h1.get? b=some { ob with slots:=sl }:=by
 by_cases hb:b∈fs
 .exact u.slot b ob q n hb hx
 .exact ⟨ob.slots,u.keep b ob q n hb hx⟩
theorem Un.kept (k:∀ b u,h.get? b=some u->h'.get? b=some u):Un fs ex H H h h' :=
 ⟨λb ob q _ _ _=>k b ob q,λb ob q _ _ _=>⟨ob.slots,k b ob q⟩,λ_ _ _ n _=>n,λb ob q _=>⟨ob,k b ob q⟩,λ_ _ q=>q,λ_ _ _ q=>q,λ_ ps q=>⟨#[],by rw[q];simp⟩⟩
theorem Un.refl:Un fs ex H H h h:=Un.kept λ_ _ q=>q
theorem Un.laid (k:∀ b u,h.get? b=some u->h'.get? b=some u) (hp:h.objs.size<=a) (hn:H a=none):Un fs ex H (upd H a o) h h' where
 keep:=λb u q _ _ _=>k b u q;slot:=λb u q _ _ _=>⟨u.slots,k b u q⟩;free:=λb u q n _=>by rw[zV (zV1 (zV5 (zVr q) hp))];exact n
 there:=λb u q _=>⟨u,k b u q⟩;tups:=λb xs q=>by rw[zV (zu q hn)];exact q
 frzs:=λb u xs q=>by rw[zV (zu q hn)];exact q
 tbls:=λb ps q=>⟨#[],by rw[zV (zu q hn),q];simp⟩
theorem Un.write (mu:Mut (H x)) (he:e=x\/H e=some (.own x)) (k:∀ b u,b≠e->h.get? b=some u->h'.get? b=some u) (heo:∃ u,h'.get? e=some u):Un fs ex H (upd H x o) h h':=by
 have hx:∀ b,H b=none->b≠x:=λb n z=>by subst z;rw[n]at mu;exact mu
 have hb:∀ b,H b=none->b≠e:=λb n z=>by
  subst z;rcases he with r|r
  .exact hx b n r
  .rw[n]at r;cases r
 have hm:∀ b u,H b=some u -> ¬ Mut (some u)->b≠x:=λb u q nm z=>by subst z;rw[q]at mu;exact nm mu
 refine ⟨λb u q n _ _=>k b u (hb b n) q,λb u q n _ _=>⟨u.slots,k b u (hb b n) q⟩,λb u q n _=>by rw[zV (hx b n)];exact n,λb u q _=>?_,
  λb xs q=>by rw[zV (hm b _ q λz=>z)];exact q,λb u xs q=>by rw[zV (hm b _ q λz=>z)];exact q,λb ps q=>⟨#[],by rw[zV (hm b _ q λz=>z),q];simp⟩⟩
 by_cases hbe:b=e
 .subst hbe;exact heo
 .exact ⟨u,k b u hbe q⟩
end
def trk (h:Heap) (H:Hp):List Addr:=(List.range h.objs.size).filter λa=>(H a).isSome
def zIr (h:Heap) (H:Hp):Heap:=PySem.W.hideAll h (trk h H)
theorem zNl (h:Heap) (H:Hp):(zIr h H).objs.size=h.objs.size:=PySem.W.hideAll_size _ _
theorem zO9 {h:Heap} {H:Hp} {b:Yt} {o:Obj} (e:h.get? b=some o) (n:H b=none):(zIr h H).get? b=some o :=
 PySem.W.hideAll_get _ e λhm=>by
  have q:(H b).isSome=true:=(zWr.mp hm).2;rw[n]at q;simp at q
theorem zQq {h:Heap} {H:Hp} {b:Yt} {o:Obj} (e:(zIr h H).get? b=some o):h.get? b=some o/\H b=none:=by
 have e':h.get? b=some o:=PySem.W.of_hideAll (trk h H) e;refine ⟨e',?_⟩;cases q:H b with
 |none=>rfl
 |some x=>
  have hm:b∈trk h H:=zWr.mpr ⟨zWK.mpr (zVr e'),by simp[q]⟩;have z:(zIr h H).get? b=none:=PySem.W.hideAll_none (trk h H) hm;rw[z]at e;cases e
structure Mod (K:Yb) (mg:Yh) (base:Heap):Prop where
 kin:K.In base
 glob:base.Ns mainGlobals mg
 blt:∃ mb,base.Ns builtinsNs mb /\ ∀ x:Str,x ≠ "__name__" -> mb x=bootBuiltins x
 nolimit:base.NoLimit
structure Cx where
 prog:Program
 w:World
 K:PySem.W.Frag
 mg:Str->Option Value
 base:Heap
 A:Around
 N:List Str
 s₀:Shared
 H₀:Hp
 env:Env
 outer:List Env
 stack:List Env
 ex:List Addr
 fn:Str->Bool
 calm:Bool
 pn:List (Addr × Obj)
 xe:Value->Shared->Prop
def frs (l:List Env):List Addr:=l.filterMap (·.frame)
abbrev Cx.fs (X:Cx):List Addr:=frs X.outer
def Vis (sc:Y0) (x:Str):Prop:=sc.names.lookup x=some .local\/sc.names.lookup x=some .cell\/sc.names.lookup x=some .free
def Loc (sc:Y0) (x:Str):Prop:=sc.names.lookup x=some .local\/sc.names.lookup x=some .cell
def zVb (env:Env) (h:Heap) (m:Yh) (x:Str) (u:Yu):Prop :=
 (env.kindOf x=some .local/\m x=some u)\/((env.kindOf x=some .cell\/env.kindOf x=some .free) /\ ∃ c,env.cells.lookup x=some c/\h.IsCell c (some u))
structure Cx.Ok (X:Cx):Prop where
 mod:Mod X.K X.mg X.base
 kind:X.env.scope.kind=.function
 glob:X.env.globals=mainGlobals
 blt:X.env.builtins=builtinsNs
 above:X.s₀.heap.objs.size<=X.env.locals
 inj:∀ x y c,X.env.cells.lookup x=some c->X.env.cells.lookup y=some c->x=y
 has:∀ x,(X.env.kindOf x=some .cell\/X.env.kindOf x=some .free) -> ∃ c,X.env.cells.lookup x=some c
 cab:∀ x c,X.fn x=true->X.env.cells.lookup x=some c->X.s₀.heap.objs.size<=c
 hd:X.calm=true->X.A.handled=none
 frames:X.A.frames=some X.stack
 stk:X.stack=X.outer\/(X.stack=X.env::X.outer/\X.env.frame=some X.env.locals)
 exf:∀ b∈X.ex,b≠X.env.locals /\ ∀ x c,X.env.cells.lookup x=some c->c≠b
 bs:∀ b o,X.base.get? b=some o->X.s₀.heap.get? b=some o/\X.H₀ b=none
 bsz:X.base.objs.size<=X.s₀.heap.objs.size
 noex:∀ b o,X.base.get? b=some o->b∉X.ex
 exfs:∀ b∈X.ex,b∉X.fs
 funs:X.s₀.heap.FunFrames X.base X.outer
 frf:∀ b∈X.fs,X.H₀ b=none
structure Inv (X:Cx) (zB:Yd) (σ:List (Option V)) (H:Hp) (s:Yl):Prop where
 ok:X.Ok
 os:s.os=X.s₀.os
 bare:AllBare s.gens
 base:Un X.fs X.ex X.H₀ H X.s₀.heap s.heap
 loc:∃ m,s.heap.Ns X.env.locals m /\ ∀ (i:Nat) (x:Str) (v:V),X.N[i]?=some x->σ[i]?=some (some v)->Vis X.env.scope x -> ∃ u,ze v u/\zVb X.env s.heap m x u
 cell:∀ x c,X.env.cells.lookup x=some c -> ∃ v,s.heap.IsCell c v
 free:H X.env.locals=none
 freeC:∀ x c,X.env.cells.lookup x=some c->H c=none
 pin:∀ p∈X.pn++zB,s.heap.get? p.1=some p.2/\H p.1=none/\p.1≠X.env.locals/\p.1∉X.fs /\ ∀ v,p.2.data≠.cell v
 hok:HOk X.prog X.w H s.heap
 len:σ.length=X.N.length
section
variable {X:Cx} {zB:Yd} {σ:List (Option V)} {H H':Hp} {s:Yl} {h':Heap}
theorem Cx.Ok.nofr (ok:X.Ok) {b:Yt} {o:Obj} (e:X.base.get? b=some o):b∉X.fs:=λhb=>by
 have:=(ok.funs.mem hb).1;rw[e]at this;cases this
theorem Inv.bs (I:Inv X zB σ H s):∀ b o,X.base.get? b=some o->s.heap.get? b=some o/\H b=none:=λb o e=>
 ⟨I.base.keep b o (I.ok.bs b o e).1 (I.ok.bs b o e).2 (I.ok.nofr e) (I.ok.noex b o e),I.base.free b o (I.ok.bs b o e).1 (I.ok.bs b o e).2 (I.ok.noex b o e)⟩
theorem Inv.bk (I:Inv X zB σ H s):∀ b o,X.base.get? b=some o->s.heap.get? b=some o:=λb o e=>(I.bs b o e).1
theorem Inv.mod (I:Inv X zB σ H s):Mod X.K X.mg X.base:=I.ok.mod
theorem Inv.kIn (I:Inv X zB σ H s):X.K.In s.heap:=I.ok.mod.kin.keeps I.bk
theorem Inv.lt (I:Inv X zB σ H s):X.env.locals<s.heap.objs.size:=let ⟨_,hn,_⟩:=I.loc;hn.lt
theorem Inv.sz (I:Inv X zB σ H s):X.s₀.heap.objs.size<=s.heap.objs.size:=zV7 I.ok.above (Nat.le_of_lt I.lt)
theorem Inv.nofs (I:Inv X zB σ H s) {a:Yt} (h:s.heap.objs.size<=a):a∉X.fs:=λhb=>by
 obtain ⟨_,o,ho,_⟩:=I.ok.funs.mem hb;exact absurd (zV5 (zVr ho) (zV7 I.sz h)) (zWO _)
theorem Inv.cne (I:Inv X zB σ H s):∀ x c,X.env.cells.lookup x=some c->c≠X.env.locals:=λx c e z=>by
 obtain ⟨v,o,ho,hd⟩:=I.cell x c e;obtain ⟨m,⟨o',es,ep,ho',hd',_⟩,_⟩:=I.loc;rw[z,ho']at ho;cases ho;rw[hd']at hd;cases hd
theorem Inv.funs (I:Inv X zB σ H s):s.heap.FunFrames X.base X.outer:=by
 have all:∀ (l:List Env),(∀ b∈frs l,b∈X.fs)->X.s₀.heap.FunFrames X.base l->s.heap.FunFrames X.base l:=by
  intro l;induction l with
  |nil=>intro _ _;trivial
  |cons env r ih=>
   intro hs hl;obtain ⟨hk,⟨L,o,hf,hn,ho,hd⟩,hr⟩:=hl;have hL:L∈X.fs:=hs L (by unfold frs;rw[List.filterMap_cons,hf];exact zVu);obtain ⟨sl,e⟩:=I.base.slot L o ho (I.ok.frf L hL) hL λz=>I.ok.exfs L z hL;exact ⟨hk,⟨L,_,hf,hn,e,hd⟩,ih (λb hb=>hs b (by unfold frs;rw[List.filterMap_cons,hf];exact zVt _ hb)) hr⟩
 exact all X.outer (λ_ hb=>hb) I.ok.funs
theorem Inv.stack (I:Inv X zB σ H s):s.heap.FunFrames X.base X.stack:=by
 rcases I.ok.stk with e|⟨e,hf⟩
 .rw[e];exact I.funs
 .rw[e];obtain ⟨m,hn,_⟩:=I.loc;refine .cons (by rw[I.ok.kind];decide) hf hn ?_ I.funs;exact Heap.get?_none_of_le (zV7 I.ok.bsz I.ok.above)
theorem Inv.stkSub (I:Inv X zB σ H s):∀ b∈frs X.stack,b∈X.env.locals::X.fs:=λb hb=>by
 rcases I.ok.stk with e|⟨e,hf⟩
 .rw[e]at hb;exact zVt _ hb
 .rw[e]at hb;unfold frs at hb;rw[List.filterMap_cons,hf]at hb;exact hb
theorem Inv.stkFree (I:Inv X zB σ H s):∀ b∈frs X.stack,H b=none:=λb hb=>by
 rcases zVs.mp (I.stkSub b hb)with e|hb
 .rw[e];exact I.free
 .obtain ⟨_,o,ho,_⟩:=I.ok.funs.mem hb;exact I.base.free b o ho (I.ok.frf b hb) λz=>I.ok.exfs b z hb
theorem Inv.step {g':Array GenState} {t':Nat} {d':Drawn} {ch:Yg} (I:Inv X zB σ H s)
  (hch:∀ b∈ch,(b∈X.ex\/X.s₀.heap.objs.size<=b)/\b≠X.env.locals/\(∀ x c,X.env.cells.lookup x=some c->c≠b) /\ ∀ p∈X.pn++zB,p.1≠b)
  (keep:∀ b o,b≠X.env.locals->b∉X.fs->b∉ch->s.heap.get? b=some o->H b=none->h'.get? b=some o)
  (slot:∀ b o,b≠X.env.locals->b∈X.fs->b∉ch->s.heap.get? b=some o->H b=none -> ∃ sl,h'.get? b=some { o with slots:=sl }) (free:∀ b o,b∉ch->s.heap.get? b=some o->H b=none->H' b=none)
  (there:∀ b o,b∉ch->s.heap.get? b=some o -> ∃ o',h'.get? b=some o')
  (tups:∀ b xs,H b=some (.tup xs)->H' b=some (.tup xs)) (frzs:∀ b o u,H b=some (.frz o u)->H' b=some (.frz o u)) (tbls:∀ b ps,H b=some (.tbl ps) -> ∃ more,H' b=some (.tbl (ps++more)))
  (ns:∀ m,s.heap.Ns X.env.locals m->h'.Ns X.env.locals m) (hok:HOk X.prog X.w H' h') (hg:AllBare g') :
  Inv X zB σ H' { s with heap:=h',gens:=g',drawn:=d',toks:=t' }:=by
 have neL:∀ b o,X.s₀.heap.get? b=some o->b≠X.env.locals:=λb o e=>zV1 (zV5 (zVr e) I.ok.above);have neC:∀ b o,X.s₀.heap.get? b=some o->b∉X.ex->b∉ch:=λb o e hx hb=>by
  rcases (hch b hb).1 with z|z
  .exact hx z
  .exact absurd (zV5 (zVr e) z) (zWO _)
 have cellK:∀ x c,X.env.cells.lookup x=some c -> ∀ v,s.heap.IsCell c v->h'.IsCell c v:=λx c e v ⟨o,ho,hd⟩=>by
  have nch:c∉ch:=λz=>(hch c z).2.2.1 x c e rfl;by_cases hc:c∈X.fs
  .obtain ⟨sl,q⟩:=slot c o (I.cne x c e) hc nch ho (I.freeC x c e);exact ⟨_,q,hd⟩
  .exact ⟨o,keep c o (I.cne x c e) hc nch ho (I.freeC x c e),hd⟩
 refine ⟨I.ok,I.os,hg,⟨λb o e n hb hx=>?_,λb o e n hb hx=>?_,λb o e n hx=>?_,λb o e hx=>?_,λb xs e=>tups b xs (I.base.tups b xs e),λb o xs e=>frzs b o xs (I.base.frzs b o xs e),λb ps e=>?_⟩,?_,λx c e=>?_,?_,λx c e=>?_,λp hp=>?_,hok,I.len⟩
 .exact keep b o (neL b o e) hb (neC b o e hx) (I.base.keep b o e n hb hx) (I.base.free b o e n hx)
 .obtain ⟨sl,e1⟩:=I.base.slot b o e n hb hx;obtain ⟨sl',e2⟩:=slot b _ (neL b o e) hb (neC b o e hx) e1 (I.base.free b o e n hx);exact ⟨sl',e2⟩
 .obtain ⟨o',e1⟩:=I.base.there b o e hx;exact free b o' (neC b o e hx) e1 (I.base.free b o e n hx)
 .obtain ⟨o',e1⟩:=I.base.there b o e hx;exact there b o' (neC b o e hx) e1
 .obtain ⟨m1,e1⟩:=I.base.tbls b ps e;obtain ⟨m2,e2⟩:=tbls b _ e1;exact ⟨m1++m2,by rw[e2,Array.append_assoc]⟩
 .obtain ⟨m,hn,hl⟩:=I.loc;refine ⟨m,ns m hn,λi x v e1 e2 e3=>?_⟩;obtain ⟨u,r,l⟩:=hl i x v e1 e2 e3;refine ⟨u,r,?_⟩;rcases l with l|⟨k,c,e,z⟩
  .exact .inl l
  .exact .inr ⟨k,c,e,cellK x c e _ z⟩
 .obtain ⟨v,z⟩:=I.cell x c e;exact ⟨v,cellK x c e v z⟩
 .obtain ⟨m,⟨o,_,_,ho,_⟩,_⟩:=I.loc;exact free _ o (λz=>(hch _ z).2.1 rfl) ho I.free
 .obtain ⟨v,o,ho,hd⟩:=I.cell x c e;exact free c o (λz=>(hch c z).2.2.1 x c e rfl) ho (I.freeC x c e)
 .obtain ⟨e,n,ne,nf,d⟩:=I.pin p hp;have nch:p.1∉ch:=λz=>(hch p.1 z).2.2.2 p hp rfl;exact ⟨keep p.1 p.2 ne nf nch e n,free p.1 p.2 nch e n,ne,nf,d⟩
theorem Inv.un {t':Nat} (I:Inv X zB σ H s) (u:Un X.fs [] H H' s.heap h') (hok:HOk X.prog X.w H' h'):Inv X zB σ H' { s with heap:=h',toks:=t' }:=by
 obtain ⟨m,⟨o,es,ep,ho,r⟩,_⟩:=id I.loc;obtain ⟨sl,hL⟩:=u.any ho I.free (by simp);exact I.step (g':=s.gens) (d':=s.drawn) (ch:=[]) (λ_ z=>nomatch z) (λb o _ hb _ e n=>u.keep b o e n hb (by simp)) (λb o _ hb _ e n=>u.slot b o e n hb (by simp)) (λb o _ e n=>u.free b o e n (by simp)) (λb o _ e=>u.there b o e (by simp)) u.tups u.frzs u.tbls (λm' hm=>by
  obtain ⟨o',es',ep',ho',r'⟩:=hm;rw[ho]at ho';cases ho';exact ⟨_,es',ep',hL,r'⟩) hok I.bare
theorem Inv.call {g':Array GenState} {t':Nat} {d':Drawn} {ch:Yg} (I:Inv X zB σ H s) (u:Un (frs X.stack) ch H H' s.heap h') (hok:HOk X.prog X.w H' h') (hg:AllBare g')
  (hch:∀ b∈ch,(b∈X.ex\/X.s₀.heap.objs.size<=b)/\b≠X.env.locals/\(∀ x c,X.env.cells.lookup x=some c->c≠b) /\ ∀ p∈X.pn++zB,p.1≠b) :
  Inv X zB σ H' { s with heap:=h',gens:=g',drawn:=d',toks:=t' }:=by
 obtain ⟨m,⟨o,es,ep,ho,r⟩,_⟩:=id I.loc;obtain ⟨sl,hL⟩:=u.any ho I.free λz=>(hch _ z).2.1 rfl;exact I.step (ch:=ch) hch (λb o hL hb hc e n=>u.keep b o e n (λz=>(zVs.mp (I.stkSub b z)).elim hL hb) hc) (λb o _ _ hc e n=>u.any e n hc) (λb o hc e n=>u.free b o e n hc) (λb o hc e=>u.there b o e hc) u.tups u.frzs u.tbls (λm' hm=>by
  obtain ⟨o',es',ep',ho',r'⟩:=hm;rw[ho]at ho';cases ho';exact ⟨_,es',ep',hL,r'⟩) hok hg
theorem Inv.turned {t':Nat} {it:Yt} (I:Inv X zB σ H s) (k:∀ b o,b≠it->s.heap.get? b=some o->h'.get? b=some o) (hn:H it=none) (hL:it≠X.env.locals)
  (h1:it∈X.ex\/X.s₀.heap.objs.size<=it) (h2:∀ x c,X.env.cells.lookup x=some c->c≠it) (h3:∀ p∈X.pn++zB,p.1≠it):Inv X zB σ H { s with heap:=h',toks:=t' }:=by
 have nit:∀ b u,H b=some u->b≠it:=λb u e z=>by rw[z,hn]at e;cases e
 refine I.step (g':=s.gens) (d':=s.drawn) (ch:=[it]) (λb hb=>?_) (λb o _ _ hc e _=>k b o (λz=>hc (by simp[z])) e) (λb o _ _ hc e _=>⟨o.slots,k b o (λz=>hc (by simp[z])) e⟩) (λ_ _ _ _ n=>n)
  (λb o hc e=>⟨o,k b o (λz=>hc (by simp[z])) e⟩) (λ_ _ e=>e) (λ_ _ _ e=>e) (λb ps e=>⟨#[],by rw[e];simp⟩) (λm hm=>?_) (λb u e=>?_) I.bare
 .have e:b=it:=by simpa using hb
  subst e;exact ⟨h1,hL,h2,h3⟩
 .obtain ⟨o,es,ep,ho,r⟩:=hm;exact ⟨o,es,ep,k _ o (Ne.symm hL) ho,r⟩
 .refine (I.hok b u e).stay (λc v hc q=>k c v ?_ q) (λ_ q=>q) λ_ _ q=>q;rcases hc with z|z
  .rw[z];exact nit b u e
  .exact nit c _ z
theorem Inv.tok (I:Inv X zB σ H s) (t:Nat):Inv X zB σ H { s with toks:=t }:=I.un (h':=s.heap) (t':=t) Un.refl I.hok
theorem Inv.kept {t':Nat} (I:Inv X zB σ H s) (k:∀ b u,s.heap.get? b=some u->h'.get? b=some u):Inv X zB σ H { s with heap:=h',toks:=t' }:=I.un (Un.kept k) (I.hok.kept k)
theorem Inv.laid {a:Yt} {o:HO} {t':Nat} (I:Inv X zB σ H s) (k:∀ b u,s.heap.get? b=some u->h'.get? b=some u) (hp:s.heap.objs.size<=a) (new:zAm X.prog X.w (upd H a o) h' a o) :
  Inv X zB σ (upd H a o) { s with heap:=h',toks:=t' }:=I.un (Un.laid k hp (I.hok.fresh hp)) (I.hok.laid k hp new)
theorem Inv.write {x e:Yt} {o:HO} {t':Nat} (I:Inv X zB σ H s) (mu:Mut (H x)) (he:e=x\/H e=some (.own x)) (k:∀ b u,b≠e->s.heap.get? b=some u->h'.get? b=some u) (heo:∃ u,h'.get? e=some u)
  (new:zAm X.prog X.w (upd H x o) h' x o):Inv X zB σ (upd H x o) { s with heap:=h',toks:=t' }:=I.un (Un.write mu he k heo) (I.hok.write mu he k heo new)
theorem Inv.weak {σ':List (Option V)} (I:Inv X zB σ H s) (hl:σ'.length=σ.length) (w:∀ (i:Nat) v,σ'[i]?=some (some v)->σ[i]?=some (some v)):Inv X zB σ' H s :=
 ⟨I.ok,I.os,I.bare,I.base,let ⟨m,hn,hl'⟩:=I.loc;⟨m,hn,λi x v e1 e2 e3=>hl' i x v e1 (w i v e2) e3⟩,I.cell,I.free,I.freeC,I.pin,I.hok,hl.trans I.len⟩
theorem Inv.pins_of {pins':Yd} (I:Inv X zB σ H s) (h:∀ p∈pins',s.heap.get? p.1=some p.2/\H p.1=none/\p.1≠X.env.locals/\p.1∉X.fs /\ ∀ v,p.2.data≠.cell v):Inv X pins' σ H s :=
 ⟨I.ok,I.os,I.bare,I.base,I.loc,I.cell,I.free,I.freeC,λp hp=>(zV6.mp hp).elim (λz=>I.pin p (zWv _ z)) (h p),I.hok,I.len⟩
theorem zKF {N:Yk} (hN:N.Nodup) {i j:Nat} {x:Str} (a:N[i]?=some x) (b:N[j]?=some x):i=j:=by
 obtain ⟨h1,e1⟩:=zVj.mp a;obtain ⟨h2,e2⟩:=zVj.mp b;exact (List.getElem_inj hN).mp (e1.trans e2.symm)
theorem zMz {M:Model} {A:Yn} {E:Yc} {i:Nat} {x:Str} {v:V} {u:Yu} {Q:Unit->Shared->Prop} (I:Inv X zB σ H s) (hN:X.N.Nodup) (hi:X.N[i]?=some x) (hx:Loc X.env.scope x) (r:ze v u)
  (h:∀ s',Inv X zB (σ.set i (some v)) H s'->(∃ a,Heap.SameBut a s.heap s'.heap/\(a=X.env.locals\/X.env.cells.lookup x=some a))->Q () s') (hf:X.fn x=true\/X.env.scope.names.lookup x=some .local:=by first|exact .inl rfl|exact .inr rfl|assumption):wpAny M A (storeName X.env x u) Q E s:=by
 obtain ⟨m,hn,hl⟩:=id I.loc;have hcls:(X.env.scope.kind == .class||(X.env.scope.kind == .module&&X.env.locals != X.env.globals))=false:=by rw[I.ok.kind];rfl
 have hiσ:i<σ.length:=by rw[I.len];exact (zVj.mp hi).1
 have cne:=I.cne;have tracked:∀ {a:Yt} {h':Heap},(∃ o,s.heap.get? a=some o/\H a=none)->Heap.SameBut a s.heap h'->HOk X.prog X.w H h':=λ{a h'} ha hs b ob e=>by
  obtain ⟨_,_,hfree⟩:=ha;refine (I.hok b ob e).stay (λc w' hc q=>(hs.2 c ?_).trans q) (λ_ q=>q) λ_ _ q=>q;rintro rfl;rcases hc with rfl|hc
  .rw[hfree]at e;cases e
  .rw[hfree]at hc;cases hc
 rcases hx with hk|hk
 .refine wpAny_storeName_local hk hn (λh' hn' hs=>?_) hcls;obtain ⟨oL,_,_,hoL,_⟩:=id hn;refine h _ ⟨I.ok,I.os,I.bare,⟨λb o e n hb hx=>?_,λb o e n hb hx=>?_,I.base.free,λb o e hx=>?_,I.base.tups,I.base.frzs,I.base.tbls⟩,⟨_,hn',λj y v' e1 e2 e3=>?_⟩,λy c e=>?_,I.free,I.freeC,λp hp=>?_,tracked ⟨oL,hoL,I.free⟩ hs,by simpa using I.len⟩ ⟨_,hs,.inl rfl⟩
  .exact (hs.2 b (zV1 (zV5 (zVr e) I.ok.above))).trans (I.base.keep b o e n hb hx)
  .obtain ⟨sl,e1⟩:=I.base.slot b o e n hb hx;exact ⟨sl,(hs.2 b (zV1 (zV5 (zVr e) I.ok.above))).trans e1⟩
  .obtain ⟨o',e1⟩:=I.base.there b o e hx;exact ⟨o',(hs.2 b (zV1 (zV5 (zVr e) I.ok.above))).trans e1⟩
  .by_cases hj:j=i
   .subst hj;rw[hi]at e1;cases e1;rw[zWa hiσ]at e2;cases e2;exact ⟨u,r,.inl ⟨hk,by simp⟩⟩
   .rw[zWA (Ne.symm hj)]at e2;obtain ⟨u',r',q⟩:=hl j y v' e1 e2 e3;refine ⟨u',r',?_⟩;rcases q with ⟨k,e⟩|⟨k,c,e,z⟩
    .refine .inl ⟨k,?_⟩;have:y≠x:=λe=>hj (zKF hN e1 (e▸hi));simp[this,e]
    .exact .inr ⟨k,c,e,z.sameBut hs (cne y c e)⟩
  .obtain ⟨w',z⟩:=I.cell y c e;exact ⟨w',z.sameBut hs (cne y c e)⟩
  .obtain ⟨e,n,ne,nf,d⟩:=I.pin p hp;exact ⟨(hs.2 p.1 ne).trans e,n,ne,nf,d⟩
 .have hfn:X.fn x=true:=by
   rcases hf with z|z
   .exact z
   .rw[z]at hk;cases hk
  obtain ⟨c,hc⟩:=I.ok.has x (.inl hk);obtain ⟨w',z⟩:=I.cell x c hc;refine wpAny_storeName_cell I.ok.kind hk hc z (λh' hc' hs=>?_);obtain ⟨oc,hoc,hocd⟩:=id z;refine h { s with heap:=h' } ⟨I.ok,I.os,I.bare,⟨λb o e n hb hx=>?_,λb o e n hb hx=>?_,I.base.free,λb o e hx=>?_,I.base.tups,I.base.frzs,I.base.tbls⟩,⟨m,hn.sameBut hs (Ne.symm (cne x c hc)),λj y v' e1 e2 e3=>?_⟩,λy c' e=>?_,I.free,I.freeC,λp hp=>?_,tracked ⟨oc,hoc,I.freeC x c hc⟩ hs,by simpa using I.len⟩ ⟨c,hs,.inr hc⟩
  .exact (hs.2 b (zV1 (zV5 (zVr e) (I.ok.cab x c hfn hc)))).trans (I.base.keep b o e n hb hx)
  .obtain ⟨sl,e1⟩:=I.base.slot b o e n hb hx;exact ⟨sl,(hs.2 b (zV1 (zV5 (zVr e) (I.ok.cab x c hfn hc)))).trans e1⟩
  .obtain ⟨o',e1⟩:=I.base.there b o e hx;exact ⟨o',(hs.2 b (zV1 (zV5 (zVr e) (I.ok.cab x c hfn hc)))).trans e1⟩
  .by_cases hj:j=i
   .subst hj;rw[hi]at e1;cases e1;rw[zWa hiσ]at e2;cases e2;exact ⟨u,r,.inr ⟨.inl hk,c,hc,hc'⟩⟩
   .rw[zWA (Ne.symm hj)]at e2;obtain ⟨u',r',q⟩:=hl j y v' e1 e2 e3;refine ⟨u',r',?_⟩;rcases q with q|⟨k,c',e,z'⟩
    .exact .inl q
    .refine .inr ⟨k,c',e,z'.sameBut hs ?_⟩;rintro rfl;exact hj (zKF hN e1 (I.ok.inj _ _ _ e hc▸hi))
  .by_cases hcc:c'=c
   .subst hcc;exact ⟨_,hc'⟩
   .obtain ⟨w2,z2⟩:=I.cell y c' e;exact ⟨w2,z2.sameBut hs hcc⟩
  .obtain ⟨e,n,ne,nf,d⟩:=I.pin p hp;refine ⟨(hs.2 p.1 ?_).trans e,n,ne,nf,d⟩;intro q;rw[q,hoc]at e;have q':oc=p.2:=zWg e;exact d w' (by rw[<-q'];exact hocd)
theorem zJX {M:Model} {A:Yn} {E:Yc} {i:Nat} {x:Str} {v:V} {u:Yu} {Q:Unit->Shared->Prop} (I:Inv X zB σ H s) (hN:X.N.Nodup) (hi:X.N[i]?=some x) (hx:Loc X.env.scope x) (r:ze v u)
  (h:∀ s',Inv X zB (σ.set i (some v)) H s'->Q () s') (hf:X.fn x=true\/X.env.scope.names.lookup x=some .local:=by first|exact .inl rfl|exact .inr rfl|assumption):wpAny M A (storeName X.env x u) Q E s :=
 zMz I hN hi hx r (λs' I' _=>h s' I') hf
theorem Inv.call' {s':Yl} {ch:Yg} (I:Inv X zB σ H s) (ho:s'.os=s.os) (u:Un (frs X.stack) ch H H' s.heap s'.heap) (hok:HOk X.prog X.w H' s'.heap) (hg:AllBare s'.gens)
  (hch:∀ b∈ch,(b∈X.ex\/X.s₀.heap.objs.size<=b)/\b≠X.env.locals/\(∀ x c,X.env.cells.lookup x=some c->c≠b) /\ ∀ p∈X.pn++zB,p.1≠b):Inv X zB σ H' s':=by
 obtain ⟨h',g',d',t',o'⟩:=s';have e:o'=s.os:=ho;subst e;exact I.call (g':=g') (t':=t') (d':=d') u hok hg hch
end
abbrev XK:=Value->Option Addr->Hp->Prop
abbrev St:=List (Option V)
abbrev VK:=V->Hp->Prop
abbrev TE:=St->Hp->VK->Prop
abbrev TT:=St->Hp->(Bool->Hp->Prop)->Prop
abbrev TA:=St->Hp->(List V->Hp->Prop)->Prop
structure Ends where
 nx:St->Hp->Prop
 rt:VK
 bk:St->Hp->Prop:=λ_ _=>False
 ct:St->Hp->Prop:=λ_ _=>False
abbrev TS:=Ends->St->Hp->Prop
def EP (X:Cx) (zB:Yd) (σ:St) (Q:VK) (u:Yu) (s':Yl):Prop:=∃ v H',Inv X zB σ H' s'/\ze v u/\Q v H'
def TP (X:Cx) (zB:Yd) (σ:St) (Q:Bool->Hp->Prop) (b:Bool) (s':Yl):Prop:=∃ H',Inv X zB σ H' s'/\Q b H'
def AP (X:Cx) (zB:Yd) (σ:St) (Q:List V->Hp->Prop) (us:Yf) (s':Yl):Prop:=∃ vs H',Inv X zB σ H' s'/\zb vs us/\Q vs H'
def SP (X:Cx) (zB:Yd) (D:Ends) (f:Flow) (s':Yl):Prop :=
 match f with
 |.next=>∃ σ' H',Inv X zB σ' H' s'/\D.nx σ' H'
 |.brk=>∃ σ' H',Inv X zB σ' H' s'/\D.bk σ' H'
 |.cont=>∃ σ' H',Inv X zB σ' H' s'/\D.ct σ' H'
 |.ret u=>∃ v σ' H',Inv X zB σ' H' s'/\ze v u/\D.rt v H'
def PE (X:Cx) (e:Expr) (t:TE):Prop :=
 ∀ (zB:Yd) (s:Yl) (σ:St) (H:Hp) (Q:VK),Inv X zB σ H s->t σ H Q->wpAny (model X.prog X.w) X.A (eval e X.env) (EP X zB σ Q) X.xe s
def PT (X:Cx) (e:Expr) (t:TT):Prop :=
 ∀ (zB:Yd) (s:Yl) (σ:St) (H:Hp) (Q:Bool->Hp->Prop),Inv X zB σ H s->t σ H Q->wpAny (model X.prog X.w) X.A (isTrue e X.env (eval e X.env)) (TP X zB σ Q) X.xe s
def PW (X:Cx) (e:Expr) (t:TT):Prop :=
 ∀ (whole:Sem Value) (zB:Yd) (s:Yl) (σ:St) (H:Hp) (Q:Bool->Hp->Prop),Inv X zB σ H s->t σ H Q->wpAny (model X.prog X.w) X.A (isTrue e X.env whole) (TP X zB σ Q) X.xe s
theorem PW.pt {X:Cx} {e:Expr} {t:TT} (h:PW X e t):PT X e t:=h _
def PA (X:Cx) (es:Yi) (t:TA):Prop :=
 ∀ (pos:Pos) (zB:Yd) (s:Yl) (σ:St) (H:Hp) (Q:List V->Hp->Prop),Inv X zB σ H s->t σ H Q->wpAny (model X.prog X.w) X.A (spliced (backTo pos (starEach es X.env))) (AP X zB σ Q) X.xe s
def PS (X:Cx) (st:Stmt) (t:TS):Prop :=
 ∀ (zB:Yd) (s:Yl) (σ:St) (H:Hp) (D:Ends),Inv X zB σ H s->t D σ H->wpAny (model X.prog X.w) X.A (exec st X.env) (SP X zB D) X.xe s
def PSs (X:Cx) (st:Yy) (t:TS):Prop :=
 ∀ (zB:Yd) (s:Yl) (σ:St) (H:Hp) (D:Ends),Inv X zB σ H s->t D σ H->wpAny (model X.prog X.w) X.A (execs st X.env) (SP X zB D) X.xe s
theorem thn {α:Type} {t:Sem α} {Q Q':α->Shared->Prop} {M:Model} {A:Yn} {E:Yc} {s:Yl} (h:wpAny M A t Q E s) (hQ:∀ a s,Q a s->Q' a s):wpAny M A t Q' E s:=zWC h hQ λ_ _ x=>x
section
variable {X:Cx}
def zTl (i:Nat):TE:=λσ H Q=>∃ v,σ[i]?=some (some v)/\Q v H
def tC (v:V):TE:=λ_ H Q=>Q v H
theorem zTE {i:Nat} {x:Str} {pos:Pos} (hN:X.N[i]?=some x) (hv:Vis X.env.scope x) (hd:(x==("__debug__" : Str))=false:=by decide) (hcd:(x==("__classdict__" : Str))=false:=by decide):PE X (.Name x pos) (zTl i):=by
 intro zB s σ H Q I h;obtain ⟨v,e,h⟩:=h;obtain ⟨m,hn,hl⟩:=I.loc;obtain ⟨u,r,l⟩:=hl i x v hN e hv;have fin:EP X zB σ Q u s:=⟨v,H,I,r,h⟩;rcases l with ⟨hk,hm⟩|⟨hk,c,hc,hcell⟩
 .exact wpAny_Name (wpAny_loadName_local I.ok.kind hk hn hm fin) hd
 .rcases hk with hk|hk
  .exact wpAny_Name (wpAny_loadName_cell I.ok.kind hk hc hcell fin) hd
  .exact wpAny_Name (wpAny_loadName_free I.ok.kind hk hc hcell fin hcd) hd
theorem zTD {i j pos}:PE X (.Constant (.int i) j pos) (tC (.int i)):=λ_ _ _ H _ I h=>wpAny_Constant_int ⟨.int i,H,I.tok _,⟨_,rfl⟩,h⟩
theorem zTs {b j pos}:PE X (.Constant (.bool b) j pos) (tC (.bl b)):=λ_ _ _ H _ I h=>Constant_bool ⟨.bl b,H,I,rfl,h⟩
theorem zTH {j pos}:PE X (.Constant .none j pos) (tC .non):=λ_ _ _ H _ I h=>Constant_none ⟨.non,H,I,rfl,h⟩
def Gl (X:Cx) (x:Str):Prop:=X.env.kindOf x=some .globalImplicit
theorem zRU {E:Yc} {zB:Yd} {s:Yl} {σ:St} {H:Hp} {x:Str} {u:Yu} {pos:Pos} {Q:Yc} (I:Inv X zB σ H s) (hg:Gl X x) (hm:X.mg x=some u) (h:Q u s)
  (hd:(x==("__debug__" : Str))=false:=by decide):wpAny (model X.prog X.w) X.A (eval (.Name x pos) X.env) Q E s :=
 Calls.Name_function_global I.ok.kind hg (Calls.loadGlobal_global (by rw[I.ok.glob];exact I.mod.glob.keeps I.bk) hm h) hd
theorem zGD {E:Yc} {zB:Yd} {s:Yl} {σ:St} {H:Hp} {x:Str} {u:Yu} {pos:Pos} {Q:Yc} (I:Inv X zB σ H s) (hg:Gl X x) (hm:X.mg x=none) (hv:bootBuiltins x=some u) (h:Q u s)
  (hn:x ≠ "__name__" := by decide) (hd:(x==("__debug__" : Str))=false:=by decide):wpAny (model X.prog X.w) X.A (eval (.Name x pos) X.env) Q E s:=by
 obtain ⟨mb,h1,h2⟩:=I.mod.blt;exact Calls.Name_function_global I.ok.kind hg (Calls.loadGlobal_builtin (by rw[I.ok.glob];exact I.mod.glob.keeps I.bk) hm (by rw[I.ok.blt];exact h1.keeps I.bk) ((h2 x hn).trans hv) h) hd
variable {a b:Expr} {ta tb:TE} {pos:Pos}
def PC (X:Cx) (op:CmpOp) (a b:Expr) (t:TE):Prop :=
 ∀ (zB:Yd) (s:Yl) (σ:St) (H:Hp) (Q:VK),Inv X zB σ H s->t σ H Q ->
  wpAny (model X.prog X.w) X.A (eval a X.env) (λv s₁=>wpAny (model X.prog X.w) X.A (eval b X.env) (λu s₂=>wpAny (model X.prog X.w) X.A (compareOp op v u) (EP X zB σ Q) X.xe s₂) X.xe s₁) X.xe s
def tB (t:TE):TT:=λσ H Q=>t σ H λx H1=>∃ c,x=.bl c/\Q c H1
theorem zSO {op:CmpOp} {t:TE} (h:PC X op a b t) (h1:behindInMarks op b=false:=by first|exact nobehind _ (by decide) (by decide)|rfl):PE X (.Compare a [op] [b] pos) t:=λzB s σ H Q I hw=>wpAny_Compare1 (h zB s σ H Q I hw) h1
theorem zP3 {op:CmpOp} {t:TE} (h:PC X op a b t) (h1:behindInMarks op b=false:=by first|exact nobehind _ (by decide) (by decide)|rfl):PT X (.Compare a [op] [b] pos) (tB t):=by
 intro zB s σ H Q I hw;refine wpAny_isTrue_Compare1 (thn (h zB s σ H _ I hw) λv s1 h1=>thn h1 λu s2 h2=>thn h2 λc s3 ⟨x,H1,I1,r1,q1⟩=>?_) h1;obtain ⟨d,rfl,q⟩:=q1;cases r1;exact wpAny_truthy_bool ⟨H1,I1,q⟩
theorem zTG {e:Expr} {t:TE} (h:PE X e t) (he:∀ whole,isTrue e X.env whole=(do let v <- whole;standAt e.pos;holding [v] (truthy v)):=by intro _;rfl):PT X e (tB t):=by
 intro zB s σ H Q I hw;refine isTrue_plain (thn (h zB s σ H _ I hw) λv s1 ⟨x,H1,I1,r1,q1⟩=>?_) (he _);obtain ⟨d,rfl,q⟩:=q1;cases r1;exact wpAny_truthy_bool ⟨H1,I1,q⟩
variable {tA tB':TT} {rest:Yi}
def zVV (t u:TT):TT:=λσ H Q=>t σ H λc H1=>if c=true then u σ H1 Q else Q false H1
def tOr (t u:TT):TT:=λσ H Q=>t σ H λc H1=>if c=true then Q true H1 else u σ H1 Q
def zVT (t:TT):TT:=λσ H Q=>t σ H λc H1=>Q (!c) H1
theorem zQM (ha:PT X a tA):PW X (.BoolOp .And [a] pos) tA:=by
 intro wh zB s σ H Q I h;refine isTrue_and (thn (ha zB s σ H Q I h) λc s1 e=>?_);cases c with
 |true=>exact isTrue_and_nil e
 |false=>exact e
theorem zSP (ha:PT X a tA):PW X (.BoolOp .Or [a] pos) tA:=by
 intro wh zB s σ H Q I h;refine isTrue_or (thn (ha zB s σ H Q I h) λc s1 e=>?_);cases c with
 |false=>exact isTrue_or_nil e
 |true=>exact e
theorem zSI (ha:PT X a tA) (hb:PW X (.BoolOp .And (b::rest) pos) tB'):PW X (.BoolOp .And (a::b::rest) pos) (zVV tA tB'):=by
 intro wh zB s σ H Q I h;refine isTrue_and (thn (ha zB s σ H _ I h) λc s1 ⟨H1,I1,q1⟩=>?_);cases c with
 |true=>exact hb wh zB s1 σ H1 Q I1 q1
 |false=>exact ⟨H1,I1,q1⟩
theorem zUt (ha:PT X a tA) (hb:PW X (.BoolOp .Or (b::rest) pos) tB'):PW X (.BoolOp .Or (a::b::rest) pos) (tOr tA tB'):=by
 intro wh zB s σ H Q I h;refine isTrue_or (thn (ha zB s σ H _ I h) λc s1 ⟨H1,I1,q1⟩=>?_);cases c with
 |true=>exact ⟨H1,I1,q1⟩
 |false=>exact hb wh zB s1 σ H1 Q I1 q1
theorem zSf (ha:PT X a tA):PT X (.UnaryOp .Not a pos) (zVT tA):=by
 intro zB s σ H Q I h;exact isTrue_not (ha zB s σ H (λc H1=>Q (!c) H1) I h)
def tIf (t:TT) (ta tb:TE):TE:=λσ H Q=>t σ H λc H1=>if c=true then ta σ H1 Q else tb σ H1 Q
theorem zOw {c:Expr} (hc:PT X c tA) (ha:PE X a ta) (hb:PE X b tb):PE X (.IfExp c a b pos) (tIf tA ta tb):=by
 intro zB s σ H Q I h;refine wpAny_IfExp (thn (hc zB s σ H _ I h) λd s1 ⟨H1,I1,q1⟩=>?_);cases d with
 |true=>exact ha zB s1 σ H1 Q I1 q1
 |false=>exact hb zB s1 σ H1 Q I1 q1
end
def SqL (K:Yb) (H:Hp) (a:Yt) (xs:List V):Prop :=
 Rd H a (.lst xs) \/
  ∃ (o:Obj) (its:Array Value) (n:Nat),K.lookup a=some o/\o.cls=.type "list" /\ o.dict=none/\o.data=.seq its n/\its.size<=sizeLine/\zb xs its.toList
def SqT (K:Yb) (H:Hp) (a:Yt) (xs:List V):Prop :=
 Rd H a (.tup xs) \/
  ∃ (o:Obj) (its:Array Value) (n:Nat),K.lookup a=some o/\o.cls=.type "tuple" /\ o.data=.seq its n/\its.size<=sizeLine/\zb xs its.toList
def zVM:Value->Option V
 |.none=>some .non
 |.bool b=>some (.bl b)
 |.int i _=>some (.int i)
 |.str x _=>some (.str x)
 |.bytes b _=>some (.byt b)
 |.float b _=>some (.flt b)
 |.ref a=>some (.ref a)
 |.type n=>some (.ty n)
 |_=>none
theorem ze.abs {x:V} {u:Yu} (r:ze x u):zVM u=some x:=by
 cases x with
 |non=>cases r;rfl
 |bl _=>cases r;rfl
 |int _=>obtain ⟨t,rfl⟩:=r;rfl
 |str _=>obtain ⟨t,rfl⟩:=r;rfl
 |byt _=>obtain ⟨t,rfl⟩:=r;rfl
 |flt _=>obtain ⟨t,rfl⟩:=r;rfl
 |ref _=>cases r;rfl
 |ty _=>cases r;rfl
theorem ze.inj {x y:V} {u:Yu} (r:ze x u) (q:ze y u):x=y:=zWg (r.abs.symm.trans q.abs)
theorem zb.inj:∀ {xs ys:List V} {us:Yf},zb xs us->zb ys us->xs=ys
 |_,_,_,.nil,.nil=>rfl
 |_,_,_,.cons r t,.cons r' t'=>by rw[r.inj r',zb.inj t t']
section
variable {X:Cx} {zB:Yd} {σ:St} {H:Hp} {s:Yl} {a:Yt} {xs ys:List V}
theorem SqL.of {K:Yb} (h:H a=some (.lst xs)):SqL K H a xs:=.inl (.inl h)
theorem SqT.of {K:Yb} (h:H a=some (.tup xs)):SqT K H a xs:=.inl (.inl h)
theorem Inv.list (I:Inv X zB σ H s) (h:SqL X.K H a xs):∃ its:List Value,zb xs its/\PlainL s.heap a its.toArray/\xs.length<=sizeLine:=by
 rcases h with h|⟨o,its,n,hk,hc,hd,hs,hz,r⟩
 .obtain ⟨z,its,n,r,e⟩:=h.ok I.hok;exact ⟨its,r,⟨_,n,e,rfl,rfl,rfl⟩,z⟩
 .refine ⟨its.toList,r,⟨o,n,I.kIn a o hk,hc,hd,by simpa using hs⟩,?_⟩;have e:=r.length;simp only[zWP]at e;omega
theorem Inv.tuple (I:Inv X zB σ H s) (h:SqT X.K H a xs):∃ its:List Value,zb xs its/\IsTup s.heap a its.toArray/\xs.length<=sizeLine:=by
 rcases h with h|⟨o,its,n,hk,hc,hs,hz,r⟩
 .obtain ⟨z,its,r,p⟩:=h.ok I.hok;exact ⟨its,r,p.tup,z⟩
 .refine ⟨its.toList,r,⟨o,I.kIn a o hk,hc,n,by simpa using hs⟩,?_⟩;have e:=r.length;simp only[zWP]at e;omega
theorem Inv.list_inj (I:Inv X zB σ H s) (h:SqL X.K H a xs) (h':SqL X.K H a ys):xs=ys:=by
 obtain ⟨its,r,⟨o,n,e,_,_,d⟩,_⟩:=I.list h;obtain ⟨its',r',⟨o',n',e',_,_,d'⟩,_⟩:=I.list h';rw[e]at e';cases e';rw[d]at d';injection d' with d1 _
 have:its=its':=by simpa using congrArg Array.toList d1
 subst this;exact r.inj r'
theorem Inv.tuple_inj (I:Inv X zB σ H s) (h:SqT X.K H a xs) (h':SqT X.K H a ys):xs=ys:=by
 obtain ⟨its,r,⟨o,e,_,n,d⟩,_⟩:=I.tuple h;obtain ⟨its',r',⟨o',e',_,n',d'⟩,_⟩:=I.tuple h';rw[e]at e';cases e';rw[d]at d';injection d' with d1 _
 have:its=its':=by simpa using congrArg Array.toList d1
 subst this;exact r.inj r'
end
abbrev Cx.wish (X:Cx) (E:Yc):Cx:={ X with xe:=E }
abbrev Cx.nox (X:Cx):Cx:=X.wish λ_ _=>False
theorem Cx.Ok.wish {X:Cx} (ok:X.Ok) (E:Yc):(X.wish E).Ok :=
 ⟨ok.mod,ok.kind,ok.glob,ok.blt,ok.above,ok.inj,ok.has,ok.cab,ok.hd,ok.frames,ok.stk,ok.exf,ok.bs,ok.bsz,ok.noex,ok.exfs,ok.funs,ok.frf⟩
theorem Cx.Ok.unwish {X:Cx} {E:Yc} (ok:(X.wish E).Ok):X.Ok :=
 ⟨ok.mod,ok.kind,ok.glob,ok.blt,ok.above,ok.inj,ok.has,ok.cab,ok.hd,ok.frames,ok.stk,ok.exf,ok.bs,ok.bsz,ok.noex,ok.exfs,ok.funs,ok.frf⟩
section
variable {X:Cx} {zB:Yd} {σ:St} {H:Hp} {s:Yl} {E:Yc}
theorem Inv.wish (I:Inv X zB σ H s) (E:Yc):Inv (X.wish E) zB σ H s:=⟨I.ok.wish E,I.os,I.bare,I.base,I.loc,I.cell,I.free,I.freeC,I.pin,I.hok,I.len⟩
theorem Inv.unwish (I:Inv (X.wish E) zB σ H s):Inv X zB σ H s:=⟨I.ok.unwish,I.os,I.bare,I.base,I.loc,I.cell,I.free,I.freeC,I.pin,I.hok,I.len⟩
theorem SP.unwish {D:Ends} {f:Flow} {s':Yl} (h:SP (X.wish E) zB D f s'):SP X zB D f s':=by
 cases f with
 |next=>obtain ⟨σ',H',I,q⟩:=h;exact ⟨σ',H',I.unwish,q⟩
 |brk=>obtain ⟨σ',H',I,q⟩:=h;exact ⟨σ',H',I.unwish,q⟩
 |cont=>obtain ⟨σ',H',I,q⟩:=h;exact ⟨σ',H',I.unwish,q⟩
 |ret u=>obtain ⟨v,σ',H',I,r,q⟩:=h;exact ⟨v,σ',H',I.unwish,r,q⟩
theorem PSs.nox {st:Yy} {t:TS} (h:PSs X.nox st t):PSs X st t:=λzB s σ H D I hw=>
 zWC (h zB s σ H D (I.wish _) hw) (λ_ _ q=>q.unwish) λ_ _ z=>False.elim z
end
section
variable {X:Cx} {st:Stmt} {rest:Yy} {t u:TS} {e:Expr} {te:TE} {pos:Pos}
def zUi:TS:=λD σ H=>D.nx σ H
def zVW (t u:TS):TS:=λD σ H=>t { D with nx:=u D } σ H
theorem zQf:PSs X [] zUi:=λ_ _ σ H _ I h=>wpAny_execs_nil ⟨σ,H,I,h⟩
theorem zPM (h1:PS X st t) (h2:PSs X rest u):PSs X (st::rest) (zVW t u):=by
 intro zB s σ H D I h;refine wpAny_execs_cons (thn (h1 zB s σ H { D with nx:=u D } I h) λf s1 q=>?_);cases f with
 |next=>
  obtain ⟨σ',H',I',q⟩:=q;exact h2 zB s1 σ' H' D I' q
 |ret v=>exact q
 |brk=>exact q
 |cont=>exact q
theorem zRI (h1:PS X st t):PSs X [st] t:=by
 intro zB s σ H D I h;refine wpAny_execs_cons (thn (h1 zB s σ H D I h) λf s1 q=>?_);cases f with
 |next=>exact wpAny_execs_nil q
 |ret v=>exact q
 |brk=>exact q
 |cont=>exact q
theorem Inv.quiet {zB:Yd} {σ:St} {H:Hp} {s:Yl} (I:Inv X zB σ H s):interactive X.env=false:=by simp[interactive,I.ok.kind]
def zUS (te:TE):TS:=λD σ H=>te σ H λ_ H1=>D.nx σ H1
theorem zRr (he:PE X e te) (hs:swapsWith e none pos.line X.env=pure false:=by rfl):PS X (.Expr e pos) (zUS te):=by
 intro zB s σ H D I h;exact wpAny_Expr_any (thn (he zB s σ H _ I h) λv s1 ⟨x,H1,I1,r1,q1⟩=>⟨σ,H1,I1,q1⟩) I.quiet hs
def zVG (te:TE):TS:=λD σ H=>te σ H D.rt
theorem zSK (he:PE X e te):PS X (.Return (some e) pos) (zVG te):=by
 intro zB s σ H D I h;exact wpAny_Return_some (thn (he zB s σ H _ I h) λv s1 ⟨x,H1,I1,r1,q1⟩=>⟨x,σ,H1,I1,r1,q1⟩)
def zVE (c:TT) (t u:TS):TS:=λD σ H=>c σ H λb H1=>if b=true then t D σ H1 else u D σ H1
theorem zUb {c:Expr} {a b:Yy} {tc:TT} (hc:PT X c tc) (ha:PSs X a t) (hb:PSs X b u):PS X (.If c a b pos) (zVE tc t u):=by
 intro zB s σ H D I h;refine wpAny_If (thn (hc zB s σ H _ I h) λd s1 ⟨H1,I1,q1⟩=>?_);cases d with
 |true=>exact ha zB s1 σ H1 D I1 q1
 |false=>exact hb zB s1 σ H1 D I1 q1
end
abbrev TG:=V->St->Hp->(St->Hp->Prop)->Prop
abbrev TGs:=List V->St->Hp->(St->Hp->Prop)->Prop
def PG (X:Cx) (target:Expr) (t:TG):Prop :=
 ∀ (zB:Yd) (s:Yl) (σ:St) (H:Hp) (v:V) (u:Yu) (Q:St->Hp->Prop),Inv X zB σ H s->ze v u->t v σ H Q ->
  wpAny (model X.prog X.w) X.A (assign target X.env u) (λ_ s'=>∃ σ' H',Inv X zB σ' H' s'/\Q σ' H') X.xe s
def PGs (X:Cx) (ts:Yi) (t:TGs):Prop :=
 ∀ (zB:Yd) (s:Yl) (σ:St) (H:Hp) (vs:List V) (us:Yf) (Q:St->Hp->Prop),Inv X zB σ H s->zb vs us->t vs σ H Q ->
  wpAny (model X.prog X.w) X.A (assignInOrder ((assignEach ts X.env).map (·.2)) us) (λ_ s'=>∃ σ' H',Inv X zB σ' H' s'/\Q σ' H') X.xe s
abbrev zSL:=V->V->V->Hp->(Hp->Prop)->Prop
def zT9 (X:Cx) (t:zSL):Prop :=
 ∀ (zB:Yd) (s:Yl) (σ:St) (H:Hp) (o i v:V) (ov iv u:Yu) (Q:Hp->Prop),Inv X zB σ H s->ze o ov->ze i iv->ze v u->t o i v H Q ->
  wpAny (model X.prog X.w) X.A (setItem ov iv u) (λ_ s'=>∃ H',Inv X zB σ H' s'/\Q H') X.xe s
section
variable {X:Cx} {pos:Pos}
def zBX (i:Nat):TG:=λv σ H Q=>Q (σ.set i (some v)) H
theorem zIO {i:Nat} {x:Str} (hN:X.N.Nodup) (hi:X.N[i]?=some x) (hx:Loc X.env.scope x) (hf:X.fn x=true\/X.env.scope.names.lookup x=some .local:=by first|exact .inl rfl|exact .inr rfl|assumption):PG X (.Name x pos) (zBX i):=by
 intro zB s σ H v u Q I r h;exact wpAny_assign_Name (zJX I hN hi hx r (λs' I'=>⟨_,H,I',h⟩) hf)
def zOK:TGs:=λvs σ H Q=>vs=[]/\Q σ H
def zD8 (t:TG) (u:TGs):TGs:=λvs σ H Q=>∃ v r,vs=v::r/\t v σ H λσ' H'=>u r σ' H' Q
theorem zRK:PGs X [] zOK:=by
 intro zB s σ H vs us Q I r h;obtain ⟨e,h⟩:=h;subst e;cases r;exact assignInOrder_nil ⟨σ,H,I,h⟩
theorem zO0 {e:Expr} {es:Yi} {t:TG} {u:TGs} (h1:PG X e t) (h2:PGs X es u)
  (hs:(assignEach (e::es) X.env).map (·.2)=assign e X.env::(assignEach es X.env).map (·.2):=by rfl):PGs X (e::es) (zD8 t u):=by
 intro zB s σ H vs us Q I r h;obtain ⟨v,vr,e1,h⟩:=h;subst e1;cases r with
 |cons r rr=>
  rw[hs];refine assignInOrder_cons (thn (h1 zB s σ H _ _ _ I r h) λ_ s1 ⟨σ1,H1,I1,q1⟩=>?_);exact h2 zB s1 σ1 H1 _ _ Q I1 rr q1
def zPa (K:Yb) (n:Nat) (t:TGs):TG:=λv σ H Q=>∃ a xs,v=.ref a/\SqT K H a xs/\xs.length=n/\t xs σ H Q
theorem zTU {es:Yi} {k:Nat} {t:TGs} {n:Nat} (hc:X.calm=true) (h:PGs X es t)
  (hn:(assignEach es X.env).length=n:=by rfl) (hst:(assignEach es X.env).findIdx? (·.1)=none:=by rfl):PG X (.Tuple es k pos) (zPa X.K n t):=by
 intro zB s σ H v u Q I r hw;obtain ⟨a,xs,e1,hq,hl,hw⟩:=hw;subst e1;cases r;obtain ⟨its,rv,ht,hz⟩:=I.tuple hq;refine assign_Tuple_tuple (I.ok.hd hc) ht (by simp[hn,<-hl,rv.length]) hst λh' hx=>?_;have I1:Inv X zB σ H { s with heap:=h' }:=I.kept (t':=s.toks) λb o e=>hx b o (zV1 (zVr e)) e;exact h zB _ σ H xs _ Q I1 (by simpa using rv) hw
def zVQ (to ti:TE) (t:zSL):TG:=λv σ H Q=>to σ H λo H1=>ti σ H1 λi H2=>t o i v H2 λH3=>Q σ H3
theorem zTk {o i:Expr} {to ti:TE} {t:zSL} (ho:PE X o to) (hi:PE X i ti) (hs:zT9 X t)
  (ha:∀ v,assign (.Subscript o i pos) X.env v=(do
   let ov <- holding [v] (eval o X.env);let iv <- holding [v,ov] (eval i X.env);standAt pos;holding [v,ov,iv] (setItem ov iv v);release [v,ov,iv] []):=by intro _;rfl):PG X (.Subscript o i pos) (zVQ to ti t):=by
 intro zB s σ H v u Q I r h;rw[ha];refine zVg (zWZ (thn (ho zB s σ H _ I h) λov s1 ⟨x,H1,I1,r1,q1⟩=>?_));refine zVg (zWZ (thn (hi zB s1 σ H1 _ I1 q1) λiv s2 ⟨y,H2,I2,r2,q2⟩=>?_));refine zVg (zWe (zVg (zWZ (thn (hs zB s2 σ H2 x y v ov iv u _ I2 r1 r2 r q2) λ_ s3 ⟨H3,I3,q3⟩=>?_))));exact wpAny_release ⟨σ,H3,I3,q3⟩
def zOS (te:TE) (g:TG):TS:=λD σ H=>te σ H λx H1=>g x σ H1 D.nx
theorem zNt {tg e:Expr} {te:TE} {g:TG} (he:PE X e te) (hg:PG X tg g) (hs:swapsWithSole [tg] e pos.line X.env=pure false:=by rfl) (hw:swappedStores [tg] e X.env=pure none:=by rfl)
  (h1:(assignEach [tg] X.env).map (·.2)=[assign tg X.env]:=by rfl):PS X (.Assign [tg] e pos) (zOS te g):=by
 intro zB s σ H D I h;refine wpAny_Assign_stores (thn (he zB s σ H _ I h) λv s1 ⟨x,H1,I1,r1,q1⟩=>?_) hs hw;rw[h1];exact thn (hg zB s1 σ H1 x v _ I1 r1 q1) λ_ s2 q=>q
theorem zTY {i:Nat} {x:Str} {e:Expr} {te:TE} {pos':Pos} (hN:X.N.Nodup) (hi:X.N[i]?=some x) (hx:Loc X.env.scope x) (he:PE X e te) (hs:swapsWith e (some (.Name x pos')) pos.line X.env=pure false:=by rfl) (hf:X.fn x=true\/X.env.scope.names.lookup x=some .local:=by first|exact .inl rfl|exact .inr rfl|assumption) :
  PS X (.Assign [.Name x pos'] e pos) (zOS te (zBX i)):=by
 intro zB s σ H D I h;refine wpAny_Assign_Name (thn (he zB s σ H _ I h) λv s1 ⟨y,H1,I1,r1,q1⟩=>?_) hs;exact zJX I1 hN hi hx r1 (λs2 I2=>⟨_,H1,I2,q1⟩) hf
def zPv (c:TT) (tb:TS):TS:=λD σ H=>∃ W:Nat->St->Hp->Prop,(∃ m,W m σ H) /\ ∀ m σ H,W m σ H ->
 c σ H λb H1=>if b=true then ∃ N:St->Hp->Prop,(∀ σ' H',N σ' H' -> ∃ m',m'<m/\W m' σ' H')/\tb { D with nx:=N,ct:=N,bk:=D.nx } σ H1 else D.nx σ H1
theorem zNp {c:Expr} {body:Yy} {tc:TT} {tb:TS} (hp:PassesOwn (model X.prog X.w) X.A X.env X.xe) (hc:PT X c tc) (hb:PSs X body tb):PS X (.While c body [] pos) (zPv tc tb):=by
 intro zB s σ H D I h;obtain ⟨W,⟨m0,w0⟩,turn⟩:=h;refine wpAny_While (codeAny_whileLoop (λn s'=>∃ σ' H',Inv X zB σ' H' s'/\W n σ' H') ?_ m0 ⟨σ,H,I,w0⟩);rintro n s1 ⟨σ1,H1,I1,w1⟩;refine wpAny_passesOwn hp (thn (hc zB s1 σ1 H1 _ I1 (turn n σ1 H1 w1)) λb s2 ⟨H2,I2,q2⟩=>?_);cases b with
 |true=>
  obtain ⟨N,hN,q2⟩:=q2;rw[zVv rfl];refine wpAny_passesOwn hp (thn (hb zB s2 σ1 H2 _ I2 q2) λf s3 q3=>?_);cases f with
  |next=>
   obtain ⟨σ3,H3,I3,n3⟩:=q3;obtain ⟨m',hm,w3⟩:=hN σ3 H3 n3;exact ⟨m',hm,σ3,H3,I3,w3⟩
  |cont=>
   obtain ⟨σ3,H3,I3,n3⟩:=q3;obtain ⟨m',hm,w3⟩:=hN σ3 H3 n3;exact ⟨m',hm,σ3,H3,I3,w3⟩
  |brk=>exact q3
  |ret v=>exact q3
 |false=>
  rw[zVy zV2];exact wpAny_execs_nil ⟨σ1,H2,I2,q2⟩
end
structure It where
 go:Nat->Hp->Prop
 yld:Nat->Hp->V->Hp->Prop
 stop:Nat->Hp->Prop
def zB5 (X:Cx) (zB:Yd) (H:Hp) (b:Yt):Prop :=
 H b=none/\b≠X.env.locals/\b∉X.fs/\(b∈X.ex\/X.s₀.heap.objs.size<=b)/\(∀ x c,X.env.cells.lookup x=some c->c≠b) /\ ∀ p∈X.pn++zB,p.1≠b
theorem Inv.fpOk {X:Cx} {zB:Yd} {σ:St} {H H':Hp} {s:Yl} {b:Yt} (I:Inv X zB σ H s) (hb:s.heap.objs.size<=b) (hn:H' b=none):zB5 X zB H' b:=by
 refine ⟨hn,zXB (zV5 I.lt hb),I.nofs hb,.inr (zV7 I.sz hb),λx c e z=>?_,λp hp z=>?_⟩
 .obtain ⟨v,q⟩:=I.cell x c e;exact absurd (zV5 q.lt (by rw[z];exact hb)) (zWO _)
 .exact absurd (zV5 (zVr (I.pin p hp).1) (by rw[z];exact hb)) (zWO _)
structure Turn (P:Ym) (w:Yo) (K:Yb) (tg:Expr) (J:It) (fp:Yg) (it:Yt) (tn:Nat->Heap->Prop):Prop where
 mem:it∈fp
 obj:∀ i h,tn i h -> ∀ b∈fp,∃ o,h.get? b=some o /\ ∀ v,o.data≠.cell v
 keep:∀ i h h',tn i h->(∀ b∈fp,∀ o,h.get? b=some o->h'.get? b=some o)->tn i h'
 item:∀ (X:Cx),X.prog=P->X.w=w->X.K=K->X.calm=true -> ∀ (i:Nat) (zB:Yd) (s:Yl) (σ:St) (H:Hp) (E:Yc),Inv X zB σ H s->(∀ b∈fp,zB5 X zB H b)->tn i s.heap->J.go i H ->
  wpAny (model P w) X.A (pyNext (.ref it)) (λr s1=>∃ u,r=some u /\
   wpAny (model P w) X.A (letOwnedTupleGo tg (.ref it) u) (λ_ s2=>∃ x H',Inv X zB σ H' s2/\ze x u/\J.yld i H x H'/\tn (i+1) s2.heap /\ ∀ b∈fp,H' b=none) E s1) E s
 done:∀ (X:Cx),X.prog=P->X.w=w->X.K=K->X.calm=true -> ∀ (i:Nat) (zB:Yd) (s:Yl) (σ:St) (H:Hp) (E:Yc),Inv X zB σ H s->(∀ b∈fp,zB5 X zB H b)->tn i s.heap->J.stop i H ->
  wpAny (model P w) X.A (pyNext (.ref it)) (λr s1=>r=none/\Inv X zB σ H s1) E s
 self:∀ (A:Yn) (i:Nat) (s:Yl) (Q:Yc) (E:Yc),tn i s.heap->Q (.ref it) s->wpAny (model P w) A (pyIter (.ref it)) Q E s
abbrev TI:=St->Hp->(It->Hp->Prop)->Prop
def PIE (X:Cx) (zB:Yd) (σ:St) (tg:Expr) (R:It->Hp->Prop) (itv:Yu) (s2:Yl):Prop :=
 ∃ (it:Yt) (fp:Yg) (tn:Nat->Heap->Prop) (J:It) (H':Hp),itv=.ref it/\Inv X zB σ H' s2/\Turn X.prog X.w X.K tg J fp it tn/\tn 0 s2.heap/\(∀ b∈fp,zB5 X zB H' b)/\R J H'
def PI (X:Cx) (tg iter:Expr) (wi:TI):Prop :=
  ∀ (zB:Yd) (s:Yl) (σ:St) (H:Hp) (R:It->Hp->Prop),Inv X zB σ H s->wi σ H R ->
    wpAny (model X.prog X.w) X.A (eval iter X.env) (λv s1=>wpAny (model X.prog X.w) X.A (pyIter v) (PIE X zB σ tg R) X.xe s1) X.xe s
theorem zPR {M:Model} {A:Yn} {E:Yc} {s:Yl} {tg:Expr} {it:Yt} {u:Yu} {o:Obj} {n:String} {vs:Yp} {Q:Unit->Shared->Prop} (ho:s.heap.get? it=some o) (hc:o.cls=.type n) (hd:o.data=.fields vs)
    (hn:["enumerate", "zip", "dict_itemiterator", "dict_reverseitemiterator", "odict_iterator", "itertools.zip_longest", "itertools.pairwise"].contains n=false) (hQ:Q () s):wpAny M A (letOwnedTupleGo tg (.ref it) u) Q E s:=by
  unfold letOwnedTupleGo
  cases tg <;> first
    |exact zVi hQ
    | (cases u <;> first
        |exact zVi hQ
        | (refine zVg (wpAny_load ho ?_)
           rw[hc,hd];show wpAny M A (if (["enumerate", "zip", "dict_itemiterator", "dict_reverseitemiterator", "odict_iterator", "itertools.zip_longest", "itertools.pairwise"].contains n&&vs[0]?==some (rawInt _))=true then _ else _) Q E s;rw[zVy (by intro h;rw[hn,Bool.false_and]at h;cases h)];exact zVi hQ))
def Itl (K:Yb) (a:Yt):It :=
 ⟨λi H=>∃ xs x,SqL K H a xs/\xs[i]?=some x,λi H x H'=>H'=H /\ ∀ xs,SqL K H a xs->xs[i]?=some x,λi H=>∃ xs,SqL K H a xs/\xs.length<=i⟩
def Itt (K:Yb) (a:Yt):It :=
 ⟨λi H=>∃ xs x,SqT K H a xs/\xs[i]?=some x,λi H x H'=>H'=H /\ ∀ xs,SqT K H a xs->xs[i]?=some x,λi H=>∃ xs,SqT K H a xs/\xs.length<=i⟩
def Itr (lo:Int) (n:Nat):It:=⟨λi _=>i<n,λi H x H'=>H'=H/\x=.int (lo+i),λi _=>n<=i⟩
theorem zMt {P:Ym} {w:Yo} {K:Yb} {tg:Expr} (a it:Yt):Turn P w K tg (Itl K a) [it] it (λi h=>h.IsListIter it a i) where
 mem:=by simp
 obj:=λi h st b hb=>by
  have e:b=it:=by simpa using hb
  subst e;obtain ⟨o,e,c,d⟩:=st;exact ⟨o,e,λv z=>by rw[d]at z;cases z⟩
 keep:=λi h h' st k=>st.at λo e=>k it (by simp) o e;item:=by
  intro X hP hw hK hc i zB s σ H E I hf st hg;subst hP hw hK;obtain ⟨xs,x,hq,hx⟩:=hg;obtain ⟨its,rv,p,hz⟩:=I.list hq;obtain ⟨u,hu,ru⟩:=rv.get hx;obtain ⟨f0,f1,f2,f3,f4,f5⟩:=hf it (by simp);refine wpAny_pyNext_list_item st p.isList (x:=u) (by simpa using hu) λh' st' sb=>?_;have I1:Inv X zB σ H { s with heap:=h' }:=I.turned (t':=s.toks) (λb o hb e=>(sb.2 b hb).trans e) f0 f1 f3 f4 f5;obtain ⟨o,e,c,d⟩:=id st';exact ⟨u,rfl,zPR (s:={ s with heap:=h' }) e c d (by decide) ⟨x,H,I1,ru,⟨rfl,λys hy=>by rw[I.list_inj hy hq];exact hx⟩,st',λb hb=>(hf b hb).1⟩⟩
 done:=by
  intro X hP hw hK hc i zB s σ H E I hf st hg;subst hP hw hK;obtain ⟨xs,hq,hx⟩:=hg;obtain ⟨its,rv,p,hz⟩:=I.list hq;obtain ⟨f0,f1,f2,f3,f4,f5⟩:=hf it (by simp);have hl:=rv.length;exact wpAny_pyNext_list_end (I.ok.hd hc) st p.isList (by simp;omega) λh' eb=>⟨rfl,I.turned (t':=s.toks) (λb o hb e=>eb b o hb e) f0 f1 f3 f4 f5⟩
 self:=λ_ _ _ _ _ st h=>wpAny_pyIter_listiter st h
theorem zKm {P:Ym} {w:Yo} {K:Yb} {tg:Expr} (a it:Yt):Turn P w K tg (Itt K a) [it] it (λi h=>h.IsTupleIter it a i) where
 mem:=by simp
 obj:=λi h st b hb=>by
  have e:b=it:=by simpa using hb
  subst e;obtain ⟨o,e,c,d⟩:=st;exact ⟨o,e,λv z=>by rw[d]at z;cases z⟩
 keep:=λi h h' st k=>st.at λo e=>k it (by simp) o e;item:=by
  intro X hP hw hK hc i zB s σ H E I hf st hg;subst hP hw hK;obtain ⟨xs,x,hq,hx⟩:=hg;obtain ⟨its,rv,p,hz⟩:=I.tuple hq;obtain ⟨u,hu,ru⟩:=rv.get hx;obtain ⟨f0,f1,f2,f3,f4,f5⟩:=hf it (by simp);refine wpAny_pyNext_tuple_item st (show s.heap.IsTuple a its.toArray from p) (x:=u) (by simpa using hu) λh' st' sb=>?_;have I1:Inv X zB σ H { s with heap:=h' }:=I.turned (t':=s.toks) (λb o hb e=>(sb.2 b hb).trans e) f0 f1 f3 f4 f5;obtain ⟨o,e,c,d⟩:=id st';exact ⟨u,rfl,zPR (s:={ s with heap:=h' }) e c d (by decide) ⟨x,H,I1,ru,⟨rfl,λys hy=>by rw[I.tuple_inj hy hq];exact hx⟩,st',λb hb=>(hf b hb).1⟩⟩
 done:=by
  intro X hP hw hK hc i zB s σ H E I hf st hg;subst hP hw hK;obtain ⟨xs,hq,hx⟩:=hg;obtain ⟨its,rv,p,hz⟩:=I.tuple hq;obtain ⟨f0,f1,f2,f3,f4,f5⟩:=hf it (by simp);have hl:=rv.length;exact wpAny_pyNext_tuple_end (I.ok.hd hc) st (show s.heap.IsTuple a its.toArray from p) (by simp;omega) λh' eb=>⟨rfl,I.turned (t':=s.toks) (λb o hb e=>eb b o hb e) f0 f1 f3 f4 f5⟩
 self:=λ_ _ _ _ _ st h=>wpAny_pyIter_tupleiter st h
theorem zLR {P:Ym} {w:Yo} {K:Yb} {tg:Expr} (it:Yt) (lo:Int) (n:Nat):Turn P w K tg (Itr lo n) [it] it (λi h=>IsRangeIter h it (lo+(i:Nat)*1) ((n:Int)-(i:Nat)) 1) where
 mem:=by simp
 obj:=λi h st b hb=>by
  have e:b=it:=by simpa using hb
  subst e;exact ⟨_,st,λv z=>by
   have z':Data.fields _=Data.cell v:=z;cases z'⟩
 keep:=λi h h' st k=>k it (by simp) _ st;item:=by
  intro X hP hw hK hc i zB s σ H E I hf st hg;subst hP hw hK;obtain ⟨f0,f1,f2,f3,f4,f5⟩:=hf it (by simp);have W:=Walks.range (prog:=X.prog) (w:=X.w) (I.ok.hd hc) it lo 1 n;refine W.item i s _ _ hg st λv h' tk hv st' kk=>?_;obtain ⟨t,rfl⟩:=hv;have I1:Inv X zB σ H { s with heap:=h',toks:=tk }:=I.turned (λb o hb e=>kk b o (by simpa using hb) e) f0 f1 f3 f4 f5;refine ⟨_,rfl,zPR (s:={ s with heap:=h',toks:=tk }) (n := "range_iterator") st' rfl rfl (by decide) ⟨.int (lo+i),H,I1,⟨t,?_⟩,⟨rfl,rfl⟩,st',λb hb=>(hf b hb).1⟩⟩;rw[Int.mul_one]
 done:=by
  intro X hP hw hK hc i zB s σ H E I hf st hg;subst hP hw hK;obtain ⟨f0,f1,f2,f3,f4,f5⟩:=hf it (by simp);exact wpAny_pyNext_range_end (I.ok.hd hc) st (by have:n<=i:=hg;omega) λh' eb=>⟨rfl,I.turned (t':=s.toks) (λb o hb e=>eb b o hb e) f0 f1 f3 f4 f5⟩
 self:=λ_ _ _ _ _ st h=>wpAny_pyIter_rangeiter st h
section
variable {X:Cx} {tg:Expr}
theorem zO8 {zB:Yd} {σ:St} {H:Hp} {s:Yl} {R:It->Hp->Prop} {E:Yc} {lo hi:Int} {t u v:Tok} {tk:Nat} (I:Inv X zB σ H s) (h1 : -(2 ^ 62)<=lo) (h2:lo<2 ^ 62) (h3 : -(2 ^ 62)<=hi) (h4:hi<2 ^ 62)
  (q:R (Itr lo (hi-lo).toNat) H):wpAny (model X.prog X.w) X.A (pyIter (.ref s.heap.objs.size)) (PIE X zB σ tg R) E { s with heap:=s.heap.push { cls:=.type "range", data:=.fields #[.int lo t,.int hi u,.int 1 v] },toks:=tk }:=by
 refine wpAny_pyIter_range (IsRange.new ..) (small_one h1 h2 h3 h4) ?_;have I1:Inv X zB σ H { s with heap:=s.heap.push { cls:=.type "range", data:=.fields #[.int lo t,.int hi u,.int 1 v] },toks:=tk }:=I.kept λb o e=>zVh _ e
 refine ⟨(s.heap.push { cls:=.type "range", data:=.fields #[.int lo t,.int hi u,.int 1 v] }).objs.size,[(s.heap.push { cls:=.type "range", data:=.fields #[.int lo t,.int hi u,.int 1 v] }).objs.size],_,_,H,rfl,
  I1.kept (t':=tk) λb o e=>zVh _ e,zLR _ lo (hi-lo).toNat,?_,λb hb=>?_,q⟩
 .have e1:lo+((0:Nat):Int)*1=lo:=by simp
  have e2:(((hi-lo).toNat:Nat):Int)-((0:Nat):Int)=Builtin.Range.rangeSize lo hi 1:=by rw[rangeSize_one];split <;> omega
  show IsRangeIter _ _ (lo+((0:Nat):Int)*1) ((((hi-lo).toNat:Nat):Int)-((0:Nat):Int)) 1;rw[e1,e2];exact zVq _ rfl
 .have e:b=(s.heap.push { cls:=.type "range", data:=.fields #[.int lo t,.int hi u,.int 1 v] }).objs.size:=by simpa using hb
  subst e;exact I1.fpOk (zVm _) (I1.hok.fresh (zVm _))
def zUy (ta:TA):TI:=λσ H R=>ta σ H λvs H1=>∃ j:Int,vs=[.int j] /\ -(2 ^ 62)<=j/\j<2 ^ 62/\R (Itr 0 j.toNat) H1
theorem zNo {a:Expr} {ta:TA} {p pos:Pos} (hg:Gl X "range") (hm:X.mg "range" = none) (ha:PA X [a] ta) (hs:starEach [a] X.env=[(false,eval a X.env)]:=by rfl):PI X tg (.Call (.Name "range" p) [a] [] pos) (zUy ta):=by
 intro zB s σ H R I h;refine Call_ (zGD I hg hm boot_range (PyProof.Rows.callWith_type1 (thn (ha pos zB s σ H _ I h) λus s1 ⟨vs,H1,I1,r1,q1⟩=>?_) hs rfl));obtain ⟨j,e,q1,q2,q⟩:=q1;subst e;cases r1 with
 |cons r rr=>
  cases rr;obtain ⟨t,rfl⟩:=r;exact call_range_1 (zO8 I1 (by omega) (by omega) q1 q2 (by simpa using q))
def zT5 (wi:TI) (g:TG) (tb:TS):TS:=λD σ H=>wi σ H λJ H1=>∃ W:Nat->Nat->St->Hp->Prop,(∃ m,W 0 m σ H1) /\ ∀ i m σ H,W i m σ H ->
 (J.stop i H/\D.nx σ H)\/(J.go i H /\ ∃ N:St->Hp->Prop,(∀ σ' H',N σ' H' -> ∃ m',m'<m/\W (i+1) m' σ' H') /\ ∀ x H',J.yld i H x H'->g x σ H' λσ2 H2=>tb { D with nx:=N,ct:=N,bk:=D.nx } σ2 H2)
def zCq (fp:Yg) (h:Heap):List (Addr × Obj):=fp.filterMap λb=>(h.get? b).map λo=>(b,o)
theorem zAI {fp:Yg} {h:Heap} {b:Yt} {o:Obj} (hb:b∈fp) (e:h.get? b=some o):(b,o)∈zCq fp h:=List.mem_filterMap.mpr ⟨b,hb,by rw[e];rfl⟩
theorem zH8 {fp:Yg} {h:Heap} {p:Addr × Obj} (hp:p∈zCq fp h):p.1∈fp/\h.get? p.1=some p.2:=by
 obtain ⟨b,hb,e⟩:=List.mem_filterMap.mp hp;cases q:h.get? b with
 |none=>rw[q]at e;cases e
 |some o=>
  rw[q]at e;have e':(b,o)=p:=zWg e;subst e';exact ⟨hb,q⟩
theorem Inv.pinned {zB:Yd} {σ:St} {H:Hp} {s:Yl} {fp:Yg} (I:Inv X zB σ H s) (hf:∀ b∈fp,zB5 X zB H b) (ho:∀ b∈fp,∃ o,s.heap.get? b=some o /\ ∀ v,o.data≠.cell v):Inv X (zB++zCq fp s.heap) σ H s :=
 I.pins_of λp hp=>(zV6.mp hp).elim (λz=>I.pin p (zV0 _ z)) λz=>by
  obtain ⟨hb,e⟩:=zH8 z;obtain ⟨f0,f1,f2,_⟩:=hf p.1 hb;obtain ⟨o,e',d⟩:=ho p.1 hb;rw[e]at e';cases e';exact ⟨e,f0,f1,f2,d⟩
theorem Inv.unpinned {zB pl:Yd} {σ:St} {H:Hp} {s:Yl} (I:Inv X (zB++pl) σ H s):Inv X zB σ H s:=I.pins_of λp hp=>I.pin p (zV0 _ (zWv _ hp))
theorem zTZ {iter:Expr} {body:Yy} {wi:TI} {g:TG} {tb:TS} {pos:Pos} (hp:PassesOwn (model X.prog X.w) X.A X.env X.xe) (hc:X.calm=true) (hi:PI X tg iter wi) (hg:PG X tg g) (hb:PSs X body tb)
  (hs:∀ x,foldedSetIterable iter X.env x=pure x:=by intro _;rfl):PS X (.For tg iter body [] pos) (zT5 wi g tb):=by
 intro zB s σ H D I h;refine wpAny_For (thn (hi zB s σ H _ I h) λv s1 h1=>thn h1 λitv s2 h2=>?_) hs;obtain ⟨it,fp,tn,J,H2,e,I2,T,st2,f2,W,⟨m0,w0⟩,turn⟩:=h2;subst e;have stat:∀ {H':Hp},(∀ b∈fp,H' b=none) -> ∀ b∈fp,zB5 X zB H' b:=λhn b hb=>⟨hn b hb,(f2 b hb).2⟩;refine codeAny_forLoop_any (λn s'=>∃ i σ' H',Inv X zB σ' H' s'/\tn i s'.heap/\(∀ b∈fp,H' b=none)/\W i n σ' H') ?_ m0 ⟨0,σ,H2,I2,st2,λb hb=>(f2 b hb).1,w0⟩;rintro n s3 ⟨i,σ3,H3,I3,st3,fr3,w3⟩;rcases turn i n σ3 H3 w3 with ⟨stop,qn⟩|⟨go,N,hN,step⟩
 .refine wpAny_passesOwn hp (thn (T.done X rfl rfl rfl hc i zB s3 σ3 H3 X.xe I3 (stat fr3) st3 stop) λr s4 ⟨hr,I4⟩=>?_);subst hr;exact wpAny_execs_nil ⟨σ3,H3,I4,qn⟩
 .refine wpAny_passesOwn hp (thn (T.item X rfl rfl rfl hc i zB s3 σ3 H3 X.xe I3 (stat fr3) st3 go) λr s4 ⟨u,hr,h4⟩=>?_);subst hr;refine wpAny_passesOwn hp (thn h4 λ_ s5 ⟨x,H5,I5,r5,y5,st5,fr5⟩=>?_);have I5':=I5.pinned (stat fr5) (T.obj _ _ st5);refine wpAny_passesOwn hp (thn (hg _ s5 σ3 H5 x u _ I5' r5 (step x H5 y5)) λ_ s6 ⟨σ6,H6,I6,q6⟩=>?_);refine wpAny_passesOwn hp (thn (hb _ s6 σ6 H6 _ I6 q6) λf s7 q7=>?_);have again:∀ {σ7:St} {H7:Hp},Inv X (zB++zCq fp s5.heap) σ7 H7 s7->N σ7 H7 -> ∃ m,m<n /\ ∃ i σ' H',Inv X zB σ' H' s7/\tn i s7.heap/\(∀ b∈fp,H' b=none)/\W i m σ' H':=λ{σ7 H7} I7 n7=>by
   obtain ⟨m',hm,w7⟩:=hN σ7 H7 n7;refine ⟨m',hm,i+1,σ7,H7,I7.unpinned,T.keep _ _ _ st5 λb hb o e=>(I7.pin (b,o) (zV0 _ (zV0 _ (zAI hb e)))).1,λb hb=>?_,w7⟩;obtain ⟨o,e,d⟩:=T.obj _ _ st5 b hb;exact (I7.pin (b,o) (zV0 _ (zV0 _ (zAI hb e)))).2.1
  cases f with
  |next=>obtain ⟨σ7,H7,I7,n7⟩:=q7;exact again I7 n7
  |cont=>obtain ⟨σ7,H7,I7,n7⟩:=q7;exact again I7 n7
  |brk=>obtain ⟨σ7,H7,I7,q7⟩:=q7;exact ⟨σ7,H7,I7.unpinned,q7⟩
  |ret v=>obtain ⟨x7,σ7,H7,I7,r7,q7⟩:=q7;exact ⟨x7,σ7,H7,I7.unpinned,r7,q7⟩
end
abbrev R2:=V->V->Hp->VK->Prop
def OpR (X:Cx) (f:Y2) (r:R2):Prop :=
 ∀ (zB:Yd) (s:Yl) (σ:St) (H:Hp) (x y:V) (v u:Yu) (Q:VK),Inv X zB σ H s->ze x v->ze y u->r x y H Q ->
  wpAny (model X.prog X.w) X.A (f v u) (EP X zB σ Q) X.xe s
def UnR (X:Cx) (f:Value->Sem Value) (r:V->Hp->VK->Prop):Prop :=
 ∀ (zB:Yd) (s:Yl) (σ:St) (H:Hp) (x:V) (v:Yu) (Q:VK),Inv X zB σ H s->ze x v->r x H Q ->
  wpAny (model X.prog X.w) X.A (f v) (EP X zB σ Q) X.xe s
def zBz (X:Cx) (f:Yu) (r:List V->Hp->VK->Prop):Prop :=
 ∀ (zB:Yd) (s:Yl) (σ:St) (H:Hp) (xs:List V) (us:Yf) (Q:VK),Inv X zB σ H s->zb xs us->r xs H Q ->
  wpAny (model X.prog X.w) X.A (call f us) (EP X zB σ Q) X.xe s
def zU9 (X:Cx) (r:V->Hp->(Bool->Hp->Prop)->Prop):Prop :=
 ∀ (zB:Yd) (s:Yl) (σ:St) (H:Hp) (x:V) (v:Yu) (Q:Bool->Hp->Prop),Inv X zB σ H s->ze x v->r x H Q ->
  wpAny (model X.prog X.w) X.A (truthy v) (TP X zB σ Q) X.xe s
def tOp (r:R2) (ta tb:TE):TE:=λσ H Q=>ta σ H λx H1=>tb σ H1 λy H2=>r x y H2 Q
def tUn (r:V->Hp->VK->Prop) (ta:TE):TE:=λσ H Q=>ta σ H λx H1=>r x H1 Q
def rI (C:Int->Int->Prop) (g:Int->Int->V):R2:=λx y H Q=>∃ i j,x=.int i/\y=.int j/\C i j/\Q (g i j) H
def rI0 (g:Int->Int->V):R2:=λx y H Q=>∃ i j,x=.int i/\y=.int j/\Q (g i j) H
def rU (g:Int->V):V->Hp->VK->Prop:=λx H Q=>∃ i,x=.int i/\Q (g i) H
section
variable {X:Cx} {a b c:Expr} {ta tb tc:TE} {pos:Pos}
theorem zS0 (ha:PE X a ta) (hb:PE X b tb) {zB:Yd} {s:Yl} {σ:St} {H:Hp} {R:V->V->Hp->Prop} (I:Inv X zB σ H s)
  (h:ta σ H λx H1=>tb σ H1 λy H2=>R x y H2) {Q:Yc} {f:Y2}
  (hf:∀ v u s2 x y H2,Inv X zB σ H2 s2->ze x v->ze y u->R x y H2->wpAny (model X.prog X.w) X.A (f v u) Q X.xe s2) :
  wpAny (model X.prog X.w) X.A (eval a X.env) (λv s₁=>wpAny (model X.prog X.w) X.A (eval b X.env) (λu s₂=>wpAny (model X.prog X.w) X.A (f v u) Q X.xe s₂) X.xe s₁) X.xe s:=by
 refine thn (ha zB s σ H _ I h) λv s1 ⟨x,H1,I1,r1,q1⟩=>?_;refine thn (hb zB s1 σ H1 _ I1 q1) λu s2 ⟨y,H2,I2,r2,q2⟩=>?_;exact hf v u s2 x y H2 I2 r1 r2 q2
theorem zUx {op:Operator} {r:R2} (ho:OpR X (binaryOp op) r) (ha:PE X a ta) (hb:PE X b tb):PE X (.BinOp a op b pos) (tOp r ta tb):=by
 intro zB s σ H Q I h;exact wpAny_BinOp (zS0 ha hb I h λv u s2 x y H2 I2 rx ry q=>ho zB s2 σ H2 x y v u Q I2 rx ry q)
theorem zUV {op:UnaryOp} {r:V->Hp->VK->Prop} (ho:UnR X (unaryOp op) r) (ha:PE X a ta):PE X (.UnaryOp op a pos) (tUn r ta):=by
 intro zB s σ H Q I h;exact UnaryOp_ (thn (ha zB s σ H _ I h) λv s1 ⟨x,H1,I1,r1,q1⟩=>ho zB s1 σ H1 x v Q I1 r1 q1)
theorem opI {f:Y2} {C:Int->Int->Prop} {g:Int->Int->Int}
  (rule:∀ (i j:Int) (t u:Tok) (s:Yl) (Q:Yc) (E:Yc),C i j->Q (.int (g i j) s.toks) { s with toks:=s.toks+1 }->wpAny (model X.prog X.w) X.A (f (.int i t) (.int j u)) Q E s) :
  OpR X f (rI C λi j=> .int (g i j)):=by
 intro zB s σ H x y v u Q I rx ry h;obtain ⟨i,j,rfl,rfl,hc,q⟩:=h;obtain ⟨t,rfl⟩:=rx;obtain ⟨t',rfl⟩:=ry;exact rule i j t t' s _ _ hc ⟨.int (g i j),H,I.tok _,⟨_,rfl⟩,q⟩
theorem zUQ {f:Y2} {g:Int->Int->Int}
  (rule:∀ (i j:Int) (t u:Tok) (s:Yl) (Q:Yc) (E:Yc),Q (.int (g i j) s.toks) { s with toks:=s.toks+1 }->wpAny (model X.prog X.w) X.A (f (.int i t) (.int j u)) Q E s) :
  OpR X f (rI0 λi j=> .int (g i j)):=by
 intro zB s σ H x y v u Q I rx ry h;obtain ⟨i,j,rfl,rfl,q⟩:=h;obtain ⟨t,rfl⟩:=rx;obtain ⟨t',rfl⟩:=ry;exact rule i j t t' s _ _ ⟨.int (g i j),H,I.tok _,⟨_,rfl⟩,q⟩
theorem zSE {f:Y2} {g:Int->Int->Bool}
  (rule:∀ (i j:Int) (t u:Tok) (s:Yl) (Q:Yc) (E:Yc),Q (.bool (g i j)) s->wpAny (model X.prog X.w) X.A (f (.int i t) (.int j u)) Q E s) :
  OpR X f (rI0 λi j=> .bl (g i j)):=by
 intro zB s σ H x y v u Q I rx ry h;obtain ⟨i,j,rfl,rfl,q⟩:=h;obtain ⟨t,rfl⟩:=rx;obtain ⟨t',rfl⟩:=ry;exact rule i j t t' s _ _ ⟨.bl (g i j),H,I,rfl,q⟩
def zVY (i j:Int):Prop:=0<j/\j<1073741824
def zVF (i j:Int):Prop:=0<=j/\j<=1000000/\i.natAbs<2 ^ 64
def zSw (i j:Int):Prop:=(-(2 ^ 64)<i/\i<2 ^ 64)\/(-(2 ^ 64)<j/\j<2 ^ 64)
theorem zSw.ok {i j:Int} (h:zSw i j):IntMulOk i j:=by
 rcases h with ⟨h1,h2⟩|⟨h1,h2⟩
 .exact .of_left (intBits_le_64 h1 h2)
 .exact .of_right (intBits_le_64 h1 h2)
theorem zSR:OpR X (binaryOp .Add) (rI0 λi j=> .int (i+j)):=zUQ λ_ _ _ _ _ _ _ q=>add_int q
theorem zSa:OpR X (binaryOp .Sub) (rI0 λi j=> .int (i-j)):=zUQ λ_ _ _ _ _ _ _ q=>sub_int q
theorem zTO:OpR X (binaryOp .Mult) (rI zSw λi j=> .int (i*j)):=opI λ_ _ _ _ _ _ _ hc q=>mul_int q hc.ok
theorem zRX:OpR X (binaryOp .FloorDiv) (rI zVY λi j=> .int (i / j)):=opI λi j _ _ _ _ _ hc q=>by
 have h1:(0:Int)<j:=hc.1;have h2:j<1073741824:=hc.2;exact floordiv_int (by omega) (by rw[Int.fdiv_eq_ediv_of_nonneg i (by omega)];exact q) (.inl (PyProof.noPylong_small (by omega)))
theorem zS9:OpR X (binaryOp .Mod) (rI (λ_ j=>0<j) λi j=> .int (i % j)):=opI λi j _ _ _ _ _ hc q=>by
 have h1:(0:Int)<j:=hc;exact mod_int' (by omega) (by rw[Int.fmod_eq_emod_of_nonneg i (by omega)];exact q)
theorem zSN:OpR X (binaryOp .Pow) (rI zVF λi j=> .int (i ^ j.toNat)):=opI λ_ _ _ _ _ _ _ hc q=>pow_int_small hc.1 hc.2.1 hc.2.2 q
theorem unI {f:Value->Sem Value} {g:Int->Int}
  (rule:∀ (i:Int) (t:Tok) (s:Yl) (Q:Yc) (E:Yc),Q (.int (g i) s.toks) { s with toks:=s.toks+1 }->wpAny (model X.prog X.w) X.A (f (.int i t)) Q E s) :
  UnR X f (rU λi=> .int (g i)):=by
 intro zB s σ H x v Q I rx h;obtain ⟨i,rfl,q⟩:=h;obtain ⟨t,rfl⟩:=rx;exact rule i t s _ _ ⟨.int (g i),H,I.tok _,⟨_,rfl⟩,q⟩
theorem zSX:UnR X (unaryOp .USub) (rU λi=> .int (-i)):=unI λ_ _ _ _ _ q=>neg_int q
end
def zQV:V->V->Bool
 |.non,.non=>true|.non,.int _=>true|.int _,.non=>true|.non,.bl _=>true|.bl _,.non=>true|.non,.str _=>true|.str _,.non=>true
 |.int _,.int _=>true|.bl _,.bl _=>true|.str _,.str _=>true|.byt _,.byt _=>true
 |.int _,.str _=>true|.str _,.int _=>true|.bl _,.str _=>true|.str _,.bl _=>true
 |_,_=>false
def rEq:R2:=λx y H Q=>zQV x y=true/\Q (.bl (decide (x=y))) H
def rNe:R2:=λx y H Q=>zQV x y=true/\Q (.bl (!decide (x=y))) H
theorem zLs {i j:Int}:decide (V.int i=V.int j)=(i==j):=by
 rw[Bool.eq_iff_iff];simp
theorem zOs {i j:Bool}:decide (V.bl i=V.bl j)=(i==j):=by
 rw[Bool.eq_iff_iff];simp
theorem zMB {i j:Str}:decide (V.str i=V.str j)=(i==j):=by
 rw[Bool.eq_iff_iff];simp
theorem zL1 {i j:Array UInt8}:decide (V.byt i=V.byt j)=(i.toList==j.toList):=by
 rw[Bool.eq_iff_iff];cases i;cases j;simp
section
variable {X:Cx} {a b c:Expr} {ta tb tc:TE} {pos:Pos}
theorem zl {zB:Yd} {σ:St} {H:Hp} {s:Yl} {Q:VK} {k k':Bool} (I:Inv X zB σ H s) (q:Q (.bl k) H) (e:k=k'):EP X zB σ Q (.bool k') s:=by
 subst e;exact ⟨.bl k,H,I,rfl,q⟩
theorem zR4:OpR X (compareOp .Eq) rEq:=by
 intro zB s σ H x y v u Q I rx ry h;obtain ⟨hs,q⟩:=h;cases x with
 |non=>
  cases rx;cases y with
  |non=>cases ry;exact PySem.EqNone.eq_none_none (zl I q (by simp))
  |bl j=>cases ry;exact PySem.EqNone.eq_none_bool (zl I q (by simp))
  |int j=>obtain ⟨t',rfl⟩:=ry;exact PySem.EqNone.eq_none_int (zl I q (by simp))
  |str j=>obtain ⟨t',rfl⟩:=ry;exact PySem.EqNone.eq_none_str (zl I q (by simp))
  |_=>exact absurd (show false=true from hs) zV2
 |bl i=>
  cases rx;cases y with
  |non=>cases ry;exact PySem.EqNone.eq_bool_none (zl I q (by simp))
  |bl j=>cases ry;exact eq_bool (zl I q zOs)
  |str j=>obtain ⟨t',rfl⟩:=ry;exact PySem.EqMixed.eq_bool_str (zl I q (by simp))
  |_=>exact absurd (show false=true from hs) zV2
 |int i=>
  obtain ⟨t,rfl⟩:=rx;cases y with
  |non=>cases ry;exact PySem.EqNone.eq_int_none (zl I q (by simp))
  |int j=>obtain ⟨t',rfl⟩:=ry;exact eq_int (zl I q zLs)
  |str j=>obtain ⟨t',rfl⟩:=ry;exact PySem.EqMixed.eq_int_str (zl I q (by simp))
  |_=>exact absurd (show false=true from hs) zV2
 |str i=>
  obtain ⟨t,rfl⟩:=rx;cases y with
  |non=>cases ry;exact PySem.EqNone.eq_str_none (zl I q (by simp))
  |bl j=>cases ry;exact PySem.EqMixed.eq_str_bool (zl I q (by simp))
  |int j=>obtain ⟨t',rfl⟩:=ry;exact PySem.EqMixed.eq_str_int (zl I q (by simp))
  |str j=>obtain ⟨t',rfl⟩:=ry;exact eq_str (zl I q zMB)
  |_=>exact absurd (show false=true from hs) zV2
 |byt i=>
  obtain ⟨t,rfl⟩:=rx;cases y with
  |byt j=>obtain ⟨t',rfl⟩:=ry;exact PySem.W.eq_bytes (zl I q zL1)
  |_=>exact absurd (show false=true from hs) zV2
 |_=>cases y <;> exact absurd (show false=true from hs) zV2
theorem zT1:OpR X (compareOp .NotEq) rNe:=by
 intro zB s σ H x y v u Q I rx ry h;obtain ⟨hs,q⟩:=h;cases x with
 |non=>
  cases rx;cases y with
  |non=>cases ry;exact PySem.EqNone.ne_none_none (zl I q (by simp))
  |bl j=>cases ry;exact PySem.EqNone.ne_none_bool (zl I q (by simp))
  |int j=>obtain ⟨t',rfl⟩:=ry;exact PySem.EqNone.ne_none_int (zl I q (by simp))
  |str j=>obtain ⟨t',rfl⟩:=ry;exact PySem.EqNone.ne_none_str (zl I q (by simp))
  |_=>exact absurd (show false=true from hs) zV2
 |bl i=>
  cases rx;cases y with
  |non=>cases ry;exact PySem.EqNone.ne_bool_none (zl I q (by simp))
  |bl j=>cases ry;exact ne_bool (zl I q (congrArg not zOs))
  |str j=>obtain ⟨t',rfl⟩:=ry;exact PySem.EqMixed.ne_bool_str (zl I q (by simp))
  |_=>exact absurd (show false=true from hs) zV2
 |int i=>
  obtain ⟨t,rfl⟩:=rx;cases y with
  |non=>cases ry;exact PySem.EqNone.ne_int_none (zl I q (by simp))
  |int j=>obtain ⟨t',rfl⟩:=ry;exact ne_int (zl I q (congrArg not zLs))
  |str j=>obtain ⟨t',rfl⟩:=ry;exact PySem.EqMixed.ne_int_str (zl I q (by simp))
  |_=>exact absurd (show false=true from hs) zV2
 |str i=>
  obtain ⟨t,rfl⟩:=rx;cases y with
  |non=>cases ry;exact PySem.EqNone.ne_str_none (zl I q (by simp))
  |bl j=>cases ry;exact PySem.EqMixed.ne_str_bool (zl I q (by simp))
  |int j=>obtain ⟨t',rfl⟩:=ry;exact PySem.EqMixed.ne_str_int (zl I q (by simp))
  |str j=>obtain ⟨t',rfl⟩:=ry;exact ne_str (zl I q (congrArg not zMB))
  |_=>exact absurd (show false=true from hs) zV2
 |byt i=>
  obtain ⟨t,rfl⟩:=rx;cases y with
  |byt j=>obtain ⟨t',rfl⟩:=ry;exact PySem.W.ne_bytes (zl I q (congrArg not zL1))
  |_=>exact absurd (show false=true from hs) zV2
 |_=>cases y <;> exact absurd (show false=true from hs) zV2
theorem zUk:OpR X (compareOp .Lt) (rI0 λi j=> .bl (decide (i<j))):=zSE λ_ _ _ _ _ _ _ q=>lt_int q
theorem zUj:OpR X (compareOp .Gt) (rI0 λi j=> .bl (decide (j<i))):=zSE λ_ _ _ _ _ _ _ q=>gt_int q
theorem zUX:OpR X (compareOp .GtE) (rI0 λi j=> .bl (decide (j<=i))):=zSE λ_ _ _ _ _ _ _ q=>ge_int q
theorem OpR.or {f:Y2} {r r':R2} (h:OpR X f r) (h':OpR X f r'):OpR X f (λx y H Q=>r x y H Q\/r' x y H Q):=by
 intro zB s σ H x y v u Q I rx ry q;rcases q with q|q
 .exact h zB s σ H x y v u Q I rx ry q
 .exact h' zB s σ H x y v u Q I rx ry q
theorem zDI (b:Expr) {op:CmpOp} (h:op≠.In:=by decide) (h2:op≠.NotIn:=by decide):behindInMarks op b=false:=by
 have e1:(op==CmpOp.In)=false:=by cases op <;> first|rfl|exact absurd rfl h
 have e2:(op==CmpOp.NotIn)=false:=by cases op <;> first|rfl|exact absurd rfl h2
 cases b <;> simp[behindInMarks,e1,e2]
theorem zRb {op:CmpOp} {r:R2} (ho:OpR X (compareOp op) r) (ha:PE X a ta) (hb:PE X b tb) (hm:behindInMarks op b=false):PE X (.Compare a [op] [b] pos) (tOp r ta tb):=by
 intro zB s σ H Q I h;exact wpAny_Compare1 (zS0 ha hb I h λv u s2 x y H2 I2 rx ry q=>ho zB s2 σ H2 x y v u Q I2 rx ry q) hm
def zMH (t:TE):TT:=λσ H Q=>t σ H λx H'=>∃ k,x=.bl k/\Q k H'
theorem zRL {op:CmpOp} {r:R2} (ho:OpR X (compareOp op) r) (ha:PE X a ta) (hb:PE X b tb) (hm:behindInMarks op b=false):PT X (.Compare a [op] [b] pos) (zMH (tOp r ta tb)):=by
 intro zB s σ H Q I h;refine wpAny_isTrue_Compare1 (thn (ha zB s σ H _ I h) λv s1 ⟨x,H1,I1,r1,q1⟩=>thn (hb zB s1 σ H1 _ I1 q1) λu s2 ⟨y,H2,I2,r2,q2⟩=>
  thn (ho zB s2 σ H2 x y v u _ I2 r1 r2 q2) λc s3 ⟨z,H3,I3,r3,k,e,q3⟩=>?_) hm
 subst e;cases r3;exact wpAny_truthy_bool ⟨H3,I3,q3⟩
def zTt (K:Yb) (x:V) (H:Hp) (k:Bool):Prop :=
 match x with
 |.non=>k=false
 |.bl b=>k=b
 |.int i=>k=(i != 0)
 |.str y=>y.length<=sizeLine/\k=((y.length:Int) != 0)
 |.byt y=>y.size<=sizeLine/\k=((y.size:Int) != 0)
 |.ref p=>(∃ xs,SqL K H p xs/\k = !xs.isEmpty)\/(∃ xs,SqT K H p xs/\k = !xs.isEmpty) \/ ∃ kvs,H p=some (.dK kvs)/\k = !kvs.isEmpty
 |_=>False
theorem zKs {κ:Type} {kvs:List (κ × V)} {vs:List (κ × Value)} (r:KV kvs vs):(!vs.isEmpty) = !kvs.isEmpty:=by
 cases r <;> rfl
theorem zGN {xs:List V} {its:Yf} (r:zb xs its):(!its.toArray.isEmpty) = !xs.isEmpty:=by
 cases r <;> simp
theorem zFB:(sizeLine:Nat)<2 ^ 63:=by rw[sizeLine_eq];decide
theorem zSh:zU9 X (λx H Q=>∃ k,zTt X.K x H k/\Q k H):=by
 intro zB s σ H x v Q I rx h;obtain ⟨k,e,q⟩:=h;have hl:=zFB;have hs:sizeLine=16777216:=sizeLine_eq;cases x with
 |non=>
  cases rx;have e':k=false:=e;subst e';exact truthy_none ⟨H,I,q⟩
 |bl b=>
  cases rx;have e':k=b:=e;subst e';exact wpAny_truthy_bool ⟨H,I,q⟩
 |int i=>
  obtain ⟨t,rfl⟩:=rx;have e':k=(i != 0):=e;subst e';exact PySem.P.truthy_int ⟨H,I,q⟩
 |str y=>
  obtain ⟨t,rfl⟩:=rx;obtain ⟨hy,e'⟩:y.length<=sizeLine/\k=((y.length:Int) != 0):=e;subst e';exact PySem.P.truthy_str (by omega) ⟨H,I.tok _,q⟩
 |byt y=>
  obtain ⟨t,rfl⟩:=rx;obtain ⟨hy,e'⟩:y.size<=sizeLine/\k=((y.size:Int) != 0):=e;subst e';exact PySem.W.truthy_bytes (by omega) ⟨H,I.tok _,q⟩
 |ref p=>
  cases rx;have e':(∃ xs,SqL X.K H p xs/\k = !xs.isEmpty)\/(∃ xs,SqT X.K H p xs/\k = !xs.isEmpty) \/ ∃ kvs,H p=some (.dK kvs)/\k = !kvs.isEmpty:=e;rcases e' with ⟨xs,hx,e'⟩|⟨xs,hx,e'⟩|⟨kvs,hx,e'⟩
  .subst e';obtain ⟨its,r,pl,hz⟩:=I.list hx;have hlen:=r.length;exact wpAny_truthy_list pl.isList (by simp only[zVo];omega) ⟨H,I.tok _,by rw[zGN r];exact q⟩
  .subst e';obtain ⟨its,r,pl,hz⟩:=I.tuple hx;have hlen:=r.length;exact truthy_tuple pl (by simp only[zVo];omega) ⟨H,I.tok _,by rw[zGN r];exact q⟩
  .subst e';obtain ⟨hz,hS,vs,r,m⟩:kvs.length<=sizeLine/\(p==sysModules)=false /\ ∃ vs,KV kvs vs/\s.heap.DictOf (zAL X.prog X.w) p vs:=I.hok p _ hx;have hlen:kvs.length=vs.length:=Paired.length r;exact wpAny_truthy_dict hS m (by omega) ⟨H,I.tok _,by rw[zKs r];exact q⟩
 |_=>exact (show False from e).elim
theorem zOC (ha:PE X a ta) (he:∀ whole,isTrue a X.env whole=(do let v <- whole;standAt a.pos;holding [v] (truthy v))) :
  PT X a (λσ H Q=>ta σ H λx H'=>∃ k,zTt X.K x H' k/\Q k H'):=by
 intro zB s σ H Q I h;exact isTrue_plain (thn (ha zB s σ H _ I h) λv s1 ⟨x,H1,I1,r1,q1⟩=>zSh zB s1 σ H1 x v Q I1 r1 q1) (he _)
theorem zDX {x:V} {us:Yf} (r:zb [x] us):∃ u,us=[u]/\ze x u:=by
 cases r with
 |cons r1 r2=>cases r2;exact ⟨_,rfl,r1⟩
theorem zPd {x y:V} {us:Yf} (r:zb [x,y] us):∃ u w',us=[u,w']/\ze x u/\ze y w':=by
 cases r with
 |cons r1 r2=>
  cases r2 with
  |cons r3 r4=>cases r4;exact ⟨_,_,rfl,r1,r3⟩
theorem zNw:zBz X (.builtin "abs") (λxs H Q=>∃ i,xs=[.int i]/\Q (.int (if i<0 then -i else i)) H):=by
 intro zB s σ H xs us Q I r h;obtain ⟨i,rfl,q⟩:=h;obtain ⟨u,rfl,t,rfl⟩:=zDX r;exact call_abs_int λu tk=>⟨.int (if i<0 then -i else i),H,I.tok _,⟨_,rfl⟩,q⟩
theorem zMm (hc:X.calm=true):zBz X (.builtin "max") (λxs H Q=>∃ i j,xs=[.int i,.int j]/\Q (.int (if j>i then j else i)) H):=by
 intro zB s σ H xs us Q I r h;obtain ⟨i,j,rfl,q⟩:=h;obtain ⟨u,w',rfl,⟨t,rfl⟩,⟨t',rfl⟩⟩:=zPd r;refine max_two_ints (I.ok.hd hc) λh' tk k=>⟨_,H,I.kept k,?_,q⟩;by_cases hj:j>i
 .rw[zVv hj,zVv hj];exact ⟨_,rfl⟩
 .rw[zVy hj,zVy hj];exact ⟨_,rfl⟩
theorem zNH (hc:X.calm=true):zBz X (.builtin "min") (λxs H Q=>∃ i j,xs=[.int i,.int j]/\Q (.int (if j<i then j else i)) H):=by
 intro zB s σ H xs us Q I r h;obtain ⟨i,j,rfl,q⟩:=h;obtain ⟨u,w',rfl,⟨t,rfl⟩,⟨t',rfl⟩⟩:=zPd r;refine min_two_ints (I.ok.hd hc) λh' tk k=>⟨_,H,I.kept k,?_,q⟩;by_cases hj:j<i
 .rw[zVv hj,zVv hj];exact ⟨_,rfl⟩
 .rw[zVy hj,zVy hj];exact ⟨_,rfl⟩
theorem zNn:zBz X (.type "int") (λxs H Q=>(∃ i,xs=[.int i]/\Q (.int i) H) \/ ∃ k,xs=[.bl k]/\Q (.int (if k then 1 else 0)) H):=by
 intro zB s σ H xs us Q I r h;rcases h with ⟨i,rfl,q⟩|⟨k,rfl,q⟩
 .obtain ⟨u,rfl,t,rfl⟩:=zDX r;exact call_int_int ⟨.int i,H,I,⟨_,rfl⟩,q⟩
 .obtain ⟨u,rfl,r1⟩:=zDX r;cases r1;exact call_int_bool ⟨.int (if k then 1 else 0),H,I.tok _,⟨_,rfl⟩,q⟩
end
theorem zFl.some_of {v:V} {o:Option Value} (r:zFl (some v) o):∃ u,o=some u/\ze v u:=by
 cases o with
 |none=>exact (show False from r).elim
 |some u=>exact ⟨u,rfl,r⟩
structure Room (k:Nat) (A:Yn):Prop where
 hd:A.handled=none
 dp:A.depth+3*k+5<recursionLimit
 un:A.units+16*k+200<cLine
theorem Room.mono {j k:Nat} {A:Yn} (r:Room k A) (h:j<=k):Room j A:=⟨r.hd,by have:=r.dp;omega,by have:=r.un;omega⟩
theorem Room.deeper {k:Nat} {A:Yn} (r:Room (k+1) A) (env:Env):Room k (A.deeper env) :=
 ⟨r.hd,by have:=r.dp;show A.depth+1+3*k+5<_;omega,by have:=r.un;show A.units+3+16*k+200<_;omega⟩
theorem Room.depth {k:Nat} {A:Yn} (r:Room k A):A.depth<recursionLimit:=by have:=r.dp;omega
theorem Room.units {k:Nat} {A:Yn} (r:Room k A):A.units+64<cLine:=by have:=r.un;omega
theorem Room.units0 {k:Nat} {A:Yn} (r:Room k A):A.units<cLine:=by have:=r.un;omega
def zVI:TA:=λ_ H Q=>Q [] H
def zU4 (ta:TE) (tr:TA):TA:=λσ H Q=>ta σ H λx H1=>tr σ H1 λxs H2=>Q (x::xs) H2
section
variable {X:Cx} {e:Expr} {es:Yi} {te:TE} {t:TA} {pos:Pos}
theorem zIs:PA X [] zVI:=λ_ _ _ _ H Q I h=>Calls.spliced_nil ⟨[],H,I,.nil,h⟩
theorem zFr (ha:PE X e te) (hr:PA X es t) (hs:starEach (e::es) X.env=(false,eval e X.env)::starEach es X.env:=by rfl):PA X (e::es) (zU4 te t):=by
 intro pos zB s σ H Q I h;rw[hs];show wpAny _ _ (spliced ((false,eval e X.env)::backTo pos (starEach es X.env))) _ _ s;refine Calls.spliced_cons (thn (ha zB s σ H _ I h) λu s1 ⟨x,H1,I1,r1,q1⟩=>?_);exact thn (hr pos zB s1 σ H1 _ I1 q1) λus s2 ⟨xs,H2,I2,r2,q2⟩=>⟨x::xs,H2,I2,.cons r1 r2,q2⟩
def zVA (t:TA):TE:=λσ H Q=>t σ H λxs H1=>xs.length<=sizeLine /\ ∀ p,H1 p=none->Q (.ref p) (upd H1 p (.tup xs))
def zVZ (t:TA):TE:=λσ H Q=>t σ H λxs H1=>xs.length<=sizeLine /\ ∀ p,H1 p=none->Q (.ref p) (upd H1 p (.lst xs))
theorem zSs {x1} (h:PA X es t):PE X (.Tuple es x1 pos) (zVA t):=by
 intro zB s σ H Q I hq;refine wpAny_Tuple_spliced (thn (h pos zB s σ H _ I hq) λus s1 ⟨xs,H1,I1,r,z,q⟩=>⟨by rw[<-r.length];exact z,?_⟩);have hf:H1 s1.heap.objs.size=none:=I1.hok.fresh (zVm _);refine ⟨.ref s1.heap.objs.size,upd H1 s1.heap.objs.size (.tup xs),I1.laid (t':=s1.toks) (λb u e=>zVh _ e) (zVm _) ?_,rfl,q _ hf⟩;exact ⟨z,us,r,⟨_,zVq _ rfl,rfl,⟨_,rfl⟩,rfl⟩⟩
theorem zSz (h:PA X es t):PE X (.List es pos) (zVZ t):=by
 intro zB s σ H Q I hq;refine wpAny_List_spliced (thn (h pos zB s σ H _ I hq) λus s1 ⟨xs,H1,I1,r,z,q⟩=>⟨by rw[<-r.length];exact z,?_⟩);have hf:H1 s1.heap.objs.size=none:=I1.hok.fresh (zVm _);refine ⟨.ref s1.heap.objs.size,upd H1 s1.heap.objs.size (.lst xs),I1.laid (t':=s1.toks) (λb u e=>zVh _ e) (zVm _) ?_,rfl,q _ hf⟩;exact ⟨z,us,0,r,zVq _ rfl⟩
end
abbrev Sp:=List V->Hp->VK->XK->Prop
abbrev CXT:=List Env->Hp->Shared->XK->Value->Shared->Prop
structure Env0 (P:Ym) (w:Yo) (K:Yb) (mg:Yh) (base:Heap) (A:Yn) (outer:List Env) (s:Yl) (H:Hp):Prop where
 frames:A.frames=some outer
 mod:Mod K mg base
 bs:∀ b o,base.get? b=some o->s.heap.get? b=some o/\H b=none
 bsz:base.objs.size<=s.heap.objs.size
 funs:s.heap.FunFrames base outer
 frf:∀ b∈frs outer,H b=none
 hok:HOk P w H s.heap
 bare:AllBare s.gens
def CE (outer:List Env) (P:Ym) (w:Yo) (H:Hp) (s:Yl) (Q:VK) (u:Yu) (s':Yl):Prop :=
 ∃ v H',s'.os=s.os/\AllBare s'.gens/\Un (frs outer) [] H H' s.heap s'.heap/\HOk P w H' s'.heap/\ze v u/\Q v H'
def CR (CX:CXT) (outer:List Env) (P:Ym) (w:Yo) (H:Hp) (s:Yl) (Q:VK) (E:XK) (r:Result) (s':Yl):Prop :=
 match r with
 |.ok (.ret u)=>CE outer P w H s Q u s'
 |.ok _=>False
 |.error e=>CX outer H s E e s'
structure FnOk (P:Ym) (w:Yo) (K:Yb) (mg:Yh) (base:Heap) (CX:CXT) (k:Nat) (f:Yt) (fd:Yz) (ps:Yk) (sp:Sp):Prop where
 len:∀ vs H Q E,sp vs H Q E->vs.length=ps.length
 run:∀ (A:Yn) (outer:List Env) (s:Yl) (H:Hp) (args:Args) (us:Yf) (vs:List V) (Q:VK) (E:XK),Room k A->Env0 P w K mg base A outer s H->BindsTo s fd args (ps.zip us)->zb vs us->sp vs H Q E ->
  codeAny (model P w) A (.call (.ref f) args) (CR CX outer P w H s Q E) s
theorem FnOk.imp {P:Ym} {w:Yo} {K:Yb} {mg:Yh} {base:Heap} {CX:CXT} {k:Nat} {f:Yt} {fd:Yz} {ps:Yk} {sp sp':Sp} (F:FnOk P w K mg base CX k f fd ps sp)
  (h:∀ vs H Q E,sp' vs H Q E->sp vs H Q E):FnOk P w K mg base CX k f fd ps sp' :=
 ⟨λvs H Q E q=>F.len vs H Q E (h _ _ _ _ q),λA outer s H args us vs Q E hr he hb hv hs=>F.run A outer s H args us vs Q E hr he hb hv (h _ _ _ _ hs)⟩
section
variable {X:Cx} {zB:Yd} {σ:St} {H:Hp} {s s':Yl}
theorem Inv.env0 (I:Inv X zB σ H s):Env0 X.prog X.w X.K X.mg X.base X.A X.stack s H :=
 ⟨I.ok.frames,I.ok.mod,I.bs,zV7 I.ok.bsz I.sz,I.stack,I.stkFree,I.hok,I.bare⟩
theorem Inv.after {Q:VK} {u:Yu} (I:Inv X zB σ H s) (h:CE X.stack X.prog X.w H s Q u s'):EP X zB σ Q u s':=by
 obtain ⟨v,H',os,bare,un,hok,r,q⟩:=h;obtain ⟨hh,g,d,t,os'⟩:=s';obtain rfl:os'=s.os:=os;exact ⟨v,H',I.call (h':=hh) (g':=g) (d':=d) (t':=t) (ch:=[]) un hok bare (λb z=>absurd z (by simp)),r,q⟩
end
def zUF (sp:Sp) (dvs:List V) (E:XK) (t:TA):TE:=λσ H Q=>t σ H λvs H1=>sp (vs++dvs) H1 Q E
def zGC (K:Yb) (fd:Yz) (ps:Yk) (ds:Yf):Prop :=
 ∀ (s:Yl) (us:Yf),K.In s.heap->(us++ds).length=ps.length->BindsTo s fd ⟨us,[]⟩ (ps.zip (us++ds))
theorem zGC.all {K:Yb} {fd:Yz} {ps:Yk} (h:∀ us:List Value,us.length=ps.length->bindArgs fd ⟨us,[]⟩=pure (ps.zip us)):zGC K fd ps []:=λs us _ hl=>by
 rw[zWQ]at hl ⊢;exact .of_eq (h us hl)
def zKy (CX:CXT) (X:Cx) (E:XK):Prop:=∀ (zB:Yd) (σ:St) (H:Hp) (s:Yl) (e:Yu) (s':Yl),Inv X zB σ H s->CX X.stack H s E e s'->X.xe e s'
section
variable {X:Cx} {CX:CXT} {k:Nat} {f C:Yt} {fd:Yz} {ps:Yk} {sp:Sp} {dvs:List V} {ds:Yf} {E:XK} {x m:Str} {p pos apos:Pos} {e o:Expr} {es:Yi} {ta:TE} {t:TA}
theorem zSe {zB:Yd} {σ:St} {H:Hp} {s:Yl} {Q:VK} {us:Yf} {vs:List V} (F:FnOk X.prog X.w X.K X.mg X.base CX k f fd ps sp) (hr:Room k X.A) (hb:zGC X.K fd ps ds) (hd:zb dvs ds) (hx:zKy CX X E)
  (I:Inv X zB σ H s) (r:zb vs us) (h:sp (vs++dvs) H Q E):wpAny (model X.prog X.w) X.A (call (.ref f) us) (EP X zB σ Q) X.xe s:=by
 have r2:zb (vs++dvs) (us++ds):=r.append hd;have hl:(us++ds).length=ps.length:=by rw[<-r2.length];exact F.len _ _ _ _ h
 refine wpAny_call (codeAny_mono (F.run X.A X.stack s H ⟨us,[]⟩ (us++ds) (vs++dvs) Q E hr I.env0 (hb s us I.kIn hl) r2 h) λr s' hq=>?_);cases r with
 |error e=>exact hx zB σ H s e s' I hq
 |ok fl=>
  cases fl with
  |ret u=>exact I.after hq
  |next=>exact False.elim hq
  |brk=>exact False.elim hq
  |cont=>exact False.elim hq
theorem zQX (F:FnOk X.prog X.w X.K X.mg X.base CX k f fd ps sp) (hr:Room k X.A) (hg:Gl X x) (hm:X.mg x=some (.ref f)) (hk:PySem.W.keepIn X.K (.ref f)=true) (hb:zGC X.K fd ps ds) (hd:zb dvs ds) (hx:zKy CX X E)
  (ha:PA X (e::es) t) (hdb:(x==("__debug__" : Str))=false:=by decide) (he:starEach (e::es) X.env=(false,eval e X.env)::starEach es X.env:=by rfl) (hpl:(backTo pos (starEach es X.env)).any (·.1)=false:=by rfl) :
  PE X (.Call (.Name x p) (e::es) [] pos) (zUF sp dvs E t):=by
 intro zB s σ H Q I h;refine wpAny_Call_Name_kw (zRU I hg hm ?_ hdb);refine PySem.W.callWith_K (h₀:=X.base) I.ok.mod.kin hk (thn (ha pos zB s σ H _ I h) λus s1 ⟨vs,H1,I1,r,q⟩=>⟨I1.kIn,?_⟩) he hpl;exact zSe F hr hb hd hx I1 r q
end
structure FnScope (N P:Yk) (sc:Y0):Prop where
 kind:sc.kind=.function
 co:sc.isCoroutine=false
 gen:sc.isGenerator=false
 nd:N.Nodup
 pre:N.take P.length=P
 par:∀ x∈P,sc.names.lookup x=some .local\/sc.names.lookup x=some .cell
 nofree:∀ y∈sc.names,y.2≠.free
theorem zHY {kindOf:Str->Option NameKind} {x:Str}:∀ {binds:List (Str × Value)} {m:Yh},(∀ v,(x,v)∉binds)->bindL kindOf binds m x=m x
 |[],_,_=>rfl
 | (n,v)::r,m,h=>by
  unfold bindL;rw[zHY λw hw=>h w (zVt _ hw)];split
  .have:x≠n:=by rintro rfl;exact h v zVu
   simp[this]
  .rfl
theorem zH4 {kindOf:Str->Option NameKind} {x:Str}:∀ {binds:List (Str × Value)} {m:Yh},(∀ v,(x,v)∉binds)->bindC kindOf binds m x=m x
 |[],_,_=>rfl
 | (n,v)::r,m,h=>by
  unfold bindC;rw[zH4 λw hw=>h w (zVt _ hw)];split
  .rfl
  .have:x≠n:=by rintro rfl;exact h v zVu
   simp[this]
theorem zHj {kindOf:Str->Option NameKind} {x:Str} {v:Yu}:∀ {P:Yk} {vs:Yf} {i:Nat} {m:Yh},P.Nodup->P[i]?=some x->vs[i]?=some v->kindOf x=some .local ->
  bindL kindOf (P.zip vs) m x=some v
 |[],_,_,_,_,h,_,_=>by simp at h
 |_::_,[],_,_,_,_,h,_=>by simp at h
 |p::P,w::vs,0,m,nd,h1,h2,hk=>by
  simp at h1 h2;subst h1;subst h2;show bindL kindOf ((p,w)::P.zip vs) m p=_;unfold bindL;rw[zHY λv hv=>(List.nodup_cons.mp nd).1 (List.of_mem_zip hv).1,zVv hk];simp
 |p::P,w::vs,i+1,m,nd,h1,h2,hk=>by
  show bindL kindOf ((p,w)::P.zip vs) m x=_;unfold bindL;exact zHj (i:=i) (List.nodup_cons.mp nd).2 (by simpa using h1) (by simpa using h2) hk
theorem zHd {kindOf:Str->Option NameKind} {x:Str} {v:Yu}:∀ {P:Yk} {vs:Yf} {i:Nat} {m:Yh},P.Nodup->P[i]?=some x->vs[i]?=some v->kindOf x≠some .local ->
  bindC kindOf (P.zip vs) m x=some v
 |[],_,_,_,_,h,_,_=>by simp at h
 |_::_,[],_,_,_,_,h,_=>by simp at h
 |p::P,w::vs,0,m,nd,h1,h2,hk=>by
  simp at h1 h2;subst h1;subst h2;show bindC kindOf ((p,w)::P.zip vs) m p=_;unfold bindC;rw[zH4 λv hv=>(List.nodup_cons.mp nd).1 (List.of_mem_zip hv).1,zVy hk];simp
 |p::P,w::vs,i+1,m,nd,h1,h2,hk=>by
  show bindC kindOf ((p,w)::P.zip vs) m x=_;unfold bindC;exact zHd (i:=i) (List.nodup_cons.mp nd).2 (by simpa using h1) (by simpa using h2) hk
def zD6 (N:Yk) (vs:List V):St:=vs.map some++List.replicate (N.length-vs.length) none
def zK8 (CX:CXT) (P:Ym) (w:Yo) (K:Yb) (mg:Yh) (base:Heap) (N:Yk) (qual:Str) (scope:Y0) (f:Yt) (cd:Yu) (A:Yn) (outer:List Env) (s:Yl) (H:Hp) (E:XK):Cx where
 prog:=P
 w:=w
 K:=K
 mg:=mg
 base:=base
 A:=A.deeper (envOfC qual scope s.heap.objs.size f cd)
 N:=N
 s₀:=s
 H₀:=H
 env:=envOfC qual scope s.heap.objs.size f cd
 outer:=outer
 stack:=envOfC qual scope s.heap.objs.size f cd::outer
 ex:=[]
 calm:=true
 fn:=λ_=>true
 pn:=[]
 xe:=λe s'=>wpAny (model P w) (A.deeper (envOfC qual scope s.heap.objs.size f cd)) (leaving (envOfC qual scope s.heap.objs.size f cd) e) (λ_ s''=>CX outer H s E e s'') (λe' s''=>CX outer H s E e' s'') s'
theorem zGS {sc:Y0} {n:Nat} {x:Str} (h:sc.names.lookup x=some .cell):∃ c,(cellsFrom n sc.names []).lookup x=some c:=by
 have q:=PySem.W.cellsFrom_some sc.names n [] (.inl h);exact Option.isSome_iff_exists.mp q
theorem zMw {CX:CXT} {P:Ym} {w:Yo} {K:Yb} {mg:Yh} {base:Heap} {N ps:Yk} {qual:Str} {scope:Y0} {f:Yt} {cd:Yu} {A:Yn} {outer:List Env} {s s1:Yl} {H:Hp} {E:XK} {us:Yf} {vs:List V}
  (S:FnScope N ps scope) (hd:A.handled=none) (e0:Env0 P w K mg base A outer s H) (hl:vs.length=ps.length) (r:zb vs us)
  (x:InCallC s s.heap.objs.size (bindL (envOfC qual scope s.heap.objs.size f cd).kindOf (ps.zip us) λ_=>none) (cellsFrom (s.heap.objs.size+1) scope.names []) (bindC (envOfC qual scope s.heap.objs.size f cd).kindOf (ps.zip us) λ_=>none) s1) :
  Inv (zK8 CX P w K mg base N qual scope f cd A outer s H E) [] (zD6 N vs) H s1:=by
 have hpl:ps.length<=N.length:=by have:=congrArg List.length S.pre;rw[zW4]at this;omega
 obtain ⟨h1,tk,rfl,hk⟩:=x.done;have noA:∀ b:Addr,b∉(zK8 CX P w K mg base N qual scope f cd A outer s H E).ex:=λb z=>absurd (show b∈([]:List Addr)from z) (by simp)
 refine ⟨⟨e0.mod,S.kind,rfl,rfl,zVm _,λy z c h1 h2=>?_,λy hy=>?_,λy c _ h=>?_,λ_=>hd,Around.frames_deeper e0.frames,.inr ⟨rfl,rfl⟩,λb z=>absurd z (noA b),e0.bs,e0.bsz,λb _ _=>noA b,λb z=>absurd z (noA b),e0.funs,e0.frf⟩,
  rfl,e0.bare,Un.kept hk,⟨_,x.toInCall.ns,λi y v h1 h2 h3=>?_⟩,λy c h=>⟨_,x.cell y c h⟩,e0.hok.fresh (zVm _),λy c h=>?_,λp hp=>absurd (show p∈([]:List (Addr × Obj))from hp) (by simp),e0.hok.kept hk,?_⟩
 .exact name_of_addr x.apart (zWi h1) (zWi h2)
 .have hy:scope.names.lookup y=some .cell\/scope.names.lookup y=some .free:=hy;rcases hy with hy|hy
  .exact zGS hy
  .exact absurd rfl (S.nofree _ (zWi hy))
 .exact Nat.le_of_lt (x.above y c (zWi h))
 .have hi:i<vs.length:=by
   unfold zD6 at h2;by_cases hi:i<vs.length
   .exact hi
   .rw[zWq (by simpa using hi)]at h2;rw[List.getElem?_replicate]at h2;split at h2 <;> cases h2
  have ha:vs[i]?=some v:=by
   unfold zD6 at h2;rw[zVn (by simpa using hi),zV3]at h2;cases e:vs[i]? with
   |none=>rw[e]at h2;cases h2
   |some a=>rw[e]at h2;cases h2;rfl
  obtain ⟨u,hu,rv⟩:=r.get ha;have hp:ps[i]?=some y:=by
   rw[<-S.pre,List.getElem?_take_of_lt (by omega)];exact h1
  have ndP:ps.Nodup:=by rw[<-S.pre];exact S.nd.sublist (List.take_sublist _ _)
  refine ⟨u,rv,?_⟩;rcases S.par y (zWX hp)with k|k
  .exact .inl ⟨k,zHj ndP hp hu k⟩
  .obtain ⟨c,e⟩:=zGS (n:=s.heap.objs.size+1) k;refine .inr ⟨.inl k,c,e,?_⟩;have q:=x.cell y c e;rw[zHd ndP hp hu (by show scope.names.lookup y≠_;rw[k];decide)]at q;exact q
 .exact e0.hok.fresh (Nat.le_of_lt (x.above y c (zWi h)))
 .unfold zD6;show _=N.length;rw[zVw,zVp,List.length_replicate];omega
theorem zUJ {CX:CXT} {P:Ym} {w:Yo} {K:Yb} {mg:Yh} {base:Heap} {k:Nat} {f:Yt} {name qual:Str} {params:Arguments} {body:Yy} {scope:Y0} {dV kV doc pm cdv ct oc:Yu} {an od:Option Addr}
  {osl:Array (Option Value)} {N ps:Yk} {sp:Sp} (lk:K.lookup f=some ⟨oc,od,.func (PySem.W.fnOf name qual params body scope dV kV doc pm an cdv ct),osl⟩) (hcd:PySem.W.codeIn K cdv qual=true) (S:FnScope N ps scope)
  (len:∀ vs H Q E,sp vs H Q E->vs.length=ps.length)
  (hbody:∀ (A:Yn) (outer:List Env) (s:Yl) (H:Hp) (vs:List V) (Q:VK) (E:XK),Room k (A.deeper (envOfC qual scope s.heap.objs.size f cdv))->sp vs H Q E ->
   ∃ t,PSs (zK8 CX P w K mg base N qual scope f cdv A outer s H E) body t/\t { nx:=λ_ H'=>Q .non H',rt:=Q } (zD6 N vs) H) :
  FnOk P w K mg base CX (k+1) f (PySem.W.fnOf name qual params body scope dV kV doc pm an cdv ct) ps sp:=by
 refine ⟨len,λA outer s H args us vs Q E hr e0 hb r hsp=>?_⟩;have hl:=len _ _ _ _ hsp;have KX:K.In s.heap:=e0.mod.kin.keeps λb o e=>(e0.bs b o e).1;have lim:s.heap.NoLimit:=e0.mod.nolimit.keeps λb o e=>(e0.bs b o e).1;have hkind:∀ y∈ps.zip us,scope.names.lookup y.1=some .local\/(scope.names.lookup y.1=some .cell/\((cellsFrom (s.heap.objs.size+1) scope.names []).lookup y.1).isSome=true):=λ⟨n,v⟩ hy=>by
  rcases S.par n (List.of_mem_zip hy).1 with q|q
  .exact .inl q
  .exact .inr ⟨q,PySem.W.cellsFrom_some _ _ _ (.inl q)⟩
 refine codeAny_call_function hr.depth (KX _ _ lk) rfl S.co S.gen rfl (PySem.W.codeRec_of KX hcd) (hb _ _ _ _ ?_);refine wpAny_newFunctionEnv_cells S.kind hkind λenv he s1 x=>?_;subst he;refine ⟨lim.keeps x.toInCall.keep,codeAny_func ?_⟩;obtain ⟨t,ht,hq⟩:=hbody A outer s H vs Q E (hr.deeper _) hsp;have I:Inv (zK8 CX P w K mg base N qual scope f cdv A outer s H E) [] (zD6 N vs) H s1:=zMw S hr.hd e0 hl r x;refine zWC (ht [] s1 (zD6 N vs) H _ I hq) (λfl s' hs=>?_) λe s' hs=>hs;have fin:∀ {σ':St} {H':Hp} {v:V} {u:Yu},Inv (zK8 CX P w K mg base N qual scope f cdv A outer s H E) [] σ' H' s'->ze v u->Q v H'->CE outer P w H s Q u s' :=
  λ{σ' H' v u} J rv q=>⟨v,H',J.os,J.bare,J.base,J.hok,rv,q⟩
 cases fl with
 |ret u=>
  obtain ⟨v,σ',H',J,rv,q⟩:=hs;exact fin J rv q
 |next=>
  obtain ⟨σ',H',J,q⟩:=hs;exact fin (v:=V.non) (u:=Value.none) J rfl q
 |brk=>
  obtain ⟨_,_,_,q⟩:=hs;exact False.elim q
 |cont=>
  obtain ⟨_,_,_,q⟩:=hs;exact False.elim q
section
variable {X:Cx} {x:Str} {p pos:Pos} {e:Expr} {es:Yi} {t:TA} {id T:String} {r:List V->Hp->VK->Prop}
def tCB (r:List V->Hp->VK->Prop) (t:TA):TE:=λσ H Q=>t σ H λvs H1=>r vs H1 Q
theorem zPE (hc:zBz X (.builtin id) r) (hg:Gl X x) (hm:X.mg x=none) (hv:bootBuiltins x=some (.builtin id)) (ha:PA X (e::es) t) (hn:x ≠ "__name__" := by decide) (hdb:(x==("__debug__" : Str))=false:=by decide)
  (he:starEach (e::es) X.env=(false,eval e X.env)::starEach es X.env:=by rfl) (hpl:(backTo pos (starEach es X.env)).any (·.1)=false:=by rfl):PE X (.Call (.Name x p) (e::es) [] pos) (tCB r t):=by
 intro zB s σ H Q I h;refine wpAny_Call_Name_kw (zGD I hg hm hv ?_ hn hdb);exact PyProof.Rows.callWith_builtin1 (thn (ha pos zB s σ H _ I h) λus s1 ⟨vs,H1,I1,r1,q1⟩=>hc zB s1 σ H1 vs us Q I1 r1 q1) he hpl
theorem zE0 (hc:zBz X (.type T) r) (hg:Gl X x) (hm:X.mg x=none) (hv:bootBuiltins x=some (.type T)) (ha:PA X (e::es) t) (hn:x ≠ "__name__" := by decide) (hdb:(x==("__debug__" : Str))=false:=by decide)
  (he:starEach (e::es) X.env=(false,eval e X.env)::starEach es X.env:=by rfl) (hpl:(backTo pos (starEach es X.env)).any (·.1)=false:=by rfl):PE X (.Call (.Name x p) (e::es) [] pos) (tCB r t):=by
 intro zB s σ H Q I h;refine wpAny_Call_Name_kw (zGD I hg hm hv ?_ hn hdb);exact PyProof.Rows.callWith_type1 (thn (ha pos zB s σ H _ I h) λus s1 ⟨vs,H1,I1,r1,q1⟩=>hc zB s1 σ H1 vs us Q I1 r1 q1) he hpl
end
end L2
namespace HT
open PySem PyProof.Rows
section
variable {prog:Ym} {w:Yo} {A:Yn} {E:Yc} {s:Yl}
theorem zRT {t b:Yt} {vs ws:Yf} {Q:Yc} (ht:IsTup s.heap t vs.toArray) (hb:IsTup s.heap b ws.toArray) (hv:vs≠[])
  (h1:ws=[]->Q (.ref t) s) (h2:ws≠[]->Q (.ref s.heap.objs.size) { s with heap:=s.heap.push { cls:=.type "tuple", data:=.seq (vs++ws).toArray } })
  (hsz:vs.length+ws.length<=sizeLine):wpAny (model prog w) A (binaryOp .Add (.ref t) (.ref b)) Q E s:=by
 obtain ⟨⟨cls,dd,data,sl⟩,ho,hc,n,hd⟩:=id ht;obtain ⟨⟨cls2,dd2,data2,sl2⟩,ho2,hc2,n2,hd2⟩:=id hb;simp only at hc hd hc2 hd2;subst hc hd hc2 hd2;have e:vs.toArray++ws.toArray=(vs++ws).toArray:=by simp
 by_cases hw:ws=[]
 .exact concat_meets ⟨_,ho,rfl⟩ ⟨_,ho2,rfl⟩ noFill_tuple_add seq_tuple_add PySem.F.slot_tuple_add PySem.F.entry_tuple_add (PySem.F.args_tuple_add_2 _ _)
   (tuple_addW1 t b vs.toArray ws.toArray n n2 dd dd2 sl sl2 (by simpa using hv) (by simp[hw])) ⟨ho,ho2,h1 hw⟩
 .refine concat_meets ⟨_,ho,rfl⟩ ⟨_,ho2,rfl⟩ noFill_tuple_add seq_tuple_add PySem.F.slot_tuple_add PySem.F.entry_tuple_add (PySem.F.args_tuple_add_2 _ _)
   (tuple_addW2 t b vs.toArray ws.toArray n n2 dd dd2 sl sl2 (by simpa using hv) (by simpa using hw) (by rw[zVo,zVo];exact hsz)) ⟨ho,ho2,?_⟩
  rw[e];exact h2 hw
def sIx (n d:Nat):Option Int->Nat
 |none=>d
 |some v=>if v<0 then (v+(n:Int)).toNat else min v.toNat n
theorem zRF (n d k:Nat):sIx n d (some (k:Int))=min k n:=by
 show (if (k:Int)<0 then ((k:Int)+(n:Int)).toNat else min (k:Int).toNat n)=min k n;rw[zVy (by omega),Int.toNat_natCast]
theorem zSS (n d:Nat) (hd:d<=n) (o:Ys):sIx n d o<=n:=by
 cases o with
 |none=>exact hd
 |some v=>
  show (if v<0 then (v+(n:Int)).toNat else min v.toNat n)<=n;by_cases hv:v<0
  .rw[zVv hv];omega
  .rw[zVy hv];exact Nat.min_le_right _ _
theorem zMA (v:Int) (n d:Nat):(if v<0 then max (v+(n:Int)) 0 else min v (n:Int))=((sIx n d (some v):Nat):Int):=by
 show (if v<0 then max (v+(n:Int)) 0 else min v (n:Int))=(((if v<0 then (v+(n:Int)).toNat else min v.toNat n):Nat):Int);by_cases hv:v<0
 .simp only[zVv hv];omega
 .simp only[zVy hv];omega
theorem zLT (lo hi:Ys) (n:Nat):Builtin.Slice.sliceAdjust lo hi 1 (n:Int)=(((sIx n 0 lo:Nat):Int),((sIx n n hi:Nat):Int)):=by
 have h1:¬ ((1:Int)<0):=by omega
 unfold Builtin.Slice.sliceAdjust;simp only[h1,if_false];refine Prod.ext ?_ ?_
 .cases lo with
  |none=>rfl
  |some v=>exact zMA v n 0
 .cases hi with
  |none=>rfl
  |some v=>exact zMA v n n
theorem zKo (i j:Nat):Builtin.Slice.slicePlaces (i:Int) (j:Int) 1=j-i:=by
 unfold Builtin.Slice.slicePlaces;have h1:(1:Int)>0:=by omega
 simp only[h1,if_true,Int.ediv_one];split <;> omega
theorem zG0 {v:Yu} {o:Ys} {Q:Option Int->Shared->Prop} (p:IsPart v o) (h:Q o s):wpAny (model prog w) A (Builtin.Slice.slicePartIndex v) Q E s:=by
 cases p with
 |none=>exact slicePart_none h
 |int i t=>exact slicePart_int h
theorem zCy {sl:Yt} {vl vu:Yu} {lo hi:Ys} {n:Nat} {Q:Int × Int × Nat->Shared->Prop} (hs:s.heap.IsSliceOf sl vl vu .none) (pl:IsPart vl lo) (pu:IsPart vu hi)
  (h:Q (((sIx n 0 lo:Nat):Int),1,sIx n n hi-sIx n 0 lo) s):wpAny (model prog w) A (Builtin.Slice.sliceApplied (.ref sl) (pure (n:Int))) Q E s:=by
 obtain ⟨os,hos,hcs,hds⟩:=id hs;unfold Builtin.Slice.sliceApplied Builtin.Slice.sliceFields;refine zVg (zVg (zWL hos hds (x:=vl) rfl (zVg (zWL hos hds (x:=vu) rfl (zVg (zWL hos hds (x:=.none) rfl (zVi ?_)))))));refine zVg (slicePart_none ?_);show wpAny _ _ (if ((1:Int)==0)=true then _ else _) _ _ s;rw[zVy (by decide)];refine zVg (zG0 pl (zVg (zG0 pu (zVg (zVi ?_)))));show wpAny _ _ (match Builtin.Slice.sliceAdjust lo hi 1 (n:Int) with|(lo,hi)=>pure (lo,(1:Int),Builtin.Slice.slicePlaces lo hi 1)) _ _ s;rw[zLT lo hi n];show wpAny _ _ (pure (((sIx n 0 lo:Nat):Int),(1:Int),Builtin.Slice.slicePlaces ((sIx n 0 lo:Nat):Int) ((sIx n n hi:Nat):Int) 1)) _ _ s;rw[zKo];exact zVi h
theorem zP7 (xs:Yp) (i k:Nat):((List.range k).filterMap λ(m:Nat)=>xs[((i:Int)+(m:Int)*1).toNat]?).toArray=((xs.toList.drop i).take k).toArray:=by
 have e:(λ(m:Nat)=>xs[((i:Int)+(m:Int)*1).toNat]?)=λm=>xs[i+m]?:=by
  funext m;have:((i:Int)+(m:Int)*1).toNat=i+m:=by omega
  rw[this]
 rw[e];have:=pick_run xs i k;rw[List.filterMap_map]at this;have e2:((λx=>xs[x]?)∘λx=>i+x)=λm=>xs[i+m]?:=rfl;rw[e2]at this;rw[this]
theorem zEw {t sl:Yt} {items:Yp} {vl vu:Yu} {lo hi:Ys} {Q:Yc} (ht:IsTup s.heap t items) (hs:s.heap.IsSliceOf sl vl vu .none) (pl:IsPart vl lo) (pu:IsPart vu hi)
  (hw:¬ (sIx items.size 0 lo=0/\sIx items.size items.size hi=items.size))
  (h:Q (.ref s.heap.objs.size) { s with heap:=s.heap.push { cls:=.type "tuple", data:=.seq ((items.toList.drop (sIx items.size 0 lo)).take (sIx items.size items.size hi-sIx items.size 0 lo)).toArray } })
  (hsz:items.size<=sizeLine):wpAny (model prog w) A (getItem (.ref t) (.ref sl)) Q E s:=by
 have htake:sizeOk (.seq ((items.toList.drop (sIx items.size 0 lo)).take (sIx items.size items.size hi-sIx items.size 0 lo)).toArray):=by
  show ((items.toList.drop (sIx items.size 0 lo)).take (sIx items.size items.size hi-sIx items.size 0 lo)).toArray.size<=sizeLine;rw[zVo,zW4,List.length_drop,zWP];omega
 have hj:sIx items.size items.size hi<=items.size:=zSS _ _ (zVm _) hi;obtain ⟨os,hos,hcs,hds⟩:=id hs;have hTs:s.TypeIs (.ref sl) "slice" := ⟨os,hos,hcs⟩;unfold getItem;try with_reducible refine zWZ ?_
 first|refine zVg (zVi ?_)|skip
 refine zVg (wpAny_sequenceKey ht.typeIs (by decide) ?_)
 refine zVg (zWI (name:=Str.ofString "__getitem__") ht.typeIs zXE
  (zWJ zXE ht.typeIs entry_tuple_getitem ?_ (args_tuple_getitem _ _)))
 show wpAny _ _ (Builtin.Tuple.tupleItemsOf (.ref t) >>= _) _ _ s;refine zVg (tupleItemsOf_ ht ?_);refine zVg (wpAny_typeOf hTs ?_);rw[zVv (by decide)];refine zVg (zCy hs pl pu ?_);have hno:¬ ((((sIx items.size 0 lo:Nat):Int)==0&&(1:Int)==1&&(sIx items.size items.size hi-sIx items.size 0 lo)==items.size)=true):=by
  intro q;rw[zWG,zWG]at q;have q1:((sIx items.size 0 lo:Nat):Int)=0:=eq_of_beq q.1.1;have q2:sIx items.size items.size hi-sIx items.size 0 lo=items.size:=eq_of_beq q.2;exact hw ⟨by omega,by omega⟩
 show wpAny _ _ (if (((sIx items.size 0 lo:Nat):Int)==0&&(1:Int)==1&&(sIx items.size items.size hi-sIx items.size 0 lo)==items.size)=true then _ else _) _ _ s;rw[zVy hno,zP7]
 first
  |exact zVg (m:=Builtin.Tuple.tupleExact _) (zV9 (zVi ⟨_,rfl,zVi h⟩) htake)
  |exact zVg (m:=Builtin.Tuple.tupleExact _) (zV9 (zVg (zVi (zVi ⟨_,rfl,zVi h⟩))) htake)
  |exact zVg (zVg (m:=Builtin.Tuple.tupleExact _) (zV9 (zVi (zVi ⟨_,rfl,zVi h⟩)) htake))
  |exact zVg (zVg (m:=Builtin.Tuple.tupleExact _) (zV9 (zVi ⟨_,rfl,zVi h⟩) htake))
end
end HT
namespace L2
open PySem PySem.Spec PyProof.Rows
abbrev TO:=St->Hp->(Option Int->Hp->Prop)->Prop
def PO (X:Cx) (e:Option Expr) (t:TO):Prop :=
 ∀ (zB:Yd) (s:Yl) (σ:St) (H:Hp) (Q:Option Int->Hp->Prop),Inv X zB σ H s->t σ H Q ->
  wpAny (model X.prog X.w) X.A (evalPart e X.env) (λu s'=>∃ o H',Inv X zB σ H' s'/\IsPart u o/\Q o H') X.xe s
def zRW:TO:=λ_ H Q=>Q none H
def zT0 (t:TE):TO:=λσ H Q=>t σ H λx H1=>∃ i,x=.int i/\Q (some i) H1
section
variable {X:Cx} {e:Expr} {te:TE} {lo hi:Option Expr} {tl th:TO} {pos p2:Pos}
theorem zRA:PO X none zRW:=by
 intro zB s σ H Q I h;rw[evalPart_none];exact zVi ⟨none,H,I,.none,h⟩
theorem zRw (h:PE X e te):PO X (some e) (zT0 te):=by
 intro zB s σ H Q I hw;rw[evalPart_some];refine thn (h zB s σ H _ I hw) λu s1 ⟨x,H1,I1,r1,q1⟩=>?_;obtain ⟨i,rfl,q⟩:=q1;obtain ⟨t,rfl⟩:=r1;exact ⟨some i,H1,I1,.int i t,q⟩
def SlR (X:Cx) (r:V->Option Int->Option Int->Hp->VK->Prop):Prop :=
 ∀ (zB:Yd) (s:Yl) (σ:St) (H:Hp) (x:V) (v vl vu:Yu) (lo hi:Ys) (sl:Yt) (Q:VK),Inv X zB σ H s->ze x v->s.heap.IsSliceOf sl vl vu .none->IsPart vl lo->IsPart vu hi->r x lo hi H Q ->
  ∃ T id,typeLookup (.type T) "__getitem__" = pure (some (.builtin id))/\s.TypeIs v T/\wpAny (model X.prog X.w) X.A (getItem v (.ref sl)) (EP X zB σ Q) X.xe s
theorem SlR.or {r r':V->Option Int->Option Int->Hp->VK->Prop} (h:SlR X r) (h':SlR X r'):SlR X (λx lo hi H Q=>r x lo hi H Q\/r' x lo hi H Q):=by
 intro zB s σ H x v vl vu lo hi sl Q I rx hs pl pu q;rcases q with q|q
 .exact h zB s σ H x v vl vu lo hi sl Q I rx hs pl pu q
 .exact h' zB s σ H x v vl vu lo hi sl Q I rx hs pl pu q
def tSl (r:V->Option Int->Option Int->Hp->VK->Prop) (te:TE) (tl th:TO):TE:=λσ H Q=>te σ H λx H1=>tl σ H1 λl H2=>th σ H2 λu H3=>r x l u H3 Q
theorem zPW {r:V->Option Int->Option Int->Hp->VK->Prop} (hr:SlR X r) (he:PE X e te) (hl:PO X lo tl) (hu:PO X hi th):PE X (.Subscript e (.Slice lo hi none p2) pos) (tSl r te tl th):=by
 intro zB s σ H Q I h;refine Subscript_ (thn (he zB s σ H _ I h) λv s1 ⟨x,H1,I1,r1,q1⟩=>?_);refine wpAny_Slice (thn (hl zB s1 σ H1 _ I1 q1) λvl s2 ⟨l,H2,I2,pl,q2⟩=>thn (hu zB s2 σ H2 _ I2 q2) λvu s3 ⟨u,H3,I3,pu,q3⟩=>?_);rw[evalPart_none];refine zVi ?_;have I4:Inv X zB σ H3 { s3 with heap:=s3.heap.push { cls:=.type "slice", data:=.fields #[vl,vu,.none] } }:=I3.kept (t':=s3.toks) λb ob q=>zVh _ q;obtain ⟨T,id,hT,ht,hg⟩:=hr zB { s3 with heap:=s3.heap.push { cls:=.type "slice", data:=.fields #[vl,vu,.none] } } σ H3 x v vl vu l u s3.heap.objs.size Q I4 r1 (Heap.IsSliceOf.new ..) pl pu q3;show wpAny (model X.prog X.w) X.A (subscriptTail e (.Slice lo hi none p2) v (.ref s3.heap.objs.size)) (EP X zB σ Q) X.xe { s3 with heap:=s3.heap.push { cls:=.type "slice", data:=.fields #[vl,vu,.none] } };exact tail_any (ops:=[.ref s3.heap.objs.size,v]) ht hT hg (by with_unfolding_all rfl)
def zJa (xs:List V) (lo hi:Ys):List V:=(xs.drop (HT.sIx xs.length 0 lo)).take (HT.sIx xs.length xs.length hi-HT.sIx xs.length 0 lo)
theorem zFT (xs:List V) (lo hi:Ys):(zJa xs lo hi).length<=xs.length:=by
 unfold zJa;rw[zW4,List.length_drop];omega
def zVH (K:Yb):V->Option Int->Option Int->Hp->VK->Prop:=λx lo hi H Q=>∃ a xs,x=.ref a/\SqT K H a xs /\
 ¬ (HT.sIx xs.length 0 lo=0/\HT.sIx xs.length xs.length hi=xs.length) /\ ∀ p,H p=none->Q (.ref p) (upd H p (.tup (zJa xs lo hi)))
theorem zS4:SlR X (zVH X.K):=by
 intro zB s σ H x v vl vu lo hi sl Q I rx hs pl pu h;obtain ⟨a,xs,rfl,hx,hw,q⟩:=h;cases rx;obtain ⟨its,r,ht,hz⟩:=I.tuple hx;have hlen:its.toArray.size=xs.length:=by rw[zVo];exact r.length.symm
 refine ⟨"tuple", _,zXE.lookup,ht.typeIs,?_⟩;refine HT.zEw ht hs pl pu (by rw[hlen];exact hw) ?_ (by rw[hlen];exact hz);rw[hlen];refine ⟨.ref s.heap.objs.size,_,I.laid (t':=s.toks) (o:=.tup (zJa xs lo hi)) (λb ob q=>zVh _ q) (zVm _) ?_,rfl,q _ (I.hok.fresh (zVm _))⟩;exact ⟨zV7 (zFT xs lo hi) hz,_,(r.drop (HT.sIx xs.length 0 lo)).take (HT.sIx xs.length xs.length hi-HT.sIx xs.length 0 lo),zCN.new _ _⟩
def zR5 (K:Yb):R2:=λx y H Q=>∃ a b xs ys,x=.ref a/\y=.ref b/\SqT K H a xs/\SqT K H b ys/\xs≠[]/\xs.length+ys.length<=sizeLine /\
 (ys=[]->Q (.ref a) H)/\(ys≠[] -> ∀ p,H p=none->Q (.ref p) (upd H p (.tup (xs++ys))))
theorem zb.nil_iff {xs:List V} {us:Yf} (r:zb xs us):us=[] ↔ xs=[]:=by
 cases r with
 |nil=>simp
 |cons _ _=>simp
theorem zQ7:OpR X (binaryOp .Add) (zR5 X.K):=by
 intro zB s σ H x y v u Q I rx ry h;obtain ⟨a,b,xs,ys,rfl,rfl,ha,hb,hx,hz,q1,q2⟩:=h;cases rx;cases ry;obtain ⟨its,r1,p1,_⟩:=I.tuple ha;obtain ⟨its2,r2,p2,_⟩:=I.tuple hb;refine HT.zRT p1 p2 (λz=>hx (r1.nil_iff.mp z)) (λz=>⟨.ref a,H,I,rfl,q1 (r2.nil_iff.mp z)⟩) (λz=>?_) (by rw[<-r1.length,<-r2.length];exact hz);refine ⟨.ref s.heap.objs.size,_,I.laid (t':=s.toks) (o:=.tup (xs++ys)) (λb ob q=>zVh _ q) (zVm _) ?_,rfl,q2 (λw=>z (r2.nil_iff.mpr w)) _ (I.hok.fresh (zVm _))⟩;exact ⟨by rw[zVw];exact hz,_,r1.append r2,zCN.new _ _⟩
end
def ixN (n:Nat) (i:Int):Option Nat:=if 0<=i then (if i<n then some i.toNat else none) else if -(n:Int)<=i then some (i+n).toNat else none
def atI {α:Type} (xs:List α) (i:Int):Option α:=(ixN xs.length i).bind λj=>xs[j]?
theorem zIu {n:Nat} {i:Int} {j:Nat} (h:ixN n i=some j):seqIndex? i n=some j/\j<n /\ -(n:Int)<=i/\i<n:=by
 unfold ixN at h;by_cases h0:0<=i
 .rw[zVv h0]at h;by_cases h1:i<n
  .rw[zVv h1]at h;have e:i.toNat=j:=zWg h;exact ⟨by rw[seqIndex_of h0 h1,e],by omega,by omega,h1⟩
  .rw[zVy h1]at h;cases h
 .rw[zVy h0]at h;by_cases h1 : -(n:Int)<=i
  .rw[zVv h1]at h;have e:(i+n).toNat=j:=zWg h;exact ⟨by rw[seqIndex_neg (by omega) h1,e],by omega,h1,by omega⟩
  .rw[zVy h1]at h;cases h
theorem zIU {α:Type} {xs:List α} {i:Int} {v:α} (h:atI xs i=some v):∃ j,seqIndex? i xs.length=some j/\xs[j]?=some v/\j<xs.length /\ -(xs.length:Int)<=i/\i<xs.length:=by
 unfold atI at h;cases e:ixN xs.length i with
 |none=>rw[e]at h;cases h
 |some j=>
  rw[e]at h;obtain ⟨h1,h2,h3,h4⟩:=zIu e;exact ⟨j,h1,h,h2,h3,h4⟩
theorem zMG {α:Type} {xs:List α} {j:Nat} {v:α} (h:xs[j]?=some v):atI xs (j:Int)=some v:=by
 have hj:j<xs.length:=(zVj.mp h).1;have e:ixN xs.length (j:Int)=some j:=by
  unfold ixN;rw[zVv (by omega),zVv (by omega)];simp
 unfold atI;rw[e];exact h
def zL7 (b:Expr):Prop:=∀ o i,subscripted b false o i=operate [o,i] (getItem o i)
def IxR (X:Cx) (r:R2):Prop :=
 ∀ (value slice:Expr) (zB:Yd) (s:Yl) (σ:St) (H:Hp) (x y:V) (v u:Yu) (Q:VK),Inv X zB σ H s->ze x v->ze y u->r x y H Q ->
  subscripted slice false v u=operate [v,u] (getItem v u)->wpAny (model X.prog X.w) X.A (subscriptTail value slice v u) (EP X zB σ Q) X.xe s
def MtR (X:Cx) (id:String) (r:V->List V->Hp->VK->Prop):Prop :=
 ∀ (zB:Yd) (s:Yl) (σ:St) (H:Hp) (x:V) (xs:List V) (v:Yu) (us:Yf) (Q:VK),Inv X zB σ H s->ze x v->zb xs us->r x xs H Q ->
  wpAny (model X.prog X.w) X.A (call (.builtin id) (v::us)) (EP X zB σ Q) X.xe s
section
variable {X:Cx} {a b:Expr} {ta tb:TE} {pos:Pos}
theorem IxR.or {r r':R2} (h:IxR X r) (h':IxR X r'):IxR X (λx y H Q=>r x y H Q\/r' x y H Q):=by
 intro value slice zB s σ H x y v u Q I rx ry q hs;rcases q with q|q
 .exact h value slice zB s σ H x y v u Q I rx ry q hs
 .exact h' value slice zB s σ H x y v u Q I rx ry q hs
theorem zUO {r:R2} (hr:IxR X r) (ha:PE X a ta) (hb:PE X b tb) (hs:zL7 b):PE X (.Subscript a b pos) (tOp r ta tb):=by
 intro zB s σ H Q I h;exact Subscript_ (zS0 ha hb I h λv u s2 x y H2 I2 rx ry q=>hr a b zB s2 σ H2 x y v u Q I2 rx ry q (hs _ _))
def zUd (K:Yb):R2:=λx y H Q=>∃ p xs i v,x=.ref p/\y=.int i/\SqL K H p xs/\atI xs i=some v/\Q v H
def zUA (K:Yb):R2:=λx y H Q=>∃ p xs i v,x=.ref p/\y=.int i/\SqT K H p xs/\atI xs i=some v/\Q v H
def zU0:R2:=λx y H Q=>∃ z i c,x=.str z/\y=.int i/\z.length<=sizeLine/\atI z.cps.toList i=some c/\Q (.str ⟨#[c]⟩) H
theorem zRt:IxR X (zUd X.K):=by
 intro value slice zB s σ H x y v u Q I rx ry h hs;obtain ⟨p,xs,i,z,rfl,rfl,hq,he,q⟩:=h;cases rx;obtain ⟨t,rfl⟩:=ry;obtain ⟨its,r,pl,hz⟩:=I.list hq;obtain ⟨j,h1,h2,h3,h4,h5⟩:=zIU he;obtain ⟨w,ew,rw'⟩:=r.get h2;have hl:=r.length;have hn:=zFB;have fin:EP X zB σ Q w s:=⟨z,H,I,rw',q⟩;by_cases h0:0<=i
 .have hj:i.toNat=j:=by
   rw[seqIndex_of h0 h5]at h1;exact zWg h1
  exact item_listR pl.isList h0 (by omega) (by rw[hj];simpa using ew) fin hs
 .have hj:(i+(its.toArray.size:Int)).toNat=j:=by
   rw[seqIndex_neg (by omega) h4]at h1;rw[zVo,<-hl];exact zWg h1
  exact subscriptTail_builtinR (x:=w) pl.isList.typeIs slot_list_getitem.lookup
   (wpAny_getItem_list_neg (Q:=λr s'=>r=w/\EP X zB σ Q r s') pl.isList (by omega) (by rw[zVo] <;> omega) (by omega) (by rw[hj];simpa using ew) ⟨rfl,fin⟩) hs
theorem zTn:IxR X (zUA X.K):=by
 intro value slice zB s σ H x y v u Q I rx ry h hs;obtain ⟨p,xs,i,z,rfl,rfl,hq,he,q⟩:=h;cases rx;obtain ⟨t,rfl⟩:=ry;obtain ⟨its,r,pl,hz⟩:=I.tuple hq;obtain ⟨j,h1,h2,h3,h4,h5⟩:=zIU he;obtain ⟨w,ew,rw'⟩:=r.get h2;have hl:=r.length;have hn:=zFB;have fin:EP X zB σ Q w s:=⟨z,H,I,rw',q⟩
 exact subscriptTail_builtinR (x:=w) pl.typeIs slot_tuple_getitem.lookup
  (getItem_tuple (j:=j) (Q:=λr s'=>r=w/\EP X zB σ Q r s') pl (by omega) (by omega) (by rw[zVo,<-hl];exact h1) (by simpa using ew) ⟨rfl,fin⟩) hs
theorem zSu:IxR X zU0:=by
 intro value slice zB s σ H x y v u Q I rx ry h hs;obtain ⟨z,i,c,rfl,rfl,hz,he,q⟩:=h;obtain ⟨t,rfl⟩:=rx;obtain ⟨t',rfl⟩:=ry;obtain ⟨j,h1,h2,h3,h4,h5⟩:=zIU he;have hl:z.cps.toList.length=z.length:=by simp[Str.length]
 rw[hl]at h1 h4 h5;have hn:=zFB;exact tail_any (typeIs_str s z t) slot_str_getitem.lookup (getItem_str (c:=c) (by
  have e1:decide (i < -(2 ^ 63:Int))=false:=zWF (by omega);have e2:decide (i≥2 ^ 63)=false:=zWF (by omega);rw[e1,e2,Bool.or_false]) (by rw[h1];simpa using h2) ⟨.str ⟨#[c]⟩,H,I.tok _,⟨_,rfl⟩,q⟩) hs
def rIx (K:Yb):R2:=λx y H Q=>zUd K x y H Q\/zUA K x y H Q\/zU0 x y H Q
theorem zSo:IxR X (rIx X.K):=zRt.or (zTn.or zSu)
theorem zKe (its:List Value) (n j:Nat) (u:Value):Obj.mapSeq (·.setIfInBounds j u) { cls:=.type "list", data:=.seq its.toArray n }={ cls:=.type "list", data:=.seq (its.set j u).toArray n }:=by
 simp[Obj.mapSeq]
theorem Inv.lst {zB:Yd} {σ:St} {H:Hp} {s:Yl} {p:Yt} {xs:List V} (I:Inv X zB σ H s) (h:H p=some (.lst xs)) :
  ∃ (its:List Value) (n:Nat),zb xs its/\s.heap.get? p=some { cls:=.type "list", data:=.seq its.toArray n }/\xs.length<=sizeLine:=by
 obtain ⟨z,its,n,r,e⟩:=I.hok p _ h;exact ⟨its,n,r,e,z⟩
theorem Inv.lstUpd {zB:Yd} {σ:St} {H:Hp} {s:Yl} {p:Yt} {xs ys:List V} {its its':Yf} {n n':Nat} {f:Obj->Obj} (I:Inv X zB σ H s) (h:H p=some (.lst xs))
  (ho:s.heap.get? p=some { cls:=.type "list", data:=.seq its.toArray n }) (hf:f { cls:=.type "list", data:=.seq its.toArray n }={ cls:=.type "list", data:=.seq its'.toArray n' }) (r:zb ys its') (hz:ys.length<=sizeLine) (t:Nat) :
  Inv X zB σ (upd H p (.lst ys)) { s with heap:=s.heap.update p f,toks:=t }:=by
 have e:(s.heap.update p f).get? p=some { cls:=.type "list", data:=.seq its'.toArray n' }:=by
  rw[zWT f ho (by rw[hf] <;> rfl),hf]
 refine I.write (x:=p) (e:=p) (by rw[h];trivial) (.inl rfl) (λb u hb q=>(zWN _ _ (Ne.symm hb)).trans q) ⟨_,e⟩ ?_;exact ⟨hz,its',n',r,e⟩
def zUr:V->V->V->Hp->(Hp->Prop)->Prop:=λo i v H Q=>∃ p xs k j,o=.ref p/\i=.int k/\H p=some (.lst xs)/\ixN xs.length k=some j/\Q (upd H p (.lst (xs.set j v)))
theorem zPK:zT9 X zUr:=by
 intro zB s σ H o i v ov iv u Q I ro ri rv h;obtain ⟨p,xs,k,j,rfl,rfl,hp,hj,q⟩:=h;cases ro;obtain ⟨t,rfl⟩:=ri;obtain ⟨its,n,r,ho,hz⟩:=I.lst hp;obtain ⟨h1,h2,h3,h4⟩:=zIu hj;have hl:=r.length;have hn:=zFB;have I':Inv X zB σ (upd H p (.lst (xs.set j v))) { s with heap:=s.heap.update p (Obj.mapSeq (·.setIfInBounds j u)) } :=
  I.lstUpd hp ho (zKe its n j u) (r.set rv j) (by rw[List.length_set];exact hz) s.toks
 by_cases h0:0<=k
 .have hk:k.toNat=j:=by
   rw[seqIndex_of h0 h4]at h1;exact zWg h1
  exact PySem.W.ki_setAt ho h0 (by omega) (by rw[zVo,<-hl];exact h4) (by rw[hk];exact ⟨_,I',q⟩)
 .have hk:(k+(its.toArray.size:Int)).toNat=j:=by
   rw[seqIndex_neg (by omega) h3]at h1;rw[zVo,<-hl];exact zWg h1
  exact PySem.W.ki_setBack ho (by omega) (by rw[zVo,<-hl];exact h3) (by omega) (by rw[hk];exact ⟨_,I',q⟩)
theorem zI5 (lo hi:Ys) (n:Nat):(sliceBounds lo hi none n).1=((HT.sIx n 0 lo:Nat):Int)/\(sliceBounds lo hi none n).2.1=((HT.sIx n n hi:Nat):Int)/\(sliceBounds lo hi none n).2.2=1:=by
 refine ⟨?_,?_,rfl⟩
 .cases lo with
  |none=>simp[sliceBounds,HT.sIx]
  |some i=>
   simp only[sliceBounds,HT.sIx,Option.getD_none,show (1:Int)>0 by decide,if_true];by_cases h:i<0
   .simp only[h,if_true] <;> omega
   .simp only[h,if_false] <;> omega
 .cases hi with
  |none=>simp[sliceBounds,HT.sIx]
  |some i=>
   simp only[sliceBounds,HT.sIx,Option.getD_none,show (1:Int)>0 by decide,if_true];by_cases h:i<0
   .simp only[h,if_true] <;> omega
   .simp only[h,if_false] <;> omega
theorem zG6 (its:Yf) (lo hi:Ys):slicePick its.toArray lo hi none=((its.drop (HT.sIx its.length 0 lo)).take (HT.sIx its.length its.length hi-HT.sIx its.length 0 lo)).toArray:=by
 obtain ⟨h1,h2,h3⟩:=zI5 lo hi its.toArray.size;unfold slicePick;rw[h1,h2,h3];simp only[sliceRange_one,pick_run,zVo] <;> rfl
def zVS (K:Yb):V->Option Int->Option Int->Hp->VK->Prop:=λx lo hi H Q=>∃ a xs,x=.ref a/\SqL K H a xs /\ ∀ p,H p=none->Q (.ref p) (upd H p (.lst (zJa xs lo hi)))
theorem zQ5:SlR X (zVS X.K):=by
 intro zB s σ H x v vl vu lo hi sl Q I rx hs pl pu h;obtain ⟨a,xs,rfl,hx,q⟩:=h;cases rx;obtain ⟨its,r,ht,hz⟩:=I.list hx;have hlen:=r.length;refine ⟨"list", _,slot_list_getitem.lookup,ht.isList.typeIs,?_⟩;refine wpAny_getItem_list_slice ht.isList hs pl pu .none (by simp) ?_ (by rw[zVo] <;> omega);rw[zG6,<-hlen];refine ⟨.ref s.heap.objs.size,_,I.laid (t':=s.toks) (o:=.lst (zJa xs lo hi)) (λb ob q=>zVh _ q) (zVm _) ?_,rfl,q _ (I.hok.fresh (zVm _))⟩;exact ⟨zV7 (zFT xs lo hi) hz,_,0,(r.drop (HT.sIx xs.length 0 lo)).take (HT.sIx xs.length xs.length hi-HT.sIx xs.length 0 lo),zVq _ rfl⟩
theorem zIz:zBz X (.builtin "len") (λxs H Q=>∃ p ys,xs=[.ref p]/\(SqL X.K H p ys\/SqT X.K H p ys)/\Q (.int ys.length) H):=by
 intro zB s σ H xs us Q I r h;obtain ⟨p,ys,rfl,hq,q⟩:=h;obtain ⟨u,rfl,rx⟩:=zDX r;cases rx;have hn:=zFB;rcases hq with hq|hq
 .obtain ⟨its,r',pl,hz⟩:=I.list hq;have hlen:=r'.length;exact Calls.call_len_list pl.isList (by simp only[zVo] <;> omega) ⟨.int ys.length,H,I.tok _,⟨s.toks+1,by rw[zVo,hlen]⟩,q⟩
 .obtain ⟨its,r',pl,hz⟩:=I.tuple hq;have hlen:=r'.length;exact len_tuple pl (by simp only[zVo] <;> omega) ⟨.int ys.length,H,I.tok _,⟨s.toks+1,by rw[zVo,hlen]⟩,q⟩
theorem zHI:zBz X (.type "tuple") (λxs H Q=>∃ p ys,xs=[.ref p]/\((SqL X.K H p ys /\ ∀ l,H l=none->Q (.ref l) (upd H l (.tup ys)))\/(SqT X.K H p ys/\Q (.ref p) H))):=by
 intro zB s σ H xs us Q I r h;obtain ⟨p,ys,rfl,h⟩:=h;obtain ⟨u,rfl,rx⟩:=zDX r;cases rx;rcases h with ⟨hq,q⟩|⟨hq,q⟩
 .obtain ⟨its,r',pl,hz⟩:=I.list hq;have hlen:=r'.length;refine call_tuple_list pl.isList (λh' kp=>?_) (by simp only[zVo] <;> omega);have I1:Inv X zB σ H { s with heap:=h' }:=I.kept (t':=s.toks) kp;have I2:Inv X zB σ (upd H h'.objs.size (.tup ys)) { s with heap:=h'.push { cls:=.type "tuple", data:=.seq its.toArray } } :=
   I1.laid (t':=s.toks) (λb o e=>zVh _ e) (zVm _) (show zAm X.prog X.w _ _ _ (.tup ys)from ⟨hz,its,r',zCN.new _ _⟩)
  exact ⟨.ref h'.objs.size,_,I2,rfl,q _ (I1.hok.fresh (zVm _))⟩
 .obtain ⟨its,r',pl,hz⟩:=I.tuple hq;exact call_tuple_same pl ⟨.ref p,H,I,rfl,q⟩
def tyV (K:Yb) (T:String) (x:V) (H:Hp):Prop:=match x with
 |.str _=>T = "str"
 |.int _=>T = "int"
 |.ref p=>(T = "list" /\ ∃ xs,SqL K H p xs)\/(T = "tuple" /\ ((∃ o,K.lookup p=some o/\o.cls=.type "tuple" /\ o.dict=none) \/ ∃ xs,H p=some (.tup xs))) \/
   (T = "dict" /\ ((∃ kvs,H p=some (.dK kvs)) \/ ∃ kvs,H p=some (.dT kvs)))\/(T = "set" /\ ∃ S n,H p=some (.set S n))
 |_=>False
theorem zSV {zB:Yd} {σ:St} {H:Hp} {s:Yl} {T:String} {x:V} {v:Yu} (I:Inv X zB σ H s) (r:ze x v) (ty:tyV X.K T x H) :
  s.TypeIs v T /\ ∀ a,v=.ref a -> ∃ ob,s.heap.get? a=some ob/\ob.dict=none:=by
 cases x with
 |str z=>
  obtain ⟨t,rfl⟩:=r;cases (show T = "str" from ty);exact ⟨typeIs_str s z t,λ_ e=>nomatch e⟩
 |int i=>
  obtain ⟨t,rfl⟩:=r;cases (show T = "int" from ty);exact ⟨typeIs_int s i t,λ_ e=>nomatch e⟩
 |ref p=>
  cases r;rcases ty with ⟨rfl,xs,hq⟩|⟨rfl,⟨o,hk,hc,hd⟩|⟨xs,hq⟩⟩|⟨rfl,hk⟩|⟨rfl,S,n,hk⟩
  .obtain ⟨its,_,pl,_⟩:=I.list hq;refine ⟨pl.isList.typeIs,λa e=>?_⟩;cases e;obtain ⟨o,n,e,c,hd,_⟩:=pl;exact ⟨o,e,hd⟩
  .refine ⟨⟨o,I.kIn p o hk,hc⟩,λa e=>?_⟩;cases e;exact ⟨o,I.kIn _ o hk,hd⟩
  .obtain ⟨_,its,_,o,e,c,_,hd⟩:=I.hok p _ hq;refine ⟨⟨o,e,c⟩,λa e2=>?_⟩;cases e2;exact ⟨o,e,hd⟩
  .have z:∃ o,s.heap.get? p=some o/\o.ExactDict:=by
    rcases hk with ⟨kvs,hk⟩|⟨kvs,hk⟩
    .obtain ⟨_,_,_,_,o,_,_,e,ex,_⟩:=I.hok p _ hk;exact ⟨o,e,ex⟩
    .obtain ⟨_,_,_,_,o,_,_,e,ex,_⟩:=I.hok p _ hk;exact ⟨o,e,ex⟩
   obtain ⟨o,e,ex⟩:=z;refine ⟨⟨o,e,ex.1⟩,λa e2=>?_⟩;cases e2;exact ⟨o,e,ex.2.1⟩
  .obtain ⟨o,_,_,_,e,ex,_⟩:=I.hok p _ hk;refine ⟨⟨o,e,ex.1⟩,λa e2=>?_⟩;cases e2;exact ⟨o,e,ex.2.1⟩
 |_=>exact False.elim ty
def tBM (K:Yb) (T:String) (r:V->List V->Hp->VK->Prop) (to:TE) (t:TA):TE:=λσ H Q=>to σ H λx H1=>tyV K T x H1/\t σ H1 λxs H2=>r x xs H2 Q
variable {o e:Expr} {es:Yi} {to:TE} {t:TA} {name:Str} {apos cpos:Pos} {T id:String} {r:V->List V->Hp->VK->Prop}
theorem zOd (pa:PlainAttrs T) (slot:Slot T name id) (hty:typeOf (.builtin id)=pure (.type "method_descriptor")) (hm:MtR X id r) (ho:PE X o to) (ha:PA X (e::es) t)
  (hbase:attributeBase o name X.env (eval o X.env)=eval o X.env:=by rfl)
  (hfew:((backTo cpos (starEach (e::es) X.env)).all (λx=> !x.1)&&(backToKw cpos (keywordEach [] X.env)).all (λx=>x.1.isSome)
   && decide ((e::es).length+([]:List Keyword).length+(if ([]:List Keyword).isEmpty then 0 else 1)<30))=true:=by rfl)
  (hline:(apos.endLine==cpos.line)=true:=by rfl) (hs:starEach (e::es) X.env=(false,eval e X.env)::starEach es X.env:=by rfl) (hplain:(backTo cpos (starEach es X.env)).any (·.1)=false:=by rfl) :
  PE X (.Call (.Attribute o name apos) (e::es) [] cpos) (tBM X.K T r to t):=by
 intro zB s σ H Q I h;refine wpAny_Call_method_late hbase hfew hline rfl (thn (ho zB s σ H _ I h) λv s1 ⟨x,H1,I1,r1,ty,q1⟩=>?_);obtain ⟨h1,h2⟩:=zSV I1 r1 ty;refine ⟨T,id,pa,slot,hty,h1,h2,?_⟩;have hA:=ha cpos zB s1 σ H1 _ I1 q1;rw[hs]at hA ⊢;refine Calls.callWith_builtin (by show (false||(backTo cpos (starEach es X.env)).any (·.1))=false;rw[hplain] <;> rfl) (Calls.evalArgs_plain ?_);exact thn hA λus s2 ⟨vs,H2,I2,r2,q2⟩=>hm zB s2 σ H2 x vs v us Q I2 r1 r2 q2
end
def MtM (X:Cx) (id:String) (r:V->List V->Hp->VK->Prop):Prop :=
 ∀ (zB:Yd) (s:Yl) (σ:St) (H:Hp) (x:V) (xs:List V) (v:Yu) (us:Yf) (Q:VK),Inv X zB σ H s->ze x v->zb xs us->r x xs H Q ->
  wpAny (model X.prog X.w) X.A (call (.builtin id) (v::us)) (EP X zB σ Q) X.xe s
theorem zb.one:∀ {x:V} {us:Yf},zb [x] us -> ∃ u,us=[u]/\ze x u
 |_,_,.cons r .nil=>⟨_,rfl,r⟩
theorem zb.two:∀ {x y:V} {us:Yf},zb [x,y] us -> ∃ u v,us=[u,v]/\ze x u/\ze y v
 |_,_,_,.cons r (.cons q .nil)=>⟨_,_,rfl,r,q⟩
theorem zb.eraseIdx:∀ {xs:List V} {us:Yf} (i:Nat),zb xs us->zb (xs.eraseIdx i) (us.eraseIdx i)
 |_,_,_,.nil=> .nil
 |_,_,0,.cons _ t=>t
 |_,_,i+1,.cons r t=> .cons r (zb.eraseIdx i t)
theorem zHR {α:Type}:∀ (l:List α) (i:Nat),(l.eraseIdx i).length<=l.length
 |[],_=>zVm _
 |_::_,0=>zXO _
 |_::r,i+1=>Nat.succ_le_succ (zHR r i)
section
variable {X:Cx} {zB:Yd} {σ:St} {H:Hp} {s:Yl} {l b:Yt} {xs ys zs:List V}
theorem Inv.lset {its its':Yf} {n:Nat} {f:Array Value->Array Value} {t':Nat} (I:Inv X zB σ H s) (hH:H l=some (.lst xs))
  (e:s.heap.get? l=some { cls:=.type "list", data:=.seq its.toArray n }) (hf:f its.toArray=its'.toArray) (hv:zb ys its') (hz:ys.length<=sizeLine) :
  Inv X zB σ (upd H l (.lst ys)) { s with heap:=s.heap.update l (Obj.mapSeq f),toks:=t' }:=by
 have q:=PySem.IsL.update e f;rw[hf]at q;refine I.write (x:=l) (e:=l) (by rw[hH];exact trivial) (.inl rfl) (λb' u hb hu=>(zWN s.heap (Obj.mapSeq f) (Ne.symm hb)).trans hu) ⟨_,q⟩ ?_;exact ⟨hz,its',_,hv,q⟩
theorem Inv.lnew {its:Yf} {t':Nat} (I:Inv X zB σ H s) (hv:zb ys its) (hz:ys.length<=sizeLine) :
  Inv X zB σ (upd H s.heap.objs.size (.lst ys)) { s with heap:=s.heap.push { cls:=.type "list", data:=.seq its.toArray },toks:=t' } :=
 I.laid (λ_ _ q=>zVh _ q) (zVm _) ⟨hz,its,0,hv,zVq _ rfl⟩
theorem Inv.fresh (I:Inv X zB σ H s):H s.heap.objs.size=none:=I.hok.fresh (zVm _)
theorem Inv.lstM (I:Inv X zB σ H s) (hH:H l=some (.lst xs)):xs.length<=sizeLine /\ ∃ (its:List Value) (n:Nat),zb xs its/\xs.length=its.length/\s.heap.get? l=some { cls:=.type "list", data:=.seq its.toArray n }:=by
 obtain ⟨z,its,n,r,e⟩:=I.hok l _ hH;exact ⟨z,its,n,r,r.length,e⟩
end
section
variable {X:Cx}
def zLv:V->List V->Hp->VK->Prop:=λx vs H Q=>∃ l xs y,x=.ref l/\vs=[y]/\H l=some (.lst xs)/\xs.length<sizeLine/\Q .non (upd H l (.lst (xs++[y])))
theorem zMn:MtM X "list.append" zLv:=by
 intro zB s σ H x vs v us Q I rx rv h;obtain ⟨l,xs,y,rfl,rfl,hH,hz,q⟩:=h;cases rx;obtain ⟨u,rfl,ru⟩:=rv.one;obtain ⟨z,its,n,r,hl,e⟩:=I.lstM hH;refine call_meets F.slot_list_append ⟨_,e,rfl⟩ F.entry_list_append (F.args_list_append_2 _ _) (PySem.list_append l its.toArray n u (by rw[zVo];omega)) ⟨e,?_⟩;refine ⟨.non,_,I.lset (its':=its++[u]) hH e (by simp) (r.append (.cons ru .nil)) ?_,rfl,q⟩;rw[zVw,List.length_singleton];omega
def zOY:V->List V->Hp->VK->Prop:=λx vs H Q=>∃ l xs i k y,x=.ref l/\vs=[.int i]/\H l=some (.lst xs) /\ -(2 ^ 63)<=i/\i<2 ^ 63/\seqIndex? i xs.length=some k/\xs[k]?=some y/\Q y (upd H l (.lst (xs.eraseIdx k)))
theorem zOb:MtM X "list.pop" zOY:=by
 intro zB s σ H x vs v us Q I rx rv h;obtain ⟨l,xs,i,k,y,rfl,rfl,hH,h1,h2,hk,hy,q⟩:=h;cases rx;obtain ⟨u,rfl,ru⟩:=rv.one;obtain ⟨t,rfl⟩:=ru;obtain ⟨z,its,n,r,hl,e⟩:=I.lstM hH;obtain ⟨w,hw,rw'⟩:=r.get hy
 refine call_meets F.slot_list_pop ⟨_,e,rfl⟩ F.entry_list_pop (F.args_list_pop_2 _ _)
  (MeetsSeq.list_pop_at l its.toArray n i t k w (fitsIndex_both h1 h2) (by rw[zVo,<-hl];exact hk) (by rw[<-zXL];exact hw) (by rw[zVo];omega)) ⟨e,?_⟩
 refine ⟨y,_,I.lset (its':=its.eraseIdx k) hH e ?_ (r.eraseIdx k) ?_,rw',q⟩
 .show its.toArray.eraseIdxIfInBounds k=(its.eraseIdx k).toArray;rw[List.eraseIdxIfInBounds_toArray]
 .have:=zHR xs k;omega
def zUZ:R2:=λx y H Q=>∃ l b xs zs,x=.ref l/\y=.ref b/\H l=some (.lst xs)/\H b=some (.lst zs)/\xs.length+zs.length<=sizeLine /\ ∀ p,H p=none->Q (.ref p) (upd H p (.lst (xs++zs)))
theorem zS2:OpR X (binaryOp .Add) zUZ:=by
 intro zB s σ H x y v u Q I rx ry h;obtain ⟨l,b,xs,zs,rfl,rfl,hH,hB,hz,q⟩:=h;cases rx;cases ry;obtain ⟨z,its,n,r,hl,e⟩:=I.lstM hH;obtain ⟨z2,its2,n2,r2,hl2,e2⟩:=I.lstM hB;refine PySem.P.add_list e e2 ?_ (by rw[zVo,zVo];omega);have ea:its.toArray++its2.toArray=(its++its2).toArray:=by simp
 rw[ea];exact ⟨.ref _,_,I.lnew (t':=s.toks) (r.append r2) (by rw[zVw];omega),rfl,q _ I.fresh⟩
end
end L2
namespace Att
open PySem PySem.W PySem.Calls PyProof.Rows
theorem zFf {P:Params} {h:Heap}:∀ (ns:Ye) (vs:Yf),WellAll P h vs (ns.map WData.int)->IntsAre vs ns:=by
 intro ns;induction ns with
 |nil=>
  intro vs w;rw[List.map_nil]at w;cases w;exact .nil
 |cons n ns ih=>
  intro vs w;rw[zVz]at w;cases w with
  |cons a b=>
   cases a;exact .cons _ _ (ih _ b)
theorem zNg {l:OpenLaw} {n:Nat} (hn:l.most=some n) {P:Params} {h:Heap} {args:List WData} {vals:Yf}
  (hpre:l.row.toRowW.claim.pre args=true) (hwl:WellAll P h vals args) :
  ∃ a vs ns,vals=[Value.ref a]/\args=[WData.list (ns.map WData.int)]/\h.get? a=some { cls:=.type "list", data:=.seq vs.toArray }/\IntsAre vs ns/\ns.length<=n:=by
 have hsh:WShape.hasAll [] args [.list .int]=true:=(pre_splitW hpre).1;have hc:l.pre.holds [] { args:=args }=true:=(pre_splitW hpre).2;obtain ⟨d,r,rfl,h1,h2⟩:=hasAllW_cons hsh;obtain rfl:=hasAllW_nil h2;obtain ⟨xs,rfl,h3⟩:=hasW_list h1;obtain ⟨ns,rfl⟩:=items_int h3;have hlen:ns.length<=n:=by
  unfold OpenLaw.pre at hc;have h4:(WTm.not (.lt (.lit (.int (n:Int))) (.len (.arg 0)))).holds [] { args:=[.list (ns.map .int)] }=true:=by
   have h4:=(holds_andW hc).1;rw[hn]at h4;exact h4
  have h5:=condW_of h4 (w_not (w_lt w_lit (w_len_list (w_arg rfl))));rw[zVp]at h5;refine Nat.le_of_not_lt λq=>?_;have q':(n:Int)<((ns.length:Nat):Int):=by omega
  first
   | (rw[zWo q']at h5;exact absurd h5 (by decide))
   | (simp at h5;omega)
 cases hwl with
 |cons w1 w2=>
  cases w2;cases w1 with
  |list ho hall=>exact ⟨_,_,ns,rfl,rfl,ho,zFf ns _ hall,hlen⟩
theorem zMv (l:OpenLaw) (args:List WData):l.row.toRowW.claim.post args (.bool true) args=true :=
 postW_of (r:=l.row.toRowW) (X:=(true==true))
  (show WShape.has [] (.bool true) .bool=true by first|rfl|decide|simp[WShape.has,WShape.arms,WShape.armsAll])
  (show (WTm.eq .res (.lit (.bool true))).value [] { args:=args,res:=some (.bool true),after:=args }=some (.bool (true==true))from w_eq_bool (w_res rfl) w_lit) rfl
theorem zKI {l:OpenLaw} {n:Nat} {q:Ym} {loose:Yk} {XP:(Str->Option Value)->Heap->Prop} {YP:World->Heap->Prop} {d:DefRec}
  (hn:l.most=some n) (hdf:d.params.defaults=[])
  (call:∀ (w:Yo) (s₀ s₁:Yl) (mg mb:Yh) (fa:Yt) (o:Obj) (pm cd doc:Yu) (a:Yt) (vs:Yf) (ns:Ye),
   Ground q loose [] XP w s₀ mg mb s₁.heap->YP w s₁.heap ->
   s₁.heap.get? fa=some o->o.data=.func (docDef d.name d.params d.body d.scope pm cd doc)->s₁.heap.CodeRec cd d.name->mg d.name=some (.ref fa) ->
   s₁.heap.get? a=some { cls:=.type "list", data:=.seq vs.toArray }->IntsAre vs ns->ns.length<=n->s₁.gens = #[] ->
   codeAny (model l.prog w) callerA (.call (.ref fa) ⟨[.ref a],[]⟩) (λr s'=>r=.ok (.ret (.bool true))/\OldK s₁.heap s'.heap/\s'.os=s₁.os/\AllBare s'.gens) s₁) :
  WalkO q loose XP YP l.row.toRowW d [] (λf vs=>PySem.call f vs):=by
 intro w s₀ s₁ mg mb G Y fa o pm cd doc dV kV ho hd hcd hD hmg hg args vals as hpre hlay hrd hwl hlo;obtain rfl:dV=.none:=Dflts.none hD hdf;obtain rfl:kV=.none:=Dflts.noKw hD;obtain ⟨a,vs,ns,rfl,rfl,hobj,hints,hlen⟩:=zNg hn hpre hwl;refine enter_call (codeAny_mono (call w s₀ s₁ mg mb fa o pm cd doc a vs ns G Y ho (fd_plain hd) hcd hmg hobj hints hlen hg) λr s' hq=>?_);obtain ⟨rfl,h2,h3,h4⟩:=hq;exact ⟨.inl ⟨.bool true,.bool true,[],rfl,λ_=>rfl,.bool true,zMv l _,λ_=>⟨List.Pairwise.nil,λ_ hm=>(nomatch hm)⟩⟩,h2,h3,h4⟩
end Att
namespace L2
open PySem PySem.Spec PyProof.Rows
theorem zHo:∀ {vs:Yf} {ns:Ye},IntsAre vs ns->zb (ns.map V.int) vs
 |_,_,.nil=> .nil
 |_,_,.cons n t h=> .cons ⟨t,rfl⟩ (zHo h)
def zQj (H:Hp):Prop:=∀ b,H b=none \/ ∃ o xs,H b=some (.frz o (.lst xs))
theorem zPj {P:Ym} {w:Yo} {K:Yb} {mg mb:Yh} {CX:CXT} {k:Nat} {fa a:Yt} {fd:Yz} {x:Str} {sp:Sp} {s₁:Yl} {vs:Yf} {ns:Ye}
  (KX:K.In s₁.heap) (hns:s₁.heap.Ns mainGlobals mg) (hb:s₁.heap.Ns builtinsNs mb) (hbb:∀ x:Str,x ≠ "__name__" -> mb x=bootBuiltins x) (hlim:s₁.heap.NoLimit) (hg:s₁.gens = #[])
  (ha:s₁.heap.get? a=some { cls:=.type "list", data:=.seq vs.toArray }) (hi:IntsAre vs ns) (hl:ns.length<=sizeLine) (hr:Room k callerA)
  (F:∀ base:Heap,K.In base->base.Ns mainGlobals mg->FnOk P w K mg base CX k fa fd [x] sp) (hbind:∀ (s:Yl) (u:Yu),BindsTo s fd ⟨[u],[]⟩ [(x,u)])
  (hsp:∀ H:Hp,zQj H->SqL K H a (ns.map V.int)->sp [.ref a] H (λv _=>v=.bl true) λ_ _ _=>False)
  (hCX:∀ H e s',CX [] H s₁ (λ_ _ _=>False) e s'->False) :
  codeAny (model P w) callerA (.call (.ref fa) ⟨[.ref a],[]⟩) (λr s'=>r=.ok (.ret (.bool true))/\OldK s₁.heap s'.heap/\s'.os=s₁.os/\AllBare s'.gens) s₁:=by
 have rv:=zHo hi;have lenV:=hi.length
 have core:∀ H:Hp,zQj H->SqL K H a (ns.map V.int)->HOk P w H s₁.heap->(∀ b,H b≠none->b=a)->(H a≠none->K.lookup a=none) ->
   codeAny (model P w) callerA (.call (.ref fa) ⟨[.ref a],[]⟩) (λr s'=>r=.ok (.ret (.bool true))/\OldK s₁.heap s'.heap/\s'.os=s₁.os/\AllBare s'.gens) s₁:=by
  intro H hO hS hok hA hK;have base_of:∀ {b:Yt} {o:Obj},s₁.heap.get? b=some o->H b=none->(zIr s₁.heap H).get? b=some o:=λe n=>zO9 e n;have noA:∀ {b:Yt} {o:Obj} {es:Array DictEntry} {ep:Nat},s₁.heap.get? b=some o->o.data=.dict es ep->H b=none:=λ{b o es ep} e d=>by
   cases q:H b with
   |none=>rfl
   |some u=>
    have e':b=a:=hA b (by rw[q];simp);subst e';rw[ha]at e;cases e;have d':Data.seq vs.toArray _=Data.dict es ep:=d;cases d'
  have nsK:∀ {b:Yt} {m:Yh},s₁.heap.Ns b m->(zIr s₁.heap H).Ns b m:=λ{b m} ⟨o,es,ep,e,d,r⟩=>⟨o,es,ep,base_of e (noA e d),d,r⟩;have hKb:K.In (zIr s₁.heap H):=λb o e=>base_of (KX b o e) (by
   cases q:H b with
   |none=>rfl
   |some u=>
    have e':b=a:=hA b (by rw[q];simp);subst e';rw[hK (by rw[q];simp)]at e;cases e)
  have hM:Mod K mg (zIr s₁.heap H):=⟨hKb,nsK hns,⟨mb,nsK hb,hbb⟩,let ⟨mc,h1,h2⟩:=hlim;⟨mc,nsK h1,h2⟩⟩;have e0:Env0 P w K mg (zIr s₁.heap H) callerA [] s₁ H:=⟨rfl,hM,λb o e=>zQq e,Nat.le_of_eq (zNl _ _),trivial,λb hb=>absurd (show b∈([]:List Addr)from hb) (by simp),hok,.of_eq hg⟩;refine codeAny_mono ((F _ hKb (nsK hns)).run callerA [] s₁ H ⟨[.ref a],[]⟩ [.ref a] [.ref a] _ _ hr e0 (hbind s₁ (.ref a)) (.cons rfl .nil) (hsp H hO hS)) λr s' h=>?_;cases r with
  |error e=>exact (hCX H e s' h).elim
  |ok fl=>
   cases fl with
   |next=>exact False.elim h
   |brk=>exact False.elim h
   |cont=>exact False.elim h
   |ret u=>
    obtain ⟨v,H',os,bare,un,hok',r',q⟩:=h;have q':v=.bl true:=q;subst q';obtain rfl:u=Value.bool true:=r';refine ⟨rfl,OldK.of_keep λb o e=>?_,os,bare⟩;cases q:H b with
    |none=>exact un.keep b o e q (by intro z;exact absurd (show b∈([]:List Addr)from z) (by simp)) (by simp)
    |some u=>
     rcases hO b with z|⟨ob,xs,z⟩
     .rw[q]at z;cases z
     .have z2:=un.frzs b ob _ z;obtain ⟨e1,_⟩:=hok b _ z;obtain ⟨e2,_⟩:=hok' b _ z2;rw[e]at e1;cases e1;exact e2
 cases hk:K.lookup a with
 |some o=>
  have e:=KX a o hk;rw[ha]at e;cases e;refine core (λ_=>none) (λ_=> .inl rfl) (.inr ⟨_,vs.toArray,_,hk,rfl,rfl,rfl,by rw[zVo,lenV];exact hl,by simpa using rv⟩) (λb u z=>by have z':(none:Option HO)=some u:=z;cases z') (λb z=>absurd rfl z) λz=>absurd rfl z
 |none=>
  refine core (λb=>if b=a then some (.frz { cls:=.type "list", data:=.seq vs.toArray } (.lst (ns.map V.int))) else none) (λb=>?_) (.inl (.inr ⟨{ cls:=.type "list", data:=.seq vs.toArray },zVv rfl⟩)) (λb u z=>?_) (λb z=>?_) λ_=>hk
  .by_cases hb:b=a
   .exact .inr ⟨_,_,zVv hb⟩
   .exact .inl (zVy hb)
  .by_cases hb:b=a
   .have z':=(zVv hb).symm.trans z;cases z';subst hb;exact ⟨ha,by rw[zVp];exact hl,vs,_,rv,ha⟩
   .have z':=(zVy hb).symm.trans z;cases z'
  .by_cases hb:b=a
   .exact hb
   .exact absurd (zVy hb) z
theorem zQ2 {l:PySem.W.OpenLaw} {n k:Nat} {q:Ym} {loose:Yk} {XP:(Str->Option Value)->Heap->Prop} {YP:World->Heap->Prop} {d:DefRec} {K:Params->PySem.W.Frag} {CX:World->CXT} {sp:World->Sp} {x:Str}
  (hn:l.most=some n) (hn2:n<=sizeLine) (hdf:d.params.defaults=[]) (hr:Room k callerA)
  (hY:∀ (w:Yo) (h:Heap),YP w h->(K w.params).In h)
  (F:∀ (w:Yo) (mg:Yh) (fa:Yt) (h:Heap),(K w.params).In h->h.Ns mainGlobals mg->mg d.name=some (.ref fa) ->
   ∃ fd:FuncData,(∀ (s:Yl) (u:Yu),BindsTo s fd ⟨[u],[]⟩ [(x,u)]) /\
    ∀ base:Heap,(K w.params).In base->base.Ns mainGlobals mg->FnOk l.prog w (K w.params) mg base (CX w) k fa fd [x] (sp w))
  (hsp:∀ (w:Yo) (H:Hp) (a:Yt) (ns:Ye),ns.length<=n->zQj H->SqL (K w.params) H a (ns.map V.int)->sp w [.ref a] H (λv _=>v=.bl true) λ_ _ _=>False)
  (hCX:∀ (w:Yo) (H:Hp) (s:Yl) (e:Yu) (s':Yl),CX w [] H s (λ_ _ _=>False) e s'->False) :
  PySem.W.WalkO q loose XP YP l.row.toRowW d [] (λf vs=>PySem.call f vs):=by
 refine Att.zKI hn hdf λw s₀ s₁ mg mb fa o pm cd doc a vs ns G Y ho hd hcd hmg hobj hints hlen hg=>?_;have KX:=hY w _ Y;obtain ⟨fd,hb,hF⟩:=F w mg fa _ KX G.T.g hmg;exact zPj KX G.T.g G.T.b G.T.builtins G.T.nolimit hg hobj hints (zV7 hlen hn2) hr hF hb (λH hO hS=>hsp w H a ns hlen hO hS) λH e s'=>hCX w H s₁ e s'
def zD1 (s:Stmt):Arguments:=match s with
 |.FunctionDef _ a _ _ _ _ _ _ _ _=>a
 |_=>{ posonlyargs:=[],args:=[],vararg:=none,kwonlyargs:=[],kw_defaults:=[],kwarg:=none,defaults:=[] }
def zCi (s:Stmt):List Stmt:=match s with
 |.FunctionDef _ _ b _ _ _ _ _ _ _=>b
 |_=>[]
def zP (s:Stmt):Scope:=match s with
 |.FunctionDef _ _ _ _ _ _ sc _ _ _=>sc
 |_=>{ kind:=.function,names:=[],isGenerator:=false,isCoroutine:=false }
abbrev CX0:CXT:=λ_ _ _ _ _ _=>False
abbrev E0:XK:=λ_ _ _=>False
theorem zUa {X:Cx}:zKy CX0 X E0:=λ_ _ _ _ _ _ _ h=>h.elim
structure Fun (K:Yb) (x qual:Str) (st:Stmt) (f:Yt) (fd:Yz):Prop where
 ex:∃ (oc:Yu) (od:Option Addr) (kV doc pm:Yu) (an:Option Addr) (cdv ct:Yu) (osl:Array (Option Value)),
  fd=PySem.W.fnOf x qual (zD1 st) (zCi st) (zP st) .none kV doc pm an cdv ct/\K.lookup f=some ⟨oc,od,.func fd,osl⟩/\PySem.W.codeIn K cdv qual=true
 kp:PySem.W.keepIn K (.ref f)=true
section
variable {P:Ym} {w:Yo} {K:Yb} {mg:Yh} {base:Heap}
theorem Fun.ok {x qual:Str} {st:Stmt} {f:Yt} {fd:Yz} {N ps:Yk} {k:Nat} {sp:Sp} (F:Fun K x qual st f fd) (S:FnScope N ps (zP st)) (len:∀ vs H Q E,sp vs H Q E->vs.length=ps.length)
  (hbody:∀ (cdv:Yu) (A:Yn) (outer:List Env) (s:Yl) (H:Hp) (vs:List V) (Q:VK) (E:XK),Room k (A.deeper (envOfC qual (zP st) s.heap.objs.size f cdv))->sp vs H Q E ->
   ∃ t,PSs (zK8 CX0 P w K mg base N qual (zP st) f cdv A outer s H E).nox (zCi st) t/\t { nx:=λ_ H'=>Q .non H',rt:=Q } (zD6 N vs) H):FnOk P w K mg base CX0 (k+1) f fd ps sp:=by
 obtain ⟨oc,od,kV,doc,pm,an,cdv,ct,osl,rfl,lk,hcd⟩:=F.ex;refine zUJ lk hcd S len λA outer s H vs Q E hr hsp=>?_;obtain ⟨t,h,q⟩:=hbody cdv A outer s H vs Q E hr hsp;exact ⟨t,h.nox,q⟩
theorem Fun.binds {x qual:Str} {st:Stmt} {f:Yt} {fd:Yz} {ps:Yk} (F:Fun K x qual st f fd)
  (h:∀ (kV doc pm:Yu) (an:Option Addr) (cdv ct:Yu) (us:Yf),us.length=ps.length->bindArgs (PySem.W.fnOf x qual (zD1 st) (zCi st) (zP st) .none kV doc pm an cdv ct) ⟨us,[]⟩=pure (ps.zip us)):zGC K fd ps []:=by
 obtain ⟨oc,od,kV,doc,pm,an,cdv,ct,osl,rfl,lk,hcd⟩:=F.ex;exact .all (h kV doc pm an cdv ct)
theorem zOT {x qual:Str} {st:Stmt} {f:Yt} {oc:Yu} {od an:Option Addr} {osl:Array (Option Value)} {kV doc pm cdv ct:Yu} (l:K.lookup f=some ⟨oc,od,.func (PySem.W.fnOf x qual (zD1 st) (zCi st) (zP st) .none kV doc pm an cdv ct),osl⟩)
  (c:PySem.W.codeIn K cdv qual=true) (k:PySem.W.keepIn K (.ref f)=true):Fun K x qual st f (PySem.W.fnOf x qual (zD1 st) (zCi st) (zP st) .none kV doc pm an cdv ct):=⟨⟨oc,od,kV,doc,pm,an,cdv,ct,osl,rfl,l,c⟩,k⟩
end
theorem zEj {A:Yn} {k:Nat} (hr:Room k A):A.units+1<cLine:=Nat.lt_of_le_of_lt (Nat.add_le_add_left (by decide:1<=64) _) hr.units
section
variable {X:Cx}
theorem pv (i:Nat) {x:Str} {pos:Pos} (hN:X.N[i]?=some x:=by rfl) (hv:Vis X.env.scope x:=by first|exact Or.inl rfl|exact Or.inr (Or.inl rfl)|exact Or.inr (Or.inr rfl)) (hd:(x==("__debug__" : Str))=false:=by decide)
  (hcd:(x==("__classdict__" : Str))=false:=by decide):PE X (.Name x pos) (zTl i):=zTE hN hv hd hcd
end
theorem zG5 {A B:Prop} (h:B):if false=true then A else B:=by
 rw[zVy zV2];exact h
theorem zHL {A B:Prop} (h:A):if true=true then A else B:=by
 rw[zVv rfl];exact h
section
variable {κ:Type} [DecidableEq κ]
def zDQ (kvs:List (κ × V)) (k:κ):Option V:=(kvs.find? λkv=>decide (kv.1=k)).map (·.2)
def zDR (kvs:List (κ × V)) (k:κ) (v:V):List (κ × V) :=
 if (kvs.any λkv=>decide (kv.1=k))=true then kvs.map (λkv=>if kv.1=k then (kv.1,v) else kv) else kvs++[(k,v)]
theorem zEs {p:κ × V} {r:List (κ × V)} {k:κ} (e:p.1=k):zDQ (p::r) k=some p.2:=by simp[zDQ,zXS,e]
theorem zEW {p:κ × V} {r:List (κ × V)} {k:κ} (e:¬ p.1=k):zDQ (p::r) k=zDQ r k:=by simp[zDQ,zXS,e]
theorem zJU (k:κ):∀ kvs:List (κ × V),(kvs.any λkv=>decide (kv.1=k))=(zDQ kvs k).isSome
 |[]=>rfl
 |p::r=>by
  rw[List.any_cons];by_cases e:p.1=k
  .simp only[zEs e,zWo e,Bool.true_or,Option.isSome_some]
  .rw[zEW e,zWF e,Bool.false_or];exact zJU k r
theorem zCZ (kvs:List (κ × V)) (k:κ) (v:V):(zDR kvs k v).length<=kvs.length+1:=by
 unfold zDR;split
 .rw[zVp];omega
 .rw[zVw,zWD,List.length_nil];omega
theorem zFl.isSome_eq (r:zFl o u):o.isSome=u.isSome:=by
 cases o with
 |none=>cases u with
  |none=>rfl
  |some _=>exact (show False from r).elim
 |some _=>cases u with
  |none=>exact (show False from r).elim
  |some _=>rfl
theorem zFl.getD (r:zFl o u) (rd:ze d d'):ze (o.getD d) (u.getD d'):=by
 cases o with
 |none=>cases u with
  |none=>exact rd
  |some _=>exact (show False from r).elim
 |some _=>cases u with
  |none=>exact (show False from r).elim
  |some _=>exact r
theorem KV.val {kvs:List (κ × V)} {vs:List (κ × Value)} (r:KV kvs vs) (k:κ):zFl (zDQ kvs k) (valueAt vs k):=by
 unfold KV at r;induction r with
 |nil=>exact True.intro
 | @cons p q ps qs h t ih=>
  obtain ⟨h1,h2⟩:=h;by_cases e:p.1=k
  .have e':q.1=k:=h1.symm.trans e;have b:valueAt (q::qs) k=some q.2:=by simp[valueAt,zXS,e']
   rw[zEs e,b];exact h2
  .have e':¬ q.1=k:=λz=>e (h1.trans z);have b:valueAt (q::qs) k=valueAt qs k:=by simp[valueAt,zXS,e']
   rw[zEW e,b];exact ih
theorem KV.any (r:KV kvs vs) (k:κ):(kvs.any λkv=>decide (kv.1=k))=vs.any λkv=>decide (kv.1=k):=by
 unfold KV at r;induction r with
 |nil=>rfl
 |cons h t ih=>rw[List.any_cons,List.any_cons,ih,h.1]
theorem KV.repl (r:KV kvs vs) (k:κ) (ry:ze y u) :
  KV (kvs.map λkv=>if kv.1=k then (kv.1,y) else kv) (vs.map λkv=>if kv.1=k then (kv.1,u) else kv):=by
 unfold KV at r ⊢;induction r with
 |nil=>exact .nil
 | @cons p q ps qs h t ih=>
  rw[zVz,zVz];refine .cons ?_ ih;obtain ⟨h1,h2⟩:=h;by_cases e:p.1=k
  .rw[zVv e,zVv (h1.symm.trans e)];exact ⟨h1,ry⟩
  .rw[zVy e,zVy (λz=>e (h1.trans z))];exact ⟨h1,h2⟩
theorem KV.put (r:KV kvs vs) (k:κ) (ry:ze y u):KV (zDR kvs k y) (stored vs k u):=by
 unfold zDR stored;rw[r.any k];by_cases e:(vs.any λkv=>decide (kv.1=k))=true
 .rw[zVv e,zVv e];exact r.repl k ry
 .rw[zVy e,zVy e];exact Paired.snoc r ⟨rfl,ry⟩
theorem KV.length (r:KV kvs vs):kvs.length=vs.length:=Paired.length r
end
theorem zGY (r:ze (kV k) u):(zAL P w).is k u=true:=by
 cases k with
 |inl i=>obtain ⟨t,e⟩:=(show ∃ t,u=Value.int i t from r);subst e;exact zKW P w i t
 |inr x=>obtain ⟨t,e⟩:=(show ∃ t,u=Value.str x t from r);subst e;exact zJb P w x t
theorem zHZ:∀ {ks:List Key} {us:Yf},zb (ks.map kV) us->ItemsAre (zAL P w) ks us
 |[],_,r=>by rw[List.map_nil]at r;cases r;exact .nil
 |k::ks,_,r=>by
  rw[zVz]at r;cases r with
  |cons h t=>exact .cons (zGY h) (zHZ t)
abbrev KT (H:Hp):List (List Key × V)->List (List Key × Addr × Value)->Prop:=Paired λp q=>p.1=q.1/\H q.2.1=some (.tup (p.1.map kV))/\ze p.2 q.2.2
theorem KT.val {H:Hp} {kvs:List (List Key × V)} {xs:List (List Key × Addr × Value)} (r:KT H kvs xs) (k:List Key):zFl (zDQ kvs k) ((atKey xs k).map (·.2)):=by
 induction r with
 |nil=>exact True.intro
 | @cons p q ps qs h t ih=>
  obtain ⟨h1,_,h2⟩:=h;by_cases e:p.1=k
  .have e':q.1=k:=h1.symm.trans e;have b:atKey (q::qs) k=some q.2:=by simp[atKey,zXS,e']
   rw[zEs e,b];exact h2
  .have e':¬ q.1=k:=λz=>e (h1.trans z);have b:atKey (q::qs) k=atKey qs k:=by simp[atKey,zXS,e']
   rw[zEW e,b];exact ih
theorem KT.repl (r:KT H kvs xs) (k:List Key) (ry:ze y u) :
  KT H (kvs.map λkv=>if kv.1=k then (kv.1,y) else kv) (xs.map (putAt k u)):=by
 induction r with
 |nil=>exact .nil
 | @cons p q ps qs h t ih=>
  rw[zVz,zVz];refine .cons ?_ ih;obtain ⟨h1,h2,h3⟩:=h;unfold putAt;by_cases e:p.1=k
  .rw[zVv e,zVv (h1.symm.trans e)];exact ⟨h1,h2,ry⟩
  .rw[zVy e,zVy (λz=>e (h1.trans z))];exact ⟨h1,h2,h3⟩
theorem KT.put (r:KT H kvs xs) (k:List Key) (hb:H b=some (.tup (k.map kV))) (ry:ze y u) :
  KT H (zDR kvs k y) (storedH xs k b u):=by
 have e:(kvs.any λkv=>decide (kv.1=k))=(atKey xs k).isSome:=by
  rw[zJU,(r.val k).isSome_eq,Option.isSome_map]
 unfold zDR storedH;rw[e];by_cases q:(atKey xs k).isSome=true
 .rw[zVv q,zVv q];exact r.repl k ry
 .rw[zVy q,zVy q];exact Paired.snoc r ⟨rfl,hb,ry⟩
theorem KT.keeps (r:KT H kvs xs) (ht:∀ b ys,H b=some (.tup ys)->H' b=some (.tup ys)):KT H' kvs xs :=
 Paired.mapP r λ_ _ z=>⟨z.1,ht _ _ z.2.1,z.2.2⟩
section
variable {P:Ym} {w:Yo} {H:Hp} {h:Heap} {a:Yt}
theorem zR1 (ok:HOk P w H h) (e:Rd H a u):zAm P w H h a u:=e.ok ok
theorem zGX (ok:HOk P w H h) (e:Rd H a (.dK kvs)):kvs.length<=sizeLine/\(a==sysModules)=false /\ ∃ vs,KV kvs vs/\h.DictOf (zAL P w) a vs :=
 show zAm P w H h a (.dK kvs)from zR1 ok e
theorem zR0 (ok:HOk P w H h) (e:H a=some (.dK kvs)):kvs.length<=sizeLine/\(a==sysModules)=false /\ ∃ vs,KV kvs vs/\h.DictOf (zAL P w) a vs:=zGX ok (.inl e)
theorem zEC (ok:HOk P w H h) (e:H a=some (.tup (ks.map kV))):(tupleKind (zAL P w)).is h ks a:=by
 obtain ⟨_,its,r,o,h1,h2,⟨n,h3⟩,_⟩:=(show zAm P w H h a (.tup (ks.map kV))from ok a _ e);exact ⟨o,its.toArray,n,h1,h2,h3,by simpa using zHZ r⟩
theorem zGj (ok:HOk P w H h) (e:Rd H a (.dT kvs)):kvs.length<=sizeLine/\(a==sysModules)=false /\
  ∃ xs,KT H kvs xs/\h.DictOfH (tupleKind (zAL P w)) a xs:=by
 obtain ⟨z,y,xs,r,o,es,ep,h1,h2,h3,h4,h5⟩:=(show zAm P w H h a (.dT kvs)from zR1 ok e);refine ⟨z,y,xs,r,o,es,ep,h1,h2,h3,h4,λx hx=>?_,h5⟩;have all:∀ {l:List (List Key × V)} {m:List (List Key × Addr × Value)},KT H l m -> ∀ x∈m,(tupleKind (zAL P w)).is h x.1 x.2.1:=by
  intro l m q;induction q with
  |nil=>intro x hx;exact nomatch hx
  | @cons p q ps qs hq t ih=>
   intro x hx;rcases zVs.mp hx with e|hx
   .subst e;exact zEC ok (by rw[<-hq.1];exact hq.2.1)
   .exact ih x hx
 exact all r x hx
theorem zLp (ok:HOk P w H h) (e:H a=some (.dT kvs)):kvs.length<=sizeLine/\(a==sysModules)=false /\
  ∃ xs,KT H kvs xs/\h.DictOfH (tupleKind (zAL P w)) a xs:=zGj ok (.inl e)
end
def zC1 (H:Hp) (a:Yt) (y:V) (r:Option V):Prop :=
 (∃ kvs k,Rd H a (.dK kvs)/\y=kV k/\r=zDQ kvs k) \/ ∃ kvs k b,Rd H a (.dT kvs)/\y=.ref b/\H b=some (.tup (k.map kV))/\r=zDQ kvs k
def zEU (H:Hp) (a:Yt) (y v:V) (H':Hp):Prop :=
 (∃ kvs k,H a=some (.dK kvs)/\y=kV k/\kvs.length<sizeLine/\H'=upd H a (.dK (zDR kvs k v))) \/
 ∃ kvs k b,H a=some (.dT kvs)/\y=.ref b/\H b=some (.tup (k.map kV))/\kvs.length<sizeLine/\H'=upd H a (.dT (zDR kvs k v))
theorem zC1.k {H:Hp} {a:Yt} {kvs:List (Key × V)} {k:Key} (e:H a=some (.dK kvs)):zC1 H a (kV k) (zDQ kvs k):=.inl ⟨kvs,k,.inl e,rfl,rfl⟩
theorem zC1.t {k:List Key} (e:H a=some (.dT kvs)) (eb:H b=some (.tup (k.map kV))):zC1 H a (.ref b) (zDQ kvs k):=.inr ⟨kvs,k,b,.inl e,rfl,eb,rfl⟩
theorem zEU.k {H:Hp} {a:Yt} {kvs:List (Key × V)} {k:Key} {v:V} (e:H a=some (.dK kvs)) (hl:kvs.length<sizeLine):zEU H a (kV k) v (upd H a (.dK (zDR kvs k v))):=.inl ⟨kvs,k,e,rfl,hl,rfl⟩
theorem zEU.t {kvs:List (List Key × V)} {k:List Key} (e:H a=some (.dT kvs)) (eb:H b=some (.tup (k.map kV))) (hl:kvs.length<sizeLine) :
  zEU H a (.ref b) v (upd H a (.dT (zDR kvs k v))):=.inr ⟨kvs,k,b,e,rfl,eb,hl,rfl⟩
section
variable {X:Cx} {zB:Yd} {σ:St} {H:Hp} {s:Yl} {a:Yt} {y v:V} {u r:Yu} {o:Option V} {A:Yn} {E:Yc}
theorem Inv.big (I:Inv X zB σ H s):sysModules<s.heap.objs.size:=by
 have h:mainGlobals<s.heap.objs.size:=(I.mod.glob.keeps I.bk).lt;exact Nat.lt_trans (by decide) h
theorem zNF (hu:A.units+1<cLine) (I:Inv X zB σ H s) (g:zC1 H a y (some v)) (ry:ze y u) (h:∀ w' s',Inv X zB σ H s'->ze v w'->Q w' s') :
  wpAny (model X.prog X.w) A (getItem (.ref a) u) Q E s:=by
 rcases g with ⟨kvs,k,e,ey,l⟩|⟨kvs,k,b,e,ey,eb,l⟩
 .subst ey;obtain ⟨z,hd,vs,rel,dd⟩:=zGX I.hok e;obtain ⟨w',hw,rw'⟩:=zFl.some_of (v:=v) (o:=valueAt vs k) (by rw[l];exact rel.val k);exact wpAny_getItem_of (zGY ry) dd.mapOf hw (h w' _ (I.tok _) rw')
 .subst ey;cases (show u=Value.ref b from ry);obtain ⟨z,hd,xs,rel,dd⟩:=zGj I.hok e;obtain ⟨w',hw,rw'⟩:=zFl.some_of (v:=v) (o:=(atKey xs k).map (·.2)) (by rw[l];exact rel.val k);obtain ⟨p,hp,hp2⟩:=Option.map_eq_some_iff.mp hw;refine wpAny_getItem_heap (tupleKind_room_in1 hu) (zEC I.hok eb) dd hp ?_;rw[hp2];exact h w' _ (I.tok _) rw'
theorem zVd (hu:A.units+1<cLine) (I:Inv X zB σ H s) (g:zC1 H a y o) (ry:ze y u) (h:∀ s',Inv X zB σ H s'->Q (.bool o.isSome) s') :
  wpAny (model X.prog X.w) A (compareOp .In u (.ref a)) Q E s:=by
 rcases g with ⟨kvs,k,e,ey,l⟩|⟨kvs,k,b,e,ey,eb,l⟩
 .subst ey;obtain ⟨z,hd,vs,rel,dd⟩:=zGX I.hok e;refine wpAny_in_of (zGY ry) hd dd.mapOf ?_;rw[<-(rel.val k).isSome_eq,<-l];exact h _ (I.tok _)
 .subst ey;cases (show u=Value.ref b from ry);obtain ⟨z,hd,xs,rel,dd⟩:=zGj I.hok e;refine wpAny_in_heap (tupleKind_room_in1 hu) (zEC I.hok eb) hd dd ?_;have q:=(rel.val k).isSome_eq;rw[Option.isSome_map]at q;rw[<-q,<-l];exact h _ (I.tok _)
theorem zRJ (hu:A.units+1<cLine) (I:Inv X zB σ H s) (g:zC1 H a y o) (ry:ze y u) (h:∀ s',Inv X zB σ H s'->Q (.bool (!o.isSome)) s') :
  wpAny (model X.prog X.w) A (compareOp .NotIn u (.ref a)) Q E s:=by
 rcases g with ⟨kvs,k,e,ey,l⟩|⟨kvs,k,b,e,ey,eb,l⟩
 .subst ey;obtain ⟨z,hd,vs,rel,dd⟩:=zGX I.hok e;refine wpAny_notIn_of (zGY ry) hd dd.mapOf ?_;rw[<-(rel.val k).isSome_eq,<-l];exact h _ (I.tok _)
 .subst ey;cases (show u=Value.ref b from ry);obtain ⟨z,hd,xs,rel,dd⟩:=zGj I.hok e;refine wpAny_notIn_heap (tupleKind_room_in1 hu) (zEC I.hok eb) hd dd ?_;have q:=(rel.val k).isSome_eq;rw[Option.isSome_map]at q;rw[<-q,<-l];exact h _ (I.tok _)
theorem zEd (I:Inv X zB σ H s) (mu:Mut (H a)) (hs:Heap.SameBut a s.heap h') (he:∃ q,h'.get? a=some q) (new:zAm X.prog X.w (upd H a ob) h' a ob) :
  Inv X zB σ (upd H a ob) { s with heap:=h',toks:=t' } :=
 I.write (x:=a) (e:=a) mu (.inl rfl) (λb q hb z=>(hs.2 b hb).trans z) he new
theorem zPe (z:kvs.length<=sizeLine) (hd:(a==sysModules)=false) (rel:KV kvs vs) (dd:h'.DictOf (zAL P w) a vs) :
  zAm P w H' h' a (.dK kvs):=⟨z,hd,vs,rel,dd⟩
theorem zNQ (hu:A.units+1<cLine) (I:Inv X zB σ H s) (g:zEU H a y v H') (ry:ze y u) (rv:ze v r) (h:∀ s',Inv X zB σ H' s'->Q () s') :
  wpAny (model X.prog X.w) A (setItem (.ref a) u r) Q E s:=by
 rcases g with ⟨kvs,k,e,ey,l,eH⟩|⟨kvs,k,b,e,ey,eb,l,eH⟩
 .subst ey eH;obtain ⟨z,hd,vs,rel,dd⟩:=zR0 I.hok e;have hz:vs.length<=sizeLine:=by rw[<-rel.length];exact z
  have hl:(zDR kvs k v).length<=sizeLine:=by have:=zCZ kvs k v;omega
  refine wpAny_setItem_pairs (hsz:=hz) (zGY ry) dd λh' dd' hs=>h _ ?_;have he:∃ q,h'.get? a=some q:=let ⟨q,_,_,hq,_⟩:=dd';⟨q,hq⟩;exact zEd I (by rw[e];exact True.intro) hs he (zPe hl hd (rel.put k rv) dd')
 .subst ey eH;cases (show u=Value.ref b from ry);obtain ⟨z,hd,xs,rel,dd⟩:=zLp I.hok e;have hz:xs.length<=sizeLine:=by rw[<-Paired.length rel];exact z
  have hl:(zDR kvs k v).length<=sizeLine:=by have:=zCZ kvs k v;omega
  refine wpAny_setItem_heap (hsz:=hz) (tupleKind_room_in1 hu) (zEC I.hok eb) dd λh' dd' hs=>h _ ?_;obtain ⟨q,es,ep,hq,h2,h3,h4,_,h5⟩:=dd';refine zEd I (by rw[e];exact True.intro) hs ⟨q,hq⟩ ⟨hl,hd,_,(rel.put k eb rv).keeps λc ys ec=>?_,q,es,ep,hq,h2,h3,h4,h5⟩;rw[zV (zGQ ec e (λz=>nomatch z))];exact ec
end
def zTN (i:Expr):Prop:=∀ ov iv,subscripted i false ov iv=operate [ov,iv] (getItem ov iv)
theorem zQs {prog:Ym} {w:Yo} {A:Yn} {E:Yc} {s:Yl} {env:Env} {value slice:Expr} {pos:Pos} {T id:String} {Q:Yc}
  (hl:typeLookup (.type T) "__getitem__" = pure (some (.builtin id))) (hs:zTN slice)
  (h:wpAny (model prog w) A (eval value env) (λo s₁=>wpAny (model prog w) A (eval slice env) (λi s₂=>s₂.TypeIs o T/\wpAny (model prog w) A (getItem o i) Q E s₂) E s₁) E s) :
  wpAny (model prog w) A (eval (.Subscript value slice pos) env) Q E s:=by
 refine Subscript_ (zWC h (λo s₁ h₁=>zWC h₁ (λi s₂ h₂=>?_) λ_ _ x=>x) λ_ _ x=>x);obtain ⟨hT,h₂⟩:=h₂;unfold subscriptTail;refine zVg ?_;rw[getitemInPython_of_ne hT.not_modules];refine zVg (wpAny_specialOf hT hl ?_);have fin:wpAny (model prog w) A (subscripted slice false o i) (λr s₃=>wpAny (model prog w) A (letTemporaryGo value o r >>= λ_=>pure r) Q E s₃) E s₂:=by
  rw[hs o i];exact wpAny_operating (zWC h₂ (λr s₃ h₃=>zVg (wpAny_letTemporaryGo (zVi h₃))) λ_ _ x=>x)
 first
  |exact zVi (zVg fin)
  |exact zVg (zVi (zVg fin))
  |exact zVg fin
theorem zKL (I:Inv X zB σ H s) (g:zC1 H a y o):s.TypeIs (.ref a) "dict" := by
 rcases g with ⟨kvs,k,e,_,_⟩|⟨kvs,k,b,e,_,_,_⟩
 .obtain ⟨_,_,vs,_,dd⟩:=zGX I.hok e;exact dd.typeIs
 .obtain ⟨_,_,xs,_,dd⟩:=zGj I.hok e;exact dd.typeIs
def zTw (td ty:TE):TE:=λσ H Q=>td σ H λx H1=>ty σ H1 λy H2=>∃ a v,x=.ref a/\zC1 H2 a y (some v)/\Q v H2
def zVB (ty td:TE):TE:=λσ H Q=>ty σ H λy H1=>td σ H1 λx H2=>∃ a o,x=.ref a/\zC1 H2 a y o/\Q (.bl o.isSome) H2
def zRP (ty td:TE):TE:=λσ H Q=>ty σ H λy H1=>td σ H1 λx H2=>∃ a o,x=.ref a/\zC1 H2 a y o/\Q (.bl (!o.isSome)) H2
def zUs (td ty tv:TE):TS:=λD σ H=>tv σ H λv H1=>td σ H1 λx H2=>ty σ H2 λy H3=>∃ a H4,x=.ref a/\zEU H3 a y v H4/\D.nx σ H4
section
variable {X:Cx} {o i e value:Expr} {pos pos' tpos:Pos} {td ty tv:TE}
theorem zQu (hu:X.A.units+1<cLine) (ho:PE X o td) (hi:PE X i ty) (hs:zTN i):PE X (.Subscript o i pos) (zTw td ty):=by
 intro zB s σ H Q I h;refine zQs PySem.F.slot_dict_getitem.lookup hs (thn (ho zB s σ H _ I h) λu s1 ⟨x,H1,I1,rx,q1⟩=>thn (hi zB s1 σ H1 _ I1 q1) λiv s2 ⟨y,H2,I2,ry,a,v,ex,g,q2⟩=>?_);subst ex;obtain rfl:u=Value.ref a:=rx;exact ⟨zKL I2 g,zNF hu I2 g ry λw' s3 I3 rw'=>⟨v,H2,I3,rw',q2⟩⟩
theorem zOa (hu:X.A.units+1<cLine) (hi:PE X i ty) (ho:PE X o td):PC X .In i o (zVB ty td):=by
 intro zB s σ H Q I h;refine thn (hi zB s σ H _ I h) λiv s1 ⟨y,H1,I1,ry,q1⟩=>thn (ho zB s1 σ H1 _ I1 q1) λu s2 ⟨x,H2,I2,rx,a,ov,ex,g,q2⟩=>?_;subst ex;obtain rfl:u=Value.ref a:=rx;exact zVd hu I2 g ry λs3 I3=>⟨.bl ov.isSome,H2,I3,rfl,q2⟩
theorem zM7 (hu:X.A.units+1<cLine) (hi:PE X i ty) (ho:PE X o td):PC X .NotIn i o (zRP ty td):=by
 intro zB s σ H Q I h;refine thn (hi zB s σ H _ I h) λiv s1 ⟨y,H1,I1,ry,q1⟩=>thn (ho zB s1 σ H1 _ I1 q1) λu s2 ⟨x,H2,I2,rx,a,ov,ex,g,q2⟩=>?_;subst ex;obtain rfl:u=Value.ref a:=rx;exact zRJ hu I2 g ry λs3 I3=>⟨.bl (!ov.isSome),H2,I3,rfl,q2⟩
theorem zQJ (hu:X.A.units+1<cLine) (ho:PE X o td) (hi:PE X i ty) (hv:PE X value tv) (hs:swapsWith value (some (.Subscript o i pos')) pos.line X.env=pure false) :
  PS X (.Assign [.Subscript o i pos'] value pos) (zUs td ty tv):=by
 intro zB s σ H D I h;refine wpAny_Assign_Subscript (thn (hv zB s σ H _ I h) λr s1 ⟨v,H1,I1,rv,q1⟩=>thn (ho zB s1 σ H1 _ I1 q1) λu s2 ⟨x,H2,I2,rx,q2⟩=>thn (hi zB s2 σ H2 _ I2 q2) λiv s3 ⟨y,H3,I3,ry,a,H4,ex,g,q3⟩=>?_) hs;subst ex;obtain rfl:u=Value.ref a:=rx;exact zNQ hu I3 g ry rv λs4 I4=>⟨σ,H4,I4,q3⟩
end
theorem zNz (h:Heap) (hb:sysModules<h.objs.size):zAm P w H (h.push { cls:=.type "dict", data:=.dict #[] }) h.objs.size (.dT []) :=
 ⟨zWS _,beq_eq_false_iff_ne.mpr (Ne.symm (zV1 hb)),[],.nil,_,#[],0,zVq _ rfl,⟨rfl,rfl,rfl⟩,rfl,rfl,List.nodup_nil⟩
def zSG:TE:=λ_ H Q=>∀ p,H p=none->Q (.ref p) (upd H p (.dT []))
section
variable {X:Cx} {pos:Pos}
theorem zPo:PE X (.Dict [] [] pos) zSG:=λzB s σ H Q I h=>
 wpAny_Dict_empty ⟨.ref s.heap.objs.size,_,I.laid (a:=s.heap.objs.size) (o:=.dT []) (t':=s.toks) (λ_ _ q=>zVh _ q) (zVm _) (zNz s.heap I.big),rfl,h _ (I.hok.fresh (zVm _))⟩
end
structure M2 (X:Cx) (o:Expr) (m:Str) (apos:Pos) (e f:Expr) (cpos:Pos):Prop where
 base:attributeBase o m X.env (eval o X.env)=eval o X.env
 few:((backTo cpos (starEach [e,f] X.env)).all (λx=> !x.1)&&(backToKw cpos (keywordEach [] X.env)).all (λx=>x.1.isSome)
  && decide (([e,f]:List Expr).length+([]:List Keyword).length+(if ([]:List Keyword).isEmpty then 0 else 1)<30))=true
 line:(apos.endLine==cpos.line)=true
 trees:backTo cpos (starEach [e,f] X.env)=[(false,eval e X.env),(false,eval f X.env)]
def IsD (H:Hp) (a:Yt):Prop:=(∃ kvs,Rd H a (.dK kvs)) \/ ∃ kvs,Rd H a (.dT kvs)
theorem zP8 (I:Inv X zB σ H s) (d:IsD H a) :
  s.TypeIs (.ref a) "dict" /\ (∀ b,Value.ref a=.ref b -> ∃ ob,s.heap.get? b=some ob/\ob.dict=none)/\(a==sysModules)=false:=by
 rcases d with ⟨kvs,e⟩|⟨kvs,e⟩
 .obtain ⟨_,hd,vs,_,dd⟩:=zGX I.hok e;refine ⟨dd.typeIs,λb q=>?_,hd⟩;cases q;obtain ⟨ob,_,_,h1,h2,_⟩:=dd;exact ⟨ob,h1,h2.2.1⟩
 .obtain ⟨_,hd,xs,_,dd⟩:=zGj I.hok e;refine ⟨dd.typeIs,λb q=>?_,hd⟩;cases q;obtain ⟨ob,_,_,h1,h2,_⟩:=dd;exact ⟨ob,h1,h2.2.1⟩
section
variable {X:Cx} {zB:Yd} {σ:St} {H:Hp} {s:Yl} {a:Yt} {y d:V} {u r:Yu} {o:Option V} {A:Yn} {E:Yc}
theorem zTB (hu:A.units+1<cLine) (I:Inv X zB σ H s) (g:zC1 H a y o) (ry:ze y u) (rd:ze d r) (h:∀ w' s',Inv X zB σ H s'->ze (o.getD d) w'->Q w' s') :
  wpAny (model X.prog X.w) A (call (.builtin "dict.get") [.ref a,u,r]) Q E s:=by
 rcases g with ⟨kvs,k,e,ey,l⟩|⟨kvs,k,b,e,ey,eb,l⟩
 .subst ey;obtain ⟨z,hd,vs,rel,dd⟩:=zGX I.hok e;refine call_meetsIn PySem.F.slot_dict_get dd.typeIs PySem.F.entry_dict_get (PySem.F.args_dict_get_3 _ _ _) (meets_dict_get_default (zAL X.prog X.w) a (zGY ry) hd r) ⟨_,dd.mapOf,h _ _ (I.tok _) ?_⟩;rw[l];exact (rel.val k).getD rd
 .subst ey;cases (show u=Value.ref b from ry);obtain ⟨z,hd,xs,rel,dd⟩:=zGj I.hok e;refine call_meetsIn PySem.F.slot_dict_get dd.typeIs PySem.F.entry_dict_get (PySem.F.args_dict_get_3 _ _ _) (meetsH_dict_get_default (tupleKind (zAL X.prog X.w)) a b hd r) ⟨tupleKind_room_in1 hu,k,xs,zEC I.hok eb,dd,h _ _ (I.tok _) ?_⟩;rw[l];exact (rel.val k).getD rd
end
def zOy (td ty tx:TE):TE:=λσ H Q=>td σ H λx H1=>∃ a,x=.ref a/\IsD H1 a/\ty σ H1 λy H2=>tx σ H2 λz H3=>∃ o,zC1 H3 a y o/\Q (o.getD z) H3
section
variable {X:Cx} {o e f:Expr} {apos cpos:Pos} {td ty tx:TE}
theorem zPy (hu:X.A.units+1<cLine) (ho:PE X o td) (he:PE X e ty) (hf:PE X f tx) (m:M2 X o "get" apos e f cpos):PE X (.Call (.Attribute o "get" apos) [e,f] [] cpos) (zOy td ty tx):=by
 intro zB s σ H Q I h;refine wpAny_Call_method m.base m.few m.line PySem.F.plainAttrs_dict PySem.F.slot_dict_get PySem.F.type_dict_get (thn (ho zB s σ H _ I h) λu s1 ⟨x,H1,I1,rx,a,ex,d,q1⟩=>?_);subst ex;obtain rfl:u=Value.ref a:=rx;obtain ⟨t1,t2,_⟩:=zP8 I1 d;refine ⟨t1,t2,?_⟩;rw[m.trees];refine Calls.callWith_builtin rfl (Calls.evalArgs_plain (Calls.spliced_cons (thn (he zB s1 σ H1 _ I1 q1) λiv s2 ⟨y,H2,I2,ry,q2⟩=>
  Calls.spliced_cons (thn (hf zB s2 σ H2 _ I2 q2) λfv s3 ⟨z,H3,I3,rz,ov,g,q3⟩=>Calls.spliced_nil ?_))))
 exact zTB hu I3 g ry rz λw' s4 I4 rw'=>⟨_,H3,I4,rw',q3⟩
end
theorem zAZ:∀ (names:List (Str × NameKind)) (n:Nat) (acc:Yv),cellsFrom n names acc=cellsFrom n names []++acc
 |[],_,_=>rfl
 | (name,kind)::r,n,acc=>by
  unfold cellsFrom;split
  .rw[zAZ r (n+1) ((name,n)::acc),zAZ r (n+1) [(name,n)],zWm];rfl
  .exact zAZ r n acc
theorem zCM {α:Type} (x:Str):∀ (l r:List (Str × α)),(l++r).lookup x=(match l.lookup x with|some c=>some c|none=>r.lookup x)
 |[],r=>rfl
 | (k,v)::l,r=>by
  rw[List.cons_append,zXl,zXl];cases hb:x==k with
  |true=>rfl
  |false=>exact zCM x l r
theorem zEN:∀ (names:List (Str × NameKind)) (acc:Yv),
  (∀ y∈names,y.2=.free -> ∃ c,env.cells.lookup y.1=some c) ->
  (∀ x c,acc.lookup x=some c->env.cells.lookup x=some c) ->
  ∃ cl:List (Str × Addr),(forIn names acc (λ(p:Str × NameKind) (cs:Yv)=>(do
    if p.2 == .free then
     let a <- cellOf env p.1;pure (ForInStep.yield ((p.1,a)::cs))
    else pure (ForInStep.yield cs):Sem (ForInStep (List (Str × Addr))))))=pure cl /\
   (∀ x c,cl.lookup x=some c->env.cells.lookup x=some c) /\
   (∀ x,(acc.lookup x).isSome=true->(cl.lookup x).isSome=true) /\ ∀ y∈names,y.2=.free->(cl.lookup y.1).isSome=true
 |[],acc,_,ha=>⟨acc,by rw[List.forIn_nil],ha,λ_ h=>h,λ_ h=>nomatch h⟩
 | (n,k)::r,acc,hf,ha=>by
  rw[List.forIn_cons];by_cases hk:k=.free
  .subst hk;obtain ⟨c,hc⟩:=hf (n,.free) zVu rfl;have hco:cellOf env n=pure c:=by unfold cellOf;rw[hc]
   obtain ⟨cl,e,h1,h2,h3⟩:=zEN r ((n,c)::acc) (λy hy=>hf y (zVt _ hy)) (λx d hx=>by
    rw[zXl]at hx;cases hb:x==n with
    |true=>rw[hb]at hx;cases hx;rw[beq_iff_eq.mp hb];exact hc
    |false=>rw[hb]at hx;exact ha x d hx)
   refine ⟨cl,?_,h1,λx hx=>h2 x ?_,λy hy hk=>?_⟩
   .rw[<-e];simp only[beq_self_eq_true,if_true,hco];rfl
   .rw[zXl];cases hb:x==n with
    |true=>rfl
    |false=>exact hx
   .rcases zVs.mp hy with z|z
    .subst z;exact h2 n (by rw[zXl];simp)
    .exact h3 y z hk
  .obtain ⟨cl,e,h1,h2,h3⟩:=zEN r acc (λy hy=>hf y (zVt _ hy)) ha;refine ⟨cl,?_,h1,h2,λy hy hk'=>?_⟩
   .rw[<-e];have:(k==NameKind.free)=false:=by simpa using hk
    simp only[this,zWh,if_false];rfl
   .rcases zVs.mp hy with z|z
    .subst z;exact absurd hk' hk
    .exact h3 y z hk'
theorem zG2 (hf:∀ y∈scope.names,y.2=.free -> ∃ c,env.cells.lookup y.1=some c) :
  ∃ cl,closureFor scope env=pure cl/\(∀ x c,cl.lookup x=some c->env.cells.lookup x=some c) /\ ∀ y∈scope.names,y.2=.free->(cl.lookup y.1).isSome=true:=by
 obtain ⟨cl,e,h1,_,h3⟩:=zEN (env:=env) scope.names [] hf (λx c h=>nomatch h);refine ⟨cl,?_,h1,h3⟩;unfold closureFor;rw[show (pure cl:Sem _)=pure cl >>= pure from rfl,<-e]
theorem zCV
  (hQ:Q (newEnv scope s.heap.objs.size globals (cellsFrom (s.heap.objs.size+1) scope.names cl) qual none .none (some env) builtinsNs)
   { s with heap:=pushCells (s.heap.push { cls:=.type "dict", data:=.dict #[] }) scope.names }) :
  wpAny M A (newFunctionEnv scope globals cl [] qual none .none (some env)) Q E s:=by
 simp only[newFunctionEnv,Option.isSome_some,if_true];refine zVg (wpAny_alloc ?_);refine zVg (wpAny_layCells _ (λname kind cells=>by cases hkc:kind==NameKind.cell <;> simp[hkc]) _ _ _ _ ?_);rw[show ({ s with heap:=s.heap.push { cls:=.type "dict", data:=.dict #[] } }:Shared).heap.objs.size=s.heap.objs.size+1 from zWM ..];exact zVg (zVi (zVi hQ))
def zJ (X:Cx) (zB:Yd) (scope:Y0) (cl:Yv) (s:Yl) (H:Hp) (fp:Yg):Cx where
 prog:=X.prog
 w:=X.w
 K:=X.K
 mg:=X.mg
 base:=X.base
 A:=X.A
 N:=X.N
 s₀:=s
 H₀:=H
 env:={ scope:=relabel scope X.env,locals:=s.heap.objs.size+1,globals:=X.env.globals,cells:=cellsFrom (s.heap.objs.size+1+1) scope.names cl,qual:=X.env.qual,func:=none,code:=X.env.code,frame:=X.env.frame,builtins:=X.env.builtins }
 outer:=X.stack
 stack:=X.stack
 ex:=fp
 fn:=λx=>decide (scope.names.lookup x=some .cell)
 calm:=X.calm
 pn:=X.pn++zB
 xe:=λ_ _=>False
theorem zAz {scope:Y0} {env:Env} (x:Str):∀ {names:List (Str × NameKind)} {k:NameKind},
  (names.map λ(n,k)=>if (k==NameKind.free&&env.scope.kind == .function&&env.kindOf n==some .cell) then (n,NameKind.cell) else (n,k)).lookup x=some k ->
  names.lookup x=some k\/(names.lookup x=some .free/\k=.cell)
 |[],_,h=>by simp at h
 | (n,k')::r,k,h=>by
  rw[zVz]at h;by_cases hc:(k'==NameKind.free&&env.scope.kind == .function&&env.kindOf n==some .cell)=true
  .simp only[hc,if_true]at h;rw[zXl]at h ⊢;cases hb:x==n with
   |true=>
    rw[hb]at h;simp only[zWG,beq_iff_eq]at hc;exact .inr ⟨by rw[hc.1.1],(zWg h).symm⟩
   |false=>rw[hb]at h;exact zAz (scope:=scope) x h
  .simp only[hc,zWh,if_false]at h;rw[zXl]at h ⊢;cases hb:x==n with
   |true=>rw[hb]at h;exact .inl h
   |false=>rw[hb]at h;exact zAz (scope:=scope) x h
theorem zF0:∀ (names:List (Str × NameKind)) (n:Nat) (acc:Yv) (x:Str) (c:Yt),(x,c)∈cellsFrom n names acc->(x,c)∉acc->(x,NameKind.cell)∈names
 |[],_,_,_,_,h,h'=>absurd h h'
 | (name,kind)::r,n,acc,x,c,h,h'=>by
  unfold cellsFrom at h;split at h
  .rename_i hk;by_cases e:(x,c)=(name,n)
   .cases e;rw[beq_iff_eq]at hk;subst hk;exact zVu
   .exact zVt _ (zF0 r _ _ x c h λz=>(zVs.mp z).elim e h')
  .exact zVt _ (zF0 r _ _ x c h h')
structure CompScope (X:Cx) (scope:Y0):Prop where
 kind:scope.kind=.function
 names:∀ y∈scope.names,y.2=.local->scope.names.lookup y.1=some .local
 cells:∀ y∈scope.names,y.2=.cell->scope.names.lookup y.1=some .cell
 free:∀ y∈scope.names,y.2=.free->X.env.kindOf y.1=some .cell\/X.env.kindOf y.1=some .free
section
theorem zEr (S:CompScope X scope) (I:Inv X zB σ H s) (hf:∀ b∈fp,zB5 X zB H b) (ho:∀ b:Nat,b∈fp->b<s.heap.objs.size)
  (c1:∀ x c,cl.lookup x=some c->X.env.cells.lookup x=some c) (c2:∀ y∈scope.names,y.2=.free->(cl.lookup y.1).isSome=true)
  (hl:σc.length=σ.length) (hσ:∀ (i:Nat) x v,X.N[i]?=some x->σc[i]?=some (some v)->(relabel scope X.env).names.lookup x≠none->scope.names.lookup x=some .free/\σ[i]?=some (some v))
  (lo:Obj) (hlo:∀ v,lo.data≠.cell v) (hfr:lo.isFreed=false)
  (h4:s4={ s with heap:=pushCells ((s.heap.push lo).push { cls:=.type "dict", data:=.dict #[] }) scope.names }) :
  Inv (zJ X zB scope cl s H fp) [(s.heap.objs.size,lo)] σc H s4:=by
 subst h4;have sz1:(s.heap.push lo).objs.size=s.heap.objs.size+1:=zWM ..;have sz2:((s.heap.push lo).push { cls:=.type "dict", data:=.dict #[] }).objs.size=s.heap.objs.size+1+1:=by rw[zWM,sz1]
 have hk:∀ b o,s.heap.get? b=some o->(pushCells ((s.heap.push lo).push { cls:=.type "dict", data:=.dict #[] }) scope.names).get? b=some o:=λb o e=>
  pushCells_keeps _ _ b o (zVh _ (zVh _ e))
 have ok:=cellsFrom_ok scope.names ((s.heap.push lo).push { cls:=.type "dict", data:=.dict #[] }) (s.heap.objs.size+1+1) [] ⟨λ_ _ hm=>(nomatch hm),List.Pairwise.nil⟩ (by rw[sz2];exact zVm _);rw[sz2]at ok;have look:∀ x c,(cellsFrom (s.heap.objs.size+1+1) scope.names cl).lookup x=some c->((cellsFrom (s.heap.objs.size+1+1) scope.names []).lookup x=some c)\/((cellsFrom (s.heap.objs.size+1+1) scope.names []).lookup x=none/\X.env.cells.lookup x=some c):=λx c e=>by
  rw[zAZ,zCM]at e;cases q:(cellsFrom (s.heap.objs.size+1+1) scope.names []).lookup x with
  |some d=>rw[q]at e;exact .inl e
  |none=>rw[q]at e;exact .inr ⟨rfl,c1 x c e⟩
 have old:∀ x (c:Nat),X.env.cells.lookup x=some c->c<s.heap.objs.size:=λx c e=>let ⟨_,q⟩:=I.cell x c e;q.lt;have new:∀ x (c:Nat),(cellsFrom (s.heap.objs.size+1+1) scope.names []).lookup x=some c->s.heap.objs.size+1+1<=c:=λx c e=>(ok.empty x c (zWi e)).2;have own:∀ x,scope.names.lookup x=some .cell -> ∃ c,(cellsFrom (s.heap.objs.size+1+1) scope.names []).lookup x=some c:=λx e=>zGS e;have cne:∀ x (c:Nat),(cellsFrom (s.heap.objs.size+1+1) scope.names cl).lookup x=some c->c<s.heap.objs.size\/s.heap.objs.size+1+1<=c:=λx c e=>by
  rcases look x c e with q|⟨_,q⟩
  .exact .inr (new x c q)
  .exact .inl (old x c q)
 refine ⟨⟨I.ok.mod,S.kind,I.ok.glob,I.ok.blt,zXO _,λx y c h1 h2=>?_,λx hx=>?_,λx c hx h=>?_,I.ok.hd,I.ok.frames,.inl rfl,λb hb=>⟨?_,λx c e z=>?_⟩,I.bs,zV7 I.ok.bsz I.sz,λb o e hb=>?_,λb hb z=>?_,I.stack,I.stkFree⟩,
  rfl,I.bare,Un.kept hk,⟨λ_=>none,?_,λi x v h1 h2 h3=>?_⟩,λx c e=>?_,I.hok.fresh (zXO _),λx c e=>?_,λp hp=>?_,I.hok.kept hk,hl.trans I.len⟩
 .rcases look x c h1 with a|⟨_,a⟩ <;> rcases look y c h2 with b|⟨_,b⟩
  .exact name_of_addr ok.apart (zWi a) (zWi b)
  .exact absurd (Nat.lt_of_le_of_lt (new x c a) (old y c b)) (by omega)
  .exact absurd (Nat.lt_of_le_of_lt (new y c b) (old x c a)) (by omega)
  .exact I.ok.inj x y c a b
 .have hx':(relabel scope X.env).names.lookup x=some .cell\/(relabel scope X.env).names.lookup x=some .free:=hx;have go:scope.names.lookup x=some .cell\/scope.names.lookup x=some .free:=by
   rcases hx' with q|q
   .rcases zAz (scope:=scope) x q with z|z
    .exact .inl z
    .exact .inr z.1
   .rcases zAz (scope:=scope) x q with z|z
    .exact .inr z
    .exact .inr z.1
  show ∃ c,(cellsFrom (s.heap.objs.size+1+1) scope.names cl).lookup x=some c;rw[zAZ,zCM];rcases go with q|q
  .obtain ⟨c,e⟩:=own x q;exact ⟨c,by rw[e]⟩
  .cases e:(cellsFrom (s.heap.objs.size+1+1) scope.names []).lookup x with
   |some d=>exact ⟨d,rfl⟩
   |none=>exact Option.isSome_iff_exists.mp (c2 (x,.free) (zWi q) rfl)
 .obtain ⟨d,e⟩:=own x (zWc hx);have h':(cellsFrom (s.heap.objs.size+1+1) scope.names cl).lookup x=some c:=h;rw[zAZ,zCM,e]at h';cases h';exact zV7 (zV7 (zXO _) (zXO _)) (new x _ e)
 .exact zV1 (zWV (ho b hb))
 .rcases look x c e with q|⟨_,q⟩
  .have a:=new x c q;rw[z]at a;exact absurd (Nat.lt_of_le_of_lt a (ho b hb)) (by omega)
  .exact (hf b hb).2.2.2.2.1 x c q z
 .rcases (hf b hb).2.2.2.1 with z|z
  .exact I.ok.noex b o e z
  .exact absurd (zV5 (zVr e) (zV7 I.ok.bsz z)) (zWO _)
 .rcases zVs.mp (I.stkSub b z)with q|q
  .exact (hf b hb).2.1 q
  .exact (hf b hb).2.2.1 q
 .have q:((s.heap.push lo).push { cls:=.type "dict", data:=.dict #[] }).Ns (s.heap.push lo).objs.size (λ_=>none):=Heap.Ns.new ..;rw[sz1]at q;exact q.keeps (pushCells_keeps _ _)
 .have h3':(relabel scope X.env).names.lookup x≠none:=by
   rcases h3 with z|z|z <;> (intro q;have z':(relabel scope X.env).names.lookup x=_:=z;rw[q]at z';cases z')
  obtain ⟨fr,hv⟩:=hσ i x v h1 h2 h3';obtain ⟨m,hn,hlk⟩:=I.loc;have kx:=S.free (x,.free) (zWi fr) rfl;obtain ⟨u,rv,lk⟩:=hlk i x v h1 hv (by rcases kx with z|z;exact .inr (.inl z);exact .inr (.inr z));refine ⟨u,rv,?_⟩;rcases lk with ⟨z,_⟩|⟨_,c,e,ic⟩
  .rcases kx with k|k <;> (rw[k]at z;cases z)
  .have kind:(relabel scope X.env).names.lookup x=some .cell\/(relabel scope X.env).names.lookup x=some .free:=by
    cases q:(relabel scope X.env).names.lookup x with
    |none=>exact absurd q h3'
    |some k=>
     rcases zAz (scope:=scope) x q with z|z
     .rw[fr]at z;cases z;exact .inr rfl
     .rw[z.2];exact .inl rfl
   refine .inr ⟨kind,c,?_,ic.keeps hk⟩;show (cellsFrom (s.heap.objs.size+1+1) scope.names cl).lookup x=some c;rw[zAZ,zCM];obtain ⟨d,hd⟩:=Option.isSome_iff_exists.mp (c2 (x,.free) (zWi fr) rfl);have:=c1 x d hd;rw[e]at this;cases this;have nn:(cellsFrom (s.heap.objs.size+1+1) scope.names []).lookup x=none:=by
    cases q:(cellsFrom (s.heap.objs.size+1+1) scope.names []).lookup x with
    |none=>rfl
    |some d'=>
     have z:=S.cells (x,.cell) (zF0 scope.names _ [] x d' (zWi q) λz=>nomatch z) rfl;rw[fr]at z;cases z
   rw[nn];exact hd
 .rcases look x c e with q|⟨_,q⟩
  .exact ⟨none,(ok.empty x c (zWi q)).1⟩
  .obtain ⟨v,z⟩:=I.cell x c q;exact ⟨v,z.keeps hk⟩
 .rcases look x c e with q|⟨_,q⟩
  .exact I.hok.fresh (by have:=new x c q;omega)
  .exact I.freeC x c q
 .have hp':p∈X.pn++zB\/p=(s.heap.objs.size,lo):=by
   rcases zV6.mp hp with z|z
   .exact .inl z
   .exact .inr (by simpa using z)
  rcases hp' with z|z
  .obtain ⟨e,n,ne,nf,d⟩:=I.pin p z;have lt:(p.1:Nat)<s.heap.objs.size:=zVr e;refine ⟨hk _ _ e,n,?_,λq=>?_,d⟩
   .exact zV1 (zWV lt)
   .rcases zVs.mp (I.stkSub _ q)with r|r
    .exact ne r
    .exact nf r
  .subst z;refine ⟨pushCells_keeps _ _ _ _ (zVh _ (zVq _ hfr)),I.hok.fresh (zVm _),?_,λq=>?_,hlo⟩
   .show s.heap.objs.size≠s.heap.objs.size+1;omega
   .rcases zVs.mp (I.stkSub _ q)with r|r
    .exact absurd I.lt (by rw[<-r];exact zWO _)
    .exact I.nofs (zVm _) r
end
def clr (own:Yj) (σ:St):St:=own.foldl (λσ i=>σ.set i none) σ
theorem zBG:∀ (own:Yj) (σ:St),(clr own σ).length=σ.length
 |[],_=>rfl
 |i::r,σ=>by
  show (clr r (σ.set i none)).length=_;rw[zBG r,List.length_set]
theorem zCe:∀ (own:Yj) (σ:St) (j:Nat) (v:V),(clr own σ)[j]?=some (some v)->σ[j]?=some (some v)/\j∉own
 |[],_,_,_,h=>⟨h,λz=>nomatch z⟩
 |i::r,σ,j,v,h=>by
  have h':(clr r (σ.set i none))[j]?=some (some v):=h;obtain ⟨a,b⟩:=zCe r _ j v h';rw[zXF]at a;split at a
  .split at a <;> cases a
  .rename_i hne;exact ⟨a,λz=>(zVs.mp z).elim (λe=>hne e.symm) b⟩
def Ext (a b:St):Prop:=b.length=a.length /\ ∀ (i:Nat) v,a[i]?=some (some v)->b[i]?=some (some v)
theorem Ext.refl (a:St):Ext a a:=⟨rfl,λ_ _ h=>h⟩
theorem Ext.set (e:Ext (clr own σ) a) (h:i∈own):Ext (clr own σ) (a.set i (some v)):=by
 refine ⟨by rw[List.length_set];exact e.1,λj u q=>?_⟩;rw[zXF];split
 .rename_i z;exact absurd (z▸h) (zCe own σ j u q).2
 .exact e.2 j u q
def zFi (X:Cx) (ifs:Yi) (t:TT):Prop :=
 ∀ (zB:Yd) (s:Yl) (σ:St) (H:Hp) (Q:Bool->Hp->Prop),Inv X zB σ H s->t σ H Q ->
  wpAny (model X.prog X.w) X.A (forIn ifs true λc r=>if r=true then do let ok <- isTrue c X.env (eval c X.env);pure (ForInStep.yield ok) else pure (ForInStep.yield r)) (TP X zB σ Q) X.xe s
def zVD:TT:=λ_ H Q=>Q true H
theorem zO6:zFi X [] zVD:=λ_ _ _ H _ I h=>wpAny_tests_nil ⟨H,I,h⟩
theorem zOj (h:PT X c t):zFi X [c] t:=λzB s σ H Q I hq=>wpAny_tests_one (h zB s σ H Q I hq)
section
theorem zIc (I:Nat->Shared->Prop)
  (turn:∀ n s,I n s->wpAny (model prog w) A (pyNext it) (λr s₁=>match r with
   |none=>R (.ok .next) s₁
   |some v=>wpAny (model prog w) A (letOwnedTupleGo target it v) (λ_ s₁'=>wpAny (model prog w) A (assign target env v) (λ_ s₂=>
     wpAny (model prog w) A (forIn ifs true λc r=>if r=true then do let ok <- isTrue c env (eval c env);pure (ForInStep.yield ok) else pure (ForInStep.yield r)) (λok s₃=>
      if ok=true then wpAny (model prog w) A (eval elt env) (λx s₄=>
       wpAny (model prog w) A (call (.builtin "list.append") [acc,x]) (λ_ s₅=>∃ m,m<n/\I m s₅) (λ_ _=>False) s₄) (λ_ _=>False) s₃
      else ∃ m,m<n/\I m s₃) (λ_ _=>False) s₂) (λ_ _=>False) s₁') (λ_ _=>False) s₁) (λ_ _=>False) s)
  (n:Nat) (h:I n s) :
  codeAny (model prog w) A (.compLoop (.ListComp elt [⟨target,iter,ifs,0⟩] scope pos) 0 it acc env) R s:=by
 refine codeAny_loop rfl I (λn s hI=>?_) n h;show wpAny _ A ((compTurn (.ListComp elt [⟨target,iter,ifs,0⟩] scope pos) 0 it acc env).onRaise (λx=>do noteFrame x env;theTreesLotGoes x)) _ _ s;refine wpAny_noted ?_;rw[compTurn_list];refine zVg (zWe (zVg (zWC (turn n s hI) (λr s₁ h₁=>?_) λ_ _ h'=>h'.elim)));cases r with
 |none=>exact zVi h₁
 |some v=>
  refine zVg (zWC h₁ (λ_ s₁' h₁'=>?_) λ_ _ h'=>h'.elim);refine zVg (zWC h₁' (λ_ s₂ h₂=>zVg (zWC h₂ (λok s₃ h₃=>?_) λ_ _ h'=>h'.elim)) λ_ _ h'=>h'.elim);cases ok with
  |false=>exact zVi ⟨rfl,h₃⟩
  |true=>
   exact zVg (zVg (zWC h₃ (λx s₄ h₄=>zVg (zWC h₄ (λ_ s₅ h₅=>zVi (zVi ⟨rfl,h₅⟩)) λ_ _ h'=>h'.elim)) λ_ _ h'=>h'.elim))
end
def zPZ (own:Yj) (wi:TI) (g:TG) (tc:TT) (te:TE):TE:=λσ H Q=>wi σ H λJ H1=>∃ W:Nat->Nat->List V->Hp->Prop,(∃ m,W 0 m [] H1) /\ ∀ i m ys H,W i m ys H ->
 (J.stop i H/\ys.length<=sizeLine /\ ∀ D,H D=none->Q (.ref D) (upd H D (.lst ys))) \/
 (J.go i H /\ ∀ x H',J.yld i H x H'->g x (clr own σ) H' λσ2 H2=>Ext (clr own σ) σ2/\tc σ2 H2 λb H3=>
  if b=true then te σ2 H3 λv H4=>ys.length<sizeLine /\ ∃ m',m'<m/\W (i+1) m' (ys++[v]) H4 else ∃ m',m'<m/\W (i+1) m' ys H3)
abbrev zd (its:List Value) (n:Nat):Obj:={ cls:=.type "list", data:=.seq its.toArray n }
section
theorem Inv.repin (I:Inv X (pl++[(D,o)]) σ H s) (hpl:∀ p∈X.pn++pl,p.1≠D) (hs:Heap.SameBut D s.heap h') (hD:X.s₀.heap.objs.size<=D) (hc:∀ x c,X.env.cells.lookup x=some c->c≠D)
  (e:h'.get? D=some o') (hn:∀ v,o'.data≠.cell v):Inv X (pl++[(D,o')]) σ H { s with heap:=h' }:=by
 obtain ⟨e0,n0,ne0,nf0,d0⟩:=I.pin (D,o) (by simp);have I1:Inv X pl σ H s:=I.pins_of λp hp=>I.pin p (by simp[hp]);have I2:Inv X pl σ H { s with heap:=h' }:=I1.turned (t':=s.toks) (it:=D) (λb u hb q=>hs.extBut b u hb q) n0 ne0 (.inr hD) hc hpl;exact I2.pins_of λp hp=>by
  rcases zV6.mp hp with z|z
  .exact I2.pin p (zV0 _ z)
  .have:p=(D,o'):=by simpa using z
   subst this;exact ⟨e,n0,ne0,nf0,hn⟩
end
section
variable {pos:Pos}
 {own:Yj} {g:TG} {tc:TT} {te:TE} {E:Yc}
structure CompIn (X:Cx) (scope:Y0) (own:Yj):Prop where
 sc:CompScope X scope
 nm:∀ (i:Nat) x,X.N[i]?=some x->i∈own\/scope.names.lookup x=none\/scope.names.lookup x=some .free
theorem zB6 (x:Str) (h:scope.names.lookup x=none):(relabel scope env).names.lookup x=none:=by
 cases q:(relabel scope env).names.lookup x with
 |none=>rfl
 |some k=>
  rcases zAz (scope:=scope) x q with z|z
  .rw[h]at z;cases z
  .rw[h]at z;cases z.1
theorem zGq (C:CompIn X scope own) (hcalm:X.calm=true) (I:Inv X zB σ H s) (T:Turn X.prog X.w X.K tg J fp it tn) (st:tn 0 s.heap) (hf:∀ b∈fp,zB5 X zB H b)
  (c1:∀ x c,cl.lookup x=some c->X.env.cells.lookup x=some c) (c2:∀ y∈scope.names,y.2=.free->(cl.lookup y.1).isSome=true)
  (hg:PG (zJ X zB scope cl s H fp) tg g) (hi:zFi (zJ X zB scope cl s H fp) ifs tc) (he:PE (zJ X zB scope cl s H fp) elt te)
  {RR:Value->Addr->Result->Shared->Prop} {QQ:List V->Hp->Prop} {W:Nat->Nat->List V->Hp->Prop} {m0:Nat} (w0:W 0 m0 [] H)
  (turn:∀ i m ys H,W i m ys H->(J.stop i H/\ys.length<=sizeLine/\QQ ys H) \/
   (J.go i H /\ ∀ x H',J.yld i H x H'->g x (clr own σ) H' λσ2 H2=>Ext (clr own σ) σ2/\tc σ2 H2 λb H3=>
    if b=true then te σ2 H3 λv H4=>ys.length<sizeLine /\ ∃ m',m'<m/\W (i+1) m' (ys++[v]) H4 else ∃ m',m'<m/\W (i+1) m' ys H3))
  (fin:∀ σc H' s' its n ys,Inv (zJ X zB scope cl s H fp) [(s.heap.objs.size,zd its n)] σc H' s'->zb ys its->ys.length<=sizeLine->QQ ys H'->RR (.ref s.heap.objs.size) (s.heap.objs.size+1) (.ok .next) s') :
  wpAny (model X.prog X.w) X.A (newList []) (λacc s₃=>wpAny (model X.prog X.w) X.A (newFunctionEnv scope X.env.globals cl [] X.env.qual none .none (some X.env)) (λcenv s₄=>
   codeAny (model X.prog X.w) X.A (.compStart (.ListComp elt [⟨tg,iter,ifs,0⟩] scope pos) 0 (.ref it) acc { cenv with scope:=relabel scope X.env }) (RR acc cenv.locals) s₄) E s₃) E s:=by
 have ob:∀ b:Nat,b∈fp->b<s.heap.objs.size:=λb hb=>let ⟨_,e,_⟩:=T.obj 0 _ st b hb;zVr e;refine zV9 (zCV ?_);have sz1:(s.heap.push (zd [] 0)).objs.size=s.heap.objs.size+1:=zWM ..;have I4:=zEr (X:=X) (zB:=zB) (σ:=σ) (σc:=clr own σ) (H:=H) (s:=s) (scope:=scope) (cl:=cl) (fp:=fp) C.sc I hf ob c1 c2 (zBG own σ) (λi x v h1 h2 h3=>by
  obtain ⟨a,b⟩:=zCe own σ i v h2;rcases C.nm i x h1 with z|z|z
  .exact absurd z b
  .exact absurd (zB6 x z) h3
  .exact ⟨z,a⟩) (zd [] 0) (by intro v z;cases z) rfl rfl
 have st4:tn 0 (pushCells ((s.heap.push (zd [] 0)).push { cls:=.type "dict", data:=.dict #[] }) scope.names):=T.keep 0 _ _ st λb _ o e=>pushCells_keeps _ _ b o (zVh _ (zVh _ e));unfold newEnv;rw[sz1];have hDfp:s.heap.objs.size∉fp:=λz=>zWO _ (ob _ z);have hcD:∀ x c,(zJ X zB scope cl s H fp).env.cells.lookup x=some c->c≠s.heap.objs.size:=λx c e z=>by
  obtain ⟨v,o,ho,hd⟩:=I4.cell x c e;obtain ⟨q,_⟩:=I4.pin (s.heap.objs.size,zd [] 0) (by simp);rw[z,q]at ho;cases ho;cases hd
 have fpk:∀ {H':Hp} {pl:Yd},(∀ b∈fp,H' b=none)->(∀ p∈pl,p.1=s.heap.objs.size) -> ∀ b∈fp,zB5 (zJ X zB scope cl s H fp) pl H' b:=λ{H' pl} hn hp b hb=>
  ⟨hn b hb,(I4.ok.exf b hb).1,I4.ok.exfs b hb,.inl hb,(I4.ok.exf b hb).2,λp hq=>by
   rcases zV6.mp hq with z|z
   .exact (hf b hb).2.2.2.2.2 p z
   .intro e;have e2:=hp p z;rw[e]at e2;exact hDfp (e2▸hb)⟩
 have loop:codeAny (model X.prog X.w) X.A (.compLoop (.ListComp elt [⟨tg,iter,ifs,0⟩] scope pos) 0 (.ref it) (.ref s.heap.objs.size) (zJ X zB scope cl s H fp).env) (RR (.ref s.heap.objs.size) (s.heap.objs.size+1))
   { s with heap:=pushCells ((s.heap.push (zd [] 0)).push { cls:=.type "dict", data:=.dict #[] }) scope.names }:=by
  refine zIc (λn s'=>∃ i H' ys its k,Inv (zJ X zB scope cl s H fp) [(s.heap.objs.size,zd its k)] (clr own σ) H' s'/\zb ys its/\tn i s'.heap/\(∀ b∈fp,H' b=none)/\W i n ys H') ?_ m0
   ⟨0,H,[],[],0,I4,.nil,st4,λb hb=>(hf b hb).1,w0⟩
  rintro n s5 ⟨i,H5,ys,its,k,I5,r5,st5,f5,w5⟩;have pinD:∀ p∈[(s.heap.objs.size,zd its k)],p.1=s.heap.objs.size:=λp hp=>by
   have:p=(s.heap.objs.size,zd its k):=by simpa using hp
   rw[this]
  rcases turn i n ys H5 w5 with ⟨stop,hz,qq⟩|⟨go,step⟩
  .refine thn (T.done (zJ X zB scope cl s H fp) rfl rfl rfl hcalm i _ s5 _ H5 _ I5 (fpk f5 pinD) st5 stop) λr s6 ⟨hr,I6⟩=>?_;subst hr;exact fin _ H5 s6 its k ys I6 r5 hz qq
  .refine thn (T.item (zJ X zB scope cl s H fp) rfl rfl rfl hcalm i _ s5 _ H5 _ I5 (fpk f5 pinD) st5 go) λr s6 ⟨u,hr,h6⟩=>?_;subst hr;refine thn h6 λ_ s7 ⟨x,H7,I7,r7,y7,st7,f7⟩=>?_;have I7':=I7.pinned (fpk f7 pinD) (T.obj _ _ st7);refine thn (hg _ s7 _ H7 x u _ I7' r7 (step x H7 y7)) λ_ s8 ⟨σ8,H8,I8,x8,q8⟩=>?_;refine thn (hi _ s8 σ8 H8 _ I8 q8) λok s9 ⟨H9,I9,q9⟩=>?_;have back:∀ {s':Yl} {Hx:Hp},Inv (zJ X zB scope cl s H fp) ([(s.heap.objs.size,zd its k)]++zCq fp s7.heap) σ8 Hx s'->tn (i+1) s'.heap /\ ∀ b∈fp,Hx b=none:=λ{s' Hx} Ix=>
    ⟨T.keep _ _ _ st7 λb hb o e=>(Ix.pin (b,o) (zV0 _ (zV0 _ (zAI hb e)))).1,λb hb=>by
     obtain ⟨o,e,d⟩:=T.obj _ _ st7 b hb;exact (Ix.pin (b,o) (zV0 _ (zV0 _ (zAI hb e)))).2.1⟩
   cases ok with
   |false=>
    obtain ⟨m',hm,w'⟩:=q9;obtain ⟨b1,b2⟩:=back I9;exact ⟨m',hm,i+1,H9,ys,its,k,(I9.weak (by rw[x8.1]) x8.2).unpinned,r5,b1,b2,w'⟩
   |true=>
    refine thn (he _ s9 σ8 H9 _ I9 q9) λv s10 ⟨y,H10,I10,r10,hlt,m',hm,w'⟩=>?_;obtain ⟨b1,b2⟩:=back I10;have J10:=(I10.weak (by rw[x8.1]) x8.2).unpinned;obtain ⟨e10,n10,ne10,nf10,d10⟩:=J10.pin (s.heap.objs.size,zd its k) (by simp);have hlen:its.toArray.size<=sizeLine:=by
     have:=r5.length;rw[zVo,<-this];exact Nat.le_of_lt hlt
    refine wpAny_list_append_plain (hsz:=hlen) (show s10.heap.PlainList s.heap.objs.size its.toArray from ⟨k,e10⟩) λh' hl' hs'=>?_;obtain ⟨k',e'⟩:=hl';have e'':h'.get? s.heap.objs.size=some (zd (its++[v]) k'):=by rw[e'];simp[zd]
    refine ⟨m',hm,i+1,H10,ys++[y],its++[v],k',?_,r5.append (.cons r10 .nil),T.keep _ _ _ b1 λb hb o e=>hs'.extBut b o (λz=>hDfp (z▸hb)) e,b2,w'⟩;refine Inv.repin (pl:=[]) J10 (λp hp=>?_) hs' (zVm _) hcD e'' (by intro v z;cases z);rw[zWQ]at hp;have hp':p∈X.pn++zB:=hp;exact zV1 (zVr (I.pin p hp').1)
 exact codeAny_compStart_list loop (T.self _ 0 _ _ _ st4 loop)
end
section
theorem zGd (I:Inv X zB σ H s) (hf:∀ b∈fp,zB5 X zB H b)
  (Ic:Inv (zJ X zB scope cl s H fp) [(s.heap.objs.size,zd its n)] σc H' s') (rv:zb ys its) (hz:ys.length<=sizeLine) (hs:Heap.SameBut (s.heap.objs.size+1) s'.heap h') :
  Inv X zB σ (upd H' s.heap.objs.size (.lst ys)) { s' with heap:=h' }/\H' s.heap.objs.size=none:=by
 obtain ⟨eD,nD,_⟩:=Ic.pin (s.heap.objs.size,zd its n) (by simp);have nC:H' (s.heap.objs.size+1)=none:=Ic.free;have eD':h'.get? s.heap.objs.size=some (zd its n):=hs.extBut _ _ (zV1 (zWd _)) eD;have lt1:∀ {b:Yt} {o:Obj},s.heap.get? b=some o->b≠s.heap.objs.size+1/\b≠s.heap.objs.size:=λe=>⟨zV1 (zWV (zVr e)),zV1 (zVr e)⟩;have tr:∀ b u,H' b=some u->b≠s.heap.objs.size+1/\b≠s.heap.objs.size:=λb u e=>⟨λz=>(by rw[z,nC]at e;cases e),λz=>(by rw[z,nD]at e;cases e)⟩;refine ⟨?_,nD⟩;have B:=Ic.base;have un:Un (frs X.stack) fp H (upd H' s.heap.objs.size (.lst ys)) s.heap h':=by
  refine ⟨λb o e q hb hx=>hs.extBut b o (lt1 e).1 (B.keep b o e q hb hx),λb o e q hb hx=>?_,λb o e q hx=>?_,λb o e hx=>?_,λb xs e=>?_,λb o xs e=>?_,λb ps e=>?_⟩
  .obtain ⟨sl,e1⟩:=B.slot b o e q hb hx;exact ⟨sl,hs.extBut b _ (lt1 e).1 e1⟩
  .rw[zV (lt1 e).2];exact B.free b o e q hx
  .obtain ⟨o',e1⟩:=B.there b o e hx;exact ⟨o',hs.extBut b _ (lt1 e).1 e1⟩
  .have q:=B.tups b xs e;rw[zV (tr b _ q).2];exact q
  .have q:=B.frzs b o xs e;rw[zV (tr b _ q).2];exact q
  .obtain ⟨more,q⟩:=B.tbls b ps e;exact ⟨more,by rw[zV (tr b _ q).2];exact q⟩
 have hok:HOk X.prog X.w (upd H' s.heap.objs.size (.lst ys)) h':=λb u e=>by
  by_cases hb:b=s.heap.objs.size
  .subst hb;rw[zt]at e;cases e;exact ⟨hz,its,n,rv,eD'⟩
  .rw[zV hb]at e;refine (Ic.hok b u e).stay (λc v hc q=>hs.extBut c v ?_ q) (λc q=>by rw[zV (tr c _ q).2];exact q) λc xs q=>by rw[zV (tr c _ q).2];exact q
   rcases hc with z|z
   .rw[z];exact (tr b u e).1
   .exact (tr c _ z).1
 exact I.call' (s':={ s' with heap:=h' }) (ch:=fp) Ic.os un hok Ic.bare λb hb=>⟨(hf b hb).2.2.2.1,(hf b hb).2.1,(hf b hb).2.2.2.2.1,(hf b hb).2.2.2.2.2⟩
end
section
structure CompParts (X:Cx) (scope:Y0) (tg:Expr) (ifs:Yi) (elt:Expr) (g:TG) (tc:TT) (te:TE):Prop where
 g:∀ zB cl s H fp,PG (zJ X zB scope cl s H fp) tg g
 c:∀ zB cl s H fp,zFi (zJ X zB scope cl s H fp) ifs tc
 e:∀ zB cl s H fp,PE (zJ X zB scope cl s H fp) elt te
theorem CompScope.closure (S:CompScope X scope) (I:Inv X zB σ H s) :
  ∃ cl,closureFor scope X.env=pure cl/\(∀ x c,cl.lookup x=some c->X.env.cells.lookup x=some c) /\ ∀ y∈scope.names,y.2=.free->(cl.lookup y.1).isSome=true :=
 zG2 λy hy hk=>I.ok.has y.1 (S.free y hy hk)
theorem zRC (C:CompIn X scope own) (hcalm:X.calm=true) (hi:PI X tg iter wi) (p:CompParts X scope tg ifs elt g tc te) (hs:∀ x,foldedSetIterable iter X.env x=pure x:=by intro _;rfl) :
  PE X (.ListComp elt [⟨tg,iter,ifs,0⟩] scope pos) (zPZ own wi g tc te):=by
 intro zB s σ H Q I h;obtain ⟨cl,hcl,c1,c2⟩:=C.sc.closure I;rw[eval_ListComp];refine zXa (use:=none) rfl hs hcl C.sc.kind C.sc.names (thn (hi zB s σ H _ I h) λv s1 h1=>thn h1 λitv s2 h2=>?_);obtain ⟨it,fp,tn,J,H2,e,I2,T,st2,f2,W,⟨m0,w0⟩,turn⟩:=h2;subst e;refine zGq C hcalm I2 T st2 f2 c1 c2 (p.g _ _ _ _ _) (p.c _ _ _ _ _) (p.e _ _ _ _ _) (RR:=λacc C r s'=>compPost (model X.prog X.w) X.A X.xe none (EP X zB σ Q) acc C r s') (QQ:=λys H=>∀ D,H D=none->Q (.ref D) (upd H D (.lst ys))) w0 turn ?_;intro σc H' s' its n ys Ic rv hz qq;obtain ⟨m,hn,_⟩:=Ic.loc;refine ⟨m,hn,λh' hs'=>?_⟩;obtain ⟨J',nD⟩:=zGd I2 f2 Ic rv hz hs';exact ⟨.ref s2.heap.objs.size,_,J',rfl,qq _ nD⟩
theorem zLa (hN:X.N.Nodup) (hi':X.N[i]?=some x) (hx:Loc X.env.scope x) (hfn:X.fn x=true\/X.env.scope.names.lookup x=some .local)
  (C:CompIn X scope own) (hcalm:X.calm=true) (hi:PI X tg iter wi) (p:CompParts X scope tg ifs elt g tc te)
  (hsw:swapsWith (.ListComp elt [⟨tg,iter,ifs,0⟩] scope pos) (some (.Name x pos')) pos''.line X.env=pure true) (hs:∀ x,foldedSetIterable iter X.env x=pure x:=by intro _;rfl) :
  PS X (.Assign [.Name x pos'] (.ListComp elt [⟨tg,iter,ifs,0⟩] scope pos) pos'') (zOS (zPZ own wi g tc te) (zBX i)):=by
 intro zB s σ H D I h;obtain ⟨cl,hcl,c1,c2⟩:=C.sc.closure I;rw[exec_Assign_Name_used _ _ _ _ hsw];refine zVg (zWe (zVg ?_))
 refine zVg (zWC (zXa (use:=some (assign (.Name x pos') X.env)) (Q:=λ_ s'=>SP X zB D .next s') rfl hs hcl C.sc.kind C.sc.names
  (thn (hi zB s σ H _ I h) λv s1 h1=>thn h1 λitv s2 h2=>?_)) (λ_ s' hq=>zVi (zVi hq)) λ_ _ e=>e)
 obtain ⟨it,fp,tn,J,H2,e,I2,T,st2,f2,W,⟨m0,w0⟩,turn⟩:=h2;subst e
 refine zGq C hcalm I2 T st2 f2 c1 c2 (p.g _ _ _ _ _) (p.c _ _ _ _ _) (p.e _ _ _ _ _) (RR:=λacc C r s'=>compPost (model X.prog X.w) X.A X.xe (some (assign (.Name x pos') X.env)) (λ_ s'=>SP X zB D .next s') acc C r s')
  (QQ:=λys H=>∀ E,H E=none->zBX i (.ref E) σ (upd H E (.lst ys)) D.nx) w0 turn ?_
 intro σc H' s' its n ys Ic rv hz qq;obtain ⟨m,hn,_⟩:=Ic.loc;obtain ⟨J',nD⟩:=zGd (h':=s'.heap) I2 f2 Ic rv hz (.refl ..);obtain ⟨oC,es,ep,hoC,hdC,r1,r2⟩:=id hn;have nC:upd H' s2.heap.objs.size (.lst ys) (s2.heap.objs.size+1)=none:=by rw[zV (zXB (zWd _))];exact Ic.free
 have K':Inv X (zB++[(s2.heap.objs.size+1,oC)]) σ (upd H' s2.heap.objs.size (.lst ys)) s':=J'.pins_of λq hq=>by
  rcases zV6.mp hq with z|z
  .exact J'.pin q (zV0 _ z)
  .have e:q=(s2.heap.objs.size+1,oC):=by simpa using z
   subst e;refine ⟨hoC,nC,zXB (zWV I2.lt),I2.nofs (zXO _),λv z=>?_⟩;have z':oC.data=.cell v:=z;rw[hdC]at z';cases z'
 refine thn (zIO hN hi' hx hfn _ s' σ _ (.ref s2.heap.objs.size) (.ref s2.heap.objs.size) _ K' rfl (qq _ nD)) λ_ s'' ⟨σ'',H'',I'',q''⟩=>?_;obtain ⟨eC,_⟩:=I''.pin (s2.heap.objs.size+1,oC) (by simp);refine ⟨m,⟨oC,es,ep,eC,hdC,r1,r2⟩,λh' hs'=>⟨σ'',H'',?_,q''⟩⟩;have I3:Inv X zB σ'' H'' s'':=I''.unpinned;obtain ⟨_,nC'',neC,_,_⟩:=I''.pin (s2.heap.objs.size+1,oC) (by simp);refine I3.turned (t':=s''.toks) (it:=s2.heap.objs.size+1) (λb o hb e=>hs'.extBut b o hb e) nC'' neC (.inr (zV7 I2.sz (zXO _))) (λx c e z=>?_) (λq hq z=>?_)
 .obtain ⟨v,o,ho,hd⟩:=I3.cell x c e;rw[z,eC]at ho;cases ho;rw[hdC]at hd;cases hd
 .obtain ⟨e,_⟩:=I2.pin q hq;exact zV1 (zWV (zVr e)) z
end
abbrev zBL (elt t1 i1:Expr) (f1:Yi) (t2 i2:Expr) (f2:Yi) (scope:Y0) (pos:Pos):Expr:=.ListComp elt [⟨t1,i1,f1,0⟩,⟨t2,i2,f2,0⟩] scope pos
theorem zHM (elt t1 i1:Expr) (f1:Yi) (t2 i2:Expr) (f2:Yi) (scope:Y0) (pos:Pos) (it acc:Yu) (env:Env) :
  compTurn (zBL elt t1 i1 f1 t2 i2 f2 scope pos) 0 it acc env=(do
   standAt i1.pos;match <- pyNext it with
   |none=>pure (.done .next)
   |some v=>
    letOwnedTupleGo t1 it v;assign t1 env v;let mut ok:=true
    for c in f1 do
     if ok then ok <- isTrue c env (eval c env)
    if ok then
     let x <- eval i2 env;standAt i2.pos;let x <- foldedSetIterable i2 env x;let _ <- runOwn (.compStart (zBL elt t1 i1 f1 t2 i2 f2 scope pos) 1 (<- holding [x] (pyIter x)) acc env) env
    again (.compLoop (zBL elt t1 i1 f1 t2 i2 f2 scope pos) 0 it acc env)):=by rfl
theorem zI7 (elt t1 i1:Expr) (f1:Yi) (t2 i2:Expr) (f2:Yi) (scope:Y0) (pos:Pos) (it acc:Yu) (env:Env) :
  compTurn (zBL elt t1 i1 f1 t2 i2 f2 scope pos) 1 it acc env=(do
   standAt i2.pos;match <- pyNext it with
   |none=>pure (.done .next)
   |some v=>
    letOwnedTupleGo t2 it v;assign t2 env v;let mut ok:=true
    for c in f2 do
     if ok then ok <- isTrue c env (eval c env)
    if ok then
     (do let _ <- call (.builtin "list.append") [acc,<-eval elt env])
    again (.compLoop (zBL elt t1 i1 f1 t2 i2 f2 scope pos) 1 it acc env)):=by rfl
section
theorem zIg (I:Nat->Shared->Prop)
  (turn:∀ n s,I n s->wpAny (model prog w) A (pyNext it) (λr s₁=>match r with
   |none=>R (.ok .next) s₁
   |some v=>wpAny (model prog w) A (letOwnedTupleGo t2 it v) (λ_ s₁'=>wpAny (model prog w) A (assign t2 env v) (λ_ s₂=>
     wpAny (model prog w) A (forIn f2 true λc r=>if r=true then do let ok <- isTrue c env (eval c env);pure (ForInStep.yield ok) else pure (ForInStep.yield r)) (λok s₃=>
      if ok=true then wpAny (model prog w) A (eval elt env) (λx s₄=>
       wpAny (model prog w) A (call (.builtin "list.append") [acc,x]) (λ_ s₅=>∃ m,m<n/\I m s₅) (λ_ _=>False) s₄) (λ_ _=>False) s₃
      else ∃ m,m<n/\I m s₃) (λ_ _=>False) s₂) (λ_ _=>False) s₁') (λ_ _=>False) s₁) (λ_ _=>False) s)
  (n:Nat) (h:I n s) :
  codeAny (model prog w) A (.compLoop (zBL elt t1 i1 f1 t2 i2 f2 scope pos) 1 it acc env) R s:=by
 refine codeAny_loop rfl I (λn s hI=>?_) n h;show wpAny _ A ((compTurn (zBL elt t1 i1 f1 t2 i2 f2 scope pos) 1 it acc env).onRaise (λx=>do noteFrame x env;theTreesLotGoes x)) _ _ s;refine wpAny_noted ?_;rw[zI7];refine zVg (zWe (zVg (zWC (turn n s hI) (λr s₁ h₁=>?_) λ_ _ h'=>h'.elim)));cases r with
 |none=>exact zVi h₁
 |some v=>
  refine zVg (zWC h₁ (λ_ s₁' h₁'=>?_) λ_ _ h'=>h'.elim);refine zVg (zWC h₁' (λ_ s₂ h₂=>zVg (zWC h₂ (λok s₃ h₃=>?_) λ_ _ h'=>h'.elim)) λ_ _ h'=>h'.elim);cases ok with
  |false=>exact zVi ⟨rfl,h₃⟩
  |true=>
   exact zVg (zVg (zWC h₃ (λx s₄ h₄=>zVg (zWC h₄ (λ_ s₅ h₅=>zVi (zVi ⟨rfl,h₅⟩)) λ_ _ h'=>h'.elim)) λ_ _ h'=>h'.elim))
theorem zHE
  (h0:codeAny (model prog w) A (.compLoop (zBL elt t1 i1 f1 t2 i2 f2 scope pos) 1 it acc env) R s)
  (h:wpAny (model prog w) A (pyIter it) (λit' s'=>codeAny (model prog w) A (.compLoop (zBL elt t1 i1 f1 t2 i2 f2 scope pos) 1 it' acc env) R s')
   (notedBy (model prog w) A env λx s'=>R (.error x) s') s) :
  codeAny (model prog w) A (.compStart (zBL elt t1 i1 f1 t2 i2 f2 scope pos) 1 it acc env) R s:=by
 refine codeAny_of_tree ?_;show wpAny _ _ ((compStart (zBL elt t1 i1 f1 t2 i2 f2 scope pos) 1 it acc env).onRaise (λx=>do noteFrame x env;standAt theWindowsPlace)) _ _ s;refine wpAny_notedAt ?_;unfold compStart;refine zVg (wpAny_askSetting (wpAny_ite ?_));split
 .first
   |exact zVg (zVi (zVi (And.intro rfl h0)))
   |exact zVi (And.intro rfl h0)
 .first
   |exact zVg (zW3 (zVg (zWe (zVg (zWC h (λit' s' h'=>zVi (And.intro rfl h')) λ_ _ x=>x)))))
   | (refine zVg (zW3 ?_);show wpAny _ _ (standAt i2.pos >>= _) _ _ s;exact zVg (zWe (zVg (zWC h (λit' s' h'=>zVi (And.intro rfl h')) λ_ _ x=>x))))
theorem zG8 (hs2:∀ x,foldedSetIterable i2 env x=pure x) (I:Nat->Shared->Prop)
  (turn:∀ n s,I n s->wpAny (model prog w) A (pyNext it) (λr s₁=>match r with
   |none=>R (.ok .next) s₁
   |some v=>wpAny (model prog w) A (letOwnedTupleGo t1 it v) (λ_ s₁'=>wpAny (model prog w) A (assign t1 env v) (λ_ s₂=>
     wpAny (model prog w) A (forIn f1 true λc r=>if r=true then do let ok <- isTrue c env (eval c env);pure (ForInStep.yield ok) else pure (ForInStep.yield r)) (λok s₃=>
      if ok=true then wpAny (model prog w) A (eval i2 env) (λx s₄=>wpAny (model prog w) A (pyIter x) (λit2 s₅=>
       codeAny (model prog w) A (.compStart (zBL elt t1 i1 f1 t2 i2 f2 scope pos) 1 it2 acc env) (λr s₆=>r=.ok .next /\ ∃ m,m<n/\I m s₆) s₅) (λ_ _=>False) s₄) (λ_ _=>False) s₃
      else ∃ m,m<n/\I m s₃) (λ_ _=>False) s₂) (λ_ _=>False) s₁') (λ_ _=>False) s₁) (λ_ _=>False) s)
  (n:Nat) (h:I n s) :
  codeAny (model prog w) A (.compLoop (zBL elt t1 i1 f1 t2 i2 f2 scope pos) 0 it acc env) R s:=by
 refine codeAny_loop rfl I (λn s hI=>?_) n h;show wpAny _ A ((compTurn (zBL elt t1 i1 f1 t2 i2 f2 scope pos) 0 it acc env).onRaise (λx=>do noteFrame x env;theTreesLotGoes x)) _ _ s;refine wpAny_noted ?_;rw[zHM];refine zVg (zWe (zVg (zWC (turn n s hI) (λr s₁ h₁=>?_) λ_ _ h'=>h'.elim)));cases r with
 |none=>exact zVi h₁
 |some v=>
  refine zVg (zWC h₁ (λ_ s₁' h₁'=>?_) λ_ _ h'=>h'.elim);refine zVg (zWC h₁' (λ_ s₂ h₂=>zVg (zWC h₂ (λok s₃ h₃=>?_) λ_ _ h'=>h'.elim)) λ_ _ h'=>h'.elim);cases ok with
  |false=>exact zVi ⟨rfl,h₃⟩
  |true=>
   refine zVg (zWC h₃ (λx s₄ h₄=>zVg (zWe (zVg (wpAny_of_eq (hs2 x) (zVg (zWZ (zWC h₄ (λit2 s₅ h₅=>?_) λ_ _ h'=>h'.elim))))))) λ_ _ h'=>h'.elim);refine zVg (wpAny_runOwn (codeAny_mono h₅ λr s₆ hr=>?_));obtain ⟨rfl,hr⟩:=hr;exact zVi ⟨rfl,hr⟩
end
def tIn (own2:Yj) (wi2:TI) (g2:TG) (tc2:TT) (te:TE) (σ2:St) (H3:Hp) (ys:List V) (QQ:List V->Hp->Prop):Prop :=
 wi2 σ2 H3 λJ2 H4=>∃ W2:Nat->Nat->List V->Hp->Prop,(∃ m,W2 0 m ys H4) /\ ∀ j m zs H,W2 j m zs H ->
  (J2.stop j H/\QQ zs H) \/
  (J2.go j H /\ ∀ x H',J2.yld j H x H'->g2 x (clr own2 σ2) H' λσ3 H5=>Ext (clr own2 σ2) σ3/\tc2 σ3 H5 λb H6=>
   if b=true then te σ3 H6 λv H7=>zs.length<sizeLine /\ ∃ m',m'<m/\W2 (j+1) m' (zs++[v]) H7 else ∃ m',m'<m/\W2 (j+1) m' zs H6)
section
variable {D:Yt}
 {own2:Yj} {wi2:TI} {g2:TG} {tc2:TT} {te:TE} {R:Yx}
theorem zPN (hxe:C.xe=λ_ _=>False) (hcalm:C.calm=true) (hi:PI C t2 i2 wi2) (hg:PG C t2 g2) (hc:zFi C f2 tc2) (he:PE C elt te) (hD:C.s₀.heap.objs.size<=D)
  (hcD:∀ x c,C.env.cells.lookup x=some c->c≠D) (hpl:∀ p∈C.pn++pl,p.1≠D) (I:Inv C (pl++[(D,zd its k)]) σ H s) (rv:zb ys its) (h:tIn own2 wi2 g2 tc2 te σ H ys QQ)
  (fin:∀ s' H' its' k' zs,Inv C (pl++[(D,zd its' k')]) (clr own2 σ) H' s'->zb zs its'->QQ zs H'->R (.ok .next) s') :
  wpAny (model C.prog C.w) C.A (eval i2 C.env) (λx s₄=>wpAny (model C.prog C.w) C.A (pyIter x) (λit2 s₅=>
   codeAny (model C.prog C.w) C.A (.compStart (zBL elt t1 i1 f1 t2 i2 f2 scope pos) 1 it2 (.ref D) C.env) R s₅) (λ_ _=>False) s₄) (λ_ _=>False) s:=by
 have hpi:=hi _ s σ H _ I h;rw[hxe]at hpi;refine thn hpi λv s1 h1=>thn h1 λitv s2 h2=>?_;obtain ⟨it,fp,tn,J,H2,e,I2,T,st2,f2',W,⟨m0,w0⟩,turn⟩:=h2;subst e;have hDfp:D∉fp:=λz=>(f2' D z).2.2.2.2.2 (D,zd its k) (by simp) rfl;have loop:∀ s',(∃ H',Inv C (pl++[(D,zd its k)]) (clr own2 σ) H' s'/\tn 0 s'.heap/\(∀ b∈fp,H' b=none)/\W 0 m0 ys H')->codeAny (model C.prog C.w) C.A (.compLoop (zBL elt t1 i1 f1 t2 i2 f2 scope pos) 1 (.ref it) (.ref D) C.env) R s':=by
  rintro s' ⟨H',I',st',hn',w'⟩;have fpk:∀ {H':Hp} {its:Yf} {k:Nat},(∀ b∈fp,H' b=none) -> ∀ b∈fp,zB5 C (pl++[(D,zd its k)]) H' b:=λ{H' its k} hn b hb=>by
   obtain ⟨_,a2,a3,a4,a5,a6⟩:=f2' b hb;refine ⟨hn b hb,a2,a3,a4,a5,λp hp=>?_⟩;rcases zV6.mp hp with z|z
   .exact a6 p (zWv _ z)
   .rcases zV6.mp z with z|z
    .exact a6 p (zV0 _ (zWv _ z))
    .have:p=(D,zd its k):=by simpa using z
     rw[this];intro q;have q':D=b:=q;exact hDfp (q'▸hb)
  refine zIg (λn s'=>∃ i H' ys its k,Inv C (pl++[(D,zd its k)]) (clr own2 σ) H' s'/\zb ys its/\tn i s'.heap/\(∀ b∈fp,H' b=none)/\W i n ys H') ?_ m0 ⟨0,H',ys,its,k,I',rv,st',hn',w'⟩;rintro n s5 ⟨i,H5,ys,its,k,I5,r5,st5,f5,w5⟩;rcases turn i n ys H5 w5 with ⟨stop,qq⟩|⟨go,step⟩
  .refine thn (T.done C rfl rfl rfl hcalm i _ s5 _ H5 _ I5 (fpk f5) st5 stop) λr s6 ⟨hr,I6⟩=>?_;subst hr;exact fin s6 H5 its k ys I6 r5 qq
  .refine thn (T.item C rfl rfl rfl hcalm i _ s5 _ H5 _ I5 (fpk f5) st5 go) λr s6 ⟨u,hr,h6⟩=>?_;subst hr;refine thn h6 λ_ s7 ⟨x,H7,I7,r7,y7,st7,f7⟩=>?_;have I7':=I7.pinned (fpk f7) (T.obj _ _ st7);have hgg:=hg _ s7 _ H7 x u _ I7' r7 (step x H7 y7);rw[hxe]at hgg;refine thn hgg λ_ s8 ⟨σ8,H8,I8,x8,q8⟩=>?_;have hcc:=hc _ s8 σ8 H8 _ I8 q8;rw[hxe]at hcc;refine thn hcc λok s9 ⟨H9,I9,q9⟩=>?_;have back:∀ {s':Yl} {Hx:Hp},Inv C ((pl++[(D,zd its k)])++zCq fp s7.heap) σ8 Hx s'->tn (i+1) s'.heap /\ ∀ b∈fp,Hx b=none:=λ{s' Hx} Ix=>
    ⟨T.keep _ _ _ st7 λb hb o e=>(Ix.pin (b,o) (zV0 _ (zV0 _ (zAI hb e)))).1,λb hb=>by
     obtain ⟨o,e,d⟩:=T.obj _ _ st7 b hb;exact (Ix.pin (b,o) (zV0 _ (zV0 _ (zAI hb e)))).2.1⟩
   cases ok with
   |false=>
    obtain ⟨m',hm,w'⟩:=q9;obtain ⟨b1,b2⟩:=back I9;exact ⟨m',hm,i+1,H9,ys,its,k,(I9.weak (by rw[x8.1]) x8.2).unpinned,r5,b1,b2,w'⟩
   |true=>
    have hee:=he _ s9 σ8 H9 _ I9 q9;rw[hxe]at hee;refine thn hee λv s10 ⟨y,H10,I10,r10,hlt,m',hm,w'⟩=>?_;obtain ⟨b1,b2⟩:=back I10;have J10:=(I10.weak (by rw[x8.1]) x8.2).unpinned;obtain ⟨e10,n10,ne10,nf10,d10⟩:=J10.pin (D,zd its k) (by simp);have hlen:its.toArray.size<=sizeLine:=by
     have:=r5.length;rw[zVo,<-this];exact Nat.le_of_lt hlt
    refine wpAny_list_append_plain (hsz:=hlen) (show s10.heap.PlainList D its.toArray from ⟨k,e10⟩) λh' hl' hs'=>?_;obtain ⟨k',e'⟩:=hl';have e'':h'.get? D=some (zd (its++[v]) k'):=by rw[e'];simp[zd]
    refine ⟨m',hm,i+1,H10,ys++[y],its++[v],k',?_,r5.append (.cons r10 .nil),T.keep _ _ _ b1 λb hb o e=>hs'.extBut b o (λz=>hDfp (z▸hb)) e,b2,w'⟩;exact Inv.repin (pl:=pl) J10 hpl hs' hD hcD e'' (by intro v z;cases z)
 have l0:=loop s2 ⟨H2,I2.weak (zBG own2 σ) (λi v h=>(zCe own2 σ i v h).1),st2,λb hb=>(f2' b hb).1,w0⟩;exact zHE l0 (T.self _ 0 _ _ _ st2 l0)
end
section
variable {pos:Pos}
 {own own2:Yj} {g g2:TG} {tc tc2:TT} {te:TE} {wi wi2:TI} {E:Yc}
theorem zJu:∀ (own:Yj) (σ:St) (j:Nat),j∉own->(clr own σ)[j]?=σ[j]?
 |[],_,_,_=>rfl
 |i::r,σ,j,h=>by
  show (clr r (σ.set i none))[j]?=_;rw[zJu r _ j (λz=>h (zVt _ z)),zWA (λz=>h (by rw[z];exact zVu))]
theorem zJg (hsub:∀ i∈own2,i∈own) (C:CompIn X scope own) (hcalm:X.calm=true) (I:Inv X zB σ H s) (T:Turn X.prog X.w X.K t1 J fp it tn) (st:tn 0 s.heap) (hf:∀ b∈fp,zB5 X zB H b)
  (c1:∀ x c,cl.lookup x=some c->X.env.cells.lookup x=some c) (c2:∀ y∈scope.names,y.2=.free->(cl.lookup y.1).isSome=true)
  (hg:PG (zJ X zB scope cl s H fp) t1 g) (hi:zFi (zJ X zB scope cl s H fp) f1 tc)
  (hi2:PI (zJ X zB scope cl s H fp) t2 i2 wi2) (hg2:PG (zJ X zB scope cl s H fp) t2 g2) (hc2:zFi (zJ X zB scope cl s H fp) f2 tc2) (he:PE (zJ X zB scope cl s H fp) elt te)
  (hs2:∀ x,foldedSetIterable i2 (zJ X zB scope cl s H fp).env x=pure x)
  {RR:Value->Addr->Result->Shared->Prop} {QQ:List V->Hp->Prop} {W:Nat->Nat->List V->Hp->Prop} {m0:Nat} (w0:W 0 m0 [] H)
  (turn:∀ i m ys H,W i m ys H->(J.stop i H/\ys.length<=sizeLine/\QQ ys H) \/
   (J.go i H /\ ∀ x H',J.yld i H x H'->g x (clr own σ) H' λσ2 H2=>Ext (clr own σ) σ2/\tc σ2 H2 λb H3=>
    if b=true then tIn own2 wi2 g2 tc2 te σ2 H3 ys λzs H4=>∃ m',m'<m/\W (i+1) m' zs H4 else ∃ m',m'<m/\W (i+1) m' ys H3))
  (fin:∀ σc H' s' its n ys,Inv (zJ X zB scope cl s H fp) [(s.heap.objs.size,zd its n)] σc H' s'->zb ys its->ys.length<=sizeLine->QQ ys H'->RR (.ref s.heap.objs.size) (s.heap.objs.size+1) (.ok .next) s') :
  wpAny (model X.prog X.w) X.A (newList []) (λacc s₃=>wpAny (model X.prog X.w) X.A (newFunctionEnv scope X.env.globals cl [] X.env.qual none .none (some X.env)) (λcenv s₄=>
   codeAny (model X.prog X.w) X.A (.compStart (zBL elt t1 i1 f1 t2 i2 f2 scope pos) 0 (.ref it) acc { cenv with scope:=relabel scope X.env }) (RR acc cenv.locals) s₄) E s₃) E s:=by
 have ob:∀ b:Nat,b∈fp->b<s.heap.objs.size:=λb hb=>let ⟨_,e,_⟩:=T.obj 0 _ st b hb;zVr e;refine zV9 (zCV ?_);have sz1:(s.heap.push (zd [] 0)).objs.size=s.heap.objs.size+1:=zWM ..;have I4:=zEr (X:=X) (zB:=zB) (σ:=σ) (σc:=clr own σ) (H:=H) (s:=s) (scope:=scope) (cl:=cl) (fp:=fp) C.sc I hf ob c1 c2 (zBG own σ) (λi x v h1 h2 h3=>by
  obtain ⟨a,b⟩:=zCe own σ i v h2;rcases C.nm i x h1 with z|z|z
  .exact absurd z b
  .exact absurd (zB6 x z) h3
  .exact ⟨z,a⟩) (zd [] 0) (by intro v z;cases z) rfl rfl
 have st4:tn 0 (pushCells ((s.heap.push (zd [] 0)).push { cls:=.type "dict", data:=.dict #[] }) scope.names):=T.keep 0 _ _ st λb _ o e=>pushCells_keeps _ _ b o (zVh _ (zVh _ e));unfold newEnv;rw[sz1];have hDfp:s.heap.objs.size∉fp:=λz=>zWO _ (ob _ z);have hcD:∀ x c,(zJ X zB scope cl s H fp).env.cells.lookup x=some c->c≠s.heap.objs.size:=λx c e z=>by
  obtain ⟨v,o,ho,hd⟩:=I4.cell x c e;obtain ⟨q,_⟩:=I4.pin (s.heap.objs.size,zd [] 0) (by simp);rw[z,q]at ho;cases ho;cases hd
 have fpk:∀ {H':Hp} {pl:Yd},(∀ b∈fp,H' b=none)->(∀ p∈pl,p.1=s.heap.objs.size) -> ∀ b∈fp,zB5 (zJ X zB scope cl s H fp) pl H' b:=λ{H' pl} hn hp b hb=>
  ⟨hn b hb,(I4.ok.exf b hb).1,I4.ok.exfs b hb,.inl hb,(I4.ok.exf b hb).2,λp hq=>by
   rcases zV6.mp hq with z|z
   .exact (hf b hb).2.2.2.2.2 p z
   .intro e;have e2:=hp p z;rw[e]at e2;exact hDfp (e2▸hb)⟩
 have loop:codeAny (model X.prog X.w) X.A (.compLoop (zBL elt t1 i1 f1 t2 i2 f2 scope pos) 0 (.ref it) (.ref s.heap.objs.size) (zJ X zB scope cl s H fp).env) (RR (.ref s.heap.objs.size) (s.heap.objs.size+1))
   { s with heap:=pushCells ((s.heap.push (zd [] 0)).push { cls:=.type "dict", data:=.dict #[] }) scope.names }:=by
  refine zG8 hs2 (λn s'=>∃ i H' ys its k,Inv (zJ X zB scope cl s H fp) [(s.heap.objs.size,zd its k)] (clr own σ) H' s'/\zb ys its/\tn i s'.heap/\(∀ b∈fp,H' b=none)/\W i n ys H') ?_ m0
   ⟨0,H,[],[],0,I4,.nil,st4,λb hb=>(hf b hb).1,w0⟩
  rintro n s5 ⟨i,H5,ys,its,k,I5,r5,st5,f5,w5⟩;have pinD:∀ p∈[(s.heap.objs.size,zd its k)],p.1=s.heap.objs.size:=λp hp=>by
   have:p=(s.heap.objs.size,zd its k):=by simpa using hp
   rw[this]
  rcases turn i n ys H5 w5 with ⟨stop,hz,qq⟩|⟨go,step⟩
  .refine thn (T.done (zJ X zB scope cl s H fp) rfl rfl rfl hcalm i _ s5 _ H5 _ I5 (fpk f5 pinD) st5 stop) λr s6 ⟨hr,I6⟩=>?_;subst hr;exact fin _ H5 s6 its k ys I6 r5 hz qq
  .refine thn (T.item (zJ X zB scope cl s H fp) rfl rfl rfl hcalm i _ s5 _ H5 _ I5 (fpk f5 pinD) st5 go) λr s6 ⟨u,hr,h6⟩=>?_;subst hr;refine thn h6 λ_ s7 ⟨x,H7,I7,r7,y7,st7,f7⟩=>?_;have I7':=I7.pinned (fpk f7 pinD) (T.obj _ _ st7);refine thn (hg _ s7 _ H7 x u _ I7' r7 (step x H7 y7)) λ_ s8 ⟨σ8,H8,I8,x8,q8⟩=>?_;refine thn (hi _ s8 σ8 H8 _ I8 q8) λok s9 ⟨H9,I9,q9⟩=>?_;have back:∀ {σx:St} {s':Yl} {Hx:Hp} {its:Yf} {k:Nat},(clr own σ).length=σx.length->(∀ (i:Nat) v,(clr own σ)[i]?=some (some v)->σx[i]?=some (some v))->Inv (zJ X zB scope cl s H fp) (zCq fp s7.heap++[(s.heap.objs.size,zd its k)]) σx Hx s'->Inv (zJ X zB scope cl s H fp) [(s.heap.objs.size,zd its k)] (clr own σ) Hx s'/\tn (i+1) s'.heap /\ ∀ b∈fp,Hx b=none:=λ{σx s' Hx its k} hl hk Ix=>
    ⟨(Ix.weak hl hk).pins_of λp hp=>Ix.pin p (zV0 _ (zV0 _ hp)),
     T.keep _ _ _ st7 λb hb o e=>(Ix.pin (b,o) (zV0 _ (zWv _ (zAI hb e)))).1,λb hb=>by
     obtain ⟨o,e,d⟩:=T.obj _ _ st7 b hb;exact (Ix.pin (b,o) (zV0 _ (zWv _ (zAI hb e)))).2.1⟩
   have I9':Inv (zJ X zB scope cl s H fp) (zCq fp s7.heap++[(s.heap.objs.size,zd its k)]) σ8 H9 s9:=I9.pins_of λp hp=>I9.pin p (zV0 _ (by
    rcases zV6.mp hp with z|z
    .exact zV0 _ z
    .exact zWv _ z))
   cases ok with
   |false=>
    obtain ⟨m',hm,w'⟩:=q9;obtain ⟨b0,b1,b2⟩:=back (by rw[x8.1]) x8.2 I9';exact ⟨m',hm,i+1,H9,ys,its,k,b0,r5,b1,b2,w'⟩
   |true=>
    refine zPN (C:=zJ X zB scope cl s H fp) rfl hcalm hi2 hg2 hc2 he (zVm _) hcD (λp hp=>?_) I9' r5 q9 λs' H' its' k' zs I' rv' q'=>?_
    .rcases zV6.mp hp with z|z
     .exact zV1 (zVr (I.pin p z).1)
     .obtain ⟨hb,_⟩:=zH8 z;exact zV1 (ob _ hb)
    .obtain ⟨m',hm,w'⟩:=q';obtain ⟨b0,b1,b2⟩:=back (by rw[zBG own2,x8.1]) (λi v hv=>by rw[zJu own2 _ i (λz=>(zCe own σ i v hv).2 (hsub i z))];exact x8.2 i v hv) I';exact ⟨rfl,m',hm,i+1,H',zs,its',k',b0,rv',b1,b2,w'⟩
 exact codeAny_compStart_list loop (T.self _ 0 _ _ _ st4 loop)
def zN1 (own own2:Yj) (wi:TI) (g:TG) (tc:TT) (wi2:TI) (g2:TG) (tc2:TT) (te:TE):TE:=λσ H Q=>wi σ H λJ H1=>∃ W:Nat->Nat->List V->Hp->Prop,(∃ m,W 0 m [] H1) /\ ∀ i m ys H,W i m ys H ->
 (J.stop i H/\ys.length<=sizeLine /\ ∀ D,H D=none->Q (.ref D) (upd H D (.lst ys))) \/
 (J.go i H /\ ∀ x H',J.yld i H x H'->g x (clr own σ) H' λσ2 H2=>Ext (clr own σ) σ2/\tc σ2 H2 λb H3=>
  if b=true then tIn own2 wi2 g2 tc2 te σ2 H3 ys λzs H4=>∃ m',m'<m/\W (i+1) m' zs H4 else ∃ m',m'<m/\W (i+1) m' ys H3)
structure CompParts2 (X:Cx) (scope:Y0) (t1:Expr) (f1:Yi) (t2 i2:Expr) (f2:Yi) (elt:Expr) (g:TG) (tc:TT) (wi2:TI) (g2:TG) (tc2:TT) (te:TE):Prop where
 g:∀ zB cl s H fp,PG (zJ X zB scope cl s H fp) t1 g
 c:∀ zB cl s H fp,zFi (zJ X zB scope cl s H fp) f1 tc
 w2:∀ zB cl s H fp,PI (zJ X zB scope cl s H fp) t2 i2 wi2
 g2:∀ zB cl s H fp,PG (zJ X zB scope cl s H fp) t2 g2
 c2:∀ zB cl s H fp,zFi (zJ X zB scope cl s H fp) f2 tc2
 e:∀ zB cl s H fp,PE (zJ X zB scope cl s H fp) elt te
 s2:∀ zB cl s H fp x,foldedSetIterable i2 (zJ X zB scope cl s H fp).env x=pure x
theorem zN6 (hsub:∀ i∈own2,i∈own) (C:CompIn X scope own) (hcalm:X.calm=true) (hi:PI X t1 i1 wi) (p:CompParts2 X scope t1 f1 t2 i2 f2 elt g tc wi2 g2 tc2 te) (hs:∀ x,foldedSetIterable i1 X.env x=pure x:=by intro _;rfl) :
  PE X (zBL elt t1 i1 f1 t2 i2 f2 scope pos) (zN1 own own2 wi g tc wi2 g2 tc2 te):=by
 intro zB s σ H Q I h;obtain ⟨cl,hcl,c1,c2⟩:=C.sc.closure I;rw[eval_ListComp];refine zXa (use:=none) rfl hs hcl C.sc.kind C.sc.names (thn (hi zB s σ H _ I h) λv s1 h1=>thn h1 λitv s2 h2=>?_);obtain ⟨it,fp,tn,J,H2,e,I2,T,st2,f2,W,⟨m0,w0⟩,turn⟩:=h2;subst e;refine zJg hsub C hcalm I2 T st2 f2 c1 c2 (p.g _ _ _ _ _) (p.c _ _ _ _ _) (p.w2 _ _ _ _ _) (p.g2 _ _ _ _ _) (p.c2 _ _ _ _ _) (p.e _ _ _ _ _) (p.s2 _ _ _ _ _) (RR:=λacc C r s'=>compPost (model X.prog X.w) X.A X.xe none (EP X zB σ Q) acc C r s') (QQ:=λys H=>∀ D,H D=none->Q (.ref D) (upd H D (.lst ys))) w0 turn ?_;intro σc H' s' its n ys Ic rv hz qq;obtain ⟨m,hn,_⟩:=Ic.loc;refine ⟨m,hn,λh' hs'=>?_⟩;obtain ⟨J',nD⟩:=zGd I2 f2 Ic rv hz hs';exact ⟨.ref s2.heap.objs.size,_,J',rfl,qq _ nD⟩
end
end L2
namespace L3
open PySem PySem.Spec PyProof.Rows L2
abbrev Sv:=List (Option V)
set_option genInjectivity true in
inductive D where
 |non|bl (b:Bool)|int (i:Int)|str (x:Str)|tup (xs:List D)|ref (n:Nat)
set_option genInjectivity true in
inductive MO where
 |lst (xs:List D)|fro (xs:List D)|dict (kvs:List (D × D))|dicT (kvs:List (D × D))|set (xs:List D)|froT (kvs:List (D × D))|froK (kvs:List (D × D))
mutual
def Rep (L:Yg) (H:Hp):D->V->Prop
 |.non,v=>v=.non
 |.bl b,v=>v=.bl b
 |.int i,v=>v=.int i
 |.str x,v=>v=.str x
 |.tup ds,v=>∃ a vs,v=.ref a/\H a=some (.tup vs)/\zM L H ds vs
 |.ref n,v=>∃ a,v=.ref a/\L[n]?=some a
def zM (L:Yg) (H:Hp):List D->List V->Prop
 |[],vs=>vs=[]
 |d::ds,vs=>∃ v r,vs=v::r/\Rep L H d v/\zM L H ds r
end
theorem zM.length:∀ {ds:List D} {vs:List V},zM L H ds vs->vs.length=ds.length
 |[],_,h=>by unfold zM at h;subst h;rfl
 |d::ds,_,h=>by
  unfold zM at h;obtain ⟨v,r,rfl,_,h2⟩:=h;simp[zM.length h2]
theorem zM.nil:zM L H [] []:=by unfold zM;rfl
theorem zM.cons (h:Rep L H d v) (t:zM L H ds vs):zM L H (d::ds) (v::vs):=by
 unfold zM;exact ⟨v,vs,rfl,h,t⟩
theorem zM.get:∀ {ds:List D} {vs:List V} {i:Nat} {d:D},zM L H ds vs->ds[i]?=some d -> ∃ v,vs[i]?=some v/\Rep L H d v
 |[],_,_,_,_,e=>by simp at e
 |d::ds,_,0,d',h,e=>by
  unfold zM at h;obtain ⟨v,r,rfl,h1,h2⟩:=h;simp at e;subst e;exact ⟨v,rfl,h1⟩
 |d::ds,_,i+1,d',h,e=>by
  unfold zM at h;obtain ⟨v,r,rfl,h1,h2⟩:=h;obtain ⟨u,e1,e2⟩:=zM.get (i:=i) h2 (by simpa using e);exact ⟨u,by simpa using e1,e2⟩
theorem zM.app:∀ {ds es:List D} {vs ws:List V},zM L H ds vs->zM L H es ws->zM L H (ds++es) (vs++ws)
 |[],_,_,_,h,t=>by unfold zM at h;subst h;exact t
 |d::ds,_,_,_,h,t=>by
  unfold zM at h;obtain ⟨v,r,rfl,h1,h2⟩:=h;exact .cons h1 (zM.app h2 t)
theorem zM.set (h:Rep L H d v):∀ {ds:List D} {vs:List V} (i:Nat),zM L H ds vs->zM L H (ds.set i d) (vs.set i v)
 |[],_,_,t=>by unfold zM at t;subst t;exact .nil
 |_::_,_,0,t=>by
  unfold zM at t;obtain ⟨v',r,rfl,h1,h2⟩:=t;exact .cons h h2
 |_::_,_,i+1,t=>by
  unfold zM at t;obtain ⟨v',r,rfl,h1,h2⟩:=t;exact .cons h1 (zM.set h i h2)
theorem zM.drop:∀ {ds:List D} {vs:List V} (n:Nat),zM L H ds vs->zM L H (ds.drop n) (vs.drop n)
 |_,_,0,t=>t
 |[],_,n+1,t=>by unfold zM at t;subst t;exact .nil
 |_::_,_,n+1,t=>by
  unfold zM at t;obtain ⟨v',r,rfl,h1,h2⟩:=t;exact zM.drop n h2
theorem zM.take:∀ {ds:List D} {vs:List V} (n:Nat),zM L H ds vs->zM L H (ds.take n) (vs.take n)
 |_,_,0,t=> .nil
 |[],_,n+1,t=>by unfold zM at t;subst t;exact .nil
 |_::_,_,n+1,t=>by
  unfold zM at t;obtain ⟨v',r,rfl,h1,h2⟩:=t;exact .cons h1 (zM.take n h2)
theorem zM.eraseIdx:∀ {ds:List D} {vs:List V} (n:Nat),zM L H ds vs->zM L H (ds.eraseIdx n) (vs.eraseIdx n)
 |[],_,n,t=>by unfold zM at t;subst t;exact .nil
 |_::_,_,0,t=>by
  unfold zM at t;obtain ⟨v',r,rfl,h1,h2⟩:=t;exact h2
 |_::_,_,n+1,t=>by
  unfold zM at t;obtain ⟨v',r,rfl,h1,h2⟩:=t;exact .cons h1 (zM.eraseIdx n h2)
structure Stp (L:Yg) (H:Hp) (L':Yg) (H':Hp):Prop where
 pre:∃ N,L'=L++N
 new:∀ a∈L',a∈L\/H a=none
 old:∀ a o,H a=some o->a∉L->H' a=some o
 tup:∀ a xs,H a=some (.tup xs)->H' a=some (.tup xs)
 frz:∀ a o u,H a=some (.frz o u)->H' a=some (.frz o u)
theorem Stp.refl (L:Yg) (H:Hp):Stp L H L H:=⟨⟨[],by simp⟩,λ_ h=> .inl h,λ_ _ h _=>h,λ_ _ h=>h,λ_ _ _ h=>h⟩
theorem Stp.trans (a:Stp L H L1 H1) (b:Stp L1 H1 L2 H2):Stp L H L2 H2:=by
 obtain ⟨N,rfl⟩:=a.pre;obtain ⟨N',rfl⟩:=b.pre;have back:∀ c,c∉L->H1 c=none->H c=none:=λc hc h1=>by
  cases q:H c with
  |none=>rfl
  |some o=>rw[a.old c o q hc]at h1;cases h1
 refine ⟨⟨N++N',by simp⟩,λc hc=>?_,λc o e hc=>?_,λc xs e=>b.tup c xs (a.tup c xs e),λc o u e=>b.frz c o u (a.frz c o u e)⟩
 .by_cases hL:c∈L
  .exact .inl hL
  .rcases b.new c hc with z|z
   .exact a.new c z
   .exact .inr (back c hL z)
 .refine b.old c o (a.old c o e hc) λz=>?_;rcases a.new c z with q|q
  .exact hc q
  .rw[q]at e;cases e
theorem Stp.grow (h:∀ a o,H a=some o->H' a=some o):Stp L H L H':=⟨⟨[],by simp⟩,λ_ h=> .inl h,λa o e _=>h a o e,λa _ e=>h a _ e,λa _ _ e=>h a _ e⟩
theorem Stp.upd (h:H p=none):Stp L H L (upd H p o):=.grow λa u e=>by rw[zV (zu e h)];exact e
theorem zBi {L N:Yg} {n:Nat} {a:Yt} (h:L[n]?=some a):(L++N)[n]?=some a:=by
 rw[zVn (zVj.mp h).1];exact h
mutual
theorem Rep.stp {L L':Yg} {H H':Hp} (s:Stp L H L' H'):∀ {d:D} {v:V},Rep L H d v->Rep L' H' d v
 |.non,_,h=>by unfold Rep at h ⊢;exact h
 |.bl _,_,h=>by unfold Rep at h ⊢;exact h
 |.int _,_,h=>by unfold Rep at h ⊢;exact h
 |.str _,_,h=>by unfold Rep at h ⊢;exact h
 |.tup ds,_,h=>by
  unfold Rep at h ⊢;obtain ⟨a,vs,rfl,e,r⟩:=h;exact ⟨a,vs,rfl,s.tup a vs e,zM.stp s r⟩
 |.ref n,_,h=>by
  unfold Rep at h ⊢;obtain ⟨a,rfl,e⟩:=h;obtain ⟨N,rfl⟩:=s.pre;exact ⟨a,rfl,zBi e⟩
theorem zM.stp (s:Stp L H L' H'):∀ {ds:List D} {vs:List V},zM L H ds vs->zM L' H' ds vs
 |[],_,h=>by unfold zM at h ⊢;exact h
 |d::ds,_,h=>by
  unfold zM at h ⊢;obtain ⟨v,r,rfl,h1,h2⟩:=h;exact ⟨v,r,rfl,Rep.stp s h1,zM.stp s h2⟩
end
def zDc:D->Option Key
 |.int i=>some (.inl i)
 |.str x=>some (.inr x)
 |_=>none
def zEA:List D->Option (List Key)
 |[]=>some []
 |d::r=>match zDc d,zEA r with
  |some k,some ks=>some (k::ks)
  |_,_=>none
def tkD:D->Option (List Key)
 |.tup ds=>zEA ds
 |_=>none
def zAe {κ:Type} (kf:D->Option κ) (L:Yg) (H:Hp):List (D × D)->List (κ × V)->Prop
 |[],vs=>vs=[]
 |p::r,vs=>∃ k v r',vs=(k,v)::r'/\kf p.1=some k/\Rep L H p.2 v/\zAe kf L H r r'
theorem zAe.stp {κ:Type} {kf:D->Option κ} {L L':Yg} {H H':Hp} (s:Stp L H L' H'):∀ {ps:List (D × D)} {vs:List (κ × V)},zAe kf L H ps vs->zAe kf L' H' ps vs
 |[],_,h=>h
 |p::r,_,h=>by
  obtain ⟨k,v,r',rfl,e,h1,h2⟩:=h;exact ⟨k,v,r',rfl,e,h1.stp s,zAe.stp s h2⟩
theorem zAe.length {κ:Type} {kf:D->Option κ} {L:Yg} {H:Hp}:∀ {ps:List (D × D)} {vs:List (κ × V)},zAe kf L H ps vs->vs.length=ps.length
 |[],_,h=>by unfold zAe at h;subst h;rfl
 |p::r,_,h=>by
  obtain ⟨k,v,r',rfl,e,h1,h2⟩:=h;simp[zAe.length h2]
def zF2 (K:Yb) (L:Yg) (H:Hp) (a:Yt):MO->Prop
 |.lst xs=>∃ vs,H a=some (.lst vs)/\zM L H xs vs
 |.fro xs=>∃ o vs,H a=some (.frz o (.lst vs))/\zM L H xs vs
 |.dict ps=>∃ vs,H a=some (.dK vs)/\zAe zDc L H ps vs
 |.dicT ps=>∃ vs,H a=some (.dT vs)/\zAe tkD L H ps vs
 |.set _=>∃ o u,H a=some (.frz o u)
 |.froT ps=>∃ o vs,H a=some (.frz o (.dT vs))/\zAe tkD L H ps vs
 |.froK ps=>∃ o vs,H a=some (.frz o (.dK vs))/\zAe zDc L H ps vs
theorem zF2.there {K:Yb} {L:Yg} {H:Hp} {a:Yt} {m:MO} (h:zF2 K L H a m):∃ o,H a=some o:=by
 cases m with
 |lst xs=>obtain ⟨vs,e,_⟩:=h;exact ⟨_,e⟩
 |fro xs=>obtain ⟨o,vs,e,_⟩:=h;exact ⟨_,e⟩
 |dict ps=>obtain ⟨vs,e,_⟩:=h;exact ⟨_,e⟩
 |dicT ps=>obtain ⟨vs,e,_⟩:=h;exact ⟨_,e⟩
 |set _=>obtain ⟨o,u,e⟩:=h;exact ⟨_,e⟩
 |froT ps=>obtain ⟨o,vs,e,_⟩:=h;exact ⟨_,e⟩
 |froK ps=>obtain ⟨o,vs,e,_⟩:=h;exact ⟨_,e⟩
theorem zF2.stp {K:Yb} {L L':Yg} {H H':Hp} {a:Yt} {m:MO} (s:Stp L H L' H') (hk:∀ o,H a=some o->H' a=some o) (h:zF2 K L H a m):zF2 K L' H' a m:=by
 cases m with
 |lst xs=>obtain ⟨vs,e,r⟩:=h;exact ⟨vs,hk _ e,r.stp s⟩
 |fro xs=>obtain ⟨o,vs,e,r⟩:=h;exact ⟨o,vs,hk _ e,r.stp s⟩
 |dict ps=>obtain ⟨vs,e,r⟩:=h;exact ⟨vs,hk _ e,r.stp s⟩
 |dicT ps=>obtain ⟨vs,e,r⟩:=h;exact ⟨vs,hk _ e,r.stp s⟩
 |set _=>obtain ⟨o,u,e⟩:=h;exact ⟨o,u,hk _ e⟩
 |froT ps=>obtain ⟨o,vs,e,r⟩:=h;exact ⟨o,vs,hk _ e,r.stp s⟩
 |froK ps=>obtain ⟨o,vs,e,r⟩:=h;exact ⟨o,vs,hk _ e,r.stp s⟩
structure Cor (K:Yb) (L:Yg) (M:List MO) (H:Hp):Prop where
 len:L.length=M.length
 nd:L.Nodup
 obj:∀ (n:Nat) a m,L[n]?=some a->M[n]?=some m->zF2 K L H a m
def zBO (L:Yg) (H:Hp) (σ:List (Option D)) (τ:Sv):Prop:=τ.length=σ.length /\ ∀ (i:Nat) d,σ[i]?=some (some d) -> ∃ v,τ[i]?=some (some v)/\Rep L H d v
theorem zBO.stp (s:Stp L H L' H') (h:zBO L H σ τ):zBO L' H' σ τ :=
 ⟨h.1,λi d e=>let ⟨v,e1,r⟩:=h.2 i d e;⟨v,e1,r.stp s⟩⟩
theorem Cor.tracked {K:Yb} {L:Yg} {M:List MO} {H:Hp} (c:Cor K L M H) {a:Yt} (h:a∈L):∃ o,H a=some o:=by
 obtain ⟨n,hn⟩:=List.getElem?_of_mem h;have hl:n<M.length:=by rw[<-c.len];exact (zVj.mp hn).1
 have m:=c.obj n a M[n] hn (zVk hl);exact m.there
theorem Cor.grow {K:Yb} {L:Yg} {M:List MO} {H H':Hp} (c:Cor K L M H) (h:∀ a o,H a=some o->H' a=some o):Cor K L M H':=by
 exact ⟨c.len,c.nd,λn a m e1 e2=>(c.obj n a m e1 e2).stp (.grow h) λo e=>h a o e⟩
theorem Cor.upd {K:Yb} {L:Yg} {M:List MO} {H:Hp} {p:Yt} {o:HO} (c:Cor K L M H) (h:H p=none):Cor K L M (upd H p o):=c.grow λa u e=>by rw[zV (zu e h)];exact e
theorem Cor.write {K:Yb} {L:Yg} {M:List MO} {H:Hp} {n:Nat} {p:Yt} {xs xs':List D} {vs':List V} (c:Cor K L M H) (h1:L[n]?=some p) (h2:M[n]?=some (.lst xs)) (r:zM L H xs' vs') :
  Cor K L (M.set n (.lst xs')) (L2.upd H p (.lst vs'))/\Stp L H L (L2.upd H p (.lst vs')):=by
 obtain ⟨vs,hp,_⟩:=c.obj n p _ h1 h2;have st:Stp L H L (L2.upd H p (.lst vs')):=by
  refine ⟨⟨[],by simp⟩,λa ha=> .inl ha,λa o e ha=>?_,λa o e=>?_,λa o u e=>?_⟩
  .rw[zV (show a≠p from λz=>ha (by rw[z];exact zWX h1))];exact e
  .rw[zV (zGQ e hp (by intro z;cases z))];exact e
  .rw[zV (zGQ e hp (by intro z;cases z))];exact e
 refine ⟨⟨by simp[c.len],c.nd,λk a m e1 e2=>?_⟩,st⟩;rw[zXF]at e2;split at e2
 .rename_i hk;subst hk;rw[h1]at e1;cases e1;split at e2
  .cases e2;exact ⟨vs',zt,r.stp st⟩
  .cases e2
 .rename_i hk;have hne:a≠p:=λz=>hk (by
   subst z;exact (List.getElem?_inj (zVj.mp h1).1 c.nd).mp (h1.trans e1.symm))
  exact (c.obj k a m e1 e2).stp st λo e=>by rw[zV hne];exact e
set_option genInjectivity true in
inductive EV where
 |dat (d:D)|fl (xs:List D)
def zc (H0:Hp) (L:Yg) (H:Hp):EV->V->Prop
 |.dat d,v=>Rep L H d v
 |.fl xs,v=>∃ p vs,v=.ref p/\H0 p=none/\H p=some (.lst vs)/\p∉L/\zM L H xs vs
abbrev Sd:=List (Option D)
abbrev Mem:=List MO
abbrev FE:=Sd->Mem->Option (EV × Mem)
abbrev FD:=Sd->Mem->Option (D × Mem)
abbrev FT:=Sd->Mem->Option (Bool × Mem)
abbrev FA:=Sd->Mem->Option (List D × Mem)
theorem Stp.out (s:Stp L H L' H') (h:H p=some o) (hp:p∉L):p∉L':=λz=>by
 rcases s.new p z with q|q
 .exact hp q
 .rw[h]at q;cases q
theorem zc.stp (s:Stp L H L' H') (h:zc H0 L H e v):zc H0 L' H' e v:=by
 cases e with
 |dat d=>exact Rep.stp s h
 |fl xs=>
  obtain ⟨p,vs,rfl,e0,e1,e2,r⟩:=h;exact ⟨p,vs,rfl,e0,s.old p _ e1 e2,s.out e1 e2,r.stp s⟩
theorem zc.back {H0 H1:Hp} {L0 L1 L:Yg} {H:Hp} (s:Stp L0 H0 L1 H1) {M:List MO} {K:Yb} (c:Cor K L0 M H0) {e:EV} {v:V} (h:zc H1 L H e v) (hL:∀ a∈L1,a∈L):zc H0 L H e v:=by
 cases e with
 |dat d=>exact h
 |fl xs=>
  obtain ⟨p,vs,rfl,e0,e1,e2,r⟩:=h;refine ⟨p,vs,rfl,?_,e1,e2,r⟩;cases q:H0 p with
  |none=>rfl
  |some o=>
   by_cases hp:p∈L0
   .obtain ⟨N,hN⟩:=s.pre;exact absurd (hL p (by rw[hN];exact zWv _ hp)) e2
   .rw[s.old p o q hp]at e0;cases e0
section
variable (K:Yb)
def trE (f:FE):TE:=λτ H Q=>∃ L σ M d M',Cor K L M H/\zBO L H σ τ/\f σ M=some (d,M') /\ ∀ L' H' v,Stp L H L' H'->Cor K L' M' H'->zc H L' H' d v->Q v H'
def trD (f:FD):TE:=λτ H Q=>∃ L σ M d M',Cor K L M H/\zBO L H σ τ/\f σ M=some (d,M') /\ ∀ L' H' v,Stp L H L' H'->Cor K L' M' H'->Rep L' H' d v->Q v H'
def trT (f:FT):TT:=λτ H Q=>∃ L σ M d M',Cor K L M H/\zBO L H σ τ/\f σ M=some (d,M') /\ ∀ L' H',Stp L H L' H'->Cor K L' M' H'->Q d H'
def trA (f:FA):TA:=λτ H Q=>∃ L σ M ds M',Cor K L M H/\zBO L H σ τ/\f σ M=some (ds,M') /\ ∀ L' H' vs,Stp L H L' H'->Cor K L' M' H'->zM L' H' ds vs->Q vs H'
end
section
theorem PE.imp (h:PE X e t) (hi:∀ τ H Q,t' τ H Q->t τ H Q):PE X e t':=λzB s σ H Q I q=>h zB s σ H Q I (hi _ _ _ q)
theorem PT.imp (h:PT X e t) (hi:∀ τ H Q,t' τ H Q->t τ H Q):PT X e t':=λzB s σ H Q I q=>h zB s σ H Q I (hi _ _ _ q)
theorem PS.imp {st:Stmt} {t t':TS} (h:PS X st t) (hi:∀ D τ H,t' D τ H->t D τ H):PS X st t':=λzB s σ H D I q=>h zB s σ H D I (hi _ _ _ q)
theorem PSs.imp {st:Yy} {t t':TS} (h:PSs X st t) (hi:∀ D τ H,t' D τ H->t D τ H):PSs X st t':=λzB s σ H D I q=>h zB s σ H D I (hi _ _ _ q)
structure QE (X:Cx) (e:Expr) (f:FE):Prop where
 un:PE X e (trE X.K f)
structure QD (X:Cx) (e:Expr) (f:FD):Prop where
 un:PE X e (trD X.K f)
structure QT (X:Cx) (e:Expr) (f:FT):Prop where
 un:PT X e (trT X.K f)
structure QA (X:Cx) (es:Yi) (f:FA):Prop where
 un:PA X es (trA X.K f)
def toD (f:FE):FD:=λσ M=>match f σ M with
 |some (.dat d,M')=>some (d,M')
 |some (.fl xs,M')=>some (.ref M'.length,M'++[.lst xs])
 |none=>none
mutual
theorem Rep.more (N:Yg):∀ {d:D} {v:V},Rep L H d v->Rep (L++N) H d v
 |.non,_,h=>by unfold Rep at h ⊢;exact h
 |.bl _,_,h=>by unfold Rep at h ⊢;exact h
 |.int _,_,h=>by unfold Rep at h ⊢;exact h
 |.str _,_,h=>by unfold Rep at h ⊢;exact h
 |.tup ds,_,h=>by
  unfold Rep at h ⊢;obtain ⟨a,vs,rfl,e,r⟩:=h;exact ⟨a,vs,rfl,e,zM.more N r⟩
 |.ref n,_,h=>by
  unfold Rep at h ⊢;obtain ⟨a,rfl,e⟩:=h;exact ⟨a,rfl,zBi e⟩
theorem zM.more (N:Yg):∀ {ds:List D} {vs:List V},zM L H ds vs->zM (L++N) H ds vs
 |[],_,h=>by unfold zM at h ⊢;exact h
 |d::ds,_,h=>by
  unfold zM at h ⊢;obtain ⟨v,r,rfl,h1,h2⟩:=h;exact ⟨v,r,rfl,Rep.more N h1,zM.more N h2⟩
end
theorem zAe.more {κ:Type} {kf:D->Option κ} {L:Yg} {H:Hp} (N:Yg):∀ {ps:List (D × D)} {vs:List (κ × V)},zAe kf L H ps vs->zAe kf (L++N) H ps vs
 |[],_,h=>h
 |p::r,_,h=>by
  obtain ⟨k,v,r',rfl,e,h1,h2⟩:=h;exact ⟨k,v,r',rfl,e,h1.more N,zAe.more N h2⟩
theorem zF2.more {K:Yb} {L:Yg} {H:Hp} {a:Yt} {m:MO} (N:Yg) (h:zF2 K L H a m):zF2 K (L++N) H a m:=by
 cases m with
 |lst xs=>obtain ⟨vs,e,r⟩:=h;exact ⟨vs,e,r.more N⟩
 |fro xs=>obtain ⟨o,vs,e,r⟩:=h;exact ⟨o,vs,e,r.more N⟩
 |dict ps=>obtain ⟨vs,e,r⟩:=h;exact ⟨vs,e,r.more N⟩
 |dicT ps=>obtain ⟨vs,e,r⟩:=h;exact ⟨vs,e,r.more N⟩
 |set _=>exact h
 |froT ps=>obtain ⟨o,vs,e,r⟩:=h;exact ⟨o,vs,e,r.more N⟩
 |froK ps=>obtain ⟨o,vs,e,r⟩:=h;exact ⟨o,vs,e,r.more N⟩
theorem zR2 {K:Yb} {L L':Yg} {M':List MO} {H H':Hp} {p:Yt} {xs:List D} {vs:List V} (s:Stp L H L' H') (c:Cor K L' M' H') (h0:H p=none) (h1:H' p=some (.lst vs)) (h2:p∉L') (r:zM L' H' xs vs) :
  Cor K (L'++[p]) (M'++[.lst xs]) H'/\Stp L H (L'++[p]) H':=by
 refine ⟨⟨by simp[c.len],?_,λn a m e1 e2=>?_⟩,?_⟩
 .rw[zWu];exact ⟨c.nd,by simp,λa ha b hb z=>by
   have:b=p:=by simpa using hb
   subst this;subst z;exact h2 ha⟩
 .by_cases hn:n<L'.length
  .rw[zVn hn]at e1;rw[zVn (by rw[<-c.len];exact hn)]at e2;exact (c.obj n a m e1 e2).more [p]
  .have hn':n=L'.length:=by
    have:=(zVj.mp e1).1;rw[zVw]at this;simp at this;omega
   subst hn';simp at e1;rw[c.len]at e2;simp at e2;subst e1;subst e2;exact ⟨vs,h1,r.more [p]⟩
 .obtain ⟨N,hN⟩:=s.pre;refine ⟨⟨N++[p],by rw[hN];simp⟩,λa ha=>?_,s.old,s.tup,s.frz⟩;rcases zV6.mp ha with z|z
  .exact s.new a z
  .have:a=p:=by simpa using z
   subst this;exact .inr h0
theorem Rep.last {L:Yg} {M:List MO} {H:Hp} {K:Yb} {p:Yt} (c:Cor K L M H):Rep (L++[p]) H (.ref M.length) (.ref p):=by
 unfold Rep;exact ⟨p,rfl,by rw[<-c.len];simp⟩
theorem zCh {f:FE} (h:QE X e f):QD X e (toD f):=.mk <| PE.imp h.un λτ H Q zz=>by
 obtain ⟨L,σ,M,d,M',c,rs,hf,q⟩:=zz;unfold toD at hf;split at hf
 .rename_i d' M1 e1;cases hf;exact ⟨L,σ,M,_,_,c,rs,e1,λL' H' v s c' r=>q L' H' v s c' r⟩
 .rename_i xs M1 e1;cases hf;refine ⟨L,σ,M,_,_,c,rs,e1,λL' H' v s c' r=>?_⟩;obtain ⟨p,vs,rfl,e0,e2,e3,r⟩:=r;obtain ⟨c2,s2⟩:=zR2 s c' e0 e2 e3 r;exact q _ H' _ s2 c2 (Rep.last c')
 .cases hf
def zC (i:Nat):FE:=λσ M=>match σ[i]? with
 |some (some d)=>some (.dat d,M)
 |_=>none
theorem zUW (h:PE X (.Name x pos) (zTl i)):QE X (.Name x pos) (zC i):=.mk <| PE.imp h λτ H Q zz=>by
 obtain ⟨L,σ,M,d,M',c,rs,hf,q⟩:=zz;unfold zC at hf;split at hf
 .rename_i d' e1;cases hf;obtain ⟨v,e2,r⟩:=rs.2 i d' e1;exact ⟨v,e2,q L H v (.refl L H) c r⟩
 .cases hf
def fC (d:D):FE:=λ_ M=>some (.dat d,M)
theorem zIn (hd:∀ L H,Rep L H d v) (h:PE X e (tC v)):QE X e (fC d):=.mk <| PE.imp h λτ H Q zz=>by
 obtain ⟨L,σ,M,d',M',c,rs,hf,q⟩:=zz;unfold fC at hf;cases hf;exact q L H v (.refl L H) c (hd L H)
theorem zUE {i j pos}:QE X (.Constant (.int i) j pos) (fC (.int i)):=zIn (λ_ _=>by unfold Rep;rfl) zTD
theorem zVe {b j pos}:QE X (.Constant (.bool b) j pos) (fC (.bl b)):=zIn (λ_ _=>by unfold Rep;rfl) zTs
theorem zU2 {j pos}:QE X (.Constant .none j pos) (fC .non):=zIn (λ_ _=>by unfold Rep;rfl) zTH
def zH:FA:=λ_ M=>some ([],M)
def zD (f:FD) (g:FA):FA:=λσ M=>match f σ M with
 |some (d,M1)=>match g σ M1 with
  |some (ds,M2)=>some (d::ds,M2)
  |none=>none
 |none=>none
theorem PA.imp (h:PA X es t) (hi:∀ τ H Q,t' τ H Q->t τ H Q):PA X es t':=λpos zB s σ H Q I q=>h pos zB s σ H Q I (hi _ _ _ q)
theorem zSn:QA X [] zH:=.mk <| PA.imp zIs λτ H Q zz=>by
 obtain ⟨L,σ,M,d,M',c,rs,hf,q⟩:=zz;unfold zH at hf;cases hf;exact q L H [] (.refl L H) c .nil
theorem zQ6 (h1:QD X e f) (h2:QA X es g) (hs:starEach (e::es) X.env=(false,eval e X.env)::starEach es X.env:=by rfl):QA X (e::es) (zD f g) :=
 .mk <| PA.imp (zFr h1.un h2.un hs) λτ H Q zz=>by
  obtain ⟨L,σ,M,d,M',c,rs,hf,q⟩:=zz;unfold zD at hf;split at hf
  .rename_i d1 M1 e1;split at hf
   .rename_i ds M2 e2;cases hf;refine ⟨L,σ,M,_,_,c,rs,e1,λL1 H1 v s1 c1 r1=>⟨L1,σ,M1,_,_,c1,rs.stp s1,e2,λL2 H2 vs s2 c2 r2=>?_⟩⟩;exact q L2 H2 _ (s1.trans s2) c2 (.cons (r1.stp s2) r2)
   .cases hf
  .cases hf
def zB7 (g:FA):FE:=λσ M=>match g σ M with
 |some (ds,M1)=>if ds.length<=sizeLine then some (.dat (.tup ds),M1) else none
 |none=>none
def zA5 (g:FA):FE:=λσ M=>match g σ M with
 |some (ds,M1)=>if ds.length<=sizeLine then some (.fl ds,M1) else none
 |none=>none
theorem Rep.newTup (h:H p=none) (r:zM L H ds vs):Rep L (upd H p (.tup vs)) (.tup ds) (.ref p):=by
 unfold Rep;exact ⟨p,vs,rfl,zt,r.stp (.upd h)⟩
theorem zU7 {x1 pos} (h:QA X es g):QE X (.Tuple es x1 pos) (zB7 g):=.mk <| PE.imp (zSs h.un) λτ H Q zz=>by
 obtain ⟨L,σ,M,d,M',c,rs,hf,q⟩:=zz;unfold zB7 at hf;split at hf
 .rename_i ds M1 e1;split at hf
  .rename_i hz;cases hf;refine ⟨L,σ,M,_,_,c,rs,e1,λL1 H1 vs s1 c1 r1=>⟨by rw[r1.length];exact hz,λp hp=>?_⟩⟩;exact q L1 _ _ (s1.trans (.upd hp)) (c1.upd hp) (Rep.newTup hp r1)
  .cases hf
 .cases hf
theorem zMh {L L1:Yg} {H H1:Hp} {K:Yb} {M M1:List MO} (s:Stp L H L1 H1) (c:Cor K L M H) (c1:Cor K L1 M1 H1) {p:Yt} (hp:H1 p=none):H p=none/\p∉L1:=by
 have hp1:p∉L1:=λz=>by obtain ⟨o,e⟩:=c1.tracked z;rw[hp]at e;cases e
 refine ⟨?_,hp1⟩;cases q:H p with
 |none=>rfl
 |some o=>
  have:p∉L:=λz=>hp1 (by obtain ⟨N,hN⟩:=s.pre;rw[hN];exact zWv _ z);rw[s.old p o q this]at hp;cases hp
theorem zc.newLst {L L1:Yg} {H H1:Hp} {K:Yb} {M M1:List MO} {p:Yt} {ds:List D} {vs:List V} (s:Stp L H L1 H1) (c:Cor K L M H) (c1:Cor K L1 M1 H1) (hp:H1 p=none) (r:zM L1 H1 ds vs) :
  zc H L1 (upd H1 p (.lst vs)) (.fl ds) (.ref p):=by
 obtain ⟨a,b⟩:=zMh s c c1 hp;exact ⟨p,vs,rfl,a,zt,b,r.stp (.upd hp)⟩
theorem zUB {pos} (h:QA X es g):QE X (.List es pos) (zA5 g):=.mk <| PE.imp (zSz h.un) λτ H Q zz=>by
 obtain ⟨L,σ,M,d,M',c,rs,hf,q⟩:=zz;unfold zA5 at hf;split at hf
 .rename_i ds M1 e1;split at hf
  .rename_i hz;cases hf;refine ⟨L,σ,M,_,_,c,rs,e1,λL1 H1 vs s1 c1 r1=>⟨by rw[r1.length];exact hz,λp hp=>?_⟩⟩;exact q L1 _ _ (s1.trans (.upd hp)) (c1.upd hp) (zc.newLst s1 c c1 hp r1)
  .cases hf
 .cases hf
end
abbrev FAE:=Sd->Mem->Option (List EV × Mem)
def zCd (H0:Hp) (L:Yg) (H:Hp):List EV->List V->Prop
 |[],vs=>vs=[]
 |e::es,vs=>∃ v r,vs=v::r/\zc H0 L H e v/\zCd H0 L H es r
theorem Stp.sub (s:Stp L H L' H'):∀ a∈L,a∈L':=λa h=>by
 obtain ⟨N,hN⟩:=s.pre;rw[hN];exact zWv _ h
theorem zCd.back {H0 H1:Hp} {L0 L1 L:Yg} {H:Hp} (s:Stp L0 H0 L1 H1) {M:List MO} {K:Yb} (c:Cor K L0 M H0) (hL:∀ a∈L1,a∈L):∀ {es:List EV} {vs:List V},zCd H1 L H es vs->zCd H0 L H es vs
 |[],_,h=>h
 |e::es,_,h=>by
  obtain ⟨v,r,rfl,h1,h2⟩:=h;exact ⟨v,r,rfl,h1.back s c hL,zCd.back s c hL h2⟩
def zUv (K:Yb) (f:FAE):TA:=λτ H Q=>∃ L σ M ds M',Cor K L M H/\zBO L H σ τ/\f σ M=some (ds,M') /\ ∀ L' H' vs,Stp L H L' H'->Cor K L' M' H'->zCd H L' H' ds vs->Q vs H'
structure QAE (X:Cx) (es:Yi) (f:FAE):Prop where
 un:PA X es (zUv X.K f)
section
def zf:FAE:=λ_ M=>some ([],M)
def zQ (f:FE) (g:FAE):FAE:=λσ M=>match f σ M with
 |some (d,M1)=>match g σ M1 with
  |some (ds,M2)=>some (d::ds,M2)
  |none=>none
 |none=>none
theorem zTR:QAE X [] zf:=.mk <| PA.imp zIs λτ H Q zz=>by
 obtain ⟨L,σ,M,d,M',c,rs,hf,q⟩:=zz;unfold zf at hf;cases hf;exact q L H [] (.refl L H) c rfl
theorem zQ8 (h1:QE X e f) (h2:QAE X es g) (hs:starEach (e::es) X.env=(false,eval e X.env)::starEach es X.env:=by rfl):QAE X (e::es) (zQ f g) :=
 .mk <| PA.imp (zFr h1.un h2.un hs) λτ H Q zz=>by
  obtain ⟨L,σ,M,d,M',c,rs,hf,q⟩:=zz;unfold zQ at hf;split at hf
  .rename_i d1 M1 e1;split at hf
   .rename_i ds M2 e2;cases hf;refine ⟨L,σ,M,_,_,c,rs,e1,λL1 H1 v s1 c1 r1=>⟨L1,σ,M1,_,_,c1,rs.stp s1,e2,λL2 H2 vs s2 c2 r2=>?_⟩⟩;exact q L2 H2 _ (s1.trans s2) c2 ⟨v,vs,rfl,r1.stp s2,r2.back s1 c s2.sub⟩
   .cases hf
  .cases hf
abbrev K2:=EV->EV->Mem->Option (EV × Mem)
def zCk (K:Yb) (r:R2) (k:K2):Prop:=∀ {L:Yg} {M M':Mem} {H H0:Hp} {x y d:EV} {v w:V} {Q:VK},Cor K L M H->zc H0 L H x v->zc H0 L H y w->k x y M=some (d,M') ->
 (∀ L' H' u,Stp L H L' H'->Cor K L' M' H'->zc H L' H' d u->Q u H')->r v w H Q
def fOp (k:K2) (f g:FE):FE:=λσ M=>match f σ M with
 |some (x,M1)=>match g σ M1 with
  |some (y,M2)=>k x y M2
  |none=>none
 |none=>none
theorem zCb {K:Yb} {r:R2} {k:K2} {f g:FE} (hk:zCk K r k) {τ:Sv} {H:Hp} {Q:VK} (h:trE K (fOp k f g) τ H Q):tOp r (trE K f) (trE K g) τ H Q:=by
 obtain ⟨L,σ,M,d,M',c,rs,hf,q⟩:=h;unfold fOp at hf;split at hf
 .rename_i x M1 e1;split at hf
  .rename_i y M2 e2;refine ⟨L,σ,M,_,_,c,rs,e1,λL1 H1 v s1 c1 r1=>⟨L1,σ,M1,_,_,c1,rs.stp s1,e2,λL2 H2 w s2 c2 r2=>?_⟩⟩;refine hk (H0:=H) c2 (r1.stp s2) (r2.back s1 c s2.sub) hf λL3 H3 u s3 c3 r3=>?_;exact q L3 H3 u ((s1.trans s2).trans s3) c3 (r3.back (s1.trans s2) c s3.sub)
  .cases hf
 .cases hf
theorem zLg (hk:zCk X.K r k) (ho:OpR X (binaryOp op) r) (h1:QE X a f) (h2:QE X b g):QE X (.BinOp a op b pos) (fOp k f g):=.mk <| PE.imp (zUx ho h1.un h2.un) λ_ _ _ h=>zCb hk h
theorem zUI (hk:zCk X.K r k) (ho:OpR X (compareOp op) r) (h1:QE X a f) (h2:QE X b g) (hm:behindInMarks op b=false):QE X (.Compare a [op] [b] pos) (fOp k f g) :=
 .mk <| PE.imp (zRb ho h1.un h2.un hm) λ_ _ _ h=>zCb hk h
def tst (f:FE):FT:=λσ M=>match f σ M with
 |some (.dat (.bl c),M')=>some (c,M')
 |_=>none
theorem zD0 {K:Yb} {f:FE} {τ:Sv} {H:Hp} {Q:Bool->Hp->Prop} (h:trT K (tst f) τ H Q):zMH (trE K f) τ H Q:=by
 obtain ⟨L,σ,M,d,M',c,rs,hf,q⟩:=h;unfold tst at hf;split at hf
 .rename_i k M1 e1;cases hf;refine ⟨L,σ,M,_,_,c,rs,e1,λL1 H1 v s1 c1 r1=>?_⟩;have:v=.bl d:=by unfold zc Rep at r1;exact r1
  exact ⟨d,this,q L1 H1 s1 c1⟩
 .cases hf
theorem zEF (h:∀ τ H Q,t τ H Q->t' τ H Q) (q:zMH t τ H Q):zMH t' τ H Q:=h _ _ _ q
theorem zDn {op:CmpOp} {r:R2} {k:K2} {f g:FE} (hk:zCk X.K r k) (ho:OpR X (compareOp op) r) (h1:QE X a f) (h2:QE X b g) (hm:behindInMarks op b=false):QT X (.Compare a [op] [b] pos) (tst (fOp k f g)) :=
 .mk <| PT.imp (zRL ho h1.un h2.un hm) λ_ _ _ h=>zEF (λ_ _ _ z=>zCb hk z) (zD0 h)
theorem zSc (h:QE X e f) (he:∀ whole,isTrue e X.env whole=(do let v <- whole;standAt e.pos;holding [v] (truthy v)):=by intro _;rfl):QT X e (tst f) :=
 .mk <| PT.imp (zTG h.un he) λ_ _ _ h=>zD0 h
def kI (C:Int->Int->Bool) (g:Int->Int->D):K2:=λx y M=>match x,y with
 |.dat (.int i),.dat (.int j)=>if C i j then some (.dat (g i j),M) else none
 |_,_=>none
def kI0 (g:Int->Int->D):K2:=kI (λ_ _=>true) g
theorem zJs {K:Yb} {C:Int->Int->Bool} {C':Int->Int->Prop} {g:Int->Int->D} {g':Int->Int->V} (hC:∀ i j,C i j=true->C' i j) (hg:∀ L H i j,Rep L H (g i j) (g' i j)):zCk K (rI C' g') (kI C g):=by
 intro L M M' H H0 x y d v w Q c rx ry hk q;unfold kI at hk;split at hk
 .rename_i i j;split at hk
  .rename_i hc;cases hk;refine ⟨i,j,by unfold zc Rep at rx;exact rx,by unfold zc Rep at ry;exact ry,hC i j hc,q L H _ (.refl L H) c (hg L H i j)⟩
  .cases hk
 .cases hk
theorem zFy {K:Yb} {g:Int->Int->D} {g':Int->Int->V} (hg:∀ L H i j,Rep L H (g i j) (g' i j)):zCk K (rI0 g') (kI0 g):=by
 intro L M M' H H0 x y d v w Q c rx ry hk q;obtain ⟨i,j,h1,h2,_,h4⟩:=zJs (C:=λ_ _=>true) (C':=λ_ _=>True) (λ_ _ _=>trivial) hg c rx ry hk q;exact ⟨i,j,h1,h2,h4⟩
theorem zAM:Rep L H (.int i) (.int i):=by unfold Rep;rfl
theorem zBc:Rep L H (.bl i) (.bl i):=by unfold Rep;rfl
def zM8 (i j:Int):Bool:=(decide (-(2 ^ 64)<i)&&decide (i<2 ^ 64))||(decide (-(2 ^ 64)<j)&&decide (j<2 ^ 64))
abbrev zVc:K2:=kI0 λi j=> .int (i+j)
abbrev zHA:K2:=kI0 λi j=> .int (i-j)
abbrev zNG:K2:=kI zM8 λi j=> .int (i*j)
abbrev zE2:K2:=kI (λ_ j=>decide (0<j)) λi j=> .int (i % j)
abbrev zNM:K2:=kI (λ_ j=>decide (0<j)&&decide (j<1073741824)) λi j=> .int (i / j)
abbrev zPS:K2:=kI (λi j=>decide (0<=j)&&decide (j<=1000000)&&decide (i.natAbs<2 ^ 64)) λi j=> .int (i ^ j.toNat)
abbrev kLt:K2:=kI0 λi j=> .bl (decide (i<j))
abbrev kGt:K2:=kI0 λi j=> .bl (decide (j<i))
abbrev kGe:K2:=kI0 λi j=> .bl (decide (j<=i))
section
theorem zTy (h1:QE X a f) (h2:QE X b g):QE X (.BinOp a .Sub b pos) (fOp zHA f g):=zLg (zFy λ_ _ _ _=>zAM) zSa h1 h2
theorem zUY (h1:QE X a f) (h2:QE X b g):QE X (.BinOp a .Mult b pos) (fOp zNG f g):=zLg (zJs (λi j h=>by
 unfold zM8 at h;simp only[Bool.or_eq_true,zWG,zWt]at h;exact h) λ_ _ _ _=>zAM) zTO h1 h2
theorem zUP (h1:QE X a f) (h2:QE X b g):QE X (.BinOp a .Mod b pos) (fOp zE2 f g):=zLg (zJs (λi j h=>zWc h) λ_ _ _ _=>zAM) zS9 h1 h2
theorem zTx (h1:QE X a f) (h2:QE X b g):QE X (.BinOp a .FloorDiv b pos) (fOp zNM f g):=zLg (zJs (λi j h=>by
 simp only[zWG,zWt]at h;exact h) λ_ _ _ _=>zAM) zRX h1 h2
theorem zUC (h1:QE X a f) (h2:QE X b g):QE X (.BinOp a .Pow b pos) (fOp zPS f g):=zLg (zJs (λi j h=>by
 simp only[zWG,zWt]at h;exact ⟨h.1.1,h.1.2,h.2⟩) λ_ _ _ _=>zAM) zSN h1 h2
theorem zUG (h1:QE X a f) (h2:QE X b g):QT X (.Compare a [.Lt] [b] pos) (tst (fOp kLt f g)):=zDn (zFy λ_ _ _ _=>zBc) zUk h1 h2 (zDI _)
theorem zUU (h1:QE X a f) (h2:QE X b g):QT X (.Compare a [.Gt] [b] pos) (tst (fOp kGt f g)):=zDn (zFy λ_ _ _ _=>zBc) zUj h1 h2 (zDI _)
theorem zUg (h1:QE X a f) (h2:QE X b g):QT X (.Compare a [.GtE] [b] pos) (tst (fOp kGe f g)):=zDn (zFy λ_ _ _ _=>zBc) zUX h1 h2 (zDI _)
end
end
def zA3 (M:Mem):EV->Option (List D)
 |.fl xs=>some xs
 |.dat (.ref n)=>match M[n]? with
  |some (.lst xs)=>some xs
  |some (.fro xs)=>some xs
  |_=>none
 |_=>none
def zB0:EV->Option (List D)
 |.dat (.tup xs)=>some xs
 |_=>none
def zAY (M:Mem) (x:EV):Option (List D):=match zB0 x with
 |some xs=>some xs
 |none=>zA3 M x
theorem zAa {K:Yb} {L:Yg} {M:Mem} {H H0:Hp} {x:EV} {v:V} {xs:List D} (c:Cor K L M H) (r:zc H0 L H x v) (h:zA3 M x=some xs):∃ a vs,v=.ref a/\Rd H a (.lst vs)/\zM L H xs vs:=by
 cases x with
 |fl ys=>
  cases h;obtain ⟨p,vs,rfl,_,e,_,r⟩:=r;exact ⟨p,vs,rfl,.inl e,r⟩
 |dat d=>
  cases d with
  |ref n=>
   unfold zc Rep at r;obtain ⟨a,rfl,e⟩:=r;unfold zA3 at h;dsimp only at h;cases q:M[n]? with
   |none=>rw[q]at h;cases h
   |some m=>
    rw[q]at h;have z:=c.obj n a m e q;cases m with
    |lst ys=>cases h;obtain ⟨vs,e1,r1⟩:=z;exact ⟨a,vs,rfl,.inl e1,r1⟩
    |fro ys=>cases h;obtain ⟨o,vs,e1,r1⟩:=z;exact ⟨a,vs,rfl,.inr ⟨o,e1⟩,r1⟩
    |dict _=>cases h
    |dicT _=>cases h
    |set _=>cases h
    |froT _=>cases h
    |froK _=>cases h
  |_=>cases h
theorem zBF {L:Yg} {H H0:Hp} {x:EV} {v:V} {xs:List D} (r:zc H0 L H x v) (h:zB0 x=some xs):∃ a vs,v=.ref a/\H a=some (.tup vs)/\zM L H xs vs:=by
 cases x with
 |fl ys=>cases h
 |dat d=>
  cases d with
  |tup ys=>cases h;unfold zc Rep at r;exact r
  |_=>cases h
theorem zMJ {K:Yb} {L:Yg} {M:Mem} {H H0:Hp} {x:EV} {v:V} {xs:List D} (c:Cor K L M H) (r:zc H0 L H x v) (h:zAY M x=some xs):∃ a vs,v=.ref a/\(SqL K H a vs\/SqT K H a vs)/\zM L H xs vs:=by
 unfold zAY at h;cases q:zB0 x with
 |some ys=>
  rw[q]at h;cases h;obtain ⟨a,vs,e,h1,h2⟩:=zBF r q;exact ⟨a,vs,e,.inr (.of h1),h2⟩
 |none=>
  rw[q]at h;obtain ⟨a,vs,e,h1,h2⟩:=zAa c r h;exact ⟨a,vs,e,.inl (.inl h1),h2⟩
theorem zSt {L:Yg} {H:Hp} {xs:List D} {vs:List V} {i:Int} {d:D} (r:zM L H xs vs) (h:atI xs i=some d):∃ v,atI vs i=some v/\Rep L H d v:=by
 unfold atI at h ⊢;rw[r.length];cases q:ixN xs.length i with
 |none=>rw[q]at h;cases h
 |some j=>rw[q]at h;exact r.get h
theorem zQ4 {L:Yg} {H:Hp} {i:Str}:Rep L H (.str i) (.str i):=by unfold Rep;rfl
def kIx:K2:=λx y M=>match y with
 |.dat (.int i)=>match zAY M x with
  |some xs=>match atI xs i with
   |some d=>some (.dat d,M)
   |none=>none
  |none=>match x with
   |.dat (.str z)=>if z.length<=sizeLine then match atI z.cps.toList i with
     |some c=>some (.dat (.str ⟨#[c]⟩),M)
     |none=>none
    else none
   |_=>none
 |_=>none
theorem zSp {K:Yb}:zCk K (rIx K) kIx:=by
 intro L M M' H H0 x y d v w Q c rx ry hk q;unfold kIx at hk;split at hk
 .rename_i i;have ew:w=.int i:=by unfold zc Rep at ry;exact ry
  split at hk
  .rename_i xs e1;split at hk
   .rename_i d' e2;cases hk;obtain ⟨a,vs,rfl,hs,r⟩:=zMJ c rx e1;obtain ⟨u,e3,r3⟩:=zSt r e2;rcases hs with hs|hs
    .exact .inl ⟨a,vs,i,u,rfl,ew,hs,e3,q L H u (.refl L H) c r3⟩
    .exact .inr (.inl ⟨a,vs,i,u,rfl,ew,hs,e3,q L H u (.refl L H) c r3⟩)
   .cases hk
  .split at hk
   .rename_i z _;split at hk
    .rename_i hz;split at hk
     .rename_i ch e2;cases hk;have ev:v=.str z:=by unfold zc Rep at rx;exact rx
      exact .inr (.inr ⟨z,i,ch,ev,ew,hz,e2,q L H _ (.refl L H) c (zQ4 (L:=L) (H:=H))⟩)
     .cases hk
    .cases hk
   .cases hk
 .cases hk
section
theorem zK1 {t sl:Yt} {items:Yp} {vl vu:Yu} {lo hi:Ys} {Q:Yc} (T:IsTup s.heap t items) (S:s.heap.IsSliceOf sl vl vu .none) (pl:IsPart vl lo) (pu:IsPart vu hi)
  (h1:HT.sIx items.size 0 lo=0) (h2:HT.sIx items.size items.size hi=items.size) (h:Q (.ref t) s):wpAny (model prog w) A (getItem (.ref t) (.ref sl)) Q E s:=by
 obtain ⟨o,O,C,G⟩:=id S;have TS:s.TypeIs (.ref sl) "slice" := ⟨o,O,C⟩;unfold getItem;try with_reducible refine zWZ ?_
 first|refine zVg (zVi ?_)|skip
 refine zVg (wpAny_sequenceKey T.typeIs (by decide) ?_);refine zVg (zWI (name:=Str.ofString "__getitem__") T.typeIs zXE (zWJ zXE T.typeIs entry_tuple_getitem ?_ (args_tuple_getitem _ _)));refine zVg (m:=Builtin.Tuple.tupleItemsOf (.ref t)) (tupleItemsOf_ T (zVg (wpAny_typeOf TS ?_)));rw[zVv (by decide)];refine zVg (HT.zCy S pl pu ?_);rw[h1,h2];show wpAny _ _ (if ((((0:Nat):Int)==0&&(1:Int)==1&&(items.size-0)==items.size))=true then _ else _) _ _ s;rw[zVv (by simp)];unfold Builtin.Tuple.tupleIsExact;refine zVg (zVg (wpAny_typeOf T.typeIs (zVi ?_)));rw[zVv (by decide)];exact zVg (zW3 (zVi ⟨_,rfl,zVi h⟩))
end
def zVN (K:Yb):V->Option Int->Option Int->Hp->VK->Prop:=λx lo hi H Q=>∃ a xs,x=.ref a/\SqT K H a xs/\(HT.sIx xs.length 0 lo=0/\HT.sIx xs.length xs.length hi=xs.length)/\Q (.ref a) H
theorem zQp {X:Cx}:SlR X (zVN X.K):=by
 intro zB s σ H x v vl vu lo hi sl Q I rx hs pl pu h;obtain ⟨a,xs,rfl,hx,hw,q⟩:=h;cases rx;obtain ⟨its,r,ht,hz⟩:=I.tuple hx;have hlen:its.toArray.size=xs.length:=by rw[zVo];exact r.length.symm
 exact ⟨"tuple", _,zXE.lookup,ht.typeIs,zK1 ht hs pl pu (by rw[hlen];exact hw.1) (by rw[hlen];exact hw.2) ⟨.ref a,H,I,rfl,q⟩⟩
section
variable {X:Cx}
theorem zVK (h1:QE X a f) (h2:QE X b g) (hs:zL7 b:=by intro _ _;rfl):QE X (.Subscript a b pos) (fOp kIx f g):=.mk <| PE.imp (zUO zSo h1.un h2.un hs) λ_ _ _ h=>zCb zSp h
abbrev FO:=Sd->Mem->Option (Option Int × Mem)
def trO (K:Yb) (f:FO):TO:=λτ H Q=>∃ L σ M d M',Cor K L M H/\zBO L H σ τ/\f σ M=some (d,M') /\ ∀ L' H',Stp L H L' H'->Cor K L' M' H'->Q d H'
structure QO (X:Cx) (e:Option Expr) (f:FO):Prop where
 un:PO X e (trO X.K f)
def zD7:FO:=λ_ M=>some (none,M)
def zDf (f:FE):FO:=λσ M=>match f σ M with
 |some (.dat (.int i),M')=>some (some i,M')
 |_=>none
theorem PO.imp {e:Option Expr} {t t':TO} (h:PO X e t) (hi:∀ τ H Q,t' τ H Q->t τ H Q):PO X e t':=λzB s σ H Q I q=>h zB s σ H Q I (hi _ _ _ q)
theorem zQI:QO X none zD7:=.mk <| PO.imp zRA λτ H Q zz=>by
 obtain ⟨L,σ,M,d,M',c,rs,hf,q⟩:=zz;unfold zD7 at hf;cases hf;exact q L H (.refl L H) c
theorem zRH (h:QE X e f):QO X (some e) (zDf f):=.mk <| PO.imp (zRw h.un) λτ H Q zz=>by
 obtain ⟨L,σ,M,d,M',c,rs,hf,q⟩:=zz;unfold zDf at hf;split at hf
 .rename_i i M1 e1;cases hf;refine ⟨L,σ,M,_,_,c,rs,e1,λL1 H1 v s1 c1 r1=>?_⟩;exact ⟨i,by unfold zc Rep at r1;exact r1,q L1 H1 s1 c1⟩
 .cases hf
def zFL (xs:List D) (lo hi:Ys):List D:=(xs.drop (HT.sIx xs.length 0 lo)).take (HT.sIx xs.length xs.length hi-HT.sIx xs.length 0 lo)
theorem zMF {L:Yg} {H:Hp} {xs:List D} {vs:List V} {lo hi:Ys} (r:zM L H xs vs):zM L H (zFL xs lo hi) (zJa vs lo hi):=by
 unfold zFL zJa;rw[r.length];exact (r.drop _).take _
def kSl (x:EV) (lo hi:Ys) (M:Mem):Option (EV × Mem):=match zB0 x with
 |some xs=>some (.dat (.tup (zFL xs lo hi)),M)
 |none=>match zA3 M x with
  |some xs=>some (.fl (zFL xs lo hi),M)
  |none=>none
def fSl (f:FE) (fl fh:FO):FE:=λσ M=>match f σ M with
 |some (x,M1)=>match fl σ M1 with
  |some (lo,M2)=>match fh σ M2 with
   |some (hi,M3)=>kSl x lo hi M3
   |none=>none
  |none=>none
 |none=>none
theorem zQb {lo hi:Option Expr} {p2:Pos} {fl fh:FO} (h:QE X e f) (hl:QO X lo fl) (hh:QO X hi fh):QE X (.Subscript e (.Slice lo hi none p2) pos) (fSl f fl fh) :=
 .mk <| PE.imp (zPW (SlR.or zQ5 (SlR.or zS4 zQp)) h.un hl.un hh.un) λτ H Q zz=>by
  obtain ⟨L,σ,M,d,M',c,rs,hf,q⟩:=zz;unfold fSl at hf;split at hf
  .rename_i x M1 e1;split at hf
   .rename_i l M2 e2;split at hf
    .rename_i u M3 e3;refine ⟨L,σ,M,_,_,c,rs,e1,λL1 H1 v s1 c1 r1=>⟨L1,σ,M1,_,_,c1,rs.stp s1,e2,λL2 H2 s2 c2=>⟨L2,σ,M2,_,_,c2,rs.stp (s1.trans s2),e3,λL3 H3 s3 c3=>?_⟩⟩⟩;have s:=(s1.trans s2).trans s3;have r3:zc H L3 H3 x v:=(r1.stp s2).stp s3;unfold kSl at hf;cases t:zB0 x with
     |some xs=>
      rw[t]at hf;cases hf;obtain ⟨a,vs,rfl,e4,r4⟩:=zBF r3 t;by_cases hw:HT.sIx vs.length 0 l=0/\HT.sIx vs.length vs.length u=vs.length
      .refine .inr (.inr ⟨a,vs,rfl,.of e4,hw,?_⟩);have ec:zFL xs l u=xs:=by
        unfold zFL;rw[<-r4.length,hw.1,hw.2,r4.length];simp
       rw[ec]at q;refine q L3 H3 _ s c3 ?_;unfold zc Rep;exact ⟨a,vs,rfl,e4,r4⟩
      .refine .inr (.inl ⟨a,vs,rfl,.of e4,hw,λp hp=>?_⟩);exact q L3 _ _ (s.trans (.upd hp)) (c3.upd hp) (Rep.newTup hp (zMF r4))
     |none=>
      rw[t]at hf;dsimp only at hf;split at hf
      .rename_i xs e4;cases hf;obtain ⟨a,vs,rfl,e5,r5⟩:=zAa c3 r3 e4;refine .inl ⟨a,vs,rfl,.inl e5,λp hp=>?_⟩;exact q L3 _ _ (s.trans (.upd hp)) (c3.upd hp) (zc.newLst s c c3 hp (zMF r5))
      .cases hf
    .cases hf
   .cases hf
  .cases hf
abbrev KB:=List EV->Mem->Option (EV × Mem)
def zFR (K:Yb) (r:List V->Hp->VK->Prop) (k:KB):Prop:=∀ {L:Yg} {M M':Mem} {H H0:Hp} {xs:List EV} {d:EV} {vs:List V} {Q:VK},Cor K L M H->zCd H0 L H xs vs->k xs M=some (d,M') ->
 (∀ L' H' u,Stp L H L' H'->Cor K L' M' H'->zc H L' H' d u->Q u H')->r vs H Q
def fB (k:KB) (f:FAE):FE:=λσ M=>match f σ M with
 |some (xs,M1)=>k xs M1
 |none=>none
theorem zPI {K:Yb} {r:List V->Hp->VK->Prop} {k:KB} {f:FAE} (hk:zFR K r k) {τ:Sv} {H:Hp} {Q:VK} (h:trE K (fB k f) τ H Q):tCB r (zUv K f) τ H Q:=by
 obtain ⟨L,σ,M,d,M',c,rs,hf,q⟩:=h;unfold fB at hf;split at hf
 .rename_i xs M1 e1;refine ⟨L,σ,M,_,_,c,rs,e1,λL1 H1 vs s1 c1 r1=>?_⟩;refine hk c1 r1 hf λL2 H2 u s2 c2 r2=>?_;exact q L2 H2 u (s1.trans s2) c2 (r2.back s1 c s2.sub)
 .cases hf
theorem zCd.one {H0:Hp} {L:Yg} {H:Hp} {x:EV} {vs:List V} (h:zCd H0 L H [x] vs):∃ v,vs=[v]/\zc H0 L H x v:=by
 obtain ⟨v,r,rfl,h1,h2⟩:=h;unfold zCd at h2;subst h2;exact ⟨v,rfl,h1⟩
def zBb:KB:=λxs M=>match xs with
 |[x]=>match zAY M x with
  |some ys=>some (.dat (.int ys.length),M)
  |none=>none
 |_=>none
theorem zRO:zFR X.K (λxs H Q=>∃ p ys,xs=[.ref p]/\(SqL X.K H p ys\/SqT X.K H p ys)/\Q (.int ys.length) H) zBb:=by
 intro L M M' H H0 xs d vs Q c r hk q;unfold zBb at hk;split at hk
 .rename_i x;split at hk
  .rename_i ys e1;cases hk;obtain ⟨v,rfl,r1⟩:=r.one;obtain ⟨a,ws,rfl,hs,r2⟩:=zMJ c r1 e1;refine ⟨a,ws,rfl,hs,q L H _ (.refl L H) c ?_⟩;rw[r2.length];exact (zAM (L:=L) (H:=H))
  .cases hk
 .cases hk
theorem zC9 {x:Str} {p:Pos} {id:String} {r:List V->Hp->VK->Prop} {k:KB} {f:FAE} (hk:zFR X.K r k) (hc:zBz X (.builtin id) r) (hv:bootBuiltins x=some (.builtin id)) (hg:Gl X x) (hm:X.mg x=none) (ha:QAE X (e::es) f) (hn:x ≠ "__name__" := by decide) (hdb:(x==("__debug__" : Str))=false:=by decide)
  (he:starEach (e::es) X.env=(false,eval e X.env)::starEach es X.env:=by rfl) (hpl:(backTo pos (starEach es X.env)).any (·.1)=false:=by rfl):QE X (.Call (.Name x p) (e::es) [] pos) (fB k f) :=
 .mk <| PE.imp (zPE hc hg hm hv ha.un hn hdb he hpl) λ_ _ _ h=>zPI hk h
theorem zGT {x:Str} {p:Pos} {T:String} {r:List V->Hp->VK->Prop} {k:KB} {f:FAE} (hk:zFR X.K r k) (hc:zBz X (.type T) r) (hv:bootBuiltins x=some (.type T)) (hg:Gl X x) (hm:X.mg x=none) (ha:QAE X (e::es) f) (hn:x ≠ "__name__" := by decide) (hdb:(x==("__debug__" : Str))=false:=by decide)
  (he:starEach (e::es) X.env=(false,eval e X.env)::starEach es X.env:=by rfl) (hpl:(backTo pos (starEach es X.env)).any (·.1)=false:=by rfl):QE X (.Call (.Name x p) (e::es) [] pos) (fB k f) :=
 .mk <| PE.imp (zE0 hc hg hm hv ha.un hn hdb he hpl) λ_ _ _ h=>zPI hk h
def zAQ:KB:=λxs M=>match xs with
 |[x]=>match zAY M x with
  |some ys=>some (.dat (.tup ys),M)
  |none=>none
 |_=>none
theorem zNB:zFR X.K (λxs H Q=>∃ p ys,xs=[.ref p]/\((SqL X.K H p ys /\ ∀ l,H l=none->Q (.ref l) (upd H l (.tup ys)))\/(SqT X.K H p ys/\Q (.ref p) H))) zAQ:=by
 intro L M M' H H0 xs d vs Q c r hk q;unfold zAQ at hk;split at hk
 .rename_i x;split at hk
  .rename_i ys e1;cases hk;obtain ⟨v,rfl,r1⟩:=r.one;unfold zAY at e1;cases t:zB0 x with
   |some zs=>
    rw[t]at e1;cases e1;obtain ⟨a,ws,rfl,e2,r2⟩:=zBF r1 t;refine ⟨a,ws,rfl,.inr ⟨.of e2,q L H _ (.refl L H) c ?_⟩⟩;unfold zc Rep;exact ⟨a,ws,rfl,e2,r2⟩
   |none=>
    rw[t]at e1;obtain ⟨a,ws,rfl,e2,r2⟩:=zAa c r1 e1;refine ⟨a,ws,rfl,.inl ⟨.inl e2,λp hp=>?_⟩⟩;exact q L _ _ (.upd hp) (c.upd hp) (Rep.newTup hp r2)
  .cases hk
 .cases hk
end
set_option genInjectivity true in
inductive Out where
 |nx|ret (d:D)|brk|cnt
abbrev FS:=Sd->Mem->Option (Out × Sd × Mem)
def zUl (E:Ends) (L:Yg) (H:Hp) (σ:Sd):Out->Prop
 |.nx=>∀ τ,zBO L H σ τ->E.nx τ H
 |.ret d=>∀ v,Rep L H d v->E.rt v H
 |.brk=>∀ τ,zBO L H σ τ->E.bk τ H
 |.cnt=>∀ τ,zBO L H σ τ->E.ct τ H
def trS (K:Yb) (f:FS):TS:=λE τ H=>∃ L σ M o σ' M',Cor K L M H/\zBO L H σ τ/\f σ M=some (o,σ',M') /\ ∀ L' H',Stp L H L' H'->Cor K L' M' H'->zUl E L' H' σ' o
structure QS (X:Cx) (st:Stmt) (f:FS):Prop where
 un:PS X st (trS X.K f)
structure QSs (X:Cx) (st:Yy) (f:FS):Prop where
 un:PSs X st (trS X.K f)
theorem zBO.set (h:zBO L H σ τ) (r:Rep L H d v):zBO L H (σ.set i (some d)) (τ.set i (some v)):=by
 refine ⟨by simp[h.1],λj e q=>?_⟩;rw[zXF]at q ⊢;split at q
 .rename_i z;subst z;split at q
  .rename_i hl;cases q;rw[zVv rfl,zVv (by rw[h.1];exact hl)];exact ⟨v,rfl,r⟩
  .cases q
 .rename_i z;rw[zVy z];exact h.2 j e q
theorem zJd {K:Yb} {f:FE} {τ:Sv} {H:Hp} {Q:VK} (h:trD K (toD f) τ H Q):trE K f τ H Q:=by
 obtain ⟨L,σ,M,d,M',c,rs,hf,q⟩:=h;unfold toD at hf;split at hf
 .rename_i d' M1 e1;cases hf;exact ⟨L,σ,M,_,_,c,rs,e1,λL' H' v s c' r=>q L' H' v s c' r⟩
 .rename_i xs M1 e1;cases hf;refine ⟨L,σ,M,_,_,c,rs,e1,λL' H' v s c' r=>?_⟩;obtain ⟨p,vs,rfl,e0,e2,e3,r⟩:=r;obtain ⟨c2,s2⟩:=zR2 s c' e0 e2 e3 r;exact q _ H' _ s2 c2 (Rep.last c')
 .cases hf
def zBs:FS:=λσ M=>some (.nx,σ,M)
def zW (f g:FS):FS:=λσ M=>match f σ M with
 |some (.nx,σ1,M1)=>g σ1 M1
 |r=>r
def sIf (c:FT) (f g:FS):FS:=λσ M=>match c σ M with
 |some (true,M1)=>f σ M1
 |some (false,M1)=>g σ M1
 |none=>none
def zAR (f:FE):FS:=λσ M=>match toD f σ M with
 |some (d,M1)=>some (.ret d,σ,M1)
 |none=>none
def zj (i:Nat) (f:FE):FS:=λσ M=>match toD f σ M with
 |some (d,M1)=>some (.nx,σ.set i (some d),M1)
 |none=>none
def zBp (f:FE):FS:=λσ M=>match f σ M with
 |some (_,M1)=>some (.nx,σ,M1)
 |none=>none
section
variable {st:Stmt} {rest:Yy}
theorem zTc:QSs X [] zBs:=.mk <| PSs.imp zQf λE τ H zz=>by
 obtain ⟨L,σ,M,o,σ',M',c,rs,hf,q⟩:=zz;unfold zBs at hf;cases hf;exact q L H (.refl L H) c τ rs
theorem zQn (h1:QS X st f) (h2:QSs X rest g):QSs X (st::rest) (zW f g):=.mk <| PSs.imp (zPM h1.un h2.un) λE τ H zz=>by
 obtain ⟨L,σ,M,o,σ',M',c,rs,hf,q⟩:=zz;unfold zW at hf;split at hf
 .rename_i σ1 M1 e1;refine ⟨L,σ,M,_,_,_,c,rs,e1,λL1 H1 s1 c1 τ1 r1=>⟨L1,σ1,M1,_,_,_,c1,r1,hf,λL2 H2 s2 c2=>q L2 H2 (s1.trans s2) c2⟩⟩
 .rename_i hne;refine ⟨L,σ,M,_,_,_,c,rs,hf,λL1 H1 s1 c1=>?_⟩;have z:=q L1 H1 s1 c1;cases o with
  |nx=>exact absurd hf (hne σ' M')
  |ret d=>exact z
  |brk=>exact z
  |cnt=>exact z
theorem zSW (h1:QS X st f):QSs X [st] f:=.mk <| PSs.imp (zRI h1.un) λ_ _ _ h=>h
theorem zVJ (hc:QT X c fc) (ha:QSs X a f) (hb:QSs X b g):QS X (.If c a b pos) (sIf fc f g):=.mk <| PS.imp (zUb hc.un ha.un hb.un) λE τ H zz=>by
 obtain ⟨L,σ,M,o,σ',M',c,rs,hf,q⟩:=zz;unfold sIf at hf;split at hf
 .rename_i M1 e1;refine ⟨L,σ,M,_,_,c,rs,e1,λL1 H1 s1 c1=>?_⟩;exact zHL ⟨L1,σ,M1,_,_,_,c1,rs.stp s1,hf,λL2 H2 s2 c2=>q L2 H2 (s1.trans s2) c2⟩
 .rename_i M1 e1;refine ⟨L,σ,M,_,_,c,rs,e1,λL1 H1 s1 c1=>?_⟩;exact zG5 ⟨L1,σ,M1,_,_,_,c1,rs.stp s1,hf,λL2 H2 s2 c2=>q L2 H2 (s1.trans s2) c2⟩
 .cases hf
theorem zUo (h:QE X e f):QS X (.Return (some e) pos) (zAR f):=.mk <| PS.imp (zSK (zCh h).un) λE τ H zz=>by
 obtain ⟨L,σ,M,o,σ',M',c,rs,hf,q⟩:=zz;unfold zAR at hf;split at hf
 .rename_i d M1 e1;cases hf;exact ⟨L,σ,M,_,_,c,rs,e1,λL1 H1 v s1 c1 r1=>q L1 H1 s1 c1 v r1⟩
 .cases hf
theorem zGk {K:Yb} {i:Nat} {f:FE} {t:TE} (ht:∀ τ H Q,trE K f τ H Q->t τ H Q) {E:Ends} {τ:Sv} {H:Hp} (h:trS K (zj i f) E τ H):zOS t (zBX i) E τ H:=by
 obtain ⟨L,σ,M,o,σ',M',c,rs,hf,q⟩:=h;unfold zj at hf;split at hf
 .rename_i d M1 e1;cases hf;exact ht _ _ _ (zJd ⟨L,σ,M,_,_,c,rs,e1,λL1 H1 v s1 c1 r1=>q L1 H1 s1 c1 _ ((rs.stp s1).set r1)⟩)
 .cases hf
theorem zUH {i:Nat} {x:Str} {f:FE} {pos':Pos} (hN:X.N.Nodup) (hi:X.N[i]?=some x) (hx:Loc X.env.scope x) (h:QE X e f) (hs:swapsWith e (some (.Name x pos')) pos.line X.env=pure false:=by rfl)
  (hf:X.fn x=true\/X.env.scope.names.lookup x=some .local:=by first|exact .inl rfl|exact .inr rfl|assumption):QS X (.Assign [.Name x pos'] e pos) (zj i f) :=
 .mk <| PS.imp (zTY hN hi hx h.un hs hf) λ_ _ _ z=>zGk (λ_ _ _ z=>z) z
theorem zSx (h:QE X e f) (hs:swapsWith e none pos.line X.env=pure false:=by rfl):QS X (.Expr e pos) (zBp f):=.mk <| PS.imp (zRr h.un hs) λE τ H zz=>by
 obtain ⟨L,σ,M,o,σ',M',c,rs,hf,q⟩:=zz;unfold zBp at hf;split at hf
 .rename_i d M1 e1;cases hf;exact ⟨L,σ,M,_,_,c,rs,e1,λL1 H1 v s1 c1 r1=>q L1 H1 s1 c1 τ (rs.stp s1)⟩
 .cases hf
abbrev FG:=D->Sd->Option Sd
def GOk (g:TG) (fg:FG):Prop:=∀ {L:Yg} {H:Hp} {σ σ':Sd} {τ:Sv} {d:D} {v:V} {Q:Sv->Hp->Prop},zBO L H σ τ->Rep L H d v->fg d σ=some σ'->(∀ τ',zBO L H σ' τ'->Q τ' H)->g v τ H Q
def gN (i:Nat):FG:=λd σ=>some (σ.set i (some d))
theorem zOV:GOk (zBX i) (gN i):=by
 intro L H σ σ' τ d v Q rs r hf q;unfold gN at hf;cases hf;exact q _ (rs.set r)
abbrev FI:=Sd->Mem->Option (List D × Option (Mem->Prop) × Mem)
def zAl (g:Option (Mem->Prop)) (xs:List D) (M:Mem):Prop:=match g with
 |none=>True
 |some p=>p M
def zUK (K:Yb) (J:It) (L:Yg) (H:Hp) (xs:List D) (g:Option (Mem->Prop)):Prop:=∀ L' H' M',Stp L H L' H'->Cor K L' M' H'->zAl g xs M' ->
 (∀ (i:Nat) d,xs[i]?=some d->J.go i H' /\ ∀ v H'',J.yld i H' v H''->(∀ a o,H' a=some o->H'' a=some o)/\Rep L' H'' d v)/\J.stop xs.length H'
def trI (K:Yb) (f:FI):TI:=λτ H R=>∃ L σ M xs g M',Cor K L M H/\zBO L H σ τ/\f σ M=some (xs,g,M') /\ ∀ L' H' J,Stp L H L' H'->Cor K L' M' H'->zUK K J L' H' xs g->R J H'
structure QI (X:Cx) (tg e:Expr) (f:FI):Prop where
 un:PI X tg e (trI X.K f)
theorem PI.imp (h:PI X tg e t) (hi:∀ τ H R,t' τ H R->t τ H R):PI X tg e t':=λzB s σ H R I q=>h zB s σ H R I (hi _ _ _ q)
def zCc (g:FG) (b:FS) (all:List D) (gd:Option (Mem->Prop)):List D->Sd->Mem->Option (Out × Sd × Mem)
 |[],σ,M=>open Classical in if zAl gd all M then some (.nx,σ,M) else none
 |x::r,σ,M=>open Classical in if zAl gd all M then match g x σ with
   |some σ1=>match b σ1 M with
    |some (.nx,σ2,M2)=>zCc g b all gd r σ2 M2
    |some (.cnt,σ2,M2)=>zCc g b all gd r σ2 M2
    |some (.brk,σ2,M2)=>some (.nx,σ2,M2)
    |some (.ret d,σ2,M2)=>some (.ret d,σ2,M2)
    |none=>none
   |none=>none
  else none
def zCl (fi:FI) (g:FG) (b:FS):FS:=λσ M=>match fi σ M with
 |some (xs,gd,M1)=>zCc g b xs gd xs σ M1
 |none=>none
theorem zCB {α:Type} {xs:List α} (h:i<xs.length):xs.drop i=xs[i]::xs.drop (i+1):=List.drop_eq_getElem_cons h
theorem Stp.yld (s:Stp L H L' H') (h:∀ a o,H' a=some o->H'' a=some o):Stp L H L' H'':=s.trans (.grow h)
theorem zPm {K:Yb} {fi:FI} {g:TG} {fg:FG} {b:FS} (hg:GOk g fg) {E:Ends} {τ:Sv} {H:Hp} (h:trS K (zCl fi fg b) E τ H):zT5 (trI K fi) g (trS K b) E τ H:=by
 obtain ⟨L,σ,M,o,σf,Mf,c,rs,hf,q⟩:=h;unfold zCl at hf;split at hf
 .rename_i xs gd M1 e1;refine ⟨L,σ,M,_,_,_,c,rs,e1,λL1 H1 J s1 c1 it=>?_⟩
  refine ⟨λi m τ' H'=>m=xs.length-i/\i<=xs.length /\ ∃ L' σ' M',Stp L1 H1 L' H'/\Cor K L' M' H'/\zBO L' H' σ' τ'/\zCc fg b xs gd (xs.drop i) σ' M'=some (o,σf,Mf),
   ⟨xs.length,by simp,zWS _,L1,σ,M1,.refl _ _,c1,rs.stp s1,by simpa using hf⟩,?_⟩
  rintro i m τ' H' ⟨rfl,hi,L',σ',M',s',c',rs',e'⟩;by_cases hlt:i<xs.length
  .rw[zCB hlt]at e';unfold zCc at e';split at e'
   .rename_i hgd;obtain ⟨step,_⟩:=it L' H' M' s' c' hgd;obtain ⟨go,yl⟩:=step i xs[i] (zVk hlt);cases eg:fg xs[i] σ' with
    |none=>rw[eg]at e';cases e'
    |some σ1=>
     rw[eg]at e';dsimp only at e';refine .inr ⟨go,λτ2 H2=>∃ L2 σ2 M2,Stp L1 H1 L2 H2/\Cor K L2 M2 H2/\zBO L2 H2 σ2 τ2/\zCc fg b xs gd (xs.drop (i+1)) σ2 M2=some (o,σf,Mf),λτ2 H2 ⟨L2,σ2,M2,a1,a2,a3,a4⟩=>⟨xs.length-(i+1),by omega,rfl,hlt,L2,σ2,M2,a1,a2,a3,a4⟩,λv H2 hy=>?_⟩;obtain ⟨gr,rv⟩:=yl v H2 hy;refine hg (zBO.stp (.grow gr) rs') rv eg λτ2 r2=>?_;cases eb:b σ1 M' with
     |none=>rw[eb]at e';cases e'
     |some r=>
      obtain ⟨o2,σ2,M2⟩:=r;rw[eb]at e';refine ⟨L',σ1,M',_,_,_,c'.grow gr,r2,eb,λL3 H3 s3 c3=>?_⟩;have s13:Stp L1 H1 L3 H3:=(s'.yld gr).trans s3;cases o2 with
      |nx=>exact λτ3 r3=>⟨L3,σ2,M2,s13,c3,r3,e'⟩
      |cnt=>exact λτ3 r3=>⟨L3,σ2,M2,s13,c3,r3,e'⟩
      |brk=>cases e';exact q L3 H3 (s1.trans s13) c3
      |ret d=>cases e';exact q L3 H3 (s1.trans s13) c3
   .cases e'
  .have hi':i=xs.length:=by omega
   subst hi';rw[List.drop_length]at e';unfold zCc at e';split at e'
   .rename_i hgd;cases e';obtain ⟨_,stop⟩:=it L' H' _ s' c' hgd;exact .inl ⟨stop,q L' H' (s1.trans s') c' τ' rs'⟩
   .cases e'
 .cases hf
theorem zRz (hg:GOk g fg) (hp:PassesOwn (model X.prog X.w) X.A X.env X.xe) (hc:X.calm=true) (hi:QI X tg iter fi) (ht:PG X tg g) (hb:QSs X body b)
  (hs:∀ x,foldedSetIterable iter X.env x=pure x:=by intro _;rfl):QS X (.For tg iter body [] pos) (zCl fi fg b):=.mk <| PS.imp (zTZ hp hc hi.un ht hb.un hs) λ_ _ _ h=>zPm hg h
end
section
def zA4 (c:FT) (b:FS):Nat->Sd->Mem->Option (Out × Sd × Mem)
 |0,_,_=>none
 |n+1,σ,M=>match c σ M with
  |some (true,M1)=>match b σ M1 with
   |some (.nx,σ2,M2)=>zA4 c b n σ2 M2
   |some (.cnt,σ2,M2)=>zA4 c b n σ2 M2
   |some (.brk,σ2,M2)=>some (.nx,σ2,M2)
   |some (.ret d,σ2,M2)=>some (.ret d,σ2,M2)
   |none=>none
  |some (false,M1)=>some (.nx,σ,M1)
  |none=>none
theorem zLS {K:Yb} {fc:FT} {b:FS} {n:Nat} {E:Ends} {τ:Sv} {H:Hp} (h:trS K (zA4 fc b n) E τ H):zPv (trT K fc) (trS K b) E τ H:=by
 obtain ⟨L,σ,M,o,σf,Mf,c,rs,hf,q⟩:=h;refine ⟨λm τ' H'=>∃ L' σ' M',Stp L H L' H'/\Cor K L' M' H'/\zBO L' H' σ' τ'/\zA4 fc b m σ' M'=some (o,σf,Mf),⟨n,L,σ,M,.refl _ _,c,rs,hf⟩,?_⟩;rintro m τ' H' ⟨L',σ',M',s',c',rs',e'⟩;cases m with
 |zero=>unfold zA4 at e';cases e'
 |succ m=>
  unfold zA4 at e';split at e'
  .rename_i M1 e1;refine ⟨L',σ',M',_,_,c',rs',e1,λL1 H1 s1 c1=>zHL ?_⟩;refine ⟨λτ2 H2=>∃ L2 σ2 M2,Stp L H L2 H2/\Cor K L2 M2 H2/\zBO L2 H2 σ2 τ2/\zA4 fc b m σ2 M2=some (o,σf,Mf),λτ2 H2 h2=>⟨m,zWd m,h2⟩,?_⟩;cases eb:b σ' M1 with
   |none=>rw[eb]at e';cases e'
   |some r=>
    obtain ⟨o2,σ2,M2⟩:=r;rw[eb]at e';refine ⟨L1,σ',M1,_,_,_,c1,rs'.stp s1,eb,λL3 H3 s3 c3=>?_⟩;have s13:Stp L H L3 H3:=(s'.trans s1).trans s3;cases o2 with
    |nx=>exact λτ3 r3=>⟨L3,σ2,M2,s13,c3,r3,e'⟩
    |cnt=>exact λτ3 r3=>⟨L3,σ2,M2,s13,c3,r3,e'⟩
    |brk=>cases e';exact q L3 H3 s13 c3
    |ret d=>cases e';exact q L3 H3 s13 c3
  .rename_i M1 e1;cases e';exact ⟨L',_,M',_,_,c',rs',e1,λL1 H1 s1 c1=>zG5 (q L1 H1 (s'.trans s1) c1 τ' (rs'.stp s1))⟩
  .cases e'
theorem zRk (n:Nat) (hp:PassesOwn (model X.prog X.w) X.A X.env X.xe) (hc:QT X c fc) (hb:QSs X body b):QS X (.While c body [] pos) (zA4 fc b n) :=
 .mk <| PS.imp (zNp hp hc.un hb.un) λ_ _ _ h=>zLS h
def zA7 (own:Yj) (σ:Sd):Sd:=own.foldl (λσ i=>σ.set i none) σ
theorem zD2:∀ (own:Yj) {σ:Sd} {τ:Sv},zBO L H σ τ->zBO L H (zA7 own σ) (clr own τ)
 |[],_,_,h=>h
 |i::r,σ,τ,h=>by
  refine zD2 r (σ:=σ.set i none) (τ:=τ.set i none) ⟨by simp[h.1],λj d q=>?_⟩;rw[zXF]at q ⊢;split at q
  .split at q <;> cases q
  .rename_i z;rw[zVy z];exact h.2 j d q
def zAo (g:FG) (tc:FT) (te:FE) (σ:Sd) (all:List D) (gd:Option (Mem->Prop)):List D->Mem->Option (List D × Mem)
 |[],M=>open Classical in if zAl gd all M then some ([],M) else none
 |x::r,M=>open Classical in if zAl gd all M then match g x σ with
   |some σ1=>match tc σ1 M with
    |some (true,M1)=>match toD te σ1 M1 with
     |some (d,M2)=>match zAo g tc te σ all gd r M2 with
      |some (ds,M3)=>some (d::ds,M3)
      |none=>none
     |none=>none
    |some (false,M1)=>zAo g tc te σ all gd r M1
    |none=>none
   |none=>none
  else none
def zq (own:Yj) (fi:FI) (g:FG) (tc:FT) (te:FE):FE:=λσ M=>match fi σ M with
 |some (xs,gd,M1)=>if xs.length<=sizeLine then match zAo g tc te (zA7 own σ) xs gd xs M1 with
   |some (ys,M2)=>some (.fl ys,M2)
   |none=>none
  else none
 |none=>none
def zEK (own:Yj) (g:TG) (fg:FG):Prop:=∀ {L:Yg} {H:Hp} {σ σ':Sd} {τ τ0:Sv} {d:D} {v:V} {Q:Sv->Hp->Prop},zBO L H σ τ->Ext (clr own τ0) τ->Rep L H d v->fg d σ=some σ'->(∀ τ',zBO L H σ' τ'->Ext (clr own τ0) τ'->Q τ' H)->g v τ H Q
theorem zBK (hi:i∈own):zEK own (zBX i) (gN i):=by
 intro L H σ σ' τ τ0 d v Q rs ex r hf q;unfold gN at hf;cases hf;exact q _ (rs.set r) (ex.set hi)
theorem zHl {K:Yb} {own:Yj} {fi:FI} {g:TG} {fg:FG} {tc:FT} {te:FE} (hg:zEK own g fg) {τ:Sv} {H:Hp} {Q:VK} (h:trE K (zq own fi fg tc te) τ H Q):zPZ own (trI K fi) g (trT K tc) (trD K (toD te)) τ H Q:=by
 obtain ⟨L,σ,M,d,Mf,c,rs,hf,q⟩:=h;unfold zq at hf;split at hf
 .rename_i xs gd M1 e1;split at hf
  .rename_i hz;split at hf
   .rename_i zs M2 e2;cases hf;refine ⟨L,σ,M,_,_,_,c,rs,e1,λL1 H1 J s1 c1 it=>?_⟩
    refine ⟨λi m ys H'=>m=xs.length-i/\i<=xs.length /\ ∃ L' M' as bs,Stp L1 H1 L' H'/\Cor K L' M' H'/\zM L' H' as ys/\as.length<=i/\zAo fg tc te (zA7 own σ) xs gd (xs.drop i) M'=some (bs,Mf)/\as++bs=zs,
     ⟨xs.length,by simp,zWS _,L1,M1,[],zs,.refl _ _,c1,.nil,zVm _,by simpa using e2,rfl⟩,?_⟩
    rintro i m ys H' ⟨rfl,hi,L',M',as,bs,s',c',r',hl,e',hab⟩;have hys:ys.length<=i:=by rw[r'.length];exact hl
    by_cases hlt:i<xs.length
    .rw[zCB hlt]at e';unfold zAo at e';split at e'
     .rename_i hgd;obtain ⟨step,_⟩:=it L' H' M' s' c' hgd;obtain ⟨go,yl⟩:=step i xs[i] (zVk hlt);split at e'
      .rename_i σ1 eg;refine .inr ⟨go,λv H2 hy=>?_⟩;obtain ⟨gr,rv⟩:=yl v H2 hy;have s2:Stp L1 H1 L' H2:=s'.yld gr;refine hg (zD2 own ((rs.stp s1).stp s2)) (.refl _) rv eg λτ2 r2 x2=>⟨x2,?_⟩;split at e'
       .rename_i M3 e3;split at e'
        .rename_i d M4 e4;split at e'
         .rename_i ds M5 e5;cases e';refine ⟨L',σ1,M',_,_,c'.grow gr,r2,e3,λL3 H3 s3 c3=>zHL ?_⟩;refine ⟨L3,σ1,M3,_,_,c3,r2.stp s3,e4,λL4 H4 w s4 c4 r4=>?_⟩;have st:Stp L' H' L4 H4:=((Stp.grow gr).trans s3).trans s4;refine ⟨Nat.lt_of_le_of_lt hys (zV5 hlt hz),xs.length-(i+1),by omega,rfl,hlt,L4,M4,as++[d],ds,s'.trans st,c4,(r'.stp st).app (.cons r4 .nil),by simp;omega,e5,by rw[<-hab];simp⟩
         .cases e'
        .cases e'
       .rename_i M3 e3;refine ⟨L',σ1,M',_,_,c'.grow gr,r2,e3,λL3 H3 s3 c3=>zG5 ?_⟩;have st:Stp L' H' L3 H3:=(Stp.grow gr).trans s3;exact ⟨xs.length-(i+1),by omega,rfl,hlt,L3,M3,as,bs,s'.trans st,c3,r'.stp st,by omega,e',hab⟩
       .cases e'
      .cases e'
     .cases e'
    .have hi':i=xs.length:=by omega
     subst hi';rw[List.drop_length]at e';unfold zAo at e';split at e'
     .rename_i hgd;cases e';obtain ⟨_,stop⟩:=it L' H' _ s' c' hgd;refine .inl ⟨stop,zV7 hys hz,λp hp=>?_⟩;rw[zWQ]at hab;subst hab;exact q L' _ _ ((s1.trans s').trans (.upd hp)) (c'.upd hp) (zc.newLst (s1.trans s') c c' hp r')
     .cases e'
   .cases hf
  .cases hf
 .cases hf
structure QIfs (X:Cx) (ifs:Yi) (f:FT):Prop where
 un:zFi X ifs (trT X.K f)
def zh:FT:=λ_ M=>some (true,M)
theorem zTb:QIfs X [] zh:=.mk λzB s σ H Q I h=>by
 obtain ⟨L,σ',M,d,M',c,rs,hf,q⟩:=h;unfold zh at hf;cases hf;exact zO6 zB s σ H Q I (q L H (.refl L H) c)
theorem zS6 (h:QT X c f):QIfs X [c] f:=.mk (zOj h.un)
structure QParts (X:Cx) (scope:Y0) (tg:Expr) (ifs:Yi) (elt:Expr) (g:TG) (tc:FT) (te:FE):Prop where
 g:∀ zB cl s H fp,PG (zJ X zB scope cl s H fp) tg g
 c:∀ zB cl s H fp,QIfs (zJ X zB scope cl s H fp) ifs tc
 e:∀ zB cl s H fp,QE (zJ X zB scope cl s H fp) elt te
theorem QParts.parts {g:TG} {tc:FT} {te:FE} (p:QParts X scope tg ifs elt g tc te):CompParts X scope tg ifs elt g (trT X.K tc) (trD X.K (toD te)) :=
 ⟨p.g,λzB cl s H fp=>(p.c zB cl s H fp).un,λzB cl s H fp=>(zCh (p.e zB cl s H fp)).un⟩
theorem zIe (hg:zEK own g fg) (C:CompIn X scope own) (hcalm:X.calm=true) (hi:QI X tg iter fi) (p:QParts X scope tg ifs elt g tc te) (hs:∀ x,foldedSetIterable iter X.env x=pure x:=by intro _;rfl) :
  QE X (.ListComp elt [⟨tg,iter,ifs,0⟩] scope pos) (zq own fi fg tc te):=.mk <| PE.imp (zRC C hcalm hi.un p.parts hs) λ_ _ _ h=>zHl hg h
theorem zNh (hN:X.N.Nodup) (hi':X.N[i]?=some x) (hx:Loc X.env.scope x) (hfn:X.fn x=true\/X.env.scope.names.lookup x=some .local)
  (hsw:swapsWith (.ListComp elt [⟨tg,iter,ifs,0⟩] scope pos) (some (.Name x pos')) pos''.line X.env=pure true)
  (hg:zEK own g fg) (C:CompIn X scope own) (hcalm:X.calm=true) (hi:QI X tg iter fi) (p:QParts X scope tg ifs elt g tc te) (hs:∀ x,foldedSetIterable iter X.env x=pure x:=by intro _;rfl) :
  QS X (.Assign [.Name x pos'] (.ListComp elt [⟨tg,iter,ifs,0⟩] scope pos) pos'') (zj i (zq own fi fg tc te)) :=
 .mk <| PS.imp (zLa hN hi' hx hfn C hcalm hi.un p.parts hsw hs) λ_ _ _ z=>zGk (λ_ _ _ z=>zHl hg z) z
end
abbrev FF:=List D->Mem->Option (D × Mem)
def spF (K:Yb) (n:Nat) (g:FF):Sp:=λvs H Q _=>∃ L ds M d M',Cor K L M H/\zM L H ds vs/\ds.length=n/\g ds M=some (d,M') /\ ∀ L' H' v,Stp L H L' H'->Cor K L' M' H'->Rep L' H' d v->Q v H'
def zL (g:FF) (fa:FA):FE:=λσ M=>match fa σ M with
 |some (ds,M1)=>match g ds M1 with
  |some (d,M2)=>some (.dat d,M2)
  |none=>none
 |none=>none
section
theorem zTT (F:FnOk X.prog X.w X.K X.mg X.base CX0 k f fd ps (spF X.K (e::es).length g)) (hr:Room k X.A) (hg:Gl X x) (hm:X.mg x=some (.ref f)) (hk:PySem.W.keepIn X.K (.ref f)=true) (hb:zGC X.K fd ps [])
  (ha:QA X (e::es) fa) (hl:∀ σ M ds M1,fa σ M=some (ds,M1)->ds.length=(e::es).length) (hdb:(x==("__debug__" : Str))=false:=by decide) (he:starEach (e::es) X.env=(false,eval e X.env)::starEach es X.env:=by rfl) (hpl:(backTo pos (starEach es X.env)).any (·.1)=false:=by rfl) :
  QE X (.Call (.Name x p) (e::es) [] pos) (zL g fa) :=
 .mk <| PE.imp (zQX F hr hg hm hk hb .nil zUa ha.un hdb he hpl) λτ H Q zz=>by
  obtain ⟨L,σ,M,d,M',c,rs,hf,q⟩:=zz;unfold zL at hf;split at hf
  .rename_i ds M1 e1;split at hf
   .rename_i d' M2 e2;cases hf;refine ⟨L,σ,M,_,_,c,rs,e1,λL1 H1 vs s1 c1 r1=>?_⟩;dsimp only;rw[zWQ];exact ⟨L1,ds,M1,d',_,c1,r1,hl _ _ _ _ e1,e2,λL2 H2 v s2 c2 r2=>q L2 H2 v (s1.trans s2) c2 r2⟩
   .cases hf
  .cases hf
def zRQ (fa:FA) (n:Nat):Prop:=∀ σ M ds M1,fa σ M=some (ds,M1)->ds.length=n
theorem zPG:zRQ zH 0:=λσ M ds M1 h=>by unfold zH at h;cases h;rfl
theorem zNP {f:FD} {g:FA} {n:Nat} (h:zRQ g n):zRQ (zD f g) (n+1):=λσ M ds M1 q=>by
 unfold zD at q;split at q
 .split at q
  .rename_i e2;cases q;simp[h _ _ _ _ e2]
  .cases q
 .cases q
def zBI (n:Nat) (b:FS):FF:=λds M=>match b (ds.map some++List.replicate (n-ds.length) none) M with
 |some (.ret d,_,M')=>some (d,M')
 |some (.nx,_,M')=>some (.non,M')
 |_=>none
theorem zHs:∀ {ds:List D} {vs:List V},zM L H ds vs->zBO L H (ds.map some++List.replicate (N.length-ds.length) none) (L2.zD6 N vs):=λ{ds vs} r=>by
 unfold L2.zD6;have hl:=r.length;refine ⟨by simp[hl],λi d q=>?_⟩;by_cases hi:i<ds.length
 .rw[zVn (by simpa using hi),zV3]at q;rw[zVn (by simpa [hl] using hi),zV3];cases e1:ds[i]? with
  |none=>rw[e1]at q;cases q
  |some d'=>
   rw[e1]at q;cases q;obtain ⟨v,e2,r2⟩:=r.get e1;exact ⟨v,by rw[e2];rfl,r2⟩
 .rw[zWq (by simpa using hi),List.getElem?_replicate]at q;split at q <;> cases q
theorem zy {P:Ym} {w:Yo} {K:Yb} {mg:Yh} {base:Heap} {qual:Str} {st:Stmt} {N:Yk} {b:FS} {n:Nat} (F:Fun K x qual st f fd) (S:FnScope N ps (zP st)) (hn:ps.length=n)
  (hb:∀ (cdv:Yu) (A:Yn) (outer:List Env) (s:Yl) (H:Hp) (E:XK),Room k (A.deeper (envOfC qual (zP st) s.heap.objs.size f cdv))->QSs (zK8 CX0 P w K mg base N qual (zP st) f cdv A outer s H E).nox (zCi st) b) :
  FnOk P w K mg base CX0 (k+1) f fd ps (spF K n (zBI N.length b)):=by
 refine F.ok S (λvs H Q E h=>?_) (λcdv A outer s H vs Q E hr h=>⟨_,(hb cdv A outer s H E hr).un,?_⟩)
 .obtain ⟨L,ds,M,d,M',c,r,hl,_⟩:=h;rw[r.length,hl,hn]
 .obtain ⟨L,ds,M,d,M',c,r,hl,hf,q⟩:=h;unfold zBI at hf;split at hf
  .rename_i d' σ' M1 e1;cases hf;exact ⟨L,_,M,_,_,_,c,zHs r,e1,λL1 H1 s1 c1 v r1=>q L1 H1 v s1 c1 r1⟩
  .rename_i σ' M1 e1;cases hf;exact ⟨L,_,M,_,_,_,c,zHs r,e1,λL1 H1 s1 c1 τ' r1=>q L1 H1 .non s1 c1 (by unfold Rep;rfl)⟩
  .cases hf
mutual
def D.und (n:Nat):D->Bool
 |.tup ds=>D.unds n ds
 |.ref k=>decide (k<n)
 |_=>true
def D.unds (n:Nat):List D->Bool
 |[]=>true
 |d::ds=>D.und n d&&D.unds n ds
end
mutual
theorem Rep.less:∀ {d:D} {v:V},D.und L.length d=true->Rep (L++N) H d v->Rep L H d v
 |.non,_,_,h=>by unfold Rep at h ⊢;exact h
 |.bl _,_,_,h=>by unfold Rep at h ⊢;exact h
 |.int _,_,_,h=>by unfold Rep at h ⊢;exact h
 |.str _,_,_,h=>by unfold Rep at h ⊢;exact h
 |.tup ds,_,hb,h=>by
  unfold D.und at hb;unfold Rep at h ⊢;obtain ⟨a,vs,rfl,e,r⟩:=h;exact ⟨a,vs,rfl,e,zM.less hb r⟩
 |.ref n,_,hb,h=>by
  unfold D.und at hb;unfold Rep at h ⊢;obtain ⟨a,rfl,e⟩:=h;exact ⟨a,rfl,by rwa [zVn (zWc hb)]at e⟩
theorem zM.less:∀ {ds:List D} {vs:List V},D.unds L.length ds=true->zM (L++N) H ds vs->zM L H ds vs
 |[],_,_,h=>by unfold zM at h ⊢;exact h
 |d::ds,_,hb,h=>by
  unfold D.unds at hb;rw[zWG]at hb;unfold zM at h ⊢;obtain ⟨v,r,rfl,h1,h2⟩:=h;exact ⟨v,r,rfl,Rep.less hb.1 h1,zM.less hb.2 h2⟩
end
theorem zAe.less {κ:Type} {kf:D->Option κ} {L N:Yg} {H:Hp}:∀ {ps:List (D × D)} {vs:List (κ × V)},(ps.all λp=>D.und L.length p.1&&D.und L.length p.2)=true->zAe kf (L++N) H ps vs->zAe kf L H ps vs
 |[],_,_,h=>h
 |p::r,_,hb,h=>by
  rw[List.all_cons,zWG,zWG]at hb;obtain ⟨k,v,r',rfl,e,h1,h2⟩:=h;exact ⟨k,v,r',rfl,e,Rep.less hb.1.2 h1,zAe.less hb.2 h2⟩
def MO.und (n:Nat):MO->Bool
 |.lst xs=>D.unds n xs
 |.fro xs=>D.unds n xs
 |.dict kvs=>kvs.all λp=>D.und n p.1&&D.und n p.2
 |.dicT kvs=>kvs.all λp=>D.und n p.1&&D.und n p.2
 |.set xs=>D.unds n xs
 |.froT kvs=>kvs.all λp=>D.und n p.1&&D.und n p.2
 |.froK kvs=>kvs.all λp=>D.und n p.1&&D.und n p.2
def zKN (g:FF):FF:=λds M=>match g ds M with
 |some (d,M')=>if D.und M.length d&&(M'.take M.length).all (MO.und M.length)&&decide (M.length<=M'.length) then some (d,M'.take M.length) else none
 |none=>none
theorem zQP {P:Ym} {w:Yo} {K:Yb} {mg:Yh} {base:Heap} {n:Nat} {g:FF} (h:FnOk P w K mg base CX0 k f fd ps (spF K n g)):FnOk P w K mg base CX0 k f fd ps (spF K n (zKN g)) :=
 h.imp λvs H Q E ⟨L,ds,M,d,M',c,r,hl,hf,q⟩=>by
  unfold zKN at hf;split at hf
  .rename_i d' M1 e1;split at hf
   .rename_i hb;cases hf;simp only[zWG,zWt,zWH]at hb;obtain ⟨⟨hb1,hb2⟩,hb3⟩:=hb;refine ⟨L,ds,M,_,_,c,r,hl,e1,λL1 H1 v s1 c1 r1=>?_⟩;obtain ⟨N,rfl⟩:=s1.pre;rw[<-c.len]at hb1 hb2 hb3;refine q L H1 v ⟨⟨[],by simp⟩,λa ha=> .inl ha,s1.old,s1.tup,s1.frz⟩ ⟨?_,?_,λi a m e2 e3=>?_⟩ (Rep.less hb1 r1)
    .rw[zW4,<-c.len];omega
    .exact (zWu.mp c1.nd).1
    .rw[<-c.len]at e3;have hi:i<L.length:=(zVj.mp e2).1;have hm:m∈M1.take L.length:=zWX e3;rw[List.getElem?_take_of_lt hi]at e3;have z:=c1.obj i a m (zBi e2) e3;have bl:=hb2 m hm;cases m with
     |lst xs=>obtain ⟨ws,e4,r4⟩:=z;exact ⟨ws,e4,zM.less bl r4⟩
     |fro xs=>obtain ⟨o,ws,e4,r4⟩:=z;exact ⟨o,ws,e4,zM.less bl r4⟩
     |dict ps=>obtain ⟨vs,e,r⟩:=z;exact ⟨vs,e,zAe.less bl r⟩
     |dicT ps=>obtain ⟨vs,e,r⟩:=z;exact ⟨vs,e,zAe.less bl r⟩
     |set _=>exact z
     |froT ps=>obtain ⟨o,vs,e,r⟩:=z;exact ⟨o,vs,e,zAe.less bl r⟩
     |froK ps=>obtain ⟨o,vs,e,r⟩:=z;exact ⟨o,vs,e,zAe.less bl r⟩
   .cases hf
  .cases hf
def zCf (g:FF):FF:=λds M=>if D.unds 0 ds then match g ds [] with
  |some (d,_)=>if D.und 0 d then some (d,M) else none
  |none=>none
 else none
theorem zBk {P:Ym} {w:Yo} {K:Yb} {mg:Yh} {base:Heap} {n:Nat} {g:FF} (h:FnOk P w K mg base CX0 k f fd ps (spF K n g)):FnOk P w K mg base CX0 k f fd ps (spF K n (zCf g)) :=
 h.imp λvs H Q E ⟨L,ds,M,d,M',c,r,hl,hf,q⟩=>by
  unfold zCf at hf;split at hf
  .rename_i hb0;split at hf
   .rename_i d' M1 e1;split at hf
    .rename_i hb;cases hf;refine ⟨[],ds,[],_,_,⟨rfl,.nil,λi a m e=>by simp at e⟩,zM.less (L:=[]) (N:=L) hb0 (by simpa using r),hl,e1,λL1 H1 v s1 c1 r1=>?_⟩;have gr:∀ a o,H a=some o->H1 a=some o:=λa o e=>s1.old a o e (by simp);exact q L H1 v (.grow gr) (c.grow gr) ((Rep.less (L:=[]) (N:=L1) hb (by simpa using r1)).more L |> λz=>by simpa using z)
    .cases hf
   .cases hf
  .cases hf
theorem zTX (hl:PE X l tl):PI X tg l (λσ H R=>tl σ H λx H1=>∃ a,x=.ref a/\((∃ xs,SqL X.K H1 a xs)/\R (Itl X.K a) H1\/(∃ xs,SqT X.K H1 a xs)/\R (Itt X.K a) H1)):=by
 intro zB s σ H R I h;refine thn (hl zB s σ H _ I h) λv s1 ⟨y,H1,I1,r1,a,hy,h1⟩=>?_;subst hy;cases r1;have fpk:∀ b∈[s1.heap.objs.size],zB5 X zB H1 b:=λb hb=>by
  have e:b=s1.heap.objs.size:=by simpa using hb
  subst e;exact I1.fpOk (zVm _) (I1.hok.fresh (zVm _))
 rcases h1 with ⟨⟨xs,hq⟩,q⟩|⟨⟨xs,hq⟩,q⟩
 .obtain ⟨its,rv,pl,hz⟩:=I1.list hq;exact wpAny_pyIter_list pl.isList ⟨s1.heap.objs.size,[s1.heap.objs.size],_,_,H1,rfl,I1.kept (t':=s1.toks) λb o e=>zVh _ e,zMt a _,⟨_,zVq _ rfl,rfl,rfl⟩,fpk,q⟩
 .obtain ⟨its,rv,pl,hz⟩:=I1.tuple hq;exact wpAny_pyIter_tuple (show s1.heap.IsTuple a its.toArray from pl) ⟨s1.heap.objs.size,[s1.heap.objs.size],_,_,H1,rfl,I1.kept (t':=s1.toks) λb o e=>zVh _ e,zKm a _,⟨_,zVq _ rfl,rfl,rfl⟩,fpk,q⟩
def zEH (x:EV) (xs:List D):Option (Mem->Prop):=match x with
 |.dat (.ref n)=>some λM=>M[n]?=some (.lst xs)\/M[n]?=some (.fro xs)
 |_=>none
def zAK (f:FE):FI:=λσ M=>match f σ M with
 |some (x,M1)=>match zAY M1 x with
  |some xs=>some (xs,zEH x xs,M1)
  |none=>none
 |none=>none
def zAC (f:FA):FI:=λσ M=>match f σ M with
 |some ([.int j],M1)=>if -(2 ^ 62)<=j/\j<2 ^ 62 then some ((List.range j.toNat).map λ(k:Nat)=>D.int k,none,M1) else none
 |some ([.int i,.int j],M1)=>if -(2 ^ 62)<=i/\i<2 ^ 62 /\ -(2 ^ 62)<=j/\j<2 ^ 62 then some ((List.range (j-i).toNat).map λ(k:Nat)=>D.int (i+k),none,M1) else none
 |_=>none
theorem zTA (h:QE X e g):QI X tg e (zAK g):=.mk <| PI.imp (zTX h.un) λτ H R zz=>by
 obtain ⟨L,σ,M,xs,gd,M',c,rs,hf,q⟩:=zz;unfold zAK at hf;split at hf
 .rename_i y M1 e1;split at hf
  .rename_i zs e2;cases hf;refine ⟨L,σ,M,_,_,c,rs,e1,λL1 H1 v s1 c1 r1=>?_⟩;unfold zAY at e2;cases t:zB0 y with
   |some ws=>
    rw[t]at e2;cases e2;obtain ⟨a,vs,rfl,e3,r3⟩:=zBF r1 t;refine ⟨a,rfl,.inr ⟨⟨vs,.of e3⟩,q L1 H1 _ s1 c1 λL2 H2 M2 s2 c2 _=>?_⟩⟩;have e4:=s2.tup a vs e3;have r4:=r3.stp s2;refine ⟨λi d hd=>?_,⟨vs,.of e4,by rw[r4.length];exact zVm _⟩⟩;obtain ⟨u,hu,ru⟩:=r4.get hd;refine ⟨⟨vs,u,.of e4,hu⟩,λv H3 ⟨hH,hv⟩=>?_⟩;subst hH;have:=hv vs (.of e4);rw[hu]at this;cases this;exact ⟨λ_ _ z=>z,ru⟩
   |none=>
    rw[t]at e2;obtain ⟨a,vs,rfl,e3,r3⟩:=zAa c1 r1 e2;refine ⟨a,rfl,.inl ⟨⟨vs,.inl e3⟩,q L1 H1 _ s1 c1 λL2 H2 M2 s2 c2 hgd=>?_⟩⟩;have key:∃ vs',SqL X.K H2 a vs'/\zM L2 H2 xs vs':=by
     cases y with
     |fl ys=>
      cases e2;obtain ⟨p',vs',hp',_,e5,e6,r6⟩:=r1;cases hp';exact ⟨vs',.of (s2.old _ _ e5 e6),r6.stp s2⟩
     |dat d=>
      cases d with
      |ref n=>
       unfold zc Rep at r1;obtain ⟨a',ha',e5⟩:=r1;cases ha';have e6:L2[n]?=some a:=by obtain ⟨N,hN⟩:=s2.pre;rw[hN];exact zBi e5
       rcases hgd with z|z
       .obtain ⟨vs',e7,r7⟩:=c2.obj n a _ e6 z;exact ⟨vs',.of e7,r7⟩
       .obtain ⟨o,vs',e7,r7⟩:=c2.obj n a _ e6 z;exact ⟨vs',.inl (.inr ⟨o,e7⟩),r7⟩
      |_=>cases e2
    obtain ⟨vs',hq,r7⟩:=key;refine ⟨λi d hd=>?_,⟨vs',hq,by rw[r7.length];exact zVm _⟩⟩;obtain ⟨u,hu,ru⟩:=r7.get hd;refine ⟨⟨vs',u,hq,hu⟩,λv H3 ⟨hH,hv⟩=>?_⟩;subst hH;have:=hv vs' hq;rw[hu]at this;cases this;exact ⟨λ_ _ z=>z,ru⟩
  .cases hf
 .cases hf
theorem zH6 (h:zM L H [.int j] vs):vs=[.int j]:=by
 unfold zM at h;obtain ⟨v,r,rfl,h1,h2⟩:=h;unfold zM at h2;unfold Rep at h1;subst h1 h2;rfl
theorem zOm {K:Yb} {L:Yg} {H:Hp} {lo:Int} {n:Nat}:zUK K (Itr lo n) L H ((List.range n).map λ(k:Nat)=>D.int (lo+k)) none:=by
 intro L' H' M' s c _;refine ⟨λi d hd=>?_,by simp[Itr]⟩;rw[zV3]at hd;cases q:(List.range n)[i]? with
 |none=>rw[q]at hd;cases hd
 |some k=>
  rw[q]at hd;cases hd;have hi:i<n:=by have:=(zVj.mp q).1;simpa using this
  rw[List.getElem?_range hi]at q;cases q;refine ⟨hi,λv H'' ⟨hH,hv⟩=>?_⟩;subst hH hv;exact ⟨λ_ _ z=>z,zAM⟩
theorem zNj {tg a:Expr} {g:FA} (hg:Gl X "range") (hm:X.mg "range" = none) (ha:QA X [a] g) (hl:zRQ g 1) (hs:starEach [a] X.env=[(false,eval a X.env)]:=by rfl):QI X tg (.Call (.Name "range" p) [a] [] pos) (zAC g) :=
 .mk <| PI.imp (zNo hg hm ha.un hs) λτ H R zz=>by
  obtain ⟨L,σ,M,xs,gd,M',c,rs,hf,q⟩:=zz;unfold zAC at hf;split at hf
  .rename_i j M1 e1;split at hf
   .rename_i hb;cases hf;refine ⟨L,σ,M,_,_,c,rs,e1,λL1 H1 vs s1 c1 r1=>⟨j,zH6 r1,hb.1,hb.2,q L1 H1 _ s1 c1 ?_⟩⟩;have z:=zOm (K:=X.K) (L:=L1) (H:=H1) (lo:=0) (n:=j.toNat);simpa using z
   .cases hf
  .rename_i e1;have:=hl _ _ _ _ e1;simp at this
  .cases hf
end
section
variable {es rest:Yi}
def zBy (f g:FT):FT:=λσ M=>match f σ M with
 |some (true,M1)=>g σ M1
 |r=>r
def zGe (f g:FT):FT:=λσ M=>match f σ M with
 |some (false,M1)=>g σ M1
 |r=>r
def zKS (f:FT):FT:=λσ M=>match f σ M with
 |some (k,M1)=>some (!k,M1)
 |none=>none
structure QW (X:Cx) (e:Expr) (f:FT):Prop where
 un:PW X e (trT X.K f)
theorem PW.imp (h:PW X e t) (hi:∀ τ H Q,t' τ H Q->t τ H Q):PW X e t':=λwh zB s σ H Q I q=>h wh zB s σ H Q I (hi _ _ _ q)
theorem zRG (h:QT X a f):QW X (.BoolOp .And [a] pos) f:=.mk (zQM h.un)
theorem zTi (h:QT X a f):QW X (.BoolOp .Or [a] pos) f:=.mk (zSP h.un)
theorem zS5 (h1:QT X a f) (h2:QW X (.BoolOp .And (b::rest) pos) g):QW X (.BoolOp .And (a::b::rest) pos) (zBy f g):=.mk <| PW.imp (zSI h1.un h2.un) λτ H Q zz=>by
 obtain ⟨L,σ,M,d,M',c,rs,hf,q⟩:=zz;unfold zBy at hf;split at hf
 .rename_i M1 e1;exact ⟨L,σ,M,_,_,c,rs,e1,λL1 H1 s1 c1=>zHL ⟨L1,σ,M1,_,_,c1,rs.stp s1,hf,λL2 H2 s2 c2=>q L2 H2 (s1.trans s2) c2⟩⟩
 .rename_i hne;cases d with
  |true=>exact absurd hf (hne M')
  |false=>exact ⟨L,σ,M,_,_,c,rs,hf,λL1 H1 s1 c1=>zG5 (q L1 H1 s1 c1)⟩
theorem zUN (h1:QT X a f) (h2:QW X (.BoolOp .Or (b::rest) pos) g):QW X (.BoolOp .Or (a::b::rest) pos) (zGe f g):=.mk <| PW.imp (zUt h1.un h2.un) λτ H Q zz=>by
 obtain ⟨L,σ,M,d,M',c,rs,hf,q⟩:=zz;unfold zGe at hf;split at hf
 .rename_i M1 e1;exact ⟨L,σ,M,_,_,c,rs,e1,λL1 H1 s1 c1=>zG5 ⟨L1,σ,M1,_,_,c1,rs.stp s1,hf,λL2 H2 s2 c2=>q L2 H2 (s1.trans s2) c2⟩⟩
 .rename_i hne;cases d with
  |false=>exact absurd hf (hne M')
  |true=>exact ⟨L,σ,M,_,_,c,rs,hf,λL1 H1 s1 c1=>zHL (q L1 H1 s1 c1)⟩
theorem zUp (h:QW X e f):QT X e f:=.mk (PW.pt h.un)
theorem zSC (h:QT X a f):QT X (.UnaryOp .Not a pos) (zKS f):=.mk <| PT.imp (zSf h.un) λτ H Q zz=>by
 obtain ⟨L,σ,M,d,M',c,rs,hf,q⟩:=zz;unfold zKS at hf;split at hf
 .rename_i k M1 e1;cases hf;exact ⟨L,σ,M,_,_,c,rs,e1,λL1 H1 s1 c1=>q L1 H1 s1 c1⟩
 .cases hf
theorem zMo (h:zc H0 L H (.dat (.bl k)) v):v=.bl k:=by unfold zc Rep at h;exact h
def vIf (t:FT) (f g:FE):FE:=λσ M=>match t σ M with
 |some (true,M1)=>f σ M1
 |some (false,M1)=>g σ M1
 |none=>none
theorem zQc (hc:QT X c t) (h1:QE X a f) (h2:QE X b g):QE X (.IfExp c a b pos) (vIf t f g):=.mk <| PE.imp (zOw hc.un h1.un h2.un) λτ H Q zz=>by
 obtain ⟨L,σ,M,d,M',c,rs,hf,q⟩:=zz;unfold vIf at hf;split at hf
 .rename_i M1 e1;exact ⟨L,σ,M,_,_,c,rs,e1,λL1 H1 s1 c1=>zHL ⟨L1,σ,M1,_,_,c1,rs.stp s1,hf,λL2 H2 w s2 c2 r2=>q L2 H2 w (s1.trans s2) c2 (r2.back s1 c s2.sub)⟩⟩
 .rename_i M1 e1;exact ⟨L,σ,M,_,_,c,rs,e1,λL1 H1 s1 c1=>zG5 ⟨L1,σ,M1,_,_,c1,rs.stp s1,hf,λL2 H2 w s2 c2 r2=>q L2 H2 w (s1.trans s2) c2 (r2.back s1 c s2.sub)⟩⟩
 .cases hf
abbrev KM:=EV->List D->Mem->Option (D × Mem)
def fM (k:KM) (f:FE) (g:FA):FE:=λσ M=>match f σ M with
 |some (x,M1)=>match zA3 M1 x with
  |some _=>match g σ M1 with
   |some (ds,M2)=>match k x ds M2 with
    |some (d,M3)=>some (.dat d,M3)
    |none=>none
   |none=>none
  |none=>none
 |none=>none
def zRe (K:Yb) (r:V->List V->Hp->VK->Prop) (k:KM):Prop:=∀ {L:Yg} {M M':Mem} {H H0:Hp} {x:EV} {ds:List D} {d:D} {v:V} {vs:List V} {Q:VK},Cor K L M H->zc H0 L H x v->zM L H ds vs->k x ds M=some (d,M') ->
 (∀ L' H' u,Stp L H L' H'->Cor K L' M' H'->Rep L' H' d u->Q u H')->r v vs H Q
theorem zLi {K:PySem.W.Frag} {r:V->List V->Hp->VK->Prop} {k:KM} {f:FE} {g:FA} (hk:zRe K r k) {τ:Sv} {H:Hp} {Q:VK} (h:trE K (fM k f g) τ H Q):tBM K "list" r (trE K f) (trA K g) τ H Q:=by
 obtain ⟨L,σ,M,d,M',c,rs,hf,q⟩:=h;unfold fM at hf;split at hf
 .rename_i x M1 e1;split at hf
  .rename_i xs e2;split at hf
   .rename_i ds M2 e3;split at hf
    .rename_i d' M3 e4;cases hf;refine ⟨L,σ,M,_,_,c,rs,e1,λL1 H1 v s1 c1 r1=>?_⟩;obtain ⟨a,vs,rfl,e5,r5⟩:=zAa c1 r1 e2;refine ⟨.inl ⟨rfl,vs,.inl e5⟩,L1,σ,M1,_,_,c1,rs.stp s1,e3,λL2 H2 ws s2 c2 r2=>?_⟩;exact hk c2 (r1.stp s2) r2 e4 λL3 H3 u s3 c3 r3=>q L3 H3 u ((s1.trans s2).trans s3) c3 r3
    .cases hf
   .cases hf
  .cases hf
 .cases hf
def zAb:KM:=λx ds M=>match x,ds with
 |.dat (.ref n),[d]=>match M[n]? with
  |some (.lst xs)=>if xs.length<sizeLine then some (.non,M.set n (.lst (xs++[d]))) else none
  |_=>none
 |_,_=>none
theorem zM.one (h:zM L H [d] vs):∃ v,vs=[v]/\Rep L H d v:=by
 unfold zM at h;obtain ⟨v,r,rfl,h1,h2⟩:=h;unfold zM at h2;subst h2;exact ⟨v,rfl,h1⟩
theorem zLZ {K:Yb}:zRe K zLv zAb:=by
 intro L M M' H H0 x ds d v vs Q c rx rd hk q;unfold zAb at hk;split at hk
 .rename_i n d';split at hk
  .rename_i xs e1;split at hk
   .rename_i hz;cases hk;unfold zc Rep at rx;obtain ⟨a,rfl,e2⟩:=rx;obtain ⟨ws,e3,r3⟩:=c.obj n a _ e2 e1;obtain ⟨w,rfl,r4⟩:=rd.one;obtain ⟨c5,s5⟩:=c.write e2 e1 (r3.app (.cons r4 .nil));exact ⟨a,ws,w,rfl,rfl,e3,by rw[r3.length];exact hz,q L _ _ s5 c5 (by unfold Rep;rfl)⟩
   .cases hk
  .cases hk
 .cases hk
theorem zOf (h:QE X a f) (hg:QA X [e] g) (hbase:attributeBase a "append" X.env (eval a X.env)=eval a X.env:=by rfl)
  (hfew:((backTo cpos (starEach [e] X.env)).all (λx=> !x.1)&&(backToKw cpos (keywordEach [] X.env)).all (λx=>x.1.isSome)&&decide ([e].length+([]:List Keyword).length+(if ([]:List Keyword).isEmpty then 0 else 1)<30))=true:=by rfl)
  (hline:(apos.endLine==cpos.line)=true:=by rfl) (hs:starEach [e] X.env=(false,eval e X.env)::starEach [] X.env:=by rfl) (hplain:(backTo cpos (starEach [] X.env)).any (·.1)=false:=by rfl) :
  QE X (.Call (.Attribute a "append" apos) [e] [] cpos) (fM zAb f g) :=
 .mk <| PE.imp (zOd PySem.F.plainAttrs_list PySem.F.slot_list_append PySem.F.type_list_append zMn h.un hg.un hbase hfew hline hs hplain) λ_ _ _ z=>zLi zLZ z
def zJZ:KM:=λx ds M=>match x,ds with
 |.dat (.ref n),[.int i]=>match M[n]? with
  |some (.lst xs)=>match ixN xs.length i with
   |some k=>match xs[k]? with
    |some d=>if -(2 ^ 63)<=i/\i<2 ^ 63 then some (d,M.set n (.lst (xs.eraseIdx k))) else none
    |none=>none
   |none=>none
  |_=>none
 |_,_=>none
theorem zQi {K:Yb}:zRe K zOY zJZ:=by
 intro L M M' H H0 x ds d v vs Q c rx rd hk q;unfold zJZ at hk;split at hk
 .rename_i n i;split at hk
  .rename_i xs e1;split at hk
   .rename_i k e2;split at hk
    .rename_i d' e3;split at hk
     .rename_i hb;cases hk;unfold zc Rep at rx;obtain ⟨a,rfl,e4⟩:=rx;obtain ⟨ws,e5,r5⟩:=c.obj n a _ e4 e1;obtain ⟨u,e6,r6⟩:=r5.get e3;obtain ⟨c5,s5⟩:=c.write e4 e1 (r5.eraseIdx k);exact ⟨a,ws,i,k,u,rfl,zH6 rd,e5,hb.1,hb.2,by rw[r5.length];exact (zIu e2).1,e6,q L _ _ s5 c5 (r6.stp s5)⟩
     .cases hk
    .cases hk
   .cases hk
  .cases hk
 .cases hk
theorem zUh (h:QE X a f) (hg:QA X [e] g) (hbase:attributeBase a "pop" X.env (eval a X.env)=eval a X.env:=by rfl)
  (hfew:((backTo cpos (starEach [e] X.env)).all (λx=> !x.1)&&(backToKw cpos (keywordEach [] X.env)).all (λx=>x.1.isSome)&&decide ([e].length+([]:List Keyword).length+(if ([]:List Keyword).isEmpty then 0 else 1)<30))=true:=by rfl)
  (hline:(apos.endLine==cpos.line)=true:=by rfl) (hs:starEach [e] X.env=(false,eval e X.env)::starEach [] X.env:=by rfl) (hplain:(backTo cpos (starEach [] X.env)).any (·.1)=false:=by rfl) :
  QE X (.Call (.Attribute a "pop" apos) [e] [] cpos) (fM zJZ f g) :=
 .mk <| PE.imp (zOd PySem.F.plainAttrs_list PySem.F.slot_list_pop PySem.F.type_list_pop zOb h.un hg.un hbase hfew hline hs hplain) λ_ _ _ z=>zLi zQi z
def zJ8 (x:EV) (i:D) (d:D) (M:Mem):Option Mem:=match x,i with
 |.dat (.ref n),.int i=>match M[n]? with
  |some (.lst xs)=>match ixN xs.length i with
   |some j=>some (M.set n (.lst (xs.set j d)))
   |none=>none
  |_=>none
 |_,_=>none
def zLF (fv fo fi:FE):FS:=λσ M=>match toD fv σ M with
 |some (d,M1)=>match fo σ M1 with
  |some (x,M2)=>match toD fi σ M2 with
   |some (i,M3)=>match zJ8 x i d M3 with
    |some M4=>some (.nx,σ,M4)
    |none=>none
   |none=>none
  |none=>none
 |none=>none
theorem zQB (hv:QE X v fv) (ho:QE X o fo) (hi:QE X i fi)
  (ha:∀ v,assign (.Subscript o i p) X.env v=(do
   let ov <- holding [v] (eval o X.env);let iv <- holding [v,ov] (eval i X.env);standAt p;holding [v,ov,iv] (setItem ov iv v);release [v,ov,iv] []):=by intro _;rfl)
  (hs:swapsWithSole [.Subscript o i p] v pos.line X.env=pure false:=by rfl) (hw:swappedStores [.Subscript o i p] v X.env=pure none:=by rfl) (h1:(assignEach [.Subscript o i p] X.env).map (·.2)=[assign (.Subscript o i p) X.env]:=by rfl) :
  QS X (.Assign [.Subscript o i p] v pos) (zLF fv fo fi):=.mk <| PS.imp (zNt (zCh hv).un (zTk ho.un (zCh hi).un zPK ha) hs hw h1) λE τ H zz=>by
 obtain ⟨L,σ,M,out,σ',M',c,rs,hf,q⟩:=zz;unfold zLF at hf;split at hf
 .rename_i d M1 e1;split at hf
  .rename_i x M2 e2;split at hf
   .rename_i j M3 e3;split at hf
    .rename_i M4 e4;cases hf;refine ⟨L,σ,M,_,_,c,rs,e1,λL1 H1 u s1 c1 r1=>⟨L1,σ,M1,_,_,c1,rs.stp s1,e2,λL2 H2 w s2 c2 r2=>⟨L2,σ,M2,_,_,c2,rs.stp (s1.trans s2),e3,λL3 H3 z s3 c3 r3=>?_⟩⟩⟩;have st:=(s1.trans s2).trans s3;unfold zJ8 at e4;split at e4
     .rename_i n k;split at e4
      .rename_i xs e5;split at e4
       .rename_i m e6;cases e4;have r2':=r2.stp s3;unfold zc Rep at r2';obtain ⟨a,rfl,e7⟩:=r2';obtain ⟨ws,e8,r8⟩:=c3.obj n a _ e7 e5;obtain ⟨c9,s9⟩:=c3.write e7 e5 (zM.set ((r1.stp s2).stp s3) m r8);exact ⟨a,ws,k,m,rfl,by unfold Rep at r3;exact r3,e8,by rw[r8.length];exact e6,q L3 _ (st.trans s9) c9 τ ((rs.stp st).stp s9)⟩
       .cases e4
      .cases e4
     .cases e4
    .cases hf
   .cases hf
  .cases hf
 .cases hf
end
section
def zH7:D->Option V
 |.non=>some .non
 |.bl k=>some (.bl k)
 |.int i=>some (.int i)
 |.str x=>some (.str x)
 |_=>none
theorem zEy (h:Rep L H d v) (e:zH7 d=some u):v=u:=by
 cases d with
 |non=>cases e;unfold Rep at h;exact h
 |bl _=>cases e;unfold Rep at h;exact h
 |int _=>cases e;unfold Rep at h;exact h
 |str _=>cases e;unfold Rep at h;exact h
 |tup _=>cases e
 |ref _=>cases e
def zK6 (neg:Bool):K2:=λx y M=>match x,y with
 |.dat d,.dat d'=>match zH7 d,zH7 d' with
  |some u,some w=>if zQV u w then some (.dat (.bl (if neg then !decide (u=w) else decide (u=w))),M) else none
  |_,_=>none
 |_,_=>none
theorem zHk (h:zK6 neg x y M=some (r,M')):∃ d d' u w,x=.dat d/\y=.dat d'/\zH7 d=some u/\zH7 d'=some w/\zQV u w=true/\r=.dat (.bl (if neg then !decide (u=w) else decide (u=w)))/\M'=M:=by
 unfold zK6 at h;split at h
 .rename_i d d';split at h
  .rename_i u w e1 e2;split at h
   .rename_i hs;cases h;exact ⟨d,d',u,w,rfl,rfl,e1,e2,hs,rfl,rfl⟩
   .cases h
  .cases h
 .cases h
theorem zML {K:Yb}:zCk K rEq (zK6 false):=by
 intro L M M' H H0 x y d v w Q c rx ry hk q;obtain ⟨d1,d2,u,z,rfl,rfl,e1,e2,hs,rfl,rfl⟩:=zHk hk;have a1:=zEy rx e1;have a2:=zEy ry e2;subst a1 a2;exact ⟨hs,q L H _ (.refl L H) c (zBc (L:=L) (H:=H))⟩
theorem zRh {K:Yb}:zCk K rNe (zK6 true):=by
 intro L M M' H H0 x y d v w Q c rx ry hk q;obtain ⟨d1,d2,u,z,rfl,rfl,e1,e2,hs,rfl,rfl⟩:=zHk hk;have a1:=zEy rx e1;have a2:=zEy ry e2;subst a1 a2;exact ⟨hs,q L H _ (.refl L H) c (zBc (L:=L) (H:=H))⟩
def zSr (neg:Bool) (K:Yb):R2:=λx y H Q=>∃ p q xs,x=.ref p/\y=.ref q/\SqL K H p xs/\SqL K H q []/\Q (.bl (if neg then !xs.isEmpty else xs.isEmpty)) H
theorem zJC (r:zb [] its):its=[]:=by cases r;rfl
theorem zJQ (hu:X.A.units<cLine):OpR X (compareOp .Eq) (zSr false X.K):=by
 intro zB s σ H x y v u Q I rx ry h;obtain ⟨p,q,xs,rfl,rfl,h1,h2,hq⟩:=h;cases rx;cases ry;obtain ⟨its,rv,pl,_⟩:=I.list h1;obtain ⟨its2,rv2,pl2,_⟩:=I.list h2;cases zJC rv2;cases rv with
 |nil=>exact SeqAt.eq_listAt (e:=λ_=>true) pl.isList pl2.isList rfl hu (λj h1=>by simp at h1) ⟨.bl true,H,I,rfl,hq⟩
 |cons _ _=>exact SeqAt.eq_list_lengthsAt pl.isList pl2.isList (by simp) hu ⟨.bl false,H,I,rfl,hq⟩
theorem zN5 (hu:X.A.units<cLine):OpR X (compareOp .NotEq) (zSr true X.K):=by
 intro zB s σ H x y v u Q I rx ry h;obtain ⟨p,q,xs,rfl,rfl,h1,h2,hq⟩:=h;cases rx;cases ry;obtain ⟨its,rv,pl,_⟩:=I.list h1;obtain ⟨its2,rv2,pl2,_⟩:=I.list h2;cases zJC rv2;cases rv with
 |nil=>exact SeqAt.RcNeAt.lists (e:=λ_=>true) pl.isList pl2.isList rfl hu (λj h1=>by simp at h1) _ _ _ _ ⟨.bl false,H,I,rfl,hq⟩
 |cons _ _=>exact SeqAt.RcNeAt.lists_lengths pl.isList pl2.isList (by simp) hu _ _ _ _ ⟨.bl true,H,I,rfl,hq⟩
def zOx (neg:Bool):K2:=λx y M=>match zA3 M x,zA3 M y with
 |some xs,some []=>some (.dat (.bl (if neg then !xs.isEmpty else xs.isEmpty)),M)
 |_,_=>none
theorem zJJ {K:Yb} {neg:Bool}:zCk K (zSr neg K) (zOx neg):=by
 intro L M M' H H0 x y d v w Q c rx ry hk q;unfold zOx at hk;split at hk
 .rename_i xs e1 e2;cases hk;obtain ⟨p1,vs,rfl,h1,r1⟩:=zAa c rx e1;obtain ⟨p2,ws,rfl,h2,r2⟩:=zAa c ry e2;unfold zM at r2;subst r2;refine ⟨p1,p2,vs,rfl,rfl,.inl h1,.inl h2,q L H _ (.refl L H) c ?_⟩;have:vs.isEmpty=xs.isEmpty:=by
   have:=r1.length;cases vs <;> cases xs <;> simp_all
  rw[this];exact (zBc (L:=L) (H:=H))
 .cases hk
def kOr (k1 k2:K2):K2:=λx y M=>match k1 x y M with
 |some r=>some r
 |none=>k2 x y M
theorem zIm {K:Yb} {r1 r2:R2} {k1 k2:K2} (h1:zCk K r1 k1) (h2:zCk K r2 k2):zCk K (λx y H Q=>r1 x y H Q\/r2 x y H Q) (kOr k1 k2):=by
 intro L M M' H H0 x y d v w Q c rx ry hk q;unfold kOr at hk;split at hk
 .rename_i r e1;cases hk;exact .inl (h1 c rx ry e1 q)
 .exact .inr (h2 c rx ry hk q)
abbrev kEq:K2:=kOr (zK6 false) (zOx false)
abbrev kNe:K2:=kOr (zK6 true) (zOx true)
theorem zU8 (hu:X.A.units<cLine) (h1:QE X a f) (h2:QE X b g):QE X (.Compare a [.Eq] [b] pos) (fOp kEq f g):=zUI (zIm zML zJJ) (zR4.or (zJQ hu)) h1 h2 (zDI _)
theorem zUe (hu:X.A.units<cLine) (h1:QE X a f) (h2:QE X b g):QT X (.Compare a [.Eq] [b] pos) (tst (fOp kEq f g)):=zDn (zIm zML zJJ) (zR4.or (zJQ hu)) h1 h2 (zDI _)
theorem zT7 (hu:X.A.units<cLine) (h1:QE X a f) (h2:QE X b g):QT X (.Compare a [.NotEq] [b] pos) (tst (fOp kNe f g)):=zDn (zIm zRh zJJ) (zT1.or (zN5 hu)) h1 h2 (zDI _)
def zNb:KB:=λxs M=>match xs with
 |[.dat (.int i)]=>some (.dat (.int (if i<0 then -i else i)),M)
 |_=>none
theorem zQe {K:Yb}:zFR K (λxs H Q=>∃ i,xs=[.int i]/\Q (.int (if i<0 then -i else i)) H) zNb:=by
 intro L M M' H H0 xs d vs Q c r hk q;unfold zNb at hk;split at hk
 .rename_i i;cases hk;obtain ⟨v,rfl,r1⟩:=r.one;have:v=.int i:=by unfold zc Rep at r1;exact r1
  subst this;exact ⟨i,rfl,q L H _ (.refl L H) c (zAM (L:=L) (H:=H))⟩
 .cases hk
def zKt:KB:=λxs M=>match xs with
 |[.dat (.int i)]=>some (.dat (.int i),M)
 |[.dat (.bl k)]=>some (.dat (.int (if k then 1 else 0)),M)
 |_=>none
theorem zRx {K:Yb}:zFR K (λxs H Q=>(∃ i,xs=[.int i]/\Q (.int i) H) \/ ∃ k,xs=[.bl k]/\Q (.int (if k then 1 else 0)) H) zKt:=by
 intro L M M' H H0 xs d vs Q c r hk q;unfold zKt at hk;split at hk
 .rename_i i;cases hk;obtain ⟨v,rfl,r1⟩:=r.one;have:v=.int i:=by unfold zc Rep at r1;exact r1
  subst this;exact .inl ⟨i,rfl,q L H _ (.refl L H) c (zAM (L:=L) (H:=H))⟩
 .rename_i k;cases hk;obtain ⟨v,rfl,r1⟩:=r.one;have:=zMo r1;subst this;exact .inr ⟨k,rfl,q L H _ (.refl L H) c (zAM (L:=L) (H:=H))⟩
 .cases hk
end
section
theorem zOA {prog:Ym} {w:Yo} {A:Yn} {E:Yc} {s:Yl} {t b:Yt} {ws:Yf} {Q:Yc} (ht:IsTup s.heap t #[]) (hb:IsTup s.heap b ws.toArray) (h1:Q (.ref b) s) :
  wpAny (model prog w) A (binaryOp .Add (.ref t) (.ref b)) Q E s:=by
 obtain ⟨⟨cls,dd,data,sl⟩,ho,hc,n,hd⟩:=id ht;obtain ⟨⟨cls2,dd2,data2,sl2⟩,ho2,hc2,n2,hd2⟩:=id hb;simp only at hc hd hc2 hd2;subst hc hd hc2 hd2
 exact concat_meets ⟨_,ho,rfl⟩ ⟨_,ho2,rfl⟩ noFill_tuple_add seq_tuple_add PySem.F.slot_tuple_add PySem.F.entry_tuple_add (PySem.F.args_tuple_add_2 _ _)
   (tuple_addW0 t b #[] ws.toArray n n2 dd dd2 sl sl2 (by simp)) ⟨ho,ho2,h1⟩
def zPx (K:Yb):R2:=λx y H Q=>∃ a b ys,x=.ref a/\y=.ref b/\SqT K H a []/\SqT K H b ys/\Q (.ref b) H
theorem zOu:OpR X (binaryOp .Add) (zPx X.K):=by
 intro zB s σ H x y v u Q I rx ry h;obtain ⟨a,b,ys,rfl,rfl,ha,hb,q⟩:=h;cases rx;cases ry;obtain ⟨its,r1,p1,_⟩:=I.tuple ha;obtain ⟨its2,r2,p2,_⟩:=I.tuple hb;cases zJC r1;exact zOA p1 p2 ⟨.ref b,H,I,rfl,q⟩
def zKZ:K2:=λx y M=>match zB0 x,zB0 y with
 |some xs,some ys=>if xs.length+ys.length<=sizeLine then some (.dat (.tup (xs++ys)),M) else none
 |_,_=>none
theorem zPp {K:Yb}:zCk K (λx y H Q=>zR5 K x y H Q\/zPx K x y H Q) zKZ:=by
 intro L M M' H H0 x y d v w Q c rx ry hk q;unfold zKZ at hk;split at hk
 .rename_i xs ys e1 e2;split at hk
  .rename_i hz;cases hk;obtain ⟨p1,vs,rfl,h1,r1⟩:=zBF rx e1;obtain ⟨p2,ws,rfl,h2,r2⟩:=zBF ry e2;cases xs with
   |nil=>
    refine .inr ⟨p1,p2,ws,rfl,rfl,.of (by unfold zM at r1;subst r1;exact h1),.of h2,q L H _ (.refl L H) c ?_⟩;unfold zc Rep;exact ⟨p2,ws,rfl,h2,r2⟩
   |cons x0 xr=>
    have hv:vs≠[]:=λz=>by have:=r1.length;rw[z]at this;simp at this
    refine .inl ⟨p1,p2,vs,ws,rfl,rfl,.of h1,.of h2,hv,by rw[r1.length,r2.length];exact hz,λz=>?_,λz pp hp=>?_⟩
    .have:ys=[]:=by
      have:=r2.length;rw[z]at this;cases ys with
      |nil=>rfl
      |cons _ _=>simp at this
     subst this;refine q L H _ (.refl L H) c ?_;unfold zc Rep;rw[zWQ];exact ⟨p1,vs,rfl,h1,r1⟩
    .exact q L _ _ (.upd hp) (c.upd hp) (Rep.newTup hp (r1.app r2))
  .cases hk
 .cases hk
abbrev zAT:K2:=kOr zVc zKZ
theorem zTj (h1:QE X a f) (h2:QE X b g):QE X (.BinOp a .Add b pos) (fOp zAT f g):=zLg (zIm (zFy λ_ _ _ _=>zAM) zPp) (zSR.or (zQ7.or zOu)) h1 h2
def isT (t T:String):Bool:=decide (t=T)||(decide (t = "bool")&&decide (T = "int"))
theorem zM.two (h:zM L H [d,d'] vs):∃ v v',vs=[v,v']/\Rep L H d v/\Rep L H d' v':=by
 unfold zM at h;obtain ⟨v,r,rfl,h1,h2⟩:=h;obtain ⟨v',rfl,h3⟩:=h2.one;exact ⟨v,v',rfl,h1,h3⟩
section
theorem zU6 (hg:Gl X "len") (hm:X.mg "len" = none) (ha:QAE X [e] fa) (he:starEach [e] X.env=(false,eval e X.env)::starEach [] X.env:=by rfl) (hpl:(backTo pos (starEach [] X.env)).any (·.1)=false:=by rfl):QE X (.Call (.Name "len" p) [e] [] pos) (fB zBb fa) :=
 zC9 zRO zIz PySem.boot_len hg hm ha (by decide) (by decide) he hpl
theorem zRq (hg:Gl X "tuple") (hm:X.mg "tuple" = none) (ha:QAE X [e] fa) (he:starEach [e] X.env=(false,eval e X.env)::starEach [] X.env:=by rfl) (hpl:(backTo pos (starEach [] X.env)).any (·.1)=false:=by rfl):QE X (.Call (.Name "tuple" p) [e] [] pos) (fB zAQ fa) :=
 zGT zNB zHI (by rfl) hg hm ha (by decide) (by decide) he hpl
theorem zU1 (hg:Gl X "abs") (hm:X.mg "abs" = none) (ha:QAE X [e] fa) (he:starEach [e] X.env=(false,eval e X.env)::starEach [] X.env:=by rfl) (hpl:(backTo pos (starEach [] X.env)).any (·.1)=false:=by rfl):QE X (.Call (.Name "abs" p) [e] [] pos) (fB zNb fa) :=
 zC9 zQe zNw (by rfl) hg hm ha (by decide) (by decide) he hpl
theorem zSb (hg:Gl X "int") (hm:X.mg "int" = none) (ha:QAE X [e] fa) (he:starEach [e] X.env=(false,eval e X.env)::starEach [] X.env:=by rfl) (hpl:(backTo pos (starEach [] X.env)).any (·.1)=false:=by rfl):QE X (.Call (.Name "int" p) [e] [] pos) (fB zKt fa) :=
 zGT zRx zNn (by rfl) hg hm ha (by decide) (by decide) he hpl
end
end
def zEi (sc scope:Y0):Bool:=scope.names.all λy=>
 (y.2 != .local||scope.names.lookup y.1==some .local)&&(y.2 != .cell||scope.names.lookup y.1==some .cell)&&(y.2 != .free||(sc.names.lookup y.1==some .cell||sc.names.lookup y.1==some .free))
def zFn (N:Yk) (scope:Y0) (own:Yj):Bool:=(List.range N.length).all λi=>match N[i]? with
 |some x=>decide (i∈own)||(scope.names.lookup x==none)||(scope.names.lookup x==some .free)
 |none=>true
theorem zIA (hk:scope.kind=.function) (hs:X.env.scope=sc) (hN:X.N=N) (h1:zEi sc scope=true) (h2:zFn N scope own=true):CompIn X scope own:=by
 unfold zEi at h1;rw[zWH]at h1;refine ⟨⟨hk,λy hy e=>?_,λy hy e=>?_,λy hy e=>?_⟩,λi x e=>?_⟩
 .have:=h1 y hy;simp[e]at this;exact this
 .have:=h1 y hy;simp[e]at this;exact this
 .have:=h1 y hy;simp[e]at this;show X.env.scope.names.lookup y.1=_\/X.env.scope.names.lookup y.1=_;rw[hs];exact this
 .unfold zFn at h2;rw[zWH]at h2;rw[hN]at e;have hi:i<N.length:=(zVj.mp e).1;have:=h2 i (by simpa using hi);rw[e]at this;simp only[Bool.or_eq_true,zWt,beq_iff_eq,or_assoc]at this;exact this
def zIb (K:Yb):Bool:=K.all λp=>match p.2.cls with
 |.type n=>n != "list"
 |_=>true
theorem zKX:∀ {K:Yb},K.lookup a=some o->(a,o)∈K
 |[],h=>by cases h
 | (b,u)::r,h=>by
  have h':List.lookup a ((b,u)::r)=some o:=h;rw[zXl]at h';cases q:a==b with
  |true=>rw[q]at h';cases h';rw[beq_iff_eq.mp q];exact zVu
  |false=>rw[q]at h';exact zVt _ (zKX h')
theorem zM9 {K:PySem.W.Frag} (h:zIb K=true) {o:Obj} (e:K.lookup a=some o) (hc:o.cls=.type "list"):False:=by
 unfold zIb at h;rw[zWH]at h;have:=h (a,o) (zKX e);simp[hc]at this
theorem zHr:∀ (ns:Ye),zM L H (ns.map D.int) (ns.map V.int)
 |[]=> .nil
 |n::r=> .cons (by unfold Rep;rfl) (zHr r)
theorem zMV {K:Yb} {m:FF} {H:Hp} {a:Yt} {ns:Ye} {E:XK} (hL:zIb K=true) (hO:zQj H) (hS:SqL K H a (ns.map V.int)) (h:∃ M',m [.ref 0] [.fro (ns.map D.int)]=some (.bl true,M')) :
  spF K 1 m [.ref a] H (λv _=>v=.bl true) E:=by
 obtain ⟨M',e⟩:=h;have hf:∃ o,H a=some (.frz o (.lst (ns.map V.int))):=by
  rcases hS with (h1|h1)|⟨o,its,n,h1,h2,_⟩
  .rcases hO a with z|⟨o,xs,z⟩
   .rw[h1]at z;cases z
   .rw[h1]at z;cases z
  .exact h1
  .exact (zM9 hL h1 h2).elim
 obtain ⟨o,hf⟩:=hf;refine ⟨[a],[.ref 0],[.fro (ns.map D.int)],_,_,⟨rfl,by simp,λn b m e1 e2=>?_⟩,.cons ?_ .nil,rfl,e,λL' H' v s c r=>?_⟩
 .cases n with
  |zero=>simp at e1 e2;subst e1;subst e2;exact ⟨o,_,hf,zHr ns⟩
  |succ n=>simp at e1
 .unfold Rep;exact ⟨a,rfl,rfl⟩
 .unfold Rep at r;exact r
def Ok {α:Type} (x:Option (α × Mem)) (P:α->Mem->Prop):Prop:=∃ a M,x=some (a,M)/\P a M
def OkS (x:Option (Out × Sd × Mem)) (P:Out->Sd->Mem->Prop):Prop:=∃ o σ M,x=some (o,σ,M)/\P o σ M
theorem Ok.mono {α:Type} {x:Option (α × Mem)} {P Q:α->Mem->Prop} (h:Ok x P) (hq:∀ a M,P a M->Q a M):Ok x Q:=let ⟨a,M,e,p⟩:=h;⟨a,M,e,hq a M p⟩
theorem OkS.mono {x:Option (Out × Sd × Mem)} {P Q:Out->Sd->Mem->Prop} (h:OkS x P) (hq:∀ o σ M,P o σ M->Q o σ M):OkS x Q:=let ⟨a,σ,M,e,p⟩:=h;⟨a,σ,M,e,hq a σ M p⟩
theorem zm {α:Type} {a:α} {M:Mem} {P:α->Mem->Prop}:Ok (some (a,M)) P ↔ P a M:=⟨λ⟨_,_,e,p⟩=>by cases e;exact p,λp=>⟨a,M,rfl,p⟩⟩
theorem zEu {α:Type} {P:α->Mem->Prop}:Ok (none:Option (α × Mem)) P ↔ False:=⟨(λ⟨_,_,e,_⟩=>(nomatch e)),λh=>h.elim⟩
theorem zP0 {o:Out} {σ:Sd} {M:Mem} {P:Out->Sd->Mem->Prop}:OkS (some (o,σ,M)) P ↔ P o σ M:=⟨λ⟨_,_,_,e,p⟩=>by cases e;exact p,λp=>⟨o,σ,M,rfl,p⟩⟩
section
theorem zo {i:Nat}:Ok (zC i σ M) P ↔ ∃ d,σ[i]?=some (some d)/\P (.dat d) M:=by
 unfold zC;constructor
 .rintro ⟨a,M1,e,p⟩;split at e
  .rename_i d e1;cases e;exact ⟨d,e1,p⟩
  .cases e
 .rintro ⟨d,e1,p⟩;rw[e1];exact ⟨_,_,rfl,p⟩
theorem zB1 {d:D}:Ok (fC d σ M) P ↔ P (.dat d) M:=zm
theorem zAE {k:K2}:Ok (fOp k f g σ M) P ↔ Ok (f σ M) λx M1=>Ok (g σ M1) λy M2=>Ok (k x y M2) P:=by
 unfold fOp;constructor
 .rintro ⟨a,M1,e,p⟩;split at e
  .rename_i x M2 e1;split at e
   .rename_i y M3 e2;exact ⟨x,M2,e1,y,M3,e2,a,M1,e,p⟩
   .cases e
  .cases e
 .rintro ⟨x,M2,e1,y,M3,e2,a,M1,e,p⟩;rw[e1];dsimp only;rw[e2];exact ⟨a,M1,e,p⟩
def zGy (P:D->Mem->Prop):EV->Mem->Prop
 |.dat d,M=>P d M
 |.fl xs,M=>P (.ref M.length) (M++[.lst xs])
theorem zAi {P:D->Mem->Prop}:Ok (toD f σ M) P ↔ Ok (f σ M) (zGy P):=by
 unfold toD;constructor
 .rintro ⟨a,M1,e,p⟩;split at e
  .rename_i d M2 e1;cases e;exact ⟨_,_,e1,p⟩
  .rename_i xs M2 e1;cases e;exact ⟨_,_,e1,p⟩
  .cases e
 .rintro ⟨x,M2,e1,p⟩;rw[e1];cases x with
  |dat d=>exact ⟨d,M2,rfl,p⟩
  |fl xs=>exact ⟨_,_,rfl,p⟩
theorem zI {P:D->Mem->Prop} {d:D} {M:Mem}:zGy P (.dat d) M ↔ P d M:=Iff.rfl
theorem zEh {P:D->Mem->Prop} {xs:List D} {M:Mem}:zGy P (.fl xs) M ↔ P (.ref M.length) (M++[.lst xs]):=Iff.rfl
section
theorem zCY:Ok (zH σ M) P ↔ P [] M:=zm
theorem zAn {f:FD} {g:FA}:Ok (zD f g σ M) P ↔ Ok (f σ M) λd M1=>Ok (g σ M1) λds M2=>P (d::ds) M2:=by
 unfold zD;constructor
 .rintro ⟨a,M1,e,p⟩;split at e
  .rename_i x M2 e1;split at e
   .rename_i y M3 e2;cases e;exact ⟨x,M2,e1,y,_,e2,p⟩
   .cases e
  .cases e
 .rintro ⟨x,M2,e1,y,M3,e2,p⟩;rw[e1];dsimp only;rw[e2];exact ⟨_,_,rfl,p⟩
end
section
theorem zDJ:Ok (zf σ M) P ↔ P [] M:=zm
theorem zCR {f:FE} {g:FAE}:Ok (zQ f g σ M) P ↔ Ok (f σ M) λd M1=>Ok (g σ M1) λds M2=>P (d::ds) M2:=by
 unfold zQ;constructor
 .rintro ⟨a,M1,e,p⟩;split at e
  .rename_i x M2 e1;split at e
   .rename_i y M3 e2;cases e;exact ⟨x,M2,e1,y,_,e2,p⟩
   .cases e
  .cases e
 .rintro ⟨x,M2,e1,y,M3,e2,p⟩;rw[e1];dsimp only;rw[e2];exact ⟨_,_,rfl,p⟩
end
theorem zIf {a:FA}:Ok (zA5 a σ M) P ↔ Ok (a σ M) λds M1=>ds.length<=sizeLine/\P (.fl ds) M1:=by
 unfold zA5;constructor
 .rintro ⟨x,M1,e,p⟩;split at e
  .rename_i ds M2 e1;split at e
   .rename_i hz;cases e;exact ⟨ds,_,e1,hz,p⟩
   .cases e
  .cases e
 .rintro ⟨ds,M1,e1,hz,p⟩;rw[e1];dsimp only;rw[zVv hz];exact ⟨_,_,rfl,p⟩
theorem zKz {k:KB} {a:FAE}:Ok (fB k a σ M) P ↔ Ok (a σ M) λxs M1=>Ok (k xs M1) P:=by
 unfold fB;constructor
 .rintro ⟨x,M1,e,p⟩;split at e
  .rename_i ds M2 e1;exact ⟨ds,_,e1,x,M1,e,p⟩
  .cases e
 .rintro ⟨ds,M1,e1,p⟩;rw[e1];exact p
theorem zCW {m:FF} {a:FA}:Ok (zL m a σ M) P ↔ Ok (a σ M) λds M1=>Ok (m ds M1) λd M2=>P (.dat d) M2:=by
 unfold zL;constructor
 .rintro ⟨x,M1,e,p⟩;split at e
  .rename_i ds M2 e1;split at e
   .rename_i d M3 e2;cases e;exact ⟨ds,_,e1,d,_,e2,p⟩
   .cases e
  .cases e
 .rintro ⟨ds,M1,e1,d,M2,e2,p⟩;rw[e1];dsimp only;rw[e2];exact ⟨_,_,rfl,p⟩
theorem zKk {k:KM} {a:FA}:Ok (fM k f a σ M) P ↔ Ok (f σ M) λx M1=>(∃ xs,zA3 M1 x=some xs)/\Ok (a σ M1) λds M2=>Ok (k x ds M2) λd M3=>P (.dat d) M3:=by
 unfold fM;constructor
 .rintro ⟨x,M1,e,p⟩;split at e
  .rename_i y M2 e1;split at e
   .rename_i xs e2;split at e
    .rename_i ds M3 e3;split at e
     .rename_i d M4 e4;cases e;exact ⟨y,_,e1,⟨xs,e2⟩,ds,_,e3,d,_,e4,p⟩
     .cases e
    .cases e
   .cases e
  .cases e
 .rintro ⟨y,M1,e1,⟨xs,e2⟩,ds,M2,e3,d,M3,e4,p⟩;rw[e1];dsimp only;rw[e2];dsimp only;rw[e3];dsimp only;rw[e4];exact ⟨_,_,rfl,p⟩
section
theorem zN4:Ok (zD7 σ M) P ↔ P none M:=zm
def zT2 (P:Option Int->Mem->Prop):EV->Mem->Prop
 |.dat (.int i),M=>P (some i) M
 |_,_=>False
theorem zOW {i:Int} {M:Mem}:zT2 P (.dat (.int i)) M ↔ P (some i) M:=Iff.rfl
theorem zOl:Ok (zDf f σ M) P ↔ Ok (f σ M) (zT2 P):=by
 unfold zDf;constructor
 .rintro ⟨x,M1,e,p⟩;split at e
  .rename_i i M2 e1;cases e;exact ⟨_,_,e1,p⟩
  .cases e
 .rintro ⟨x,M1,e1,p⟩;rw[e1];cases x with
  |fl xs=>exact p.elim
  |dat d=>
   cases d with
   |int i=>exact ⟨_,_,rfl,p⟩
   |_=>exact p.elim
end
theorem zUw {l h:FO}:Ok (fSl f l h σ M) P ↔ Ok (f σ M) λx M1=>Ok (l σ M1) λlo M2=>Ok (h σ M2) λhi M3=>Ok (kSl x lo hi M3) P:=by
 unfold fSl;constructor
 .rintro ⟨x,M1,e,p⟩;split at e
  .rename_i y M2 e1;split at e
   .rename_i lo M3 e2;split at e
    .rename_i hi M4 e3;exact ⟨y,_,e1,lo,_,e2,hi,_,e3,x,M1,e,p⟩
    .cases e
   .cases e
  .cases e
 .rintro ⟨y,M1,e1,lo,M2,e2,hi,M3,e3,p⟩;rw[e1];dsimp only;rw[e2];dsimp only;rw[e3];exact p
def blP (P:Bool->Mem->Prop):EV->Mem->Prop
 |.dat (.bl k),M=>P k M
 |_,_=>False
theorem zI4 {P:Bool->Mem->Prop} {k:Bool} {M:Mem}:blP P (.dat (.bl k)) M ↔ P k M:=Iff.rfl
theorem zIL {P:Bool->Mem->Prop}:Ok (tst f σ M) P ↔ Ok (f σ M) (blP P):=by
 unfold tst;constructor
 .rintro ⟨x,M1,e,p⟩;split at e
  .rename_i i M2 e1;cases e;exact ⟨_,_,e1,p⟩
  .cases e
 .rintro ⟨x,M1,e1,p⟩;rw[e1];cases x with
  |fl xs=>exact p.elim
  |dat d=>
   cases d with
   |bl i=>exact ⟨_,_,rfl,p⟩
   |_=>exact p.elim
section
theorem zKU:Ok (zh σ M) P ↔ P true M:=zm
theorem zRs:Ok (zBy s t σ M) P ↔ Ok (s σ M) λk M1=>if k then Ok (t σ M1) P else P false M1:=by
 unfold zBy;constructor
 .rintro ⟨x,M1,e,p⟩;split at e
  .rename_i M2 e1;exact ⟨true,M2,e1,by dsimp only;rw[zVv rfl];exact ⟨x,M1,e,p⟩⟩
  .rename_i hn;cases x with
   |true=>exact absurd e (hn M1)
   |false=>exact ⟨false,M1,e,by simpa using p⟩
 .rintro ⟨x,M1,e1,p⟩;rw[e1];cases x with
  |true=>simpa using p
  |false=>exact ⟨false,M1,rfl,by simpa using p⟩
theorem zSH:Ok (zGe s t σ M) P ↔ Ok (s σ M) λk M1=>if k then P true M1 else Ok (t σ M1) P:=by
 unfold zGe;constructor
 .rintro ⟨x,M1,e,p⟩;split at e
  .rename_i M2 e1;exact ⟨false,M2,e1,by simpa using ⟨x,M1,e,p⟩⟩
  .rename_i hn;cases x with
   |false=>exact absurd e (hn M1)
   |true=>exact ⟨true,M1,e,by simpa using p⟩
 .rintro ⟨x,M1,e1,p⟩;rw[e1];cases x with
  |false=>simpa using p
  |true=>exact ⟨true,M1,rfl,by simpa using p⟩
end
theorem zQE {t:FT}:Ok (vIf t f g σ M) P ↔ Ok (t σ M) λk M1=>if k then Ok (f σ M1) P else Ok (g σ M1) P:=by
 unfold vIf;constructor
 .rintro ⟨x,M1,e,p⟩;split at e
  .rename_i M2 e1;exact ⟨_,_,e1,by dsimp only;rw[zVv rfl];exact ⟨x,M1,e,p⟩⟩
  .rename_i M2 e1;exact ⟨_,_,e1,by simpa using ⟨x,M1,e,p⟩⟩
  .cases e
 .rintro ⟨x,M1,e1,p⟩;rw[e1];cases x with
  |true=>simpa using p
  |false=>simpa using p
end
section
def nxP (k:Sd->Mem->Prop) (P:Out->Sd->Mem->Prop):Out->Sd->Mem->Prop
 |.nx,σ,M=>k σ M
 |o,σ,M=>P o σ M
theorem zN {k:Sd->Mem->Prop}:nxP k P .nx σ M ↔ k σ M:=Iff.rfl
theorem zC8 {k:Sd->Mem->Prop} {d:D}:nxP k P (.ret d) σ M ↔ P (.ret d) σ M:=Iff.rfl
theorem zA2:OkS (zBs σ M) P ↔ P .nx σ M:=zP0
theorem zK:OkS (zW f g σ M) P ↔ OkS (f σ M) (nxP (λσ1 M1=>OkS (g σ1 M1) P) P):=by
 unfold zW;constructor
 .rintro ⟨o,σ1,M1,e,p⟩;split at e
  .rename_i σ2 M2 e1;exact ⟨_,_,_,e1,o,σ1,M1,e,p⟩
  .rename_i hn;refine ⟨o,σ1,M1,e,?_⟩;cases o with
   |nx=>exact absurd e (hn σ1 M1)
   |_=>exact p
 .rintro ⟨o,σ1,M1,e1,p⟩;rw[e1];cases o with
  |nx=>exact p
  |_=>exact ⟨_,_,_,rfl,p⟩
theorem zBe {c:FT}:OkS (sIf c f g σ M) P ↔ Ok (c σ M) λk M1=>if k then OkS (f σ M1) P else OkS (g σ M1) P:=by
 unfold sIf;constructor
 .rintro ⟨o,σ1,M1,e,p⟩;split at e
  .rename_i M2 e1;exact ⟨_,_,e1,by dsimp only;rw[zVv rfl];exact ⟨o,σ1,M1,e,p⟩⟩
  .rename_i M2 e1;exact ⟨_,_,e1,by simpa using ⟨o,σ1,M1,e,p⟩⟩
  .cases e
 .rintro ⟨x,M1,e1,p⟩;rw[e1];cases x with
  |true=>simpa using p
  |false=>simpa using p
theorem zAN {h:FE}:OkS (zAR h σ M) P ↔ Ok (h σ M) (zGy λd M1=>P (.ret d) σ M1):=by
 rw[<-zAi];unfold zAR;constructor
 .rintro ⟨o,σ1,M1,e,p⟩;split at e
  .rename_i d M2 e1;cases e;exact ⟨_,_,e1,p⟩
  .cases e
 .rintro ⟨x,M1,e1,p⟩;rw[e1];exact ⟨_,_,_,rfl,p⟩
theorem zU {i:Nat} {h:FE}:OkS (zj i h σ M) P ↔ Ok (h σ M) (zGy λd M1=>P .nx (σ.set i (some d)) M1):=by
 rw[<-zAi];unfold zj;constructor
 .rintro ⟨o,σ1,M1,e,p⟩;split at e
  .rename_i d M2 e1;cases e;exact ⟨_,_,e1,p⟩
  .cases e
 .rintro ⟨x,M1,e1,p⟩;rw[e1];exact ⟨_,_,_,rfl,p⟩
theorem zCS {h:FE}:OkS (zBp h σ M) P ↔ Ok (h σ M) λ_ M1=>P .nx σ M1:=by
 unfold zBp;constructor
 .rintro ⟨o,σ1,M1,e,p⟩;split at e
  .rename_i d M2 e1;cases e;exact ⟨_,_,e1,p⟩
  .cases e
 .rintro ⟨x,M1,e1,p⟩;rw[e1];exact ⟨_,_,_,rfl,p⟩
theorem zIF {v o i:FE}:OkS (zLF v o i σ M) P ↔ Ok (v σ M) (zGy λd M1=>Ok (o σ M1) λx M2=>Ok (i σ M2) (zGy λj M3=>∃ M4,zJ8 x j d M3=some M4/\P .nx σ M4)):=by
 rw[<-zAi];unfold zLF;constructor
 .rintro ⟨o,σ1,M1,e,p⟩;split at e
  .rename_i d M2 e1;split at e
   .rename_i x M3 e2;split at e
    .rename_i j M4 e3;split at e
     .rename_i M5 e4;cases e;refine ⟨_,_,e1,_,_,e2,?_⟩;dsimp only;rw[<-zAi];exact ⟨_,_,e3,_,e4,p⟩
     .cases e
    .cases e
   .cases e
  .cases e
 .rintro ⟨d,M1,e1,x,M2,e2,p⟩;rw[<-zAi]at p;obtain ⟨j,M3,e3,M4,e4,p⟩:=p;rw[e1];dsimp only;rw[e2];dsimp only;rw[e3];dsimp only;rw[e4];exact ⟨_,_,_,rfl,p⟩
theorem zx {n:Nat} {ds:List D} {Q:D->Mem->Prop}:Ok (zBI n f ds M) Q ↔ OkS (f (ds.map some++List.replicate (n-ds.length) none) M) λo _ M1=>match o with|.ret d=>Q d M1|.nx=>Q .non M1|_=>False:=by
 unfold zBI;constructor
 .rintro ⟨o,M1,e,p⟩;split at e
  .rename_i d σ1 M2 e1;cases e;exact ⟨_,_,_,e1,p⟩
  .rename_i σ1 M2 e1;cases e;exact ⟨_,_,_,e1,p⟩
  .cases e
 .rintro ⟨o,σ1,M1,e1,p⟩;rw[e1];cases o with
  |ret d=>exact ⟨_,_,rfl,p⟩
  |nx=>exact ⟨_,_,rfl,p⟩
  |brk=>exact p.elim
  |cnt=>exact p.elim
theorem zCA {c:FT} {b:FS} (I:Nat->Sd->Mem->Prop) (hs:∀ m σ M,I m σ M->Ok (c σ M) λk M1=>if k then OkS (b σ M1) λo σ2 M2=>match o with|.nx=>∃ m',m'<m/\I m' σ2 M2|.cnt=>∃ m',m'<m/\I m' σ2 M2|.brk=>P .nx σ2 M2|.ret d=>P (.ret d) σ2 M2 else P .nx σ M1) :
  ∀ (n m:Nat) (σ:Sd) (M:Mem),m<n->I m σ M->OkS (zA4 c b n σ M) P
 |0,m,σ,M,h,_=>absurd h (Nat.not_lt_zero _)
 |n+1,m,σ,M,h,hi=>by
  obtain ⟨k,M1,e,q⟩:=hs m σ M hi;unfold zA4;rw[e];cases k with
  |false=>exact ⟨_,_,_,rfl,by simpa using q⟩
  |true=>
   rw[zVv rfl]at q;obtain ⟨o,σ2,M2,e2,q⟩:=q;dsimp only;rw[e2];cases o with
   |nx=>obtain ⟨m',hm,q⟩:=q;exact zCA I hs n m' σ2 M2 (by omega) q
   |cnt=>obtain ⟨m',hm,q⟩:=q;exact zCA I hs n m' σ2 M2 (by omega) q
   |brk=>exact ⟨_,_,_,rfl,q⟩
   |ret d=>exact ⟨_,_,_,rfl,q⟩
theorem zAv {g:FG} {b:FS} {all:List D} {gd:Option (Mem->Prop)} (I:List D->Sd->Mem->Prop)
  (hs:∀ x r σ M,I (x::r) σ M->zAl gd all M /\ ∃ σ1,g x σ=some σ1/\OkS (b σ1 M) λo σ2 M2=>match o with|.nx=>I r σ2 M2|.cnt=>I r σ2 M2|.brk=>P .nx σ2 M2|.ret d=>P (.ret d) σ2 M2)
  (he:∀ σ M,I [] σ M->zAl gd all M/\P .nx σ M):∀ (xs:List D) (σ:Sd) (M:Mem),I xs σ M->OkS (zCc g b all gd xs σ M) P
 |[],σ,M,hi=>by
  unfold zCc;obtain ⟨h1,h2⟩:=he σ M hi;rw[zVv h1];exact ⟨_,_,_,rfl,h2⟩
 |x::r,σ,M,hi=>by
  unfold zCc;obtain ⟨h1,σ1,e1,o,σ2,M2,e2,q⟩:=hs x r σ M hi;rw[zVv h1,e1];dsimp only;rw[e2];cases o with
  |nx=>exact zAv I hs he r σ2 M2 q
  |cnt=>exact zAv I hs he r σ2 M2 q
  |brk=>exact ⟨_,_,_,rfl,q⟩
  |ret d=>exact ⟨_,_,_,rfl,q⟩
theorem zBU {i:FI} {g:FG} {b:FS}:OkS (zCl i g b σ M) P ↔ ∃ xs gd M1,i σ M=some (xs,gd,M1)/\OkS (zCc g b xs gd xs σ M1) P:=by
 unfold zCl;constructor
 .rintro ⟨o,σ1,M1,e,p⟩;split at e
  .rename_i xs gd M2 e1;exact ⟨_,_,_,e1,_,_,_,e,p⟩
  .cases e
 .rintro ⟨xs,gd,M1,e1,p⟩;rw[e1];exact p
theorem zDv {g:FG} {tc:FT} {te:FE} {all:List D} {gd:Option (Mem->Prop)} (I:List D->List D->Mem->Prop)
  (hs:∀ x r acc M,I (x::r) acc M->zAl gd all M /\ ∃ σ1,g x σ=some σ1/\Ok (tc σ1 M) λk M1=>if k then Ok (te σ1 M1) (zGy λd M2=>I r (acc++[d]) M2) else I r acc M1)
  {Q:List D->Mem->Prop} (he:∀ acc M,I [] acc M->zAl gd all M/\Q acc M):∀ (xs acc:List D) (M:Mem),I xs acc M->Ok (zAo g tc te σ all gd xs M) λys M1=>Q (acc++ys) M1
 |[],acc,M,hi=>by
  unfold zAo;obtain ⟨h1,h2⟩:=he acc M hi;rw[zVv h1];exact ⟨_,_,rfl,by simpa using h2⟩
 |x::r,acc,M,hi=>by
  unfold zAo;obtain ⟨h1,σ1,e1,k,M1,e2,q⟩:=hs x r acc M hi;rw[zVv h1,e1];dsimp only;rw[e2];cases k with
  |false=>exact zDv I hs he r acc M1 (by simpa using q)
  |true=>
   rw[zVv rfl,<-zAi]at q;obtain ⟨d,M2,e3,q⟩:=q;dsimp only;rw[e3];obtain ⟨ys,M3,e4,p⟩:=zDv I hs he r (acc++[d]) M2 q;dsimp only;rw[e4];exact ⟨_,_,rfl,by simpa using p⟩
theorem zDw {own:Yj} {i:FI} {g:FG} {tc:FT} {te:FE} {Q:EV->Mem->Prop}:Ok (zq own i g tc te σ M) Q ↔ ∃ xs gd M1,i σ M=some (xs,gd,M1)/\xs.length<=sizeLine/\Ok (zAo g tc te (zA7 own σ) xs gd xs M1) λys M2=>Q (.fl ys) M2:=by
 unfold zq;constructor
 .rintro ⟨o,M1,e,p⟩;split at e
  .rename_i xs gd M2 e1;split at e
   .rename_i hz;split at e
    .rename_i ys M3 e2;cases e;exact ⟨_,_,_,e1,hz,_,_,e2,p⟩
    .cases e
   .cases e
  .cases e
 .rintro ⟨xs,gd,M1,e1,hz,ys,M2,e2,p⟩;rw[e1];dsimp only;rw[zVv hz,e2];exact ⟨_,_,rfl,p⟩
theorem zCj {h:FE} {x:EV} {M1:Mem} {xs:List D} (e:h σ M=some (x,M1)) (e2:zAY M1 x=some xs):zAK h σ M=some (xs,zEH x xs,M1):=by
 unfold zAK;rw[e];dsimp only;rw[e2]
theorem zGt {a:FA} {M1:Mem} {j:Int} (e:a σ M=some ([.int j],M1)) (h1:0<=j) (h2:j<2 ^ 62):zAC a σ M=some ((List.range j.toNat).map λ(k:Nat)=>D.int k,none,M1):=by
 unfold zAC;rw[e];dsimp only;rw[zVv ⟨by omega,h2⟩]
end
section
theorem zDK:Ok (zAT (.dat (.int i)) (.dat (.int j)) M) P ↔ P (.dat (.int (i+j))) M:=zm
theorem zOg:Ok (zNG (.dat (.int i)) (.dat (.int j)) M) P ↔ zM8 i j=true/\P (.dat (.int (i*j))) M:=by
 unfold zNG kI;dsimp only;split
 .rename_i h;rw[zm];simp[h]
 .rename_i h;rw[zEu];simp[h]
theorem zFb:Ok (zE2 (.dat (.int i)) (.dat (.int j)) M) P ↔ 0<j/\P (.dat (.int (i % j))) M:=by
 unfold zE2 kI;dsimp only;split
 .rename_i h;rw[zm];simp at h;simp[h]
 .rename_i h;rw[zEu];simp at h;simp;intro h';omega
theorem zPU:Ok (zNM (.dat (.int i)) (.dat (.int j)) M) P ↔ (0<j/\j<1073741824)/\P (.dat (.int (i / j))) M:=by
 unfold zNM kI;dsimp only;split
 .rename_i h;rw[zm];simp at h;simp[h]
 .rename_i h;rw[zEu];simp at h;simp;intro h' h2;have:=h h';omega
theorem zRy:Ok (zPS (.dat (.int i)) (.dat (.int j)) M) P ↔ (0<=j/\j<=1000000/\i.natAbs<2 ^ 64)/\P (.dat (.int (i ^ j.toNat))) M:=by
 unfold zPS kI;dsimp only;split
 .rename_i h;rw[zm];simp only[zWG,zWt]at h;simp[h]
 .rename_i h;rw[zEu];simp only[zWG,zWt,not_and]at h;simp only[false_iff,not_and];intro ⟨a,b,c⟩;exact absurd c (h ⟨a,b⟩)
theorem zTu:Ok (kLt (.dat (.int i)) (.dat (.int j)) M) P ↔ P (.dat (.bl (decide (i<j)))) M:=zm
theorem zVU:Ok (kGt (.dat (.int i)) (.dat (.int j)) M) P ↔ P (.dat (.bl (decide (j<i)))) M:=zm
theorem zVO:Ok (kGe (.dat (.int i)) (.dat (.int j)) M) P ↔ P (.dat (.bl (decide (j<=i)))) M:=zm
theorem zMu:Ok (kEq (.dat (.int i)) (.dat (.int j)) M) P ↔ P (.dat (.bl (decide (i=j)))) M:=by
 have:kEq (.dat (.int i)) (.dat (.int j)) M=some (.dat (.bl (decide (V.int i=V.int j))),M):=rfl;rw[this,zm];simp
theorem zUc:Ok (kNe (.dat (.int i)) (.dat (.int j)) M) P ↔ P (.dat (.bl (decide (i≠j)))) M:=by
 have:kNe (.dat (.int i)) (.dat (.int j)) M=some (.dat (.bl (!decide (V.int i=V.int j))),M):=rfl;rw[this,zm];simp
theorem zT6 {xs ys:List D}:Ok (zAT (.dat (.tup xs)) (.dat (.tup ys)) M) P ↔ xs.length+ys.length<=sizeLine/\P (.dat (.tup (xs++ys))) M:=by
 have:zAT (.dat (.tup xs)) (.dat (.tup ys)) M=zKZ (.dat (.tup xs)) (.dat (.tup ys)) M:=rfl;rw[this];unfold zKZ;dsimp only[zB0];split
 .rename_i h;rw[zm];simp[h]
 .rename_i h;rw[zEu];simp[h]
theorem zRo {x:EV} {xs:List D} (h:zA3 M x=some xs) (hx:∀ d,x=.dat d->zH7 d=none):Ok (kNe x (.fl []) M) P ↔ P (.dat (.bl (!xs.isEmpty))) M:=by
 have e1:zK6 true x (.fl []) M=none:=by cases x <;> rfl
 have e2:kNe x (.fl []) M=some (.dat (.bl (!xs.isEmpty)),M):=by
  unfold kNe kOr;rw[e1];unfold zOx;rw[h];rfl
 rw[e2,zm]
theorem zK0 {x:EV} {xs:List D} {d:D} (h:zAY M x=some xs) (hd:atI xs i=some d) (p:P (.dat d) M):Ok (kIx x (.dat (.int i)) M) P:=by
 have:kIx x (.dat (.int i)) M=some (.dat d,M):=by unfold kIx;dsimp only;rw[h];dsimp only;rw[hd]
 rw[this,zm];exact p
theorem zPA {xs:List D} {k:Nat} {d:D} (h:xs[k]?=some d):atI xs (k:Int)=some d:=zMG h
theorem zLk {xs:List D} {i:Int} {d:D} (h0:0<=i) (h:xs[i.toNat]?=some d):atI xs i=some d:=by
 have:i=((i.toNat:Nat):Int):=by omega
 rw[this];exact zMG h
theorem zR7 {x:EV} {xs:List D} (h:zAY M x=some xs):Ok (zBb [x] M) P ↔ P (.dat (.int xs.length)) M:=by
 have:zBb [x] M=some (.dat (.int xs.length),M):=by unfold zBb;dsimp only;rw[h]
 rw[this,zm]
theorem zEz {x:EV} {xs:List D} (h:zAY M x=some xs):Ok (zAQ [x] M) P ↔ P (.dat (.tup xs)) M:=by
 have:zAQ [x] M=some (.dat (.tup xs),M):=by unfold zAQ;dsimp only;rw[h]
 rw[this,zm]
theorem zR6:Ok (zNb [.dat (.int i)] M) P ↔ P (.dat (.int (if i<0 then -i else i))) M:=zm
theorem zPD {x:EV} {xs:List D} {lo hi:Ys} (h:zA3 M x=some xs) (ht:zB0 x=none):Ok (kSl x lo hi M) P ↔ P (.fl (zFL xs lo hi)) M:=by
 have:kSl x lo hi M=some (.fl (zFL xs lo hi),M):=by unfold kSl;rw[ht];dsimp only;rw[h]
 rw[this,zm]
theorem zp {xs:List D}:zAY M (.dat (.tup xs))=some xs:=rfl
theorem zBw {xs:List D}:zAY M (.fl xs)=some xs:=rfl
theorem zTM {xs:List D}:zA3 M (.fl xs)=some xs:=rfl
theorem zBj {n:Nat} {xs:List D} (h:M[n]?=some (.lst xs)):zA3 M (.dat (.ref n))=some xs:=by unfold zA3;dsimp only;rw[h]
theorem zME {n:Nat} {xs:List D} (h:M[n]?=some (.fro xs)):zA3 M (.dat (.ref n))=some xs:=by unfold zA3;dsimp only;rw[h]
theorem zAU {n:Nat} {xs:List D} (h:M[n]?=some (.lst xs)):zAY M (.dat (.ref n))=some xs:=zBj h
theorem zQO {n:Nat} {xs:List D} (h:M[n]?=some (.fro xs)):zAY M (.dat (.ref n))=some xs:=zME h
theorem zDj {n:Nat} {xs:List D} {d:D} {Q:D->Mem->Prop} (h:M[n]?=some (.lst xs)) (hz:xs.length<sizeLine):Ok (zAb (.dat (.ref n)) [d] M) Q ↔ Q .non (M.set n (.lst (xs++[d]))):=by
 have:zAb (.dat (.ref n)) [d] M=some (.non,M.set n (.lst (xs++[d]))):=by unfold zAb;dsimp only;rw[h];dsimp only;rw[zVv hz]
 rw[this,zm]
theorem zSq {n:Nat} {x:D} {xs:List D} {Q:D->Mem->Prop} (h:M[n]?=some (.lst (x::xs))):Ok (zJZ (.dat (.ref n)) [.int 0] M) Q ↔ Q x (M.set n (.lst xs)):=by
 have:zJZ (.dat (.ref n)) [.int 0] M=some (x,M.set n (.lst xs)):=by
  unfold zJZ;dsimp only;rw[h];dsimp only;have e:ixN (x::xs).length 0=some 0:=by unfold ixN;rw[zVv (by omega),zVv (by simp)];rfl
  rw[e];dsimp only[List.getElem?_cons_zero];rw[zVv (by decide)];rfl
 rw[this,zm]
theorem zGH {n k:Nat} {xs:List D} {d:D} (h:M[n]?=some (.lst xs)) (hk:k<xs.length):zJ8 (.dat (.ref n)) (.int k) d M=some (M.set n (.lst (xs.set k d))):=by
 unfold zJ8;dsimp only;rw[h];dsimp only;have e:ixN xs.length (k:Int)=some k:=by unfold ixN;rw[zVv (by omega),zVv (by omega)];simp
 rw[e]
end
theorem zRg {m:FF} {ds:List D} {M:Mem} {Q:D->Mem->Prop} (h:Ok (m ds M) λd M1=>(D.und M.length d=true/\M.length<=M1.length /\ ∀ (j:Nat) u,j<M.length->M1[j]?=some u->MO.und M.length u=true)/\Q d (M1.take M.length)):Ok (zKN m ds M) Q:=by
 obtain ⟨d,M1,e,⟨h1,h2,h3⟩,q⟩:=h;unfold zKN;rw[e];dsimp only;rw[zVv]
 .exact ⟨_,_,rfl,q⟩
 .simp only[zWG,zWt,zWH];refine ⟨⟨h1,λu hu=>?_⟩,h2⟩;obtain ⟨j,hj⟩:=List.getElem?_of_mem hu;have hlt:j<M.length:=by
   have:=(zVj.mp hj).1;rw[zW4]at this;omega
  rw[List.getElem?_take_of_lt hlt]at hj;exact h3 j u hlt hj
theorem zBg {m:FF} {ds:List D} {M:Mem} {Q:D->Mem->Prop} (h0:D.unds 0 ds=true) (h:Ok (m ds []) λd _=>D.und 0 d=true/\Q d M):Ok (zCf m ds M) Q:=by
 obtain ⟨d,M1,e,h1,q⟩:=h;unfold zCf;rw[zVv h0,e];dsimp only;rw[zVv h1];exact ⟨_,_,rfl,q⟩
section
theorem Tup.but (x:h.IsTuple a its) (hs:Heap.ExtBut b h h') (n:a≠b):h'.IsTuple a its:=x.extBut hs n
theorem zLe (I:s.heap.IsTupleIter it t i) (T:s.heap.IsTuple t its) (hx:its[i]?=some x)
  (q:∀ h',h'.IsTupleIter it t (i+1)->Heap.SameBut it s.heap h'->Q x { s with heap:=h' }):wpAny (model prog w) A (Builtin.SmallTypes.nextOf (.ref it)) Q E s:=by
 obtain ⟨o,O,C,FD⟩:=id I;obtain ⟨u,U,_,m,G⟩:=T;unfold Builtin.SmallTypes.nextOf;refine zVg (zWI (name:=Str.ofString "__next__") I.typeIs PySem.F.slot_tuple_iterator_next (zWJ PySem.F.slot_tuple_iterator_next I.typeIs PySem.F.entry_tuple_iterator_next ?_ (PySem.F.args_tuple_iterator_next_1 _)));refine zVg (m:=field (.ref it) 0) (zWL O FD (x:=.ref t) rfl ?_);rw[zVy (show ¬ ((Value.ref t==Value.none)=true) by exact zV2)];refine zVg (m:=field (.ref it) 1) (zWL O FD (x:=.int i 0) rfl ?_);refine zVg (m:=seqItems? (.ref t)) (wpAny_seqItems U G ?_);simp only[hx,Int.toNat_natCast];refine zVg (zXR O FD (by simp) (zVi ⟨x,rfl,zVi (q _ ⟨_,zWT _ O (Obj.isFreed_of_fields (zWx FD _)),(Obj.cls_mapFields ..).trans C,?_⟩ (zWj ..))⟩));rw[zWx FD];simp[rawInt]
theorem zHe (hh:A.handled=none) (I:s.heap.IsTupleIter it t i) (T:s.heap.IsTuple t its) (hx:its[i]?=none)
  (q:∀ h' e,Heap.ExtBut it s.heap h'->(∃ o,h'.get? e=some o/\o.cls=.type "StopIteration")->E (.ref e) { s with heap:=h' }):wpAny (model prog w) A (Builtin.SmallTypes.nextOf (.ref it)) Q E s:=by
 obtain ⟨o,O,C,FD⟩:=id I;obtain ⟨u,U,_,m,G⟩:=T;unfold Builtin.SmallTypes.nextOf;refine zVg (zWI (name:=Str.ofString "__next__") I.typeIs PySem.F.slot_tuple_iterator_next (zWJ PySem.F.slot_tuple_iterator_next I.typeIs PySem.F.entry_tuple_iterator_next ?_ (PySem.F.args_tuple_iterator_next_1 _)));refine zVg (m:=field (.ref it) 0) (zWL O FD (x:=.ref t) rfl ?_);rw[zVy (show ¬ ((Value.ref t==Value.none)=true) by exact zV2)];refine zVg (m:=field (.ref it) 1) (zWL O FD (x:=.int i 0) rfl ?_);refine zVg (m:=seqItems? (.ref t)) (wpAny_seqItems U G ?_);simp only[hx,Int.toNat_natCast];refine zVg (zW3 (zVg (zXR O FD (by simp) ?_)));refine zVg (m:=newExc (.type "StopIteration") []) ?_;simp only[newTuple,newExc];refine zVg (zV9 (zVg (m:=firstArgMember _ _) (wpAny_of_eq (a:=Value.none) (by first|rfl|(simp only[firstArgMember];rfl)) (zV9 ?_ (by size_fits)))) (by size_fits));simp only[raiseNew];refine zVg (wpAny_handled ?_);first|rw[hh]|rw[show A.in1.handled=none from hh]
 exact zVg (zVi (wpAny_throw (q _ _ (((zWj ..).extBut.push _).push _) ⟨_,zVq _ rfl,rfl⟩)))
end
theorem zFW {X:Cx} {zB:Yd} {σ:L2.St} {H:Hp} {s:Yl} {h':Heap} {t':Nat} {ch:Yg} {T:Yt} {o:HO} (I:Inv X zB σ H s) (hf:∀ b∈ch,zB5 X zB H b)
  (k:∀ b u,b∉ch->s.heap.get? b=some u->h'.get? b=some u) (hT:s.heap.objs.size<=T) (new:zAm X.prog X.w (upd H T o) h' T o):Inv X zB σ (upd H T o) { s with heap:=h',toks:=t' }:=by
 have hn:H T=none:=I.hok.fresh hT;have nch:∀ b u,H b=some u->b∉ch:=λb u e z=>by rw[(hf b z).1]at e;cases e
 have un:∀ b u,H b=some u->upd H T o b=some u:=λb u e=>by rw[zV (zu e hn)];exact e
 refine I.step (g':=s.gens) (d':=s.drawn) (ch:=ch) (λb hb=>⟨(hf b hb).2.2.2.1,(hf b hb).2.1,(hf b hb).2.2.2.2.1,(hf b hb).2.2.2.2.2⟩) (λb u _ _ hc e _=>k b u hc e) (λb u _ _ hc e _=>⟨u.slots,k b u hc e⟩)
  (λb u _ e n=>by rw[zV (λz=>by rw[z]at e;exact absurd (zVr e) (Nat.not_lt.mpr hT))];exact n) (λb u hc e=>⟨u,k b u hc e⟩) (λb xs e=>un b _ e) (λb p u e=>un b _ e) (λb ps e=>⟨#[],by rw[un b _ e];simp⟩) (λm hm=>?_) (λb u e=>?_) I.bare
 .obtain ⟨p,es,ep,ho,r⟩:=hm;exact ⟨p,es,ep,k _ p (λz=>(hf _ z).2.1 rfl) ho,r⟩
 .by_cases hb:b=T
  .subst hb;rw[zt]at e;cases e;exact new
  .rw[zV hb]at e;refine (I.hok b u e).stay (λc v hc q=>k c v ?_ q) (λc q=>un c _ q) λc xs q=>un c _ q;rcases hc with z|z
   .rw[z];exact nch b u e
   .exact nch c _ z
theorem zDx {X:Cx} {zB:Yd} {σ:L2.St} {H:Hp} {s:Yl} {h':Heap} {t':Nat} {ch:Yg} (I:Inv X zB σ H s) (hf:∀ b∈ch,zB5 X zB H b)
  (k:∀ b u,b∉ch->s.heap.get? b=some u->h'.get? b=some u):Inv X zB σ H { s with heap:=h',toks:=t' }:=by
 have nch:∀ b u,H b=some u->b∉ch:=λb u e z=>by rw[(hf b z).1]at e;cases e
 refine I.step (g':=s.gens) (d':=s.drawn) (ch:=ch) (λb hb=>⟨(hf b hb).2.2.2.1,(hf b hb).2.1,(hf b hb).2.2.2.2.1,(hf b hb).2.2.2.2.2⟩) (λb u _ _ hc e _=>k b u hc e) (λb u _ _ hc e _=>⟨u.slots,k b u hc e⟩)
  (λb u _ e n=>n) (λb u hc e=>⟨u,k b u hc e⟩) (λb xs e=>e) (λb p u e=>e) (λb ps e=>⟨#[],by rw[e];simp⟩) (λm hm=>?_) (λb u e=>?_) I.bare
 .obtain ⟨p,es,ep,ho,r⟩:=hm;exact ⟨p,es,ep,k _ p (λz=>(hf _ z).2.1 rfl) ho,r⟩
 .refine (I.hok b u e).stay (λc v hc q=>k c v ?_ q) (λc q=>q) λc xs q=>q;rcases hc with z|z
  .rw[z];exact nch b u e
  .exact nch c _ z
section
def zFY (i j:Nat):FG:=λd σ=>match d with
 |.tup [x,y]=>some ((σ.set i (some x)).set j (some y))
 |_=>none
abbrev gP2 (K:Yb) (i j:Nat):TG:=zPa K 2 (zD8 (zBX i) (zD8 (zBX j) zOK))
theorem zOe {K:Yb} {i j:Nat}:GOk (gP2 K i j) (zFY i j):=by
 intro L H σ σ' τ d v Q rs r hf q;unfold zFY at hf;split at hf
 .rename_i x y;cases hf;unfold Rep at r;obtain ⟨a,vs,rfl,e,r⟩:=r;obtain ⟨v1,v2,rfl,r1,r2⟩:=r.two;exact ⟨a,_,rfl,.of e,rfl,v1,[v2],rfl,v2,[],rfl,rfl,q _ ((rs.set r1).set r2)⟩
 .cases hf
theorem zNa {K:Yb} {own:Yj} {i j:Nat} (hi:i∈own) (hj:j∈own):zEK own (gP2 K i j) (zFY i j):=by
 intro L H σ σ' τ τ0 d v Q rs ex r hf q;unfold zFY at hf;split at hf
 .rename_i x y;cases hf;unfold Rep at r;obtain ⟨a,vs,rfl,e,r⟩:=r;obtain ⟨v1,v2,rfl,r1,r2⟩:=r.two;exact ⟨a,_,rfl,.of e,rfl,v1,[v2],rfl,v2,[],rfl,rfl,q _ ((rs.set r1).set r2) ((ex.set hi).set hj)⟩
 .cases hf
end
section
variable {X:Cx}
theorem zLz:∀ {bs:List Bool} {its:Yf},zb (bs.map V.bl) its -> ∀ (i:Nat) v,its[i]?=some v -> ∃ k,bs[i]?=some k/\v=.bool k
 |[],_,.nil,_,_,h=>by simp at h
 |k::bs,_,.cons r t,0,v,h=>by
  simp at h;subst h;exact ⟨k,rfl,r⟩
 |k::bs,_,.cons r t,i+1,v,h=>by
  obtain ⟨k',e1,e2⟩:=zLz t i v (by simpa using h);exact ⟨k',by simpa using e1,e2⟩
theorem zK2 (bs:List Bool):((List.range bs.length).all λi=>(bs[i]?).getD true)=bs.all id:=by
 rw[Bool.eq_iff_iff,zWH,zWH];constructor
 .intro q k hk;obtain ⟨i,hi,rfl⟩:=zXj hk;have:=q i (zWK.mpr hi);rw[zVk hi]at this;exact this
 .intro q i hi;rw[zVk (zWK.mp hi)];exact q _ (zWE _)
def zT3 (K:Yb) (F:List Bool->Bool):List V->Hp->VK->Prop:=λxs H Q=>∃ q bs,xs=[.ref q]/\SqL K H q (bs.map V.bl)/\Q (.bl (F bs)) H
theorem zM6 (hc:X.calm=true):zBz X (.builtin "all") (zT3 X.K λbs=>bs.all id):=by
 intro zB s σ H xs us Q I r h;obtain ⟨l,bs,rfl,hq,q⟩:=h;obtain ⟨u,rfl,rx⟩:=zDX r;cases rx;obtain ⟨its,rv,pl,_⟩:=I.list hq;have hlt:l<s.heap.objs.size:=by obtain ⟨_,z,_⟩:=pl.isList;exact zVr z
 refine call_all_walk (wpAny_pyIter_list pl.isList ⟨s.heap.objs.size,[s.heap.objs.size,l],[s.heap.objs.size],its.toArray.size,_,_,λi=>(bs[i]?).getD true,rfl,Walks.list (A:=X.A.in1) (I.ok.hd hc) _ l (zV1 hlt) its.toArray,
  ⟨⟨_,zVq _ rfl,rfl,rfl⟩,pl.isList.push _⟩,λi v s' Q' E' hP hQ=>?_,λh' tk hk=>?_⟩)
 .obtain ⟨k,z,rfl⟩:=zLz rv i v (by simpa using hP);dsimp only at hQ;rw[z]at hQ;exact wpAny_truthy_bool hQ
 .have hl:=rv.length;rw[zVp]at hl;rw[zVo,<-hl,zK2];exact ⟨.bl _,H,I.kept (t':=tk) λb o z=>hk b o (λm=>by rw[zV8.mp m]at z;exact zWO _ (zVr z)) (zVh _ z),rfl,q⟩
def zFV:List D->Option (List Bool)
 |[]=>some []
 |.bl k::r=>match zFV r with
  |some bs=>some (k::bs)
  |none=>none
 |_=>none
theorem zL3:∀ {ds:List D} {bs:List Bool} {vs:List V},zFV ds=some bs->zM L H ds vs->vs=bs.map V.bl
 |[],bs,vs,e,r=>by cases e;unfold zM at r;exact r
 |d::ds,bs,vs,e,r=>by
  unfold zM at r;obtain ⟨v,r',rfl,r1,r2⟩:=r;cases d with
  |bl k=>
   unfold zFV at e;cases q:zFV ds with
   |none=>rw[q]at e;cases e
   |some bs'=>
    rw[q]at e;cases e;unfold Rep at r1;rw[r1,zL3 q r2];rfl
  |_=>cases e
def zNL (F:List Bool->Bool):KB:=λxs M=>match xs with
 |[x]=>match zA3 M x with
  |some ds=>match zFV ds with
   |some bs=>some (.dat (.bl (F bs)),M)
   |none=>none
  |none=>none
 |_=>none
theorem zQQ {K:Yb} {F:List Bool->Bool}:zFR K (zT3 K F) (zNL F):=by
 intro L M M' H H0 xs d vs Q c r hk q;unfold zNL at hk;split at hk
 .rename_i x;split at hk
  .rename_i ds e1;split at hk
   .rename_i bs e2;cases hk;obtain ⟨v,rfl,r1⟩:=r.one;obtain ⟨l,ws,rfl,h1,r2⟩:=zAa c r1 e1;have:=zL3 e2 r2;subst this;exact ⟨l,bs,rfl,.inl h1,q L H _ (.refl L H) c (zBc (L:=L) (H:=H))⟩
   .cases hk
  .cases hk
 .cases hk
abbrev zTW:KB:=zNL λbs=>bs.all id
section
theorem zTz (hc:X.calm=true) (hg:Gl X "all") (hm:X.mg "all" = none) (ha:QAE X [e] fa) (he:starEach [e] X.env=(false,eval e X.env)::starEach [] X.env:=by rfl) (hpl:(backTo pos (starEach [] X.env)).any (·.1)=false:=by rfl):QE X (.Call (.Name "all" p) [e] [] pos) (fB zTW fa) :=
 zC9 zQQ (zM6 hc) (by rfl) hg hm ha (by decide) (by decide) he hpl
end
theorem zTp (h:zA3 M x=some ds) (hb:zFV ds=some bs):Ok (zNL F [x] M) P ↔ P (.dat (.bl (F bs))) M:=by
 have:zNL F [x] M=some (.dat (.bl (F bs)),M):=by unfold zNL;dsimp only;rw[h];dsimp only;rw[hb]
 rw[this,zm]
theorem zHQ:∀ bs:List Bool,zFV (bs.map D.bl)=some bs
 |[]=>rfl
 |k::bs=>by rw[zVz];unfold zFV;rw[zHQ bs]
def zK3:V->Bool
 |.non=>true
 |.bl _=>true
 |_=>false
theorem zP6:OpR X (compareOp .IsNot) (λx y H Q=>zK3 y=true/\Q (.bl (!decide (x=y))) H):=by
 intro zB s σ H x y v u Q I rx ry h;obtain ⟨hp,q⟩:=h;cases y with
 |non=>
  cases ry;refine wpAny_isNot_plain (by cases x <;> first|(cases rx;rfl)|(obtain ⟨t,rfl⟩:=rx;rfl)) (zl I q ?_);cases x <;> first|(cases rx;rfl)|(obtain ⟨t,rfl⟩:=rx;rfl)
 |bl k=>
  cases ry;refine wpAny_isNot_plain (by cases x <;> first|(cases rx;rfl)|(obtain ⟨t,rfl⟩:=rx;rfl)) (zl I q ?_);cases x with
  |bl k'=>cases rx;cases k <;> cases k' <;> rfl
  |_=>first|(cases rx;rfl)|(obtain ⟨t,rfl⟩:=rx;rfl)
 |_=>cases hp
def isD:EV->D->Option Bool
 |x,.non=>match x with
  |.dat .non=>some true
  |_=>some false
 |x,.bl k=>match x with
  |.dat (.bl k')=>some (decide (k'=k))
  |_=>some false
 |_,_=>none
def kIs (neg:Bool):K2:=λx y M=>match y with
 |.dat d=>match isD x d with
  |some k=>some (.dat (.bl (if neg then !k else k)),M)
  |none=>none
 |_=>none
theorem zQa (rx:zc H0 L H x v) (ry:Rep L H d w) (e:isD x d=some k):zK3 w=true/\decide (v=w)=k:=by
 cases d with
 |non=>
  unfold Rep at ry;subst ry;refine ⟨rfl,?_⟩;cases x with
  |fl xs=>obtain ⟨q,vs,rfl,_⟩:=rx;cases e;rfl
  |dat d'=>
   cases d' with
   |non=>unfold zc Rep at rx;subst rx;cases e;rfl
   |bl _=>unfold zc Rep at rx;subst rx;cases e;rfl
   |int _=>unfold zc Rep at rx;subst rx;cases e;rfl
   |str _=>unfold zc Rep at rx;subst rx;cases e;rfl
   |tup _=>unfold zc Rep at rx;obtain ⟨q,vs,rfl,_⟩:=rx;cases e;rfl
   |ref _=>unfold zc Rep at rx;obtain ⟨q,rfl,_⟩:=rx;cases e;rfl
 |bl k'=>
  unfold Rep at ry;subst ry;refine ⟨rfl,?_⟩;cases x with
  |fl xs=>obtain ⟨q,vs,rfl,_⟩:=rx;cases e;rfl
  |dat d'=>
   cases d' with
   |non=>unfold zc Rep at rx;subst rx;cases e;rfl
   |bl j=>unfold zc Rep at rx;subst rx;cases e;cases j <;> cases k' <;> rfl
   |int _=>unfold zc Rep at rx;subst rx;cases e;rfl
   |str _=>unfold zc Rep at rx;subst rx;cases e;rfl
   |tup _=>unfold zc Rep at rx;obtain ⟨q,vs,rfl,_⟩:=rx;cases e;rfl
   |ref _=>unfold zc Rep at rx;obtain ⟨q,rfl,_⟩:=rx;cases e;rfl
 |_=>cases e
theorem zOM (h:kIs neg x y M=some (r,M')):∃ d k,y=.dat d/\isD x d=some k/\r=.dat (.bl (if neg then !k else k))/\M'=M:=by
 unfold kIs at h;split at h
 .rename_i d;split at h
  .rename_i k e1;cases h;exact ⟨d,k,rfl,e1,rfl,rfl⟩
  .cases h
 .cases h
theorem zO3 {K:Yb}:zCk K (λx y H Q=>zK3 y=true/\Q (.bl (!decide (x=y))) H) (kIs true):=by
 intro L M M' H H0 x y d v w Q cc rx ry hk q;obtain ⟨d',k,rfl,e,rfl,rfl⟩:=zOM hk;obtain ⟨h1,h2⟩:=zQa rx ry e;refine ⟨h1,?_⟩;rw[h2];exact q L H _ (.refl L H) cc (zBc (L:=L) (H:=H))
theorem zQN (h1:QE X a f) (h2:QE X b g):QT X (.Compare a [.IsNot] [b] pos) (tst (fOp (kIs true) f g)):=zDn zO3 zP6 h1 h2 (zDI _)
def zMp (f:FE):FE:=λσ M=>match f σ M with
 |some (.dat (.int i),M1)=>some (.dat (.int (-i)),M1)
 |_=>none
theorem zT4 (h1:QE X a f):QE X (.UnaryOp .USub a pos) (zMp f):=.mk <| PE.imp (zUV zSX h1.un) λτ H Q zz=>by
 obtain ⟨L,σ,M,d,M',cc,rs,hf,q⟩:=zz;unfold zMp at hf;split at hf
 .rename_i i M1 e1;cases hf;refine ⟨L,σ,M,_,_,cc,rs,e1,λL1 H1 v s1 c1 r1=>?_⟩;exact ⟨i,by unfold zc Rep at r1;exact r1,q L1 H1 _ s1 c1 (zAM (L:=L1) (H:=H1))⟩
 .cases hf
end
open AutoSeq1 (wpAny_loadPart')
section
theorem zPP {r:Yt} {lo hi:Int} {t u v:Tok} {n:Nat} {Q:List Value->Shared->Prop} (hh:A.handled=none) (R:IsRange s.heap r lo hi 1 t u v) (sm:Builtin.Range.small lo hi 1=true) (hn:Builtin.Range.rangeSize lo hi 1=n) (hz:n<=2 ^ 24)
  (q:∀ h' tk (acc:Yp),(∀ b o,s.heap.get? b=some o->h'.get? b=some o)->ItemsOf (λi v=>∃ t,v=.int (lo+i*1) t) acc n->Q acc.toList { s with heap:=h',toks:=tk }):wpAny (model prog w) A (collect (.ref r)) Q E s:=by
 unfold collect;refine zVg (wpAny_runValue (zWl PySem.F.entry_proto_collect ?_));rw[zWb PySem.F.plain_proto_collect _];refine zVg (m:=newList []) (zV9 (zVi ⟨plainId_quiet PySem.F.plain_list_iadd _,zWl PySem.F.entry_list_iadd ?_⟩));rw[zWb PySem.F.plain_list_iadd _];have S0:(s.heap.push { cls:=.type "list", data:=.seq ([]:List Value).toArray }).get? s.heap.objs.size=some { cls:=.type "list", data:=.seq #[] 0 }:=zVq _ rfl
 have fin:∀ (h':Heap) (tk:Nat) (acc:Array Value) (k:Nat),(∀ b o,b≠s.heap.objs.size->(s.heap.push { cls:=.type "list", data:=.seq ([]:List Value).toArray }).get? b=some o->h'.get? b=some o) ->
   h'.get? s.heap.objs.size=some { cls:=.type "list", dict:=none,data:=.seq acc k,slots:=#[] }->ItemsOf (λi v=>∃ t,v=.int (lo+i*1) t) acc n ->
   wpAny (model prog w) A (match Value.ref s.heap.objs.size with
    |Value.ref a=>do
     match (<- load a).data with
      |Data.seq xs _=>pure xs.toList
      |_=>unsupported "internal:collect"
    |_=>unsupported "internal:collect") Q E { s with heap:=h',toks:=tk }:=λh' tk acc k kp e it=>by
  refine zVg (m:=load s.heap.objs.size) (wpAny_load e (zVi (q h' tk acc (λb o m=>kp b o (zV1 (zVr m)) (zVh _ m)) it)))
 refine zWC (wpAny_extend_range (A:=A) (s:={ s with heap:=s.heap.push { cls:=.type "list", data:=.seq ([]:List Value).toArray } })
  (R:=λr s'=>r=.ok (.ret (.ref s.heap.objs.size)) /\ ∃ h' tk acc k,s'={ s with heap:=h',toks:=tk }/\(∀ b o,b≠s.heap.objs.size->(s.heap.push { cls:=.type "list", data:=.seq ([]:List Value).toArray }).get? b=some o->h'.get? b=some o) /\
   h'.get? s.heap.objs.size=some { cls:=.type "list", dict:=none,data:=.seq acc k,slots:=#[] }/\ItemsOf (λi v=>∃ t,v=.int (lo+i*1) t) acc n)
  hh (zVh _ R) sm hn hz s.heap.objs.size (.ref s.heap.objs.size) 0 S0 λh' tk acc k kp e it=>⟨rfl,h',tk,acc,k,rfl,kp,e,it⟩) (λf s' z=>?_) (λe s' z=>?_)
 .cases f with
  |done f=>
   obtain ⟨e,h',tk,acc,k,rfl,z1,z2,z3⟩:=z;cases e;exact fin h' tk acc k z1 z2 z3
  |again c'=>exact ⟨z.1,codeAny_mono z.2 λr s'' z=>by obtain ⟨rfl,h',tk,acc,k,rfl,z1,z2,z3⟩:=z;exact fin h' tk acc k z1 z2 z3⟩
 .exact absurd z.1 (by simp)
end
theorem zIx (r:Yt) (lo hi:Int) (t u v:Tok) (n:Nat) (sm:Builtin.Range.small lo hi 1=true) (hn:Builtin.Range.rangeSize lo hi 1=n) (hz:n<=2 ^ 24) :
  Meets (Builtin.«tuple.__new__» ⟨[.type "tuple", .ref r],[]⟩) (λA R s=>A.handled=none/\IsRange s.heap r lo hi 1 t u v /\
   ∀ (h':Heap) (tk:Nat) (acc:Array Value),(∀ b o,s.heap.get? b=some o->h'.get? b=some o)->ItemsOf (λi v=>∃ t,v=.int (lo+i*1) t) acc n->R (.ok (.ret (.ref h'.objs.size))) { s with heap:=h'.push { cls:=.type "tuple", data:=.seq acc },toks:=tk }) :=
 .of_wp λprog w A R s h=>by
  obtain ⟨hp,g,d,tk,os⟩:=s;obtain ⟨hh,Ra,h⟩:=h;have h1:=sub_tuple_self;have h2:=init_tuple_lookup;have h3:=madeHere_tuple;have T:Shared.TypeIs ⟨hp,g,d,tk,os⟩ (.ref r) "range" := ⟨_,Ra,rfl⟩;wp_walk using wpAny_loadPart' Ra,wpAny_typeOf T,zPP (show A.in1.handled=none from hh) Ra sm hn hz;intro h' tk' acc kp it;refine zVg (m:=Builtin.Tuple.tupleExact acc.toList.toArray) ?_;unfold Builtin.Tuple.tupleExact;have sz:acc.toList.toArray.size<=sizeLine:=by rw[zVo,zWP,it.1,sizeLine_eq];omega
  refine zV9 (zVi ⟨_,rfl,?_⟩) sz;have e:acc.toList.toArray=acc:=by simp
  rw[e];exact h h' tk' acc kp it
section
theorem zO1:zBz X (.type "range") (λxs H Q=>∃ j,xs=[.int j] /\ ∀ l,H l=none->Q (.ref l) (upd H l (.rng 0 j))):=by
 intro zB s σ H xs us Q I r h;obtain ⟨j,rfl,q⟩:=h;obtain ⟨u,rfl,rx⟩:=zDX r;obtain ⟨t,rfl⟩:=rx;refine call_range_1 ⟨.ref s.heap.objs.size,_,I.laid (λb o z=>zVh _ z) (zVm _) ?_,rfl,q _ (I.hok.fresh (zVm _))⟩;exact ⟨_,_,_,zVq _ rfl⟩
def upV (n:Nat):List V:=(List.range n).map λ(k:Nat)=>V.int k
theorem zPO (h:ItemsOf (λi v=>∃ t,v=.int ((0:Int)+i*1) t) acc n):zb (upV n) acc.toList:=by
 obtain ⟨hz,hi⟩:=h;have:∀ (xs:Yf) (k:Nat),(∀ j v,xs[j]?=some v -> ∃ t,v=Value.int ((k+j:Nat):Int) t)->zb ((List.range' k xs.length).map λ(k:Nat)=>V.int k) xs:=by
  intro xs;induction xs with
  |nil=>intro k _;exact .nil
  |cons x xs ih=>
   intro k hk;rw[zWD,List.range'_succ,zVz];refine .cons ?_ (ih (k+1) λj v e=>?_)
   .obtain ⟨t,e⟩:=hk 0 x rfl;exact ⟨t,by simpa using e⟩
   .obtain ⟨t,e'⟩:=hk (j+1) v (by simpa using e);exact ⟨t,by rw[e'];congr 2;omega⟩
 have q:=this acc.toList 0 (λj v e=>by
  obtain ⟨t,e'⟩:=hi j v (by simpa using e);exact ⟨t,by rw[e'];congr 1;omega⟩)
 unfold upV;rw[List.range_eq_range'];rw[zWP,hz]at q;exact q
theorem zMx (h0:0<=j) (h1:j<=16777216):Builtin.Range.small 0 j 1=true/\Builtin.Range.rangeSize 0 j 1=(j.toNat:Int):=by
 refine ⟨small_one (by omega) (by omega) (by omega) (by omega),?_⟩;rw[rangeSize_one];split <;> omega
def zVC (mk:List V->HO):List V->Hp->VK->Prop:=λxs H Q=>∃ r j,xs=[.ref r]/\H r=some (.rng 0 j)/\0<=j/\j<=16777216 /\ ∀ l,H l=none->Q (.ref l) (upd H l (mk (upV j.toNat)))
theorem zLM (n:Nat):(upV n).length=n:=by unfold upV;simp
theorem zMe (hc:X.calm=true):zBz X (.type "tuple") (zVC HO.tup):=by
 intro zB s σ H xs us Q I r h;obtain ⟨l,j,rfl,hr,h0,h1,q⟩:=h;obtain ⟨u,rfl,rx⟩:=zDX r;cases rx;obtain ⟨t,u,v,er⟩:=(show zAm X.prog X.w H s.heap l (.rng 0 j)from I.hok l _ hr);obtain ⟨sm,sz⟩:=zMx h0 h1
 refine callType_new PySem.F.called_tuple (by decide) (PySem.F.typeCall_tuple_1 _) (PySem.F.newCall_tuple_1 _) (λobj=>PySem.F.args_object_init_2 obj _) PySem.F.entry_tuple_new (zIx l 0 j t u v j.toNat sm sz (by omega))
  ⟨I.ok.hd hc,er,λh' tk acc kp it=>⟨⟨_,zVq _ rfl,rfl⟩,?_⟩⟩
 have I1:Inv X zB σ H { s with heap:=h',toks:=tk }:=I.kept kp;refine ⟨.ref h'.objs.size,_,I1.laid (t':=tk) (λb o z=>zVh _ z) (zVm _) ?_,rfl,q _ (I1.hok.fresh (zVm _))⟩;exact ⟨by rw[zLM,sizeLine_eq];omega,acc.toList,zPO it,by simpa using zCN.new h' acc⟩
def upD (n:Nat):List D:=(List.range n).map λ(k:Nat)=>D.int k
theorem zQ3 (n:Nat):zM L H (upD n) (upV n):=by
 have:∀ xs:List Nat,zM L H (xs.map λ(k:Nat)=>D.int k) (xs.map λ(k:Nat)=>V.int k):=by
  intro xs;induction xs with
  |nil=>exact .nil
  |cons x xs ih=>exact .cons zAM ih
 exact this _
def zLr (f:FE):FE:=λσ M=>match f σ M with
 |some (.dat (.int j),M1)=>if 0<=j/\j<=16777216 then some (.dat (.tup (upD j.toNat)),M1) else none
 |_=>none
theorem zS7 (hc:X.calm=true) (hg:Gl X "tuple") (hm:X.mg "tuple" = none) (hg2:Gl X "range") (hm2:X.mg "range" = none) (ha:QE X a f)
  (he:starEach [Expr.Call (.Name "range" p2) [a] [] pos2] X.env=(false,eval (Expr.Call (.Name "range" p2) [a] [] pos2) X.env)::starEach [] X.env:=by rfl) (hpl:(backTo pos (starEach [] X.env)).any (·.1)=false:=by rfl)
  (he2:starEach [a] X.env=(false,eval a X.env)::starEach [] X.env:=by rfl) (hpl2:(backTo pos2 (starEach [] X.env)).any (·.1)=false:=by rfl) :
  QE X (.Call (.Name "tuple" p) [.Call (.Name "range" p2) [a] [] pos2] [] pos) (zLr f) :=
 .mk <| PE.imp (zE0 (zMe hc) hg hm (by rfl) (zFr (zE0 zO1 hg2 hm2 boot_range (zFr ha.un zIs he2) (by decide) (by decide) he2 hpl2) zIs he) (by decide) (by decide) he hpl) λτ H Q zz=>by
  obtain ⟨L,σ,M,d,M',c,rs,hf,q⟩:=zz;unfold zLr at hf;split at hf
  .rename_i j M1 e1;split at hf
   .rename_i hb;cases hf;refine ⟨L,σ,M,_,_,c,rs,e1,λL1 H1 v s1 c1 r1=>⟨j,by unfold zc Rep at r1;rw[r1],λl hl=>⟨l,j,rfl,zt,hb.1,hb.2,λk hk=>?_⟩⟩⟩;exact q L1 _ _ ((s1.trans (.upd hl)).trans (.upd hk)) ((c1.upd hl).upd hk) (Rep.newTup hk (zQ3 _))
   .cases hf
  .cases hf
end
def zIa:Expr->Bool
 |.Starred .. =>false
 |_=>true
theorem zi (h:zIa e=true):starEach (e::es) env=(false,eval e env)::starEach es env:=by
 cases e <;> first|rfl|cases h
theorem zPc (h:zIa e=true):starEach [e] env=[(false,eval e env)]:=zi h
theorem zEp:∀ {es:Yi},es.all zIa=true->(backTo pos (starEach es env)).any (·.1)=false
 |[],_=>rfl
 |e::es,h=>by
  rw[List.all_cons,zWG]at h;rw[zi h.1];have:=zEp (pos:=pos) (env:=env) h.2;simpa [backTo] using this
theorem Cor.pushO {K:Yb} {L:Yg} {M:List MO} {H:Hp} {p:Yt} {o:HO} {m:MO} (c:Cor K L M H) (h:H p=none) (new:zF2 K (L++[p]) (L2.upd H p o) p m) :
  Cor K (L++[p]) (M++[m]) (L2.upd H p o)/\Stp L H (L++[p]) (L2.upd H p o):=by
 have hp:p∉L:=λz=>by obtain ⟨o,e⟩:=c.tracked z;rw[h]at e;cases e
 have st:Stp L H (L++[p]) (L2.upd H p o):=by
  refine ⟨⟨[p],rfl⟩,λa ha=>?_,λa o e _=>?_,λa o e=>?_,λa o u e=>?_⟩
  .rcases zV6.mp ha with z|z
   .exact .inl z
   .have:a=p:=by simpa using z
    subst this;exact .inr h
  all_goals (rw[zV (zu e h)];exact e)
 refine ⟨⟨by simp[c.len],?_,λn a m e1 e2=>?_⟩,st⟩
 .rw[zWu];exact ⟨c.nd,by simp,λa ha b hb z=>by
   have:b=p:=by simpa using hb
   subst this;subst z;exact hp ha⟩
 .by_cases hn:n<L.length
  .rw[zVn hn]at e1;rw[zVn (by rw[<-c.len];exact hn)]at e2;exact (c.obj n a m e1 e2).stp st λo e=>by rw[zV (zu e h)];exact e
  .have hn':n=L.length:=by
    have:=(zVj.mp e1).1;rw[zVw]at this;simp at this;omega
   subst hn';simp at e1;rw[c.len]at e2;simp at e2;subst e1;subst e2;exact new
theorem Cor.put {K:Yb} {L:Yg} {M:List MO} {H:Hp} {n:Nat} {p:Yt} {o o':HO} {m:MO} (c:Cor K L M H) (h1:L[n]?=some p) (ho:H p=some o) (ht:∀ xs,o≠.tup xs) (hf:∀ a u,o≠.frz a u)
  (new:Stp L H L (L2.upd H p o')->zF2 K L (L2.upd H p o') p m):Cor K L (M.set n m) (L2.upd H p o')/\Stp L H L (L2.upd H p o'):=by
 have st:Stp L H L (L2.upd H p o'):=by
  refine ⟨⟨[],by simp⟩,λa ha=> .inl ha,λa o e ha=>?_,λa xs e=>?_,λa b u e=>?_⟩
  .rw[zV (show a≠p from λz=>ha (by rw[z];exact zWX h1))];exact e
  .rw[zV (zGQ e ho (λz=>ht xs z.symm))];exact e
  .rw[zV (zGQ e ho (λz=>hf b u z.symm))];exact e
 refine ⟨⟨by simp[c.len],c.nd,λk a m' e1 e2=>?_⟩,st⟩;rw[zXF]at e2;split at e2
 .rename_i hk;subst hk;rw[h1]at e1;cases e1;split at e2
  .cases e2;exact new st
  .cases e2
 .rename_i hk;have hne:a≠p:=λz=>hk (by
   subst z;exact (List.getElem?_inj (zVj.mp h1).1 c.nd).mp (h1.trans e1.symm))
  exact (c.obj k a m' e1 e2).stp st λo e=>by rw[zV hne];exact e
section
def zIS:FE:=λ_ M=>some (.dat (.ref M.length),M++[.dicT []])
theorem zQW:QE X (.Dict [] [] pos) zIS:=.mk <| PE.imp zPo λτ H Q ⟨L,σ,M,d,M',c,rs,hf,q⟩ p hp=>by
 unfold zIS at hf;cases hf;obtain ⟨c2,s2⟩:=c.pushO (m:=.dicT []) hp ⟨[],zt,rfl⟩;refine q _ _ _ s2 c2 ?_;unfold zc Rep;exact ⟨p,rfl,by rw[<-c.len];simp⟩
theorem zFt (h:Rep L H d v) (e:zDc d=some k):v=kV k:=by
 cases d with
 |int i=>cases e;unfold Rep at h;exact h
 |str x=>cases e;unfold Rep at h;exact h
 |_=>cases e
def zKB (M:Mem):EV->Option (List D)
 |.fl xs=>some xs
 |.dat (.ref n)=>match M[n]? with
  |some (.lst xs)=>some xs
  |_=>none
 |_=>none
theorem zOD {K:Yb} {L:Yg} {M:Mem} {H H0:Hp} {x:EV} {v:V} {xs:List D} (c:Cor K L M H) (r:zc H0 L H x v) (h:zKB M x=some xs):∃ a vs,v=.ref a/\H a=some (.lst vs)/\zM L H xs vs:=by
 cases x with
 |fl ys=>
  cases h;obtain ⟨p,vs,rfl,_,e,_,r⟩:=r;exact ⟨p,vs,rfl,e,r⟩
 |dat d=>
  cases d with
  |ref n=>
   unfold zc Rep at r;obtain ⟨a,rfl,e⟩:=r;unfold zKB at h;dsimp only at h;split at h
   .rename_i ys q;cases h;obtain ⟨vs,e1,r1⟩:=c.obj n a _ e q;exact ⟨a,vs,rfl,e1,r1⟩
   .cases h
  |_=>cases h
def zFc:K2:=λx y M=>match zKB M x,zKB M y with
 |some xs,some ys=>if xs.length+ys.length<=sizeLine then some (.fl (xs++ys),M) else none
 |_,_=>none
theorem zN8 {K:Yb}:zCk K zUZ zFc:=by
 intro L M M' H H0 x y d v w Q c rx ry hk q;unfold zFc at hk;split at hk
 .rename_i xs ys e1 e2;split at hk
  .rename_i hz;cases hk;obtain ⟨l,vs,rfl,h1,r1⟩:=zOD c rx e1;obtain ⟨l2,ws,rfl,h2,r2⟩:=zOD c ry e2;refine ⟨l,l2,vs,ws,rfl,rfl,h1,h2,by rw[r1.length,r2.length];exact hz,λp hp=>?_⟩;exact q L _ _ (.upd hp) (c.upd hp) (zc.newLst (.refl L H) c c hp (r1.app r2))
  .cases hk
 .cases hk
theorem zS8 (h1:QE X a f) (h2:QE X b g):QE X (.BinOp a .Add b pos) (fOp zFc f g):=zLg zN8 zS2 h1 h2
theorem zOr (h1:zKB M x=some xs) (h2:zKB M y=some ys) (hz:xs.length+ys.length<=100000) (q:P (.fl (xs++ys)) M):Ok (zFc x y M) P:=by
 refine ⟨_,_,?_,q⟩;unfold zFc;rw[h1,h2];dsimp only;rw[zVv (zV7 hz (by decide))]
end
end L3
namespace LR
open PySem PySem.Spec PyProof.Rows
open Sem (wp)
open Sem (wp)
open AutoSeq1 (wpAny_loadPart')
open Sem (wp)
open AutoSeq1 (wpAny_loadPart')
end LR
namespace L3
open PySem PySem.Spec PyProof.Rows L2
section
def zAk:List D->Option (List Int)
 |[]=>some []
 |.int i::r=>match zAk r with
  |some bs=>some (i::bs)
  |none=>none
 |_=>none
theorem zEO:∀ {ds:List D} {bs:Ye} {vs:List V},zAk ds=some bs->zM L H ds vs->vs=bs.map V.int
 |[],bs,vs,e,r=>by cases e;unfold zM at r;exact r
 |d::ds,bs,vs,e,r=>by
  unfold zM at r;obtain ⟨v,r',rfl,r1,r2⟩:=r;cases d with
  |int k=>
   unfold zAk at e;cases q:zAk ds with
   |none=>rw[q]at e;cases e
   |some bs'=>
    rw[q]at e;cases e;unfold Rep at r1;rw[r1,zEO q r2];rfl
  |_=>cases e
theorem zED:∀ xs:List Int,zAk (xs.map D.int)=some xs
 |[]=>rfl
 |x::r=>by rw[zVz];unfold zAk;rw[zED r]
end
end L3
namespace L2
open PySem PySem.Spec PyProof.Rows
section
theorem zHN (I:Nat->Shared->Prop)
  (turn:∀ n s,I n s->wpAny (model prog w) A (pyNext it) (λr s₁=>match r with
   |none=>R (.ok .next) s₁
   |some v=>wpAny (model prog w) A (letOwnedTupleGo target it v) (λ_ s₁'=>wpAny (model prog w) A (assign target env v) (λ_ s₂=>
     wpAny (model prog w) A (forIn ifs true λc r=>if r=true then do let ok <- isTrue c env (eval c env);pure (ForInStep.yield ok) else pure (ForInStep.yield r)) (λok s₃=>
      if ok=true then wpAny (model prog w) A (eval kx env) (λkv s₄=>wpAny (model prog w) A (eval vx env) (λvv s₅=>
       wpAny (model prog w) A (dictSet D kv vv) (λ_ s₆=>∃ m,m<n/\I m s₆) (λ_ _=>False) s₅) (λ_ _=>False) s₄) (λ_ _=>False) s₃
      else ∃ m,m<n/\I m s₃) (λ_ _=>False) s₂) (λ_ _=>False) s₁') (λ_ _=>False) s₁) (λ_ _=>False) s)
  (n:Nat) (h:I n s) :
  codeAny (model prog w) A (.compLoop (.DictComp kx vx [⟨target,iter,ifs,0⟩] scope pos) 0 it (.ref D) env) R s:=by
 refine codeAny_loop rfl I (λn s hI=>?_) n h;show wpAny _ A ((compTurn (.DictComp kx vx [⟨target,iter,ifs,0⟩] scope pos) 0 it (.ref D) env).onRaise (λx=>do noteFrame x env;theTreesLotGoes x)) _ _ s;refine wpAny_noted ?_;rw[compTurn_dict];refine zVg (zWe (zVg (zWC (turn n s hI) (λr s₁ h₁=>?_) λ_ _ h'=>h'.elim)));cases r with
 |none=>exact zVi h₁
 |some v=>
  refine zVg (zWC h₁ (λ_ s₁' h₁'=>?_) λ_ _ h'=>h'.elim);refine zVg (zWC h₁' (λ_ s₂ h₂=>zVg (zWC h₂ (λok s₃ h₃=>?_) λ_ _ h'=>h'.elim)) λ_ _ h'=>h'.elim);cases ok with
  |false=>exact zVi ⟨rfl,h₃⟩
  |true=>
   exact zVg (zVg (zWC h₃ (λkv s₄ h₄=>zVg (zWZ (zWC h₄ (λvv s₅ h₅=>zVg (zWe (zWZ (zWC h₅ (λ_ s₆ h₆=>zVi ⟨rfl,h₆⟩) λ_ _ h'=>h'.elim)))) λ_ _ h'=>h'.elim))) λ_ _ h'=>h'.elim))
theorem zI8 (elt target iter:Expr) (ifs:Yi) (scope:Y0) (pos:Pos) (it acc:Yu) (env:Env) :
  compTurn (.SetComp elt [⟨target,iter,ifs,0⟩] scope pos) 0 it acc env=(do
   standAt iter.pos;match <- pyNext it with
   |none=>pure (.done .next)
   |some v=>
    letOwnedTupleGo target it v;assign target env v;let mut ok:=true
    for c in ifs do
     if ok then ok <- isTrue c env (eval c env)
    if ok then (do let v <- eval elt env;standAt elt.pos;let _ <- call (.builtin "set.add") [acc,v])
    again (.compLoop (.SetComp elt [⟨target,iter,ifs,0⟩] scope pos) 0 it acc env)):=by rfl
theorem zJD (I:Nat->Shared->Prop)
  (turn:∀ n s,I n s->wpAny (model prog w) A (pyNext it) (λr s₁=>match r with
   |none=>R (.ok .next) s₁
   |some v=>wpAny (model prog w) A (letOwnedTupleGo target it v) (λ_ s₁'=>wpAny (model prog w) A (assign target env v) (λ_ s₂=>
     wpAny (model prog w) A (forIn ifs true λc r=>if r=true then do let ok <- isTrue c env (eval c env);pure (ForInStep.yield ok) else pure (ForInStep.yield r)) (λok s₃=>
      if ok=true then wpAny (model prog w) A (eval elt env) (λx s₄=>
       wpAny (model prog w) A (call (.builtin "set.add") [acc,x]) (λ_ s₅=>∃ m,m<n/\I m s₅) (λ_ _=>False) s₄) (λ_ _=>False) s₃
      else ∃ m,m<n/\I m s₃) (λ_ _=>False) s₂) (λ_ _=>False) s₁') (λ_ _=>False) s₁) (λ_ _=>False) s)
  (n:Nat) (h:I n s) :
  codeAny (model prog w) A (.compLoop (.SetComp elt [⟨target,iter,ifs,0⟩] scope pos) 0 it acc env) R s:=by
 refine codeAny_loop rfl I (λn s hI=>?_) n h;show wpAny _ A ((compTurn (.SetComp elt [⟨target,iter,ifs,0⟩] scope pos) 0 it acc env).onRaise (λx=>do noteFrame x env;theTreesLotGoes x)) _ _ s;refine wpAny_noted ?_;rw[zI8];refine zVg (zWe (zVg (zWC (turn n s hI) (λr s₁ h₁=>?_) λ_ _ h'=>h'.elim)));cases r with
 |none=>exact zVi h₁
 |some v=>
  refine zVg (zWC h₁ (λ_ s₁' h₁'=>?_) λ_ _ h'=>h'.elim);refine zVg (zWC h₁' (λ_ s₂ h₂=>zVg (zWC h₂ (λok s₃ h₃=>?_) λ_ _ h'=>h'.elim)) λ_ _ h'=>h'.elim);cases ok with
  |false=>exact zVi ⟨rfl,h₃⟩
  |true=>
   exact zVg (zVg (zWC h₃ (λx s₄ h₄=>zVg (zWe (zVg (zWC h₄ (λ_ s₅ h₅=>zVi (zVi ⟨rfl,h₅⟩)) λ_ _ h'=>h'.elim)))) λ_ _ h'=>h'.elim))
end
end L2
namespace LR
open PySem PySem.Spec PyProof.Rows
open Sem (wp)
end LR
namespace L3
open PySem PySem.Spec PyProof.Rows L2
end L3
namespace ST
open PySem
abbrev Up (xs:Array Nat):Prop:=xs.toList.Pairwise (· < ·)
theorem Up.get (h:Up xs) (hik:i<k) (hk:k<xs.size):xs[i]'(by omega)<xs[k]:=by
 have:=List.pairwise_iff_getElem.mp h i k (by simpa using (show i<xs.size by omega)) (by simpa using hk) hik;simpa using this
theorem zId (h:Up xs) (j:Nat):∀ (fuel lo hi:Nat),lo<=hi->hi<=xs.size->hi-lo<=fuel->(∀ i (hi':i<xs.size),i<lo->xs[i]<j)->(∀ i (hi':i<xs.size),hi<=i->j<=xs[i]) ->
  (SetTable.below.go xs j fuel lo hi<=xs.size)/\(∀ i (hi':i<xs.size),i<SetTable.below.go xs j fuel lo hi->xs[i]<j)/\(∀ i (hi':i<xs.size),SetTable.below.go xs j fuel lo hi<=i->j<=xs[i])
 |0,lo,hi,h1,h2,h3,a,b=>by
  have:lo=hi:=by omega
  subst this;unfold SetTable.below.go;exact ⟨h2,a,b⟩
 |fuel+1,lo,hi,h1,h2,h3,a,b=>by
  unfold SetTable.below.go;by_cases hl:lo<hi
  .rw[zVv hl];dsimp only;have hm:(lo+hi) / 2<xs.size:=by omega
   have eg:xs.getD ((lo+hi) / 2) j=xs[(lo+hi) / 2]:=by simp[Array.getD,hm]
   rw[eg];by_cases hc:xs[(lo+hi) / 2]<j
   .rw[zVv hc];refine zId h j fuel _ _ (by omega) h2 (by omega) (λi hi' hlt=>?_) b;rcases Nat.lt_or_ge i ((lo+hi) / 2)with z|z
    .exact Nat.lt_trans (h.get z hm) hc
    .have:i=(lo+hi) / 2:=by omega
     subst this;exact hc
   .rw[zVy hc];refine zId h j fuel _ _ (by omega) (by omega) (by omega) a (λi hi' hge=>?_);rcases Nat.lt_or_ge ((lo+hi) / 2) i with z|z
    .have:=h.get z hi';omega
    .have:i=(lo+hi) / 2:=by omega
     subst this;omega
  .rw[zVy hl];have:lo=hi:=by omega
   subst this;exact ⟨h2,a,b⟩
theorem zDB (h:Up xs) (j:Nat):SetTable.below xs j<=xs.size/\(∀ i (hi':i<xs.size),i<SetTable.below xs j->xs[i]<j)/\(∀ i (hi':i<xs.size),SetTable.below xs j<=i->j<=xs[i]):=by
 unfold SetTable.below;exact zId h j xs.size 0 xs.size (zWS _) (zVm _) (by omega) (λi _ z=>by omega) (λi hi' z=>by omega)
theorem zK4 (h:Up xs):SetTable.below xs 0=0:=by
 obtain ⟨a,b,c⟩:=zDB h 0;rcases Nat.eq_zero_or_pos (SetTable.below xs 0)with z|z
 .exact z
 .have:=b 0 (by omega) z;omega
theorem zKg (h:Up xs) (hk:k<xs.size):SetTable.below xs (xs[k]+1)=k+1:=by
 obtain ⟨a,b,c⟩:=zDB h (xs[k]+1);rcases Nat.lt_trichotomy (SetTable.below xs (xs[k]+1)) (k+1)with z|z|z
 .have:=c k hk (by omega);omega
 .exact z
 .have h1:k+1<xs.size:=by omega
  have:=b (k+1) h1 z;have:=h.get (show k<k+1 by omega) h1;omega
theorem zFk {α:Type} (xs:Array α) (p:Nat) (x:α):(SetTable.insertAt xs p x).toList=xs.toList.take p++x::xs.toList.drop p:=by
  unfold SetTable.insertAt;simp;have:xs.toList.length<=xs.size:=by simp
  rw[List.take_of_length_le (by simp)]
theorem zMN (h : Up xs) (hj : j ∉ xs.toList) : Up (SetTable.insertAt xs (SetTable.below xs j) j) := by
  obtain ⟨a, b, c⟩ := zDB h j;unfold Up;rw [zFk];rw [List.pairwise_append];have hT : ∀ x ∈ xs.toList.take (SetTable.below xs j), x < j := fun x hx => by
    obtain ⟨i,hi,e⟩:=zXj hx;rw[List.getElem_take]at e;rw[zW4]at hi
    have h1 : i < xs.size := by have : xs.toList.length = xs.size := by simp
                                omega
    have:=b i h1 (by omega);rw[<-e];simpa using this
  have hD : ∀ x ∈ xs.toList.drop (SetTable.below xs j), j < x := fun x hx => by
    obtain ⟨i,hi,e⟩:=zXj hx;rw[List.getElem_drop]at e;rw[List.length_drop]at hi
    have h1 : SetTable.below xs j + i < xs.size := by have : xs.toList.length = xs.size := by simp
                                                      omega
    have h2:=c _ h1 (by omega);have h3:x≠j:=λz=>hj (z▸List.mem_of_mem_drop hx);have e':xs[SetTable.below xs j+i]=x:=by simpa using e
    omega
  refine ⟨h.sublist (List.take_sublist _ _),List.pairwise_cons.mpr ⟨hD,h.sublist (List.drop_sublist _ _)⟩,λx hx y hy=>?_⟩;rcases zVs.mp hy with z|z
  .rw[z];exact hT x hx
  .exact Nat.lt_trans (hT x hx) (hD y z)
theorem zHO (j:Nat):SetTable.has #[] j=false:=by
 unfold SetTable.has;simp
theorem zLb {t:SetTable} (h:Up t.place) (he:t.slot j=.empty):j∉t.place.toList:=λhm=>by
 obtain ⟨a,b,c⟩:=zDB h j;obtain ⟨k,hk,e⟩:=zXj hm;have hk':k<t.place.size:=by simpa using hk
 have e':t.place[k]=j:=by simpa using e
 have eb:SetTable.below t.place j=k:=by
  rcases Nat.lt_trichotomy (SetTable.below t.place j) k with z|z|z
  .have h1:SetTable.below t.place j<t.place.size:=by omega
   have:=c _ h1 (zVm _);have:=h.get z hk';omega
  .exact z
  .have:=b k hk' z;omega
 unfold SetTable.slot at he;rw[eb,zVv (by simp[hk',e'])]at he;cases he
theorem zKK (hd:t.dummies = #[]):∀ (fuel:Nat) (p:SetTable.Probe) {j:Nat} {d:Option Nat},p.dummy=none->SetTable.probe.go t hashAt h fuel p=some (.empty j d)->d=none/\t.slot j=.empty
 |0,_,_,_,_,e=>by unfold SetTable.probe.go at e;cases e
 |fuel+1,p,j,d,hp,e=>by
  unfold SetTable.probe.go at e;split at e
  .rename_i hs;cases e;exact ⟨hp,hs⟩
  .rename_i hs;unfold SetTable.slot at hs;dsimp only at hs;rw[hd,zHO]at hs;split at hs <;> first|cases hs|simp at hs
  .split at e
   .cases e
   .refine zKK hd fuel _ ?_ e;unfold SetTable.advance;split <;> simp[hp]
theorem zMb {t:SetTable} (hu:Up t.place) (hd:t.dummies = #[]) (e:t.freeSlot h=some (j,b)):b=false/\j∉t.place.toList:=by
 unfold SetTable.freeSlot at e;split at e
 .rename_i j' d hp;unfold SetTable.probe at hp;obtain ⟨h1,h2⟩:=zKK hd _ _ (by rfl) hp;subst h1;simp at e;obtain ⟨rfl,rfl⟩:=e;exact ⟨rfl,zLb hu h2⟩
 .cases e
structure TabOk (w:Yo) (t:SetTable):Prop where
 led:t.led = !w.params.followText "set-order"
 up:Up t.place
 nod:t.dummies = #[]
theorem zPl (n:Nat):Up (Array.range n):=by
 unfold Up;rw[Array.toList_range];exact List.pairwise_lt_range
theorem TabOk.standIn (h:TabOk w t) (n:Nat):TabOk w (t.standIn n):=⟨h.led,zPl n,rfl⟩
theorem TabOk.orStandIn (h:TabOk w t) (n:Nat):TabOk w (t.orStandIn n):=by
 unfold SetTable.orStandIn;split
 .exact h
 .exact h.standIn n
theorem TabOk.put (h:TabOk w t) (hj:j∉t.place.toList):TabOk w (t.put j).1:=by
 unfold SetTable.put;refine ⟨h.led,zMN h.up hj,?_⟩;rw[h.nod,zHO];rfl
theorem TabOk.layNew (h:TabOk w t) (es:Yw) (hh:Int) (x:Yu):TabOk w (layNew t es hh x).2.1:=by
 unfold PySem.layNew;split
 .rename_i j b e;exact (h.put (zMb h.up h.nod e).2).orStandIn _
 .exact h.standIn _
theorem TabOk.relaid (h:TabOk w t) (e:t.relaid hs wanted=some (t',order)):TabOk w t':=by
 unfold SetTable.relaid SetTable.laid at e;cases q:SetTable.layClean (SetTable.sizeAbove wanted-1) hs with
 |none=>rw[q]at e;cases e
 |some owner=>
  rw[q]at e;simp only[Option.bind_eq_bind,Option.bind_some,Option.pure_def,Option.some.injEq,Prod.mk.injEq]at e;obtain ⟨rfl,_⟩:=e;refine ⟨h.led,?_,rfl⟩;unfold Up;rw[List.pairwise_map,List.pairwise_filterMap];refine List.pairwise_lt_range.imp λ{a b} hab x hx y hy=>?_;cases o1:owner.getD a none with
  |none=>rw[o1]at hx;cases hx
  |some u=>
   cases o2:owner.getD b none with
   |none=>rw[o2]at hy;cases hy
   |some v=>
    rw[o1]at hx;rw[o2]at hy;cases hx;cases hy;exact hab
theorem TabOk.relayAll (h:TabOk w t) (es:Yw) (wanted:Nat):TabOk w (relayAll t es wanted).2.1:=by
 unfold PySem.relayAll;split
 .rename_i t' order e;dsimp only;split
  .exact h.relaid e
  .exact h.standIn _
 .exact h.standIn _
theorem TabOk.plain (h:TabOk w t) (b:Bool):TabOk w { t with plain:=b }:=⟨h.led,h.up,h.nod⟩
theorem TabOk.fresh:TabOk w (SetTable.fresh 0 0 (!w.params.followText "set-order")):=⟨rfl,List.Pairwise.nil,rfl⟩
open Sem (wp)
set_option genInjectivity true in
inductive F2 {α β:Type} (R:α->β->Prop):List α->List β->Prop
 |nil:F2 R [] []
 |cons {x y xs ys}:R x y->F2 R xs ys->F2 R (x::xs) (y::ys)
section
variable [DecidableEq K]
def zSl (knd:KeyKind prog w K) (e:Int × Value) (k:K):Prop:=(knd.is k e.2=true/\e.1=knd.hash k)/\e.2.scannable=true
structure SetK (knd:KeyKind prog w K) (o:Obj) (es:Yw) (ep:Nat) (t:SetTable) (ks:List K):Prop where
 ex:o.ExactSet
 data:o.data=.set es ep t
 tab:TabOk w t
 fits:t.fits es.size=true
 bound:es.size<scanBound
 ent:∃ ks',ks'.Perm ks/\F2 (zSl knd) es.toList ks'
def ins (ks:List K) (k:K):List K:=if k∈ks then ks else ks++[k]
variable {knd:KeyKind prog w K}
theorem zDd {α β:Type} {R:α->β->Prop}:∀ {xs:List α} {ys:List β},F2 R xs ys->xs.length=ys.length
 |_,_,.nil=>rfl
 |_,_,.cons _ h=>by simp[zDd h]
theorem zDq {α β:Type} {R:α->β->Prop}:∀ {xs:List α} {ys:List β},F2 R xs ys -> ∀ x∈xs,∃ y∈ys,R x y
 |_,_,.nil,x,hx=>by cases hx
 |_,_,.cons h r,x,hx=>by
  rcases zVs.mp hx with z|z
  .subst z;exact ⟨_,zVu,h⟩
  .obtain ⟨y,hy,q⟩:=zDq r x z;exact ⟨y,zVt _ hy,q⟩
theorem zEX {α β:Type} {R:α->β->Prop}:∀ {xs:List α} {ys:List β},F2 R xs ys -> ∀ y∈ys,∃ x∈xs,R x y
 |_,_,.nil,x,hx=>by cases hx
 |_,_,.cons h r,x,hx=>by
  rcases zVs.mp hx with z|z
  .subst z;exact ⟨_,zVu,h⟩
  .obtain ⟨y,hy,q⟩:=zEX r x z;exact ⟨y,zVt _ hy,q⟩
theorem zDm {α β:Type} {R:α->β->Prop}:∀ {xs:List α} {ys:List β} {us:List α} {vs:List β},F2 R xs ys->F2 R us vs->F2 R (xs++us) (ys++vs)
 |_,_,_,_,.nil,h=>h
 |_,_,_,_,.cons h r,q=> .cons h (zDm r q)
theorem zEe {α β:Type} {R:α->β->Prop} {xs xs':List α} (p:xs'.Perm xs):∀ {ys:List β},F2 R xs ys -> ∃ ys',ys'.Perm ys/\F2 R xs' ys':=by
 have p':=p.symm;clear p;induction p' with
 |nil=>intro ys h;exact ⟨ys,.refl _,h⟩
 |cons x _ ih=>
  intro ys h;cases h with
  |cons h r=>
   obtain ⟨ys',q1,q2⟩:=ih r;exact ⟨_,q1.cons _,.cons h q2⟩
 |swap x y l=>
  intro ys h;cases h with
  |cons h r=>
   cases r with
   |cons h2 r=>
    exact ⟨_,List.Perm.swap _ _ _,.cons h2 (.cons h r)⟩
 |trans _ _ ih1 ih2=>
  intro ys h;obtain ⟨ys',q1,q2⟩:=ih1 h;obtain ⟨ys'',r1,r2⟩:=ih2 q2;exact ⟨ys'',r1.trans q1,r2⟩
theorem SetK.size (h:SetK knd o es ep t ks):es.size=ks.length:=by
 obtain ⟨ks',p,f⟩:=h.ent;rw[<-p.length_eq,<-zDd f,zWP]
theorem SetK.elems (h:SetK knd o es ep t ks):ElemsOf knd es.toList:=λe he=>by
 obtain ⟨ks',p,f⟩:=h.ent;obtain ⟨k,_,q⟩:=zDq f e he;exact ⟨⟨k,q.1⟩,q.2⟩
theorem SetK.mem (h:SetK knd o es ep t ks) (k:K):k∈ks ↔ ∃ e∈es.toList,knd.is k e.2=true:=by
 obtain ⟨ks',p,f⟩:=h.ent;rw[<-p.mem_iff];constructor
 .intro hk;obtain ⟨e,he,q⟩:=zEX f k hk;exact ⟨e,he,q.1.1⟩
 .rintro ⟨e,he,q⟩;obtain ⟨k',hk',q'⟩:=zDq f e he;rw[knd.inj e.2 k k' q q'.1.1];exact hk'
variable {s:Yl}
theorem SetK.typeIs (h:SetK knd o es ep t ks) (ho:s.heap.get? a=some o):s.TypeIs (.ref a) "set" := ⟨o,ho,h.ex.1⟩
theorem zH3 {h:Heap} (ho:h.get? a=some o) (hd:o.data=.set es ep t) :
  (h.update a (Obj.putSet es' t')).get? a=some { o with data:=.set es' (ep+1) t' }:=by
 have:=zWT (Obj.putSet es' t') ho (by rw[putSet_of es' t' hd];rfl);rw[putSet_of es' t' hd]at this;exact this
theorem zFh {Q:Bool->Shared->Prop} (hkey:knd.is k x=true) (hsc:x.scannable=true) (ho:s.heap.get? a=some o) (hS:SetK knd o es ep t ks) (hroom:ks.length+1<scanBound)
  (h:∀ h' o' es' ep' t' b,Heap.SameBut a s.heap h'->h'.get? a=some o'->SetK knd o' es' ep' t' (ins ks k)->Q b { s with heap:=h' }) :
  wpAny (model prog w) A (setAddHashed a x (knd.hash k)) Q E s:=by
 have hd:=hS.data;have hf:=hS.fits;have hel:=hS.elems;have hb:=hS.bound;have hb1:es.size+1<scanBound:=by rw[hS.size];exact hroom
 unfold setAddHashed setAddHashedIn;refine zWZ (zVg (wpAny_setState_of ho hd hf ?_));dsimp only;rw[byScan_of hsc hb hel];simp only[↓reduceIte];unfold setAddByScan;refine zVg ?_;refine zVg (zW3 ?_);refine zVg (wpAny_setScan_of hkey ho hd hf hel ?_);cases hr:List.findIdx? (λe=>knd.is k e.2) es.toList with
 |some j=>
  obtain ⟨hj,hpj,_⟩:=List.findIdx?_eq_some_iff_getElem.mp hr;have hSk:k∈ks:=(hS.mem k).mpr ⟨es.toList[j],zWE hj,hpj⟩;refine zVi (zVi ?_);have e:s={ s with heap:=s.heap }:=by cases s;rfl
  rw[e];refine h s.heap o es ep t _ (Heap.SameBut.refl a s.heap) ho ?_;unfold ins;rw[zVv hSk];exact hS
 |none=>
  have hSk:k∉ks:=λhk=>by
   obtain ⟨e,he,hp⟩:=(hS.mem k).mp hk;have:=List.findIdx?_eq_none_iff.mp hr e he;rw[hp]at this;exact Bool.noConfusion this
  have hgw:∀ (b:Bool) {s₁:Shared} {Q':Unit->Shared->Prop},Q' () s₁->wpAny (model prog w) A (match b with|true=>rule "set.scan.the-table-gave-way" |false=>pure ()) Q' E s₁ :=
   λb s₁ Q' hq=>by cases b <;> first|exact zVi hq|exact zW3 hq
  have hperm:=layNew_perm t es (knd.hash k) x;have hfits:=layNew_fits t es (knd.hash k) x;have htab:=hS.tab.layNew es (knd.hash k) x;generalize hL:layNew t es (knd.hash k) x=L at hperm hfits htab ⊢;obtain ⟨es1,t1,wasDummy,gave⟩:=L;rw[Array.toList_push]at hperm;have hb1':es1.size<scanBound:=by rw[<-zWP,hperm.length_eq,zVw,zWP];simpa using hb1
  obtain ⟨ks',p,f⟩:=hS.ent;have f1:F2 (zSl knd) (es.toList++[(knd.hash k,x)]) (ks'++[k]):=zDm f (.cons ⟨⟨hkey,rfl⟩,hsc⟩ .nil);obtain ⟨ks1,p1,f2⟩:=zEe hperm f1;have pI:ks1.Perm (ins ks k):=by
   unfold ins;rw[zVy hSk];exact p1.trans (p.append_right _)
  refine zVg (hgw _ ?_)
  have tail:∀ t2:SetTable,TabOk w t2->t2.fits es1.size=true->wpAny (model prog w) A (do
    storeSet a es1 t2
    if (!wasDummy&&t2.tooFull)=true then do
      (match (relayAll t2 es1 (SetTable.grown es1.size)).2.2 with|true=>rule "set.scan.the-table-gave-way" |false=>pure ())
      storeSet a (relayAll t2 es1 (SetTable.grown es1.size)).1 (relayAll t2 es1 (SetTable.grown es1.size)).2.1;pure (some true)
     else pure (some true)) (λr s'=>wpAny (model prog w) A (match r with|some added=>pure added|none=>setAddHashedIn a x (knd.hash k) 99999) Q E s') E s:=by
   intro t2 T2 F2;refine zVg (wpAny_storeSet_of ho hd ?_ (fits_of_scanBound hb1'));have g1:=zH3 (es':=es1) (t':=t2) ho hd;have sb1:=zWj s.heap a (Obj.putSet es1 t2);have S1:SetK knd { o with data:=.set es1 (ep+1) t2 } es1 (ep+1) t2 (ins ks k):=⟨hS.ex,rfl,T2,F2,hb1',ks1,pI,f2⟩;split
   .have hp:=relayAll_perm t2 es1 (SetTable.grown es1.size);have hfr:=relayAll_fits t2 es1 (SetTable.grown es1.size);have htr:=T2.relayAll es1 (SetTable.grown es1.size);generalize hRl:relayAll t2 es1 (SetTable.grown es1.size)=Rl at hp hfr htr ⊢;obtain ⟨es2,t3,gave2⟩:=Rl;have hsz:es2.size=es1.size:=by rw[<-zWP,hp.length_eq,zWP]
    have hb2:es2.size<scanBound:=by rw[hsz];exact hb1'
    obtain ⟨ks2,p2,f3⟩:=zEe hp f2;refine zVg (hgw _ ?_);refine zVg (wpAny_storeSet_of g1 rfl ?_ (fits_of_scanBound hb2));have g2:=zH3 (es':=es2) (t':=t3) g1 rfl;exact zVi (zVi (h _ _ _ _ _ _ (sb1.trans (zWj _ a _)) g2 ⟨hS.ex,rfl,htr,hfr,hb2,ks2,p2.trans pI,f3⟩))
   .exact zVi (zVi (h _ _ _ _ _ _ sb1 g1 S1))
  split
  .refine zVg ?_;rw[hashByValue_scannable 8 hsc];refine zVi ?_;refine tail _ ?_ ?_
   .split
    .exact htab
    .exact htab.plain _
   .split
    .exact hfits
    .exact SetTable.fits_plain_off hfits
  .refine zVg (zVi ?_);simp only[↓reduceIte];exact tail _ htab hfits
theorem zPg (hkey:knd.is k x=true) (hsc:x.scannable=true) (ho:s.heap.get? a=some o) (hS:SetK knd o es ep t ks) (hroom:ks.length+1<scanBound)
  (h:∀ h' o' es' ep' t',Heap.SameBut a s.heap h'->h'.get? a=some o'->SetK knd o' es' ep' t' (ins ks k)->Q .none { s with heap:=h',toks:=s.toks+1 }) :
  wpAny (model prog w) A (call (.builtin "set.add") [.ref a,x]) Q E s:=by
 refine zWJ F.slot_set_add (hS.typeIs ho) F.entry_set_add ?_ (F.args_set_add_2 _ _);unfold Builtin.«set.add» Builtin.Frozenset.oneOther;simp only[List.isEmpty_nil,bind_assoc];unfold Builtin.Frozenset.addrOf setAdd;refine zVg (zVi ?_);try dsimp only
 refine zVg (zVi ?_);try dsimp only
 refine zVg ?_;refine zWZ ?_;refine zVg (knd.pyHash hkey ?_);refine zFh (s:={ s with toks:=s.toks+1 }) hkey hsc ho hS hroom λh' o' es' ep' t' b hsb ho' hS'=>?_;exact zVi ⟨_,rfl,h h' o' es' ep' t' hsb ho' hS'⟩
def zBr (w:World):Obj:={ cls:=.type "set", dict:=none,data:=.set #[] 0 (.fresh 0 0 (!w.params.followText "set-order")) }
theorem SetK.fresh:SetK knd (zBr w) #[] 0 (.fresh 0 0 (!w.params.followText "set-order")) []:=⟨⟨rfl,rfl,rfl⟩,rfl,.fresh,by rfl,by decide,[],.refl _,.nil⟩
theorem zNk (h:Q (.ref s.heap.objs.size) { s with heap:=s.heap.push (zBr w) }) :
  wpAny (model prog w) A (newSet (.type "set")) Q E s:=by
 unfold newSet setsByText;refine zVg (zVg (wpAny_askSetting (zVi ?_)));simp only[newObj];exact zVg (wpAny_alloc (zVi h))
end
open PySem.Spec PyProof.Rows
open Sem (wp)
theorem zKV:Manifest.owners.lookup (String.ofList ['r','o','t','a','r','e','t','i','_','t','e','s'].reverse)=some Manifest.sig_set_iterator:=by kernel_rfl
theorem zAB:Slot "set_iterator" "__next__" "set_iterator.__next__" := .of (owner := "set_iterator") (n := "__next__") (by rw[typeLookup_type,builtinLookup_eq_fast];kernel_rfl) (by decide +kernel) (by decide +kernel) (by decide +kernel) (by first|exact .inl (by decide +kernel)|exact .inr (by decide +kernel)) (by rw[isSubtype_type];kernel_rfl)
theorem zEf:Slot "set_iterator" "__iter__" "set_iterator.__iter__" := .of (owner := "set_iterator") (n := "__iter__") (by rw[typeLookup_type,builtinLookup_eq_fast];kernel_rfl) (by decide +kernel) (by decide +kernel) (by decide +kernel) (by first|exact .inl (by decide +kernel)|exact .inr (by decide +kernel)) (by rw[isSubtype_type];kernel_rfl)
theorem zB3 (a:Value):argsOk "set_iterator.__next__" ⟨[a],[]⟩:=by
 unfold argsOk;rw[signature?_of (id := "set_iterator.__next__") (n:=['_','_','t','x','e','n','_','_']) (o:=['r','o','t','a','r','e','t','i','_','t','e','s']) (by kernel_rfl) zKV];kernel_rfl
theorem zIK (a:Value):argsOk "set_iterator.__iter__" ⟨[a],[]⟩:=by
 unfold argsOk;rw[signature?_of (id := "set_iterator.__iter__") (n:=['_','_','r','e','t','i','_','_']) (o:=['r','o','t','a','r','e','t','i','_','t','e','s']) (by kernel_rfl) zKV];kernel_rfl
theorem zBm:entryFor table "set_iterator.__next__" = some Builtin.«set_iterator.__next__»:=entryFor_of_tree (by kernel_rfl)
theorem zG9:entryFor table "set_iterator.__iter__" = some Builtin.«dict_keyiterator.__iter__» :=
 entryFor_alias (id' := "dict_keyiterator.__iter__") (by kernel_rfl) (by first|rfl|decide +kernel|(unfold String.splitOn;simp +decide [String.splitOnAux])) (by decide +kernel) (by kernel_rfl)
theorem zGx:entryFor table "set.__iter__" = some Builtin.«frozenset.__iter__» :=
 entryFor_alias (id' := "frozenset.__iter__") (by kernel_rfl) rfl (by decide +kernel) (by kernel_rfl)
def zBC (f:Value) (i:Nat) (a:Addr) (n ep:Nat):Obj:={ cls:=.type "set_iterator", data:=.fields #[f,rawInt i,.ref a,rawInt n,rawInt ep] }
theorem zEI {α:Type}:∀ {l:List α} {i:Nat} (h:i<l.length),(l[i]::l.eraseIdx i).Perm l
 |[],i,h=>by simp at h
 |x::l,0,h=>by simp
 |x::l,i+1,h=>by
  have:=zEI (l:=l) (i:=i) (by simpa using h);rw[List.getElem_cons_succ,List.eraseIdx_cons_succ];exact (List.Perm.swap _ _ _).trans (this.cons x)
theorem zHx {α:Type} {l:List α} (h:i<l.length) (e:n+1=l.length):n=(l.eraseIdx i).length:=by
 rw[List.length_eraseIdx,zVv h];omega
theorem zHv {α:Type} (next:Nat->Nat):∀ (fuel k:Nat) (left:List α) (out:Array α),fuel=left.length->(pickOrder.go next fuel k left out).toList.Perm (out.toList++left)
 |0,k,left,out,h=>by
  have:left=[]:=List.length_eq_zero_iff.mp h.symm;subst this;unfold pickOrder.go;simp
 |fuel+1,k,left,out,h=>by
  unfold pickOrder.go;have hl:0<left.length:=by omega
  have hm:next k % left.length<left.length:=Nat.mod_lt _ hl
  rw[zVk hm];refine (zHv next fuel (k+1) _ _ (zHx hm h)).trans ?_;rw[Array.toList_push,zWm];exact (zEI hm).append_left _
theorem zDs {α:Type} (next:Nat->Nat) (xs:Array α):(pickOrder next xs).toList.Perm xs.toList:=by
 unfold pickOrder;simpa using zHv next xs.size 0 xs.toList #[] (by simp)
section
variable {s:Yl}
theorem zIk (h0:n≠0) (h:∀ r d,r<n->Q r { s with drawn:=d }):wpAny (model prog w) A (choose src n) Q E s :=
 λΓ p hΓ=>⟨h0,h _ _ (Nat.mod_lt _ (by omega))⟩
theorem zDP {α:Type}:∀ (n:Nat) (xs:List α) {s:Yl} {Q:List α->Shared->Prop},n=xs.length->(∀ ys d,ys.Perm xs->Q ys { s with drawn:=d })->wpAny (model prog w) A (drawOrder n xs) Q E s
 |0,xs,s,Q,h,q=>by
  have:xs=[]:=List.length_eq_zero_iff.mp h.symm;subst this;have e:s={ s with drawn:=s.drawn }:=by cases s;rfl
  rw[e];exact zVi (q [] s.drawn (.refl _))
 |n+1,[],s,Q,h,q=>by cases h
 |n+1,x::xs,s,Q,h,q=>by
  unfold drawOrder;refine zVg (zIk (by simp) λr d hr=>?_);rw[zVk hr];refine zVg (zDP n _ (zHx hr h) λys d' hp=>zVi ?_);exact q _ d' ((hp.cons _).trans (zEI hr))
variable {K:Type} [DecidableEq K] {ks:List K}
theorem zF4 (h:s.heap.get? I=some (zBC f i a n ep)):s.TypeIs (.ref I) "set_iterator" := ⟨_,h,rfl⟩
theorem zL8 (hI:s.heap.get? I=some (zBC f i a n ep)) (h:Q (.ref I) s):wpAny (model prog w) A (pyIter (.ref I)) Q E s:=by
 refine wpAny_pyIter_slot (zF4 hI) zEf (zWJ zEf (zF4 hI) zG9 ?_ (zIK _));exact zVi ⟨_,rfl, "set_iterator", _,zF4 hI,zAB.lookup,h⟩
structure Nexts (prog:Ym) (w:Yo) (o:Obj) (a:Yt) (ep:Nat) (n:Nat) (at_:Nat->Nat) (ord:Yf):Prop where
 len:ord.length=n
 nx:∀ (A:Yn) (E:Yc) (i:Nat) (s:Yl) (Q:Option (Value × Nat)->Shared->Prop),i<=n->s.heap.get? a=some o->Q ((ord[i]?).map λx=>(x,at_ (i+1))) s->wpAny (model prog w) A (setNext a (at_ i) i ep) Q E s
theorem zMS (N:Nexts prog w o a ep ks.length at_ ord) (hS:SetK knd o es ep t ks) (hI:s.heap.get? I=some (zBC (rawInt (at_ i)) i a ks.length ep)) (ho:s.heap.get? a=some o)
  (hx:ord[i]?=some x) (hQ:∀ h',h'.get? I=some (zBC (rawInt (at_ (i+1))) (i+1) a ks.length ep)->Heap.SameBut I s.heap h'->Q (some x) { s with heap:=h' }):wpAny (model prog w) A (pyNext (.ref I)) Q E s:=by
 have hT:=zF4 hI;have hi:i<ks.length:=by have:=(zVj.mp hx).1;rw[N.len]at this;exact this
 unfold pyNext;refine zVg (wpAny_attempt (zWI (name:=Str.ofString "__next__") hT zAB (zWJ zAB hT zBm ?_ (zB3 _))));unfold Builtin.«set_iterator.__next__» slotArgs;simp only[List.isEmpty_nil,Bool.not_true,zWh,↓reduceIte,List.length_nil,bne_self_eq_false,pure_bind,bind_assoc];refine zVg (wpAny_fieldsOf hI rfl ?_);dsimp only[rawInt];refine zVg (wpAny_setEntries_of ho hS.data hS.fits ?_);rw[zVy (by rw[hS.size];simp)];refine zVg (N.nx _ _ i s _ (by omega) ho ?_);rw[hx];dsimp only[Option.map];refine zVg (zXR hI rfl (by simp) ?_);have e1:=zWT (Obj.mapFields λvs=>vs.set! 0 (rawInt (at_ (i+1)))) hI (Obj.isFreed_of_fields (zWx rfl _));refine zVg (zXR e1 (zWx rfl _) (by simp) ?_);have e2:=zWT (Obj.mapFields λvs=>vs.set! 1 (rawInt ((i:Int)+1))) e1 (Obj.isFreed_of_fields (zWx (zWx rfl _) _));refine zVi ⟨x,rfl,zVi (hQ _ ?_ ((zWj ..).trans (zWj ..)))⟩;refine e2.trans ?_;simp[Obj.mapFields,zBC,rawInt]
end
open Sem (wp)
section
variable {K:Type} [DecidableEq K] {knd:KeyKind prog w K}
theorem zGI (hh:A.handled=none) (N:Nexts prog w o a ep ks.length at_ ord) (hS:SetK knd o es ep t ks) (hI:s.heap.get? I=some (zBC (rawInt (at_ ks.length)) ks.length a ks.length ep)) (ho:s.heap.get? a=some o)
  (hQ:∀ h',Heap.ExtBut I s.heap h'->Q none { s with heap:=h' }):wpAny (model prog w) A (pyNext (.ref I)) Q E s:=by
 have hT:=zF4 hI;unfold pyNext;refine zVg (wpAny_attempt (zWI (name:=Str.ofString "__next__") hT zAB (zWJ zAB hT zBm ?_ (zB3 _))));unfold Builtin.«set_iterator.__next__» slotArgs;simp only[List.isEmpty_nil,Bool.not_true,zWh,↓reduceIte,List.length_nil,bne_self_eq_false,pure_bind,bind_assoc];refine zVg (wpAny_fieldsOf hI rfl ?_);dsimp only[rawInt];refine zVg (wpAny_setEntries_of ho hS.data hS.fits ?_);rw[zVy (by rw[hS.size];simp)];refine zVg (N.nx _ _ ks.length s _ (zVm _) ho ?_);rw[List.getElem?_eq_none (by rw[N.len];exact zVm _)];dsimp only[Option.map];refine zVg (zXR hI rfl (by simp) ?_);simp only[newExc,newTuple,bind_assoc,pure_bind];refine zVg (zV9 (zVg (m:=firstArgMember _ _) (wpAny_of_eq (a:=Value.none) (by first|rfl|(simp only[firstArgMember];rfl)) (zVg (zV9 ?_ (by size_fits))))) (by size_fits));simp only[raiseNew];refine zVg (wpAny_handled ?_);rw[show A.in1.handled=none from hh];refine zVg (zVi (wpAny_throw ?_));refine zVg (wpAny_isInstance (T := "StopIteration") (b:=true) ⟨_,zVq _ rfl,rfl⟩ isSubtype_stop (zVi ?_));exact hQ _ (((zWj ..).extBut.push _).push _)
theorem zJ6 (hh:A.handled=none) (hne:a≠I) (N:Nexts prog w o a ep ks.length at_ ord) (hS:SetK knd o es ep t ks) :
  Walks prog w A I [I,a] [I] ks.length (λi v=>ord[i]?=some v) (λi h=>h.get? I=some (zBC (rawInt (at_ i)) i a ks.length ep)/\h.get? a=some o) where
 sub:=λb hb=>by simp at hb;simp[hb]
 frame:=λ_ _ _ st hk=>⟨hk I (by simp) _ st.1,hk a (by simp) _ st.2⟩;item:=λi s Q E hi st hQ=>by
  have hx:ord[i]?=some (ord[i]'(by rw[N.len];exact hi)):=zVk _;refine zMS N hS st.1 st.2 hx λh' hI' hs'=>?_;exact hQ _ h' s.toks hx ⟨hI',hs'.extBut a o hne st.2⟩ λb u hb ee=>hs'.extBut b u (λh=>hb (by simp[h])) ee
 done:=λs Q E st hQ=>zGI hh N hS st.1 st.2 λh' he'=>hQ h' s.toks λb u hb ee=>he' b u (λh=>hb (by simp[h])) ee;self:=λ_ _ _ _ st hQ=>zL8 st.1 hQ
theorem zLK {pl:Yj} (hS:SetK knd o es ep t ks) (hl:pl.length=ks.length) (hI:s.heap.get? I=some (zBC (.ref T) i a ks.length ep)) (ho:s.heap.get? a=some o)
  (hT:IsTup s.heap T (pl.map λ(k:Nat)=>rawInt k).toArray)
  (hx:(pl[i]?).bind (λk=>(es[k]?).map (·.2))=some x) (hQ:∀ h',h'.get? I=some (zBC (.ref T) (i+1) a ks.length ep)->Heap.SameBut I s.heap h'->Q (some x) { s with heap:=h' }):wpAny (model prog w) A (pyNext (.ref I)) Q E s:=by
 have hTy:=zF4 hI;obtain ⟨oT,hoT,hcT,nT,hdT⟩:=id hT;cases hp:pl[i]? with
 |none=>rw[hp]at hx;cases hx
 |some k=>
  rw[hp]at hx;cases he:es[k]? with
  |none=>simp only[Option.bind_some]at hx;rw[he]at hx;cases hx
  |some e=>
   simp only[Option.bind_some]at hx;rw[he]at hx;cases hx;unfold pyNext;refine zVg (wpAny_attempt (zWI (name:=Str.ofString "__next__") hTy zAB (zWJ zAB hTy zBm ?_ (zB3 _))));unfold Builtin.«set_iterator.__next__» slotArgs;simp only[List.isEmpty_nil,Bool.not_true,zWh,↓reduceIte,List.length_nil,bne_self_eq_false,pure_bind,bind_assoc];refine zVg (wpAny_fieldsOf hI rfl ?_);dsimp only[rawInt];refine zVg (wpAny_setEntries_of ho hS.data hS.fits ?_);rw[zVy (by rw[hS.size];simp)];refine zVg (wpAny_seqItems hoT hdT ?_);dsimp only;have e5:(List.map (λ(k:Nat)=>rawInt k) pl).toArray[(i:Int).toNat]?=some (rawInt k):=by simp[hp]
   rw[e5];dsimp only[rawInt];unfold setNextDrawn;simp only[bind_assoc];refine zVg (wpAny_setState_of ho hS.data hS.fits ?_);rw[zVy (by simp)];have e6:es[(k:Int).toNat]?=some e:=by simpa using he
   rw[e6];obtain ⟨e1,e2⟩:=e;simp only[pure_bind];refine zVg (zXR hI rfl (by simp) ?_);refine zVi ⟨e2,rfl,zVi (hQ _ ?_ (zWj ..))⟩;refine (zWT _ hI (Obj.isFreed_of_fields (zWx rfl _))).trans ?_;simp[Obj.mapFields,zBC,rawInt]
theorem zMr {pl:Yj} (hh:A.handled=none) (hS:SetK knd o es ep t ks) (hl:pl.length=ks.length) (hI:s.heap.get? I=some (zBC (.ref T) ks.length a ks.length ep)) (ho:s.heap.get? a=some o)
  (hT:IsTup s.heap T (pl.map λ(k:Nat)=>rawInt k).toArray) (hQ:∀ h',Heap.ExtBut I s.heap h'->Q none { s with heap:=h' }):wpAny (model prog w) A (pyNext (.ref I)) Q E s:=by
 have hTy:=zF4 hI;obtain ⟨oT,hoT,hcT,nT,hdT⟩:=id hT;unfold pyNext;refine zVg (wpAny_attempt (zWI (name:=Str.ofString "__next__") hTy zAB (zWJ zAB hTy zBm ?_ (zB3 _))));unfold Builtin.«set_iterator.__next__» slotArgs;simp only[List.isEmpty_nil,Bool.not_true,zWh,↓reduceIte,List.length_nil,bne_self_eq_false,pure_bind,bind_assoc];refine zVg (wpAny_fieldsOf hI rfl ?_);dsimp only[rawInt];refine zVg (wpAny_setEntries_of ho hS.data hS.fits ?_);rw[zVy (by rw[hS.size];simp)];refine zVg (wpAny_seqItems hoT hdT ?_);dsimp only;have e5:(List.map (λ(k:Nat)=>rawInt k) pl).toArray[(ks.length:Int).toNat]?=none:=by simp[hl]
 rw[e5];dsimp only[rawInt];refine zVg (zXR hI rfl (by simp) ?_);have e1:=zWT (Obj.mapFields λvs=>vs.set! 0 (rawInt 0)) hI (Obj.isFreed_of_fields (zWx rfl _));refine zVg (zXR e1 (zWx rfl _) (by simp) ?_);simp only[newExc,newTuple,bind_assoc,pure_bind];refine zVg (zV9 (zVg (m:=firstArgMember _ _) (wpAny_of_eq (a:=Value.none) (by first|rfl|(simp only[firstArgMember];rfl)) (zVg (zV9 ?_ (by size_fits))))) (by size_fits));simp only[raiseNew];refine zVg (wpAny_handled ?_);rw[show A.in1.handled=none from hh];refine zVg (zVi (wpAny_throw ?_));refine zVg (wpAny_isInstance (T := "StopIteration") (b:=true) ⟨_,zVq _ rfl,rfl⟩ isSubtype_stop (zVi ?_));exact hQ _ ((((zWj ..).trans (zWj ..)).extBut.push _).push _)
theorem zKc {pl:Yj} (hh:A.handled=none) (hne:a≠I) (hneT:T≠I) (hS:SetK knd o es ep t ks) (hl:pl.length=ks.length) (hb:∀ k∈pl,k<es.size) :
  Walks prog w A I [I,a,T] [I] ks.length (λi v=>(pl[i]?).bind (λk=>(es[k]?).map (·.2))=some v) (λi h=>h.get? I=some (zBC (.ref T) i a ks.length ep)/\h.get? a=some o/\IsTup h T (pl.map λ(k:Nat)=>rawInt k).toArray) where
 sub:=λb hb=>by simp at hb;simp[hb]
 frame:=λ_ _ _ st hk=>⟨hk I (by simp) _ st.1,hk a (by simp) _ st.2.1,let ⟨oT,ho,r⟩:=st.2.2;⟨oT,hk T (by simp) oT ho,r⟩⟩;item:=λi s Q E hi st hQ=>by
  have hi':i<pl.length:=by rw[hl];exact hi
  have hk:pl[i]<es.size:=hb _ (zWE hi');have hx:(pl[i]?).bind (λk=>(es[k]?).map (·.2))=some (es[pl[i]].2):=by
   rw[zVk hi'];simp[hk]
  refine zLK hS hl st.1 st.2.1 st.2.2 hx λh' hI' hs'=>?_;exact hQ _ h' s.toks hx ⟨hI',hs'.extBut a o hne st.2.1,st.2.2.extBut hs'.extBut hneT⟩ λb u hb ee=>hs'.extBut b u (λh=>hb (by simp[h])) ee
 done:=λs Q E st hQ=>zMr hh hS hl st.1 st.2.1 st.2.2 λh' he'=>hQ h' s.toks λb u hb ee=>he' b u (λh=>hb (by simp[h])) ee;self:=λ_ _ _ _ st hQ=>zL8 st.1 hQ
end
open Sem (wp)
theorem zMZ {prog:Ym} {w:Yo} {A:Yn} {I:Yt} {fp wr:Yg} {n:Nat} {P P':Nat->Value->Prop} {St:Nat->Heap->Prop} (W:Walks prog w A I fp wr n P St) (h:∀ i v,P i v->P' i v):Walks prog w A I fp wr n P' St where
 sub:=W.sub;frame:=W.frame;item:=λi s Q E hi st hQ=>W.item i s Q E hi st λv h' tk hP=>hQ v h' tk (h i v hP);done:=W.done;self:=W.self
section
variable {K:Type} [DecidableEq K] {knd:KeyKind prog w K}
theorem zCg (h:Q (w.params.followText "set-order") s):wpAny (model prog w) A setsByText Q E s:=by
 unfold setsByText;exact zVg (wpAny_askSetting (zVi h))
theorem zLJ (hS:SetK knd o es ep t ks) (hT:w.params.followText "set-order" = true):Nexts prog w o a ep ks.length (λ_=>0) ((pickOrder (w.params.setOrder a ep) es).toList.map (·.2)) where
 len:=by rw[zVp,(zDs _ es).length_eq,zWP,hS.size]
 nx:=λA E i s Q hi ho hQ=>by
  unfold setNext;refine zVg (wpAny_setState_of ho hS.data hS.fits ?_);refine zVg (zCg ?_);rw[hT,zVv rfl,zVy (by simp)];refine zVg ?_;unfold setWalk;refine zVg (wpAny_setState_of ho hS.data hS.fits ?_);refine zVg (zCg ?_);rw[hT,zVv rfl];refine zVg (wpAny_askSetting (zVi ?_));refine zVi ?_;have e:(Option.map (λ(e:Int × Value)=>(e.2,0)) (pickOrder (w.params.setOrder a ep) es)[i]?)=Option.map (λx=>(x,0)) ((pickOrder (w.params.setOrder a ep) es).toList.map (·.2))[i]?:=by
   rw[zV3,zXL];cases (pickOrder (w.params.setOrder a ep) es)[i]? <;> rfl
  show Q (Option.map (λ(e:Int × Value)=>(e.2,0)) (pickOrder (w.params.setOrder a ep) es)[i]?) s;rw[e];exact hQ
def zLU (t:SetTable):Nat->Nat
 |0=>0
 |i+1=>t.place.getD i 0+1
theorem zN9 (h:Up t.place) (hi:i<=t.place.size):SetTable.below t.place (zLU t i)=i:=by
 cases i with
 |zero=>exact zK4 h
 |succ i=>
  show SetTable.below t.place (t.place.getD i 0+1)=i+1;have hl:i<t.place.size:=by omega
  have e:t.place.getD i 0=t.place[i]:=by simp[Array.getD,hl]
  rw[e];exact zKg h hl
theorem zM5 (hS:SetK knd o es ep t ks):t.place.size=es.size:=by
 have:=hS.fits;simp only[SetTable.fits,zWG,beq_iff_eq]at this;exact this.1
theorem zJv (hS:SetK knd o es ep t ks) (hT:w.params.followText "set-order" = false) (hd:(!t.plain&&decide (es.size>1))=false):Nexts prog w o a ep ks.length (zLU t) (es.toList.map (·.2)) where
 len:=by rw[zVp,zWP,hS.size]
 nx:=λA E i s Q hi ho hQ=>by
  have hz:=zM5 hS;unfold setNext;refine zVg (wpAny_setState_of ho hS.data hS.fits ?_);refine zVg (zCg ?_);rw[hT,zVy (by decide)];show wpAny _ _ (if (!t.plain&&decide (es.size>1))=true then _ else _) _ _ _;rw[zVy (by rw[hd];decide)];have hl:t.led=true:=by rw[hS.tab.led,hT];rfl
  refine zVg ?_;show wpAny _ _ (if (!t.led && !es.isEmpty)=true then unsupported "set:maker-not-led" else pure ()) _ _ _;rw[zVy (by rw[hl];simp)];refine zVi ?_;rw[zN9 hS.tab.up (by rw[hz,hS.size];exact hi)];refine zVi ?_;rw[zV3,zXL]at hQ;by_cases q:i<es.size
  .have q2:i<t.place.size:=by rw[hz];exact q
   rw[zWR q,zWR q2];rw[zWR q]at hQ;have e:zLU t (i+1)=t.place[i]+1:=by
    show t.place.getD i 0+1=_;simp[Array.getD,q2]
   simp only[Option.map]at hQ;rw[e]at hQ;exact hQ
  .have:i=es.size:=by rw[hS.size]at q ⊢;omega
   rw[Array.getElem?_eq_none (by omega)]at hQ ⊢;exact hQ
theorem zPt (ho:s.heap.get? a=some o) (hS:SetK knd o es ep t ks)
  (h:∀ (h':Heap) (d:Drawn) (I:Yt) (fp:Yg) (ord:Yf) (St:Nat->Heap->Prop),(∀ b u,s.heap.get? b=some u->h'.get? b=some u)->s.heap.objs.size<=I->(∀ b∈fp,b<h'.objs.size/\(b=a\/s.heap.objs.size<=b)) ->
   (∀ A:Around,A.handled=none->Walks prog w A I fp [I] ks.length (λi v=>ord[i]?=some v) St)->St 0 h'->ord.Perm (es.toList.map (·.2))->Q (.ref I) { s with heap:=h',drawn:=d }) :
  wpAny (model prog w) A (pyIter (.ref a)) Q E s:=by
 have hT:=hS.typeIs ho;have hal:a<s.heap.objs.size:=zVr ho;refine wpAny_pyIter_slot hT F.slot_set_iter (zWJ F.slot_set_iter hT zGx ?_ (F.args_set_iter_1 _));unfold Builtin.«frozenset.__iter__» Builtin.Frozenset.slot0 slotArgs Builtin.Frozenset.addrOf Builtin.Frozenset.sizeOf;simp only[List.isEmpty_nil,Bool.not_true,zWh,↓reduceIte,List.length_nil,bne_self_eq_false,pure_bind,bind_assoc];refine zVg (wpAny_setEntries_of ho hS.data hS.fits ?_);unfold setDrawn;simp only[bind_assoc];refine zVg (wpAny_setState_of ho hS.data hS.fits ?_);refine zVg (zCg ?_);simp only[pure_bind];have hsz:=hS.size;have plain:∀ (at_:Nat->Nat) (ord:Yf),at_ 0=0->Nexts prog w o a ep ks.length at_ ord->ord.Perm (es.toList.map (·.2))->Q (.ref s.heap.objs.size) { s with heap:=s.heap.push (zBC (rawInt 0) 0 a ks.length ep) }:=by
  intro at_ ord h0 N hp;have e:s.heap.push (zBC (rawInt 0) 0 a ks.length ep)=s.heap.push (zBC (rawInt 0) 0 a ks.length ep):=rfl
  have:=h (s.heap.push (zBC (rawInt 0) 0 a ks.length ep)) s.drawn s.heap.objs.size [s.heap.objs.size,a] ord (λi h=>h.get? s.heap.objs.size=some (zBC (rawInt (at_ i)) i a ks.length ep)/\h.get? a=some o)
   (λb u e=>zVh _ e) (zVm _) (λb hb=>by
    rw[zWM];rcases zVs.mp hb with z|z
    .rw[z];exact ⟨zWd _,.inr (zVm _)⟩
    .rw[zV8.mp z];exact ⟨zWV hal,.inl rfl⟩)
   (λA hh=>zJ6 hh (zV1 hal) N hS) ⟨by rw[h0];exact zVq _ rfl,zVh _ ho⟩ hp
  exact this
 have mk:∀ (s1:Yl) (f:Yu) (hv:s1.heap.get? a=some o) {Q':Fin->Shared->Prop},Q' (.done (.ret (.ref s1.heap.objs.size))) { s1 with heap:=s1.heap.push (zBC f 0 a ks.length ep) }->wpAny (model prog w) A.in1 (do
   let e <- setEpoch a;let r <- newFields "set_iterator" [f,rawInt 0,Value.ref a,rawInt es.size,rawInt e];ret r) Q' E s1:=by
  intro s1 f hv Q' hq;refine zVg (wpAny_setEpoch_of hv hS.data hS.fits ?_);unfold newFields;refine zVg (zV9 (zVi ?_));rw[hsz];exact hq
 have ty:∀ (s1:Shared) (f:Value),(∃ T' r,Shared.TypeIs { s1 with heap:=s1.heap.push (zBC f 0 a ks.length ep) } (.ref s1.heap.objs.size) T'/\typeLookup (Value.type T') (Str.ofString "__next__")=pure (some r)/\True):=λs1 f=>⟨"set_iterator", _,⟨_,zVq _ rfl,rfl⟩,zAB.lookup,trivial⟩;show wpAny _ _ (if (!w.params.followText "set-order" && (!t.plain&&decide (es.size>1)))=true then _ else _) _ _ _;by_cases hc:(!w.params.followText "set-order" && (!t.plain&&decide (es.size>1)))=true
 .rw[zVv hc];refine zVg (zDP _ _ (by simp) λpl d hp=>?_);refine zVg ?_;unfold newTuple;have hpl:pl.length=ks.length:=by rw[hp.length_eq,zXd,hsz]
  refine zV9 ?_ (by
   show (List.map (λ(i:Nat)=>rawInt i) pl).toArray.size<=sizeLine;rw[zVo,zVp,hpl,<-hsz];exact fits_of_scanBound hS.bound)
  generalize hH:s.heap.push { cls:=.type "tuple", data:=.seq (List.map (λ(i:Nat)=>rawInt i) pl).toArray }=H;have kH:∀ b u,s.heap.get? b=some u->H.get? b=some u:=λb u e=>by rw[<-hH];exact zVh _ e
  have hT1:IsTup H s.heap.objs.size (pl.map λ(k:Nat)=>rawInt k).toArray:=⟨_,by rw[<-hH];exact zVq _ rfl,rfl,0,rfl⟩;have szH:H.objs.size=s.heap.objs.size+1:=by rw[<-hH];exact zWM ..
  have szlt:s.heap.objs.size<H.objs.size:=by rw[szH];exact zWd _
  have alt:a<H.objs.size:=Nat.lt_trans hal szlt;refine mk { s with heap:=H,drawn:=d } (.ref s.heap.objs.size) (kH _ _ ho) ?_;obtain ⟨T',r,e1,e2,_⟩:=ty { s with heap:=H,drawn:=d } (.ref s.heap.objs.size);refine ⟨_,rfl,T',r,e1,e2,?_⟩;have kH2:∀ b u,s.heap.get? b=some u->(H.push (zBC (.ref s.heap.objs.size) 0 a ks.length ep)).get? b=some u:=λb u e=>zVh _ (kH b u e);refine h _ d H.objs.size [H.objs.size,a,s.heap.objs.size] (pl.map λk=>((es[k]?).map (·.2)).getD .none) (λi h=>h.get? H.objs.size=some (zBC (.ref s.heap.objs.size) i a ks.length ep)/\h.get? a=some o/\IsTup h s.heap.objs.size (pl.map λ(k:Nat)=>rawInt k).toArray) kH2 (by rw[szH];exact zXO _) (λb hb=>?_) (λA hh=>?_) ⟨zVq _ rfl,kH2 a o ho,?_⟩ ?_
  .rw[zWM];simp only[zVs,zWB,or_false]at hb;rcases hb with z|z|z
   .rw[z];exact ⟨zWd _,.inr (Nat.le_of_lt szlt)⟩
   .rw[z];exact ⟨zWV alt,.inl rfl⟩
   .rw[z];exact ⟨zWV szlt,.inr (zVm _)⟩
  .have hb:∀ k∈pl,k<es.size:=λk hk=>by have:=hp.mem_iff.mp hk;simpa using this
   refine zMZ (zKc hh (a:=a) (I:=H.objs.size) (T:=s.heap.objs.size) (zV1 alt) (zV1 szlt) hS hpl hb) λi v hv=>?_;rw[zV3];cases q:pl[i]? with
   |none=>rw[q]at hv;cases hv
   |some k=>
    rw[q]at hv;simp only[Option.bind_some]at hv;rw[Option.map_some,hv];rfl
  .exact hT1.push _
  .have e:es.toList.map (·.2)=(List.range es.size).map λk=>((es[k]?).map (·.2)).getD .none:=by
    apply List.ext_getElem?;intro i;rw[zV3,zV3,zXL];by_cases q:i<es.size
    .rw[List.getElem?_range q,zWR q];simp[q]
    .rw[Array.getElem?_eq_none (by omega),List.getElem?_eq_none (by simp;omega)];rfl
   rw[e];exact hp.map _
 .rw[zVy hc];refine mk s (rawInt 0) ho ?_;obtain ⟨T',r,e1,e2,_⟩:=ty s (rawInt 0);refine ⟨_,rfl,T',r,e1,e2,?_⟩;cases hX:w.params.followText "set-order" with
  |true=>exact plain _ _ rfl (zLJ hS hX) ((zDs _ es).map _)
  |false=>
   rw[hX]at hc;exact plain _ _ rfl (zJv hS hX (by simpa using hc)) (.refl _)
end
open Sem (wp)
section
variable {K:Type} [DecidableEq K] {knd:KeyKind prog w K}
theorem zOO:isSubtype (.type "set") (.type "set")=pure true:=sub_set_self
theorem zNN (hT:s.TypeIs (.ref a) "set") (h:Q false s):wpAny (model prog w) A (Builtin.List.listLengthHint (.ref a)) Q E s:=by
 unfold Builtin.List.listLengthHint;refine zVg (wpAny_specialOf hT F.slot_set_len.lookup ?_);have hsp:splitId "set.__len__" = some ("set", "__len__"):=by decide +kernel
 dsimp only;rw[hsp];refine zVg (wpAny_isInstance hT zOO ?_);rw[zVy (by decide),zVv (by decide +kernel)];refine zVg (wpAny_typeOf hT ?_);exact zVi h
theorem zJw (hh:A.handled=none) (ho:s.heap.get? a=some o) (hS:SetK knd o es ep t ks)
  (hQ:∀ (s':Yl) (acc:Yf),(∀ b u,s.heap.get? b=some u->s'.heap.get? b=some u)->s'.os=s.os->s'.gens=s.gens->acc.Perm (es.toList.map (·.2))->Q acc s'):wpAny (model prog w) A (collect (.ref a)) Q E s:=by
 have hal:a<s.heap.objs.size:=zVr ho;have hn:ks.length<=sizeLine:=by rw[<-hS.size];exact fits_of_scanBound hS.bound
 unfold collect;refine zVg (wpAny_runValue (zWl F.entry_proto_collect ?_));rw[zWb F.plain_proto_collect _];refine zVg (zV9 (zVi ⟨plainId_quiet F.plain_list_iadd _,zWl F.entry_list_iadd ?_⟩));rw[zWb F.plain_list_iadd _];generalize hH:s.heap.push { cls:=.type "list", data:=.seq ([]:List Value).toArray }=H;have kH:∀ b u,s.heap.get? b=some u->H.get? b=some u:=λb u e=>by rw[<-hH];exact zVh _ e
 have szH:H.objs.size=s.heap.objs.size+1:=by rw[<-hH];exact zWM ..
 have hL1:H.get? s.heap.objs.size=some { cls:=.type "list", data:=.seq ([]:List Value).toArray }:=by rw[<-hH];exact zVq _ rfl
 have ho1:=kH a o ho;show wpAny _ A.in1 (Builtin.List.listExtendWith (.ref s.heap.objs.size) (.ref a) (.ref s.heap.objs.size)) _ _ { s with heap:=H };unfold Builtin.List.listExtendWith;have hT1:Shared.TypeIs { s with heap:=H } (.ref a) "set" := ⟨o,ho1,hS.ex.1⟩;refine zVg (wpAny_typeOf hT1 ?_);have hneL:s.heap.objs.size≠a:=zXB hal;have h1:Builtin.List.listSameRef (.ref s.heap.objs.size) (.ref a)=false:=by simp[Builtin.List.listSameRef,hneL]
 have h2:(Value.type "set" == Value.type "list")=false:=by decide
 have h3:(Value.type "set" == Value.type "tuple")=false:=by decide
 simp only[h1,h2,h3,Bool.or_false,zWh,if_false];refine zVg (zPt (s:={ s with heap:=H }) ho1 hS λh2 d I fp ord St k2 hI2 hfp W st0 hp=>?_);have ho2:=k2 a o ho1;refine zVg (zWZ (zNN (s:={ s with heap:=h2,drawn:=d }) ⟨o,ho2,hS.ex.1⟩ ?_));rw[zVv (by decide +kernel)];refine zVg (zW3 (zVg ?_));have hL2:=k2 _ _ hL1;refine zVg (wpAny_updateSeq (s:={ s with heap:=h2,drawn:=d }) hL2 rfl ?_);have hS2:=zWT (Obj.mapSeq (·.push Value.none)) hL2 rfl;refine wpAny_updateSeq hS2 rfl ?_;have hS3:=zWT (Obj.mapSeq (·.pop)) hS2 rfl;generalize hH3:(h2.update s.heap.objs.size (Obj.mapSeq (·.push Value.none))).update s.heap.objs.size (Obj.mapSeq (·.pop))=H3 at hS3;have oth:∀ b u,b≠s.heap.objs.size->h2.get? b=some u->H3.get? b=some u:=λb u hb e=>by
  rw[<-hH3];exact (zWN _ _ (Ne.symm hb)).trans ((zWN _ _ (Ne.symm hb)).trans e)
 have hSf:s.heap.objs.size∉fp:=λhm=>by
  rcases (hfp _ hm).2 with z|z
  .exact hneL z
  .have z':H.objs.size<=s.heap.objs.size:=z;rw[szH]at z';exact absurd z' (Nat.not_succ_le_self _)
 have WS:=(W A.in1.in1 hh).toS;have st3:St 0 H3:=(W A.in1.in1 hh).frame 0 _ _ st0 λb hb u e=>oth b u (λz=>hSf (z▸hb)) e;have hI3:I≠s.heap.objs.size:=λz=>by
  have z':H.objs.size<=I:=hI2;rw[szH,z]at z';exact absurd z' (Nat.not_succ_le_self _)
 refine zVi ⟨plainId_quiet F.plain_extend_loop _,codeAny_extend_loopS (A:=A) (WalksS.of_in1 WS) hn _ hSf _ ks.length 0 { s with heap:=H3,drawn:=d } _ _ rfl (zWS _) st3 hS3 (ItemsOf.nil _) λs' acc' c' hm hS' hacc=>?_⟩;refine zVg (wpAny_load hS' (zVi (hQ s' _ (λb u e=>hm.heap b u (λq=>?_) (oth b u (λz=>zWO _ (z▸zVr e)) (k2 b u (kH b u e)))) hm.os hm.gens ?_)))
 .rcases zVs.mp q with z|z
  .exact zWO _ (z▸zVr e)
  .have z':H.objs.size<=I:=hI2;rw[<-zV8.mp z,szH]at z';exact zWO _ (Nat.lt_trans (zV5 (zWd _) z') (zVr e))
 .have e:acc'.toList=ord:=by
   have hl:ord.length=ks.length:=by rw[hp.length_eq,zVp,zWP,hS.size]
   apply List.ext_getElem?;intro i;rw[zXL];by_cases q:i<ks.length
   .have q':i<acc'.size:=by rw[hacc.1];exact q
    rw[zWR q'];exact (hacc.2 i _ (zWR q')).symm
   .rw[Array.getElem?_eq_none (by rw[hacc.1];omega),List.getElem?_eq_none (by omega)]
  rw[e];exact hp
end
end ST
namespace L2
open PySem PySem.Spec PyProof.Rows ST
section
theorem zDT {elt target iter ifs rest scope pos it acc env}
  (h0:codeAny (model prog w) A (.compLoop (.SetComp elt (⟨target,iter,ifs,0⟩::rest) scope pos) 0 it acc env) R s)
  (h:wpAny (model prog w) A (pyIter it) (λit' s'=>codeAny (model prog w) A (.compLoop (.SetComp elt (⟨target,iter,ifs,0⟩::rest) scope pos) 0 it' acc env) R s')
   (notedBy (model prog w) A env λx s'=>R (.error x) s') s) :
  codeAny (model prog w) A (.compStart (.SetComp elt (⟨target,iter,ifs,0⟩::rest) scope pos) 0 it acc env) R s:=by
 refine codeAny_of_tree ?_;show wpAny _ _ ((compStart (.SetComp elt (⟨target,iter,ifs,0⟩::rest) scope pos) 0 it acc env).onRaise (λx=>do noteFrame x env;standAt theWindowsPlace)) _ _ s;refine wpAny_notedAt ?_;unfold compStart;refine zVg (wpAny_askSetting (wpAny_ite ?_));split
 .first
   |exact zVg (zVi (zVi (And.intro rfl h0)))
   |exact zVi (And.intro rfl h0)
 .first
   |exact zVg (zW3 (zVg (zWe (zVg (zWC h (λit' s' h'=>zVi (And.intro rfl h')) λ_ _ x=>x)))))
   | (refine zVg (zW3 ?_);show wpAny _ _ (standAt iter.pos >>= _) _ _ s;exact zVg (zWe (zVg (zWC h (λit' s' h'=>zVi (And.intro rfl h')) λ_ _ x=>x))))
end
section
variable {pos:Pos}
 {own:Yj} {g:TG} {tc:TT} {te:TE} {E:Yc}
theorem zLH (h:SetK (intKind prog w) o es ep t ks):∀ v,o.data≠.cell v:=λv z=>by rw[h.data]at z;cases z
theorem zF6 (C:CompIn X scope own) (hcalm:X.calm=true) (I:Inv X zB σ H s) (T:Turn X.prog X.w X.K tg J fp it tn) (st:tn 0 s.heap) (hf:∀ b∈fp,zB5 X zB H b)
  (c1:∀ x c,cl.lookup x=some c->X.env.cells.lookup x=some c) (c2:∀ y∈scope.names,y.2=.free->(cl.lookup y.1).isSome=true)
  (hg:PG (zJ X zB scope cl s H fp) tg g) (hi:zFi (zJ X zB scope cl s H fp) ifs tc) (he:PE (zJ X zB scope cl s H fp) elt te)
  {RR:Value->Addr->Result->Shared->Prop} {QQ:List Int->Hp->Prop} {W:Nat->Nat->List Int->Hp->Prop} {m0:Nat} (w0:W 0 m0 [] H)
  (turn:∀ i m ys H,W i m ys H->(J.stop i H/\QQ ys H) \/
   (J.go i H /\ ∀ x H',J.yld i H x H'->g x (clr own σ) H' λσ2 H2=>Ext (clr own σ) σ2/\tc σ2 H2 λb H3=>
    if b=true then te σ2 H3 λv H4=>∃ k,v=.int k/\ys.length+1<scanBound /\ ∃ m',m'<m/\W (i+1) m' (ins ys k) H4 else ∃ m',m'<m/\W (i+1) m' ys H3))
  (fin:∀ σc H' s' o es ep t ys,Inv (zJ X zB scope cl s H fp) [(s.heap.objs.size,o)] σc H' s'->SetK (intKind X.prog X.w) o es ep t ys->QQ ys H'->RR (.ref s.heap.objs.size) (s.heap.objs.size+1) (.ok .next) s') :
  wpAny (model X.prog X.w) X.A (newSet (.type "set")) (λacc s₃=>wpAny (model X.prog X.w) X.A (newFunctionEnv scope X.env.globals cl [] X.env.qual none .none (some X.env)) (λcenv s₄=>
   codeAny (model X.prog X.w) X.A (.compStart (.SetComp elt [⟨tg,iter,ifs,0⟩] scope pos) 0 (.ref it) acc { cenv with scope:=relabel scope X.env }) (RR acc cenv.locals) s₄) E s₃) E s:=by
 have ob:∀ b:Nat,b∈fp->b<s.heap.objs.size:=λb hb=>let ⟨_,e,_⟩:=T.obj 0 _ st b hb;zVr e;refine zNk (zCV ?_);have sz1:(s.heap.push (zBr X.w)).objs.size=s.heap.objs.size+1:=zWM ..;have I4:=zEr (X:=X) (zB:=zB) (σ:=σ) (σc:=clr own σ) (H:=H) (s:=s) (scope:=scope) (cl:=cl) (fp:=fp) C.sc I hf ob c1 c2 (zBG own σ) (λi x v h1 h2 h3=>by
  obtain ⟨a,b⟩:=zCe own σ i v h2;rcases C.nm i x h1 with z|z|z
  .exact absurd z b
  .exact absurd (zB6 x z) h3
  .exact ⟨z,a⟩) (zBr X.w) (by intro v z;cases z) rfl rfl
 have st4:tn 0 (pushCells ((s.heap.push (zBr X.w)).push { cls:=.type "dict", data:=.dict #[] }) scope.names):=T.keep 0 _ _ st λb _ o e=>pushCells_keeps _ _ b o (zVh _ (zVh _ e));unfold newEnv;rw[sz1];have hDfp:s.heap.objs.size∉fp:=λz=>zWO _ (ob _ z);have hcD:∀ x c,(zJ X zB scope cl s H fp).env.cells.lookup x=some c->c≠s.heap.objs.size:=λx c e z=>by
  obtain ⟨v,o,ho,hd⟩:=I4.cell x c e;obtain ⟨q,_⟩:=I4.pin (s.heap.objs.size,zBr X.w) (by simp);rw[z,q]at ho;cases ho;cases hd
 have fpk:∀ {H':Hp} {pl:Yd},(∀ b∈fp,H' b=none)->(∀ p∈pl,p.1=s.heap.objs.size) -> ∀ b∈fp,zB5 (zJ X zB scope cl s H fp) pl H' b:=λ{H' pl} hn hp b hb=>
  ⟨hn b hb,(I4.ok.exf b hb).1,I4.ok.exfs b hb,.inl hb,(I4.ok.exf b hb).2,λp hq=>by
   rcases zV6.mp hq with z|z
   .exact (hf b hb).2.2.2.2.2 p z
   .intro e;have e2:=hp p z;rw[e]at e2;exact hDfp (e2▸hb)⟩
 have loop:codeAny (model X.prog X.w) X.A (.compLoop (.SetComp elt [⟨tg,iter,ifs,0⟩] scope pos) 0 (.ref it) (.ref s.heap.objs.size) (zJ X zB scope cl s H fp).env) (RR (.ref s.heap.objs.size) (s.heap.objs.size+1))
   { s with heap:=pushCells ((s.heap.push (zBr X.w)).push { cls:=.type "dict", data:=.dict #[] }) scope.names }:=by
  refine zJD (λn s'=>∃ i H' ys o es ep t,Inv (zJ X zB scope cl s H fp) [(s.heap.objs.size,o)] (clr own σ) H' s'/\SetK (intKind X.prog X.w) o es ep t ys/\tn i s'.heap/\(∀ b∈fp,H' b=none)/\W i n ys H') ?_ m0
   ⟨0,H,[],zBr X.w,_,_,_,I4,.fresh,st4,λb hb=>(hf b hb).1,w0⟩
  rintro n s5 ⟨i,H5,ys,o,es,ep,t,I5,r5,st5,f5,w5⟩;have pinD:∀ p∈[(s.heap.objs.size,o)],p.1=s.heap.objs.size:=λp hp=>by
   have:p=(s.heap.objs.size,o):=by simpa using hp
   rw[this]
  rcases turn i n ys H5 w5 with ⟨stop,qq⟩|⟨go,step⟩
  .refine thn (T.done (zJ X zB scope cl s H fp) rfl rfl rfl hcalm i _ s5 _ H5 _ I5 (fpk f5 pinD) st5 stop) λr s6 ⟨hr,I6⟩=>?_;subst hr;exact fin _ H5 s6 o es ep t ys I6 r5 qq
  .refine thn (T.item (zJ X zB scope cl s H fp) rfl rfl rfl hcalm i _ s5 _ H5 _ I5 (fpk f5 pinD) st5 go) λr s6 ⟨u,hr,h6⟩=>?_;subst hr;refine thn h6 λ_ s7 ⟨x,H7,I7,r7,y7,st7,f7⟩=>?_;have I7':=I7.pinned (fpk f7 pinD) (T.obj _ _ st7);refine thn (hg _ s7 _ H7 x u _ I7' r7 (step x H7 y7)) λ_ s8 ⟨σ8,H8,I8,x8,q8⟩=>?_;refine thn (hi _ s8 σ8 H8 _ I8 q8) λok s9 ⟨H9,I9,q9⟩=>?_;have back:∀ {s':Yl} {Hx:Hp},Inv (zJ X zB scope cl s H fp) ([(s.heap.objs.size,o)]++zCq fp s7.heap) σ8 Hx s'->tn (i+1) s'.heap /\ ∀ b∈fp,Hx b=none:=λ{s' Hx} Ix=>
    ⟨T.keep _ _ _ st7 λb hb o e=>(Ix.pin (b,o) (zV0 _ (zV0 _ (zAI hb e)))).1,λb hb=>by
     obtain ⟨o,e,d⟩:=T.obj _ _ st7 b hb;exact (Ix.pin (b,o) (zV0 _ (zV0 _ (zAI hb e)))).2.1⟩
   cases ok with
   |false=>
    obtain ⟨m',hm,w'⟩:=q9;obtain ⟨b1,b2⟩:=back I9;exact ⟨m',hm,i+1,H9,ys,o,es,ep,t,(I9.weak (by rw[x8.1]) x8.2).unpinned,r5,b1,b2,w'⟩
   |true=>
    refine thn (he _ s9 σ8 H9 _ I9 q9) λv s10 ⟨y,H10,I10,r10,k,hk,hlt,m',hm,w'⟩=>?_;subst hk;obtain ⟨b1,b2⟩:=back I10;have J10:=(I10.weak (by rw[x8.1]) x8.2).unpinned;obtain ⟨e10,n10,ne10,nf10,d10⟩:=J10.pin (s.heap.objs.size,o) (by simp);obtain ⟨tk,hv⟩:∃ tk,v=.int k tk:=r10;subst hv;refine zPg (knd:=intKind X.prog X.w) (intKind_is _ _ _ _) rfl e10 r5 hlt λh' o' es' ep' t' hs' e' S'=>?_;refine ⟨m',hm,i+1,H10,ins ys k,o',es',ep',t',?_,S',T.keep _ _ _ b1 λb hb o e=>hs'.extBut b o (λz=>hDfp (z▸hb)) e,b2,w'⟩;refine (Inv.repin (pl:=[]) J10 (λp hp=>?_) hs' (zVm _) hcD e' (zLH S')).tok _;rw[zWQ]at hp;have hp':p∈X.pn++zB:=hp;exact zV1 (zVr (I.pin p hp').1)
 exact zDT loop (T.self _ 0 _ _ _ st4 loop)
theorem zIR (I:Inv X zB σ H s) (hf:∀ b∈fp,zB5 X zB H b)
  (Ic:Inv (zJ X zB scope cl s H fp) [(s.heap.objs.size,oD)] σc H' s') (hs:Heap.SameBut (s.heap.objs.size+1) s'.heap h') :
  Inv X zB σ H' { s' with heap:=h' }/\h'.get? s.heap.objs.size=some oD:=by
 obtain ⟨eD,nD,_⟩:=Ic.pin (s.heap.objs.size,oD) (by simp);have nC:H' (s.heap.objs.size+1)=none:=Ic.free;have eD':h'.get? s.heap.objs.size=some oD:=hs.extBut _ _ (zV1 (zWd _)) eD;have lt1:∀ {b:Yt} {o:Obj},s.heap.get? b=some o->b≠s.heap.objs.size+1:=λe=>zV1 (zWV (zVr e));have tr:∀ b u,H' b=some u->b≠s.heap.objs.size+1:=λb u e z=>by rw[z,nC]at e;cases e
 refine ⟨?_,eD'⟩;have B:=Ic.base;have un:Un (frs X.stack) fp H H' s.heap h':=by
  refine ⟨λb o e q hb hx=>hs.extBut b o (lt1 e) (B.keep b o e q hb hx),λb o e q hb hx=>?_,λb o e q hx=>B.free b o e q hx,λb o e hx=>?_,λb xs e=>B.tups b xs e,λb o xs e=>B.frzs b o xs e,λb ps e=>B.tbls b ps e⟩
  .obtain ⟨sl,e1⟩:=B.slot b o e q hb hx;exact ⟨sl,hs.extBut b _ (lt1 e) e1⟩
  .obtain ⟨o',e1⟩:=B.there b o e hx;exact ⟨o',hs.extBut b _ (lt1 e) e1⟩
 have hok:HOk X.prog X.w H' h':=λb u e=>by
  refine (Ic.hok b u e).stay (λc v hc q=>hs.extBut c v ?_ q) (λc q=>q) λc xs q=>q;rcases hc with z|z
  .rw[z];exact tr b u e
  .exact tr c _ z
 exact I.call' (s':={ s' with heap:=h' }) (ch:=fp) Ic.os un hok Ic.bare λb hb=>⟨(hf b hb).2.2.2.1,(hf b hb).2.1,(hf b hb).2.2.2.2.1,(hf b hb).2.2.2.2.2⟩
end
abbrev TZ:=St->Hp->(List Int->Hp->Prop)->Prop
def PZ (X:Cx) (e:Expr) (t:TZ):Prop:=∀ (zB:Yd) (s:Yl) (σ:St) (H:Hp) (Q:List Int->Hp->Prop),Inv X zB σ H s->t σ H Q ->
 wpAny (model X.prog X.w) X.A (eval e X.env) (λv s'=>∃ a o es ep tb ks H',v=.ref a/\s'.heap.get? a=some o/\SetK (intKind X.prog X.w) o es ep tb ks/\Inv X zB σ H' s'/\Q ks H') X.xe s
def zKJ (own:Yj) (wi:TI) (g:TG) (tc:TT) (te:TE):TZ:=λσ H Q=>wi σ H λJ H1=>∃ W:Nat->Nat->List Int->Hp->Prop,(∃ m,W 0 m [] H1) /\ ∀ i m ys H,W i m ys H ->
 (J.stop i H/\Q ys H) \/
 (J.go i H /\ ∀ x H',J.yld i H x H'->g x (clr own σ) H' λσ2 H2=>Ext (clr own σ) σ2/\tc σ2 H2 λb H3=>
  if b=true then te σ2 H3 λv H4=>∃ k,v=.int k/\ys.length+1<scanBound /\ ∃ m',m'<m/\W (i+1) m' (ins ys k) H4 else ∃ m',m'<m/\W (i+1) m' ys H3)
section
theorem zQm (C:CompIn X scope own) (hcalm:X.calm=true) (hi:PI X tg iter wi) (p:CompParts X scope tg ifs elt g tc te) (hs:∀ x,foldedSetIterable iter X.env x=pure x:=by intro _;rfl) :
  PZ X (.SetComp elt [⟨tg,iter,ifs,0⟩] scope pos) (zKJ own wi g tc te):=by
 intro zB s σ H Q I h;obtain ⟨cl,hcl,c1,c2⟩:=C.sc.closure I;rw[arm_eval_SetComp];refine zXa (use:=none) rfl hs hcl C.sc.kind C.sc.names (thn (hi zB s σ H _ I h) λv s1 h1=>thn h1 λitv s2 h2=>?_);obtain ⟨it,fp,tn,J,H2,e,I2,T,st2,f2,W,⟨m0,w0⟩,turn⟩:=h2;subst e;refine zF6 C hcalm I2 T st2 f2 c1 c2 (p.g _ _ _ _ _) (p.c _ _ _ _ _) (p.e _ _ _ _ _) (RR:=λacc C r s'=>compPost (model X.prog X.w) X.A X.xe none (λv s'=>∃ a o es ep tb ks H',v=.ref a/\s'.heap.get? a=some o/\SetK (intKind X.prog X.w) o es ep tb ks/\Inv X zB σ H' s'/\Q ks H') acc C r s') (QQ:=Q) w0 turn ?_;intro σc H' s' o es ep t ys Ic rv qq;obtain ⟨m,hn,_⟩:=Ic.loc;refine ⟨m,hn,λh' hs'=>?_⟩;obtain ⟨J',eD⟩:=zIR I2 f2 Ic hs';exact ⟨_,o,es,ep,t,ys,H',rfl,eD,rv,J',qq⟩
end
end L2
namespace ST
open PySem PySem.Spec PyProof.Rows
open Sem (wp)
section
variable {prog:Ym} {w:Yo} {A:Yn} {E:Yc} {s:Yl}
variable {K:Type} [DecidableEq K] {knd:KeyKind prog w K}
def zA6 (ks:List K):List K:=ks.foldl ins []
theorem zJt (ks:List K) (k:K):zA6 (ks++[k])=ins (zA6 ks) k:=by unfold zA6;rw[List.foldl_append];rfl
theorem zQt (ks:List K) (k:K):(ins ks k).length<=ks.length+1:=by unfold ins;split <;> simp
theorem zEQ (ks:List K):(zA6 ks).length<=ks.length:=by
 have:∀ (l acc:List K),(l.foldl ins acc).length<=acc.length+l.length:=by
  intro l;induction l with
  |nil=>intro acc;simp
  |cons x r ih=>intro acc;have:=ih (ins acc x);have:=zQt acc x;simp only[List.foldl_cons,zWD];omega
 simpa [zA6] using this ks []
theorem zRi (ks:List K) (k x:K):x∈ins ks k ↔ x∈ks\/x=k:=by
 unfold ins;split
 .rename_i h;constructor
  .exact .inl
  .rintro (z|z)
   .exact z
   .rw[z];exact h
 .simp
theorem zLD (ks:List K) (x:K):x∈zA6 ks ↔ x∈ks:=by
  have:∀ (l acc:List K),x∈l.foldl ins acc ↔ x∈acc\/x∈l:=by
    intro l;induction l with
    |nil=>intro acc;simp
    |cons y r ih=>intro acc;rw[List.foldl_cons,ih,zRi,zVs];simp[or_assoc]
  simpa [zA6] using this ks []
theorem zND (h : ks.Nodup) (k : K) : (ins ks k).Nodup := by
  unfold ins;split
  .exact h
  · rename_i q
    rw[zWu]
    exact ⟨h, by simp, fun a ha b hb z => by have : b = k := by simpa using hb
                                             subst this;subst z;exact q ha⟩
theorem zIX (ks:List K):(zA6 ks).Nodup:=by
 have:∀ (l acc:List K),acc.Nodup->(l.foldl ins acc).Nodup:=by
  intro l;induction l with
  |nil=>intro acc h;exact h
  |cons y r ih=>intro acc h;exact ih _ (zND h y)
 exact this ks [] (by simp)
variable {R:Yx} {I:Yt} {fp wr:Yg} {G:Array GenState->Array GenState->Prop} {n:Nat} {P:Nat->Value->Prop} {St:Nat->Shared->Prop}
end
def zDN (ks:Ye):List Int:=ks.mergeSort λa b=>decide (a<=b)
theorem zBf (ks:Ye):(zDN ks).Perm ks:=List.mergeSort_perm _ _
theorem zF9 (ks:Ye):(zDN ks).Pairwise (· <= ·):=by
 have:=List.pairwise_mergeSort (le:=λ(a b:Int)=>decide (a<=b)) (λa b c h1 h2=>by simp at h1 h2 ⊢;omega) (λa b=>by simp;omega) ks;exact this.imp λh=>by simpa using h
theorem zHh:∀ {xs ys:Ye},xs.Perm ys->xs.Pairwise (· <= ·)->ys.Pairwise (· <= ·)->xs=ys
 |[],ys,p,_,_=>by have:=p.length_eq;simp at this;rw[List.length_eq_zero_iff.mp this.symm]
 |x::xs,[],p,_,_=>by have:=p.length_eq;simp at this
 |x::xs,y::ys,p,h1,h2=>by
  have hx:=List.pairwise_cons.mp h1;have hy:=List.pairwise_cons.mp h2;have e:x=y:=by
   have a:x∈y::ys:=p.mem_iff.mp zVu;have b:y∈x::xs:=p.mem_iff.mpr zVu;rcases zVs.mp a with z|z
   .exact z
   .rcases zVs.mp b with q|q
    .exact q.symm
    .exact Int.le_antisymm (hx.1 y q) (hy.1 x z)
  subst e;rw[zHh (p.cons_inv) hx.2 hy.2]
theorem zKR (p:xs.Perm ys) (h:xs.Pairwise (· <= ·)):xs=zDN ys:=zHh (p.trans (zBf ys).symm) h (zF9 ys)
section
theorem zLX
  (hc:wpAny (model prog w) A.in1 (collect v) (λvs s1=>∃ ns,IntsAre vs ns/\vs.length<64 /\ ∀ (h':Heap) (out:List Value) (n:Nat),(∀ b u,s1.heap.get? b=some u->h'.get? b=some u)->h'.get? s1.heap.objs.size=some (seqObj "list" out.toArray n)->IntsAre out (zDN ns)->Q (.ref s1.heap.objs.size) { s1 with heap:=h' }) E s) :
  wpAny (model prog w) A (call (.builtin "sorted") [v]) Q E s:=by
 refine Calls.call_function_entry kind_sorted plain_sorted entry_sorted (args_sorted1 _) ?_;unfold Builtin.«sorted»;refine zVg (m:=checkCount "sorted" 1 1 _) (zVi ?_);refine zVg (zWC hc (λvs s1 h1=>?_) λ_ _ h'=>h');obtain ⟨ns,hI,h64,h⟩:=h1;refine zVg (wpAny_newList ?_ (by rw[sizeLine_eq];omega));have hoL:(s1.heap.push (seqObj "list" vs.toArray 0)).get? s1.heap.objs.size=some (seqObj "list" vs.toArray 0):=zVq _ rfl;refine zVg (zWZ (zWJ slot_list_sort ⟨_,hoL,rfl⟩ entry_list_sort (list_sort_tree (s:={ s1 with heap:=s1.heap.push (seqObj "list" vs.toArray 0) }) hoL hI h64 λout ns' a1 a2 a3=>⟨_,rfl,?_⟩) (args_list_sort _)));refine zVi ⟨_,rfl,?_⟩;have g1:=get?_update_seq hoL (λ_=> #[]);have g2:(((s1.heap.push (seqObj "list" vs.toArray 0)).update s1.heap.objs.size (Obj.mapSeq λ_=> #[])).push (seqObj "tuple" vs.toArray 0)).get? s1.heap.objs.size=_:=zVh _ g1;have g3:=zVh (seqObj "list" #[] 0) g2;have g4:=get?_update_seq g3 (λ_=>out);have eS:=zKR a2 a3;subst eS;refine h _ out.toList _ (λb u e=>?_) (by rw[Array.toArray_toList];exact g4) a1;have hb:s1.heap.objs.size≠b:=λz=>zWO _ (z▸zVr e);exact (zWN _ _ hb).trans (zVh _ (zVh _ ((zWN _ _ hb).trans (zVh _ e))))
theorem zMf (h:F2 (zSl (intKind prog w)) es ks):IntsAre (es.map (·.2)) ks:=by
 induction h with
 |nil=>exact .nil
 |cons h _ ih=>
  obtain ⟨⟨h1,_⟩,_⟩:=h;obtain ⟨t,e⟩:=Value.isInt_shape h1;rw[zVz,e];exact .cons _ _ ih
theorem zM4 (p:us.Perm vs):∀ {ks:Ye},IntsAre vs ks -> ∃ ks',ks'.Perm ks/\IntsAre us ks':=by
 have p':=p.symm;clear p;induction p' with
 |nil=>intro ks h;exact ⟨ks,.refl _,h⟩
 |cons x _ ih=>
  intro ks h;cases h with
  |cons n t r=>
   obtain ⟨ys',q1,q2⟩:=ih r;exact ⟨_,q1.cons _,.cons _ _ q2⟩
 |swap x y l=>
  intro ks h;cases h with
  |cons n t r=>
   cases r with
   |cons n2 t2 r=>exact ⟨_,List.Perm.swap _ _ _,.cons _ _ (.cons _ _ r)⟩
 |trans _ _ ih1 ih2=>
  intro ks h;obtain ⟨ys',q1,q2⟩:=ih1 h;obtain ⟨ys'',r1,r2⟩:=ih2 q2;exact ⟨ys'',r1.trans q1,r2⟩
theorem zKP (p:xs.Perm ys):zDN xs=zDN ys:=zKR ((zBf xs).trans p) (zF9 xs)
theorem zKi (hh:A.handled=none) (ho:s.heap.get? a=some o) (hS:SetK (intKind prog w) o es ep t ks) (h64:ks.length<64)
  (h:∀ (s1:Shared) (h':Heap) (out:List Value) (n:Nat),(∀ b u,s.heap.get? b=some u->s1.heap.get? b=some u)->s1.os=s.os->s1.gens=s.gens->(∀ b u,s1.heap.get? b=some u->h'.get? b=some u)->h'.get? s1.heap.objs.size=some (seqObj "list" out.toArray n)->IntsAre out (zDN ks)->Q (.ref s1.heap.objs.size) { s1 with heap:=h' }) :
  wpAny (model prog w) A (call (.builtin "sorted") [.ref a]) Q E s:=by
 refine zLX (zJw (A:=A.in1) hh ho hS λs' acc k1 k2 k3 hp=>?_);obtain ⟨ks',p,f⟩:=hS.ent;obtain ⟨ks2,p2,f2⟩:=zM4 hp (zMf f);refine ⟨ks2,f2,?_,λh' out n e1 e2 e3=>?_⟩
 .rw[hp.length_eq,zVp,zWP,hS.size];exact h64
 .rw[zKP (p2.trans p)]at e3;exact h s' h' out n k1 k2 k3 e1 e2 e3
end
end ST
namespace L2
open PySem PySem.Spec PyProof.Rows ST
section
theorem Inv.kept' (I:Inv X zB σ H s) (k:∀ b u,s.heap.get? b=some u->s1.heap.get? b=some u) (ho:s1.os=s.os) (hg:s1.gens=s.gens):Inv X zB σ H s1 :=
 I.call' (ch:=[]) ho (Un.kept k) (I.hok.kept k) (by rw[hg];exact I.bare) λb hb=>nomatch hb
theorem zGJ:∀ {ns:Ye} {us:Yf},IntsAre us ns->zb (ns.map V.int) us
 |_,_,.nil=> .nil
 |_,_,.cons n t h=> .cons ⟨t,rfl⟩ (zGJ h)
theorem zON (ks:Ye):(zDN ks).length=ks.length:=(zBf ks).length_eq
theorem zOF (hc:X.calm=true) (hg:Gl X "sorted") (hm:X.mg "sorted" = none) (ha:PZ X e t) (hs:starEach [e] X.env=(false,eval e X.env)::starEach [] X.env:=by rfl) (hpl:(backTo pos (starEach [] X.env)).any (·.1)=false:=by rfl) :
  PE X (.Call (.Name "sorted" p) [e] [] pos) (λσ H Q=>t σ H λks H1=>ks.length<64 /\ ∀ q,H1 q=none->Q (.ref q) (upd H1 q (.lst ((zDN ks).map V.int)))):=by
 intro zB s σ H Q I h;refine wpAny_Call_Name_kw (zGD I hg hm (by rfl) ?_ (by decide) (by decide));refine callWith_builtin1 ?_ hs hpl;rw[hs];refine Calls.spliced_cons (thn (ha zB s σ H _ I h) λu s1 ⟨a,o,es,ep,tb,ks,H1,hv,ho,hS,I1,h64,q⟩=>Calls.spliced_nil ?_);subst hv;refine zKi (I1.ok.hd hc) ho hS h64 λs2 h' out n k1 k2 k3 k4 e4 i4=>?_;have I2:Inv X zB σ H1 s2:=I1.kept' k1 k2 k3;have hf:H1 s2.heap.objs.size=none:=I2.hok.fresh (zVm _);refine ⟨.ref s2.heap.objs.size,upd H1 s2.heap.objs.size (.lst ((zDN ks).map V.int)),I2.laid (t':=s2.toks) k4 (zVm _) ⟨by rw[zVp,zON,sizeLine_eq];omega,out,n,zGJ i4,e4⟩,rfl,q _ hf⟩
end
end L2
namespace L3
open PySem PySem.Spec PyProof.Rows L2 ST
abbrev FZ:=Sd->Mem->Option (List Int × Mem)
def trZ (K:Yb) (f:FZ):TZ:=λτ H Q=>∃ L σ M ks M',Cor K L M H/\zBO L H σ τ/\f σ M=some (ks,M') /\ ∀ L' H',Stp L H L' H'->Cor K L' M' H'->Q ks H'
structure QZ (X:Cx) (e:Expr) (f:FZ):Prop where
 un:PZ X e (trZ X.K f)
theorem PZ.imp (h:PZ X e t) (hi:∀ τ H Q,t' τ H Q->t τ H Q):PZ X e t':=λzB s σ H Q I q=>h zB s σ H Q I (hi _ _ _ q)
def zHV (own:Yj) (fi:FI) (g:FG) (tc:FT) (te:FE):FZ:=λσ M=>match zq own fi g tc te σ M with
 |some (.fl ys,M2)=>match zAk ys with
  |some ks=>if ks.length+1<scanBound then some (zA6 ks,M2) else none
  |none=>none
 |_=>none
theorem zGa:∀ {as bs:List D} {zs:Ye},zAk (as++bs)=some zs -> ∃ xs ys,zAk as=some xs/\zAk bs=some ys/\zs=xs++ys
 |[],bs,zs,h=>⟨[],zs,rfl,h,rfl⟩
 |a::as,bs,zs,h=>by
  cases a with
  |int i=>
   rw[List.cons_append]at h;unfold zAk at h;split at h
   .rename_i us e;cases h;obtain ⟨xs,ys,e1,e2,e3⟩:=zGa e;refine ⟨i::xs,ys,?_,e2,by rw[e3];rfl⟩;unfold zAk;rw[e1]
   .cases h
  |_=>cases h
theorem zJn (h:zAk as=some xs):zAk (as++[.int i])=some (xs++[i]):=by
 induction as generalizing xs with
 |nil=>cases h;rfl
 |cons a as ih=>
  cases a with
  |int j=>
   unfold zAk at h;split at h
   .rename_i us e;cases h;rw[List.cons_append];unfold zAk;rw[ih e];rfl
   .cases h
  |_=>cases h
theorem zMU {K:Yb} {own:Yj} {fi:FI} {g:TG} {fg:FG} {tc:FT} {te:FE} (hg:zEK own g fg) {τ:Sv} {H:Hp} {Q:List Int->Hp->Prop} (h:trZ K (zHV own fi fg tc te) τ H Q):zKJ own (trI K fi) g (trT K tc) (trD K (toD te)) τ H Q:=by
 obtain ⟨L,σ,M,d,Mf,c,rs,hf,q⟩:=h;unfold zHV zq at hf;cases e1:fi σ M with
 |none=>rw[e1]at hf;cases hf
 |some r=>
  obtain ⟨xs,gd,M1⟩:=r;rw[e1]at hf;dsimp only at hf;by_cases hz:xs.length<=sizeLine
  .rw[zVv hz]at hf;cases e2:zAo fg tc te (zA7 own σ) xs gd xs M1 with
   |none=>rw[e2]at hf;cases hf
   |some r=>
    obtain ⟨zs,M2⟩:=r;rw[e2]at hf;dsimp only at hf;split at hf
    .rename_i kz ez;split at hf
     .rename_i hb;cases hf;refine ⟨L,σ,M,_,_,_,c,rs,e1,λL1 H1 J s1 c1 it=>?_⟩
      refine ⟨λi m ys H'=>m=xs.length-i/\i<=xs.length /\ ∃ L' M' as bs ka,Stp L1 H1 L' H'/\Cor K L' M' H'/\zAk as=some ka/\ys=zA6 ka/\zAo fg tc te (zA7 own σ) xs gd (xs.drop i) M'=some (bs,Mf)/\as++bs=zs,
       ⟨xs.length,by simp,zWS _,L1,M1,[],zs,[],.refl _ _,c1,rfl,rfl,by simpa using e2,rfl⟩,?_⟩
      rintro i m ys H' ⟨rfl,hi,L',M',as,bs,ka,s',c',r',hl,e',hab⟩;by_cases hlt:i<xs.length
      .rw[zCB hlt]at e';unfold zAo at e';split at e'
       .rename_i hgd;obtain ⟨step,_⟩:=it L' H' M' s' c' hgd;obtain ⟨go,yl⟩:=step i xs[i] (zVk hlt);split at e'
        .rename_i σ1 eg;refine .inr ⟨go,λv H2 hy=>?_⟩;obtain ⟨gr,rv⟩:=yl v H2 hy;have s2:Stp L1 H1 L' H2:=s'.yld gr;refine hg (zD2 own ((rs.stp s1).stp s2)) (.refl _) rv eg λτ2 r2 x2=>⟨x2,?_⟩;split at e'
         .rename_i M3 e3;split at e'
          .rename_i d M4 e4;split at e'
           .rename_i ds M5 e5;cases e';refine ⟨L',σ1,M',_,_,c'.grow gr,r2,e3,λL3 H3 s3 c3=>zHL ?_⟩;refine ⟨L3,σ1,M3,_,_,c3,r2.stp s3,e4,λL4 H4 w s4 c4 r4=>?_⟩;have st:Stp L' H' L4 H4:=((Stp.grow gr).trans s3).trans s4;have ez':=ez;rw[<-hab]at ez';obtain ⟨x1,y1,g1,g2,g3⟩:=zGa ez';obtain ⟨k,hk⟩:∃ k,d=.int k:=by
             cases d with
             |int k=>exact ⟨k,rfl⟩
             |_=>cases g2
            subst hk;have ew:w=.int k:=by unfold Rep at r4;exact r4
            have hka:ka.length<=kz.length:=by
             rw[r']at g1;cases g1;rw[g3,zVw];omega
            refine ⟨k,ew,?_,xs.length-(i+1),by omega,rfl,hlt,L4,M4,as++[.int k],ds,ka++[k],s'.trans st,c4,zJn r',by rw[hl,zJt],e5,by rw[<-hab];simp⟩;rw[hl];have:=zEQ ka;omega
           .cases e'
          .cases e'
         .rename_i M3 e3;refine ⟨L',σ1,M',_,_,c'.grow gr,r2,e3,λL3 H3 s3 c3=>zG5 ?_⟩;have st:Stp L' H' L3 H3:=(Stp.grow gr).trans s3;exact ⟨xs.length-(i+1),by omega,rfl,hlt,L3,M3,as,bs,ka,s'.trans st,c3,r',hl,e',hab⟩
         .cases e'
        .cases e'
       .cases e'
      .have hi':i=xs.length:=by omega
       subst hi';rw[List.drop_length]at e';unfold zAo at e';split at e'
       .rename_i hgd;cases e';obtain ⟨_,stop⟩:=it L' H' _ s' c' hgd;rw[zWQ]at hab;subst hab;rw[r']at ez;cases ez;refine .inl ⟨stop,?_⟩;rw[hl];exact q L' H' (s1.trans s') c'
       .cases e'
     .cases hf
    .cases hf
  .rw[zVy hz]at hf;cases hf
section
variable {X:Cx}
theorem zSm (hg:zEK own g fg) (C:CompIn X scope own) (hcalm:X.calm=true) (hi:QI X tg iter fi) (p:QParts X scope tg ifs elt g tc te) (hs:∀ x,foldedSetIterable iter X.env x=pure x:=by intro _;rfl) :
  QZ X (.SetComp elt [⟨tg,iter,ifs,0⟩] scope pos) (zHV own fi fg tc te) :=
 .mk <| PZ.imp (zQm C hcalm hi.un p.parts hs) λ_ _ _ h=>zMU hg h
def zFv (f:FZ):FE:=λσ M=>match f σ M with
 |some (ks,M1)=>if ks.length<64 then some (.fl ((zDN ks).map D.int),M1) else none
 |none=>none
theorem zH1:∀ (ns:Ye),zM L H (ns.map D.int) (ns.map V.int)
 |[]=> .nil
 |n::ns=> .cons zAM (zH1 ns)
theorem zQG (hc:X.calm=true) (hg:Gl X "sorted") (hm:X.mg "sorted" = none) (h:QZ X e fz) (hs:starEach [e] X.env=(false,eval e X.env)::starEach [] X.env:=by rfl) (hpl:(backTo pos (starEach [] X.env)).any (·.1)=false:=by rfl) :
  QE X (.Call (.Name "sorted" p) [e] [] pos) (zFv fz):=.mk <| PE.imp (zOF hc hg hm h.un hs hpl) λτ H Q zz=>by
 obtain ⟨L,σ,M,d,M',c,rs,hf,q⟩:=zz;unfold zFv at hf;split at hf
 .rename_i ks M1 e1;split at hf
  .rename_i hb;cases hf;refine ⟨L,σ,M,_,_,c,rs,e1,λL1 H1 s1 c1=>⟨hb,λp hp=>?_⟩⟩;exact q L1 _ _ (s1.trans (.upd hp)) (c1.upd hp) (zc.newLst s1 c c1 hp (zH1 _))
  .cases hf
 .cases hf
end
open AutoSeq1 (wpAny_loadPart')
theorem zSD (hh:A.handled=none) (it l:Yt) (hne:l≠it) (items:Yp) :
  Draws prog w A it [it,l] items.size (λi v=>items[i]?=some v) (λi h=>h.IsTupleIter it l i/\h.IsTuple l items) where
 live:=λ_ _ st=>let ⟨o,ho,_⟩:=st.1;⟨o,ho⟩;frame:=λ_ _ _ st hk=>⟨let ⟨o,ho,r⟩:=st.1;⟨o,hk it (by simp) o ho,r⟩,let ⟨o,ho,r⟩:=st.2;⟨o,hk l (by simp) o ho,r⟩⟩;item:=λi s Q E hi st hQ=>by
  refine zLe st.1 st.2 (x:=items[i]) (by simp[hi]) λh' hit' hs'=>?_;exact hQ _ h' s.toks (by simp[hi]) ⟨hit',Tup.but st.2 hs'.extBut hne⟩ hs'
 done:=λs Q E st hE=>zHe hh st.1 st.2 (by simp) hE
theorem zJP (l:Yt) (items:Yp) (n:Nat) (dct:Option Addr) (sl:Array (Option Value)) :
  Meets (Builtin.«enumerate.__new__» ⟨[.type "enumerate", .ref l],[]⟩) (λ_ R s=>s.heap.get? l=some { cls:=.type "tuple", dict:=dct,data:=.seq items n,slots:=sl } /\
   R (.ok (.ret (.ref (s.heap.push { cls:=.type "tuple_iterator", data:=.fields #[.ref l,.int 0 0] }).objs.size)))
    { s with heap:=(s.heap.push { cls:=.type "tuple_iterator", data:=.fields #[.ref l,.int 0 0] }).push { cls:=.type "enumerate", data:=.fields #[.none,.bool false,.ref s.heap.objs.size,rawInt 0,.none,.none] } }) :=
 .of_wp λprog w A R s h=>by
  obtain ⟨hp,g,d,tk,os⟩:=s;obtain ⟨hl,h⟩:=h;have hsub:=sub_enumerate;have hL:Heap.IsTuple (Shared.heap ⟨hp,g,d,tk,os⟩) l items:=⟨_,hl,rfl,n,rfl⟩;wp_walk using wpAny_loadPart' hl;refine wpAny_stack_any λst=>zVi ?_;split
  .rename_i c _ _ _ _ _;cases (c==Value.type "enumerate")
   .wp_walk using wpAny_loadPart' hl,wpAny_pyIter_tuple hL;exact ⟨_,rfl,h⟩
   .wp_walk using wpAny_loadPart' hl,wpAny_pyIter_tuple hL;exact ⟨_,rfl,h⟩
  .wp_walk using wpAny_loadPart' hl,wpAny_pyIter_tuple hL;exact ⟨_,rfl,h⟩
section
theorem zLG (hL:s.heap.IsTuple l items)
  (h:∀ h',IsEnum h' (s.heap.objs.size+1) s.heap.objs.size 0 .none->h'.IsTupleIter s.heap.objs.size l 0->(∀ c o,s.heap.get? c=some o->h'.get? c=some o)->Q (.ref (s.heap.objs.size+1)) { s with heap:=h' }) :
  wpAny (model prog w) A (call (.type "enumerate") [.ref l]) Q E s:=by
 obtain ⟨o,ho,hc,n,hd⟩:=hL;obtain ⟨ocls,odict,odata,oslots⟩:=o;simp only at hc hd;subst hc;subst hd;refine callType_new PySem.F.called_enumerate (by decide) (PySem.F.typeCall_enumerate_1 _) (PySem.F.newCall_enumerate_1 _) (λobj=>PySem.F.args_object_init_2 obj _) PySem.F.entry_enumerate_new (zJP l items n odict oslots) ⟨ho,?_⟩;have q1:(s.heap.push { cls:=.type "tuple_iterator", data:=.fields #[.ref l,.int 0 0] }).objs.size=s.heap.objs.size+1:=zWM ..;have p2:((s.heap.push { cls:=.type "tuple_iterator", data:=.fields #[.ref l,.int 0 0] }).push { cls:=.type "enumerate", data:=.fields #[.none,.bool false,.ref s.heap.objs.size,rawInt 0,.none,.none] }).get? (s.heap.push { cls:=.type "tuple_iterator", data:=.fields #[.ref l,.int 0 0] }).objs.size=some _:=zVq _ rfl;rw[q1]at p2;rw[q1];exact ⟨⟨_,p2,rfl⟩,h _ p2 ⟨_,zVh _ (zVq _ rfl),rfl,rfl⟩ λc o x=>zVh _ (zVh _ x)⟩
theorem zKa (he:IsEnum s.heap e it i old)
  (hn:∀ (Q':Value->Shared->Prop) (E':Value->Shared->Prop),(∀ h' x,Heap.ExtBut it s.heap h'->(∃ o,h'.get? x=some o/\o.cls=.type "StopIteration")->E' (.ref x) { s with heap:=h' })->wpAny (model prog w) A.in1 (Builtin.SmallTypes.nextOf (.ref it)) Q' E' s)
  (hQ:∀ h',Heap.ExtBut it s.heap h'->Q none { s with heap:=h' }):wpAny (model prog w) A (pyNext (.ref e)) Q E s:=by
 have hT:s.TypeIs (.ref e) "enumerate" := ⟨_,he,rfl⟩;unfold pyNext
 refine zVg (wpAny_attempt (zWI (name:=Str.ofString "__next__") hT PySem.F.slot_enumerate_next
  (zWJ PySem.F.slot_enumerate_next hT PySem.F.entry_enumerate_next ?_ (PySem.F.args_enumerate_next_1 _))))
 show wpAny _ _ (field (.ref e) 2 >>= _) _ _ _;refine zVg (zWL he rfl (x:=.ref it) rfl ?_);refine zVg (hn _ _ λh' x he' hx'=>?_);obtain ⟨o,ho,hc⟩:=hx';refine zVg (wpAny_isInstance (T := "StopIteration") (b:=true) ⟨o,ho,hc⟩ isSubtype_stop ?_);exact zVi (hQ _ he')
end
def zJh (K:Yb) (isT:Bool) (a:Yt):It :=
 ⟨λi H=>∃ xs x,(if isT then SqT K H a xs else SqL K H a xs)/\xs[i]?=some x,
  λi H v H'=>∃ T x,v=.ref T/\H T=none/\H'=upd H T (.tup [.int i,x]) /\ ∀ xs,(if isT then SqT K H a xs else SqL K H a xs)->xs[i]?=some x,
  λi H=>∃ xs,(if isT then SqT K H a xs else SqL K H a xs)/\xs.length<=i⟩
def zRu (isT:Bool) (it a:Yt) (i:Nat) (h:Heap):Prop:=if isT then h.IsTupleIter it a i else h.IsListIter it a i
theorem zMM {P:Ym} {w:Yo} {K:Yb} {es:Yi} {ek:Nat} {ep:Pos} {isT:Bool} {e it a:Yt} (hei:e≠it) (hae:a≠e) (hai:a≠it) :
  Turn P w K (.Tuple es ek ep) (zJh K isT a) [e,it] e (λi h=>(∃ old,IsEnum h e it i old)/\zRu isT it a i h) where
 mem:=by simp
 obj:=λi h ⟨⟨old,he⟩,st⟩ c hc=>by
  simp only[zVs,zWB,or_false]at hc;rcases hc with rfl|rfl
  .exact ⟨_,he,λv m=>by cases m⟩
  .cases isT with
   |true=>obtain ⟨o1,e1,_,d1⟩:=(show h.IsTupleIter c a i from st);exact ⟨_,e1,λv m=>by rw[d1]at m;cases m⟩
   |false=>obtain ⟨o1,e1,_,d1⟩:=(show h.IsListIter c a i from st);exact ⟨_,e1,λv m=>by rw[d1]at m;cases m⟩
 keep:=λi h h' ⟨⟨old,he⟩,st⟩ k=>by
  refine ⟨⟨old,k e (by simp) _ he⟩,?_⟩;cases isT with
  |true=>obtain ⟨o1,e1,r⟩:=(show h.IsTupleIter it a i from st);exact ⟨o1,k it (by simp) _ e1,r⟩
  |false=>obtain ⟨o1,e1,r⟩:=(show h.IsListIter it a i from st);exact ⟨o1,k it (by simp) _ e1,r⟩
 item:=by
  intro X hP hw hK hc i zB s σ H E I hf Z hg;subst hP hw hK;obtain ⟨⟨old,he⟩,st⟩:=Z;obtain ⟨xs,x,sa,hx⟩:=hg;have hch:∀ c∈[e,it],zB5 X zB H c:=hf;have elt:e<s.heap.objs.size:=zVr he
  have fin:∀ (its:List Value) (u:Value) (h':Heap) (tk:Nat),zb xs its->its[i]?=some u->IsEnumOut h' e it ((i:Int)+1) u s.heap.objs.size->zRu isT it a (i+1) h'->h'.get? s.heap.objs.size=some { cls:=.type "tuple", data:=.seq #[.int i tk,u] } ->
    (∀ b o,b≠e->b≠it->s.heap.get? b=some o->h'.get? b=some o)->it<s.heap.objs.size ->
    ∃ u',some (Value.ref s.heap.objs.size)=some u'/\wpAny (model X.prog X.w) X.A (letOwnedTupleGo (.Tuple es ek ep) (.ref e) u') (λ_ s2=>∃ x H',Inv X zB σ H' s2/\ze x u'/\(zJh X.K isT a).yld i H x H'/\((∃ old,IsEnum s2.heap e it ((i+1:Nat):Int) old)/\zRu isT it a (i+1) s2.heap) /\ ∀ b∈[e,it],H' b=none) E { s with heap:=h',toks:=tk+1 }:=by
   intro its u h' tk rv hu ho st' hT hk ilt;refine ⟨_,rfl,wpAny_letOwnedTupleGo_enum ho λh2 he2 e2=>?_⟩;have kk:∀ c o,c∉[e,it]->s.heap.get? c=some o->h2.get? c=some o:=λc o n q=>by
    simp only[zVs,zWB,or_false,not_or]at n;exact e2.extBut _ _ n.1 (hk c o n.1 n.2 q)
   have NT:=e2.extBut _ _ (zXB elt) hT;have hfr:H s.heap.objs.size=none:=I.hok.fresh (zVm _);obtain ⟨u2,hu2,ru⟩:=rv.get hx;rw[hu]at hu2;cases hu2;refine ⟨.ref s.heap.objs.size,upd H s.heap.objs.size (.tup [.int i,x]),zFW (s:=s) (h':=h2) (t':=tk+1) I hch kk (zVm _) ?_,rfl,⟨_,x,rfl,hfr,rfl,λws hw=>?_⟩,⟨⟨u,by simpa using he2⟩,?_⟩,λc hm=>?_⟩
   .exact ⟨by show 2<=sizeLine;decide,[.int i tk,u],.cons ⟨tk,rfl⟩ (.cons ru .nil),⟨_,NT,rfl,⟨_,rfl⟩,rfl⟩⟩
   .cases isT with
    |true=>rw[I.tuple_inj hw sa];exact hx
    |false=>rw[I.list_inj hw sa];exact hx
   .cases isT with
    |true=>obtain ⟨o1,e1,r⟩:=(show h'.IsTupleIter it a (i+1)from st');exact ⟨o1,e2.extBut _ _ hei.symm e1,r⟩
    |false=>obtain ⟨o1,e1,r⟩:=(show h'.IsListIter it a (i+1)from st');exact ⟨o1,e2.extBut _ _ hei.symm e1,r⟩
   .have lt:c<s.heap.objs.size:=by
     simp only[zVs,zWB,or_false]at hm;rcases hm with rfl|rfl
     .exact elt
     .exact ilt
    rw[zV (zV1 lt)];exact (hf c hm).1
  have hef:e∉[it,a]:=by simp only[zVs,zWB,or_false,not_or];exact ⟨hei,hae.symm⟩
  cases isT with
  |true=>
   obtain ⟨its,rv,p1,z1⟩:=I.tuple sa;have st':s.heap.IsTupleIter it a i:=st;obtain ⟨o1,e1,_⟩:=id st';refine wpAny_pyNext_enum_itemD (zSD (prog:=X.prog) (w:=X.w) (A:=X.A.in1) (I.ok.hd hc) it a hai its.toArray) he ⟨st',show s.heap.IsTuple a its.toArray from p1⟩ (by have:=rv.length;have:=(zVj.mp hx).1;rw[zVo];omega) hei hef λu h' tk hu ho hs hT _ hk=>?_;exact fin its u h' tk rv (by simpa using hu) ho hs.1 hT hk (zVr e1)
  |false=>
   obtain ⟨its,rv,p1,z1⟩:=I.list sa;have st':s.heap.IsListIter it a i:=st;obtain ⟨o1,e1,_⟩:=id st';refine wpAny_pyNext_enum_itemD (Draws.list (prog:=X.prog) (w:=X.w) (A:=X.A.in1) (I.ok.hd hc) it a hai its.toArray) he ⟨st',p1.isList⟩ (by have:=rv.length;have:=(zVj.mp hx).1;rw[zVo];omega) hei hef λu h' tk hu ho hs hT _ hk=>?_;exact fin its u h' tk rv (by simpa using hu) ho hs.1 hT hk (zVr e1)
 done:=by
  intro X hP hw hK hc i zB s σ H E I hf Z hg;subst hP hw hK;obtain ⟨⟨old,he⟩,st⟩:=Z;obtain ⟨xs,sa,hz⟩:=hg;have out:∀ h',Heap.ExtBut it s.heap h'->(none:Option Value)=none/\Inv X zB σ H { s with heap:=h' }:=λh' x=>⟨rfl,zDx (s:=s) (h':=h') (t':=s.toks) I hf λc o n q=>x c o (λm=>n (by simp[m])) q⟩;cases isT with
  |true=>
   obtain ⟨its,rv,p1,z1⟩:=I.tuple sa;refine zKa he (λQ' E' hq=>zHe (I.ok.hd hc) (show s.heap.IsTupleIter it a i from st) (show s.heap.IsTuple a its.toArray from p1) (by have:=rv.length;simp;omega) hq) out
  |false=>
   obtain ⟨its,rv,p1,z1⟩:=I.list sa;refine zKa he (λQ' E' hq=>wpAny_nextOf_list_end (I.ok.hd hc) (show s.heap.IsListIter it a i from st) p1.isList (by have:=rv.length;simp;omega) hq) out
 self:=λ_ _ _ _ _ Z h=>let ⟨⟨_,he⟩,_⟩:=Z;wpAny_pyIter_enum he h
section
theorem zQl {te:TE} (hg:Gl X "enumerate") (hm:X.mg "enumerate" = none) (ha:PE X a te) (hs:starEach [a] X.env=(false,eval a X.env)::starEach [] X.env:=by rfl) (hpl:(backTo pos (starEach [] X.env)).any (·.1)=false:=by rfl) :
  PI X (.Tuple es ek ep) (.Call (.Name "enumerate" p) [a] [] pos) (λσ H R=>te σ H λx H1=>∃ l,x=.ref l/\((∃ xs,SqT X.K H1 l xs)/\R (zJh X.K true l) H1\/(∃ xs,SqL X.K H1 l xs)/\R (zJh X.K false l) H1)):=by
 intro zB s σ H R I h;refine wpAny_Call_Name_kw (zGD I hg hm (by rfl) ?_ (by decide) (by decide));refine callWith_type1 ?_ hs hpl;rw[hs];refine Calls.spliced_cons (thn (ha zB s σ H _ I h) λu s1 ⟨x,H1,I1,r1,l,hx,q⟩=>Calls.spliced_nil ?_);subst hx;cases r1
 have out:∀ (isT:Bool) (h':Heap),l<s1.heap.objs.size->IsEnum h' (s1.heap.objs.size+1) s1.heap.objs.size 0 .none->zRu isT s1.heap.objs.size l 0 h'->(∀ c o,s1.heap.get? c=some o->h'.get? c=some o)->R (zJh X.K isT l) H1 ->
   wpAny (model X.prog X.w) X.A (pyIter (.ref (s1.heap.objs.size+1))) (PIE X zB σ (.Tuple es ek ep) R) X.xe { s1 with heap:=h' }:=by
  intro isT h' hl he st kp q;refine wpAny_pyIter_enum (s:={ s1 with heap:=h' }) he ?_;refine ⟨s1.heap.objs.size+1,[s1.heap.objs.size+1,s1.heap.objs.size],_,_,H1,rfl,I1.kept (t':=s1.toks) kp,zMM (isT:=isT) (zXB (zWd _)) (zV1 (zWV hl)) (zV1 hl),⟨⟨_,he⟩,st⟩,λc hc=>?_,q⟩;have ge:s1.heap.objs.size<=c:=by
   simp only[zVs,zWB,or_false]at hc;rcases hc with rfl|rfl
   .exact zXO _
   .exact zVm _
  exact I1.fpOk ge (I1.hok.fresh ge)
 rcases q with ⟨⟨xs,hq⟩,q⟩|⟨⟨xs,hq⟩,q⟩
 .obtain ⟨its,rv,p1,_⟩:=I1.tuple hq;have hl:l<s1.heap.objs.size:=by obtain ⟨_,e,_⟩:=p1;exact zVr e
  exact zLG (show s1.heap.IsTuple l its.toArray from p1) λh' he st kp=>out true h' hl he st kp q
 .obtain ⟨its,rv,p1,_⟩:=I1.list hq;have hl:l<s1.heap.objs.size:=by obtain ⟨_,_,e,_⟩:=p1;exact zVr e
  exact call_enumerate_list p1.isList λh' he st _ kp=>out false h' hl he st kp q
def zJj (xs:List D):List D:=((List.range xs.length).zip xs).map λq=>D.tup [.int (q.1:Nat),q.2]
theorem zQC {xs:List D} {i:Nat} {d:D} (h:(zJj xs)[i]?=some d):∃ x,xs[i]?=some x/\d=.tup [.int (i:Nat),x]:=by
 unfold zJj at h;rw[zV3]at h;cases e:((List.range xs.length).zip xs)[i]? with
 |none=>rw[e]at h;cases h
 |some pr=>
  rw[e]at h;cases h;obtain ⟨f1,f2⟩:=List.getElem?_zip_eq_some.mp e;have hi:i<xs.length:=(zVj.mp f2).1;rw[List.getElem?_range hi]at f1;cases f1;exact ⟨pr.2,f2,rfl⟩
theorem zOq (xs:List D):(zJj xs).length=xs.length:=by unfold zJj;simp
def zJm (f:FE):FI:=λσ M=>match f σ M with
 |some (x,M1)=>match zAY M1 x with
  |some xs=>some (zJj xs,zEH x xs,M1)
  |none=>none
 |none=>none
theorem zQx {g:FE} (hg:Gl X "enumerate") (hm:X.mg "enumerate" = none) (h:QE X a g) (hs:starEach [a] X.env=(false,eval a X.env)::starEach [] X.env:=by rfl) (hpl:(backTo pos (starEach [] X.env)).any (·.1)=false:=by rfl) :
  QI X (.Tuple es ek ep) (.Call (.Name "enumerate" p) [a] [] pos) (zJm g):=.mk <| PI.imp (zQl hg hm h.un hs hpl) λτ H R zz=>by
 obtain ⟨L,σ,M,xs,gd,M',c,rs,hf,q⟩:=zz;unfold zJm at hf;split at hf
 .rename_i y M1 e1;split at hf
  .rename_i zs e2;cases hf;refine ⟨L,σ,M,_,_,c,rs,e1,λL1 H1 v s1 c1 r1=>?_⟩
   have step:∀ (isT:Bool) (l:Yt) (L2:Yg) (H2:Hp) (vs:List V),(if isT then SqT X.K H2 l vs else SqL X.K H2 l vs)->zM L2 H2 zs vs ->
     (∀ (i:Nat) d,(zJj zs)[i]?=some d->(zJh X.K isT l).go i H2 /\ ∀ v H'',(zJh X.K isT l).yld i H2 v H''->(∀ a o,H2 a=some o->H'' a=some o)/\Rep L2 H'' d v)/\(zJh X.K isT l).stop (zJj zs).length H2:=by
    intro isT l L2 H2 vs hq r;refine ⟨λi d hd=>?_,⟨vs,hq,by rw[zOq,r.length];exact zVm _⟩⟩;obtain ⟨x,hx,rfl⟩:=zQC hd;obtain ⟨u,hu,ru⟩:=r.get hx;refine ⟨⟨vs,u,hq,hu⟩,λv H3 hy=>?_⟩;obtain ⟨T,x',rfl,hT,rfl,hxx⟩:=hy;have ex:=hxx vs hq;rw[hu]at ex;cases ex;exact ⟨λa o e=>by rw[zV (zu e hT)];exact e,Rep.newTup hT (.cons zAM (.cons ru .nil))⟩
   unfold zAY at e2;cases t:zB0 y with
   |some ws=>
    rw[t]at e2;cases e2;obtain ⟨a,vs,rfl,e3,r3⟩:=zBF r1 t;refine ⟨a,rfl,.inl ⟨⟨vs,.of e3⟩,q L1 H1 _ s1 c1 λL2 H2 M2 s2 c2 _=>?_⟩⟩;exact step true a L2 H2 vs (.of (s2.tup a vs e3)) (r3.stp s2)
   |none=>
    rw[t]at e2;obtain ⟨a,vs,rfl,e3,r3⟩:=zAa c1 r1 e2;refine ⟨a,rfl,.inr ⟨⟨vs,.inl e3⟩,q L1 H1 _ s1 c1 λL2 H2 M2 s2 c2 hgd=>?_⟩⟩;have key:∃ vs',SqL X.K H2 a vs'/\zM L2 H2 zs vs':=by
     cases y with
     |fl ys=>
      cases e2;obtain ⟨p',vs',hp',_,e5,e6,r6⟩:=r1;cases hp';exact ⟨vs',.of (s2.old _ _ e5 e6),r6.stp s2⟩
     |dat d=>
      cases d with
      |ref n=>
       unfold zc Rep at r1;obtain ⟨a',ha',e5⟩:=r1;cases ha';have e6:L2[n]?=some a:=by obtain ⟨N,hN⟩:=s2.pre;rw[hN];exact zBi e5
       rcases hgd with z|z
       .obtain ⟨vs',e7,r7⟩:=c2.obj n a _ e6 z;exact ⟨vs',.of e7,r7⟩
       .obtain ⟨o,vs',e7,r7⟩:=c2.obj n a _ e6 z;exact ⟨vs',.inl (.inr ⟨o,e7⟩),r7⟩
      |_=>cases e2
    obtain ⟨vs',hq,r7⟩:=key;exact step false a L2 H2 vs' hq r7
  .cases hf
 .cases hf
end
section
variable [DecidableEq κ]
def zDL (kf:D->Option κ) (kvs:List (D × D)) (k:κ):Option D:=(kvs.find? λp=>decide (kf p.1=some k)).map (·.2)
def zKD (kf:D->Option κ) (kvs:List (D × D)) (k:κ) (kd v:D):List (D × D) :=
 if (kvs.any λp=>decide (kf p.1=some k))=true then kvs.map λp=>if kf p.1=some k then (p.1,v) else p else kvs++[(kd,v)]
theorem zDW (k:κ):∀ {kvs:List (D × D)} {vs:List (κ × V)},zAe kf L H kvs vs->(zDL kf kvs k=none/\zDQ vs k=none) \/ ∃ d v,zDL kf kvs k=some d/\zDQ vs k=some v/\Rep L H d v
 |[],vs,h=>by unfold zAe at h;subst h;exact .inl ⟨rfl,rfl⟩
 |p::r,vs,h=>by
  obtain ⟨k',v,r',rfl,e,h1,h2⟩:=h;by_cases q:k'=k
  .subst q;exact .inr ⟨p.2,v,by unfold zDL;rw[zXS,e];simp,by rw[zEs rfl],h1⟩
  .have e1:zDL kf (p::r) k=zDL kf r k:=by unfold zDL;rw[zXS,e];simp[q]
   rw[e1,zEW q];exact zDW k h2
theorem zKE (k:κ):∀ {kvs:List (D × D)} {vs:List (κ × V)},zAe kf L H kvs vs->(kvs.any λp=>decide (kf p.1=some k))=(vs.any λkv=>decide (kv.1=k))
 |[],vs,h=>by unfold zAe at h;subst h;rfl
 |p::r,vs,h=>by
  obtain ⟨k',v,r',rfl,e,h1,h2⟩:=h;rw[List.any_cons,List.any_cons,zKE k h2,e];simp
theorem zGg (k:κ) (hd:Rep L H d u):∀ {kvs:List (D × D)} {vs:List (κ × V)},zAe kf L H kvs vs->zAe kf L H (kvs.map λp=>if kf p.1=some k then (p.1,d) else p) (vs.map λkv=>if kv.1=k then (kv.1,u) else kv)
 |[],vs,h=>by unfold zAe at h;subst h;rfl
 |p::r,vs,h=>by
  obtain ⟨k',v,r',rfl,e,h1,h2⟩:=h;rw[zVz,zVz];by_cases q:k'=k
  .subst q;rw[zVv e,zVv rfl];exact ⟨k',u,_,rfl,e,hd,zGg k' hd h2⟩
  .rw[zVy (by rw[e];simpa using q),zVy q];exact ⟨k',v,_,rfl,e,h1,zGg k hd h2⟩
theorem zHm (hk:kf kd=some k) (hd:Rep L H d u):∀ {kvs:List (D × D)} {vs:List (κ × V)},zAe kf L H kvs vs->zAe kf L H (kvs++[(kd,d)]) (vs++[(k,u)])
 |[],vs,h=>by unfold zAe at h;subst h;exact ⟨k,u,[],rfl,hk,hd,rfl⟩
 |p::r,vs,h=>by
  obtain ⟨k',v,r',rfl,e,h1,h2⟩:=h;exact ⟨k',v,_,rfl,e,h1,zHm hk hd h2⟩
theorem zLq {kf:D->Option κ} {L:Yg} {H:Hp} {k:κ} {kd d:D} {u:V} (hk:kf kd=some k) (hd:Rep L H d u) {kvs:List (D × D)} {vs:List (κ × V)} (h:zAe kf L H kvs vs):zAe kf L H (zKD kf kvs k kd d) (zDR vs k u):=by
 unfold zKD zDR;rw[zKE k h];split
 .exact zGg k hd h
 .exact zHm hk hd h
end
theorem zKM:∀ {ds:List D} {vs:List V} {ks:List Key},zM L H ds vs->zEA ds=some ks->vs=ks.map kV
 |[],vs,ks,h,e=>by cases e;unfold zM at h;exact h
 |d::ds,vs,ks,h,e=>by
  unfold zM at h;obtain ⟨v,r,rfl,h1,h2⟩:=h;unfold zEA at e;cases e1:zDc d with
  |none=>rw[e1]at e;cases e
  |some k=>
   cases e2:zEA ds with
   |none=>rw[e1,e2]at e;cases e
   |some ks'=>
    rw[e1,e2]at e;cases e;rw[zFt h1 e1,zKM h2 e2];rfl
theorem zK9 (h:Rep L H d v) (e:tkD d=some ks):∃ b,v=.ref b/\H b=some (.tup (ks.map kV)):=by
 cases d with
 |tup ds=>
  unfold Rep at h;obtain ⟨a,vs,rfl,e1,r⟩:=h;exact ⟨a,rfl,by rw[e1,zKM r e]⟩
 |_=>cases e
def zFa (M:Mem) (x:EV) (k:D):Option (Option D):=match x with
 |.dat (.ref n)=>match M[n]? with
  |some (.dict kvs)=>match zDc k with
   |some kk=>some (zDL zDc kvs kk)
   |none=>none
  |some (.dicT kvs)=>match tkD k with
   |some kk=>some (zDL tkD kvs kk)
   |none=>none
  |some (.froK kvs)=>match zDc k with
   |some kk=>some (zDL zDc kvs kk)
   |none=>none
  |some (.froT kvs)=>match tkD k with
   |some kk=>some (zDL tkD kvs kk)
   |none=>none
  |_=>none
 |_=>none
def zUf (L:Yg) (H:Hp):Option D->Option V->Prop
 |none,o=>o=none
 |some d,o=>∃ v,o=some v/\Rep L H d v
theorem zEZ {K:Yb} {L:Yg} {M:Mem} {H H0:Hp} {x:EV} {v w:V} {k:D} {o:Option D} (c:Cor K L M H) (rx:zc H0 L H x v) (rk:Rep L H k w) (e:zFa M x k=some o):∃ a ov,v=.ref a/\zC1 H a w ov/\zUf L H o ov:=by
 cases x with
 |fl xs=>cases e
 |dat d=>
  cases d with
  |ref n=>
   unfold zc Rep at rx;obtain ⟨a,rfl,ea⟩:=rx;unfold zFa at e;dsimp only at e;cases q:M[n]? with
   |none=>rw[q]at e;cases e
   |some m=>
    rw[q]at e;have z:=c.obj n a m ea q;cases m with
    |dict kvs=>
     cases e2:zDc k with
     |none=>rw[e2]at e;cases e
     |some kk=>
      rw[e2]at e;cases e;obtain ⟨vs,e3,r⟩:=z;refine ⟨a,zDQ vs kk,rfl,?_,?_⟩
      .rw[zFt rk e2];exact zC1.k e3
      .rcases zDW kk r with ⟨h1,h2⟩|⟨d,v,h1,h2,h3⟩
       .rw[h1,h2];rfl
       .rw[h1,h2];exact ⟨v,rfl,h3⟩
    |dicT kvs=>
     cases e2:tkD k with
     |none=>rw[e2]at e;cases e
     |some kk=>
      rw[e2]at e;cases e;obtain ⟨vs,e3,r⟩:=z;obtain ⟨b,rfl,eb⟩:=zK9 rk e2;refine ⟨a,zDQ vs kk,rfl,zC1.t e3 eb,?_⟩;rcases zDW kk r with ⟨h1,h2⟩|⟨d,v,h1,h2,h3⟩
      .rw[h1,h2];rfl
      .rw[h1,h2];exact ⟨v,rfl,h3⟩
    |froK kvs=>
     cases e2:zDc k with
     |none=>rw[e2]at e;cases e
     |some kk=>
      rw[e2]at e;cases e;obtain ⟨ob,vs,e3,r⟩:=z;refine ⟨a,zDQ vs kk,rfl,.inl ⟨vs,kk,.inr ⟨ob,e3⟩,zFt rk e2,rfl⟩,?_⟩;rcases zDW kk r with ⟨h1,h2⟩|⟨d,v,h1,h2,h3⟩
      .rw[h1,h2];rfl
      .rw[h1,h2];exact ⟨v,rfl,h3⟩
    |froT kvs=>
     cases e2:tkD k with
     |none=>rw[e2]at e;cases e
     |some kk=>
      rw[e2]at e;cases e;obtain ⟨ob,vs,e3,r⟩:=z;obtain ⟨b,rfl,eb⟩:=zK9 rk e2;refine ⟨a,zDQ vs kk,rfl,.inr ⟨vs,kk,b,.inr ⟨ob,e3⟩,rfl,eb,rfl⟩,?_⟩;rcases zDW kk r with ⟨h1,h2⟩|⟨d,v,h1,h2,h3⟩
      .rw[h1,h2];rfl
      .rw[h1,h2];exact ⟨v,rfl,h3⟩
    |_=>cases e
  |_=>cases e
def zEb (M:Mem) (n:Nat) (k v:D):Option Mem:=match M[n]? with
 |some (.dict kvs)=>match zDc k with
  |some kk=>if kvs.length<sizeLine then some (M.set n (.dict (zKD zDc kvs kk k v))) else none
  |none=>none
 |some (.dicT kvs)=>match tkD k with
  |some kk=>if kvs.length<sizeLine then some (M.set n (.dicT (zKD tkD kvs kk k v))) else none
  |none=>none
 |_=>none
theorem zF3 {K:Yb} {L:Yg} {M M':Mem} {H:Hp} {n:Nat} {a:Yt} {k v:D} {w u:V} (c:Cor K L M H) (ea:L[n]?=some a) (rk:Rep L H k w) (rv:Rep L H v u) (e:zEb M n k v=some M'):∃ H',zEU H a w u H'/\Cor K L M' H'/\Stp L H L H':=by
 unfold zEb at e;cases q:M[n]? with
 |none=>rw[q]at e;cases e
 |some m=>
  rw[q]at e;have z:=c.obj n a m ea q;cases m with
  |dict kvs=>
   cases e2:zDc k with
   |none=>rw[e2]at e;cases e
   |some kk=>
    rw[e2]at e;dsimp only at e;split at e
    .rename_i hl;cases e;obtain ⟨vs,e3,r⟩:=z;obtain ⟨c3,s3⟩:=c.put (m:=.dict (zKD zDc kvs kk k v)) (o':=.dK (zDR vs kk u)) ea e3 (λ_ z=>by cases z) (λ_ _ z=>by cases z) λs3=>⟨_,zt,(zLq e2 rv r).stp s3⟩;refine ⟨_,?_,c3,s3⟩;rw[zFt rk e2];exact zEU.k e3 (by rw[r.length];exact hl)
    .cases e
  |dicT kvs=>
   cases e2:tkD k with
   |none=>rw[e2]at e;cases e
   |some kk=>
    rw[e2]at e;dsimp only at e;split at e
    .rename_i hl;cases e;obtain ⟨vs,e3,r⟩:=z;obtain ⟨b,rfl,eb⟩:=zK9 rk e2;obtain ⟨c3,s3⟩:=c.put (m:=.dicT (zKD tkD kvs kk k v)) (o':=.dT (zDR vs kk u)) ea e3 (λ_ z=>by cases z) (λ_ _ z=>by cases z) λs3=>⟨_,zt,(zLq e2 rv r).stp s3⟩;exact ⟨_,zEU.t e3 eb (by rw[r.length];exact hl),c3,s3⟩
    .cases e
  |_=>cases e
section
def zAg:K2:=λx y M=>match y with
 |.dat k=>match zFa M x k with
  |some (some d)=>some (.dat d,M)
  |_=>none
 |_=>none
theorem zOZ {K:Yb}:zCk K (λx y H Q=>∃ a v,x=.ref a/\zC1 H a y (some v)/\Q v H) zAg:=by
 intro L M M' H H0 x y d v w Q c rx ry hk q;unfold zAg at hk;split at hk
 .rename_i k;split at hk
  .rename_i d' e1;cases hk;obtain ⟨a,ov,rfl,h1,h2⟩:=zEZ c rx ry e1;obtain ⟨u,rfl,r⟩:=h2;exact ⟨a,u,rfl,h1,q L H u (.refl L H) c r⟩
  .cases hk
 .cases hk
theorem zSi (hu:X.A.units+1<cLine) (h1:QE X o f) (h2:QE X i g) (hs:zTN i:=by intro _ _;rfl):QE X (.Subscript o i pos) (fOp zAg f g):=.mk <| PE.imp (zQu hu h1.un h2.un hs) λ_ _ _ h=>zCb zOZ h
def zBD (neg:Bool):K2:=λx y M=>match x with
  |.dat k=>match zFa M y k with
    |some o=>some (.dat (.bl (if neg then !o.isSome else o.isSome)),M)
    |none=>none
  |_=>none
theorem zKQ {o:Option D} {ov:Option V} (h:zUf L H o ov):ov.isSome=o.isSome:=by
  cases o with
  | none => have h' : ov = none := h
            rw[h'];rfl
  |some d=>obtain ⟨v,rfl,_⟩:=h;rfl
theorem zL0 {K:Yb}:zCk K (λy x H Q=>∃ a o,x=.ref a/\zC1 H a y o/\Q (.bl o.isSome) H) (zBD false):=by
 intro L M M' H H0 x y d v w Q c rx ry hk q;unfold zBD at hk;split at hk
 .rename_i k;split at hk
  .rename_i o e1;cases hk;obtain ⟨a,ov,rfl,h1,h2⟩:=zEZ c ry rx e1;refine ⟨a,ov,rfl,h1,?_⟩;rw[zKQ h2];exact q L H _ (.refl L H) c (zBc (L:=L) (H:=H))
  .cases hk
 .cases hk
theorem zLf {K:Yb}:zCk K (λy x H Q=>∃ a o,x=.ref a/\zC1 H a y o/\Q (.bl (!o.isSome)) H) (zBD true):=by
 intro L M M' H H0 x y d v w Q c rx ry hk q;unfold zBD at hk;split at hk
 .rename_i k;split at hk
  .rename_i o e1;cases hk;obtain ⟨a,ov,rfl,h1,h2⟩:=zEZ c ry rx e1;refine ⟨a,ov,rfl,h1,?_⟩;rw[zKQ h2];exact q L H _ (.refl L H) c (zBc (L:=L) (H:=H))
  .cases hk
 .cases hk
theorem zUR (hu:X.A.units+1<cLine) (h1:QE X a f) (h2:QE X b g) (hm:behindInMarks .In b=false:=by rfl):QE X (.Compare a [.In] [b] pos) (fOp (zBD false) f g):=.mk <| PE.imp (zSO (zOa hu h1.un h2.un) hm) λ_ _ _ h=>zCb zL0 h
theorem zTC (hu:X.A.units+1<cLine) (h1:QE X a f) (h2:QE X b g) (hm:behindInMarks .In b=false:=by rfl):QT X (.Compare a [.In] [b] pos) (tst (fOp (zBD false) f g)):=.mk <| PT.imp (zP3 (zOa hu h1.un h2.un) hm) λ_ _ _ h=>zEF (λ_ _ _ z=>zCb zL0 z) (zD0 h)
theorem zNS (hu:X.A.units+1<cLine) (h1:QE X a f) (h2:QE X b g) (hm:behindInMarks .NotIn b=false:=by rfl):QT X (.Compare a [.NotIn] [b] pos) (tst (fOp (zBD true) f g)):=.mk <| PT.imp (zP3 (zM7 hu h1.un h2.un) hm) λ_ _ _ h=>zEF (λ_ _ _ z=>zCb zLf z) (zD0 h)
def zCa (fv fo fi:FE):FS:=λσ M=>match toD fv σ M with
 |some (v,M1)=>match toD fo σ M1 with
  |some (.ref n,M2)=>match toD fi σ M2 with
   |some (k,M3)=>match zEb M3 n k v with
    |some M4=>some (.nx,σ,M4)
    |none=>none
   |none=>none
  |_=>none
 |none=>none
theorem zSU (hu:X.A.units+1<cLine) (hv:QE X value f) (ho:QE X o g) (hi:QE X i h) (hs:swapsWith value (some (.Subscript o i pos')) pos.line X.env=pure false:=by rfl):QS X (.Assign [.Subscript o i pos'] value pos) (zCa f g h) :=
 .mk <| PS.imp (zQJ hu (zCh ho).un (zCh hi).un (zCh hv).un hs) λE τ H zz=>by
  obtain ⟨L,σ,M,out,σ',M',c,rs,hf,q⟩:=zz;unfold zCa at hf;split at hf
  .rename_i v M1 e1;split at hf
   .rename_i n M2 e2;split at hf
    .rename_i k M3 e3;split at hf
     .rename_i M4 e4;cases hf;refine ⟨L,σ,M,_,_,c,rs,e1,λL1 H1 u s1 c1 r1=>⟨L1,σ,M1,_,_,c1,rs.stp s1,e2,λL2 H2 y s2 c2 r2=>⟨L2,σ,M2,_,_,c2,(rs.stp s1).stp s2,e3,λL3 H3 z s3 c3 r3=>?_⟩⟩⟩;unfold Rep at r2;obtain ⟨a,rfl,ea⟩:=r2;have ea3:L3[n]?=some a:=by obtain ⟨N,hN⟩:=s3.pre;rw[hN];exact zBi ea
      obtain ⟨H4,h1,h2,h3⟩:=zF3 c3 ea3 r3 ((r1.stp s2).stp s3) e4;exact ⟨a,H4,rfl,h1,q L3 H4 (((s1.trans s2).trans s3).trans h3) h2 τ ((((rs.stp s1).stp s2).stp s3).stp h3)⟩
     .cases hf
    .cases hf
   .cases hf
  .cases hf
def zAx (fo fi fx:FE):FE:=λσ M=>match toD fo σ M with
 |some (.ref n,M1)=>match M1[n]? with
  |some (.dict _)|some (.dicT _)=>match toD fi σ M1 with
   |some (k,M2)=>match toD fx σ M2 with
    |some (x,M3)=>match zFa M3 (.dat (.ref n)) k with
     |some o=>some (.dat (o.getD x),M3)
     |none=>none
    |none=>none
   |none=>none
  |_=>none
 |_=>none
theorem zQ1 (hu:X.A.units+1<cLine) (ho:QE X o f) (hi:QE X i g) (hx:QE X e h) (m:M2 X o "get" apos i e cpos):QE X (.Call (.Attribute o "get" apos) [i,e] [] cpos) (zAx f g h) :=
 .mk <| PE.imp (zPy hu (zCh ho).un (zCh hi).un (zCh hx).un m) λτ H Q zz=>by
  obtain ⟨L,σ,M,d,M',c,rs,hf,q⟩:=zz
  have key:∀ n M1,toD f σ M=some (.ref n,M1)->(∃ kvs,M1[n]?=some (.dict kvs)\/M1[n]?=some (.dicT kvs))->(match toD g σ M1 with
   |some (k,M2)=>match toD h σ M2 with
    |some (x,M3)=>match zFa M3 (.dat (.ref n)) k with
     |some o=>some (EV.dat (o.getD x),M3)
     |none=>none
    |none=>none
   |none=>none)=some (d,M')->zOy (trD X.K (toD f)) (trD X.K (toD g)) (trD X.K (toD h)) τ H Q:=by
   intro n M1 e1 hd hf;split at hf
   .rename_i k M2 e2;split at hf
    .rename_i x M3 e3;split at hf
     .rename_i ov e4;cases hf;refine ⟨L,σ,M,_,_,c,rs,e1,λL1 H1 u s1 c1 r1=>?_⟩;unfold Rep at r1;obtain ⟨a,rfl,ea⟩:=r1;refine ⟨a,rfl,?_,L1,σ,M1,_,_,c1,rs.stp s1,e2,λL2 H2 y s2 c2 r2=>⟨L2,σ,M2,_,_,c2,(rs.stp s1).stp s2,e3,λL3 H3 z s3 c3 r3=>?_⟩⟩
      .obtain ⟨kvs,hk|hk⟩:=hd
       .obtain ⟨vs,e5,_⟩:=c1.obj n a _ ea hk;exact .inl ⟨vs,.inl e5⟩
       .obtain ⟨vs,e5,_⟩:=c1.obj n a _ ea hk;exact .inr ⟨vs,.inl e5⟩
      .have ra:zc H L3 H3 (.dat (.ref n)) (.ref a):=by
        unfold zc Rep;exact ⟨a,rfl,by obtain ⟨N,hN⟩:=(s2.trans s3).pre;rw[hN];exact zBi ea⟩
       obtain ⟨a',o',e6,h1,h2⟩:=zEZ c3 ra (r2.stp s3) e4;cases e6;refine ⟨o',h1,?_⟩;cases ov with
       |none=>
        have h':o'=none:=h2;subst h';exact q L3 H3 _ ((s1.trans s2).trans s3) c3 r3
       |some dd=>
        obtain ⟨v,rfl,rv⟩:=h2;exact q L3 H3 _ ((s1.trans s2).trans s3) c3 rv
     .cases hf
    .cases hf
   .cases hf
  unfold zAx at hf;split at hf
  .rename_i n M1 e1;split at hf
   .rename_i kvs e5;exact key n M1 e1 ⟨kvs,.inl e5⟩ hf
   .rename_i kvs e5;exact key n M1 e1 ⟨kvs,.inr e5⟩ hf
   .cases hf
  .cases hf
end
end L3
namespace L2
open PySem PySem.Spec PyProof.Rows
section
theorem zCt {kx vx target iter ifs rest scope pos it acc env}
  (h0:codeAny (model prog w) A (.compLoop (.DictComp kx vx (⟨target,iter,ifs,0⟩::rest) scope pos) 0 it acc env) R s)
  (h:wpAny (model prog w) A (pyIter it) (λit' s'=>codeAny (model prog w) A (.compLoop (.DictComp kx vx (⟨target,iter,ifs,0⟩::rest) scope pos) 0 it' acc env) R s')
   (notedBy (model prog w) A env λx s'=>R (.error x) s') s) :
  codeAny (model prog w) A (.compStart (.DictComp kx vx (⟨target,iter,ifs,0⟩::rest) scope pos) 0 it acc env) R s:=by
 refine codeAny_of_tree ?_;show wpAny _ _ ((compStart (.DictComp kx vx (⟨target,iter,ifs,0⟩::rest) scope pos) 0 it acc env).onRaise (λx=>do noteFrame x env;standAt theWindowsPlace)) _ _ s;refine wpAny_notedAt ?_;unfold compStart;refine zVg (wpAny_askSetting (wpAny_ite ?_));split
 .first
   |exact zVg (zVi (zVi (And.intro rfl h0)))
   |exact zVi (And.intro rfl h0)
 .first
   |exact zVg (zW3 (zVg (zWe (zVg (zWC h (λit' s' h'=>zVi (And.intro rfl h')) λ_ _ x=>x)))))
   | (refine zVg (zW3 ?_);show wpAny _ _ (standAt iter.pos >>= _) _ _ s;exact zVg (zWe (zVg (zWC h (λit' s' h'=>zVi (And.intro rfl h')) λ_ _ x=>x))))
end
section
theorem Inv.trackAt (I:Inv X zB σ H s) (ho:s.heap.get? D=some o) (hn:H D=none) (h0:X.s₀.heap.objs.size<=D) (hL:D≠X.env.locals) (hc:∀ x c,X.env.cells.lookup x=some c->c≠D) (hp:∀ p∈X.pn++zB,p.1≠D)
  (new:zAm X.prog X.w (upd H D u) s.heap D u):Inv X zB σ (upd H D u) s:=by
 have un:∀ b v,H b=some v->upd H D u b=some v:=λb v e=>by rw[zV (zu e hn)];exact e
 have e0:s={ s with heap:=s.heap,gens:=s.gens,drawn:=s.drawn,toks:=s.toks }:=by cases s;rfl
 rw[e0];refine I.step (g':=s.gens) (d':=s.drawn) (ch:=[D]) (λb hb=>?_) (λb v _ _ _ e _=>e) (λb v _ _ _ e _=>⟨v.slots,e⟩) (λb v hb e n=>?_) (λb v _ e=>⟨v,e⟩) (λb xs e=>un b _ e) (λb p v e=>un b _ e) (λb ps e=>⟨#[],by rw[un b _ e];simp⟩) (λm hm=>hm) (λb v e=>?_) I.bare
 .have:b=D:=by simpa using hb
  subst this;exact ⟨.inr h0,hL,hc,hp⟩
 .rw[zV (λz=>hb (by simp[z]))];exact n
 .by_cases hb:b=D
  .subst hb;rw[zt]at e;cases e;exact new
  .rw[zV hb]at e;exact (I.hok b v e).stay (λc v hc q=>q) (λc q=>un c _ q) λc xs q=>un c _ q
theorem zHz (hu:A.units+1<cLine) (I:Inv X zB σ H s) (g:zEU H a y v H') (ry:ze y u) (rv:ze v r) (h:∀ s',Inv X zB σ H' s'->Heap.SameBut a s.heap s'.heap->Q () s') :
  wpAny (model X.prog X.w) A (dictSet a u r) Q E s:=by
 rcases g with ⟨kvs,k,e,ey,l,eH⟩|⟨kvs,k,b,e,ey,eb,l,eH⟩
 .subst ey eH;obtain ⟨z,hd,vs,rel,dd⟩:=zR0 I.hok e;have hz:vs.length<=sizeLine:=by rw[<-rel.length];exact z
  have hl:(zDR kvs k v).length<=sizeLine:=by have:=zCZ kvs k v;omega
  refine wpAny_dictSet_pairs (hsz:=hz) (zGY ry) dd λh' dd' hs=>h _ ?_ hs;have he:∃ q,h'.get? a=some q:=let ⟨q,_,_,hq,_⟩:=dd';⟨q,hq⟩;exact zEd I (by rw[e];exact True.intro) hs he (zPe hl hd (rel.put k rv) dd')
 .subst ey eH;cases (show u=Value.ref b from ry);obtain ⟨z,hd,xs,rel,dd⟩:=zLp I.hok e;have hz:xs.length<=sizeLine:=by rw[<-Paired.length rel];exact z
  have hl:(zDR kvs k v).length<=sizeLine:=by have:=zCZ kvs k v;omega
  refine wpAny_dictSet_heap (hsz:=hz) (show (tupleKind (zAL X.prog X.w)).room A from Nat.lt_of_succ_lt hu) (zEC I.hok eb) dd λh' dd' hs=>h _ ?_ hs;obtain ⟨q,es,ep,hq,h2,h3,h4,_,h5⟩:=dd';refine zEd I (by rw[e];exact True.intro) hs ⟨q,hq⟩ ⟨hl,hd,_,(rel.put k eb rv).keeps λc ys ec=>?_,q,es,ep,hq,h2,h3,h4,h5⟩;rw[zV (zGQ ec e (λz=>nomatch z))];exact ec
end
def zBT (isT:Bool):HO:=if isT then .dT [] else .dK []
abbrev zAc:Obj:={ cls:=.type "dict", data:=.dict #[] }
section
variable {pos:Pos}
 {own:Yj} {g:TG} {tc:TT} {tk tv:TE} {E:Yc} {isT:Bool}
theorem zDO (hu:X.A.units+1<cLine) (C:CompIn X scope own) (hcalm:X.calm=true) (I:Inv X zB σ H s) (T:Turn X.prog X.w X.K tg J fp it tn) (st:tn 0 s.heap) (hf:∀ b∈fp,zB5 X zB H b)
  (c1:∀ x c,cl.lookup x=some c->X.env.cells.lookup x=some c) (c2:∀ y∈scope.names,y.2=.free->(cl.lookup y.1).isSome=true)
  (hg:PG (zJ X zB scope cl s H fp) tg g) (hi:zFi (zJ X zB scope cl s H fp) ifs tc) (hk:PE (zJ X zB scope cl s H fp) kx tk) (hv:PE (zJ X zB scope cl s H fp) vx tv)
  {RR:Value->Addr->Result->Shared->Prop} {QQ:Hp->Prop} {W:Nat->Nat->Hp->Prop} {m0:Nat} (w0:W 0 m0 (upd H s.heap.objs.size (zBT isT)))
  (turn:∀ i m H,W i m H->(J.stop i H/\QQ H) \/
   (J.go i H /\ ∀ x H',J.yld i H x H'->g x (clr own σ) H' λσ2 H2=>Ext (clr own σ) σ2/\tc σ2 H2 λb H3=>
    if b=true then tk σ2 H3 λk H4=>tv σ2 H4 λv H5=>∃ H6 m',zEU H5 s.heap.objs.size k v H6/\m'<m/\W (i+1) m' H6 else ∃ m',m'<m/\W (i+1) m' H3))
  (fin:∀ σc H' s',Inv (zJ X zB scope cl s H fp) [] σc H' s'->QQ H'->RR (.ref s.heap.objs.size) (s.heap.objs.size+1) (.ok .next) s') :
  wpAny (model X.prog X.w) X.A newDict (λacc s₃=>wpAny (model X.prog X.w) X.A (newFunctionEnv scope X.env.globals cl [] X.env.qual none .none (some X.env)) (λcenv s₄=>
   codeAny (model X.prog X.w) X.A (.compStart (.DictComp kx vx [⟨tg,iter,ifs,0⟩] scope pos) 0 (.ref it) acc { cenv with scope:=relabel scope X.env }) (RR acc cenv.locals) s₄) E s₃) E s:=by
 have ob:∀ b:Nat,b∈fp->b<s.heap.objs.size:=λb hb=>let ⟨_,e,_⟩:=T.obj 0 _ st b hb;zVr e;refine zV9 (zCV ?_);have sz1:(s.heap.push zAc).objs.size=s.heap.objs.size+1:=zWM ..;have I4:=zEr (X:=X) (zB:=zB) (σ:=σ) (σc:=clr own σ) (H:=H) (s:=s) (scope:=scope) (cl:=cl) (fp:=fp) C.sc I hf ob c1 c2 (zBG own σ) (λi x v h1 h2 h3=>by
  obtain ⟨a,b⟩:=zCe own σ i v h2;rcases C.nm i x h1 with z|z|z
  .exact absurd z b
  .exact absurd (zB6 x z) h3
  .exact ⟨z,a⟩) zAc (by intro v z;cases z) rfl rfl
 have st4:tn 0 (pushCells ((s.heap.push zAc).push { cls:=.type "dict", data:=.dict #[] }) scope.names):=T.keep 0 _ _ st λb _ o e=>pushCells_keeps _ _ b o (zVh _ (zVh _ e));unfold newEnv;rw[sz1];have hDfp:s.heap.objs.size∉fp:=λz=>zWO _ (ob _ z);obtain ⟨pD,nD,neD,nfD,dD⟩:=I4.pin (s.heap.objs.size,zAc) (by simp);have hcD:∀ x c,(zJ X zB scope cl s H fp).env.cells.lookup x=some c->c≠s.heap.objs.size:=λx c e z=>by
  obtain ⟨v,o,ho,hd⟩:=I4.cell x c e;rw[z,pD]at ho;cases ho;cases hd
 have hpn:∀ p∈(zJ X zB scope cl s H fp).pn++[],p.1≠s.heap.objs.size:=λp hp=>by
  rw[zWQ]at hp;have hp':p∈X.pn++zB:=hp;exact zV1 (zVr (I.pin p hp').1)
 have big:sysModules<s.heap.objs.size:=I.big;have hsm:(s.heap.objs.size==sysModules)=false:=by rw[beq_eq_false_iff_ne];exact zXB big
 have I5:Inv (zJ X zB scope cl s H fp) [] (clr own σ) (upd H s.heap.objs.size (zBT isT)) { s with heap:=pushCells ((s.heap.push zAc).push { cls:=.type "dict", data:=.dict #[] }) scope.names }:=by
  have I4':Inv (zJ X zB scope cl s H fp) [] (clr own σ) H { s with heap:=pushCells ((s.heap.push zAc).push { cls:=.type "dict", data:=.dict #[] }) scope.names }:=I4.pins_of λp hp=>nomatch hp;refine I4'.trackAt pD nD (zVm _) neD hcD hpn ?_;cases isT with
  |false=>exact ⟨zWS _,hsm,[],.nil,zAc,#[],0,pD,⟨rfl,rfl,rfl⟩,rfl,λ_ he=>by simp at he,.nil,List.nodup_nil⟩
  |true=>exact ⟨zWS _,hsm,[],.nil,zAc,#[],0,pD,⟨rfl,rfl,rfl⟩,rfl,rfl,List.nodup_nil⟩
 have fpk:∀ {H':Hp},(∀ b∈fp,H' b=none) -> ∀ b∈fp,zB5 (zJ X zB scope cl s H fp) [] H' b:=λ{H'} hn b hb=>
  ⟨hn b hb,(I4.ok.exf b hb).1,I4.ok.exfs b hb,.inl hb,(I4.ok.exf b hb).2,λp hq=>by
   rw[zWQ]at hq;exact (hf b hb).2.2.2.2.2 p hq⟩
 have loop:codeAny (model X.prog X.w) X.A (.compLoop (.DictComp kx vx [⟨tg,iter,ifs,0⟩] scope pos) 0 (.ref it) (.ref s.heap.objs.size) (zJ X zB scope cl s H fp).env) (RR (.ref s.heap.objs.size) (s.heap.objs.size+1))
   { s with heap:=pushCells ((s.heap.push zAc).push { cls:=.type "dict", data:=.dict #[] }) scope.names }:=by
  refine zHN (λn s'=>∃ i H',Inv (zJ X zB scope cl s H fp) [] (clr own σ) H' s'/\tn i s'.heap/\(∀ b∈fp,H' b=none)/\W i n H') ?_ m0
   ⟨0,_,I5,st4,λb hb=>by rw[zV (show b≠s.heap.objs.size from λz=>hDfp (by rw[<-z];exact hb))];exact (hf b hb).1,w0⟩
  rintro n s5 ⟨i,H5,J5,st5,f5,w5⟩;rcases turn i n H5 w5 with ⟨stop,qq⟩|⟨go,step⟩
  .refine thn (T.done (zJ X zB scope cl s H fp) rfl rfl rfl hcalm i _ s5 _ H5 _ J5 (fpk f5) st5 stop) λr s6 ⟨hr,I6⟩=>?_;subst hr;exact fin _ H5 s6 I6 qq
  .refine thn (T.item (zJ X zB scope cl s H fp) rfl rfl rfl hcalm i _ s5 _ H5 _ J5 (fpk f5) st5 go) λr s6 ⟨u,hr,h6⟩=>?_;subst hr;refine thn h6 λ_ s7 ⟨x,H7,I7,r7,y7,st7,f7⟩=>?_;have I7':=I7.pinned (fpk f7) (T.obj _ _ st7);refine thn (hg _ s7 _ H7 x u _ I7' r7 (step x H7 y7)) λ_ s8 ⟨σ8,H8,I8,x8,q8⟩=>?_;refine thn (hi _ s8 σ8 H8 _ I8 q8) λok s9 ⟨H9,I9,q9⟩=>?_;have back:∀ {s':Yl} {Hx:Hp},Inv (zJ X zB scope cl s H fp) ([]++zCq fp s7.heap) σ8 Hx s'->tn (i+1) s'.heap /\ ∀ b∈fp,Hx b=none:=λ{s' Hx} Ix=>
    ⟨T.keep _ _ _ st7 λb hb o e=>(Ix.pin (b,o) (zV0 _ (zV0 _ (zAI hb e)))).1,λb hb=>by
     obtain ⟨o,e,d⟩:=T.obj _ _ st7 b hb;exact (Ix.pin (b,o) (zV0 _ (zV0 _ (zAI hb e)))).2.1⟩
   cases ok with
   |false=>
    obtain ⟨m',hm,w'⟩:=q9;obtain ⟨b1,b2⟩:=back I9;exact ⟨m',hm,i+1,H9,(I9.weak (by rw[x8.1]) x8.2).unpinned,b1,b2,w'⟩
   |true=>
    refine thn (hk _ s9 σ8 H9 _ I9 q9) λkv s10 ⟨y,H10,I10,r10,q10⟩=>?_;refine thn (hv _ s10 σ8 H10 _ I10 q10) λvv s11 ⟨z,H11,I11,r11,H12,m',hp,hm,w'⟩=>?_;refine zHz (X:=zJ X zB scope cl s H fp) hu I11 hp r10 r11 λs12 I12 hs=>?_;obtain ⟨b1,b2⟩:=back I12;exact ⟨m',hm,i+1,H12,(I12.weak (by rw[x8.1]) x8.2).unpinned,b1,b2,w'⟩
 exact zCt loop (T.self _ 0 _ _ _ st4 loop)
theorem zD9 (I:Inv X zB σ H s) (hf:∀ b∈fp,zB5 X zB H b)
  (Ic:Inv (zJ X zB scope cl s H fp) [] σc H' s') (hs:Heap.SameBut (s.heap.objs.size+1) s'.heap h'):Inv X zB σ H' { s' with heap:=h' }:=by
 have nC:H' (s.heap.objs.size+1)=none:=Ic.free;have lt1:∀ {b:Yt} {o:Obj},s.heap.get? b=some o->b≠s.heap.objs.size+1:=λe=>zV1 (zWV (zVr e));have tr:∀ b u,H' b=some u->b≠s.heap.objs.size+1:=λb u e z=>by rw[z,nC]at e;cases e
 have B:=Ic.base;have un:Un (frs X.stack) fp H H' s.heap h':=by
  refine ⟨λb o e q hb hx=>hs.extBut b o (lt1 e) (B.keep b o e q hb hx),λb o e q hb hx=>?_,λb o e q hx=>B.free b o e q hx,λb o e hx=>?_,λb xs e=>B.tups b xs e,λb o xs e=>B.frzs b o xs e,λb ps e=>B.tbls b ps e⟩
  .obtain ⟨sl,e1⟩:=B.slot b o e q hb hx;exact ⟨sl,hs.extBut b _ (lt1 e) e1⟩
  .obtain ⟨o',e1⟩:=B.there b o e hx;exact ⟨o',hs.extBut b _ (lt1 e) e1⟩
 have hok:HOk X.prog X.w H' h':=λb u e=>by
  refine (Ic.hok b u e).stay (λc v hc q=>hs.extBut c v ?_ q) (λc q=>q) λc xs q=>q;rcases hc with z|z
  .rw[z];exact tr b u e
  .exact tr c _ z
 exact I.call' (s':={ s' with heap:=h' }) (ch:=fp) Ic.os un hok Ic.bare λb hb=>⟨(hf b hb).2.2.2.1,(hf b hb).2.1,(hf b hb).2.2.2.2.1,(hf b hb).2.2.2.2.2⟩
end
def zE9 (isT:Bool) (own:Yj) (wi:TI) (g:TG) (tc:TT) (tk tv:TE):TE:=λσ H Q=>wi σ H λJ H1=>∀ D,H1 D=none -> ∃ W:Nat->Nat->Hp->Prop,(∃ m,W 0 m (upd H1 D (zBT isT))) /\ ∀ i m H,W i m H ->
 (J.stop i H/\Q (.ref D) H) \/
 (J.go i H /\ ∀ x H',J.yld i H x H'->g x (clr own σ) H' λσ2 H2=>Ext (clr own σ) σ2/\tc σ2 H2 λb H3=>
  if b=true then tk σ2 H3 λk H4=>tv σ2 H4 λv H5=>∃ H6 m',zEU H5 D k v H6/\m'<m/\W (i+1) m' H6 else ∃ m',m'<m/\W (i+1) m' H3)
section
theorem zJM (hu:X.A.units+1<cLine) (C:CompIn X scope own) (hcalm:X.calm=true) (hi:PI X tg iter wi) (p:CompParts X scope tg ifs kx g tc tk) (p2:∀ zB cl s H fp,PE (zJ X zB scope cl s H fp) vx tv) (hs:∀ x,foldedSetIterable iter X.env x=pure x:=by intro _;rfl) :
  PE X (.DictComp kx vx [⟨tg,iter,ifs,0⟩] scope pos) (zE9 isT own wi g tc tk tv):=by
 intro zB s σ H Q I h;obtain ⟨cl,hcl,c1,c2⟩:=C.sc.closure I;rw[arm_eval_DictComp];refine zXa (use:=none) rfl hs hcl C.sc.kind C.sc.names (thn (hi zB s σ H _ I h) λv s1 h1=>thn h1 λitv s2 h2=>?_);obtain ⟨it,fp,tn,J,H2,e,I2,T,st2,f2,hD⟩:=h2;subst e;obtain ⟨W,⟨m0,w0⟩,turn⟩:=hD s2.heap.objs.size (I2.hok.fresh (zVm _));refine zDO hu C hcalm I2 T st2 f2 c1 c2 (p.g _ _ _ _ _) (p.c _ _ _ _ _) (p.e _ _ _ _ _) (p2 _ _ _ _ _) (RR:=λacc C r s'=>compPost (model X.prog X.w) X.A X.xe none (EP X zB σ Q) acc C r s') (QQ:=λH=>Q (.ref s2.heap.objs.size) H) w0 turn ?_;intro σc H' s' Ic qq;obtain ⟨m,hn,_⟩:=Ic.loc;refine ⟨m,hn,λh' hs'=>?_⟩;exact ⟨.ref s2.heap.objs.size,_,zD9 I2 f2 Ic hs',rfl,qq⟩
end
end L2
namespace L3
open PySem PySem.Spec PyProof.Rows L2
def zES (isT:Bool):MO:=if isT then .dicT [] else .dict []
def zCP (g:FG) (tc:FT) (tk tv:FE) (σ:Sd) (n:Nat) (all:List D) (gd:Option (Mem->Prop)):List D->Mem->Option Mem
 |[],M=>open Classical in if zAl gd all M then some M else none
 |x::r,M=>open Classical in if zAl gd all M then match g x σ with
   |some σ1=>match tc σ1 M with
    |some (true,M1)=>match toD tk σ1 M1 with
     |some (k,M2)=>match toD tv σ1 M2 with
      |some (v,M3)=>match zEb M3 n k v with
       |some M4=>zCP g tc tk tv σ n all gd r M4
       |none=>none
      |none=>none
     |none=>none
    |some (false,M1)=>zCP g tc tk tv σ n all gd r M1
    |none=>none
   |none=>none
  else none
def zCp (isT:Bool) (own:Yj) (fi:FI) (g:FG) (tc:FT) (tk tv:FE):FE:=λσ M=>match fi σ M with
 |some (xs,gd,M1)=>match zCP g tc tk tv (zA7 own σ) M1.length xs gd xs (M1++[zES isT]) with
  |some M2=>some (.dat (.ref M1.length),M2)
  |none=>none
 |none=>none
theorem zGK {K:Yb} {isT:Bool} {own:Yj} {fi:FI} {g:TG} {fg:FG} {tc:FT} {tk tv:FE} (hg:zEK own g fg) {τ:Sv} {H:Hp} {Q:VK} (h:trE K (zCp isT own fi fg tc tk tv) τ H Q):zE9 isT own (trI K fi) g (trT K tc) (trD K (toD tk)) (trD K (toD tv)) τ H Q:=by
 obtain ⟨L,σ,M,d,Mf,c,rs,hf,q⟩:=h;unfold zCp at hf;split at hf
 .rename_i xs gd M1 e1;split at hf
  .rename_i M2 e2;cases hf;refine ⟨L,σ,M,_,_,_,c,rs,e1,λL1 H1 J s1 c1 it p hp=>?_⟩;obtain ⟨c0,s0⟩:Cor K (L1++[p]) (M1++[zES isT]) (upd H1 p (zBT isT))/\Stp L1 H1 (L1++[p]) (upd H1 p (zBT isT)):=by
    cases isT with
    |true=>exact c1.pushO (m:=.dicT []) hp ⟨[],zt,rfl⟩
    |false=>exact c1.pushO (m:=.dict []) hp ⟨[],zt,rfl⟩
   have lp0:(L1++[p])[M1.length]?=some p:=by rw[<-c1.len];simp
   refine ⟨λi m H'=>m=xs.length-i/\i<=xs.length /\ ∃ L' M',Stp (L1++[p]) (upd H1 p (zBT isT)) L' H'/\Cor K L' M' H'/\zCP fg tc tk tv (zA7 own σ) M1.length xs gd (xs.drop i) M'=some Mf,
    ⟨xs.length,by simp,zWS _,_,_,.refl _ _,c0,by simpa using e2⟩,?_⟩
   rintro i m H' ⟨rfl,hi,L',M',s',c',e'⟩;have lp:L'[M1.length]?=some p:=by obtain ⟨N,hN⟩:=s'.pre;rw[hN];exact zBi lp0
   by_cases hlt:i<xs.length
   .rw[zCB hlt]at e';unfold zCP at e';split at e'
    .rename_i hgd;obtain ⟨step,_⟩:=it L' H' M' (s0.trans s') c' hgd;obtain ⟨go,yl⟩:=step i xs[i] (zVk hlt);split at e'
     .rename_i σ1 eg;refine .inr ⟨go,λv H2 hy=>?_⟩;obtain ⟨gr,rv⟩:=yl v H2 hy;have s2:Stp (L1++[p]) (upd H1 p (zBT isT)) L' H2:=s'.yld gr;refine hg (zD2 own (((rs.stp s1).stp s0).stp s2)) (.refl _) rv eg λτ2 r2 x2=>⟨x2,?_⟩;split at e'
      .rename_i M3 e3;split at e'
       .rename_i kd M4 e4;split at e'
        .rename_i vd M5 e5;split at e'
         .rename_i M6 e6;refine ⟨L',σ1,M',_,_,c'.grow gr,r2,e3,λL3 H3 s3 c3=>zHL ?_⟩;refine ⟨L3,σ1,M3,_,_,c3,r2.stp s3,e4,λL4 H4 w s4 c4 r4=>?_⟩;refine ⟨L4,σ1,M4,_,_,c4,(r2.stp s3).stp s4,e5,λL5 H5 u s5 c5 r5=>?_⟩;have st:Stp L' H' L5 H5:=(((Stp.grow gr).trans s3).trans s4).trans s5;have lp5:L5[M1.length]?=some p:=by obtain ⟨N,hN⟩:=st.pre;rw[hN];exact zBi lp
          obtain ⟨H6,h1,h2,h3⟩:=zF3 c5 lp5 (r4.stp s5) r5 e6;exact ⟨H6,xs.length-(i+1),h1,by omega,rfl,hlt,L5,M6,(s'.trans st).trans h3,h2,e'⟩
         .cases e'
        .cases e'
       .cases e'
      .rename_i M3 e3;refine ⟨L',σ1,M',_,_,c'.grow gr,r2,e3,λL3 H3 s3 c3=>zG5 ?_⟩;have st:Stp L' H' L3 H3:=(Stp.grow gr).trans s3;exact ⟨xs.length-(i+1),by omega,rfl,hlt,L3,M3,s'.trans st,c3,e'⟩
      .cases e'
     .cases e'
    .cases e'
   .have hi':i=xs.length:=by omega
    subst hi';rw[List.drop_length]at e';unfold zCP at e';split at e'
    .rename_i hgd;cases e';obtain ⟨_,stop⟩:=it L' H' _ (s0.trans s') c' hgd;refine .inl ⟨stop,?_⟩;refine q L' _ _ ((s1.trans s0).trans s') c' ?_;unfold zc Rep;exact ⟨p,rfl,lp⟩
    .cases e'
  .cases hf
 .cases hf
section
variable {isT:Bool}
theorem zRD {fi:FI} {g:TG} {fg:FG} {tc:FT} {tk tv:FE} (hu:X.A.units+1<cLine) (hg:zEK own g fg) (C:CompIn X scope own) (hcalm:X.calm=true) (hi:QI X tg iter fi) (p:QParts X scope tg ifs kx g tc tk) (p2:∀ zB cl s H fp,QE (zJ X zB scope cl s H fp) vx tv) (hs:∀ x,foldedSetIterable iter X.env x=pure x:=by intro _;rfl) :
  QE X (.DictComp kx vx [⟨tg,iter,ifs,0⟩] scope pos) (zCp isT own fi fg tc tk tv) :=
 .mk <| PE.imp (zJM (isT:=isT) hu C hcalm hi.un p.parts (λ_ _ _ _ _=>(zCh (p2 _ _ _ _ _)).un) hs) λ_ _ _ h=>zGK hg h
end
def zAV:Nat->D->Bool
 |0,.int _=>true
 |n+1,.tup ds=>ds.all (zAV n)
 |_,_=>false
def zBJ:Nat->D->D->Bool
 |0,.int i,.int j=>decide (i=j)
 |n+1,.tup xs,.tup ys=>xs.length==ys.length&&(xs.zip ys).all λq=>zBJ n q.1 q.2
 |_,_,_=>false
theorem zFO:∀ (n:Nat) (x:D),zAV n x=true->zBJ n x x=true
 |0,.int i,_=>by simp[zBJ]
 |n+1,.tup xs,h=>by
  unfold zAV at h;unfold zBJ;rw[zWH]at h;simp only[beq_self_eq_true,Bool.true_and];rw[zWH];intro q hq;have:q.1=q.2:=by
   obtain ⟨i,hi,e⟩:=zXj hq;rw[List.getElem_zip]at e;rw[<-e]
  rw[<-this];exact zFO n _ (h q.1 (List.of_mem_zip hq).1)
 |0,.non,h=>by cases h
 |0,.bl _,h=>by cases h
 |0,.str _,h=>by cases h
 |0,.tup _,h=>by cases h
 |0,.ref _,h=>by cases h
 |n+1,.non,h=>by cases h
 |n+1,.bl _,h=>by cases h
 |n+1,.int _,h=>by cases h
 |n+1,.str _,h=>by cases h
 |n+1,.ref _,h=>by cases h
theorem zPw:∀ (n:Nat) (x y:D) (v:V),zAV n x=true->zAV n y=true->Rep L H x v->Rep L H y v->x=y:=by
 intro n;induction n with
 |zero=>
  intro x y v hx hy rx ry;cases x <;> first|cases hx|skip
  cases y <;> first|cases hy|skip
  unfold Rep at rx ry;rw[rx]at ry;cases ry;rfl
 |succ n ih=>
  intro x y v hx hy rx ry;cases x <;> first|cases hx|skip
  cases y <;> first|cases hy|skip
  rename_i xs ys;unfold zAV at hx hy;rw[zWH]at hx hy;unfold Rep at rx ry;obtain ⟨a,vs,rfl,e,r⟩:=rx;obtain ⟨a',vs',e1,e2,r'⟩:=ry;cases e1;rw[e]at e2;cases e2;congr 1;have hl:xs.length=ys.length:=by rw[<-r.length,r'.length]
  apply List.ext_getElem hl;intro i h1 h2;obtain ⟨u,hu,ru⟩:=r.get (zVk h1);obtain ⟨u',hu',ru'⟩:=r'.get (zVk h2);rw[hu]at hu';cases hu';exact ih _ _ u (hx _ (zWE h1)) (hy _ (zWE h2)) ru ru'
section
theorem zLt {xs ys:List D} (f:D->D->Bool) (h:xs.length=ys.length):((List.range xs.length).all λj=>f (xs.getD j .non) (ys.getD j .non))=(xs.zip ys).all λq=>f q.1 q.2:=by
  rw[Bool.eq_iff_iff,zWH,zWH];constructor
  . intro hh q hq
    obtain ⟨i,hi,e⟩:=zXj hq;rw[List.getElem_zip]at e;rw[List.length_zip]at hi;have:=hh i (by simp;omega);rw[<-e];simpa [zVl,show i<xs.length by omega,show i<ys.length by omega] using this
  . intro hh i hi
    have h1:i<xs.length:=by simpa using hi
    have h2:i<ys.length:=by omega
    have hz:i<(xs.zip ys).length:=by rw[List.length_zip];omega
    have:=hh (xs.zip ys)[i] (zWE hz);rw[List.getElem_zip]at this;simpa [zVl,h1,h2] using this
theorem zHT (I : Inv X zB σ H s) : ∀ (n : Nat) (A : Around) (x y : D) (v w : V) (u u' : Value), A.units + n < cLine -> zAV n x = true -> zAV n y = true -> Rep L H x v -> Rep L H y w -> ze v u -> ze w u' -> SeqAt.EqAt A s u u' (zBJ n x y) := by
  intro n;induction n with
  |zero=>
    intro A x y v w u u' hu hx hy rx ry ru ru';cases x <;> first|cases hx|skip
    cases y <;> first|cases hy|skip
    unfold Rep at rx ry;subst rx;subst ry;obtain ⟨t,rfl⟩:=ru;obtain ⟨t',rfl⟩:=ru';have:=SeqAt.EqAt.int_int (A:=A) (s:=s) ‹Int› t ‹Int› t';unfold zBJ;rename_i i j;have h:=SeqAt.EqAt.int_int (A:=A) (s:=s) i t j t';have e:(i==j)=decide (i=j):=by by_cases q:i=j <;> simp[q]
    rw[e]at h;exact h
  | succ n ih =>
    intro A x y v w u u' hu hx hy rx ry ru ru';cases x <;> first|cases hx|skip
    cases y <;> first|cases hy|skip
    rename_i xs ys;have hx':=hx;have hy':=hy;have rx':=rx;have ry':=ry;unfold zAV at hx hy;rw[zWH]at hx hy;unfold Rep at rx ry;obtain ⟨a,vs,rfl,e,r⟩:=rx;obtain ⟨b,ws,rfl,e2,r2⟩:=ry;cases ru;cases ru';by_cases hab:a=b
    . subst hab
      have:=zPw (n+1) _ _ _ hx' hy' rx' ry';rw[this,zFO (n+1) _ hy'];exact SeqAt.EqAt.same _
    · refine SeqAt.EqAt.of_refs hab ?_
      obtain ⟨its,rv,p1,_⟩:=I.tuple (.of e);obtain ⟨its2,rv2,p2,_⟩:=I.tuple (.of e2);have l1:its.toArray.size=xs.length:=by rw[zVo,<-rv.length,r.length]
      have l2:its2.toArray.size=ys.length:=by rw[zVo,<-rv2.length,r2.length]
      have key := SeqAt.RcAt.tuples (A := A) (s := s) (l := a) (b := b) (items := its.toArray) (items2 := its2.toArray) (e := fun j => zBJ n (xs.getD j .non) (ys.getD j .non)) p1 p2 (by omega) (fun j h1 h2 => by
        have j1:j<xs.length:=by omega
        have j2:j<ys.length:=by omega
        obtain ⟨q1,g1,t1⟩:=r.get (zVk j1);obtain ⟨q2,g2,t2⟩:=r2.get (zVk j2);obtain ⟨o1,k1,m1⟩:=rv.get g1;obtain ⟨o2,k2,m2⟩:=rv2.get g2
        have z1 : its.toArray[j] = o1 := by have : its.toArray[j]? = some o1 := by simpa using k1
                                            rw[zWR h1]at this;exact zWg this
        have z2 : its2.toArray[j] = o2 := by have : its2.toArray[j]? = some o2 := by simpa using k2
                                             rw[zWR h2]at this;exact zWg this
        rw[z1,z2];have w1:xs.getD j .non=xs[j]:=by simp[zVl,j1]
        have w2:ys.getD j .non=ys[j]:=by simp[zVl,j2]
        rw[w1,w2];exact ih A.in1 _ _ _ _ _ _ (by show A.units+1+n<cLine;omega) (hx _ (zWE j1)) (hy _ (zWE j2)) t1 t2 m1 m2)
      have fin:((List.range (min its.toArray.size its2.toArray.size)).all (λj=>zBJ n (xs.getD j .non) (ys.getD j .non))&&its.toArray.size==its2.toArray.size)=zBJ (n+1) (.tup xs) (.tup ys):=by
        rw[l1,l2];show _=(xs.length==ys.length&&(xs.zip ys).all λq=>zBJ n q.1 q.2);by_cases hl:xs.length=ys.length
        .rw[hl,Nat.min_self,<-hl,zLt (zBJ n) hl,Bool.and_comm]
        . have:(xs.length==ys.length)=false:=by simpa using hl
          rw[this];simp
      rw[fin]at key;exact key
end
def nb (neg b:Bool):Bool:=if neg then !b else b
def rTr (neg:Bool) (K:Yb) (n:Nat):R2:=λx y H Q=>∃ (L:Yg) (xs ys:List D),(xs.all (zAV n)=true/\ys.all (zAV n)=true) /\
 ((Rep L H (.tup xs) x/\Rep L H (.tup ys) y) \/ ∃ a b vs ws,x=.ref a/\y=.ref b/\SqL K H a vs/\SqL K H b ws/\zM L H xs vs/\zM L H ys ws)/\Q (.bl (nb neg (zBJ (n+1) (.tup xs) (.tup ys)))) H
section
theorem zGh (I:Inv X zB σ H s) (hu:A.units+n<cLine) (hx:xs.all (zAV n)=true) (hy:ys.all (zAV n)=true) (r:zM L H xs vs) (r2:zM L H ys ws) (rv:zb vs its) (rv2:zb ws its2) (j:Nat) (h1:j<its.toArray.size) (h2:j<its2.toArray.size) :
  SeqAt.EqAt A s its.toArray[j] its2.toArray[j] (zBJ n (xs.getD j .non) (ys.getD j .non)):=by
 rw[zWH]at hx hy;have l1:its.toArray.size=xs.length:=by rw[zVo,<-rv.length,r.length]
 have l2:its2.toArray.size=ys.length:=by rw[zVo,<-rv2.length,r2.length]
 have j1:j<xs.length:=by omega
 have j2:j<ys.length:=by omega
 obtain ⟨q1,g1,t1⟩:=r.get (zVk j1);obtain ⟨q2,g2,t2⟩:=r2.get (zVk j2);obtain ⟨o1,k1,m1⟩:=rv.get g1;obtain ⟨o2,k2,m2⟩:=rv2.get g2;have z1:its.toArray[j]=o1:=by
  have:its.toArray[j]?=some o1:=by simpa using k1
  rw[zWR h1]at this;exact zWg this
 have z2:its2.toArray[j]=o2:=by
  have:its2.toArray[j]?=some o2:=by simpa using k2
  rw[zWR h2]at this;exact zWg this
 have w1:xs.getD j .non=xs[j]:=by simp[zVl,j1]
 have w2:ys.getD j .non=ys[j]:=by simp[zVl,j2]
 rw[z1,z2,w1,w2];exact zHT I n A _ _ _ _ _ _ hu (hx _ (zWE j1)) (hy _ (zWE j2)) t1 t2 m1 m2
theorem zPi (l1:a=xs.length) (l2:b=ys.length):((List.range (min a b)).all (λj=>zBJ n (xs.getD j .non) (ys.getD j .non))&&a==b)=zBJ (n+1) (.tup xs) (.tup ys):=by
 subst l1 l2;show _=(xs.length==ys.length&&(xs.zip ys).all λq=>zBJ n q.1 q.2);by_cases hl:xs.length=ys.length
 .rw[hl,Nat.min_self,<-hl,zLt (zBJ n) hl,Bool.and_comm]
 .have:(xs.length==ys.length)=false:=by simpa using hl
  rw[this];simp
theorem zTL (hl:xs.length=ys.length):((List.range xs.length).all λj=>zBJ n (xs.getD j .non) (ys.getD j .non))=zBJ (n+1) (.tup xs) (.tup ys):=by
 rw[<-zPi (n:=n) rfl rfl,hl,Nat.min_self];simp
theorem zSB (hl:xs.length≠ys.length):zBJ (n+1) (.tup xs) (.tup ys)=false:=by
 show (xs.length==ys.length&&_)=false;rw[show (xs.length==ys.length)=false by simpa using hl];rfl
theorem zRZ (n:Nat) (hu:X.A.units+1+n<cLine):OpR X (compareOp .NotEq) (rTr true X.K n):=by
 intro zB s σ H x y v u Q I rx ry h;obtain ⟨L,xs,ys,⟨hx,hy⟩,hc,q⟩:=h;have hu1:X.A.in1.units+n<cLine:=hu;rcases hc with ⟨p1,p2⟩|⟨a,b,vs,ws,rfl,rfl,s1,s2,r1,r2⟩
 .unfold Rep at p1 p2;obtain ⟨a,vs,rfl,e1,r1⟩:=p1;obtain ⟨b,ws,rfl,e2,r2⟩:=p2;cases rx;cases ry;obtain ⟨its,rv,t1,_⟩:=I.tuple (.of e1);obtain ⟨its2,rv2,t2,_⟩:=I.tuple (.of e2);refine SeqAt.RcNeAt.tuples (e:=λj=>zBJ n (xs.getD j .non) (ys.getD j .non)) t1 t2 (by omega) (λj h1 h2=>zGh I hu1 hx hy r1 r2 rv rv2 j h1 h2) _ _ _ _ ?_;rw[zPi (by rw[zVo,<-rv.length,r1.length]) (by rw[zVo,<-rv2.length,r2.length])];exact ⟨.bl _,H,I,rfl,q⟩
 .cases rx;cases ry;obtain ⟨its,rv,t1,_⟩:=I.list s1;obtain ⟨its2,rv2,t2,_⟩:=I.list s2;have l1:its.toArray.size=xs.length:=by rw[zVo,<-rv.length,r1.length]
  have l2:its2.toArray.size=ys.length:=by rw[zVo,<-rv2.length,r2.length]
  by_cases hl:xs.length=ys.length
  .refine SeqAt.RcNeAt.lists (e:=λj=>zBJ n (xs.getD j .non) (ys.getD j .non)) t1.isList t2.isList (by omega) (by omega) (λj h1 h2=>zGh I hu1 hx hy r1 r2 rv rv2 j h1 h2) _ _ _ _ ?_;rw[l1,zTL hl];exact ⟨.bl _,H,I,rfl,q⟩
  .refine SeqAt.RcNeAt.lists_lengths t1.isList t2.isList (by rw[l1,l2];simpa using hl) (by omega) _ _ _ _ ?_;rw[zSB hl]at q;exact ⟨.bl true,H,I,rfl,q⟩
end
section
def kTr (neg:Bool) (n:Nat):K2:=λx y M=>match zB0 x,zB0 y with
 |some xs,some ys=>if xs.all (zAV n)&&ys.all (zAV n) then some (.dat (.bl (nb neg (zBJ (n+1) (.tup xs) (.tup ys)))),M) else none
 |_,_=>match zA3 M x,zA3 M y with
  |some xs,some ys=>if xs.all (zAV n)&&ys.all (zAV n) then some (.dat (.bl (nb neg (zBJ (n+1) (.tup xs) (.tup ys)))),M) else none
  |_,_=>none
theorem zSZ {K:Yb} {neg:Bool} {n:Nat}:zCk K (rTr neg K n) (kTr neg n):=by
 intro L M M' H H0 x y d v w Q c rx ry hk q;unfold kTr at hk;split at hk
 .rename_i xs ys e1 e2;split at hk
  .rename_i hb;cases hk;rw[zWG]at hb;obtain ⟨p,vs,rfl,h1,r1⟩:=zBF rx e1;obtain ⟨p',ws,rfl,h2,r2⟩:=zBF ry e2;refine ⟨L,xs,ys,hb,.inl ⟨?_,?_⟩,q L H _ (.refl L H) c (zBc (L:=L) (H:=H))⟩
   .unfold Rep;exact ⟨p,vs,rfl,h1,r1⟩
   .unfold Rep;exact ⟨p',ws,rfl,h2,r2⟩
  .cases hk
 .split at hk
  .rename_i xs ys e1 e2;split at hk
   .rename_i hb;cases hk;rw[zWG]at hb;obtain ⟨p,vs,rfl,h1,r1⟩:=zAa c rx e1;obtain ⟨p',ws,rfl,h2,r2⟩:=zAa c ry e2;exact ⟨L,xs,ys,hb,.inr ⟨p,p',vs,ws,rfl,rfl,.inl h1,.inl h2,r1,r2⟩,q L H _ (.refl L H) c (zBc (L:=L) (H:=H))⟩
   .cases hk
  .cases hk
theorem zQg (n:Nat) (hu:X.A.units+1+n<cLine) (h1:QE X a f) (h2:QE X b g):QT X (.Compare a [.NotEq] [b] pos) (tst (fOp (kTr true n) f g)):=zDn zSZ (zRZ n hu) h1 h2 (zDI _)
theorem zOn (n:Nat) (hn:n<=8) (hr:Room k A):A.units+1+n<cLine:=by
 have:=hr.units;omega
end
open Builtin
section
def zJ5:KB:=λxs M=>match xs with
 |[.dat (.int i),.dat (.int j)]=>some (.dat (.int (if j>i then j else i)),M)
 |_=>none
def zFd:KB:=λxs M=>match xs with
 |[.dat (.int i),.dat (.int j)]=>some (.dat (.int (if j<i then j else i)),M)
 |_=>none
theorem zFe (r:zCd H0 L H [.dat (.int i),.dat (.int j)] vs):vs=[.int i,.int j]:=by
 unfold zCd at r;obtain ⟨v,r1,rfl,a1,a2⟩:=r;unfold zCd at a2;obtain ⟨v2,r2,rfl,b1,b2⟩:=a2;unfold zCd at b2;subst b2;unfold zc Rep at a1 b1;subst a1 b1;rfl
theorem zO7 {K:Yb}:zFR K (λxs H Q=>∃ i j,xs=[.int i,.int j]/\Q (.int (if j>i then j else i)) H) zJ5:=by
 intro L M M' H H0 xs d vs Q c r hk q;unfold zJ5 at hk;split at hk
 .rename_i i j;cases hk;exact ⟨i,j,zFe r,q L H _ (.refl L H) c (zAM (L:=L) (H:=H))⟩
 .cases hk
theorem zOP {K:Yb}:zFR K (λxs H Q=>∃ i j,xs=[.int i,.int j]/\Q (.int (if j<i then j else i)) H) zFd:=by
 intro L M M' H H0 xs d vs Q c r hk q;unfold zFd at hk;split at hk
 .rename_i i j;cases hk;exact ⟨i,j,zFe r,q L H _ (.refl L H) c (zAM (L:=L) (H:=H))⟩
 .cases hk
theorem zTJ (hcalm:X.calm=true) (hg:Gl X "max") (hm:X.mg "max" = none) (ha:QAE X [e,e2] fa) (he:starEach [e,e2] X.env=(false,eval e X.env)::starEach [e2] X.env:=by rfl) (hpl:(backTo pos (starEach [e2] X.env)).any (·.1)=false:=by rfl):QE X (.Call (.Name "max" p) [e,e2] [] pos) (fB zJ5 fa) :=
 zC9 zO7 (zMm hcalm) (by rfl) hg hm ha (by decide) (by decide) he hpl
theorem zTV (hcalm:X.calm=true) (hg:Gl X "min") (hm:X.mg "min" = none) (ha:QAE X [e,e2] fa) (he:starEach [e,e2] X.env=(false,eval e X.env)::starEach [e2] X.env:=by rfl) (hpl:(backTo pos (starEach [e2] X.env)).any (·.1)=false:=by rfl):QE X (.Call (.Name "min" p) [e,e2] [] pos) (fB zFd fa) :=
 zC9 zOP (zNH hcalm) (by rfl) hg hm ha (by decide) (by decide) he hpl
end
end L3
namespace HT
open PySem PySem.Spec PyProof.Rows
end HT
namespace L3
open PySem PySem.Spec PyProof.Rows L2
section
def zM1 (fg:FG) (f:FE):FS:=λσ M=>match toD f σ M with
 |some (d,M1)=>match fg d σ with
  |some σ1=>some (.nx,σ1,M1)
  |none=>none
 |none=>none
theorem zT8 (hk:GOk g fg) (h:QE X e f) (hg:PG X tg g) (hs:swapsWithSole [tg] e pos.line X.env=pure false:=by rfl) (hw:swappedStores [tg] e X.env=pure none:=by rfl)
  (h1:(assignEach [tg] X.env).map (·.2)=[assign tg X.env]:=by rfl):QS X (.Assign [tg] e pos) (zM1 fg f) :=
 .mk <| PS.imp (zNt h.un hg hs hw h1) λE τ H zz=>by
  obtain ⟨L,σ,M,o,σ',M',c,rs,hf,q⟩:=zz;unfold zM1 at hf;split at hf
  .rename_i d M1 e1;split at hf
   .rename_i σ1 e2;cases hf;refine zJd ⟨L,σ,M,_,_,c,rs,e1,λL1 H1 v s1 c1 r1=>?_⟩;exact hk (rs.stp s1) r1 e2 λτ' rs'=>q L1 H1 s1 c1 τ' rs'
   .cases hf
  .cases hf
theorem zQw:OkS (zM1 fg f σ M) P ↔ Ok (f σ M) (zGy λd M1=>∃ σ1,fg d σ=some σ1/\P .nx σ1 M1):=by
 rw[<-zAi];unfold zM1;constructor
 .rintro ⟨o,σ',M',e,p⟩;split at e
  .rename_i d M1 e1;split at e
   .rename_i σ1 e2;cases e;exact ⟨d,_,e1,_,e2,p⟩
   .cases e
  .cases e
 .rintro ⟨d,M1,e1,σ1,e2,p⟩;refine ⟨.nx,σ1,M1,?_,p⟩;rw[e1];dsimp only;rw[e2]
end
def SI (b:Bool) (h:Heap) (it t:Yt) (k:Nat):Prop:=if b then h.IsTupleIter it t k else h.IsListIter it t k
def SO (b:Bool) (h:Heap) (t:Yt) (xs:Yp):Prop:=if b then h.IsTuple t xs else h.IsList t xs
abbrev itO (b:Bool) (t:Addr):Obj:={ cls:=.type (if b then "tuple_iterator" else "list_iterator"),data:=.fields #[.ref t,.int 0 0] }
theorem SO.keep (x:SO b h t xs) (e:∀ o,h.get? t=some o->h'.get? t=some o):SO b h' t xs:=by
 cases b with
 |true=>obtain ⟨o,q,r⟩:=(show h.IsTuple t xs from x);exact (show h'.IsTuple t xs from ⟨o,e o q,r⟩)
 |false=>obtain ⟨o,q,r⟩:=(show h.IsList t xs from x);exact (show h'.IsList t xs from ⟨o,e o q,r⟩)
section
theorem zN2 (hl:SO b s.heap l items) (hQ:Q (.ref s.heap.objs.size) { s with heap:=s.heap.push (itO b l) }):wpAny (model prog w) A (pyIter (.ref l)) Q E s:=by
 cases b with
 |true=>exact wpAny_pyIter_tuple (show s.heap.IsTuple l items from hl) hQ
 |false=>exact wpAny_pyIter_list (show s.heap.IsList l items from hl) hQ
theorem zR8 (e:h.get? it=some (itO b t)):SI b h it t 0:=by
 cases b with
 |true=>exact (show h.IsTupleIter it t 0 from ⟨_,e,rfl,rfl⟩)
 |false=>exact (show h.IsListIter it t 0 from ⟨_,e,rfl,rfl⟩)
end
def SqG (K:Yb) (b:Bool) (H:Hp) (a:Yt) (xs:List V):Prop:=if b then SqT K H a xs else SqL K H a xs
theorem zNu (I:Inv X zB σ H s) (h:SqG X.K b H a xs):∃ its,zb xs its/\SO b s.heap a its.toArray:=by
 cases b with
 |true=>obtain ⟨its,rv,p1,_⟩:=I.tuple h;exact ⟨its,rv,p1⟩
 |false=>obtain ⟨its,rv,p1,_⟩:=I.list h;exact ⟨its,rv,p1.isList⟩
theorem zUD (x:SO b h a its):a<h.objs.size:=by
 cases b with
 |true=>obtain ⟨_,e,_⟩:=(show h.IsTuple a its from x);exact zVr e
 |false=>obtain ⟨_,e,_⟩:=(show h.IsList a its from x);exact zVr e
section
theorem zTP {K:Yb} {L1:Yg} {M1:Mem} {H1:Hp} {x:D} {v:V} {xs:List D} (c1:Cor K L1 M1 H1) (r1:Rep L1 H1 x v) (e:zAY M1 (.dat x)=some xs) :
  ∃ b l,v=.ref l/\(∃ vs,SqG K b H1 l vs) /\ ∀ L2 H2 M2,Stp L1 H1 L2 H2->Cor K L2 M2 H2->zAY M2 (.dat x)=some xs -> ∃ vs',SqG K b H2 l vs'/\zM L2 H2 xs vs':=by
 have r1':zc H1 L1 H1 (.dat x) v:=r1;cases x with
 |tup ds=>
  cases e;obtain ⟨a,vs,rfl,e3,r3⟩:=zBF r1' (xs:=xs) rfl;exact ⟨true,a,rfl,⟨vs,(show SqT K H1 a vs from .of e3)⟩,λL2 H2 M2 s2 c2 _=>⟨vs,(show SqT K H2 a vs from .of (s2.tup a vs e3)),r3.stp s2⟩⟩
 |ref n=>
  have e2:zA3 M1 (.dat (.ref n))=some xs:=e;obtain ⟨a,vs,rfl,e3,r3⟩:=zAa c1 r1' e2;refine ⟨false,a,rfl,⟨vs,(show SqL K H1 a vs from .inl e3)⟩,λL2 H2 M2 s2 c2 hq=>?_⟩;unfold Rep at r1;obtain ⟨a',ha',e5⟩:=r1;cases ha';have e6:L2[n]?=some a:=by obtain ⟨N,hN⟩:=s2.pre;rw[hN];exact zBi e5
  have r2:zc H2 L2 H2 (.dat (.ref n)) (.ref a):=by unfold zc Rep;exact ⟨a,rfl,e6⟩
  obtain ⟨a2,vs',h2,e7,r7⟩:=zAa c2 r2 (show zA3 M2 (.dat (.ref n))=some xs from hq);cases h2;exact ⟨vs',(show SqL K H2 a vs' from .inl e7),r7⟩
 |_=>cases e
end
theorem zGG {ns:Ye} {its:Yf} (r:zb (ns.map V.int) its) {i:Nat} {v:Yu} (h:its.toArray[i]?=some v):∃ t,v=.int (ns.getD i 0) t:=by
 have h':its[i]?=some v:=by simpa using h
 have hi:i<its.length:=(zVj.mp h').1;have hl:=r.length;rw[zVp]at hl;have hx:(ns.map V.int)[i]?=some (.int (ns.getD i 0)):=by
  rw[zV3,zVl,zVk (by omega)];rfl
 obtain ⟨u,hu,ru⟩:=r.get hx;rw[h']at hu;cases hu;obtain ⟨t,rfl⟩:=ru;exact ⟨t,rfl⟩
theorem zKx (hh:A.handled=none) (b:Bool) (I ax:Yt) (hne:ax≠I) (items:Yp) :
  Walks prog w A I [I,ax] [I] items.size (λi v=>items[i]?=some v) (λi h=>SI b h I ax i/\SO b h ax items):=by
 cases b with
 |true=>exact Walks.tuple hh I ax hne items
 |false=>exact Walks.list hh I ax hne items
section
theorem zM2 (gt:Bool) (hc:X.calm=true):zBz X (.builtin (if gt then "max" else "min")) (λxs H Q=>∃ (b:Bool) (a:Addr) (ns:List Int) (m:Int),xs=[.ref a]/\SqG X.K b H a (ns.map V.int)/\m∈ns/\(∀ x∈ns,if gt then x<=m else m<=x)/\Q (.int m) H):=by
 intro zB s σ H xs us Q I r h;obtain ⟨b,a,ns,m,rfl,hs,hm,hb,q⟩:=h;obtain ⟨u,rfl,ru⟩:=zDX r;cases ru;obtain ⟨its,rv,p1⟩:=zNu I hs;have hl:its.toArray.size=ns.length:=by have:=rv.length;simp at this ⊢;omega
 have hpos:0<ns.length:=List.length_pos_of_mem hm;have hlt:=zUD p1;have hfp:∀ c∈[s.heap.objs.size,a],c<(s.heap.push (itO b a)).objs.size:=λc hc'=>by
  rw[zWM];simp only[zVs,zWB,or_false]at hc';rcases hc' with rfl|rfl
  .exact zWd _
  .exact zWV hlt
 have st:SI b (s.heap.push (itO b a)) s.heap.objs.size a 0/\SO b (s.heap.push (itO b a)) a its.toArray:=⟨zR8 (zVq _ rfl),p1.keep λo e=>zVh _ e⟩;have kp:∀ h':Heap,(∀ c o,c∉[s.heap.objs.size]->(s.heap.push (itO b a)).get? c=some o->h'.get? c=some o) -> ∀ c o,s.heap.get? c=some o->h'.get? c=some o:=λh' hk c o e0=>
  hk c o (by simp only[zVs,zWB,or_false];exact zV1 (zVr e0)) (zVh _ e0)
 have fin:∀ (i:Nat) (v:Yu) (h':Heap) (tk:Nat),its.toArray[i]?=some v->ns.getD i 0=m->(∀ c o,s.heap.get? c=some o->h'.get? c=some o)->EP X zB σ Q v { s with heap:=h',toks:=tk }:=λi v h' tk hv hi hk=>by
  obtain ⟨t,rfl⟩:=zGG rv hv;rw[hi];exact ⟨.int m,H,I.kept hk,⟨t,rfl⟩,q⟩
 cases gt with
 |true=>
  refine call_max_walk (zN2 p1 ⟨s.heap.objs.size,[s.heap.objs.size,a],[s.heap.objs.size],its.toArray.size,λi v=>its.toArray[i]?=some v,λi h=>SI b h s.heap.objs.size a i/\SO b h a its.toArray,_,rfl,zKx (A:=X.A.in1) (I.ok.hd hc) b _ a (zV1 hlt) its.toArray,st,hfp,by omega,CmpOf.ints_gt (λi=>ns.getD i 0) (λ_ _ hv=>zGG rv hv),λv h' tk hP hk=>?_⟩);refine fin _ v h' tk hP ?_ (kp h' hk);obtain ⟨h1,h2⟩:=argBest_gt (λi=>ns.getD i 0) (its.toArray.size-1);rw[hl]at h1 h2 ⊢;generalize argBest _ (ns.length-1)=q at h1 h2 ⊢;obtain ⟨j,hj,ej⟩:=List.mem_iff_getElem.mp hm;have h3:=h2 j (by omega);have e3:ns.getD j 0=m:=by rw[zVl,zVk hj];exact ej
  have hq:q<ns.length:=by omega
  have h4:ns.getD q 0<=m:=by
   have:=hb (ns.getD q 0) (by rw[zVl,zVk hq];exact zWE hq);simpa using this
  rw[e3]at h3;omega
 |false=>
  refine call_min_walk (zN2 p1 ⟨s.heap.objs.size,[s.heap.objs.size,a],[s.heap.objs.size],its.toArray.size,λi v=>its.toArray[i]?=some v,λi h=>SI b h s.heap.objs.size a i/\SO b h a its.toArray,_,rfl,zKx (A:=X.A.in1) (I.ok.hd hc) b _ a (zV1 hlt) its.toArray,st,hfp,by omega,CmpOf.ints_lt (λi=>ns.getD i 0) (λ_ _ hv=>zGG rv hv),λv h' tk hP hk=>?_⟩);refine fin _ v h' tk hP ?_ (kp h' hk);obtain ⟨h1,h2⟩:=argBest_lt (λi=>ns.getD i 0) (its.toArray.size-1);rw[hl]at h1 h2 ⊢;generalize argBest _ (ns.length-1)=q at h1 h2 ⊢;obtain ⟨j,hj,ej⟩:=List.mem_iff_getElem.mp hm;have h3:=h2 j (by omega);have e3:ns.getD j 0=m:=by rw[zVl,zVk hj];exact ej
  have hq:q<ns.length:=by omega
  have h4:m<=ns.getD q 0:=by
   have:=hb (ns.getD q 0) (by rw[zVl,zVk hq];exact zWE hq);simpa using this
  rw[e3]at h3;omega
def zCv (gt:Bool):Int->List Int->Int
 |m,[]=>m
 |m,x::r=>zCv gt (if (if gt then m<x else x<m) then x else m) r
theorem zDA (gt:Bool):∀ (r:Ye) (m:Int),zCv gt m r∈m::r /\ ∀ x∈m::r,if gt then x<=zCv gt m r else zCv gt m r<=x
 |[],m=>by
  refine ⟨by simp[zCv],λx hx=>?_⟩;have:x=m:=by simpa using hx
  subst this;cases gt <;> simp[zCv]
 |y::r,m=>by
  unfold zCv;obtain ⟨h1,h2⟩:=zDA gt r (if (if gt then m<y else y<m) then y else m);generalize hb:zCv gt (if (if gt then m<y else y<m) then y else m) r=B at h1 h2;constructor
  .rcases zVs.mp h1 with q|q
   .rw[q];by_cases hc:(if gt=true then m<y else y<m)
    .rw[zVv hc];simp
    .rw[zVy hc];simp
   .simp[q]
  .intro x hx;have h0:=h2 _ zVu;rcases zVs.mp hx with q|q
   .subst q;cases gt with
    |true=>simp at h0 ⊢;split at h0 <;> omega
    |false=>simp at h0 ⊢;split at h0 <;> omega
   .rcases zVs.mp q with z|z
    .subst z;cases gt with
     |true=>simp at h0 ⊢;split at h0 <;> omega
     |false=>simp at h0 ⊢;split at h0 <;> omega
    .exact h2 x (zVt _ z)
def zHc (gt:Bool):KB:=λxs M=>match xs with
 |[.dat d]=>match zAY M (.dat d) with
  |some ds=>match zAk ds with
   |some (n::ns)=>some (.dat (.int (zCv gt n ns)),M)
   |_=>none
  |none=>none
 |[.fl ds]=>match zAk ds with
  |some (n::ns)=>some (.dat (.int (zCv gt n ns)),M)
  |_=>none
 |_=>none
theorem zNy {K:Yb} {gt:Bool}:zFR K (λxs H Q=>∃ (b:Bool) (a:Yt) (ns:Ye) (m:Int),xs=[.ref a]/\SqG K b H a (ns.map V.int)/\m∈ns/\(∀ x∈ns,if gt then x<=m else m<=x)/\Q (.int m) H) (zHc gt):=by
 intro L M M' H H0 xs d vs Q c r hk q;unfold zHc at hk;split at hk
 .rename_i d0;split at hk
  .rename_i ds e1;split at hk
   .rename_i n ns e2;cases hk;obtain ⟨v,rfl,r1⟩:=r.one;have r1':Rep L H d0 v:=r1;obtain ⟨b,l,rfl,_,key⟩:=zTP c r1' e1;obtain ⟨vs',hq,rr⟩:=key L H M (.refl L H) c e1;have ev:=zEO e2 rr;subst ev;obtain ⟨h1,h2⟩:=zDA gt ns n;exact ⟨b,l,n::ns,zCv gt n ns,rfl,hq,h1,h2,q L H _ (.refl L H) c (zAM (L:=L) (H:=H))⟩
   .cases hk
  .cases hk
 .rename_i ds;split at hk
  .rename_i n ns e2;cases hk;obtain ⟨v,rfl,r1⟩:=r.one;obtain ⟨l,vs',rfl,hq,rr⟩:=zAa c r1 (show zA3 M (.fl ds)=some ds from rfl);have ev:=zEO e2 rr;subst ev;obtain ⟨h1,h2⟩:=zDA gt ns n;exact ⟨false,l,n::ns,zCv gt n ns,rfl,.inl hq,h1,h2,q L H _ (.refl L H) c (zAM (L:=L) (H:=H))⟩
  .cases hk
 .cases hk
theorem zTd (hcalm:X.calm=true) (hg:Gl X "min") (hm:X.mg "min" = none) (ha:QAE X [e] fa) (he:starEach [e] X.env=(false,eval e X.env)::starEach [] X.env:=by rfl) (hpl:(backTo pos (starEach [] X.env)).any (·.1)=false:=by rfl):QE X (.Call (.Name "min" p) [e] [] pos) (fB (zHc false) fa) :=
 zC9 zNy (zM2 false hcalm) (by rfl) hg hm ha (by decide) (by decide) he hpl
end
section
def zLI (f:FE):FT:=λσ M=>match f σ M with
 |some (x,M1)=>match zAY M1 x with
  |some xs=>some (!xs.isEmpty,M1)
  |none=>none
 |none=>none
theorem zRa (h:QE X a f) (he:∀ whole,isTrue a X.env whole=(do let v <- whole;standAt a.pos;holding [v] (truthy v)):=by intro _;rfl):QT X a (zLI f) :=
 .mk <| PT.imp (zOC h.un he) λτ H Q zz=>by
  obtain ⟨L,σ,M,d,M',c,rs,hf,q⟩:=zz;unfold zLI at hf;split at hf
  .rename_i x M1 e1;split at hf
   .rename_i xs e2;cases hf;refine ⟨L,σ,M,_,_,c,rs,e1,λL1 H1 v s1 c1 r1=>⟨!xs.isEmpty,?_,q L1 H1 s1 c1⟩⟩;unfold zAY at e2;have emp:∀ {vs:List V},zM L1 H1 xs vs->(!xs.isEmpty) = !vs.isEmpty:=λ{vs} r=>by
     have:=r.length;cases xs <;> cases vs <;> first|rfl|simp at this
    cases t:zB0 x with
    |some ws=>
     rw[t]at e2;cases e2;obtain ⟨l,vs,rfl,e3,r3⟩:=zBF r1 t;exact .inr (.inl ⟨vs,.of e3,emp r3⟩)
    |none=>
     rw[t]at e2;obtain ⟨l,vs,rfl,e3,r3⟩:=zAa c1 r1 e2;exact .inl ⟨vs,.inl e3,emp r3⟩
   .cases hf
  .cases hf
def zOi (i j k:Nat):FG:=λd σ=>match d with
 |.tup [x,y,z]=>some (((σ.set i (some x)).set j (some y)).set k (some z))
 |_=>none
abbrev gP3 (K:Yb) (i j k:Nat):TG:=zPa K 3 (zD8 (zBX i) (zD8 (zBX j) (zD8 (zBX k) zOK)))
theorem zUu (r:zM L H [x,y,z] vs):∃ v1 v2 v3,vs=[v1,v2,v3]/\Rep L H x v1/\Rep L H y v2/\Rep L H z v3:=by
 unfold zM at r;obtain ⟨v1,r',rfl,h1,r⟩:=r;obtain ⟨v2,v3,rfl,h2,h3⟩:=r.two;exact ⟨v1,v2,v3,rfl,h1,h2,h3⟩
theorem zRl {K:Yb} {i j k:Nat}:GOk (gP3 K i j k) (zOi i j k):=by
 intro L H σ σ' τ d v Q rs r hf q;unfold zOi at hf;split at hf
 .rename_i x y z;cases hf;unfold Rep at r;obtain ⟨a,vs,rfl,e,r⟩:=r;obtain ⟨v1,v2,v3,rfl,r1,r2,r3⟩:=zUu r;exact ⟨a,_,rfl,.of e,rfl,v1,[v2,v3],rfl,v2,[v3],rfl,v3,[],rfl,rfl,q _ (((rs.set r1).set r2).set r3)⟩
 .cases hf
end
section
theorem zNr {its:List Value} {i:Int} (e:s.heap.get? l=some { cls:=.type "list", data:=.seq its.toArray n }) (hfit:¬ (!Builtin.List.listFitsIndex i)=true) (h0:¬ (i<0)) (hz:its.toArray.size<=sizeLine)
  (h:∀ g:Array Value->Array Value,g its.toArray=(its.take (min i.toNat its.length)++[u2]++its.drop (min i.toNat its.length)).toArray->Q .none { s with heap:=s.heap.update l (Obj.mapSeq g),toks:=s.toks }) :
  wpAny (model prog w) A (call (.builtin "list.insert") [.ref l,.int i t,u2]) Q E s:=by
 have hm:=@AutoSeq1.list_insert_list_int_val_1 l its.toArray n i t u2 hfit hz;have h1:s.TypeIs (.ref l) "list" := ⟨_,e,rfl⟩;refine call_meets (B:=Builtin.«list.insert») (self:=.ref l) (rest:=[.int i t,u2]) F.slot_list_insert h1 F.entry_list_insert (F.args_list_insert_3 _ _ _) hm ⟨e,?_⟩;refine h _ ?_;simp only[h0,if_false,zVo];simp;exact List.take_of_length_le (by simp)
end
section
def zLw:V->List V->Hp->VK->Prop:=λx vs H Q=>∃ (l:Yt) (i:Int) (y:V) (xs:List V),x=.ref l/\vs=[.int i,y]/\H l=some (.lst xs)/\0<=i/\i.toNat<=xs.length/\xs.length<sizeLine/\Q .non (upd H l (.lst (xs.take i.toNat++[y]++xs.drop i.toNat)))
theorem zNU:MtM X "list.insert" zLw:=by
 intro zB s σ H x vs v us Q I rx rv h;obtain ⟨l,i,y,xs,rfl,rfl,hH,h0,hi,hz,q⟩:=h;cases rx;obtain ⟨u,u2,rfl,⟨t,rfl⟩,ru2⟩:=rv.two;obtain ⟨z,its,n,r,hl,e⟩:=I.lstM hH;have hs:(sizeLine:Nat)<2 ^ 62:=by decide
 have hi1 : -(2 ^ 63)<=i:=by omega
 have hi2:i<2 ^ 63:=by omega
 refine zNr (its:=its) e (by rw[fitsIndex_both hi1 hi2];exact zV2) (by omega) (by rw[zVo,<-hl];exact Nat.le_of_lt hz) λg hg=>?_;rw[Nat.min_eq_left (by omega)]at hg;exact ⟨.non,_,I.lset (its':=its.take i.toNat++[u2]++its.drop i.toNat) (ys:=xs.take i.toNat++[y]++xs.drop i.toNat) hH e hg (((r.take i.toNat).append (.cons ru2 .nil)).append (r.drop i.toNat)) (by simp;omega),rfl,q⟩
def zDz:KM:=λx ds M=>match x,ds with
 |.dat (.ref n),[.int i,d]=>match M[n]? with
  |some (.lst xs)=>if 0<=i/\i.toNat<=xs.length/\xs.length<sizeLine then some (.non,M.set n (.lst (xs.take i.toNat++[d]++xs.drop i.toNat))) else none
  |_=>none
 |_,_=>none
theorem zHt:∀ (k:Nat) {ds:List D} {vs:List V},zM L H ds vs->zM L H (ds.take k) (vs.take k)
 |0,_,_,_=> .nil
 |k+1,[],vs,h=>by unfold zM at h;subst h;exact .nil
 |k+1,d::ds,vs,h=>by
  unfold zM at h;obtain ⟨v,r,rfl,h1,h2⟩:=h;exact .cons h1 (zHt k h2)
theorem zIB:∀ (k:Nat) {ds:List D} {vs:List V},zM L H ds vs->zM L H (ds.drop k) (vs.drop k)
 |0,_,_,h=>h
 |k+1,[],vs,h=>by unfold zM at h;subst h;exact .nil
 |k+1,d::ds,vs,h=>by
  unfold zM at h;obtain ⟨v,r,rfl,h1,h2⟩:=h;exact zIB k h2
theorem zKl {K:Yb}:zRe K zLw zDz:=by
 intro L M M' H H0 x ds d v vs Q c rx rd hk q;unfold zDz at hk;split at hk
 .rename_i n i d';split at hk
  .rename_i xs e1;split at hk
   .rename_i hz;cases hk;unfold zc Rep at rx;obtain ⟨a,rfl,e2⟩:=rx;obtain ⟨ws,e3,r3⟩:=c.obj n a _ e2 e1;obtain ⟨w1,w2,rfl,r4,r5⟩:=rd.two;have hw:w1=.int i:=by unfold Rep at r4;exact r4
    subst hw;obtain ⟨c5,s5⟩:=c.write e2 e1 (((zHt i.toNat r3).app (.cons r5 .nil)).app (zIB i.toNat r3));exact ⟨a,i,w2,ws,rfl,rfl,e3,hz.1,by rw[r3.length];exact hz.2.1,by rw[r3.length];exact hz.2.2,q L _ _ s5 c5 (by unfold Rep;rfl)⟩
   .cases hk
  .cases hk
 .cases hk
theorem zPr (h:QE X a f) (hg:QA X [x1,x2] fg) (hbase:attributeBase a "insert" X.env (eval a X.env)=eval a X.env:=by rfl)
  (hfew:((backTo cpos (starEach [x1,x2] X.env)).all (λx=> !x.1)&&(backToKw cpos (keywordEach [] X.env)).all (λx=>x.1.isSome)&&decide ([x1,x2].length+([]:List Keyword).length+(if ([]:List Keyword).isEmpty then 0 else 1)<30))=true:=by rfl)
  (hline:(apos.endLine==cpos.line)=true:=by rfl) (hs:starEach [x1,x2] X.env=(false,eval x1 X.env)::starEach [x2] X.env:=by rfl) (hplain:(backTo cpos (starEach [x2] X.env)).any (·.1)=false:=by rfl) :
  QE X (.Call (.Attribute a "insert" apos) [x1,x2] [] cpos) (fM zDz f fg) :=
 .mk <| PE.imp (zOd PySem.F.plainAttrs_list PySem.F.slot_list_insert PySem.F.type_list_insert zNU h.un hg.un hbase hfew hline hs hplain) λ_ _ _ z=>zLi zKl z
end
def zIi (fg:FG) (tc:FT) (fi2:FI) (own2:Yj) (fg2:FG) (tc2:FT) (te:FE) (σ:Sd) (all:List D) (gd:Option (Mem->Prop)):List D->List D->Mem->Option (List D × Mem)
 |[],acc,M=>open Classical in if zAl gd all M then some (acc,M) else none
 |x::r,acc,M=>open Classical in if zAl gd all M then match fg x σ with
   |some σ1=>match tc σ1 M with
    |some (true,M1)=>match fi2 σ1 M1 with
     |some (ys,gd2,M2)=>if acc.length+ys.length<=sizeLine then match zAo fg2 tc2 te (zA7 own2 σ1) ys gd2 ys M2 with
       |some (ds,M3)=>zIi fg tc fi2 own2 fg2 tc2 te σ all gd r (acc++ds) M3
       |none=>none
      else none
     |none=>none
    |some (false,M1)=>zIi fg tc fi2 own2 fg2 tc2 te σ all gd r acc M1
    |none=>none
   |none=>none
  else none
def zFH (own own2:Yj) (fi:FI) (fg:FG) (tc:FT) (fi2:FI) (fg2:FG) (tc2:FT) (te:FE):FE:=λσ M=>match fi σ M with
 |some (xs,gd,M1)=>match zIi fg tc fi2 own2 fg2 tc2 te (zA7 own σ) xs gd xs [] M1 with
  |some (ys,M2)=>some (.fl ys,M2)
  |none=>none
 |none=>none
theorem zLm {K:Yb} {own own2:Yj} {fi fi2:FI} {g g2:TG} {fg fg2:FG} {tc tc2:FT} {te:FE} (hg:zEK own g fg) (hg2:zEK own2 g2 fg2) {τ:Sv} {H:Hp} {Q:VK} (h:trE K (zFH own own2 fi fg tc fi2 fg2 tc2 te) τ H Q) :
  zN1 own own2 (trI K fi) g (trT K tc) (trI K fi2) g2 (trT K tc2) (trD K (toD te)) τ H Q:=by
 obtain ⟨L,σ,M,d,Mf,c,rs,hf,q⟩:=h;unfold zFH at hf;split at hf
 .rename_i xs gd M1 e1;split at hf
  .rename_i zs M2 e2;cases hf;refine ⟨L,σ,M,_,_,_,c,rs,e1,λL1 H1 J s1 c1 it=>?_⟩
   refine ⟨λi m ys H'=>m=xs.length-i/\i<=xs.length /\ ∃ L' M' as,Stp L1 H1 L' H'/\Cor K L' M' H'/\zM L' H' as ys/\as.length<=sizeLine/\zIi fg tc fi2 own2 fg2 tc2 te (zA7 own σ) xs gd (xs.drop i) as M'=some (zs,Mf),
    ⟨xs.length,by simp,zWS _,L1,M1,[],.refl _ _,c1,.nil,zWS _,by simpa using e2⟩,?_⟩
   rintro i m ys H' ⟨rfl,hi,L',M',as,s',c',r',hl,e'⟩;by_cases hlt:i<xs.length
   .rw[zCB hlt]at e';unfold zIi at e';split at e'
    .rename_i hgd;obtain ⟨step,_⟩:=it L' H' M' s' c' hgd;obtain ⟨go,yl⟩:=step i xs[i] (zVk hlt);split at e'
     .rename_i σ1 eg;refine .inr ⟨go,λv H2 hy=>?_⟩;obtain ⟨gr,rv⟩:=yl v H2 hy;have s2:Stp L1 H1 L' H2:=s'.yld gr;refine hg (zD2 own ((rs.stp s1).stp s2)) (.refl _) rv eg λτ2 r2 x2=>⟨x2,?_⟩;split at e'
      .rename_i M3 e3;split at e'
       .rename_i ys2 gd2 M4 e4;split at e'
        .rename_i hz2;split at e'
         .rename_i ds M5 e5;refine ⟨L',σ1,M',_,_,c'.grow gr,r2,e3,λL3 H3 s3 c3=>zHL ?_⟩;have st3:Stp L' H' L3 H3:=(Stp.grow gr).trans s3;refine ⟨L3,σ1,M3,_,_,_,c3,r2.stp s3,e4,λL4 H4 J2 s4 c4 it2=>?_⟩
          refine ⟨λj m2 ws H5=>m2=ys2.length-j/\j<=ys2.length /\ ∃ L5 M6 bs cs,Stp L4 H4 L5 H5/\Cor K L5 M6 H5/\zM L5 H5 (as++bs) ws/\bs.length<=j/\zAo fg2 tc2 te (zA7 own2 σ1) ys2 gd2 (ys2.drop j) M6=some (cs,M5)/\bs++cs=ds,
           ⟨ys2.length,by simp,zWS _,L4,M4,[],ds,.refl _ _,c4,by simpa using (r'.stp st3).stp s4,zVm _,by simpa using e5,rfl⟩,?_⟩
          rintro j m2 ws H5 ⟨rfl,hj,L5,M6,bs,cs,s5,c5,r5,hbl,e6,hbc⟩;have hws:ws.length<=as.length+j:=by rw[r5.length,zVw];omega
          by_cases hlt2:j<ys2.length
          .rw[zCB hlt2]at e6;unfold zAo at e6;split at e6
           .rename_i hgd2;obtain ⟨step2,_⟩:=it2 L5 H5 M6 s5 c5 hgd2;obtain ⟨go2,yl2⟩:=step2 j ys2[j] (zVk hlt2);split at e6
            .rename_i σ2 eg2;refine .inr ⟨go2,λv2 H6 hy2=>?_⟩;obtain ⟨gr2,rv2⟩:=yl2 v2 H6 hy2;have s6:Stp L4 H4 L5 H6:=s5.yld gr2;refine hg2 (zD2 own2 (((r2.stp s3).stp s4).stp s6)) (.refl _) rv2 eg2 λτ3 r3 x3=>⟨x3,?_⟩;split at e6
             .rename_i M7 e7;split at e6
              .rename_i d M8 e8;split at e6
               .rename_i ds' M9 e9;cases e6;refine ⟨L5,σ2,M6,_,_,c5.grow gr2,r3,e7,λL7 H7 s7 c7=>zHL ?_⟩;refine ⟨L7,σ2,M7,_,_,c7,r3.stp s7,e8,λL8 H8 w s8 c8 r8=>?_⟩;have st:Stp L5 H5 L8 H8:=((Stp.grow gr2).trans s7).trans s8;refine ⟨by omega,ys2.length-(j+1),by omega,rfl,hlt2,L8,M8,bs++[d],ds',s5.trans st,c8,?_,by simp;omega,e9,by rw[<-hbc];simp⟩;have:=(r5.stp st).app (.cons r8 .nil);simpa using this
               .cases e6
              .cases e6
             .rename_i M7 e7;refine ⟨L5,σ2,M6,_,_,c5.grow gr2,r3,e7,λL7 H7 s7 c7=>zG5 ?_⟩;have st:Stp L5 H5 L7 H7:=(Stp.grow gr2).trans s7;exact ⟨ys2.length-(j+1),by omega,rfl,hlt2,L7,M7,bs,cs,s5.trans st,c7,r5.stp st,by omega,e6,hbc⟩
             .cases e6
            .cases e6
           .cases e6
          .have hj':j=ys2.length:=by omega
           subst hj';rw[List.drop_length]at e6;unfold zAo at e6;split at e6
           .rename_i hgd2;cases e6;obtain ⟨_,stop2⟩:=it2 L5 H5 _ s5 c5 hgd2;rw[zWQ]at hbc;subst hbc;refine .inl ⟨stop2,xs.length-(i+1),by omega,rfl,hlt,L5,M5,as++bs,s'.trans ((st3.trans s4).trans s5),c5,r5,by rw[zVw];omega,e'⟩
           .cases e6
         .cases e'
        .cases e'
       .cases e'
      .rename_i M3 e3;refine ⟨L',σ1,M',_,_,c'.grow gr,r2,e3,λL3 H3 s3 c3=>zG5 ?_⟩;have st:Stp L' H' L3 H3:=(Stp.grow gr).trans s3;exact ⟨xs.length-(i+1),by omega,rfl,hlt,L3,M3,as,s'.trans st,c3,r'.stp st,hl,e'⟩
      .cases e'
     .cases e'
    .cases e'
   .have hi':i=xs.length:=by omega
    subst hi';rw[List.drop_length]at e';unfold zIi at e';split at e'
    .rename_i hgd;cases e';obtain ⟨_,stop⟩:=it L' H' _ s' c' hgd;refine .inl ⟨stop,by rw[r'.length];exact hl,λp hp=>?_⟩;exact q L' _ _ ((s1.trans s').trans (.upd hp)) (c'.upd hp) (zc.newLst (s1.trans s') c c' hp r')
    .cases e'
  .cases hf
 .cases hf
section
structure QParts2 (X:Cx) (scope:Y0) (t1:Expr) (f1:Yi) (t2 i2:Expr) (f2:Yi) (elt:Expr) (g:TG) (tc:FT) (fi2:FI) (g2:TG) (tc2:FT) (te:FE):Prop where
 g:∀ zB cl s H fp,PG (zJ X zB scope cl s H fp) t1 g
 c:∀ zB cl s H fp,QIfs (zJ X zB scope cl s H fp) f1 tc
 w2:∀ zB cl s H fp,QI (zJ X zB scope cl s H fp) t2 i2 fi2
 g2:∀ zB cl s H fp,PG (zJ X zB scope cl s H fp) t2 g2
 c2:∀ zB cl s H fp,QIfs (zJ X zB scope cl s H fp) f2 tc2
 e:∀ zB cl s H fp,QE (zJ X zB scope cl s H fp) elt te
 s2:∀ zB cl s H fp x,foldedSetIterable i2 (zJ X zB scope cl s H fp).env x=pure x
theorem zQL {own own2:Yj} {fi fi2:FI} {g g2:TG} {fg fg2:FG} {tc tc2:FT} {te:FE} (hsub:∀ i∈own2,i∈own) (hg:zEK own g fg) (hg2:zEK own2 g2 fg2) (C:CompIn X scope own) (hcalm:X.calm=true) (hi:QI X t1 i1 fi) (p:QParts2 X scope t1 f1 t2 i2 f2 elt g tc fi2 g2 tc2 te) (hs:∀ x,foldedSetIterable i1 X.env x=pure x:=by intro _;rfl) :
  QE X (zBL elt t1 i1 f1 t2 i2 f2 scope pos) (zFH own own2 fi fg tc fi2 fg2 tc2 te) :=
 .mk <| PE.imp (zN6 hsub C hcalm hi.un ⟨p.g,λzB cl s H fp=>(p.c zB cl s H fp).un,λzB cl s H fp=>(p.w2 zB cl s H fp).un,p.g2,λzB cl s H fp=>(p.c2 zB cl s H fp).un,λzB cl s H fp=>(zCh (p.e zB cl s H fp)).un,p.s2⟩ hs) λ_ _ _ h=>zLm hg hg2 h
end
end L3
namespace L2
open PySem PySem.Spec PyProof.Rows
section
theorem zGP (hN:X.N.Nodup) (hi':X.N[i]?=some x) (hx:Loc X.env.scope x) (hfn:X.fn x=true\/X.env.scope.names.lookup x=some .local)
  (hsw:swapsWith (.DictComp kx vx [⟨tg,iter,ifs,0⟩] scope pos) (some (.Name x pos')) pos''.line X.env=pure true)
  (hu:X.A.units+1<cLine) (C:CompIn X scope own) (hcalm:X.calm=true) (hi:PI X tg iter wi) (p:CompParts X scope tg ifs kx g tc tk) (p2:∀ zB cl s H fp,PE (zJ X zB scope cl s H fp) vx tv) (hs:∀ x,foldedSetIterable iter X.env x=pure x:=by intro _;rfl) :
  PS X (.Assign [.Name x pos'] (.DictComp kx vx [⟨tg,iter,ifs,0⟩] scope pos) pos'') (zOS (zE9 isT own wi g tc tk tv) (zBX i)):=by
 intro zB s σ H D I h;obtain ⟨cl,hcl,c1,c2⟩:=C.sc.closure I;rw[exec_Assign_Name_used _ _ _ _ hsw];refine zVg (zWe (zVg ?_));show wpAny _ X.A (do let _ <- comprehension (.DictComp kx vx [⟨tg,iter,ifs,0⟩] scope pos) scope X.env _ newDict false (eval iter X.env) (some (assign (.Name x pos') X.env))) _ _ s
 refine zVg (zWC (zXa (use:=some (assign (.Name x pos') X.env)) (Q:=λ_ s'=>SP X zB D .next s') rfl hs hcl C.sc.kind C.sc.names
  (thn (hi zB s σ H _ I h) λv s1 h1=>thn h1 λitv s2 h2=>?_)) (λ_ s' hq=>zVi (zVi hq)) λ_ _ e=>e)
 obtain ⟨it,fp,tn,J,H2,e,I2,T,st2,f2,hD⟩:=h2;subst e;obtain ⟨W,⟨m0,w0⟩,turn⟩:=hD s2.heap.objs.size (I2.hok.fresh (zVm _))
 refine zDO hu C hcalm I2 T st2 f2 c1 c2 (p.g _ _ _ _ _) (p.c _ _ _ _ _) (p.e _ _ _ _ _) (p2 _ _ _ _ _) (RR:=λacc C r s'=>compPost (model X.prog X.w) X.A X.xe (some (assign (.Name x pos') X.env)) (λ_ s'=>SP X zB D .next s') acc C r s')
  (QQ:=λH=>zBX i (.ref s2.heap.objs.size) σ H D.nx) w0 turn ?_
 intro σc H' s' Ic qq;obtain ⟨m,hn,_⟩:=Ic.loc;have J':=zD9 (h':=s'.heap) I2 f2 Ic (.refl ..);obtain ⟨oC,es,ep,hoC,hdC,r1,r2⟩:=id hn;have nC:H' (s2.heap.objs.size+1)=none:=Ic.free;have K':Inv X (zB++[(s2.heap.objs.size+1,oC)]) σ H' s':=J'.pins_of λq hq=>by
  rcases zV6.mp hq with z|z
  .exact J'.pin q (zV0 _ z)
  .have e:q=(s2.heap.objs.size+1,oC):=by simpa using z
   subst e;refine ⟨hoC,nC,zXB (zWV I2.lt),I2.nofs (zXO _),λv z=>?_⟩;have z':oC.data=.cell v:=z;rw[hdC]at z';cases z'
 show wpAny _ X.A (assign (.Name x pos') X.env (.ref s2.heap.objs.size)) _ _ _;refine thn (zIO hN hi' hx hfn _ s' σ _ (.ref s2.heap.objs.size) (.ref s2.heap.objs.size) _ K' rfl qq) λ_ s'' ⟨σ'',H'',I'',q''⟩=>?_;obtain ⟨eC,_⟩:=I''.pin (s2.heap.objs.size+1,oC) (by simp);refine ⟨m,⟨oC,es,ep,eC,hdC,r1,r2⟩,λh' hs'=>⟨σ'',H'',?_,q''⟩⟩;have I3:Inv X zB σ'' H'' s'':=I''.unpinned;obtain ⟨_,nC'',neC,_,_⟩:=I''.pin (s2.heap.objs.size+1,oC) (by simp);refine I3.turned (t':=s''.toks) (it:=s2.heap.objs.size+1) (λb o hb e=>hs'.extBut b o hb e) nC'' neC (.inr (zV7 I2.sz (zXO _))) (λx c e z=>?_) (λq hq z=>?_)
 .obtain ⟨v,o,ho,hd⟩:=I3.cell x c e;rw[z,eC]at ho;cases ho;rw[hdC]at hd;cases hd
 .obtain ⟨e,_⟩:=I2.pin q hq;exact zV1 (zWV (zVr e)) z
end
end L2
namespace L3
open PySem PySem.Spec PyProof.Rows L2
section
variable {isT:Bool}
theorem zKp (hN:X.N.Nodup) (hi':X.N[i]?=some x) (hx:Loc X.env.scope x) (hfn:X.fn x=true\/X.env.scope.names.lookup x=some .local)
  (hsw:swapsWith (.DictComp kx vx [⟨tg,iter,ifs,0⟩] scope pos) (some (.Name x pos')) pos''.line X.env=pure true)
  (hu:X.A.units+1<cLine) (hg:zEK own g fg) (C:CompIn X scope own) (hcalm:X.calm=true) (hi:QI X tg iter fi) (p:QParts X scope tg ifs kx g tc tk) (p2:∀ zB cl s H fp,QE (zJ X zB scope cl s H fp) vx tv) (hs:∀ x,foldedSetIterable iter X.env x=pure x:=by intro _;rfl) :
  QS X (.Assign [.Name x pos'] (.DictComp kx vx [⟨tg,iter,ifs,0⟩] scope pos) pos'') (zj i (zCp isT own fi fg tc tk tv)) :=
 .mk <| PS.imp (zGP (isT:=isT) hN hi' hx hfn hsw hu C hcalm hi.un p.parts (λ_ _ _ _ _=>(zCh (p2 _ _ _ _ _)).un) hs) λ_ _ _ z=>zGk (λ_ _ _ z=>zGK hg z) z
end
end L3
namespace L2
open PySem PySem.Spec PyProof.Rows
end L2
namespace L3
open PySem PySem.Spec PyProof.Rows L2
open SeqAt
def zFF (A:Yn) (s:Yl) (x y:Yu) (b:Bool):Prop:=∀ (prog:Ym) (w:Yo) (E Q:Yc),Q (.bool b) s->wpAny (model prog w) A (richCompare .Lt x y) Q E s
theorem zFF.ints (i:Int) (t:Tok) (j:Int) (u:Tok):zFF A s (.int i t) (.int j u) (decide (i<j)):=λprog w E Q q=>
 richCompare_gives (op:=.Lt) (typeIs_int s i t) (typeIs_int s j u) F.slot_int_lt F.entry_int_lt (F.args_int_lt_2 _ _) (gives_int_lt i j t u) (λx=>nomatch x) q
def zDh (e l:Nat->Bool) (sz:Bool):Nat->Nat->Bool
 |0,_=>sz
 |m+1,k=>if e k then zDh e l sz m (k+1) else l k
theorem zKv (a b:Yt) (xs ys:Yp) (n1 n2:Nat) (d1 d2:Option Addr) (s1 s2:Array (Option Value)) (e l:Nat->Bool) :
  Meets (Builtin.«tuple.__lt__» ⟨[.ref a,.ref b],[]⟩)
   (λA R s=>s.heap.get? a=some { cls:=.type "tuple", dict:=d1,data:=.seq xs n1,slots:=s1 }/\s.heap.get? b=some { cls:=.type "tuple", dict:=d2,data:=.seq ys n2,slots:=s2 } /\
    (∀ j (h1:j<xs.size) (h2:j<ys.size),EqAt A.in1 s xs[j] ys[j] (e j))/\(∀ j (h1:j<xs.size) (h2:j<ys.size),e j=false->zFF A.in1 s xs[j] ys[j] (l j)) /\
    R (.ok (.ret (.bool (zDh e l (decide (xs.size<ys.size)) (min xs.size ys.size) 0)))) s) :=
 .of_wp λprog w A R s h=>by
  obtain ⟨hp,g,d,tk,os⟩:=s;obtain ⟨ha,hb,he,hl,q⟩:=h;have f2:=AutoSeq1.sub_tuple_tuple;have hZ:(xs.toList.zip ys.toList).length=min xs.size ys.size:=by simp
  wp_walk using wpAny_loadPart' ha,wpAny_loadPart' hb,wpAny_forIn_list _ (λrest c s'=>c.1=none/\s'=⟨hp,g,d,tk,os⟩ /\ ∃ i,i<=min xs.size ys.size/\rest=(xs.toList.zip ys.toList).drop i /\
   R (.ok (.ret (.bool (zDh e l (decide (xs.size<ys.size)) (min xs.size ys.size-i) i)))) ⟨hp,g,d,tk,os⟩) _
  case turn=>
   rintro ⟨y,x⟩ rest c s' ⟨hc,rfl,i,hi,hz,q⟩;have hlt:i<(xs.toList.zip ys.toList).length:=by
    rcases Nat.lt_or_ge i (xs.toList.zip ys.toList).length with z|z
    .exact z
    .rw[List.drop_of_length_le z]at hz;cases hz
   have hm:i<min xs.size ys.size:=hZ▸hlt;have i1:i<xs.size:=by omega
   have i2:i<ys.size:=by omega
   rw[List.drop_eq_getElem_cons hlt]at hz;injection hz with hyx hrest
   have hy:y=xs[i]:=by have:=congrArg Prod.fst hyx;simpa using this
   have hx:x=ys[i]:=by have:=congrArg Prod.snd hyx;simpa using this
   subst hy hx;rw[show min xs.size ys.size-i=(min xs.size ys.size-(i+1))+1 by omega,zDh]at q;refine zVg (he i i1 i2 prog w _ _ ?_);cases hq:e i with
   |true=>
    rw[hq,zVv rfl]at q;wp_walk;exact ⟨rfl,rfl,i+1,by omega,hrest,q⟩
   |false=>
    rw[hq,zVy (by decide)]at q;refine wpAny_ite_split (λ_=>?_) (λz=>absurd rfl z);refine zVg (zW3 (zVg (hl i i1 i2 hq prog w _ _ ?_)));wp_walk;exact ⟨_,rfl,q⟩
  case fin=>
   rintro ⟨c1,c2⟩ s' ⟨hc,rfl,i,hi,hz,q⟩;simp only at hc;subst hc;have hge:min xs.size ys.size<=i:=by
    rcases Nat.lt_or_ge i (xs.toList.zip ys.toList).length with z|z
    .rw[List.drop_eq_getElem_cons z]at hz;cases hz
    .exact hZ▸z
   rw[show min xs.size ys.size-i=0 by omega,zDh]at q;wp_walk;exact ⟨_,rfl,by simpa [Builtin.Tuple.tupleCompareSizes] using q⟩
  case h=>
   exact ⟨rfl,rfl,0,by omega,rfl,q⟩
theorem zFF.tuples (ha:s.heap.IsTuple a xs) (hb:s.heap.IsTuple b ys) (hu:A.units<cLine)
  (he:∀ j (h1:j<xs.size) (h2:j<ys.size),EqAt A.in1 s xs[j] ys[j] (e j)) (hl:∀ j (h1:j<xs.size) (h2:j<ys.size),e j=false->zFF A.in1 s xs[j] ys[j] (l j)) :
  zFF A s (.ref a) (.ref b) (zDh e l (decide (xs.size<ys.size)) (min xs.size ys.size) 0):=λprog w E Q q=>by
 obtain ⟨⟨c1,d1,t1,s1⟩,o1,rfl,n1,rfl⟩:=id ha;obtain ⟨⟨c2,d2,t2,s2⟩,o2,rfl,n2,rfl⟩:=id hb;exact richCompare_meets_room (op:=.Lt) ⟨_,o1,rfl⟩ ⟨_,o2,rfl⟩ F.slot_tuple_lt F.entry_tuple_lt (F.args_tuple_lt_2 _ _) (zKv a b xs ys n1 n2 d1 d2 s1 s2 e l) ⟨o1,o2,he,hl,(λx=>nomatch x),q⟩ hu
section
variable {St:Nat->Heap->Prop}
abbrev zH2 (s0:Yl) (h:Heap):Prop:=∀ b o,s0.heap.get? b=some o->h.get? b=some o
def zR3 (prog:Ym) (w:Yo) (A:Yn) (s0:Yl) (P:Nat->Value->Prop) (bt:Nat->Nat->Bool):Prop :=
 ∀ i j x y h t (Q E:Yc),zH2 s0 h->P i x->P j y->Q (.bool (bt i j)) { s0 with heap:=h,toks:=t }->wpAny (model prog w) A (richCompare .Lt x y) Q E { s0 with heap:=h,toks:=t }
theorem zEq:(toString "min" ++ toString ".loop" : String) = "min.loop" := by decide
theorem zOJ (W:Walks prog w A.in1 J fp wr n P St) (bt:Nat->Nat->Bool) (cmp:zR3 prog w A.in1 s0 P bt) (S:Yt) (sf:S∉fp) (new:∀ b o,s0.heap.get? b=some o->b∉wr/\b≠S) :
  ∀ (k j:Nat) (h:Heap) (t:Nat) (best:Yu) (c:Nat),n-(j+1)=k->j+1<=n->St (j+1) h->P (argBest bt j) best->zH2 s0 h ->
  h.get? S=some { cls:=.type "list", dict:=none,data:=.seq #[best,best] c,slots:=#[] } ->
  (∀ v h' t',P (argBest bt (n-1)) v->zH2 s0 h'->R (.ok (.ret v)) { s0 with heap:=h',toks:=t' }) ->
  codeAny (model prog w) A (.builtin "min.loop" ⟨[.ref J,.none,.ref S],[]⟩) R { s0 with heap:=h,toks:=t }:=by
 have sw:S∉wr:=λz=>sf (W.sub _ z);intro k;induction k with
 |zero=>
  intro j h t best c hk hj st pb ko hS q;have e:j+1=n:=by omega
  refine zWl F.entry_min_loop ?_;rw[zWb F.plain_min_loop _];refine zVg (wpAny_seqItems (s:={ s0 with heap:=h,toks:=t }) hS rfl ?_);refine zVg (wpAny_tryCatch (W.done { s0 with heap:=h,toks:=t } _ _ (e▸st) λh1 t1 k1=>?_));have hS1:=k1 S _ sw hS;refine zVg ?_;refine wpAny_updateSeq hS1 rfl (zVg (wpAny_letGo (zVi ?_)));exact q best _ t1 (by rw[<-e];exact pb) λb o eo=>(zWN _ _ (Ne.symm (new b o eo).2)).trans (k1 b o (new b o eo).1 (ko b o eo))
 |succ k ih=>
  intro j h t best c hk hj st pb ko hS q;have lt:j+1<n:=by omega
  refine zWl F.entry_min_loop ?_;rw[zWb F.plain_min_loop _];refine zVg (wpAny_seqItems (s:={ s0 with heap:=h,toks:=t }) hS rfl ?_);refine zVg (wpAny_tryCatch (W.item (j+1) { s0 with heap:=h,toks:=t } _ _ lt st λv h1 t1 pv st1 k1=>?_));have hS1:=k1 S _ sw hS;have ko1:zH2 s0 h1:=λb o eo=>k1 b o (new b o eo).1 (ko b o eo);show wpAny _ A.in1 (tryCatch (holding [v,v] (richCompare .Lt v best >>= _)) _ >>= _) _ _ { s0 with heap:=h1,toks:=t1 };refine zVg (wpAny_tryCatch (zWZ (zVg (cmp (j+1) (argBest bt j) v best h1 t1 _ _ ko1 pv pb ?_))));refine zVg (zWZ (wpAny_truthy_bool ?_));refine zVg (wpAny_letGo (zVi ?_));cases hb:bt (j+1) (argBest bt j) with
  |true=>
   simp only[if_true];refine zVg ?_;refine wpAny_updateSeq (s:={ s0 with heap:=h1,toks:=t1 }) hS1 rfl (zVg (wpAny_letGo ?_));rw[zEq];refine zVi ⟨plainId_quiet F.plain_min_loop _,ih (j+1) _ t1 v _ (by omega) lt (W.frame _ _ _ st1 λb hbf o e=>(zWN _ _ (λz:S=b=>sf (by rw[z];exact hbf))).trans e) (by simp only[argBest,hb,if_true];exact pv) (λb o eo=>(zWN _ _ (Ne.symm (new b o eo).2)).trans (ko1 b o eo)) (zWT _ hS1 rfl) q⟩
  |false=>
   simp only[zWh,if_false];refine zVg (wpAny_letGo ?_);rw[zEq];exact zVi ⟨plainId_quiet F.plain_min_loop _,ih (j+1) h1 t1 best c (by omega) lt st1 (by simp only[argBest,hb,zWh,if_false];exact pb) ko1 hS1 q⟩
end
section
theorem zKO
  (h:wpAny (model prog w) A.in1 (pyIter x) (λit s2=>∃ J fp wr n P St bt h2,it=.ref J/\s2={ s with heap:=h2 }/\Walks prog w A.in1 J fp wr n P St/\St 0 h2/\zH2 s h2/\(∀ b o,s.heap.get? b=some o->b∉wr)/\(∀ b∈fp,b<h2.objs.size)/\0<n/\zR3 prog w A.in1 s P bt /\
   ∀ v h' tk,P (argBest bt (n-1)) v->zH2 s h'->Q v { s with heap:=h',toks:=tk }) E s) :
  wpAny (model prog w) A (call (.builtin "min") [x]) Q E s:=by
 refine call_function_tree F.kind_min F.plain_min F.entry_min (F.args_min1 _) ?_;refine zVg (wpAny_of_eq (show Builtin.Builtins.bindParams "min" ["key", "default"] 0 ⟨[],[]⟩=pure [none,none]from rfl) ?_);refine zVg (zVi ?_);refine zVg (zWC h (λit s2 g=>?_) λ_ _ e=>e);obtain ⟨J,fp,wr,n,P,St,bt,h2,rfl,rfl,W,st,ko,nw,hfp,n0,cmp,q⟩:=g;refine zVg (zV9 ?_);have sf:h2.objs.size∉fp:=λhm=>zWO _ (hfp _ hm);have sw:h2.objs.size∉wr:=λz=>sf (W.sub _ z);rw[zEq];generalize hH:h2.push { cls:=.type "list", data:=.seq ([]:List Value).toArray }=H;have kH:∀ b u,h2.get? b=some u->H.get? b=some u:=λb u e=>by rw[<-hH];exact zVh _ e
 have hS:H.get? h2.objs.size=some { cls:=.type "list", data:=.seq ([]:List Value).toArray }:=by rw[<-hH];exact zVq _ rfl
 refine zVi ⟨plainId_quiet F.plain_min_loop _,?_⟩;refine zWl F.entry_min_loop ?_;rw[zWb F.plain_min_loop _];refine zVg (wpAny_seqItems (s:={ s with heap:=H }) hS rfl ?_);have st':St 0 H:=W.frame _ _ _ st λb _ o e=>kH b o e;refine zVg (wpAny_tryCatch (W.item 0 { s with heap:=H } _ _ n0 st' λv h1 t1 pv st1 k1=>?_));have hS1:=k1 _ _ sw hS;show wpAny _ A.in1 (updateSeq h2.objs.size (λ_=> #[v,v]) >>= _) _ _ { s with heap:=h1,toks:=t1 };refine zVg ?_;refine wpAny_updateSeq (s:={ s with heap:=h1,toks:=t1 }) hS1 rfl ?_;rw[zEq];have nS:∀ b o,s.heap.get? b=some o->b≠h2.objs.size:=λb o e=>zV1 (zVr (ko b o e));refine zVi ⟨plainId_quiet F.plain_min_loop _,zOJ (s0:=s) W bt cmp h2.objs.size sf (λb o e=>⟨nw b o e,nS b o e⟩) _ 0 _ t1 v _ rfl n0 (W.frame _ _ _ st1 λb hbf o e=>(zWN _ _ (λz:h2.objs.size=b=>sf (by rw[z];exact hbf))).trans e) pv (λb o e=>(zWN _ _ (Ne.symm (nS b o e))).trans (k1 b o (nw b o e) (kH b o (ko b o e)))) (zWT _ hS1 rfl) q⟩
end
abbrev NP:=Int × Int × Int
def npD (t:NP):D:=.tup [.int t.1,.tup [.int t.2.1,.int t.2.2]]
def zSj:D->Option NP
 |.tup [.int k,.tup [.int a,.int b]]=>some (k,a,b)
 |_=>none
theorem zQT (h:zSj d=some t):d=npD t:=by
 unfold zSj at h;split at h
 .cases h;rfl
 .cases h
def zHP:List D->Option (List NP)
 |[]=>some []
 |d::r=>match zSj d,zHP r with
  |some t,some ts=>some (t::ts)
  |_,_=>none
theorem zJ2:∀ {ds:List D} {ts:List NP},zHP ds=some ts->ds=ts.map npD
 |[],ts,h=>by cases h;rfl
 |d::r,ts,h=>by
  unfold zHP at h;split at h
  .rename_i t ts' e1 e2;cases h;rw[zVz,zQT e1,zJ2 e2]
  .cases h
theorem zHu:∀ ts:List NP,zHP (ts.map npD)=some ts
 |[]=>rfl
 |t::r=>by rw[zVz,zHP,zHu r];rfl
def ltP (x y:NP):Bool:=decide (x.1<y.1\/(x.1=y.1/\(x.2.1<y.2.1\/(x.2.1=y.2.1/\x.2.2<y.2.2))))
section
theorem zMK (r:zM L H [x,y] vs):∃ v1 v2,vs=[v1,v2]/\Rep L H x v1/\Rep L H y v2:=r.two
theorem zIH (r:zb [v1,v2] its):∃ u1 u2,its=[u1,u2]/\ze v1 u1/\ze v2 u2:=by
 have hl:=r.length;obtain ⟨u1,e1,r1⟩:=r.get (i:=0) rfl;obtain ⟨u2,e2,r2⟩:=r.get (i:=1) rfl;match its,hl,e1,e2 with
 |[a,b],_,e1,e2=>cases e1;cases e2;exact ⟨_,_,rfl,r1,r2⟩
 |[],hl,_,_=>cases hl
 |[_],hl,_,_=>cases hl
 |_::_::_::_,hl,_,_=>simp at hl
theorem zNX (I:Inv X zB σ H s) (hu:A.units+1<cLine) (rx:Rep L H (.tup [.int a,.int b]) v) (ry:Rep L H (.tup [.int c,.int d]) w) (ru:ze v u) (ru':ze w u'):zFF A s u u' (decide (a<c\/(a=c/\b<d))):=by
 unfold Rep at rx ry;obtain ⟨p,vs,rfl,e,r⟩:=rx;obtain ⟨q,ws,rfl,e2,r2⟩:=ry;cases ru;cases ru';obtain ⟨v1,v2,rfl,t1,t2⟩:=zMK r;obtain ⟨w1,w2,rfl,t3,t4⟩:=zMK r2;unfold Rep at t1 t2 t3 t4;subst t1;subst t2;subst t3;subst t4;obtain ⟨its,rv,p1,_⟩:=I.tuple (.of e);obtain ⟨its2,rv2,p2,_⟩:=I.tuple (.of e2);obtain ⟨u1,u2,rfl,⟨k1,rfl⟩,⟨k2,rfl⟩⟩:=zIH rv;obtain ⟨u3,u4,rfl,⟨k3,rfl⟩,⟨k4,rfl⟩⟩:=zIH rv2;have key:=zFF.tuples (A:=A) (s:=s) (e:=λj=>if j=0 then a==c else b==d) (l:=λj=>if j=0 then decide (a<c) else decide (b<d)) p1 p2 (by omega) (λj h1 h2=>by
  match j,h1,h2 with
  |0,_,_=>exact EqAt.int_int a k1 c k3
  |1,_,_=>exact EqAt.int_int b k2 d k4
  |j+2,h1,_=>simp at h1;omega) (λj h1 h2 _=>by
  match j,h1,h2 with
  |0,_,_=>exact zFF.ints a k1 c k3
  |1,_,_=>exact zFF.ints b k2 d k4
  |j+2,h1,_=>simp at h1;omega)
 have ev:zDh (λj=>if j=0 then a==c else b==d) (λj=>if j=0 then decide (a<c) else decide (b<d)) (decide (2<2)) (min 2 2) 0=decide (a<c\/(a=c/\b<d)):=by
  show (if (a==c)=true then (if (b==d)=true then false else decide (b<d)) else decide (a<c))=_;by_cases h1:a=c
  .subst h1;rw[zVv (by simp)];by_cases h2:b=d
   .subst h2;rw[zVv (by simp)];simp
   .rw[zVy (by simpa using h2)];simp
  .rw[zVy (by simpa using h1)];exact decide_eq_decide.mpr ⟨.inl,λh=>h.elim id λz=>absurd z.1 h1⟩
 rw[<-ev];exact key
theorem zQz (I:Inv X zB σ H s) (hu:A.units+2<cLine) (rx:Rep L H (npD x) v) (ry:Rep L H (npD y) w) (ru:ze v u) (ru':ze w u'):zFF A s u u' (ltP x y):=by
 obtain ⟨k,a,b⟩:=x;obtain ⟨k',c,d⟩:=y;unfold npD Rep at rx ry;obtain ⟨p,vs,rfl,e,r⟩:=rx;obtain ⟨q,ws,rfl,e2,r2⟩:=ry;cases ru;cases ru';obtain ⟨v1,v2,rfl,t1,t2⟩:=zMK r;obtain ⟨w1,w2,rfl,t3,t4⟩:=zMK r2;unfold Rep at t1 t3;subst t1;subst t3;obtain ⟨its,rv,p1,_⟩:=I.tuple (.of e);obtain ⟨its2,rv2,p2,_⟩:=I.tuple (.of e2);obtain ⟨u1,u2,rfl,⟨k1,rfl⟩,z2⟩:=zIH rv;obtain ⟨u3,u4,rfl,⟨k3,rfl⟩,z4⟩:=zIH rv2;have hu1:A.in1.units+1<cLine:=by show A.units+1+1<cLine;omega
 have he:=zHT I 1 A.in1 (.tup [.int a,.int b]) (.tup [.int c,.int d]) v2 w2 u2 u4 hu1 rfl rfl t2 t4 z2 z4;have hl:=zNX I hu1 t2 t4 z2 z4;have key:=zFF.tuples (A:=A) (s:=s) (e:=λj=>if j=0 then k==k' else zBJ 1 (.tup [.int a,.int b]) (.tup [.int c,.int d])) (l:=λj=>if j=0 then decide (k<k') else decide (a<c\/(a=c/\b<d))) p1 p2 (by omega) (λj h1 h2=>by
  match j,h1,h2 with
  |0,_,_=>exact EqAt.int_int k k1 k' k3
  |1,_,_=>exact he
  |j+2,h1,_=>simp at h1;omega) (λj h1 h2 _=>by
  match j,h1,h2 with
  |0,_,_=>exact zFF.ints k k1 k' k3
  |1,_,_=>exact hl
  |j+2,h1,_=>simp at h1;omega)
 have ev:zDh (λj=>if j=0 then k==k' else zBJ 1 (.tup [.int a,.int b]) (.tup [.int c,.int d])) (λj=>if j=0 then decide (k<k') else decide (a<c\/(a=c/\b<d))) (decide (2<2)) (min 2 2) 0=ltP (k,a,b) (k',c,d):=by
  show (if (k==k')=true then (if zBJ 1 (.tup [.int a,.int b]) (.tup [.int c,.int d])=true then false else decide (a<c\/(a=c/\b<d))) else decide (k<k'))=_;unfold ltP;have he2:zBJ 1 (.tup [.int a,.int b]) (.tup [.int c,.int d])=decide (a=c/\b=d):=by
   simp[zBJ]
  rw[he2];by_cases h1:k=k'
  .subst h1;rw[zVv (by simp)];by_cases h2:a=c/\b=d
   .obtain ⟨rfl,rfl⟩:=h2;simp
   .rw[zVy (by simpa using h2)];exact decide_eq_decide.mpr (by dsimp only;constructor <;> intro h <;> omega)
  .rw[zVy (by simpa using h1)];exact decide_eq_decide.mpr (by dsimp only;constructor <;> intro h <;> omega)
 rw[<-ev];exact key
end
def zBS:NP->List NP->NP
 |m,[]=>m
 |m,x::r=>zBS (if ltP x m then x else m) r
theorem zPH (ts:List NP) (d:NP):∀ k,k<ts.length->ts.getD (argBest (λi j=>ltP (ts.getD i d) (ts.getD j d)) k) d=zBS (ts.getD 0 d) ((ts.drop 1).take k)/\argBest (λi j=>ltP (ts.getD i d) (ts.getD j d)) k<=k:=by
 intro k;have snoc:∀ (r:List NP) (m x:NP),zBS m (r++[x])=if ltP x (zBS m r) then x else zBS m r:=by
  intro r;induction r with
  |nil=>intro m x;rfl
  |cons y r ih=>intro m x;show zBS (if ltP y m then y else m) (r++[x])=_;rw[ih];rfl
 induction k with
 |zero=>intro _;exact ⟨by simp[argBest,zBS],zVm _⟩
 |succ k ih=>
  intro hk;obtain ⟨h1,h2⟩:=ih (by omega);have ht:(ts.drop 1).take (k+1)=(ts.drop 1).take k++[ts.getD (k+1) d]:=by
   have hlt:k<(ts.drop 1).length:=by rw[List.length_drop];omega
   rw[List.take_succ_eq_append_getElem hlt,List.getElem_drop,zVl,zVk (by omega)];simp[Nat.add_comm]
  have ha:argBest (λi j=>ltP (ts.getD i d) (ts.getD j d)) (k+1)=if ltP (ts.getD (k+1) d) (ts.getD (argBest (λi j=>ltP (ts.getD i d) (ts.getD j d)) k) d) then k+1 else argBest (λi j=>ltP (ts.getD i d) (ts.getD j d)) k:=rfl
  rw[ht,snoc,<-h1,ha];by_cases hb:ltP (ts.getD (k+1) d) (ts.getD (argBest (λi j=>ltP (ts.getD i d) (ts.getD j d)) k) d)=true
  .rw[zVv hb,zVv hb];exact ⟨rfl,zVm _⟩
  .rw[zVy hb,zVy hb];exact ⟨rfl,by omega⟩
section
theorem zMg (hc:X.calm=true) (hu:X.A.units+1+3<cLine):zBz X (.builtin "min") (λxs H Q=>∃ (b:Bool) (a:Addr) (L:List Addr) (vs:List V) (ts:List NP),xs=[.ref a]/\SqG X.K b H a vs/\zM L H (ts.map npD) vs/\0<ts.length /\ ∀ (i:Nat) v,vs[i]?=some v->ts[i]?=some (zBS (ts.getD 0 (0,0,0)) (ts.drop 1))->Q v H):=by
 intro zB s σ H xs us Q I r h;obtain ⟨b,a,L,vs,ts,rfl,hs,hr,n0,q⟩:=h;obtain ⟨u,rfl,ru⟩:=zDX r;cases ru;obtain ⟨its,rv,p1⟩:=zNu I hs;have hvl:vs.length=ts.length:=by have:=hr.length;simpa using this
 have hl:its.toArray.size=ts.length:=by have:=rv.length;simp at this ⊢;omega
 have hlt:=zUD p1;have hfp:∀ c∈[s.heap.objs.size,a],c<(s.heap.push (itO b a)).objs.size:=λc hc'=>by
  rw[zWM];simp only[zVs,zWB,or_false]at hc';rcases hc' with rfl|rfl
  .exact zWd _
  .exact zWV hlt
 have st:SI b (s.heap.push (itO b a)) s.heap.objs.size a 0/\SO b (s.heap.push (itO b a)) a its.toArray:=⟨zR8 (zVq _ rfl),p1.keep λo e=>zVh _ e⟩;have item:∀ (i:Nat) (x:Yu),its.toArray[i]?=some x -> ∃ t v,ts[i]?=some t/\vs[i]?=some v/\Rep L H (npD t) v/\ze v x:=λi x hx=>by
  have hx':its[i]?=some x:=by simpa using hx
  have hi:i<ts.length:=by have:=(Array.getElem?_eq_some_iff.mp hx).1;omega
  obtain ⟨v,hv,rt⟩:=hr.get (i:=i) (by rw[zV3,zVk hi];rfl);obtain ⟨y,hy,ry⟩:=rv.get hv;rw[hx']at hy;cases hy;exact ⟨ts[i],v,zVk hi,hv,rt,ry⟩
 have hub:X.A.in1.units+2<cLine:=by show X.A.units+1+2<cLine;omega
 refine zKO (zN2 p1 ⟨s.heap.objs.size,[s.heap.objs.size,a],[s.heap.objs.size],its.toArray.size,λi v=>its.toArray[i]?=some v,λi h=>SI b h s.heap.objs.size a i/\SO b h a its.toArray,λi j=>ltP (ts.getD i (0,0,0)) (ts.getD j (0,0,0)),_,rfl,rfl,zKx (A:=X.A.in1) (I.ok.hd hc) b _ a (zV1 hlt) its.toArray,st,λc o e=>zVh _ e,λc o e z=>absurd (zVr e) (by rw[zV8.mp z];exact zWO _),hfp,by omega,?_,λv h' tk hP hk=>?_⟩)
 .intro i j x y h t Q' E' ko hx hy q';obtain ⟨t1,v1,ht1,_,r1,w1⟩:=item i x hx;obtain ⟨t2,v2,ht2,_,r2,w2⟩:=item j y hy;have:=zQz (I.kept (t':=t) ko) hub r1 r2 w1 w2 X.prog X.w E' Q';refine this ?_;dsimp only at q';rw[zVl,zVl,ht1,ht2]at q';exact q'
 .obtain ⟨t,v',ht,hv,rt,rx⟩:=item _ v hP;obtain ⟨h1,h2⟩:=zPH ts (0,0,0) (its.toArray.size-1) (by omega);refine ⟨v',H,I.kept hk,rx,q _ v' hv ?_⟩;rw[ht];rw[zVl,ht]at h1;rw[List.take_of_length_le (by rw[List.length_drop];omega)]at h1;rw[<-h1];rfl
def zHU:KB:=λxs M=>match xs with
 |[x]=>match zAY M x with
  |some ds=>match zHP ds with
   |some (t::ts)=>some (.dat (npD (zBS t ts)),M)
   |_=>none
  |none=>none
 |_=>none
theorem zHX:∀ (r:List NP) (m:NP),zBS m r∈m::r
 |[],m=>by simp[zBS]
 |x::r,m=>by
  unfold zBS;have:=zHX r (if ltP x m then x else m);rcases zVs.mp this with h|h
  .rw[h];split <;> simp
  .simp[h]
theorem zNs {K:Yb} {L:Yg} {M:Mem} {H H0:Hp} {x:EV} {v:V} {xs:List D} (c:Cor K L M H) (r:zc H0 L H x v) (h:zAY M x=some xs):∃ b a vs,v=.ref a/\SqG K b H a vs/\zM L H xs vs:=by
 unfold zAY at h;cases t:zB0 x with
 |some zs=>
  rw[t]at h;cases h;obtain ⟨a,ws,rfl,e2,r2⟩:=zBF r t;exact ⟨true,a,ws,rfl,.of e2,r2⟩
 |none=>
  rw[t]at h;obtain ⟨a,ws,rfl,e2,r2⟩:=zAa c r h;exact ⟨false,a,ws,rfl,.inl e2,r2⟩
theorem zPb {K:Yb}:zFR K (λxs H Q=>∃ (b:Bool) (a:Yt) (L:Yg) (vs:List V) (ts:List NP),xs=[.ref a]/\SqG K b H a vs/\zM L H (ts.map npD) vs/\0<ts.length /\ ∀ (i:Nat) v,vs[i]?=some v->ts[i]?=some (zBS (ts.getD 0 (0,0,0)) (ts.drop 1))->Q v H) zHU:=by
 intro L M M' H H0 xs d vs Q c r hk q;unfold zHU at hk;split at hk
 .rename_i x;split at hk
  .rename_i ds e1;split at hk
   .rename_i t ts e2;cases hk;obtain ⟨v,rfl,r1⟩:=r.one;obtain ⟨b,a,ws,rfl,hq,rr⟩:=zNs c r1 e1;have ed:=zJ2 e2;subst ed;refine ⟨b,a,L,ws,t::ts,rfl,hq,rr,by simp,λi v hv ht=>?_⟩;refine q L H _ (.refl L H) c ?_;obtain ⟨v',hv',rt⟩:=rr.get (show ((t::ts).map npD)[i]?=some (npD (zBS t ts)) by rw[zV3,ht];rfl);rw[hv]at hv';cases hv';exact rt
   .cases hk
  .cases hk
 .cases hk
theorem zTm (hcalm:X.calm=true) (hu:X.A.units+1+3<cLine) (hg:Gl X "min") (hm:X.mg "min" = none) (ha:QAE X [e] fa) (he:starEach [e] X.env=(false,eval e X.env)::starEach [] X.env:=by rfl) (hpl:(backTo pos (starEach [] X.env)).any (·.1)=false:=by rfl):QE X (.Call (.Name "min" p) [e] [] pos) (fB zHU fa) :=
 zC9 zPb (zMg hcalm hu) (by rfl) hg hm ha (by decide) (by decide) he hpl
end
structure Df (K:Yb) (mg:Yh) (x:Str) (st:Stmt) (ps:Yk) where
 f:Addr
 fd:FuncData
 F:Fun K x x st f fd
 b:zGC K fd ps []
 m:mg x=some (.ref f)
structure Dg (K:Yb) (x:Str) (st:Stmt) where
 f:Addr
 {od an:Option Addr}
 {sl:Array (Option Value)}
 {oc kV dc pm cd ct:Yu}
 a:PySem.W.nsIn K mainGlobals x=some (some (.ref f))
 l:K.lookup f=some ⟨oc,od,.func (PySem.W.fnOf x x (zD1 st) (zCi st) (zP st) .none kV dc pm an cd ct),sl⟩
 c:PySem.W.codeIn K cd x=true
 k:PySem.W.keepIn K (.ref f)=true
abbrev Dg.df {K:Yb} {x:Str} {st:Stmt} {ps:Yk} {h:Heap} {mg:Yh} (g:Dg K x st) (X:K.In h) (G:h.Ns mainGlobals mg)
  (hb:∀ (kV doc pm:Yu) (an:Option Addr) (cdv ct:Yu) (us:Yf),us.length=ps.length->bindArgs (PySem.W.fnOf x x (zD1 st) (zCi st) (zP st) .none kV doc pm an cdv ct) ⟨us,[]⟩=pure (ps.zip us)):Df K mg x st ps :=
 ⟨g.f,_,zOT g.l g.c g.k,(zOT g.l g.c g.k).binds hb,PySem.W.mg_of X G g.a⟩
abbrev Od (P:Ym) (w:Yo) (base:Heap) (k:Nat) {K:Yb} {mg:Yh} {x:Str} {st:Stmt} {ps:Yk} (d:Df K mg x st ps) (m:FF):Prop:=FnOk P w K mg base CX0 k d.f d.fd ps (spF K ps.length m)
abbrev Zn (K:Yb) (x:Str):Prop:=PySem.W.nsIn K mainGlobals x=some none
abbrev Ki (K:Yb) (t T:String) (b:Bool):Prop:=PySem.W.kitOne K (.type t) (.type T)=some b
theorem zGp {P:List Value->Prop} (h:∀ a,P [a]):∀ us:List Value,us.length=1->P us
 |[a],_=>h a
theorem zLC {P:List Value->Prop} (h:∀ a b,P [a,b]):∀ us:List Value,us.length=2->P us
 |[a,b],_=>h a b
theorem zKH {P:List Value->Prop} (h:∀ a b c,P [a,b,c]):∀ us:List Value,us.length=3->P us
 |[a,b,c],_=>h a b c
theorem zVR {P:List Value->Prop} (h:∀ a b c d,P [a,b,c,d]):∀ us:List Value,us.length=4->P us
 |[a,b,c,d],_=>h a b c d
section
variable {st:Stmt}
theorem zVX {d:Df X.K X.mg x st ps} (F:FnOk X.prog X.w X.K X.mg X.base CX0 k d.f d.fd ps (spF X.K (e::es).length g)) (hr:Room k X.A) (hg:Gl X x)
  (ha:QA X (e::es) fa) (hl:∀ σ M ds M1,fa σ M=some (ds,M1)->ds.length=(e::es).length) (hdb:(x==("__debug__" : Str))=false) (he:starEach (e::es) X.env=(false,eval e X.env)::starEach es X.env) (hpl:(backTo pos (starEach es X.env)).any (·.1)=false) :
  QE X (.Call (.Name x p) (e::es) [] pos) (zL g fa):=zTT F hr hg d.m d.F.kp d.b ha hl hdb he hpl
theorem zVL (hN:X.N.Nodup) (hi:X.N[i]?=some x) (h:QE X e f) (hx:Loc X.env.scope x:=by first|exact Or.inl rfl|exact Or.inr rfl) (hs:swapsWith e (some (.Name x pos')) pos.line X.env=pure false:=by rfl)
  (hf:X.fn x=true\/X.env.scope.names.lookup x=some .local:=by first|exact .inl rfl|exact .inr rfl|assumption):QS X (.Assign [.Name x pos'] e pos) (zj i f):=zUH hN hi hx h hs hf
theorem zUL (hN:X.N.Nodup) (hi:X.N[i]?=some x) (hx:Loc X.env.scope x:=by first|exact Or.inl rfl|exact Or.inr rfl) (hf:X.fn x=true\/X.env.scope.names.lookup x=some .local:=by first|exact .inl rfl|exact .inr rfl|assumption):PG X (.Name x pos) (zBX i):=zIO hN hi hx hf
end
section
theorem zMO (hv:s.heap.IsItemsView v d) (ho:s.heap.get? d=some o) (hdat:o.data=.dict es ep)
  (hQ:Q (.ref s.heap.objs.size) { s with heap:=s.heap.push { cls:=.type "dict_itemiterator", data:=.fields #[.none,.bool false,.ref d,.int 0 0,.int es.size 0,.int ep 0,.none,.none] } }):wpAny (model prog w) A (pyIter (.ref v)) Q E s:=by
 obtain ⟨q,hq,_,hd⟩:=id hv;refine wpAny_pyIter_slot hv.typeIs F.slot_dict_items_iter (zWJ F.slot_dict_items_iter hv.typeIs F.entry_dict_items_iter ?_ (F.args_dict_items_iter_1 _));unfold Builtin.«dict_items.__iter__»;refine zVg (zVi (zVg ?_));unfold Builtin.Dict_items.dictOf;refine zVg (zWL hq hd (x:=.ref d) rfl (zVi (zVg ?_)));unfold Builtin.Dict_items.newIterator;refine zVg (wpAny_dictEntries ho hdat (zVg (wpAny_dictEpoch ho hdat ?_)));simp only[show Builtin.Dict_items.ownsTuple "dict_itemiterator" = true by decide,if_true];refine zV9 (zVi ⟨_,rfl, "dict_itemiterator", _,⟨_,zVq _ rfl,rfl⟩,F.slot_dict_itemiterator_next.lookup,?_⟩) (by simp only[sizeOk,Builtin.Dict_items.ownedTupleFields,zVo,zVw,zWD,List.length_nil,sizeLine_eq];omega);simpa [rawInt,Builtin.Dict_items.ownedTupleFields] using hQ
theorem zGI (hh:A.handled=none) (hit:IsItemIter s.heap it d i es.size ep ok ov) (hod:s.heap.get? d=some o) (hdd:o.data=.dict es ep) (hge:es.size<=i)
  (hQ:∀ h',Heap.ExtBut it s.heap h'->Q none { s with heap:=h' }):wpAny (model prog w) A (pyNext (.ref it)) Q E s:=by
 have hT:s.TypeIs (.ref it) "dict_itemiterator" := ⟨_,hit,rfl⟩;unfold pyNext;refine zVg (wpAny_attempt (zWI (name:=Str.ofString "__next__") hT F.slot_dict_itemiterator_next (zWJ F.slot_dict_itemiterator_next hT F.entry_dict_itemiterator_next ?_ (F.args_dict_itemiterator_next_1 _))));refine zVg (zVi (zVg (zVg ?_)));first|refine zVg (wpAny_typeNameOfWhole_itemiter hT (zVi ?_))|refine zVg (wpAny_typeNameOf_itemiter hT (zVi ?_))
 refine zVg (wpAny_fieldsOf hit rfl ?_);simp only[show Builtin.Dict_items.ownsTuple "dict_itemiterator" = true by decide,if_true];show wpAny _ _ (if (Value.ref d==Value.none)=true then _ else _) _ _ s;rw[zVy (show ¬ ((Value.ref d==Value.none)=true)from zV2)];refine zVg (zVi (zVg (wpAny_dictEntries hod hdd ?_)));rw[zVy (by simp)];refine zVg (zVi (zVg (wpAny_dictEpoch hod hdd ?_)));rw[zVy (by simp)];refine zVi ?_;simp only[show ¬ ((i:Int)<0)from by omega,if_false,Int.toNat_natCast,Array.getElem?_eq_none hge];refine zVg ?_;first|refine zVg (wpAny_typeNameOfWhole_itemiter hT (zVi ?_))|refine zVg (wpAny_typeNameOf_itemiter hT (zVi ?_))
 show wpAny _ _ (setField (.ref it) 2 .none >>= _) _ _ s;refine zVg (zXR hit rfl (by simp) ?_);refine zVg ?_;simp only[newExc,newTuple];refine zVg (zV9 ?_ (by size_fits));refine zVg (m:=firstArgMember _ _) (wpAny_of_eq (a:=Value.none) (by first|rfl|(simp only[firstArgMember];rfl)) ?_);refine zV9 ?_ (by size_fits);simp only[raiseNew];refine zVg (wpAny_handled ?_);rw[show A.in1.handled=none from hh];refine zVg (zVi (wpAny_throw ?_));refine zVg (wpAny_isInstance (T := "StopIteration") (b:=true) ⟨_,zVq _ rfl,rfl⟩ isSubtype_stop ?_);exact zVi (hQ _ (((zWj ..).extBut.push _).push _))
theorem zLO (hit:IsItemIter s.heap it d i es.size ep ok ov) (hod:s.heap.get? d=some o) (hdd:o.data=.dict es ep) (hx:es[i]?=some e)
  (hQ:∀ h',IsItemIterOut h' it d (i+1) es.size ep e.key e.val s.heap.objs.size->h'.get? s.heap.objs.size=some { cls:=.type "tuple", data:=.seq #[e.key,e.val] }->(∀ b o,b≠it->s.heap.get? b=some o->h'.get? b=some o)->Q (some (.ref s.heap.objs.size)) { s with heap:=h' }) :
  wpAny (model prog w) A (pyNext (.ref it)) Q E s:=by
 obtain ⟨hp,g,dr,tk,os⟩:=s;have hT:Shared.TypeIs ⟨hp,g,dr,tk,os⟩ (.ref it) "dict_itemiterator" := ⟨_,hit,rfl⟩;obtain ⟨hlt,hxe⟩:=Array.getElem?_eq_some_iff.mp hx;unfold pyNext;refine zVg (wpAny_attempt (zWI (name:=Str.ofString "__next__") hT F.slot_dict_itemiterator_next (zWJ F.slot_dict_itemiterator_next hT F.entry_dict_itemiterator_next ?_ (F.args_dict_itemiterator_next_1 _))));refine zVg (zVi (zVg (zVg ?_)));first|refine zVg (wpAny_typeNameOfWhole_itemiter hT (zVi ?_))|refine zVg (wpAny_typeNameOf_itemiter hT (zVi ?_))
 refine zVg (wpAny_fieldsOf hit rfl ?_);simp only[show Builtin.Dict_items.ownsTuple "dict_itemiterator" = true by decide,if_true];show wpAny _ _ (if (Value.ref d==Value.none)=true then _ else _) _ _ _;rw[zVy (show ¬ ((Value.ref d==Value.none)=true)from zV2)];refine zVg (zVi (zVg (wpAny_dictEntries hod hdd ?_)));rw[zVy (by simp)];refine zVg (zVi (zVg (wpAny_dictEpoch hod hdd ?_)));rw[zVy (by simp)];refine zVi ?_;simp only[show ¬ ((i:Int)<0)from by omega,if_false,Int.toNat_natCast,zWR hlt,hxe];refine zVg ?_;first|refine zVg (wpAny_typeNameOfWhole_itemiter hT (zVi ?_))|refine zVg (wpAny_typeNameOf_itemiter hT (zVi ?_))
 refine zVg (wpAny_isOneOf_itemiter hT ?_);show wpAny _ _ (setField (.ref it) 3 (rawInt ((i:Int)+1)) >>= _) _ _ ⟨hp,g,dr,tk,os⟩;refine zVg (wpAny_setField_rec hit (by simp) λh1 he1 hs1=>?_);replace hs1:Heap.SameBut it hp h1:=hs1;replace he1:IsItemIter h1 it d (i+1) es.size ep ok ov:=by
  have q:((i+1:Nat):Int)=(i:Int)+1:=by omega
  unfold IsItemIter;rw[q];simpa [rawInt] using he1
 have hT1:Shared.TypeIs ⟨h1,g,dr,tk,os⟩ (.ref it) "dict_itemiterator" := ⟨_,he1,rfl⟩;refine zVg (zWZ (zVg (wpAny_isOneOf_itemiter hT1 (zVg (wpAny_isOneOf_itemiter hT1 ?_)))));unfold Builtin.Dict_items.pairFromOwner;refine zVg (wpAny_newTuple ?_);have he2:IsItemIter (h1.push { cls:=.type "tuple", data:=.seq #[e.key,e.val] }) it d (i+1) es.size ep ok ov:=zVh _ he1;generalize hh2:h1.push { cls:=.type "tuple", data:=.seq #[e.key,e.val] }=h2 at he2;have z1:h1.objs.size=hp.objs.size:=hs1.1;have hil:it<hp.objs.size:=zVr hit;have t2:h2.get? hp.objs.size=some { cls:=.type "tuple", data:=.seq #[e.key,e.val] }:=by rw[<-hh2,<-z1];exact zVq _ rfl
 have k2:∀ b o,b≠it->hp.get? b=some o->h2.get? b=some o:=λb o hb q=>by rw[<-hh2];exact zVh _ (hs1.extBut b o hb q)
 show wpAny _ _ (Builtin.Dict_items.ownedTupleIsFree (.ref it) >>= _) _ _ ⟨h2,g,dr,tk,os⟩;rw[z1];refine zVg ?_;unfold Builtin.Dict_items.ownedTupleIsFree;refine zVg (zWL he2 rfl (x:=.none) rfl (zVi ?_));simp only[if_true];refine zVg (zWL he2 rfl (x:=ok) rfl (zVg (zWL he2 rfl (x:=ov) rfl ?_)));refine zVg (wpAny_setField_rec he2 (by simp) λh3 he3 hs3=>?_);replace he3:IsItemIter h3 it d (i+1) es.size ep e.key ov:=he3;replace hs3:Heap.SameBut it h2 h3:=hs3;refine zVg (wpAny_setField_rec he3 (by simp) λh4 he4 hs4=>?_);replace he4:IsItemIter h4 it d (i+1) es.size ep e.key e.val:=he4;replace hs4:Heap.SameBut it h3 h4:=hs4;refine zVg (wpAny_setField_rec he4 (by simp) λh5 he5 hs5=>?_);replace he5:IsItemIterOut h5 it d (i+1) es.size ep e.key e.val hp.objs.size:=he5;replace hs5:Heap.SameBut it h4 h5:=hs5;refine zVg (wpAny_setField_rec he5 (by simp) λh6 he6 hs6=>?_);replace he6:IsItemIterOut h6 it d (i+1) es.size ep e.key e.val hp.objs.size:=he6;replace hs6:Heap.SameBut it h5 h6:=hs6;have up:∀ b o,b≠it->h2.get? b=some o->h6.get? b=some o:=λb o hb q=>hs6.extBut b o hb (hs5.extBut b o hb (hs4.extBut b o hb (hs3.extBut b o hb q)));exact zVg (wpAny_letGo (zVi (zVi ⟨_,rfl,zVi (hQ h6 he6 (up _ _ (zXB hil) t2) λb o hb q=>up b o hb (k2 b o hb q))⟩)))
theorem zIq (d:Yt) (hd:(d==sysModules)=false) :
  MeetsIn prog w (Builtin.«dict.items» ⟨[.ref d],[]⟩) (λ_ R s=>s.TypeIs (.ref d) "dict" /\ R (.ok (.ret (.ref s.heap.objs.size))) { s with heap:=s.heap.push { cls:=.type "dict_items", data:=.fields #[.ref d] } }) :=
 .of_wp λA R s ⟨hT,h⟩=>by
  unfold Builtin.«dict.items»;refine zVg ?_;unfold Builtin.Dict.noArgs;refine zVg (wpAny_notOrdered_dict hT ?_);refine zVi ?_;unfold Builtin.Dict.showsAll;rw[zVy (by rw[hd];exact zV2)];exact zVg (zVi (zVg (zV9 (zVi ⟨_,rfl,h⟩))))
end
theorem zGU:entryFor table "dict_itemiterator.__iter__" = some Builtin.«dict_keyiterator.__iter__»:=entryFor_alias (id' := "dict_keyiterator.__iter__") (by kernel_rfl) rfl (by decide +kernel) (by kernel_rfl)
theorem zG7 (he:IsItemIter s.heap it d i n ep ok ov) (h:Q (.ref it) s):wpAny (model prog w) A (pyIter (.ref it)) Q E s:=by
 have hT:s.TypeIs (.ref it) "dict_itemiterator" := ⟨_,he,rfl⟩;refine wpAny_pyIter_slot hT F.slot_dict_itemiterator_iter (zWJ F.slot_dict_itemiterator_iter hT zGU ?_ (F.args_dict_itemiterator_iter_1 _));show wpAny _ _ (ret (.ref it)) _ _ s;exact zVi ⟨_,rfl, "dict_itemiterator", _,hT,F.slot_dict_itemiterator_next.lookup,h⟩
def zUq (d:Yt) (o:Obj) (kvs:List (List Key × V)):It :=
 ⟨λi H=>H d=some (.frz o (.dT kvs))/\i<kvs.length,
  λi H v H'=>∃ T b k x,kvs[i]?=some (k,x)/\v=.ref T/\H T=none/\H b=some (.tup (k.map kV))/\H'=upd H T (.tup [.ref b,x]),
  λi H=>H d=some (.frz o (.dT kvs))/\kvs.length<=i⟩
theorem zOk (I:Inv X zB σ H s) (hd:o.data=.dict es ep) (e:H d=some (.frz o (.dT kvs))) :
  s.heap.get? d=some o /\ ∃ xs,KT H kvs xs/\es.toList=xs.map (entryOfKey (tupleKind (zAL X.prog X.w)))/\kvs.length=es.size:=by
 obtain ⟨h0,_,_,xs,r,o',es',ep',h1,_,h3,h4,_⟩:=(show zAm X.prog X.w H s.heap d (.frz o (.dT kvs))from I.hok d _ e);rw[h0]at h1;cases h1;rw[hd]at h3;cases h3;refine ⟨h0,xs,r,h4,?_⟩;have h5:es.toList.length=xs.length:=by rw[h4,zVp]
 rw[Paired.length r,<-h5,zWP]
theorem zP5:∀ {kvs:List (List Key × V)} {xs:List (List Key × Addr × Value)} {i:Nat} {k:List Key} {x:V},KT H kvs xs->kvs[i]?=some (k,x) -> ∃ b u,xs[i]?=some (k,b,u)/\H b=some (.tup (k.map kV))/\ze x u:=by
 intro kvs xs i k x r;induction r generalizing i with
 |nil=>intro e;cases e
 | @cons p q ps qs hq t ih=>
  intro e;cases i with
  |zero=>
   cases e;obtain ⟨q1,q2,q3⟩:=q;exact ⟨q2,q3,by rw[show k=q1 from hq.1];rfl,hq.2.1,hq.2.2⟩
  |succ j=>exact ih e
theorem zLl {P:Ym} {w:Yo} {K:Yb} {tes:Yi} {ek:Nat} {ep:Pos} {it d:Yt} {o:Obj} {kvs:List (List Key × V)} {es:Array DictEntry} {en:Nat} (hd:o.data=.dict es en) :
  Turn P w K (.Tuple tes ek ep) (zUq d o kvs) [it] it (λi h=>∃ ok ov,IsItemIter h it d i es.size en ok ov) where
 mem:=zV8.mpr rfl;obj:=λi h ⟨ok,ov,he⟩ c hc=>by
  cases zV8.mp hc;exact ⟨_,he,λv m=>by cases m⟩
 keep:=λi h h' ⟨ok,ov,he⟩ k=>⟨ok,ov,k it (zV8.mpr rfl) _ he⟩;item:=by
  intro X hP hw hK hc i zB s σ H E I hf Z hg;subst hP hw hK;obtain ⟨ok,ov,he⟩:=Z;obtain ⟨hg,hi⟩:=hg;obtain ⟨h0,xs,r,h4,hl⟩:=zOk I hd hg;rcases hkx:kvs[i]with ⟨k,x⟩;have hk:kvs[i]?=some (k,x):=by rw[zVk hi,hkx]
  obtain ⟨b,u,h5,h6,h7⟩:=zP5 r hk;have hx:es[i]?=some (entryOfKey (tupleKind (zAL X.prog X.w)) (k,b,u)):=by
   rw[<-zXL,h4,zV3,h5];rfl
  have ilt:it<s.heap.objs.size:=zVr he;refine zLO he h0 hd hx λh' ho hT kp=>⟨_,rfl,wpAny_letOwnedTupleGo_items ho λh2 he2 e2=>?_⟩;have kk:∀ c q,c∉[it]->s.heap.get? c=some q->h2.get? c=some q:=λc q n z=>e2.extBut _ _ (λy=>n (zV8.mpr y)) (kp c q (λy=>n (zV8.mpr y)) z);have NT:=e2.extBut _ _ (zXB ilt) hT;have hfr:H s.heap.objs.size=none:=I.hok.fresh (zVm _);refine ⟨.ref s.heap.objs.size,upd H s.heap.objs.size (.tup [.ref b,x]),zFW (s:=s) (h':=h2) (t':=s.toks) I hf kk (zVm _) ?_,rfl,⟨_,b,k,x,hk,rfl,hfr,h6,rfl⟩,⟨_,_,he2⟩,λc hm=>?_⟩
  .exact ⟨by show 2<=sizeLine;decide,[.ref b,u],.cons rfl (.cons h7 .nil),⟨_,NT,rfl,⟨_,rfl⟩,rfl⟩⟩
  .cases zV8.mp hm;rw[zV (zV1 ilt)];exact (hf it hm).1
 done:=by
  intro X hP hw hK hc i zB s σ H E I hf Z hg;subst hP hw hK;obtain ⟨ok,ov,he⟩:=Z;obtain ⟨hg,hi⟩:=hg;obtain ⟨h0,xs,r,h4,hl⟩:=zOk I hd hg;exact zGI (I.ok.hd hc) he h0 hd (by omega) λh' x=>⟨rfl,zDx (s:=s) (h':=h') (t':=s.toks) I hf λc q n z=>x c q (λy=>n (zV8.mpr y)) z⟩
 self:=λA i s Q E Z h=>by
  obtain ⟨ok,ov,he⟩:=Z;exact zG7 he h
theorem zSJ (I:Inv X zB σ H s) (ed:H d=some (.dT kvs)):∃ o es en,s.heap.get? d=some o/\o.data=.dict es en/\Inv X zB σ (upd H d (.frz o (.dT kvs))) s:=by
 obtain ⟨z1,z2,xs,r,o,es',en,h1,h2,h3,h4,h5⟩:=(show zAm X.prog X.w H s.heap d (.dT kvs)from I.hok d _ ed);refine ⟨o,es',en,h1,h3,zEd (s:=s) (h':=s.heap) (t':=s.toks) (ob:=.frz o (.dT kvs)) I (by rw[ed];exact True.intro) (Heap.SameBut.refl _ _) ⟨o,h1⟩ ⟨h1,z1,z2,xs,KT.keeps r λc ys ec=>?_,o,es',en,h1,h2,h3,h4,h5⟩⟩;rw[zV (zGQ ec ed (λz=>nomatch z))];exact ec
section
theorem zPX {td:TE} (ho:PE X e td) (hbase:attributeBase e "items" X.env (eval e X.env)=eval e X.env:=by rfl) (hline:(apos.endLine==cpos.line)=true:=by rfl) :
  PI X (.Tuple es ek ep) (.Call (.Attribute e "items" apos) [] [] cpos) (λσ H R=>td σ H λx H1=>∃ d kvs,x=.ref d/\H1 d=some (.dT kvs) /\ ∀ o,R (zUq d o kvs) (upd H1 d (.frz o (.dT kvs)))):=by
 intro zB s σ H R I h;refine wpAny_Call_method0_late hbase hline (thn (ho zB s σ H _ I h) λv s1 ⟨x,H1,I1,r1,d,kvs,ex,ed,q⟩=>?_);subst ex;cases r1;obtain ⟨t1,t2,t3⟩:=zP8 I1 (.inr ⟨kvs,.inl ed⟩);refine ⟨"dict", "dict.items", PySem.F.plainAttrs_dict,PySem.F.slot_dict_items,PySem.F.type_dict_items,t1,t2,Calls.callWith_builtin rfl (PySem.evalArgs_none ?_)⟩;refine call_meetsIn PySem.F.slot_dict_items t1 PySem.F.entry_dict_items (PySem.F.args_dict_items_1 _) (zIq d t3) ⟨t1,?_⟩;obtain ⟨o,es',en,h1,h3,I0⟩:=zSJ I1 ed;refine zMO (d:=d) (o:=o) (es:=es') (ep:=en) ⟨_,zVq _ rfl,rfl,rfl⟩ (zVh _ h1) h3 ?_;have ge:s1.heap.objs.size<=(s1.heap.push { cls:=.type "dict_items", data:=.fields #[.ref d] }).objs.size:=by rw[zWM];exact zXO _
 refine ⟨_,[_],_,_,_,rfl,I0.kept (t':=s1.toks) λb q z=>zVh _ (zVh _ z),zLl h3,⟨_,_,zVq _ rfl⟩,λc hc=>?_,q o⟩;cases zV8.mp hc;exact I0.fpOk ge (I0.hok.fresh ge)
end
theorem zQh (h:zDc d=some k):Rep L H d (kV k):=by
 cases d with
 |int i=>cases h;unfold Rep;rfl
 |str x=>cases h;unfold Rep;rfl
 |_=>cases h
theorem zJW:∀ {ds:List D} {ks:List Key},zEA ds=some ks->zM L H ds (ks.map kV)
 |[],ks,h=>by cases h;exact .nil
 |d::ds,ks,h=>by
  unfold zEA at h;cases e1:zDc d with
  |none=>rw[e1]at h;cases h
  |some k=>
   cases e2:zEA ds with
   |none=>rw[e1,e2]at h;cases h
   |some ks'=>rw[e1,e2]at h;cases h;exact .cons (zQh e1) (zJW e2)
theorem zSv (h:tkD d=some k) (e:H b=some (.tup (k.map kV))):Rep L H d (.ref b):=by
 cases d with
 |tup ds=>unfold Rep;exact ⟨b,_,rfl,e,zJW h⟩
 |_=>cases h
theorem zMD:∀ {ps:List (D × D)} {vs:List (List Key × V)} {i:Nat} {p:D × D},zAe tkD L H ps vs->ps[i]?=some p -> ∃ k x,vs[i]?=some (k,x)/\tkD p.1=some k/\Rep L H p.2 x
 |[],_,i,p,_,e=>by cases e
 |q::ps,vs,i,p,h,e=>by
  obtain ⟨k,v,r',rfl,e1,h1,h2⟩:=h;cases i with
  |zero=>cases e;exact ⟨k,v,rfl,e1,h1⟩
  |succ j=>exact zMD (ps:=ps) (i:=j) h2 (by rw[List.getElem?_cons_succ]at e;exact e)
def zGs (f:FE):FI:=λσ M=>match f σ M with
 |some (.dat (.ref n),M1)=>match M1[n]? with
  |some (.dicT ps)=>some (ps.map λp=>D.tup [p.1,p.2],none,M1.set n (.set []))
  |_=>none
 |_=>none
section
theorem zPk (h:QE X e f) (hbase:attributeBase e "items" X.env (eval e X.env)=eval e X.env:=by rfl) (hline:(apos.endLine==cpos.line)=true:=by rfl) :
  QI X (.Tuple es ek ep) (.Call (.Attribute e "items" apos) [] [] cpos) (zGs f):=.mk <| PI.imp (zPX h.un hbase hline) λτ H R zz=>by
 obtain ⟨L,σ,M,xs,gd,M',c,rs,hf,q⟩:=zz;unfold zGs at hf;split at hf
 .rename_i n M1 e1;split at hf
  .rename_i ps e2;cases hf;refine ⟨L,σ,M,_,_,c,rs,e1,λL1 H1 v s1 c1 r1=>?_⟩;unfold zc Rep at r1;obtain ⟨a,rfl,ea⟩:=r1;obtain ⟨vs,e3,r3⟩:=c1.obj n a _ ea e2;refine ⟨a,vs,rfl,e3,λo=>?_⟩;obtain ⟨c2,s2⟩:=c1.put (m:=.set []) (o':=.frz o (.dT vs)) ea e3 (λ_ z=>by cases z) (λ_ _ z=>by cases z) λ_=>⟨o,_,zt⟩;refine q L1 _ _ (s1.trans s2) c2 λL2 H2 M2 s3 c3 _=>?_;have hz:H2 a=some (.frz o (.dT vs)):=s3.frz _ _ _ zt;have r4:=r3.stp (s2.trans s3);refine ⟨λi d hd=>?_,hz,by rw[zVp,r4.length];exact zVm _⟩;rw[zV3]at hd;cases hp:ps[i]? with
   |none=>rw[hp]at hd;cases hd
   |some p=>
    rw[hp]at hd;cases hd;obtain ⟨k,x,hk,ek,rx⟩:=zMD r4 hp;refine ⟨⟨hz,(zVj.mp hk).1⟩,λv H3 hy=>?_⟩;obtain ⟨T,b,k',x',hk',rfl,hT,hb,rfl⟩:=hy;rw[hk]at hk';cases hk';exact ⟨λa o e=>by rw[zV (zu e hT)];exact e,Rep.newTup hT (.cons (zSv ek hb) (.cons rx .nil))⟩
  .cases hf
 .cases hf
end
def zL5 (i j k:Nat):FG:=λd σ=>match d with
 |.tup [x,.tup [y,z]]=>some (((σ.set i (some x)).set j (some y)).set k (some z))
 |_=>none
abbrev gN3 (K:Yb) (i j k:Nat):TG:=zPa K 2 (zD8 (zBX i) (zD8 (zPa K 2 (zD8 (zBX j) (zD8 (zBX k) zOK))) zOK))
theorem zMQ {K:Yb} {own:Yj} {i j k:Nat} (hi:i∈own) (hj:j∈own) (hk:k∈own):zEK own (gN3 K i j k) (zL5 i j k):=by
 intro L H σ σ' τ τ0 d v Q rs ex r hf q;unfold zL5 at hf;split at hf
 .rename_i x y z;cases hf;unfold Rep at r;obtain ⟨a,vs,rfl,e,r⟩:=r;obtain ⟨v1,v2,rfl,r1,r2⟩:=r.two;unfold Rep at r2;obtain ⟨b,ws,rfl,e2,r2⟩:=r2;obtain ⟨w1,w2,rfl,r3,r4⟩:=r2.two;exact ⟨a,_,rfl,.of e,rfl,v1,[.ref b],rfl,.ref b,[],rfl,b,_,rfl,.of e2,rfl,w1,[w2],rfl,w2,[],rfl,rfl,rfl,q _ (((rs.set r1).set r3).set r4) (((ex.set hi).set hj).set hk)⟩
 .cases hf
end L3
namespace ST
open PySem PySem.Spec PyProof.Rows
end ST
namespace L3
open PySem PySem.Spec PyProof.Rows L2 ST
end L3
namespace ST
open PySem PySem.Spec PyProof.Rows
end ST
namespace L3
open PySem PySem.Spec PyProof.Rows L2 ST
end L3
namespace L2
open PySem PySem.Spec PyProof.Rows
section
variable {prog:Ym} {w:Yo} {A:Yn} {E:Yc} {s:Yl}
theorem zIY (hx:s.heap.get? a=some o) (hc:o.cls=.type "list") (hdat:o.data=.seq xs k) (hd:o.dict=none) (hA:A.handled=none)
  (h:∀ h' tk,(∀ b u,s.heap.get? b=some u->h'.get? b=some u)->Q none { s with heap:=h',toks:=tk }):wpAny (model prog w) A (getAttr? (.ref a) "keys") Q E s:=by
 obtain ⟨c,dct,dat,sl⟩:=o;simp only at hc hdat hd;subst hc hdat hd;obtain ⟨hp,g,d,tk,os⟩:=s;have hT:∀ tk',(⟨hp,g,d,tk',os⟩:Shared).TypeIs (.ref a) "list" := λ_=>⟨_,hx,rfl⟩;have f1:=sub_AttributeError;have f3:=F.slot_list_getattribute.lookup;have f4:=F.slot_list_getattribute.bind (.ref a);have f5:=am_list_getattr_none;have hmiss:typeLookup (.type "list") "keys" = pure none:=by rw[typeLookup_type,builtinLookup_eq_fast];kernel_rfl
 unfold getAttr? getAttrBy? getAttrBy;repeat (any_goals (first|assumption|exact hT _|((with_reducible show wpAny _ _ (call (Value.builtin "list.__getattribute__") _ _) _ _ _);refine call_meets F.slot_list_getattribute (hT _) am_entry_list_getattribute (F.args_list_getattribute_2 _ _) (meets_getattribute_miss_list a xs k sl "keys" _ hmiss (by decide)) ⟨hx,hA,λh' tk' e hx'=>?_⟩)|wp_step))
 obtain ⟨t',u',he⟩:=hx'.there;unfold getattributeRaised;repeat (any_goals (first|assumption|wp_step))
 exact h _ _ hx'.keeps
end
set_option genInjectivity true in
inductive Puts (d:Yt):List V->Hp->Hp->Prop
 |nil {H:Hp}:Puts d [] H H
 |cons {b:Yt} {k x:V} {vs:List V} {H H1 H2:Hp}:H b=some (.tup [k,x])->zEU H d k x H1->Puts d vs H1 H2->Puts d (.ref b::vs) H H2
theorem zDM:entryFor table "dict.update.loop" = some Builtin.«dict.update.loop»:=entryFor_of_tree (by kernel_rfl)
theorem zBE:plainId "dict.update.loop" = true:=by decide +kernel
theorem zEU.some {H H1:Hp} {d:Yt} {k x:V} (p:zEU H d k x H1):H d≠none /\ ∀ b,b≠d->H1 b=H b:=by
 rcases p with ⟨kvs,k,e,_,_,rfl⟩|⟨kvs,k,b,e,_,_,_,rfl⟩
 .exact ⟨by rw[e];simp,λb hb=>zV hb⟩
 .exact ⟨by rw[e];simp,λb hb=>zV hb⟩
section
variable {X:Cx} {zB:Yd} {σ:St} {A:Yn}
theorem zNI (hu:A.units+2<cLine) (hA:A.handled=none) (hai:a≠it) (had:a≠d) (P:Puts d vs H H2) :
  ∀ (pre its:Yf) (j:Int) (s:Yl),items.toList=pre++its->zb vs its->Inv X zB σ H s->zB5 X zB H it->s.heap.IsListIter it a pre.length->s.heap.IsList a items ->
   (∀ s',Inv X zB σ H2 s'->R (.ok (.ret .none)) s')->codeAny (model X.prog X.w) A (.builtin "dict.update.loop" ⟨[.ref d,.ref it,rawInt j,.none],[]⟩) R s:=by
 have W:=Walks.list (prog:=X.prog) (w:=X.w) (A:=A.in1) (by simpa using hA) it a hai items;induction P with
 |nil=>
  intro pre its j s hi hv I hf h1 h2 hR;cases hv;have hn:items.size=pre.length:=by rw[<-zWP,hi];simp
  refine zWl zDM ?_;rw[zWb zBE _];refine zVg (W.done s _ _ (by rw[hn];exact ⟨h1,h2⟩) λh' tk k=>?_);refine zVg (zVi ?_);exact zVi (hR _ (L3.zDx (s:=s) (h':=h') (t':=tk) I (ch:=[it]) (λb hb=>by cases zV8.mp hb;exact hf) λb u hb e=>k b u hb e))
 | @cons b k x vs H H1 H2 eb dp _ ih=>
  intro pre its j s hi hv I hf h1 h2 hR;cases hv with
  | @cons _ u _ its rb hv=>
  cases rb;have hlt:pre.length<items.size:=by rw[<-zWP,hi];simp
  refine zWl zDM ?_;rw[zWb zBE _];refine zVg (W.item pre.length s _ _ hlt ⟨h1,h2⟩ λv h' tk hP hst kk=>?_);have hv':v=.ref b:=by
   rw[<-zXL,hi]at hP;simpa using hP.symm
  subst hv';have I1:Inv X zB σ H { s with heap:=h',toks:=tk }:=L3.zDx (s:=s) (h':=h') (t':=tk) I (ch:=[it]) (λb hb=>by cases zV8.mp hb;exact hf) λb u hb e=>kk b u hb e;obtain ⟨us,ru,⟨o,eo,oc,no,od⟩,_⟩:=I1.tuple (a:=b) (xs:=[k,x]) (.inl (.inl eb));obtain ⟨u1,u2,rfl,r1,r2⟩:=zPd ru;refine zVg (zWZ ?_);refine zVg (wpAny_tryCatch ?_);unfold Builtin.Dict.pairItems;refine zVg (wpAny_typeOf (T := "tuple") ⟨o,eo,oc⟩ ?_);rw[zVv (by decide)];refine zVg (wpAny_seqItems eo od (zVi ?_));refine zWZ (zHz (show A.in1.units+1<cLine from hu) I1 dp r1 r2 λs3 I3 hs=>?_);obtain ⟨dn,ds⟩:=dp.some;have hid:it≠d:=λz=>dn (z▸hf.1);have hst3:=W.frame (pre.length+1) h' s3.heap hst λc hc o e=>by
   rw[hs.2 c (λz=>by
    rcases zVs.mp hc with q|q
    .exact hid (q.symm.trans z)
    .exact had ((zV8.mp q).symm.trans z))]
   exact e
  refine zVi ⟨plainId_quiet zBE _,ih (pre++[.ref b]) its (j+1) s3 (by rw[hi];simp) hv I3 ⟨(ds it hid).trans hf.1,hf.2⟩ (by rw[zVw];exact hst3.1) hst3.2 hR⟩
theorem zJY (hu:X.A.units+1+4<cLine) (hc:X.calm=true):zBz X (.type "dict") (λxs H Q=>∃ a vs isT,xs=[.ref a]/\H a=some (.lst vs) /\ ∀ p,H p=none -> ∃ H2,Puts p vs (upd H p (zBT isT)) H2/\Q (.ref p) H2):=by
 intro zB s σ H xs us Q I r h;obtain ⟨a,vs,isT,rfl,ea,q⟩:=h;obtain ⟨u,rfl,rx⟩:=zDX r;cases rx;obtain ⟨its,rv,⟨ol,nl,e1,e2,e3,e4⟩,hz⟩:=I.list (xs:=vs) (.inl (.inl ea));have hA:X.A.handled=none:=I.ok.hd hc;have hp:H s.heap.objs.size=none:=I.hok.fresh (zVm _);obtain ⟨H2,P,qq⟩:=q _ hp;refine callType_codes (Q₁:=λobj s₁=>obj=.ref s.heap.objs.size/\s₁={ s with heap:=s.heap.push zAc }) F.kt_called_dict (F.kt_typeCall_dict_1 _) F.entry_dict_init (kt_code_dict_new _ ⟨rfl,rfl⟩) ?_;rintro obj s₁ ⟨rfl,rfl⟩;have big:sysModules<s.heap.objs.size:=I.big;have hsm:(s.heap.objs.size==sysModules)=false:=by rw[beq_eq_false_iff_ne];exact zXB big
 have pD:(s.heap.push zAc).get? s.heap.objs.size=some zAc:=zVq _ rfl;have I1:Inv X zB σ (upd H s.heap.objs.size (zBT isT)) { s with heap:=s.heap.push zAc }:=by
  refine I.laid (t':=s.toks) (λb q z=>zVh _ z) (zVm _) ?_;cases isT with
  |false=>exact ⟨zWS _,hsm,[],.nil,zAc,#[],0,pD,⟨rfl,rfl,rfl⟩,rfl,λ_ he=>by simp at he,.nil,List.nodup_nil⟩
  |true=>exact ⟨zWS _,hsm,[],.nil,zAc,#[],0,pD,⟨rfl,rfl,rfl⟩,rfl,rfl,List.nodup_nil⟩
 have hl1:(s.heap.push zAc).get? a=some ol:=zVh _ e1;have hap:a≠s.heap.objs.size:=zV1 (zVr e1);refine ⟨⟨_,pD,rfl⟩,F.args_dict_init_2 _ _,?_⟩;unfold Builtin.«dict.__init__»;refine zVg ?_;unfold Builtin.Dict.selfAndRest;refine zVg (wpAny_notOrdered_dict ⟨_,pD,rfl⟩ ?_);refine zVi ?_;show wpAny _ _ (Builtin.Dict.updateFrom "dict.__init__" s.heap.objs.size (.ref a) [] .none) _ _ _;unfold Builtin.Dict.updateFrom;refine zVg (wpAny_typeOf (T := "list") ⟨ol,hl1,e2⟩ ?_);rw[zVv (by decide)];refine zVg (zIY hl1 e2 e4 e3 (by simpa using hA) λh' tk k=>?_);have I2:Inv X zB σ (upd H s.heap.objs.size (zBT isT)) { s with heap:=h',toks:=tk }:=I1.kept (t':=tk) k;rw[zVv (show (none:Option Value).isNone=true from rfl)];refine zVg (zW3 ?_);have hl2:h'.IsList a its.toArray:=⟨ol,k _ _ hl1,e2,nl,e4⟩;refine zVg (wpAny_pyIter_list (s:={ s with heap:=h',toks:=tk }) hl2 ?_);refine zVi ⟨plainId_quiet zBE _,?_⟩;have I3:Inv X zB σ (upd H s.heap.objs.size (zBT isT)) { s with heap:=h'.push { cls:=.type "list_iterator", data:=.fields #[.ref a,.int 0 0] },toks:=tk }:=I2.kept (t':=tk) λb u z=>zVh _ z;refine zNI (items:=its.toArray) (show X.A.in1.units+2<cLine from Nat.lt_of_le_of_lt (by show X.A.units+1+2<=_;omega) hu) (by simpa using hA) (zV1 (zVr (k _ _ hl1))) hap P [] its 0 _ (by simp) rv I3 ?_ ?_ ?_ ?_
 .exact I2.fpOk (zVm _) (I2.hok.fresh (zVm _))
 .exact ⟨_,zVq _ rfl,rfl,rfl⟩
 .exact ⟨ol,zVh _ (k _ _ hl1),e2,nl,e4⟩
 .exact λs' I'=>⟨rfl,.ref s.heap.objs.size,H2,I',rfl,qq⟩
end
end L2
namespace L3
open PySem PySem.Spec PyProof.Rows L2
def zFG (n:Nat):List D->Mem->Option Mem
 |[],M=>some M
 |.tup [k,v]::ds,M=>match zEb M n k v with
  |some M1=>zFG n ds M1
  |none=>none
 |_::_,_=>none
def zD4 (isT:Bool):KB:=λxs M=>match xs with
 |[.fl ds]=>match zFG M.length ds (M++[zES isT]) with
  |some M1=>some (.dat (.ref M.length),M1)
  |none=>none
 |_=>none
theorem zGW {K:Yb} {n:Nat} {p:Yt}:∀ {ds:List D} {L:Yg} {M M':Mem} {H:Hp} {vs:List V},Cor K L M H->L[n]?=some p->zM L H ds vs->zFG n ds M=some M' -> ∃ H',Puts p vs H H'/\Cor K L M' H'/\Stp L H L H'
 |[],L,M,M',H,vs,c,lp,r,e=>by
  unfold zM at r;subst r;cases e;exact ⟨H,.nil,c,.refl L H⟩
 |d::ds,L,M,M',H,vs,c,lp,r,e=>by
  unfold zM at r;obtain ⟨v,r',rfl,r1,r2⟩:=r;unfold zFG at e;split at e
  .rename_i h;cases h
  .rename_i k x ds' e0;cases e0;split at e
   .rename_i M1 e1;unfold Rep at r1;obtain ⟨b,ws,rfl,e2,r3⟩:=r1;unfold zM at r3;obtain ⟨vk,r4,rfl,rk,r5⟩:=r3;unfold zM at r5;obtain ⟨vx,r6,rfl,rx,r7⟩:=r5;unfold zM at r7;subst r7;obtain ⟨H1,dp,c1,s1⟩:=zF3 c lp rk rx e1;obtain ⟨H2,P,c2,s2⟩:=zGW c1 lp (r2.stp s1) e;exact ⟨H2,.cons e2 dp P,c2,s1.trans s2⟩
   .cases e
  .cases e
section
variable {X:Cx}
theorem zLd (isT:Bool):zFR X.K (λxs H Q=>∃ a vs isT,xs=[.ref a]/\H a=some (.lst vs) /\ ∀ p,H p=none -> ∃ H2,Puts p vs (upd H p (zBT isT)) H2/\Q (.ref p) H2) (zD4 isT):=by
 intro L M M' H H0 xs d vs Q c r hk q;unfold zD4 at hk;split at hk
 .rename_i ds;split at hk
  .rename_i M1 e1;cases hk;obtain ⟨v,rfl,r1⟩:=r.one;unfold zc at r1;obtain ⟨a,ws,rfl,_,e2,_,r2⟩:=r1;refine ⟨a,ws,isT,rfl,e2,λp hp=>?_⟩;obtain ⟨c0,s0⟩:Cor X.K (L++[p]) (M++[zES isT]) (upd H p (zBT isT))/\Stp L H (L++[p]) (upd H p (zBT isT)):=by
    cases isT with
    |true=>exact c.pushO (m:=.dicT []) hp ⟨[],zt,rfl⟩
    |false=>exact c.pushO (m:=.dict []) hp ⟨[],zt,rfl⟩
   have lp0:(L++[p])[M.length]?=some p:=by rw[<-c.len];simp
   obtain ⟨H2,P,c2,s2⟩:=zGW c0 lp0 (r2.stp s0) e1;refine ⟨H2,P,q _ _ _ (s0.trans s2) c2 ?_⟩;unfold zc Rep;exact ⟨p,rfl,lp0⟩
  .cases hk
 .cases hk
theorem zOL (isT:Bool) (hu:X.A.units+1+4<cLine) (hc:X.calm=true) (hg:Gl X "dict") (hm:X.mg "dict" = none) (ha:QAE X [e] fa) (he:starEach [e] X.env=(false,eval e X.env)::starEach [] X.env:=by rfl) (hpl:(backTo pos (starEach [] X.env)).any (·.1)=false:=by rfl):QE X (.Call (.Name "dict" p) [e] [] pos) (fB (zD4 isT) fa) :=
 zGT (zLd isT) (zJY hu hc) (by rfl) hg hm ha (by decide) (by decide) he hpl
end
end L3
namespace L2
open PySem PySem.Spec PyProof.Rows ST
end L2
namespace L3
open PySem PySem.Spec PyProof.Rows L2 ST
section
variable {prog:Ym} {w:Yo} {K:Type} [DecidableEq K] {knd:HeapKind prog w K} {A:Yn} {E:Yc} {s:Yl}
theorem zLP (ha:(a==sysModules)=false) (hb:(b==sysModules)=false) (hu:knd.room A)
  (da:s.heap.DictOfH knd a xa) (db:s.heap.DictOfH knd b xb) (hl:xa.length=xb.length) (hits:∀ (i:Nat) k p v,xa[i]?=some (k,p,v)->(∃ (j:Nat) (q:Addr × Value),xb[j]?=some (k,q)) /\ ∀ (j:Nat) q y,xb[j]?=some (k,q,y)->SeqAt.EqAt A s v y true) (h:Q true s) :
  wpAny (model prog w) A (Builtin.Dict.samePairs nm a b) Q E s:=by
 obtain ⟨oa,es,ep,hoa,_,hda,hea,hka,hna⟩:=da;obtain ⟨ob,es',ep',hob,_,hdb,heb,hkb,hnb⟩:=db;have hla:=size_of_entries hea;have hlb:=size_of_entries heb;have hsz:es.size=es'.size:=by rw[hla,hlb,hl]
 unfold Builtin.Dict.samePairs Builtin.Dict.showsAll;rw[zVy (show ¬ (a==sysModules)=true by rw[ha];exact zV2),zVy (show ¬ (b==sysModules)=true by rw[hb];exact zV2)];refine zVg (zVi (zVg (zVi ?_)));refine zVg (wpAny_dictEntries hoa hda ?_);dsimp only;refine zVg (wpAny_dictEntries hob hdb ?_);rw[zVy (by rw[hsz];simp)];refine zVg (wpAny_dictEpoch hoa hda ?_);refine zVg ?_;rw[Std.Legacy.Range.forIn_eq_forIn_range'];simp only[Std.Legacy.Range.size,Nat.sub_zero,Nat.add_sub_cancel,Nat.div_one];refine wpAny_forIn_list _ (λrest q s'=>s'=s/\q=(none,()) /\ ∃ i,rest=List.range' i (es.size-i)/\i<=es.size) _ ?_ ?_ _ _ ⟨rfl,rfl,0,by simp,zWS _⟩
 .rintro x rest q s' ⟨rfl,rfl,i,hr,hi⟩;have hlt:i<es.size:=by
   rcases Nat.lt_or_ge i es.size with h|h
   .exact h
   .rw[Nat.sub_eq_zero_of_le h]at hr;simp at hr
  obtain ⟨rfl,hrest⟩:x=i/\rest=List.range' (i+1) (es.size-(i+1)):=by
   have e:es.size-i=(es.size-(i+1))+1:=by omega
   rw[e,List.range'_succ]at hr;injection hr with h1 h2
   exact ⟨h1,h2⟩
  refine zVg (wpAny_dictEntries hoa hda ?_);have hlt':x<xa.length:=by rw[<-hla];exact hlt
  obtain ⟨k,p,v,hkv⟩:∃ k p v,xa[x]=(k,p,v):=⟨_,_,_,rfl⟩;have hx:xa[x]?=some (k,p,v):=by rw[zVk hlt',hkv]
  rw[entry_at hea x,hx];obtain ⟨⟨j0,q0,hj0⟩,hall⟩:=hits x k p v hx;show wpAny _ _ (holding [.ref p,v] _ >>= _) _ _ _;refine zVg (zWZ (zVg (wpAny_dictFind_heap hu (hka (k,p,v) (zWX hx)) hob hdb heb hkb hnb (λhno=>absurd hj0 (hno j0 q0)) λj q hj=>?_)));obtain ⟨q,y⟩:=q;refine zVg (wpAny_dictEntries hob hdb ?_);rw[entry_at heb j,hj];refine zWZ (hall j q y hj prog w _ _ ?_);show wpAny _ _ (if (!true)=true then _ else _) _ _ _;rw[zVy (by decide)];refine zVg (wpAny_dictEpoch hoa hda ?_);rw[zVy (by simp)];exact zVi ⟨rfl,rfl,x+1,hrest,hlt⟩
 .rintro q s' ⟨rfl,rfl,i,hr,hi⟩;exact zVi h
theorem zP9 (ha:(a==sysModules)=false) (hb:(b==sysModules)=false) (hu:A.units<cLine) (hr:knd.room A.in1)
  (da:s.heap.DictOfH knd a xa) (db:s.heap.DictOfH knd b xb) (hl:xa.length=xb.length) (hits:∀ (i:Nat) k p v,xa[i]?=some (k,p,v)->(∃ (j:Nat) (q:Addr × Value),xb[j]?=some (k,q)) /\ ∀ (j:Nat) q y,xb[j]?=some (k,q,y)->SeqAt.EqAt A.in1 s v y true) (h:Q (.bool false) s) :
  wpAny (model prog w) A (compareOp .NotEq (.ref a) (.ref b)) Q E s:=by
 refine wpAny_richCompare_same_room (op:=.NotEq) da.typeIs db.typeIs PySem.F.slot_dict_ne (zWJ PySem.F.slot_dict_ne da.typeIs PySem.F.entry_dict_ne ?_ (PySem.F.args_dict_ne_2 _ _)) hu;show wpAny _ _ (Builtin.Dict.dictSlotArgs "__ne__" ⟨[.ref a,.ref b],[]⟩ >>= _) _ _ s;refine zVg ?_;unfold Builtin.Dict.dictSlotArgs;refine zVg (wpAny_notOrdered_dict da.typeIs ?_);show wpAny _ _ (pure (Value.ref a,Value.ref b)) _ _ s;refine zVi ?_;refine zVg (wpAny_isInstance (T := "dict") db.typeIs PySem.F.sub_dict_dict ?_);simp only[Bool.not_true,zWh,if_false];refine zVg (zVi (zVg (zVi ?_)));refine zVg (zLP ha hb hr da db hl hits ?_);refine zVi ⟨_,rfl,?_,?_⟩
 .exact λx=>nomatch x
 .simpa using h
end
def zUn:R2:=λx y H Q=>∃ a b ka kb,x=.ref a/\y=.ref b/\H a=some (.dT ka)/\H b=some (.dT kb)/\ka.length=kb.length/\(∀ (k:List Key) (v:V),(k,v)∈ka -> ∃ i:Int,v=.int i/\(∃ u,(k,u)∈kb) /\ ∀ u,(k,u)∈kb->u=.int i)/\Q (.bl false) H
theorem zMI {H:Hp} {kvs:List (List Key × V)} {xs:List (List Key × Addr × Value)} (r:KT H kvs xs) {i:Nat} {k:List Key} {p:Yt} {u:Yu} (h:xs[i]?=some (k,p,u)):∃ x,kvs[i]?=some (k,x)/\ze x u:=by
 have hl:=Paired.length r;have hi:i<kvs.length:=by have:=(zVj.mp h).1;omega
 obtain ⟨k',x,e⟩:∃ k' x,kvs[i]=(k',x):=⟨_,_,rfl⟩;obtain ⟨b,u',e1,_,ru⟩:=zP5 r (show kvs[i]?=some (k',x) by rw[zVk hi,e]);rw[h]at e1;cases e1;exact ⟨x,by rw[zVk hi,e],ru⟩
section
variable {X:Cx} {a b:Expr} {pos:Pos} {f g:FE}
theorem zSd (hu:X.A.units+1<cLine):OpR X (compareOp .NotEq) zUn:=by
 intro zB s σ H x y v u Q I rx ry z;obtain ⟨a,b,ka,kb,rfl,rfl,ea,eb,hl,hh,q⟩:=z;cases rx;cases ry;obtain ⟨_,ya,xa,ra,da⟩:=zLp I.hok ea;obtain ⟨_,yb,xb,rb,db⟩:=zLp I.hok eb;have la:=Paired.length ra;have lb:=Paired.length rb;refine zP9 ya yb (by omega) (tupleKind_room_in1 hu) da db (by omega) (λi k p v hx=>?_) ⟨.bl false,H,I,rfl,q⟩;obtain ⟨x,ex,rx⟩:=zMI ra hx;obtain ⟨n,rfl,⟨u0,hu0⟩,hall⟩:=hh k x (zWX ex);refine ⟨?_,λj q y hy=>?_⟩
 .obtain ⟨j,hj,e⟩:=zXj hu0;obtain ⟨b',u',e1,_,_⟩:=zP5 rb (show kb[j]?=some (k,u0) by rw[zVk hj,e]);exact ⟨j,_,e1⟩
 .obtain ⟨x',ex',rx'⟩:=zMI rb hy;have:=hall x' (zWX ex');subst this;obtain ⟨t,rfl⟩:=rx;obtain ⟨t',rfl⟩:=rx';have:=SeqAt.EqAt.int_int (A:=X.A.in1) (s:=s) n t n t';rw[show (n==n)=true by simp]at this;exact this
def zU3 (ps qs:List (D × D)):Prop:=ps.length=qs.length /\ ∀ p∈ps,∃ i:Int,p.2=.int i/\(∃ q∈qs,tkD q.1=tkD p.1) /\ ∀ q∈qs,tkD q.1=tkD p.1->q.2=.int i
open Classical in
def zNO:K2:=λx y M=>match x,y with
 |.dat (.ref n),.dat (.ref k)=>match M[n]?,M[k]? with
  |some (.dicT ps),some (.dicT qs)=>if zU3 ps qs then some (.dat (.bl false),M) else none
  |_,_=>none
 |_,_=>none
theorem zFu:∀ {ps:List (D × D)} {vs:List (List Key × V)} {k:List Key} {v:V},zAe tkD L H ps vs->(k,v)∈vs -> ∃ p∈ps,tkD p.1=some k/\Rep L H p.2 v
 |[],vs,k,v,h,hm=>by unfold zAe at h;subst h;cases hm
 |p::ps,vs,k,v,h,hm=>by
  obtain ⟨k',v',r',rfl,e,h1,h2⟩:=h;rcases zVs.mp hm with z|z
  .cases z;exact ⟨p,by simp,e,h1⟩
  .obtain ⟨q,hq,e2,r2⟩:=zFu h2 z;exact ⟨q,by simp[hq],e2,r2⟩
theorem zHy:∀ {ps:List (D × D)} {vs:List (List Key × V)} {p:D × D},zAe tkD L H ps vs->p∈ps -> ∃ k v,tkD p.1=some k/\(k,v)∈vs
 |[],vs,p,h,hm=>by cases hm
 |q::ps,vs,p,h,hm=>by
  obtain ⟨k',v',r',rfl,e,h1,h2⟩:=h;rcases zVs.mp hm with z|z
  .subst z;exact ⟨k',v',e,by simp⟩
  .obtain ⟨k,v,e2,r2⟩:=zHy h2 z;exact ⟨k,v,e2,by simp[r2]⟩
theorem zQy {K:Yb}:zCk K zUn zNO:=by
 intro L M M' H H0 x y d v w Q cc rx ry hk q;unfold zNO at hk;split at hk
 .rename_i n k;split at hk
  .rename_i ps qs e1 e2;split at hk
   .rename_i hs;cases hk;obtain ⟨hl,hp⟩:=hs;unfold zc Rep at rx ry;obtain ⟨a,rfl,ea⟩:=rx;obtain ⟨b,rfl,eb⟩:=ry;obtain ⟨vs,hv,rv⟩:=cc.obj n a _ ea e1;obtain ⟨ws,hw,rw'⟩:=cc.obj k b _ eb e2;refine ⟨a,b,vs,ws,rfl,rfl,hv,hw,by rw[rv.length,rw'.length,hl],λkk v hm=>?_,q L H _ (.refl L H) cc (zBc (L:=L) (H:=H))⟩;obtain ⟨p,hpm,ek,r⟩:=zFu rv hm;obtain ⟨i,e3,⟨q0,hq0,ek0⟩,hall⟩:=hp p hpm;rw[e3]at r;have r':v=.int i:=by unfold Rep at r;exact r
    refine ⟨i,r',?_,λu hu=>?_⟩
    .obtain ⟨k2,u2,ek2,hm2⟩:=zHy rw' hq0;rw[ek0,ek]at ek2;cases ek2;exact ⟨u2,hm2⟩
    .obtain ⟨p2,hp2,ek2,r2⟩:=zFu rw' hu;rw[hall p2 hp2 (by rw[ek2,ek])]at r2;unfold Rep at r2;exact r2
   .cases hk
  .cases hk
 .cases hk
theorem zTa (hu:X.A.units+1<cLine) (h1:QE X a f) (h2:QE X b g):QT X (.Compare a [.NotEq] [b] pos) (tst (fOp zNO f g)):=zDn zQy (zSd hu) h1 h2 (zDI _)
end
end L3
namespace Law
open PySem PySem.Spec PyProof.Rows L2 L3
def zDV:FS:=(zW (zj 1 (fOp zAT (fB zBb (zQ (zC 0) zf)) (fC (.int 3))))
  (zW (zCl (zAK (fSl (zC 0) zD7 (zDf (fC (.int 63))))) (gN 2) (zj 1 (fOp zE2 (fOp zAT (fOp zAT (fOp zNG (zC 1) (fC (.int 6364136223846793))) (fOp zE2 (zC 2) (fOp zPS (fC (.int 10)) (fC (.int 30))))) (fC (.int 1442695040888963))) (fC (.int 2305843009213693951)))))
  (zAR (zA5 (zD (toD (zq [2] (zAK (fSl (zC 0) zD7 (zDf (fC (.int 63))))) (gN 2) (tst (fOp kGe (fB zNb (zQ (zC 2) zf)) (fOp zPS (fC (.int 10)) (fC (.int 18))))) (fB zNb (zQ (zC 2) zf)))) (zD (toD (zC 1)) zH))))))
def zBq:FF:=zBI 3 zDV
def zET:FS:=(zW (zA4 (zBy (tst (fOp kNe (fOp kIx (zC 0) (fC (.int 0))) (zA5 zH))) (tst (fOp kEq (fOp kIx (fOp kIx (zC 0) (fC (.int 0))) (fC (.int 0))) (fC (.int 0))))) (zBp (fM zJZ (fOp kIx (zC 0) (fC (.int 0))) (zD (toD (fC (.int 0))) zH))) 100)
  (zW (sIf (tst (fOp kNe (fOp kIx (zC 0) (fC (.int 0))) (zA5 zH))) (zW (zj 2 (fOp zE2 (fOp kIx (fOp kIx (zC 0) (fC (.int 0))) (fC (.int 0))) (zC 1)))
  (zW (zLF (fOp zNM (fOp kIx (fOp kIx (zC 0) (fC (.int 0))) (fC (.int 0))) (zC 1)) (fOp kIx (zC 0) (fC (.int 0))) (fC (.int 0)))
  (zAR (zC 2)))) zBs)
  (zW (zLF (fOp zE2 (fOp zAT (fOp zNG (fOp kIx (zC 0) (fC (.int 1))) (fC (.int 6364136223846793))) (fC (.int 1442695040888963))) (fC (.int 2305843009213693951))) (zC 0) (fC (.int 1)))
  (zAR (fOp zE2 (fOp zNM (fOp zE2 (fOp zNG (fOp kIx (zC 0) (fC (.int 1))) (fOp kIx (zC 0) (fC (.int 1)))) (fC (.int 2305843009213693921))) (fC (.int 65537))) (zC 1))))))
def zR:FF:=zBI 3 zET
structure Gen (M:Mem) (n k:Nat):Prop where
 ex:∃ (c:Ye) (s:Int),M[n]?=some (.lst [.ref k,.int s])/\M[k]?=some (.lst (c.map D.int))/\(∀ x∈c,0<=x)/\c.length<=63/\0<=s/\s<2305843009213693951
 ne:n≠k
 wf:∀ (j:Nat) u,M[j]?=some u->MO.und M.length u=true
structure Nx (M M':Mem) (n k:Nat):Prop where
 gen:Gen M' n k
 len:M'.length=M.length
 fr:∀ j,j≠n->j≠k->M'[j]?=M[j]?
theorem Nx.refl (h:Gen M n k):Nx M M n k:=⟨h,rfl,λ_ _ _=>rfl⟩
theorem Nx.trans {M M1 M2:Mem} {n k:Nat} (a:Nx M M1 n k) (b:Nx M1 M2 n k):Nx M M2 n k:=⟨b.gen,b.len.trans a.len,λj h1 h2=>(b.fr j h1 h2).trans (a.fr j h1 h2)⟩
theorem zk (n:Nat):∀ c:List Int,D.unds n (c.map D.int)=true
 |[]=>rfl
 |x::r=>by
  show (D.und n (D.int x)&&D.unds n (r.map D.int))=true;rw[zk n r];rfl
theorem Gen.lt (h:Gen M n k):n<M.length/\k<M.length:=by
 obtain ⟨c,s,e1,e2,_⟩:=h.ex;exact ⟨(zVj.mp e1).1,(zVj.mp e2).1⟩
theorem Gen.put {M:Mem} (h:Gen M n k) {c:Ye} (hc:∀ x∈c,0<=x) (hl:c.length<=63) (h0:0<=s) (h1:s<2305843009213693951) :
  Nx M ((M.set k (.lst (c.map D.int))).set n (.lst [.ref k,.int s])) n k:=by
 obtain ⟨hn,hk⟩:=h.lt;refine ⟨⟨⟨c,s,?_,?_,hc,hl,h0,h1⟩,h.ne,λj u e=>?_⟩,by simp,λj h1 h2=>?_⟩
 .rw[zWa (by simpa using hn)]
 .rw[zWA h.ne,zWa hk]
 .rw[List.length_set,List.length_set];rw[zXF]at e;split at e
  .split at e
   .cases e;show D.unds _ _=true;unfold D.unds D.unds D.unds D.und;simp[hk]
   .cases e
  .rw[zXF]at e;split at e
   .rename_i z;subst z;cases e;exact zk _ _
   .exact h.wf j u e
 .rw[zWA (Ne.symm h1),zWA (Ne.symm h2)]
theorem zGw {M:Mem} (h:M[k]?=some u):M.set k u=M:=by
 apply List.ext_getElem?;intro i;rw[zXF];split
 .rename_i e;subst e;rw[zVv (zVj.mp h).1];exact h.symm
 .rfl
theorem zKG:∀ {a b:Ye},a.map D.int=b.map D.int->a=b
 |[],[],_=>rfl
 |[],_::_,h=>by cases h
 |_::_,[],h=>by cases h
 |x::a,y::b,h=>by
  rw[zVz,zVz]at h;have h1:=(zWk h).1;have h2:=zKG (zWk h).2;cases h1;rw[h2]
theorem at0 {x:D} {xs:List D}:atI (x::xs) 0=some x:=zPA (k:=0) rfl
theorem at1 {x y:D} {xs:List D}:atI (x::y::xs) 1=some y:=zPA (k:=1) rfl
theorem zRN (h:Gen M n k) (h0:0<m) (h1:m<1073741824) :
  Ok (zR [.ref n,.int m] M) λd M'=>(∃ i,d=.int i/\0<=i/\i<m)/\Nx M M' n k:=by
 unfold zR;rw[zx];unfold zET;rw[zK];have st:∀ {M:Mem} {c:Ye} {s:Int} {σ:Sd} {P:EV->Mem->Prop},σ[0]?=some (some (.ref n))->M[n]?=some (.lst [.ref k,.int s])->P (.dat (.ref k)) M->Ok (fOp kIx (zC 0) (fC (.int 0)) σ M) P:=λhσ hM p=>
  zAE.mpr (zo.mpr ⟨_,hσ,zB1.mpr (zK0 (zAU hM) at0 p)⟩)
 have sd:∀ {M:Mem} {s:Int} {σ:Sd} {P:EV->Mem->Prop},σ[0]?=some (some (.ref n))->M[n]?=some (.lst [.ref k,.int s])->P (.dat (.int s)) M->Ok (fOp kIx (zC 0) (fC (.int 1)) σ M) P:=λhσ hM p=>
  zAE.mpr (zo.mpr ⟨_,hσ,zB1.mpr (zK0 (zAU hM) at1 p)⟩)
 have hd:∀ {M:Mem} {c:Ye} {x s:Int} {σ:Sd} {P:EV->Mem->Prop},σ[0]?=some (some (.ref n))->M[n]?=some (.lst [.ref k,.int s])->M[k]?=some (.lst ((x::c).map D.int))->P (.dat (.int x)) M->Ok (fOp kIx (fOp kIx (zC 0) (fC (.int 0))) (fC (.int 0)) σ M) P:=λ{M c x s σ P} hσ hM hK p=>
  zAE.mpr (st (c:=c) hσ hM (zB1.mpr (zK0 (zAU hK) at0 p)))
 have ne:∀ {M:Mem} {c:Ye} {s:Int} {σ:Sd} {P:Bool->Mem->Prop},σ[0]?=some (some (.ref n))->M[n]?=some (.lst [.ref k,.int s])->M[k]?=some (.lst (c.map D.int))->P (!c.isEmpty) M->Ok (tst (fOp kNe (fOp kIx (zC 0) (fC (.int 0))) (zA5 zH)) σ M) P:=λ{M c s σ P} hσ hM hK p=>by
  refine zIL.mpr (zAE.mpr (st (c:=c) hσ hM (zIf.mpr (zCY.mpr ⟨zWS _,?_⟩))));rw[zRo (zBj hK) (by intro d e;cases e;rfl)];rw[zI4];simpa using p
 have W:∀ (fuel m':Nat) (σ:Sd) (M':Mem),m'<fuel->((σ=[some (.ref n),some (.int m),none]/\Nx M M' n k) /\ ∃ (c:Ye) (s:Int),M'[n]?=some (.lst [.ref k,.int s])/\M'[k]?=some (.lst (c.map D.int))/\c.length=m') ->
   OkS (zA4 (zBy (tst (fOp kNe (fOp kIx (zC 0) (fC (.int 0))) (zA5 zH))) (tst (fOp kEq (fOp kIx (fOp kIx (zC 0) (fC (.int 0))) (fC (.int 0))) (fC (.int 0))))) (zBp (fM zJZ (fOp kIx (zC 0) (fC (.int 0))) (zD (toD (fC (.int 0))) zH))) fuel σ M')
    (λo σ1 M1=>o=.nx/\σ1=[some (.ref n),some (.int m),none]/\Nx M M1 n k):=by
  intro fuel m' σ M' hlt hI;refine zCA (I:=λm' σ M'=>(σ=[some (.ref n),some (.int m),none]/\Nx M M' n k) /\ ∃ (c:Ye) (s:Int),M'[n]?=some (.lst [.ref k,.int s])/\M'[k]?=some (.lst (c.map D.int))/\c.length=m') ?_ fuel m' σ M' hlt hI;rintro m' σ M' ⟨⟨rfl,nx⟩,c,s,e1,e2,hl⟩;refine zRs.mpr (ne rfl e1 e2 ?_);cases c with
  |nil=>simp;exact nx
  |cons x c=>
   simp only[List.isEmpty_cons,Bool.not_false,if_true];refine zIL.mpr (zAE.mpr (hd rfl e1 e2 (zB1.mpr (zMu.mpr (zI4.mpr ?_)))));by_cases hx:x=0
   .rw[zVv (by simpa using hx)];refine zCS.mpr (zKk.mpr (st (c:=c) rfl e1 ⟨⟨_,zBj e2⟩,zAn.mpr (zAi.mpr (zB1.mpr (zI.mpr (zCY.mpr ?_))))⟩));rw[zVz]at e2;rw[zSq e2];refine ⟨c.length,by rw[<-hl];simp,?_⟩;obtain ⟨c',s',z1,z2,z3,z4,z5,z6⟩:=nx.gen.ex;rw[e1]at z1;cases z1;rw[e2]at z2;have hcc:c'=x::c:=by
     have:(x::c).map D.int=c'.map D.int:=by have:=z2;simp only[Option.some.injEq,MO.lst.injEq]at this;simpa using this
     exact (zKG this).symm
    subst hcc;have P:=nx.gen.put (c:=c) (s:=s) (λy hy=>z3 y (zVt _ hy)) (by simp at z4;omega) z5 z6;have q:((M'.set k (.lst (c.map D.int))).set n (.lst [.ref k,.int s]))=M'.set k (.lst (c.map D.int)):=zGw (by rw[zWA (Ne.symm nx.gen.ne)];exact e1);rw[q]at P;have hk:=nx.gen.lt.2;refine ⟨⟨rfl,nx.trans P⟩,c,s,?_,?_,rfl⟩
    .rw[zWA (Ne.symm nx.gen.ne)];exact e1
    .rw[zWa hk]
   .rw[zVy (by simpa using hx)];first|exact ⟨rfl,rfl,nx⟩|exact ⟨trivial,trivial,nx⟩|simpa using nx
 obtain ⟨c,s,e1,e2,e3,e4,_⟩:=h.ex;refine OkS.mono (W 100 c.length _ M (by omega) ⟨⟨rfl,.refl h⟩,c,s,e1,e2,rfl⟩) ?_;rintro o σ M1 ⟨rfl,rfl,nx⟩;rw[zN,zK,zBe];obtain ⟨c,s,e1,e2,e3,e4,e5,e6⟩:=nx.gen.ex;refine ne rfl e1 e2 ?_;cases c with
 |nil=>
  simp only[List.isEmpty_nil,Bool.not_true,zWh,if_false];rw[zA2,zN,zK,zIF];refine zAE.mpr (zAE.mpr (zAE.mpr (sd rfl e1 (zB1.mpr (zOg.mpr ⟨by simp[zM8] <;> omega,zB1.mpr (zDK.mpr (zB1.mpr (zFb.mpr ⟨by decide,?_⟩)))⟩)))));rw[zI];refine zo.mpr ⟨_,rfl,zB1.mpr ?_⟩;rw[zI];have hs0:0<=(s*6364136223846793+1442695040888963) % 2305843009213693951:=Int.emod_nonneg _ (by decide);have hs1:(s*6364136223846793+1442695040888963) % 2305843009213693951<2305843009213693951:=Int.emod_lt_of_pos _ (by decide);generalize (s*6364136223846793+1442695040888963) % 2305843009213693951=s' at hs0 hs1;have P:=nx.gen.put (c:=[]) (s:=s') (λ_ h=>by cases h) (by simp) hs0 hs1;rw[zGw (show M1[k]?=some (.lst (([]:List Int).map D.int))from e2)]at P;refine ⟨_,zGH (k:=1) e1 (by simp),?_⟩;rw[zN,zAN];have e1':(M1.set n (.lst [.ref k,.int s']))[n]?=some (.lst [.ref k,.int s']):=zWa nx.gen.lt.1;refine zAE.mpr (zAE.mpr (zAE.mpr (zAE.mpr (sd rfl e1' (sd rfl e1' (zOg.mpr ⟨by simp[zM8] <;> omega,zB1.mpr (zFb.mpr ⟨by decide,zB1.mpr (zPU.mpr ⟨by decide,zo.mpr ⟨_,rfl,zFb.mpr ⟨h0,?_⟩⟩⟩)⟩)⟩))))));rw[zI];exact ⟨⟨_,rfl,Int.emod_nonneg _ (by omega),Int.emod_lt_of_pos _ h0⟩,nx.trans P⟩
 |cons x c=>
  simp only[List.isEmpty_cons,Bool.not_false,if_true];rw[zK,zU];refine zAE.mpr (hd rfl e1 e2 (zo.mpr ⟨_,rfl,zFb.mpr ⟨h0,?_⟩⟩));rw[zI,zN,zK,zIF];refine zAE.mpr (hd rfl e1 e2 (zo.mpr ⟨_,rfl,zPU.mpr ⟨⟨h0,h1⟩,?_⟩⟩));rw[zI];refine st (c:=c) rfl e1 (zB1.mpr ?_);rw[zI];refine ⟨_,zGH (k:=0) e2 (by simp),?_⟩;rw[zN,zAN];refine zo.mpr ⟨_,rfl,?_⟩;rw[zI,zC8];have hx:=e3 x zVu;have P:=nx.gen.put (c:=(x / m)::c) (s:=s) (λy hy=>by
   rcases zVs.mp hy with z|z
   .subst z;exact Int.ediv_nonneg hx (by omega)
   .exact e3 y (zVt _ z)) (by simpa using e4) e5 e6
  rw[zGw (k:=n) (by rw[zWA (Ne.symm nx.gen.ne)];exact e1)]at P;exact ⟨⟨_,rfl,Int.emod_nonneg _ (by omega),Int.emod_lt_of_pos _ h0⟩,nx.trans P⟩
theorem zPL (ns:Ye) (lo hi:Ys):∃ c:List Int,L3.zFL (ns.map D.int) lo hi=c.map D.int/\c.length<=ns.length:=by
 refine ⟨(ns.drop (HT.sIx ns.length 0 lo)).take (HT.sIx ns.length ns.length hi-HT.sIx ns.length 0 lo),?_,?_⟩
 .unfold L3.zFL;rw[zVp,List.map_take,List.map_drop]
 .rw[zW4,List.length_drop];omega
theorem zBo (h:x::r=c.map D.int):∃ y c',c=y::c'/\x=.int y/\r=c'.map D.int:=by
 cases c with
 |nil=>cases h
 |cons y c'=>rw[zVz]at h;exact ⟨y,c',rfl,(zWk h).1,(zWk h).2⟩
theorem zAJ:zAl none xs M:=trivial
theorem zn (h:n<=100000):n<=sizeLine:=zV7 h (by decide)
theorem zP2 {ns:Ye} (h:ns.length<=63):Ok (zBq [.ref 0] [.fro (ns.map D.int)]) λd M'=>d=.ref 2/\Gen M' 2 1/\M'[0]?=some (.fro (ns.map D.int))/\M'.length=3:=by
 unfold zBq;rw[zx];unfold zDV;have e0:([.fro (ns.map D.int)]:Mem)[0]?=some (.fro (ns.map D.int)):=rfl;obtain ⟨cut,ec,lc⟩:=zPL ns none (some 63);have sl:∀ {σ:Sd} {P:EV->Mem->Prop},σ[0]?=some (some (.ref 0))->P (.fl (cut.map D.int)) [.fro (ns.map D.int)]->Ok (fSl (zC 0) zD7 (zDf (fC (.int 63))) σ [.fro (ns.map D.int)]) P:=λhσ p=>by
  refine zUw.mpr (zo.mpr ⟨_,hσ,zN4.mpr (zOl.mpr (zB1.mpr (zOW.mpr ?_)))⟩);rw[zPD (zME e0) rfl,ec];exact p
 rw[zK,zU];refine zAE.mpr (zKz.mpr (zCR.mpr (zo.mpr ⟨_,rfl,zDJ.mpr ((zR7 (zQO e0)).mpr (zB1.mpr (zDK.mpr ?_)))⟩)));rw[zI,zN,zK,zBU];obtain ⟨x,M1,ex,px⟩:=sl (σ:=[some (.ref 0),some (.int (((ns.map D.int).length:Int)+3)),none]) (P:=λx M=>x=.fl (cut.map D.int)/\M=[.fro (ns.map D.int)]) rfl ⟨rfl,rfl⟩;obtain ⟨rfl,rfl⟩:=px;refine ⟨_,_,_,zCj ex zBw,?_⟩;refine zAv (I:=λr σ M=>M=[.fro (ns.map D.int)]/\(∃ c:List Int,r=c.map D.int) /\ ∃ s y,σ=[some (.ref 0),some (.int s),y]/\0<=s/\s<2305843009213693951) ?_ ?_ _ _ _ ⟨rfl,⟨cut,rfl⟩,_,none,rfl,by simp;omega,by simp;omega⟩
 .rintro x r σ M ⟨rfl,⟨c,hc⟩,s,y,rfl,h0,h1⟩;obtain ⟨z,c',rfl,rfl,rfl⟩:=zBo hc;refine ⟨zAJ,_,rfl,?_⟩;rw[zU];refine zAE.mpr (zAE.mpr (zAE.mpr (zAE.mpr (zo.mpr ⟨_,rfl,zB1.mpr (zOg.mpr ⟨by simp[zM8],?_⟩)⟩))));refine zAE.mpr (zo.mpr ⟨_,rfl,zAE.mpr (zB1.mpr (zB1.mpr (zRy.mpr ⟨by decide,zFb.mpr ⟨by decide,zDK.mpr (zB1.mpr (zDK.mpr (zB1.mpr (zFb.mpr ⟨by decide,?_⟩))))⟩⟩)))⟩);rw[zI];exact ⟨rfl,⟨c',rfl⟩,_,_,rfl,Int.emod_nonneg _ (by decide),Int.emod_lt_of_pos _ (by decide)⟩
 .rintro σ M ⟨rfl,_,s,y,rfl,h0,h1⟩;refine ⟨zAJ,?_⟩;rw[zN,zAN,zIf,zAn,zAi,zDw];obtain ⟨x,M1,ex,px⟩:=sl (σ:=[some (.ref 0),some (.int s),y]) (P:=λx M=>x=.fl (cut.map D.int)/\M=[.fro (ns.map D.int)]) rfl ⟨rfl,rfl⟩;obtain ⟨rfl,rfl⟩:=px;refine ⟨_,_,_,zCj ex zBw,by rw[zVp];exact zn (by omega),?_⟩;refine Ok.mono (zDv (I:=λr acc M=>M=[.fro (ns.map D.int)]/\(∃ c:List Int,r=c.map D.int)/\r.length+acc.length<=63 /\ ∃ b:List Int,acc=b.map D.int /\ ∀ x∈b,0<=x) (Q:=λacc M=>M=[.fro (ns.map D.int)]/\acc.length<=63 /\ ∃ b:List Int,acc=b.map D.int /\ ∀ x∈b,0<=x) ?_ ?_ _ [] _ ⟨rfl,⟨cut,rfl⟩,by simp;omega,[],rfl,λ_ h=>by cases h⟩) ?_
  .rintro x r acc M ⟨rfl,⟨c,hc⟩,hl,b,rfl,hb⟩;obtain ⟨z,c',rfl,rfl,rfl⟩:=zBo hc;refine ⟨zAJ,_,rfl,?_⟩;refine zIL.mpr (zAE.mpr (zKz.mpr (zCR.mpr (zo.mpr ⟨_,rfl,zDJ.mpr (zR6.mpr (zAE.mpr (zB1.mpr (zB1.mpr (zRy.mpr ⟨by decide,zVO.mpr (zI4.mpr ?_)⟩)))))⟩))));by_cases hz:(10:Int) ^ (18:Int).toNat<=(if z<0 then -z else z)
   .rw[zVv (by simpa using hz)];refine zKz.mpr (zCR.mpr (zo.mpr ⟨_,rfl,zDJ.mpr (zR6.mpr (zI.mpr ⟨rfl,⟨c',rfl⟩,?_,b++[if z<0 then -z else z],by simp,?_⟩))⟩))
    .simp at hl ⊢;omega
    .intro y hy;rcases zV6.mp hy with q|q
     .exact hb y q
     .have:y=if z<0 then -z else z:=by simpa using q
      rw[this];split <;> omega
   .rw[zVy (by simpa using hz)];exact ⟨rfl,⟨c',rfl⟩,by simp at hl ⊢;omega,b,rfl,hb⟩
  .rintro acc M ⟨rfl,_,hl,hb⟩;exact ⟨zAJ,rfl,by simpa using hl,hb⟩
  .rintro ys M ⟨rfl,hl,b,hb,hp⟩;rw[List.nil_append]at hb hl;subst hb;rw[zEh,zAn,zAi,zo];refine ⟨_,rfl,?_⟩;rw[zI,zCY];refine ⟨zn (by simp),?_⟩;rw[zEh];refine ⟨rfl,⟨⟨b,s,rfl,rfl,hp,by simpa using hl,h0,h1⟩,by decide,?_⟩,rfl,rfl⟩;intro j u e;match j,e with
   |0,e=>cases e;exact zk _ _
   |1,e=>cases e;exact zk _ _
   |2,e=>cases e;rfl
   |j+3,e=>simp at e
mutual
theorem zGv (h:a<=b):∀ {d:D},D.und a d=true->D.und b d=true
 |.non,_=>by unfold D.und;rfl
 |.bl _,_=>by unfold D.und;rfl
 |.int _,_=>by unfold D.und;rfl
 |.str _,_=>by unfold D.und;rfl
 |.tup ds,e=>by unfold D.und at e ⊢;exact zB9 h e
 |.ref k,e=>by unfold D.und at e ⊢;simp at e ⊢;omega
theorem zB9 (h:a<=b):∀ {ds:List D},D.unds a ds=true->D.unds b ds=true
 |[],_=>by unfold D.unds;rfl
 |d::ds,e=>by
  unfold D.unds at e ⊢;rw[zWG]at e ⊢;exact ⟨zGv h e.1,zB9 h e.2⟩
end
theorem zMW (h:a<=b) (e:MO.und a u=true):MO.und b u=true:=by
 cases u with
 |lst xs=>exact zB9 h e
 |fro xs=>exact zB9 h e
 |set xs=>exact zB9 h e
 |dict kvs|dicT kvs|froT kvs|froK kvs=>
  unfold MO.und at e ⊢;rw[zWH]at e ⊢;intro p hp;have:=e p hp;rw[zWG]at this ⊢;exact ⟨zGv h this.1,zGv h this.2⟩
theorem zGc:∀ {xs ys:List D},D.unds n (xs++ys)=(D.unds n xs&&D.unds n ys)
 |[],ys=>by simp[D.unds]
 |x::xs,ys=>by
  show (D.und n x&&D.unds n (xs++ys))=((D.und n x&&D.unds n xs)&&D.unds n ys);rw[zGc,Bool.and_assoc]
theorem zEk:∀ {xs:List D},(∀ x∈xs,D.und n x=true)->D.unds n xs=true
 |[],_=>rfl
 |x::xs,h=>by
  show (D.und n x&&D.unds n xs)=true;rw[h x zVu,zEk λy hy=>h y (zVt _ hy)];rfl
theorem zr (c:Ye):D.und n (.tup (c.map D.int))=true:=by unfold D.und;exact zk n c
theorem Gen.app (h:Gen A n k) (hu:∀ u∈us,MO.und (A.length+us.length) u=true):Gen (A++us) n k:=by
 obtain ⟨c,s,e1,e2,r⟩:=h.ex;obtain ⟨hn,hk⟩:=h.lt;refine ⟨⟨c,s,by rw[zVn hn];exact e1,by rw[zVn hk];exact e2,r⟩,h.ne,λj u e=>?_⟩;rw[zVw];by_cases hj:j<A.length
 .rw[zVn hj]at e;exact zMW (by omega) (h.wf j u e)
 .rw[zWq (by omega)]at e;exact hu u (zWX e)
theorem zv (h:Gen M n k) (ha:fa σ M=some (.dat (.ref n),M)) (hb:fb σ M=some (.dat (.int m),M)) (h0:0<m) (h1:m<1073741824)
  (q:∀ i M',0<=i->i<m->Nx M M' n k->P (.dat (.int i)) M'):Ok (zL zR (zD (toD fa) (zD (toD fb) zH)) σ M) P:=by
 rw[zCW,zAn,zAi];refine ⟨_,_,ha,?_⟩;rw[zI,zAn,zAi];refine ⟨_,_,hb,?_⟩;rw[zI,zCY];refine Ok.mono (zRN h h0 h1) ?_;rintro d M' ⟨⟨i,rfl,i0,i1⟩,nx⟩;exact q i M' i0 i1 nx
def zCK (i:Nat):Nat->List D
 |0=>[]
 |n+1=> .int i::zCK (i+1) n
theorem zIT (n:Nat):∀ i,((List.range' i n).map λ(k:Nat)=>D.int k)=zCK i n:=by
 induction n with
 |zero=>intro i;rfl
 |succ n ih=>intro i;rw[List.range'_succ,zVz,ih];rfl
theorem zEx (n:Nat):((List.range n).map λ(k:Nat)=>D.int k)=zCK 0 n:=by rw[List.range_eq_range',zIT]
theorem zBl:∀ (n i:Nat),(zCK i n).length=n
 |0,_=>rfl
 |n+1,i=>by show (zCK (i+1) n).length+1=_;rw[zBl n]
theorem zKj (n:Nat) (I:Nat->Sd->Mem->Prop)
  (hs:∀ i σ M,i<n->I i σ M -> ∃ σ1,g (.int i) σ=some σ1/\OkS (b σ1 M) λo σ2 M2=>match o with|.nx=>I (i+1) σ2 M2|.cnt=>I (i+1) σ2 M2|.brk=>P .nx σ2 M2|.ret d=>P (.ret d) σ2 M2)
  (he:∀ σ M,I n σ M->P .nx σ M) (σ:Sd) (M:Mem) (h0:I 0 σ M):OkS (zCc g b all none (zCK 0 n) σ M) P:=by
 refine zAv (I:=λr σ M=>∃ i,i<=n/\r=zCK i (n-i)/\I i σ M) ?_ ?_ _ _ _ ⟨0,zWS _,by simp,h0⟩
 .rintro x r σ M ⟨i,hi,e,hI⟩;have hlt:i<n:=by
   rcases Nat.lt_or_ge i n with z|z
   .exact z
   .rw[show n-i=0 by omega]at e;cases e
  rw[show n-i=(n-(i+1))+1 by omega]at e;obtain ⟨rfl,rfl⟩:=zWk e;obtain ⟨σ1,e1,q⟩:=hs i σ M hlt hI;refine ⟨zAJ,σ1,e1,OkS.mono q ?_⟩;intro o σ2 M2 z;cases o with
  |nx=>exact ⟨i+1,hlt,rfl,z⟩
  |cnt=>exact ⟨i+1,hlt,rfl,z⟩
  |brk=>exact z
  |ret d=>exact z
 .rintro σ M ⟨i,hi,e,hI⟩;have:i=n:=by
   rcases Nat.lt_or_ge i n with z|z
   .rw[show n-i=(n-(i+1))+1 by omega]at e;cases e
   .omega
  subst this;exact ⟨zAJ,he σ M hI⟩
theorem zK5 (n:Nat) (I:Nat->List D->Mem->Prop)
  (hs:∀ i acc M,i<n->I i acc M -> ∃ σ1,g (.int i) σ=some σ1/\Ok (te σ1 M) (zGy λd M2=>I (i+1) (acc++[d]) M2)) (h0:I 0 [] M) :
  Ok (zAo g zh te σ all none (zCK 0 n) M) λys M1=>I n ys M1:=by
 refine Ok.mono (zDv (I:=λr acc M=>∃ i,i<=n/\r=zCK i (n-i)/\I i acc M) (Q:=λacc M=>I n acc M) ?_ ?_ _ [] _ ⟨0,zWS _,by simp,h0⟩) λys M1 q=>by simpa using q
 .rintro x r acc M ⟨i,hi,e,hI⟩;have hlt:i<n:=by
   rcases Nat.lt_or_ge i n with z|z
   .exact z
   .rw[show n-i=0 by omega]at e;cases e
  rw[show n-i=(n-(i+1))+1 by omega]at e;obtain ⟨rfl,rfl⟩:=zWk e;obtain ⟨σ1,e1,q⟩:=hs i acc M hlt hI;refine ⟨zAJ,σ1,e1,zKU.mpr ?_⟩;rw[zVv rfl];refine Ok.mono q ?_;intro x M2 z;cases x with
  |dat d=>exact ⟨i+1,hlt,rfl,z⟩
  |fl xs=>exact ⟨i+1,hlt,rfl,z⟩
 .rintro acc M ⟨i,hi,e,hI⟩;have:i=n:=by
   rcases Nat.lt_or_ge i n with z|z
   .rw[show n-i=(n-(i+1))+1 by omega]at e;cases e
   .omega
  subst this;exact ⟨zAJ,hI⟩
theorem zCJ (e:f σ M=some (.dat (.int j),M)) (h1:0<=j) (h2:j<2 ^ 62):zAC (zD (toD f) zH) σ M=some (zCK 0 j.toNat,none,M):=by
 have e':(zD (toD f) zH) σ M=some ([.int j],M):=by unfold zD toD zH;rw[e]
 rw[zGt e' h1 h2,zEx]
def mD (zA:Ya):D:=.tup (zA.map λr=> .tup (r.map D.int))
structure IsM (zA:Ya) (l:Nat):Prop where
 r0:0<zA.length
 l0:0<l
 row:∀ r∈zA,r.length=l /\ ∀ g∈r,0<=g/\g<zA.length
theorem zBx (zA:Ya):D.und n (mD zA)=true:=by
 unfold mD D.und;refine zEk λx hx=>?_;obtain ⟨r,_,rfl⟩:=zVx.mp hx;exact zr r
theorem zZ {α:Type} {x:Option (α × Mem)} {a:α} {M:Mem} (h:Ok x λb M'=>b=a/\M'=M):x=some (a,M):=by
 obtain ⟨b,M',e,rfl,rfl⟩:=h;exact e
theorem zE {α:Type} {x:Option (α × Mem)} {a:α} {M:Mem} {P:α->Mem->Prop} (h:x=some (a,M)) (p:P a M):Ok x P:=⟨a,M,h,p⟩
theorem zMC {c:FT} {a g:FS} {σ:Sd} {M:Mem} {P:Out->Sd->Mem->Prop} (hc:c σ M=some (false,M)) (h:OkS (g σ M) P):OkS (zW (sIf c a zBs) g σ M) P:=by
 rw[zK,zBe];refine zE hc ?_;rw[zVy (by decide),zA2];exact h
theorem zJL {c:FT} {a:FS} {σ:Sd} {M:Mem} {P:Out->Sd->Mem->Prop} (hc:c σ M=some (false,M)) (h:P .nx σ M):OkS (sIf c a zBs σ M) P:=by
 rw[zBe];refine zE hc ?_;rw[zVy (by decide),zA2];exact h
theorem zSM {f:FE} {σ:Sd} {M M':Mem} {k:Bool} (h:f σ M=some (.dat (.bl k),M')):zKS (tst f) σ M=some (!k,M'):=by
 unfold zKS tst;rw[h]
theorem za {f:FE} {σ:Sd} {M:Mem} {d:D} (h:f σ M=some (.dat d,M)):zD (toD f) zH σ M=some ([d],M):=by
 unfold zD toD zH;rw[h]
theorem zg {f:FE} {g:FA} {σ:Sd} {M:Mem} {d:D} {ds:List D} (h:f σ M=some (.dat d,M)) (hg:g σ M=some (ds,M)):zD (toD f) g σ M=some (d::ds,M):=by
 unfold zD toD;rw[h];dsimp only;rw[hg]
theorem zX {m:FF} {a:FA} {σ:Sd} {M M':Mem} {ds:List D} {d:D} (h:a σ M=some (ds,M)) (hm:m ds M=some (d,M')):zL m a σ M=some (.dat d,M'):=by
 unfold zL;rw[h];dsimp only;rw[hm]
theorem zO {k:K2} {f g:FE} {σ:Sd} {M:Mem} {x y:EV} {r:Option (EV × Mem)} (hf:f σ M=some (x,M)) (hg:g σ M=some (y,M)) (hk:k x y M=r):fOp k f g σ M=r:=by
 unfold fOp;rw[hf];dsimp only;rw[hg];exact hk
theorem zSy {xs ys:List D} {M:Mem} (h:xs.length+ys.length<=sizeLine):zAT (.dat (.tup xs)) (.dat (.tup ys)) M=some (.dat (.tup (xs++ys)),M):=zZ (zT6.mpr ⟨h,rfl,rfl⟩)
theorem zCQ {x:EV} {xs:List D} {i:Int} {d:D} {M:Mem} (h:zAY M x=some xs) (hd:atI xs i=some d):kIx x (.dat (.int i)) M=some (.dat d,M):=zZ (zK0 h hd ⟨rfl,rfl⟩)
theorem zIv {f:FE} {x:EV} {xs:List D} {σ:Sd} {M:Mem} (hf:f σ M=some (x,M)) (h:zAY M x=some xs):fB zBb (zQ f zf) σ M=some (.dat (.int xs.length),M):=by
 unfold fB zQ zf;rw[hf];exact zZ ((zR7 h).mpr ⟨rfl,rfl⟩)
def zNq:FS:=(zW (zj 3 (zC 1))
  (zW (zCl (zAK (zC 2)) (gN 4) (zj 3 (fOp kIx (fOp kIx (zC 0) (zC 3)) (zC 4))))
  (zAR (zC 3))))
def zFU:FF:=zCf (zBI 5 zNq)
def zBu (zA:Ya) (h g:Int):Int:=(zA.getD h.toNat []).getD g.toNat 0
def zDG (zA:Ya) (room:Int) (word:Ye):Int:=word.foldl (zBu zA) room
theorem zP4 {zA:Ya} {h:Int} (h0:0<=h) (h1:h<zA.length):atI (zA.map λr=>D.tup (r.map D.int)) h=some (.tup ((zA.getD h.toNat []).map D.int)):=by
 refine zLk h0 ?_;rw[zV3,zVl,zVk (by omega)];rfl
theorem zGF {r:Ye} {g:Int} (h0:0<=g) (h1:g<r.length):atI (r.map D.int) g=some (.int (r.getD g.toNat 0)):=by
 refine zLk h0 ?_;rw[zV3,zVl,zVk (by omega)];rfl
theorem IsM.get {zA:Ya} {l:Nat} (m:IsM zA l) {h:Int} (h0:0<=h) (h1:h<zA.length):(zA.getD h.toNat []).length=l /\ ∀ g∈zA.getD h.toNat [],0<=g/\g<zA.length:=by
 refine m.row _ ?_;rw[zVl,zVk (by omega)];exact zWE _
theorem IsM.step {zA:Ya} {l:Nat} (m:IsM zA l) {h g:Int} (h0:0<=h) (h1:h<zA.length) (g0:0<=g) (g1:g<l):0<=zBu zA h g/\zBu zA h g<zA.length:=by
 obtain ⟨q1,q2⟩:=m.get h0 h1;refine q2 _ ?_;unfold zBu;rw[zVl (l:=zA.getD h.toNat []),zVk (by omega)];exact zWE _
theorem IsM.ix {zA:Ya} {l:Nat} (m:IsM zA l) {h g:Int} (h0:0<=h) (h1:h<zA.length) (g0:0<=g) (g1:g<l) {f1 f2 f3:FE} {σ:Sd} {M:Mem} (e1:f1 σ M=some (.dat (mD zA),M)) (e2:f2 σ M=some (.dat (.int h),M)) (e3:f3 σ M=some (.dat (.int g),M)) :
  fOp kIx (fOp kIx f1 f2) f3 σ M=some (.dat (.int (zBu zA h g)),M):=by
 obtain ⟨q1,_⟩:=m.get h0 h1;exact zO (zO e1 e2 (zCQ zp (zP4 h0 h1))) e3 (zCQ zp (zGF g0 (by omega)))
theorem zOB {zA:Ya} {l:Nat} (m:IsM zA l) {room:Int} {word:Ye} {M:Mem} (h0:0<=room) (h1:room<zA.length) (hw:∀ g∈word,0<=g/\g<l):zFU [mD zA,.int room,.tup (word.map D.int)] M=some (.int (zDG zA room word),M):=by
 refine zZ ?_;unfold zFU;refine zBg (by unfold D.unds D.unds D.unds D.unds;rw[zBx];simp[zr,D.und,zk]) ?_;rw[zx];unfold zNq;rw[zK,zU];refine zo.mpr ⟨_,rfl,?_⟩;rw[zI,zN,zK,zBU];refine ⟨_,_,_,zCj rfl zp,?_⟩;refine zAv (I:=λr σ M'=>M'=[] /\ ∃ (h:Int) (y:Option D) (c:Ye),σ=[some (mD zA),some (.int room),some (.tup (word.map D.int)),some (.int h),y]/\r=c.map D.int/\(∀ g∈c,0<=g/\g<(l:Int))/\0<=h/\h<zA.length/\zDG zA h c=zDG zA room word) ?_ ?_ _ _ _ ⟨rfl,room,none,word,rfl,rfl,hw,h0,h1,rfl⟩
 .rintro x r σ M' ⟨rfl,h,y,c,rfl,hc,hg,h0,h1,e⟩;obtain ⟨z,c',rfl,rfl,rfl⟩:=zBo hc;refine ⟨zAJ,_,rfl,?_⟩;rw[zU];obtain ⟨g0,g1⟩:=hg z zVu;refine zE (m.ix h0 h1 g0 g1 rfl rfl rfl) ?_;rw[zI];obtain ⟨s0,s1⟩:=m.step h0 h1 g0 g1;exact ⟨rfl,_,_,c',rfl,rfl,λg hg'=>hg g (zVt _ hg'),s0,s1,e⟩
 .rintro σ M' ⟨rfl,h,y,c,rfl,hc,hg,h0,h1,e⟩;refine ⟨zAJ,?_⟩;rw[zN,zAN];refine zo.mpr ⟨_,rfl,?_⟩;rw[zI];have:c=[]:=by cases c with|nil=>rfl|cons _ _=>cases hc
  subst this;refine ⟨rfl,?_,rfl⟩;rw[<-e];rfl
theorem zAf (h:f σ M=some (.dat (.bl k),M')):tst f σ M=some (k,M'):=by unfold tst;rw[h]
theorem zAu (hf:f σ M=some (.dat d,M)) (h:P (.ret d) σ M):OkS (zAR f σ M) P:=by
 rw[zAN];exact zE hf h
theorem zBA {α:Type} (as:List α) (enc out:α->D) (hi:fi σ M=some (as.map enc,gd,M)) (hgd:zAl gd (as.map enc) M) (hz:as.length<=100000)
  (he:∀ a∈as,∃ σ1,g (enc a) (zA7 own σ)=some σ1/\te σ1 M=some (.dat (out a),M)):zq own fi g zh te σ M=some (.fl (as.map out),M):=by
 refine zZ (zDw.mpr ⟨_,_,_,hi,by rw[zVp];exact zn hz,?_⟩);refine Ok.mono (zDv (I:=λr acc M'=>M'=M /\ ∃ ra rb:List α,as=rb++ra/\r=ra.map enc/\acc=rb.map out) (Q:=λacc M'=>M'=M/\acc=as.map out) ?_ ?_ _ [] _ ⟨rfl,as,[],rfl,rfl,rfl⟩) ?_
 .rintro x r acc M' ⟨rfl,ra,rb,hab,hr,rfl⟩;cases ra with
  |nil=>cases hr
  |cons a ra=>
   rw[zVz]at hr;obtain ⟨rfl,rfl⟩:=zWk hr;obtain ⟨σ1,e1,e2⟩:=he a (by rw[hab];simp);refine ⟨hgd,σ1,e1,zKU.mpr ?_⟩;rw[zVv rfl];refine zE e2 ?_;rw[zI];exact ⟨rfl,ra,rb++[a],by rw[hab];simp,rfl,by simp⟩
 .rintro acc M' ⟨rfl,ra,rb,hab,hr,rfl⟩;cases ra with
  |nil=>rw[zWQ]at hab;subst hab;exact ⟨hgd,rfl,rfl⟩
  |cons a ra=>cases hr
 .rintro ys M' ⟨rfl,h⟩;rw[List.nil_append]at h;subst h;exact ⟨rfl,rfl⟩
theorem zBV (hf:f σ M=some (x,M)) (h:zAY M x=some xs):fB zAQ (zQ f zf) σ M=some (.dat (.tup xs),M):=by
 unfold fB zQ zf;rw[hf];exact zZ ((zEz h).mpr ⟨rfl,rfl⟩)
theorem zCX (hf:f σ M=some (.dat (.tup xs),M)):zAK f σ M=some (xs,none,M):=zCj hf zp
theorem zKq (n:Nat):zCK 0 n=(List.range n).map λ(k:Nat)=>D.int k:=(zEx n).symm
theorem zHS (e:f σ M=some (.dat (.int j),M)) (h1:0<=j) (h2:j<2 ^ 62):zAC (zD (toD f) zH) σ M=some ((List.range j.toNat).map (λ(k:Nat)=>D.int k),none,M):=by
 rw[zCJ e h1 h2,zKq]
theorem zAs (hf:f σ M=some (.dat d,M)) (h:OkS (g (σ.set i (some d)) M) P):OkS (zW (zj i f) g σ M) P:=by
 rw[zK,zU];exact zE hf h
theorem zOQ (h:f σ M=some (.dat d,M')):zD (toD f) zH σ M=some ([d],M'):=by
 unfold zD toD zH;rw[h]
def zT (zA:Ya) (ls:Ye):List (List Int):=zA.map λr=>ls.map λg=>r.getD g.toNat 0
def zDD:FS:=(zAR (fB zAQ (zQ (zq [2] (zAK (zC 0)) (gN 2) zh (fB zAQ (zQ (zq [3] (zAK (zC 1)) (gN 3) zh (fOp kIx (zC 2) (zC 3))) zf))) zf)))
def zA0:FF:=zCf (zBI 4 zDD)
theorem zOX (m:IsM zA l) (hz:zA.length<=100000) (hl:ls.length<=100000) (hg:∀ g∈ls,0<=g/\g<(l:Int)):zA0 [mD zA,.tup (ls.map D.int)] M=some (mD (zT zA ls),M):=by
 refine zZ ?_;unfold zA0;refine zBg (by unfold D.unds D.unds D.unds;rw[zBx];simp[D.und,zk]) ?_;rw[zx];unfold zDD;refine zAu (d:=mD (zT zA ls)) ?_ ⟨zBx _,rfl,rfl⟩;refine (zBV (zBA zA (λr=>D.tup (r.map D.int)) (λr=> .tup ((ls.map λg=>r.getD g.toNat 0).map D.int)) (zCX rfl) trivial hz λr hr=>⟨_,rfl,?_⟩) zBw).trans ?_
 .refine (zBV (zBA ls D.int (λg=> .int (r.getD g.toNat 0)) (zCX rfl) trivial hl λg hgm=>⟨_,rfl,?_⟩) zBw).trans ?_
  .obtain ⟨g0,g1⟩:=hg g hgm;exact zO rfl rfl (zCQ zp (zGF g0 (by rw[(m.row r hr).1];exact g1)))
  .rw[zV4];rfl
 .unfold mD zT;rw[zV4];rfl
open ST
def ris (xs:Ye):List Int:=zDN (zA6 xs)
theorem zBW (xs:Ye) (x:Int):x∈ris xs ↔ x∈xs:=by
 unfold ris;rw[(zBf _).mem_iff,zLD]
theorem zFK (xs:Ye):(ris xs).Pairwise (· < ·):=by
 have h1:=zF9 (zA6 xs);have h2:(ris xs).Nodup:=(zBf _).nodup_iff.mpr (zIX xs);unfold ris at h2 ⊢;exact (h1.and h2).imp λ{a b} h=>by have:=h.1;have:=h.2;omega
theorem zFJ:∀ {xs ys:Ye},xs.Pairwise (· < ·)->ys.Pairwise (· < ·)->(∀ x,x∈xs ↔ x∈ys)->xs=ys
 |[],[],_,_,_=>rfl
 |[],y::ys,_,_,h=>by have:=(h y).mpr zVu;cases this
 |x::xs,[],_,_,h=>by have:=(h x).mp zVu;cases this
 |x::xs,y::ys,h1,h2,h=>by
  have hx:=List.pairwise_cons.mp h1;have hy:=List.pairwise_cons.mp h2;have e:x=y:=by
   have a:=(h x).mp zVu;have b:=(h y).mpr zVu;rcases zVs.mp a with z|z
   .exact z
   .rcases zVs.mp b with q|q
    .exact q.symm
    .have:=hx.1 y q;have:=hy.1 x z;omega
  subst e;rw[zFJ hx.2 hy.2 λz=>?_];constructor
  .intro hz;rcases zVs.mp ((h z).mp (zVt _ hz))with q|q
   .subst q;have:=hx.1 _ hz;omega
   .exact q
  .intro hz;rcases zVs.mp ((h z).mpr (zVt _ hz))with q|q
   .subst q;have:=hy.1 _ hz;omega
   .exact q
theorem zIj (h:∀ x,x∈xs ↔ x∈ys):ris xs=ris ys:=zFJ (zFK xs) (zFK ys) λx=>by rw[zBW,zBW];exact h x
theorem zNv (h:xs.Pairwise (· < ·)):ris xs=xs:=zFJ (zFK xs) h λx=>zBW xs x
theorem zIJ (xs:Ye):(ris xs).length<=xs.length:=by
 unfold ris;rw[(zBf _).length_eq];exact zEQ xs
theorem zTF (h:0<xs.length):0<(ris xs).length:=by
 cases xs with
 |nil=>cases h
 |cons x r=>exact List.length_pos_of_mem ((zBW (x::r) x).mpr zVu)
theorem zQo (f:Int->Int) (xs:Ye):ris ((ris xs).map f)=ris (xs.map f):=zIj λx=>by simp[zBW]
theorem zQF (h:zq own fi g tc te σ M=some (.fl (ks.map D.int),M)) (hz:ks.length<=4000):zHV own fi g tc te σ M=some (zA6 ks,M):=by
 unfold zHV;rw[h];dsimp only;rw[zED];dsimp only;rw[zVv (by unfold scanBound;omega)]
theorem zOt (h:fz σ M=some (zA6 ks,M)) (hz:(zA6 ks).length<64):zFv fz σ M=some (.fl ((ris ks).map D.int),M):=by
 unfold zFv;rw[h];dsimp only;rw[zVv hz];rfl
def zE3:FS:=(zAR (fB zAQ (zQ (zFv (zHV [3] (zAK (zC 1)) (gN 3) zh (fOp kIx (fOp kIx (zC 0) (zC 3)) (zC 2)))) zf)))
def zAq:FF:=zCf (zBI 4 zE3)
def zGR:FS:=(zW (zj 3 (zA5 (zD (toD (zC 1)) zH)))
  (zW (zCl (zAK (zC 2)) (gN 4) (zBp (fM zAb (zC 3) (zD (toD (zL zAq (zD (toD (zC 0)) (zD (toD (fOp kIx (zC 3) (zMp (fC (.int 1))))) (zD (toD (zC 4)) zH))))) zH))))
  (zAR (fB zAQ (zQ (zC 3) zf)))))
def zDY:FF:=zCf (zBI 5 zGR)
def zE8:FS:=(zAR (fOp kIx (zL zDY (zD (toD (zC 0)) (zD (toD (zC 1)) (zD (toD (zC 2)) zH)))) (zMp (fC (.int 1)))))
def zCF:FF:=zCf (zBI 3 zE8)
def setR (zA:Ya) (S:Ye) (g:Int):List Int:=ris (S.map λh=>zBu zA h g)
def broR (zA:Ya) (S word:Ye):List Int:=word.foldl (setR zA) S
structure IsS (zA:Ya) (S:Ye):Prop where
 pw:S.Pairwise (· < ·)
 n0:0<S.length
 mem:∀ x∈S,0<=x/\x<(zA.length:Int)
theorem zLo:∀ {S:Ye} {a:Int} {n:Nat},S.Pairwise (· < ·)->(∀ x∈S,a<=x/\x<a+(n:Int))->S.length<=n
 |[],_,_,_,_=>zWS _
 |x::S,a,n,h,hm=>by
  have hx:=List.pairwise_cons.mp h;obtain ⟨m0,m1⟩:=hm x zVu;have hn:0<n:=by omega
  have:=zLo (S:=S) (a:=x+1) (n:=(a+n-(x+1)).toNat) hx.2 λy hy=>by
   have:=hx.1 y hy;have:=(hm y (zVt _ hy)).2;omega
  simp only[zWD];omega
theorem IsS.len (h:IsS zA S):S.length<=zA.length:=zLo h.pw (a:=0) λx hx=>by have:=h.mem x hx;omega
theorem IsM.setR {zA:Ya} {l:Nat} (m:IsM zA l) {S:Ye} (s:IsS zA S) {g:Int} (g0:0<=g) (g1:g<l):IsS zA (setR zA S g):=by
 refine ⟨zFK _,zTF (by rw[zVp];exact s.n0),λx hx=>?_⟩;obtain ⟨y,hy,rfl⟩:=zVx.mp ((zBW _ _).mp hx);obtain ⟨y0,y1⟩:=s.mem y hy;exact m.step y0 y1 g0 g1
theorem IsM.broR {zA:Ya} {l:Nat} (m:IsM zA l):∀ (word:Ye) {S:Ye},IsS zA S->(∀ g∈word,0<=g/\g<(l:Int))->IsS zA (broR zA S word)
 |[],S,s,_=>s
 |g::r,S,s,hw=>by
  obtain ⟨g0,g1⟩:=hw g zVu;exact IsM.broR m r (m.setR s g0 g1) λx hx=>hw x (zVt _ hx)
theorem zLx (zA:Ya):∀ (word:Ye) (S:Ye),broR zA (ris S) word=ris (S.map λr=>zDG zA r word)
 |[],S=>by show ris S=ris (S.map λr=>r);rw[List.map_id']
 |g::w,S=>by
  show broR zA (setR zA (ris S) g) w=_;unfold setR;rw[zQo];rw[zLx zA w];rw[zV4];rfl
theorem zCU (h:S.Pairwise (· < ·)) (word:Ye):broR zA S word=ris (S.map λr=>zDG zA r word):=by
 have:=zLx zA word S;rw[zNv h]at this;exact this
theorem zQH (zA:Ya) (S a b:Ye):broR zA S (a++b)=broR zA (broR zA S a) b:=by unfold broR;rw[List.foldl_append]
def tI (xs:Ye):D:=.tup (xs.map D.int)
theorem zFo {zA:Ya} {l:Nat} (m:IsM zA l) (hR:zA.length<64) {S:Ye} (s:IsS zA S) {g:Int} (g0:0<=g) (g1:g<l) {M:Mem}:zAq [mD zA,tI S,.int g] M=some (tI (setR zA S g),M):=by
 refine zZ ?_;unfold zAq;refine zBg (by unfold D.unds D.unds D.unds D.unds;rw[zBx];simp[tI,zr,D.und,zk]) ?_;rw[zx];unfold zE3;have hl:=s.len;have hz:(zA6 (S.map λh=>zBu zA h g)).length<64:=by have:=zEQ (S.map λh=>zBu zA h g);rw[zVp]at this;omega
 refine zAu (d:=tI (setR zA S g)) ?_ ⟨by unfold tI;exact zr _,rfl,rfl⟩;refine zBV (zOt (ks:=S.map λh=>zBu zA h g) (zQF ?_ (by rw[zVp];omega)) hz) zBw;refine (zBA S D.int (λh=> .int (zBu zA h g)) (zCX rfl) trivial (by omega) λh hh=>⟨_,rfl,?_⟩).trans ?_
 .obtain ⟨h0,h1⟩:=s.mem h hh;exact m.ix h0 h1 g0 g1 rfl rfl rfl
 .rw[zV4];rfl
def zFZ (zA:Ya) (S:Ye):List Int->List (List Int)
 |[]=>[S]
 |g::w=>S::zFZ zA (setR zA S g) w
theorem zJN {α:Type} (xs:List α) (x:α):atI (xs++[x]) (-1)=some x:=by
 unfold atI ixN;rw[zVy (by decide),zVv (by simp;omega)];have:((-1:Int)+((xs++[x]).length:Int)).toNat=xs.length:=by simp;omega
 simp only[Option.bind_some];rw[this];simp
theorem zQK {zA:Ya} {l:Nat} (m:IsM zA l) (hR:zA.length<64) {S word:Ye} (s:IsS zA S) (hw:∀ g∈word,0<=g/\g<(l:Int)) (hz:word.length<=90000) {M:Mem}:zDY [mD zA,tI S,tI word] M=some (.tup ((zFZ zA S word).map tI),M):=by
 refine zZ ?_;unfold zDY;refine zBg (by unfold D.unds D.unds D.unds D.unds;rw[zBx];simp[tI,zr,D.und,zk]) ?_;rw[zx];unfold zGR;rw[zK,zU];refine zIf.mpr (zAn.mpr (zAi.mpr (zo.mpr ⟨_,rfl,zI.mpr (zCY.mpr ⟨zn (by simp),?_⟩)⟩)));rw[zEh,zN,zK,zBU];refine ⟨_,_,_,zCj rfl zp,?_⟩;refine zAv (I:=λr σ M'=>∃ (y:Option D) (c:Ye) (acc:Ya) (T:Ye),σ=[some (mD zA),some (tI S),some (tI word),some (.ref 0),y]/\r=c.map D.int/\(∀ g∈c,0<=g/\g<(l:Int))/\IsS zA T/\M'=[.lst ((acc++[T]).map tI)]/\acc++zFZ zA T c=zFZ zA S word/\acc.length+c.length=word.length) ?_ ?_ _ _ _ ⟨none,word,[],S,rfl,rfl,hw,s,rfl,rfl,by simp⟩
 .rintro x r σ M' ⟨y,c,acc,T,rfl,hc,hg,sT,rfl,e,hl⟩;obtain ⟨z,c',rfl,rfl,rfl⟩:=zBo hc;refine ⟨zAJ,_,rfl,?_⟩;rw[zCS];obtain ⟨g0,g1⟩:=hg z zVu;have eA:([MO.lst ((acc++[T]).map tI)]:Mem)[0]?=some (.lst ((acc++[T]).map tI)):=rfl;refine zKk.mpr (zo.mpr ⟨_,rfl,⟨_,zBj eA⟩,zAn.mpr (zAi.mpr ?_)⟩);refine zE (zX (zg rfl (zg (zO (f:=zC 3) (g:=zMp (fC (.int 1))) (y:=.dat (.int (-1))) rfl rfl (zCQ (zAU eA) ?_)) (za rfl))) (zFo m hR sT g0 g1)) ?_
  .rw[zWY];exact zJN _ _
  .rw[zI,zCY,zDj eA (by rw[zVp,zVw];simp at hl ⊢;exact zV5 (m:=95000) (by omega) (zn (by omega)))];refine ⟨_,c',acc++[T],setR zA T z,rfl,rfl,λg hg'=>hg g (zVt _ hg'),m.setR sT g0 g1,?_,?_,by simp at hl ⊢;omega⟩
   .simp
   .rw[<-e];simp[zFZ]
 .rintro σ M' ⟨y,c,acc,T,rfl,hc,hg,sT,rfl,e,hl⟩;have:c=[]:=by cases c with|nil=>rfl|cons _ _=>cases hc
  subst this;refine ⟨zAJ,?_⟩;rw[zN];refine zAu (zBV rfl (zAU (show ([MO.lst ((acc++[T]).map tI)]:Mem)[0]?=some (.lst ((acc++[T]).map tI))from rfl))) ?_;have e':acc++[T]=zFZ zA S word:=by rw[<-e];rfl
  rw[e'];refine ⟨?_,rfl,rfl⟩;unfold D.und;refine zEk λx hx=>?_;obtain ⟨r,_,rfl⟩:=zVx.mp hx;exact zr r
theorem zHg (zA:Ya):∀ (word S:Ye),∃ us,zFZ zA S word=us++[broR zA S word]
 |[],S=>⟨[],rfl⟩
 |g::w,S=>by
  obtain ⟨us,e⟩:=zHg zA w (setR zA S g);exact ⟨S::us,by show S::zFZ zA _ w=_;rw[e];rfl⟩
theorem zOc (m:IsM zA l) (hR:zA.length<64) (s:IsS zA S) (hw:∀ g∈word,0<=g/\g<(l:Int)) (hz:word.length<=90000):zCF [mD zA,tI S,tI word] M=some (tI (broR zA S word),M):=by
 refine zZ ?_;unfold zCF;refine zBg (by unfold D.unds D.unds D.unds D.unds;rw[zBx];simp[tI,zr,D.und,zk]) ?_;rw[zx];unfold zE8;obtain ⟨us,e⟩:=zHg zA word S;refine zAu (d:=tI (broR zA S word)) (zO (zX (zg rfl (zg rfl (za rfl))) (zQK m hR s hw hz)) (g:=zMp (fC (.int 1))) (y:=.dat (.int (-1))) rfl (zCQ zp ?_)) ⟨by unfold tI;exact zr _,rfl,rfl⟩;rw[e,zWY];exact zJN _ _
end Law
namespace Law
open PySem PySem.Spec PyProof.Rows L2 L3 ST
theorem zLY (hgd:zAl gd all M) (hg:g x σ=some σ1) (hk:tk σ1 M=some (.dat k,M)) (hv:tv σ1 M=some (.dat v,M)) (hp:zEb M n k v=some M'):zCP g zh tk tv σ n all gd (x::r) M=zCP g zh tk tv σ n all gd r M':=by
 rw[zCP];rw[zVv hgd,hg];have et:zh σ1 M=some (true,M):=rfl;have e1:toD tk σ1 M=some (k,M):=by unfold toD;rw[hk]
 have e2:toD tv σ1 M=some (v,M):=by unfold toD;rw[hv]
 dsimp only;rw[et];dsimp only;rw[e1];dsimp only;rw[e2];dsimp only;rw[hp]
theorem zHW (hgd:zAl gd all M):zCP g tc tk tv σ n all gd [] M=some M:=by
 rw[zCP,zVv hgd]
theorem zJy (e:f σ M=some (.dat (mD zA),M)):fB zBb (zQ f zf) σ M=some (.dat (.int zA.length),M):=by
 have:=zIv e zp;rw[zVp]at this;exact this
theorem zL6 (m:IsM zA l) (e:f σ M=some (.dat (mD zA),M)):fB zBb (zQ (fOp kIx f (fC (.int 0))) zf) σ M=some (.dat (.int l),M):=by
 have r0:=m.r0;have:=zIv (zO (g:=fC (.int 0)) e rfl (zCQ zp (zP4 (h:=0) (by omega) (by omega)))) zp;rw[zVp,(m.get (h:=0) (by omega) (by omega)).1]at this;exact this
theorem zJ9 (e:f σ M=some (.dat (tI xs),M)):fB zBb (zQ f zf) σ M=some (.dat (.int xs.length),M):=by
 have:=zIv e zp;rw[zVp]at this;exact this
theorem zSF {bs:List Bool} (h:f σ M=some (.fl (bs.map D.bl),M)):fB zTW (zQ f zf) σ M=some (.dat (.bl (bs.all id)),M):=by
 unfold fB zQ zf;rw[h];exact zZ ((zTp zTM (zHQ bs)).mpr ⟨rfl,rfl⟩)
end Law
namespace Law
open PySem PySem.Spec PyProof.Rows L2 L3 ST
abbrev gL (k:Nat) (s:Int):MO:=.lst [.ref k,.int s]
theorem zTh (hk:k<N):MO.und N (gL k s)=true:=by
 show D.unds _ _=true;unfold D.unds D.unds D.unds D.und;simp[hk]
structure Nw (M M':Mem) (n k:Nat):Prop where
 gen:Gen M' n k
 len:M.length<=M'.length
 fr:∀ j,j<M.length->j≠n->j≠k->M'[j]?=M[j]?
theorem Nw.trans {M M1 M2:Mem} {n k:Nat} (a:Nw M M1 n k) (b:Nw M1 M2 n k):Nw M M2 n k :=
 ⟨b.gen,zV7 a.len b.len,λj h h1 h2=>(b.fr j (zV5 h a.len) h1 h2).trans (a.fr j h h1 h2)⟩
theorem Nx.nw (x:Nx M M' n k):Nw M M' n k:=⟨x.gen,by rw[x.len];exact zVm _,λj _ h1 h2=>x.fr j h1 h2⟩
theorem Gen.lst (h:Gen A n k) (xs:List D) (hx:D.unds A.length xs=true):Nw A (A++[.lst xs]) n k:=⟨h.app λu hu=>by
 have:u=.lst xs:=by simpa using hu
 subst this;exact zB9 (by simp) hx,by simp,λj hj _ _=>zVn hj⟩
theorem Nw.setB (h:Nw M A n k) (g:Gen M n k) (hj:M.length<=j) (hu:MO.und A.length u=true):Nw M (A.set j u) n k:=by
 obtain ⟨hn,hk⟩:=g.lt;obtain ⟨c,s,e1,e2,r⟩:=h.gen.ex;refine ⟨⟨⟨c,s,by rw[zWA (by omega)];exact e1,by rw[zWA (by omega)];exact e2,r⟩,g.ne,λi v e=>?_⟩,by rw[List.length_set];exact h.len,λi hi h1 h2=>by rw[zWA (by omega)];exact h.fr i hi h1 h2⟩;rw[List.length_set];rw[zXF]at e;split at e
 .split at e
  .cases e;exact hu
  .cases e
 .exact h.gen.wf i v e
theorem Nw.wf0 (h:Nw M M' n k) (g:Gen M n k):∀ (j:Nat) u,j<M.length->M'[j]?=some u->MO.und M.length u=true:=λj u hj e=>by
 obtain ⟨hn,hk⟩:=g.lt;obtain ⟨c,s,e1,e2,r⟩:=h.gen.ex;by_cases q1:j=n
 .subst q1;rw[e1]at e;cases e;exact zTh hk
 .by_cases q2:j=k
  .subst q2;rw[e2]at e;cases e;exact zk _ _
  .rw[h.fr j hj q1 q2]at e;exact g.wf j u e
theorem Nw.trim (h:Nw M M' n k) (g:Gen M n k):Nw M (M'.take M.length) n k:=by
 obtain ⟨hn,hk⟩:=g.lt;have tk:∀ j,j<M.length->(M'.take M.length)[j]?=M'[j]?:=λj hj=>List.getElem?_take_of_lt hj;have tl:(M'.take M.length).length=M.length:=by have:=h.len;rw[zW4];omega
 obtain ⟨c,s,e1,e2,r⟩:=h.gen.ex;refine ⟨⟨⟨c,s,(tk n hn).trans e1,(tk k hk).trans e2,r⟩,g.ne,λj u e=>?_⟩,by omega,λj hj h1 h2=>(tk j hj).trans (h.fr j hj h1 h2)⟩;have hj:j<M.length:=by have:=(zVj.mp e).1;omega
 rw[tk j hj]at e;rw[tl];exact h.wf0 g j u hj e
theorem Nw.get (h:Nw M M' n k) (e:M[j]?=some u) (h1:j≠n) (h2:j≠k):M'[j]?=some u :=
 (h.fr j (zVj.mp e).1 h1 h2).trans e
end Law
namespace Lac
open PySem PySem.Spec PyProof.Rows L2 L3 ST Law
def zDr:FS:=(zW (zj 2 (zA5 zH))
  (zW (zCl (zAC (zD (toD (zC 1)) zH)) (gN 3) (zBp (fM zDz (zC 2) (zD (toD (zL zR (zD (toD (zC 0)) (zD (toD (fOp zAT (zC 3) (fC (.int 1)))) zH)))) (zD (toD (zC 3)) zH)))))
  (zAR (zC 2))))
def zBN:FF:=zBI 4 zDr
def zC5:FS:=(zW (sIf (tst (fOp kEq (zC 1) (fC (.int 0)))) (zAR (zq [4] (zAC (zD (toD (zC 2)) zH)) (gN 4) zh (zL zR (zD (toD (zC 0)) (zD (toD (zC 2)) zH))))) zBs)
  (zW (sIf (tst (fOp kEq (zC 1) (fC (.int 1)))) (zAR (zq [4] (zAC (zD (toD (zC 2)) zH)) (gN 4) zh (fOp zE2 (fOp zAT (zC 4) (zL zR (zD (toD (zC 0)) (zD (toD (fC (.int 3))) zH)))) (zC 2)))) zBs)
  (zW (sIf (tst (fOp kEq (zC 1) (fC (.int 2)))) (zW (zj 5 (fOp zNM (fOp zAT (zC 2) (fC (.int 1))) (fC (.int 2))))
  (zW (zj 6 (zq [4] (zAC (zD (toD (zC 5)) zH)) (gN 4) zh (zL zR (zD (toD (zC 0)) (zD (toD (zC 5)) zH)))))
  (zAR (fOp zFc (zC 6) (zq [4] (zAC (zD (toD (fOp zHA (zC 2) (zC 5))) zH)) (gN 4) zh (fOp zAT (zC 5) (zL zR (zD (toD (zC 0)) (zD (toD (fOp zHA (zC 2) (zC 5))) zH))))))))) zBs)
  (zW (sIf (zBy (tst (fOp kEq (zC 1) (fC (.int 3)))) (tst (fOp kEq (zC 3) (fC (.int 0))))) (zAR (zq [4] (zAC (zD (toD (zC 2)) zH)) (gN 4) zh (fOp zE2 (fOp zAT (zC 4) (fC (.int 1))) (zC 2)))) zBs)
  (zW (sIf (tst (fOp kEq (zC 1) (fC (.int 3)))) (zAR (zq [4] (zAC (zD (toD (zC 2)) zH)) (gN 4) zh (fOp kIx (zA5 (zD (toD (zC 4)) (zD (toD (fC (.int 0))) zH))) (fB zKt (zQ (fOp kEq (zC 4) (fOp zHA (zC 2) (fC (.int 1)))) zf))))) zBs)
  (zW (sIf (zGe (tst (fOp kEq (zC 1) (fC (.int 4)))) (tst (fOp kEq (zC 1) (fC (.int 7))))) (zW (zj 7 (zL zR (zD (toD (zC 0)) (zD (toD (zC 2)) zH))))
  (zAR (zq [4] (zAC (zD (toD (zC 2)) zH)) (gN 4) zh (fOp kIx (zA5 (zD (toD (fOp zE2 (fOp zAT (zC 4) (zC 7)) (zC 2))) (zD (toD (zC 7)) zH))) (fB zKt (zQ (fOp kEq (zC 1) (fC (.int 7))) zf)))))) zBs)
  (zW (zj 8 (zL zBN (zD (toD (zC 0)) (zD (toD (zC 2)) zH))))
  (zW (sIf (zBy (tst (fOp kEq (zC 1) (fC (.int 6)))) (tst (fOp kEq (zC 3) (fC (.int 0))))) (zW (zj 9 (fOp kIx (zC 8) (zL zR (zD (toD (zC 0)) (zD (toD (zC 2)) zH)))))
  (zLF (zC 9) (zC 8) (zL zR (zD (toD (zC 0)) (zD (toD (zC 2)) zH))))) zBs)
  (zAR (zC 8))))))))))
def zBR:FF:=zBI 10 zC5
def zCm:FS:=(zW (zj 3 (zL zR (zD (toD (zC 0)) (zD (toD (fC (.int 8))) zH))))
  (zW (zj 4 (zq [5] (zAC (zD (toD (zC 2)) zH)) (gN 5) zh (zL zBR (zD (toD (zC 0)) (zD (toD (zC 3)) (zD (toD (zC 1)) (zD (toD (zC 5)) zH)))))))
  (zAR (fB zAQ (zQ (zq [7] (zAC (zD (toD (zC 1)) zH)) (gN 7) zh (fB zAQ (zQ (zq [6] (zAK (zC 4)) (gN 6) zh (fOp kIx (zC 6) (zC 7))) zf))) zf)))))
def zA9:FF:=zKN (zBI 8 zCm)
def Col (many:Int) (c:Ye):Prop:=(c.length:Int)=many /\ ∀ x∈c,0<=x/\x<many
theorem zAS (h:P (.ref M.length) (M++[.lst xs])):zGy P (.fl xs) M:=h
theorem zAX (A:Mem) (u:MO):(A++[u])[A.length]?=some u:=by simp
theorem zTv (h:0<b):zE2 (.dat (.int a)) (.dat (.int b)) M=some (.dat (.int (a % b)),M):=zZ (zFb.mpr ⟨h,rfl,rfl⟩)
theorem zGf {M:Mem} {n k:Nat} (h:Gen M n k) {own:Yj} {i:Nat} {f te:FE} {σ:Sd} {cnt lo hi:Int} (c0:0<=cnt) (c1:cnt<=90000) (hf:f σ M=some (.dat (.int cnt),M))
  (ht:∀ (r:Nat) (M':Mem),(r:Int)<cnt->Gen M' n k->Ok (te ((zA7 own σ).set i (some (.int r))) M') λx M''=>∃ v:Int,x=.dat (.int v)/\lo<=v/\v<hi/\Nx M' M'' n k) :
  Ok (zq own (zAC (zD (toD f) zH)) (gN i) zh te σ M) λx M'=>(∃ c:List Int,x=.fl (c.map D.int)/\(c.length:Int)=cnt /\ ∀ y∈c,lo<=y/\y<hi)/\Nx M M' n k:=by
 refine zDw.mpr ⟨_,_,_,zCJ hf c0 (by omega),by rw[zBl];exact zn (by omega),?_⟩;refine Ok.mono (zK5 (n:=cnt.toNat) (I:=λj acc M2=>(∃ c:List Int,acc=c.map D.int/\c.length=j /\ ∀ y∈c,lo<=y/\y<hi)/\Nx M M2 n k) ?_ ⟨⟨[],rfl,rfl,λ_ h=>by cases h⟩,Nx.refl h⟩) ?_
 .rintro j acc M2 hj ⟨⟨c,rfl,hcl,hc⟩,nx⟩;refine ⟨_,rfl,?_⟩;refine Ok.mono (ht j M2 (by omega) nx.gen) ?_;rintro x M3 ⟨v,rfl,v0,v1,nx3⟩;rw[zI];refine ⟨⟨c++[v],by simp,by simp[hcl],λz hz=>?_⟩,nx.trans nx3⟩;rcases zV6.mp hz with q|q
  .exact hc z q
  .have:z=v:=by simpa using q
   subst this;exact ⟨v0,v1⟩
 .rintro ys M2 ⟨⟨c,rfl,hcl,hc⟩,nx⟩;exact ⟨⟨c,rfl,by omega,hc⟩,nx⟩
theorem zUM (ha:a σ M=some (.dat x,M)) (hb:b σ M=some (.dat y,M)):zA5 (zD (toD a) (zD (toD b) zH)) σ M=some (.fl [x,y],M):=by
 unfold zA5;rw[zg ha (za hb)];dsimp only;rw[zVv (zn (by simp))]
theorem zR9 (hl:l σ M=some (.fl [x,y],M)) (ht:t σ M=some (.dat (.bl b),M)):fOp kIx l (fB zKt (zQ t zf)) σ M=some (.dat (if b then y else x),M):=by
 have e:fB zKt (zQ t zf) σ M=some (.dat (.int (if b then 1 else 0)),M):=by unfold fB zQ zf;rw[ht];rfl
 cases b with
 |true=>exact zO hl e rfl
 |false=>exact zO hl e rfl
theorem zNC (h:M[n]?=some (.lst xs)) (h0:0<=i) (h1:i.toNat<=xs.length) (hz:xs.length<90000):zDz (.dat (.ref n)) [.int i,d] M=some (.non,M.set n (.lst (xs.take i.toNat++[d]++xs.drop i.toNat))):=by
 unfold zDz;dsimp only;rw[h];dsimp only;rw[zVv ⟨h0,h1,zV5 hz (zn (by omega))⟩]
theorem zJq (h:Gen M n k) (m0:0<many) (m1:many<=1000):Ok (zBN [.ref n,.int many] M) λd M'=>∃ j c,d=.ref j/\M'[j]?=some (.lst (c.map D.int))/\Col many c/\M.length<=j/\Nw M M' n k/\c.Perm ((List.range many.toNat).map λ(x:Nat)=>(x:Int)):=by
 obtain ⟨hn,hk⟩:=h.lt;unfold zBN;rw[zx];unfold zDr;rw[zK,zU];refine zIf.mpr (zCY.mpr ⟨zn (by simp),zAS ?_⟩);rw[zN,zK,zBU];have nw1:=h.lst [] rfl;have e1:(M++[MO.lst ([]:List D)])[M.length]?=some (.lst []):=zAX _ _;generalize M++[MO.lst ([]:List D)]=M1 at nw1 e1;refine ⟨_,_,_,zCJ rfl (by omega) (by omega),?_⟩;refine zKj (n:=many.toNat) (I:=λi σ M'=>(∃ y,σ=[some (.ref n),some (.int many),some (.ref M.length),y]) /\ ∃ c:List Int,M'[M.length]?=some (.lst (c.map D.int))/\c.length=i/\(∀ x∈c,0<=x/\x<many)/\Nw M M' n k/\c.Perm ((List.range i).map λ(x:Nat)=>(x:Int))) ?_ ?_ _ _ ⟨⟨_,rfl⟩,[],e1,rfl,(λ_ h=>by cases h),nw1,.refl _⟩
 .rintro i σ M' hi ⟨⟨y,rfl⟩,c,ec,hcl,hc,nw,pm⟩;refine ⟨_,rfl,?_⟩;rw[zCS];refine zKk.mpr (zo.mpr ⟨_,rfl,⟨_,zBj ec⟩,zAn.mpr (zAi.mpr ?_)⟩);refine zv nw.gen rfl (zO (x:=.dat (.int (i:Nat))) rfl rfl rfl) (by omega) (by omega) λq M2 q0 q1 nx=>?_;have ec2:=nx.nw.get ec (by omega) (by omega);rw[zI];refine zE (za (d:=.int (i:Nat)) rfl) ?_;refine zE (zNC ec2 q0 (by rw[zVp];omega) (by rw[zVp];omega)) ?_;have hl:M.length<M2.length:=(zVj.mp ec2).1;refine ⟨⟨_,rfl⟩,c.take q.toNat++[(i:Int)]++c.drop q.toNat,?_,by simp;omega,λx hx=>?_,?_,?_⟩
  .rw[zWa hl];simp
  .simp only[zV6,zV8]at hx;rcases hx with (w|w)|w
   .exact hc x (List.mem_of_mem_take w)
   .omega
   .exact hc x (List.mem_of_mem_drop w)
  .refine (nw.trans nx.nw).setB h (zVm _) ?_;show D.unds _ _=true;rw[<-List.map_take,<-List.map_drop,zGc,zGc,zk,zk];rfl
  .rw[List.range_succ,zWY];refine List.Perm.trans ?_ (List.Perm.append_right _ pm);rw[zWm];refine List.Perm.trans (List.Perm.append_left _ List.perm_append_comm) ?_;rw[<-zWm,List.take_append_drop];exact .refl _
 .rintro σ M' ⟨⟨y,rfl⟩,c,ec,hcl,hc,nw,pm⟩;rw[zN];exact zAu rfl ⟨M.length,c,rfl,ec,⟨by omega,hc⟩,zVm _,nw,pm⟩
theorem zQ9 (h:Col many c) (hj:j<c.length):0<=c.getD j 0/\c.getD j 0<many:=by
 rw[zVl,zVk hj];exact h.2 _ (zWE hj)
theorem zPu (h:Col many c) (hj:j<c.length):Col many (c.set i (c.getD j 0)):=by
 refine ⟨by rw[List.length_set];exact h.1,λx hx=>?_⟩;rcases List.mem_or_eq_of_mem_set hx with q|q
 .exact h.2 x q
 .rw[q,zVl,zVk hj];exact h.2 _ (zWE hj)
theorem zM0 {M:Mem} {n k:Nat} (h:Gen M n k) {fam many let_:Int} (m0:0<many) (m1:many<=1000) :
  Ok (zBR [.ref n,.int fam,.int many,.int let_] M) λd M'=>∃ j c,d=.ref j/\M'[j]?=some (.lst (c.map D.int))/\Col many c/\M.length<=j/\Nw M M' n k:=by
 obtain ⟨hn,hk⟩:=h.lt;unfold zBR;rw[zx];unfold zC5;have isf:∀ (j:Int) (σ:Sd) (M:Mem),σ[1]?=some (some (.int fam))->tst (fOp kEq (zC 1) (fC (.int j))) σ M=some (decide (fam=j),M):=λj σ M e=>by
  have v4:zC 1 σ M=some (.dat (.int fam),M):=by unfold zC;rw[e]
  exact zAf (zO v4 rfl (zZ (zMu.mpr ⟨rfl,rfl⟩)))
 have isl:∀ (σ:Sd) (M:Mem),σ[3]?=some (some (.int let_))->tst (fOp kEq (zC 3) (fC (.int 0))) σ M=some (decide (let_=0),M):=λσ M e=>by
  have v4:zC 3 σ M=some (.dat (.int let_),M):=by unfold zC;rw[e]
  exact zAf (zO v4 rfl (zZ (zMu.mpr ⟨rfl,rfl⟩)))
 have andE:∀ {a b:FT} {σ:Sd} {M:Mem} {x y:Bool},a σ M=some (x,M)->b σ M=some (y,M)->zBy a b σ M=some (x&&y,M):=λ{a b σ M x y} ha hb=>by
  unfold zBy;rw[ha];cases x <;> first|exact hb|rfl
 have orE:∀ {a b:FT} {σ:Sd} {M:Mem} {x y:Bool},a σ M=some (x,M)->b σ M=some (y,M)->zGe a b σ M=some (x||y,M):=λ{a b σ M x y} ha hb=>by
  unfold zGe;rw[ha];cases x <;> first|exact hb|rfl
 have new:∀ (A:Mem) (c':Ye),Nw M A n k->Col many c' -> ∃ j c,D.ref A.length=D.ref j/\(A++[MO.lst (c'.map D.int)])[j]?=some (.lst (c.map D.int))/\Col many c/\M.length<=j/\Nw M (A++[MO.lst (c'.map D.int)]) n k:=λA c' nw hc'=>
  ⟨A.length,c',rfl,zAX _ _,hc',nw.len,nw.trans (nw.gen.lst _ (zk _ _))⟩
 rw[zK,zBe];refine zE (isf 0 _ _ rfl) ?_;by_cases w0:fam=0
 .rw[zVv (by simpa using w0),zAN];refine Ok.mono (zGf h (cnt:=many) (lo:=0) (hi:=many) (by omega) (by omega) rfl λr M' hr g=>zv g rfl rfl m0 (by omega) λi M2 i0 i1 nx=>⟨i,rfl,i0,i1,nx⟩) ?_;rintro x M1 ⟨⟨c,rfl,hcl,hc⟩,nx⟩;refine zAS ?_;rw[zC8];exact new _ _ nx.nw ⟨hcl,hc⟩
 rw[zVy (by simpa using w0),zA2,zN,zK,zBe];refine zE (isf 1 _ _ rfl) ?_;by_cases w1:fam=1
 .rw[zVv (by simpa using w1),zAN];refine Ok.mono (zGf h (cnt:=many) (lo:=0) (hi:=many) (by omega) (by omega) rfl λr M' hr g=>?_) ?_
  .refine zAE.mpr (zAE.mpr (zo.mpr ⟨_,rfl,zv g rfl rfl (by decide) (by decide) λi M2 i0 i1 nx=>zDK.mpr (zo.mpr ⟨_,rfl,zFb.mpr ⟨m0,_,rfl,Int.emod_nonneg _ (by omega),Int.emod_lt_of_pos _ m0,nx⟩⟩)⟩))
  rintro x M1 ⟨⟨c,rfl,hcl,hc⟩,nx⟩;refine zAS ?_;rw[zC8];exact new _ _ nx.nw ⟨hcl,hc⟩
 rw[zVy (by simpa using w1),zA2,zN,zK,zBe];refine zE (isf 2 _ _ rfl) ?_;by_cases w2:fam=2
 .rw[zVv (by simpa using w2)];refine zAs (d:=.int ((many+1) / 2)) (zO (x:=.dat (.int (many+1))) (zO rfl rfl rfl) rfl (zZ (zPU.mpr ⟨⟨by decide,by decide⟩,rfl,rfl⟩))) ?_;obtain ⟨h0,h1⟩:0<(many+1) / 2/\(many+1) / 2<=many:=by omega
  generalize (many+1) / 2=half at h0 h1;rw[zK,zU];refine Ok.mono (zGf h (cnt:=half) (lo:=0) (hi:=half) (by omega) (by omega) rfl λr M' hr g=>zv g rfl rfl h0 (by omega) λi M2 i0 i1 nx=>⟨i,rfl,i0,i1,nx⟩) ?_;rintro x M1 ⟨⟨c,rfl,hcl,hc⟩,nx⟩;refine zAS ?_;rw[zN,zAN];have nw2:=nx.nw.trans (nx.gen.lst (c.map D.int) (zk _ _));have e6:(M1++[MO.lst (c.map D.int)])[M1.length]?=some (.lst (c.map D.int)):=zAX _ _;have hj:M.length<=M1.length:=nx.nw.len;generalize M1++[MO.lst (c.map D.int)]=M2 at nw2 e6;generalize M1.length=j6 at e6 hj;refine zAE.mpr (zo.mpr ⟨_,rfl,?_⟩);refine Ok.mono (zGf nw2.gen (cnt:=many-half) (lo:=half) (hi:=many) (by omega) (by omega) (zO rfl rfl rfl) λr M' hr g=>?_) ?_
  .refine zAE.mpr (zo.mpr ⟨_,rfl,zv g rfl (zO (x:=.dat (.int many)) (y:=.dat (.int half)) rfl rfl rfl) (by omega) (by omega) λi M3 i0 i1 nx3=>zDK.mpr ⟨_,rfl,by omega,by omega,nx3⟩⟩)
  rintro x M3 ⟨⟨c3,rfl,hcl3,hc3⟩,nx3⟩;have e6':=nx3.nw.get e6 (by omega) (by omega);refine zOr (xs:=c.map D.int) (ys:=c3.map D.int) ?_ rfl (by simp;omega) (zAS ?_)
  .unfold zKB;dsimp only;rw[e6']
  rw[zC8,<-zWY];refine new _ _ (nw2.trans nx3.nw) ⟨by simp;omega,λx hx=>?_⟩;rcases zV6.mp hx with q|q
  .have:=hc x q;omega
  .have:=hc3 x q;omega
 rw[zVy (by simpa using w2),zA2,zN,zK,zBe];refine zE (andE (isf 3 _ _ rfl) (isl _ _ rfl)) ?_;by_cases w3:(decide (fam=3)&&decide (let_=0))=true
 .rw[zVv w3,zAN];refine Ok.mono (zGf h (cnt:=many) (lo:=0) (hi:=many) (by omega) (by omega) rfl λr M' hr g=>?_) ?_
  .exact zE (zO (x:=.dat (.int ((r:Int)+1))) (y:=.dat (.int many)) (zO rfl rfl rfl) rfl (zTv m0)) ⟨_,rfl,Int.emod_nonneg _ (by omega),Int.emod_lt_of_pos _ m0,Nx.refl g⟩
  rintro x M1 ⟨⟨c,rfl,hcl,hc⟩,nx⟩;refine zAS ?_;rw[zC8];exact new _ _ nx.nw ⟨hcl,hc⟩
 rw[zVy w3,zA2,zN,zK,zBe];refine zE (isf 3 _ _ rfl) ?_;by_cases w3':fam=3
 .rw[zVv (by simpa using w3'),zAN];refine Ok.mono (zGf h (cnt:=many) (lo:=0) (hi:=many) (by omega) (by omega) rfl λr M' hr g=>?_) ?_
  .refine zE (zR9 (b:=decide ((r:Int)=many-1)) (zUM (x:=.int r) (y:=.int 0) rfl rfl) (zO (x:=.dat (.int r)) (y:=.dat (.int (many-1))) rfl (zO rfl rfl rfl) (zZ (zMu.mpr ⟨rfl,rfl⟩)))) ?_;by_cases q:(r:Int)=many-1
   .rw[zWo q,zVv rfl];exact ⟨0,rfl,by omega,by omega,Nx.refl g⟩
   .rw[zWF q,zVy (by decide)];exact ⟨r,rfl,by omega,by omega,Nx.refl g⟩
  rintro x M1 ⟨⟨c,rfl,hcl,hc⟩,nx⟩;refine zAS ?_;rw[zC8];exact new _ _ nx.nw ⟨hcl,hc⟩
 rw[zVy (by simpa using w3'),zA2,zN,zK,zBe];refine zE (orE (isf 4 _ _ rfl) (isf 7 _ _ rfl)) ?_;by_cases w4:(decide (fam=4)||decide (fam=7))=true
 .rw[zVv w4,zK,zU];refine zv h rfl rfl m0 (by omega) λfar M1 a0 a1 nx1=>?_;rw[zI,zN,zAN];refine Ok.mono (zGf nx1.gen (cnt:=many) (lo:=0) (hi:=many) (by omega) (by omega) rfl λr M' hr g=>?_) ?_
  .refine zE (zR9 (b:=decide (fam=7)) (zUM (x:=.int (((r:Int)+far) % many)) (y:=.int far) (zO (x:=.dat (.int ((r:Int)+far))) (y:=.dat (.int many)) (zO rfl rfl rfl) rfl (zTv m0)) rfl) (zO (x:=.dat (.int fam)) (y:=.dat (.int 7)) rfl rfl (zZ (zMu.mpr ⟨rfl,rfl⟩)))) ?_;by_cases q:fam=7
   .rw[zWo q,zVv rfl];exact ⟨far,rfl,a0,a1,Nx.refl g⟩
   .rw[zWF q,zVy (by decide)];exact ⟨_,rfl,Int.emod_nonneg _ (by omega),Int.emod_lt_of_pos _ m0,Nx.refl g⟩
  rintro x M2 ⟨⟨c,rfl,hcl,hc⟩,nx⟩;refine zAS ?_;rw[zC8];exact new _ _ (nx1.trans nx).nw ⟨hcl,hc⟩
 rw[zVy w4,zA2,zN,zK,zU];refine zCW.mpr (zE (zg rfl (za rfl)) ?_);refine Ok.mono (zJq h m0 m1) ?_;rintro d M1 ⟨j,c,rfl,ej,cc,hj,nw1,_⟩;have cl:=cc.1;rw[zI,zN,zK,zBe];refine zE (andE (isf 6 _ _ rfl) (isl _ _ rfl)) ?_;by_cases w6:(decide (fam=6)&&decide (let_=0))=true
 .rw[zVv w6,zK,zU];refine zAE.mpr (zo.mpr ⟨_,rfl,zv nw1.gen rfl rfl m0 (by omega) λp M2 p0 p1 nx2=>?_⟩);have ej2:=nx2.nw.get ej (by omega) (by omega);refine zK0 (zAU ej2) (zGF p0 (by omega)) ?_;rw[zI,zN,zIF];refine zo.mpr ⟨_,rfl,?_⟩;rw[zI];refine zo.mpr ⟨_,rfl,zv nx2.gen rfl rfl m0 (by omega) λq M3 q0 q1 nx3=>?_⟩;have ej3:=nx3.nw.get ej2 (by omega) (by omega);rw[zI];have eq':q=((q.toNat:Nat):Int):=by omega
  refine ⟨M3.set j (.lst ((c.map D.int).set q.toNat (.int (c.getD p.toNat 0)))),?_,?_⟩
  .have:=zGH (k:=q.toNat) (d:=.int (c.getD p.toNat 0)) ej3 (by rw[zVp];omega);rw[<-eq']at this;exact this
  rw[zN];refine zAu rfl ⟨j,c.set q.toNat (c.getD p.toNat 0),rfl,?_,zPu cc (by omega),hj,?_⟩
  .rw[zWa (zVj.mp ej3).1,List.map_set]
  .refine ((nw1.trans nx2.nw).trans nx3.nw).setB h hj ?_;rw[<-List.map_set];exact zk _ _
 .rw[zVy w6,zA2,zN];exact zAu rfl ⟨j,c,rfl,ej,cc,hj,nw1⟩
def zC6 (many:Int) (cs:Ya):List (List Int):=(List.range many.toNat).map λr=>cs.map λc=>c.getD r 0
theorem zNY (h0:0<many) (hc:∀ c∈cs,Col many c) (hl:0<cs.length):IsM (zC6 many cs) cs.length:=by
 have hlen:(zC6 many cs).length=many.toNat:=by unfold zC6;simp
 refine ⟨by omega,hl,λr hr=>?_⟩;rw[hlen];unfold zC6 at hr;obtain ⟨k,hk,rfl⟩:=zVx.mp hr;refine ⟨by simp,λg hg=>?_⟩;obtain ⟨c,hcm,rfl⟩:=zVx.mp hg;have:=hc c hcm;have h1:=this.1;have:=zQ9 this (j:=k) (by have:=zWK.mp hk;omega);omega
def zOv (M:Mem) (lo:Nat) (many:Int) (js:Yj) (cs:Ya):Prop:=js.length=cs.length /\ ∀ (i:Nat) j c,js[i]?=some j->cs[i]?=some c->lo<=j/\M[j]?=some (.lst (c.map D.int))/\Col many c
theorem zLV (h:Gen M n k) (hm:0<many) (hm1:many<=900) (hl:0<lm) (hl1:lm<=900) :
  Ok (zA9 [.ref n,.int many,.int lm] M) λd M'=>(∃ zA l,d=mD zA/\IsM zA l/\(zA.length:Int)=many/\(l:Int)=lm)/\Nw M M' n k:=by
 obtain ⟨hn,hk⟩:=h.lt;unfold zA9;refine zRg ?_;rw[zx];unfold zCm;rw[zK,zU];refine zv h rfl rfl (by decide) (by decide) λfam M1 f0 f1 nx1=>?_;rw[zI,zN,zK,zU];refine zDw.mpr ⟨_,_,_,zCJ (j:=lm) rfl (by omega) (by omega),by rw[zBl];exact zn (by omega),?_⟩;refine Ok.mono (zK5 (n:=lm.toNat) (I:=λi acc M'=>∃ (js:Yj) (cs:Ya),acc=js.map D.ref/\zOv M' M.length many js cs/\cs.length=i/\Nw M M' n k) ?_ ⟨[],[],rfl,⟨rfl,λi j c h=>by simp at h⟩,rfl,nx1.nw⟩) ?_
 .rintro i acc M' hi ⟨js,cs,rfl,hcs,hcl,nw⟩;refine ⟨_,rfl,?_⟩;refine zCW.mpr (zE (zg (d:=.ref n) rfl (zg (d:=.int fam) rfl (zg (d:=.int many) rfl (za (d:=.int (i:Nat)) rfl)))) ?_);refine Ok.mono (zM0 nw.gen hm (by omega)) ?_;rintro d M2 ⟨j,c,rfl,ec,cc,hj,nw2⟩;have hle:=nw.len;rw[zI];refine ⟨js++[j],cs++[c],by simp,⟨by simp[hcs.1],λa b c' h1 h2=>?_⟩,by simp[hcl],nw.trans nw2⟩;by_cases ha:a<js.length
  .rw[zVn ha]at h1;rw[zVn (by rw[<-hcs.1];exact ha)]at h2;obtain ⟨q1,q2,q3⟩:=hcs.2 a b c' h1 h2;exact ⟨q1,nw2.get q2 (by omega) (by omega),q3⟩
  .have ha':a=js.length:=by
    have:=(zVj.mp h1).1;simp at this;omega
   subst ha';rw[zWq (zVm _)]at h1;rw[zWq (by rw[hcs.1];exact zVm _)]at h2;simp at h1;rw[hcs.1]at h2;simp at h2;subst h1 h2;exact ⟨by omega,ec,cc⟩
 .rintro ys M2 ⟨js,cs,rfl,hcs,hcl,nw⟩;refine zAS ?_;rw[zN];have hju:D.unds M2.length (js.map D.ref)=true:=zEk λz hz=>by
   obtain ⟨b,hb,rfl⟩:=zVx.mp hz;obtain ⟨i,hi,rfl⟩:=List.mem_iff_getElem.mp hb;have hi':i<cs.length:=by rw[<-hcs.1];exact hi
   obtain ⟨_,q2,_⟩:=hcs.2 i js[i] cs[i] (zVk hi) (zVk hi');simp[D.und,(zVj.mp q2).1]
  have nwA:=nw.trans (nw.gen.lst (js.map D.ref) hju);have eA:(M2++[MO.lst (js.map D.ref)])[M2.length]?=some (.lst (js.map D.ref)):=zAX _ _;have hA:zOv (M2++[MO.lst (js.map D.ref)]) M.length many js cs:=⟨hcs.1,λi j c h1 h2=>by
   obtain ⟨q1,q2,q3⟩:=hcs.2 i j c h1 h2;exact ⟨q1,by rw[zVn (zVj.mp q2).1];exact q2,q3⟩⟩
  generalize M2++[MO.lst (js.map D.ref)]=A at nwA eA hA;generalize M2.length=j at eA;have hcol:∀ c∈cs,Col many c:=λc hc=>by
   obtain ⟨i,hi,rfl⟩:=List.mem_iff_getElem.mp hc;exact (hA.2 i (js[i]'(by rw[hA.1];exact hi)) cs[i] (zVk _) (zVk _)).2.2
  have hlen:(zC6 many cs).length=many.toNat:=by unfold zC6;simp
  refine zAu (d:=mD (zC6 many cs)) ?_ ⟨⟨zBx _,nwA.len,nwA.wf0 h⟩,⟨zC6 many cs,cs.length,rfl,zNY hm hcol (by omega),by omega,by omega⟩,nwA.trim h⟩;refine (zBV (zBA (List.range many.toNat) (λk=>D.int k) (λk=> .tup ((cs.map λc=>c.getD k 0).map D.int)) (zHS (f:=zC 1) rfl (by omega) (by omega)) trivial (by simp;omega) λr hr=>⟨_,rfl,?_⟩) zBw).trans ?_
  .have hr':=zWK.mp hr;refine (zBV (zBA (gd:=zEH (.dat (.ref j)) (js.map D.ref)) (List.range js.length) (λi=>D.ref (js.getD i 0)) (λi=> .int ((cs.getD i []).getD r 0)) ?_ ?_ (by rw[zXd,hA.1,hcl];omega) λi hi=>⟨_,rfl,?_⟩) zBw).trans ?_
   .rw[show ((List.range js.length).map λi=>D.ref (js.getD i 0))=js.map D.ref by
     apply List.ext_getElem
     .simp
     .intro i h1 h2;simp at h1;simp[h1]]
    exact zCj (x:=.dat (.ref j)) rfl (zAU eA)
   .exact .inl eA
   .have hi':=zWK.mp hi;have hc':i<cs.length:=by rw[<-hA.1];exact hi'
    have ej':js[i]?=some (js.getD i 0):=by rw[zVl,zVk hi'];rfl
    have ec':cs[i]?=some (cs.getD i []):=by rw[zVl,zVk hc'];rfl
    obtain ⟨_,q2,q3⟩:=hA.2 i _ _ ej' ec';have hz:=q3.1;exact zO (x:=.dat (.ref (js.getD i 0))) (y:=.dat (.int (r:Nat))) rfl rfl (zCQ (zAU q2) (zGF (by omega) (by omega)))
   .congr 3;rw[zV4];refine congrArg D.tup ?_;apply List.ext_getElem
    .simp[hA.1]
    .intro i h1 h2;simp at h1 h2;have h2':i<cs.length:=h2;simp[h2']
  .unfold mD zC6;rw[zV4];rfl
def zDo:FS:=(zAR (zLr (fB zBb (zQ (zC 0) zf))))
def zAO:FF:=zBI 1 zDo
def zEG:FS:=(zAR (zFH [1,2] [2] (zAK (zC 0)) (gN 1) zh (zAK (zC 0)) (gN 2) (tst (fOp kLt (zC 1) (zC 2))) (zB7 (zD (toD (zC 1)) (zD (toD (zC 2)) zH)))))
def zAH:FF:=zBI 3 zEG
theorem zJo {α:Type} (enc out:α->D) (keep:α->Bool):∀ (as:List α),(∀ a∈as,∃ σ1,g (enc a) σ=some σ1/\tc σ1 M=some (keep a,M)/\(keep a=true->te σ1 M=some (.dat (out a),M)))->zAo g tc te σ all none (as.map enc) M=some ((as.filter keep).map out,M)
 |[],_=>by
  rw[List.map_nil];unfold zAo;rw[zVv (show zAl none all M from trivial)];rfl
 |a::r,h=>by
  obtain ⟨σ1,e1,e2,e3⟩:=h a zVu;have ih:=zJo (all:=all) (σ:=σ) enc out keep r λb hb=>h b (zVt _ hb);rw[zVz];unfold zAo;rw[zVv (show zAl none all M from trivial),e1];dsimp only;rw[e2];cases hk:keep a with
  |false=>
   dsimp only;rw[ih,List.filter_cons_of_neg (by simp[hk])]
  |true=>
   dsimp only;rw[show toD te σ1 M=some (out a,M) by unfold toD;rw[e3 hk]];dsimp only;rw[ih,List.filter_cons_of_pos hk];rfl
theorem zPq {α β:Type} (as:List α) (enc:α->D) (bs:α->List β) (enc2:β->D) (keep:α->β->Bool) (out:α->β->D) (B:Nat)
  (hi:fi σ M=some (as.map enc,none,M)) (hB:∀ a∈as,(bs a).length<=B) (hz:as.length*B<=90000)
  (he:∀ a∈as,∃ σ1,fg (enc a) (zA7 own σ)=some σ1/\fi2 σ1 M=some ((bs a).map enc2,none,M) /\ ∀ b∈bs a,∃ σ2,fg2 (enc2 b) (zA7 own2 σ1)=some σ2/\tc2 σ2 M=some (keep a b,M)/\(keep a b=true->te σ2 M=some (.dat (out a b),M))) :
  zFH own own2 fi fg zh fi2 fg2 tc2 te σ M=some (.fl (as.flatMap λa=>((bs a).filter (keep a)).map (out a)),M):=by
 have key:∀ (r:List α) (acc:List D),(∀ a∈r,a∈as)->acc.length+r.length*B<=90000->zIi fg zh fi2 own2 fg2 tc2 te (zA7 own σ) (as.map enc) none (r.map enc) acc M=some (acc++r.flatMap λa=>((bs a).filter (keep a)).map (out a),M):=by
  intro r;induction r with
  |nil=>
   intro acc _ _;rw[List.map_nil];unfold zIi;rw[zVv (show zAl none (as.map enc) M from trivial)];simp
  |cons a r ih=>
   intro acc hs hl;have ha:=hs a zVu;obtain ⟨σ1,e1,e2,e3⟩:=he a ha;have hb:=hB a ha;have hlen:(((bs a).filter (keep a)).map (out a)).length<=(bs a).length:=by rw[zVp];exact zX0 _ _
   rw[zWD,Nat.add_mul]at hl;rw[zVz];unfold zIi;rw[zVv (show zAl none (as.map enc) M from trivial),e1];dsimp only;rw[show zh σ1 M=some (true,M)from rfl];dsimp only;rw[e2];dsimp only;rw[zVv (zn (by rw[zVp];omega)),zJo enc2 (out a) (keep a) (bs a) e3];dsimp only;rw[ih _ (λb hb=>hs b (zVt _ hb)) (by rw[zVw];omega)];rw[List.flatMap_cons,zWm]
 unfold zFH;rw[hi];dsimp only;rw[key as [] (λ_ h=>h) (by simpa using hz)];simp
def zS (xs:Ye):List (List Int):=xs.flatMap λa=>(xs.filter λb=>decide (a<b)).map λb=>[a,b]
theorem zEv (hz:xs.length<=200):zAH [tI xs] M=some (.ref M.length,M++[.lst ((zS xs).map tI)]):=by
 suffices h:Ok (zAH [tI xs] M) λd M'=>d=.ref M.length/\M'=M++[.lst ((zS xs).map tI)] by
  obtain ⟨d,M',e,rfl,rfl⟩:=h;exact e
 unfold zAH;rw[zx];unfold zEG;rw[zAN];have hq:xs.length*xs.length<=90000:=zV7 (zXI hz hz) (by decide);refine zE (zPq xs D.int (λ_=>xs) D.int (λa b=>decide (a<b)) (λa b=>tI [a,b]) xs.length (zCX rfl) (λ_ _=>zVm _) hq λa ha=>⟨_,rfl,zCX rfl,λb hb=>⟨_,rfl,?_,λ_=>?_⟩⟩) (zAS ⟨rfl,?_⟩)
 .exact zAf (zO (x:=.dat (.int a)) (y:=.dat (.int b)) rfl rfl (zZ (zTu.mpr ⟨rfl,rfl⟩)))
 .unfold zB7;rw[zg (d:=.int a) rfl (za (d:=.int b) rfl)];dsimp only;rw[zVv (zn (by simp))];rfl
 .congr 3;unfold zS;rw[List.map_flatMap];congr 1;funext a;rw[zV4];rfl
theorem zw:p∈zS xs ↔ ∃ a b,p=[a,b]/\a∈xs/\b∈xs/\a<b:=by
 unfold zS;rw[List.mem_flatMap];constructor
 .rintro ⟨a,ha,h⟩;obtain ⟨b,hb,rfl⟩:=zVx.mp h;obtain ⟨h1,h2⟩:=zWr.mp hb;exact ⟨a,b,rfl,ha,h1,zWc h2⟩
 .rintro ⟨a,b,rfl,ha,hb,hlt⟩;exact ⟨a,ha,zVx.mpr ⟨b,zWr.mpr ⟨hb,zWo hlt⟩,rfl⟩⟩
theorem zEl (hz:zA.length<=1000):zAO [mD zA] M=some (tI ((List.range zA.length).map λ(k:Nat)=>(k:Int)),M):=by
 refine zZ ?_;unfold zAO;rw[zx];unfold zDo;refine zAu (d:=tI ((List.range zA.length).map λ(k:Nat)=>(k:Int))) ?_ ⟨rfl,rfl⟩;unfold zLr;rw[show fB zBb (zQ (zC 0) zf) ([mD zA].map some++List.replicate (1 - [mD zA].length) none) M=some (.dat (.int zA.length),M)from zJy rfl];dsimp only;rw[zVv ⟨by omega,by omega⟩];unfold upD tI;rw[zV4,show (zA.length:Int).toNat=zA.length by omega];rfl
def zIy (g:Ye):List Key:=g.map Sum.inl
theorem zGi:∀ {a b:Ye},zIy a=zIy b->a=b
 |[],[],_=>rfl
 |[],_::_,h=>by cases h
 |_::_,[],h=>by cases h
 |x::a,y::b,h=>by
  have h1:=(zWk h).1;have h2:=zGi (zWk h).2;cases h1;rw[h2]
theorem zGu:∀ g:List Int,zEA (g.map D.int)=some (zIy g)
 |[]=>rfl
 |x::r=>by
  rw[zVz];unfold zEA;rw[zGu r];rfl
theorem zDt (g:Ye):tkD (tI g)=some (zIy g):=zGu g
abbrev zEM (T:List (List Int × D)):List (D × D):=T.map λq=>(tI q.1,q.2)
abbrev dT (T:List (List Int × D)):MO:=.dicT (zEM T)
def zF:List (List Int × D)->List Int->Option D
 |[],_=>none
 |q::r,g=>if q.1=g then some q.2 else zF r g
def zCT (T:List (List Int × D)) (g:Ye) (v:D):List (List Int × D):=match zF T g with
 |some _=>T.map λq=>if q.1=g then (q.1,v) else q
 |none=>T++[(g,v)]
theorem zIW (a g:Ye):decide (tkD (tI a)=some (zIy g))=decide (a=g):=by
 rw[zDt];by_cases h:a=g
 .subst h;simp
 .rw[zWF h,zWF];intro e;exact h (zGi (zWg e))
theorem zPV (g:Ye):∀ T:List (List Int × D),zDL tkD (zEM T) (zIy g)=zF T g
 |[]=>rfl
 |q::r=>by
  have ih:=zPV g r;unfold zDL at ih ⊢;unfold zEM at ih ⊢;rw[zVz,zXS];rw[zIW];unfold zF;by_cases h:q.1=g
  .rw[zWo h,zVv h];rfl
  .rw[zWF h,zVy h];exact ih
theorem zSA (g:Ye):∀ T:List (List Int × D),((zEM T).any λp=>decide (tkD p.1=some (zIy g)))=(zF T g).isSome
 |[]=>rfl
 |q::r=>by
  have ih:=zSA g r;unfold zEM at ih ⊢;rw[zVz,List.any_cons,zIW];unfold zF;by_cases h:q.1=g
  .rw[zWo h,zVv h];rfl
  .rw[zWF h,zVy h,Bool.false_or];exact ih
theorem zUm (T:List (List Int × D)) (g:Ye) (v:D):zKD tkD (zEM T) (zIy g) (tI g) v=zEM (zCT T g v):=by
 unfold zKD zCT;rw[zSA];cases h:zF T g with
 |none=>
  rw[zVy (by simp)];unfold zEM;rw[zWY];rfl
 |some d=>
  rw[zVv (by simp)];unfold zEM;rw[zV4,zV4];apply List.map_congr_left;intro q _;show (if tkD (tI q.1)=some (zIy g) then (tI q.1,v) else (tI q.1,q.2))=(tI (if q.1=g then (q.1,v) else q).1,(if q.1=g then (q.1,v) else q).2);have hd:=zIW q.1 g;by_cases hq:q.1=g
  .rw[zWo hq]at hd;rw[zVv (zWc hd),zVv hq]
  .rw[zWF hq]at hd;rw[zVy (of_decide_eq_false hd),zVy hq]
theorem zCs (T:List (List Int × D)) (g h:Ye) (v:D):zF (zCT T g v) h=if g=h then some v else zF T h:=by
 have app:∀ (T:List (List Int × D)),zF T g=none->zF (T++[(g,v)]) h=if g=h then some v else zF T h:=by
  intro T;induction T with
  |nil=>intro _;rfl
  |cons q r ih=>
   intro e;unfold zF at e;by_cases hq:q.1=g
   .rw[zVv hq]at e;cases e
   .rw[zVy hq]at e;show (if q.1=h then some q.2 else zF (r++[(g,v)]) h)=if g=h then some v else if q.1=h then some q.2 else zF r h
    rw[ih e];by_cases h1:q.1=h
    .rw[zVv h1,zVv h1,zVy (λz=>hq (h1.trans z.symm))]
    .rw[zVy h1,zVy h1]
 have mp:∀ (T:List (List Int × D)),(zF T g).isSome=true->zF (T.map λq=>if q.1=g then (q.1,v) else q) h=if g=h then some v else zF T h:=by
  intro T;by_cases hgh:g=h
  .subst hgh;induction T with
   |nil=>intro e;cases e
   |cons q r ih=>
    intro e;rw[zVz];unfold zF;by_cases hq:q.1=g
    .rw[zVv hq];simp[hq]
    .rw[zVy hq,zVy hq];unfold zF at e;rw[zVy hq]at e;rw[ih e,zVv rfl,zVv rfl]
  .intro hx;clear hx;rw[zVy hgh];induction T with
   |nil=>rfl
   |cons q r ih=>
    rw[zVz];unfold zF;by_cases hq:q.1=g
    .have:¬ q.1=h:=λz=>hgh (hq.symm.trans z);rw[zVv hq];rw[zVy this,zVy this];exact ih
    .rw[zVy hq];by_cases h1:q.1=h
     .rw[zVv h1,zVv h1]
     .rw[zVy h1,zVy h1];exact ih
 unfold zCT;cases e:zF T g with
 |none=>exact app T e
 |some d=>exact mp T (by rw[e];rfl)
theorem zGV (T:List (List Int × D)) (g:Ye) (v:D):(zCT T g v).length<=T.length+1:=by
 unfold zCT;cases zF T g with
 |none=>simp
 |some d=>simp
section
theorem dgT (h:M[n]?=some (dT T)):zFa M (.dat (.ref n)) (tI g)=some (zF T g):=by
 unfold zFa;dsimp only;rw[h];dsimp only;rw[zDt];dsimp only;rw[zPV]
theorem zJz (h:M[n]?=some (dT T)):zBD neg (.dat (tI g)) (.dat (.ref n)) M=some (.dat (.bl (if neg then !(zF T g).isSome else (zF T g).isSome)),M):=by
 unfold zBD;dsimp only;rw[dgT h]
theorem zGA (h:M[n]?=some (dT T)) (hd:zF T g=some d):zAg (.dat (.ref n)) (.dat (tI g)) M=some (.dat d,M):=by
 unfold zAg;dsimp only;rw[dgT h,hd]
theorem zHb (h:M[n]?=some (dT T)) (hz:T.length<90000):zEb M n (tI g) v=some (M.set n (dT (zCT T g v))):=by
 unfold zEb;rw[h];dsimp only;rw[zDt];dsimp only;rw[zVv (by rw[zVp];exact zV5 hz (zn (by omega))),zUm]
end
def zDp:FS:=(zW (zj 1 zIS)
  (zW (zCl (zAK (zL zAH (zD (toD (zL zAO (zD (toD (zC 0)) zH))) zH))) (gN 2) (zCl (zAC (zD (toD (fB zBb (zQ (fOp kIx (zC 0) (fC (.int 0))) zf))) zH)) (gN 3) (zW (zj 4 (zL zAq (zD (toD (zC 0)) (zD (toD (zC 2)) (zD (toD (zC 3)) zH)))))
  (zW (sIf (tst (fOp (zBD true) (zC 4) (zC 1))) (zCa (zA5 zH) (zC 1) (zC 4)) zBs)
  (zBp (fM zAb (fOp zAg (zC 1) (zC 4)) (zD (toD (zC 2)) zH)))))))
  (zAR (zC 1))))
def zBt:FF:=zBI 5 zDp
def zCx (zA:Ya) (ps:List (List Int × Int)) (g:Ye):List (List Int):=(ps.filter λq=>decide (setR zA q.1 q.2=g)).map (·.1)
theorem zF7 (zA:Ya) (ps:List (List Int × Int)) (p:Ye) (x:Int) (g:Ye):zCx zA (ps++[(p,x)]) g=zCx zA ps g++(if setR zA p x=g then [p] else []):=by
 unfold zCx;rw[List.filter_append,zWY];congr 1;by_cases h:setR zA p x=g
 .rw[zVv h,List.filter_cons_of_pos (by simpa using h)];rfl
 .rw[zVy h,List.filter_cons_of_neg (by simpa using h)];rfl
structure Sr (zA:Ya) (M:Mem) (jd lo:Nat) (ps:List (List Int × Int)):Prop where
 ex:∃ T:List (List Int × D),M[jd]?=some (dT T)/\T.length<=ps.length/\(∀ g d,zF T g=some d -> ∃ j,d=.ref j/\lo<j/\M[j]?=some (.lst ((zCx zA ps g).map tI)))/\(∀ g,zF T g=none->zCx zA ps g=[]) /\ ∀ g g' j,zF T g=some (.ref j)->zF T g'=some (.ref j)->g=g'
theorem zNf {zA:Ya} {l:Nat} (m:IsM zA l) (hR:zA.length<64) {M:Mem} {jd lo:Nat} {ps:List (List Int × Int)} (hps:ps.length<50000) (hlo:jd<lo) (hlo2:lo<M.length) (sr:Sr zA M jd lo ps) {p:Ye} (hp:IsS zA p) {x:Int} (x0:0<=x) (x1:x<l) {y4:Option D} :
  OkS (zW (zj 4 (zL zAq (zD (toD (zC 0)) (zD (toD (zC 2)) (zD (toD (zC 3)) zH))))) (zW (sIf (tst (fOp (zBD true) (zC 4) (zC 1))) (zCa (zA5 zH) (zC 1) (zC 4)) zBs) (zBp (fM zAb (fOp zAg (zC 1) (zC 4)) (zD (toD (zC 2)) zH)))) [some (mD zA),some (.ref jd),some (tI p),some (.int x),y4] M)
   λo σ' M'=>o=.nx/\(∃ y,σ'=[some (mD zA),some (.ref jd),some (tI p),some (.int x),y])/\Sr zA M' jd lo (ps++[(p,x)])/\M.length<=M'.length /\ ∀ j,j<=lo->j≠jd->M'[j]?=M[j]?:=by
 obtain ⟨T,ed,hT,h1,h2,h3⟩:=sr.ex;refine zAs (zX (zg rfl (zg rfl (za rfl))) (zFo m hR hp x0 x1)) ?_;generalize hg:setR zA p x=goal;show OkS (zW _ _ [some (mD zA),some (.ref jd),some (tI p),some (.int x),some (tI goal)] M) _;rw[zK,zBe];refine zE (M:=M) (a:=!(zF T goal).isSome) (zAf (zO (x:=.dat (tI goal)) (y:=.dat (.ref jd)) rfl rfl (zJz ed))) ?_
 have last:∀ (A:Mem) (T':List (List Int × D)) (j:Nat),A[jd]?=some (dT T')->zF T' goal=some (.ref j)->lo<j->A[j]?=some (.lst ((zCx zA ps goal).map tI))->T'.length<=ps.length+1->M.length<=A.length->(∀ j,j<=lo->j≠jd->A[j]?=M[j]?) ->
   (∀ g d,zF T' g=some d -> ∃ j,d=.ref j/\lo<j/\A[j]?=some (.lst ((zCx zA ps g).map tI)))->(∀ g,zF T' g=none->zCx zA ps g=[])->(∀ g g' j,zF T' g=some (.ref j)->zF T' g'=some (.ref j)->g=g') ->
   OkS (zBp (fM zAb (fOp zAg (zC 1) (zC 4)) (zD (toD (zC 2)) zH)) [some (mD zA),some (.ref jd),some (tI p),some (.int x),some (tI goal)] A)
    λo σ' M'=>o=.nx/\(∃ y,σ'=[some (mD zA),some (.ref jd),some (tI p),some (.int x),y])/\Sr zA M' jd lo (ps++[(p,x)])/\M.length<=M'.length /\ ∀ j,j<=lo->j≠jd->M'[j]?=M[j]?:=by
  intro A T' j ea el hj ej hz hle hfr k1 k2 k3;rw[zCS];have hfl:(zCx zA ps goal).length<=ps.length:=by unfold zCx;rw[zVp];exact zX0 _ _
  have jl:j<A.length:=(zVj.mp ej).1;refine zKk.mpr (zE (zO (x:=.dat (.ref jd)) (y:=.dat (tI goal)) rfl rfl (zGA ea el)) ⟨⟨_,zBj ej⟩,zE (za (d:=tI p) rfl) ?_⟩);rw[zDj ej (by rw[zVp];exact zV5 (m:=95000) (by omega) (zn (by omega)))];refine ⟨rfl,⟨_,rfl⟩,⟨T',by rw[zWA (by omega)];exact ea,by simpa using hz,λg d hd=>?_,λg hd=>?_,k3⟩,by simpa using hle,λi hi hn=>by rw[zWA (by omega)];exact hfr i hi hn⟩
  .obtain ⟨j',rfl,hj',ej'⟩:=k1 g d hd;refine ⟨j',rfl,hj',?_⟩;rw[zF7,hg];by_cases hgg:goal=g
   .subst hgg;rw[el]at hd;cases hd;rw[zWa jl,zVv rfl,zWY];rfl
   .rw[zVy hgg,zWQ];have:j≠j':=λz=>hgg (k3 goal g j el (by rw[z];exact hd));rw[zWA this];exact ej'
  .rw[zF7,hg,zVy (λz=>by rw[<-z,el]at hd;cases hd),zWQ];exact k2 g hd
 cases hl:zF T goal with
 |some d=>
  obtain ⟨j,rfl,hj,ej⟩:=h1 goal d hl;rw[zVy (by simp),zA2,zN];exact last M T j ed hl hj ej (by omega) (zVm _) (λ_ _ _=>rfl) h1 h2 h3
 |none=>
  rw[zVv (by simp)];have e0:=h2 goal hl;have jdl:jd<M.length:=(zVj.mp ed).1;have ed':(M++[MO.lst ([]:List D)])[jd]?=some (dT T):=by rw[zVn jdl];exact ed
  refine ⟨.nx,[some (mD zA),some (.ref jd),some (tI p),some (.int x),some (tI goal)],(M++[MO.lst ([]:List D)]).set jd (dT (zCT T goal (.ref M.length))),?_,?_⟩
  .unfold zCa;rw[show toD (zA5 zH) [some (mD zA),some (.ref jd),some (tI p),some (.int x),some (tI goal)] M=some (.ref M.length,M++[.lst []]) by
    unfold toD zA5 zH;dsimp only;rw[zVv (zn (by simp))]]
   dsimp only;rw[show toD (zC 1) [some (mD zA),some (.ref jd),some (tI p),some (.int x),some (tI goal)] (M++[.lst []])=some (.ref jd,M++[.lst []])from rfl];dsimp only;rw[show toD (zC 4) [some (mD zA),some (.ref jd),some (tI p),some (.int x),some (tI goal)] (M++[.lst []])=some (tI goal,M++[.lst []])from rfl];dsimp only;rw[zHb ed' (by omega)]
  rw[zN];have hput:=λg=>zCs T goal g (.ref M.length);refine last _ (zCT T goal (.ref M.length)) M.length (zWa (by simp;omega)) (by rw[hput,zVv rfl]) hlo2 ?_ (by have:=zGV T goal (.ref M.length);omega) (by simp) (λi hi hn=>?_) (λg d hd=>?_) (λg hd=>?_) (λg g' j hd hd'=>?_)
  .rw[zWA (by omega),e0];simp
  .rw[zWA (Ne.symm hn),zVn (by omega)]
  .rw[hput]at hd;by_cases hgg:goal=g
   .subst hgg;rw[zVv rfl]at hd;cases hd;exact ⟨M.length,rfl,hlo2,by rw[zWA (by omega),e0];simp⟩
   .rw[zVy hgg]at hd;obtain ⟨j,rfl,hj,ej⟩:=h1 g d hd;exact ⟨j,rfl,hj,by rw[zWA (by omega),zVn (zVj.mp ej).1];exact ej⟩
  .rw[hput]at hd;by_cases hgg:goal=g
   .rw[zVv hgg]at hd;cases hd
   .rw[zVy hgg]at hd;exact h2 g hd
  .rw[hput]at hd hd';by_cases a:goal=g
   .by_cases b:goal=g'
    .rw[<-a,<-b]
    .rw[zVv a]at hd;rw[zVy b]at hd';cases hd;obtain ⟨j,e,_,ej⟩:=h1 g' _ hd';cases e;exact absurd (zVj.mp ej).1 (zWO _)
   .rw[zVy a]at hd;by_cases b:goal=g'
    .rw[zVv b]at hd';cases hd';obtain ⟨j,e,_,ej⟩:=h1 g _ hd;cases e;exact absurd (zVj.mp ej).1 (zWO _)
    .rw[zVy b]at hd';exact h3 g g' j hd hd'
def zG (zA:Ya):List Int:=(List.range zA.length).map λ(k:Nat)=>(k:Int)
def zCI (l:Nat) (ps:Ya):List (List Int × Int):=ps.flatMap λp=>(List.range l).map λ(x:Nat)=>(p,(x:Int))
theorem zF8 (l:Nat) (ps:Ya):(zCI l ps).length=ps.length*l:=by
 unfold zCI;induction ps with
 |nil=>simp
 |cons p r ih=>rw[List.flatMap_cons,zVw,ih,zVp,zXd,zWD,Nat.add_mul];omega
theorem zBZ (xs:Ye):(zS xs).length<=xs.length*xs.length:=by
 unfold zS;have:∀ (r:Ye),(r.flatMap λa=>(xs.filter λb=>decide (a<b)).map λb=>[a,b]).length<=r.length*xs.length:=by
  intro r;induction r with
  |nil=>simp
  |cons a r ih=>
   rw[List.flatMap_cons,zVw,zVp,zWD,Nat.add_mul];have:=zX0 (λb=>decide (a<b)) xs;omega
 exact this xs
theorem zEY (h:p∈zS (zG zA)):IsS zA p:=by
 obtain ⟨a,b,rfl,ha,hb,hlt⟩:=zw.mp h;obtain ⟨i,hi,rfl⟩:=zVx.mp ha;obtain ⟨j,hj,rfl⟩:=zVx.mp hb;have:=zWK.mp hi;have:=zWK.mp hj;refine ⟨by simp;omega,by simp,λx hx=>?_⟩;simp only[zVs,zWB,or_false]at hx;omega
theorem zFp {M M1:Mem} (ha:a σ M=some (ds,M)) (hg:g ds M=some (.ref j,M1)) (hj:M1[j]?=some (.lst xs)):zAK (zL g a) σ M=some (xs,zEH (.dat (.ref j)) xs,M1):=by
 have:zL g a σ M=some (.dat (.ref j),M1):=by unfold zL;rw[ha];dsimp only;rw[hg]
 unfold zAK;rw[this];dsimp only;rw[zAU hj]
theorem zRR {zA:Ya} {l:Nat} (m:IsM zA l) (hR:zA.length<64) (hl:l<=12) {M:Mem}:Ok (zBt [mD zA] M) λd M'=>d=.ref M.length/\Sr zA M' M.length (M.length+1) (zCI l (zS (zG zA)))/\M.length+1<M'.length /\ ∀ j,j<M.length->M'[j]?=M[j]?:=by
 unfold zBt;rw[zx];unfold zDp;rw[zK,zU];refine zE (M:=M++[.dicT []]) (a:=.dat (.ref M.length)) rfl ?_;rw[zI,zN,zK,zBU];have hrl:(zG zA).length=zA.length:=by unfold zG;simp
 have epr:=zEv (xs:=zG zA) (by omega) (M:=M++[.dicT []]);refine ⟨_,_,_,zFp (za (d:=tI (zG zA)) (zX (za (d:=mD zA) rfl) (zEl (by omega)))) epr (zAX _ _),?_⟩;rw[show (M++[MO.dicT []]).length=M.length+1 by simp];generalize hP:zS (zG zA)=P;have hPl:P.length<=3969:=by
  rw[<-hP];have h1:=zBZ (zG zA);rw[hrl]at h1;exact zV7 h1 (zXI (show zA.length<=63 by omega) (show zA.length<=63 by omega))
 have e1:(M++[MO.dicT []]++[MO.lst (P.map tI)])[M.length+1]?=some (.lst (P.map tI)):=by
  rw[zWm,zWq (by omega)];simp
 have e0:(M++[MO.dicT []]++[MO.lst (P.map tI)])[M.length]?=some (dT []):=by
  rw[zWm,zWq (by omega)];simp
 have ef:∀ j,j<M.length->(M++[MO.dicT []]++[MO.lst (P.map tI)])[j]?=M[j]?:=λj hj=>by rw[zWm,zVn hj]
 have el:(M++[MO.dicT []]++[MO.lst (P.map tI)]).length=M.length+2:=by simp
 generalize M++[MO.dicT []]++[MO.lst (P.map tI)]=M1 at e1 e0 ef el;refine zAv (I:=λr σ M'=>(∃ y2 y3 y4,σ=[some (mD zA),some (.ref M.length),y2,y3,y4]) /\ ∃ us vs:List (List Int),P=us++vs/\r=vs.map tI/\Sr zA M' M.length (M.length+1) (zCI l us)/\M'[M.length+1]?=some (.lst (P.map tI))/\M.length+1<M'.length /\ ∀ j,j<M.length->M'[j]?=M[j]?) ?_ ?_ _ _ _ ⟨⟨_,_,_,rfl⟩,[],P,rfl,rfl,⟨[],e0,by simp,(λg d h=>by cases h),(λ_ _=>rfl),(λg g' j h=>by cases h)⟩,e1,by omega,ef⟩
 .rintro x r σ M' ⟨⟨y2,y3,y4,rfl⟩,us,vs,hab,hr,sr,ep,hlen,hfr⟩;cases vs with
  |nil=>cases hr
  |cons p vs=>
   rw[zVz]at hr;obtain ⟨rfl,rfl⟩:=zWk hr;have hpm:p∈zS (zG zA):=by rw[hP,hab];simp
   have hul:us.length<3969:=by have:=congrArg List.length hab;simp at this;omega
   refine ⟨.inl ep,_,rfl,?_⟩;rw[zBU];refine ⟨_,_,_,zCJ (zL6 m rfl) (by omega) (by omega),?_⟩;rw[show (l:Int).toNat=l by omega];refine zKj (n:=l) (I:=λi σ M''=>(∃ y3 y4,σ=[some (mD zA),some (.ref M.length),some (tI p),y3,y4])/\Sr zA M'' M.length (M.length+1) (zCI l us++(List.range i).map λ(x:Nat)=>(p,(x:Int)))/\M''[M.length+1]?=some (.lst (P.map tI))/\M.length+1<M''.length /\ ∀ j,j<M.length->M''[j]?=M[j]?) ?_ ?_ _ _ ⟨⟨_,_,rfl⟩,by simpa using sr,ep,hlen,hfr⟩
   .rintro i σ M2 hi ⟨⟨y3,y4,rfl⟩,sr2,ep2,hlen2,hfr2⟩;refine ⟨_,rfl,?_⟩;have hcount:(zCI l us++(List.range i).map λ(x:Nat)=>(p,(x:Int))).length<50000:=by
     rw[zVw,zF8,zVp,zXd];have:=zXI (show us.length<=3968 by omega) hl;omega
    refine OkS.mono (zNf m hR hcount (zWd _) hlen2 sr2 (zEY hpm) (x:=(i:Int)) (by omega) (by omega)) ?_;rintro o σ' M3 ⟨rfl,⟨y,rfl⟩,sr3,hl3,hf3⟩;refine ⟨⟨_,_,rfl⟩,?_,by rw[hf3 _ (zVm _) (by omega)];exact ep2,by omega,λj hj=>by rw[hf3 j (by omega) (by omega)];exact hfr2 j hj⟩;rw[List.range_succ,zWY,<-zWm];exact sr3
   .rintro σ M2 ⟨⟨y3,y4,rfl⟩,sr2,ep2,hlen2,hfr2⟩;refine ⟨⟨_,_,_,rfl⟩,us++[p],vs,by rw[hab];simp,rfl,?_,ep2,hlen2,hfr2⟩;have:zCI l (us++[p])=zCI l us++(List.range l).map λ(x:Nat)=>(p,(x:Int)):=by
     unfold zCI;rw[List.flatMap_append];simp
    rw[this];exact sr2
 .rintro σ M' ⟨⟨y2,y3,y4,rfl⟩,us,vs,hab,hr,sr,ep,hlen,hfr⟩;have:vs=[]:=by cases vs with|nil=>rfl|cons _ _=>cases hr
  subst this;rw[zWQ]at hab;subst hab;refine ⟨.inl ep,?_⟩;rw[zN];exact zAu rfl ⟨rfl,sr,hlen,hfr⟩
def zC4:FS:=(zW (zj 2 (zL zBt (zD (toD (zC 0)) zH)))
  (zW (zj 3 (zC 1))
  (zW (zj 4 (zCp true [5] (zAK (zC 1)) (gN 5) zh (zC 5) (fC (.int 0))))
  (zW (zA4 (zLI (zC 3)) (zW (zj 6 (zA5 zH))
  (zW (zCl (zAK (zC 3)) (gN 5) (zCl (zAK (zAx (zC 2) (zC 5) (zA5 zH))) (gN 7) (sIf (tst (fOp (zBD true) (zC 7) (zC 4))) (zW (zCa (fOp zAT (fOp zAg (zC 4) (zC 5)) (fC (.int 1))) (zC 4) (zC 7))
  (zBp (fM zAb (zC 6) (zD (toD (zC 7)) zH)))) zBs)))
  (zj 3 (zC 6)))) 1000)
  (zAR (zC 4))))))
def zBQ:FF:=zBI 8 zC4
abbrev Fd:=List (List Int × D) × List (List Int)
def zAy (k:Int) (st:Fd) (p:Ye):Fd:=if (zF st.1 p).isSome then st else (zCT st.1 p (.int k),st.2++[p])
structure Lv (M0 M:Mem) (jf jb:Nat) (st:Fd):Prop where
 f:M[jf]?=some (dT st.1)
 b:M[jb]?=some (.lst (st.2.map tI))
 len:M0.length<=M.length
 fr:∀ j,j<M0.length->j≠jf->j≠jb->M[j]?=M0[j]?
theorem zPn (k:Int) (st:Fd) (p:Ye):(zAy k st p).1.length<=st.1.length+1/\(zAy k st p).2.length<=st.2.length+1:=by
 unfold zAy;split
 .exact ⟨by omega,by omega⟩
 .exact ⟨zGV _ _ _,by simp⟩
theorem zQZ {M0:Mem} {jf jb js jd jl:Nat} {zA:Ya} {x1 x3 y7:Option D} {goal:Ye} {k:Int} {ps:Ya} (hne:jf≠jb) (h1:jf<M0.length) (h2:jb<M0.length) :
  ∀ (M:Mem) (st:Fd),Lv M0 M jf jb st->M[js]?=some (.lst (ps.map tI))->js≠jf->js≠jb->zF st.1 goal=some (.int k)->st.1.length+ps.length<=80000->st.2.length+ps.length<=80000 ->
  OkS (zCc (gN 7) (sIf (tst (fOp (zBD true) (zC 7) (zC 4))) (zW (zCa (fOp zAT (fOp zAg (zC 4) (zC 5)) (fC (.int 1))) (zC 4) (zC 7)) (zBp (fM zAb (zC 6) (zD (toD (zC 7)) zH)))) zBs) (ps.map tI) (zEH (.dat (.ref js)) (ps.map tI)) (ps.map tI) [some (mD zA),x1,some (.ref jd),x3,some (.ref jf),some (tI goal),some (.ref jb),y7] M)
   λo σ' M'=>o=.nx/\(∃ y,σ'=[some (mD zA),x1,some (.ref jd),x3,some (.ref jf),some (tI goal),some (.ref jb),y])/\Lv M0 M' jf jb (ps.foldl (zAy (k+1)) st)/\M'.length=M.length /\ ∀ j,j≠jf->j≠jb->M'[j]?=M[j]?:=by
 intro M st lv ejs n1 n2 hgl z1 z2;refine zAv (I:=λr σ M'=>(∃ y,σ=[some (mD zA),x1,some (.ref jd),x3,some (.ref jf),some (tI goal),some (.ref jb),y]) /\ ∃ us vs:List (List Int),ps=us++vs/\r=vs.map tI/\Lv M0 M' jf jb (us.foldl (zAy (k+1)) st)/\zF (us.foldl (zAy (k+1)) st).1 goal=some (.int k)/\(us.foldl (zAy (k+1)) st).1.length<=st.1.length+us.length/\(us.foldl (zAy (k+1)) st).2.length<=st.2.length+us.length/\M'.length=M.length /\ ∀ j,j≠jf->j≠jb->M'[j]?=M[j]?) ?_ ?_ _ _ _ ⟨⟨_,rfl⟩,[],ps,rfl,rfl,lv,hgl,by simp,by simp,rfl,λ_ _ _=>rfl⟩
 .rintro x r σ M' ⟨⟨y,rfl⟩,us,vs,hab,hr,lv',hg',l1,l2,hl,hfr⟩;cases vs with
  |nil=>cases hr
  |cons p vs=>
   rw[zVz]at hr;obtain ⟨rfl,rfl⟩:=zWk hr;have hul:us.length<ps.length:=by rw[hab];simp
   refine ⟨.inl (by rw[hfr js n1 n2];exact ejs),_,rfl,?_⟩;have hfold:(us++[p]).foldl (zAy (k+1)) st=zAy (k+1) (us.foldl (zAy (k+1)) st) p:=by rw[List.foldl_append];rfl
   generalize us.foldl (zAy (k+1)) st=st' at lv' hg' l1 l2 hfold;have al:=zPn (k+1) st' p;rw[zBe];refine zE (M:=M') (a:=!(zF st'.1 p).isSome) (zAf (zO (x:=.dat (tI p)) (y:=.dat (.ref jf)) rfl rfl (zJz lv'.f))) ?_;cases hlk:zF st'.1 p with
   |some d=>
    have ea:zAy (k+1) st' p=st':=by unfold zAy;rw[hlk];rfl
    rw[zVy (by simp),zA2];refine ⟨⟨_,rfl⟩,us++[p],vs,by rw[hab];simp,rfl,?_⟩;rw[hfold,ea];exact ⟨lv',hg',by simp;omega,by simp;omega,hl,hfr⟩
   |none=>
    have ea:zAy (k+1) st' p=(zCT st'.1 p (.int (k+1)),st'.2++[p]):=by unfold zAy;rw[hlk];rfl
    have hgp:p≠goal:=λz=>by rw[z,hg']at hlk;cases hlk
    rw[zVv (by simp),zK];have ev:fOp zAT (fOp zAg (zC 4) (zC 5)) (fC (.int 1)) [some (mD zA),x1,some (.ref jd),x3,some (.ref jf),some (tI goal),some (.ref jb),some (tI p)] M'=some (.dat (.int (k+1)),M'):=zO (x:=.dat (.int k)) (zO (x:=.dat (.ref jf)) (y:=.dat (tI goal)) rfl rfl (zGA lv'.f hg')) rfl rfl;have hd:OkS (zCa (fOp zAT (fOp zAg (zC 4) (zC 5)) (fC (.int 1))) (zC 4) (zC 7) [some (mD zA),x1,some (.ref jd),x3,some (.ref jf),some (tI goal),some (.ref jb),some (tI p)] M') λo σ' M2=>o=.nx/\σ'=[some (mD zA),x1,some (.ref jd),x3,some (.ref jf),some (tI goal),some (.ref jb),some (tI p)]/\M2=M'.set jf (dT (zCT st'.1 p (.int (k+1)))):=by
     refine ⟨.nx,_,_,?_,rfl,rfl,rfl⟩;unfold zCa;rw[show toD (fOp zAT (fOp zAg (zC 4) (zC 5)) (fC (.int 1))) [some (mD zA),x1,some (.ref jd),x3,some (.ref jf),some (tI goal),some (.ref jb),some (tI p)] M'=some (.int (k+1),M') by unfold toD;rw[ev]];dsimp only;rw[show toD (zC 4) [some (mD zA),x1,some (.ref jd),x3,some (.ref jf),some (tI goal),some (.ref jb),some (tI p)] M'=some (.ref jf,M')from rfl];dsimp only;rw[show toD (zC 7) [some (mD zA),x1,some (.ref jd),x3,some (.ref jf),some (tI goal),some (.ref jb),some (tI p)] M'=some (tI p,M')from rfl];dsimp only;rw[zHb lv'.f (by omega)]
    refine OkS.mono hd ?_;rintro o σ' M2 ⟨rfl,rfl,rfl⟩;rw[zN,zCS];have eb:(M'.set jf (dT (zCT st'.1 p (.int (k+1)))))[jb]?=some (.lst (st'.2.map tI)):=by rw[zWA hne];exact lv'.b
    refine zKk.mpr (zo.mpr ⟨_,rfl,⟨_,zBj eb⟩,zE (za (d:=tI p) rfl) ?_⟩);rw[zDj eb (by rw[zVp];exact zV5 (m:=95000) (by omega) (zn (by omega)))];have jfl:jf<M'.length:=zV5 h1 lv'.len;have jbl:jb<M'.length:=zV5 h2 lv'.len;refine ⟨⟨_,rfl⟩,us++[p],vs,by rw[hab];simp,rfl,?_⟩;rw[hfold];refine ⟨?_,?_,by simp;omega,by simp;omega,by simp[hl],λj q1 q2=>by rw[zWA (Ne.symm q2),zWA (Ne.symm q1)];exact hfr j q1 q2⟩
    .rw[ea];refine ⟨by rw[zWA (Ne.symm hne),zWa jfl],by rw[zWa (by simpa using jbl),zWY];rfl,by simpa using lv'.len,λj q0 q1 q2=>by rw[zWA (Ne.symm q2),zWA (Ne.symm q1)];exact lv'.fr j q0 q1 q2⟩
    .rw[ea];rw[zCs,zVy hgp];exact hg'
 .rintro σ M' ⟨⟨y,rfl⟩,us,vs,hab,hr,lv',hg',l1,l2,hl,hfr⟩;have:vs=[]:=by cases vs with|nil=>rfl|cons _ _=>cases hr
  subst this;rw[zWQ]at hab;subst hab;exact ⟨.inl (by rw[hfr js n1 n2];exact ejs),rfl,⟨_,rfl⟩,lv',hl,hfr⟩
theorem zTr {f g:FE} {σ:Sd} {M:Mem} {n:Nat} {T:List (List Int × D)} {k:Ye} (hf:f σ M=some (.dat (.ref n),M)) (hn:M[n]?=some (dT T)) (hg:g σ M=some (.dat (tI k),M)):zAx f g (zA5 zH) σ M=some (.dat ((zF T k).getD (.ref M.length)),M++[.lst []]):=by
 have nl:n<M.length:=(zVj.mp hn).1;unfold zAx;rw[show toD f σ M=some (.ref n,M) by unfold toD;rw[hf]];dsimp only;rw[hn];rw[show toD g σ M=some (tI k,M) by unfold toD;rw[hg]];dsimp only;rw[show toD (zA5 zH) σ M=some (.ref M.length,M++[.lst []]) by
  unfold toD zA5 zH;dsimp only;rw[zVv (zn (by simp))]]
 dsimp only;rw[dgT (g:=k) (show (M++[MO.lst ([]:List D)])[n]?=some (dT T) by rw[zVn nl];exact hn)]
def zBa (src:Y1) (k:Int) (gs:Ya) (st:Fd):Fd:=gs.foldl (λst g=>(src g).foldl (zAy (k+1)) st) st
theorem zMT {k:Int} {st:Fd} {p g:Ye} {d:D} (h:zF st.1 g=some d):zF (zAy k st p).1 g=some d:=by
 unfold zAy;split
 .exact h
 .rename_i q;rw[zCs,zVy (λz=>q (by rw[z,h];rfl))];exact h
theorem zG1 {k:Int} {g:Ye} {d:D}:∀ (ps:Ya) {st:Fd},zF st.1 g=some d->zF (ps.foldl (zAy k) st).1 g=some d
 |[],_,h=>h
 |p::r,_,h=>zG1 r (zMT h)
def zTo (M:Mem) (Ts:List (List Int × D)) (jf jb:Nat) (src:Y1):Prop:=∀ g,(∃ j,zF Ts g=some (.ref j)/\j≠jf/\j≠jb/\M[j]?=some (.lst ((src g).map tI)))\/(zF Ts g=none/\src g=[])
theorem zRc {M0:Mem} {jf jb jd jl:Nat} {zA:Ya} {x1 y5 y7:Option D} {k:Int} {gs:Ya} {src:Y1} {Ts:List (List Int × D)} (hne:jf≠jb) (h1:jf<M0.length) (h2:jb<M0.length) (hd:M0[jd]?=some (dT Ts)) (d1:jd≠jf) (d2:jd≠jb) (hl:M0[jl]?=some (.lst (gs.map tI))) (l1:jl≠jf) (l2:jl≠jb) (hs:zTo M0 Ts jf jb src) (B:Nat) (hB:∀ g∈gs,(src g).length<=B)
  {st:Fd} (hg:∀ g∈gs,zF st.1 g=some (.int k)) (Z:Nat) (hZB:Z+B<=80000) (hZ:∀ us vs,gs=us++vs->(zBa src k us st).1.length<=Z/\(zBa src k us st).2.length<=Z) (lv:Lv M0 M0 jf jb st) :
  OkS (zCc (gN 5) (zCl (zAK (zAx (zC 2) (zC 5) (zA5 zH))) (gN 7) (sIf (tst (fOp (zBD true) (zC 7) (zC 4))) (zW (zCa (fOp zAT (fOp zAg (zC 4) (zC 5)) (fC (.int 1))) (zC 4) (zC 7)) (zBp (fM zAb (zC 6) (zD (toD (zC 7)) zH)))) zBs)) (gs.map tI) (zEH (.dat (.ref jl)) (gs.map tI)) (gs.map tI) [some (mD zA),x1,some (.ref jd),some (.ref jl),some (.ref jf),y5,some (.ref jb),y7] M0)
   λo σ' M'=>o=.nx/\(∃ y5 y7,σ'=[some (mD zA),x1,some (.ref jd),some (.ref jl),some (.ref jf),y5,some (.ref jb),y7])/\Lv M0 M' jf jb (zBa src k gs st):=by
 refine zAv (I:=λr σ M'=>(∃ y5 y7,σ=[some (mD zA),x1,some (.ref jd),some (.ref jl),some (.ref jf),y5,some (.ref jb),y7]) /\ ∃ us vs:List (List Int),gs=us++vs/\r=vs.map tI/\Lv M0 M' jf jb (zBa src k us st)/\(∀ g∈gs,zF (zBa src k us st).1 g=some (.int k))) ?_ ?_ _ _ _ ⟨⟨_,_,rfl⟩,[],gs,rfl,rfl,lv,hg⟩
 .rintro x r σ M' ⟨⟨y5,y7,rfl⟩,us,vs,hab,hr,lv',hg'⟩;cases vs with
  |nil=>cases hr
  |cons g vs=>
   rw[zVz]at hr;obtain ⟨rfl,rfl⟩:=zWk hr;have hgm:g∈gs:=by rw[hab];simp
   have hsb:=hB g hgm;obtain ⟨b1,b2⟩:=hZ us (g::vs) hab;have keep:∀ {j:Nat} {u:MO},M0[j]?=some u->j≠jf->j≠jb->M'[j]?=some u:=λ{j u} e q1 q2=>(lv'.fr j (zVj.mp e).1 q1 q2).trans e;refine ⟨.inl (keep hl l1 l2),_,rfl,?_⟩;have hfold:zBa src k (us++[g]) st=(src g).foldl (zAy (k+1)) (zBa src k us st):=by unfold zBa;rw[List.foldl_append];rfl
   generalize zBa src k us st=st' at lv' hg' b1 b2 hfold;have e2:=zTr (f:=zC 2) (g:=zC 5) (σ:=[some (mD zA),x1,some (.ref jd),some (.ref jl),some (.ref jf),some (tI g),some (.ref jb),y7]) (M:=M') (k:=g) rfl (keep hd d1 d2) rfl;have lvA:Lv M0 (M'++[.lst []]) jf jb st':=by
    have f1:=(zVj.mp lv'.f).1;have f2:=(zVj.mp lv'.b).1;have f3:=lv'.len;exact ⟨by rw[zVn f1];exact lv'.f,by rw[zVn f2];exact lv'.b,by simp;omega,λj q0 q1 q2=>by rw[zVn (by omega)];exact lv'.fr j q0 q1 q2⟩
   obtain ⟨js,ejs,n1,n2,el⟩:∃ js,(zF Ts g).getD (.ref M'.length)=.ref js/\js≠jf/\js≠jb/\(M'++[MO.lst ([]:List D)])[js]?=some (.lst ((src g).map tI)):=by
    rcases hs g with ⟨j,e,q1,q2,q3⟩|⟨e,q⟩
    .have:=keep q3 q1 q2;exact ⟨j,by rw[e];rfl,q1,q2,by rw[zVn (zVj.mp this).1];exact this⟩
    .have:=lv'.len;exact ⟨M'.length,by rw[e];rfl,by omega,by omega,by rw[q];simp⟩
   rw[ejs]at e2;rw[zBU];refine ⟨_,_,_,(show zAK (zAx (zC 2) (zC 5) (zA5 zH)) [some (mD zA),x1,some (.ref jd),some (.ref jl),some (.ref jf),some (tI g),some (.ref jb),y7] M'=some ((src g).map tI,zEH (.dat (.ref js)) ((src g).map tI),M'++[.lst []]) by unfold zAK;rw[e2];dsimp only;rw[zAU el]),?_⟩;refine OkS.mono (zQZ (jl:=jl) (k:=k) hne h1 h2 _ st' lvA el n1 n2 (hg' g hgm) (by omega) (by omega)) ?_;rintro o σ' M2 ⟨rfl,⟨y,rfl⟩,lv2,_,_⟩;refine ⟨⟨_,_,rfl⟩,us++[g],vs,by rw[hab];simp,rfl,?_⟩;rw[hfold];exact ⟨lv2,λg' hg''=>zG1 _ (hg' g' hg'')⟩
 .rintro σ M' ⟨⟨y5,y7,rfl⟩,us,vs,hab,hr,lv',hg'⟩;have:vs=[]:=by cases vs with|nil=>rfl|cons _ _=>cases hr
  subst this;rw[zWQ]at hab;subst hab;have keep:∀ {j:Nat} {u:MO},M0[j]?=some u->j≠jf->j≠jb->M'[j]?=some u:=λ{j u} e q1 q2=>(lv'.fr j (zVj.mp e).1 q1 q2).trans e;exact ⟨.inl (keep hl l1 l2),rfl,⟨_,_,rfl⟩,lv'⟩
theorem zMd (k:Int) (st:Fd) (p t:Ye):zF (zAy k st p).1 t=(if (zF st.1 t).isSome then zF st.1 t else if t=p then some (.int k) else none)/\(t∈(zAy k st p).2 ↔ t∈st.2\/(zF st.1 t=none/\t=p)):=by
 unfold zAy;by_cases h:(zF st.1 p).isSome=true
 .rw[zVv h];constructor
  .by_cases ht:(zF st.1 t).isSome=true
   .rw[zVv ht]
   .rw[zVy ht,zVy (λz=>ht (by rw[z];exact h))];cases e:zF st.1 t with
    |none=>rfl
    |some d=>rw[e]at ht;simp at ht
  .constructor
   .exact .inl
   .rintro (q|⟨q,rfl⟩)
    .exact q
    .rw[q]at h;cases h
 .rw[zVy h];have hn:zF st.1 p=none:=by
   cases e:zF st.1 p with
   |none=>rfl
   |some d=>rw[e]at h;simp at h
  constructor
  .rw[zCs];by_cases ht:p=t
   .subst ht;rw[zVv rfl,zVy h,zVv rfl]
   .rw[zVy ht];by_cases hs:(zF st.1 t).isSome=true
    .rw[zVv hs]
    .rw[zVy hs,zVy (λz=>ht z.symm)];cases e:zF st.1 t with
     |none=>rfl
     |some d=>rw[e]at hs;simp at hs
  .rw[zV6,zV8];constructor
   .rintro (q|rfl)
    .exact .inl q
    .exact .inr ⟨hn,rfl⟩
   .rintro (q|⟨_,q⟩)
    .exact .inl q
    .exact .inr q
theorem zGn (k:Int):∀ (ps:Ya) (st:Fd) (t:Ye),zF (ps.foldl (zAy k) st).1 t=(if (zF st.1 t).isSome then zF st.1 t else if t∈ps then some (.int k) else none)/\(t∈(ps.foldl (zAy k) st).2 ↔ t∈st.2\/(zF st.1 t=none/\t∈ps))
 |[],st,t=>by
  constructor
  .by_cases h:(zF st.1 t).isSome=true
   .rw[zVv h];rfl
   .rw[zVy h,zVy (by simp)];cases e:zF st.1 t with
    |none=>exact e
    |some d=>rw[e]at h;simp at h
  .simp
 |p::r,st,t=>by
  obtain ⟨a1,a2⟩:=zMd k st p t;obtain ⟨b1,b2⟩:=zGn k r (zAy k st p) t;rw[List.foldl_cons,b1,b2,a2,a1];by_cases h:(zF st.1 t).isSome=true
  .rw[zVv h,zVv h,zVv h];refine ⟨rfl,?_⟩;have hn:¬ zF st.1 t=none:=λz=>by rw[z]at h;cases h
   simp[hn]
  .have hn:zF st.1 t=none:=by
    cases e:zF st.1 t with
    |none=>rfl
    |some d=>rw[e]at h;simp at h
   rw[zVy h,zVy h];by_cases hp:t=p
   .rw[zVv hp];refine ⟨?_,?_⟩
    .rw[zVv (show (some (D.int k)).isSome=true from rfl),zVv (by rw[hp];exact zVu)]
    .simp[hn,hp]
   .rw[zVy hp];refine ⟨?_,?_⟩
    .rw[zVy (by simp)];by_cases hr:t∈r
     .rw[zVv hr,zVv (zVt _ hr)]
     .rw[zVy hr,zVy (by simp[hp,hr])]
    .simp[hn,hp]
theorem zIC (src:Y1) (k:Int) (gs:Ya) (st:Fd) (t:Ye):zF (zBa src k gs st).1 t=(if (zF st.1 t).isSome then zF st.1 t else if t∈gs.flatMap src then some (.int (k+1)) else none)/\(t∈(zBa src k gs st).2 ↔ t∈st.2\/(zF st.1 t=none/\t∈gs.flatMap src)):=by
 have:∀ (gs:Ya) (st:Fd),zBa src k gs st=(gs.flatMap src).foldl (zAy (k+1)) st:=by
  intro gs;induction gs with
  |nil=>intro st;rfl
  |cons g r ih=>
   intro st;show zBa src k r ((src g).foldl (zAy (k+1)) st)=_;rw[ih,List.flatMap_cons,List.foldl_append]
 rw[this gs st];exact zGn (k+1) (gs.flatMap src) st t
def Rch (zA:Ya) (l:Nat) (G:Yq) (t:Ye) (n:Nat):Prop:=∃ w:List Int,w.length=n/\(∀ x∈w,0<=x/\x<(l:Int))/\G (broR zA t w)
def Dst (zA:Ya) (l:Nat) (G:Yq) (t:Ye) (n:Nat):Prop:=Rch zA l G t n /\ ∀ m,m<n -> ¬ Rch zA l G t m
theorem zGz:Rch zA l G t (n+1) ↔ ∃ x:Int,(0<=x/\x<(l:Int))/\Rch zA l G (setR zA t x) n:=by
 constructor
 .rintro ⟨w,hw,hb,hl⟩;cases w with
  |nil=>cases hw
  |cons x w=>exact ⟨x,hb x zVu,w,by simpa using hw,λy hy=>hb y (zVt _ hy),hl⟩
 .rintro ⟨x,hx,w,hw,hb,hl⟩;exact ⟨x::w,by simp[hw],λy hy=>by rcases zVs.mp hy with rfl|q;exact hx;exact hb y q,hl⟩
theorem zJr:Rch zA l G t 0 ↔ G t:=by
 constructor
 .rintro ⟨w,hw,_,hl⟩;have:w=[]:=List.length_eq_zero_iff.mp hw;subst this;exact hl
 .intro h;exact ⟨[],rfl,(λ_ h=>by cases h),h⟩
theorem zAd:Dst zA l G t 0 ↔ G t:=by
 unfold Dst;rw[zJr];exact ⟨λh=>h.1,λh=>⟨h,λm hm=>by omega⟩⟩
theorem zC0:Dst zA l G t (n+1) ↔ (∀ m,m<=n -> ¬ Rch zA l G t m) /\ ∃ x:Int,(0<=x/\x<(l:Int))/\Dst zA l G (setR zA t x) n:=by
 constructor
 .rintro ⟨h1,h2⟩;obtain ⟨x,hx,hr⟩:=zGz.mp h1;exact ⟨λm hm=>h2 m (by omega),x,hx,hr,λm hm hq=>h2 (m+1) (by omega) (zGz.mpr ⟨x,hx,hq⟩)⟩
 .rintro ⟨h1,x,hx,hr,_⟩;exact ⟨zGz.mpr ⟨x,hx,hr⟩,λm hm=>h1 m (by omega)⟩
theorem zEV:∀ n,Rch zA l G t n -> ∃ m,m<=n/\Dst zA l G t m:=by
 intro n;induction n using Nat.strongRecOn with
 |ind n ih=>
  intro h;by_cases q:∃ m,m<n/\Rch zA l G t m
  .obtain ⟨m,hm,hr⟩:=q;obtain ⟨m',h1,h2⟩:=ih m hm hr;exact ⟨m',by omega,h2⟩
  .exact ⟨n,zVm _,h,λm hm hr=>q ⟨m,hm,hr⟩⟩
theorem zAG (h1:Dst zA l G t a) (h2:Dst zA l G t b):a=b:=by
 rcases Nat.lt_trichotomy a b with q|q|q
 .exact absurd h1.1 (h2.2 a q)
 .exact q
 .exact absurd h2.1 (h1.2 b q)
def zGo (zA:Ya) (l:Nat) (G:Yq) (U:Yq) (k:Nat) (fd:List (List Int × D)) (lev:Ya):Prop:=(∀ t d,zF fd t=some d ↔ U t /\ ∃ n:Nat,n<=k/\Dst zA l G t n/\d=.int (n:Int)) /\ ∀ t,t∈lev ↔ U t/\Dst zA l G t k
theorem zFM (h:zGo zA l G U k fd lev) (u:U t):zF fd t=none ↔ ∀ m,m<=k -> ¬ Rch zA l G t m:=by
 constructor
 .intro e m hm hr;obtain ⟨n,hn,hd⟩:=zEV m hr;rw[(h.1 t (.int (n:Int))).mpr ⟨u,n,by omega,hd,rfl⟩]at e;cases e
 .intro q;cases e:zF fd t with
  |none=>rfl
  |some d=>
   obtain ⟨_,n,hn,hd,_⟩:=(h.1 t d).mp e;exact absurd hd.1 (q n hn)
theorem zMa {zA:Ya} {l:Nat} {U P:Yq} {src:Y1} (hs:∀ g t,t∈src g ↔ P t /\ ∃ x:Int,(0<=x/\x<(l:Int))/\setR zA t x=g) (hP:∀ t,P t->U t) (hU:∀ t n,U t -> ¬ G t->Rch zA l G t n->P t) (hc:∀ t (x:Int),U t->0<=x/\x<(l:Int)->U (setR zA t x))
  {k:Nat} {fd:List (List Int × D)} {lev:Ya} (h:zGo zA l G U k fd lev):zGo zA l G U (k+1) (zBa src (k:Int) lev (fd,[])).1 (zBa src (k:Int) lev (fd,[])).2:=by
 have key:∀ t,(zF fd t=none/\t∈lev.flatMap src) ↔ U t/\Dst zA l G t (k+1):=by
  intro t;constructor
  .rintro ⟨e,hm⟩;obtain ⟨g,hg,ht⟩:=List.mem_flatMap.mp hm;obtain ⟨p,x,hx,hq⟩:=(hs g t).mp ht;have u:=hP t p;refine ⟨u,zC0.mpr ⟨(zFM h u).mp e,x,hx,?_⟩⟩;rw[hq];exact ((h.2 g).mp hg).2
  .rintro ⟨u,hd⟩;obtain ⟨q,x,hx,hr⟩:=zC0.mp hd;refine ⟨(zFM h u).mpr q,List.mem_flatMap.mpr ⟨setR zA t x,(h.2 _).mpr ⟨hc t x u hx,hr⟩,(hs _ t).mpr ⟨hU t _ u ?_ hd.1,x,hx,rfl⟩⟩⟩;intro h1;exact q 0 (zWS _) (zJr.mpr h1)
 constructor
 .intro t d;rw[(zIC src (k:Int) lev (fd,[]) t).1];cases e:zF fd t with
  |some d'=>
   rw[zVv (show (some d').isSome=true from rfl)];obtain ⟨u,n,hn,hd,rfl⟩:=(h.1 t d').mp e;constructor
   .intro z;cases z;exact ⟨u,n,by omega,hd,rfl⟩
   .rintro ⟨_,m,_,hm,rfl⟩;rw[zAG hm hd]
  |none=>
   rw[zVy (by simp)];by_cases hm:t∈lev.flatMap src
   .rw[zVv hm];obtain ⟨u,hd⟩:=(key t).mp ⟨e,hm⟩;constructor
    .intro z;cases z;exact ⟨u,k+1,zVm _,hd,by simp⟩
    .rintro ⟨_,m,_,hm',rfl⟩;rw[zAG hm' hd];simp
   .rw[zVy hm];constructor
    .intro z;cases z
    .rintro ⟨u,m,hk,hd,rfl⟩;exfalso;by_cases hmk:m<=k
     .exact (zFM h u).mp e m hmk hd.1
     .have:m=k+1:=by omega
      subst this;exact hm ((key t).mpr ⟨u,hd⟩).2
 .intro t;rw[(zIC src (k:Int) lev (fd,[]) t).2];rw[key t];simp
theorem zPF {zA:Ya} {l:Nat} {G:Yq} {U:Yq} (hc:∀ t (x:Int),U t->0<=x/\x<(l:Int)->U (setR zA t x)) {k:Nat} {fd:List (List Int × D)} (h:zGo zA l G U k fd []) (t:Ye) (d:D):zF fd t=some d ↔ U t /\ ∃ n:Nat,Dst zA l G t n/\d=.int (n:Int):=by
 have far:∀ n t,U t -> ¬ Dst zA l G t (k+n):=by
  intro n;induction n with
  |zero=>intro t u hd;exact absurd ((h.2 t).mpr ⟨u,hd⟩) (by simp)
  |succ n ih=>
   intro t u hd;obtain ⟨_,x,hx,hr⟩:=zC0.mp (show Dst zA l G t ((k+n)+1)from hd);exact ih _ (hc t x u hx) hr
 rw[h.1 t d];constructor
 .rintro ⟨u,n,_,a,b⟩;exact ⟨u,n,a,b⟩
 .rintro ⟨u,n,a,b⟩;refine ⟨u,n,?_,a,b⟩;by_cases q:n<=k
  .exact q
  .exfalso;have e:n=k+(n-k):=by omega
   rw[e]at a;exact far _ t u a
def Th (zA:Ya) (t:Ye):Prop:=IsS zA t/\t.length<=2
def zDS (zA:Ya) (l:Nat) (g:Ye):List (List Int):=zCx zA (zCI l (zS (zG zA))) g
theorem zQS (g t:Ye):t∈zDS zA l g ↔ t∈zS (zG zA) /\ ∃ x:Int,(0<=x/\x<(l:Int))/\setR zA t x=g:=by
 unfold zDS zCx zCI;simp only[zVx,zWr,List.mem_flatMap,zWK,zWt];constructor
 .rintro ⟨q,⟨⟨p,hp,k,hk,rfl⟩,hq⟩,rfl⟩;exact ⟨hp,(k:Int),⟨by omega,by omega⟩,hq⟩
 .rintro ⟨hp,x,⟨x0,x1⟩,hq⟩;refine ⟨(t,x),⟨⟨t,hp,x.toNat,by omega,?_⟩,hq⟩,rfl⟩;rw[show ((x.toNat:Nat):Int)=x by omega]
theorem zAP:x∈zG zA ↔ 0<=x/\x<(zA.length:Int):=by
 unfold zG;simp only[zVx,zWK];constructor
 .rintro ⟨k,hk,rfl⟩;omega
 .rintro ⟨h0,h1⟩;exact ⟨x.toNat,by omega,by omega⟩
theorem zBn (t:Ye) (h:t∈zS (zG zA)):Th zA t:=by
 refine ⟨zEY h,?_⟩;obtain ⟨a,b,rfl,_⟩:=zw.mp h;exact zVm _
theorem zL9 (t:Ye) (h:Th zA t) (h1:t.length≠1):t∈zS (zG zA):=by
 obtain ⟨⟨pw,n0,hm⟩,h2⟩:=h;match t,pw,n0,hm,h1,h2 with
 |[a,b],pw,_,hm,_,_=>
  exact zw.mpr ⟨a,b,rfl,zAP.mpr (hm a (by simp)),zAP.mpr (hm b (by simp)),by simpa using pw⟩
 |[a],_,_,_,h1,_=>exact absurd rfl h1
 |[],_,n0,_,_,_=>cases n0
 |_::_::_::_,_,_,_,_,h2=>simp at h2
theorem zDC (m:IsM zA l) (t:Ye) (x:Int) (h:Th zA t) (hx:0<=x/\x<(l:Int)):Th zA (setR zA t x):=by
 refine ⟨m.setR h.1 hx.1 hx.2,?_⟩;have:=zIJ (t.map λh=>zBu zA h x);rw[zVp]at this;exact zV7 this h.2
def zDe (zA:Ya) (G:Yq):Prop:=(∀ t,Th zA t->t.length=1->G t) \/ ∀ t,t.length=1 -> ¬ G t
theorem zHp (m:IsM zA l):∀ (w t:Ye),Th zA t->t.length=1->(∀ x∈w,0<=x/\x<(l:Int))->(broR zA t w).length=1
 |[],_,_,h,_=>h
 |x::w,t,u,h,hw=>by
  have hx:=hw x zVu;have u':=zDC m t x u hx;refine zHp m w (setR zA t x) u' ?_ λy hy=>hw y (zVt _ hy);have h1:=zIJ (t.map λh=>zBu zA h x);rw[zVp,h]at h1;have h2:=u'.1.n0;have h3:(setR zA t x).length<=1:=h1;omega
theorem zE5 (m:IsM zA l) (o:zDe zA G) (t:Ye) (n:Nat) (u:Th zA t) (g:¬ G t) (r:Rch zA l G t n):t∈zS (zG zA):=by
 refine zL9 t u λh1=>?_;rcases o with o|o
 .exact g (o t u h1)
 .obtain ⟨w,_,hw,hg⟩:=r;exact o _ (zHp m w t u h1 hw) hg
theorem zKT (m:IsM zA l) (o:zDe zA G) (h:zGo zA l G (Th zA) k fd lev):zGo zA l G (Th zA) (k+1) (zBa (zDS zA l) (k:Int) lev (fd,[])).1 (zBa (zDS zA l) (k:Int) lev (fd,[])).2 :=
 zMa (P:=λt=>t∈zS (zG zA)) zQS zBn (zE5 m o) (zDC m) h
theorem zNA (hts:∀ t,t∈ts ↔ Th zA t/\G t) (h:∀ t d,zF fd t=some d ↔ t∈ts/\d=.int 0):zGo zA l G (Th zA) 0 fd ts:=by
 have key:∀ t,t∈ts ↔ Th zA t/\Dst zA l G t 0:=λt=>by rw[zAd,hts]
 refine ⟨λt d=>?_,key⟩;rw[h t d,key t];constructor
 .rintro ⟨⟨a,b⟩,rfl⟩;exact ⟨a,0,zVm _,b,by simp⟩
 .rintro ⟨a,n,hn,b,rfl⟩;have:n=0:=by omega
  subst this;exact ⟨⟨a,b⟩,by simp⟩
abbrev One (t:Ye):Prop:=t.length=1
theorem zOI (t:Ye):t∈(zG zA).map (λr=>[r]) ↔ Th zA t/\One t:=by
 rw[zVx];constructor
 .rintro ⟨r,hr,rfl⟩;have:=zAP.mp hr;refine ⟨⟨⟨by simp,by simp,λx hx=>?_⟩,by simp⟩,rfl⟩;rw[zV8]at hx;subst hx;exact this
 .rintro ⟨⟨s,_⟩,h1⟩;obtain ⟨r,rfl⟩:=List.length_eq_one_iff.mp h1;exact ⟨r,zAP.mpr (s.mem r (by simp)),rfl⟩
theorem zD3:zDe zA One:=.inl λ_ _ h=>h
theorem whole (m:IsM zA l) (h:zGo zA l G (Th zA) k fd []) (t:Ye) (d:D):zF fd t=some d ↔ Th zA t /\ ∃ n:Nat,Dst zA l G t n/\d=.int (n:Int):=zPF (zDC m) h t d
theorem zCC {α:Type} [DecidableEq α]:∀ (xs ys:List α),xs.Nodup->(∀ x∈xs,x∈ys)->xs.length<=ys.length
 |[],_,_,_=>zWS _
 |x::r,ys,h,hm=>by
  obtain ⟨h1,h2⟩:=List.nodup_cons.mp h;have hx:x∈ys:=hm x zVu;have:=zCC r (ys.erase x) h2 λy hy=>(List.mem_erase_of_ne (λz=>h1 (by rw[<-z];exact hy))).mpr (hm y (zVt _ hy));rw[List.length_erase_of_mem hx]at this;have:=List.length_pos_of_mem hx;simp only[zWD];omega
theorem zDa:∀ {T:List (List Int × D)} {g:Ye},(zF T g).isSome=true ↔ g∈T.map (·.1)
 |[],g=>by simp[zF]
 |q::r,g=>by
  unfold zF;by_cases h:q.1=g
  .simp[h]
  .rw[zVy h,zDa (T:=r)];simp only[zVz,zVs];constructor
   .exact .inr
   .rintro (z|z)
    .exact absurd z.symm h
    .exact z
structure Sz (n:Nat) (st:Fd):Prop where
 ks:(st.1.map (·.1)).Nodup
 nd:st.2.Nodup
 sub:∀ t∈st.2,t∈st.1.map (·.1)
 len:st.1.length=n+st.2.length
theorem zRB {n:Nat} {st:Fd} (k:Int) (p:Ye) (h:Sz n st):Sz n (zAy k st p):=by
 unfold zAy;by_cases q:(zF st.1 p).isSome=true
 .rw[zVv q];exact h
 .rw[zVy q];have hn:zF st.1 p=none:=by
   cases e:zF st.1 p with
   |none=>rfl
   |some d=>rw[e]at q;simp at q
  have hk:p∉st.1.map (·.1):=λz=>q (zDa.mpr z);have e:zCT st.1 p (.int k)=st.1++[(p,.int k)]:=by unfold zCT;rw[hn]
  rw[e];refine ⟨?_,?_,?_,?_⟩
  .rw[zWY,zWu];refine ⟨h.ks,by simp,λa ha b hb=>?_⟩;simp at hb;subst hb;intro z;subst z;exact hk ha
  .rw[zWu];refine ⟨h.nd,by simp,λa ha b hb=>?_⟩;simp at hb;subst hb;intro z;subst z;exact hk (h.sub _ ha)
  .intro t ht;rw[zWY,zV6];rcases zV6.mp (show t∈st.2++[p]from ht)with z|z
   .exact .inl (h.sub t z)
   .right;simpa using z
  .rw[zVw,zVw,h.len];simp;omega
theorem zFs (src:Y1) (k:Int):∀ (gs:Ya) {st:Fd},Sz n st->Sz n (zBa src k gs st)
 |[],st,h=>h
 |g::r,st,h=>by
  refine zFs src k r ?_;have:∀ (ps:Ya) {st:Fd},Sz n st->Sz n (ps.foldl (zAy (k+1)) st):=by
   intro ps;induction ps with
   |nil=>intro st h;exact h
   |cons p ps ih=>intro st h;exact ih (zRB (k+1) p h)
  exact this _ h
theorem zNe (k:Int) (st:Fd) (p:Ye):st.1.length<=(zAy k st p).1.length:=by
 unfold zAy;split
 .exact zVm _
 .unfold zCT;cases zF st.1 p <;> simp
theorem zH9 (src:Y1) (k:Int):∀ (gs:Ya) (st:Fd),st.1.length<=(zBa src k gs st).1.length
 |[],st=>zVm _
 |g::r,st=>by
  have h1:∀ (ps:Ya) (st:Fd),st.1.length<=(ps.foldl (zAy (k+1)) st).1.length:=by
   intro ps;induction ps with
   |nil=>intro st;exact zVm _
   |cons p ps ih=>intro st;exact zV7 (zNe (k+1) st p) (ih _)
  exact zV7 (h1 (src g) st) (zH9 src k r _)
theorem zFN (h:zGo zA l G (Th zA) k fd lev) (hk:(fd.map (·.1)).Nodup):fd.length<=zA.length+zA.length*zA.length:=by
 have hr:(zG zA).length=zA.length:=by unfold zG;simp
 have h1:=zCC (fd.map (·.1)) ((zG zA).map (λr=>[r])++zS (zG zA)) hk λt ht=>by
  have hs:=zDa.mpr ht;cases e:zF fd t with
  |none=>rw[e]at hs;cases hs
  |some d=>
   obtain ⟨u,_⟩:=(h.1 t d).mp e;rw[zV6];by_cases h1:t.length=1
   .obtain ⟨r,rfl⟩:=List.length_eq_one_iff.mp h1;exact .inl (zVx.mpr ⟨r,zAP.mpr (u.1.mem r (by simp)),rfl⟩)
   .exact .inr (zL9 t u h1)
 have h2:=zBZ (zG zA);rw[zVp,zVw,zVp,hr]at h1;rw[hr]at h2;omega
theorem zOz (h:f σ M=some (.dat (.ref j),M)) (hj:M[j]?=some (.lst xs)):zLI f σ M=some (!xs.isEmpty,M):=by
 unfold zLI;rw[h];dsimp only;rw[zAU hj]
theorem zQr (zA:Ya) (l:Nat) (g:Ye):(zDS zA l g).length<=zA.length*zA.length*l:=by
 unfold zDS zCx;rw[zVp];refine zV7 (zX0 _ _) ?_;rw[zF8];have:=zBZ (zG zA);have hr:(zG zA).length=zA.length:=by unfold zG;simp
 rw[hr]at this;exact Nat.mul_le_mul_right l this
theorem zPJ (m:IsM zA l) (oa:zDe zA G) (hR:zA.length<=26) (hl:l<=12) (h1:jf<M0.length) (hd:M0[jd]?=some (dT Ts)) (d1:jd≠jf) (hs:∀ g,(∃ j,zF Ts g=some (.ref j)/\j≠jf/\M0[j]?=some (.lst ((zDS zA l g).map tI)))\/(zF Ts g=none/\zDS zA l g=[])) (hf:M0[jf]?=some (dT fd)) (hv:M0[jl]?=some (.lst (lev.map tI))) (l1:jl≠jf) (inv:zGo zA l G (Th zA) 0 fd lev) (nk:(fd.map (·.1)).Nodup) (nl:lev.length<=fd.length) :
  OkS (zA4 (zLI (zC 3)) (zW (zj 6 (zA5 zH)) (zW (zCl (zAK (zC 3)) (gN 5) (zCl (zAK (zAx (zC 2) (zC 5) (zA5 zH))) (gN 7) (sIf (tst (fOp (zBD true) (zC 7) (zC 4))) (zW (zCa (fOp zAT (fOp zAg (zC 4) (zC 5)) (fC (.int 1))) (zC 4) (zC 7)) (zBp (fM zAb (zC 6) (zD (toD (zC 7)) zH)))) zBs))) (zj 3 (zC 6)))) 1000 [some (mD zA),x1,some (.ref jd),some (.ref jl),some (.ref jf),y5,y6,y7] M0)
   λo σ' M'=>o=.nx/\(∃ y3 y5 y6 y7,σ'=[some (mD zA),x1,some (.ref jd),y3,some (.ref jf),y5,y6,y7])/\(∃ fd',M'[jf]?=some (dT fd')/\fd'.length<=702 /\ ∀ t d,zF fd' t=some d ↔ Th zA t /\ ∃ n:Nat,Dst zA l G t n/\d=.int (n:Int))/\M0.length<=M'.length /\ ∀ j,j<M0.length->j≠jf->M'[j]?=M0[j]?:=by
 have hN:zA.length+zA.length*zA.length<=702:=by
  have:=zXI hR hR;omega
 have hB:zA.length*zA.length*l<=8112:=zXI (zXI hR hR) hl;refine zCA (I:=λz σ M=>∃ (jl:Nat) (y5 y6 y7:Option D) (k:Nat) (fd:List (List Int × D)) (lev:Ya),σ=[some (mD zA),x1,some (.ref jd),some (.ref jl),some (.ref jf),y5,y6,y7]/\M[jf]?=some (dT fd)/\M[jl]?=some (.lst (lev.map tI))/\jl≠jf/\zGo zA l G (Th zA) k fd lev/\(fd.map (·.1)).Nodup/\lev.length<=fd.length/\M0.length<=M.length/\(∀ j,j<M0.length->j≠jf->M[j]?=M0[j]?)/\z=(702-fd.length)+(if lev.isEmpty then 0 else 1)) ?_ 1000 ((702-fd.length)+(if lev.isEmpty then 0 else 1)) _ _ (by split <;> omega) ⟨jl,y5,y6,y7,0,fd,lev,rfl,hf,hv,l1,inv,nk,nl,zVm _,λ_ _ _=>rfl,rfl⟩;rintro z σ M ⟨jl,y5,y6,y7,k,fd,lev,rfl,hf,hv,l1,inv,nk,nl,hlen,fr,rfl⟩;have hfl:=zV7 (zFN inv nk) hN;refine zE (M:=M) (a:=!(lev.map tI).isEmpty) (zOz rfl hv) ?_;cases lev with
 |nil=>
  exact ⟨rfl,⟨_,_,_,_,rfl⟩,⟨fd,hf,hfl,whole m inv⟩,hlen,fr⟩
 |cons g0 lev0=>
  show OkS (zW _ _ [some (mD zA),x1,some (.ref jd),some (.ref jl),some (.ref jf),y5,y6,y7] M) _;generalize hlv:g0::lev0=lev at *;have hne0:lev.isEmpty=false:=by rw[<-hlv];rfl
  rw[zK,zU];refine zE (M:=M) (a:=.fl []) (by unfold zA5 zH;dsimp only;rw[zVv (zn (by simp))]) ?_;rw[zEh,zN,zK,zBU];have fl:=(zVj.mp hf).1;have vl:=(zVj.mp hv).1;have up:∀ {j:Nat},j<M.length->(M++[MO.lst ([]:List D)])[j]?=M[j]?:=λh=>zVn h;have dl:=(zVj.mp hd).1;refine ⟨_,_,_,(show zAK (zC 3) [some (mD zA),x1,some (.ref jd),some (.ref jl),some (.ref jf),y5,some (.ref M.length),y7] (M++[.lst []])=some (lev.map tI,zEH (.dat (.ref jl)) (lev.map tI),M++[.lst []]) by
   unfold zAK;rw[show zC 3 [some (mD zA),x1,some (.ref jd),some (.ref jl),some (.ref jf),y5,some (.ref M.length),y7] (M++[.lst []])=some (.dat (.ref jl),M++[.lst []])from rfl];dsimp only;rw[zAU ((up vl).trans hv)]),?_⟩
  have sz0:Sz fd.length (fd,([]:List (List Int))):=⟨nk,by simp,(λt h=>by cases h),by simp⟩;have szw:Sz fd.length (zBa (zDS zA l) (k:Int) lev (fd,[])):=zFs _ _ lev sz0;have hflw:=zV7 (zFN (zKT m oa inv) szw.ks) hN;refine OkS.mono (zRc (k:=(k:Int)) (src:=zDS zA l) (st:=(fd,[])) (Ts:=Ts) (by omega) (by simp;omega) (by simp) ((up (by omega)).trans ((fr _ dl d1).trans hd)) d1 (by omega) ((up vl).trans hv) l1 (by omega) ?_ 8112 (λg _=>zV7 (zQr zA l g) hB) ?_ 702 (by omega) (λus vs e=>?_) ⟨(up fl).trans hf,by simp,zVm _,λ_ _ _ _=>rfl⟩) ?_
  .intro g;rcases hs g with ⟨j,e,q1,q2⟩|q
   .have jl':=(zVj.mp q2).1;exact .inl ⟨j,e,q1,by omega,(up (by omega)).trans ((fr _ jl' q1).trans q2)⟩
   .exact .inr q
  .intro g hg;obtain ⟨u,hd'⟩:=(inv.2 g).mp hg;exact (inv.1 g _).mpr ⟨u,k,zVm _,hd',rfl⟩
  .have h3:=zH9 (zDS zA l) (k:Int) vs (zBa (zDS zA l) (k:Int) us (fd,[]));have h4:zBa (zDS zA l) (k:Int) vs (zBa (zDS zA l) (k:Int) us (fd,[]))=zBa (zDS zA l) (k:Int) lev (fd,[]):=by rw[e];unfold zBa;rw[List.foldl_append]
   rw[h4]at h3;have h5:=(zFs (zDS zA l) (k:Int) us sz0).len;omega
  .rintro o σ' M' ⟨rfl,⟨y5,y7,rfl⟩,lv⟩;rw[zN,zU];refine zE (M:=M') (a:=.dat (.ref M.length)) rfl ?_;rw[zI];have sz:Sz fd.length (zBa (zDS zA l) (k:Int) lev (fd,[])):=zFs _ _ lev ⟨nk,by simp,(λt h=>by cases h),by simp⟩;have inv':=zKT m oa inv;generalize zBa (zDS zA l) (k:Int) lev (fd,[])=st at lv sz inv';have hfl':=zV7 (zFN inv' sz.ks) hN;have hsl:=sz.len;refine ⟨(702-st.1.length)+(if st.2.isEmpty then 0 else 1),?_,M.length,y5,_,y7,k+1,st.1,st.2,rfl,lv.f,lv.b,by omega,inv',sz.ks,by omega,?_,?_,rfl⟩
   .rw[hne0];cases e:st.2 with
    |nil=>simp;omega
    |cons a r=>rw[e]at hsl;simp at hsl ⊢;omega
   .have:=lv.len;simp at this;omega
   .intro j hj hjf;rw[lv.fr j (by simp;omega) hjf (by omega),up (by omega)];exact fr j hj hjf
theorem zNc {M:Mem} {ts:Ya} (hf:f σ M=some (.dat (.ref jl),M)) (hj:M[jl]?=some (.lst (ts.map tI))) (nd:ts.Nodup) (hz:ts.length<=80000) (hg:∀ a,gN i a (zA7 own σ)=some ((zA7 own σ).set i (some a))) (hs:∀ (a:D) M',zC i ((zA7 own σ).set i (some a)) M'=some (.dat a,M')) :
  zCp true own (zAK f) (gN i) zh (zC i) (fC (.int 0)) σ M=some (.dat (.ref M.length),M++[dT (ts.map λt=>(t,.int 0))]):=by
 have hjl:=(zVj.mp hj).1;unfold zCp zAK;rw[hf];dsimp only;rw[zAU hj];dsimp only;have loop:∀ (r q:Ya),q++r=ts->zCP (gN i) zh (zC i) (fC (.int 0)) (zA7 own σ) M.length (ts.map tI) (zEH (.dat (.ref jl)) (ts.map tI)) (r.map tI) (M++[dT (q.map λt=>(t,.int 0))])=some (M++[dT (ts.map λt=>(t,.int 0))]):=by
  intro r;induction r with
  |nil=>intro q e;rw[zWQ]at e;subst e;exact zHW (.inl (by rw[zVn hjl];exact hj))
  |cons x r ih=>
   intro q e;have hx:x∉q:=λz=>by
    rw[<-e,zWu]at nd;exact nd.2.2 x z x zVu rfl
   have hl:q.length<90000:=by have:=congrArg List.length e;simp at this;omega
   have hk:zF (q.map λt=>(t,D.int 0)) x=none:=by
    cases e2:zF (q.map λt=>(t,D.int 0)) x with
    |none=>rfl
    |some d=>
     have:=zDa.mp (show (zF (q.map λt=>(t,D.int 0)) x).isSome=true by rw[e2];rfl);rw[zV4]at this;obtain ⟨y,hy,rfl⟩:=zVx.mp this;exact absurd hy hx
   have hgd:zAl (zEH (.dat (.ref jl)) (ts.map tI)) (ts.map tI) (M++[dT (q.map λt=>(t,.int 0))]):=.inl (by rw[zVn hjl];exact hj);rw[zVz,zLY (σ1:=(zA7 own σ).set i (some (tI x))) (k:=tI x) (v:=.int 0) (M':=M++[dT ((q++[x]).map λt=>(t,.int 0))]) hgd (hg _) (hs _ _) rfl]
   .exact ih (q++[x]) (by rw[<-e];simp)
   .rw[zHb (T:=q.map λt=>(t,.int 0)) (by simp) (by rw[zVp];exact hl)];unfold zCT;rw[hk];simp
 have:=loop ts [] rfl;rw[show zES true=dT []from rfl];rw[show (([]:List (List Int)).map λt=>(t,D.int 0))=[]from rfl]at this;rw[this]
theorem zHF {zA:Ya} (m:IsM zA l) (oa:zDe zA G) (hR:zA.length<=26) (hl:l<=12) {M:Mem} {ts:Ya} (hj:M[jg]?=some (.lst (ts.map tI))) (nd:ts.Nodup) (hts:∀ t,t∈ts ↔ Th zA t/\G t) (hz:ts.length<=80000):Ok (zBQ [mD zA,.ref jg] M) λd M'=>∃ jf,d=.ref jf/\M.length<=jf/\(∃ fd,M'[jf]?=some (dT fd)/\fd.length<=702 /\ ∀ t d,zF fd t=some d ↔ Th zA t /\ ∃ n:Nat,Dst zA l G t n/\d=.int (n:Int))/\M.length<=M'.length /\ ∀ j,j<M.length->M'[j]?=M[j]?:=by
 have hjl:=(zVj.mp hj).1;unfold zBQ;rw[zx];unfold zC4;rw[zK,zU];refine zCW.mpr (zE (za rfl) (Ok.mono (zRR m (by omega) hl) ?_));rintro d M1 ⟨rfl,sr,h1,fr⟩;rw[zI,zN];refine zAs (d:=.ref jg) rfl ?_;have hj1:=(fr _ hjl).trans hj;rw[zK,zU];refine zE (zNc (jl:=jg) (ts:=ts) rfl hj1 nd hz (λ_=>rfl) (λ_ _=>rfl)) ?_;rw[zI,zN];obtain ⟨T,ed,hT,a1,a2,a3⟩:=sr.ex;have up:∀ {j:Nat} {u:MO},M1[j]?=some u->(M1++[dT (ts.map λt=>(t,D.int 0))])[j]?=some u:=λ{j u} h=>by rw[zVn (zVj.mp h).1];exact h
 have ed':=(zVj.mp ed).1;rw[zK];refine OkS.mono (zPJ (jf:=M1.length) (jd:=M.length) (jl:=jg) (Ts:=T) (lev:=ts) (fd:=ts.map λt=>(t,D.int 0)) m oa hR hl (by simp) (up ed) (by omega) ?_ (by simp) (up hj1) (by omega) (zNA hts ?_) ?_ (by simp)) ?_
 .intro g;cases e:zF T g with
  |none=>exact .inr ⟨rfl,a2 g e⟩
  |some d=>
   obtain ⟨j,rfl,q1,q2⟩:=a1 g d e;have:=(zVj.mp q2).1;exact .inl ⟨j,rfl,by omega,up q2⟩
 .intro t d;have gen:∀ (ts:Ya),zF (ts.map λt=>(t,D.int 0)) t=some d ↔ t∈ts/\d=.int 0:=by
   intro ts;induction ts with
   |nil=>simp[zF]
   |cons x r ih=>
    rw[zVz,zF];by_cases q:x=t
    .subst q;simp[eq_comm]
    .rw[zVy q,ih,zVs];constructor
     .rintro ⟨z1,z2⟩;exact ⟨.inr z1,z2⟩
     .rintro ⟨z1|z1,z2⟩
      .exact absurd z1.symm q
      .exact ⟨z1,z2⟩
  exact gen _
 .rw[zV4];rw[show ((λ(x:List Int × D)=>x.1)∘λ(t:Ye)=>(t,D.int 0))=id from rfl,List.map_id];exact nd
 .rintro o σ' M' ⟨rfl,⟨y3,y5,y6,y7,rfl⟩,⟨fd,e1,e2,e3⟩,hlen,fr'⟩;rw[zN];rw[zVw]at hlen fr';refine zAu (d:=.ref M1.length) rfl ⟨M1.length,rfl,by omega,⟨fd,e1,e2,e3⟩,by omega,λj hj=>?_⟩;rw[fr' j (by omega) (by omega),zVn (by omega)];exact fr j hj
def zFI:FS:=(zAR (zL zBQ (zD (toD (zC 0)) (zD (toD (zq [1] (zAC (zD (toD (fB zBb (zQ (zC 0) zf))) zH)) (gN 1) zh (zB7 (zD (toD (zC 1)) zH)))) zH))))
def zBd:FF:=zBI 2 zFI
theorem zGZ (m:IsM zA l) (hR:zA.length<=26) (hl:l<=12):Ok (zBd [mD zA] M) λd M'=>∃ jf,d=.ref jf/\M.length<=jf/\(∃ fd,M'[jf]?=some (dT fd)/\fd.length<=702 /\ ∀ t d,zF fd t=some d ↔ Th zA t /\ ∃ n:Nat,Dst zA l One t n/\d=.int (n:Int))/\M.length<=M'.length /\ ∀ j,j<M.length->M'[j]?=M[j]?:=by
 unfold zBd;rw[zx];unfold zFI;have er:zAC (zD (toD (fB zBb (zQ (zC 0) zf))) zH) [some (mD zA),none] M=some ((List.range zA.length).map (λ(k:Nat)=>D.int k),none,M):=by
  rw[zCJ (j:=(zA.length:Int)) (zJy rfl) (by omega) (by omega),zEx];rw[show (zA.length:Int).toNat=zA.length by omega]
 have ec:zq [1] (zAC (zD (toD (fB zBb (zQ (zC 0) zf))) zH)) (gN 1) zh (zB7 (zD (toD (zC 1)) zH)) [some (mD zA),none] M=some (.fl ((List.range zA.length).map λ(k:Nat)=>tI [(k:Int)]),M) :=
  zBA (List.range zA.length) (λ(k:Nat)=>D.int k) (λ(k:Nat)=>tI [(k:Int)]) er trivial (by rw[zXd];omega) λk _=>⟨_,rfl,rfl⟩
 have el:((List.range zA.length).map λ(k:Nat)=>tI [(k:Int)])=((zG zA).map λr=>[r]).map tI:=by
  unfold zG;rw[zV4,zV4];rfl
 rw[el]at ec;rw[zAN];refine zCW.mpr (zAn.mpr (zAi.mpr (zo.mpr ⟨_,rfl,?_⟩)));rw[zI];refine zAn.mpr (zAi.mpr (zE ec ?_));rw[zEh,zCY];refine Ok.mono (zHF m zD3 hR hl (jg:=M.length) (ts:=(zG zA).map λr=>[r]) (by simp) ?_ zOI ?_) ?_
 .unfold zG;rw[zV4];exact List.pairwise_map.mpr (List.Pairwise.imp (λ{a b} h z=>h (by simp at z;omega)) List.nodup_range)
 .unfold zG;simp;omega
 rintro d M' ⟨jf,rfl,h1,h2,h3,h4⟩;rw[zI];rw[zVw]at h1 h3 h4;refine ⟨jf,rfl,by omega,h2,by omega,λj hj=>?_⟩;rw[h4 j (by omega),zVn hj]
set_option genInjectivity true in
inductive Climb (zA:Ya) (l:Nat) (G:Yq):List Int->List Int->Prop
 |nil {t:Ye}:G t->Climb zA l G t []
 |cons {t:Ye} {x:Int} {w:Ye} {n:Nat}:Dst zA l G t (n+1)->0<=x->x<(l:Int)->Dst zA l G (setR zA t x) n->(∀ y,0<=y->y<x -> ¬ Dst zA l G (setR zA t y) n)->Climb zA l G (setR zA t x) w->Climb zA l G t (x::w)
theorem zEn:∀ {w v t:Ye},Climb zA l G t w->Climb zA l G t v->w=v
 |[],[],_,_,_=>rfl
 |[],_::_,_,.nil h,.cons d _ _ _ _ _=>by have:=zAG (zAd.mpr h) d;omega
 |_::_,[],_,.cons d _ _ _ _ _,.nil h=>by have:=zAG (zAd.mpr h) d;omega
 |x::w,y::v,t,.cons (n:=a) d1 x0 x1 e1 f1 c1,.cons (n:=b) d2 y0 y1 e2 f2 c2=>by
  have hab:a=b:=by have:=zAG d1 d2;omega
  subst hab;have hxy:x=y:=by
   rcases Int.lt_trichotomy x y with q|q|q
   .exact absurd e1 (f2 x x0 q)
   .exact q
   .exact absurd e2 (f1 y y0 q)
  subst hxy;rw[zEn c1 c2]
theorem zFA:∀ {w t:Ye} {n:Nat},Climb zA l G t w->Dst zA l G t n->w.length=n
 |[],_,_,.nil h,d=>by have:=zAG (zAd.mpr h) d;simpa using this
 |x::w,_,n,.cons (n:=a) d1 _ _ e1 _ c1,d=>by
  have h1:=zFA c1 e1;have h2:=zAG d1 d;rw[zWD];omega
theorem zAj:∀ {w t:Ye},Climb zA l G t w->(∀ x∈w,0<=x/\x<(l:Int))/\G (broR zA t w)
 |[],_,.nil h=>⟨λ_ h=>(by cases h),h⟩
 |x::w,_,.cons _ x0 x1 _ _ c1=>by
  obtain ⟨h1,h2⟩:=zAj c1;refine ⟨λy hy=>?_,h2⟩;rcases zVs.mp hy with rfl|q
  .exact ⟨x0,x1⟩
  .exact h1 y q
theorem zI3 {P:Int->Prop}:∀ (k:Nat),P (k:Int) -> ∃ x:Nat,x<=k/\P (x:Int) /\ ∀ y:Int,0<=y->y<(x:Int) -> ¬ P y:=by
 intro k;induction k using Nat.strongRecOn with
 |ind k ih=>
  intro h;by_cases q:∃ j:Nat,j<k/\P (j:Int)
  .obtain ⟨j,hj,hp⟩:=q;obtain ⟨x,h1,h2,h3⟩:=ih j hj hp;exact ⟨x,by omega,h2,h3⟩
  .refine ⟨k,zVm _,h,λy y0 y1 hp=>q ⟨y.toNat,by omega,?_⟩⟩;rw[show ((y.toNat:Nat):Int)=y by omega];exact hp
theorem zB2:∀ (n:Nat) {t:Ye},Dst zA l G t n -> ∃ w,Climb zA l G t w
 |0,t,d=>⟨[],.nil (zAd.mp d)⟩
 |n+1,t,d=>by
  obtain ⟨_,x,hx,hd⟩:=zC0.mp d;obtain ⟨y,h1,h2,h3⟩:=zI3 (P:=λx=>Dst zA l G (setR zA t x) n) x.toNat (by rw[show ((x.toNat:Nat):Int)=x by omega];exact hd);obtain ⟨w,hw⟩:=zB2 n h2;exact ⟨(y:Int)::w,.cons d (by omega) (by omega) h2 h3 hw⟩
end Lac
namespace Lac
open PySem PySem.Spec PyProof.Rows L2 L3 ST Law
theorem zST (ha:a σ M=some (false,M)) (hb:b σ M=some (k,M)):zGe a b σ M=some (k,M):=by unfold zGe;rw[ha];exact hb
theorem aC' {f:FE} {g:FA} {σ:Sd} {M M1 M2:Mem} {d:D} {ds:List D} (h:toD f σ M=some (d,M1)) (hg:g σ M1=some (ds,M2)):zD (toD f) g σ M=some (d::ds,M2):=by
 unfold zD;rw[h];dsimp only;rw[hg]
theorem zH0 (h:f σ M=some (.dat d,M)):toD f σ M=some (d,M):=by unfold toD;rw[h]
theorem zUz {g:FA} {σ:Sd} {M M1:Mem} {ds:List D} (h:g σ M=some (ds,M1)) (hz:ds.length<=100000):zA5 g σ M=some (.fl ds,M1):=by
 unfold zA5;rw[h];dsimp only;rw[zVv (zn hz)]
theorem zI1 {g:FA} {σ:Sd} {M M1:Mem} {ds:List D} (h:g σ M=some (ds,M1)) (hz:ds.length<=100000):zB7 g σ M=some (.dat (.tup ds),M1):=by
 unfold zB7;rw[h];dsimp only;rw[zVv (zn hz)]
theorem zLu (hf:f σ M=some (.dat (.int i),M)) (hg:g σ M=some (.dat (.int j),M)):fB zFd (zQ f (zQ g zf)) σ M=some (.dat (.int (if j<i then j else i)),M):=by
 unfold fB zQ zf;rw[hf];dsimp only;rw[hg];rfl
theorem zRd (hf:f σ M=some (.dat (.int i),M)) (hg:g σ M=some (.dat (.int j),M)):fB zJ5 (zQ f (zQ g zf)) σ M=some (.dat (.int (if j>i then j else i)),M):=by
 unfold fB zQ zf;rw[hf];dsimp only;rw[hg];rfl
theorem zQ0 {m:FF} {a:FA} {σ:Sd} {M M1 M':Mem} {ds:List D} {d:D} (h:a σ M=some (ds,M1)) (hm:m ds M1=some (d,M')):zL m a σ M=some (.dat d,M'):=by
 unfold zL;rw[h];dsimp only;rw[hm]
def zCO:FS:=(zW (zj 3 (zq [4] (zAC (zD (toD (fB zBb (zQ (fOp kIx (zC 0) (fC (.int 0))) zf))) zH)) (gN 4) zh (zL zAq (zD (toD (zC 0)) (zD (toD (zC 1)) (zD (toD (zC 4)) zH))))))
  (zAR (fB (zHc false) (zQ (zq [4,5] (zJm (zC 3)) (zFY 4 5) (zBy (tst (fOp (zBD false) (zC 5) (zC 2))) (tst (fOp kEq (fOp zAg (zC 2) (zC 5)) (fOp zHA (fOp zAg (zC 2) (zC 1)) (fC (.int 1)))))) (zC 4)) zf))))
def zAD:FF:=zBI 6 zCO
def zEE:FS:=(zW (zj 2 (zq [3] (zAK (zL zAH (zD (toD (zL zAO (zD (toD (zC 0)) zH))) zH))) (gN 3) (tst (fOp kGt (zAx (zC 1) (zC 3) (fC (.int 0))) (fC (.int 0)))) (zC 3)))
  (zAR (zCp true [3] (zAK (zC 2)) (gN 3) zh (zC 3) (zB7 (zD (toD (fOp zAg (zC 1) (zC 3))) (zD (toD (zL zAD (zD (toD (zC 0)) (zD (toD (zC 3)) (zD (toD (zC 1)) zH))))) zH))))))
def zBY:FF:=zBI 4 zEE
def zIQ:FS:=(zAR (zL zBY (zD (toD (zC 0)) (zD (toD (zL zBd (zD (toD (zC 0)) zH))) zH))))
def zDH:FF:=zBI 1 zIQ
def zFS:FS:=(zW (zj 3 (zA5 zH))
  (zW (zj 4 (zC 2))
  (zW (zA4 (tst (fOp (zBD false) (zC 4) (zC 1))) (zW (zj 5 (fOp kIx (fOp zAg (zC 1) (zC 4)) (fC (.int 1))))
  (zW (zBp (fM zAb (zC 3) (zD (toD (zC 5)) zH)))
  (zj 4 (zL zAq (zD (toD (zC 0)) (zD (toD (zC 4)) (zD (toD (zC 5)) zH))))))) 1000)
  (zAR (fB zAQ (zQ (zC 3) zf))))))
def zCE:FF:=zBI 6 zFS
def zER:FS:=(zW (zj 3 (zB7 (zD (toD (fB zFd (zQ (zC 1) (zQ (zC 2) zf)))) (zD (toD (fB zJ5 (zQ (zC 1) (zQ (zC 2) zf)))) zH))))
  (zW (zj 4 (zL zDH (zD (toD (zC 0)) zH)))
  (zAR (vIf (tst (fOp (zBD false) (zC 3) (zC 4))) (zL zCE (zD (toD (zC 0)) (zD (toD (zC 4)) (zD (toD (zC 3)) zH)))) (fC .non)))))
def zBH:FF:=zCf (zBI 5 zER)
theorem zHw {α:Type} (hgd:zAl gd all M) (enc out:α->D) (keep:α->Bool):∀ (as:List α),(∀ a∈as,∃ σ1,g (enc a) σ=some σ1/\tc σ1 M=some (keep a,M)/\(keep a=true->te σ1 M=some (.dat (out a),M)))->zAo g tc te σ all gd (as.map enc) M=some ((as.filter keep).map out,M)
 |[],_=>by
  rw[List.map_nil];unfold zAo;rw[zVv hgd];rfl
 |a::r,h=>by
  obtain ⟨σ1,e1,e2,e3⟩:=h a zVu;have ih:=zHw (σ:=σ) hgd enc out keep r λb hb=>h b (zVt _ hb);rw[zVz];unfold zAo;rw[zVv hgd,e1];dsimp only;rw[e2];cases hk:keep a with
  |false=>
   dsimp only;rw[ih,List.filter_cons_of_neg (by simp[hk])]
  |true=>
   dsimp only;rw[show toD te σ1 M=some (out a,M) by unfold toD;rw[e3 hk]];dsimp only;rw[ih,List.filter_cons_of_pos hk];rfl
theorem zBv {α:Type} {own:Yj} {fi:FI} {g:FG} {tc:FT} {te:FE} {σ:Sd} {M M1:Mem} {gd:Option (Mem->Prop)} (as:List α) (enc out:α->D) (keep:α->Bool) (hi:fi σ M=some (as.map enc,gd,M1)) (hgd:zAl gd (as.map enc) M1) (hz:as.length<=100000)
  (he:∀ a∈as,∃ σ1,g (enc a) (zA7 own σ)=some σ1/\tc σ1 M1=some (keep a,M1)/\(keep a=true->te σ1 M1=some (.dat (out a),M1))):zq own fi g tc te σ M=some (.fl ((as.filter keep).map out),M1) :=
 zZ (zDw.mpr ⟨_,_,_,hi,by rw[zVp];exact zn hz,zE (zHw hgd enc out keep as he) ⟨rfl,rfl⟩⟩)
theorem zQY {f:FE} {σ:Sd} {M M1:Mem} {xs:Ye} (hf:f σ M=some (.fl (xs.map D.int),M1)) (hx:xs≠[]):∃ b,fB (zHc false) (zQ f zf) σ M=some (.dat (.int b),M1)/\b∈xs /\ ∀ y∈xs,b<=y:=by
 cases xs with
 |nil=>exact absurd rfl hx
 |cons x r=>
  obtain ⟨h1,h2⟩:=zDA false r x;refine ⟨zCv false x r,?_,h1,λy hy=>by simpa using h2 y hy⟩;unfold fB zQ zf;rw[hf];unfold zHc;dsimp only;rw[zED]
def zPT (zA:Ya) (l:Nat) (G:Yq) (fd:List (List Int × D)):Prop:=∀ t d,zF fd t=some d ↔ Th zA t /\ ∃ n:Nat,Dst zA l G t n/\d=.int (n:Int)
structure Fst (zA:Ya) (l:Nat) (G:Yq) (p:Ye) (n:Nat) (x:Int):Prop where
 x0:0<=x
 x1:x<(l:Int)
 d:Dst zA l G (setR zA p x) n
 f:∀ y,0<=y->y<x -> ¬ Dst zA l G (setR zA p y) n
def isN (n:Nat):Option D->Bool
 |some (.int v)=>decide (v=(n:Int))
 |_=>false
theorem zJA (sp:zPT zA l G fd) (u:Th zA t):isN n (zF fd t)=true ↔ Dst zA l G t n:=by
 constructor
 .intro h;cases e:zF fd t with
  |none=>rw[e]at h;cases h
  |some d=>
   obtain ⟨_,k,hk,rfl⟩:=(sp t d).mp e;rw[e]at h;have:(k:Int)=(n:Int):=zWc h;rw[show n=k by omega];exact hk
 .intro h;rw[(sp t _).mpr ⟨u,n,h,rfl⟩];exact zWo rfl
theorem eqE:kEq (.dat (.int a)) (.dat (.int b)) M=some (.dat (.bl (decide (a=b))),M):=zZ (zMu.mpr ⟨rfl,rfl⟩)
theorem zVP:zHA (.dat (.int a)) (.dat (.int b)) M=some (.dat (.int (a-b)),M):=rfl
theorem gtE:kGt (.dat (.int a)) (.dat (.int b)) M=some (.dat (.bl (decide (b<a))),M):=rfl
theorem zRn (ha:a σ M=some (true,M)) (hb:b σ M=some (k,M)):zBy a b σ M=some (k,M):=by unfold zBy;rw[ha];exact hb
theorem zRf (ha:a σ M=some (false,M)):zBy a b σ M=some (false,M):=by unfold zBy;rw[ha]
theorem zOH {zA:Ya} {l:Nat} {G:Yq} (m:IsM zA l) (hR:zA.length<=26) (hl:l<=12) {M:Mem} {jf:Nat} {fd:List (List Int × D)} (hf:M[jf]?=some (dT fd)) (sp:zPT zA l G fd) {p:Ye} (u:Th zA p) {n:Nat} (hd:Dst zA l G p (n+1)) :
  Ok (zAD [mD zA,tI p,.ref jf] M) λd M'=>∃ x:Int,d=.int x/\Fst zA l G p n x /\ ∃ us,M'=M++us:=by
 unfold zAD;rw[zx];unfold zCO;have hfl:=(zVj.mp hf).1;have er:=zHS (σ:=[some (mD zA),some (tI p),some (.ref jf),none,none,none]) (M:=M) (zL6 m (f:=zC 0) rfl) (by omega) (by omega);rw[show (l:Int).toNat=l by omega]at er;have ec:=zBA (own:=[4]) (g:=gN 4) (te:=zL zAq (zD (toD (zC 0)) (zD (toD (zC 1)) (zD (toD (zC 4)) zH)))) (List.range l) (λ(k:Nat)=>D.int k) (λ(k:Nat)=>tI (setR zA p (k:Int))) er trivial (by rw[zXd];omega) λk hk=>⟨_,rfl,zX (zg (d:=mD zA) rfl (zg (d:=tI p) rfl (za (d:=.int (k:Int)) rfl))) (zFo m (by omega) u.1 (by omega) (by have:=zWK.mp hk;omega))⟩;rw[zK,zU];refine zE ec (zAS ?_);rw[zN];generalize hA:M++[MO.lst ((List.range l).map λ(k:Nat)=>tI (setR zA p (k:Int)))]=A;have a1:A[M.length]?=some (.lst ((List.range l).map λ(k:Nat)=>tI (setR zA p (k:Int)))):=by rw[<-hA];simp
 have a2:A[jf]?=some (dT fd):=by rw[<-hA,zVn hfl];exact hf
 have hen:zJm (zC 3) [some (mD zA),some (tI p),some (.ref jf),some (.ref M.length),none,none] A=some ((List.range l).map (λ(k:Nat)=>D.tup [.int (k:Nat),tI (setR zA p (k:Int))]),zEH (.dat (.ref M.length)) ((List.range l).map λ(k:Nat)=>tI (setR zA p (k:Int))),A):=by
  unfold zJm;rw[show zC 3 [some (mD zA),some (tI p),some (.ref jf),some (.ref M.length),none,none] A=some (.dat (.ref M.length),A)from rfl];dsimp only;rw[zAU a1];dsimp only;congr 2;unfold zJj;rw[zVp,zXd];apply List.ext_getElem?;intro i;by_cases hi:i<l
  .rw[zV3,zV3,List.zip_eq_zipWith,List.getElem?_zipWith,zV3,List.getElem?_range hi];rfl
  .rw[List.getElem?_eq_none (by simp;omega),List.getElem?_eq_none (by simp;omega)]
 have lp:zF fd p=some (.int ((n+1:Nat):Int)):=(sp p _).mpr ⟨u,n+1,hd,rfl⟩;have ef:=zBv (own:=[4,5]) (g:=zFY 4 5) (tc:=zBy (tst (fOp (zBD false) (zC 5) (zC 2))) (tst (fOp kEq (fOp zAg (zC 2) (zC 5)) (fOp zHA (fOp zAg (zC 2) (zC 1)) (fC (.int 1)))))) (te:=zC 4) (List.range l) _ (λ(k:Nat)=>D.int (k:Int)) (λ(k:Nat)=>isN n (zF fd (setR zA p (k:Int)))) hen (.inl a1) (by rw[zXd];omega) (λk hk=>by
  have u':=zDC m p (k:Int) u ⟨by omega,by have:=zWK.mp hk;omega⟩;refine ⟨[some (mD zA),some (tI p),some (.ref jf),some (.ref M.length),some (.int (k:Int)),some (tI (setR zA p (k:Int)))],rfl,?_,λ_=>rfl⟩;have e1:fOp (zBD false) (zC 5) (zC 2) [some (mD zA),some (tI p),some (.ref jf),some (.ref M.length),some (.int (k:Int)),some (tI (setR zA p (k:Int)))] A=_:=zO (x:=.dat (tI (setR zA p (k:Int)))) (y:=.dat (.ref jf)) rfl rfl (zJz a2);rw[zVy (by decide)]at e1;cases e:zF fd (setR zA p (k:Int)) with
  |none=>
   rw[e]at e1;exact zRf (zAf e1)
  |some d=>
   obtain ⟨_,v,_,rfl⟩:=(sp _ d).mp e;rw[e]at e1;refine zRn (zAf e1) (zAf ?_);refine zO (x:=.dat (.int (v:Int))) (y:=.dat (.int (((n+1:Nat):Int)-1))) (zO (x:=.dat (.ref jf)) (y:=.dat (tI (setR zA p (k:Int)))) rfl rfl (zGA a2 e)) (zO (x:=.dat (.int ((n+1:Nat):Int))) (y:=.dat (.int 1)) (zO (x:=.dat (.ref jf)) (y:=.dat (tI p)) rfl rfl (zGA a2 lp)) rfl zVP) ?_;rw[eqE];unfold isN;congr 5;exact propext ⟨λh=>by omega,λh=>by omega⟩)
 rw[show ((List.range l).filter λ(k:Nat)=>isN n (zF fd (setR zA p (k:Int)))).map (λ(k:Nat)=>D.int (k:Int))=(((List.range l).filter λ(k:Nat)=>isN n (zF fd (setR zA p (k:Int)))).map λ(k:Nat)=>(k:Int)).map D.int by rw[zV4];rfl]at ef;obtain ⟨b,eb,hb1,hb2⟩:=zQY ef (by
  obtain ⟨_,x,hx,hr⟩:=zC0.mp hd;have:((x.toNat:Nat):Int)∈((List.range l).filter λ(k:Nat)=>isN n (zF fd (setR zA p (k:Int)))).map λ(k:Nat)=>(k:Int):=zVx.mpr ⟨x.toNat,zWr.mpr ⟨zWK.mpr (by omega),by rw[show ((x.toNat:Nat):Int)=x by omega];exact (zJA sp (zDC m p x u hx)).mpr hr⟩,rfl⟩;exact List.ne_nil_of_mem this)
 obtain ⟨k,hk,rfl⟩:=zVx.mp hb1;obtain ⟨k1,k2⟩:=zWr.mp hk;have k3:=zWK.mp k1;refine zAu eb ⟨(k:Int),rfl,⟨by omega,by omega,(zJA sp (zDC m p _ u ⟨by omega,by omega⟩)).mp k2,λy y0 y1 hy=>?_⟩,_,hA.symm⟩;have:=hb2 y (zVx.mpr ⟨y.toNat,zWr.mpr ⟨zWK.mpr (by omega),by rw[show ((y.toNat:Nat):Int)=y by omega];exact (zJA sp (zDC m p y u ⟨y0,by omega⟩)).mpr hy⟩,by omega⟩);omega
theorem zKr (a:Fst zA l G p n x) (b:Fst zA l G p n y):x=y:=by
 rcases Int.lt_trichotomy x y with q|q|q
 .exact absurd a.d (b.f x a.x0 q)
 .exact q
 .exact absurd b.d (a.f y b.x0 q)
open Classical in
def zA8 (zA:Ya) (l:Nat) (G:Yq) (t:Ye):Nat:=if h:∃ n,Dst zA l G t n then Classical.choose h else 0
open Classical in
def zJc (zA:Ya) (l:Nat) (G:Yq) (t:Ye):Int:=if h:∃ x,Fst zA l G t (zA8 zA l G t-1) x then Classical.choose h else 0
theorem zBh (h:Dst zA l G t n):zA8 zA l G t=n:=by
 unfold zA8;have hx:∃ n,Dst zA l G t n:=⟨n,h⟩;rw[dif_pos hx];exact zAG (Classical.choose_spec hx) h
theorem zJi (h:0<zA8 zA l G t):Dst zA l G t (zA8 zA l G t):=by
 by_cases hx:∃ n,Dst zA l G t n
 .obtain ⟨n,hn⟩:=hx;rw[zBh hn];exact hn
 .unfold zA8 at h;rw[dif_neg hx]at h;omega
theorem zL4 (hd:Dst zA l G t (n+1)) (h:Fst zA l G t n x):zJc zA l G t=x:=by
 unfold zJc;rw[zBh hd];have hx:∃ x,Fst zA l G t (n+1-1) x:=⟨x,h⟩;rw[dif_pos hx];exact zKr (Classical.choose_spec hx) h
def zEa (zA:Ya) (l:Nat) (G:Yq) (t:Ye):Bool:=decide (0<zA8 zA l G t)
def zEo (zA:Ya) (l:Nat) (G:Yq) (t:Ye):D:=.tup [.int (zA8 zA l G t:Nat),.int (zJc zA l G t)]
def zY (zA:Ya) (l:Nat) (G:Yq):List (List Int):=(zS (zG zA)).filter (zEa zA l G)
def zBB (zA:Ya) (l:Nat) (G:Yq):List (List Int × D):=(zY zA l G).map λp=>(p,zEo zA l G p)
theorem zJR {f:List Int->D} {t:Ye}:∀ {ps:Ya},zF (ps.map λp=>(p,f p)) t=if t∈ps then some (f t) else none
 |[]=>rfl
 |p::r=>by
  rw[zVz,zF];by_cases h:p=t
  .subst h;rw[zVv rfl,zVv zVu]
  .rw[zVy h,zJR (ps:=r)];by_cases hr:t∈r
   .rw[zVv hr,zVv (zVt _ hr)]
   .rw[zVy hr,zVy (by simp[hr,Ne.symm h])]
theorem zQv (h:g∉T.map (·.1)):zCT T g v=T++[(g,v)]:=by
 unfold zCT;cases e:zF T g with
 |none=>rfl
 |some d=>exact absurd (zDa.mp (show (zF T g).isSome=true by rw[e];rfl)) h
theorem zEg (h:xs.Nodup):(zS xs).Nodup:=by
 have gen:∀ r:List Int,r.Nodup->(r.flatMap λa=>(xs.filter λb=>decide (a<b)).map λb=>[a,b]).Nodup:=by
  intro r;induction r with
  |nil=>intro _;simp
  |cons a r ih=>
   intro hr;obtain ⟨h1,h2⟩:=List.nodup_cons.mp hr;rw[List.flatMap_cons,zWu];refine ⟨?_,ih h2,λu hu v hv=>?_⟩
   .refine List.pairwise_map.mpr (List.Pairwise.imp (λ{x y} q z=>q (by simpa using z)) (List.Pairwise.filter _ h))
   .obtain ⟨b,_,rfl⟩:=zVx.mp hu;obtain ⟨c,hc,hv⟩:=List.mem_flatMap.mp hv;obtain ⟨d,_,rfl⟩:=zVx.mp hv;intro z;have:a=c:=by simpa using (zWk z).1
    exact h1 (by rw[this];exact hc)
 exact gen xs h
theorem zKd (zA:Ya):(zG zA).Nodup:=by
 unfold zG;exact List.pairwise_map.mpr (List.Pairwise.imp (λ{a b} h z=>h (by omega)) List.nodup_range)
theorem zAF:t∈zY zA l G ↔ t∈zS (zG zA) /\ ∃ n,Dst zA l G t (n+1):=by
 unfold zY zEa;rw[zWr];constructor
 .rintro ⟨a,b⟩;have:=zJi (zWc b);exact ⟨a,zA8 zA l G t-1,by rw[show zA8 zA l G t-1+1=zA8 zA l G t by have:=zWc b;omega];exact this⟩
 .rintro ⟨a,n,h⟩;exact ⟨a,zWo (by rw[zBh h];omega)⟩
theorem zTK (hf:f σ M=some (.dat (.ref n),M)) (hn:M[n]?=some (dT T)) (hg:g σ M=some (.dat (tI k),M)):zAx f g (fC c) σ M=some (.dat ((zF T k).getD c),M):=by
 unfold zAx;rw[show toD f σ M=some (.ref n,M) by unfold toD;rw[hf]];dsimp only;rw[hn];rw[show toD g σ M=some (tI k,M) by unfold toD;rw[hg]];dsimp only;rw[show toD (fC c) σ M=some (c,M)from rfl];dsimp only;rw[dgT hn]
theorem zNW {own:Yj} {i:Nat} {tv:FE} {σ:Sd} {M:Mem} {jl jk:Nat} {K:MO} {ts:Ya} {val:List Int->D} (hj:M[jl]?=some (.lst (ts.map tI))) (hk:M[jk]?=some K) (nd:ts.Nodup) (hz:ts.length<=80000)
  (hg:∀ a,gN i a (zA7 own σ)=some ((zA7 own σ).set i (some a))) (hs:∀ (a:D) M',zC i ((zA7 own σ).set i (some a)) M'=some (.dat a,M'))
  (hv:∀ t∈ts,∀ M':Mem,M'[jk]?=some K -> ∃ us,tv ((zA7 own σ).set i (some (tI t))) M'=some (.dat (val t),M'++us)) {n:Nat} (hn:n=M.length) :
  ∃ us,zCP (gN i) zh (zC i) tv (zA7 own σ) n (ts.map tI) (zEH (.dat (.ref jl)) (ts.map tI)) (ts.map tI) (M++[dT []])=some (M++dT (ts.map λt=>(t,val t))::us):=by
 subst hn;have hjl:=(zVj.mp hj).1;have hkl:=(zVj.mp hk).1;have loop:∀ (r q:Ya) (ws:Mem),q++r=ts -> ∃ us,zCP (gN i) zh (zC i) tv (zA7 own σ) M.length (ts.map tI) (zEH (.dat (.ref jl)) (ts.map tI)) (r.map tI) (M++dT (q.map λt=>(t,val t))::ws)=some (M++dT (ts.map λt=>(t,val t))::us):=by
  intro r;induction r with
  |nil=>
   intro q ws e;rw[zWQ]at e;subst e;exact ⟨ws,zHW (.inl (by rw[zVn hjl];exact hj))⟩
  |cons x r ih=>
   intro q ws e;have hx:x∉q:=λz=>by
    rw[<-e,zWu]at nd;exact nd.2.2 x z x zVu rfl
   have hl:q.length<90000:=by have:=congrArg List.length e;simp at this;omega
   obtain ⟨us,hu⟩:=hv x (by rw[<-e];simp) (M++dT (q.map λt=>(t,val t))::ws) (by rw[zVn hkl];exact hk);obtain ⟨vs,hvs⟩:=ih (q++[x]) (ws++us) (by rw[<-e];simp);refine ⟨vs,?_⟩;rw[<-hvs,zVz];have hgd:zAl (zEH (.dat (.ref jl)) (ts.map tI)) (ts.map tI) (M++dT (q.map λt=>(t,val t))::ws):=.inl (by rw[zVn hjl];exact hj);rw[zCP,zVv hgd,hg];dsimp only;rw[show zh ((zA7 own σ).set i (some (tI x))) (M++dT (q.map λt=>(t,val t))::ws)=some (true,M++dT (q.map λt=>(t,val t))::ws)from rfl];dsimp only;rw[show toD (zC i) ((zA7 own σ).set i (some (tI x))) (M++dT (q.map λt=>(t,val t))::ws)=some (tI x,M++dT (q.map λt=>(t,val t))::ws) by unfold toD;rw[hs]];dsimp only;rw[show toD tv ((zA7 own σ).set i (some (tI x))) (M++dT (q.map λt=>(t,val t))::ws)=some (val x,M++dT (q.map λt=>(t,val t))::ws++us) by unfold toD;rw[hu]];dsimp only;rw[zHb (T:=q.map λt=>(t,val t)) (by simp) (by rw[zVp];exact hl),zQv (by rw[zV4];simpa using hx)];congr 1;rw[zWm,List.set_append_right _ _ (zVm _)];simp
 exact loop ts [] [] rfl
theorem zJS {zA:Ya} {l:Nat} {G:Yq} (m:IsM zA l) (hR:zA.length<=26) (hl:l<=12) {M:Mem} {jf:Nat} {fd:List (List Int × D)} (hf:M[jf]?=some (dT fd)) (sp:zPT zA l G fd) :
  Ok (zBY [mD zA,.ref jf] M) λd M'=>∃ jr us,d=.ref jr/\M'=M++us/\M.length<=jr/\M'[jr]?=some (dT (zBB zA l G)):=by
 unfold zBY;rw[zx];unfold zEE;have hfl:=(zVj.mp hf).1;have hrl:(zG zA).length=zA.length:=by unfold zG;simp
 have epr:=zEv (xs:=zG zA) (by omega) (M:=M);have ei:zAK (zL zAH (zD (toD (zL zAO (zD (toD (zC 0)) zH))) zH)) [some (mD zA),some (.ref jf),none,none] M=_:=zFp (za (d:=tI (zG zA)) (zX (za (d:=mD zA) rfl) (zEl (by omega)))) epr (zAX _ _);have hPl:(zS (zG zA)).length<=676:=by
  have h1:=zBZ (zG zA);rw[hrl]at h1;exact zV7 h1 (zXI hR hR)
 generalize hA:M++[MO.lst ((zS (zG zA)).map tI)]=A at ei;have a1:A[M.length]?=some (.lst ((zS (zG zA)).map tI)):=by rw[<-hA];simp
 have a2:A[jf]?=some (dT fd):=by rw[<-hA,zVn hfl];exact hf
 have ef:=zBv (own:=[3]) (g:=gN 3) (tc:=tst (fOp kGt (zAx (zC 1) (zC 3) (fC (.int 0))) (fC (.int 0)))) (te:=zC 3) (zS (zG zA)) tI tI (zEa zA l G) ei (.inl a1) (by omega) (λp hp=>by
  refine ⟨[some (mD zA),some (.ref jf),none,some (tI p)],rfl,zAf ?_,λ_=>rfl⟩;have e1:zAx (zC 1) (zC 3) (fC (.int 0)) [some (mD zA),some (.ref jf),none,some (tI p)] A=_:=zTK (k:=p) rfl a2 rfl;unfold zEa;cases e:zF fd p with
  |none=>
   rw[e]at e1;rw[zO (x:=.dat (.int 0)) (y:=.dat (.int 0)) e1 rfl gtE];have:¬ 0<zA8 zA l G p:=λh=>by
    rw[(sp p _).mpr ⟨zBn p hp,_,zJi h,rfl⟩]at e;cases e
   rw[zWF this];rfl
  |some d=>
   obtain ⟨_,v,hv,rfl⟩:=(sp _ d).mp e;rw[e]at e1;rw[zO (x:=.dat (.int (v:Int))) (y:=.dat (.int 0)) e1 rfl gtE,zBh hv];congr 5;exact propext ⟨λh=>by omega,λh=>by omega⟩)
 rw[zK,zU];refine zE ef (zAS ?_);rw[zN];show OkS (zAR _ [some (mD zA),some (.ref jf),some (.ref A.length),none] (A++[.lst ((zY zA l G).map tI)])) _;have nd:(zY zA l G).Nodup:=List.Pairwise.filter _ (zEg (zKd zA));have hrl2:(zY zA l G).length<=676:=zV7 (zX0 _ _) hPl;generalize hB:A++[MO.lst ((zY zA l G).map tI)]=B;have b1:B[A.length]?=some (.lst ((zY zA l G).map tI)):=by rw[<-hB];simp
 have b2:B[jf]?=some (dT fd):=by rw[<-hB,zVn (zVj.mp a2).1];exact a2
 obtain ⟨us,hu⟩:=zNW (own:=[3]) (i:=3) (σ:=[some (mD zA),some (.ref jf),some (.ref A.length),none]) (tv:=zB7 (zD (toD (fOp zAg (zC 1) (zC 3))) (zD (toD (zL zAD (zD (toD (zC 0)) (zD (toD (zC 3)) (zD (toD (zC 1)) zH))))) zH))) (val:=zEo zA l G) b1 b2 nd (by omega) (λ_=>rfl) (λ_ _=>rfl) (λt ht M' hM=>by
  obtain ⟨ht1,n,hn⟩:=zAF.mp ht;obtain ⟨d,M2,e,x,rfl,fx,us,rfl⟩:=zOH m hR hl hM sp (zBn t ht1) hn;refine ⟨us,?_⟩;show zB7 _ [some (mD zA),some (.ref jf),some (.ref A.length),some (tI t)] M'=_;have e1:fOp zAg (zC 1) (zC 3) [some (mD zA),some (.ref jf),some (.ref A.length),some (tI t)] M'=some (.dat (.int ((n+1:Nat):Int)),M'):=zO (x:=.dat (.ref jf)) (y:=.dat (tI t)) rfl rfl (zGA hM ((sp t _).mpr ⟨zBn t ht1,n+1,hn,rfl⟩));have e2:zL zAD (zD (toD (zC 0)) (zD (toD (zC 3)) (zD (toD (zC 1)) zH))) [some (mD zA),some (.ref jf),some (.ref A.length),some (tI t)] M'=some (.dat (.int x),M'++us):=zX (zg (d:=mD zA) rfl (zg (d:=tI t) rfl (za (d:=.ref jf) rfl))) e;rw[zI1 (aC' (zH0 e1) (zOQ e2)) (by simp)];unfold zEo;rw[zBh hn,zL4 hn fx]) rfl
 have ed:zCp true [3] (zAK (zC 2)) (gN 3) zh (zC 3) (zB7 (zD (toD (fOp zAg (zC 1) (zC 3))) (zD (toD (zL zAD (zD (toD (zC 0)) (zD (toD (zC 3)) (zD (toD (zC 1)) zH))))) zH))) [some (mD zA),some (.ref jf),some (.ref A.length),none] B=some (.dat (.ref B.length),B++dT (zBB zA l G)::us):=by
  unfold zCp zAK;rw[show zC 2 [some (mD zA),some (.ref jf),some (.ref A.length),none] B=some (.dat (.ref A.length),B)from rfl];dsimp only;rw[zAU b1];dsimp only;rw[show zES true=dT []from rfl,hu];rfl
 rw[zAN];refine zE ed ⟨B.length,[MO.lst ((zS (zG zA)).map tI)]++([MO.lst ((zY zA l G).map tI)]++dT (zBB zA l G)::us),rfl,by rw[<-hB,<-hA];simp only[zWm],?_,by simp⟩;rw[<-hB,<-hA];simp only[zVw];omega
theorem zFw (m:IsM zA l) (hR:zA.length<=26) (hl:l<=12) :
  Ok (zDH [mD zA] M) λd M'=>∃ jr,d=.ref jr/\M.length<=jr/\M'[jr]?=some (dT (zBB zA l One))/\M.length<=M'.length /\ ∀ j,j<M.length->M'[j]?=M[j]?:=by
 unfold zDH;rw[zx];unfold zIQ;obtain ⟨d,M1,e,jf,rfl,h1,⟨fd,h2,_,sp⟩,h3,h4⟩:=zGZ m hR hl (M:=M);obtain ⟨d2,M2,e2,jr,us,rfl,rfl,q1,q2⟩:=zJS m hR hl h2 sp;rw[zAN];have ec:zL zBY (zD (toD (zC 0)) (zD (toD (zL zBd (zD (toD (zC 0)) zH))) zH)) [some (mD zA)] M=some (.dat (.ref jr),M1++us):=by
  exact zQ0 (aC' (zH0 (d:=mD zA) rfl) (zOQ (zX (za (d:=mD zA) rfl) e))) e2
 refine zE ec ⟨jr,rfl,by omega,q2,by rw[zVw];omega,λj hj=>?_⟩;rw[zVn (by omega)];exact h4 j hj
theorem zHn (m:IsM zA l) (o:zDe zA G):∀ (n:Nat) (t:Ye),Th zA t->Dst zA l G t n -> ∃ ts:List (List Int),ts.length=n/\ts.Nodup /\ ∀ s∈ts,s∈zS (zG zA) /\ ∃ k,k<=n/\Dst zA l G s k
 |0,_,_,_=>⟨[],rfl,List.nodup_nil,λ_ h=>by cases h⟩
 |n+1,t,u,d=>by
  obtain ⟨q,x,hx,hd⟩:=zC0.mp d;obtain ⟨ts,h1,h2,h3⟩:=zHn m o n (setR zA t x) (zDC m t x u hx) hd;refine ⟨t::ts,by simp[h1],List.nodup_cons.mpr ⟨λz=>?_,h2⟩,λs hs=>?_⟩
  .obtain ⟨_,k,hk,hk2⟩:=h3 t z;have:=zAG hk2 d;omega
  .rcases zVs.mp hs with rfl|z
   .exact ⟨zE5 m o s (n+1) u (λg=>by have:=zAG (zAd.mpr g) d;omega) d.1,n+1,zVm _,d⟩
   .obtain ⟨a,k,hk,b⟩:=h3 s z;exact ⟨a,k,by omega,b⟩
theorem zJI (m:IsM zA l) (o:zDe zA G) (u:Th zA t) (d:Dst zA l G t n):n<=(zS (zG zA)).length:=by
 obtain ⟨ts,h1,h2,h3⟩:=zHn m o n t u d;rw[<-h1];exact zCC ts _ h2 λs hs=>(h3 s hs).1
theorem zA1 (hR:zA.length<=26):(zS (zG zA)).length<=676:=by
 have h1:=zBZ (zG zA);have hrl:(zG zA).length=zA.length:=by unfold zG;simp
 rw[hrl]at h1;exact zV7 h1 (zXI hR hR)
theorem zDy (c:Climb zA l G t w):Dst zA l G t w.length:=by
 cases c with
 |nil g=>exact zAd.mpr g
 |cons d x0 x1 e f c=>rw[zWD,zFA c e];exact d
theorem zCD:zF (zBB zA l G) t=if t∈zY zA l G then some (zEo zA l G t) else none:=zJR
theorem zGE (m:IsM zA l) (o:zDe zA G) (hR:zA.length<=26) (hr:M[jr]?=some (dT (zBB zA l G))) (u:Th zA p) (c:Climb zA l G p w) :
  Ok (zCE [mD zA,.ref jr,tI p] M) λd M'=>d=tI w /\ ∃ us,M'=M++us:=by
 have hrl:=(zVj.mp hr).1;have hw:w.length<=676:=zV7 (zJI m o u (zDy c)) (zA1 hR);unfold zCE;rw[zx];unfold zFS;rw[zK,zU];refine zE (M:=M) (a:=.fl []) (zUz rfl (by simp)) (zAS ?_);rw[zN];refine zAs (d:=tI p) rfl ?_;rw[zK];refine zCA (I:=λz σ M'=>∃ (w1 w2 here:Ye) (y:Option D),w=w1++w2/\Climb zA l G here w2/\Th zA here/\z=w2.length/\σ=[some (mD zA),some (.ref jr),some (tI p),some (.ref M.length),some (tI here),y]/\M'=M++[.lst (w1.map D.int)]) ?_ 1000 w.length _ _ (by omega) ⟨[],w,p,none,rfl,c,u,rfl,rfl,rfl⟩;rintro z σ M' ⟨w1,w2,here,y,hw12,c2,u2,rfl,rfl,rfl⟩;have hM:(M++[MO.lst (w1.map D.int)])[jr]?=some (dT (zBB zA l G)):=by rw[zVn hrl];exact hr
 have hL:(M++[MO.lst (w1.map D.int)])[M.length]?=some (.lst (w1.map D.int)):=by simp
 have et:tst (fOp (zBD false) (zC 4) (zC 1)) [some (mD zA),some (.ref jr),some (tI p),some (.ref M.length),some (tI here),y] (M++[MO.lst (w1.map D.int)])=some ((zF (zBB zA l G) here).isSome,M++[MO.lst (w1.map D.int)]):=by
  have:=zO (k:=zBD false) (f:=zC 4) (g:=zC 1) (σ:=[some (mD zA),some (.ref jr),some (tI p),some (.ref M.length),some (tI here),y]) (x:=.dat (tI here)) (y:=.dat (.ref jr)) rfl rfl (zJz hM);rw[zVy (by decide)]at this;exact zAf this
 refine zE et ?_;cases c2 with
 |nil g=>
  have hlk:zF (zBB zA l G) here=none:=by rw[zCD,zVy (λh=>by obtain ⟨_,n,hn⟩:=zAF.mp h;have:=zAG (zAd.mpr g) hn;omega)]
  rw[hlk];rw[zWQ]at hw12;subst hw12;exact zAu (d:=tI w) (zBV (f:=zC 3) rfl (zAU hL)) ⟨rfl,_,rfl⟩
 | @cons _ x w3 n d x0 x1 e f c3=>
  have hp:=zE5 m o here (n+1) u2 (λg=>by have:=zAG (zAd.mpr g) d;omega) d.1;have hin:here∈zY zA l G:=zAF.mpr ⟨hp,n,d⟩;have fx:Fst zA l G here n x:=⟨x0,x1,e,f⟩;have hv:zEo zA l G here=.tup [.int ((n+1:Nat):Int),.int x]:=by unfold zEo;rw[zBh d,zL4 d fx]
  have hlk:zF (zBB zA l G) here=some (.tup [.int ((n+1:Nat):Int),.int x]):=by rw[zCD,zVv hin,hv]
  rw[hlk];have hlen:=congrArg List.length hw12;rw[zVw,zWD]at hlen;refine zAs (d:=.int x) (zO (x:=.dat (.tup [.int ((n+1:Nat):Int),.int x])) (y:=.dat (.int 1)) (zO (x:=.dat (.ref jr)) (y:=.dat (tI here)) rfl rfl (zGA hM hlk)) rfl (zCQ zp rfl)) ?_;rw[zK,zCS];refine zKk.mpr (zE (a:=.dat (.ref M.length)) (M:=M++[MO.lst (w1.map D.int)]) rfl ⟨⟨_,zBj hL⟩,zE (za (d:=.int x) rfl) ((zDj hL (by rw[zVp];exact zV5 (show w1.length<1000 by omega) (zn (by omega)))).mpr ?_)⟩);rw[zN];have hset:(M++[MO.lst (w1.map D.int)]).set M.length (.lst (w1.map D.int++[.int x]))=M++[MO.lst ((w1++[x]).map D.int)]:=by
   rw[List.set_append_right _ _ (zVm _)];simp
  rw[hset,zU];refine zE (zX (zg (d:=mD zA) rfl (zg (d:=tI here) rfl (za (d:=.int x) rfl))) (zFo m (by omega) u2.1 x0 x1)) ?_;exact ⟨w3.length,by simp,w1++[x],w3,setR zA here x,some (.int x),by rw[hw12];simp,c3,zDC m here x u2 ⟨x0,x1⟩,rfl,rfl,rfl⟩
open Classical in
def zPf (zA:Ya) (l:Nat) (G:Yq) (t:Ye):D:=if h:∃ w,Climb zA l G t w then tI (Classical.choose h) else .non
theorem zHq (c:Climb zA l G t w):zPf zA l G t=tI w:=by
 unfold zPf;have hx:∃ w,Climb zA l G t w:=⟨w,c⟩;rw[dif_pos hx,zEn (Classical.choose_spec hx) c]
theorem zMR (h:¬ ∃ w,Climb zA l G t w):zPf zA l G t=.non:=by
 unfold zPf;rw[dif_neg h]
def zAh (a b:Int):List Int:=[if b<a then b else a,if b>a then b else a]
theorem zMj (a0:0<=a) (a1:a<zA.length) (b0:0<=b) (b1:b<zA.length) (ne:a≠b):zAh a b∈zS (zG zA):=by
 unfold zAh;refine zw.mpr ⟨_,_,rfl,zAP.mpr ?_,zAP.mpr ?_,?_⟩
 .split <;> omega
 .split <;> omega
 .split <;> split <;> omega
theorem zJ1 {zA:Ya} {l:Nat} (m:IsM zA l) (hR:zA.length<=26) (hl:l<=12) {a b:Int} (a0:0<=a) (a1:a<zA.length) (b0:0<=b) (b1:b<zA.length) (ne:a≠b) {M:Mem} :
  zBH [mD zA,.int a,.int b] M=some (zPf zA l One (zAh a b),M):=by
 have hp:=zMj a0 a1 b0 b1 ne;refine zZ ?_;unfold zBH;refine zBg ?_ ?_
 .unfold D.unds D.unds D.unds D.unds;rw[zBx];rfl
 rw[zx];unfold zER;refine zAs (d:=tI (zAh a b)) (zI1 (aC' (zH0 (zLu (i:=a) (j:=b) rfl rfl)) (za (zRd (i:=a) (j:=b) rfl rfl))) (by simp[zAh])) ?_;obtain ⟨d,M1,e,jr,rfl,_,h2,_,_⟩:=zFw m hR hl (M:=[]);rw[zK,zU];refine zE (zX (za (d:=mD zA) rfl) e) ?_;rw[zI,zN];have et:tst (fOp (zBD false) (zC 3) (zC 4)) [some (mD zA),some (.int a),some (.int b),some (tI (zAh a b)),some (.ref jr)] M1=some ((zF (zBB zA l One) (zAh a b)).isSome,M1):=by
  have:=zO (k:=zBD false) (f:=zC 3) (g:=zC 4) (σ:=[some (mD zA),some (.int a),some (.int b),some (tI (zAh a b)),some (.ref jr)]) (x:=.dat (tI (zAh a b))) (y:=.dat (.ref jr)) rfl rfl (zJz h2);rw[zVy (by decide)]at this;exact zAf this
 rw[zAN,zQE];refine zE et ?_;by_cases hin:zAh a b∈zY zA l One
 .rw[show zF (zBB zA l One) (zAh a b)=some (zEo zA l One (zAh a b)) by rw[zCD,zVv hin]];obtain ⟨_,n,hn⟩:=zAF.mp hin;obtain ⟨w,c⟩:=zB2 _ hn;obtain ⟨d,M2,e2,rfl,us,rfl⟩:=zGE m zD3 hR h2 (zBn _ hp) c;refine zE (zX (zg (d:=mD zA) rfl (zg (d:=.ref jr) rfl (za (d:=tI (zAh a b)) rfl))) e2) ?_;exact ⟨zr _,(zHq c).symm,rfl⟩
 .rw[show zF (zBB zA l One) (zAh a b)=none by rw[zCD,zVy hin]];refine zE rfl ⟨rfl,?_,rfl⟩;refine (zMR ?_).symm;rintro ⟨w,c⟩;have hd:=zDy c;cases w with
  |nil=>have:=zAd.mp hd;exact absurd this (by unfold zAh;simp)
  |cons x w=>exact hin (zAF.mpr ⟨hp,w.length,hd⟩)
abbrev Wd (l:Nat) (w:Ye):Prop:=∀ x∈w,0<=x/\x<(l:Int)
theorem zTI (h:Wd l u) (g:Wd l v):Wd l (u++v):=λx hx=>(zV6.mp hx).elim (h x) (g x)
theorem zRE:(ris [a,b]).length=1 ↔ a=b:=by
 constructor
 .intro h;obtain ⟨r,e⟩:=List.length_eq_one_iff.mp h;have ha:a∈ris [a,b]:=(zBW _ _).mpr (by simp);have hb:b∈ris [a,b]:=(zBW _ _).mpr (by simp);rw[e,zV8]at ha hb;rw[ha,hb]
 .rintro rfl;rw[show ris [a,a]=ris [a]from zIj (by simp),zNv (by simp)];rfl
theorem zOE (h:a≠b):(zAh a b).Pairwise (· < ·):=by
 unfold zAh;simp only[List.pairwise_cons,zV8,forall_eq,zWB,false_implies,implies_true,List.Pairwise.nil,and_true];split <;> split <;> omega
theorem zQD (h:a≠b) (w:Ye):broR zA (zAh a b) w=ris [zDG zA a w,zDG zA b w]:=by
 rw[zCU (zOE h)];apply zIj;intro x;unfold zAh;by_cases q:b<a
 .rw[zVv q,zVy (by omega)];simp[or_comm]
 .rw[zVy q,zVv (by omega)];simp
theorem zIZ (h:a≠b) (w:Ye):One (broR zA (zAh a b) w) ↔ zDG zA a w=zDG zA b w:=by
 unfold One;rw[zQD h];exact zRE
theorem zQA (h1:fv σ M=some (.dat v,M)) (h2:fo σ M=some (.dat (.ref n),M)) (h3:fi σ M=some (.dat k,M)) (h4:zEb M n k v=some M4) (q:P .nx σ M4):OkS (zCa fv fo fi σ M) P:=by
 refine ⟨.nx,σ,M4,?_,q⟩;unfold zCa toD;rw[h1];dsimp only;rw[h2];dsimp only;rw[h3];dsimp only;rw[h4]
end Lac
namespace Lac
open PySem PySem.Spec PyProof.Rows L2 L3 ST Law
theorem zRp (n:Nat) (ps:Ya):D.unds n (ps.map tI)=true:=by
 induction ps with
 |nil=>rfl
 |cons p r ih=>rw[zVz];unfold D.unds;rw[ih,show D.und n (tI p)=true from zr p];rfl
def zFQ:FS:=(zW (zj 2 (zq [3] (zAK (zL zAH (zD (toD (zC 1)) zH))) (gN 3) (tst (fOp (zBD false) (zC 3) (zC 0))) (zB7 (zD (toD (fOp kIx (fOp zAg (zC 0) (zC 3)) (fC (.int 0)))) (zD (toD (zC 3)) zH)))))
  (zAR (vIf (zLI (zC 2)) (fOp kIx (fB zHU (zQ (zC 2) zf)) (fC (.int 1))) (fC .non))))
def zB8:FF:=zBI 4 zFQ
def zIN:FS:=(zW (zj 2 (zL zDH (zD (toD (zC 0)) zH)))
  (zW (zj 3 (zC 1))
  (zW (zj 4 (zB7 zH))
  (zW (zj 5 (zA5 zH))
  (zW (zj 6 (zL zB8 (zD (toD (zC 2)) (zD (toD (zC 3)) zH))))
  (zW (zA4 (tst (fOp (kIs true) (zC 6) (fC .non))) (zW (zj 7 (zL zCE (zD (toD (zC 0)) (zD (toD (zC 2)) (zD (toD (zC 6)) zH)))))
  (zW (zj 3 (zL zCF (zD (toD (zC 0)) (zD (toD (zC 3)) (zD (toD (zC 7)) zH)))))
  (zW (zj 4 (fOp zAT (zC 4) (zC 7)))
  (zW (zBp (fM zAb (zC 5) (zD (toD (zB7 (zD (toD (zC 6)) (zD (toD (fB zBb (zQ (zC 4) zf))) zH)))) zH)))
  (zj 6 (zL zB8 (zD (toD (zC 2)) (zD (toD (zC 3)) zH)))))))) 100)
  (zAR (zB7 (zD (toD (zC 4)) (zD (toD (fB zAQ (zQ (zC 5) zf))) zH))))))))))
def zEt:FF:=zCf (zBI 8 zIN)
def zC2:FS:=(zW (zj 1 (zL zAO (zD (toD (zC 0)) zH)))
  (zW (zj 2 (fOp kIx (zL zEt (zD (toD (zC 0)) (zD (toD (zC 1)) zH))) (fC (.int 0))))
  (zW (zj 3 (zL zCF (zD (toD (zC 0)) (zD (toD (zC 1)) (zD (toD (zC 2)) zH)))))
  (zAR (zB7 (zD (toD (fB zBb (zQ (zC 3) zf))) (zD (toD (zC 2)) (zD (toD (zC 3)) zH))))))))
def zAA:FF:=zCf (zBI 4 zC2)
open Classical in
def zFz (zA:Ya) (l:Nat) (p:Ye):Bool:=decide (p∈zY zA l One)
def npR (zA:Ya) (l:Nat) (p:Ye):NP:=((zA8 zA l One p:Nat),p.getD 0 0,p.getD 1 0)
def zCz (zA:Ya) (l:Nat) (S:Ye):List (List Int):=(zS S).filter (zFz zA l)
def zCH (zA:Ya) (l:Nat) (S:Ye):Option (List Int):=match (zCz zA l S).map (npR zA l) with
 |[]=>none
 |t::ts=>some [(zBS t ts).2.1,(zBS t ts).2.2]
def zGr (zA:Ya) (l:Nat) (S:Ye):D:=match zCH zA l S with
 |none=> .non
 |some p=>tI p
theorem zK7:zCH zA l S=none ↔ zCz zA l S=[]:=by
 unfold zCH;cases h:zCz zA l S with
 |nil=>simp
 |cons a r=>simp
theorem zE7:p∈zCz zA l S ↔ p∈zS S/\p∈zY zA l One:=by
 unfold zCz zFz;rw[zWr,zWt]
theorem zMs (h:zCH zA l S=some p):p∈zCz zA l S:=by
 unfold zCH at h;cases e:(zCz zA l S).map (npR zA l) with
 |nil=>rw[e]at h;cases h
 |cons t ts=>
  rw[e]at h;cases h;have hm:=zHX ts t;rw[<-e]at hm;obtain ⟨q,hq,eq⟩:=zVx.mp hm;rw[<-eq];obtain ⟨a,b,rfl,_⟩:=zw.mp (zE7.mp hq).1;exact hq
theorem zSk (h:p∈zS S):npD (npR zA l p)=.tup [.int (zA8 zA l One p:Nat),tI p]:=by
 obtain ⟨a,b,rfl,_⟩:=zw.mp h;rfl
theorem zI2 (s:IsS zA S):S.length<=zA.length:=zLo (a:=0) s.pw λx hx=>by have:=s.mem x hx;omega
theorem zGm (hR:zA.length<=26) (hr:M[jr]?=some (dT (zBB zA l One))) (s:IsS zA S) :
  Ok (zB8 [.ref jr,tI S] M) λd M'=>d=zGr zA l S /\ ∃ us,M'=M++us:=by
 have hrl:=(zVj.mp hr).1;have hS:=zI2 s;unfold zB8;rw[zx];unfold zFQ;have epr:=zEv (xs:=S) (by omega) (M:=M);have ei:zAK (zL zAH (zD (toD (zC 1)) zH)) [some (.ref jr),some (tI S),none,none] M=_:=zFp (za (d:=tI S) rfl) epr (zAX _ _);have hPl:(zS S).length<=676:=zV7 (zBZ S) (zV7 (zXI hS hS) (zXI hR hR));generalize hA:M++[MO.lst ((zS S).map tI)]=A at ei;have a1:A[M.length]?=some (.lst ((zS S).map tI)):=by rw[<-hA];simp
 have a2:A[jr]?=some (dT (zBB zA l One)):=by rw[<-hA,zVn hrl];exact hr
 have ef:=zBv (own:=[3]) (g:=gN 3) (tc:=tst (fOp (zBD false) (zC 3) (zC 0))) (te:=zB7 (zD (toD (fOp kIx (fOp zAg (zC 0) (zC 3)) (fC (.int 0)))) (zD (toD (zC 3)) zH))) (zS S) tI (λp=> .tup [.int (zA8 zA l One p:Nat),tI p]) (zFz zA l) ei (.inl a1) (by omega) (λp hp=>by
  refine ⟨[some (.ref jr),some (tI S),none,some (tI p)],rfl,?_,λhk=>?_⟩
  .have e1:fOp (zBD false) (zC 3) (zC 0) [some (.ref jr),some (tI S),none,some (tI p)] A=_:=zO (x:=.dat (tI p)) (y:=.dat (.ref jr)) rfl rfl (zJz a2);rw[zVy (by decide),zCD]at e1;rw[zAf e1];unfold zFz;by_cases h:p∈zY zA l One
   .rw[zVv h,zWo h];rfl
   .rw[zVy h,zWF h];rfl
  .have h:p∈zY zA l One:=zWc hk;have hlk:zF (zBB zA l One) p=some (zEo zA l One p):=by rw[zCD,zVv h]
   exact zI1 (zg (zO (x:=.dat (zEo zA l One p)) (y:=.dat (.int 0)) (zO (x:=.dat (.ref jr)) (y:=.dat (tI p)) rfl rfl (zGA a2 hlk)) rfl (zCQ zp rfl)) (za (d:=tI p) rfl)) (by simp))
 rw[zK,zU];refine zE ef (zAS ?_);rw[zN];have hmap:((zS S).filter (zFz zA l)).map (λp=>D.tup [.int (zA8 zA l One p:Nat),tI p])=((zCz zA l S).map (npR zA l)).map npD:=by
  rw[zV4];exact List.map_congr_left λp hp=>(zSk (zWr.mp hp).1).symm
 rw[hmap];generalize hB:A++[MO.lst (((zCz zA l S).map (npR zA l)).map npD)]=B;have b1:B[A.length]?=some (.lst (((zCz zA l S).map (npR zA l)).map npD)):=by rw[<-hB];simp
 have hus:∃ us,B=M++us:=⟨[MO.lst ((zS S).map tI)]++[MO.lst (((zCz zA l S).map (npR zA l)).map npD)],by rw[<-hB,<-hA,zWm]⟩;rw[zAN,zQE];refine zE (zOz (f:=zC 2) (σ:=[some (.ref jr),some (tI S),some (.ref A.length),none]) rfl b1) ?_;unfold zGr zCH;cases e:(zCz zA l S).map (npR zA l) with
 |nil=>
  refine zE (a:=.dat .non) (M:=B) rfl ?_;exact ⟨rfl,hus⟩
 |cons t ts=>
  rw[e]at b1;have em:fB zHU (zQ (zC 2) zf) [some (.ref jr),some (tI S),some (.ref A.length),none] B=some (.dat (npD (zBS t ts)),B):=by
   unfold fB zQ zf;rw[show zC 2 [some (.ref jr),some (tI S),some (.ref A.length),none] B=some (.dat (.ref A.length),B)from rfl];unfold zHU;dsimp only;rw[zAU b1];dsimp only;rw[zHu]
  exact zE (zO (y:=.dat (.int 1)) em rfl (zCQ (d:=tI [(zBS t ts).2.1,(zBS t ts).2.2]) zp rfl)) ⟨rfl,hus⟩
def stD (q:List Int × Int):D:=.tup [tI q.1,.int q.2]
set_option genInjectivity true in
inductive Quick (zA:Ya) (l:Nat):Nat->List Int->List Int->List (List Int × Int)->Prop
 |nil {k:Nat} {S:Ye}:zCH zA l S=none->Quick zA l k S [] []
 |cons {k:Nat} {S p v w:Ye} {st:List (List Int × Int)}:zCH zA l S=some p->Climb zA l One p v->Quick zA l (k+v.length) (broR zA S v) w st->Quick zA l k S (v++w) ((p,((k+v.length:Nat):Int))::st)
theorem zMi (s:IsS zA S) (h:p∈zS S):p∈zS (zG zA):=by
 obtain ⟨a,b,rfl,ha,hb,hlt⟩:=zw.mp h;exact zw.mpr ⟨a,b,rfl,zAP.mpr (s.mem a ha),zAP.mpr (s.mem b hb),hlt⟩
theorem zMl (s:IsS zA S) (ha:a∈S) (hb:b∈S) (hne:a≠b) (he:zDG zA a v=zDG zA b v):(broR zA S v).length<S.length:=by
 rw[zCU s.pw];have nd:(ris (S.map λr=>zDG zA r v)).Nodup:=List.Pairwise.imp (λ{x y} h=>Int.ne_of_lt h) (zFK _);have h1:=zCC _ ((S.erase b).map λr=>zDG zA r v) nd λx hx=>by
  obtain ⟨r,hr,rfl⟩:=zVx.mp ((zBW _ _).mp hx);by_cases q:r=b
  .subst q;exact zVx.mpr ⟨a,(List.mem_erase_of_ne hne).mpr ha,he⟩
  .exact zVx.mpr ⟨r,(List.mem_erase_of_ne q).mpr hr,rfl⟩
 rw[zVp,List.length_erase_of_mem hb]at h1;have:=List.length_pos_of_mem hb;omega
theorem zD5 (s:IsS zA S) (h:zCH zA l S=some p):p∈zS S/\p∈zS (zG zA) /\ ∃ n,Dst zA l One p (n+1):=by
 obtain ⟨h1,h2⟩:=zE7.mp (zMs h);obtain ⟨h3,h4⟩:=zAF.mp h2;exact ⟨h1,h3,h4⟩
theorem zOU (h:p∈zS S):∃ a b,p=[a,b]/\p=zAh a b/\a∈S/\b∈S/\a<b:=by
 obtain ⟨a,b,rfl,ha,hb,hlt⟩:=zw.mp h;exact ⟨a,b,rfl,by unfold zAh;rw[zVy (by omega),zVv (by omega)],ha,hb,hlt⟩
theorem zFx (s:IsS zA S) (h:zCH zA l S=some p) (c:Climb zA l One p v):(broR zA S v).length<S.length:=by
 obtain ⟨h1,_,_⟩:=zD5 s h;obtain ⟨a,b,rfl,hp,ha,hb,hlt⟩:=zOU h1;have hm:=(zAj c).2;rw[hp,zIZ (by omega)]at hm;exact zMl s ha hb (by omega) hm
theorem zB4 (m:IsM zA l):∀ (n k:Nat) {S:Ye},S.length<=n->IsS zA S -> ∃ w st,Quick zA l k S w st
 |0,k,S,h,s=>by have:=s.n0;omega
 |n+1,k,S,h,s=>by
  cases e:zCH zA l S with
  |none=>exact ⟨_,_,.nil e⟩
  |some p=>
   obtain ⟨_,_,j,hj⟩:=zD5 s e;obtain ⟨v,c⟩:=zB2 _ hj;have hlt:=zFx s e c;obtain ⟨w,st,q⟩:=zB4 m n (k+v.length) (S:=broR zA S v) (by omega) (m.broR v s (zAj c).1);exact ⟨_,_,.cons e c q⟩
theorem zAp:∀ {k:Nat} {S w:Ye} {st:List (List Int × Int)},Quick zA l k S w st->Wd l w
 |_,_,_,_,.nil _=>λ_ h=>by cases h
 |_,_,_,_,.cons _ c q=>zTI (zAj c).1 (zAp q)
theorem zHf:∀ {k:Nat} {S w:Ye} {st:List (List Int × Int)},Quick zA l k S w st->zCH zA l (broR zA S w)=none
 |_,_,_,_,.nil e=>e
 |_,_,_,_,.cons _ c q=>by rw[zQH];exact zHf q
theorem zFP (m:IsM zA l) (hR:zA.length<=26):∀ {k:Nat} {S w:Ye} {st:List (List Int × Int)},IsS zA S->Quick zA l k S w st->w.length<=676*S.length/\st.length<S.length
 |_,_,_,_,s,.nil _=>⟨by simp,s.n0⟩
 |_,S,_,_,s,.cons (v:=v) e c q=>by
  have hlt:=zFx s e c;obtain ⟨h1,h2⟩:=zFP m hR (m.broR v s (zAj c).1) q;obtain ⟨_,hp,_⟩:=zD5 s e;have h3:=zV7 (zJI m zD3 (zBn _ hp) (zDy c)) (zA1 hR);have h4:=Nat.mul_le_mul_left 676 hlt;rw[Nat.mul_succ]at h4;rw[zVw,zWD];omega
theorem zO5 {zA:Ya} (m:IsM zA l) (hR:zA.length<=26) (hl:l<=12) {st:List (List Int × Int)} (s:IsS zA S) (q:Quick zA l 0 S w st) :
  zEt [mD zA,tI S] M=some (.tup [tI w,.tup (st.map stD)],M):=by
 refine zZ ?_;unfold zEt;refine zBg ?_ ?_
 .unfold D.unds D.unds D.unds;rw[zBx];simp[tI,zr]
 rw[zx];unfold zIN;obtain ⟨d,M1,e,jr,rfl,_,h2,_,_⟩:=zFw m hR hl (M:=[]);rw[zK,zU];refine zE (zX (za (d:=mD zA) rfl) e) ?_;rw[zI,zN];refine zAs (d:=tI S) rfl ?_;refine zAs (d:=tI []) (zI1 rfl (by simp)) ?_;rw[zK,zU];refine zE (M:=M1) (a:=.fl []) (zUz rfl (by simp)) (zAS ?_);rw[zN];have hjl:=(zVj.mp h2).1;have up:∀ xs:Mem,(M1++xs)[jr]?=some (dT (zBB zA l One)):=λxs=>by rw[zVn hjl];exact h2
 obtain ⟨d,M2,e2,rfl,us,rfl⟩:=zGm hR (up [.lst []]) s;rw[zK,zU];refine zE (zX (zg (d:=.ref jr) rfl (za (d:=tI S) rfl)) e2) ?_;rw[zI,zN,zK];have hS:=zI2 s;have ql:=zFP m hR s q;refine zCA (I:=λz σ M'=>∃ (T W w2:Ye) (st1 st2:List (List Int × Int)) (us:Mem) (y:Option D),IsS zA T/\Quick zA l W.length T w2 st2/\w=W++w2/\st=st1++st2/\z=st2.length/\σ=[some (mD zA),some (tI S),some (.ref jr),some (tI T),some (tI W),some (.ref M1.length),some (zGr zA l T),y]/\M'=M1 ++ .lst (st1.map stD)::us) ?_ 100 st.length _ _ (by omega) ⟨S,[],w,[],st,us,none,s,q,rfl,rfl,rfl,rfl,by simp⟩;rintro z σ M' ⟨T,W,w2,st1,st2,us,y,sT,q2,hw,hst,rfl,rfl,rfl⟩;have hL:(M1++MO.lst (st1.map stD)::us)[M1.length]?=some (.lst (st1.map stD)):=by simp
 have et:tst (fOp (kIs true) (zC 6) (fC .non)) [some (mD zA),some (tI S),some (.ref jr),some (tI T),some (tI W),some (.ref M1.length),some (zGr zA l T),y] (M1++MO.lst (st1.map stD)::us)=some ((zCH zA l T).isSome,M1++MO.lst (st1.map stD)::us):=by
  unfold zGr;cases h:zCH zA l T with
  |none=>exact zAf (zO (x:=.dat .non) (y:=.dat .non) rfl rfl rfl)
  |some p=>exact zAf (zO (x:=.dat (tI p)) (y:=.dat .non) rfl rfl rfl)
 refine zE et ?_;cases q2 with
 |nil h=>
  rw[h];rw[zWQ]at hw hst;subst hw;subst hst;refine zAu (d:=.tup [tI w,.tup (st.map stD)]) (zI1 (zg (d:=tI w) rfl (za (zBV (f:=zC 5) rfl (zAU hL)))) (by simp)) ⟨?_,rfl,rfl⟩;unfold D.und D.unds D.unds D.unds;rw[show D.und 0 (tI w)=true from zr w];have:∀ xs:List (List Int × Int),D.und 0 (.tup (xs.map stD))=true:=by
   intro xs;unfold D.und;induction xs with
   |nil=>rfl
   |cons x r ih=>
    rw[zVz];unfold D.unds;rw[ih];unfold stD;unfold D.und D.unds D.unds D.unds;rw[show D.und 0 (tI x.1)=true from zr _];rfl
  rw[this];rfl
 | @cons _ _ p v w3 st3 h c q3=>
  have hnd:zGr zA l T=tI p:=by unfold zGr;rw[h]
  rw[h,hnd];obtain ⟨hp1,hp2,_⟩:=zD5 sT h;have cb:=(zAj c).1;have hvl:=zV7 (zJI m zD3 (zBn _ hp2) (zDy c)) (zA1 hR);have hwl:=congrArg List.length hw;have hstl:=congrArg List.length hst;simp only[zVw,zWD]at hwl hstl;obtain ⟨d,M3,e3,rfl,us3,rfl⟩:=zGE m zD3 hR (up (.lst (st1.map stD)::us)) (zBn _ hp2) c;rw[zK,zU];refine zE (zX (zg (d:=mD zA) rfl (zg (d:=.ref jr) rfl (za (d:=tI p) rfl))) e3) ?_;rw[zI,zN];rw[show M1++MO.lst (st1.map stD)::us++us3=M1++MO.lst (st1.map stD)::(us++us3) by simp];generalize us++us3=us4;have sB:=m.broR v sT cb;refine zAs (zX (zg (d:=mD zA) rfl (zg (d:=tI T) rfl (za (d:=tI v) rfl))) (zOc m (by omega) sT cb (by omega))) ?_;refine zAs (d:=tI (W++v)) ?_ ?_
  .rw[zO (x:=.dat (tI W)) (y:=.dat (tI v)) rfl rfl (zSy (zn (by rw[zVp,zVp];omega)))];unfold tI;rw[zWY]
  have hL4:(M1++MO.lst (st1.map stD)::us4)[M1.length]?=some (.lst (st1.map stD)):=by simp
  have elen:fB zBb (zQ (zC 4) zf) [some (mD zA),some (tI S),some (.ref jr),some (tI (broR zA T v)),some (tI (W++v)),some (.ref M1.length),some (tI p),some (tI v)] (M1++MO.lst (st1.map stD)::us4)=some (.dat (.int ((W.length+v.length:Nat):Int)),M1++MO.lst (st1.map stD)::us4):=by
   rw[zJ9 (xs:=W++v) rfl,zVw]
  rw[zK,zCS];refine zKk.mpr (zE (a:=.dat (.ref M1.length)) (M:=M1++MO.lst (st1.map stD)::us4) rfl ⟨⟨_,zBj hL4⟩,zE (za (d:=stD (p,((W.length+v.length:Nat):Int))) (zI1 (zg (d:=tI p) rfl (za elen)) (by simp))) ((zDj hL4 (by rw[zVp];exact zV5 (show st1.length<1000 by omega) (zn (by omega)))).mpr ?_)⟩);rw[zN];have hset:(M1++MO.lst (st1.map stD)::us4).set M1.length (.lst (st1.map stD++[stD (p,((W.length+v.length:Nat):Int))]))=M1++MO.lst ((st1++[(p,((W.length+v.length:Nat):Int))]).map stD)::us4:=by
   rw[List.set_append_right _ _ (zVm _)];simp
  rw[hset];obtain ⟨d,M5,e5,rfl,us5,rfl⟩:=zGm hR (up (.lst ((st1++[(p,((W.length+v.length:Nat):Int))]).map stD)::us4)) sB;rw[zU];refine zE (zX (zg (d:=.ref jr) rfl (za (d:=tI (broR zA T v)) rfl)) e5) ?_;rw[zI];exact ⟨st3.length,by simp,broR zA T v,W++v,w3,st1++[(p,((W.length+v.length:Nat):Int))],st3,us4++us5,some (tI v),sB,by rw[zVw];exact q3,by rw[hw];simp,by rw[hst];simp,rfl,rfl,by simp⟩
theorem zCL (m:IsM zA l):IsS zA (zG zA):=by
 have r0:=m.r0;refine ⟨?_,by unfold zG;simp;omega,λx hx=>zAP.mp hx⟩;unfold zG;exact List.pairwise_map.mpr (List.Pairwise.imp (λ{a b} h=>by omega) List.pairwise_lt_range)
theorem zCn {zA:Ya} {l:Nat} (m:IsM zA l) (hR:zA.length<=26) (hl:l<=12) {w:Ye} {st:List (List Int × Int)} (q:Quick zA l 0 (zG zA) w st) {M:Mem} :
  zAA [mD zA] M=some (.tup [.int (broR zA (zG zA) w).length,tI w,tI (broR zA (zG zA) w)],M):=by
 have s:=zCL m;have hS:=zI2 s;have ql:=zFP m hR s q;have hw:=zAp q;refine zZ ?_;unfold zAA;refine zBg ?_ ?_
 .unfold D.unds D.unds;rw[zBx];rfl
 rw[zx];unfold zC2;refine zAs (zX (za (d:=mD zA) rfl) (zEl (by omega))) ?_;refine zAs (d:=tI w) (zO (y:=.dat (.int 0)) (zX (zg (d:=mD zA) rfl (za (d:=tI (zG zA)) rfl)) (zO5 m hR hl s q)) rfl (zCQ zp rfl)) ?_;refine zAs (zX (zg (d:=mD zA) rfl (zg (d:=tI (zG zA)) rfl (za (d:=tI w) rfl))) (zOc m (by omega) s hw (by omega))) ?_;refine zAu (zI1 (zg (zJ9 (xs:=broR zA (zG zA) w) rfl) (zg (d:=tI w) rfl (za (d:=tI (broR zA (zG zA) w)) rfl))) (by simp)) ⟨?_,rfl,rfl⟩;unfold D.und D.unds D.unds D.unds D.unds;rw[show ∀ x,D.und 0 (tI x)=true from λx=>zr x,show ∀ x,D.und 0 (tI x)=true from λx=>zr x];rfl
theorem zMq (xs:Ye):(ris xs).Nodup:=List.Pairwise.imp (λ{x y} h=>Int.ne_of_lt h) (zFK _)
theorem zPh (h:xs.Nodup):(ris xs).length=xs.length:=Nat.le_antisymm (zIJ xs) (zCC _ _ h λx hx=>(zBW xs x).mpr hx)
theorem zM3 {K v:Ye} (s:IsS zA K) (hn:zCH zA l K=none) (hv:Wd l v):(broR zA K v).length=K.length:=by
 have nd:K.Nodup:=List.Pairwise.imp (λ{x y} h=>Int.ne_of_lt h) s.pw;rw[zCU s.pw,zPh,zVp];refine List.pairwise_map.mpr (List.Pairwise.imp_of_mem (λ{a b} ha hb hlt he=>?_) s.pw);have hlt:a<b:=hlt;have hp:[a,b]∈zS K:=zw.mpr ⟨a,b,rfl,ha,hb,hlt⟩;have hpr:[a,b]=zAh a b:=by unfold zAh;rw[zVy (by omega),zVv (by omega)]
 have hm:One (broR zA [a,b] v):=by rw[hpr,zIZ (by omega)];exact he
 obtain ⟨n,_,hd⟩:=zEV _ ⟨v,rfl,hv,hm⟩;cases n with
 |zero=>exact absurd (zAd.mp hd) (by simp[One])
 |succ n=>
  have:[a,b]∈zCz zA l K:=zE7.mpr ⟨hp,zAF.mpr ⟨zMi s hp,n,hd⟩⟩;rw[zK7.mp hn]at this;cases this
theorem zQk (hs:S.Pairwise (· < ·)) (ht:T.Pairwise (· < ·)) (h:∀ x∈S,x∈T):(broR zA S v).length<=(broR zA T v).length:=by
 rw[zCU hs,zCU ht];refine zCC _ _ (zMq _) λx hx=>?_;rw[zBW]at hx ⊢;obtain ⟨r,hr,rfl⟩:=zVx.mp hx;exact zVx.mpr ⟨r,h r hr,rfl⟩
theorem zH5 {zA:Ya} {l:Nat} (m:IsM zA l) {w:Ye} {st:List (List Int × Int)} (q:Quick zA l 0 (zG zA) w st) {v:Ye} (hv:Wd l v):(broR zA (zG zA) w).length<=(broR zA (zG zA) v).length:=by
 have s:=zCL m;have sK:=m.broR w s (zAp q);rw[<-zM3 sK (zHf q) hv];exact zQk sK.pw s.pw λx hx=>zAP.mpr (sK.mem x hx)
end Lac
namespace Lac
open PySem PySem.Spec PyProof.Rows L2 L3 ST Law
def zIo:FS:=(zW (zj 1 (zL zBd (zD (toD (zC 0)) zH)))
  (zAR (fB zAQ (zQ (zq [2] (zAK (zL zAH (zD (toD (zL zAO (zD (toD (zC 0)) zH))) zH))) (gN 2) (tst (fOp (zBD true) (zC 2) (zC 1))) (zC 2)) zf))))
def zBP:FF:=zCf (zBI 3 zIo)
open Classical in
def zAw (zA:Ya) (l:Nat):List (List Int):=(zS (zG zA)).filter λp=>decide (p∉zY zA l One)
theorem zQd (n:Nat) (ps:Ya):D.und n (.tup (ps.map tI))=true:=by unfold D.und;exact zRp n ps
theorem zEc (m:IsM zA l) (hR:zA.length<=26) (hl:l<=12):zBP [mD zA] M=some (.tup ((zAw zA l).map tI),M):=by
 refine zZ ?_;unfold zBP;refine zBg ?_ ?_
 .unfold D.unds D.unds;rw[zBx];rfl
 rw[zx];unfold zIo;obtain ⟨d,M1,e,jf,rfl,_,⟨fd,h2,_,sp⟩,_,_⟩:=zGZ m hR hl (M:=[]);rw[zK,zU];refine zE (zX (za (d:=mD zA) rfl) e) ?_;rw[zI,zN];have hrl:(zG zA).length=zA.length:=by unfold zG;simp
 have epr:=zEv (xs:=zG zA) (by omega) (M:=M1);have ei:zAK (zL zAH (zD (toD (zL zAO (zD (toD (zC 0)) zH))) zH)) [some (mD zA),some (.ref jf),none] M1=_:=zFp (za (d:=tI (zG zA)) (zX (za (d:=mD zA) rfl) (zEl (by omega)))) epr (zAX _ _);have hjl:=(zVj.mp h2).1;have hPl:=zA1 hR;have ef:=zBv (own:=[2]) (g:=gN 2) (tc:=tst (fOp (zBD true) (zC 2) (zC 1))) (te:=zC 2) (zS (zG zA)) tI tI (λp=>open Classical in decide (p∉zY zA l One)) ei (.inl (zAX _ _)) (by omega) (λp hp=>by
  refine ⟨[some (mD zA),some (.ref jf),some (tI p)],rfl,?_,λ_=>rfl⟩;have e1:fOp (zBD true) (zC 2) (zC 1) [some (mD zA),some (.ref jf),some (tI p)] (M1++[MO.lst ((zS (zG zA)).map tI)])=_:=zO (x:=.dat (tI p)) (y:=.dat (.ref jf)) rfl rfl (zJz (T:=fd) (by rw[zVn hjl];exact h2));rw[zVv rfl]at e1;have hb:(zF fd p).isSome=true ↔ p∈zY zA l One:=by
   rw[zAF];constructor
   .intro h;cases eL:zF fd p with
    |none=>rw[eL]at h;cases h
    |some d=>
     obtain ⟨_,n,hn,_⟩:=(sp p d).mp eL;cases n with
     |zero=>
      obtain ⟨a,b,rfl,_⟩:=zw.mp hp;exact absurd (zAd.mp hn) (by simp[One])
     |succ n=>exact ⟨hp,n,hn⟩
   .rintro ⟨_,n,hn⟩;rw[(sp p _).mpr ⟨zBn p hp,n+1,hn,rfl⟩];rfl
  rw[zAf e1];by_cases hin:p∈zY zA l One
  .rw[hb.mpr hin,zWF (by simpa using hin)];rfl
  .have:(zF fd p).isSome=false:=by
    cases h:(zF fd p).isSome with
    |false=>rfl
    |true=>exact absurd (hb.mp h) hin
   rw[this,zWo hin];rfl)
 rw[zAN];refine zKz.mpr (zCR.mpr (zE ef (zDJ.mpr ((zEz zBw).mpr ?_))));rw[zI];exact ⟨zQd 0 _,rfl,rfl⟩
def zF1:FS:=(zAR (fB zAQ (zQ (zq [1,2,3] (zGs (zL zDH (zD (toD (zC 0)) zH))) (zL5 1 2 3) zh (zB7 (zD (toD (zC 1)) (zD (toD (zC 2)) (zD (toD (zC 3)) zH))))) zf)))
def zCw:FF:=zCf (zBI 4 zF1)
def zCo (zA:Ya) (l:Nat) (p:Ye):D:=.tup [tI p,.int (zA8 zA l One p:Nat),.int (zJc zA l One p)]
theorem zRV (zA:Ya) (l:Nat) (ps:Ya):D.und 0 (.tup (ps.map (zCo zA l)))=true:=by
 unfold D.und;induction ps with
 |nil=>rfl
 |cons p r ih=>
  rw[zVz];unfold D.unds;rw[ih];unfold zCo D.und D.unds D.unds D.unds D.unds;rw[show D.und 0 (tI p)=true from zr _];rfl
theorem zOG (hR:zA.length<=26):(zY zA l One).length<=676:=zV7 (zX0 _ _) (zA1 hR)
theorem zO2 {M M1:Mem} {T:List (List Int × D)} (ha:a σ M=some (ds,M)) (hg:g ds M=some (.ref jr,M1)) (hr:M1[jr]?=some (dT T)):zGs (zL g a) σ M=some (T.map (λq=>D.tup [tI q.1,q.2]),none,M1.set jr (.set [])):=by
 unfold zGs;rw[zX ha hg];dsimp only;rw[hr];show some ((zEM T).map (λp=>D.tup [p.1,p.2]),_,_)=_;unfold zEM;rw[zV4];rfl
theorem zID {zA:Ya} (m:IsM zA l) (hR:zA.length<=26) (hl:l<=12):zCw [mD zA] M=some (.tup ((zY zA l One).map (zCo zA l)),M):=by
 refine zZ ?_;unfold zCw;refine zBg ?_ ?_
 .unfold D.unds D.unds;rw[zBx];rfl
 rw[zx];unfold zF1;obtain ⟨d,M1,e,jr,rfl,_,hr,_,_⟩:=zFw m hR hl (M:=[]);have ei:=zO2 (σ:=[some (mD zA),none,none,none]) (za (f:=zC 0) (d:=mD zA) rfl) e hr;have ef:=zBv (own:=[1,2,3]) (g:=zL5 1 2 3) (tc:=zh) (te:=zB7 (zD (toD (zC 1)) (zD (toD (zC 2)) (zD (toD (zC 3)) zH)))) (zBB zA l One) (λq=>D.tup [tI q.1,q.2]) (λq=>zCo zA l q.1) (λ_=>true) ei trivial (by have:=zOG (l:=l) hR;unfold zBB;rw[zVp];omega) (λq hq=>by
  obtain ⟨p,_,rfl⟩:=zVx.mp hq;exact ⟨[some (mD zA),some (tI p),some (.int (zA8 zA l One p:Nat)),some (.int (zJc zA l One p))],rfl,rfl,λ_=>zI1 (zg (d:=tI p) rfl (zg (d:=.int (zA8 zA l One p:Nat)) rfl (za (d:=.int (zJc zA l One p)) rfl))) (by simp)⟩)
 have hft:((zBB zA l One).filter λ_=>true).map (λq=>zCo zA l q.1)=(zY zA l One).map (zCo zA l):=by
  rw[List.filter_eq_self.mpr λ_ _=>rfl];unfold zBB;rw[zV4];rfl
 rw[hft]at ef;rw[zAN];refine zKz.mpr (zCR.mpr (zE ef (zDJ.mpr ((zEz zBw).mpr ?_))));rw[zI];exact ⟨zRV _ _ _,rfl,rfl⟩
end Lac
namespace Law
open PySem PySem.Spec PyProof.Rows L2 L3 ST
theorem zIG (m:IsM zA l) (h0:0<ls.length) (hg:∀ g∈ls,0<=g/\g<(l:Int)):IsM (zT zA ls) ls.length:=by
 have hl:(zT zA ls).length=zA.length:=by unfold zT;simp
 refine ⟨by rw[hl];exact m.r0,h0,λr hr=>?_⟩;unfold zT at hr;obtain ⟨r',hr',rfl⟩:=zVx.mp hr;refine ⟨by simp,λg hg'=>?_⟩;obtain ⟨x,hx,rfl⟩:=zVx.mp hg';obtain ⟨x0,x1⟩:=hg x hx;obtain ⟨q1,q2⟩:=m.row r' hr';rw[hl];refine q2 _ ?_;rw[zVl,zVk (by omega)];exact zWE _
theorem zOp (r0:0<=r) (r1:r<zA.length) (w0:0<=w) (w1:w<ls.length):zBu (zT zA ls) r w=zBu zA r (ls.getD w.toNat 0):=by
 unfold zBu zT;have e1:(zA.map λr=>ls.map λg=>r.getD g.toNat 0).getD r.toNat []=ls.map λg=>(zA.getD r.toNat []).getD g.toNat 0:=by
  rw[zVl,zV3,zVk (by omega),zVl,zVk (by omega)];rfl
 rw[e1,zVl,zV3,zVk (by omega),zVl (l:=ls),zVk (by omega)];rfl
end Law
namespace Lac
open PySem PySem.Spec PyProof.Rows L2 L3 ST Law
abbrev asW (ls:Ye) (w:Ye):List Int:=w.map λx=>ls.getD x.toNat 0
theorem zCu (zA:Ya) (ls:Ye):(zT zA ls).length=zA.length:=by unfold zT;simp
theorem zJK {l:Nat} {ls w:Ye} (hg:∀ g∈ls,0<=g/\g<(l:Int)) (hw:Wd ls.length w):Wd l (asW ls w):=λx hx=>by
 obtain ⟨y,hy,rfl⟩:=zVx.mp hx;have:=hw y hy;refine hg _ ?_;rw[zVl,zVk (by omega)];exact zWE _
theorem zFm {zA:Ya} {l:Nat} (m:IsM zA l) {ls:Ye} (hg:∀ g∈ls,0<=g/\g<(l:Int)):∀ (w:Ye) {r:Int},0<=r->r<zA.length->Wd ls.length w->zDG (zT zA ls) r w=zDG zA r (asW ls w)
 |[],_,_,_,_=>rfl
 |x::w,r,r0,r1,hw=>by
  have hx:=hw x zVu;have hs:=zOp (zA:=zA) (ls:=ls) r0 r1 hx.1 hx.2;have hl:0<=ls.getD x.toNat 0/\ls.getD x.toNat 0<(l:Int):=zJK hg (w:=[x]) (λy hy=>by rw[zV8]at hy;rw[hy];exact hx) _ (by simp);have hst:=m.step r0 r1 hl.1 hl.2;show zDG (zT zA ls) (zBu (zT zA ls) r x) w=zDG zA (zBu zA r (ls.getD x.toNat 0)) (asW ls w);rw[hs];exact zFm m hg w hst.1 hst.2 λy hy=>hw y (zVt _ hy)
theorem zFq (m:IsM zA l) (hg:∀ g∈ls,0<=g/\g<(l:Int)) (s:IsS zA S) (hw:Wd ls.length w):broR (zT zA ls) S w=broR zA S (asW ls w):=by
 rw[zCU s.pw,zCU s.pw];congr 1;exact List.map_congr_left λr hr=>zFm m hg w (s.mem r hr).1 (s.mem r hr).2 hw
theorem zAr (zA:Ya) (ls:Ye):zG (zT zA ls)=zG zA:=by unfold zG;rw[zCu]
theorem zJ7 {l:Nat} {ls w:Ye} (all:∀ x:Int,0<=x->x<(l:Int)->x∈ls) (hw:Wd l w):∃ v,Wd ls.length v/\asW ls v=w:=by
 refine ⟨w.map λx=>(ls.idxOf x:Int),λy hy=>?_,?_⟩
 .obtain ⟨x,hx,rfl⟩:=zVx.mp hy;have:=List.idxOf_lt_length_of_mem (all x (hw x hx).1 (hw x hx).2);omega
 .unfold asW;rw[zV4];have:∀ x∈w,((λx:Int=>ls.getD x.toNat 0)∘λx=>(ls.idxOf x:Int)) x=x:=λx hx=>by
   have hm:=all x (hw x hx).1 (hw x hx).2;have hlt:=List.idxOf_lt_length_of_mem hm;show ls.getD ((ls.idxOf x:Int)).toNat 0=x;rw[show ((ls.idxOf x:Int)).toNat=ls.idxOf x by omega,zVl,zVk hlt];simp
  rw[List.map_congr_left this,List.map_id']
theorem zEm {zA:Ya} {l:Nat} (m:IsM zA l) {ls:Ye} (h0:0<ls.length) (hg:∀ g∈ls,0<=g/\g<(l:Int)) {w w2:Ye} {st st2:List (List Int × Int)} (q:Quick zA l 0 (zG zA) w st) (q2:Quick (zT zA ls) ls.length 0 (zG (zT zA ls)) w2 st2) :
  (broR zA (zG zA) w).length<=(broR (zT zA ls) (zG (zT zA ls)) w2).length:=by
 rw[zAr]at q2 ⊢;rw[zFq m hg (zCL m) (zAp q2)];exact zH5 m q (zJK hg (zAp q2))
theorem zNm {zA:Ya} {l:Nat} (m:IsM zA l) {ls:Ye} (h0:0<ls.length) (hg:∀ g∈ls,0<=g/\g<(l:Int)) (all:∀ x:Int,0<=x->x<(l:Int)->x∈ls) {w w2:Ye} {st st2:List (List Int × Int)} (q:Quick zA l 0 (zG zA) w st) (q2:Quick (zT zA ls) ls.length 0 (zG (zT zA ls)) w2 st2) :
  (broR zA (zG zA) w).length=(broR (zT zA ls) (zG (zT zA ls)) w2).length:=by
 refine Nat.le_antisymm (zEm m h0 hg q q2) ?_;have m2:=zIG m h0 hg;obtain ⟨v,hv,ev⟩:=zJ7 all (zAp q);have:=zH5 m2 q2 hv;rw[zAr]at this ⊢;rw[zFq m hg (zCL m) hv,ev]at this;exact this
theorem zN3 {c:Ye} (pm:c.Perm ((List.range ((l:Int)).toNat).map λ(x:Nat)=>(x:Int))) (x:Int) (x0:0<=x) (x1:x<(l:Int)):x∈c:=by
 rw[pm.mem_iff];exact zVx.mpr ⟨x.toNat,zWK.mpr (by omega),by omega⟩
def zDu:FS:=(zW (zj 1 zIS)
  (zW (zCl (zAK (zL zCw (zD (toD (zC 0)) zH))) (zOi 2 3 4) (zCa (zC 3) (zC 1) (zC 2)))
  (zAR (zC 1))))
def zAt:FF:=zBI 5 zDu
def zP1:FS:=(zW (zj 1 (zL zBq (zD (toD (zC 0)) zH)))
  (zW (zj 2 (fOp zAT (fC (.int 1)) (zL zR (zD (toD (zC 1)) (zD (toD (fC (.int 6))) zH)))))
  (zW (zj 3 (zL zA9 (zD (toD (zC 1)) (zD (toD (fOp zAT (fC (.int 2)) (zL zR (zD (toD (zC 1)) (zD (toD (fC (.int 25))) zH))))) (zD (toD (zC 2)) zH)))))
  (zW (zj 4 (zL zBN (zD (toD (zC 1)) (zD (toD (zC 2)) zH))))
  (zW (zj 5 (fB zAQ (zQ (fOp zFc (zC 4) (zq [6] (zAC (zD (toD (zL zR (zD (toD (zC 1)) (zD (toD (fOp zHA (fC (.int 7)) (zC 2))) zH)))) zH)) (gN 6) zh (zL zR (zD (toD (zC 1)) (zD (toD (zC 2)) zH))))) zf)))
  (zW (zj 7 (zL zA0 (zD (toD (zC 3)) (zD (toD (zC 5)) zH))))
  (zW (zj 8 (zL zAt (zD (toD (zC 3)) zH)))
  (zW (sIf (zGe (tst (fOp zNO (zL zAt (zD (toD (zC 7)) zH)) (zC 8))) (tst (fOp (kTr true 1) (zL zBP (zD (toD (zC 7)) zH)) (zL zBP (zD (toD (zC 3)) zH))))) (zAR (fC (.bl false))) zBs)
  (zW (sIf (tst (fOp kNe (fOp kIx (zL zAA (zD (toD (zC 7)) zH)) (fC (.int 0))) (fOp kIx (zL zAA (zD (toD (zC 3)) zH)) (fC (.int 0))))) (zAR (fC (.bl false))) zBs)
  (zW (zj 9 (fB zAQ (zQ (fSl (zC 4) zD7 (zDf (fOp zAT (fC (.int 1)) (zL zR (zD (toD (zC 1)) (zD (toD (zC 2)) zH)))))) zf)))
  (zW (zj 10 (zL zA0 (zD (toD (zC 3)) (zD (toD (zC 9)) zH))))
  (zW (zj 11 (fB (zD4 true) (zQ (zq [12] (zAK (zL zBP (zD (toD (zC 10)) zH))) (gN 12) zh (zB7 (zD (toD (zC 12)) (zD (toD (fC (.bl true))) zH)))) zf)))
  (zW (sIf (zGe (zKS (tst (fB zTW (zQ (zq [12] (zAK (zL zBP (zD (toD (zC 3)) zH))) (gN 12) zh (fOp (zBD false) (zC 12) (zC 11))) zf)))) (tst (fOp kLt (fOp kIx (zL zAA (zD (toD (zC 10)) zH)) (fC (.int 0))) (fOp kIx (zL zAA (zD (toD (zC 3)) zH)) (fC (.int 0)))))) (zAR (fC (.bl false))) zBs)
  (zW (zj 13 (zL zCw (zD (toD (zC 10)) zH)))
  (zW (zCl (zAK (zC 13)) (zOi 12 14 15) (sIf (tst (fOp kGt (zAx (zC 8) (zC 12) (fOp zAT (zC 14) (fC (.int 1)))) (zC 14))) (zAR (fC (.bl false))) zBs))
  (zW (zCl (zAC (zD (toD (fB zFd (zQ (fC (.int 3)) (zQ (fB zBb (zQ (zC 13) zf)) zf)))) zH)) (gN 16) (zW (zM1 (zFY 17 18) (fOp kIx (fOp kIx (zC 13) (zL zR (zD (toD (zC 1)) (zD (toD (fB zBb (zQ (zC 13) zf))) zH)))) (fC (.int 0))))
  (zW (zj 19 (fB zAQ (zQ (zq [15] (zAK (zL zBH (zD (toD (zC 10)) (zD (toD (zC 17)) (zD (toD (zC 18)) zH))))) (gN 15) zh (fOp kIx (zC 9) (zC 15))) zf)))
  (sIf (tst (fOp kNe (zL zFU (zD (toD (zC 3)) (zD (toD (zC 17)) (zD (toD (zC 19)) zH)))) (zL zFU (zD (toD (zC 3)) (zD (toD (zC 18)) (zD (toD (zC 19)) zH)))))) (zAR (fC (.bl false))) zBs))))
  (zAR (fC (.bl true)))))))))))))))))))
def zFX:FF:=zBI 20 zP1
section
variable {zA:Ya} {l:Nat} {ls:Ye}
theorem zTq {t:Ye} (h:t∈zS (zG zA)):IsS zA t:=zEY h
theorem zL2 (m:IsM zA l) (hg:∀ g∈ls,0<=g/\g<(l:Int)) {t:Ye} (ht:t∈zS (zG zA)) {n:Nat} (h:Rch (zT zA ls) ls.length One t n):Rch zA l One t n:=by
 obtain ⟨w,hl,hw,ho⟩:=h;rw[zFq m hg (zEY ht) hw]at ho;exact ⟨asW ls w,by rw[zVp,hl],zJK hg hw,ho⟩
theorem zDi (m:IsM zA l) (hg:∀ g∈ls,0<=g/\g<(l:Int)) (all:∀ x:Int,0<=x->x<(l:Int)->x∈ls) {t:Ye} (ht:t∈zS (zG zA)) {n:Nat}:Rch (zT zA ls) ls.length One t n ↔ Rch zA l One t n:=by
 refine ⟨zL2 m hg ht,λh=>?_⟩;obtain ⟨w,hl,hw,ho⟩:=h;obtain ⟨v,hv,e⟩:=zJ7 all hw;refine ⟨v,?_,hv,?_⟩
 .rw[<-hl,<-e,zVp]
 .rw[zFq m hg (zEY ht) hv,e];exact ho
theorem zDU (m:IsM zA l) (hg:∀ g∈ls,0<=g/\g<(l:Int)) (all:∀ x:Int,0<=x->x<(l:Int)->x∈ls) {t:Ye} (ht:t∈zS (zG zA)) {n:Nat}:Dst (zT zA ls) ls.length One t n ↔ Dst zA l One t n:=by
 unfold Dst;rw[zDi m hg all ht];exact ⟨λh=>⟨h.1,λk hk z=>h.2 k hk ((zDi m hg all ht).mpr z)⟩,λh=>⟨h.1,λk hk z=>h.2 k hk ((zDi m hg all ht).mp z)⟩⟩
theorem zKb (m:IsM zA l) (hg:∀ g∈ls,0<=g/\g<(l:Int)) (all:∀ x:Int,0<=x->x<(l:Int)->x∈ls):zY (zT zA ls) ls.length One=zY zA l One:=by
 have e:∀ t,t∈zY (zT zA ls) ls.length One ↔ t∈zY zA l One:=λt=>by
  rw[zAF,zAF,zAr];exact ⟨λ⟨h,n,d⟩=>⟨h,n,(zDU m hg all h).mp d⟩,λ⟨h,n,d⟩=>⟨h,n,(zDU m hg all h).mpr d⟩⟩
 have key:∀ (r:Ya) (l:Nat) (x:Ye),x∈zY r l One ↔ x∈zS (zG r)/\(zEa r l One x)=true:=λr l x=>by unfold zY;rw[zWr]
 unfold zY;rw[zAr];refine List.filter_congr λt ht=>?_;have h1:=e t;rw[key,key,zAr]at h1;have h2:zEa (zT zA ls) ls.length One t=true ↔ zEa zA l One t=true:=⟨λz=>(h1.mp ⟨ht,z⟩).2,λz=>(h1.mpr ⟨ht,z⟩).2⟩;cases e1:zEa (zT zA ls) ls.length One t <;> cases e2:zEa zA l One t <;> simp_all
theorem zNK (m:IsM zA l) (hg:∀ g∈ls,0<=g/\g<(l:Int)) (all:∀ x:Int,0<=x->x<(l:Int)->x∈ls):zAw (zT zA ls) ls.length=zAw zA l:=by
 unfold zAw;rw[zKb m hg all,zAr]
theorem zNx (m:IsM zA l) (hg:∀ g∈ls,0<=g/\g<(l:Int)) (all:∀ x:Int,0<=x->x<(l:Int)->x∈ls) {t:Ye} (ht:t∈zY zA l One):zA8 (zT zA ls) ls.length One t=zA8 zA l One t:=by
 obtain ⟨hp,n,d⟩:=zAF.mp ht;rw[zBh d,zBh ((zDU m hg all hp).mpr d)]
theorem zGO (m:IsM zA l) (hg:∀ g∈ls,0<=g/\g<(l:Int)) {t:Ye} (ht:t∈zY (zT zA ls) ls.length One):t∈zY zA l One/\zA8 zA l One t<=zA8 (zT zA ls) ls.length One t:=by
 obtain ⟨hp,n,d⟩:=zAF.mp ht;rw[zAr]at hp;obtain ⟨k,hk,dk⟩:=zEV (n+1) (zL2 m hg hp d.1);rw[zBh d,zBh dk];cases k with
 |zero=>
  obtain ⟨a,b,rfl,_⟩:=zw.mp hp;exact absurd (zAd.mp dk) (by show ¬ (2=1);omega)
 |succ k=>exact ⟨zAF.mpr ⟨hp,k,dk⟩,hk⟩
theorem zJO (m:IsM zA l) (hg:∀ g∈ls,0<=g/\g<(l:Int)) {t:Ye} (ht:t∈zAw zA l):t∈zAw (zT zA ls) ls.length:=by
 unfold zAw at ht ⊢;rw[zWr]at ht ⊢;rw[zAr];refine ⟨ht.1,zWo λz=>zWc ht.2 (zGO m hg z).1⟩
end
def zGb (ts:Ya) (f:List Int->Int):List (List Int × D):=ts.map λg=>(g,.int (f g))
theorem zFC (f:List Int->Int):∀ (ts:Ya) (q:Ye),zF (zGb ts f) q=if q∈ts then some (.int (f q)) else none
 |[],q=>rfl
 |g::ts,q=>by
  show (if g=q then some (D.int (f g)) else zF (zGb ts f) q)=_;rw[zFC f ts q];by_cases h:g=q
  .subst h;simp
  .rw[zVy h];have:¬ q=g:=λz=>h z.symm;simp[this]
theorem zRS (ts:Ya) (f:List Int->Int):zU3 (zEM (zGb ts f)) (zEM (zGb ts f)):=by
 refine ⟨rfl,λp hp=>?_⟩;obtain ⟨r,hr,rfl⟩:=zVx.mp hp;obtain ⟨g,hg,rfl⟩:=zVx.mp hr;refine ⟨f g,rfl,⟨_,hp,rfl⟩,λq hq e=>?_⟩;obtain ⟨r2,hr2,rfl⟩:=zVx.mp hq;obtain ⟨g2,hg2,rfl⟩:=zVx.mp hr2;have e:tkD (tI g2)=tkD (tI g):=e;rw[zDt,zDt]at e;rw[zGi (zWg e)]
theorem zLL {zA:Ya} {l:Nat}:(zY zA l One).Nodup:=by
 unfold zY;refine List.Pairwise.filter _ (zEg ?_);unfold zG;exact List.Pairwise.map _ (λa b h e=>h (by omega)) List.nodup_range
theorem zHi {F:Ya} {l:Nat} (hR:F.length<=26):(zY F l One).length<=676:=zV7 (by unfold zY;exact zX0 _ _) (zA1 hR)
abbrev szT (zA:Ya) (l:Nat):List (List Int × D):=zGb (zY zA l One) λg=>(zA8 zA l One g:Nat)
theorem zLy {n:Nat} {ts:Ya} {f:List Int->Int}:MO.und n (dT (zGb ts f))=true:=by
 show ((zEM (zGb ts f)).all λp=>D.und n p.1&&D.und n p.2)=true;rw[zWH];intro p hp;obtain ⟨r,hr,rfl⟩:=zVx.mp hp;obtain ⟨g,hg,rfl⟩:=zVx.mp hr;simp[tI,zr,D.und,zk]
theorem zJk {zA:Ya} {l:Nat} (m:IsM zA l) (hR:zA.length<=26) (hl:l<=12) {M:Mem}:zAt [mD zA] M=some (.ref M.length,M++[dT (szT zA l)]):=by
 have hf:=zHi (l:=l) hR;suffices h:Ok (zAt [mD zA] M) λd M'=>d=.ref M.length/\M'=M++[dT (szT zA l)] by
  obtain ⟨d,M',e,rfl,rfl⟩:=h;exact e
 unfold zAt;rw[zx];unfold zDu;show OkS (zW _ _ [some (mD zA),none,none,none,none] M) _;rw[zK,zU];refine zE (M:=M++[dT []]) (a:=.dat (.ref M.length)) rfl ?_;rw[zI,zN,zK,zBU];refine ⟨_,_,_,zCj (x:=.dat (.tup ((zY zA l One).map (zCo zA l)))) (zX (za (d:=mD zA) rfl) (zID m hR hl)) zp,?_⟩;have nd:=zLL (zA:=zA) (l:=l);unfold szT;generalize zY zA l One=ts at hf nd;refine zAv (I:=λr σ M'=>∃ (x2 x3 x4:Option D) (us vs:Ya),σ=[some (mD zA),some (.ref M.length),x2,x3,x4]/\M'=M++[dT (zGb us λg=>(zA8 zA l One g:Nat))]/\ts=us++vs/\r=vs.map (zCo zA l)) ?_ ?_ _ _ _ ⟨none,none,none,[],ts,rfl,rfl,rfl,rfl⟩
 .rintro x r σ M' ⟨x2,x3,x4,us,vs,rfl,rfl,huv,hr⟩;cases vs with
  |nil=>cases hr
  |cons g vs=>
   rw[zVz]at hr;obtain ⟨rfl,rfl⟩:=zWk hr;refine ⟨zAJ,[some (mD zA),some (.ref M.length),some (tI g),some (.int (zA8 zA l One g:Nat)),some (.int (zJc zA l One g))],rfl,?_⟩;have hul:us.length<676:=by have:=congrArg List.length huv;simp at this;omega
   have hgu:g∉us:=λz=>by
    rw[huv,zWu]at nd;exact nd.2.2 g z g zVu rfl
   refine zQA (n:=M.length) (k:=tI g) (v:=.int (zA8 zA l One g:Nat)) rfl rfl rfl (zHb (zAX _ _) (by unfold zGb;rw[zVp];omega)) ?_;refine ⟨_,_,_,us++[g],vs,rfl,?_,by rw[huv];simp,rfl⟩;rw[List.set_append_right _ _ (zVm _),Nat.sub_self,List.set_cons_zero];congr 2;unfold zCT;rw[zFC,zVy hgu];unfold zGb;rw[zWY];rfl
 .rintro σ M' ⟨x2,x3,x4,us,vs,rfl,rfl,huv,hr⟩;have:vs=[]:=by cases vs with|nil=>rfl|cons _ _=>cases hr
  subst this;rw[zWQ]at huv;subst huv;refine ⟨zAJ,?_⟩;rw[zN];exact zAu (d:=.ref M.length) rfl ⟨rfl,rfl⟩
structure KnT (T:List (List Int × D)) (R:Ya):Prop where
 at':∀ g,(zF T g).isSome=decide (g∈R)
 len:T.length<=R.length
 val:∀ q∈T,q.2=.bl true
theorem zRM {T:List (List Int × D)} {R:Ya} (h:KnT T R) (g:Ye):KnT (zCT T g (.bl true)) (R++[g]):=by
 refine ⟨λx=>?_,by have:=zGV T g (.bl true);have:=h.len;simp;omega,λq hq=>?_⟩
 .rw[zCs];by_cases e:g=x
  .subst e;simp
  .rw[zVy e,h.at'];have:¬ x=g:=λz=>e z.symm;simp[this]
 .unfold zCT at hq;split at hq
  .obtain ⟨r,hr,rfl⟩:=zVx.mp hq;split
   .rfl
   .exact h.val r hr
  .rcases zV6.mp hq with z|z
   .exact h.val q z
   .rw[zV8]at z;subst z;rfl
theorem zHa {A:Mem}:∀ (r q:Ya) (T:List (List Int × D)),KnT T q->(q++r).length<=80000 -> ∃ T',KnT T' (q++r)/\L3.zFG A.length (r.map λg=>D.tup [tI g,.bl true]) (A++[dT T])=some (A++[dT T'])
 |[],q,T,h,_=>⟨T,by rw[zWQ];exact h,rfl⟩
 |g::r,q,T,h,hz=>by
  have hl:T.length<90000:=by have:=h.len;simp at hz;omega
  obtain ⟨T',h',e⟩:=zHa (A:=A) r (q++[g]) (zCT T g (.bl true)) (zRM h g) (by simpa using hz);refine ⟨T',by simpa using h',?_⟩;rw[zVz];unfold L3.zFG;rw[zHb (T:=T) (zAX _ _) hl];dsimp only;rw[List.set_append_right _ _ (zVm _),Nat.sub_self,List.set_cons_zero];exact e
theorem zRv {n:Nat} {T:List (List Int × D)} (h:∀ q∈T,q.2=.bl true):MO.und n (dT T)=true:=by
 show ((zEM T).all λp=>D.und n p.1&&D.und n p.2)=true;rw[zWH];intro p hp;obtain ⟨r,hr,rfl⟩:=zVx.mp hp;rw[h r hr];simp[tI,zr,D.und,zk]
theorem zNJ (ts:Ya) {M:Mem}:kTr true 1 (.dat (.tup (ts.map tI))) (.dat (.tup (ts.map tI))) M=some (.dat (.bl false),M):=by
 have ht:(ts.map tI).all (zAV 1)=true:=by
  rw[zWH];intro x hx;obtain ⟨p,_,rfl⟩:=zVx.mp hx;show (p.map D.int).all (zAV 0)=true;rw[zWH];intro y hy;obtain ⟨i,_,rfl⟩:=zVx.mp hy;rfl
 have e:zBJ 2 (.tup (ts.map tI)) (.tup (ts.map tI))=true:=zFO 2 _ (by unfold zAV;exact ht);unfold kTr;show (if ((ts.map tI).all (zAV 1)&&(ts.map tI).all (zAV 1))=true then some (EV.dat (.bl (nb true (zBJ 2 (.tup (ts.map tI)) (.tup (ts.map tI))))),M) else none)=_;rw[ht,e];rfl
theorem zS3 {f g h:FE} {σ:Sd} {M:Mem} {n:Nat} {T:List (List Int × D)} {k:Ye} {c:D} (hf:f σ M=some (.dat (.ref n),M)) (hn:M[n]?=some (dT T)) (hg:g σ M=some (.dat (tI k),M)) (hh:h σ M=some (.dat c,M)):zAx f g h σ M=some (.dat ((zF T k).getD c),M):=by
 unfold zAx;rw[zH0 hf];dsimp only;rw[hn];dsimp only;rw[zH0 hg];dsimp only;rw[zH0 hh];dsimp only;rw[dgT hn]
abbrev wS (l:Nat) (zA:Ya) (x4 x5 x6:Option D) (R2:Ya) (x8:Option D) (ls:Ye) (F:Ya) (x11 x12 x13 x14 x15 x16 x17 x18 x19:Option D):Sd:=[some (.ref 0),some (.ref 2),some (.int (l:Int)),some (mD zA),x4,x5,x6,some (mD R2),x8,some (tI ls),some (mD F),x11,x12,x13,x14,x15,x16,x17,x18,x19]
theorem zO4 {zA:Ya} {l:Nat} (m:IsM zA l) {ls:Ye} (hg:∀ g∈ls,0<=g/\g<(l:Int)) {M:Mem} {j8:Nat} (h8:M[j8]?=some (dT (szT zA l))) {R2:Ya} {x4 x5 x6 x11 x12 x14 x15 x16 x17 x18 x19:Option D} :
  OkS (zCl (zAK (zC 13)) (zOi 12 14 15) (sIf (tst (fOp kGt (zAx (zC 8) (zC 12) (fOp zAT (zC 14) (fC (.int 1)))) (zC 14))) (zAR (fC (.bl false))) zBs) (wS l zA x4 x5 x6 R2 (some (.ref j8)) ls (zT zA ls) x11 x12 (some (.tup ((zY (zT zA ls) ls.length One).map (zCo (zT zA ls) ls.length)))) x14 x15 x16 x17 x18 x19) M)
   λo σ' M'=>o=.nx/\M'=M /\ ∃ x12 x14 x15,σ'=wS l zA x4 x5 x6 R2 (some (.ref j8)) ls (zT zA ls) x11 x12 (some (.tup ((zY (zT zA ls) ls.length One).map (zCo (zT zA ls) ls.length)))) x14 x15 x16 x17 x18 x19:=by
 rw[zBU];refine ⟨_,_,_,zCj (x:=.dat (.tup ((zY (zT zA ls) ls.length One).map (zCo (zT zA ls) ls.length)))) rfl zp,?_⟩;refine zAv (I:=λr σ M'=>M'=M /\ ∃ (x12 x14 x15:Option D) (vs:Ya),σ=wS l zA x4 x5 x6 R2 (some (.ref j8)) ls (zT zA ls) x11 x12 (some (.tup ((zY (zT zA ls) ls.length One).map (zCo (zT zA ls) ls.length)))) x14 x15 x16 x17 x18 x19/\r=vs.map (zCo (zT zA ls) ls.length) /\ ∀ q∈vs,q∈zY (zT zA ls) ls.length One) ?_ ?_ _ _ _ ⟨rfl,_,_,_,zY (zT zA ls) ls.length One,rfl,rfl,λ_ h=>h⟩
 .rintro x r σ M' ⟨rfl,x12,x14,x15,vs,rfl,hr,hv⟩;cases vs with
  |nil=>cases hr
  |cons g vs=>
   rw[zVz]at hr;obtain ⟨rfl,rfl⟩:=zWk hr;obtain ⟨h1,h2⟩:=zGO m hg (hv g (by simp));generalize (zY (zT zA ls) ls.length One).map (zCo (zT zA ls) ls.length)=TT;refine ⟨zAJ,wS l zA x4 x5 x6 R2 (some (.ref j8)) ls (zT zA ls) x11 (some (tI g)) (some (.tup TT)) (some (.int (zA8 (zT zA ls) ls.length One g:Nat))) (some (.int (zJc (zT zA ls) ls.length One g))) x16 x17 x18 x19,rfl,?_⟩;refine zJL (zAf (zO (x:=.dat (.int (zA8 zA l One g:Nat))) (y:=.dat (.int (zA8 (zT zA ls) ls.length One g:Nat))) ((zS3 (n:=j8) (k:=g) (c:=.int ((zA8 (zT zA ls) ls.length One g:Nat)+1)) rfl h8 rfl (zO (x:=.dat (.int (zA8 (zT zA ls) ls.length One g:Nat))) (y:=.dat (.int 1)) rfl rfl rfl)).trans (by rw[zFC,zVv h1];rfl)) rfl (zZ (zVU.mpr ⟨by rw[zWF (by omega)],rfl⟩)))) ⟨rfl,_,_,_,vs,rfl,rfl,λq hq=>hv q (by simp[hq])⟩
 .rintro σ M' ⟨rfl,x12,x14,x15,vs,rfl,hr,hv⟩;exact ⟨zAJ,rfl,rfl,_,_,_,rfl⟩
theorem zNZ {zA:Ya} {l:Nat} (m:IsM zA l) (hR:zA.length<=26) {ls:Ye} (h0:0<ls.length) (hz:ls.length<=12) (hg:∀ g∈ls,0<=g/\g<(l:Int)) {M:Mem} (g:Gen M 2 1) {R2:Ya} {x4 x5 x6 x8 x11 x12 x14 x15 x16 x17 x18 x19:Option D} :
  OkS (zCl (zAC (zD (toD (fB zFd (zQ (fC (.int 3)) (zQ (fB zBb (zQ (zC 13) zf)) zf)))) zH)) (gN 16) (zW (zM1 (zFY 17 18) (fOp kIx (fOp kIx (zC 13) (zL zR (zD (toD (zC 1)) (zD (toD (fB zBb (zQ (zC 13) zf))) zH)))) (fC (.int 0))))
  (zW (zj 19 (fB zAQ (zQ (zq [15] (zAK (zL zBH (zD (toD (zC 10)) (zD (toD (zC 17)) (zD (toD (zC 18)) zH))))) (gN 15) zh (fOp kIx (zC 9) (zC 15))) zf)))
  (sIf (tst (fOp kNe (zL zFU (zD (toD (zC 3)) (zD (toD (zC 17)) (zD (toD (zC 19)) zH)))) (zL zFU (zD (toD (zC 3)) (zD (toD (zC 18)) (zD (toD (zC 19)) zH)))))) (zAR (fC (.bl false))) zBs))) (wS l zA x4 x5 x6 R2 x8 ls (zT zA ls) x11 x12 (some (.tup ((zY (zT zA ls) ls.length One).map (zCo (zT zA ls) ls.length)))) x14 x15 x16 x17 x18 x19) M)
   λo σ' M'=>o=.nx:=by
 have m2:=zIG m h0 hg;have hR2:(zT zA ls).length<=26:=by rw[zCu];exact hR
 have hf:=zHi (l:=ls.length) hR2;have eL:∀ {σ:Sd} {M:Mem},zC 13 σ M=some (.dat (.tup ((zY (zT zA ls) ls.length One).map (zCo (zT zA ls) ls.length))),M)->fB zBb (zQ (zC 13) zf) σ M=some (.dat (.int ((zY (zT zA ls) ls.length One).length:Int)),M):=λh=>by
  have:=zIv h zp;rw[zVp]at this;exact this
 rw[zBU];have emin:fB zFd (zQ (fC (.int 3)) (zQ (fB zBb (zQ (zC 13) zf)) zf)) (wS l zA x4 x5 x6 R2 x8 ls (zT zA ls) x11 x12 (some (.tup ((zY (zT zA ls) ls.length One).map (zCo (zT zA ls) ls.length)))) x14 x15 x16 x17 x18 x19) M=some (.dat (.int (if ((zY (zT zA ls) ls.length One).length:Int)<3 then ((zY (zT zA ls) ls.length One).length:Int) else 3)),M):=zLu rfl (eL rfl);refine ⟨_,_,_,zCJ emin (by split <;> omega) (by split <;> omega),?_⟩;refine zKj (n:=(if ((zY (zT zA ls) ls.length One).length:Int)<3 then ((zY (zT zA ls) ls.length One).length:Int) else 3).toNat) (I:=λi σ M'=>Gen M' 2 1 /\ ∃ x15 x16 x17 x18 x19,σ=wS l zA x4 x5 x6 R2 x8 ls (zT zA ls) x11 x12 (some (.tup ((zY (zT zA ls) ls.length One).map (zCo (zT zA ls) ls.length)))) x14 x15 x16 x17 x18 x19) ?_ ?_ _ _ ⟨g,_,_,_,_,_,rfl⟩
 .rintro i σ M' hi ⟨g',x15,x16,x17,x18,x19,rfl⟩;have h0':0<(zY (zT zA ls) ls.length One).length:=by
   rcases Nat.eq_zero_or_pos (zY (zT zA ls) ls.length One).length with z|z
   .rw[z]at hi;simp at hi
   .exact z
  refine ⟨wS l zA x4 x5 x6 R2 x8 ls (zT zA ls) x11 x12 (some (.tup ((zY (zT zA ls) ls.length One).map (zCo (zT zA ls) ls.length)))) x14 x15 (some (.int (i:Nat))) x17 x18 x19,rfl,?_⟩;rw[zK,zQw];refine zAE.mpr (zAE.mpr (zo.mpr ⟨_,rfl,?_⟩));refine zv g' rfl (eL rfl) (by omega) (by omega) λz M2 z0 z1 nx=>?_;have hz':z.toNat<(zY (zT zA ls) ls.length One).length:=by omega
  have hgm:=zWE hz';refine zK0 (d:=zCo (zT zA ls) ls.length ((zY (zT zA ls) ls.length One)[z.toNat])) zp (zLk z0 (by rw[zV3,zVk hz'];rfl)) ?_;generalize (zY (zT zA ls) ls.length One)[z.toNat]=q at hgm;refine zB1.mpr (zK0 (d:=tI q) zp at0 ?_);rw[zI];obtain ⟨hpp,n,hn⟩:=zAF.mp hgm;rw[zAr]at hpp;obtain ⟨a,b,rfl,ha,hb,hlt⟩:=zw.mp hpp;have ha:=zAP.mp ha;have hb:=zAP.mp hb;obtain ⟨w,cw⟩:=zB2 (n+1) hn;obtain ⟨hw,hone⟩:=zAj cw;have hwl:w.length<=676:=by
   rw[zFA cw hn];have:=zV7 (zJI m2 zD3 (zBn _ (by rw[zAr];exact hpp)) hn) (zA1 hR2);omega
  have hpr:zAh a b=[a,b]:=by unfold zAh;rw[zVy (by omega),zVv (by omega)]
  rw[<-hpr,zIZ (by omega),zFm m hg w ha.1 ha.2 hw,zFm m hg w hb.1 hb.2 hw]at hone;have et:=zJ1 m2 hR2 hz ha.1 (by rw[zCu];exact ha.2) hb.1 (by rw[zCu];exact hb.2) (by omega) (M:=M2);rw[hpr,zHq cw]at et;generalize (zY (zT zA ls) ls.length One).map (zCo (zT zA ls) ls.length)=TT;refine ⟨wS l zA x4 x5 x6 R2 x8 ls (zT zA ls) x11 x12 (some (.tup TT)) x14 x15 (some (.int (i:Nat))) (some (.int a)) (some (.int b)) x19,rfl,?_⟩;rw[zN];have ec:=zBA (own:=[15]) (g:=gN 15) (te:=fOp kIx (zC 9) (zC 15)) (fi:=zAK (zL zBH (zD (toD (zC 10)) (zD (toD (zC 17)) (zD (toD (zC 18)) zH))))) (σ:=wS l zA x4 x5 x6 R2 x8 ls (zT zA ls) x11 x12 (some (.tup TT)) x14 x15 (some (.int (i:Nat))) (some (.int a)) (some (.int b)) x19) (M:=M2) w D.int (λx=>D.int (ls.getD x.toNat 0)) (zCX (zX (zg (d:=mD (zT zA ls)) rfl (zg (d:=.int a) rfl (za (d:=.int b) rfl))) et)) trivial (by omega) λx hx=>⟨wS l zA x4 x5 x6 R2 x8 ls (zT zA ls) x11 x12 (some (.tup TT)) x14 (some (.int x)) (some (.int (i:Nat))) (some (.int a)) (some (.int b)) x19,rfl,zO (x:=.dat (tI ls)) (y:=.dat (.int x)) rfl rfl (zCQ zp (zGF (hw x hx).1 (hw x hx).2))⟩;rw[show w.map (λx=>D.int (ls.getD x.toNat 0))=(asW ls w).map D.int by unfold asW;rw[zV4];rfl]at ec;refine zAs (d:=tI (asW ls w)) (zBV ec zBw) ?_;simp only[List.set_cons_succ,List.set_cons_zero];have hw':=zJK hg hw;refine zJL (zAf (zO (x:=.dat (.int (zDG zA a (asW ls w)))) (y:=.dat (.int (zDG zA b (asW ls w)))) (zX (zg (d:=mD zA) rfl (zg (d:=.int a) rfl (za (d:=tI (asW ls w)) rfl))) (zOB m ha.1 ha.2 hw')) (zX (zg (d:=mD zA) rfl (zg (d:=.int b) rfl (za (d:=tI (asW ls w)) rfl))) (zOB m hb.1 hb.2 hw')) (by rw[hone];exact zZ (zUc.mpr ⟨by simp,rfl⟩)))) ⟨nx.gen,_,_,_,_,_,rfl⟩
 .rintro σ M' ⟨g',x15,x16,x17,x18,x19,rfl⟩;rfl
theorem zRj {M:Mem} (g:Gen M 2 1) {l:Nat} (l0:0<l) (l6:l<=6) {j:Nat} {c:Ye} (hj:M[j]?=some (.lst (c.map D.int))) (cl:c.length=l) (hc:∀ x∈c,0<=x/\x<(l:Int)) (hj2:j≠2) (hj1:j≠1) {x0 x3 x5 x6 x7 x8 x9 x10 x11 x12 x13 x14 x15 x16 x17 x18 x19:Option D} :
  Ok (fB zAQ (zQ (fOp zFc (zC 4) (zq [6] (zAC (zD (toD (zL zR (zD (toD (zC 1)) (zD (toD (fOp zHA (fC (.int 7)) (zC 2))) zH)))) zH)) (gN 6) zh (zL zR (zD (toD (zC 1)) (zD (toD (zC 2)) zH))))) zf) [x0,some (.ref 2),some (.int (l:Int)),x3,some (.ref j),x5,x6,x7,x8,x9,x10,x11,x12,x13,x14,x15,x16,x17,x18,x19] M)
   λx M'=>∃ cx:List Int,x=.dat (tI (c++cx))/\(∀ y∈cx,0<=y/\y<(l:Int))/\(c++cx).length<=6/\Nx M M' 2 1:=by
 have hq:Ok (zL zR (zD (toD (zC 1)) (zD (toD (fOp zHA (fC (.int 7)) (zC 2))) zH)) [x0,some (.ref 2),some (.int (l:Int)),x3,some (.ref j),x5,x6,x7,x8,x9,x10,x11,x12,x13,x14,x15,x16,x17,x18,x19] M) λx M1=>∃ q:Int,x=.dat (.int q)/\0<=q/\q<7-(l:Int)/\Nx M M1 2 1 :=
  zv g rfl (zO rfl rfl rfl) (by omega) (by omega) λz M1 z0 z1 nx1=>⟨z,rfl,z0,z1,nx1⟩
 obtain ⟨x,M1,e,q,rfl,q0,q1,nx1⟩:=hq;have er:=zGt (zOQ e) q0 (by omega);rw[zEx]at er;refine zKz.mpr (zCR.mpr (zAE.mpr (zo.mpr ⟨_,rfl,zDw.mpr ⟨_,_,_,er,by rw[zBl];exact zn (by omega),?_⟩⟩)));refine Ok.mono (zK5 (n:=q.toNat) (I:=λk acc M2=>(∃ ds:List Int,acc=ds.map D.int/\ds.length=k /\ ∀ y∈ds,0<=y/\y<(l:Int))/\Nx M M2 2 1) ?_ ⟨⟨[],rfl,rfl,λ_ h=>by cases h⟩,nx1⟩) ?_
 .rintro k acc M2 hk ⟨⟨ds,rfl,hdl,hd⟩,nx⟩;refine ⟨_,rfl,?_⟩;refine zv nx.gen rfl rfl (by omega) (by omega) λz M3 z0 z1 nx3=>?_;rw[zI];refine ⟨⟨ds++[z],by simp,by simp[hdl],λp hp=>?_⟩,nx.trans nx3⟩;rcases zV6.mp hp with w|w
  .exact hd p w
  .rw[zV8]at w;subst w;exact ⟨z0,z1⟩
 .rintro ys M2 ⟨⟨ds,rfl,hdl,hd⟩,nx⟩;have ej:M2[j]?=some (.lst (c.map D.int)):=(nx.fr j hj2 hj1).trans hj;refine zOr (xs:=c.map D.int) (ys:=ds.map D.int) (by unfold zKB;dsimp only;rw[ej]) rfl (by simp;omega) ?_;rw[<-zWY];exact zDJ.mpr ((zEz zBw).mpr ⟨ds,rfl,hd,by simp;omega,nx⟩)
theorem zQR {M:Mem} (g:Gen M 2 1) {l:Nat} (l0:0<l) (l6:l<=6) {j:Nat} {c:Ye} (hj:M[j]?=some (.lst (c.map D.int))) (cl:c.length=l) (hj2:j≠2) (hj1:j≠1) {x0 x3 x5 x6 x7 x8 x9 x10 x11 x12 x13 x14 x15 x16 x17 x18 x19:Option D} :
  Ok (fB zAQ (zQ (fSl (zC 4) zD7 (zDf (fOp zAT (fC (.int 1)) (zL zR (zD (toD (zC 1)) (zD (toD (zC 2)) zH)))))) zf) [x0,some (.ref 2),some (.int (l:Int)),x3,some (.ref j),x5,x6,x7,x8,x9,x10,x11,x12,x13,x14,x15,x16,x17,x18,x19] M)
   λx M'=>∃ k:Nat,x=.dat (tI (c.take k))/\1<=k/\k<=l/\Nx M M' 2 1:=by
 have hq:Ok (fOp zAT (fC (.int 1)) (zL zR (zD (toD (zC 1)) (zD (toD (zC 2)) zH))) [x0,some (.ref 2),some (.int (l:Int)),x3,some (.ref j),x5,x6,x7,x8,x9,x10,x11,x12,x13,x14,x15,x16,x17,x18,x19] M) λx M1=>∃ q:Int,x=.dat (.int q)/\1<=q/\q<=(l:Int)/\Nx M M1 2 1:=by
  refine zAE.mpr (zE (M:=M) (a:=.dat (.int 1)) rfl ?_);refine zv g rfl rfl (by omega) (by omega) λz M1 z0 z1 nx1=>?_;exact zDK.mpr ⟨1+z,rfl,by omega,by omega,nx1⟩
 obtain ⟨x,M1,e,q,rfl,q0,q1,nx1⟩:=hq;have ej:M1[j]?=some (.lst (c.map D.int)):=(nx1.fr j hj2 hj1).trans hj;have es:fSl (zC 4) zD7 (zDf (fOp zAT (fC (.int 1)) (zL zR (zD (toD (zC 1)) (zD (toD (zC 2)) zH))))) [x0,some (.ref 2),some (.int (l:Int)),x3,some (.ref j),x5,x6,x7,x8,x9,x10,x11,x12,x13,x14,x15,x16,x17,x18,x19] M=some (.fl (L3.zFL (c.map D.int) none (some q)),M1):=by
  unfold fSl;rw[show zC 4 [x0,some (.ref 2),some (.int (l:Int)),x3,some (.ref j),x5,x6,x7,x8,x9,x10,x11,x12,x13,x14,x15,x16,x17,x18,x19] M=some (.dat (.ref j),M)from rfl];dsimp only;rw[show zD7 [x0,some (.ref 2),some (.int (l:Int)),x3,some (.ref j),x5,x6,x7,x8,x9,x10,x11,x12,x13,x14,x15,x16,x17,x18,x19] M=some (none,M)from rfl];dsimp only;unfold zDf;rw[e];dsimp only;exact zZ ((zPD (zBj ej) rfl).mpr ⟨rfl,rfl⟩)
 obtain ⟨k,hk⟩:∃ k:Nat,q=(k:Int):=⟨q.toNat,by omega⟩;subst hk;have ec:L3.zFL (c.map D.int) none (some (k:Int))=(c.take k).map D.int:=by
  have s:HT.sIx (c.map D.int).length (c.map D.int).length (some (k:Int))=k:=by rw[HT.zRF,zVp];omega
  have z:HT.sIx (c.map D.int).length 0 none=0:=rfl;unfold L3.zFL;rw[s,z,List.map_take];simp
 rw[ec]at es;refine zKz.mpr (zCR.mpr (zE es (zDJ.mpr ((zEz zBw).mpr ⟨k,rfl,by omega,by omega,nx1⟩))))
theorem zLB {F:Ya} {lf:Nat} (fm:IsM F lf) (hR:F.length<=26) (hl:lf<=12) {σ:Sd} {A:Mem} (hσ:∀ A,zC 10 σ A=some (.dat (mD F),A)) (h12:∀ (d:D) A,zC 12 ((zA7 [12] σ).set 12 (some d)) A=some (.dat d,A)) :
  ∃ T,KnT T (zAw F lf)/\fB (zD4 true) (zQ (zq [12] (zAK (zL zBP (zD (toD (zC 10)) zH))) (gN 12) zh (zB7 (zD (toD (zC 12)) (zD (toD (fC (.bl true))) zH)))) zf) σ A=some (.dat (.ref A.length),A++[dT T]):=by
 have hlen:(zAw F lf).length<=676:=zV7 (by unfold zAw;exact zX0 _ _) (zA1 hR);have ec:=zBA (own:=[12]) (g:=gN 12) (te:=zB7 (zD (toD (zC 12)) (zD (toD (fC (.bl true))) zH))) (fi:=zAK (zL zBP (zD (toD (zC 10)) zH))) (σ:=σ) (M:=A) (zAw F lf) tI (λg=>D.tup [tI g,.bl true]) (zCX (zX (za (d:=mD F) (hσ A)) (zEc fm hR hl))) trivial (by omega) λg _=>⟨_,rfl,zI1 (zg (d:=tI g) (h12 _ _) (za (d:=.bl true) rfl)) (by simp)⟩;obtain ⟨T,kn,eT⟩:=zHa (A:=A) (zAw F lf) [] [] ⟨λg=>by simp[zF],by simp,λ_ h=>by cases h⟩ (by simp;omega);rw[List.nil_append]at kn;refine ⟨T,kn,?_⟩;unfold fB zQ zf;rw[ec];dsimp only;unfold zD4;dsimp only;rw[show zES true=dT []from rfl,eT]
set_option maxHeartbeats 4000000 in
theorem zN7 (ns:Ye) (h:ns.length<=63):∃ M',zFX [.ref 0] [.fro (ns.map D.int)]=some (.bl true,M'):=by
 suffices hh:Ok (zFX [.ref 0] [.fro (ns.map D.int)]) λd _=>d=.bl true by
  obtain ⟨d,M',e,rfl⟩:=hh;exact ⟨M',e⟩
 unfold zFX;rw[zx];unfold zP1;show OkS (zW _ _ [some (.ref 0),none,none,none,none,none,none,none,none,none,none,none,none,none,none,none,none,none,none,none] _) _;rw[zK,zU];refine zCW.mpr (zE (za rfl) ?_);refine Ok.mono (zP2 h) ?_;rintro d M1 ⟨rfl,g1,_,ml⟩;rw[zI,zN,zK,zU];simp only[List.set_cons_succ,List.set_cons_zero];refine zAE.mpr (zB1.mpr (zv g1 rfl rfl (by omega) (by omega) λz M2 z0 z1 nx2=>zDK.mpr ?_));obtain ⟨l,hl⟩:∃ l:Nat,1+z=(l:Int):=⟨(1+z).toNat,by omega⟩;rw[hl,zI,zN,zK,zU];simp only[List.set_cons_succ,List.set_cons_zero];have l0:0<l:=by omega
 have l6:l<=6:=by omega
 refine zCW.mpr (zAn.mpr (zAi.mpr (zE (M:=M2) (a:=.dat (.ref 2)) rfl ?_)));rw[zI,zAn,zAi];refine zAE.mpr (zB1.mpr (zv nx2.gen rfl rfl (by omega) (by omega) λy M3 y0 y1 nx3=>zDK.mpr ?_));rw[zI];refine zE (za (d:=.int (l:Int)) rfl) ?_;refine Ok.mono (zLV nx3.gen (by omega) (by omega) (by omega) (by omega)) ?_;rintro d M4 ⟨⟨zA,l',rfl,m,hr,hl'⟩,nw4⟩;have:l'=l:=by omega
 subst this;have hR:zA.length<=26:=by omega
 have hl12:l'<=12:=by omega
 have len4:3<=M4.length:=by have:=nw4.len;have:=nx3.len;have:=nx2.len;omega
 rw[zI,zN,zK,zU];simp only[List.set_cons_succ,List.set_cons_zero];refine zCW.mpr (zE (zg (d:=.ref 2) rfl (za (d:=.int (l':Int)) rfl)) (Ok.mono (zJq nw4.gen (by omega) (by omega)) ?_));rintro d M5 ⟨j,c,rfl,ej,cc,hj,nw5,pm⟩;have hcl:c.length=l':=by have:=cc.1;omega
 have hc:∀ x∈c,0<=x/\x<(l':Int):=cc.2;have hall:=zN3 pm;have hj1:j≠1:=by omega
 have hj2:j≠2:=by omega
 rw[zI,zN,zK,zU];simp only[List.set_cons_succ,List.set_cons_zero];refine Ok.mono (zRj nw5.gen l0 l6 ej hcl hc hj2 hj1) ?_;rintro x M6 ⟨cx,rfl,hcx,hml,nx6⟩;have hm:∀ g∈c++cx,0<=g/\g<(l':Int):=λg hg=>(zV6.mp hg).elim (hc g) (hcx g);have hmall:∀ x:Int,0<=x->x<(l':Int)->x∈c++cx:=λx x0 x1=>zWv _ (hall x x0 x1);have hm0:0<(c++cx).length:=by rw[zVw];omega
 have ej6:=(nx6.fr j hj2 hj1).trans ej;rw[zI,zN];generalize c++cx=L at hml hm hmall hm0;have m2:=zIG m hm0 hm;have hR2:(zT zA L).length<=26:=by rw[zCu];exact hR
 refine zAs (zX (zg (d:=mD zA) rfl (za (d:=tI L) rfl)) (zOX m (by omega) (by omega) hm)) ?_;simp only[List.set_cons_succ,List.set_cons_zero];rw[zK,zU];refine zE (zX (za (d:=mD zA) rfl) (zJk m hR hl12)) ?_;rw[zI,zN,zK,zBe];simp only[List.set_cons_succ,List.set_cons_zero];have g7:Gen (M6++[dT (szT zA l')]) 2 1:=nx6.gen.app λu hu=>by
  rw[zV8]at hu;subst hu;exact zLy
 have h8:(M6++[dT (szT zA l')])[M6.length]?=some (dT (szT zA l')):=zAX _ _;have ej7:(M6++[dT (szT zA l')])[j]?=some (.lst (c.map D.int)):=by rw[zVn (zVj.mp ej6).1];exact ej6
 have l6':M6.length<(M6++[dT (szT zA l')]).length:=by simp
 have h62:2<M6.length:=nx6.gen.lt.1;generalize M6++[dT (szT zA l')]=M7 at g7 h8 ej7 l6';generalize M6.length=j8 at h8 l6' h62;have esz:szT (zT zA L) L.length=szT zA l':=by
  unfold szT;rw[zKb m hm hmall];unfold zGb;exact List.map_congr_left λg hg=>by dsimp only;rw[zNx m hm hmall hg]
 have g9:Gen (M7++[dT (szT zA l')]) 2 1:=g7.app λu hu=>by
  rw[zV8]at hu;subst hu;exact zLy
 have h8':(M7++[dT (szT zA l')])[j8]?=some (dT (szT zA l')):=by rw[zVn l6'];exact h8
 have ej9:(M7++[dT (szT zA l')])[j]?=some (.lst (c.map D.int)):=by rw[zVn (zVj.mp ej7).1];exact ej7
 have e1:=zJk m2 hR2 (by omega) (M:=M7);rw[esz]at e1;have ene:zNO (.dat (.ref M7.length)) (.dat (.ref j8)) (M7++[dT (szT zA l')])=some (.dat (.bl false),M7++[dT (szT zA l')]):=by
  unfold zNO;dsimp only;rw[zAX,h8'];dsimp only;rw[zVv (zRS _ _)]
 refine zSH.mpr (zIL.mpr (zAE.mpr (zE (zX (za (d:=mD (zT zA L)) rfl) e1) (zo.mpr ⟨_,rfl,zE ene ?_⟩))));rw[zI4,zVy (by decide)];generalize M7++[dT (szT zA l')]=M9 at g9 h8' ej9;have ea2:=zEc m2 hR2 (by omega) (M:=M9);rw[zNK m hm hmall]at ea2;refine zE (M:=M9) (a:=false) (zAf (zO (zX (za (d:=mD (zT zA L)) rfl) ea2) (zX (za (d:=mD zA) rfl) (zEc m hR hl12)) (zNJ _))) ?_;rw[zVy (by decide),zA2,zN];obtain ⟨w1,s1,q1⟩:=zB4 m _ 0 (zVm _) (zCL m);obtain ⟨w2,s2,q2⟩:=zB4 m2 _ 0 (zVm _) (zCL m2);have lm1:∀ {f:FE} {σ:Sd} {M:Mem},f σ M=some (.dat (mD zA),M)->fOp kIx (zL zAA (zD (toD f) zH)) (fC (.int 0)) σ M=some (.dat (.int (broR zA (zG zA) w1).length),M):=λhf=>zO (y:=.dat (.int 0)) (zX (za (d:=mD zA) hf) (zCn m hR hl12 q1)) rfl (zCQ zp rfl);have lm2:∀ {f:FE} {σ:Sd} {M:Mem},f σ M=some (.dat (mD (zT zA L)),M)->fOp kIx (zL zAA (zD (toD f) zH)) (fC (.int 0)) σ M=some (.dat (.int (broR zA (zG zA) w1).length),M):=λhf=>by
  have:=zO (k:=kIx) (y:=.dat (.int 0)) (g:=fC (.int 0)) (zX (za (d:=mD (zT zA L)) hf) (zCn m2 hR2 (by omega) q2)) rfl (zCQ zp rfl);rw[<-zNm m hm0 hm hmall q1 q2]at this;exact this
 refine zMC (zAf (zO (lm2 rfl) (lm1 rfl) (zZ (zUc.mpr ⟨by simp,rfl⟩)))) ?_;rw[zK,zU];refine Ok.mono (zQR g9 l0 l6 ej9 hcl hj2 hj1) ?_;rintro x M10 ⟨k,rfl,k1,k2,nx10⟩;have hsl:(c.take k).length=k:=by rw[zW4];omega
 have hs:∀ g∈c.take k,0<=g/\g<(l':Int):=λg hg=>hc g (List.mem_of_mem_take hg);have h8a:=(nx10.fr j8 (by omega) (by omega)).trans h8';have hs0:0<(c.take k).length:=by omega
 have hs12:(c.take k).length<=12:=by omega
 rw[zI,zN];simp only[List.set_cons_succ,List.set_cons_zero];generalize c.take k=S at hsl hs hs0 hs12;have m3:=zIG m hs0 hs;have hR3:(zT zA S).length<=26:=by rw[zCu];exact hR
 refine zAs (zX (zg (d:=mD zA) rfl (za (d:=tI S) rfl)) (zOX m (by omega) (by omega) hs)) ?_;simp only[List.set_cons_succ,List.set_cons_zero];rw[zK,zU];obtain ⟨T,kn,eT⟩:=zLB m3 hR3 hs12 (σ:=wS l' zA (some (.ref j)) (some (tI L)) none (zT zA L) (some (.ref j8)) S (zT zA S) none none none none none none none none none) (A:=M10) (λ_=>rfl) (λ_ _=>rfl);refine zE eT ?_;rw[zI,zN];simp only[List.set_cons_succ,List.set_cons_zero];have g11:Gen (M10++[dT T]) 2 1:=nx10.gen.app λu hu=>by
  rw[zV8]at hu;subst hu;exact zRv kn.val
 have h11:=zAX M10 (dT T);have h8b:(M10++[dT T])[j8]?=some (dT (szT zA l')):=by rw[zVn (zVj.mp h8a).1];exact h8a
 generalize M10++[dT T]=M11 at g11 h11 h8b;generalize M10.length=j11 at h11;have hlen:(zAw zA l').length<=676:=zV7 (by unfold zAw;exact zX0 _ _) (zA1 hR);have ec:=zBA (own:=[12]) (g:=gN 12) (te:=fOp (zBD false) (zC 12) (zC 11)) (fi:=zAK (zL zBP (zD (toD (zC 3)) zH))) (σ:=wS l' zA (some (.ref j)) (some (tI L)) none (zT zA L) (some (.ref j8)) S (zT zA S) (some (.ref j11)) none none none none none none none none) (M:=M11) (zAw zA l') tI (λ_=>D.bl true) (zCX (zX (za (d:=mD zA) rfl) (zEc m hR hl12))) trivial (by omega) λg hg=>⟨wS l' zA (some (.ref j)) (some (tI L)) none (zT zA L) (some (.ref j8)) S (zT zA S) (some (.ref j11)) (some (tI g)) none none none none none none none,rfl,zO (x:=.dat (tI g)) (y:=.dat (.ref j11)) rfl rfl ((zJz h11).trans (by rw[kn.at',zWo (zJO m hs hg)];rfl))⟩;rw[show (zAw zA l').map (λ_=>D.bl true)=(List.replicate (zAw zA l').length true).map D.bl by simp[List.map_const']]at ec;obtain ⟨w3,s3,q3⟩:=zB4 m3 _ 0 (zVm _) (zCL m3);have hle:=zEm m hs0 hs q1 q3;refine zMC (zST ((zSM (zSF ec)).trans (by simp)) (zAf (zO (zO (y:=.dat (.int 0)) (zX (za (d:=mD (zT zA S)) rfl) (zCn m3 hR3 hs12 q3)) rfl (zCQ zp rfl)) (lm1 rfl) (zZ (zTu.mpr ⟨by rw[zWF (by omega)],rfl⟩))))) ?_;refine zAs (zX (za (d:=mD (zT zA S)) rfl) (zID m3 hR3 hs12)) ?_;simp only[List.set_cons_succ,List.set_cons_zero];rw[zK];refine OkS.mono (zO4 m hs h8b) ?_;rintro o σ' M12 ⟨rfl,rfl,x12,x14,x15,rfl⟩;rw[zN,zK];refine OkS.mono (zNZ m hR hs0 hs12 hs g11) ?_;rintro o σ' M13 rfl;rw[zN];exact zAu rfl rfl
end Lac
set_option maxHeartbeats 4000000
namespace Lac
open PySem PySem.Spec PyProof.Rows L2 L3 Law
-- the text by places
def top (i:Nat):Stmt:=PySem.Challenge.pw_bringhome_k87_whole_letters_twice_and_le.main.body.getD i (.Pass ⟨0,0,0,0⟩)
abbrev zDg:Stmt:=top 1
abbrev zDF:Stmt:=top 2
abbrev zPC:Stmt:=top 4
abbrev zE4:Stmt:=top 5
abbrev zF5:Stmt:=top 6
abbrev zE6:Stmt:=top 7
abbrev zEB:Stmt:=top 9
abbrev zDl:Stmt:=top 10
abbrev zDE:Stmt:=top 11
abbrev zE1:Stmt:=top 12
abbrev zCG:Stmt:=top 13
abbrev zEL:Stmt:=top 14
abbrev zJB:Stmt:=top 15
abbrev zFE:Stmt:=top 16
abbrev zEP:Stmt:=top 17
abbrev zGM:Stmt:=top 18
abbrev zJE:Stmt:=top 19
abbrev zFD:Stmt:=top 21
abbrev zJH:Stmt:=top 22
abbrev zC7:Stmt:=top 23
abbrev zDb:Stmt:=top 25
abbrev zEJ:Stmt:=top 26
abbrev zDZ:Stmt:=top 27
abbrev zC3:Stmt:=top 28
abbrev zCr:Stmt:=top 29
abbrev zDk:Stmt:=top 30
abbrev zPB:Stmt:=top 31
structure Txt (K:Yb) (mg:Yh) where
  d_all_rooms:Df K mg "all_rooms" zDg ["machine"]
  d_relettered:Df K mg "relettered" zDF ["machine", "letters"]
  d_led:Df K mg "led" zPC ["machine", "room", "word"]
  d_stepped:Df K mg "stepped" zE4 ["machine", "rooms", "letter"]
  d_walked:Df K mg "walked" zF5 ["machine", "rooms", "word"]
  d_brought:Df K mg "brought" zE6 ["machine", "rooms", "word"]
  d_pairs_of:Df K mg "pairs_of" zEB ["rooms"]
  d_ways_back:Df K mg "ways_back" zDl ["machine"]
  d_lengths_to:Df K mg "lengths_to" zDE ["machine", "goals"]
  d_lengths:Df K mg "lengths" zE1 ["machine"]
  d_first_letter:Df K mg "first_letter" zCG ["machine", "pair", "found"]
  d_rungs_to:Df K mg "rungs_to" zEL ["machine", "found"]
  d_rungs:Df K mg "rungs" zJB ["machine"]
  d_climbed:Df K mg "climbed" zFE ["machine", "steps", "pair"]
  d_together:Df K mg "together" zEP ["machine", "one", "other"]
  d_ladder:Df K mg "ladder" zGM ["machine"]
  d_apart:Df K mg "apart" zJE ["machine"]
  d_nearest:Df K mg "nearest" zFD ["ways", "rooms"]
  d_quick:Df K mg "quick" zJH ["machine", "rooms"]
  d_least_many:Df K mg "least_many" zC7 ["machine"]
  d_law_begin:Df K mg "_law_begin" zDb ["_law_script"]
  d_law_next:Df K mg "_law_next" zEJ ["_law_state", "_law_many"]
  d_law_order:Df K mg "_law_order" zDZ ["_law_state", "_law_many"]
  d_law_column:Df K mg "_law_column" zC3 ["_law_state", "_law_family", "_law_rooms", "_law_letter"]
  d_law_machine:Df K mg "_law_machine" zCr ["_law_state", "_law_rooms", "_law_letters"]
  d_law_sizes:Df K mg "_law_sizes" zDk ["_law_machine_here"]
  d_law:Df K mg "law" zPB ["_law_script"]
  z_tuple:mg "tuple" = none
  z_range:mg "range" = none
  z_len:mg "len" = none
  z_sorted:mg "sorted" = none
  z_min:mg "min" = none
  z_enumerate:mg "enumerate" = none
  z_max:mg "max" = none
  z_abs:mg "abs" = none
  z_int:mg "int" = none
  z_dict:mg "dict" = none
  z_all:mg "all" = none
section
variable {P:Ym} {w:Yo} {K:Yb} {mg:Yh} {base:Heap}
theorem zBM {X:Cx} {scope sc:Y0} {own:Yj} {N ps:Yk} (_:FnScope N ps sc) (hk:scope.kind=.function) (hs:X.env.scope=sc) (hN:X.N=N) (h1:zEi sc scope=true) (h2:zFn N scope own=true):CompIn X scope own:=zIA hk hs hN h1 h2
theorem zMX {X:Cx} {scope sc sd:Y0} {own:Yj} {N ps:Yk} (_:FnScope N ps sd) (hk:scope.kind=.function) (hs:X.env.scope=sc) (hN:X.N=N) (h1:zEi sc scope=true) (h2:zFn N scope own=true):CompIn X scope own:=zIA hk hs hN h1 h2
set_option hygiene false in
local macro_rules | `(tactic| decreasing_trivial)=> `(tactic| repeat' first
  |refine zUW (pv _)
  |refine zCh ?_
  |refine zQ6 ?_ ?_ (zi rfl)
  |refine zNP ?_
  |refine zSn
  |refine zQn ?_ ?_
  |refine zPG
  |refine zUE
  |refine zVX (by first|exact zKA T|exact zKu T|exact zKY T|exact zIh T|exact zN0 T|exact zHJ T|exact zOR T|exact zII T|exact zLW T|exact zKh T|exact zLn T|exact zKf T|exact zNE T|exact zHC T|exact zJF T|exact zTQ T|exact zMY T|exact zIV T|exact zFg T|exact zHK T|exact zHD T|exact zJ4 T|exact zPY T|exact zI0 T|exact zGL T|exact zJ0 T) (hr.mono (by omega)) rfl ?_ ?_ (by decide) (zi rfl) (zEp rfl)
  |refine zSW ?_
  |refine zUL sc.nd rfl
  |refine zUo ?_
  |refine zVK ?_ ?_
  |refine zQ8 ?_ ?_ (zi rfl)
  |refine zTR
  |refine zTA ?_
  |refine zTb
  |refine zIe (zBK (by decide)) (zBM sc rfl rfl rfl (by decide +kernel) (by decide +kernel)) rfl ?_ ⟨λ_ _ _ _ _=>?_,λ_ _ _ _ _=>?_,λ_ _ _ _ _=>?_⟩
  |refine zTj ?_ ?_
  |refine zTc
  |refine zVJ ?_ ?_ ?_
  |refine zNj rfl T.z_range ?_ ?_ (zPc rfl)
  |refine zO0 ?_ ?_
  |refine zRq rfl T.z_tuple ?_ (zi rfl) rfl
  |refine zUB ?_
  |refine zUe hr.units0 ?_ ?_
  |refine zU7 ?_
  |refine zU6 rfl T.z_len ?_ (zi rfl) rfl
  |refine zRz zOV PassesOwn.never rfl ?_ ?_ ?_
  |refine zUP ?_ ?_
  |refine zSx ?_
  |refine zSi (zEj hr) ?_ ?_
  |refine zVe
  |refine zS6 ?_
  |refine zRK
  |refine zTU rfl ?_
  |refine zOf ?_ ?_
  |refine zTy ?_ ?_
  |refine zT7 hr.units0 ?_ ?_
  |refine zRG ?_
  |refine zRk _ PassesOwn.never ?_ ?_
  |refine zNh sc.nd rfl (by first|exact Or.inl rfl|exact Or.inr rfl) (by first|exact .inl rfl|exact .inr rfl) rfl (zBK (by decide)) (zBM sc rfl rfl rfl (by decide +kernel) (by decide +kernel)) rfl ?_ ⟨λ_ _ _ _ _=>?_,λ_ _ _ _ _=>?_,λ_ _ _ _ _=>?_⟩
  |refine zTC (zEj hr) ?_ ?_
  |refine zQI
  |refine zRH ?_
  |refine zQb ?_ ?_ ?_
  |refine zUY ?_ ?_
  |refine zTx ?_ ?_
  |refine zQB ?_ ?_ ?_
  |refine zNS (zEj hr) ?_ ?_
  |refine zSU (zEj hr) ?_ ?_ ?_
  |refine zU2
  |refine zQ1 (zEj hr) ?_ ?_ ?_ ⟨rfl,rfl,rfl,rfl⟩
  |refine zTi ?_
  |refine zIe (zBK (by decide)) (zMX sc rfl rfl rfl (by rfl) (by decide +kernel)) rfl ?_ ⟨λ_ _ _ _ _=>?_,λ_ _ _ _ _=>?_,λ_ _ _ _ _=>?_⟩
  |refine zUG ?_ ?_
  |refine zUC ?_ ?_
  |refine zU1 rfl T.z_abs ?_ (zi rfl) rfl
  |refine zT4 ?_
  |refine zQW
  |refine zRa ?_
  |refine zQc ?_ ?_ ?_
  |refine zUU ?_ ?_
  |refine zS8 ?_ ?_
  |refine zU8 hr.units0 ?_ ?_
  |refine zSb rfl T.z_int ?_ (zi rfl) rfl
  |refine zTV rfl rfl T.z_min ?_ (zi rfl) (zEp rfl)
  |refine zRz (zRl (K:=K)) PassesOwn.never rfl ?_ ?_ ?_
  |refine zS7 rfl rfl T.z_tuple rfl T.z_range ?_ (zi rfl) rfl (zi rfl) rfl
  |refine zSm (zBK (by decide)) (zBM sc rfl rfl rfl (by decide +kernel) (by decide +kernel)) rfl ?_ ⟨λ_ _ _ _ _=>?_,λ_ _ _ _ _=>?_,λ_ _ _ _ _=>?_⟩
  |refine zQG rfl rfl T.z_sorted ?_ (zi rfl) rfl
  |refine zQL (by decide) (zBK (by decide)) (zBK (by decide)) (zBM sc rfl rfl rfl (by decide +kernel) (by decide +kernel)) rfl ?_ ⟨λ_ _ _ _ _=>?_,λ_ _ _ _ _=>?_,λ_ _ _ _ _=>?_,λ_ _ _ _ _=>?_,λ_ _ _ _ _=>?_,λ_ _ _ _ _=>?_,λ_ _ _ _ _ _=>rfl⟩
  |refine zUg ?_ ?_
  |refine zUh ?_ ?_
  |refine zQx rfl T.z_enumerate ?_ (zi rfl) rfl
  |refine zIe (zNa (K:=K) (by decide) (by decide)) (zBM sc rfl rfl rfl (by decide +kernel) (by decide +kernel)) rfl ?_ ⟨λ_ _ _ _ _=>?_,λ_ _ _ _ _=>?_,λ_ _ _ _ _=>?_⟩
  |refine zTd rfl rfl T.z_min ?_ (zi rfl) rfl
  |refine zTm rfl (zOn 3 (by decide) hr) rfl T.z_min ?_ (zi rfl) rfl
  |refine zPr ?_ ?_
  |refine zKp sc.nd rfl (by first|exact Or.inl rfl|exact Or.inr rfl) (by first|exact .inl rfl|exact .inr rfl) rfl (zEj hr) (zBK (by decide)) (zBM sc rfl rfl rfl (by decide +kernel) (by decide +kernel)) rfl ?_ ⟨λ_ _ _ _ _=>?_,λ_ _ _ _ _=>?_,λ_ _ _ _ _=>?_⟩ λ_ _ _ _ _=>?_
  |refine zRD (zEj hr) (zBK (by decide)) (zBM sc rfl rfl rfl (by decide +kernel) (by decide +kernel)) rfl ?_ ⟨λ_ _ _ _ _=>?_,λ_ _ _ _ _=>?_,λ_ _ _ _ _=>?_⟩ λ_ _ _ _ _=>?_
  |refine zTJ rfl rfl T.z_max ?_ (zi rfl) (zEp rfl)
  |refine zPk ?_
  |refine zIe (zMQ (K:=K) (by decide) (by decide) (by decide)) (zBM sc rfl rfl rfl (by decide +kernel) (by decide +kernel)) rfl ?_ ⟨λ_ _ _ _ _=>?_,λ_ _ _ _ _=>?_,λ_ _ _ _ _=>?_⟩
  |refine zQN ?_ ?_
  |refine zTa (zEj hr) ?_ ?_
  |refine zQg 1 (zOn 1 (by decide) hr) ?_ ?_
  |refine zOL true (zOn 4 (by decide) hr) rfl rfl T.z_dict ?_ (zi rfl) rfl
  |refine zUR (zEj hr) ?_ ?_
  |refine zTz rfl rfl T.z_all ?_ (zi rfl) rfl
  |refine zSC ?_
  |refine zT8 (zOe (K:=K)) ?_ ?_
  |refine zVL sc.nd rfl ?_
  |refine zUp (zS5 ?_ ?_)
  |refine zUp (zUN ?_ ?_)
  |refine zSc ?_)
abbrev zJ3:List Str:=["machine"]
theorem zIt:FnScope zJ3 ["machine"] (zP zDg):=⟨rfl,rfl,rfl,by decide +kernel,rfl,by decide +kernel,by decide +kernel⟩
theorem zIh (T:Txt K mg):Od P w base 1 T.d_all_rooms zAO:=by
  unfold zAO;have sc:=zIt;exact zy (n:=1) T.d_all_rooms.F sc rfl (λcdv A outer s H E hr=>by
    unfold zDo;decreasing_trivial)
abbrev zIl:List Str:=["machine", "letters", "row", "letter"]
theorem zHH:FnScope zIl ["machine", "letters"] (zP zDF):=⟨rfl,rfl,rfl,by decide +kernel,rfl,by decide +kernel,by decide +kernel⟩
theorem zHC (T:Txt K mg):Od P w base 1 T.d_relettered zA0:=by
  unfold zA0;have sc:=zHH;exact zBk (zy (n:=2) T.d_relettered.F sc rfl (λcdv A outer s H E hr=>by
    unfold zDD;decreasing_trivial))
abbrev zU5:List Str:=["machine", "room", "word", "here", "letter"]
theorem zSg:FnScope zU5 ["machine", "room", "word"] (zP zPC):=⟨rfl,rfl,rfl,by decide +kernel,rfl,by decide +kernel,by decide +kernel⟩
theorem zTQ (T:Txt K mg):Od P w base 1 T.d_led zFU:=by
  unfold zFU;have sc:=zSg;exact zBk (zy (n:=3) T.d_led.F sc rfl (λcdv A outer s H E hr=>by
    unfold zNq;decreasing_trivial))
abbrev zNV:List Str:=["machine", "rooms", "letter", "room"]
theorem zLE:FnScope zNV ["machine", "rooms", "letter"] (zP zE4):=⟨rfl,rfl,rfl,by decide +kernel,rfl,by decide +kernel,by decide +kernel⟩
theorem zKu (T:Txt K mg):Od P w base 1 T.d_stepped zAq:=by
  unfold zAq;have sc:=zLE;exact zBk (zy (n:=3) T.d_stepped.F sc rfl (λcdv A outer s H E hr=>by
    unfold zE3;decreasing_trivial))
abbrev zLA:List Str:=["rooms", "one", "other"]
theorem zKC:FnScope zLA ["rooms"] (zP zEB):=⟨rfl,rfl,rfl,by decide +kernel,rfl,by decide +kernel,by decide +kernel⟩
theorem zKY (T:Txt K mg):Od P w base 1 T.d_pairs_of zAH:=by
  unfold zAH;have sc:=zKC;exact zy (n:=1) T.d_pairs_of.F sc rfl (λcdv A outer s H E hr=>by
    unfold zEG;decreasing_trivial)
abbrev zJx:List Str:=["_law_script", "_law_seed", "_law_cell"]
theorem zIP:FnScope zJx ["_law_script"] (zP zDb):=⟨rfl,rfl,rfl,by decide +kernel,rfl,by decide +kernel,by decide +kernel⟩
theorem zI0 (T:Txt K mg):Od P w base 1 T.d_law_begin zBq:=by
  unfold zBq;have sc:=zIP;exact zy (n:=1) T.d_law_begin.F sc rfl (λcdv A outer s H E hr=>by
    unfold zDV;decreasing_trivial)
abbrev zLN:List Str:=["_law_state", "_law_many", "_law_digit"]
theorem zJe:FnScope zLN ["_law_state", "_law_many"] (zP zEJ):=⟨rfl,rfl,rfl,by decide +kernel,rfl,by decide +kernel,by decide +kernel⟩
theorem zKA (T:Txt K mg):Od P w base 1 T.d_law_next zR:=by
  unfold zR;have sc:=zJe;exact zy (n:=2) T.d_law_next.F sc rfl (λcdv A outer s H E hr=>by
    unfold zET;decreasing_trivial)
abbrev zPQ:List Str:=["machine", "rooms", "word", "sets", "letter"]
theorem zNd:FnScope zPQ ["machine", "rooms", "word"] (zP zF5):=⟨rfl,rfl,rfl,by decide +kernel,rfl,by decide +kernel,by decide +kernel⟩
theorem zMY (T:Txt K mg):Od P w base 2 T.d_walked zDY:=by
  unfold zDY;have sc:=zNd;exact zBk (zy (n:=3) T.d_walked.F sc rfl (λcdv A outer s H E hr=>by
    unfold zGR;decreasing_trivial))
abbrev zJV:List Str:=["machine", "sources", "pair", "letter", "goal"]
theorem zJG:FnScope zJV ["machine"] (zP zDl):=⟨rfl,rfl,rfl,by decide +kernel,rfl,by decide +kernel,by decide +kernel⟩
theorem zIV (T:Txt K mg):Od P w base 2 T.d_ways_back zBt:=by
  unfold zBt;have sc:=zJG;exact zy (n:=1) T.d_ways_back.F sc rfl (λcdv A outer s H E hr=>by
    unfold zDp;decreasing_trivial)
abbrev zGl:List Str:=["machine", "pair", "found", "goals", "letter", "goal"]
theorem zFj:FnScope zGl ["machine", "pair", "found"] (zP zCG):=⟨rfl,rfl,rfl,by decide +kernel,rfl,by decide +kernel,by decide +kernel⟩
theorem zFg (T:Txt K mg):Od P w base 2 T.d_first_letter zAD:=by
  unfold zAD;have sc:=zFj;exact zy (n:=3) T.d_first_letter.F sc rfl (λcdv A outer s H E hr=>by
    unfold zCO;decreasing_trivial)
abbrev zNi:List Str:=["machine", "steps", "pair", "word", "here", "letter"]
theorem zLc:FnScope zNi ["machine", "steps", "pair"] (zP zFE):=⟨rfl,rfl,rfl,by decide +kernel,rfl,by decide +kernel,by decide +kernel⟩
theorem zKh (T:Txt K mg):Od P w base 2 T.d_climbed zCE:=by
  unfold zCE;have sc:=zLc;exact zy (n:=3) T.d_climbed.F sc rfl (λcdv A outer s H E hr=>by
    unfold zFS;decreasing_trivial)
abbrev zMc:List Str:=["ways", "rooms", "found", "pair"]
theorem zLQ:FnScope zMc ["ways", "rooms"] (zP zFD):=⟨rfl,rfl,rfl,by decide +kernel,rfl,by decide +kernel,by decide +kernel⟩
theorem zLn (T:Txt K mg):Od P w base 2 T.d_nearest zB8:=by
  unfold zB8;have sc:=zLQ;exact zy (n:=2) T.d_nearest.F sc rfl (λcdv A outer s H E hr=>by
    unfold zFQ;decreasing_trivial)
abbrev zJl:List Str:=["_law_state", "_law_many", "_law_order_here", "_law_k"]
theorem zI6:FnScope zJl ["_law_state", "_law_many"] (zP zDZ):=⟨rfl,rfl,rfl,by decide +kernel,rfl,by decide +kernel,by decide +kernel⟩
theorem zII (T:Txt K mg):Od P w base 2 T.d_law_order zBN:=by
  unfold zBN;have sc:=zI6;exact zy (n:=2) T.d_law_order.F sc rfl (λcdv A outer s H E hr=>by
    unfold zDr;decreasing_trivial)
abbrev zMk:List Str:=["machine", "rooms", "word"]
theorem zLj:FnScope zMk ["machine", "rooms", "word"] (zP zE6):=⟨rfl,rfl,rfl,by decide +kernel,rfl,by decide +kernel,by decide +kernel⟩
theorem zKf (T:Txt K mg):Od P w base 3 T.d_brought zCF:=by
  unfold zCF;have sc:=zLj;exact zBk (zy (n:=3) T.d_brought.F sc rfl (λcdv A outer s H E hr=>by
    unfold zE8;decreasing_trivial))
abbrev zIw:List Str:=["machine", "goals", "sources", "level", "found", "goal", "behind", "pair"]
theorem zG4:FnScope zIw ["machine", "goals"] (zP zDE):=⟨rfl,rfl,rfl,by decide +kernel,rfl,by decide +kernel,by decide +kernel⟩
theorem zHK (T:Txt K mg):Od P w base 3 T.d_lengths_to zBQ:=by
  unfold zBQ;have sc:=zG4;exact zy (n:=2) T.d_lengths_to.F sc rfl (λcdv A outer s H E hr=>by
    unfold zC4;decreasing_trivial)
abbrev zKw:List Str:=["machine", "found", "pairs", "pair"]
theorem zJp:FnScope zKw ["machine", "found"] (zP zEL):=⟨rfl,rfl,rfl,by decide +kernel,rfl,by decide +kernel,by decide +kernel⟩
theorem zJ4 (T:Txt K mg):Od P w base 3 T.d_rungs_to zBY:=by
  unfold zBY;have sc:=zJp;exact zy (n:=2) T.d_rungs_to.F sc rfl (λcdv A outer s H E hr=>by
    unfold zEE;decreasing_trivial)
abbrev zI9:List Str:=["_law_state", "_law_family", "_law_rooms", "_law_letter", "_law_room", "_law_half", "_law_ahead", "_law_far", "_law_order_here", "_law_goal"]
theorem zG3:FnScope zI9 ["_law_state", "_law_family", "_law_rooms", "_law_letter"] (zP zC3):=⟨rfl,rfl,rfl,by decide +kernel,rfl,by decide +kernel,by decide +kernel⟩
theorem zHD (T:Txt K mg):Od P w base 3 T.d_law_column zBR:=by
  unfold zBR;have sc:=zG3;exact zy (n:=4) T.d_law_column.F sc rfl (λcdv A outer s H E hr=>by
    unfold zC5;decreasing_trivial)
abbrev zMP:List Str:=["machine", "room"]
theorem zLh:FnScope zMP ["machine"] (zP zE1):=⟨rfl,rfl,rfl,by decide +kernel,rfl,by decide +kernel,by decide +kernel⟩
theorem zLW (T:Txt K mg):Od P w base 4 T.d_lengths zBd:=by
  unfold zBd;have sc:=zLh;exact zy (n:=1) T.d_lengths.F sc rfl (λcdv A outer s H E hr=>by
    unfold zFI;decreasing_trivial)
abbrev zHG:List Str:=["_law_state", "_law_rooms", "_law_letters", "_law_family", "_law_columns", "_law_letter", "_law_column_here", "_law_room"]
theorem zGB:FnScope zHG ["_law_state", "_law_rooms", "_law_letters"] (zP zCr):=⟨rfl,rfl,rfl,by decide +kernel,rfl,by decide +kernel,by decide +kernel⟩
theorem zGL (T:Txt K mg):Od P w base 4 T.d_law_machine zA9:=by
  unfold zA9;have sc:=zGB;exact zQP (zy (n:=3) T.d_law_machine.F sc rfl (λcdv A outer s H E hr=>by
    unfold zCm;decreasing_trivial))
abbrev zRm:List Str:=["machine"]
theorem zOh:FnScope zRm ["machine"] (zP zJB):=⟨rfl,rfl,rfl,by decide +kernel,rfl,by decide +kernel,by decide +kernel⟩
theorem zOR (T:Txt K mg):Od P w base 5 T.d_rungs zDH:=by
  unfold zDH;have sc:=zOh;exact zy (n:=1) T.d_rungs.F sc rfl (λcdv A outer s H E hr=>by
    unfold zIQ;decreasing_trivial)
abbrev zRY:List Str:=["machine", "found", "pair"]
theorem zPz:FnScope zRY ["machine"] (zP zJE):=⟨rfl,rfl,rfl,by decide +kernel,rfl,by decide +kernel,by decide +kernel⟩
theorem zN0 (T:Txt K mg):Od P w base 5 T.d_apart zBP:=by
  unfold zBP;have sc:=zPz;exact zBk (zy (n:=1) T.d_apart.F sc rfl (λcdv A outer s H E hr=>by
    unfold zIo;decreasing_trivial))
abbrev zKn:List Str:=["machine", "one", "other", "pair", "steps"]
theorem zJf:FnScope zKn ["machine", "one", "other"] (zP zEP):=⟨rfl,rfl,rfl,by decide +kernel,rfl,by decide +kernel,by decide +kernel⟩
theorem zJ0 (T:Txt K mg):Od P w base 6 T.d_together zBH:=by
  unfold zBH;have sc:=zJf;exact zBk (zy (n:=3) T.d_together.F sc rfl (λcdv A outer s H E hr=>by
    unfold zER;decreasing_trivial))
abbrev zPs:List Str:=["machine", "pair", "many", "letter"]
theorem zNT:FnScope zPs ["machine"] (zP zGM):=⟨rfl,rfl,rfl,by decide +kernel,rfl,by decide +kernel,by decide +kernel⟩
theorem zNE (T:Txt K mg):Od P w base 6 T.d_ladder zCw:=by
  unfold zCw;have sc:=zNT;exact zBk (zy (n:=1) T.d_ladder.F sc rfl (λcdv A outer s H E hr=>by
    unfold zF1;decreasing_trivial))
abbrev zQU:List Str:=["machine", "rooms", "ways", "here", "word", "steps", "pair", "part"]
theorem zOo:FnScope zQU ["machine", "rooms"] (zP zJH):=⟨rfl,rfl,rfl,by decide +kernel,rfl,by decide +kernel,by decide +kernel⟩
theorem zPY (T:Txt K mg):Od P w base 6 T.d_quick zEt:=by
  unfold zEt;have sc:=zOo;exact zBk (zy (n:=2) T.d_quick.F sc rfl (λcdv A outer s H E hr=>by
    unfold zIN;decreasing_trivial))
abbrev zIM:List Str:=["machine", "rooms", "word", "kept"]
theorem zHB:FnScope zIM ["machine"] (zP zC7):=⟨rfl,rfl,rfl,by decide +kernel,rfl,by decide +kernel,by decide +kernel⟩
theorem zHJ (T:Txt K mg):Od P w base 7 T.d_least_many zAA:=by
  unfold zAA;have sc:=zHB;exact zBk (zy (n:=1) T.d_least_many.F sc rfl (λcdv A outer s H E hr=>by
    unfold zC2;decreasing_trivial))
abbrev zJT:List Str:=["_law_machine_here", "_law_sizes_here", "_law_pair", "_law_many", "_law_letter"]
theorem zIp:FnScope zJT ["_law_machine_here"] (zP zDk):=⟨rfl,rfl,rfl,by decide +kernel,rfl,by decide +kernel,by decide +kernel⟩
theorem zJF (T:Txt K mg):Od P w base 7 T.d_law_sizes zAt:=by
  unfold zAt;have sc:=zIp;exact zy (n:=1) T.d_law_sizes.F sc rfl (λcdv A outer s H E hr=>by
    unfold zDu;decreasing_trivial)
abbrev zUT:List Str:=["_law_script", "_law_state", "_law_letters", "_law_machine_here", "_law_order_here", "_law_more", "_law_k", "_law_twice", "_law_sizes_here", "_law_some", "_law_fewer", "_law_others", "_law_pair", "_law_told", "_law_many", "_law_letter", "_law_turn", "_law_one", "_law_other", "_law_word"]
theorem zS1:FnScope zUT ["_law_script"] (zP zPB):=⟨rfl,rfl,rfl,by decide +kernel,rfl,by decide +kernel,by decide +kernel⟩
theorem zTe (T:Txt K mg):Od P w base 8 T.d_law zFX:=by
  unfold zFX;have sc:=zS1;exact zy (n:=1) T.d_law.F sc rfl (λcdv A outer s H E hr=>by
    unfold zP1;decreasing_trivial)
end
theorem zTf {l:PySem.W.OpenLaw} {w:World} {K:PySem.W.Frag} {h:Heap} {mg:Str->Option Value} {fa:Addr} (X:K.In h) (G:h.Ns mainGlobals mg) (hfa:mg "law" = some (.ref fa))
    (g1:Dg K "all_rooms" zDg) (g2:Dg K "relettered" zDF) (g3:Dg K "led" zPC) (g4:Dg K "stepped" zE4) (g5:Dg K "walked" zF5) (g6:Dg K "brought" zE6) (g7:Dg K "pairs_of" zEB) (g8:Dg K "ways_back" zDl) (g9:Dg K "lengths_to" zDE) (g10:Dg K "lengths" zE1) (g11:Dg K "first_letter" zCG) (g12:Dg K "rungs_to" zEL) (g13:Dg K "rungs" zJB) (g14:Dg K "climbed" zFE) (g15:Dg K "together" zEP) (g16:Dg K "ladder" zGM) (g17:Dg K "apart" zJE) (g18:Dg K "nearest" zFD) (g19:Dg K "quick" zJH) (g20:Dg K "least_many" zC7) (g21:Dg K "_law_begin" zDb) (g22:Dg K "_law_next" zEJ) (g23:Dg K "_law_order" zDZ) (g24:Dg K "_law_column" zC3) (g25:Dg K "_law_machine" zCr) (g26:Dg K "_law_sizes" zDk) (g27:Dg K "law" zPB) (z1:Zn K "tuple") (z2:Zn K "range") (z3:Zn K "len") (z4:Zn K "sorted") (z5:Zn K "min") (z6:Zn K "enumerate") (z7:Zn K "max") (z8:Zn K "abs") (z9:Zn K "int") (z10:Zn K "dict") (z11:Zn K "all") :
    ∃ fd:FuncData,(∀ (s:Shared) (v:Value),BindsTo s fd ⟨[v],[]⟩ [("_law_script", v)]) /\ ∀ base:Heap,K.In base->base.Ns mainGlobals mg->FnOk l.prog w K mg base CX0 8 fa fd ["_law_script"] (spF K 1 zFX):=by
  have e:=hfa.symm.trans (PySem.W.mg_of X G g27.a);cases e;let T:Txt K mg:=⟨g1.df X G λ_ _ _ _ _ _=>zGp λ_=>rfl,g2.df X G λ_ _ _ _ _ _=>zLC λ_ _=>rfl,g3.df X G λ_ _ _ _ _ _=>zKH λ_ _ _=>rfl,g4.df X G λ_ _ _ _ _ _=>zKH λ_ _ _=>rfl,g5.df X G λ_ _ _ _ _ _=>zKH λ_ _ _=>rfl,g6.df X G λ_ _ _ _ _ _=>zKH λ_ _ _=>rfl,g7.df X G λ_ _ _ _ _ _=>zGp λ_=>rfl,g8.df X G λ_ _ _ _ _ _=>zGp λ_=>rfl,g9.df X G λ_ _ _ _ _ _=>zLC λ_ _=>rfl,g10.df X G λ_ _ _ _ _ _=>zGp λ_=>rfl,g11.df X G λ_ _ _ _ _ _=>zKH λ_ _ _=>rfl,g12.df X G λ_ _ _ _ _ _=>zLC λ_ _=>rfl,g13.df X G λ_ _ _ _ _ _=>zGp λ_=>rfl,g14.df X G λ_ _ _ _ _ _=>zKH λ_ _ _=>rfl,g15.df X G λ_ _ _ _ _ _=>zKH λ_ _ _=>rfl,g16.df X G λ_ _ _ _ _ _=>zGp λ_=>rfl,g17.df X G λ_ _ _ _ _ _=>zGp λ_=>rfl,g18.df X G λ_ _ _ _ _ _=>zLC λ_ _=>rfl,g19.df X G λ_ _ _ _ _ _=>zLC λ_ _=>rfl,g20.df X G λ_ _ _ _ _ _=>zGp λ_=>rfl,g21.df X G λ_ _ _ _ _ _=>zGp λ_=>rfl,g22.df X G λ_ _ _ _ _ _=>zLC λ_ _=>rfl,g23.df X G λ_ _ _ _ _ _=>zLC λ_ _=>rfl,g24.df X G λ_ _ _ _ _ _=>zVR λ_ _ _ _=>rfl,g25.df X G λ_ _ _ _ _ _=>zKH λ_ _ _=>rfl,g26.df X G λ_ _ _ _ _ _=>zGp λ_=>rfl,g27.df X G λ_ _ _ _ _ _=>zGp λ_=>rfl,zWf X G z1,zWf X G z2,zWf X G z3,zWf X G z4,zWf X G z5,zWf X G z6,zWf X G z7,zWf X G z8,zWf X G z9,zWf X G z10,zWf X G z11⟩;refine ⟨T.d_law.fd,λs v=> .of_eq rfl,λbase _ _=>?_⟩;exact zTe (P:=l.prog) (w:=w) (base:=base) T
theorem zVa {l:PySem.W.OpenLaw} {q:Ym} {loose:Yk} {XP:(Str->Option Value)->Heap->Prop} {YP:World->Heap->Prop} {d:DefRec} {K:Params->PySem.W.Frag} (hn:l.most=some 63) (hdf:d.params.defaults=[])
    (hY:∀ (w:Yo) (h:Heap),YP w h->(K w.params).In h) (hL:∀ w:World,zIb (K w.params)=true)
    (F:∀ (w:Yo) (mg:Yh) (fa:Yt) (h:Heap),(K w.params).In h->h.Ns mainGlobals mg->mg d.name=some (.ref fa) ->
      ∃ fd:FuncData,(∀ (s:Shared) (u:Value),BindsTo s fd ⟨[u],[]⟩ [("_law_script", u)]) /\ ∀ base:Heap,(K w.params).In base->base.Ns mainGlobals mg->FnOk l.prog w (K w.params) mg base CX0 8 fa fd ["_law_script"] (spF (K w.params) 1 zFX)) :
    PySem.W.WalkO q loose XP YP l.row.toRowW d [] (λf vs=>PySem.call f vs) :=
  L2.zQ2 (n:=63) (k:=8) (x := "_law_script") (CX:=λ_=>CX0) (sp:=λw=>spF (K w.params) 1 zFX) hn (by decide) hdf ⟨rfl,by decide,by decide⟩ hY F
    (λw H a ns hl hO hS=>zMV (hL w) hO hS (zN7 ns hl)) λ_ _ _ _ _ z=>z
end Lac
open PySem PySem.W PyProof.Rows
set_option maxRecDepth 100000 in
set_option maxHeartbeats 0 in
theorem PySem.Challenge.cw_bringhome_k87_whole_letters_twice_and_le_holds : PySem.Challenge.rw_bringhome_k87_whole_letters_twice_and_le.Holds := by
  w_on;o_law;k_head;(case hw=>w_witness2);k_fill;refine Lac.zVa (l:=PySem.Challenge.rw_bringhome_k87_whole_letters_twice_and_le) rfl rfl (λw h Y=>PySem.W.kIn_of Y) (λw=>by rfl) ?F
  case F=>
    intro w mg fa h KX G hmg;refine' Lac.zTf KX G hmg ?_ ?_ ?_ ?_ ?_ ?_ ?_ ?_ ?_ ?_ ?_ ?_ ?_ ?_ ?_ ?_ ?_ ?_ ?_ ?_ ?_ ?_ ?_ ?_ ?_ ?_ ?_ ?_ ?_ ?_ ?_ ?_ ?_ ?_ ?_ ?_ ?_ ?_;all_goals first|exact ⟨_,by k_is,by k_is,by k_is,by k_is⟩|(unfold L3.Zn;k_is)|(unfold L3.Ki;kit_is)|k_is
