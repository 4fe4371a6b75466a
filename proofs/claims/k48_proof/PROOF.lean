import PyProof.Rows.All
import Wide.All
import OpenK.AllK
import Wide.FinOn
import Lean
import PyProof.EqAt
import PyProof.EqKinds
import PyProof.TupleCall
import PyProof.NeKinds
import PyProof.ZipIter
import PyProof.ListRange
import PyProof.TupleOfSeq
import PyProof.ConsumeWalk
import PyProof.IsRules
import PyProof.SetKind
import PyProof.SetRoads
import PyProof.Rows.SetFrom
import PyProof.Draws
import PyProof.EnumMake
import PyProof.DictCompW
import PyProof.ListMulRoad
import PyProof.Rows.SeqMore2
import PyProof.WalkInts
import PyProof.DictRoadsH
import PyProof.DictItems
import KE.KDictList
import KE.KDictOf
import PyProof.AttrMissHeap
import PyProof.SliceList
import KE.KRevIter
import PySem.Challenge.RW_bringhome_k48_whole_led_in_the_folded_ma
section
open PySem
abbrev Ya:=List (List Int)
abbrev Yb:=W.Frag
abbrev Yc:=Value->Shared->Prop
abbrev Yd:=List (Addr × Obj)
abbrev Ye:=List Int
abbrev Yf:=List Value
abbrev Yg:=List Addr
abbrev Yh:=Str->Option Value
abbrev Yi:=List Expr
abbrev Yj:=List Nat
abbrev Yk:=List Str
abbrev Yl:=Shared
abbrev Ym:=Program
abbrev Yn:=Around
abbrev Yo:=World
abbrev Yp:=Array Value
abbrev Yq:=List Int->Prop
abbrev Yr:=Value->Nat
abbrev Ys:=Option Int
abbrev Yt:=Addr
abbrev Yu:=Value
abbrev Yv:=List (Str × Addr)
abbrev Yw:=Array (Int × Value)
abbrev Yx:=Result->Shared->Prop
abbrev Yy:=List Stmt
abbrev Yz:=FuncData
abbrev Y0:=Scope
abbrev Y1:=List Int->List (List Int)
abbrev Y2:=Value->Value->Sem Value
end
namespace PySem.W.Fast
def tw16761993651108298098:=0
def tw6608335284898384820:=0
def tw12477727534068738322:=0
def tw4313623573808208567:=0
def tw18162148477692101024:=0
def tw18203008732139796731:=0
def tw202177206876942488:=0
def tw99235778974415963:=0
def tw17393701835345035157:=0
def tw4465417712335722146:=0
def tw17135674787738522434:=0
def tw11366428422918127766:=0
def tw3225933552582756458:=0
def tw781715513363487449:=0
def tw14654490778592447079:=0
def tw14488854571048890769:=0
def tw14334913616378486398:=0
def tw834613151743010056:=0
def tw2399414278715929801:=0
def tw1571475502212625628:=0
def tw17187177048902905100:=0
def tw15169937400773427137:=0
def tw1317450523585484927:=0
def tw4766277000955108549:=0
def tw1754624433287188118:=0
def tw4446261011719350899:=0
def tw12584825498871270545:=0
def tw722047692938780610:=0
def tw12135251624622740190:=0
def tw9287332974303463463:=0
def tw1708261705681217290:=0
def tw4053137278103992994:=0
def tw16673515103653769167:=0
def tw12712338471588609478:=0
def tw13513791372509333980:=0
def tw11774901401360702438:=0
def tw2211184301844654985:=0
def tw262229623154127795:=0
def tw14757740492995362243:=0
def tw1443826300879544098:=0
def tw17039038064357530224:=0
def tw12323775976194978085:=0
def tw16279021475649143951:=0
def tw16705129822147620363:=0
def tw2150336810464424394:=0
def tw18403442656833410266:=0
def tw7062280081424007228:=0
def tw1900079878787406900:=0
def tw9408935087503525882:=0
def tw2516353205432369120:=0
def tw14016637467350383105:=0
def tw15132421623256115331:=0
def tw8201356636253187891:=0
def tw8593978477522040039:=0
def tw8820456621524551149:=0
def tw3936848073530674393:=0
end PySem.W.Fast
section
open PySem PySem.Spec PyProof.Rows
theorem zWl:type_of% @wpAny_bind:=@wpAny_bind
theorem zWm:type_of% @Heap.get?_push_of_some:=@Heap.get?_push_of_some
theorem zWn:type_of% @wpAny_pure:=@wpAny_pure
theorem zWo:type_of% @List.getElem?_eq_some_iff:=@List.getElem?_eq_some_iff
theorem zWp:type_of% @List.getElem?_eq_getElem:=@List.getElem?_eq_getElem
theorem zWq:type_of% @List.getD_eq_getElem?_getD:=@List.getD_eq_getElem?_getD
theorem zWr:type_of% @Nat.le_refl:=@Nat.le_refl
theorem zWs:type_of% @List.getElem?_append_left:=@List.getElem?_append_left
theorem zWt:type_of% @List.size_toArray:=@List.size_toArray
theorem zWu:type_of% @List.length_map:=@List.length_map
theorem zWv:type_of% @Heap.get?_push_size:=@Heap.get?_push_size
theorem zWw:type_of% @Heap.lt_size:=@Heap.lt_size
theorem zWx:type_of% @List.mem_cons:=@List.mem_cons
theorem zWy:type_of% @List.mem_cons_of_mem:=@List.mem_cons_of_mem
theorem zWz:type_of% @List.mem_cons_self:=@List.mem_cons_self
theorem zW0:type_of% @if_pos:=@if_pos
theorem zW1:type_of% @List.length_append:=@List.length_append
theorem zW2:type_of% @List.mem_map:=@List.mem_map
theorem zW3:type_of% @if_neg:=@if_neg
theorem zW4:type_of% @List.map_cons:=@List.map_cons
theorem zW5:type_of% @List.mem_append_right:=@List.mem_append_right
theorem zW6:type_of% @Nat.ne_of_lt:=@Nat.ne_of_lt
theorem zW7:type_of% @Bool.false_ne_true:=@Bool.false_ne_true
theorem zW8:type_of% @List.getElem?_map:=@List.getElem?_map
theorem zW9:type_of% @List.map_map:=@List.map_map
theorem zXA:type_of% @Nat.lt_of_lt_of_le:=@Nat.lt_of_lt_of_le
theorem zXB:type_of% @List.mem_append:=@List.mem_append
theorem zXC:type_of% @Nat.le_trans:=@Nat.le_trans
theorem zXD:type_of% @List.mem_singleton:=@List.mem_singleton
theorem zXE:type_of% @wpAny_newObj_type:=@wpAny_newObj_type
theorem zXF:type_of% @List.getElem?_set_ne:=@List.getElem?_set_ne
theorem zXG:type_of% @List.not_mem_nil:=@List.not_mem_nil
theorem zXH:type_of% @wpAny_mono:=@wpAny_mono
theorem zXI:type_of% @List.length_cons:=@List.length_cons
theorem zXJ:type_of% @List.getElem_mem:=@List.getElem_mem
theorem zXK:type_of% @decide_eq_false:=@decide_eq_false
theorem zXL:type_of% @Bool.and_eq_true:=@Bool.and_eq_true
theorem zXM:type_of% @List.all_eq_true:=@List.all_eq_true
theorem zXN:type_of% @wpAny_callSpecial?_slot:=@wpAny_callSpecial?_slot
theorem zXO:type_of% @wpAny_call_entry:=@wpAny_call_entry
theorem zXP:type_of% @List.mem_range:=@List.mem_range
theorem zXQ:type_of% @wpAny_field:=@wpAny_field
theorem zXR:type_of% @Heap.size_push:=@Heap.size_push
theorem zXS:type_of% @Heap.get?_update_other:=@Heap.get?_update_other
theorem zXT:type_of% @Nat.lt_irrefl:=@Nat.lt_irrefl
theorem zXU:type_of% @Array.length_toList:=@Array.length_toList
theorem zXV:type_of% @List.append_nil:=@List.append_nil
theorem zXW:type_of% @Array.getElem?_eq_getElem:=@Array.getElem?_eq_getElem
theorem zXX:type_of% @Nat.zero_le:=@Nat.zero_le
theorem zXY:type_of% @Heap.get?_update_self:=@Heap.get?_update_self
theorem zXa:type_of% @Nat.lt_succ_of_lt:=@Nat.lt_succ_of_lt
theorem zXb:type_of% @wpAny_seqItems:=@wpAny_seqItems
theorem zXc:type_of% @List.mem_of_getElem?:=@List.mem_of_getElem?
theorem zXd:type_of% @List.map_append:=@List.map_append
theorem zXe:type_of% @wpAny_holding:=@wpAny_holding
theorem zXf:type_of% @List.getElem?_set_self:=@List.getElem?_set_self
theorem zXg:type_of% @Around.under_plainId:=@Around.under_plainId
theorem zXh:type_of% @of_decide_eq_true:=@of_decide_eq_true
theorem zXi:type_of% @Nat.lt_succ_self:=@Nat.lt_succ_self
theorem zXj:type_of% @wpAny_standAt:=@wpAny_standAt
theorem zXk:type_of% @PySem.W.mg_none_of:=@PySem.W.mg_none_of
theorem zXl:type_of% @Option.some.inj:=@Option.some.inj
theorem zXm:type_of% @Bool.false_eq_true:=@Bool.false_eq_true
theorem zXn:type_of% @PySem.mem_of_lookup:=@PySem.mem_of_lookup
theorem zXo:type_of% @Heap.SameBut.update:=@Heap.SameBut.update
theorem zXp:type_of% @List.cons.inj:=@List.cons.inj
theorem zXq:type_of% @codeAny_builtin:=@codeAny_builtin
theorem zXr:type_of% @List.append_assoc:=@List.append_assoc
theorem zXt:type_of% @decide_eq_true:=@decide_eq_true
theorem zXu:type_of% @List.getElem?_eq_none:=@List.getElem?_eq_none
theorem zXv:type_of% @List.getElem?_append_right:=@List.getElem?_append_right
theorem zXw:type_of% @List.mem_filter:=@List.mem_filter
theorem zXy:type_of% @decide_eq_true_eq:=@decide_eq_true_eq
theorem zXz:type_of% @List.nodup_append:=@List.nodup_append
theorem zX0:type_of% @List.mem_append_left:=@List.mem_append_left
theorem zX2:type_of% @Obj.data_mapFields:=@Obj.data_mapFields
theorem zX4:type_of% @List.replicate_succ:=@List.replicate_succ
theorem zX5:type_of% @List.nodup_cons:=@List.nodup_cons
theorem zX6:type_of% @or_false:=@or_false
theorem zX7:type_of% @Nat.lt_or_ge:=@Nat.lt_or_ge
theorem zX8:type_of% @wpAny_rule:=@wpAny_rule
theorem zX9:type_of% @List.length_take:=@List.length_take
theorem zYG:type_of% @Nat.ne_of_gt:=@Nat.ne_of_gt
theorem zYJ:type_of% @PyProof.Rows.slot_tuple_getitem:=@PyProof.Rows.slot_tuple_getitem
theorem zYK:type_of% @List.getElem?_set:=@List.getElem?_set
theorem zYN:type_of% @Nat.mul_le_mul:=@Nat.mul_le_mul
theorem zYQ:type_of% @Array.getElem?_toList:=@Array.getElem?_toList
theorem zYT:type_of% @Nat.le_succ:=@Nat.le_succ
theorem zYX:type_of% @List.find?_cons:=@List.find?_cons
theorem zYf:type_of% @wpAny_comprehension_free:=@wpAny_comprehension_free
theorem zYi:type_of% @List.length_range:=@List.length_range
theorem zYk:type_of% @List.flatten_cons:=@List.flatten_cons
theorem zYo:type_of% @List.getElem_of_mem:=@List.getElem_of_mem
theorem zYp:type_of% @List.getElem?_range:=@List.getElem?_range
theorem zYq:type_of% @List.lookup_cons:=@List.lookup_cons
theorem zYv:type_of% @List.pairwise_cons:=@List.pairwise_cons
theorem zY5:type_of% @List.length_filter_le:=@List.length_filter_le
theorem zZV:type_of% @Int.toNat_natCast:=@Int.toNat_natCast
theorem zZh:type_of% @Nat.le_of_lt:=@Nat.le_of_lt
theorem zZx:type_of% @List.length_pos_of_mem:=@List.length_pos_of_mem
theorem zZ8:type_of% @List.filterMap_cons:=@List.filterMap_cons
end
set_option Elab.async false
set_option linter.all false
set_option maxRecDepth 100000
set_option genSizeOf false
set_option genInjectivity false
noncomputable section
namespace L2
open PySem PySem.Spec PyProof.Rows
abbrev Key:=Sum Int Str
def zIM:Key->Value->Bool
 |.inl k,v=>Value.isInt k v
 |.inr x,v=>Value.isStrOf x v
def zWf (w:Yo):Key->Int
 |.inl k=>hashInt k
 |.inr x=>hashStr w x
theorem zAk:∀ {k:Key} {v:Yu},zIM k v=true->(∃ i t,k=Sum.inl i/\v=Value.int i t)\/(∃ x t,k=Sum.inr x/\v=Value.str x t)
 |.inl i,v,h=>by
  obtain ⟨t,e⟩:=Value.isInt_shape (k:=i) (v:=v) h;exact .inl ⟨i,t,rfl,e⟩
 |.inr x,v,h=>by
  obtain ⟨t,e⟩:=Value.isStrOf_shape (x:=x) (v:=v) h;exact .inr ⟨x,t,rfl,e⟩
theorem zNw (i:Int) (t:Tok):zIM (.inl i) (.int i t)=true:=by simp[zIM,Value.isInt]
theorem zOf (x:Str) (t:Tok):zIM (.inr x) (.str x t)=true:=by simp[zIM,Value.isStrOf]
theorem zTI (a b:Int):decide ((Sum.inl a:Key)=Sum.inl b)=(a==b):=by
 by_cases e:a=b
 .subst e;simp
 .have h:¬ (Sum.inl a:Key)=Sum.inl b:=λq=>e (Sum.inl.inj q);rw[zXK h];exact (beq_eq_false_iff_ne.mpr e).symm
theorem zTQ (a b:Str):decide ((Sum.inr a:Key)=Sum.inr b)=decide (a=b):=by
 by_cases e:a=b
 .subst e;simp
 .have h:¬ (Sum.inr a:Key)=Sum.inr b:=λq=>e (Sum.inr.inj q);rw[zXK h,zXK e]
theorem zT0 (a:Int) (b:Str):decide ((Sum.inl a:Key)=Sum.inr b)=false:=zXK (λq=>nomatch q)
theorem zUQ (a:Str) (b:Int):decide ((Sum.inr a:Key)=Sum.inl b)=false:=zXK (λq=>nomatch q)
def zAW (prog:Ym) (w:Yo):PySem.KeyKind prog w Key where
 is:=zIM
 hash:=zWf w
 inj:=λv a b ha hb=>by
  rcases zAk ha with ⟨i,t,rfl,rfl⟩|⟨x,t,rfl,rfl⟩
  .rcases zAk hb with ⟨j,u,rfl,e⟩|⟨y,u,rfl,e⟩
   .injection e with e1 _;rw[e1]
   .exact nomatch e
  .rcases zAk hb with ⟨j,u,rfl,e⟩|⟨y,u,rfl,e⟩
   .exact nomatch e
   .injection e with e1 _;rw[e1]
 byValue:=λk v h=>by
  rcases zAk h with ⟨i,t,rfl,rfl⟩|⟨x,t,rfl,rfl⟩ <;> rfl
 pyHash:=λhv h=>by
  rcases zAk hv with ⟨i,t,rfl,rfl⟩|⟨x,t,rfl,rfl⟩
  .exact wpAny_pyHash_int h
  .exact wpAny_pyHash_str h
 eqBool:=λhu hv h=>by
  rcases zAk hu with ⟨i,t,rfl,rfl⟩|⟨x,t,rfl,rfl⟩
  .rcases zAk hv with ⟨j,u,rfl,rfl⟩|⟨y,u,rfl,rfl⟩
   .rw[zTI]at h;exact wpAny_eqBool_int h
   .rw[zT0]at h;exact SeqAt.EqAt.int_str i t y u _ _ _ _ h
  .rcases zAk hv with ⟨j,u,rfl,rfl⟩|⟨y,u,rfl,rfl⟩
   .rw[zUQ]at h;exact SeqAt.EqAt.str_int x t j u _ _ _ _ h
   .rw[zTQ]at h;exact wpAny_eqBool_str h
 «strs»:=λk x t v h=>by
  rcases zAk h with ⟨i,u,rfl,e⟩|⟨y,u,rfl,e⟩
  .exact nomatch e
  .injection e with e1 _
   subst e1
   cases v <;> rfl
theorem zKh (prog:Ym) (w:Yo) (i:Int) (t:Tok):(zAW prog w).is (.inl i) (.int i t)=true:=zNw i t
theorem zLW (prog:Ym) (w:Yo) (x:Str) (t:Tok):(zAW prog w).is (.inr x) (.str x t)=true:=zOf x t
set_option genInjectivity true in
inductive V where
 |non|bl (b:Bool)|int (i:Int)|str (x:Str)|byt (b:Array UInt8)|flt (b:UInt64)|ref (a:Yt)|ty (n:String)
 deriving DecidableEq
def zt:V->Value->Prop
 |.non,u=>u=Value.none
 |.bl b,u=>u=Value.bool b
 |.int i,u=>∃ t,u=Value.int i t
 |.str x,u=>∃ t,u=Value.str x t
 |.byt b,u=>∃ t,u=Value.bytes b t
 |.flt b,u=>∃ t,u=Value.float b t
 |.ref a,u=>u=Value.ref a
 |.ty n,u=>u=Value.type n
abbrev za:List V->List Value->Prop:=Paired zt
theorem za.length {xs:List V} {us:Yf} (r:za xs us):xs.length=us.length:=Paired.length r
theorem za.get:∀ {xs:List V} {us:Yf} {i:Nat} {x:V},za xs us->xs[i]?=some x -> ∃ u,us[i]?=some u/\zt x u
 |_,_,_,_,.nil,e=>by simp at e
 |_,_,0,_,.cons r _,e=>by simp at e;subst e;exact ⟨_,rfl,r⟩
 |_,_,i+1,x,.cons _ t,e=>by
  obtain ⟨u,h1,h2⟩:=za.get (i:=i) (x:=x) t (by simpa using e);exact ⟨u,by simpa using h1,h2⟩
theorem za.set {x:V} {u:Yu} (r:zt x u):∀ {xs:List V} {us:Yf} (i:Nat),za xs us->za (xs.set i x) (us.set i u)
 |_,_,_,.nil=> .nil
 |_,_,0,.cons _ t=> .cons r t
 |_,_,i+1,.cons q t=> .cons q (za.set r i t)
theorem za.append:∀ {xs ys:List V} {us ws:Yf},za xs us->za ys ws->za (xs++ys) (us++ws)
 |_,_,_,_,.nil,s=>s
 |_,_,_,_,.cons r t,s=> .cons r (za.append t s)
theorem za.take:∀ {xs:List V} {us:Yf} (n:Nat),za xs us->za (xs.take n) (us.take n)
 |_,_,0,_=> .nil
 |_,_,_+1,.nil=> .nil
 |_,_,n+1,.cons r t=> .cons r (za.take n t)
theorem za.drop:∀ {xs:List V} {us:Yf} (n:Nat),za xs us->za (xs.drop n) (us.drop n)
 |_,_,0,r=>r
 |_,_,_+1,.nil=> .nil
 |_,_,n+1,.cons _ t=>za.drop n t
def zGO:Option V->Option Value->Prop
 |some v,some u=>zt v u
 |none,none=>True
 |_,_=>False
def KV {κ:Type}:List (κ × V)->List (κ × Value)->Prop:=Paired λ(p:κ × V) (q:κ × Value)=>p.1=q.1/\zt p.2 q.2
def kV:Key->V
 |.inl i=> .int i
 |.inr x=> .str x
set_option genInjectivity true in
inductive HO where
 |lst (xs:List V)
 |tup (xs:List V)
 |dK (kvs:List (Key × V))|dT (kvs:List (List Key × V))
 |set (S:Int->Bool) (n:Nat)
 |ins (C dx:Yt) (fs:List (Str × V))
 |own (x:Yt)
 |xd (fs:List (Str × V))
 |met (f x:Yt)
 |rng (lo hi:Int)
 |frz (o:Obj) (u:HO)
 |tbl (ps:Yp)
 |ext (φ:Heap->Prop)
abbrev Hp:=Addr->Option HO
def upd (H:Hp) (a:Yt) (o:HO):Hp:=λb=>if b=a then some o else H b
theorem zAD {H:Hp} {a:Yt} {o:HO}:upd H a o a=some o:=by unfold upd;rw[zW0 rfl]
theorem zZ {H:Hp} {a b:Yt} {o:HO} (h:b≠a):upd H a o b=H b:=by unfold upd;rw[zW3 h]
theorem zIT {H:Hp} {a b:Yt} {o u:HO} (h:H a=some o) (h':H b=some u) (d:o≠u):a≠b:=by
 intro e;subst e;rw[h]at h';exact d (zXl h')
theorem zAC {H:Hp} {a b:Yt} {o:HO} (h:H a=some o) (h':H b=none):a≠b:=by
 intro e;subst e;rw[h]at h';cases h'
def zCF (h:Heap) (a:Addr) (items:Array Value):Prop:=∃ o,h.get? a=some o/\o.cls=.type "tuple" /\ (∃ n,o.data=.seq items n)/\o.dict=none
theorem zCF.tup {h:Heap} {a:Yt} {items:Yp} (x:zCF h a items):IsTup h a items:=let ⟨o,e,c,d,_⟩:=x;⟨o,e,c,d⟩
theorem zCF.lt {h:Heap} {a:Yt} {items:Yp} (x:zCF h a items):a<h.objs.size:=let ⟨_,e,_⟩:=x;zWw e
theorem zCF.new (h:Heap) (items:Array Value):zCF (h.push { cls:=.type "tuple", data:=.seq items }) h.objs.size items:=⟨_,zWv _ rfl,rfl,⟨_,rfl⟩,rfl⟩
section
variable (P:Ym) (w:Yo)
def zAs (H:Hp) (h:Heap) (a:Yt):HO->Prop
 |.lst xs=>xs.length<=sizeLine /\ ∃ (its:List Value) (n:Nat),za xs its/\h.get? a=some { cls:=.type "list", data:=.seq its.toArray n }
 |.tup xs=>xs.length<=sizeLine /\ ∃ its:List Value,za xs its/\zCF h a its.toArray
 |.dK kvs=>kvs.length<=sizeLine/\(a==sysModules)=false /\ ∃ vs,KV kvs vs/\h.DictOf (zAW P w) a vs
 |.dT kvs=>kvs.length<=sizeLine/\(a==sysModules)=false /\ ∃ xs:List (List Key × Addr × Value),
   Paired (λ(p:List Key × V) (q:List Key × Addr × Value)=>p.1=q.1/\H q.2.1=some (.tup (p.1.map kV))/\zt p.2 q.2.2) kvs xs /\
   ∃ o es ep,h.get? a=some o/\o.ExactDict/\o.data=.dict es ep/\es.toList=xs.map (entryOfKey (tupleKind (zAW P w)))/\(xs.map (·.1)).Nodup
 |.set S n=>h.SetOf (intKind P w) a S n
 |.ins C dx fs=>H dx=some (.own a)/\fs.length<=1000/\dx≠a/\h.get? a=some (PySem.W.instObj C dx) /\
   ∃ mA,h.Ns1 dx mA/\(∀ f,zGO (fs.lookup f) (mA f))/\PySem.Within mA (fs.map (·.1))
 |.own _=>∃ o,h.get? a=some o
 |.xd fs=>∃ mA,h.Ns1 a mA /\ ∀ f,zGO (fs.lookup f) (mA f)
 |.rng lo hi=>∃ t u v,h.get? a=some { cls:=.type "range", data:=.fields #[.int lo t,.int hi u,.int 1 v] }
 |.frz o u=>h.get? a=some o/\zAs H h a u
 |.tbl ps=>h.get? a=some { cls:=.none,data:=.fields ps }
 |.met f x=>h.get? a=some (PySem.W.methodObj (.ref f) (.ref x))
 |.ext φ=>φ h/\(∃ o,h.get? a=some o) /\ ∀ h1 h2:Heap,φ h1->(∀ o,h1.get? a=some o->h2.get? a=some o)->φ h2
def HOk (H:Hp) (h:Heap):Prop:=∀ a o,H a=some o->zAs P w H h a o
end
section
variable {P:Ym} {w:Yo} {H H':Hp} {h h':Heap} {a:Yt} {o:HO}
theorem zAs.lt (x:zAs P w H h a o):a<h.objs.size:=by
 cases o with
 |lst xs=>obtain ⟨_,_,_,_,e⟩:=x;exact zWw e
 |tup xs=>obtain ⟨_,_,_,p⟩:=x;exact p.lt
 |dK kvs=>obtain ⟨_,_,_,_,o,_,_,e,_⟩:=x;exact zWw e
 |dT kvs=>obtain ⟨_,_,_,_,o,_,_,e,_⟩:=x;exact zWw e
 |set S n=>obtain ⟨o,_,_,_,e,_⟩:=x;exact zWw e
 |ins C dx fs=>obtain ⟨_,_,_,e,_⟩:=x;exact zWw e
 |own y=>obtain ⟨_,e⟩:=x;exact zWw e
 |xd fs=>obtain ⟨_,⟨_,_,_,e,_⟩,_⟩:=x;exact zWw e
 |rng lo hi=>obtain ⟨_,_,_,e⟩:=x;exact zWw e
 |frz ob u=>obtain ⟨e,_⟩:=x;exact zWw e
 |tbl ps=>exact zWw (show h.get? a=some _ from x)
 |met f y=>exact zWw (show h.get? a=some _ from x)
 |ext φ=>obtain ⟨_,⟨_,e⟩,_⟩:=x;exact zWw e
theorem Paired.mapP {α β:Type} {F G:α->β->Prop}:∀ {l₁:List α} {l₂:List β},Paired F l₁ l₂->(∀ a b,F a b->G a b)->Paired G l₁ l₂
 |_,_,.nil,_=> .nil
 |_,_,.cons r t,f=> .cons (f _ _ r) (Paired.mapP t f)
theorem zAs.stay (x:zAs P w H h a o) (k:∀ b u,(b=a\/H b=some (.own a))->h.get? b=some u->h'.get? b=some u)
  (ho:∀ b,H b=some (.own a)->H' b=some (.own a)) (ht:∀ b xs,H b=some (.tup xs)->H' b=some (.tup xs)):zAs P w H' h' a o:=by
 induction o with
 |lst xs=>obtain ⟨z,its,n,r,e⟩:=x;exact ⟨z,its,n,r,k _ _ (.inl rfl) e⟩
 |tup xs=>obtain ⟨z,its,r,ob,e,c⟩:=x;exact ⟨z,its,r,ob,k _ _ (.inl rfl) e,c⟩
 |dK kvs=>obtain ⟨z,y,vs,r,ob,es,ep,e,c⟩:=x;exact ⟨z,y,vs,r,ob,es,ep,k _ _ (.inl rfl) e,c⟩
 |dT kvs=>
  obtain ⟨z,y,xs,r,ob,es,ep,e,c⟩:=x;exact ⟨z,y,xs,Paired.mapP r λp q z=>⟨z.1,ht _ _ z.2.1,z.2.2⟩,ob,es,ep,k _ _ (.inl rfl) e,c⟩
 |set S n=>obtain ⟨ob,es,ep,t,e,c⟩:=x;exact ⟨ob,es,ep,t,k _ _ (.inl rfl) e,c⟩
 |ins C dx fs=>
  obtain ⟨d,z,ne,e,mA,⟨od,es,ep,e2,c⟩,r⟩:=x;exact ⟨ho _ d,z,ne,k _ _ (.inl rfl) e,mA,⟨od,es,ep,k _ _ (.inr d) e2,c⟩,r⟩
 |own y=>obtain ⟨ob,e⟩:=x;exact ⟨ob,k _ _ (.inl rfl) e⟩
 |xd fs=>obtain ⟨mA,⟨od,es,ep,e,c⟩,r⟩:=x;exact ⟨mA,⟨od,es,ep,k _ _ (.inl rfl) e,c⟩,r⟩
 |rng lo hi=>obtain ⟨t,u,v,e⟩:=x;exact ⟨t,u,v,k _ _ (.inl rfl) e⟩
 |frz ob u ih=>obtain ⟨e,q⟩:=x;exact ⟨k _ _ (.inl rfl) e,ih q⟩
 |tbl ps=>
  have e:h.get? a=some { cls:=.none,data:=.fields ps }:=x;show h'.get? a=some { cls:=.none,data:=.fields ps };exact k a _ (.inl rfl) e
 |met f y=>
  have e:h.get? a=some (PySem.W.methodObj (.ref f) (.ref y)):=x;show h'.get? a=some (PySem.W.methodObj (.ref f) (.ref y));exact k a _ (.inl rfl) e
 |ext φ=>obtain ⟨p,⟨o,e⟩,st⟩:=x;exact ⟨st _ _ p λo q=>k _ _ (.inl rfl) q,⟨o,k _ _ (.inl rfl) e⟩,st⟩
theorem HOk.lt (x:HOk P w H h) (e:H a=some o):a<h.objs.size:=(x a o e).lt
theorem HOk.fresh (x:HOk P w H h) (e:h.objs.size<=a):H a=none:=by
 cases q:H a with
 |none=>rfl
 |some u=>exact absurd (zXA (x.lt q) e) (zXT _)
theorem HOk.kept (x:HOk P w H h) (k:∀ b u,h.get? b=some u->h'.get? b=some u):HOk P w H h':=λa o e=>
 (x a o e).stay (λb u _ q=>k b u q) (λ_ q=>q) λ_ _ q=>q
theorem HOk.laid (x:HOk P w H h) (k:∀ b u,h.get? b=some u->h'.get? b=some u) (hp:h.objs.size<=a) (new:zAs P w (upd H a o) h' a o):HOk P w (upd H a o) h':=λb u e=>by
 have hn:=x.fresh hp;by_cases hb:b=a
 .subst hb;rw[zAD]at e;cases e;exact new
 .rw[zZ hb]at e;exact (x b u e).stay (λc v _ q=>k c v q) (λc q=>by rw[zZ (zAC q hn)];exact q) λc xs q=>by rw[zZ (zAC q hn)];exact q
end
def Rd (H:Hp) (a:Yt) (u:HO):Prop:=H a=some u \/ ∃ o,H a=some (.frz o u)
theorem Rd.ok {P:Ym} {w:Yo} {H:Hp} {h:Heap} {a:Yt} {u:HO} (r:Rd H a u) (x:HOk P w H h):zAs P w H h a u:=by
 rcases r with r|⟨o,r⟩
 .exact x a u r
 .obtain ⟨_,q⟩:=x a _ r;exact q
def Mut:Option HO->Prop
 |some (.lst _)=>True
 |some (.dK _)=>True
 |some (.dT _)=>True
 |some (.set _ _)=>True
 |some (.ins _ _ _)=>True
 |some (.ext _)=>True
 |_=>False
section
variable {P:Ym} {w:Yo} {H:Hp} {h h':Heap} {x e:Yt} {o':HO}
theorem HOk.write (ok:HOk P w H h) (mu:Mut (H x)) (he:e=x\/H e=some (.own x)) (k:∀ b u,b≠e->h.get? b=some u->h'.get? b=some u) (heo:∃ u,h'.get? e=some u)
  (new:zAs P w (upd H x o') h' x o'):HOk P w (upd H x o') h':=λb u q=>by
 have nown:∀ c y,H c=some (.own y)->c≠x:=λc y r z=>by subst z;rw[r]at mu;exact mu
 have ntup:∀ c xs,H c=some (.tup xs)->c≠x:=λc xs r z=>by subst z;rw[r]at mu;exact mu
 by_cases hb:b=x
 .subst hb;rw[zAD]at q;cases q;exact new
 .rw[zZ hb]at q;by_cases hbe:b=e
  .have q':H b=some (.own x):=by
    rcases he with z|z
    .exact absurd (hbe.trans z) hb
    .rw[hbe];exact z
   rw[q]at q';cases q';obtain ⟨v,hv⟩:=heo;exact ⟨v,by rw[hbe];exact hv⟩
  .refine (ok b u q).stay (λc v hc r=>k c v ?_ r) (λc r=>by rw[zZ (nown c b r)];exact r) λc xs r=>by rw[zZ (ntup c xs r)];exact r
   rcases hc with rfl|hc
   .exact hbe
   .rintro rfl;rcases he with z|z
    .exact nown c b hc z
    .rw[hc]at z;cases z;exact hb rfl
end
structure Un (fs ex:Yg) (H H':Hp) (h h':Heap):Prop where
 keep:∀ b o,h.get? b=some o->H b=none->b∉fs->b∉ex->h'.get? b=some o
 slot:∀ b o,h.get? b=some o->H b=none->b∈fs->b∉ex -> ∃ sl,h'.get? b=some { o with slots:=sl }
 free:∀ b o,h.get? b=some o->H b=none->b∉ex->H' b=none
 there:∀ b o,h.get? b=some o->b∉ex -> ∃ o',h'.get? b=some o'
 tups:∀ b xs,H b=some (.tup xs)->H' b=some (.tup xs)
 frzs:∀ b o u,H b=some (.frz o u)->H' b=some (.frz o u)
 tbls:∀ b ps,H b=some (.tbl ps) -> ∃ more,H' b=some (.tbl (ps++more))
section
variable {fs fs' ex ex':Yg} {H H1 H2:Hp} {h h1 h2 h':Heap} {a x e:Yt} {o:HO}
theorem Un.any (u:Un fs ex H H1 h h1) {b:Yt} {ob:Obj} (q:h.get? b=some ob) (n:H b=none) (hx:b∉ex):∃ sl,h1.get? b=some { ob with slots:=sl }:=by
 by_cases hb:b∈fs
 .exact u.slot b ob q n hb hx
 .exact ⟨ob.slots,u.keep b ob q n hb hx⟩
theorem Un.kept (k:∀ b u,h.get? b=some u->h'.get? b=some u):Un fs ex H H h h' :=
 ⟨λb ob q _ _ _=>k b ob q,λb ob q _ _ _=>⟨ob.slots,k b ob q⟩,λ_ _ _ n _=>n,λb ob q _=>⟨ob,k b ob q⟩,λ_ _ q=>q,λ_ _ _ q=>q,λ_ ps q=>⟨#[],by rw[q];simp⟩⟩
theorem Un.refl:Un fs ex H H h h:=Un.kept λ_ _ q=>q
theorem Un.laid (k:∀ b u,h.get? b=some u->h'.get? b=some u) (hp:h.objs.size<=a) (hn:H a=none):Un fs ex H (upd H a o) h h' where
 keep:=λb u q _ _ _=>k b u q;slot:=λb u q _ _ _=>⟨u.slots,k b u q⟩;free:=λb u q n _=>by rw[zZ (zW6 (zXA (zWw q) hp))];exact n
 there:=λb u q _=>⟨u,k b u q⟩;tups:=λb xs q=>by rw[zZ (zAC q hn)];exact q
 frzs:=λb u xs q=>by rw[zZ (zAC q hn)];exact q
 tbls:=λb ps q=>⟨#[],by rw[zZ (zAC q hn),q];simp⟩
theorem Un.write (mu:Mut (H x)) (he:e=x\/H e=some (.own x)) (k:∀ b u,b≠e->h.get? b=some u->h'.get? b=some u) (heo:∃ u,h'.get? e=some u):Un fs ex H (upd H x o) h h':=by
 have hx:∀ b,H b=none->b≠x:=λb n z=>by subst z;rw[n]at mu;exact mu
 have hb:∀ b,H b=none->b≠e:=λb n z=>by
  subst z;rcases he with r|r
  .exact hx b n r
  .rw[n]at r;cases r
 have hm:∀ b u,H b=some u -> ¬ Mut (some u)->b≠x:=λb u q nm z=>by subst z;rw[q]at mu;exact nm mu
 refine ⟨λb u q n _ _=>k b u (hb b n) q,λb u q n _ _=>⟨u.slots,k b u (hb b n) q⟩,λb u q n _=>by rw[zZ (hx b n)];exact n,λb u q _=>?_,
  λb xs q=>by rw[zZ (hm b _ q λz=>z)];exact q,λb u xs q=>by rw[zZ (hm b _ q λz=>z)];exact q,λb ps q=>⟨#[],by rw[zZ (hm b _ q λz=>z),q];simp⟩⟩
 by_cases hbe:b=e
 .subst hbe;exact heo
 .exact ⟨u,k b u hbe q⟩
end
def trk (h:Heap) (H:Hp):List Addr:=(List.range h.objs.size).filter λa=>(H a).isSome
def zJv (h:Heap) (H:Hp):Heap:=PySem.W.hideAll h (trk h H)
theorem zON (h:Heap) (H:Hp):(zJv h H).objs.size=h.objs.size:=PySem.W.hideAll_size _ _
theorem zRA {h:Heap} {H:Hp} {b:Yt} {o:Obj} (e:h.get? b=some o) (n:H b=none):(zJv h H).get? b=some o :=
 PySem.W.hideAll_get _ e λhm=>by
  have q:(H b).isSome=true:=(zXw.mp hm).2;rw[n]at q;simp at q
theorem zSo {h:Heap} {H:Hp} {b:Yt} {o:Obj} (e:(zJv h H).get? b=some o):h.get? b=some o/\H b=none:=by
 have e':h.get? b=some o:=PySem.W.of_hideAll (trk h H) e;refine ⟨e',?_⟩;cases q:H b with
 |none=>rfl
 |some x=>
  have hm:b∈trk h H:=zXw.mpr ⟨zXP.mpr (zWw e'),by simp[q]⟩;have z:(zJv h H).get? b=none:=PySem.W.hideAll_none (trk h H) hm;rw[z]at e;cases e
structure Mod (K:Yb) (mg:Yh) (base:Heap):Prop where
 kin:K.In base
 glob:base.Ns mainGlobals mg
 blt:∃ mb,base.Ns builtinsNs mb /\ ∀ x:Str,x ≠ "__name__" -> mb x=bootBuiltins x
 nolimit:base.NoLimit
structure Cx where
 prog:Program
 w:World
 K:PySem.W.Frag
 mg:Str->Option Value
 base:Heap
 A:Around
 N:List Str
 s₀:Shared
 H₀:Hp
 env:Env
 outer:List Env
 stack:List Env
 ex:List Addr
 fn:Str->Bool
 calm:Bool
 pn:List (Addr × Obj)
 xe:Value->Shared->Prop
def frs (l:List Env):List Addr:=l.filterMap (·.frame)
abbrev Cx.fs (X:Cx):List Addr:=frs X.outer
def Vis (sc:Y0) (x:Str):Prop:=sc.names.lookup x=some .local\/sc.names.lookup x=some .cell\/sc.names.lookup x=some .free
def Loc (sc:Y0) (x:Str):Prop:=sc.names.lookup x=some .local\/sc.names.lookup x=some .cell
def zWd (env:Env) (h:Heap) (m:Yh) (x:Str) (u:Yu):Prop :=
 (env.kindOf x=some .local/\m x=some u)\/((env.kindOf x=some .cell\/env.kindOf x=some .free) /\ ∃ c,env.cells.lookup x=some c/\h.IsCell c (some u))
structure Cx.Ok (X:Cx):Prop where
 mod:Mod X.K X.mg X.base
 kind:X.env.scope.kind=.function
 glob:X.env.globals=mainGlobals
 blt:X.env.builtins=builtinsNs
 above:X.s₀.heap.objs.size<=X.env.locals
 inj:∀ x y c,X.env.cells.lookup x=some c->X.env.cells.lookup y=some c->x=y
 has:∀ x,(X.env.kindOf x=some .cell\/X.env.kindOf x=some .free) -> ∃ c,X.env.cells.lookup x=some c
 cab:∀ x c,X.fn x=true->X.env.cells.lookup x=some c->X.s₀.heap.objs.size<=c
 hd:X.calm=true->X.A.handled=none
 frames:X.A.frames=some X.stack
 stk:X.stack=X.outer\/(X.stack=X.env::X.outer/\X.env.frame=some X.env.locals)
 exf:∀ b∈X.ex,b≠X.env.locals /\ ∀ x c,X.env.cells.lookup x=some c->c≠b
 bs:∀ b o,X.base.get? b=some o->X.s₀.heap.get? b=some o/\X.H₀ b=none
 bsz:X.base.objs.size<=X.s₀.heap.objs.size
 noex:∀ b o,X.base.get? b=some o->b∉X.ex
 exfs:∀ b∈X.ex,b∉X.fs
 funs:X.s₀.heap.FunFrames X.base X.outer
 frf:∀ b∈X.fs,X.H₀ b=none
structure Inv (X:Cx) (zB:Yd) (σ:List (Option V)) (H:Hp) (s:Yl):Prop where
 ok:X.Ok
 os:s.os=X.s₀.os
 bare:AllBare s.gens
 base:Un X.fs X.ex X.H₀ H X.s₀.heap s.heap
 loc:∃ m,s.heap.Ns X.env.locals m /\ ∀ (i:Nat) (x:Str) (v:V),X.N[i]?=some x->σ[i]?=some (some v)->Vis X.env.scope x -> ∃ u,zt v u/\zWd X.env s.heap m x u
 cell:∀ x c,X.env.cells.lookup x=some c -> ∃ v,s.heap.IsCell c v
 free:H X.env.locals=none
 freeC:∀ x c,X.env.cells.lookup x=some c->H c=none
 pin:∀ p∈X.pn++zB,s.heap.get? p.1=some p.2/\H p.1=none/\p.1≠X.env.locals/\p.1∉X.fs /\ ∀ v,p.2.data≠.cell v
 hok:HOk X.prog X.w H s.heap
 len:σ.length=X.N.length
section
variable {X:Cx} {zB:Yd} {σ:List (Option V)} {H H':Hp} {s:Yl} {h':Heap}
theorem Cx.Ok.nofr (ok:X.Ok) {b:Yt} {o:Obj} (e:X.base.get? b=some o):b∉X.fs:=λhb=>by
 have:=(ok.funs.mem hb).1;rw[e]at this;cases this
theorem Inv.bs (I:Inv X zB σ H s):∀ b o,X.base.get? b=some o->s.heap.get? b=some o/\H b=none:=λb o e=>
 ⟨I.base.keep b o (I.ok.bs b o e).1 (I.ok.bs b o e).2 (I.ok.nofr e) (I.ok.noex b o e),I.base.free b o (I.ok.bs b o e).1 (I.ok.bs b o e).2 (I.ok.noex b o e)⟩
theorem Inv.bk (I:Inv X zB σ H s):∀ b o,X.base.get? b=some o->s.heap.get? b=some o:=λb o e=>(I.bs b o e).1
theorem Inv.mod (I:Inv X zB σ H s):Mod X.K X.mg X.base:=I.ok.mod
theorem Inv.kIn (I:Inv X zB σ H s):X.K.In s.heap:=I.ok.mod.kin.keeps I.bk
theorem Inv.lt (I:Inv X zB σ H s):X.env.locals<s.heap.objs.size:=let ⟨_,hn,_⟩:=I.loc;hn.lt
theorem Inv.sz (I:Inv X zB σ H s):X.s₀.heap.objs.size<=s.heap.objs.size:=zXC I.ok.above (zZh I.lt)
theorem Inv.nofs (I:Inv X zB σ H s) {a:Yt} (h:s.heap.objs.size<=a):a∉X.fs:=λhb=>by
 obtain ⟨_,o,ho,_⟩:=I.ok.funs.mem hb;exact absurd (zXA (zWw ho) (zXC I.sz h)) (zXT _)
theorem Inv.cne (I:Inv X zB σ H s):∀ x c,X.env.cells.lookup x=some c->c≠X.env.locals:=λx c e z=>by
 obtain ⟨v,o,ho,hd⟩:=I.cell x c e;obtain ⟨m,⟨o',es,ep,ho',hd',_⟩,_⟩:=I.loc;rw[z,ho']at ho;cases ho;rw[hd']at hd;cases hd
theorem Inv.funs (I:Inv X zB σ H s):s.heap.FunFrames X.base X.outer:=by
 have all:∀ (l:List Env),(∀ b∈frs l,b∈X.fs)->X.s₀.heap.FunFrames X.base l->s.heap.FunFrames X.base l:=by
  intro l;induction l with
  |nil=>intro _ _;trivial
  |cons env r ih=>
   intro hs hl;obtain ⟨hk,⟨L,o,hf,hn,ho,hd⟩,hr⟩:=hl;have hL:L∈X.fs:=hs L (by unfold frs;rw[zZ8,hf];exact zWz);obtain ⟨sl,e⟩:=I.base.slot L o ho (I.ok.frf L hL) hL λz=>I.ok.exfs L z hL;exact ⟨hk,⟨L,_,hf,hn,e,hd⟩,ih (λb hb=>hs b (by unfold frs;rw[zZ8,hf];exact zWy _ hb)) hr⟩
 exact all X.outer (λ_ hb=>hb) I.ok.funs
theorem Inv.stack (I:Inv X zB σ H s):s.heap.FunFrames X.base X.stack:=by
 rcases I.ok.stk with e|⟨e,hf⟩
 .rw[e];exact I.funs
 .rw[e];obtain ⟨m,hn,_⟩:=I.loc;refine .cons (by rw[I.ok.kind];decide) hf hn ?_ I.funs;exact Heap.get?_none_of_le (zXC I.ok.bsz I.ok.above)
theorem Inv.stkSub (I:Inv X zB σ H s):∀ b∈frs X.stack,b∈X.env.locals::X.fs:=λb hb=>by
 rcases I.ok.stk with e|⟨e,hf⟩
 .rw[e]at hb;exact zWy _ hb
 .rw[e]at hb;unfold frs at hb;rw[zZ8,hf]at hb;exact hb
theorem Inv.stkFree (I:Inv X zB σ H s):∀ b∈frs X.stack,H b=none:=λb hb=>by
 rcases zWx.mp (I.stkSub b hb)with e|hb
 .rw[e];exact I.free
 .obtain ⟨_,o,ho,_⟩:=I.ok.funs.mem hb;exact I.base.free b o ho (I.ok.frf b hb) λz=>I.ok.exfs b z hb
theorem Inv.step {g':Array GenState} {t':Nat} {d':Drawn} {ch:Yg} (I:Inv X zB σ H s)
  (hch:∀ b∈ch,(b∈X.ex\/X.s₀.heap.objs.size<=b)/\b≠X.env.locals/\(∀ x c,X.env.cells.lookup x=some c->c≠b) /\ ∀ p∈X.pn++zB,p.1≠b)
  (keep:∀ b o,b≠X.env.locals->b∉X.fs->b∉ch->s.heap.get? b=some o->H b=none->h'.get? b=some o)
  (slot:∀ b o,b≠X.env.locals->b∈X.fs->b∉ch->s.heap.get? b=some o->H b=none -> ∃ sl,h'.get? b=some { o with slots:=sl }) (free:∀ b o,b∉ch->s.heap.get? b=some o->H b=none->H' b=none)
  (there:∀ b o,b∉ch->s.heap.get? b=some o -> ∃ o',h'.get? b=some o')
  (tups:∀ b xs,H b=some (.tup xs)->H' b=some (.tup xs)) (frzs:∀ b o u,H b=some (.frz o u)->H' b=some (.frz o u)) (tbls:∀ b ps,H b=some (.tbl ps) -> ∃ more,H' b=some (.tbl (ps++more)))
  (ns:∀ m,s.heap.Ns X.env.locals m->h'.Ns X.env.locals m) (hok:HOk X.prog X.w H' h') (hg:AllBare g') :
  Inv X zB σ H' { s with heap:=h',gens:=g',drawn:=d',toks:=t' }:=by
 have neL:∀ b o,X.s₀.heap.get? b=some o->b≠X.env.locals:=λb o e=>zW6 (zXA (zWw e) I.ok.above);have neC:∀ b o,X.s₀.heap.get? b=some o->b∉X.ex->b∉ch:=λb o e hx hb=>by
  rcases (hch b hb).1 with z|z
  .exact hx z
  .exact absurd (zXA (zWw e) z) (zXT _)
 have cellK:∀ x c,X.env.cells.lookup x=some c -> ∀ v,s.heap.IsCell c v->h'.IsCell c v:=λx c e v ⟨o,ho,hd⟩=>by
  have nch:c∉ch:=λz=>(hch c z).2.2.1 x c e rfl;by_cases hc:c∈X.fs
  .obtain ⟨sl,q⟩:=slot c o (I.cne x c e) hc nch ho (I.freeC x c e);exact ⟨_,q,hd⟩
  .exact ⟨o,keep c o (I.cne x c e) hc nch ho (I.freeC x c e),hd⟩
 refine ⟨I.ok,I.os,hg,⟨λb o e n hb hx=>?_,λb o e n hb hx=>?_,λb o e n hx=>?_,λb o e hx=>?_,λb xs e=>tups b xs (I.base.tups b xs e),λb o xs e=>frzs b o xs (I.base.frzs b o xs e),λb ps e=>?_⟩,?_,λx c e=>?_,?_,λx c e=>?_,λp hp=>?_,hok,I.len⟩
 .exact keep b o (neL b o e) hb (neC b o e hx) (I.base.keep b o e n hb hx) (I.base.free b o e n hx)
 .obtain ⟨sl,e1⟩:=I.base.slot b o e n hb hx;obtain ⟨sl',e2⟩:=slot b _ (neL b o e) hb (neC b o e hx) e1 (I.base.free b o e n hx);exact ⟨sl',e2⟩
 .obtain ⟨o',e1⟩:=I.base.there b o e hx;exact free b o' (neC b o e hx) e1 (I.base.free b o e n hx)
 .obtain ⟨o',e1⟩:=I.base.there b o e hx;exact there b o' (neC b o e hx) e1
 .obtain ⟨m1,e1⟩:=I.base.tbls b ps e;obtain ⟨m2,e2⟩:=tbls b _ e1;exact ⟨m1++m2,by rw[e2,Array.append_assoc]⟩
 .obtain ⟨m,hn,hl⟩:=I.loc;refine ⟨m,ns m hn,λi x v e1 e2 e3=>?_⟩;obtain ⟨u,r,l⟩:=hl i x v e1 e2 e3;refine ⟨u,r,?_⟩;rcases l with l|⟨k,c,e,z⟩
  .exact .inl l
  .exact .inr ⟨k,c,e,cellK x c e _ z⟩
 .obtain ⟨v,z⟩:=I.cell x c e;exact ⟨v,cellK x c e v z⟩
 .obtain ⟨m,⟨o,_,_,ho,_⟩,_⟩:=I.loc;exact free _ o (λz=>(hch _ z).2.1 rfl) ho I.free
 .obtain ⟨v,o,ho,hd⟩:=I.cell x c e;exact free c o (λz=>(hch c z).2.2.1 x c e rfl) ho (I.freeC x c e)
 .obtain ⟨e,n,ne,nf,d⟩:=I.pin p hp;have nch:p.1∉ch:=λz=>(hch p.1 z).2.2.2 p hp rfl;exact ⟨keep p.1 p.2 ne nf nch e n,free p.1 p.2 nch e n,ne,nf,d⟩
theorem Inv.un {t':Nat} (I:Inv X zB σ H s) (u:Un X.fs [] H H' s.heap h') (hok:HOk X.prog X.w H' h'):Inv X zB σ H' { s with heap:=h',toks:=t' }:=by
 obtain ⟨m,⟨o,es,ep,ho,r⟩,_⟩:=id I.loc;obtain ⟨sl,hL⟩:=u.any ho I.free (by simp);exact I.step (g':=s.gens) (d':=s.drawn) (ch:=[]) (λ_ z=>nomatch z) (λb o _ hb _ e n=>u.keep b o e n hb (by simp)) (λb o _ hb _ e n=>u.slot b o e n hb (by simp)) (λb o _ e n=>u.free b o e n (by simp)) (λb o _ e=>u.there b o e (by simp)) u.tups u.frzs u.tbls (λm' hm=>by
  obtain ⟨o',es',ep',ho',r'⟩:=hm;rw[ho]at ho';cases ho';exact ⟨_,es',ep',hL,r'⟩) hok I.bare
theorem Inv.call {g':Array GenState} {t':Nat} {d':Drawn} {ch:Yg} (I:Inv X zB σ H s) (u:Un (frs X.stack) ch H H' s.heap h') (hok:HOk X.prog X.w H' h') (hg:AllBare g')
  (hch:∀ b∈ch,(b∈X.ex\/X.s₀.heap.objs.size<=b)/\b≠X.env.locals/\(∀ x c,X.env.cells.lookup x=some c->c≠b) /\ ∀ p∈X.pn++zB,p.1≠b) :
  Inv X zB σ H' { s with heap:=h',gens:=g',drawn:=d',toks:=t' }:=by
 obtain ⟨m,⟨o,es,ep,ho,r⟩,_⟩:=id I.loc;obtain ⟨sl,hL⟩:=u.any ho I.free λz=>(hch _ z).2.1 rfl;exact I.step (ch:=ch) hch (λb o hL hb hc e n=>u.keep b o e n (λz=>(zWx.mp (I.stkSub b z)).elim hL hb) hc) (λb o _ _ hc e n=>u.any e n hc) (λb o hc e n=>u.free b o e n hc) (λb o hc e=>u.there b o e hc) u.tups u.frzs u.tbls (λm' hm=>by
  obtain ⟨o',es',ep',ho',r'⟩:=hm;rw[ho]at ho';cases ho';exact ⟨_,es',ep',hL,r'⟩) hok hg
theorem Inv.turned {t':Nat} {it:Yt} (I:Inv X zB σ H s) (k:∀ b o,b≠it->s.heap.get? b=some o->h'.get? b=some o) (hn:H it=none) (hL:it≠X.env.locals)
  (h1:it∈X.ex\/X.s₀.heap.objs.size<=it) (h2:∀ x c,X.env.cells.lookup x=some c->c≠it) (h3:∀ p∈X.pn++zB,p.1≠it):Inv X zB σ H { s with heap:=h',toks:=t' }:=by
 have nit:∀ b u,H b=some u->b≠it:=λb u e z=>by rw[z,hn]at e;cases e
 refine I.step (g':=s.gens) (d':=s.drawn) (ch:=[it]) (λb hb=>?_) (λb o _ _ hc e _=>k b o (λz=>hc (by simp[z])) e) (λb o _ _ hc e _=>⟨o.slots,k b o (λz=>hc (by simp[z])) e⟩) (λ_ _ _ _ n=>n)
  (λb o hc e=>⟨o,k b o (λz=>hc (by simp[z])) e⟩) (λ_ _ e=>e) (λ_ _ _ e=>e) (λb ps e=>⟨#[],by rw[e];simp⟩) (λm hm=>?_) (λb u e=>?_) I.bare
 .have e:b=it:=by simpa using hb
  subst e;exact ⟨h1,hL,h2,h3⟩
 .obtain ⟨o,es,ep,ho,r⟩:=hm;exact ⟨o,es,ep,k _ o (Ne.symm hL) ho,r⟩
 .refine (I.hok b u e).stay (λc v hc q=>k c v ?_ q) (λ_ q=>q) λ_ _ q=>q;rcases hc with z|z
  .rw[z];exact nit b u e
  .exact nit c _ z
theorem Inv.tok (I:Inv X zB σ H s) (t:Nat):Inv X zB σ H { s with toks:=t }:=I.un (h':=s.heap) (t':=t) Un.refl I.hok
theorem Inv.kept {t':Nat} (I:Inv X zB σ H s) (k:∀ b u,s.heap.get? b=some u->h'.get? b=some u):Inv X zB σ H { s with heap:=h',toks:=t' }:=I.un (Un.kept k) (I.hok.kept k)
theorem Inv.laid {a:Yt} {o:HO} {t':Nat} (I:Inv X zB σ H s) (k:∀ b u,s.heap.get? b=some u->h'.get? b=some u) (hp:s.heap.objs.size<=a) (new:zAs X.prog X.w (upd H a o) h' a o) :
  Inv X zB σ (upd H a o) { s with heap:=h',toks:=t' }:=I.un (Un.laid k hp (I.hok.fresh hp)) (I.hok.laid k hp new)
theorem Inv.write {x e:Yt} {o:HO} {t':Nat} (I:Inv X zB σ H s) (mu:Mut (H x)) (he:e=x\/H e=some (.own x)) (k:∀ b u,b≠e->s.heap.get? b=some u->h'.get? b=some u) (heo:∃ u,h'.get? e=some u)
  (new:zAs X.prog X.w (upd H x o) h' x o):Inv X zB σ (upd H x o) { s with heap:=h',toks:=t' }:=I.un (Un.write mu he k heo) (I.hok.write mu he k heo new)
theorem Inv.weak {σ':List (Option V)} (I:Inv X zB σ H s) (hl:σ'.length=σ.length) (w:∀ (i:Nat) v,σ'[i]?=some (some v)->σ[i]?=some (some v)):Inv X zB σ' H s :=
 ⟨I.ok,I.os,I.bare,I.base,let ⟨m,hn,hl'⟩:=I.loc;⟨m,hn,λi x v e1 e2 e3=>hl' i x v e1 (w i v e2) e3⟩,I.cell,I.free,I.freeC,I.pin,I.hok,hl.trans I.len⟩
theorem Inv.pins_of {pins':Yd} (I:Inv X zB σ H s) (h:∀ p∈pins',s.heap.get? p.1=some p.2/\H p.1=none/\p.1≠X.env.locals/\p.1∉X.fs /\ ∀ v,p.2.data≠.cell v):Inv X pins' σ H s :=
 ⟨I.ok,I.os,I.bare,I.base,I.loc,I.cell,I.free,I.freeC,λp hp=>(zXB.mp hp).elim (λz=>I.pin p (zX0 _ z)) (h p),I.hok,I.len⟩
theorem zKm {N:Yk} (hN:N.Nodup) {i j:Nat} {x:Str} (a:N[i]?=some x) (b:N[j]?=some x):i=j:=by
 obtain ⟨h1,e1⟩:=zWo.mp a;obtain ⟨h2,e2⟩:=zWo.mp b;exact (List.getElem_inj hN).mp (e1.trans e2.symm)
theorem zOw {M:Model} {A:Yn} {E:Yc} {i:Nat} {x:Str} {v:V} {u:Yu} {Q:Unit->Shared->Prop} (I:Inv X zB σ H s) (hN:X.N.Nodup) (hi:X.N[i]?=some x) (hx:Loc X.env.scope x) (r:zt v u)
  (h:∀ s',Inv X zB (σ.set i (some v)) H s'->(∃ a,Heap.SameBut a s.heap s'.heap/\(a=X.env.locals\/X.env.cells.lookup x=some a))->Q () s') (hf:X.fn x=true\/X.env.scope.names.lookup x=some .local:=by first|exact .inl rfl|exact .inr rfl|assumption):wpAny M A (storeName X.env x u) Q E s:=by
 obtain ⟨m,hn,hl⟩:=id I.loc;have hcls:(X.env.scope.kind == .class||(X.env.scope.kind == .module&&X.env.locals != X.env.globals))=false:=by rw[I.ok.kind];rfl
 have hiσ:i<σ.length:=by rw[I.len];exact (zWo.mp hi).1
 have cne:=I.cne;have tracked:∀ {a:Yt} {h':Heap},(∃ o,s.heap.get? a=some o/\H a=none)->Heap.SameBut a s.heap h'->HOk X.prog X.w H h':=λ{a h'} ha hs b ob e=>by
  obtain ⟨_,_,hfree⟩:=ha;refine (I.hok b ob e).stay (λc w' hc q=>(hs.2 c ?_).trans q) (λ_ q=>q) λ_ _ q=>q;rintro rfl;rcases hc with rfl|hc
  .rw[hfree]at e;cases e
  .rw[hfree]at hc;cases hc
 rcases hx with hk|hk
 .refine wpAny_storeName_local hk hn (λh' hn' hs=>?_) hcls;obtain ⟨oL,_,_,hoL,_⟩:=id hn;refine h _ ⟨I.ok,I.os,I.bare,⟨λb o e n hb hx=>?_,λb o e n hb hx=>?_,I.base.free,λb o e hx=>?_,I.base.tups,I.base.frzs,I.base.tbls⟩,⟨_,hn',λj y v' e1 e2 e3=>?_⟩,λy c e=>?_,I.free,I.freeC,λp hp=>?_,tracked ⟨oL,hoL,I.free⟩ hs,by simpa using I.len⟩ ⟨_,hs,.inl rfl⟩
  .exact (hs.2 b (zW6 (zXA (zWw e) I.ok.above))).trans (I.base.keep b o e n hb hx)
  .obtain ⟨sl,e1⟩:=I.base.slot b o e n hb hx;exact ⟨sl,(hs.2 b (zW6 (zXA (zWw e) I.ok.above))).trans e1⟩
  .obtain ⟨o',e1⟩:=I.base.there b o e hx;exact ⟨o',(hs.2 b (zW6 (zXA (zWw e) I.ok.above))).trans e1⟩
  .by_cases hj:j=i
   .subst hj;rw[hi]at e1;cases e1;rw[zXf hiσ]at e2;cases e2;exact ⟨u,r,.inl ⟨hk,by simp⟩⟩
   .rw[zXF (Ne.symm hj)]at e2;obtain ⟨u',r',q⟩:=hl j y v' e1 e2 e3;refine ⟨u',r',?_⟩;rcases q with ⟨k,e⟩|⟨k,c,e,z⟩
    .refine .inl ⟨k,?_⟩;have:y≠x:=λe=>hj (zKm hN e1 (e▸hi));simp[this,e]
    .exact .inr ⟨k,c,e,z.sameBut hs (cne y c e)⟩
  .obtain ⟨w',z⟩:=I.cell y c e;exact ⟨w',z.sameBut hs (cne y c e)⟩
  .obtain ⟨e,n,ne,nf,d⟩:=I.pin p hp;exact ⟨(hs.2 p.1 ne).trans e,n,ne,nf,d⟩
 .have hfn:X.fn x=true:=by
   rcases hf with z|z
   .exact z
   .rw[z]at hk;cases hk
  obtain ⟨c,hc⟩:=I.ok.has x (.inl hk);obtain ⟨w',z⟩:=I.cell x c hc;refine wpAny_storeName_cell I.ok.kind hk hc z (λh' hc' hs=>?_);obtain ⟨oc,hoc,hocd⟩:=id z;refine h { s with heap:=h' } ⟨I.ok,I.os,I.bare,⟨λb o e n hb hx=>?_,λb o e n hb hx=>?_,I.base.free,λb o e hx=>?_,I.base.tups,I.base.frzs,I.base.tbls⟩,⟨m,hn.sameBut hs (Ne.symm (cne x c hc)),λj y v' e1 e2 e3=>?_⟩,λy c' e=>?_,I.free,I.freeC,λp hp=>?_,tracked ⟨oc,hoc,I.freeC x c hc⟩ hs,by simpa using I.len⟩ ⟨c,hs,.inr hc⟩
  .exact (hs.2 b (zW6 (zXA (zWw e) (I.ok.cab x c hfn hc)))).trans (I.base.keep b o e n hb hx)
  .obtain ⟨sl,e1⟩:=I.base.slot b o e n hb hx;exact ⟨sl,(hs.2 b (zW6 (zXA (zWw e) (I.ok.cab x c hfn hc)))).trans e1⟩
  .obtain ⟨o',e1⟩:=I.base.there b o e hx;exact ⟨o',(hs.2 b (zW6 (zXA (zWw e) (I.ok.cab x c hfn hc)))).trans e1⟩
  .by_cases hj:j=i
   .subst hj;rw[hi]at e1;cases e1;rw[zXf hiσ]at e2;cases e2;exact ⟨u,r,.inr ⟨.inl hk,c,hc,hc'⟩⟩
   .rw[zXF (Ne.symm hj)]at e2;obtain ⟨u',r',q⟩:=hl j y v' e1 e2 e3;refine ⟨u',r',?_⟩;rcases q with q|⟨k,c',e,z'⟩
    .exact .inl q
    .refine .inr ⟨k,c',e,z'.sameBut hs ?_⟩;rintro rfl;exact hj (zKm hN e1 (I.ok.inj _ _ _ e hc▸hi))
  .by_cases hcc:c'=c
   .subst hcc;exact ⟨_,hc'⟩
   .obtain ⟨w2,z2⟩:=I.cell y c' e;exact ⟨w2,z2.sameBut hs hcc⟩
  .obtain ⟨e,n,ne,nf,d⟩:=I.pin p hp;refine ⟨(hs.2 p.1 ?_).trans e,n,ne,nf,d⟩;intro q;rw[q,hoc]at e;have q':oc=p.2:=zXl e;exact d w' (by rw[<-q'];exact hocd)
theorem zKG {M:Model} {A:Yn} {E:Yc} {i:Nat} {x:Str} {v:V} {u:Yu} {Q:Unit->Shared->Prop} (I:Inv X zB σ H s) (hN:X.N.Nodup) (hi:X.N[i]?=some x) (hx:Loc X.env.scope x) (r:zt v u)
  (h:∀ s',Inv X zB (σ.set i (some v)) H s'->Q () s') (hf:X.fn x=true\/X.env.scope.names.lookup x=some .local:=by first|exact .inl rfl|exact .inr rfl|assumption):wpAny M A (storeName X.env x u) Q E s :=
 zOw I hN hi hx r (λs' I' _=>h s' I') hf
theorem Inv.call' {s':Yl} {ch:Yg} (I:Inv X zB σ H s) (ho:s'.os=s.os) (u:Un (frs X.stack) ch H H' s.heap s'.heap) (hok:HOk X.prog X.w H' s'.heap) (hg:AllBare s'.gens)
  (hch:∀ b∈ch,(b∈X.ex\/X.s₀.heap.objs.size<=b)/\b≠X.env.locals/\(∀ x c,X.env.cells.lookup x=some c->c≠b) /\ ∀ p∈X.pn++zB,p.1≠b):Inv X zB σ H' s':=by
 obtain ⟨h',g',d',t',o'⟩:=s';have e:o'=s.os:=ho;subst e;exact I.call (g':=g') (t':=t') (d':=d') u hok hg hch
end
abbrev XK:=Value->Option Addr->Hp->Prop
abbrev St:=List (Option V)
abbrev VK:=V->Hp->Prop
abbrev TE:=St->Hp->VK->Prop
abbrev TT:=St->Hp->(Bool->Hp->Prop)->Prop
abbrev TA:=St->Hp->(List V->Hp->Prop)->Prop
structure Ends where
 nx:St->Hp->Prop
 rt:VK
 bk:St->Hp->Prop:=λ_ _=>False
 ct:St->Hp->Prop:=λ_ _=>False
abbrev TS:=Ends->St->Hp->Prop
def EP (X:Cx) (zB:Yd) (σ:St) (Q:VK) (u:Yu) (s':Yl):Prop:=∃ v H',Inv X zB σ H' s'/\zt v u/\Q v H'
def TP (X:Cx) (zB:Yd) (σ:St) (Q:Bool->Hp->Prop) (b:Bool) (s':Yl):Prop:=∃ H',Inv X zB σ H' s'/\Q b H'
def AP (X:Cx) (zB:Yd) (σ:St) (Q:List V->Hp->Prop) (us:Yf) (s':Yl):Prop:=∃ vs H',Inv X zB σ H' s'/\za vs us/\Q vs H'
def SP (X:Cx) (zB:Yd) (D:Ends) (f:Flow) (s':Yl):Prop :=
 match f with
 |.next=>∃ σ' H',Inv X zB σ' H' s'/\D.nx σ' H'
 |.brk=>∃ σ' H',Inv X zB σ' H' s'/\D.bk σ' H'
 |.cont=>∃ σ' H',Inv X zB σ' H' s'/\D.ct σ' H'
 |.ret u=>∃ v σ' H',Inv X zB σ' H' s'/\zt v u/\D.rt v H'
def PE (X:Cx) (e:Expr) (t:TE):Prop :=
 ∀ (zB:Yd) (s:Yl) (σ:St) (H:Hp) (Q:VK),Inv X zB σ H s->t σ H Q->wpAny (model X.prog X.w) X.A (eval e X.env) (EP X zB σ Q) X.xe s
def PT (X:Cx) (e:Expr) (t:TT):Prop :=
 ∀ (zB:Yd) (s:Yl) (σ:St) (H:Hp) (Q:Bool->Hp->Prop),Inv X zB σ H s->t σ H Q->wpAny (model X.prog X.w) X.A (isTrue e X.env (eval e X.env)) (TP X zB σ Q) X.xe s
def PW (X:Cx) (e:Expr) (t:TT):Prop :=
 ∀ (whole:Sem Value) (zB:Yd) (s:Yl) (σ:St) (H:Hp) (Q:Bool->Hp->Prop),Inv X zB σ H s->t σ H Q->wpAny (model X.prog X.w) X.A (isTrue e X.env whole) (TP X zB σ Q) X.xe s
theorem PW.pt {X:Cx} {e:Expr} {t:TT} (h:PW X e t):PT X e t:=h _
def PA (X:Cx) (es:Yi) (t:TA):Prop :=
 ∀ (pos:Pos) (zB:Yd) (s:Yl) (σ:St) (H:Hp) (Q:List V->Hp->Prop),Inv X zB σ H s->t σ H Q->wpAny (model X.prog X.w) X.A (spliced (backTo pos (starEach es X.env))) (AP X zB σ Q) X.xe s
def PS (X:Cx) (st:Stmt) (t:TS):Prop :=
 ∀ (zB:Yd) (s:Yl) (σ:St) (H:Hp) (D:Ends),Inv X zB σ H s->t D σ H->wpAny (model X.prog X.w) X.A (exec st X.env) (SP X zB D) X.xe s
def PSs (X:Cx) (st:Yy) (t:TS):Prop :=
 ∀ (zB:Yd) (s:Yl) (σ:St) (H:Hp) (D:Ends),Inv X zB σ H s->t D σ H->wpAny (model X.prog X.w) X.A (execs st X.env) (SP X zB D) X.xe s
theorem thn {α:Type} {t:Sem α} {Q Q':α->Shared->Prop} {M:Model} {A:Yn} {E:Yc} {s:Yl} (h:wpAny M A t Q E s) (hQ:∀ a s,Q a s->Q' a s):wpAny M A t Q' E s:=zXH h hQ λ_ _ x=>x
section
variable {X:Cx}
def zTD (i:Nat):TE:=λσ H Q=>∃ v,σ[i]?=some (some v)/\Q v H
def tC (v:V):TE:=λ_ H Q=>Q v H
theorem zUl {i:Nat} {x:Str} {pos:Pos} (hN:X.N[i]?=some x) (hv:Vis X.env.scope x) (hd:(x==("__debug__" : Str))=false:=by decide) (hcd:(x==("__classdict__" : Str))=false:=by decide):PE X (.Name x pos) (zTD i):=by
 intro zB s σ H Q I h;obtain ⟨v,e,h⟩:=h;obtain ⟨m,hn,hl⟩:=I.loc;obtain ⟨u,r,l⟩:=hl i x v hN e hv;have fin:EP X zB σ Q u s:=⟨v,H,I,r,h⟩;rcases l with ⟨hk,hm⟩|⟨hk,c,hc,hcell⟩
 .exact wpAny_Name (wpAny_loadName_local I.ok.kind hk hn hm fin) hd
 .rcases hk with hk|hk
  .exact wpAny_Name (wpAny_loadName_cell I.ok.kind hk hc hcell fin) hd
  .exact wpAny_Name (wpAny_loadName_free I.ok.kind hk hc hcell fin hcd) hd
theorem zTF {i j pos}:PE X (.Constant (.int i) j pos) (tC (.int i)):=λ_ _ _ H _ I h=>wpAny_Constant_int ⟨.int i,H,I.tok _,⟨_,rfl⟩,h⟩
theorem zVH {b j pos}:PE X (.Constant (.bool b) j pos) (tC (.bl b)):=λ_ _ _ H _ I h=>Constant_bool ⟨.bl b,H,I,rfl,h⟩
theorem zTP {x j pos}:PE X (.Constant (.str x) j pos) (tC (.str x)):=λ_ _ _ H _ I h=>Calls.Constant_str ⟨.str x,H,I.tok _,⟨_,rfl⟩,h⟩
def Gl (X:Cx) (x:Str):Prop:=X.env.kindOf x=some .globalImplicit
theorem zRX {E:Yc} {zB:Yd} {s:Yl} {σ:St} {H:Hp} {x:Str} {u:Yu} {pos:Pos} {Q:Yc} (I:Inv X zB σ H s) (hg:Gl X x) (hm:X.mg x=some u) (h:Q u s)
  (hd:(x==("__debug__" : Str))=false:=by decide):wpAny (model X.prog X.w) X.A (eval (.Name x pos) X.env) Q E s :=
 Calls.Name_function_global I.ok.kind hg (Calls.loadGlobal_global (by rw[I.ok.glob];exact I.mod.glob.keeps I.bk) hm h) hd
theorem zEG {E:Yc} {zB:Yd} {s:Yl} {σ:St} {H:Hp} {x:Str} {u:Yu} {pos:Pos} {Q:Yc} (I:Inv X zB σ H s) (hg:Gl X x) (hm:X.mg x=none) (hv:bootBuiltins x=some u) (h:Q u s)
  (hn:x ≠ "__name__" := by decide) (hd:(x==("__debug__" : Str))=false:=by decide):wpAny (model X.prog X.w) X.A (eval (.Name x pos) X.env) Q E s:=by
 obtain ⟨mb,h1,h2⟩:=I.mod.blt;exact Calls.Name_function_global I.ok.kind hg (Calls.loadGlobal_builtin (by rw[I.ok.glob];exact I.mod.glob.keeps I.bk) hm (by rw[I.ok.blt];exact h1.keeps I.bk) ((h2 x hn).trans hv) h) hd
variable {a b:Expr} {ta tb:TE} {pos:Pos}
def PC (X:Cx) (op:CmpOp) (a b:Expr) (t:TE):Prop :=
 ∀ (zB:Yd) (s:Yl) (σ:St) (H:Hp) (Q:VK),Inv X zB σ H s->t σ H Q ->
  wpAny (model X.prog X.w) X.A (eval a X.env) (λv s₁=>wpAny (model X.prog X.w) X.A (eval b X.env) (λu s₂=>wpAny (model X.prog X.w) X.A (compareOp op v u) (EP X zB σ Q) X.xe s₂) X.xe s₁) X.xe s
def tB (t:TE):TT:=λσ H Q=>t σ H λx H1=>∃ c,x=.bl c/\Q c H1
theorem zP3 {op:CmpOp} {t:TE} (h:PC X op a b t) (h1:behindInMarks op b=false:=by first|exact nobehind _ (by decide) (by decide)|rfl):PT X (.Compare a [op] [b] pos) (tB t):=by
 intro zB s σ H Q I hw;refine wpAny_isTrue_Compare1 (thn (h zB s σ H _ I hw) λv s1 h1=>thn h1 λu s2 h2=>thn h2 λc s3 ⟨x,H1,I1,r1,q1⟩=>?_) h1;obtain ⟨d,rfl,q⟩:=q1;cases r1;exact wpAny_truthy_bool ⟨H1,I1,q⟩
variable {tA tB':TT} {rest:Yi}
def zWV (t u:TT):TT:=λσ H Q=>t σ H λc H1=>if c=true then u σ H1 Q else Q false H1
def tOr (t u:TT):TT:=λσ H Q=>t σ H λc H1=>if c=true then Q true H1 else u σ H1 Q
theorem zRv (ha:PT X a tA):PW X (.BoolOp .And [a] pos) tA:=by
 intro wh zB s σ H Q I h;refine isTrue_and (thn (ha zB s σ H Q I h) λc s1 e=>?_);cases c with
 |true=>exact isTrue_and_nil e
 |false=>exact e
theorem zTg (ha:PT X a tA):PW X (.BoolOp .Or [a] pos) tA:=by
 intro wh zB s σ H Q I h;refine isTrue_or (thn (ha zB s σ H Q I h) λc s1 e=>?_);cases c with
 |false=>exact isTrue_or_nil e
 |true=>exact e
theorem zTj (ha:PT X a tA) (hb:PW X (.BoolOp .And (b::rest) pos) tB'):PW X (.BoolOp .And (a::b::rest) pos) (zWV tA tB'):=by
 intro wh zB s σ H Q I h;refine isTrue_and (thn (ha zB s σ H _ I h) λc s1 ⟨H1,I1,q1⟩=>?_);cases c with
 |true=>exact hb wh zB s1 σ H1 Q I1 q1
 |false=>exact ⟨H1,I1,q1⟩
theorem zU6 (ha:PT X a tA) (hb:PW X (.BoolOp .Or (b::rest) pos) tB'):PW X (.BoolOp .Or (a::b::rest) pos) (tOr tA tB'):=by
 intro wh zB s σ H Q I h;refine isTrue_or (thn (ha zB s σ H _ I h) λc s1 ⟨H1,I1,q1⟩=>?_);cases c with
 |true=>exact ⟨H1,I1,q1⟩
 |false=>exact hb wh zB s1 σ H1 Q I1 q1
def tIf (t:TT) (ta tb:TE):TE:=λσ H Q=>t σ H λc H1=>if c=true then ta σ H1 Q else tb σ H1 Q
theorem zQh {c:Expr} (hc:PT X c tA) (ha:PE X a ta) (hb:PE X b tb):PE X (.IfExp c a b pos) (tIf tA ta tb):=by
 intro zB s σ H Q I h;refine wpAny_IfExp (thn (hc zB s σ H _ I h) λd s1 ⟨H1,I1,q1⟩=>?_);cases d with
 |true=>exact ha zB s1 σ H1 Q I1 q1
 |false=>exact hb zB s1 σ H1 Q I1 q1
end
def SqL (K:Yb) (H:Hp) (a:Yt) (xs:List V):Prop :=
 Rd H a (.lst xs) \/
  ∃ (o:Obj) (its:Array Value) (n:Nat),K.lookup a=some o/\o.cls=.type "list" /\ o.dict=none/\o.data=.seq its n/\its.size<=sizeLine/\za xs its.toList
def SqT (K:Yb) (H:Hp) (a:Yt) (xs:List V):Prop :=
 Rd H a (.tup xs) \/
  ∃ (o:Obj) (its:Array Value) (n:Nat),K.lookup a=some o/\o.cls=.type "tuple" /\ o.data=.seq its n/\its.size<=sizeLine/\za xs its.toList
def zWM:Value->Option V
 |.none=>some .non
 |.bool b=>some (.bl b)
 |.int i _=>some (.int i)
 |.str x _=>some (.str x)
 |.bytes b _=>some (.byt b)
 |.float b _=>some (.flt b)
 |.ref a=>some (.ref a)
 |.type n=>some (.ty n)
 |_=>none
theorem zt.abs {x:V} {u:Yu} (r:zt x u):zWM u=some x:=by
 cases x with
 |non=>cases r;rfl
 |bl _=>cases r;rfl
 |int _=>obtain ⟨t,rfl⟩:=r;rfl
 |str _=>obtain ⟨t,rfl⟩:=r;rfl
 |byt _=>obtain ⟨t,rfl⟩:=r;rfl
 |flt _=>obtain ⟨t,rfl⟩:=r;rfl
 |ref _=>cases r;rfl
 |ty _=>cases r;rfl
theorem zt.inj {x y:V} {u:Yu} (r:zt x u) (q:zt y u):x=y:=zXl (r.abs.symm.trans q.abs)
theorem za.inj:∀ {xs ys:List V} {us:Yf},za xs us->za ys us->xs=ys
 |_,_,_,.nil,.nil=>rfl
 |_,_,_,.cons r t,.cons r' t'=>by rw[r.inj r',za.inj t t']
section
variable {X:Cx} {zB:Yd} {σ:St} {H:Hp} {s:Yl} {a:Yt} {xs ys:List V}
theorem SqL.of {K:Yb} (h:H a=some (.lst xs)):SqL K H a xs:=.inl (.inl h)
theorem SqT.of {K:Yb} (h:H a=some (.tup xs)):SqT K H a xs:=.inl (.inl h)
theorem Inv.list (I:Inv X zB σ H s) (h:SqL X.K H a xs):∃ its:List Value,za xs its/\PlainL s.heap a its.toArray/\xs.length<=sizeLine:=by
 rcases h with h|⟨o,its,n,hk,hc,hd,hs,hz,r⟩
 .obtain ⟨z,its,n,r,e⟩:=h.ok I.hok;exact ⟨its,r,⟨_,n,e,rfl,rfl,rfl⟩,z⟩
 .refine ⟨its.toList,r,⟨o,n,I.kIn a o hk,hc,hd,by simpa using hs⟩,?_⟩;have e:=r.length;simp only[zXU]at e;omega
theorem Inv.tuple (I:Inv X zB σ H s) (h:SqT X.K H a xs):∃ its:List Value,za xs its/\IsTup s.heap a its.toArray/\xs.length<=sizeLine:=by
 rcases h with h|⟨o,its,n,hk,hc,hs,hz,r⟩
 .obtain ⟨z,its,r,p⟩:=h.ok I.hok;exact ⟨its,r,p.tup,z⟩
 .refine ⟨its.toList,r,⟨o,I.kIn a o hk,hc,n,by simpa using hs⟩,?_⟩;have e:=r.length;simp only[zXU]at e;omega
theorem Inv.list_inj (I:Inv X zB σ H s) (h:SqL X.K H a xs) (h':SqL X.K H a ys):xs=ys:=by
 obtain ⟨its,r,⟨o,n,e,_,_,d⟩,_⟩:=I.list h;obtain ⟨its',r',⟨o',n',e',_,_,d'⟩,_⟩:=I.list h';rw[e]at e';cases e';rw[d]at d';injection d' with d1 _
 have:its=its':=by simpa using congrArg Array.toList d1
 subst this;exact r.inj r'
theorem Inv.tuple_inj (I:Inv X zB σ H s) (h:SqT X.K H a xs) (h':SqT X.K H a ys):xs=ys:=by
 obtain ⟨its,r,⟨o,e,_,n,d⟩,_⟩:=I.tuple h;obtain ⟨its',r',⟨o',e',_,n',d'⟩,_⟩:=I.tuple h';rw[e]at e';cases e';rw[d]at d';injection d' with d1 _
 have:its=its':=by simpa using congrArg Array.toList d1
 subst this;exact r.inj r'
end
abbrev Cx.wish (X:Cx) (E:Yc):Cx:={ X with xe:=E }
abbrev Cx.nox (X:Cx):Cx:=X.wish λ_ _=>False
theorem Cx.Ok.wish {X:Cx} (ok:X.Ok) (E:Yc):(X.wish E).Ok :=
 ⟨ok.mod,ok.kind,ok.glob,ok.blt,ok.above,ok.inj,ok.has,ok.cab,ok.hd,ok.frames,ok.stk,ok.exf,ok.bs,ok.bsz,ok.noex,ok.exfs,ok.funs,ok.frf⟩
theorem Cx.Ok.unwish {X:Cx} {E:Yc} (ok:(X.wish E).Ok):X.Ok :=
 ⟨ok.mod,ok.kind,ok.glob,ok.blt,ok.above,ok.inj,ok.has,ok.cab,ok.hd,ok.frames,ok.stk,ok.exf,ok.bs,ok.bsz,ok.noex,ok.exfs,ok.funs,ok.frf⟩
section
variable {X:Cx} {zB:Yd} {σ:St} {H:Hp} {s:Yl} {E:Yc}
theorem Inv.wish (I:Inv X zB σ H s) (E:Yc):Inv (X.wish E) zB σ H s:=⟨I.ok.wish E,I.os,I.bare,I.base,I.loc,I.cell,I.free,I.freeC,I.pin,I.hok,I.len⟩
theorem Inv.unwish (I:Inv (X.wish E) zB σ H s):Inv X zB σ H s:=⟨I.ok.unwish,I.os,I.bare,I.base,I.loc,I.cell,I.free,I.freeC,I.pin,I.hok,I.len⟩
theorem SP.unwish {D:Ends} {f:Flow} {s':Yl} (h:SP (X.wish E) zB D f s'):SP X zB D f s':=by
 cases f with
 |next=>obtain ⟨σ',H',I,q⟩:=h;exact ⟨σ',H',I.unwish,q⟩
 |brk=>obtain ⟨σ',H',I,q⟩:=h;exact ⟨σ',H',I.unwish,q⟩
 |cont=>obtain ⟨σ',H',I,q⟩:=h;exact ⟨σ',H',I.unwish,q⟩
 |ret u=>obtain ⟨v,σ',H',I,r,q⟩:=h;exact ⟨v,σ',H',I.unwish,r,q⟩
theorem PSs.nox {st:Yy} {t:TS} (h:PSs X.nox st t):PSs X st t:=λzB s σ H D I hw=>
 zXH (h zB s σ H D (I.wish _) hw) (λ_ _ q=>q.unwish) λ_ _ z=>False.elim z
end
section
variable {X:Cx} {st:Stmt} {rest:Yy} {t u:TS} {e:Expr} {te:TE} {pos:Pos}
def zU1:TS:=λD σ H=>D.nx σ H
def zWQ (t u:TS):TS:=λD σ H=>t { D with nx:=u D } σ H
theorem zSs:PSs X [] zU1:=λ_ _ σ H _ I h=>wpAny_execs_nil ⟨σ,H,I,h⟩
theorem zRO (h1:PS X st t) (h2:PSs X rest u):PSs X (st::rest) (zWQ t u):=by
 intro zB s σ H D I h;refine wpAny_execs_cons (thn (h1 zB s σ H { D with nx:=u D } I h) λf s1 q=>?_);cases f with
 |next=>
  obtain ⟨σ',H',I',q⟩:=q;exact h2 zB s1 σ' H' D I' q
 |ret v=>exact q
 |brk=>exact q
 |cont=>exact q
theorem zSe (h1:PS X st t):PSs X [st] t:=by
 intro zB s σ H D I h;refine wpAny_execs_cons (thn (h1 zB s σ H D I h) λf s1 q=>?_);cases f with
 |next=>exact wpAny_execs_nil q
 |ret v=>exact q
 |brk=>exact q
 |cont=>exact q
theorem Inv.quiet {zB:Yd} {σ:St} {H:Hp} {s:Yl} (I:Inv X zB σ H s):interactive X.env=false:=by simp[interactive,I.ok.kind]
def zUr (te:TE):TS:=λD σ H=>te σ H λ_ H1=>D.nx σ H1
theorem zSa (he:PE X e te) (hs:swapsWith e none pos.line X.env=pure false:=by rfl):PS X (.Expr e pos) (zUr te):=by
 intro zB s σ H D I h;exact wpAny_Expr_any (thn (he zB s σ H _ I h) λv s1 ⟨x,H1,I1,r1,q1⟩=>⟨σ,H1,I1,q1⟩) I.quiet hs
def zWX (te:TE):TS:=λD σ H=>te σ H D.rt
theorem zTZ (he:PE X e te):PS X (.Return (some e) pos) (zWX te):=by
 intro zB s σ H D I h;exact wpAny_Return_some (thn (he zB s σ H _ I h) λv s1 ⟨x,H1,I1,r1,q1⟩=>⟨x,σ,H1,I1,r1,q1⟩)
def zWH (c:TT) (t u:TS):TS:=λD σ H=>c σ H λb H1=>if b=true then t D σ H1 else u D σ H1
theorem zVw {c:Expr} {a b:Yy} {tc:TT} (hc:PT X c tc) (ha:PSs X a t) (hb:PSs X b u):PS X (.If c a b pos) (zWH tc t u):=by
 intro zB s σ H D I h;refine wpAny_If (thn (hc zB s σ H _ I h) λd s1 ⟨H1,I1,q1⟩=>?_);cases d with
 |true=>exact ha zB s1 σ H1 D I1 q1
 |false=>exact hb zB s1 σ H1 D I1 q1
end
abbrev TG:=V->St->Hp->(St->Hp->Prop)->Prop
abbrev TGs:=List V->St->Hp->(St->Hp->Prop)->Prop
def PG (X:Cx) (target:Expr) (t:TG):Prop :=
 ∀ (zB:Yd) (s:Yl) (σ:St) (H:Hp) (v:V) (u:Yu) (Q:St->Hp->Prop),Inv X zB σ H s->zt v u->t v σ H Q ->
  wpAny (model X.prog X.w) X.A (assign target X.env u) (λ_ s'=>∃ σ' H',Inv X zB σ' H' s'/\Q σ' H') X.xe s
def PGs (X:Cx) (ts:Yi) (t:TGs):Prop :=
 ∀ (zB:Yd) (s:Yl) (σ:St) (H:Hp) (vs:List V) (us:Yf) (Q:St->Hp->Prop),Inv X zB σ H s->za vs us->t vs σ H Q ->
  wpAny (model X.prog X.w) X.A (assignInOrder ((assignEach ts X.env).map (·.2)) us) (λ_ s'=>∃ σ' H',Inv X zB σ' H' s'/\Q σ' H') X.xe s
abbrev zTV:=V->V->V->Hp->(Hp->Prop)->Prop
def zVE (X:Cx) (t:zTV):Prop :=
 ∀ (zB:Yd) (s:Yl) (σ:St) (H:Hp) (o i v:V) (ov iv u:Yu) (Q:Hp->Prop),Inv X zB σ H s->zt o ov->zt i iv->zt v u->t o i v H Q ->
  wpAny (model X.prog X.w) X.A (setItem ov iv u) (λ_ s'=>∃ H',Inv X zB σ H' s'/\Q H') X.xe s
section
variable {X:Cx} {pos:Pos}
def zDo (i:Nat):TG:=λv σ H Q=>Q (σ.set i (some v)) H
theorem zKA {i:Nat} {x:Str} (hN:X.N.Nodup) (hi:X.N[i]?=some x) (hx:Loc X.env.scope x) (hf:X.fn x=true\/X.env.scope.names.lookup x=some .local:=by first|exact .inl rfl|exact .inr rfl|assumption):PG X (.Name x pos) (zDo i):=by
 intro zB s σ H v u Q I r h;exact wpAny_assign_Name (zKG I hN hi hx r (λs' I'=>⟨_,H,I',h⟩) hf)
def zU2:TGs:=λvs σ H Q=>vs=[]/\Q σ H
def zPD (t:TG) (u:TGs):TGs:=λvs σ H Q=>∃ v r,vs=v::r/\t v σ H λσ' H'=>u r σ' H' Q
theorem zSL:PGs X [] zU2:=by
 intro zB s σ H vs us Q I r h;obtain ⟨e,h⟩:=h;subst e;cases r;exact assignInOrder_nil ⟨σ,H,I,h⟩
theorem zPp {e:Expr} {es:Yi} {t:TG} {u:TGs} (h1:PG X e t) (h2:PGs X es u)
  (hs:(assignEach (e::es) X.env).map (·.2)=assign e X.env::(assignEach es X.env).map (·.2):=by rfl):PGs X (e::es) (zPD t u):=by
 intro zB s σ H vs us Q I r h;obtain ⟨v,vr,e1,h⟩:=h;subst e1;cases r with
 |cons r rr=>
  rw[hs];refine assignInOrder_cons (thn (h1 zB s σ H _ _ _ I r h) λ_ s1 ⟨σ1,H1,I1,q1⟩=>?_);exact h2 zB s1 σ1 H1 _ _ Q I1 rr q1
def zVT (K:Yb) (n:Nat) (t:TGs):TG:=λv σ H Q=>∃ a xs,v=.ref a/\SqT K H a xs/\xs.length=n/\t xs σ H Q
theorem zT4 {es:Yi} {k:Nat} {t:TGs} {n:Nat} (hc:X.calm=true) (h:PGs X es t)
  (hn:(assignEach es X.env).length=n:=by rfl) (hst:(assignEach es X.env).findIdx? (·.1)=none:=by rfl):PG X (.Tuple es k pos) (zVT X.K n t):=by
 intro zB s σ H v u Q I r hw;obtain ⟨a,xs,e1,hq,hl,hw⟩:=hw;subst e1;cases r;obtain ⟨its,rv,ht,hz⟩:=I.tuple hq;refine assign_Tuple_tuple (I.ok.hd hc) ht (by simp[hn,<-hl,rv.length]) hst λh' hx=>?_;have I1:Inv X zB σ H { s with heap:=h' }:=I.kept (t':=s.toks) λb o e=>hx b o (zW6 (zWw e)) e;exact h zB _ σ H xs _ Q I1 (by simpa using rv) hw
def zWN (to ti:TE) (t:zTV):TG:=λv σ H Q=>to σ H λo H1=>ti σ H1 λi H2=>t o i v H2 λH3=>Q σ H3
theorem zUI {o i:Expr} {to ti:TE} {t:zTV} (ho:PE X o to) (hi:PE X i ti) (hs:zVE X t)
  (ha:∀ v,assign (.Subscript o i pos) X.env v=(do
   let ov <- holding [v] (eval o X.env);let iv <- holding [v,ov] (eval i X.env);standAt pos;holding [v,ov,iv] (setItem ov iv v);release [v,ov,iv] []):=by intro _;rfl):PG X (.Subscript o i pos) (zWN to ti t):=by
 intro zB s σ H v u Q I r h;rw[ha];refine zWl (zXe (thn (ho zB s σ H _ I h) λov s1 ⟨x,H1,I1,r1,q1⟩=>?_));refine zWl (zXe (thn (hi zB s1 σ H1 _ I1 q1) λiv s2 ⟨y,H2,I2,r2,q2⟩=>?_));refine zWl (zXj (zWl (zXe (thn (hs zB s2 σ H2 x y v ov iv u _ I2 r1 r2 r q2) λ_ s3 ⟨H3,I3,q3⟩=>?_))));exact wpAny_release ⟨σ,H3,I3,q3⟩
def zPQ (te:TE) (g:TG):TS:=λD σ H=>te σ H λx H1=>g x σ H1 D.nx
theorem zPH {tg e:Expr} {te:TE} {g:TG} (he:PE X e te) (hg:PG X tg g) (hs:swapsWithSole [tg] e pos.line X.env=pure false:=by rfl) (hw:swappedStores [tg] e X.env=pure none:=by rfl)
  (h1:(assignEach [tg] X.env).map (·.2)=[assign tg X.env]:=by rfl):PS X (.Assign [tg] e pos) (zPQ te g):=by
 intro zB s σ H D I h;refine wpAny_Assign_stores (thn (he zB s σ H _ I h) λv s1 ⟨x,H1,I1,r1,q1⟩=>?_) hs hw;rw[h1];exact thn (hg zB s1 σ H1 x v _ I1 r1 q1) λ_ s2 q=>q
theorem zTf {i:Nat} {x:Str} {e:Expr} {te:TE} {pos':Pos} (hN:X.N.Nodup) (hi:X.N[i]?=some x) (hx:Loc X.env.scope x) (he:PE X e te) (hs:swapsWith e (some (.Name x pos')) pos.line X.env=pure false:=by rfl) (hf:X.fn x=true\/X.env.scope.names.lookup x=some .local:=by first|exact .inl rfl|exact .inr rfl|assumption) :
  PS X (.Assign [.Name x pos'] e pos) (zPQ te (zDo i)):=by
 intro zB s σ H D I h;refine wpAny_Assign_Name (thn (he zB s σ H _ I h) λv s1 ⟨y,H1,I1,r1,q1⟩=>?_) hs;exact zKG I1 hN hi hx r1 (λs2 I2=>⟨_,H1,I2,q1⟩) hf
def zPW (c:TT) (tb:TS):TS:=λD σ H=>∃ W:Nat->St->Hp->Prop,(∃ m,W m σ H) /\ ∀ m σ H,W m σ H ->
 c σ H λb H1=>if b=true then ∃ N:St->Hp->Prop,(∀ σ' H',N σ' H' -> ∃ m',m'<m/\W m' σ' H')/\tb { D with nx:=N,ct:=N,bk:=D.nx } σ H1 else D.nx σ H1
theorem zQM {c:Expr} {body:Yy} {tc:TT} {tb:TS} (hp:PassesOwn (model X.prog X.w) X.A X.env X.xe) (hc:PT X c tc) (hb:PSs X body tb):PS X (.While c body [] pos) (zPW tc tb):=by
 intro zB s σ H D I h;obtain ⟨W,⟨m0,w0⟩,turn⟩:=h;refine wpAny_While (codeAny_whileLoop (λn s'=>∃ σ' H',Inv X zB σ' H' s'/\W n σ' H') ?_ m0 ⟨σ,H,I,w0⟩);rintro n s1 ⟨σ1,H1,I1,w1⟩;refine wpAny_passesOwn hp (thn (hc zB s1 σ1 H1 _ I1 (turn n σ1 H1 w1)) λb s2 ⟨H2,I2,q2⟩=>?_);cases b with
 |true=>
  obtain ⟨N,hN,q2⟩:=q2;rw[zW0 rfl];refine wpAny_passesOwn hp (thn (hb zB s2 σ1 H2 _ I2 q2) λf s3 q3=>?_);cases f with
  |next=>
   obtain ⟨σ3,H3,I3,n3⟩:=q3;obtain ⟨m',hm,w3⟩:=hN σ3 H3 n3;exact ⟨m',hm,σ3,H3,I3,w3⟩
  |cont=>
   obtain ⟨σ3,H3,I3,n3⟩:=q3;obtain ⟨m',hm,w3⟩:=hN σ3 H3 n3;exact ⟨m',hm,σ3,H3,I3,w3⟩
  |brk=>exact q3
  |ret v=>exact q3
 |false=>
  rw[zW3 zW7];exact wpAny_execs_nil ⟨σ1,H2,I2,q2⟩
end
structure It where
 go:Nat->Hp->Prop
 yld:Nat->Hp->V->Hp->Prop
 stop:Nat->Hp->Prop
def zCI (X:Cx) (zB:Yd) (H:Hp) (b:Yt):Prop :=
 H b=none/\b≠X.env.locals/\b∉X.fs/\(b∈X.ex\/X.s₀.heap.objs.size<=b)/\(∀ x c,X.env.cells.lookup x=some c->c≠b) /\ ∀ p∈X.pn++zB,p.1≠b
theorem Inv.fpOk {X:Cx} {zB:Yd} {σ:St} {H H':Hp} {s:Yl} {b:Yt} (I:Inv X zB σ H s) (hb:s.heap.objs.size<=b) (hn:H' b=none):zCI X zB H' b:=by
 refine ⟨hn,zYG (zXA I.lt hb),I.nofs hb,.inr (zXC I.sz hb),λx c e z=>?_,λp hp z=>?_⟩
 .obtain ⟨v,q⟩:=I.cell x c e;exact absurd (zXA q.lt (by rw[z];exact hb)) (zXT _)
 .exact absurd (zXA (zWw (I.pin p hp).1) (by rw[z];exact hb)) (zXT _)
structure Turn (P:Ym) (w:Yo) (K:Yb) (tg:Expr) (J:It) (fp:Yg) (it:Yt) (tn:Nat->Heap->Prop):Prop where
 mem:it∈fp
 obj:∀ i h,tn i h -> ∀ b∈fp,∃ o,h.get? b=some o /\ ∀ v,o.data≠.cell v
 keep:∀ i h h',tn i h->(∀ b∈fp,∀ o,h.get? b=some o->h'.get? b=some o)->tn i h'
 item:∀ (X:Cx),X.prog=P->X.w=w->X.K=K->X.calm=true -> ∀ (i:Nat) (zB:Yd) (s:Yl) (σ:St) (H:Hp) (E:Yc),Inv X zB σ H s->(∀ b∈fp,zCI X zB H b)->tn i s.heap->J.go i H ->
  wpAny (model P w) X.A (pyNext (.ref it)) (λr s1=>∃ u,r=some u /\
   wpAny (model P w) X.A (letOwnedTupleGo tg (.ref it) u) (λ_ s2=>∃ x H',Inv X zB σ H' s2/\zt x u/\J.yld i H x H'/\tn (i+1) s2.heap /\ ∀ b∈fp,H' b=none) E s1) E s
 done:∀ (X:Cx),X.prog=P->X.w=w->X.K=K->X.calm=true -> ∀ (i:Nat) (zB:Yd) (s:Yl) (σ:St) (H:Hp) (E:Yc),Inv X zB σ H s->(∀ b∈fp,zCI X zB H b)->tn i s.heap->J.stop i H ->
  wpAny (model P w) X.A (pyNext (.ref it)) (λr s1=>r=none/\Inv X zB σ H s1) E s
 self:∀ (A:Yn) (i:Nat) (s:Yl) (Q:Yc) (E:Yc),tn i s.heap->Q (.ref it) s->wpAny (model P w) A (pyIter (.ref it)) Q E s
abbrev TI:=St->Hp->(It->Hp->Prop)->Prop
def PIE (X:Cx) (zB:Yd) (σ:St) (tg:Expr) (R:It->Hp->Prop) (itv:Yu) (s2:Yl):Prop :=
 ∃ (it:Yt) (fp:Yg) (tn:Nat->Heap->Prop) (J:It) (H':Hp),itv=.ref it/\Inv X zB σ H' s2/\Turn X.prog X.w X.K tg J fp it tn/\tn 0 s2.heap/\(∀ b∈fp,zCI X zB H' b)/\R J H'
def PI (X:Cx) (tg iter:Expr) (wi:TI):Prop :=
  ∀ (zB:Yd) (s:Yl) (σ:St) (H:Hp) (R:It->Hp->Prop),Inv X zB σ H s->wi σ H R ->
    wpAny (model X.prog X.w) X.A (eval iter X.env) (λv s1=>wpAny (model X.prog X.w) X.A (pyIter v) (PIE X zB σ tg R) X.xe s1) X.xe s
theorem zPb {M:Model} {A:Yn} {E:Yc} {s:Yl} {tg:Expr} {it:Yt} {u:Yu} {o:Obj} {n:String} {vs:Yp} {Q:Unit->Shared->Prop} (ho:s.heap.get? it=some o) (hc:o.cls=.type n) (hd:o.data=.fields vs)
    (hn:["enumerate", "zip", "dict_itemiterator", "dict_reverseitemiterator", "odict_iterator", "itertools.zip_longest", "itertools.pairwise"].contains n=false) (hQ:Q () s):wpAny M A (letOwnedTupleGo tg (.ref it) u) Q E s:=by
  unfold letOwnedTupleGo
  cases tg <;> first
    |exact zWn hQ
    | (cases u <;> first
        |exact zWn hQ
        | (refine zWl (wpAny_load ho ?_)
           rw[hc,hd];show wpAny M A (if (["enumerate", "zip", "dict_itemiterator", "dict_reverseitemiterator", "odict_iterator", "itertools.zip_longest", "itertools.pairwise"].contains n&&vs[0]?==some (rawInt _))=true then _ else _) Q E s;rw[zW3 (by intro h;rw[hn,Bool.false_and]at h;cases h)];exact zWn hQ))
def Itl (K:Yb) (a:Yt):It :=
 ⟨λi H=>∃ xs x,SqL K H a xs/\xs[i]?=some x,λi H x H'=>H'=H /\ ∀ xs,SqL K H a xs->xs[i]?=some x,λi H=>∃ xs,SqL K H a xs/\xs.length<=i⟩
def Itt (K:Yb) (a:Yt):It :=
 ⟨λi H=>∃ xs x,SqT K H a xs/\xs[i]?=some x,λi H x H'=>H'=H /\ ∀ xs,SqT K H a xs->xs[i]?=some x,λi H=>∃ xs,SqT K H a xs/\xs.length<=i⟩
def Itr (lo:Int) (n:Nat):It:=⟨λi _=>i<n,λi H x H'=>H'=H/\x=.int (lo+i),λi _=>n<=i⟩
theorem zOv {P:Ym} {w:Yo} {K:Yb} {tg:Expr} (a it:Yt):Turn P w K tg (Itl K a) [it] it (λi h=>h.IsListIter it a i) where
 mem:=by simp
 obj:=λi h st b hb=>by
  have e:b=it:=by simpa using hb
  subst e;obtain ⟨o,e,c,d⟩:=st;exact ⟨o,e,λv z=>by rw[d]at z;cases z⟩
 keep:=λi h h' st k=>st.at λo e=>k it (by simp) o e;item:=by
  intro X hP hw hK hc i zB s σ H E I hf st hg;subst hP hw hK;obtain ⟨xs,x,hq,hx⟩:=hg;obtain ⟨its,rv,p,hz⟩:=I.list hq;obtain ⟨u,hu,ru⟩:=rv.get hx;obtain ⟨f0,f1,f2,f3,f4,f5⟩:=hf it (by simp);refine wpAny_pyNext_list_item st p.isList (x:=u) (by simpa using hu) λh' st' sb=>?_;have I1:Inv X zB σ H { s with heap:=h' }:=I.turned (t':=s.toks) (λb o hb e=>(sb.2 b hb).trans e) f0 f1 f3 f4 f5;obtain ⟨o,e,c,d⟩:=id st';exact ⟨u,rfl,zPb (s:={ s with heap:=h' }) e c d (by decide) ⟨x,H,I1,ru,⟨rfl,λys hy=>by rw[I.list_inj hy hq];exact hx⟩,st',λb hb=>(hf b hb).1⟩⟩
 done:=by
  intro X hP hw hK hc i zB s σ H E I hf st hg;subst hP hw hK;obtain ⟨xs,hq,hx⟩:=hg;obtain ⟨its,rv,p,hz⟩:=I.list hq;obtain ⟨f0,f1,f2,f3,f4,f5⟩:=hf it (by simp);have hl:=rv.length;exact wpAny_pyNext_list_end (I.ok.hd hc) st p.isList (by simp;omega) λh' eb=>⟨rfl,I.turned (t':=s.toks) (λb o hb e=>eb b o hb e) f0 f1 f3 f4 f5⟩
 self:=λ_ _ _ _ _ st h=>wpAny_pyIter_listiter st h
theorem zL3 {P:Ym} {w:Yo} {K:Yb} {tg:Expr} (a it:Yt):Turn P w K tg (Itt K a) [it] it (λi h=>h.IsTupleIter it a i) where
 mem:=by simp
 obj:=λi h st b hb=>by
  have e:b=it:=by simpa using hb
  subst e;obtain ⟨o,e,c,d⟩:=st;exact ⟨o,e,λv z=>by rw[d]at z;cases z⟩
 keep:=λi h h' st k=>st.at λo e=>k it (by simp) o e;item:=by
  intro X hP hw hK hc i zB s σ H E I hf st hg;subst hP hw hK;obtain ⟨xs,x,hq,hx⟩:=hg;obtain ⟨its,rv,p,hz⟩:=I.tuple hq;obtain ⟨u,hu,ru⟩:=rv.get hx;obtain ⟨f0,f1,f2,f3,f4,f5⟩:=hf it (by simp);refine wpAny_pyNext_tuple_item st (show s.heap.IsTuple a its.toArray from p) (x:=u) (by simpa using hu) λh' st' sb=>?_;have I1:Inv X zB σ H { s with heap:=h' }:=I.turned (t':=s.toks) (λb o hb e=>(sb.2 b hb).trans e) f0 f1 f3 f4 f5;obtain ⟨o,e,c,d⟩:=id st';exact ⟨u,rfl,zPb (s:={ s with heap:=h' }) e c d (by decide) ⟨x,H,I1,ru,⟨rfl,λys hy=>by rw[I.tuple_inj hy hq];exact hx⟩,st',λb hb=>(hf b hb).1⟩⟩
 done:=by
  intro X hP hw hK hc i zB s σ H E I hf st hg;subst hP hw hK;obtain ⟨xs,hq,hx⟩:=hg;obtain ⟨its,rv,p,hz⟩:=I.tuple hq;obtain ⟨f0,f1,f2,f3,f4,f5⟩:=hf it (by simp);have hl:=rv.length;exact wpAny_pyNext_tuple_end (I.ok.hd hc) st (show s.heap.IsTuple a its.toArray from p) (by simp;omega) λh' eb=>⟨rfl,I.turned (t':=s.toks) (λb o hb e=>eb b o hb e) f0 f1 f3 f4 f5⟩
 self:=λ_ _ _ _ _ st h=>wpAny_pyIter_tupleiter st h
theorem zMa {P:Ym} {w:Yo} {K:Yb} {tg:Expr} (it:Yt) (lo:Int) (n:Nat):Turn P w K tg (Itr lo n) [it] it (λi h=>IsRangeIter h it (lo+(i:Nat)*1) ((n:Int)-(i:Nat)) 1) where
 mem:=by simp
 obj:=λi h st b hb=>by
  have e:b=it:=by simpa using hb
  subst e;exact ⟨_,st,λv z=>by
   have z':Data.fields _=Data.cell v:=z;cases z'⟩
 keep:=λi h h' st k=>k it (by simp) _ st;item:=by
  intro X hP hw hK hc i zB s σ H E I hf st hg;subst hP hw hK;obtain ⟨f0,f1,f2,f3,f4,f5⟩:=hf it (by simp);have W:=Walks.range (prog:=X.prog) (w:=X.w) (I.ok.hd hc) it lo 1 n;refine W.item i s _ _ hg st λv h' tk hv st' kk=>?_;obtain ⟨t,rfl⟩:=hv;have I1:Inv X zB σ H { s with heap:=h',toks:=tk }:=I.turned (λb o hb e=>kk b o (by simpa using hb) e) f0 f1 f3 f4 f5;refine ⟨_,rfl,zPb (s:={ s with heap:=h',toks:=tk }) (n := "range_iterator") st' rfl rfl (by decide) ⟨.int (lo+i),H,I1,⟨t,?_⟩,⟨rfl,rfl⟩,st',λb hb=>(hf b hb).1⟩⟩;rw[Int.mul_one]
 done:=by
  intro X hP hw hK hc i zB s σ H E I hf st hg;subst hP hw hK;obtain ⟨f0,f1,f2,f3,f4,f5⟩:=hf it (by simp);exact wpAny_pyNext_range_end (I.ok.hd hc) st (by have:n<=i:=hg;omega) λh' eb=>⟨rfl,I.turned (t':=s.toks) (λb o hb e=>eb b o hb e) f0 f1 f3 f4 f5⟩
 self:=λ_ _ _ _ _ st h=>wpAny_pyIter_rangeiter st h
section
variable {X:Cx} {tg:Expr}
theorem zQb {zB:Yd} {σ:St} {H:Hp} {s:Yl} {R:It->Hp->Prop} {E:Yc} {lo hi:Int} {t u v:Tok} {tk:Nat} (I:Inv X zB σ H s) (h1 : -(2 ^ 62)<=lo) (h2:lo<2 ^ 62) (h3 : -(2 ^ 62)<=hi) (h4:hi<2 ^ 62)
  (q:R (Itr lo (hi-lo).toNat) H):wpAny (model X.prog X.w) X.A (pyIter (.ref s.heap.objs.size)) (PIE X zB σ tg R) E { s with heap:=s.heap.push { cls:=.type "range", data:=.fields #[.int lo t,.int hi u,.int 1 v] },toks:=tk }:=by
 refine wpAny_pyIter_range (IsRange.new ..) (small_one h1 h2 h3 h4) ?_;have I1:Inv X zB σ H { s with heap:=s.heap.push { cls:=.type "range", data:=.fields #[.int lo t,.int hi u,.int 1 v] },toks:=tk }:=I.kept λb o e=>zWm _ e
 refine ⟨(s.heap.push { cls:=.type "range", data:=.fields #[.int lo t,.int hi u,.int 1 v] }).objs.size,[(s.heap.push { cls:=.type "range", data:=.fields #[.int lo t,.int hi u,.int 1 v] }).objs.size],_,_,H,rfl,
  I1.kept (t':=tk) λb o e=>zWm _ e,zMa _ lo (hi-lo).toNat,?_,λb hb=>?_,q⟩
 .have e1:lo+((0:Nat):Int)*1=lo:=by simp
  have e2:(((hi-lo).toNat:Nat):Int)-((0:Nat):Int)=Builtin.Range.rangeSize lo hi 1:=by rw[rangeSize_one];split <;> omega
  show IsRangeIter _ _ (lo+((0:Nat):Int)*1) ((((hi-lo).toNat:Nat):Int)-((0:Nat):Int)) 1;rw[e1,e2];exact zWv _ rfl
 .have e:b=(s.heap.push { cls:=.type "range", data:=.fields #[.int lo t,.int hi u,.int 1 v] }).objs.size:=by simpa using hb
  subst e;exact I1.fpOk (zWr _) (I1.hok.fresh (zWr _))
def zVI (ta:TA):TI:=λσ H R=>ta σ H λvs H1=>∃ j:Int,vs=[.int j] /\ -(2 ^ 62)<=j/\j<2 ^ 62/\R (Itr 0 j.toNat) H1
theorem zNe {a:Expr} {ta:TA} {p pos:Pos} (hg:Gl X "range") (hm:X.mg "range" = none) (ha:PA X [a] ta) (hs:starEach [a] X.env=[(false,eval a X.env)]:=by rfl):PI X tg (.Call (.Name "range" p) [a] [] pos) (zVI ta):=by
 intro zB s σ H R I h;refine Call_ (zEG I hg hm boot_range (PyProof.Rows.callWith_type1 (thn (ha pos zB s σ H _ I h) λus s1 ⟨vs,H1,I1,r1,q1⟩=>?_) hs rfl));obtain ⟨j,e,q1,q2,q⟩:=q1;subst e;cases r1 with
 |cons r rr=>
  cases rr;obtain ⟨t,rfl⟩:=r;exact call_range_1 (zQb I1 (by omega) (by omega) q1 q2 (by simpa using q))
def zVu (wi:TI) (g:TG) (tb:TS):TS:=λD σ H=>wi σ H λJ H1=>∃ W:Nat->Nat->St->Hp->Prop,(∃ m,W 0 m σ H1) /\ ∀ i m σ H,W i m σ H ->
 (J.stop i H/\D.nx σ H)\/(J.go i H /\ ∃ N:St->Hp->Prop,(∀ σ' H',N σ' H' -> ∃ m',m'<m/\W (i+1) m' σ' H') /\ ∀ x H',J.yld i H x H'->g x σ H' λσ2 H2=>tb { D with nx:=N,ct:=N,bk:=D.nx } σ2 H2)
def zC9 (fp:Yg) (h:Heap):List (Addr × Obj):=fp.filterMap λb=>(h.get? b).map λo=>(b,o)
theorem zAY {fp:Yg} {h:Heap} {b:Yt} {o:Obj} (hb:b∈fp) (e:h.get? b=some o):(b,o)∈zC9 fp h:=List.mem_filterMap.mpr ⟨b,hb,by rw[e];rfl⟩
theorem zIh {fp:Yg} {h:Heap} {p:Addr × Obj} (hp:p∈zC9 fp h):p.1∈fp/\h.get? p.1=some p.2:=by
 obtain ⟨b,hb,e⟩:=List.mem_filterMap.mp hp;cases q:h.get? b with
 |none=>rw[q]at e;cases e
 |some o=>
  rw[q]at e;have e':(b,o)=p:=zXl e;subst e';exact ⟨hb,q⟩
theorem Inv.pinned {zB:Yd} {σ:St} {H:Hp} {s:Yl} {fp:Yg} (I:Inv X zB σ H s) (hf:∀ b∈fp,zCI X zB H b) (ho:∀ b∈fp,∃ o,s.heap.get? b=some o /\ ∀ v,o.data≠.cell v):Inv X (zB++zC9 fp s.heap) σ H s :=
 I.pins_of λp hp=>(zXB.mp hp).elim (λz=>I.pin p (zW5 _ z)) λz=>by
  obtain ⟨hb,e⟩:=zIh z;obtain ⟨f0,f1,f2,_⟩:=hf p.1 hb;obtain ⟨o,e',d⟩:=ho p.1 hb;rw[e]at e';cases e';exact ⟨e,f0,f1,f2,d⟩
theorem Inv.unpinned {zB pl:Yd} {σ:St} {H:Hp} {s:Yl} (I:Inv X (zB++pl) σ H s):Inv X zB σ H s:=I.pins_of λp hp=>I.pin p (zW5 _ (zX0 _ hp))
theorem zUA {iter:Expr} {body:Yy} {wi:TI} {g:TG} {tb:TS} {pos:Pos} (hp:PassesOwn (model X.prog X.w) X.A X.env X.xe) (hc:X.calm=true) (hi:PI X tg iter wi) (hg:PG X tg g) (hb:PSs X body tb)
  (hs:∀ x,foldedSetIterable iter X.env x=pure x:=by intro _;rfl):PS X (.For tg iter body [] pos) (zVu wi g tb):=by
 intro zB s σ H D I h;refine wpAny_For (thn (hi zB s σ H _ I h) λv s1 h1=>thn h1 λitv s2 h2=>?_) hs;obtain ⟨it,fp,tn,J,H2,e,I2,T,st2,f2,W,⟨m0,w0⟩,turn⟩:=h2;subst e;have stat:∀ {H':Hp},(∀ b∈fp,H' b=none) -> ∀ b∈fp,zCI X zB H' b:=λhn b hb=>⟨hn b hb,(f2 b hb).2⟩;refine codeAny_forLoop_any (λn s'=>∃ i σ' H',Inv X zB σ' H' s'/\tn i s'.heap/\(∀ b∈fp,H' b=none)/\W i n σ' H') ?_ m0 ⟨0,σ,H2,I2,st2,λb hb=>(f2 b hb).1,w0⟩;rintro n s3 ⟨i,σ3,H3,I3,st3,fr3,w3⟩;rcases turn i n σ3 H3 w3 with ⟨stop,qn⟩|⟨go,N,hN,step⟩
 .refine wpAny_passesOwn hp (thn (T.done X rfl rfl rfl hc i zB s3 σ3 H3 X.xe I3 (stat fr3) st3 stop) λr s4 ⟨hr,I4⟩=>?_);subst hr;exact wpAny_execs_nil ⟨σ3,H3,I4,qn⟩
 .refine wpAny_passesOwn hp (thn (T.item X rfl rfl rfl hc i zB s3 σ3 H3 X.xe I3 (stat fr3) st3 go) λr s4 ⟨u,hr,h4⟩=>?_);subst hr;refine wpAny_passesOwn hp (thn h4 λ_ s5 ⟨x,H5,I5,r5,y5,st5,fr5⟩=>?_);have I5':=I5.pinned (stat fr5) (T.obj _ _ st5);refine wpAny_passesOwn hp (thn (hg _ s5 σ3 H5 x u _ I5' r5 (step x H5 y5)) λ_ s6 ⟨σ6,H6,I6,q6⟩=>?_);refine wpAny_passesOwn hp (thn (hb _ s6 σ6 H6 _ I6 q6) λf s7 q7=>?_);have again:∀ {σ7:St} {H7:Hp},Inv X (zB++zC9 fp s5.heap) σ7 H7 s7->N σ7 H7 -> ∃ m,m<n /\ ∃ i σ' H',Inv X zB σ' H' s7/\tn i s7.heap/\(∀ b∈fp,H' b=none)/\W i m σ' H':=λ{σ7 H7} I7 n7=>by
   obtain ⟨m',hm,w7⟩:=hN σ7 H7 n7;refine ⟨m',hm,i+1,σ7,H7,I7.unpinned,T.keep _ _ _ st5 λb hb o e=>(I7.pin (b,o) (zW5 _ (zW5 _ (zAY hb e)))).1,λb hb=>?_,w7⟩;obtain ⟨o,e,d⟩:=T.obj _ _ st5 b hb;exact (I7.pin (b,o) (zW5 _ (zW5 _ (zAY hb e)))).2.1
  cases f with
  |next=>obtain ⟨σ7,H7,I7,n7⟩:=q7;exact again I7 n7
  |cont=>obtain ⟨σ7,H7,I7,n7⟩:=q7;exact again I7 n7
  |brk=>obtain ⟨σ7,H7,I7,q7⟩:=q7;exact ⟨σ7,H7,I7.unpinned,q7⟩
  |ret v=>obtain ⟨x7,σ7,H7,I7,r7,q7⟩:=q7;exact ⟨x7,σ7,H7,I7.unpinned,r7,q7⟩
end
abbrev R2:=V->V->Hp->VK->Prop
def OpR (X:Cx) (f:Y2) (r:R2):Prop :=
 ∀ (zB:Yd) (s:Yl) (σ:St) (H:Hp) (x y:V) (v u:Yu) (Q:VK),Inv X zB σ H s->zt x v->zt y u->r x y H Q ->
  wpAny (model X.prog X.w) X.A (f v u) (EP X zB σ Q) X.xe s
def UnR (X:Cx) (f:Value->Sem Value) (r:V->Hp->VK->Prop):Prop :=
 ∀ (zB:Yd) (s:Yl) (σ:St) (H:Hp) (x:V) (v:Yu) (Q:VK),Inv X zB σ H s->zt x v->r x H Q ->
  wpAny (model X.prog X.w) X.A (f v) (EP X zB σ Q) X.xe s
def zDK (X:Cx) (f:Yu) (r:List V->Hp->VK->Prop):Prop :=
 ∀ (zB:Yd) (s:Yl) (σ:St) (H:Hp) (xs:List V) (us:Yf) (Q:VK),Inv X zB σ H s->za xs us->r xs H Q ->
  wpAny (model X.prog X.w) X.A (call f us) (EP X zB σ Q) X.xe s
def zWZ (X:Cx) (r:V->Hp->(Bool->Hp->Prop)->Prop):Prop :=
 ∀ (zB:Yd) (s:Yl) (σ:St) (H:Hp) (x:V) (v:Yu) (Q:Bool->Hp->Prop),Inv X zB σ H s->zt x v->r x H Q ->
  wpAny (model X.prog X.w) X.A (truthy v) (TP X zB σ Q) X.xe s
def tOp (r:R2) (ta tb:TE):TE:=λσ H Q=>ta σ H λx H1=>tb σ H1 λy H2=>r x y H2 Q
def tUn (r:V->Hp->VK->Prop) (ta:TE):TE:=λσ H Q=>ta σ H λx H1=>r x H1 Q
def rI (C:Int->Int->Prop) (g:Int->Int->V):R2:=λx y H Q=>∃ i j,x=.int i/\y=.int j/\C i j/\Q (g i j) H
def rI0 (g:Int->Int->V):R2:=λx y H Q=>∃ i j,x=.int i/\y=.int j/\Q (g i j) H
def rU (g:Int->V):V->Hp->VK->Prop:=λx H Q=>∃ i,x=.int i/\Q (g i) H
section
variable {X:Cx} {a b c:Expr} {ta tb tc:TE} {pos:Pos}
theorem zVM (ha:PE X a ta) (hb:PE X b tb) {zB:Yd} {s:Yl} {σ:St} {H:Hp} {R:V->V->Hp->Prop} (I:Inv X zB σ H s)
  (h:ta σ H λx H1=>tb σ H1 λy H2=>R x y H2) {Q:Yc} {f:Y2}
  (hf:∀ v u s2 x y H2,Inv X zB σ H2 s2->zt x v->zt y u->R x y H2->wpAny (model X.prog X.w) X.A (f v u) Q X.xe s2) :
  wpAny (model X.prog X.w) X.A (eval a X.env) (λv s₁=>wpAny (model X.prog X.w) X.A (eval b X.env) (λu s₂=>wpAny (model X.prog X.w) X.A (f v u) Q X.xe s₂) X.xe s₁) X.xe s:=by
 refine thn (ha zB s σ H _ I h) λv s1 ⟨x,H1,I1,r1,q1⟩=>?_;refine thn (hb zB s1 σ H1 _ I1 q1) λu s2 ⟨y,H2,I2,r2,q2⟩=>?_;exact hf v u s2 x y H2 I2 r1 r2 q2
theorem zVV {op:Operator} {r:R2} (ho:OpR X (binaryOp op) r) (ha:PE X a ta) (hb:PE X b tb):PE X (.BinOp a op b pos) (tOp r ta tb):=by
 intro zB s σ H Q I h;exact wpAny_BinOp (zVM ha hb I h λv u s2 x y H2 I2 rx ry q=>ho zB s2 σ H2 x y v u Q I2 rx ry q)
theorem zVQ {op:UnaryOp} {r:V->Hp->VK->Prop} (ho:UnR X (unaryOp op) r) (ha:PE X a ta):PE X (.UnaryOp op a pos) (tUn r ta):=by
 intro zB s σ H Q I h;exact UnaryOp_ (thn (ha zB s σ H _ I h) λv s1 ⟨x,H1,I1,r1,q1⟩=>ho zB s1 σ H1 x v Q I1 r1 q1)
theorem opI {f:Y2} {C:Int->Int->Prop} {g:Int->Int->Int}
  (rule:∀ (i j:Int) (t u:Tok) (s:Yl) (Q:Yc) (E:Yc),C i j->Q (.int (g i j) s.toks) { s with toks:=s.toks+1 }->wpAny (model X.prog X.w) X.A (f (.int i t) (.int j u)) Q E s) :
  OpR X f (rI C λi j=> .int (g i j)):=by
 intro zB s σ H x y v u Q I rx ry h;obtain ⟨i,j,rfl,rfl,hc,q⟩:=h;obtain ⟨t,rfl⟩:=rx;obtain ⟨t',rfl⟩:=ry;exact rule i j t t' s _ _ hc ⟨.int (g i j),H,I.tok _,⟨_,rfl⟩,q⟩
theorem zVx {f:Y2} {g:Int->Int->Int}
  (rule:∀ (i j:Int) (t u:Tok) (s:Yl) (Q:Yc) (E:Yc),Q (.int (g i j) s.toks) { s with toks:=s.toks+1 }->wpAny (model X.prog X.w) X.A (f (.int i t) (.int j u)) Q E s) :
  OpR X f (rI0 λi j=> .int (g i j)):=by
 intro zB s σ H x y v u Q I rx ry h;obtain ⟨i,j,rfl,rfl,q⟩:=h;obtain ⟨t,rfl⟩:=rx;obtain ⟨t',rfl⟩:=ry;exact rule i j t t' s _ _ ⟨.int (g i j),H,I.tok _,⟨_,rfl⟩,q⟩
theorem zRq {f:Y2} {g:Int->Int->Bool}
  (rule:∀ (i j:Int) (t u:Tok) (s:Yl) (Q:Yc) (E:Yc),Q (.bool (g i j)) s->wpAny (model X.prog X.w) X.A (f (.int i t) (.int j u)) Q E s) :
  OpR X f (rI0 λi j=> .bl (g i j)):=by
 intro zB s σ H x y v u Q I rx ry h;obtain ⟨i,j,rfl,rfl,q⟩:=h;obtain ⟨t,rfl⟩:=rx;obtain ⟨t',rfl⟩:=ry;exact rule i j t t' s _ _ ⟨.bl (g i j),H,I,rfl,q⟩
def zWI (i j:Int):Prop:=0<j/\j<1073741824
def zWa (i j:Int):Prop:=0<=j/\j<=1000000/\i.natAbs<2 ^ 64
def zTC (i j:Int):Prop:=(-(2 ^ 64)<i/\i<2 ^ 64)\/(-(2 ^ 64)<j/\j<2 ^ 64)
theorem zTC.ok {i j:Int} (h:zTC i j):IntMulOk i j:=by
 rcases h with ⟨h1,h2⟩|⟨h1,h2⟩
 .exact .of_left (intBits_le_64 h1 h2)
 .exact .of_right (intBits_le_64 h1 h2)
theorem zT2:OpR X (binaryOp .Add) (rI0 λi j=> .int (i+j)):=zVx λ_ _ _ _ _ _ _ q=>add_int q
theorem zUX:OpR X (binaryOp .Sub) (rI0 λi j=> .int (i-j)):=zVx λ_ _ _ _ _ _ _ q=>sub_int q
theorem zTi:OpR X (binaryOp .Mult) (rI zTC λi j=> .int (i*j)):=opI λ_ _ _ _ _ _ _ hc q=>mul_int q hc.ok
theorem zRk:OpR X (binaryOp .FloorDiv) (rI zWI λi j=> .int (i / j)):=opI λi j _ _ _ _ _ hc q=>by
 have h1:(0:Int)<j:=hc.1;have h2:j<1073741824:=hc.2;exact floordiv_int (by omega) (by rw[Int.fdiv_eq_ediv_of_nonneg i (by omega)];exact q) (.inl (PyProof.noPylong_small (by omega)))
theorem zUN:OpR X (binaryOp .Mod) (rI (λ_ j=>0<j) λi j=> .int (i % j)):=opI λi j _ _ _ _ _ hc q=>by
 have h1:(0:Int)<j:=hc;exact mod_int' (by omega) (by rw[Int.fmod_eq_emod_of_nonneg i (by omega)];exact q)
theorem zUp:OpR X (binaryOp .Pow) (rI zWa λi j=> .int (i ^ j.toNat)):=opI λ_ _ _ _ _ _ _ hc q=>pow_int_small hc.1 hc.2.1 hc.2.2 q
theorem unI {f:Value->Sem Value} {g:Int->Int}
  (rule:∀ (i:Int) (t:Tok) (s:Yl) (Q:Yc) (E:Yc),Q (.int (g i) s.toks) { s with toks:=s.toks+1 }->wpAny (model X.prog X.w) X.A (f (.int i t)) Q E s) :
  UnR X f (rU λi=> .int (g i)):=by
 intro zB s σ H x v Q I rx h;obtain ⟨i,rfl,q⟩:=h;obtain ⟨t,rfl⟩:=rx;exact rule i t s _ _ ⟨.int (g i),H,I.tok _,⟨_,rfl⟩,q⟩
theorem zTy:UnR X (unaryOp .USub) (rU λi=> .int (-i)):=unI λ_ _ _ _ _ q=>neg_int q
end
def zSJ:V->V->Bool
 |.non,.non=>true|.non,.int _=>true|.int _,.non=>true|.non,.bl _=>true|.bl _,.non=>true|.non,.str _=>true|.str _,.non=>true
 |.int _,.int _=>true|.bl _,.bl _=>true|.str _,.str _=>true|.byt _,.byt _=>true
 |.int _,.str _=>true|.str _,.int _=>true|.bl _,.str _=>true|.str _,.bl _=>true
 |_,_=>false
def rEq:R2:=λx y H Q=>zSJ x y=true/\Q (.bl (decide (x=y))) H
def rNe:R2:=λx y H Q=>zSJ x y=true/\Q (.bl (!decide (x=y))) H
theorem zNW {i j:Int}:decide (V.int i=V.int j)=(i==j):=by
 rw[Bool.eq_iff_iff];simp
theorem zQJ {i j:Bool}:decide (V.bl i=V.bl j)=(i==j):=by
 rw[Bool.eq_iff_iff];simp
theorem zM8 {i j:Str}:decide (V.str i=V.str j)=(i==j):=by
 rw[Bool.eq_iff_iff];simp
theorem zNX {i j:Array UInt8}:decide (V.byt i=V.byt j)=(i.toList==j.toList):=by
 rw[Bool.eq_iff_iff];cases i;cases j;simp
section
variable {X:Cx} {a b c:Expr} {ta tb tc:TE} {pos:Pos}
theorem zAB {zB:Yd} {σ:St} {H:Hp} {s:Yl} {Q:VK} {k k':Bool} (I:Inv X zB σ H s) (q:Q (.bl k) H) (e:k=k'):EP X zB σ Q (.bool k') s:=by
 subst e;exact ⟨.bl k,H,I,rfl,q⟩
theorem zVc:OpR X (compareOp .Eq) rEq:=by
 intro zB s σ H x y v u Q I rx ry h;obtain ⟨hs,q⟩:=h;cases x with
 |non=>
  cases rx;cases y with
  |non=>cases ry;exact PySem.EqNone.eq_none_none (zAB I q (by simp))
  |bl j=>cases ry;exact PySem.EqNone.eq_none_bool (zAB I q (by simp))
  |int j=>obtain ⟨t',rfl⟩:=ry;exact PySem.EqNone.eq_none_int (zAB I q (by simp))
  |str j=>obtain ⟨t',rfl⟩:=ry;exact PySem.EqNone.eq_none_str (zAB I q (by simp))
  |_=>exact absurd (show false=true from hs) zW7
 |bl i=>
  cases rx;cases y with
  |non=>cases ry;exact PySem.EqNone.eq_bool_none (zAB I q (by simp))
  |bl j=>cases ry;exact eq_bool (zAB I q zQJ)
  |str j=>obtain ⟨t',rfl⟩:=ry;exact PySem.EqMixed.eq_bool_str (zAB I q (by simp))
  |_=>exact absurd (show false=true from hs) zW7
 |int i=>
  obtain ⟨t,rfl⟩:=rx;cases y with
  |non=>cases ry;exact PySem.EqNone.eq_int_none (zAB I q (by simp))
  |int j=>obtain ⟨t',rfl⟩:=ry;exact eq_int (zAB I q zNW)
  |str j=>obtain ⟨t',rfl⟩:=ry;exact PySem.EqMixed.eq_int_str (zAB I q (by simp))
  |_=>exact absurd (show false=true from hs) zW7
 |str i=>
  obtain ⟨t,rfl⟩:=rx;cases y with
  |non=>cases ry;exact PySem.EqNone.eq_str_none (zAB I q (by simp))
  |bl j=>cases ry;exact PySem.EqMixed.eq_str_bool (zAB I q (by simp))
  |int j=>obtain ⟨t',rfl⟩:=ry;exact PySem.EqMixed.eq_str_int (zAB I q (by simp))
  |str j=>obtain ⟨t',rfl⟩:=ry;exact eq_str (zAB I q zM8)
  |_=>exact absurd (show false=true from hs) zW7
 |byt i=>
  obtain ⟨t,rfl⟩:=rx;cases y with
  |byt j=>obtain ⟨t',rfl⟩:=ry;exact PySem.W.eq_bytes (zAB I q zNX)
  |_=>exact absurd (show false=true from hs) zW7
 |_=>cases y <;> exact absurd (show false=true from hs) zW7
theorem zVO:OpR X (compareOp .NotEq) rNe:=by
 intro zB s σ H x y v u Q I rx ry h;obtain ⟨hs,q⟩:=h;cases x with
 |non=>
  cases rx;cases y with
  |non=>cases ry;exact PySem.EqNone.ne_none_none (zAB I q (by simp))
  |bl j=>cases ry;exact PySem.EqNone.ne_none_bool (zAB I q (by simp))
  |int j=>obtain ⟨t',rfl⟩:=ry;exact PySem.EqNone.ne_none_int (zAB I q (by simp))
  |str j=>obtain ⟨t',rfl⟩:=ry;exact PySem.EqNone.ne_none_str (zAB I q (by simp))
  |_=>exact absurd (show false=true from hs) zW7
 |bl i=>
  cases rx;cases y with
  |non=>cases ry;exact PySem.EqNone.ne_bool_none (zAB I q (by simp))
  |bl j=>cases ry;exact ne_bool (zAB I q (congrArg not zQJ))
  |str j=>obtain ⟨t',rfl⟩:=ry;exact PySem.EqMixed.ne_bool_str (zAB I q (by simp))
  |_=>exact absurd (show false=true from hs) zW7
 |int i=>
  obtain ⟨t,rfl⟩:=rx;cases y with
  |non=>cases ry;exact PySem.EqNone.ne_int_none (zAB I q (by simp))
  |int j=>obtain ⟨t',rfl⟩:=ry;exact ne_int (zAB I q (congrArg not zNW))
  |str j=>obtain ⟨t',rfl⟩:=ry;exact PySem.EqMixed.ne_int_str (zAB I q (by simp))
  |_=>exact absurd (show false=true from hs) zW7
 |str i=>
  obtain ⟨t,rfl⟩:=rx;cases y with
  |non=>cases ry;exact PySem.EqNone.ne_str_none (zAB I q (by simp))
  |bl j=>cases ry;exact PySem.EqMixed.ne_str_bool (zAB I q (by simp))
  |int j=>obtain ⟨t',rfl⟩:=ry;exact PySem.EqMixed.ne_str_int (zAB I q (by simp))
  |str j=>obtain ⟨t',rfl⟩:=ry;exact ne_str (zAB I q (congrArg not zM8))
  |_=>exact absurd (show false=true from hs) zW7
 |byt i=>
  obtain ⟨t,rfl⟩:=rx;cases y with
  |byt j=>obtain ⟨t',rfl⟩:=ry;exact PySem.W.ne_bytes (zAB I q (congrArg not zNX))
  |_=>exact absurd (show false=true from hs) zW7
 |_=>cases y <;> exact absurd (show false=true from hs) zW7
theorem zUw:OpR X (compareOp .Lt) (rI0 λi j=> .bl (decide (i<j))):=zRq λ_ _ _ _ _ _ _ q=>lt_int q
theorem zWB:OpR X (compareOp .LtE) (rI0 λi j=> .bl (decide (i<=j))):=zRq λ_ _ _ _ _ _ _ q=>le_int q
theorem zVo:OpR X (compareOp .Gt) (rI0 λi j=> .bl (decide (j<i))):=zRq λ_ _ _ _ _ _ _ q=>gt_int q
theorem zVA:OpR X (compareOp .GtE) (rI0 λi j=> .bl (decide (j<=i))):=zRq λ_ _ _ _ _ _ _ q=>ge_int q
theorem OpR.or {f:Y2} {r r':R2} (h:OpR X f r) (h':OpR X f r'):OpR X f (λx y H Q=>r x y H Q\/r' x y H Q):=by
 intro zB s σ H x y v u Q I rx ry q;rcases q with q|q
 .exact h zB s σ H x y v u Q I rx ry q
 .exact h' zB s σ H x y v u Q I rx ry q
theorem zEE (b:Expr) {op:CmpOp} (h:op≠.In:=by decide) (h2:op≠.NotIn:=by decide):behindInMarks op b=false:=by
 have e1:(op==CmpOp.In)=false:=by cases op <;> first|rfl|exact absurd rfl h
 have e2:(op==CmpOp.NotIn)=false:=by cases op <;> first|rfl|exact absurd rfl h2
 cases b <;> simp[behindInMarks,e1,e2]
def zM7 (t:TE):TT:=λσ H Q=>t σ H λx H'=>∃ k,x=.bl k/\Q k H'
theorem zRj {op:CmpOp} {r:R2} (ho:OpR X (compareOp op) r) (ha:PE X a ta) (hb:PE X b tb) (hm:behindInMarks op b=false):PT X (.Compare a [op] [b] pos) (zM7 (tOp r ta tb)):=by
 intro zB s σ H Q I h;refine wpAny_isTrue_Compare1 (thn (ha zB s σ H _ I h) λv s1 ⟨x,H1,I1,r1,q1⟩=>thn (hb zB s1 σ H1 _ I1 q1) λu s2 ⟨y,H2,I2,r2,q2⟩=>
  thn (ho zB s2 σ H2 x y v u _ I2 r1 r2 q2) λc s3 ⟨z,H3,I3,r3,k,e,q3⟩=>?_) hm
 subst e;cases r3;exact wpAny_truthy_bool ⟨H3,I3,q3⟩
def zVl (K:Yb) (x:V) (H:Hp) (k:Bool):Prop :=
 match x with
 |.non=>k=false
 |.bl b=>k=b
 |.int i=>k=(i != 0)
 |.str y=>y.length<=sizeLine/\k=((y.length:Int) != 0)
 |.byt y=>y.size<=sizeLine/\k=((y.size:Int) != 0)
 |.ref p=>(∃ xs,SqL K H p xs/\k = !xs.isEmpty)\/(∃ xs,SqT K H p xs/\k = !xs.isEmpty) \/ ∃ kvs,H p=some (.dK kvs)/\k = !kvs.isEmpty
 |_=>False
theorem zMH {κ:Type} {kvs:List (κ × V)} {vs:List (κ × Value)} (r:KV kvs vs):(!vs.isEmpty) = !kvs.isEmpty:=by
 cases r <;> rfl
theorem zHB {xs:List V} {its:Yf} (r:za xs its):(!its.toArray.isEmpty) = !xs.isEmpty:=by
 cases r <;> simp
theorem zEq:(sizeLine:Nat)<2 ^ 63:=by rw[sizeLine_eq];decide
theorem zUK:zWZ X (λx H Q=>∃ k,zVl X.K x H k/\Q k H):=by
 intro zB s σ H x v Q I rx h;obtain ⟨k,e,q⟩:=h;have hl:=zEq;have hs:sizeLine=16777216:=sizeLine_eq;cases x with
 |non=>
  cases rx;have e':k=false:=e;subst e';exact truthy_none ⟨H,I,q⟩
 |bl b=>
  cases rx;have e':k=b:=e;subst e';exact wpAny_truthy_bool ⟨H,I,q⟩
 |int i=>
  obtain ⟨t,rfl⟩:=rx;have e':k=(i != 0):=e;subst e';exact PySem.P.truthy_int ⟨H,I,q⟩
 |str y=>
  obtain ⟨t,rfl⟩:=rx;obtain ⟨hy,e'⟩:y.length<=sizeLine/\k=((y.length:Int) != 0):=e;subst e';exact PySem.P.truthy_str (by omega) ⟨H,I.tok _,q⟩
 |byt y=>
  obtain ⟨t,rfl⟩:=rx;obtain ⟨hy,e'⟩:y.size<=sizeLine/\k=((y.size:Int) != 0):=e;subst e';exact PySem.W.truthy_bytes (by omega) ⟨H,I.tok _,q⟩
 |ref p=>
  cases rx;have e':(∃ xs,SqL X.K H p xs/\k = !xs.isEmpty)\/(∃ xs,SqT X.K H p xs/\k = !xs.isEmpty) \/ ∃ kvs,H p=some (.dK kvs)/\k = !kvs.isEmpty:=e;rcases e' with ⟨xs,hx,e'⟩|⟨xs,hx,e'⟩|⟨kvs,hx,e'⟩
  .subst e';obtain ⟨its,r,pl,hz⟩:=I.list hx;have hlen:=r.length;exact wpAny_truthy_list pl.isList (by simp only[zWt];omega) ⟨H,I.tok _,by rw[zHB r];exact q⟩
  .subst e';obtain ⟨its,r,pl,hz⟩:=I.tuple hx;have hlen:=r.length;exact truthy_tuple pl (by simp only[zWt];omega) ⟨H,I.tok _,by rw[zHB r];exact q⟩
  .subst e';obtain ⟨hz,hS,vs,r,m⟩:kvs.length<=sizeLine/\(p==sysModules)=false /\ ∃ vs,KV kvs vs/\s.heap.DictOf (zAW X.prog X.w) p vs:=I.hok p _ hx;have hlen:kvs.length=vs.length:=Paired.length r;exact wpAny_truthy_dict hS m (by omega) ⟨H,I.tok _,by rw[zMH r];exact q⟩
 |_=>exact (show False from e).elim
theorem zP9 (ha:PE X a ta) (he:∀ whole,isTrue a X.env whole=(do let v <- whole;standAt a.pos;holding [v] (truthy v))) :
  PT X a (λσ H Q=>ta σ H λx H'=>∃ k,zVl X.K x H' k/\Q k H'):=by
 intro zB s σ H Q I h;exact isTrue_plain (thn (ha zB s σ H _ I h) λv s1 ⟨x,H1,I1,r1,q1⟩=>zUK zB s1 σ H1 x v Q I1 r1 q1) (he _)
theorem zF4 {x:V} {us:Yf} (r:za [x] us):∃ u,us=[u]/\zt x u:=by
 cases r with
 |cons r1 r2=>cases r2;exact ⟨_,rfl,r1⟩
theorem zVX {x y:V} {us:Yf} (r:za [x,y] us):∃ u w',us=[u,w']/\zt x u/\zt y w':=by
 cases r with
 |cons r1 r2=>
  cases r2 with
  |cons r3 r4=>cases r4;exact ⟨_,_,rfl,r1,r3⟩
theorem zOr (hc:X.calm=true):zDK X (.builtin "min") (λxs H Q=>∃ i j,xs=[.int i,.int j]/\Q (.int (if j<i then j else i)) H):=by
 intro zB s σ H xs us Q I r h;obtain ⟨i,j,rfl,q⟩:=h;obtain ⟨u,w',rfl,⟨t,rfl⟩,⟨t',rfl⟩⟩:=zVX r;refine min_two_ints (I.ok.hd hc) λh' tk k=>⟨_,H,I.kept k,?_,q⟩;by_cases hj:j<i
 .rw[zW0 hj,zW0 hj];exact ⟨_,rfl⟩
 .rw[zW3 hj,zW3 hj];exact ⟨_,rfl⟩
end
theorem zGO.some_of {v:V} {o:Option Value} (r:zGO (some v) o):∃ u,o=some u/\zt v u:=by
 cases o with
 |none=>exact (show False from r).elim
 |some u=>exact ⟨u,rfl,r⟩
structure Room (k:Nat) (A:Yn):Prop where
 hd:A.handled=none
 dp:A.depth+3*k+5<recursionLimit
 un:A.units+16*k+200<cLine
theorem Room.mono {j k:Nat} {A:Yn} (r:Room k A) (h:j<=k):Room j A:=⟨r.hd,by have:=r.dp;omega,by have:=r.un;omega⟩
theorem Room.deeper {k:Nat} {A:Yn} (r:Room (k+1) A) (env:Env):Room k (A.deeper env) :=
 ⟨r.hd,by have:=r.dp;show A.depth+1+3*k+5<_;omega,by have:=r.un;show A.units+3+16*k+200<_;omega⟩
theorem Room.depth {k:Nat} {A:Yn} (r:Room k A):A.depth<recursionLimit:=by have:=r.dp;omega
theorem Room.units {k:Nat} {A:Yn} (r:Room k A):A.units+64<cLine:=by have:=r.un;omega
theorem Room.units0 {k:Nat} {A:Yn} (r:Room k A):A.units<cLine:=by have:=r.un;omega
def zWg:TA:=λ_ H Q=>Q [] H
def zV9 (ta:TE) (tr:TA):TA:=λσ H Q=>ta σ H λx H1=>tr σ H1 λxs H2=>Q (x::xs) H2
section
variable {X:Cx} {e:Expr} {es:Yi} {te:TE} {t:TA} {pos:Pos}
theorem zFm:PA X [] zWg:=λ_ _ _ _ H Q I h=>Calls.spliced_nil ⟨[],H,I,.nil,h⟩
theorem zEP (ha:PE X e te) (hr:PA X es t) (hs:starEach (e::es) X.env=(false,eval e X.env)::starEach es X.env:=by rfl):PA X (e::es) (zV9 te t):=by
 intro pos zB s σ H Q I h;rw[hs];show wpAny _ _ (spliced ((false,eval e X.env)::backTo pos (starEach es X.env))) _ _ s;refine Calls.spliced_cons (thn (ha zB s σ H _ I h) λu s1 ⟨x,H1,I1,r1,q1⟩=>?_);exact thn (hr pos zB s1 σ H1 _ I1 q1) λus s2 ⟨xs,H2,I2,r2,q2⟩=>⟨x::xs,H2,I2,.cons r1 r2,q2⟩
def zWL (t:TA):TE:=λσ H Q=>t σ H λxs H1=>xs.length<=sizeLine /\ ∀ p,H1 p=none->Q (.ref p) (upd H1 p (.tup xs))
def zWk (t:TA):TE:=λσ H Q=>t σ H λxs H1=>xs.length<=sizeLine /\ ∀ p,H1 p=none->Q (.ref p) (upd H1 p (.lst xs))
theorem zUh {x1} (h:PA X es t):PE X (.Tuple es x1 pos) (zWL t):=by
 intro zB s σ H Q I hq;refine wpAny_Tuple_spliced (thn (h pos zB s σ H _ I hq) λus s1 ⟨xs,H1,I1,r,z,q⟩=>⟨by rw[<-r.length];exact z,?_⟩);have hf:H1 s1.heap.objs.size=none:=I1.hok.fresh (zWr _);refine ⟨.ref s1.heap.objs.size,upd H1 s1.heap.objs.size (.tup xs),I1.laid (t':=s1.toks) (λb u e=>zWm _ e) (zWr _) ?_,rfl,q _ hf⟩;exact ⟨z,us,r,⟨_,zWv _ rfl,rfl,⟨_,rfl⟩,rfl⟩⟩
theorem zUD (h:PA X es t):PE X (.List es pos) (zWk t):=by
 intro zB s σ H Q I hq;refine wpAny_List_spliced (thn (h pos zB s σ H _ I hq) λus s1 ⟨xs,H1,I1,r,z,q⟩=>⟨by rw[<-r.length];exact z,?_⟩);have hf:H1 s1.heap.objs.size=none:=I1.hok.fresh (zWr _);refine ⟨.ref s1.heap.objs.size,upd H1 s1.heap.objs.size (.lst xs),I1.laid (t':=s1.toks) (λb u e=>zWm _ e) (zWr _) ?_,rfl,q _ hf⟩;exact ⟨z,us,0,r,zWv _ rfl⟩
end
abbrev Sp:=List V->Hp->VK->XK->Prop
abbrev CXT:=List Env->Hp->Shared->XK->Value->Shared->Prop
structure Env0 (P:Ym) (w:Yo) (K:Yb) (mg:Yh) (base:Heap) (A:Yn) (outer:List Env) (s:Yl) (H:Hp):Prop where
 frames:A.frames=some outer
 mod:Mod K mg base
 bs:∀ b o,base.get? b=some o->s.heap.get? b=some o/\H b=none
 bsz:base.objs.size<=s.heap.objs.size
 funs:s.heap.FunFrames base outer
 frf:∀ b∈frs outer,H b=none
 hok:HOk P w H s.heap
 bare:AllBare s.gens
def CE (outer:List Env) (P:Ym) (w:Yo) (H:Hp) (s:Yl) (Q:VK) (u:Yu) (s':Yl):Prop :=
 ∃ v H',s'.os=s.os/\AllBare s'.gens/\Un (frs outer) [] H H' s.heap s'.heap/\HOk P w H' s'.heap/\zt v u/\Q v H'
def CR (CX:CXT) (outer:List Env) (P:Ym) (w:Yo) (H:Hp) (s:Yl) (Q:VK) (E:XK) (r:Result) (s':Yl):Prop :=
 match r with
 |.ok (.ret u)=>CE outer P w H s Q u s'
 |.ok _=>False
 |.error e=>CX outer H s E e s'
structure FnOk (P:Ym) (w:Yo) (K:Yb) (mg:Yh) (base:Heap) (CX:CXT) (k:Nat) (f:Yt) (fd:Yz) (ps:Yk) (sp:Sp):Prop where
 len:∀ vs H Q E,sp vs H Q E->vs.length=ps.length
 run:∀ (A:Yn) (outer:List Env) (s:Yl) (H:Hp) (args:Args) (us:Yf) (vs:List V) (Q:VK) (E:XK),Room k A->Env0 P w K mg base A outer s H->BindsTo s fd args (ps.zip us)->za vs us->sp vs H Q E ->
  codeAny (model P w) A (.call (.ref f) args) (CR CX outer P w H s Q E) s
theorem FnOk.imp {P:Ym} {w:Yo} {K:Yb} {mg:Yh} {base:Heap} {CX:CXT} {k:Nat} {f:Yt} {fd:Yz} {ps:Yk} {sp sp':Sp} (F:FnOk P w K mg base CX k f fd ps sp)
  (h:∀ vs H Q E,sp' vs H Q E->sp vs H Q E):FnOk P w K mg base CX k f fd ps sp' :=
 ⟨λvs H Q E q=>F.len vs H Q E (h _ _ _ _ q),λA outer s H args us vs Q E hr he hb hv hs=>F.run A outer s H args us vs Q E hr he hb hv (h _ _ _ _ hs)⟩
section
variable {X:Cx} {zB:Yd} {σ:St} {H:Hp} {s s':Yl}
theorem Inv.env0 (I:Inv X zB σ H s):Env0 X.prog X.w X.K X.mg X.base X.A X.stack s H :=
 ⟨I.ok.frames,I.ok.mod,I.bs,zXC I.ok.bsz I.sz,I.stack,I.stkFree,I.hok,I.bare⟩
theorem Inv.after {Q:VK} {u:Yu} (I:Inv X zB σ H s) (h:CE X.stack X.prog X.w H s Q u s'):EP X zB σ Q u s':=by
 obtain ⟨v,H',os,bare,un,hok,r,q⟩:=h;obtain ⟨hh,g,d,t,os'⟩:=s';obtain rfl:os'=s.os:=os;exact ⟨v,H',I.call (h':=hh) (g':=g) (d':=d) (t':=t) (ch:=[]) un hok bare (λb z=>absurd z (by simp)),r,q⟩
end
def zU7 (sp:Sp) (dvs:List V) (E:XK) (t:TA):TE:=λσ H Q=>t σ H λvs H1=>sp (vs++dvs) H1 Q E
def zGx (K:Yb) (fd:Yz) (ps:Yk) (ds:Yf):Prop :=
 ∀ (s:Yl) (us:Yf),K.In s.heap->(us++ds).length=ps.length->BindsTo s fd ⟨us,[]⟩ (ps.zip (us++ds))
theorem zGx.all {K:Yb} {fd:Yz} {ps:Yk} (h:∀ us:List Value,us.length=ps.length->bindArgs fd ⟨us,[]⟩=pure (ps.zip us)):zGx K fd ps []:=λs us _ hl=>by
 rw[zXV]at hl ⊢;exact .of_eq (h us hl)
def zLo (CX:CXT) (X:Cx) (E:XK):Prop:=∀ (zB:Yd) (σ:St) (H:Hp) (s:Yl) (e:Yu) (s':Yl),Inv X zB σ H s->CX X.stack H s E e s'->X.xe e s'
section
variable {X:Cx} {CX:CXT} {k:Nat} {f C:Yt} {fd:Yz} {ps:Yk} {sp:Sp} {dvs:List V} {ds:Yf} {E:XK} {x m:Str} {p pos apos:Pos} {e o:Expr} {es:Yi} {ta:TE} {t:TA}
theorem zTt {zB:Yd} {σ:St} {H:Hp} {s:Yl} {Q:VK} {us:Yf} {vs:List V} (F:FnOk X.prog X.w X.K X.mg X.base CX k f fd ps sp) (hr:Room k X.A) (hb:zGx X.K fd ps ds) (hd:za dvs ds) (hx:zLo CX X E)
  (I:Inv X zB σ H s) (r:za vs us) (h:sp (vs++dvs) H Q E):wpAny (model X.prog X.w) X.A (call (.ref f) us) (EP X zB σ Q) X.xe s:=by
 have r2:za (vs++dvs) (us++ds):=r.append hd;have hl:(us++ds).length=ps.length:=by rw[<-r2.length];exact F.len _ _ _ _ h
 refine wpAny_call (codeAny_mono (F.run X.A X.stack s H ⟨us,[]⟩ (us++ds) (vs++dvs) Q E hr I.env0 (hb s us I.kIn hl) r2 h) λr s' hq=>?_);cases r with
 |error e=>exact hx zB σ H s e s' I hq
 |ok fl=>
  cases fl with
  |ret u=>exact I.after hq
  |next=>exact False.elim hq
  |brk=>exact False.elim hq
  |cont=>exact False.elim hq
theorem zSI (F:FnOk X.prog X.w X.K X.mg X.base CX k f fd ps sp) (hr:Room k X.A) (hg:Gl X x) (hm:X.mg x=some (.ref f)) (hk:PySem.W.keepIn X.K (.ref f)=true) (hb:zGx X.K fd ps ds) (hd:za dvs ds) (hx:zLo CX X E)
  (ha:PA X (e::es) t) (hdb:(x==("__debug__" : Str))=false:=by decide) (he:starEach (e::es) X.env=(false,eval e X.env)::starEach es X.env:=by rfl) (hpl:(backTo pos (starEach es X.env)).any (·.1)=false:=by rfl) :
  PE X (.Call (.Name x p) (e::es) [] pos) (zU7 sp dvs E t):=by
 intro zB s σ H Q I h;refine wpAny_Call_Name_kw (zRX I hg hm ?_ hdb);refine PySem.W.callWith_K (h₀:=X.base) I.ok.mod.kin hk (thn (ha pos zB s σ H _ I h) λus s1 ⟨vs,H1,I1,r,q⟩=>⟨I1.kIn,?_⟩) he hpl;exact zTt F hr hb hd hx I1 r q
end
structure FnScope (N P:Yk) (sc:Y0):Prop where
 kind:sc.kind=.function
 co:sc.isCoroutine=false
 gen:sc.isGenerator=false
 nd:N.Nodup
 pre:N.take P.length=P
 par:∀ x∈P,sc.names.lookup x=some .local\/sc.names.lookup x=some .cell
 nofree:∀ y∈sc.names,y.2≠.free
theorem zIu {kindOf:Str->Option NameKind} {x:Str}:∀ {binds:List (Str × Value)} {m:Yh},(∀ v,(x,v)∉binds)->bindL kindOf binds m x=m x
 |[],_,_=>rfl
 | (n,v)::r,m,h=>by
  unfold bindL;rw[zIu λw hw=>h w (zWy _ hw)];split
  .have:x≠n:=by rintro rfl;exact h v zWz
   simp[this]
  .rfl
theorem zI3 {kindOf:Str->Option NameKind} {x:Str}:∀ {binds:List (Str × Value)} {m:Yh},(∀ v,(x,v)∉binds)->bindC kindOf binds m x=m x
 |[],_,_=>rfl
 | (n,v)::r,m,h=>by
  unfold bindC;rw[zI3 λw hw=>h w (zWy _ hw)];split
  .rfl
  .have:x≠n:=by rintro rfl;exact h v zWz
   simp[this]
theorem zI7 {kindOf:Str->Option NameKind} {x:Str} {v:Yu}:∀ {P:Yk} {vs:Yf} {i:Nat} {m:Yh},P.Nodup->P[i]?=some x->vs[i]?=some v->kindOf x=some .local ->
  bindL kindOf (P.zip vs) m x=some v
 |[],_,_,_,_,h,_,_=>by simp at h
 |_::_,[],_,_,_,_,h,_=>by simp at h
 |p::P,w::vs,0,m,nd,h1,h2,hk=>by
  simp at h1 h2;subst h1;subst h2;show bindL kindOf ((p,w)::P.zip vs) m p=_;unfold bindL;rw[zIu λv hv=>(zX5.mp nd).1 (List.of_mem_zip hv).1,zW0 hk];simp
 |p::P,w::vs,i+1,m,nd,h1,h2,hk=>by
  show bindL kindOf ((p,w)::P.zip vs) m x=_;unfold bindL;exact zI7 (i:=i) (zX5.mp nd).2 (by simpa using h1) (by simpa using h2) hk
theorem zIS {kindOf:Str->Option NameKind} {x:Str} {v:Yu}:∀ {P:Yk} {vs:Yf} {i:Nat} {m:Yh},P.Nodup->P[i]?=some x->vs[i]?=some v->kindOf x≠some .local ->
  bindC kindOf (P.zip vs) m x=some v
 |[],_,_,_,_,h,_,_=>by simp at h
 |_::_,[],_,_,_,_,h,_=>by simp at h
 |p::P,w::vs,0,m,nd,h1,h2,hk=>by
  simp at h1 h2;subst h1;subst h2;show bindC kindOf ((p,w)::P.zip vs) m p=_;unfold bindC;rw[zI3 λv hv=>(zX5.mp nd).1 (List.of_mem_zip hv).1,zW3 hk];simp
 |p::P,w::vs,i+1,m,nd,h1,h2,hk=>by
  show bindC kindOf ((p,w)::P.zip vs) m x=_;unfold bindC;exact zIS (i:=i) (zX5.mp nd).2 (by simpa using h1) (by simpa using h2) hk
def start (N:Yk) (vs:List V):St:=vs.map some++List.replicate (N.length-vs.length) none
def zLv (CX:CXT) (P:Ym) (w:Yo) (K:Yb) (mg:Yh) (base:Heap) (N:Yk) (qual:Str) (scope:Y0) (f:Yt) (cd:Yu) (A:Yn) (outer:List Env) (s:Yl) (H:Hp) (E:XK):Cx where
 prog:=P
 w:=w
 K:=K
 mg:=mg
 base:=base
 A:=A.deeper (envOfC qual scope s.heap.objs.size f cd)
 N:=N
 s₀:=s
 H₀:=H
 env:=envOfC qual scope s.heap.objs.size f cd
 outer:=outer
 stack:=envOfC qual scope s.heap.objs.size f cd::outer
 ex:=[]
 calm:=true
 fn:=λ_=>true
 pn:=[]
 xe:=λe s'=>wpAny (model P w) (A.deeper (envOfC qual scope s.heap.objs.size f cd)) (leaving (envOfC qual scope s.heap.objs.size f cd) e) (λ_ s''=>CX outer H s E e s'') (λe' s''=>CX outer H s E e' s'') s'
theorem zGs {sc:Y0} {n:Nat} {x:Str} (h:sc.names.lookup x=some .cell):∃ c,(cellsFrom n sc.names []).lookup x=some c:=by
 have q:=PySem.W.cellsFrom_some sc.names n [] (.inl h);exact Option.isSome_iff_exists.mp q
theorem zNr {CX:CXT} {P:Ym} {w:Yo} {K:Yb} {mg:Yh} {base:Heap} {N ps:Yk} {qual:Str} {scope:Y0} {f:Yt} {cd:Yu} {A:Yn} {outer:List Env} {s s1:Yl} {H:Hp} {E:XK} {us:Yf} {vs:List V}
  (S:FnScope N ps scope) (hd:A.handled=none) (e0:Env0 P w K mg base A outer s H) (hl:vs.length=ps.length) (r:za vs us)
  (x:InCallC s s.heap.objs.size (bindL (envOfC qual scope s.heap.objs.size f cd).kindOf (ps.zip us) λ_=>none) (cellsFrom (s.heap.objs.size+1) scope.names []) (bindC (envOfC qual scope s.heap.objs.size f cd).kindOf (ps.zip us) λ_=>none) s1) :
  Inv (zLv CX P w K mg base N qual scope f cd A outer s H E) [] (start N vs) H s1:=by
 have hpl:ps.length<=N.length:=by have:=congrArg List.length S.pre;rw[zX9]at this;omega
 obtain ⟨h1,tk,rfl,hk⟩:=x.done;have noA:∀ b:Addr,b∉(zLv CX P w K mg base N qual scope f cd A outer s H E).ex:=λb z=>absurd (show b∈([]:List Addr)from z) (by simp)
 refine ⟨⟨e0.mod,S.kind,rfl,rfl,zWr _,λy z c h1 h2=>?_,λy hy=>?_,λy c _ h=>?_,λ_=>hd,Around.frames_deeper e0.frames,.inr ⟨rfl,rfl⟩,λb z=>absurd z (noA b),e0.bs,e0.bsz,λb _ _=>noA b,λb z=>absurd z (noA b),e0.funs,e0.frf⟩,
  rfl,e0.bare,Un.kept hk,⟨_,x.toInCall.ns,λi y v h1 h2 h3=>?_⟩,λy c h=>⟨_,x.cell y c h⟩,e0.hok.fresh (zWr _),λy c h=>?_,λp hp=>absurd (show p∈([]:List (Addr × Obj))from hp) (by simp),e0.hok.kept hk,?_⟩
 .exact name_of_addr x.apart (zXn h1) (zXn h2)
 .have hy:scope.names.lookup y=some .cell\/scope.names.lookup y=some .free:=hy;rcases hy with hy|hy
  .exact zGs hy
  .exact absurd rfl (S.nofree _ (zXn hy))
 .exact zZh (x.above y c (zXn h))
 .have hi:i<vs.length:=by
   unfold start at h2;by_cases hi:i<vs.length
   .exact hi
   .rw[zXv (by simpa using hi)]at h2;rw[List.getElem?_replicate]at h2;split at h2 <;> cases h2
  have ha:vs[i]?=some v:=by
   unfold start at h2;rw[zWs (by simpa using hi),zW8]at h2;cases e:vs[i]? with
   |none=>rw[e]at h2;cases h2
   |some a=>rw[e]at h2;cases h2;rfl
  obtain ⟨u,hu,rv⟩:=r.get ha;have hp:ps[i]?=some y:=by
   rw[<-S.pre,List.getElem?_take_of_lt (by omega)];exact h1
  have ndP:ps.Nodup:=by rw[<-S.pre];exact S.nd.sublist (List.take_sublist _ _)
  refine ⟨u,rv,?_⟩;rcases S.par y (zXc hp)with k|k
  .exact .inl ⟨k,zI7 ndP hp hu k⟩
  .obtain ⟨c,e⟩:=zGs (n:=s.heap.objs.size+1) k;refine .inr ⟨.inl k,c,e,?_⟩;have q:=x.cell y c e;rw[zIS ndP hp hu (by show scope.names.lookup y≠_;rw[k];decide)]at q;exact q
 .exact e0.hok.fresh (zZh (x.above y c (zXn h)))
 .unfold start;show _=N.length;rw[zW1,zWu,List.length_replicate];omega
theorem zVC {CX:CXT} {P:Ym} {w:Yo} {K:Yb} {mg:Yh} {base:Heap} {k:Nat} {f:Yt} {name qual:Str} {params:Arguments} {body:Yy} {scope:Y0} {dV kV doc pm cdv ct oc:Yu} {an od:Option Addr}
  {osl:Array (Option Value)} {N ps:Yk} {sp:Sp} (lk:K.lookup f=some ⟨oc,od,.func (PySem.W.fnOf name qual params body scope dV kV doc pm an cdv ct),osl⟩) (hcd:PySem.W.codeIn K cdv qual=true) (S:FnScope N ps scope)
  (len:∀ vs H Q E,sp vs H Q E->vs.length=ps.length)
  (hbody:∀ (A:Yn) (outer:List Env) (s:Yl) (H:Hp) (vs:List V) (Q:VK) (E:XK),Room k (A.deeper (envOfC qual scope s.heap.objs.size f cdv))->sp vs H Q E ->
   ∃ t,PSs (zLv CX P w K mg base N qual scope f cdv A outer s H E) body t/\t { nx:=λ_ H'=>Q .non H',rt:=Q } (start N vs) H) :
  FnOk P w K mg base CX (k+1) f (PySem.W.fnOf name qual params body scope dV kV doc pm an cdv ct) ps sp:=by
 refine ⟨len,λA outer s H args us vs Q E hr e0 hb r hsp=>?_⟩;have hl:=len _ _ _ _ hsp;have KX:K.In s.heap:=e0.mod.kin.keeps λb o e=>(e0.bs b o e).1;have lim:s.heap.NoLimit:=e0.mod.nolimit.keeps λb o e=>(e0.bs b o e).1;have hkind:∀ y∈ps.zip us,scope.names.lookup y.1=some .local\/(scope.names.lookup y.1=some .cell/\((cellsFrom (s.heap.objs.size+1) scope.names []).lookup y.1).isSome=true):=λ⟨n,v⟩ hy=>by
  rcases S.par n (List.of_mem_zip hy).1 with q|q
  .exact .inl q
  .exact .inr ⟨q,PySem.W.cellsFrom_some _ _ _ (.inl q)⟩
 refine codeAny_call_function hr.depth (KX _ _ lk) rfl S.co S.gen rfl (PySem.W.codeRec_of KX hcd) (hb _ _ _ _ ?_);refine wpAny_newFunctionEnv_cells S.kind hkind λenv he s1 x=>?_;subst he;refine ⟨lim.keeps x.toInCall.keep,codeAny_func ?_⟩;obtain ⟨t,ht,hq⟩:=hbody A outer s H vs Q E (hr.deeper _) hsp;have I:Inv (zLv CX P w K mg base N qual scope f cdv A outer s H E) [] (start N vs) H s1:=zNr S hr.hd e0 hl r x;refine zXH (ht [] s1 (start N vs) H _ I hq) (λfl s' hs=>?_) λe s' hs=>hs;have fin:∀ {σ':St} {H':Hp} {v:V} {u:Yu},Inv (zLv CX P w K mg base N qual scope f cdv A outer s H E) [] σ' H' s'->zt v u->Q v H'->CE outer P w H s Q u s' :=
  λ{σ' H' v u} J rv q=>⟨v,H',J.os,J.bare,J.base,J.hok,rv,q⟩
 cases fl with
 |ret u=>
  obtain ⟨v,σ',H',J,rv,q⟩:=hs;exact fin J rv q
 |next=>
  obtain ⟨σ',H',J,q⟩:=hs;exact fin (v:=V.non) (u:=Value.none) J rfl q
 |brk=>
  obtain ⟨_,_,_,q⟩:=hs;exact False.elim q
 |cont=>
  obtain ⟨_,_,_,q⟩:=hs;exact False.elim q
section
variable {X:Cx} {x:Str} {p pos:Pos} {e:Expr} {es:Yi} {t:TA} {id T:String} {r:List V->Hp->VK->Prop}
def tCB (r:List V->Hp->VK->Prop) (t:TA):TE:=λσ H Q=>t σ H λvs H1=>r vs H1 Q
theorem zP2 (hc:zDK X (.builtin id) r) (hg:Gl X x) (hm:X.mg x=none) (hv:bootBuiltins x=some (.builtin id)) (ha:PA X (e::es) t) (hn:x ≠ "__name__" := by decide) (hdb:(x==("__debug__" : Str))=false:=by decide)
  (he:starEach (e::es) X.env=(false,eval e X.env)::starEach es X.env:=by rfl) (hpl:(backTo pos (starEach es X.env)).any (·.1)=false:=by rfl):PE X (.Call (.Name x p) (e::es) [] pos) (tCB r t):=by
 intro zB s σ H Q I h;refine wpAny_Call_Name_kw (zEG I hg hm hv ?_ hn hdb);exact PyProof.Rows.callWith_builtin1 (thn (ha pos zB s σ H _ I h) λus s1 ⟨vs,H1,I1,r1,q1⟩=>hc zB s1 σ H1 vs us Q I1 r1 q1) he hpl
theorem zDD (hc:zDK X (.type T) r) (hg:Gl X x) (hm:X.mg x=none) (hv:bootBuiltins x=some (.type T)) (ha:PA X (e::es) t) (hn:x ≠ "__name__" := by decide) (hdb:(x==("__debug__" : Str))=false:=by decide)
  (he:starEach (e::es) X.env=(false,eval e X.env)::starEach es X.env:=by rfl) (hpl:(backTo pos (starEach es X.env)).any (·.1)=false:=by rfl):PE X (.Call (.Name x p) (e::es) [] pos) (tCB r t):=by
 intro zB s σ H Q I h;refine wpAny_Call_Name_kw (zEG I hg hm hv ?_ hn hdb);exact PyProof.Rows.callWith_type1 (thn (ha pos zB s σ H _ I h) λus s1 ⟨vs,H1,I1,r1,q1⟩=>hc zB s1 σ H1 vs us Q I1 r1 q1) he hpl
end
end L2
namespace HT
open PySem PyProof.Rows
section
variable {prog:Ym} {w:Yo} {A:Yn} {E:Yc} {s:Yl}
theorem zRU {t b:Yt} {vs ws:Yf} {Q:Yc} (ht:IsTup s.heap t vs.toArray) (hb:IsTup s.heap b ws.toArray) (hv:vs≠[])
  (h1:ws=[]->Q (.ref t) s) (h2:ws≠[]->Q (.ref s.heap.objs.size) { s with heap:=s.heap.push { cls:=.type "tuple", data:=.seq (vs++ws).toArray } })
  (hsz:vs.length+ws.length<=sizeLine):wpAny (model prog w) A (binaryOp .Add (.ref t) (.ref b)) Q E s:=by
 obtain ⟨⟨cls,dd,data,sl⟩,ho,hc,n,hd⟩:=id ht;obtain ⟨⟨cls2,dd2,data2,sl2⟩,ho2,hc2,n2,hd2⟩:=id hb;simp only at hc hd hc2 hd2;subst hc hd hc2 hd2;have e:vs.toArray++ws.toArray=(vs++ws).toArray:=by simp
 by_cases hw:ws=[]
 .exact concat_meets ⟨_,ho,rfl⟩ ⟨_,ho2,rfl⟩ noFill_tuple_add seq_tuple_add PySem.F.slot_tuple_add PySem.F.entry_tuple_add (PySem.F.args_tuple_add_2 _ _)
   (tuple_addW1 t b vs.toArray ws.toArray n n2 dd dd2 sl sl2 (by simpa using hv) (by simp[hw])) ⟨ho,ho2,h1 hw⟩
 .refine concat_meets ⟨_,ho,rfl⟩ ⟨_,ho2,rfl⟩ noFill_tuple_add seq_tuple_add PySem.F.slot_tuple_add PySem.F.entry_tuple_add (PySem.F.args_tuple_add_2 _ _)
   (tuple_addW2 t b vs.toArray ws.toArray n n2 dd dd2 sl sl2 (by simpa using hv) (by simpa using hw) (by rw[zWt,zWt];exact hsz)) ⟨ho,ho2,?_⟩
  rw[e];exact h2 hw
def sIx (n d:Nat):Option Int->Nat
 |none=>d
 |some v=>if v<0 then (v+(n:Int)).toNat else min v.toNat n
theorem zGY (n d k:Nat):sIx n d (some (k:Int))=min k n:=by
 show (if (k:Int)<0 then ((k:Int)+(n:Int)).toNat else min (k:Int).toNat n)=min k n;rw[zW3 (by omega),zZV]
theorem zTs (n d:Nat) (hd:d<=n) (o:Ys):sIx n d o<=n:=by
 cases o with
 |none=>exact hd
 |some v=>
  show (if v<0 then (v+(n:Int)).toNat else min v.toNat n)<=n;by_cases hv:v<0
  .rw[zW0 hv];omega
  .rw[zW3 hv];exact Nat.min_le_right _ _
theorem zNC (v:Int) (n d:Nat):(if v<0 then max (v+(n:Int)) 0 else min v (n:Int))=((sIx n d (some v):Nat):Int):=by
 show (if v<0 then max (v+(n:Int)) 0 else min v (n:Int))=(((if v<0 then (v+(n:Int)).toNat else min v.toNat n):Nat):Int);by_cases hv:v<0
 .simp only[zW0 hv];omega
 .simp only[zW3 hv];omega
theorem zL1 (lo hi:Ys) (n:Nat):Builtin.Slice.sliceAdjust lo hi 1 (n:Int)=(((sIx n 0 lo:Nat):Int),((sIx n n hi:Nat):Int)):=by
 have h1:¬ ((1:Int)<0):=by omega
 unfold Builtin.Slice.sliceAdjust;simp only[h1,if_false];refine Prod.ext ?_ ?_
 .cases lo with
  |none=>rfl
  |some v=>exact zNC v n 0
 .cases hi with
  |none=>rfl
  |some v=>exact zNC v n n
theorem zML (i j:Nat):Builtin.Slice.slicePlaces (i:Int) (j:Int) 1=j-i:=by
 unfold Builtin.Slice.slicePlaces;have h1:(1:Int)>0:=by omega
 simp only[h1,if_true,Int.ediv_one];split <;> omega
theorem zHP {v:Yu} {o:Ys} {Q:Option Int->Shared->Prop} (p:IsPart v o) (h:Q o s):wpAny (model prog w) A (Builtin.Slice.slicePartIndex v) Q E s:=by
 cases p with
 |none=>exact slicePart_none h
 |int i t=>exact slicePart_int h
theorem zDJ {sl:Yt} {vl vu:Yu} {lo hi:Ys} {n:Nat} {Q:Int × Int × Nat->Shared->Prop} (hs:s.heap.IsSliceOf sl vl vu .none) (pl:IsPart vl lo) (pu:IsPart vu hi)
  (h:Q (((sIx n 0 lo:Nat):Int),1,sIx n n hi-sIx n 0 lo) s):wpAny (model prog w) A (Builtin.Slice.sliceApplied (.ref sl) (pure (n:Int))) Q E s:=by
 obtain ⟨os,hos,hcs,hds⟩:=id hs;unfold Builtin.Slice.sliceApplied Builtin.Slice.sliceFields;refine zWl (zWl (zXQ hos hds (x:=vl) rfl (zWl (zXQ hos hds (x:=vu) rfl (zWl (zXQ hos hds (x:=.none) rfl (zWn ?_)))))));refine zWl (slicePart_none ?_);show wpAny _ _ (if ((1:Int)==0)=true then _ else _) _ _ s;rw[zW3 (by decide)];refine zWl (zHP pl (zWl (zHP pu (zWl (zWn ?_)))));show wpAny _ _ (match Builtin.Slice.sliceAdjust lo hi 1 (n:Int) with|(lo,hi)=>pure (lo,(1:Int),Builtin.Slice.slicePlaces lo hi 1)) _ _ s;rw[zL1 lo hi n];show wpAny _ _ (pure (((sIx n 0 lo:Nat):Int),(1:Int),Builtin.Slice.slicePlaces ((sIx n 0 lo:Nat):Int) ((sIx n n hi:Nat):Int) 1)) _ _ s;rw[zML];exact zWn h
theorem zPl (xs:Yp) (i k:Nat):((List.range k).filterMap λ(m:Nat)=>xs[((i:Int)+(m:Int)*1).toNat]?).toArray=((xs.toList.drop i).take k).toArray:=by
 have e:(λ(m:Nat)=>xs[((i:Int)+(m:Int)*1).toNat]?)=λm=>xs[i+m]?:=by
  funext m;have:((i:Int)+(m:Int)*1).toNat=i+m:=by omega
  rw[this]
 rw[e];have:=pick_run xs i k;rw[List.filterMap_map]at this;have e2:((λx=>xs[x]?)∘λx=>i+x)=λm=>xs[i+m]?:=rfl;rw[e2]at this;rw[this]
theorem zFC {t sl:Yt} {items:Yp} {vl vu:Yu} {lo hi:Ys} {Q:Yc} (ht:IsTup s.heap t items) (hs:s.heap.IsSliceOf sl vl vu .none) (pl:IsPart vl lo) (pu:IsPart vu hi)
  (hw:¬ (sIx items.size 0 lo=0/\sIx items.size items.size hi=items.size))
  (h:Q (.ref s.heap.objs.size) { s with heap:=s.heap.push { cls:=.type "tuple", data:=.seq ((items.toList.drop (sIx items.size 0 lo)).take (sIx items.size items.size hi-sIx items.size 0 lo)).toArray } })
  (hsz:items.size<=sizeLine):wpAny (model prog w) A (getItem (.ref t) (.ref sl)) Q E s:=by
 have htake:sizeOk (.seq ((items.toList.drop (sIx items.size 0 lo)).take (sIx items.size items.size hi-sIx items.size 0 lo)).toArray):=by
  show ((items.toList.drop (sIx items.size 0 lo)).take (sIx items.size items.size hi-sIx items.size 0 lo)).toArray.size<=sizeLine;rw[zWt,zX9,List.length_drop,zXU];omega
 have hj:sIx items.size items.size hi<=items.size:=zTs _ _ (zWr _) hi;obtain ⟨os,hos,hcs,hds⟩:=id hs;have hTs:s.TypeIs (.ref sl) "slice" := ⟨os,hos,hcs⟩;unfold getItem;try with_reducible refine zXe ?_
 first|refine zWl (zWn ?_)|skip
 refine zWl (wpAny_sequenceKey ht.typeIs (by decide) ?_)
 refine zWl (zXN (name:=Str.ofString "__getitem__") ht.typeIs zYJ
  (zXO zYJ ht.typeIs entry_tuple_getitem ?_ (args_tuple_getitem _ _)))
 show wpAny _ _ (Builtin.Tuple.tupleItemsOf (.ref t) >>= _) _ _ s;refine zWl (tupleItemsOf_ ht ?_);refine zWl (wpAny_typeOf hTs ?_);rw[zW0 (by decide)];refine zWl (zDJ hs pl pu ?_);have hno:¬ ((((sIx items.size 0 lo:Nat):Int)==0&&(1:Int)==1&&(sIx items.size items.size hi-sIx items.size 0 lo)==items.size)=true):=by
  intro q;rw[zXL,zXL]at q;have q1:((sIx items.size 0 lo:Nat):Int)=0:=eq_of_beq q.1.1;have q2:sIx items.size items.size hi-sIx items.size 0 lo=items.size:=eq_of_beq q.2;exact hw ⟨by omega,by omega⟩
 show wpAny _ _ (if (((sIx items.size 0 lo:Nat):Int)==0&&(1:Int)==1&&(sIx items.size items.size hi-sIx items.size 0 lo)==items.size)=true then _ else _) _ _ s;rw[zW3 hno,zPl]
 first
  |exact zWl (m:=Builtin.Tuple.tupleExact _) (zXE (zWn ⟨_,rfl,zWn h⟩) htake)
  |exact zWl (m:=Builtin.Tuple.tupleExact _) (zXE (zWl (zWn (zWn ⟨_,rfl,zWn h⟩))) htake)
  |exact zWl (zWl (m:=Builtin.Tuple.tupleExact _) (zXE (zWn (zWn ⟨_,rfl,zWn h⟩)) htake))
  |exact zWl (zWl (m:=Builtin.Tuple.tupleExact _) (zXE (zWn ⟨_,rfl,zWn h⟩) htake))
end
end HT
namespace L2
open PySem PySem.Spec PyProof.Rows
abbrev TO:=St->Hp->(Option Int->Hp->Prop)->Prop
def PO (X:Cx) (e:Option Expr) (t:TO):Prop :=
 ∀ (zB:Yd) (s:Yl) (σ:St) (H:Hp) (Q:Option Int->Hp->Prop),Inv X zB σ H s->t σ H Q ->
  wpAny (model X.prog X.w) X.A (evalPart e X.env) (λu s'=>∃ o H',Inv X zB σ H' s'/\IsPart u o/\Q o H') X.xe s
def zSW:TO:=λ_ H Q=>Q none H
def zVf (t:TE):TO:=λσ H Q=>t σ H λx H1=>∃ i,x=.int i/\Q (some i) H1
theorem zMh {ns:Ye}:∀ {us:Yf},za (ns.map V.int) us->IntsAre us ns:=by
 induction ns with
 |nil=>intro us r;rw[List.map_nil]at r;cases r;exact .nil
 |cons n ns ih=>
  intro us r;rw[zW4]at r;cases r with
  |cons r1 r2=>
   obtain ⟨t,e⟩:=r1;subst e;exact .cons n t (ih r2)
section
variable {X:Cx} {e:Expr} {te:TE} {lo hi:Option Expr} {tl th:TO} {pos p2:Pos}
theorem zSu:PO X none zSW:=by
 intro zB s σ H Q I h;rw[evalPart_none];exact zWn ⟨none,H,I,.none,h⟩
theorem zRg (h:PE X e te):PO X (some e) (zVf te):=by
 intro zB s σ H Q I hw;rw[evalPart_some];refine thn (h zB s σ H _ I hw) λu s1 ⟨x,H1,I1,r1,q1⟩=>?_;obtain ⟨i,rfl,q⟩:=q1;obtain ⟨t,rfl⟩:=r1;exact ⟨some i,H1,I1,.int i t,q⟩
def SlR (X:Cx) (r:V->Option Int->Option Int->Hp->VK->Prop):Prop :=
 ∀ (zB:Yd) (s:Yl) (σ:St) (H:Hp) (x:V) (v vl vu:Yu) (lo hi:Ys) (sl:Yt) (Q:VK),Inv X zB σ H s->zt x v->s.heap.IsSliceOf sl vl vu .none->IsPart vl lo->IsPart vu hi->r x lo hi H Q ->
  ∃ T id,typeLookup (.type T) "__getitem__" = pure (some (.builtin id))/\s.TypeIs v T/\wpAny (model X.prog X.w) X.A (getItem v (.ref sl)) (EP X zB σ Q) X.xe s
theorem SlR.or {r r':V->Option Int->Option Int->Hp->VK->Prop} (h:SlR X r) (h':SlR X r'):SlR X (λx lo hi H Q=>r x lo hi H Q\/r' x lo hi H Q):=by
 intro zB s σ H x v vl vu lo hi sl Q I rx hs pl pu q;rcases q with q|q
 .exact h zB s σ H x v vl vu lo hi sl Q I rx hs pl pu q
 .exact h' zB s σ H x v vl vu lo hi sl Q I rx hs pl pu q
def tSl (r:V->Option Int->Option Int->Hp->VK->Prop) (te:TE) (tl th:TO):TE:=λσ H Q=>te σ H λx H1=>tl σ H1 λl H2=>th σ H2 λu H3=>r x l u H3 Q
theorem zQ7 {r:V->Option Int->Option Int->Hp->VK->Prop} (hr:SlR X r) (he:PE X e te) (hl:PO X lo tl) (hu:PO X hi th):PE X (.Subscript e (.Slice lo hi none p2) pos) (tSl r te tl th):=by
 intro zB s σ H Q I h;refine Subscript_ (thn (he zB s σ H _ I h) λv s1 ⟨x,H1,I1,r1,q1⟩=>?_);refine wpAny_Slice (thn (hl zB s1 σ H1 _ I1 q1) λvl s2 ⟨l,H2,I2,pl,q2⟩=>thn (hu zB s2 σ H2 _ I2 q2) λvu s3 ⟨u,H3,I3,pu,q3⟩=>?_);rw[evalPart_none];refine zWn ?_;have I4:Inv X zB σ H3 { s3 with heap:=s3.heap.push { cls:=.type "slice", data:=.fields #[vl,vu,.none] } }:=I3.kept (t':=s3.toks) λb ob q=>zWm _ q;obtain ⟨T,id,hT,ht,hg⟩:=hr zB { s3 with heap:=s3.heap.push { cls:=.type "slice", data:=.fields #[vl,vu,.none] } } σ H3 x v vl vu l u s3.heap.objs.size Q I4 r1 (Heap.IsSliceOf.new ..) pl pu q3;show wpAny (model X.prog X.w) X.A (subscriptTail e (.Slice lo hi none p2) v (.ref s3.heap.objs.size)) (EP X zB σ Q) X.xe { s3 with heap:=s3.heap.push { cls:=.type "slice", data:=.fields #[vl,vu,.none] } };exact tail_any (ops:=[.ref s3.heap.objs.size,v]) ht hT hg (by with_unfolding_all rfl)
def zLU (xs:List V) (lo hi:Ys):List V:=(xs.drop (HT.sIx xs.length 0 lo)).take (HT.sIx xs.length xs.length hi-HT.sIx xs.length 0 lo)
theorem zFx (xs:List V) (lo hi:Ys):(zLU xs lo hi).length<=xs.length:=by
 unfold zLU;rw[zX9,List.length_drop];omega
def zWT (K:Yb):V->Option Int->Option Int->Hp->VK->Prop:=λx lo hi H Q=>∃ a xs,x=.ref a/\SqT K H a xs /\
 ¬ (HT.sIx xs.length 0 lo=0/\HT.sIx xs.length xs.length hi=xs.length) /\ ∀ p,H p=none->Q (.ref p) (upd H p (.tup (zLU xs lo hi)))
theorem zUa:SlR X (zWT X.K):=by
 intro zB s σ H x v vl vu lo hi sl Q I rx hs pl pu h;obtain ⟨a,xs,rfl,hx,hw,q⟩:=h;cases rx;obtain ⟨its,r,ht,hz⟩:=I.tuple hx;have hlen:its.toArray.size=xs.length:=by rw[zWt];exact r.length.symm
 refine ⟨"tuple", _,zYJ.lookup,ht.typeIs,?_⟩;refine HT.zFC ht hs pl pu (by rw[hlen];exact hw) ?_ (by rw[hlen];exact hz);rw[hlen];refine ⟨.ref s.heap.objs.size,_,I.laid (t':=s.toks) (o:=.tup (zLU xs lo hi)) (λb ob q=>zWm _ q) (zWr _) ?_,rfl,q _ (I.hok.fresh (zWr _))⟩;exact ⟨zXC (zFx xs lo hi) hz,_,(r.drop (HT.sIx xs.length 0 lo)).take (HT.sIx xs.length xs.length hi-HT.sIx xs.length 0 lo),zCF.new _ _⟩
def zS5 (K:Yb):R2:=λx y H Q=>∃ a b xs ys,x=.ref a/\y=.ref b/\SqT K H a xs/\SqT K H b ys/\xs≠[]/\xs.length+ys.length<=sizeLine /\
 (ys=[]->Q (.ref a) H)/\(ys≠[] -> ∀ p,H p=none->Q (.ref p) (upd H p (.tup (xs++ys))))
theorem za.nil_iff {xs:List V} {us:Yf} (r:za xs us):us=[] ↔ xs=[]:=by
 cases r with
 |nil=>simp
 |cons _ _=>simp
theorem zRn:OpR X (binaryOp .Add) (zS5 X.K):=by
 intro zB s σ H x y v u Q I rx ry h;obtain ⟨a,b,xs,ys,rfl,rfl,ha,hb,hx,hz,q1,q2⟩:=h;cases rx;cases ry;obtain ⟨its,r1,p1,_⟩:=I.tuple ha;obtain ⟨its2,r2,p2,_⟩:=I.tuple hb;refine HT.zRU p1 p2 (λz=>hx (r1.nil_iff.mp z)) (λz=>⟨.ref a,H,I,rfl,q1 (r2.nil_iff.mp z)⟩) (λz=>?_) (by rw[<-r1.length,<-r2.length];exact hz);refine ⟨.ref s.heap.objs.size,_,I.laid (t':=s.toks) (o:=.tup (xs++ys)) (λb ob q=>zWm _ q) (zWr _) ?_,rfl,q2 (λw=>z (r2.nil_iff.mpr w)) _ (I.hok.fresh (zWr _))⟩;exact ⟨by rw[zW1];exact hz,_,r1.append r2,zCF.new _ _⟩
end
def ixN (n:Nat) (i:Int):Option Nat:=if 0<=i then (if i<n then some i.toNat else none) else if -(n:Int)<=i then some (i+n).toNat else none
def atI {α:Type} (xs:List α) (i:Int):Option α:=(ixN xs.length i).bind λj=>xs[j]?
theorem zJc {n:Nat} {i:Int} {j:Nat} (h:ixN n i=some j):seqIndex? i n=some j/\j<n /\ -(n:Int)<=i/\i<n:=by
 unfold ixN at h;by_cases h0:0<=i
 .rw[zW0 h0]at h;by_cases h1:i<n
  .rw[zW0 h1]at h;have e:i.toNat=j:=zXl h;exact ⟨by rw[seqIndex_of h0 h1,e],by omega,by omega,h1⟩
  .rw[zW3 h1]at h;cases h
 .rw[zW3 h0]at h;by_cases h1 : -(n:Int)<=i
  .rw[zW0 h1]at h;have e:(i+n).toNat=j:=zXl h;exact ⟨by rw[seqIndex_neg (by omega) h1,e],by omega,h1,by omega⟩
  .rw[zW3 h1]at h;cases h
theorem zJ2 {α:Type} {xs:List α} {i:Int} {v:α} (h:atI xs i=some v):∃ j,seqIndex? i xs.length=some j/\xs[j]?=some v/\j<xs.length /\ -(xs.length:Int)<=i/\i<xs.length:=by
 unfold atI at h;cases e:ixN xs.length i with
 |none=>rw[e]at h;cases h
 |some j=>
  rw[e]at h;obtain ⟨h1,h2,h3,h4⟩:=zJc e;exact ⟨j,h1,h,h2,h3,h4⟩
theorem zNG {α:Type} {xs:List α} {j:Nat} {v:α} (h:xs[j]?=some v):atI xs (j:Int)=some v:=by
 have hj:j<xs.length:=(zWo.mp h).1;have e:ixN xs.length (j:Int)=some j:=by
  unfold ixN;rw[zW0 (by omega),zW0 (by omega)];simp
 unfold atI;rw[e];exact h
theorem zFE {α:Type} (xs:List α) (v:α):atI (xs++[v]) (-1)=some v:=by
 have hl:(xs++[v]).length=xs.length+1:=by simp
 have e:ixN (xs++[v]).length (-1)=some xs.length:=by
  unfold ixN;rw[hl,zW3 (by decide),zW0 (by omega)];congr 1;omega
 unfold atI;rw[e];show (xs++[v])[xs.length]?=some v;simp
def zNK (b:Expr):Prop:=∀ o i,subscripted b false o i=operate [o,i] (getItem o i)
def IxR (X:Cx) (r:R2):Prop :=
 ∀ (value slice:Expr) (zB:Yd) (s:Yl) (σ:St) (H:Hp) (x y:V) (v u:Yu) (Q:VK),Inv X zB σ H s->zt x v->zt y u->r x y H Q ->
  subscripted slice false v u=operate [v,u] (getItem v u)->wpAny (model X.prog X.w) X.A (subscriptTail value slice v u) (EP X zB σ Q) X.xe s
def MtR (X:Cx) (id:String) (r:V->List V->Hp->VK->Prop):Prop :=
 ∀ (zB:Yd) (s:Yl) (σ:St) (H:Hp) (x:V) (xs:List V) (v:Yu) (us:Yf) (Q:VK),Inv X zB σ H s->zt x v->za xs us->r x xs H Q ->
  wpAny (model X.prog X.w) X.A (call (.builtin id) (v::us)) (EP X zB σ Q) X.xe s
section
variable {X:Cx} {a b:Expr} {ta tb:TE} {pos:Pos}
theorem IxR.or {r r':R2} (h:IxR X r) (h':IxR X r'):IxR X (λx y H Q=>r x y H Q\/r' x y H Q):=by
 intro value slice zB s σ H x y v u Q I rx ry q hs;rcases q with q|q
 .exact h value slice zB s σ H x y v u Q I rx ry q hs
 .exact h' value slice zB s σ H x y v u Q I rx ry q hs
theorem zVU {r:R2} (hr:IxR X r) (ha:PE X a ta) (hb:PE X b tb) (hs:zNK b):PE X (.Subscript a b pos) (tOp r ta tb):=by
 intro zB s σ H Q I h;exact Subscript_ (zVM ha hb I h λv u s2 x y H2 I2 rx ry q=>hr a b zB s2 σ H2 x y v u Q I2 rx ry q (hs _ _))
def zV8 (K:Yb):R2:=λx y H Q=>∃ p xs i v,x=.ref p/\y=.int i/\SqL K H p xs/\atI xs i=some v/\Q v H
def zVY (K:Yb):R2:=λx y H Q=>∃ p xs i v,x=.ref p/\y=.int i/\SqT K H p xs/\atI xs i=some v/\Q v H
def zVD:R2:=λx y H Q=>∃ z i c,x=.str z/\y=.int i/\z.length<=sizeLine/\atI z.cps.toList i=some c/\Q (.str ⟨#[c]⟩) H
theorem zRQ:IxR X (zV8 X.K):=by
 intro value slice zB s σ H x y v u Q I rx ry h hs;obtain ⟨p,xs,i,z,rfl,rfl,hq,he,q⟩:=h;cases rx;obtain ⟨t,rfl⟩:=ry;obtain ⟨its,r,pl,hz⟩:=I.list hq;obtain ⟨j,h1,h2,h3,h4,h5⟩:=zJ2 he;obtain ⟨w,ew,rw'⟩:=r.get h2;have hl:=r.length;have hn:=zEq;have fin:EP X zB σ Q w s:=⟨z,H,I,rw',q⟩;by_cases h0:0<=i
 .have hj:i.toNat=j:=by
   rw[seqIndex_of h0 h5]at h1;exact zXl h1
  exact item_listR pl.isList h0 (by omega) (by rw[hj];simpa using ew) fin hs
 .have hj:(i+(its.toArray.size:Int)).toNat=j:=by
   rw[seqIndex_neg (by omega) h4]at h1;rw[zWt,<-hl];exact zXl h1
  exact subscriptTail_builtinR (x:=w) pl.isList.typeIs slot_list_getitem.lookup
   (wpAny_getItem_list_neg (Q:=λr s'=>r=w/\EP X zB σ Q r s') pl.isList (by omega) (by rw[zWt] <;> omega) (by omega) (by rw[hj];simpa using ew) ⟨rfl,fin⟩) hs
theorem zTX:IxR X (zVY X.K):=by
 intro value slice zB s σ H x y v u Q I rx ry h hs;obtain ⟨p,xs,i,z,rfl,rfl,hq,he,q⟩:=h;cases rx;obtain ⟨t,rfl⟩:=ry;obtain ⟨its,r,pl,hz⟩:=I.tuple hq;obtain ⟨j,h1,h2,h3,h4,h5⟩:=zJ2 he;obtain ⟨w,ew,rw'⟩:=r.get h2;have hl:=r.length;have hn:=zEq;have fin:EP X zB σ Q w s:=⟨z,H,I,rw',q⟩
 exact subscriptTail_builtinR (x:=w) pl.typeIs slot_tuple_getitem.lookup
  (getItem_tuple (j:=j) (Q:=λr s'=>r=w/\EP X zB σ Q r s') pl (by omega) (by omega) (by rw[zWt,<-hl];exact h1) (by simpa using ew) ⟨rfl,fin⟩) hs
theorem zUV:IxR X zVD:=by
 intro value slice zB s σ H x y v u Q I rx ry h hs;obtain ⟨z,i,c,rfl,rfl,hz,he,q⟩:=h;obtain ⟨t,rfl⟩:=rx;obtain ⟨t',rfl⟩:=ry;obtain ⟨j,h1,h2,h3,h4,h5⟩:=zJ2 he;have hl:z.cps.toList.length=z.length:=by simp[Str.length]
 rw[hl]at h1 h4 h5;have hn:=zEq;exact tail_any (typeIs_str s z t) slot_str_getitem.lookup (getItem_str (c:=c) (by
  have e1:decide (i < -(2 ^ 63:Int))=false:=zXK (by omega);have e2:decide (i≥2 ^ 63)=false:=zXK (by omega);rw[e1,e2,Bool.or_false]) (by rw[h1];simpa using h2) ⟨.str ⟨#[c]⟩,H,I.tok _,⟨_,rfl⟩,q⟩) hs
def rIx (K:Yb):R2:=λx y H Q=>zV8 K x y H Q\/zVY K x y H Q\/zVD x y H Q
theorem zTa:IxR X (rIx X.K):=zRQ.or (zTX.or zUV)
theorem zL0 (its:List Value) (n j:Nat) (u:Value):Obj.mapSeq (·.setIfInBounds j u) { cls:=.type "list", data:=.seq its.toArray n }={ cls:=.type "list", data:=.seq (its.set j u).toArray n }:=by
 simp[Obj.mapSeq]
theorem Inv.lst {zB:Yd} {σ:St} {H:Hp} {s:Yl} {p:Yt} {xs:List V} (I:Inv X zB σ H s) (h:H p=some (.lst xs)) :
  ∃ (its:List Value) (n:Nat),za xs its/\s.heap.get? p=some { cls:=.type "list", data:=.seq its.toArray n }/\xs.length<=sizeLine:=by
 obtain ⟨z,its,n,r,e⟩:=I.hok p _ h;exact ⟨its,n,r,e,z⟩
theorem Inv.lstUpd {zB:Yd} {σ:St} {H:Hp} {s:Yl} {p:Yt} {xs ys:List V} {its its':Yf} {n n':Nat} {f:Obj->Obj} (I:Inv X zB σ H s) (h:H p=some (.lst xs))
  (ho:s.heap.get? p=some { cls:=.type "list", data:=.seq its.toArray n }) (hf:f { cls:=.type "list", data:=.seq its.toArray n }={ cls:=.type "list", data:=.seq its'.toArray n' }) (r:za ys its') (hz:ys.length<=sizeLine) (t:Nat) :
  Inv X zB σ (upd H p (.lst ys)) { s with heap:=s.heap.update p f,toks:=t }:=by
 have e:(s.heap.update p f).get? p=some { cls:=.type "list", data:=.seq its'.toArray n' }:=by
  rw[zXY f ho (by rw[hf] <;> rfl),hf]
 refine I.write (x:=p) (e:=p) (by rw[h];trivial) (.inl rfl) (λb u hb q=>(zXS _ _ (Ne.symm hb)).trans q) ⟨_,e⟩ ?_;exact ⟨hz,its',n',r,e⟩
def zVF:V->V->V->Hp->(Hp->Prop)->Prop:=λo i v H Q=>∃ p xs k j,o=.ref p/\i=.int k/\H p=some (.lst xs)/\ixN xs.length k=some j/\Q (upd H p (.lst (xs.set j v)))
theorem zPC:zVE X zVF:=by
 intro zB s σ H o i v ov iv u Q I ro ri rv h;obtain ⟨p,xs,k,j,rfl,rfl,hp,hj,q⟩:=h;cases ro;obtain ⟨t,rfl⟩:=ri;obtain ⟨its,n,r,ho,hz⟩:=I.lst hp;obtain ⟨h1,h2,h3,h4⟩:=zJc hj;have hl:=r.length;have hn:=zEq;have I':Inv X zB σ (upd H p (.lst (xs.set j v))) { s with heap:=s.heap.update p (Obj.mapSeq (·.setIfInBounds j u)) } :=
  I.lstUpd hp ho (zL0 its n j u) (r.set rv j) (by rw[List.length_set];exact hz) s.toks
 by_cases h0:0<=k
 .have hk:k.toNat=j:=by
   rw[seqIndex_of h0 h4]at h1;exact zXl h1
  exact PySem.W.ki_setAt ho h0 (by omega) (by rw[zWt,<-hl];exact h4) (by rw[hk];exact ⟨_,I',q⟩)
 .have hk:(k+(its.toArray.size:Int)).toNat=j:=by
   rw[seqIndex_neg (by omega) h3]at h1;rw[zWt,<-hl];exact zXl h1
  exact PySem.W.ki_setBack ho (by omega) (by rw[zWt,<-hl];exact h3) (by omega) (by rw[hk];exact ⟨_,I',q⟩)
theorem zJ0 (lo hi:Ys) (n:Nat):(sliceBounds lo hi none n).1=((HT.sIx n 0 lo:Nat):Int)/\(sliceBounds lo hi none n).2.1=((HT.sIx n n hi:Nat):Int)/\(sliceBounds lo hi none n).2.2=1:=by
 refine ⟨?_,?_,rfl⟩
 .cases lo with
  |none=>simp[sliceBounds,HT.sIx]
  |some i=>
   simp only[sliceBounds,HT.sIx,Option.getD_none,show (1:Int)>0 by decide,if_true];by_cases h:i<0
   .simp only[h,if_true] <;> omega
   .simp only[h,if_false] <;> omega
 .cases hi with
  |none=>simp[sliceBounds,HT.sIx]
  |some i=>
   simp only[sliceBounds,HT.sIx,Option.getD_none,show (1:Int)>0 by decide,if_true];by_cases h:i<0
   .simp only[h,if_true] <;> omega
   .simp only[h,if_false] <;> omega
theorem zH4 (its:Yf) (lo hi:Ys):slicePick its.toArray lo hi none=((its.drop (HT.sIx its.length 0 lo)).take (HT.sIx its.length its.length hi-HT.sIx its.length 0 lo)).toArray:=by
 obtain ⟨h1,h2,h3⟩:=zJ0 lo hi its.toArray.size;unfold slicePick;rw[h1,h2,h3];simp only[sliceRange_one,pick_run,zWt] <;> rfl
def zWi (K:Yb):V->Option Int->Option Int->Hp->VK->Prop:=λx lo hi H Q=>∃ a xs,x=.ref a/\SqL K H a xs /\ ∀ p,H p=none->Q (.ref p) (upd H p (.lst (zLU xs lo hi)))
theorem zSm:SlR X (zWi X.K):=by
 intro zB s σ H x v vl vu lo hi sl Q I rx hs pl pu h;obtain ⟨a,xs,rfl,hx,q⟩:=h;cases rx;obtain ⟨its,r,ht,hz⟩:=I.list hx;have hlen:=r.length;refine ⟨"list", _,slot_list_getitem.lookup,ht.isList.typeIs,?_⟩;refine wpAny_getItem_list_slice ht.isList hs pl pu .none (by simp) ?_ (by rw[zWt] <;> omega);rw[zH4,<-hlen];refine ⟨.ref s.heap.objs.size,_,I.laid (t':=s.toks) (o:=.lst (zLU xs lo hi)) (λb ob q=>zWm _ q) (zWr _) ?_,rfl,q _ (I.hok.fresh (zWr _))⟩;exact ⟨zXC (zFx xs lo hi) hz,_,0,(r.drop (HT.sIx xs.length 0 lo)).take (HT.sIx xs.length xs.length hi-HT.sIx xs.length 0 lo),zWv _ rfl⟩
def zEu:V->Bool
 |.non=>true
 |.bl _=>true
 |.int _=>true
 |.str _=>true
 |_=>false
def eqV:V->V->Bool
 |.non,.non=>true
 |.bl a,.bl b=>a==b
 |.bl a,.int b=>(if a then 1 else 0)==b
 |.int a,.bl b=>a==(if b then 1 else 0)
 |.int a,.int b=>a==b
 |.str a,.str b=>a==b
 |_,_=>false
theorem zUP {A:Yn} {s:Yl} {y x:V} {u v:Yu} (ry:zt y u) (rx:zt x v) (fy:zEu y=true) (fx:zEu x=true):SeqAt.EqAt A s u v (eqV y x):=by
 cases y with
 |non=>
  cases ry;cases x with
  |non=>cases rx;exact SeqAt.EqAt.same _
  |bl b=>cases rx;exact SeqAt.EqAt.none_bool b
  |int b=>obtain ⟨t,rfl⟩:=rx;exact SeqAt.EqAt.none_int b t
  |str b=>obtain ⟨t,rfl⟩:=rx;exact SeqAt.EqAt.none_str b t
  |_=>exact absurd (show false=true from fx) zW7
 |bl a=>
  cases ry;cases x with
  |non=>cases rx;exact SeqAt.EqAt.bool_none a
  |bl b=>cases rx;exact SeqAt.EqAt.bool_bool a b
  |int b=>obtain ⟨t,rfl⟩:=rx;exact SeqAt.EqAt.bool_int a b t
  |str b=>obtain ⟨t,rfl⟩:=rx;exact SeqAt.EqAt.bool_str a b t
  |_=>exact absurd (show false=true from fx) zW7
 |int a=>
  obtain ⟨t',rfl⟩:=ry;cases x with
  |non=>cases rx;exact SeqAt.EqAt.int_none a t'
  |bl b=>cases rx;exact SeqAt.EqAt.int_bool a t' b
  |int b=>obtain ⟨t,rfl⟩:=rx;exact SeqAt.EqAt.int_int a t' b t
  |str b=>obtain ⟨t,rfl⟩:=rx;exact SeqAt.EqAt.int_str a t' b t
  |_=>exact absurd (show false=true from fx) zW7
 |str a=>
  obtain ⟨t',rfl⟩:=ry;cases x with
  |non=>cases rx;exact SeqAt.EqAt.str_none a t'
  |bl b=>cases rx;exact SeqAt.EqAt.str_bool a t' b
  |int b=>obtain ⟨t,rfl⟩:=rx;exact SeqAt.EqAt.str_int a t' b t
  |str b=>obtain ⟨t,rfl⟩:=rx;exact SeqAt.EqAt.str_str a t' b t
  |_=>exact absurd (show false=true from fx) zW7
 |_=>exact absurd (show false=true from fy) zW7
def eqU (x:V) (u:Yu):Bool:=match u with
 |.none=>eqV .non x
 |.bool b=>eqV (.bl b) x
 |.int i _=>eqV (.int i) x
 |.str z _=>eqV (.str z) x
 |_=>false
theorem zPx {x y:V} {u:Yu} (r:zt y u) (f:zEu y=true):eqU x u=eqV y x:=by
 cases y with
 |non=>cases r;rfl
 |bl b=>cases r;rfl
 |int i=>obtain ⟨t,rfl⟩:=r;rfl
 |str z=>obtain ⟨t,rfl⟩:=r;rfl
 |_=>exact absurd (show false=true from f) zW7
theorem zFG {x:V}:∀ {xs:List V} {us:Yf},za xs us->xs.all zEu=true->us.any (eqU x)=xs.any λy=>eqV y x
 |_,_,.nil,_=>rfl
 |y::xs,u::us,.cons r t,f=>by
  rw[List.all_cons,zXL]at f;rw[List.any_cons,List.any_cons,zPx r f.1,zFG t f.2]
theorem zEF {A:Yn} {s:Yl} {x:V} {v:Yu} (rx:zt x v) (fx:zEu x=true):∀ {xs:List V} {us:Yf},za xs us->xs.all zEu=true -> ∀ u∈us,SeqAt.EqAt A s u v (eqU x u)
 |_,_,.nil,_=>λu hu=>by cases hu
 |y::xs,u::us,.cons r t,f=>λu' hu=>by
  rw[List.all_cons,zXL]at f;rcases zWx.mp hu with rfl|hu
  .rw[zPx r f.1];exact zUP r rx f.1 fx
  .exact zEF rx fx t f.2 u' hu
def inV (x:V) (xs:List V):Bool:=xs.any λy=>eqV y x
def rIn (K:Yb) (neg:Bool):R2:=λx y H Q=>∃ p xs,y=.ref p/\(SqL K H p xs\/SqT K H p xs)/\zEu x=true/\xs.all zEu=true/\Q (.bl (if neg then !inV x xs else inV x xs)) H
theorem zNt:OpR X (compareOp .In) (rIn X.K false):=by
 intro zB s σ H x y v u Q I rx ry h;obtain ⟨p,xs,rfl,hq,fx,fs,q⟩:=h;cases ry;rcases hq with hq|hq
 .obtain ⟨its,r,pl,hz⟩:=I.list hq;refine SeqAt.in_listAt (eqU x) pl.isList (λw hw=>zEF rx fx r fs w (by simpa using hw)) ⟨.bl _,H,I,rfl,?_⟩;rw[show its.toArray.any (eqU x)=its.any (eqU x) by simp,zFG r fs];exact q
 .obtain ⟨its,r,pl,hz⟩:=I.tuple hq;refine SeqAt.in_tupleAt (eqU x) pl (λw hw=>zEF rx fx r fs w (by simpa using hw)) ⟨.bl _,H,I,rfl,?_⟩;rw[show its.toArray.any (eqU x)=its.any (eqU x) by simp,zFG r fs];exact q
theorem zJB:OpR X (compareOp .NotIn) (rIn X.K true):=by
 intro zB s σ H x y v u Q I rx ry h;obtain ⟨p,xs,rfl,hq,fx,fs,q⟩:=h;cases ry;rcases hq with hq|hq
 .obtain ⟨its,r,pl,hz⟩:=I.list hq;refine SeqAt.notIn_listAt (eqU x) pl.isList (λw hw=>zEF rx fx r fs w (by simpa using hw)) ⟨.bl _,H,I,rfl,?_⟩;rw[show its.toArray.any (eqU x)=its.any (eqU x) by simp,zFG r fs];exact q
 .obtain ⟨its,r,pl,hz⟩:=I.tuple hq;refine SeqAt.notIn_tupleAt (eqU x) pl (λw hw=>zEF rx fx r fs w (by simpa using hw)) ⟨.bl _,H,I,rfl,?_⟩;rw[show its.toArray.any (eqU x)=its.any (eqU x) by simp,zFG r fs];exact q
theorem zJY:zDK X (.builtin "len") (λxs H Q=>∃ p ys,xs=[.ref p]/\(SqL X.K H p ys\/SqT X.K H p ys)/\Q (.int ys.length) H):=by
 intro zB s σ H xs us Q I r h;obtain ⟨p,ys,rfl,hq,q⟩:=h;obtain ⟨u,rfl,rx⟩:=zF4 r;cases rx;have hn:=zEq;rcases hq with hq|hq
 .obtain ⟨its,r',pl,hz⟩:=I.list hq;have hlen:=r'.length;exact Calls.call_len_list pl.isList (by simp only[zWt] <;> omega) ⟨.int ys.length,H,I.tok _,⟨s.toks+1,by rw[zWt,hlen]⟩,q⟩
 .obtain ⟨its,r',pl,hz⟩:=I.tuple hq;have hlen:=r'.length;exact len_tuple pl (by simp only[zWt] <;> omega) ⟨.int ys.length,H,I.tok _,⟨s.toks+1,by rw[zWt,hlen]⟩,q⟩
theorem zJ6:zDK X (.type "list") (λxs H Q=>∃ p ys,xs=[.ref p]/\(SqL X.K H p ys\/SqT X.K H p ys) /\ ∀ l,H l=none->Q (.ref l) (upd H l (.lst ys))):=by
 intro zB s σ H xs us Q I r h;obtain ⟨p,ys,rfl,hq,q⟩:=h;obtain ⟨u,rfl,rx⟩:=zF4 r;cases rx
 have fin:∀ (its:Yf),za ys its->ys.length<=sizeLine -> ∀ (h':Heap) (c':Nat),(∀ b o',s.heap.get? b=some o'->h'.get? b=some o') ->
   h'.get? s.heap.objs.size=some { cls:=.type "list", dict:=none,data:=.seq its.toArray c',slots:=#[] }->EP X zB σ Q (.ref s.heap.objs.size) { s with heap:=h' }:=λits r' hz h' c' kp e=>
  ⟨.ref s.heap.objs.size,_,I.laid (t':=s.toks) kp (zWr _) (show zAs X.prog X.w _ h' _ (.lst ys)from ⟨hz,its,c',r',e⟩),rfl,q _ (I.hok.fresh (zWr _))⟩
 rcases hq with hq|hq
 .obtain ⟨its,r',pl,hz⟩:=I.list hq;have hlen:=r'.length;obtain ⟨o,ho,hc,n,hd⟩:=pl.isList;exact call_list_seq p (.inl rfl) ho hc hd (λh' c' kp e=>fin its r' hz h' c' kp e) (by simp only[zWt] <;> omega)
 .obtain ⟨its,r',pl,hz⟩:=I.tuple hq;have hlen:=r'.length;obtain ⟨o,ho,hc,n,hd⟩:=pl;exact call_list_seq p (.inr rfl) ho hc hd (λh' c' kp e=>fin its r' hz h' c' kp e) (by simp only[zWt] <;> omega)
theorem zHz:zDK X (.type "tuple") (λxs H Q=>∃ p ys,xs=[.ref p]/\((SqL X.K H p ys /\ ∀ l,H l=none->Q (.ref l) (upd H l (.tup ys)))\/(SqT X.K H p ys/\Q (.ref p) H))):=by
 intro zB s σ H xs us Q I r h;obtain ⟨p,ys,rfl,h⟩:=h;obtain ⟨u,rfl,rx⟩:=zF4 r;cases rx;rcases h with ⟨hq,q⟩|⟨hq,q⟩
 .obtain ⟨its,r',pl,hz⟩:=I.list hq;have hlen:=r'.length;refine call_tuple_list pl.isList (λh' kp=>?_) (by simp only[zWt] <;> omega);have I1:Inv X zB σ H { s with heap:=h' }:=I.kept (t':=s.toks) kp;have I2:Inv X zB σ (upd H h'.objs.size (.tup ys)) { s with heap:=h'.push { cls:=.type "tuple", data:=.seq its.toArray } } :=
   I1.laid (t':=s.toks) (λb o e=>zWm _ e) (zWr _) (show zAs X.prog X.w _ _ _ (.tup ys)from ⟨hz,its,r',zCF.new _ _⟩)
  exact ⟨.ref h'.objs.size,_,I2,rfl,q _ (I1.hok.fresh (zWr _))⟩
 .obtain ⟨its,r',pl,hz⟩:=I.tuple hq;exact call_tuple_same pl ⟨.ref p,H,I,rfl,q⟩
def tyV (K:Yb) (T:String) (x:V) (H:Hp):Prop:=match x with
 |.str _=>T = "str"
 |.int _=>T = "int"
 |.ref p=>(T = "list" /\ ∃ xs,SqL K H p xs)\/(T = "tuple" /\ ((∃ o,K.lookup p=some o/\o.cls=.type "tuple" /\ o.dict=none) \/ ∃ xs,H p=some (.tup xs))) \/
   (T = "dict" /\ ((∃ kvs,H p=some (.dK kvs)) \/ ∃ kvs,H p=some (.dT kvs)))\/(T = "set" /\ ∃ S n,H p=some (.set S n))
 |_=>False
theorem zPo {zB:Yd} {σ:St} {H:Hp} {s:Yl} {T:String} {x:V} {v:Yu} (I:Inv X zB σ H s) (r:zt x v) (ty:tyV X.K T x H) :
  s.TypeIs v T /\ ∀ a,v=.ref a -> ∃ ob,s.heap.get? a=some ob/\ob.dict=none:=by
 cases x with
 |str z=>
  obtain ⟨t,rfl⟩:=r;cases (show T = "str" from ty);exact ⟨typeIs_str s z t,λ_ e=>nomatch e⟩
 |int i=>
  obtain ⟨t,rfl⟩:=r;cases (show T = "int" from ty);exact ⟨typeIs_int s i t,λ_ e=>nomatch e⟩
 |ref p=>
  cases r;rcases ty with ⟨rfl,xs,hq⟩|⟨rfl,⟨o,hk,hc,hd⟩|⟨xs,hq⟩⟩|⟨rfl,hk⟩|⟨rfl,S,n,hk⟩
  .obtain ⟨its,_,pl,_⟩:=I.list hq;refine ⟨pl.isList.typeIs,λa e=>?_⟩;cases e;obtain ⟨o,n,e,c,hd,_⟩:=pl;exact ⟨o,e,hd⟩
  .refine ⟨⟨o,I.kIn p o hk,hc⟩,λa e=>?_⟩;cases e;exact ⟨o,I.kIn _ o hk,hd⟩
  .obtain ⟨_,its,_,o,e,c,_,hd⟩:=I.hok p _ hq;refine ⟨⟨o,e,c⟩,λa e2=>?_⟩;cases e2;exact ⟨o,e,hd⟩
  .have z:∃ o,s.heap.get? p=some o/\o.ExactDict:=by
    rcases hk with ⟨kvs,hk⟩|⟨kvs,hk⟩
    .obtain ⟨_,_,_,_,o,_,_,e,ex,_⟩:=I.hok p _ hk;exact ⟨o,e,ex⟩
    .obtain ⟨_,_,_,_,o,_,_,e,ex,_⟩:=I.hok p _ hk;exact ⟨o,e,ex⟩
   obtain ⟨o,e,ex⟩:=z;refine ⟨⟨o,e,ex.1⟩,λa e2=>?_⟩;cases e2;exact ⟨o,e,ex.2.1⟩
  .obtain ⟨o,_,_,_,e,ex,_⟩:=I.hok p _ hk;refine ⟨⟨o,e,ex.1⟩,λa e2=>?_⟩;cases e2;exact ⟨o,e,ex.2.1⟩
 |_=>exact False.elim ty
def zWO (K:Yb) (T:String) (r:V->List V->Hp->VK->Prop) (to:TE):TE:=λσ H Q=>to σ H λx H1=>tyV K T x H1/\r x [] H1 Q
def tBM (K:Yb) (T:String) (r:V->List V->Hp->VK->Prop) (to:TE) (t:TA):TE:=λσ H Q=>to σ H λx H1=>tyV K T x H1/\t σ H1 λxs H2=>r x xs H2 Q
variable {o e:Expr} {es:Yi} {to:TE} {t:TA} {name:Str} {apos cpos:Pos} {T id:String} {r:V->List V->Hp->VK->Prop}
theorem zTU (pa:PlainAttrs T) (slot:Slot T name id) (hty:typeOf (.builtin id)=pure (.type "method_descriptor")) (hm:MtR X id r) (ho:PE X o to)
  (hbase:attributeBase o name X.env (eval o X.env)=eval o X.env:=by rfl) (hline:(apos.endLine==cpos.line)=true:=by rfl):PE X (.Call (.Attribute o name apos) [] [] cpos) (zWO X.K T r to):=by
 intro zB s σ H Q I h;refine wpAny_Call_method0_late hbase hline (thn (ho zB s σ H _ I h) λv s1 ⟨x,H1,I1,r1,ty,q1⟩=>?_);obtain ⟨h1,h2⟩:=zPo I1 r1 ty;exact ⟨T,id,pa,slot,hty,h1,h2,Calls.callWith_builtin rfl (PySem.evalArgs_none (hm zB s1 σ H1 x [] v [] Q I1 r1 .nil q1))⟩
theorem zKs (pa:PlainAttrs T) (slot:Slot T name id) (hty:typeOf (.builtin id)=pure (.type "method_descriptor")) (hm:MtR X id r) (ho:PE X o to) (ha:PA X (e::es) t)
  (hbase:attributeBase o name X.env (eval o X.env)=eval o X.env:=by rfl)
  (hfew:((backTo cpos (starEach (e::es) X.env)).all (λx=> !x.1)&&(backToKw cpos (keywordEach [] X.env)).all (λx=>x.1.isSome)
   && decide ((e::es).length+([]:List Keyword).length+(if ([]:List Keyword).isEmpty then 0 else 1)<30))=true:=by rfl)
  (hline:(apos.endLine==cpos.line)=true:=by rfl) (hs:starEach (e::es) X.env=(false,eval e X.env)::starEach es X.env:=by rfl) (hplain:(backTo cpos (starEach es X.env)).any (·.1)=false:=by rfl) :
  PE X (.Call (.Attribute o name apos) (e::es) [] cpos) (tBM X.K T r to t):=by
 intro zB s σ H Q I h;refine wpAny_Call_method_late hbase hfew hline rfl (thn (ho zB s σ H _ I h) λv s1 ⟨x,H1,I1,r1,ty,q1⟩=>?_);obtain ⟨h1,h2⟩:=zPo I1 r1 ty;refine ⟨T,id,pa,slot,hty,h1,h2,?_⟩;have hA:=ha cpos zB s1 σ H1 _ I1 q1;rw[hs]at hA ⊢;refine Calls.callWith_builtin (by show (false||(backTo cpos (starEach es X.env)).any (·.1))=false;rw[hplain] <;> rfl) (Calls.evalArgs_plain ?_);exact thn hA λus s2 ⟨vs,H2,I2,r2,q2⟩=>hm zB s2 σ H2 x vs v us Q I2 r1 r2 q2
end
def MtM (X:Cx) (id:String) (r:V->List V->Hp->VK->Prop):Prop :=
 ∀ (zB:Yd) (s:Yl) (σ:St) (H:Hp) (x:V) (xs:List V) (v:Yu) (us:Yf) (Q:VK),Inv X zB σ H s->zt x v->za xs us->r x xs H Q ->
  wpAny (model X.prog X.w) X.A (call (.builtin id) (v::us)) (EP X zB σ Q) X.xe s
theorem za.one:∀ {x:V} {us:Yf},za [x] us -> ∃ u,us=[u]/\zt x u
 |_,_,.cons r .nil=>⟨_,rfl,r⟩
theorem za.zero:∀ {us:Yf},za [] us->us=[]
 |_,.nil=>rfl
theorem za.dropLast {xs:List V} {us:Yf} (h:za xs us):za xs.dropLast us.dropLast:=by
 induction h with
 |nil=>exact .nil
 |cons r t ih=>
  cases t with
  |nil=>exact .nil
  |cons q t'=>exact .cons r ih
theorem za.eraseIdx:∀ {xs:List V} {us:Yf} (i:Nat),za xs us->za (xs.eraseIdx i) (us.eraseIdx i)
 |_,_,_,.nil=> .nil
 |_,_,0,.cons _ t=>t
 |_,_,i+1,.cons r t=> .cons r (za.eraseIdx i t)
theorem za.rep {xs:List V} {us:Yf} (h:za xs us):∀ k:Nat,za (List.replicate k xs).flatten (List.replicate k us).flatten
 |0=> .nil
 |k+1=>by
  rw[zX4,zX4,zYk,zYk];exact za.append h (za.rep h k)
theorem zEf {α:Type} (l:List α):l.eraseIdx (l.length-1)=l.dropLast:=by
 induction l with
 |nil=>rfl
 |cons a r ih=>
  cases r with
  |nil=>rfl
  |cons b r=>
   have e:(a::b::r).length-1=((b::r).length-1)+1:=by
    have h1:(a::b::r).length=r.length+2:=rfl;have h2:(b::r).length=r.length+1:=rfl;omega
   rw[e,List.eraseIdx_cons_succ,ih];all_goals rfl
theorem zIm {α:Type}:∀ (l:List α) (i:Nat),(l.eraseIdx i).length<=l.length
 |[],_=>zWr _
 |_::_,0=>zYT _
 |_::r,i+1=>Nat.succ_le_succ (zIm r i)
theorem zFc (its:Yf):∀ (k:Nat) (acc:Yf),
  List.foldl (λx1 x2=>x1++x2) acc.toArray (List.replicate k its.toArray)=(acc++(List.replicate k its).flatten).toArray
 |0,acc=>by simp
 |k+1,acc=>by
  have e:acc.toArray++its.toArray=(acc++its).toArray:=by simp
  have e2:(acc++its)++(List.replicate k its).flatten=acc++(List.replicate (k+1) its).flatten:=by
   rw[zX4,zYk,zXr]
  rw[<-e2,<-zFc its k (acc++its),<-e,zX4,List.foldl_cons]
section
variable {X:Cx} {zB:Yd} {σ:St} {H:Hp} {s:Yl} {l b:Yt} {xs ys zs:List V}
theorem Inv.lset {its its':Yf} {n:Nat} {f:Array Value->Array Value} {t':Nat} (I:Inv X zB σ H s) (hH:H l=some (.lst xs))
  (e:s.heap.get? l=some { cls:=.type "list", data:=.seq its.toArray n }) (hf:f its.toArray=its'.toArray) (hv:za ys its') (hz:ys.length<=sizeLine) :
  Inv X zB σ (upd H l (.lst ys)) { s with heap:=s.heap.update l (Obj.mapSeq f),toks:=t' }:=by
 have q:=PySem.IsL.update e f;rw[hf]at q;refine I.write (x:=l) (e:=l) (by rw[hH];exact trivial) (.inl rfl) (λb' u hb hu=>(zXS s.heap (Obj.mapSeq f) (Ne.symm hb)).trans hu) ⟨_,q⟩ ?_;exact ⟨hz,its',_,hv,q⟩
theorem Inv.lnew {its:Yf} {t':Nat} (I:Inv X zB σ H s) (hv:za ys its) (hz:ys.length<=sizeLine) :
  Inv X zB σ (upd H s.heap.objs.size (.lst ys)) { s with heap:=s.heap.push { cls:=.type "list", data:=.seq its.toArray },toks:=t' } :=
 I.laid (λ_ _ q=>zWm _ q) (zWr _) ⟨hz,its,0,hv,zWv _ rfl⟩
theorem Inv.fresh (I:Inv X zB σ H s):H s.heap.objs.size=none:=I.hok.fresh (zWr _)
theorem Inv.lstM (I:Inv X zB σ H s) (hH:H l=some (.lst xs)):xs.length<=sizeLine /\ ∃ (its:List Value) (n:Nat),za xs its/\xs.length=its.length/\s.heap.get? l=some { cls:=.type "list", data:=.seq its.toArray n }:=by
 obtain ⟨z,its,n,r,e⟩:=I.hok l _ hH;exact ⟨z,its,n,r,r.length,e⟩
theorem zLD {n:Nat} (h:n<=sizeLine):Builtin.List.listTooLong n=false:=by
 unfold Builtin.List.listTooLong;exact zXK (by omega)
end
section
variable {X:Cx}
def zMz:V->List V->Hp->VK->Prop:=λx vs H Q=>∃ l xs y,x=.ref l/\vs=[y]/\H l=some (.lst xs)/\xs.length<sizeLine/\Q .non (upd H l (.lst (xs++[y])))
theorem zOV:MtM X "list.append" zMz:=by
 intro zB s σ H x vs v us Q I rx rv h;obtain ⟨l,xs,y,rfl,rfl,hH,hz,q⟩:=h;cases rx;obtain ⟨u,rfl,ru⟩:=rv.one;obtain ⟨z,its,n,r,hl,e⟩:=I.lstM hH;refine call_meets F.slot_list_append ⟨_,e,rfl⟩ F.entry_list_append (F.args_list_append_2 _ _) (PySem.list_append l its.toArray n u (by rw[zWt];omega)) ⟨e,?_⟩;refine ⟨.non,_,I.lset (its':=its++[u]) hH e (by simp) (r.append (.cons ru .nil)) ?_,rfl,q⟩;rw[zW1,List.length_singleton];omega
def zM9:V->List V->Hp->VK->Prop:=λx vs H Q=>∃ l b xs zs,x=.ref l/\vs=[.ref b]/\H l=some (.lst xs)/\H b=some (.lst zs)/\xs.length+zs.length<=sizeLine/\Q .non (upd H l (.lst (xs++zs)))
theorem zOj:MtM X "list.extend" zM9:=by
 intro zB s σ H x vs v us Q I rx rv h;obtain ⟨l,b,xs,zs,rfl,rfl,hH,hB,hz,q⟩:=h;cases rx;obtain ⟨u,rfl,ru⟩:=rv.one;cases ru;obtain ⟨z,its,n,r,hl,e⟩:=I.lstM hH;obtain ⟨z2,its2,n2,r2,hl2,e2⟩:=I.lstM hB;have hsz:its.toArray.size+its2.toArray.size<=sizeLine:=by rw[zWt,zWt];omega
 have hlong:¬ (!its.toArray.isEmpty&&Builtin.List.listTooLong (its.toArray.size+its2.toArray.size))=true:=by
  rw[zLD hsz,Bool.and_false];exact zW7
 refine call_meets F.slot_list_extend ⟨_,e,rfl⟩ F.entry_list_extend (F.args_list_extend_2 _ _)
  (AutoSeq1.list_extend_list_list_0 l its.toArray n b its2.toArray n2 hlong (by rw[zWt];omega) (by omega)) ⟨e,e2,?_⟩
 refine ⟨.non,_,I.lset (its':=its++its2) hH e (by simp) (r.append r2) ?_,rfl,q⟩;rw[zW1];omega
def zWb:V->List V->Hp->VK->Prop:=λx vs H Q=>∃ l xs y,x=.ref l/\vs=[]/\H l=some (.lst xs)/\xs[xs.length-1]?=some y/\Q y (upd H l (.lst xs.dropLast))
theorem zTv:MtM X "list.pop" zWb:=by
 intro zB s σ H x vs v us Q I rx rv h;obtain ⟨l,xs,y,rfl,rfl,hH,hy,q⟩:=h;cases rx;have hus:=rv.zero;subst hus;obtain ⟨z,its,n,r,hl,e⟩:=I.lstM hH;obtain ⟨u,hu,ru⟩:=r.get hy;have hy':its.toArray[its.toArray.size-1]?=some u:=by
  show its.toArray[its.length-1]?=some u;rw[<-zYQ,<-hl];exact hu
 refine call_meets F.slot_list_pop ⟨_,e,rfl⟩ F.entry_list_pop (F.args_list_pop_1 _) (MeetsSeq.list_pop_last l its.toArray n u hy' (by rw[zWt];omega)) ⟨e,?_⟩;refine ⟨y,_,I.lset (its':=its.dropLast) hH e ?_ r.dropLast ?_,ru,q⟩
 .show its.toArray.eraseIdxIfInBounds (its.toArray.size-1)=its.dropLast.toArray;rw[zWt,List.eraseIdxIfInBounds_toArray,zEf]
 .rw[List.length_dropLast];omega
def zPB:V->List V->Hp->VK->Prop:=λx vs H Q=>∃ l xs i k y,x=.ref l/\vs=[.int i]/\H l=some (.lst xs) /\ -(2 ^ 63)<=i/\i<2 ^ 63/\seqIndex? i xs.length=some k/\xs[k]?=some y/\Q y (upd H l (.lst (xs.eraseIdx k)))
theorem zPn:MtM X "list.pop" zPB:=by
 intro zB s σ H x vs v us Q I rx rv h;obtain ⟨l,xs,i,k,y,rfl,rfl,hH,h1,h2,hk,hy,q⟩:=h;cases rx;obtain ⟨u,rfl,ru⟩:=rv.one;obtain ⟨t,rfl⟩:=ru;obtain ⟨z,its,n,r,hl,e⟩:=I.lstM hH;obtain ⟨w,hw,rw'⟩:=r.get hy
 refine call_meets F.slot_list_pop ⟨_,e,rfl⟩ F.entry_list_pop (F.args_list_pop_2 _ _)
  (MeetsSeq.list_pop_at l its.toArray n i t k w (fitsIndex_both h1 h2) (by rw[zWt,<-hl];exact hk) (by rw[<-zYQ];exact hw) (by rw[zWt];omega)) ⟨e,?_⟩
 refine ⟨y,_,I.lset (its':=its.eraseIdx k) hH e ?_ (r.eraseIdx k) ?_,rw',q⟩
 .show its.toArray.eraseIdxIfInBounds k=(its.eraseIdx k).toArray;rw[List.eraseIdxIfInBounds_toArray]
 .have:=zIm xs k;omega
def zU0:R2:=λx y H Q=>∃ l b xs zs,x=.ref l/\y=.ref b/\H l=some (.lst xs)/\H b=some (.lst zs)/\xs.length+zs.length<=sizeLine /\ ∀ p,H p=none->Q (.ref p) (upd H p (.lst (xs++zs)))
theorem zTJ:OpR X (binaryOp .Add) zU0:=by
 intro zB s σ H x y v u Q I rx ry h;obtain ⟨l,b,xs,zs,rfl,rfl,hH,hB,hz,q⟩:=h;cases rx;cases ry;obtain ⟨z,its,n,r,hl,e⟩:=I.lstM hH;obtain ⟨z2,its2,n2,r2,hl2,e2⟩:=I.lstM hB;refine PySem.P.add_list e e2 ?_ (by rw[zWt,zWt];omega);have ea:its.toArray++its2.toArray=(its++its2).toArray:=by simp
 rw[ea];exact ⟨.ref _,_,I.lnew (t':=s.toks) (r.append r2) (by rw[zW1];omega),rfl,q _ I.fresh⟩
def zVB:R2:=λx y H Q=>∃ l k xs,x=.ref l/\y=.int k/\H l=some (.lst xs) /\ -(2 ^ 63)<=k/\k<2 ^ 63/\xs.length*k.toNat<=sizeLine /\
 ∀ p,H p=none->Q (.ref p) (upd H p (.lst (List.replicate k.toNat xs).flatten))
theorem zJX {α:Type} (xs:List α) (k:Nat):(List.replicate k xs).flatten.length=k*xs.length:=by
 induction k with
 |zero=>simp
 |succ k ih=>rw[zX4,zYk,zW1,ih,Nat.succ_mul,Nat.add_comm]
theorem zTe:OpR X (binaryOp .Mult) zVB:=by
 intro zB s σ H x y v u Q I rx ry h;obtain ⟨l,k,xs,rfl,rfl,hH,h1,h2,hz,q⟩:=h;cases rx;obtain ⟨t,rfl⟩:=ry;obtain ⟨z,its,n,r,hl,e⟩:=I.lstM hH;have hlen:its.toArray.size*k.toNat<=sizeLine:=by rw[zWt,<-hl];exact hz
 have hcap:¬ its.toArray.size*k.toNat>(2 ^ 63-1) / 8:=by
  have:(sizeLine:Nat)<=(2 ^ 63-1) / 8:=by decide
  omega
 have hfit:¬ (!Builtin.List.listFitsIndex k)=true:=by
  rw[fitsIndex_both h1 h2];exact zW7
 have hlong:¬ Builtin.List.listTooLong (its.toArray.size*k.toNat)=true:=by
  rw[zLD hlen];exact zW7
 have hnew:List.foldl (λx1 x2=>x1++x2) #[] (List.replicate (if its.toArray.isEmpty=true then 0 else k.toNat) its.toArray)=(List.replicate k.toNat its).flatten.toArray:=by
  have f0:∀ m:Nat,List.foldl (λx1 x2=>x1++x2) #[] (List.replicate m its.toArray)=(List.replicate m its).flatten.toArray:=λm=>by
   have:=zFc its m [];rw[List.nil_append]at this;exact this
  rw[f0];cases its with
  |nil=>simp
  |cons a r'=>rw[zW3 (by simp)]
 refine wpAny_binaryOp_repeat_ref (T := "list") (U := "int") (by decide) ⟨_,e,rfl⟩ (λs'=>typeIs_int s' k t) noFill_list_mul F.fills_int_mul F.slot_int_rmul repeat_list F.slot_int_index.lookup
  (call_meets F.slot_int_rmul (typeIs_int s k t) F.entry_int_rmul (F.args_int_rmul_2 _ _) (int___rmul___int_list k t l its.toArray n)
   ⟨e,rfl,⟨_,e,rfl⟩,call_meets F.slot_list_mul ⟨_,e,rfl⟩ F.entry_list_mul (F.args_list_mul_2 _ _) (AutoListH.list___mul___list_int_3 l its.toArray n k t hfit hcap hlong) ⟨e,?_⟩⟩)
 rw[hnew];exact ⟨.ref _,_,I.lnew (t':=s.toks) (r.rep k.toNat) (by rw[zJX,Nat.mul_comm];exact hz),rfl,q _ I.fresh⟩
end
end L2
namespace Att
open PySem PySem.W PySem.Calls PyProof.Rows
theorem zGF {P:Params} {h:Heap}:∀ (ns:Ye) (vs:Yf),WellAll P h vs (ns.map WData.int)->IntsAre vs ns:=by
 intro ns;induction ns with
 |nil=>
  intro vs w;rw[List.map_nil]at w;cases w;exact .nil
 |cons n ns ih=>
  intro vs w;rw[zW4]at w;cases w with
  |cons a b=>
   cases a;exact .cons _ _ (ih _ b)
theorem zNu {l:OpenLaw} {n:Nat} (hn:l.most=some n) {P:Params} {h:Heap} {args:List WData} {vals:Yf}
  (hpre:l.row.toRowW.claim.pre args=true) (hwl:WellAll P h vals args) :
  ∃ a vs ns,vals=[Value.ref a]/\args=[WData.list (ns.map WData.int)]/\h.get? a=some { cls:=.type "list", data:=.seq vs.toArray }/\IntsAre vs ns/\ns.length<=n:=by
 have hsh:WShape.hasAll [] args [.list .int]=true:=(pre_splitW hpre).1;have hc:l.pre.holds [] { args:=args }=true:=(pre_splitW hpre).2;obtain ⟨d,r,rfl,h1,h2⟩:=hasAllW_cons hsh;obtain rfl:=hasAllW_nil h2;obtain ⟨xs,rfl,h3⟩:=hasW_list h1;obtain ⟨ns,rfl⟩:=items_int h3;have hlen:ns.length<=n:=by
  unfold OpenLaw.pre at hc;have h4:(WTm.not (.lt (.lit (.int (n:Int))) (.len (.arg 0)))).holds [] { args:=[.list (ns.map .int)] }=true:=by
   have h4:=(holds_andW hc).1;rw[hn]at h4;exact h4
  have h5:=condW_of h4 (w_not (w_lt w_lit (w_len_list (w_arg rfl))));rw[zWu]at h5;refine Nat.le_of_not_lt λq=>?_;have q':(n:Int)<((ns.length:Nat):Int):=by omega
  first
   | (rw[zXt q']at h5;exact absurd h5 (by decide))
   | (simp at h5;omega)
 cases hwl with
 |cons w1 w2=>
  cases w2;cases w1 with
  |list ho hall=>exact ⟨_,_,ns,rfl,rfl,ho,zGF ns _ hall,hlen⟩
theorem zOg (l:OpenLaw) (args:List WData):l.row.toRowW.claim.post args (.bool true) args=true :=
 postW_of (r:=l.row.toRowW) (X:=(true==true))
  (show WShape.has [] (.bool true) .bool=true by first|rfl|decide|simp[WShape.has,WShape.arms,WShape.armsAll])
  (show (WTm.eq .res (.lit (.bool true))).value [] { args:=args,res:=some (.bool true),after:=args }=some (.bool (true==true))from w_eq_bool (w_res rfl) w_lit) rfl
theorem zK3 {l:OpenLaw} {n:Nat} {q:Ym} {loose:Yk} {XP:(Str->Option Value)->Heap->Prop} {YP:World->Heap->Prop} {d:DefRec}
  (hn:l.most=some n) (hdf:d.params.defaults=[])
  (call:∀ (w:Yo) (s₀ s₁:Yl) (mg mb:Yh) (fa:Yt) (o:Obj) (pm cd doc:Yu) (a:Yt) (vs:Yf) (ns:Ye),
   Ground q loose [] XP w s₀ mg mb s₁.heap->YP w s₁.heap ->
   s₁.heap.get? fa=some o->o.data=.func (docDef d.name d.params d.body d.scope pm cd doc)->s₁.heap.CodeRec cd d.name->mg d.name=some (.ref fa) ->
   s₁.heap.get? a=some { cls:=.type "list", data:=.seq vs.toArray }->IntsAre vs ns->ns.length<=n->s₁.gens = #[] ->
   codeAny (model l.prog w) callerA (.call (.ref fa) ⟨[.ref a],[]⟩) (λr s'=>r=.ok (.ret (.bool true))/\OldK s₁.heap s'.heap/\s'.os=s₁.os/\AllBare s'.gens) s₁) :
  WalkO q loose XP YP l.row.toRowW d [] (λf vs=>PySem.call f vs):=by
 intro w s₀ s₁ mg mb G Y fa o pm cd doc dV kV ho hd hcd hD hmg hg args vals as hpre hlay hrd hwl hlo;obtain rfl:dV=.none:=Dflts.none hD hdf;obtain rfl:kV=.none:=Dflts.noKw hD;obtain ⟨a,vs,ns,rfl,rfl,hobj,hints,hlen⟩:=zNu hn hpre hwl;refine enter_call (codeAny_mono (call w s₀ s₁ mg mb fa o pm cd doc a vs ns G Y ho (fd_plain hd) hcd hmg hobj hints hlen hg) λr s' hq=>?_);obtain ⟨rfl,h2,h3,h4⟩:=hq;exact ⟨.inl ⟨.bool true,.bool true,[],rfl,λ_=>rfl,.bool true,zOg l _,λ_=>⟨List.Pairwise.nil,λ_ hm=>(nomatch hm)⟩⟩,h2,h3,h4⟩
end Att
namespace L2
open PySem PySem.Spec PyProof.Rows
theorem zIj:∀ {vs:Yf} {ns:Ye},IntsAre vs ns->za (ns.map V.int) vs
 |_,_,.nil=> .nil
 |_,_,.cons n t h=> .cons ⟨t,rfl⟩ (zIj h)
def zSv (H:Hp):Prop:=∀ b,H b=none \/ ∃ o xs,H b=some (.frz o (.lst xs))
theorem zQq {P:Ym} {w:Yo} {K:Yb} {mg mb:Yh} {CX:CXT} {k:Nat} {fa a:Yt} {fd:Yz} {x:Str} {sp:Sp} {s₁:Yl} {vs:Yf} {ns:Ye}
  (KX:K.In s₁.heap) (hns:s₁.heap.Ns mainGlobals mg) (hb:s₁.heap.Ns builtinsNs mb) (hbb:∀ x:Str,x ≠ "__name__" -> mb x=bootBuiltins x) (hlim:s₁.heap.NoLimit) (hg:s₁.gens = #[])
  (ha:s₁.heap.get? a=some { cls:=.type "list", data:=.seq vs.toArray }) (hi:IntsAre vs ns) (hl:ns.length<=sizeLine) (hr:Room k callerA)
  (F:∀ base:Heap,K.In base->base.Ns mainGlobals mg->FnOk P w K mg base CX k fa fd [x] sp) (hbind:∀ (s:Yl) (u:Yu),BindsTo s fd ⟨[u],[]⟩ [(x,u)])
  (hsp:∀ H:Hp,zSv H->SqL K H a (ns.map V.int)->sp [.ref a] H (λv _=>v=.bl true) λ_ _ _=>False)
  (hCX:∀ H e s',CX [] H s₁ (λ_ _ _=>False) e s'->False) :
  codeAny (model P w) callerA (.call (.ref fa) ⟨[.ref a],[]⟩) (λr s'=>r=.ok (.ret (.bool true))/\OldK s₁.heap s'.heap/\s'.os=s₁.os/\AllBare s'.gens) s₁:=by
 have rv:=zIj hi;have lenV:=hi.length
 have core:∀ H:Hp,zSv H->SqL K H a (ns.map V.int)->HOk P w H s₁.heap->(∀ b,H b≠none->b=a)->(H a≠none->K.lookup a=none) ->
   codeAny (model P w) callerA (.call (.ref fa) ⟨[.ref a],[]⟩) (λr s'=>r=.ok (.ret (.bool true))/\OldK s₁.heap s'.heap/\s'.os=s₁.os/\AllBare s'.gens) s₁:=by
  intro H hO hS hok hA hK;have base_of:∀ {b:Yt} {o:Obj},s₁.heap.get? b=some o->H b=none->(zJv s₁.heap H).get? b=some o:=λe n=>zRA e n;have noA:∀ {b:Yt} {o:Obj} {es:Array DictEntry} {ep:Nat},s₁.heap.get? b=some o->o.data=.dict es ep->H b=none:=λ{b o es ep} e d=>by
   cases q:H b with
   |none=>rfl
   |some u=>
    have e':b=a:=hA b (by rw[q];simp);subst e';rw[ha]at e;cases e;have d':Data.seq vs.toArray _=Data.dict es ep:=d;cases d'
  have nsK:∀ {b:Yt} {m:Yh},s₁.heap.Ns b m->(zJv s₁.heap H).Ns b m:=λ{b m} ⟨o,es,ep,e,d,r⟩=>⟨o,es,ep,base_of e (noA e d),d,r⟩;have hKb:K.In (zJv s₁.heap H):=λb o e=>base_of (KX b o e) (by
   cases q:H b with
   |none=>rfl
   |some u=>
    have e':b=a:=hA b (by rw[q];simp);subst e';rw[hK (by rw[q];simp)]at e;cases e)
  have hM:Mod K mg (zJv s₁.heap H):=⟨hKb,nsK hns,⟨mb,nsK hb,hbb⟩,let ⟨mc,h1,h2⟩:=hlim;⟨mc,nsK h1,h2⟩⟩;have e0:Env0 P w K mg (zJv s₁.heap H) callerA [] s₁ H:=⟨rfl,hM,λb o e=>zSo e,Nat.le_of_eq (zON _ _),trivial,λb hb=>absurd (show b∈([]:List Addr)from hb) (by simp),hok,.of_eq hg⟩;refine codeAny_mono ((F _ hKb (nsK hns)).run callerA [] s₁ H ⟨[.ref a],[]⟩ [.ref a] [.ref a] _ _ hr e0 (hbind s₁ (.ref a)) (.cons rfl .nil) (hsp H hO hS)) λr s' h=>?_;cases r with
  |error e=>exact (hCX H e s' h).elim
  |ok fl=>
   cases fl with
   |next=>exact False.elim h
   |brk=>exact False.elim h
   |cont=>exact False.elim h
   |ret u=>
    obtain ⟨v,H',os,bare,un,hok',r',q⟩:=h;have q':v=.bl true:=q;subst q';obtain rfl:u=Value.bool true:=r';refine ⟨rfl,OldK.of_keep λb o e=>?_,os,bare⟩;cases q:H b with
    |none=>exact un.keep b o e q (by intro z;exact absurd (show b∈([]:List Addr)from z) (by simp)) (by simp)
    |some u=>
     rcases hO b with z|⟨ob,xs,z⟩
     .rw[q]at z;cases z
     .have z2:=un.frzs b ob _ z;obtain ⟨e1,_⟩:=hok b _ z;obtain ⟨e2,_⟩:=hok' b _ z2;rw[e]at e1;cases e1;exact e2
 cases hk:K.lookup a with
 |some o=>
  have e:=KX a o hk;rw[ha]at e;cases e;refine core (λ_=>none) (λ_=> .inl rfl) (.inr ⟨_,vs.toArray,_,hk,rfl,rfl,rfl,by rw[zWt,lenV];exact hl,by simpa using rv⟩) (λb u z=>by have z':(none:Option HO)=some u:=z;cases z') (λb z=>absurd rfl z) λz=>absurd rfl z
 |none=>
  refine core (λb=>if b=a then some (.frz { cls:=.type "list", data:=.seq vs.toArray } (.lst (ns.map V.int))) else none) (λb=>?_) (.inl (.inr ⟨{ cls:=.type "list", data:=.seq vs.toArray },zW0 rfl⟩)) (λb u z=>?_) (λb z=>?_) λ_=>hk
  .by_cases hb:b=a
   .exact .inr ⟨_,_,zW0 hb⟩
   .exact .inl (zW3 hb)
  .by_cases hb:b=a
   .have z':=(zW0 hb).symm.trans z;cases z';subst hb;exact ⟨ha,by rw[zWu];exact hl,vs,_,rv,ha⟩
   .have z':=(zW3 hb).symm.trans z;cases z'
  .by_cases hb:b=a
   .exact hb
   .exact absurd (zW3 hb) z
theorem zSn {l:PySem.W.OpenLaw} {n k:Nat} {q:Ym} {loose:Yk} {XP:(Str->Option Value)->Heap->Prop} {YP:World->Heap->Prop} {d:DefRec} {K:Params->PySem.W.Frag} {CX:World->CXT} {sp:World->Sp} {x:Str}
  (hn:l.most=some n) (hn2:n<=sizeLine) (hdf:d.params.defaults=[]) (hr:Room k callerA)
  (hY:∀ (w:Yo) (h:Heap),YP w h->(K w.params).In h)
  (F:∀ (w:Yo) (mg:Yh) (fa:Yt) (h:Heap),(K w.params).In h->h.Ns mainGlobals mg->mg d.name=some (.ref fa) ->
   ∃ fd:FuncData,(∀ (s:Yl) (u:Yu),BindsTo s fd ⟨[u],[]⟩ [(x,u)]) /\
    ∀ base:Heap,(K w.params).In base->base.Ns mainGlobals mg->FnOk l.prog w (K w.params) mg base (CX w) k fa fd [x] (sp w))
  (hsp:∀ (w:Yo) (H:Hp) (a:Yt) (ns:Ye),ns.length<=n->zSv H->SqL (K w.params) H a (ns.map V.int)->sp w [.ref a] H (λv _=>v=.bl true) λ_ _ _=>False)
  (hCX:∀ (w:Yo) (H:Hp) (s:Yl) (e:Yu) (s':Yl),CX w [] H s (λ_ _ _=>False) e s'->False) :
  PySem.W.WalkO q loose XP YP l.row.toRowW d [] (λf vs=>PySem.call f vs):=by
 refine Att.zK3 hn hdf λw s₀ s₁ mg mb fa o pm cd doc a vs ns G Y ho hd hcd hmg hobj hints hlen hg=>?_;have KX:=hY w _ Y;obtain ⟨fd,hb,hF⟩:=F w mg fa _ KX G.T.g hmg;exact zQq KX G.T.g G.T.b G.T.builtins G.T.nolimit hg hobj hints (zXC hlen hn2) hr hF hb (λH hO hS=>hsp w H a ns hlen hO hS) λH e s'=>hCX w H s₁ e s'
def zEI (s:Stmt):Arguments:=match s with
 |.FunctionDef _ a _ _ _ _ _ _ _ _=>a
 |_=>{ posonlyargs:=[],args:=[],vararg:=none,kwonlyargs:=[],kw_defaults:=[],kwarg:=none,defaults:=[] }
def zCz (s:Stmt):List Stmt:=match s with
 |.FunctionDef _ _ b _ _ _ _ _ _ _=>b
 |_=>[]
def zV (s:Stmt):Scope:=match s with
 |.FunctionDef _ _ _ _ _ _ sc _ _ _=>sc
 |_=>{ kind:=.function,names:=[],isGenerator:=false,isCoroutine:=false }
abbrev CX0:CXT:=λ_ _ _ _ _ _=>False
abbrev E0:XK:=λ_ _ _=>False
theorem zVn {X:Cx}:zLo CX0 X E0:=λ_ _ _ _ _ _ _ h=>h.elim
structure Fun (K:Yb) (x qual:Str) (st:Stmt) (f:Yt) (fd:Yz):Prop where
 ex:∃ (oc:Yu) (od:Option Addr) (kV doc pm:Yu) (an:Option Addr) (cdv ct:Yu) (osl:Array (Option Value)),
  fd=PySem.W.fnOf x qual (zEI st) (zCz st) (zV st) .none kV doc pm an cdv ct/\K.lookup f=some ⟨oc,od,.func fd,osl⟩/\PySem.W.codeIn K cdv qual=true
 kp:PySem.W.keepIn K (.ref f)=true
section
variable {P:Ym} {w:Yo} {K:Yb} {mg:Yh} {base:Heap}
theorem Fun.ok {x qual:Str} {st:Stmt} {f:Yt} {fd:Yz} {N ps:Yk} {k:Nat} {sp:Sp} (F:Fun K x qual st f fd) (S:FnScope N ps (zV st)) (len:∀ vs H Q E,sp vs H Q E->vs.length=ps.length)
  (hbody:∀ (cdv:Yu) (A:Yn) (outer:List Env) (s:Yl) (H:Hp) (vs:List V) (Q:VK) (E:XK),Room k (A.deeper (envOfC qual (zV st) s.heap.objs.size f cdv))->sp vs H Q E ->
   ∃ t,PSs (zLv CX0 P w K mg base N qual (zV st) f cdv A outer s H E).nox (zCz st) t/\t { nx:=λ_ H'=>Q .non H',rt:=Q } (start N vs) H):FnOk P w K mg base CX0 (k+1) f fd ps sp:=by
 obtain ⟨oc,od,kV,doc,pm,an,cdv,ct,osl,rfl,lk,hcd⟩:=F.ex;refine zVC lk hcd S len λA outer s H vs Q E hr hsp=>?_;obtain ⟨t,h,q⟩:=hbody cdv A outer s H vs Q E hr hsp;exact ⟨t,h.nox,q⟩
theorem Fun.binds {x qual:Str} {st:Stmt} {f:Yt} {fd:Yz} {ps:Yk} (F:Fun K x qual st f fd)
  (h:∀ (kV doc pm:Yu) (an:Option Addr) (cdv ct:Yu) (us:Yf),us.length=ps.length->bindArgs (PySem.W.fnOf x qual (zEI st) (zCz st) (zV st) .none kV doc pm an cdv ct) ⟨us,[]⟩=pure (ps.zip us)):zGx K fd ps []:=by
 obtain ⟨oc,od,kV,doc,pm,an,cdv,ct,osl,rfl,lk,hcd⟩:=F.ex;exact .all (h kV doc pm an cdv ct)
theorem zQA {x qual:Str} {st:Stmt} {f:Yt} {oc:Yu} {od an:Option Addr} {osl:Array (Option Value)} {kV doc pm cdv ct:Yu} (l:K.lookup f=some ⟨oc,od,.func (PySem.W.fnOf x qual (zEI st) (zCz st) (zV st) .none kV doc pm an cdv ct),osl⟩)
  (c:PySem.W.codeIn K cdv qual=true) (k:PySem.W.keepIn K (.ref f)=true):Fun K x qual st f (PySem.W.fnOf x qual (zEI st) (zCz st) (zV st) .none kV doc pm an cdv ct):=⟨⟨oc,od,kV,doc,pm,an,cdv,ct,osl,rfl,l,c⟩,k⟩
end
theorem zGk {A:Yn} {k:Nat} (hr:Room k A):A.units+1<cLine:=Nat.lt_of_le_of_lt (Nat.add_le_add_left (by decide:1<=64) _) hr.units
section
variable {X:Cx}
theorem pv (i:Nat) {x:Str} {pos:Pos} (hN:X.N[i]?=some x:=by rfl) (hv:Vis X.env.scope x:=by first|exact Or.inl rfl|exact Or.inr (Or.inl rfl)|exact Or.inr (Or.inr rfl)) (hd:(x==("__debug__" : Str))=false:=by decide)
  (hcd:(x==("__classdict__" : Str))=false:=by decide):PE X (.Name x pos) (zTD i):=zUl hN hv hd hcd
end
theorem zHv {A B:Prop} (h:B):if false=true then A else B:=by
 rw[zW3 zW7];exact h
theorem zIE {A B:Prop} (h:A):if true=true then A else B:=by
 rw[zW0 rfl];exact h
section
variable {κ:Type} [DecidableEq κ]
def zDt (kvs:List (κ × V)) (k:κ):Option V:=(kvs.find? λkv=>decide (kv.1=k)).map (·.2)
def zCq (kvs:List (κ × V)) (k:κ) (v:V):List (κ × V) :=
 if (kvs.any λkv=>decide (kv.1=k))=true then kvs.map (λkv=>if kv.1=k then (kv.1,v) else kv) else kvs++[(k,v)]
theorem zFA {p:κ × V} {r:List (κ × V)} {k:κ} (e:p.1=k):zDt (p::r) k=some p.2:=by simp[zDt,zYX,e]
theorem zEv {p:κ × V} {r:List (κ × V)} {k:κ} (e:¬ p.1=k):zDt (p::r) k=zDt r k:=by simp[zDt,zYX,e]
theorem zKJ (k:κ):∀ kvs:List (κ × V),(kvs.any λkv=>decide (kv.1=k))=(zDt kvs k).isSome
 |[]=>rfl
 |p::r=>by
  rw[List.any_cons];by_cases e:p.1=k
  .simp only[zFA e,zXt e,Bool.true_or,Option.isSome_some]
  .rw[zEv e,zXK e,Bool.false_or];exact zKJ k r
theorem zB5 (kvs:List (κ × V)) (k:κ) (v:V):(zCq kvs k v).length<=kvs.length+1:=by
 unfold zCq;split
 .rw[zWu];omega
 .rw[zW1,zXI,List.length_nil];omega
theorem zGO.isSome_eq (r:zGO o u):o.isSome=u.isSome:=by
 cases o with
 |none=>cases u with
  |none=>rfl
  |some _=>exact (show False from r).elim
 |some _=>cases u with
  |none=>exact (show False from r).elim
  |some _=>rfl
theorem zGO.getD (r:zGO o u) (rd:zt d d'):zt (o.getD d) (u.getD d'):=by
 cases o with
 |none=>cases u with
  |none=>exact rd
  |some _=>exact (show False from r).elim
 |some _=>cases u with
  |none=>exact (show False from r).elim
  |some _=>exact r
theorem KV.val {kvs:List (κ × V)} {vs:List (κ × Value)} (r:KV kvs vs) (k:κ):zGO (zDt kvs k) (valueAt vs k):=by
 unfold KV at r;induction r with
 |nil=>exact True.intro
 | @cons p q ps qs h t ih=>
  obtain ⟨h1,h2⟩:=h;by_cases e:p.1=k
  .have e':q.1=k:=h1.symm.trans e;have b:valueAt (q::qs) k=some q.2:=by simp[valueAt,zYX,e']
   rw[zFA e,b];exact h2
  .have e':¬ q.1=k:=λz=>e (h1.trans z);have b:valueAt (q::qs) k=valueAt qs k:=by simp[valueAt,zYX,e']
   rw[zEv e,b];exact ih
theorem KV.any (r:KV kvs vs) (k:κ):(kvs.any λkv=>decide (kv.1=k))=vs.any λkv=>decide (kv.1=k):=by
 unfold KV at r;induction r with
 |nil=>rfl
 |cons h t ih=>rw[List.any_cons,List.any_cons,ih,h.1]
theorem KV.repl (r:KV kvs vs) (k:κ) (ry:zt y u) :
  KV (kvs.map λkv=>if kv.1=k then (kv.1,y) else kv) (vs.map λkv=>if kv.1=k then (kv.1,u) else kv):=by
 unfold KV at r ⊢;induction r with
 |nil=>exact .nil
 | @cons p q ps qs h t ih=>
  rw[zW4,zW4];refine .cons ?_ ih;obtain ⟨h1,h2⟩:=h;by_cases e:p.1=k
  .rw[zW0 e,zW0 (h1.symm.trans e)];exact ⟨h1,ry⟩
  .rw[zW3 e,zW3 (λz=>e (h1.trans z))];exact ⟨h1,h2⟩
theorem KV.put (r:KV kvs vs) (k:κ) (ry:zt y u):KV (zCq kvs k y) (stored vs k u):=by
 unfold zCq stored;rw[r.any k];by_cases e:(vs.any λkv=>decide (kv.1=k))=true
 .rw[zW0 e,zW0 e];exact r.repl k ry
 .rw[zW3 e,zW3 e];exact Paired.snoc r ⟨rfl,ry⟩
theorem KV.length (r:KV kvs vs):kvs.length=vs.length:=Paired.length r
end
theorem zF0 (r:zt (kV k) u):(zAW P w).is k u=true:=by
 cases k with
 |inl i=>obtain ⟨t,e⟩:=(show ∃ t,u=Value.int i t from r);subst e;exact zKh P w i t
 |inr x=>obtain ⟨t,e⟩:=(show ∃ t,u=Value.str x t from r);subst e;exact zLW P w x t
theorem zI0:∀ {ks:List Key} {us:Yf},za (ks.map kV) us->ItemsAre (zAW P w) ks us
 |[],_,r=>by rw[List.map_nil]at r;cases r;exact .nil
 |k::ks,_,r=>by
  rw[zW4]at r;cases r with
  |cons h t=>exact .cons (zF0 h) (zI0 t)
abbrev KT (H:Hp):List (List Key × V)->List (List Key × Addr × Value)->Prop:=Paired λp q=>p.1=q.1/\H q.2.1=some (.tup (p.1.map kV))/\zt p.2 q.2.2
theorem KT.val {H:Hp} {kvs:List (List Key × V)} {xs:List (List Key × Addr × Value)} (r:KT H kvs xs) (k:List Key):zGO (zDt kvs k) ((atKey xs k).map (·.2)):=by
 induction r with
 |nil=>exact True.intro
 | @cons p q ps qs h t ih=>
  obtain ⟨h1,_,h2⟩:=h;by_cases e:p.1=k
  .have e':q.1=k:=h1.symm.trans e;have b:atKey (q::qs) k=some q.2:=by simp[atKey,zYX,e']
   rw[zFA e,b];exact h2
  .have e':¬ q.1=k:=λz=>e (h1.trans z);have b:atKey (q::qs) k=atKey qs k:=by simp[atKey,zYX,e']
   rw[zEv e,b];exact ih
theorem KT.repl (r:KT H kvs xs) (k:List Key) (ry:zt y u) :
  KT H (kvs.map λkv=>if kv.1=k then (kv.1,y) else kv) (xs.map (putAt k u)):=by
 induction r with
 |nil=>exact .nil
 | @cons p q ps qs h t ih=>
  rw[zW4,zW4];refine .cons ?_ ih;obtain ⟨h1,h2,h3⟩:=h;unfold putAt;by_cases e:p.1=k
  .rw[zW0 e,zW0 (h1.symm.trans e)];exact ⟨h1,h2,ry⟩
  .rw[zW3 e,zW3 (λz=>e (h1.trans z))];exact ⟨h1,h2,h3⟩
theorem KT.put (r:KT H kvs xs) (k:List Key) (hb:H b=some (.tup (k.map kV))) (ry:zt y u) :
  KT H (zCq kvs k y) (storedH xs k b u):=by
 have e:(kvs.any λkv=>decide (kv.1=k))=(atKey xs k).isSome:=by
  rw[zKJ,(r.val k).isSome_eq,Option.isSome_map]
 unfold zCq storedH;rw[e];by_cases q:(atKey xs k).isSome=true
 .rw[zW0 q,zW0 q];exact r.repl k ry
 .rw[zW3 q,zW3 q];exact Paired.snoc r ⟨rfl,hb,ry⟩
theorem KT.keeps (r:KT H kvs xs) (ht:∀ b ys,H b=some (.tup ys)->H' b=some (.tup ys)):KT H' kvs xs :=
 Paired.mapP r λ_ _ z=>⟨z.1,ht _ _ z.2.1,z.2.2⟩
section
variable {P:Ym} {w:Yo} {H:Hp} {h:Heap} {a:Yt}
theorem zS8 (ok:HOk P w H h) (e:Rd H a u):zAs P w H h a u:=e.ok ok
theorem zHU (ok:HOk P w H h) (e:Rd H a (.dK kvs)):kvs.length<=sizeLine/\(a==sysModules)=false /\ ∃ vs,KV kvs vs/\h.DictOf (zAW P w) a vs :=
 show zAs P w H h a (.dK kvs)from zS8 ok e
theorem zQZ (ok:HOk P w H h) (e:H a=some (.dK kvs)):kvs.length<=sizeLine/\(a==sysModules)=false /\ ∃ vs,KV kvs vs/\h.DictOf (zAW P w) a vs:=zHU ok (.inl e)
theorem zEd (ok:HOk P w H h) (e:H a=some (.tup (ks.map kV))):(tupleKind (zAW P w)).is h ks a:=by
 obtain ⟨_,its,r,o,h1,h2,⟨n,h3⟩,_⟩:=(show zAs P w H h a (.tup (ks.map kV))from ok a _ e);exact ⟨o,its.toArray,n,h1,h2,h3,by simpa using zI0 r⟩
theorem zHS (ok:HOk P w H h) (e:Rd H a (.dT kvs)):kvs.length<=sizeLine/\(a==sysModules)=false /\
  ∃ xs,KT H kvs xs/\h.DictOfH (tupleKind (zAW P w)) a xs:=by
 obtain ⟨z,y,xs,r,o,es,ep,h1,h2,h3,h4,h5⟩:=(show zAs P w H h a (.dT kvs)from zS8 ok e);refine ⟨z,y,xs,r,o,es,ep,h1,h2,h3,h4,λx hx=>?_,h5⟩;have all:∀ {l:List (List Key × V)} {m:List (List Key × Addr × Value)},KT H l m -> ∀ x∈m,(tupleKind (zAW P w)).is h x.1 x.2.1:=by
  intro l m q;induction q with
  |nil=>intro x hx;exact nomatch hx
  | @cons p q ps qs hq t ih=>
   intro x hx;rcases zWx.mp hx with e|hx
   .subst e;exact zEd ok (by rw[<-hq.1];exact hq.2.1)
   .exact ih x hx
 exact all r x hx
theorem zS9 (ok:HOk P w H h) (e:H a=some (.dT kvs)):kvs.length<=sizeLine/\(a==sysModules)=false /\
  ∃ xs,KT H kvs xs/\h.DictOfH (tupleKind (zAW P w)) a xs:=zHS ok (.inl e)
end
def zDh (H:Hp) (a:Yt) (y:V) (r:Option V):Prop :=
 (∃ kvs k,Rd H a (.dK kvs)/\y=kV k/\r=zDt kvs k) \/ ∃ kvs k b,Rd H a (.dT kvs)/\y=.ref b/\H b=some (.tup (k.map kV))/\r=zDt kvs k
def zF8 (H:Hp) (a:Yt) (y v:V) (H':Hp):Prop :=
 (∃ kvs k,H a=some (.dK kvs)/\y=kV k/\kvs.length<sizeLine/\H'=upd H a (.dK (zCq kvs k v))) \/
 ∃ kvs k b,H a=some (.dT kvs)/\y=.ref b/\H b=some (.tup (k.map kV))/\kvs.length<sizeLine/\H'=upd H a (.dT (zCq kvs k v))
theorem zDh.k {H:Hp} {a:Yt} {kvs:List (Key × V)} {k:Key} (e:H a=some (.dK kvs)):zDh H a (kV k) (zDt kvs k):=.inl ⟨kvs,k,.inl e,rfl,rfl⟩
theorem zDh.t {k:List Key} (e:H a=some (.dT kvs)) (eb:H b=some (.tup (k.map kV))):zDh H a (.ref b) (zDt kvs k):=.inr ⟨kvs,k,b,.inl e,rfl,eb,rfl⟩
theorem zF8.k {H:Hp} {a:Yt} {kvs:List (Key × V)} {k:Key} {v:V} (e:H a=some (.dK kvs)) (hl:kvs.length<sizeLine):zF8 H a (kV k) v (upd H a (.dK (zCq kvs k v))):=.inl ⟨kvs,k,e,rfl,hl,rfl⟩
theorem zF8.t {kvs:List (List Key × V)} {k:List Key} (e:H a=some (.dT kvs)) (eb:H b=some (.tup (k.map kV))) (hl:kvs.length<sizeLine) :
  zF8 H a (.ref b) v (upd H a (.dT (zCq kvs k v))):=.inr ⟨kvs,k,b,e,rfl,eb,hl,rfl⟩
section
variable {X:Cx} {zB:Yd} {σ:St} {H:Hp} {s:Yl} {a:Yt} {y v:V} {u r:Yu} {o:Option V} {A:Yn} {E:Yc}
theorem Inv.big (I:Inv X zB σ H s):sysModules<s.heap.objs.size:=by
 have h:mainGlobals<s.heap.objs.size:=(I.mod.glob.keeps I.bk).lt;exact Nat.lt_trans (by decide) h
theorem zN7 (hu:A.units+1<cLine) (I:Inv X zB σ H s) (g:zDh H a y (some v)) (ry:zt y u) (h:∀ w' s',Inv X zB σ H s'->zt v w'->Q w' s') :
  wpAny (model X.prog X.w) A (getItem (.ref a) u) Q E s:=by
 rcases g with ⟨kvs,k,e,ey,l⟩|⟨kvs,k,b,e,ey,eb,l⟩
 .subst ey;obtain ⟨z,hd,vs,rel,dd⟩:=zHU I.hok e;obtain ⟨w',hw,rw'⟩:=zGO.some_of (v:=v) (o:=valueAt vs k) (by rw[l];exact rel.val k);exact wpAny_getItem_of (zF0 ry) dd.mapOf hw (h w' _ (I.tok _) rw')
 .subst ey;cases (show u=Value.ref b from ry);obtain ⟨z,hd,xs,rel,dd⟩:=zHS I.hok e;obtain ⟨w',hw,rw'⟩:=zGO.some_of (v:=v) (o:=(atKey xs k).map (·.2)) (by rw[l];exact rel.val k);obtain ⟨p,hp,hp2⟩:=Option.map_eq_some_iff.mp hw;refine wpAny_getItem_heap (tupleKind_room_in1 hu) (zEd I.hok eb) dd hp ?_;rw[hp2];exact h w' _ (I.tok _) rw'
theorem zWU (hu:A.units+1<cLine) (I:Inv X zB σ H s) (g:zDh H a y o) (ry:zt y u) (h:∀ s',Inv X zB σ H s'->Q (.bool o.isSome) s') :
  wpAny (model X.prog X.w) A (compareOp .In u (.ref a)) Q E s:=by
 rcases g with ⟨kvs,k,e,ey,l⟩|⟨kvs,k,b,e,ey,eb,l⟩
 .subst ey;obtain ⟨z,hd,vs,rel,dd⟩:=zHU I.hok e;refine wpAny_in_of (zF0 ry) hd dd.mapOf ?_;rw[<-(rel.val k).isSome_eq,<-l];exact h _ (I.tok _)
 .subst ey;cases (show u=Value.ref b from ry);obtain ⟨z,hd,xs,rel,dd⟩:=zHS I.hok e;refine wpAny_in_heap (tupleKind_room_in1 hu) (zEd I.hok eb) hd dd ?_;have q:=(rel.val k).isSome_eq;rw[Option.isSome_map]at q;rw[<-q,<-l];exact h _ (I.tok _)
theorem zSF (hu:A.units+1<cLine) (I:Inv X zB σ H s) (g:zDh H a y o) (ry:zt y u) (h:∀ s',Inv X zB σ H s'->Q (.bool (!o.isSome)) s') :
  wpAny (model X.prog X.w) A (compareOp .NotIn u (.ref a)) Q E s:=by
 rcases g with ⟨kvs,k,e,ey,l⟩|⟨kvs,k,b,e,ey,eb,l⟩
 .subst ey;obtain ⟨z,hd,vs,rel,dd⟩:=zHU I.hok e;refine wpAny_notIn_of (zF0 ry) hd dd.mapOf ?_;rw[<-(rel.val k).isSome_eq,<-l];exact h _ (I.tok _)
 .subst ey;cases (show u=Value.ref b from ry);obtain ⟨z,hd,xs,rel,dd⟩:=zHS I.hok e;refine wpAny_notIn_heap (tupleKind_room_in1 hu) (zEd I.hok eb) hd dd ?_;have q:=(rel.val k).isSome_eq;rw[Option.isSome_map]at q;rw[<-q,<-l];exact h _ (I.tok _)
theorem zFM (I:Inv X zB σ H s) (mu:Mut (H a)) (hs:Heap.SameBut a s.heap h') (he:∃ q,h'.get? a=some q) (new:zAs X.prog X.w (upd H a ob) h' a ob) :
  Inv X zB σ (upd H a ob) { s with heap:=h',toks:=t' } :=
 I.write (x:=a) (e:=a) mu (.inl rfl) (λb q hb z=>(hs.2 b hb).trans z) he new
theorem zMW (z:kvs.length<=sizeLine) (hd:(a==sysModules)=false) (rel:KV kvs vs) (dd:h'.DictOf (zAW P w) a vs) :
  zAs P w H' h' a (.dK kvs):=⟨z,hd,vs,rel,dd⟩
theorem zOZ (hu:A.units+1<cLine) (I:Inv X zB σ H s) (g:zF8 H a y v H') (ry:zt y u) (rv:zt v r) (h:∀ s',Inv X zB σ H' s'->Q () s') :
  wpAny (model X.prog X.w) A (setItem (.ref a) u r) Q E s:=by
 rcases g with ⟨kvs,k,e,ey,l,eH⟩|⟨kvs,k,b,e,ey,eb,l,eH⟩
 .subst ey eH;obtain ⟨z,hd,vs,rel,dd⟩:=zQZ I.hok e;have hz:vs.length<=sizeLine:=by rw[<-rel.length];exact z
  have hl:(zCq kvs k v).length<=sizeLine:=by have:=zB5 kvs k v;omega
  refine wpAny_setItem_pairs (hsz:=hz) (zF0 ry) dd λh' dd' hs=>h _ ?_;have he:∃ q,h'.get? a=some q:=let ⟨q,_,_,hq,_⟩:=dd';⟨q,hq⟩;exact zFM I (by rw[e];exact True.intro) hs he (zMW hl hd (rel.put k rv) dd')
 .subst ey eH;cases (show u=Value.ref b from ry);obtain ⟨z,hd,xs,rel,dd⟩:=zS9 I.hok e;have hz:xs.length<=sizeLine:=by rw[<-Paired.length rel];exact z
  have hl:(zCq kvs k v).length<=sizeLine:=by have:=zB5 kvs k v;omega
  refine wpAny_setItem_heap (hsz:=hz) (tupleKind_room_in1 hu) (zEd I.hok eb) dd λh' dd' hs=>h _ ?_;obtain ⟨q,es,ep,hq,h2,h3,h4,_,h5⟩:=dd';refine zFM I (by rw[e];exact True.intro) hs ⟨q,hq⟩ ⟨hl,hd,_,(rel.put k eb rv).keeps λc ys ec=>?_,q,es,ep,hq,h2,h3,h4,h5⟩;rw[zZ (zIT ec e (λz=>nomatch z))];exact ec
end
def zTu (i:Expr):Prop:=∀ ov iv,subscripted i false ov iv=operate [ov,iv] (getItem ov iv)
theorem zRi {prog:Ym} {w:Yo} {A:Yn} {E:Yc} {s:Yl} {env:Env} {value slice:Expr} {pos:Pos} {T id:String} {Q:Yc}
  (hl:typeLookup (.type T) "__getitem__" = pure (some (.builtin id))) (hs:zTu slice)
  (h:wpAny (model prog w) A (eval value env) (λo s₁=>wpAny (model prog w) A (eval slice env) (λi s₂=>s₂.TypeIs o T/\wpAny (model prog w) A (getItem o i) Q E s₂) E s₁) E s) :
  wpAny (model prog w) A (eval (.Subscript value slice pos) env) Q E s:=by
 refine Subscript_ (zXH h (λo s₁ h₁=>zXH h₁ (λi s₂ h₂=>?_) λ_ _ x=>x) λ_ _ x=>x);obtain ⟨hT,h₂⟩:=h₂;unfold subscriptTail;refine zWl ?_;rw[getitemInPython_of_ne hT.not_modules];refine zWl (wpAny_specialOf hT hl ?_);have fin:wpAny (model prog w) A (subscripted slice false o i) (λr s₃=>wpAny (model prog w) A (letTemporaryGo value o r >>= λ_=>pure r) Q E s₃) E s₂:=by
  rw[hs o i];exact wpAny_operating (zXH h₂ (λr s₃ h₃=>zWl (wpAny_letTemporaryGo (zWn h₃))) λ_ _ x=>x)
 first
  |exact zWn (zWl fin)
  |exact zWl (zWn (zWl fin))
  |exact zWl fin
theorem zKq (I:Inv X zB σ H s) (g:zDh H a y o):s.TypeIs (.ref a) "dict" := by
 rcases g with ⟨kvs,k,e,_,_⟩|⟨kvs,k,b,e,_,_,_⟩
 .obtain ⟨_,_,vs,_,dd⟩:=zHU I.hok e;exact dd.typeIs
 .obtain ⟨_,_,xs,_,dd⟩:=zHS I.hok e;exact dd.typeIs
def zVP (td ty:TE):TE:=λσ H Q=>td σ H λx H1=>ty σ H1 λy H2=>∃ a v,x=.ref a/\zDh H2 a y (some v)/\Q v H2
def zWK (ty td:TE):TE:=λσ H Q=>ty σ H λy H1=>td σ H1 λx H2=>∃ a o,x=.ref a/\zDh H2 a y o/\Q (.bl o.isSome) H2
def zRm (ty td:TE):TE:=λσ H Q=>ty σ H λy H1=>td σ H1 λx H2=>∃ a o,x=.ref a/\zDh H2 a y o/\Q (.bl (!o.isSome)) H2
def zU9 (td ty tv:TE):TS:=λD σ H=>tv σ H λv H1=>td σ H1 λx H2=>ty σ H2 λy H3=>∃ a H4,x=.ref a/\zF8 H3 a y v H4/\D.nx σ H4
section
variable {X:Cx} {o i e value:Expr} {pos pos' tpos:Pos} {td ty tv:TE}
theorem zR1 (hu:X.A.units+1<cLine) (ho:PE X o td) (hi:PE X i ty) (hs:zTu i):PE X (.Subscript o i pos) (zVP td ty):=by
 intro zB s σ H Q I h;refine zRi PySem.F.slot_dict_getitem.lookup hs (thn (ho zB s σ H _ I h) λu s1 ⟨x,H1,I1,rx,q1⟩=>thn (hi zB s1 σ H1 _ I1 q1) λiv s2 ⟨y,H2,I2,ry,a,v,ex,g,q2⟩=>?_);subst ex;obtain rfl:u=Value.ref a:=rx;exact ⟨zKq I2 g,zN7 hu I2 g ry λw' s3 I3 rw'=>⟨v,H2,I3,rw',q2⟩⟩
theorem zTT (hu:X.A.units+1<cLine) (hi:PE X i ty) (ho:PE X o td):PC X .In i o (zWK ty td):=by
 intro zB s σ H Q I h;refine thn (hi zB s σ H _ I h) λiv s1 ⟨y,H1,I1,ry,q1⟩=>thn (ho zB s1 σ H1 _ I1 q1) λu s2 ⟨x,H2,I2,rx,a,ov,ex,g,q2⟩=>?_;subst ex;obtain rfl:u=Value.ref a:=rx;exact zWU hu I2 g ry λs3 I3=>⟨.bl ov.isSome,H2,I3,rfl,q2⟩
theorem zNx (hu:X.A.units+1<cLine) (hi:PE X i ty) (ho:PE X o td):PC X .NotIn i o (zRm ty td):=by
 intro zB s σ H Q I h;refine thn (hi zB s σ H _ I h) λiv s1 ⟨y,H1,I1,ry,q1⟩=>thn (ho zB s1 σ H1 _ I1 q1) λu s2 ⟨x,H2,I2,rx,a,ov,ex,g,q2⟩=>?_;subst ex;obtain rfl:u=Value.ref a:=rx;exact zSF hu I2 g ry λs3 I3=>⟨.bl (!ov.isSome),H2,I3,rfl,q2⟩
theorem zSw (hu:X.A.units+1<cLine) (ho:PE X o td) (hi:PE X i ty) (hv:PE X value tv) (hs:swapsWith value (some (.Subscript o i pos')) pos.line X.env=pure false) :
  PS X (.Assign [.Subscript o i pos'] value pos) (zU9 td ty tv):=by
 intro zB s σ H D I h;refine wpAny_Assign_Subscript (thn (hv zB s σ H _ I h) λr s1 ⟨v,H1,I1,rv,q1⟩=>thn (ho zB s1 σ H1 _ I1 q1) λu s2 ⟨x,H2,I2,rx,q2⟩=>thn (hi zB s2 σ H2 _ I2 q2) λiv s3 ⟨y,H3,I3,ry,a,H4,ex,g,q3⟩=>?_) hs;subst ex;obtain rfl:u=Value.ref a:=rx;exact zOZ hu I3 g ry rv λs4 I4=>⟨σ,H4,I4,q3⟩
end
theorem zK4 (h:Heap) (hb:sysModules<h.objs.size):zAs P w H (h.push { cls:=.type "dict", data:=.dict #[] }) h.objs.size (.dK []) :=
 ⟨zXX _,beq_eq_false_iff_ne.mpr (Ne.symm (zW6 hb)),[],.nil,Heap.DictOf.new h⟩
theorem zPf (h:Heap) (hb:sysModules<h.objs.size):zAs P w H (h.push { cls:=.type "dict", data:=.dict #[] }) h.objs.size (.dT []) :=
 ⟨zXX _,beq_eq_false_iff_ne.mpr (Ne.symm (zW6 hb)),[],.nil,_,#[],0,zWv _ rfl,⟨rfl,rfl,rfl⟩,rfl,rfl,List.nodup_nil⟩
def zUo:TE:=λ_ H Q=>∀ p,H p=none->Q (.ref p) (upd H p (.dK []))
def zTE:TE:=λ_ H Q=>∀ p,H p=none->Q (.ref p) (upd H p (.dT []))
section
variable {X:Cx} {pos:Pos}
theorem zQw:PE X (.Dict [] [] pos) zUo:=λzB s σ H Q I h=>
 wpAny_Dict_empty ⟨.ref s.heap.objs.size,_,I.laid (a:=s.heap.objs.size) (o:=.dK []) (t':=s.toks) (λ_ _ q=>zWm _ q) (zWr _) (zK4 s.heap I.big),rfl,h _ (I.hok.fresh (zWr _))⟩
theorem zQC:PE X (.Dict [] [] pos) zTE:=λzB s σ H Q I h=>
 wpAny_Dict_empty ⟨.ref s.heap.objs.size,_,I.laid (a:=s.heap.objs.size) (o:=.dT []) (t':=s.toks) (λ_ _ q=>zWm _ q) (zWr _) (zPf s.heap I.big),rfl,h _ (I.hok.fresh (zWr _))⟩
end
def zMe:List (TE × TE)->St->Hp->(List (V × V)->Hp->Prop)->Prop
 |[],_,H,Q=>Q [] H
 | (tk,tv)::r,σ,H,Q=>tk σ H λx H1=>tv σ H1 λy H2=>zMe r σ H2 λps H3=>Q ((x,y)::ps) H3
abbrev VV:List (V × V)->List (Value × Value)->Prop:=Paired λp q=>zt p.1 q.1/\zt p.2 q.2
def PPs (X:Cx) (pos:Pos) (keys:List (Option Expr)) (values:Yi) (trs:List (TE × TE)):Prop :=
 ∀ (zB:Yd) (s:Yl) (σ:St) (H:Hp) (Q:List (V × V)->Hp->Prop),Inv X zB σ H s->zMe trs σ H Q ->
  wpAny (model X.prog X.w) X.A (evalPairs (pairTrees keys values X.env pos)) (λvs s'=>∃ ps H',Inv X zB σ H' s'/\VV ps vs/\Q ps H') X.xe s
theorem zSR:PPs X pos [] [] []:=λzB s σ H Q I h=>pairTrees_nil_walk ⟨[],H,I,.nil,h⟩
theorem zLY (hk:PE X k tk) (hv:PE X v tv) (hr:PPs X pos ks vs trs) :
  PPs X pos (some k::ks) (v::vs) ((tk,tv)::trs):=λzB s σ H Q I h=>
 pairTrees_cons_walk (thn (hk zB s σ H _ I h) λu s1 ⟨x,H1,I1,rx,q1⟩=>thn (hv zB s1 σ H1 _ I1 q1) λw2 s2 ⟨y,H2,I2,ry,q2⟩=>
  thn (hr zB s2 σ H2 _ I2 q2) λws s3 ⟨ps,H3,I3,rel,q3⟩=>⟨(x,y)::ps,H3,I3,.cons ⟨rx,ry⟩ rel,q3⟩)
def zEh (kvs more:List (Key × V)):List (Key × V):=more.foldl (λacc kv=>zCq acc kv.1 kv.2) kvs
theorem KV.merge:∀ {more:List (Key × V)} {rs:List (Key × Value)} {kvs:List (Key × V)} {vs:List (Key × Value)},KV more rs->KV kvs vs->KV (zEh kvs more) (merged vs rs):=by
 intro more rs kvs vs r;unfold KV at r;induction r generalizing kvs vs with
 |nil=>intro q;exact q
 | @cons p q ps qs h t ih=>
  intro r0;have e:KV (zCq kvs p.1 p.2) (stored vs q.1 q.2):=by
   have:=r0.put p.1 h.2;rw[<-h.1];exact this
  exact ih e
theorem zEY:∀ (more kvs:List (Key × V)),(zEh kvs more).length<=kvs.length+more.length
 |[],kvs=>by show kvs.length<=kvs.length+0;omega
 |p::r,kvs=>by
  have h1:=zEY r (zCq kvs p.1 p.2);have h2:=zB5 kvs p.1 p.2;show (zEh (zCq kvs p.1 p.2) r).length<=_;rw[zXI];omega
theorem zGi:∀ {kvs:List (Key × V)} {ws:List (Value × Value)},VV (kvs.map λkv=>(kV kv.1,kv.2)) ws -> ∃ rs,Carries (zAW P w) ws rs/\KV kvs rs
 |[],_,r=>by rw[List.map_nil]at r;cases r;exact ⟨[],True.intro,.nil⟩
 |p::kvs,_,r=>by
  rw[zW4]at r;cases r with
  | @cons a b as bs h t=>
   obtain ⟨rs,c,q⟩:=zGi (P:=P) (w:=w) t;obtain ⟨b1,b2⟩:=b;exact ⟨(p.1,b2)::rs,⟨zF0 h.1,rfl,c⟩,.cons ⟨rfl,h.2⟩ q⟩
def zUv (trs:List (TE × TE)):TE:=λσ H Q=>∀ p,H p=none->zMe trs σ (upd H p (.dK [])) λps H2=>H2 p=some (.dK []) /\ ∃ kvs:List (Key × V),ps=kvs.map (λkv=>(kV kv.1,kv.2))/\kvs.length<=15/\Q (.ref p) (upd H2 p (.dK (zEh [] kvs)))
theorem zR5 (h:PPs X pos keys values trs) (hall:keys.all (·.isSome)=true) (hl:keys.length=values.length) (h0:keys≠[])
  (h15:keys.length<=15):PE X (.Dict keys values pos) (zUv trs):=by
 intro zB s σ H Q I q;have hn:=I.hok.fresh (zWr s.heap.objs.size);have I1:=I.laid (a:=s.heap.objs.size) (o:=.dK []) (h':=s.heap.push { cls:=.type "dict", data:=.dict #[] }) (t':=s.toks) (λ_ _ q=>zWm _ q) (zWr _) (zK4 s.heap I.big);refine wpAny_Dict_walk (knd:=zAW X.prog X.w) hall hl h0 h15 (thn (h zB _ σ _ _ I1 (q _ hn)) λws s2 ⟨ps,H2,I2,rel,e,kvs,ep,lk,q2⟩=>?_);subst ep;obtain ⟨rs,c,rk⟩:=zGi (P:=X.prog) (w:=X.w) rel;obtain ⟨z,hd,vs0,r0,dd⟩:=zQZ I2.hok e;cases r0;refine ⟨rs,c,dd,λh' dd' hs=>⟨.ref s.heap.objs.size,_,?_,rfl,q2⟩⟩;have hz:(zEh [] kvs).length<=sizeLine:=by
  have h1:=zEY kvs [];rw[List.length_nil]at h1;rw[sizeLine_eq];omega
 have he:∃ q,h'.get? s.heap.objs.size=some q:=let ⟨q,_,_,hq,_⟩:=dd';⟨q,hq⟩;exact zFM I2 (by rw[e];exact True.intro) hs he (zMW hz hd (rk.merge .nil) dd')
structure M2 (X:Cx) (o:Expr) (m:Str) (apos:Pos) (e f:Expr) (cpos:Pos):Prop where
 base:attributeBase o m X.env (eval o X.env)=eval o X.env
 few:((backTo cpos (starEach [e,f] X.env)).all (λx=> !x.1)&&(backToKw cpos (keywordEach [] X.env)).all (λx=>x.1.isSome)
  && decide (([e,f]:List Expr).length+([]:List Keyword).length+(if ([]:List Keyword).isEmpty then 0 else 1)<30))=true
 line:(apos.endLine==cpos.line)=true
 trees:backTo cpos (starEach [e,f] X.env)=[(false,eval e X.env),(false,eval f X.env)]
def IsD (H:Hp) (a:Yt):Prop:=(∃ kvs,Rd H a (.dK kvs)) \/ ∃ kvs,Rd H a (.dT kvs)
theorem zUZ (I:Inv X zB σ H s) (d:IsD H a) :
  s.TypeIs (.ref a) "dict" /\ (∀ b,Value.ref a=.ref b -> ∃ ob,s.heap.get? b=some ob/\ob.dict=none)/\(a==sysModules)=false:=by
 rcases d with ⟨kvs,e⟩|⟨kvs,e⟩
 .obtain ⟨_,hd,vs,_,dd⟩:=zHU I.hok e;refine ⟨dd.typeIs,λb q=>?_,hd⟩;cases q;obtain ⟨ob,_,_,h1,h2,_⟩:=dd;exact ⟨ob,h1,h2.2.1⟩
 .obtain ⟨_,hd,xs,_,dd⟩:=zHS I.hok e;refine ⟨dd.typeIs,λb q=>?_,hd⟩;cases q;obtain ⟨ob,_,_,h1,h2,_⟩:=dd;exact ⟨ob,h1,h2.2.1⟩
section
variable {X:Cx} {zB:Yd} {σ:St} {H:Hp} {s:Yl} {a:Yt} {y d:V} {u r:Yu} {o:Option V} {A:Yn} {E:Yc}
theorem zUS (hu:A.units+1<cLine) (I:Inv X zB σ H s) (g:zDh H a y o) (ry:zt y u) (rd:zt d r) (h:∀ w' s',Inv X zB σ H s'->zt (o.getD d) w'->Q w' s') :
  wpAny (model X.prog X.w) A (call (.builtin "dict.get") [.ref a,u,r]) Q E s:=by
 rcases g with ⟨kvs,k,e,ey,l⟩|⟨kvs,k,b,e,ey,eb,l⟩
 .subst ey;obtain ⟨z,hd,vs,rel,dd⟩:=zHU I.hok e;refine call_meetsIn PySem.F.slot_dict_get dd.typeIs PySem.F.entry_dict_get (PySem.F.args_dict_get_3 _ _ _) (meets_dict_get_default (zAW X.prog X.w) a (zF0 ry) hd r) ⟨_,dd.mapOf,h _ _ (I.tok _) ?_⟩;rw[l];exact (rel.val k).getD rd
 .subst ey;cases (show u=Value.ref b from ry);obtain ⟨z,hd,xs,rel,dd⟩:=zHS I.hok e;refine call_meetsIn PySem.F.slot_dict_get dd.typeIs PySem.F.entry_dict_get (PySem.F.args_dict_get_3 _ _ _) (meetsH_dict_get_default (tupleKind (zAW X.prog X.w)) a b hd r) ⟨tupleKind_room_in1 hu,k,xs,zEd I.hok eb,dd,h _ _ (I.tok _) ?_⟩;rw[l];exact (rel.val k).getD rd
end
def zQp (td ty tx:TE):TE:=λσ H Q=>td σ H λx H1=>∃ a,x=.ref a/\IsD H1 a/\ty σ H1 λy H2=>tx σ H2 λz H3=>∃ o,zDh H3 a y o/\Q (o.getD z) H3
section
variable {X:Cx} {o e f:Expr} {apos cpos:Pos} {td ty tx:TE}
theorem zQY (hu:X.A.units+1<cLine) (ho:PE X o td) (he:PE X e ty) (hf:PE X f tx) (m:M2 X o "get" apos e f cpos):PE X (.Call (.Attribute o "get" apos) [e,f] [] cpos) (zQp td ty tx):=by
 intro zB s σ H Q I h;refine wpAny_Call_method m.base m.few m.line PySem.F.plainAttrs_dict PySem.F.slot_dict_get PySem.F.type_dict_get (thn (ho zB s σ H _ I h) λu s1 ⟨x,H1,I1,rx,a,ex,d,q1⟩=>?_);subst ex;obtain rfl:u=Value.ref a:=rx;obtain ⟨t1,t2,_⟩:=zUZ I1 d;refine ⟨t1,t2,?_⟩;rw[m.trees];refine Calls.callWith_builtin rfl (Calls.evalArgs_plain (Calls.spliced_cons (thn (he zB s1 σ H1 _ I1 q1) λiv s2 ⟨y,H2,I2,ry,q2⟩=>
  Calls.spliced_cons (thn (hf zB s2 σ H2 _ I2 q2) λfv s3 ⟨z,H3,I3,rz,ov,g,q3⟩=>Calls.spliced_nil ?_))))
 exact zUS hu I3 g ry rz λw' s4 I4 rw'=>⟨_,H3,I4,rw',q3⟩
end
theorem zAq:∀ (names:List (Str × NameKind)) (n:Nat) (acc:Yv),cellsFrom n names acc=cellsFrom n names []++acc
 |[],_,_=>rfl
 | (name,kind)::r,n,acc=>by
  unfold cellsFrom;split
  .rw[zAq r (n+1) ((name,n)::acc),zAq r (n+1) [(name,n)],zXr];rfl
  .exact zAq r n acc
theorem zCp {α:Type} (x:Str):∀ (l r:List (Str × α)),(l++r).lookup x=(match l.lookup x with|some c=>some c|none=>r.lookup x)
 |[],r=>rfl
 | (k,v)::l,r=>by
  rw[List.cons_append,zYq,zYq];cases hb:x==k with
  |true=>rfl
  |false=>exact zCp x l r
theorem zEl:∀ (names:List (Str × NameKind)) (acc:Yv),
  (∀ y∈names,y.2=.free -> ∃ c,env.cells.lookup y.1=some c) ->
  (∀ x c,acc.lookup x=some c->env.cells.lookup x=some c) ->
  ∃ cl:List (Str × Addr),(forIn names acc (λ(p:Str × NameKind) (cs:Yv)=>(do
    if p.2 == .free then
     let a <- cellOf env p.1;pure (ForInStep.yield ((p.1,a)::cs))
    else pure (ForInStep.yield cs):Sem (ForInStep (List (Str × Addr))))))=pure cl /\
   (∀ x c,cl.lookup x=some c->env.cells.lookup x=some c) /\
   (∀ x,(acc.lookup x).isSome=true->(cl.lookup x).isSome=true) /\ ∀ y∈names,y.2=.free->(cl.lookup y.1).isSome=true
 |[],acc,_,ha=>⟨acc,by rw[List.forIn_nil],ha,λ_ h=>h,λ_ h=>nomatch h⟩
 | (n,k)::r,acc,hf,ha=>by
  rw[List.forIn_cons];by_cases hk:k=.free
  .subst hk;obtain ⟨c,hc⟩:=hf (n,.free) zWz rfl;have hco:cellOf env n=pure c:=by unfold cellOf;rw[hc]
   obtain ⟨cl,e,h1,h2,h3⟩:=zEl r ((n,c)::acc) (λy hy=>hf y (zWy _ hy)) (λx d hx=>by
    rw[zYq]at hx;cases hb:x==n with
    |true=>rw[hb]at hx;cases hx;rw[beq_iff_eq.mp hb];exact hc
    |false=>rw[hb]at hx;exact ha x d hx)
   refine ⟨cl,?_,h1,λx hx=>h2 x ?_,λy hy hk=>?_⟩
   .rw[<-e];simp only[beq_self_eq_true,if_true,hco];rfl
   .rw[zYq];cases hb:x==n with
    |true=>rfl
    |false=>exact hx
   .rcases zWx.mp hy with z|z
    .subst z;exact h2 n (by rw[zYq];simp)
    .exact h3 y z hk
  .obtain ⟨cl,e,h1,h2,h3⟩:=zEl r acc (λy hy=>hf y (zWy _ hy)) ha;refine ⟨cl,?_,h1,h2,λy hy hk'=>?_⟩
   .rw[<-e];have:(k==NameKind.free)=false:=by simpa using hk
    simp only[this,zXm,if_false];rfl
   .rcases zWx.mp hy with z|z
    .subst z;exact absurd hk' hk
    .exact h3 y z hk'
theorem zH9 (hf:∀ y∈scope.names,y.2=.free -> ∃ c,env.cells.lookup y.1=some c) :
  ∃ cl,closureFor scope env=pure cl/\(∀ x c,cl.lookup x=some c->env.cells.lookup x=some c) /\ ∀ y∈scope.names,y.2=.free->(cl.lookup y.1).isSome=true:=by
 obtain ⟨cl,e,h1,_,h3⟩:=zEl (env:=env) scope.names [] hf (λx c h=>nomatch h);refine ⟨cl,?_,h1,h3⟩;unfold closureFor;rw[show (pure cl:Sem _)=pure cl >>= pure from rfl,<-e]
theorem zC1
  (hQ:Q (newEnv scope s.heap.objs.size globals (cellsFrom (s.heap.objs.size+1) scope.names cl) qual none .none (some env) builtinsNs)
   { s with heap:=pushCells (s.heap.push { cls:=.type "dict", data:=.dict #[] }) scope.names }) :
  wpAny M A (newFunctionEnv scope globals cl [] qual none .none (some env)) Q E s:=by
 simp only[newFunctionEnv,Option.isSome_some,if_true];refine zWl (wpAny_alloc ?_);refine zWl (wpAny_layCells _ (λname kind cells=>by cases hkc:kind==NameKind.cell <;> simp[hkc]) _ _ _ _ ?_);rw[show ({ s with heap:=s.heap.push { cls:=.type "dict", data:=.dict #[] } }:Shared).heap.objs.size=s.heap.objs.size+1 from zXR ..];exact zWl (zWn (zWn hQ))
def zN (X:Cx) (zB:Yd) (scope:Y0) (cl:Yv) (s:Yl) (H:Hp) (fp:Yg):Cx where
 prog:=X.prog
 w:=X.w
 K:=X.K
 mg:=X.mg
 base:=X.base
 A:=X.A
 N:=X.N
 s₀:=s
 H₀:=H
 env:={ scope:=relabel scope X.env,locals:=s.heap.objs.size+1,globals:=X.env.globals,cells:=cellsFrom (s.heap.objs.size+1+1) scope.names cl,qual:=X.env.qual,func:=none,code:=X.env.code,frame:=X.env.frame,builtins:=X.env.builtins }
 outer:=X.stack
 stack:=X.stack
 ex:=fp
 fn:=λx=>decide (scope.names.lookup x=some .cell)
 calm:=X.calm
 pn:=X.pn++zB
 xe:=λ_ _=>False
theorem zBP {scope:Y0} {env:Env} (x:Str):∀ {names:List (Str × NameKind)} {k:NameKind},
  (names.map λ(n,k)=>if (k==NameKind.free&&env.scope.kind == .function&&env.kindOf n==some .cell) then (n,NameKind.cell) else (n,k)).lookup x=some k ->
  names.lookup x=some k\/(names.lookup x=some .free/\k=.cell)
 |[],_,h=>by simp at h
 | (n,k')::r,k,h=>by
  rw[zW4]at h;by_cases hc:(k'==NameKind.free&&env.scope.kind == .function&&env.kindOf n==some .cell)=true
  .simp only[hc,if_true]at h;rw[zYq]at h ⊢;cases hb:x==n with
   |true=>
    rw[hb]at h;simp only[zXL,beq_iff_eq]at hc;exact .inr ⟨by rw[hc.1.1],(zXl h).symm⟩
   |false=>rw[hb]at h;exact zBP (scope:=scope) x h
  .simp only[hc,zXm,if_false]at h;rw[zYq]at h ⊢;cases hb:x==n with
   |true=>rw[hb]at h;exact .inl h
   |false=>rw[hb]at h;exact zBP (scope:=scope) x h
theorem zHl:∀ (names:List (Str × NameKind)) (n:Nat) (acc:Yv) (x:Str) (c:Yt),(x,c)∈cellsFrom n names acc->(x,c)∉acc->(x,NameKind.cell)∈names
 |[],_,_,_,_,h,h'=>absurd h h'
 | (name,kind)::r,n,acc,x,c,h,h'=>by
  unfold cellsFrom at h;split at h
  .rename_i hk;by_cases e:(x,c)=(name,n)
   .cases e;rw[beq_iff_eq]at hk;subst hk;exact zWz
   .exact zWy _ (zHl r _ _ x c h λz=>(zWx.mp z).elim e h')
  .exact zWy _ (zHl r _ _ x c h h')
structure CompScope (X:Cx) (scope:Y0):Prop where
 kind:scope.kind=.function
 names:∀ y∈scope.names,y.2=.local->scope.names.lookup y.1=some .local
 cells:∀ y∈scope.names,y.2=.cell->scope.names.lookup y.1=some .cell
 free:∀ y∈scope.names,y.2=.free->X.env.kindOf y.1=some .cell\/X.env.kindOf y.1=some .free
section
theorem zE9 (S:CompScope X scope) (I:Inv X zB σ H s) (hf:∀ b∈fp,zCI X zB H b) (ho:∀ b:Nat,b∈fp->b<s.heap.objs.size)
  (c1:∀ x c,cl.lookup x=some c->X.env.cells.lookup x=some c) (c2:∀ y∈scope.names,y.2=.free->(cl.lookup y.1).isSome=true)
  (hl:σc.length=σ.length) (hσ:∀ (i:Nat) x v,X.N[i]?=some x->σc[i]?=some (some v)->(relabel scope X.env).names.lookup x≠none->scope.names.lookup x=some .free/\σ[i]?=some (some v))
  (lo:Obj) (hlo:∀ v,lo.data≠.cell v) (hfr:lo.isFreed=false)
  (h4:s4={ s with heap:=pushCells ((s.heap.push lo).push { cls:=.type "dict", data:=.dict #[] }) scope.names }) :
  Inv (zN X zB scope cl s H fp) [(s.heap.objs.size,lo)] σc H s4:=by
 subst h4;have sz1:(s.heap.push lo).objs.size=s.heap.objs.size+1:=zXR ..;have sz2:((s.heap.push lo).push { cls:=.type "dict", data:=.dict #[] }).objs.size=s.heap.objs.size+1+1:=by rw[zXR,sz1]
 have hk:∀ b o,s.heap.get? b=some o->(pushCells ((s.heap.push lo).push { cls:=.type "dict", data:=.dict #[] }) scope.names).get? b=some o:=λb o e=>
  pushCells_keeps _ _ b o (zWm _ (zWm _ e))
 have ok:=cellsFrom_ok scope.names ((s.heap.push lo).push { cls:=.type "dict", data:=.dict #[] }) (s.heap.objs.size+1+1) [] ⟨λ_ _ hm=>(nomatch hm),List.Pairwise.nil⟩ (by rw[sz2];exact zWr _);rw[sz2]at ok;have look:∀ x c,(cellsFrom (s.heap.objs.size+1+1) scope.names cl).lookup x=some c->((cellsFrom (s.heap.objs.size+1+1) scope.names []).lookup x=some c)\/((cellsFrom (s.heap.objs.size+1+1) scope.names []).lookup x=none/\X.env.cells.lookup x=some c):=λx c e=>by
  rw[zAq,zCp]at e;cases q:(cellsFrom (s.heap.objs.size+1+1) scope.names []).lookup x with
  |some d=>rw[q]at e;exact .inl e
  |none=>rw[q]at e;exact .inr ⟨rfl,c1 x c e⟩
 have old:∀ x (c:Nat),X.env.cells.lookup x=some c->c<s.heap.objs.size:=λx c e=>let ⟨_,q⟩:=I.cell x c e;q.lt;have new:∀ x (c:Nat),(cellsFrom (s.heap.objs.size+1+1) scope.names []).lookup x=some c->s.heap.objs.size+1+1<=c:=λx c e=>(ok.empty x c (zXn e)).2;have own:∀ x,scope.names.lookup x=some .cell -> ∃ c,(cellsFrom (s.heap.objs.size+1+1) scope.names []).lookup x=some c:=λx e=>zGs e;have cne:∀ x (c:Nat),(cellsFrom (s.heap.objs.size+1+1) scope.names cl).lookup x=some c->c<s.heap.objs.size\/s.heap.objs.size+1+1<=c:=λx c e=>by
  rcases look x c e with q|⟨_,q⟩
  .exact .inr (new x c q)
  .exact .inl (old x c q)
 refine ⟨⟨I.ok.mod,S.kind,I.ok.glob,I.ok.blt,zYT _,λx y c h1 h2=>?_,λx hx=>?_,λx c hx h=>?_,I.ok.hd,I.ok.frames,.inl rfl,λb hb=>⟨?_,λx c e z=>?_⟩,I.bs,zXC I.ok.bsz I.sz,λb o e hb=>?_,λb hb z=>?_,I.stack,I.stkFree⟩,
  rfl,I.bare,Un.kept hk,⟨λ_=>none,?_,λi x v h1 h2 h3=>?_⟩,λx c e=>?_,I.hok.fresh (zYT _),λx c e=>?_,λp hp=>?_,I.hok.kept hk,hl.trans I.len⟩
 .rcases look x c h1 with a|⟨_,a⟩ <;> rcases look y c h2 with b|⟨_,b⟩
  .exact name_of_addr ok.apart (zXn a) (zXn b)
  .exact absurd (Nat.lt_of_le_of_lt (new x c a) (old y c b)) (by omega)
  .exact absurd (Nat.lt_of_le_of_lt (new y c b) (old x c a)) (by omega)
  .exact I.ok.inj x y c a b
 .have hx':(relabel scope X.env).names.lookup x=some .cell\/(relabel scope X.env).names.lookup x=some .free:=hx;have go:scope.names.lookup x=some .cell\/scope.names.lookup x=some .free:=by
   rcases hx' with q|q
   .rcases zBP (scope:=scope) x q with z|z
    .exact .inl z
    .exact .inr z.1
   .rcases zBP (scope:=scope) x q with z|z
    .exact .inr z
    .exact .inr z.1
  show ∃ c,(cellsFrom (s.heap.objs.size+1+1) scope.names cl).lookup x=some c;rw[zAq,zCp];rcases go with q|q
  .obtain ⟨c,e⟩:=own x q;exact ⟨c,by rw[e]⟩
  .cases e:(cellsFrom (s.heap.objs.size+1+1) scope.names []).lookup x with
   |some d=>exact ⟨d,rfl⟩
   |none=>exact Option.isSome_iff_exists.mp (c2 (x,.free) (zXn q) rfl)
 .obtain ⟨d,e⟩:=own x (zXh hx);have h':(cellsFrom (s.heap.objs.size+1+1) scope.names cl).lookup x=some c:=h;rw[zAq,zCp,e]at h';cases h';exact zXC (zXC (zYT _) (zYT _)) (new x _ e)
 .exact zW6 (zXa (ho b hb))
 .rcases look x c e with q|⟨_,q⟩
  .have a:=new x c q;rw[z]at a;exact absurd (Nat.lt_of_le_of_lt a (ho b hb)) (by omega)
  .exact (hf b hb).2.2.2.2.1 x c q z
 .rcases (hf b hb).2.2.2.1 with z|z
  .exact I.ok.noex b o e z
  .exact absurd (zXA (zWw e) (zXC I.ok.bsz z)) (zXT _)
 .rcases zWx.mp (I.stkSub b z)with q|q
  .exact (hf b hb).2.1 q
  .exact (hf b hb).2.2.1 q
 .have q:((s.heap.push lo).push { cls:=.type "dict", data:=.dict #[] }).Ns (s.heap.push lo).objs.size (λ_=>none):=Heap.Ns.new ..;rw[sz1]at q;exact q.keeps (pushCells_keeps _ _)
 .have h3':(relabel scope X.env).names.lookup x≠none:=by
   rcases h3 with z|z|z <;> (intro q;have z':(relabel scope X.env).names.lookup x=_:=z;rw[q]at z';cases z')
  obtain ⟨fr,hv⟩:=hσ i x v h1 h2 h3';obtain ⟨m,hn,hlk⟩:=I.loc;have kx:=S.free (x,.free) (zXn fr) rfl;obtain ⟨u,rv,lk⟩:=hlk i x v h1 hv (by rcases kx with z|z;exact .inr (.inl z);exact .inr (.inr z));refine ⟨u,rv,?_⟩;rcases lk with ⟨z,_⟩|⟨_,c,e,ic⟩
  .rcases kx with k|k <;> (rw[k]at z;cases z)
  .have kind:(relabel scope X.env).names.lookup x=some .cell\/(relabel scope X.env).names.lookup x=some .free:=by
    cases q:(relabel scope X.env).names.lookup x with
    |none=>exact absurd q h3'
    |some k=>
     rcases zBP (scope:=scope) x q with z|z
     .rw[fr]at z;cases z;exact .inr rfl
     .rw[z.2];exact .inl rfl
   refine .inr ⟨kind,c,?_,ic.keeps hk⟩;show (cellsFrom (s.heap.objs.size+1+1) scope.names cl).lookup x=some c;rw[zAq,zCp];obtain ⟨d,hd⟩:=Option.isSome_iff_exists.mp (c2 (x,.free) (zXn fr) rfl);have:=c1 x d hd;rw[e]at this;cases this;have nn:(cellsFrom (s.heap.objs.size+1+1) scope.names []).lookup x=none:=by
    cases q:(cellsFrom (s.heap.objs.size+1+1) scope.names []).lookup x with
    |none=>rfl
    |some d'=>
     have z:=S.cells (x,.cell) (zHl scope.names _ [] x d' (zXn q) λz=>nomatch z) rfl;rw[fr]at z;cases z
   rw[nn];exact hd
 .rcases look x c e with q|⟨_,q⟩
  .exact ⟨none,(ok.empty x c (zXn q)).1⟩
  .obtain ⟨v,z⟩:=I.cell x c q;exact ⟨v,z.keeps hk⟩
 .rcases look x c e with q|⟨_,q⟩
  .exact I.hok.fresh (by have:=new x c q;omega)
  .exact I.freeC x c q
 .have hp':p∈X.pn++zB\/p=(s.heap.objs.size,lo):=by
   rcases zXB.mp hp with z|z
   .exact .inl z
   .exact .inr (by simpa using z)
  rcases hp' with z|z
  .obtain ⟨e,n,ne,nf,d⟩:=I.pin p z;have lt:(p.1:Nat)<s.heap.objs.size:=zWw e;refine ⟨hk _ _ e,n,?_,λq=>?_,d⟩
   .exact zW6 (zXa lt)
   .rcases zWx.mp (I.stkSub _ q)with r|r
    .exact ne r
    .exact nf r
  .subst z;refine ⟨pushCells_keeps _ _ _ _ (zWm _ (zWv _ hfr)),I.hok.fresh (zWr _),?_,λq=>?_,hlo⟩
   .show s.heap.objs.size≠s.heap.objs.size+1;omega
   .rcases zWx.mp (I.stkSub _ q)with r|r
    .exact absurd I.lt (by rw[<-r];exact zXT _)
    .exact I.nofs (zWr _) r
end
def clr (own:Yj) (σ:St):St:=own.foldl (λσ i=>σ.set i none) σ
theorem zBc:∀ (own:Yj) (σ:St),(clr own σ).length=σ.length
 |[],_=>rfl
 |i::r,σ=>by
  show (clr r (σ.set i none)).length=_;rw[zBc r,List.length_set]
theorem zC0:∀ (own:Yj) (σ:St) (j:Nat) (v:V),(clr own σ)[j]?=some (some v)->σ[j]?=some (some v)/\j∉own
 |[],_,_,_,h=>⟨h,λz=>nomatch z⟩
 |i::r,σ,j,v,h=>by
  have h':(clr r (σ.set i none))[j]?=some (some v):=h;obtain ⟨a,b⟩:=zC0 r _ j v h';rw[zYK]at a;split at a
  .split at a <;> cases a
  .rename_i hne;exact ⟨a,λz=>(zWx.mp z).elim (λe=>hne e.symm) b⟩
def Ext (a b:St):Prop:=b.length=a.length /\ ∀ (i:Nat) v,a[i]?=some (some v)->b[i]?=some (some v)
theorem Ext.refl (a:St):Ext a a:=⟨rfl,λ_ _ h=>h⟩
theorem Ext.set (e:Ext (clr own σ) a) (h:i∈own):Ext (clr own σ) (a.set i (some v)):=by
 refine ⟨by rw[List.length_set];exact e.1,λj u q=>?_⟩;rw[zYK];split
 .rename_i z;exact absurd (z▸h) (zC0 own σ j u q).2
 .exact e.2 j u q
def zGB (X:Cx) (ifs:Yi) (t:TT):Prop :=
 ∀ (zB:Yd) (s:Yl) (σ:St) (H:Hp) (Q:Bool->Hp->Prop),Inv X zB σ H s->t σ H Q ->
  wpAny (model X.prog X.w) X.A (forIn ifs true λc r=>if r=true then do let ok <- isTrue c X.env (eval c X.env);pure (ForInStep.yield ok) else pure (ForInStep.yield r)) (TP X zB σ Q) X.xe s
def zWj:TT:=λ_ H Q=>Q true H
theorem zP5:zGB X [] zWj:=λ_ _ _ H _ I h=>wpAny_tests_nil ⟨H,I,h⟩
theorem zPd (h:PT X c t):zGB X [c] t:=λzB s σ H Q I hq=>wpAny_tests_one (h zB s σ H Q I hq)
section
theorem zJK (I:Nat->Shared->Prop)
  (turn:∀ n s,I n s->wpAny (model prog w) A (pyNext it) (λr s₁=>match r with
   |none=>R (.ok .next) s₁
   |some v=>wpAny (model prog w) A (letOwnedTupleGo target it v) (λ_ s₁'=>wpAny (model prog w) A (assign target env v) (λ_ s₂=>
     wpAny (model prog w) A (forIn ifs true λc r=>if r=true then do let ok <- isTrue c env (eval c env);pure (ForInStep.yield ok) else pure (ForInStep.yield r)) (λok s₃=>
      if ok=true then wpAny (model prog w) A (eval elt env) (λx s₄=>
       wpAny (model prog w) A (call (.builtin "list.append") [acc,x]) (λ_ s₅=>∃ m,m<n/\I m s₅) (λ_ _=>False) s₄) (λ_ _=>False) s₃
      else ∃ m,m<n/\I m s₃) (λ_ _=>False) s₂) (λ_ _=>False) s₁') (λ_ _=>False) s₁) (λ_ _=>False) s)
  (n:Nat) (h:I n s) :
  codeAny (model prog w) A (.compLoop (.ListComp elt [⟨target,iter,ifs,0⟩] scope pos) 0 it acc env) R s:=by
 refine codeAny_loop rfl I (λn s hI=>?_) n h;show wpAny _ A ((compTurn (.ListComp elt [⟨target,iter,ifs,0⟩] scope pos) 0 it acc env).onRaise (λx=>do noteFrame x env;theTreesLotGoes x)) _ _ s;refine wpAny_noted ?_;rw[compTurn_list];refine zWl (zXj (zWl (zXH (turn n s hI) (λr s₁ h₁=>?_) λ_ _ h'=>h'.elim)));cases r with
 |none=>exact zWn h₁
 |some v=>
  refine zWl (zXH h₁ (λ_ s₁' h₁'=>?_) λ_ _ h'=>h'.elim);refine zWl (zXH h₁' (λ_ s₂ h₂=>zWl (zXH h₂ (λok s₃ h₃=>?_) λ_ _ h'=>h'.elim)) λ_ _ h'=>h'.elim);cases ok with
  |false=>exact zWn ⟨rfl,h₃⟩
  |true=>
   exact zWl (zWl (zXH h₃ (λx s₄ h₄=>zWl (zXH h₄ (λ_ s₅ h₅=>zWn (zWn ⟨rfl,h₅⟩)) λ_ _ h'=>h'.elim)) λ_ _ h'=>h'.elim))
end
def zPY (own:Yj) (wi:TI) (g:TG) (tc:TT) (te:TE):TE:=λσ H Q=>wi σ H λJ H1=>∃ W:Nat->Nat->List V->Hp->Prop,(∃ m,W 0 m [] H1) /\ ∀ i m ys H,W i m ys H ->
 (J.stop i H/\ys.length<=sizeLine /\ ∀ D,H D=none->Q (.ref D) (upd H D (.lst ys))) \/
 (J.go i H /\ ∀ x H',J.yld i H x H'->g x (clr own σ) H' λσ2 H2=>Ext (clr own σ) σ2/\tc σ2 H2 λb H3=>
  if b=true then te σ2 H3 λv H4=>ys.length<sizeLine /\ ∃ m',m'<m/\W (i+1) m' (ys++[v]) H4 else ∃ m',m'<m/\W (i+1) m' ys H3)
abbrev zo (its:List Value) (n:Nat):Obj:={ cls:=.type "list", data:=.seq its.toArray n }
section
theorem Inv.repin (I:Inv X (pl++[(D,o)]) σ H s) (hpl:∀ p∈X.pn++pl,p.1≠D) (hs:Heap.SameBut D s.heap h') (hD:X.s₀.heap.objs.size<=D) (hc:∀ x c,X.env.cells.lookup x=some c->c≠D)
  (e:h'.get? D=some o') (hn:∀ v,o'.data≠.cell v):Inv X (pl++[(D,o')]) σ H { s with heap:=h' }:=by
 obtain ⟨e0,n0,ne0,nf0,d0⟩:=I.pin (D,o) (by simp);have I1:Inv X pl σ H s:=I.pins_of λp hp=>I.pin p (by simp[hp]);have I2:Inv X pl σ H { s with heap:=h' }:=I1.turned (t':=s.toks) (it:=D) (λb u hb q=>hs.extBut b u hb q) n0 ne0 (.inr hD) hc hpl;exact I2.pins_of λp hp=>by
  rcases zXB.mp hp with z|z
  .exact I2.pin p (zW5 _ z)
  .have:p=(D,o'):=by simpa using z
   subst this;exact ⟨e,n0,ne0,nf0,hn⟩
end
section
variable {pos:Pos}
 {own:Yj} {g:TG} {tc:TT} {te:TE} {E:Yc}
structure CompIn (X:Cx) (scope:Y0) (own:Yj):Prop where
 sc:CompScope X scope
 nm:∀ (i:Nat) x,X.N[i]?=some x->i∈own\/scope.names.lookup x=none\/scope.names.lookup x=some .free
theorem zCP (x:Str) (h:scope.names.lookup x=none):(relabel scope env).names.lookup x=none:=by
 cases q:(relabel scope env).names.lookup x with
 |none=>rfl
 |some k=>
  rcases zBP (scope:=scope) x q with z|z
  .rw[h]at z;cases z
  .rw[h]at z;cases z.1
theorem zGu (C:CompIn X scope own) (hcalm:X.calm=true) (I:Inv X zB σ H s) (T:Turn X.prog X.w X.K tg J fp it tn) (st:tn 0 s.heap) (hf:∀ b∈fp,zCI X zB H b)
  (c1:∀ x c,cl.lookup x=some c->X.env.cells.lookup x=some c) (c2:∀ y∈scope.names,y.2=.free->(cl.lookup y.1).isSome=true)
  (hg:PG (zN X zB scope cl s H fp) tg g) (hi:zGB (zN X zB scope cl s H fp) ifs tc) (he:PE (zN X zB scope cl s H fp) elt te)
  {RR:Value->Addr->Result->Shared->Prop} {QQ:List V->Hp->Prop} {W:Nat->Nat->List V->Hp->Prop} {m0:Nat} (w0:W 0 m0 [] H)
  (turn:∀ i m ys H,W i m ys H->(J.stop i H/\ys.length<=sizeLine/\QQ ys H) \/
   (J.go i H /\ ∀ x H',J.yld i H x H'->g x (clr own σ) H' λσ2 H2=>Ext (clr own σ) σ2/\tc σ2 H2 λb H3=>
    if b=true then te σ2 H3 λv H4=>ys.length<sizeLine /\ ∃ m',m'<m/\W (i+1) m' (ys++[v]) H4 else ∃ m',m'<m/\W (i+1) m' ys H3))
  (fin:∀ σc H' s' its n ys,Inv (zN X zB scope cl s H fp) [(s.heap.objs.size,zo its n)] σc H' s'->za ys its->ys.length<=sizeLine->QQ ys H'->RR (.ref s.heap.objs.size) (s.heap.objs.size+1) (.ok .next) s') :
  wpAny (model X.prog X.w) X.A (newList []) (λacc s₃=>wpAny (model X.prog X.w) X.A (newFunctionEnv scope X.env.globals cl [] X.env.qual none .none (some X.env)) (λcenv s₄=>
   codeAny (model X.prog X.w) X.A (.compStart (.ListComp elt [⟨tg,iter,ifs,0⟩] scope pos) 0 (.ref it) acc { cenv with scope:=relabel scope X.env }) (RR acc cenv.locals) s₄) E s₃) E s:=by
 have ob:∀ b:Nat,b∈fp->b<s.heap.objs.size:=λb hb=>let ⟨_,e,_⟩:=T.obj 0 _ st b hb;zWw e;refine zXE (zC1 ?_);have sz1:(s.heap.push (zo [] 0)).objs.size=s.heap.objs.size+1:=zXR ..;have I4:=zE9 (X:=X) (zB:=zB) (σ:=σ) (σc:=clr own σ) (H:=H) (s:=s) (scope:=scope) (cl:=cl) (fp:=fp) C.sc I hf ob c1 c2 (zBc own σ) (λi x v h1 h2 h3=>by
  obtain ⟨a,b⟩:=zC0 own σ i v h2;rcases C.nm i x h1 with z|z|z
  .exact absurd z b
  .exact absurd (zCP x z) h3
  .exact ⟨z,a⟩) (zo [] 0) (by intro v z;cases z) rfl rfl
 have st4:tn 0 (pushCells ((s.heap.push (zo [] 0)).push { cls:=.type "dict", data:=.dict #[] }) scope.names):=T.keep 0 _ _ st λb _ o e=>pushCells_keeps _ _ b o (zWm _ (zWm _ e));unfold newEnv;rw[sz1];have hDfp:s.heap.objs.size∉fp:=λz=>zXT _ (ob _ z);have hcD:∀ x c,(zN X zB scope cl s H fp).env.cells.lookup x=some c->c≠s.heap.objs.size:=λx c e z=>by
  obtain ⟨v,o,ho,hd⟩:=I4.cell x c e;obtain ⟨q,_⟩:=I4.pin (s.heap.objs.size,zo [] 0) (by simp);rw[z,q]at ho;cases ho;cases hd
 have fpk:∀ {H':Hp} {pl:Yd},(∀ b∈fp,H' b=none)->(∀ p∈pl,p.1=s.heap.objs.size) -> ∀ b∈fp,zCI (zN X zB scope cl s H fp) pl H' b:=λ{H' pl} hn hp b hb=>
  ⟨hn b hb,(I4.ok.exf b hb).1,I4.ok.exfs b hb,.inl hb,(I4.ok.exf b hb).2,λp hq=>by
   rcases zXB.mp hq with z|z
   .exact (hf b hb).2.2.2.2.2 p z
   .intro e;have e2:=hp p z;rw[e]at e2;exact hDfp (e2▸hb)⟩
 have loop:codeAny (model X.prog X.w) X.A (.compLoop (.ListComp elt [⟨tg,iter,ifs,0⟩] scope pos) 0 (.ref it) (.ref s.heap.objs.size) (zN X zB scope cl s H fp).env) (RR (.ref s.heap.objs.size) (s.heap.objs.size+1))
   { s with heap:=pushCells ((s.heap.push (zo [] 0)).push { cls:=.type "dict", data:=.dict #[] }) scope.names }:=by
  refine zJK (λn s'=>∃ i H' ys its k,Inv (zN X zB scope cl s H fp) [(s.heap.objs.size,zo its k)] (clr own σ) H' s'/\za ys its/\tn i s'.heap/\(∀ b∈fp,H' b=none)/\W i n ys H') ?_ m0
   ⟨0,H,[],[],0,I4,.nil,st4,λb hb=>(hf b hb).1,w0⟩
  rintro n s5 ⟨i,H5,ys,its,k,I5,r5,st5,f5,w5⟩;have pinD:∀ p∈[(s.heap.objs.size,zo its k)],p.1=s.heap.objs.size:=λp hp=>by
   have:p=(s.heap.objs.size,zo its k):=by simpa using hp
   rw[this]
  rcases turn i n ys H5 w5 with ⟨stop,hz,qq⟩|⟨go,step⟩
  .refine thn (T.done (zN X zB scope cl s H fp) rfl rfl rfl hcalm i _ s5 _ H5 _ I5 (fpk f5 pinD) st5 stop) λr s6 ⟨hr,I6⟩=>?_;subst hr;exact fin _ H5 s6 its k ys I6 r5 hz qq
  .refine thn (T.item (zN X zB scope cl s H fp) rfl rfl rfl hcalm i _ s5 _ H5 _ I5 (fpk f5 pinD) st5 go) λr s6 ⟨u,hr,h6⟩=>?_;subst hr;refine thn h6 λ_ s7 ⟨x,H7,I7,r7,y7,st7,f7⟩=>?_;have I7':=I7.pinned (fpk f7 pinD) (T.obj _ _ st7);refine thn (hg _ s7 _ H7 x u _ I7' r7 (step x H7 y7)) λ_ s8 ⟨σ8,H8,I8,x8,q8⟩=>?_;refine thn (hi _ s8 σ8 H8 _ I8 q8) λok s9 ⟨H9,I9,q9⟩=>?_;have back:∀ {s':Yl} {Hx:Hp},Inv (zN X zB scope cl s H fp) ([(s.heap.objs.size,zo its k)]++zC9 fp s7.heap) σ8 Hx s'->tn (i+1) s'.heap /\ ∀ b∈fp,Hx b=none:=λ{s' Hx} Ix=>
    ⟨T.keep _ _ _ st7 λb hb o e=>(Ix.pin (b,o) (zW5 _ (zW5 _ (zAY hb e)))).1,λb hb=>by
     obtain ⟨o,e,d⟩:=T.obj _ _ st7 b hb;exact (Ix.pin (b,o) (zW5 _ (zW5 _ (zAY hb e)))).2.1⟩
   cases ok with
   |false=>
    obtain ⟨m',hm,w'⟩:=q9;obtain ⟨b1,b2⟩:=back I9;exact ⟨m',hm,i+1,H9,ys,its,k,(I9.weak (by rw[x8.1]) x8.2).unpinned,r5,b1,b2,w'⟩
   |true=>
    refine thn (he _ s9 σ8 H9 _ I9 q9) λv s10 ⟨y,H10,I10,r10,hlt,m',hm,w'⟩=>?_;obtain ⟨b1,b2⟩:=back I10;have J10:=(I10.weak (by rw[x8.1]) x8.2).unpinned;obtain ⟨e10,n10,ne10,nf10,d10⟩:=J10.pin (s.heap.objs.size,zo its k) (by simp);have hlen:its.toArray.size<=sizeLine:=by
     have:=r5.length;rw[zWt,<-this];exact zZh hlt
    refine wpAny_list_append_plain (hsz:=hlen) (show s10.heap.PlainList s.heap.objs.size its.toArray from ⟨k,e10⟩) λh' hl' hs'=>?_;obtain ⟨k',e'⟩:=hl';have e'':h'.get? s.heap.objs.size=some (zo (its++[v]) k'):=by rw[e'];simp[zo]
    refine ⟨m',hm,i+1,H10,ys++[y],its++[v],k',?_,r5.append (.cons r10 .nil),T.keep _ _ _ b1 λb hb o e=>hs'.extBut b o (λz=>hDfp (z▸hb)) e,b2,w'⟩;refine Inv.repin (pl:=[]) J10 (λp hp=>?_) hs' (zWr _) hcD e'' (by intro v z;cases z);rw[zXV]at hp;have hp':p∈X.pn++zB:=hp;exact zW6 (zWw (I.pin p hp').1)
 exact codeAny_compStart_list loop (T.self _ 0 _ _ _ st4 loop)
end
section
theorem zHn (I:Inv X zB σ H s) (hf:∀ b∈fp,zCI X zB H b)
  (Ic:Inv (zN X zB scope cl s H fp) [(s.heap.objs.size,zo its n)] σc H' s') (rv:za ys its) (hz:ys.length<=sizeLine) (hs:Heap.SameBut (s.heap.objs.size+1) s'.heap h') :
  Inv X zB σ (upd H' s.heap.objs.size (.lst ys)) { s' with heap:=h' }/\H' s.heap.objs.size=none:=by
 obtain ⟨eD,nD,_⟩:=Ic.pin (s.heap.objs.size,zo its n) (by simp);have nC:H' (s.heap.objs.size+1)=none:=Ic.free;have eD':h'.get? s.heap.objs.size=some (zo its n):=hs.extBut _ _ (zW6 (zXi _)) eD;have lt1:∀ {b:Yt} {o:Obj},s.heap.get? b=some o->b≠s.heap.objs.size+1/\b≠s.heap.objs.size:=λe=>⟨zW6 (zXa (zWw e)),zW6 (zWw e)⟩;have tr:∀ b u,H' b=some u->b≠s.heap.objs.size+1/\b≠s.heap.objs.size:=λb u e=>⟨λz=>(by rw[z,nC]at e;cases e),λz=>(by rw[z,nD]at e;cases e)⟩;refine ⟨?_,nD⟩;have B:=Ic.base;have un:Un (frs X.stack) fp H (upd H' s.heap.objs.size (.lst ys)) s.heap h':=by
  refine ⟨λb o e q hb hx=>hs.extBut b o (lt1 e).1 (B.keep b o e q hb hx),λb o e q hb hx=>?_,λb o e q hx=>?_,λb o e hx=>?_,λb xs e=>?_,λb o xs e=>?_,λb ps e=>?_⟩
  .obtain ⟨sl,e1⟩:=B.slot b o e q hb hx;exact ⟨sl,hs.extBut b _ (lt1 e).1 e1⟩
  .rw[zZ (lt1 e).2];exact B.free b o e q hx
  .obtain ⟨o',e1⟩:=B.there b o e hx;exact ⟨o',hs.extBut b _ (lt1 e).1 e1⟩
  .have q:=B.tups b xs e;rw[zZ (tr b _ q).2];exact q
  .have q:=B.frzs b o xs e;rw[zZ (tr b _ q).2];exact q
  .obtain ⟨more,q⟩:=B.tbls b ps e;exact ⟨more,by rw[zZ (tr b _ q).2];exact q⟩
 have hok:HOk X.prog X.w (upd H' s.heap.objs.size (.lst ys)) h':=λb u e=>by
  by_cases hb:b=s.heap.objs.size
  .subst hb;rw[zAD]at e;cases e;exact ⟨hz,its,n,rv,eD'⟩
  .rw[zZ hb]at e;refine (Ic.hok b u e).stay (λc v hc q=>hs.extBut c v ?_ q) (λc q=>by rw[zZ (tr c _ q).2];exact q) λc xs q=>by rw[zZ (tr c _ q).2];exact q
   rcases hc with z|z
   .rw[z];exact (tr b u e).1
   .exact (tr c _ z).1
 exact I.call' (s':={ s' with heap:=h' }) (ch:=fp) Ic.os un hok Ic.bare λb hb=>⟨(hf b hb).2.2.2.1,(hf b hb).2.1,(hf b hb).2.2.2.2.1,(hf b hb).2.2.2.2.2⟩
end
section
structure CompParts (X:Cx) (scope:Y0) (tg:Expr) (ifs:Yi) (elt:Expr) (g:TG) (tc:TT) (te:TE):Prop where
 g:∀ zB cl s H fp,PG (zN X zB scope cl s H fp) tg g
 c:∀ zB cl s H fp,zGB (zN X zB scope cl s H fp) ifs tc
 e:∀ zB cl s H fp,PE (zN X zB scope cl s H fp) elt te
theorem CompScope.closure (S:CompScope X scope) (I:Inv X zB σ H s) :
  ∃ cl,closureFor scope X.env=pure cl/\(∀ x c,cl.lookup x=some c->X.env.cells.lookup x=some c) /\ ∀ y∈scope.names,y.2=.free->(cl.lookup y.1).isSome=true :=
 zH9 λy hy hk=>I.ok.has y.1 (S.free y hy hk)
theorem zSG (C:CompIn X scope own) (hcalm:X.calm=true) (hi:PI X tg iter wi) (p:CompParts X scope tg ifs elt g tc te) (hs:∀ x,foldedSetIterable iter X.env x=pure x:=by intro _;rfl) :
  PE X (.ListComp elt [⟨tg,iter,ifs,0⟩] scope pos) (zPY own wi g tc te):=by
 intro zB s σ H Q I h;obtain ⟨cl,hcl,c1,c2⟩:=C.sc.closure I;rw[eval_ListComp];refine zYf (use:=none) rfl hs hcl C.sc.kind C.sc.names (thn (hi zB s σ H _ I h) λv s1 h1=>thn h1 λitv s2 h2=>?_);obtain ⟨it,fp,tn,J,H2,e,I2,T,st2,f2,W,⟨m0,w0⟩,turn⟩:=h2;subst e;refine zGu C hcalm I2 T st2 f2 c1 c2 (p.g _ _ _ _ _) (p.c _ _ _ _ _) (p.e _ _ _ _ _) (RR:=λacc C r s'=>compPost (model X.prog X.w) X.A X.xe none (EP X zB σ Q) acc C r s') (QQ:=λys H=>∀ D,H D=none->Q (.ref D) (upd H D (.lst ys))) w0 turn ?_;intro σc H' s' its n ys Ic rv hz qq;obtain ⟨m,hn,_⟩:=Ic.loc;refine ⟨m,hn,λh' hs'=>?_⟩;obtain ⟨J',nD⟩:=zHn I2 f2 Ic rv hz hs';exact ⟨.ref s2.heap.objs.size,_,J',rfl,qq _ nD⟩
theorem zLh (hN:X.N.Nodup) (hi':X.N[i]?=some x) (hx:Loc X.env.scope x) (hfn:X.fn x=true\/X.env.scope.names.lookup x=some .local)
  (C:CompIn X scope own) (hcalm:X.calm=true) (hi:PI X tg iter wi) (p:CompParts X scope tg ifs elt g tc te)
  (hsw:swapsWith (.ListComp elt [⟨tg,iter,ifs,0⟩] scope pos) (some (.Name x pos')) pos''.line X.env=pure true) (hs:∀ x,foldedSetIterable iter X.env x=pure x:=by intro _;rfl) :
  PS X (.Assign [.Name x pos'] (.ListComp elt [⟨tg,iter,ifs,0⟩] scope pos) pos'') (zPQ (zPY own wi g tc te) (zDo i)):=by
 intro zB s σ H D I h;obtain ⟨cl,hcl,c1,c2⟩:=C.sc.closure I;rw[exec_Assign_Name_used _ _ _ _ hsw];refine zWl (zXj (zWl ?_))
 refine zWl (zXH (zYf (use:=some (assign (.Name x pos') X.env)) (Q:=λ_ s'=>SP X zB D .next s') rfl hs hcl C.sc.kind C.sc.names
  (thn (hi zB s σ H _ I h) λv s1 h1=>thn h1 λitv s2 h2=>?_)) (λ_ s' hq=>zWn (zWn hq)) λ_ _ e=>e)
 obtain ⟨it,fp,tn,J,H2,e,I2,T,st2,f2,W,⟨m0,w0⟩,turn⟩:=h2;subst e
 refine zGu C hcalm I2 T st2 f2 c1 c2 (p.g _ _ _ _ _) (p.c _ _ _ _ _) (p.e _ _ _ _ _) (RR:=λacc C r s'=>compPost (model X.prog X.w) X.A X.xe (some (assign (.Name x pos') X.env)) (λ_ s'=>SP X zB D .next s') acc C r s')
  (QQ:=λys H=>∀ E,H E=none->zDo i (.ref E) σ (upd H E (.lst ys)) D.nx) w0 turn ?_
 intro σc H' s' its n ys Ic rv hz qq;obtain ⟨m,hn,_⟩:=Ic.loc;obtain ⟨J',nD⟩:=zHn (h':=s'.heap) I2 f2 Ic rv hz (.refl ..);obtain ⟨oC,es,ep,hoC,hdC,r1,r2⟩:=id hn;have nC:upd H' s2.heap.objs.size (.lst ys) (s2.heap.objs.size+1)=none:=by rw[zZ (zYG (zXi _))];exact Ic.free
 have K':Inv X (zB++[(s2.heap.objs.size+1,oC)]) σ (upd H' s2.heap.objs.size (.lst ys)) s':=J'.pins_of λq hq=>by
  rcases zXB.mp hq with z|z
  .exact J'.pin q (zW5 _ z)
  .have e:q=(s2.heap.objs.size+1,oC):=by simpa using z
   subst e;refine ⟨hoC,nC,zYG (zXa I2.lt),I2.nofs (zYT _),λv z=>?_⟩;have z':oC.data=.cell v:=z;rw[hdC]at z';cases z'
 refine thn (zKA hN hi' hx hfn _ s' σ _ (.ref s2.heap.objs.size) (.ref s2.heap.objs.size) _ K' rfl (qq _ nD)) λ_ s'' ⟨σ'',H'',I'',q''⟩=>?_;obtain ⟨eC,_⟩:=I''.pin (s2.heap.objs.size+1,oC) (by simp);refine ⟨m,⟨oC,es,ep,eC,hdC,r1,r2⟩,λh' hs'=>⟨σ'',H'',?_,q''⟩⟩;have I3:Inv X zB σ'' H'' s'':=I''.unpinned;obtain ⟨_,nC'',neC,_,_⟩:=I''.pin (s2.heap.objs.size+1,oC) (by simp);refine I3.turned (t':=s''.toks) (it:=s2.heap.objs.size+1) (λb o hb e=>hs'.extBut b o hb e) nC'' neC (.inr (zXC I2.sz (zYT _))) (λx c e z=>?_) (λq hq z=>?_)
 .obtain ⟨v,o,ho,hd⟩:=I3.cell x c e;rw[z,eC]at ho;cases ho;rw[hdC]at hd;cases hd
 .obtain ⟨e,_⟩:=I2.pin q hq;exact zW6 (zXa (zWw e)) z
end
abbrev zBd (elt t1 i1:Expr) (f1:Yi) (t2 i2:Expr) (f2:Yi) (scope:Y0) (pos:Pos):Expr:=.ListComp elt [⟨t1,i1,f1,0⟩,⟨t2,i2,f2,0⟩] scope pos
theorem zH5 (elt t1 i1:Expr) (f1:Yi) (t2 i2:Expr) (f2:Yi) (scope:Y0) (pos:Pos) (it acc:Yu) (env:Env) :
  compTurn (zBd elt t1 i1 f1 t2 i2 f2 scope pos) 0 it acc env=(do
   standAt i1.pos;match <- pyNext it with
   |none=>pure (.done .next)
   |some v=>
    letOwnedTupleGo t1 it v;assign t1 env v;let mut ok:=true
    for c in f1 do
     if ok then ok <- isTrue c env (eval c env)
    if ok then
     let x <- eval i2 env;standAt i2.pos;let x <- foldedSetIterable i2 env x;let _ <- runOwn (.compStart (zBd elt t1 i1 f1 t2 i2 f2 scope pos) 1 (<- holding [x] (pyIter x)) acc env) env
    again (.compLoop (zBd elt t1 i1 f1 t2 i2 f2 scope pos) 0 it acc env)):=by rfl
theorem zJJ (elt t1 i1:Expr) (f1:Yi) (t2 i2:Expr) (f2:Yi) (scope:Y0) (pos:Pos) (it acc:Yu) (env:Env) :
  compTurn (zBd elt t1 i1 f1 t2 i2 f2 scope pos) 1 it acc env=(do
   standAt i2.pos;match <- pyNext it with
   |none=>pure (.done .next)
   |some v=>
    letOwnedTupleGo t2 it v;assign t2 env v;let mut ok:=true
    for c in f2 do
     if ok then ok <- isTrue c env (eval c env)
    if ok then
     (do let _ <- call (.builtin "list.append") [acc,<-eval elt env])
    again (.compLoop (zBd elt t1 i1 f1 t2 i2 f2 scope pos) 1 it acc env)):=by rfl
section
theorem zJ3 (I:Nat->Shared->Prop)
  (turn:∀ n s,I n s->wpAny (model prog w) A (pyNext it) (λr s₁=>match r with
   |none=>R (.ok .next) s₁
   |some v=>wpAny (model prog w) A (letOwnedTupleGo t2 it v) (λ_ s₁'=>wpAny (model prog w) A (assign t2 env v) (λ_ s₂=>
     wpAny (model prog w) A (forIn f2 true λc r=>if r=true then do let ok <- isTrue c env (eval c env);pure (ForInStep.yield ok) else pure (ForInStep.yield r)) (λok s₃=>
      if ok=true then wpAny (model prog w) A (eval elt env) (λx s₄=>
       wpAny (model prog w) A (call (.builtin "list.append") [acc,x]) (λ_ s₅=>∃ m,m<n/\I m s₅) (λ_ _=>False) s₄) (λ_ _=>False) s₃
      else ∃ m,m<n/\I m s₃) (λ_ _=>False) s₂) (λ_ _=>False) s₁') (λ_ _=>False) s₁) (λ_ _=>False) s)
  (n:Nat) (h:I n s) :
  codeAny (model prog w) A (.compLoop (zBd elt t1 i1 f1 t2 i2 f2 scope pos) 1 it acc env) R s:=by
 refine codeAny_loop rfl I (λn s hI=>?_) n h;show wpAny _ A ((compTurn (zBd elt t1 i1 f1 t2 i2 f2 scope pos) 1 it acc env).onRaise (λx=>do noteFrame x env;theTreesLotGoes x)) _ _ s;refine wpAny_noted ?_;rw[zJJ];refine zWl (zXj (zWl (zXH (turn n s hI) (λr s₁ h₁=>?_) λ_ _ h'=>h'.elim)));cases r with
 |none=>exact zWn h₁
 |some v=>
  refine zWl (zXH h₁ (λ_ s₁' h₁'=>?_) λ_ _ h'=>h'.elim);refine zWl (zXH h₁' (λ_ s₂ h₂=>zWl (zXH h₂ (λok s₃ h₃=>?_) λ_ _ h'=>h'.elim)) λ_ _ h'=>h'.elim);cases ok with
  |false=>exact zWn ⟨rfl,h₃⟩
  |true=>
   exact zWl (zWl (zXH h₃ (λx s₄ h₄=>zWl (zXH h₄ (λ_ s₅ h₅=>zWn (zWn ⟨rfl,h₅⟩)) λ_ _ h'=>h'.elim)) λ_ _ h'=>h'.elim))
theorem zID
  (h0:codeAny (model prog w) A (.compLoop (zBd elt t1 i1 f1 t2 i2 f2 scope pos) 1 it acc env) R s)
  (h:wpAny (model prog w) A (pyIter it) (λit' s'=>codeAny (model prog w) A (.compLoop (zBd elt t1 i1 f1 t2 i2 f2 scope pos) 1 it' acc env) R s')
   (notedBy (model prog w) A env λx s'=>R (.error x) s') s) :
  codeAny (model prog w) A (.compStart (zBd elt t1 i1 f1 t2 i2 f2 scope pos) 1 it acc env) R s:=by
 refine codeAny_of_tree ?_;show wpAny _ _ ((compStart (zBd elt t1 i1 f1 t2 i2 f2 scope pos) 1 it acc env).onRaise (λx=>do noteFrame x env;standAt theWindowsPlace)) _ _ s;refine wpAny_notedAt ?_;unfold compStart;refine zWl (wpAny_askSetting (wpAny_ite ?_));split
 .first
   |exact zWl (zWn (zWn (And.intro rfl h0)))
   |exact zWn (And.intro rfl h0)
 .first
   |exact zWl (zX8 (zWl (zXj (zWl (zXH h (λit' s' h'=>zWn (And.intro rfl h')) λ_ _ x=>x)))))
   | (refine zWl (zX8 ?_);show wpAny _ _ (standAt i2.pos >>= _) _ _ s;exact zWl (zXj (zWl (zXH h (λit' s' h'=>zWn (And.intro rfl h')) λ_ _ x=>x))))
theorem zHt (hs2:∀ x,foldedSetIterable i2 env x=pure x) (I:Nat->Shared->Prop)
  (turn:∀ n s,I n s->wpAny (model prog w) A (pyNext it) (λr s₁=>match r with
   |none=>R (.ok .next) s₁
   |some v=>wpAny (model prog w) A (letOwnedTupleGo t1 it v) (λ_ s₁'=>wpAny (model prog w) A (assign t1 env v) (λ_ s₂=>
     wpAny (model prog w) A (forIn f1 true λc r=>if r=true then do let ok <- isTrue c env (eval c env);pure (ForInStep.yield ok) else pure (ForInStep.yield r)) (λok s₃=>
      if ok=true then wpAny (model prog w) A (eval i2 env) (λx s₄=>wpAny (model prog w) A (pyIter x) (λit2 s₅=>
       codeAny (model prog w) A (.compStart (zBd elt t1 i1 f1 t2 i2 f2 scope pos) 1 it2 acc env) (λr s₆=>r=.ok .next /\ ∃ m,m<n/\I m s₆) s₅) (λ_ _=>False) s₄) (λ_ _=>False) s₃
      else ∃ m,m<n/\I m s₃) (λ_ _=>False) s₂) (λ_ _=>False) s₁') (λ_ _=>False) s₁) (λ_ _=>False) s)
  (n:Nat) (h:I n s) :
  codeAny (model prog w) A (.compLoop (zBd elt t1 i1 f1 t2 i2 f2 scope pos) 0 it acc env) R s:=by
 refine codeAny_loop rfl I (λn s hI=>?_) n h;show wpAny _ A ((compTurn (zBd elt t1 i1 f1 t2 i2 f2 scope pos) 0 it acc env).onRaise (λx=>do noteFrame x env;theTreesLotGoes x)) _ _ s;refine wpAny_noted ?_;rw[zH5];refine zWl (zXj (zWl (zXH (turn n s hI) (λr s₁ h₁=>?_) λ_ _ h'=>h'.elim)));cases r with
 |none=>exact zWn h₁
 |some v=>
  refine zWl (zXH h₁ (λ_ s₁' h₁'=>?_) λ_ _ h'=>h'.elim);refine zWl (zXH h₁' (λ_ s₂ h₂=>zWl (zXH h₂ (λok s₃ h₃=>?_) λ_ _ h'=>h'.elim)) λ_ _ h'=>h'.elim);cases ok with
  |false=>exact zWn ⟨rfl,h₃⟩
  |true=>
   refine zWl (zXH h₃ (λx s₄ h₄=>zWl (zXj (zWl (wpAny_of_eq (hs2 x) (zWl (zXe (zXH h₄ (λit2 s₅ h₅=>?_) λ_ _ h'=>h'.elim))))))) λ_ _ h'=>h'.elim);refine zWl (wpAny_runOwn (codeAny_mono h₅ λr s₆ hr=>?_));obtain ⟨rfl,hr⟩:=hr;exact zWn ⟨rfl,hr⟩
end
def tIn (own2:Yj) (wi2:TI) (g2:TG) (tc2:TT) (te:TE) (σ2:St) (H3:Hp) (ys:List V) (QQ:List V->Hp->Prop):Prop :=
 wi2 σ2 H3 λJ2 H4=>∃ W2:Nat->Nat->List V->Hp->Prop,(∃ m,W2 0 m ys H4) /\ ∀ j m zs H,W2 j m zs H ->
  (J2.stop j H/\QQ zs H) \/
  (J2.go j H /\ ∀ x H',J2.yld j H x H'->g2 x (clr own2 σ2) H' λσ3 H5=>Ext (clr own2 σ2) σ3/\tc2 σ3 H5 λb H6=>
   if b=true then te σ3 H6 λv H7=>zs.length<sizeLine /\ ∃ m',m'<m/\W2 (j+1) m' (zs++[v]) H7 else ∃ m',m'<m/\W2 (j+1) m' zs H6)
section
variable {D:Yt}
 {own2:Yj} {wi2:TI} {g2:TG} {tc2:TT} {te:TE} {R:Yx}
theorem zRK (hxe:C.xe=λ_ _=>False) (hcalm:C.calm=true) (hi:PI C t2 i2 wi2) (hg:PG C t2 g2) (hc:zGB C f2 tc2) (he:PE C elt te) (hD:C.s₀.heap.objs.size<=D)
  (hcD:∀ x c,C.env.cells.lookup x=some c->c≠D) (hpl:∀ p∈C.pn++pl,p.1≠D) (I:Inv C (pl++[(D,zo its k)]) σ H s) (rv:za ys its) (h:tIn own2 wi2 g2 tc2 te σ H ys QQ)
  (fin:∀ s' H' its' k' zs,Inv C (pl++[(D,zo its' k')]) (clr own2 σ) H' s'->za zs its'->QQ zs H'->R (.ok .next) s') :
  wpAny (model C.prog C.w) C.A (eval i2 C.env) (λx s₄=>wpAny (model C.prog C.w) C.A (pyIter x) (λit2 s₅=>
   codeAny (model C.prog C.w) C.A (.compStart (zBd elt t1 i1 f1 t2 i2 f2 scope pos) 1 it2 (.ref D) C.env) R s₅) (λ_ _=>False) s₄) (λ_ _=>False) s:=by
 have hpi:=hi _ s σ H _ I h;rw[hxe]at hpi;refine thn hpi λv s1 h1=>thn h1 λitv s2 h2=>?_;obtain ⟨it,fp,tn,J,H2,e,I2,T,st2,f2',W,⟨m0,w0⟩,turn⟩:=h2;subst e;have hDfp:D∉fp:=λz=>(f2' D z).2.2.2.2.2 (D,zo its k) (by simp) rfl;have loop:∀ s',(∃ H',Inv C (pl++[(D,zo its k)]) (clr own2 σ) H' s'/\tn 0 s'.heap/\(∀ b∈fp,H' b=none)/\W 0 m0 ys H')->codeAny (model C.prog C.w) C.A (.compLoop (zBd elt t1 i1 f1 t2 i2 f2 scope pos) 1 (.ref it) (.ref D) C.env) R s':=by
  rintro s' ⟨H',I',st',hn',w'⟩;have fpk:∀ {H':Hp} {its:Yf} {k:Nat},(∀ b∈fp,H' b=none) -> ∀ b∈fp,zCI C (pl++[(D,zo its k)]) H' b:=λ{H' its k} hn b hb=>by
   obtain ⟨_,a2,a3,a4,a5,a6⟩:=f2' b hb;refine ⟨hn b hb,a2,a3,a4,a5,λp hp=>?_⟩;rcases zXB.mp hp with z|z
   .exact a6 p (zX0 _ z)
   .rcases zXB.mp z with z|z
    .exact a6 p (zW5 _ (zX0 _ z))
    .have:p=(D,zo its k):=by simpa using z
     rw[this];intro q;have q':D=b:=q;exact hDfp (q'▸hb)
  refine zJ3 (λn s'=>∃ i H' ys its k,Inv C (pl++[(D,zo its k)]) (clr own2 σ) H' s'/\za ys its/\tn i s'.heap/\(∀ b∈fp,H' b=none)/\W i n ys H') ?_ m0 ⟨0,H',ys,its,k,I',rv,st',hn',w'⟩;rintro n s5 ⟨i,H5,ys,its,k,I5,r5,st5,f5,w5⟩;rcases turn i n ys H5 w5 with ⟨stop,qq⟩|⟨go,step⟩
  .refine thn (T.done C rfl rfl rfl hcalm i _ s5 _ H5 _ I5 (fpk f5) st5 stop) λr s6 ⟨hr,I6⟩=>?_;subst hr;exact fin s6 H5 its k ys I6 r5 qq
  .refine thn (T.item C rfl rfl rfl hcalm i _ s5 _ H5 _ I5 (fpk f5) st5 go) λr s6 ⟨u,hr,h6⟩=>?_;subst hr;refine thn h6 λ_ s7 ⟨x,H7,I7,r7,y7,st7,f7⟩=>?_;have I7':=I7.pinned (fpk f7) (T.obj _ _ st7);have hgg:=hg _ s7 _ H7 x u _ I7' r7 (step x H7 y7);rw[hxe]at hgg;refine thn hgg λ_ s8 ⟨σ8,H8,I8,x8,q8⟩=>?_;have hcc:=hc _ s8 σ8 H8 _ I8 q8;rw[hxe]at hcc;refine thn hcc λok s9 ⟨H9,I9,q9⟩=>?_;have back:∀ {s':Yl} {Hx:Hp},Inv C ((pl++[(D,zo its k)])++zC9 fp s7.heap) σ8 Hx s'->tn (i+1) s'.heap /\ ∀ b∈fp,Hx b=none:=λ{s' Hx} Ix=>
    ⟨T.keep _ _ _ st7 λb hb o e=>(Ix.pin (b,o) (zW5 _ (zW5 _ (zAY hb e)))).1,λb hb=>by
     obtain ⟨o,e,d⟩:=T.obj _ _ st7 b hb;exact (Ix.pin (b,o) (zW5 _ (zW5 _ (zAY hb e)))).2.1⟩
   cases ok with
   |false=>
    obtain ⟨m',hm,w'⟩:=q9;obtain ⟨b1,b2⟩:=back I9;exact ⟨m',hm,i+1,H9,ys,its,k,(I9.weak (by rw[x8.1]) x8.2).unpinned,r5,b1,b2,w'⟩
   |true=>
    have hee:=he _ s9 σ8 H9 _ I9 q9;rw[hxe]at hee;refine thn hee λv s10 ⟨y,H10,I10,r10,hlt,m',hm,w'⟩=>?_;obtain ⟨b1,b2⟩:=back I10;have J10:=(I10.weak (by rw[x8.1]) x8.2).unpinned;obtain ⟨e10,n10,ne10,nf10,d10⟩:=J10.pin (D,zo its k) (by simp);have hlen:its.toArray.size<=sizeLine:=by
     have:=r5.length;rw[zWt,<-this];exact zZh hlt
    refine wpAny_list_append_plain (hsz:=hlen) (show s10.heap.PlainList D its.toArray from ⟨k,e10⟩) λh' hl' hs'=>?_;obtain ⟨k',e'⟩:=hl';have e'':h'.get? D=some (zo (its++[v]) k'):=by rw[e'];simp[zo]
    refine ⟨m',hm,i+1,H10,ys++[y],its++[v],k',?_,r5.append (.cons r10 .nil),T.keep _ _ _ b1 λb hb o e=>hs'.extBut b o (λz=>hDfp (z▸hb)) e,b2,w'⟩;exact Inv.repin (pl:=pl) J10 hpl hs' hD hcD e'' (by intro v z;cases z)
 have l0:=loop s2 ⟨H2,I2.weak (zBc own2 σ) (λi v h=>(zC0 own2 σ i v h).1),st2,λb hb=>(f2' b hb).1,w0⟩;exact zID l0 (T.self _ 0 _ _ _ st2 l0)
end
section
variable {pos:Pos}
 {own own2:Yj} {g g2:TG} {tc tc2:TT} {te:TE} {wi wi2:TI} {E:Yc}
theorem zKX:∀ (own:Yj) (σ:St) (j:Nat),j∉own->(clr own σ)[j]?=σ[j]?
 |[],_,_,_=>rfl
 |i::r,σ,j,h=>by
  show (clr r (σ.set i none))[j]?=_;rw[zKX r _ j (λz=>h (zWy _ z)),zXF (λz=>h (by rw[z];exact zWz))]
theorem zKN (hsub:∀ i∈own2,i∈own) (C:CompIn X scope own) (hcalm:X.calm=true) (I:Inv X zB σ H s) (T:Turn X.prog X.w X.K t1 J fp it tn) (st:tn 0 s.heap) (hf:∀ b∈fp,zCI X zB H b)
  (c1:∀ x c,cl.lookup x=some c->X.env.cells.lookup x=some c) (c2:∀ y∈scope.names,y.2=.free->(cl.lookup y.1).isSome=true)
  (hg:PG (zN X zB scope cl s H fp) t1 g) (hi:zGB (zN X zB scope cl s H fp) f1 tc)
  (hi2:PI (zN X zB scope cl s H fp) t2 i2 wi2) (hg2:PG (zN X zB scope cl s H fp) t2 g2) (hc2:zGB (zN X zB scope cl s H fp) f2 tc2) (he:PE (zN X zB scope cl s H fp) elt te)
  (hs2:∀ x,foldedSetIterable i2 (zN X zB scope cl s H fp).env x=pure x)
  {RR:Value->Addr->Result->Shared->Prop} {QQ:List V->Hp->Prop} {W:Nat->Nat->List V->Hp->Prop} {m0:Nat} (w0:W 0 m0 [] H)
  (turn:∀ i m ys H,W i m ys H->(J.stop i H/\ys.length<=sizeLine/\QQ ys H) \/
   (J.go i H /\ ∀ x H',J.yld i H x H'->g x (clr own σ) H' λσ2 H2=>Ext (clr own σ) σ2/\tc σ2 H2 λb H3=>
    if b=true then tIn own2 wi2 g2 tc2 te σ2 H3 ys λzs H4=>∃ m',m'<m/\W (i+1) m' zs H4 else ∃ m',m'<m/\W (i+1) m' ys H3))
  (fin:∀ σc H' s' its n ys,Inv (zN X zB scope cl s H fp) [(s.heap.objs.size,zo its n)] σc H' s'->za ys its->ys.length<=sizeLine->QQ ys H'->RR (.ref s.heap.objs.size) (s.heap.objs.size+1) (.ok .next) s') :
  wpAny (model X.prog X.w) X.A (newList []) (λacc s₃=>wpAny (model X.prog X.w) X.A (newFunctionEnv scope X.env.globals cl [] X.env.qual none .none (some X.env)) (λcenv s₄=>
   codeAny (model X.prog X.w) X.A (.compStart (zBd elt t1 i1 f1 t2 i2 f2 scope pos) 0 (.ref it) acc { cenv with scope:=relabel scope X.env }) (RR acc cenv.locals) s₄) E s₃) E s:=by
 have ob:∀ b:Nat,b∈fp->b<s.heap.objs.size:=λb hb=>let ⟨_,e,_⟩:=T.obj 0 _ st b hb;zWw e;refine zXE (zC1 ?_);have sz1:(s.heap.push (zo [] 0)).objs.size=s.heap.objs.size+1:=zXR ..;have I4:=zE9 (X:=X) (zB:=zB) (σ:=σ) (σc:=clr own σ) (H:=H) (s:=s) (scope:=scope) (cl:=cl) (fp:=fp) C.sc I hf ob c1 c2 (zBc own σ) (λi x v h1 h2 h3=>by
  obtain ⟨a,b⟩:=zC0 own σ i v h2;rcases C.nm i x h1 with z|z|z
  .exact absurd z b
  .exact absurd (zCP x z) h3
  .exact ⟨z,a⟩) (zo [] 0) (by intro v z;cases z) rfl rfl
 have st4:tn 0 (pushCells ((s.heap.push (zo [] 0)).push { cls:=.type "dict", data:=.dict #[] }) scope.names):=T.keep 0 _ _ st λb _ o e=>pushCells_keeps _ _ b o (zWm _ (zWm _ e));unfold newEnv;rw[sz1];have hDfp:s.heap.objs.size∉fp:=λz=>zXT _ (ob _ z);have hcD:∀ x c,(zN X zB scope cl s H fp).env.cells.lookup x=some c->c≠s.heap.objs.size:=λx c e z=>by
  obtain ⟨v,o,ho,hd⟩:=I4.cell x c e;obtain ⟨q,_⟩:=I4.pin (s.heap.objs.size,zo [] 0) (by simp);rw[z,q]at ho;cases ho;cases hd
 have fpk:∀ {H':Hp} {pl:Yd},(∀ b∈fp,H' b=none)->(∀ p∈pl,p.1=s.heap.objs.size) -> ∀ b∈fp,zCI (zN X zB scope cl s H fp) pl H' b:=λ{H' pl} hn hp b hb=>
  ⟨hn b hb,(I4.ok.exf b hb).1,I4.ok.exfs b hb,.inl hb,(I4.ok.exf b hb).2,λp hq=>by
   rcases zXB.mp hq with z|z
   .exact (hf b hb).2.2.2.2.2 p z
   .intro e;have e2:=hp p z;rw[e]at e2;exact hDfp (e2▸hb)⟩
 have loop:codeAny (model X.prog X.w) X.A (.compLoop (zBd elt t1 i1 f1 t2 i2 f2 scope pos) 0 (.ref it) (.ref s.heap.objs.size) (zN X zB scope cl s H fp).env) (RR (.ref s.heap.objs.size) (s.heap.objs.size+1))
   { s with heap:=pushCells ((s.heap.push (zo [] 0)).push { cls:=.type "dict", data:=.dict #[] }) scope.names }:=by
  refine zHt hs2 (λn s'=>∃ i H' ys its k,Inv (zN X zB scope cl s H fp) [(s.heap.objs.size,zo its k)] (clr own σ) H' s'/\za ys its/\tn i s'.heap/\(∀ b∈fp,H' b=none)/\W i n ys H') ?_ m0
   ⟨0,H,[],[],0,I4,.nil,st4,λb hb=>(hf b hb).1,w0⟩
  rintro n s5 ⟨i,H5,ys,its,k,I5,r5,st5,f5,w5⟩;have pinD:∀ p∈[(s.heap.objs.size,zo its k)],p.1=s.heap.objs.size:=λp hp=>by
   have:p=(s.heap.objs.size,zo its k):=by simpa using hp
   rw[this]
  rcases turn i n ys H5 w5 with ⟨stop,hz,qq⟩|⟨go,step⟩
  .refine thn (T.done (zN X zB scope cl s H fp) rfl rfl rfl hcalm i _ s5 _ H5 _ I5 (fpk f5 pinD) st5 stop) λr s6 ⟨hr,I6⟩=>?_;subst hr;exact fin _ H5 s6 its k ys I6 r5 hz qq
  .refine thn (T.item (zN X zB scope cl s H fp) rfl rfl rfl hcalm i _ s5 _ H5 _ I5 (fpk f5 pinD) st5 go) λr s6 ⟨u,hr,h6⟩=>?_;subst hr;refine thn h6 λ_ s7 ⟨x,H7,I7,r7,y7,st7,f7⟩=>?_;have I7':=I7.pinned (fpk f7 pinD) (T.obj _ _ st7);refine thn (hg _ s7 _ H7 x u _ I7' r7 (step x H7 y7)) λ_ s8 ⟨σ8,H8,I8,x8,q8⟩=>?_;refine thn (hi _ s8 σ8 H8 _ I8 q8) λok s9 ⟨H9,I9,q9⟩=>?_;have back:∀ {σx:St} {s':Yl} {Hx:Hp} {its:Yf} {k:Nat},(clr own σ).length=σx.length->(∀ (i:Nat) v,(clr own σ)[i]?=some (some v)->σx[i]?=some (some v))->Inv (zN X zB scope cl s H fp) (zC9 fp s7.heap++[(s.heap.objs.size,zo its k)]) σx Hx s'->Inv (zN X zB scope cl s H fp) [(s.heap.objs.size,zo its k)] (clr own σ) Hx s'/\tn (i+1) s'.heap /\ ∀ b∈fp,Hx b=none:=λ{σx s' Hx its k} hl hk Ix=>
    ⟨(Ix.weak hl hk).pins_of λp hp=>Ix.pin p (zW5 _ (zW5 _ hp)),
     T.keep _ _ _ st7 λb hb o e=>(Ix.pin (b,o) (zW5 _ (zX0 _ (zAY hb e)))).1,λb hb=>by
     obtain ⟨o,e,d⟩:=T.obj _ _ st7 b hb;exact (Ix.pin (b,o) (zW5 _ (zX0 _ (zAY hb e)))).2.1⟩
   have I9':Inv (zN X zB scope cl s H fp) (zC9 fp s7.heap++[(s.heap.objs.size,zo its k)]) σ8 H9 s9:=I9.pins_of λp hp=>I9.pin p (zW5 _ (by
    rcases zXB.mp hp with z|z
    .exact zW5 _ z
    .exact zX0 _ z))
   cases ok with
   |false=>
    obtain ⟨m',hm,w'⟩:=q9;obtain ⟨b0,b1,b2⟩:=back (by rw[x8.1]) x8.2 I9';exact ⟨m',hm,i+1,H9,ys,its,k,b0,r5,b1,b2,w'⟩
   |true=>
    refine zRK (C:=zN X zB scope cl s H fp) rfl hcalm hi2 hg2 hc2 he (zWr _) hcD (λp hp=>?_) I9' r5 q9 λs' H' its' k' zs I' rv' q'=>?_
    .rcases zXB.mp hp with z|z
     .exact zW6 (zWw (I.pin p z).1)
     .obtain ⟨hb,_⟩:=zIh z;exact zW6 (ob _ hb)
    .obtain ⟨m',hm,w'⟩:=q';obtain ⟨b0,b1,b2⟩:=back (by rw[zBc own2,x8.1]) (λi v hv=>by rw[zKX own2 _ i (λz=>(zC0 own σ i v hv).2 (hsub i z))];exact x8.2 i v hv) I';exact ⟨rfl,m',hm,i+1,H',zs,its',k',b0,rv',b1,b2,w'⟩
 exact codeAny_compStart_list loop (T.self _ 0 _ _ _ st4 loop)
def zQ6 (own own2:Yj) (wi:TI) (g:TG) (tc:TT) (wi2:TI) (g2:TG) (tc2:TT) (te:TE):TE:=λσ H Q=>wi σ H λJ H1=>∃ W:Nat->Nat->List V->Hp->Prop,(∃ m,W 0 m [] H1) /\ ∀ i m ys H,W i m ys H ->
 (J.stop i H/\ys.length<=sizeLine /\ ∀ D,H D=none->Q (.ref D) (upd H D (.lst ys))) \/
 (J.go i H /\ ∀ x H',J.yld i H x H'->g x (clr own σ) H' λσ2 H2=>Ext (clr own σ) σ2/\tc σ2 H2 λb H3=>
  if b=true then tIn own2 wi2 g2 tc2 te σ2 H3 ys λzs H4=>∃ m',m'<m/\W (i+1) m' zs H4 else ∃ m',m'<m/\W (i+1) m' ys H3)
structure CompParts2 (X:Cx) (scope:Y0) (t1:Expr) (f1:Yi) (t2 i2:Expr) (f2:Yi) (elt:Expr) (g:TG) (tc:TT) (wi2:TI) (g2:TG) (tc2:TT) (te:TE):Prop where
 g:∀ zB cl s H fp,PG (zN X zB scope cl s H fp) t1 g
 c:∀ zB cl s H fp,zGB (zN X zB scope cl s H fp) f1 tc
 w2:∀ zB cl s H fp,PI (zN X zB scope cl s H fp) t2 i2 wi2
 g2:∀ zB cl s H fp,PG (zN X zB scope cl s H fp) t2 g2
 c2:∀ zB cl s H fp,zGB (zN X zB scope cl s H fp) f2 tc2
 e:∀ zB cl s H fp,PE (zN X zB scope cl s H fp) elt te
 s2:∀ zB cl s H fp x,foldedSetIterable i2 (zN X zB scope cl s H fp).env x=pure x
theorem zPX (hsub:∀ i∈own2,i∈own) (C:CompIn X scope own) (hcalm:X.calm=true) (hi:PI X t1 i1 wi) (p:CompParts2 X scope t1 f1 t2 i2 f2 elt g tc wi2 g2 tc2 te) (hs:∀ x,foldedSetIterable i1 X.env x=pure x:=by intro _;rfl) :
  PE X (zBd elt t1 i1 f1 t2 i2 f2 scope pos) (zQ6 own own2 wi g tc wi2 g2 tc2 te):=by
 intro zB s σ H Q I h;obtain ⟨cl,hcl,c1,c2⟩:=C.sc.closure I;rw[eval_ListComp];refine zYf (use:=none) rfl hs hcl C.sc.kind C.sc.names (thn (hi zB s σ H _ I h) λv s1 h1=>thn h1 λitv s2 h2=>?_);obtain ⟨it,fp,tn,J,H2,e,I2,T,st2,f2,W,⟨m0,w0⟩,turn⟩:=h2;subst e;refine zKN hsub C hcalm I2 T st2 f2 c1 c2 (p.g _ _ _ _ _) (p.c _ _ _ _ _) (p.w2 _ _ _ _ _) (p.g2 _ _ _ _ _) (p.c2 _ _ _ _ _) (p.e _ _ _ _ _) (p.s2 _ _ _ _ _) (RR:=λacc C r s'=>compPost (model X.prog X.w) X.A X.xe none (EP X zB σ Q) acc C r s') (QQ:=λys H=>∀ D,H D=none->Q (.ref D) (upd H D (.lst ys))) w0 turn ?_;intro σc H' s' its n ys Ic rv hz qq;obtain ⟨m,hn,_⟩:=Ic.loc;refine ⟨m,hn,λh' hs'=>?_⟩;obtain ⟨J',nD⟩:=zHn I2 f2 Ic rv hz hs';exact ⟨.ref s2.heap.objs.size,_,J',rfl,qq _ nD⟩
end
end L2
namespace L3
open PySem PySem.Spec PyProof.Rows L2
abbrev Sv:=List (Option V)
set_option genInjectivity true in
inductive D where
 |non|bl (b:Bool)|int (i:Int)|str (x:Str)|tup (xs:List D)|ref (n:Nat)
set_option genInjectivity true in
inductive MO where
 |lst (xs:List D)|fro (xs:List D)|dict (kvs:List (D × D))|dicT (kvs:List (D × D))|set (xs:List D)|froT (kvs:List (D × D))|froK (kvs:List (D × D))
mutual
def Rep (L:Yg) (H:Hp):D->V->Prop
 |.non,v=>v=.non
 |.bl b,v=>v=.bl b
 |.int i,v=>v=.int i
 |.str x,v=>v=.str x
 |.tup ds,v=>∃ a vs,v=.ref a/\H a=some (.tup vs)/\zP L H ds vs
 |.ref n,v=>∃ a,v=.ref a/\L[n]?=some a
def zP (L:Yg) (H:Hp):List D->List V->Prop
 |[],vs=>vs=[]
 |d::ds,vs=>∃ v r,vs=v::r/\Rep L H d v/\zP L H ds r
end
theorem zP.length:∀ {ds:List D} {vs:List V},zP L H ds vs->vs.length=ds.length
 |[],_,h=>by unfold zP at h;subst h;rfl
 |d::ds,_,h=>by
  unfold zP at h;obtain ⟨v,r,rfl,_,h2⟩:=h;simp[zP.length h2]
theorem zP.nil:zP L H [] []:=by unfold zP;rfl
theorem zP.cons (h:Rep L H d v) (t:zP L H ds vs):zP L H (d::ds) (v::vs):=by
 unfold zP;exact ⟨v,vs,rfl,h,t⟩
theorem zP.get:∀ {ds:List D} {vs:List V} {i:Nat} {d:D},zP L H ds vs->ds[i]?=some d -> ∃ v,vs[i]?=some v/\Rep L H d v
 |[],_,_,_,_,e=>by simp at e
 |d::ds,_,0,d',h,e=>by
  unfold zP at h;obtain ⟨v,r,rfl,h1,h2⟩:=h;simp at e;subst e;exact ⟨v,rfl,h1⟩
 |d::ds,_,i+1,d',h,e=>by
  unfold zP at h;obtain ⟨v,r,rfl,h1,h2⟩:=h;obtain ⟨u,e1,e2⟩:=zP.get (i:=i) h2 (by simpa using e);exact ⟨u,by simpa using e1,e2⟩
theorem zP.app:∀ {ds es:List D} {vs ws:List V},zP L H ds vs->zP L H es ws->zP L H (ds++es) (vs++ws)
 |[],_,_,_,h,t=>by unfold zP at h;subst h;exact t
 |d::ds,_,_,_,h,t=>by
  unfold zP at h;obtain ⟨v,r,rfl,h1,h2⟩:=h;exact .cons h1 (zP.app h2 t)
theorem zP.set (h:Rep L H d v):∀ {ds:List D} {vs:List V} (i:Nat),zP L H ds vs->zP L H (ds.set i d) (vs.set i v)
 |[],_,_,t=>by unfold zP at t;subst t;exact .nil
 |_::_,_,0,t=>by
  unfold zP at t;obtain ⟨v',r,rfl,h1,h2⟩:=t;exact .cons h h2
 |_::_,_,i+1,t=>by
  unfold zP at t;obtain ⟨v',r,rfl,h1,h2⟩:=t;exact .cons h1 (zP.set h i h2)
theorem zP.drop:∀ {ds:List D} {vs:List V} (n:Nat),zP L H ds vs->zP L H (ds.drop n) (vs.drop n)
 |_,_,0,t=>t
 |[],_,n+1,t=>by unfold zP at t;subst t;exact .nil
 |_::_,_,n+1,t=>by
  unfold zP at t;obtain ⟨v',r,rfl,h1,h2⟩:=t;exact zP.drop n h2
theorem zP.take:∀ {ds:List D} {vs:List V} (n:Nat),zP L H ds vs->zP L H (ds.take n) (vs.take n)
 |_,_,0,t=> .nil
 |[],_,n+1,t=>by unfold zP at t;subst t;exact .nil
 |_::_,_,n+1,t=>by
  unfold zP at t;obtain ⟨v',r,rfl,h1,h2⟩:=t;exact .cons h1 (zP.take n h2)
theorem zP.eraseIdx:∀ {ds:List D} {vs:List V} (n:Nat),zP L H ds vs->zP L H (ds.eraseIdx n) (vs.eraseIdx n)
 |[],_,n,t=>by unfold zP at t;subst t;exact .nil
 |_::_,_,0,t=>by
  unfold zP at t;obtain ⟨v',r,rfl,h1,h2⟩:=t;exact h2
 |_::_,_,n+1,t=>by
  unfold zP at t;obtain ⟨v',r,rfl,h1,h2⟩:=t;exact .cons h1 (zP.eraseIdx n h2)
structure Stp (L:Yg) (H:Hp) (L':Yg) (H':Hp):Prop where
 pre:∃ N,L'=L++N
 new:∀ a∈L',a∈L\/H a=none
 old:∀ a o,H a=some o->a∉L->H' a=some o
 tup:∀ a xs,H a=some (.tup xs)->H' a=some (.tup xs)
 frz:∀ a o u,H a=some (.frz o u)->H' a=some (.frz o u)
theorem Stp.refl (L:Yg) (H:Hp):Stp L H L H:=⟨⟨[],by simp⟩,λ_ h=> .inl h,λ_ _ h _=>h,λ_ _ h=>h,λ_ _ _ h=>h⟩
theorem Stp.trans (a:Stp L H L1 H1) (b:Stp L1 H1 L2 H2):Stp L H L2 H2:=by
 obtain ⟨N,rfl⟩:=a.pre;obtain ⟨N',rfl⟩:=b.pre;have back:∀ c,c∉L->H1 c=none->H c=none:=λc hc h1=>by
  cases q:H c with
  |none=>rfl
  |some o=>rw[a.old c o q hc]at h1;cases h1
 refine ⟨⟨N++N',by simp⟩,λc hc=>?_,λc o e hc=>?_,λc xs e=>b.tup c xs (a.tup c xs e),λc o u e=>b.frz c o u (a.frz c o u e)⟩
 .by_cases hL:c∈L
  .exact .inl hL
  .rcases b.new c hc with z|z
   .exact a.new c z
   .exact .inr (back c hL z)
 .refine b.old c o (a.old c o e hc) λz=>?_;rcases a.new c z with q|q
  .exact hc q
  .rw[q]at e;cases e
theorem Stp.grow (h:∀ a o,H a=some o->H' a=some o):Stp L H L H':=⟨⟨[],by simp⟩,λ_ h=> .inl h,λa o e _=>h a o e,λa _ e=>h a _ e,λa _ _ e=>h a _ e⟩
theorem Stp.upd (h:H p=none):Stp L H L (upd H p o):=.grow λa u e=>by rw[zZ (zAC e h)];exact e
theorem zB1 {L N:Yg} {n:Nat} {a:Yt} (h:L[n]?=some a):(L++N)[n]?=some a:=by
 rw[zWs (zWo.mp h).1];exact h
mutual
theorem Rep.stp {L L':Yg} {H H':Hp} (s:Stp L H L' H'):∀ {d:D} {v:V},Rep L H d v->Rep L' H' d v
 |.non,_,h=>by unfold Rep at h ⊢;exact h
 |.bl _,_,h=>by unfold Rep at h ⊢;exact h
 |.int _,_,h=>by unfold Rep at h ⊢;exact h
 |.str _,_,h=>by unfold Rep at h ⊢;exact h
 |.tup ds,_,h=>by
  unfold Rep at h ⊢;obtain ⟨a,vs,rfl,e,r⟩:=h;exact ⟨a,vs,rfl,s.tup a vs e,zP.stp s r⟩
 |.ref n,_,h=>by
  unfold Rep at h ⊢;obtain ⟨a,rfl,e⟩:=h;obtain ⟨N,rfl⟩:=s.pre;exact ⟨a,rfl,zB1 e⟩
theorem zP.stp (s:Stp L H L' H'):∀ {ds:List D} {vs:List V},zP L H ds vs->zP L' H' ds vs
 |[],_,h=>by unfold zP at h ⊢;exact h
 |d::ds,_,h=>by
  unfold zP at h ⊢;obtain ⟨v,r,rfl,h1,h2⟩:=h;exact ⟨v,r,rfl,Rep.stp s h1,zP.stp s h2⟩
end
def zCQ:D->Option Key
 |.int i=>some (.inl i)
 |.str x=>some (.inr x)
 |_=>none
def zHF:List D->Option (List Key)
 |[]=>some []
 |d::r=>match zCQ d,zHF r with
  |some k,some ks=>some (k::ks)
  |_,_=>none
def tkD:D->Option (List Key)
 |.tup ds=>zHF ds
 |_=>none
def zA9 {κ:Type} (kf:D->Option κ) (L:Yg) (H:Hp):List (D × D)->List (κ × V)->Prop
 |[],vs=>vs=[]
 |p::r,vs=>∃ k v r',vs=(k,v)::r'/\kf p.1=some k/\Rep L H p.2 v/\zA9 kf L H r r'
theorem zA9.stp {κ:Type} {kf:D->Option κ} {L L':Yg} {H H':Hp} (s:Stp L H L' H'):∀ {ps:List (D × D)} {vs:List (κ × V)},zA9 kf L H ps vs->zA9 kf L' H' ps vs
 |[],_,h=>h
 |p::r,_,h=>by
  obtain ⟨k,v,r',rfl,e,h1,h2⟩:=h;exact ⟨k,v,r',rfl,e,h1.stp s,zA9.stp s h2⟩
theorem zA9.length {κ:Type} {kf:D->Option κ} {L:Yg} {H:Hp}:∀ {ps:List (D × D)} {vs:List (κ × V)},zA9 kf L H ps vs->vs.length=ps.length
 |[],_,h=>by unfold zA9 at h;subst h;rfl
 |p::r,_,h=>by
  obtain ⟨k,v,r',rfl,e,h1,h2⟩:=h;simp[zA9.length h2]
def zGr (K:Yb) (L:Yg) (H:Hp) (a:Yt):MO->Prop
 |.lst xs=>∃ vs,H a=some (.lst vs)/\zP L H xs vs
 |.fro xs=>∃ o vs,H a=some (.frz o (.lst vs))/\zP L H xs vs
 |.dict ps=>∃ vs,H a=some (.dK vs)/\zA9 zCQ L H ps vs
 |.dicT ps=>∃ vs,H a=some (.dT vs)/\zA9 tkD L H ps vs
 |.set _=>∃ o u,H a=some (.frz o u)
 |.froT ps=>∃ o vs,H a=some (.frz o (.dT vs))/\zA9 tkD L H ps vs
 |.froK ps=>∃ o vs,H a=some (.frz o (.dK vs))/\zA9 zCQ L H ps vs
theorem zGr.there {K:Yb} {L:Yg} {H:Hp} {a:Yt} {m:MO} (h:zGr K L H a m):∃ o,H a=some o:=by
 cases m with
 |lst xs=>obtain ⟨vs,e,_⟩:=h;exact ⟨_,e⟩
 |fro xs=>obtain ⟨o,vs,e,_⟩:=h;exact ⟨_,e⟩
 |dict ps=>obtain ⟨vs,e,_⟩:=h;exact ⟨_,e⟩
 |dicT ps=>obtain ⟨vs,e,_⟩:=h;exact ⟨_,e⟩
 |set _=>obtain ⟨o,u,e⟩:=h;exact ⟨_,e⟩
 |froT ps=>obtain ⟨o,vs,e,_⟩:=h;exact ⟨_,e⟩
 |froK ps=>obtain ⟨o,vs,e,_⟩:=h;exact ⟨_,e⟩
theorem zGr.stp {K:Yb} {L L':Yg} {H H':Hp} {a:Yt} {m:MO} (s:Stp L H L' H') (hk:∀ o,H a=some o->H' a=some o) (h:zGr K L H a m):zGr K L' H' a m:=by
 cases m with
 |lst xs=>obtain ⟨vs,e,r⟩:=h;exact ⟨vs,hk _ e,r.stp s⟩
 |fro xs=>obtain ⟨o,vs,e,r⟩:=h;exact ⟨o,vs,hk _ e,r.stp s⟩
 |dict ps=>obtain ⟨vs,e,r⟩:=h;exact ⟨vs,hk _ e,r.stp s⟩
 |dicT ps=>obtain ⟨vs,e,r⟩:=h;exact ⟨vs,hk _ e,r.stp s⟩
 |set _=>obtain ⟨o,u,e⟩:=h;exact ⟨o,u,hk _ e⟩
 |froT ps=>obtain ⟨o,vs,e,r⟩:=h;exact ⟨o,vs,hk _ e,r.stp s⟩
 |froK ps=>obtain ⟨o,vs,e,r⟩:=h;exact ⟨o,vs,hk _ e,r.stp s⟩
structure Cor (K:Yb) (L:Yg) (M:List MO) (H:Hp):Prop where
 len:L.length=M.length
 nd:L.Nodup
 obj:∀ (n:Nat) a m,L[n]?=some a->M[n]?=some m->zGr K L H a m
def zBi (L:Yg) (H:Hp) (σ:List (Option D)) (τ:Sv):Prop:=τ.length=σ.length /\ ∀ (i:Nat) d,σ[i]?=some (some d) -> ∃ v,τ[i]?=some (some v)/\Rep L H d v
theorem zBi.stp (s:Stp L H L' H') (h:zBi L H σ τ):zBi L' H' σ τ :=
 ⟨h.1,λi d e=>let ⟨v,e1,r⟩:=h.2 i d e;⟨v,e1,r.stp s⟩⟩
theorem Cor.tracked {K:Yb} {L:Yg} {M:List MO} {H:Hp} (c:Cor K L M H) {a:Yt} (h:a∈L):∃ o,H a=some o:=by
 obtain ⟨n,hn⟩:=List.getElem?_of_mem h;have hl:n<M.length:=by rw[<-c.len];exact (zWo.mp hn).1
 have m:=c.obj n a M[n] hn (zWp hl);exact m.there
theorem Cor.grow {K:Yb} {L:Yg} {M:List MO} {H H':Hp} (c:Cor K L M H) (h:∀ a o,H a=some o->H' a=some o):Cor K L M H':=by
 exact ⟨c.len,c.nd,λn a m e1 e2=>(c.obj n a m e1 e2).stp (.grow h) λo e=>h a o e⟩
theorem Cor.upd {K:Yb} {L:Yg} {M:List MO} {H:Hp} {p:Yt} {o:HO} (c:Cor K L M H) (h:H p=none):Cor K L M (upd H p o):=c.grow λa u e=>by rw[zZ (zAC e h)];exact e
theorem Cor.write {K:Yb} {L:Yg} {M:List MO} {H:Hp} {n:Nat} {p:Yt} {xs xs':List D} {vs':List V} (c:Cor K L M H) (h1:L[n]?=some p) (h2:M[n]?=some (.lst xs)) (r:zP L H xs' vs') :
  Cor K L (M.set n (.lst xs')) (L2.upd H p (.lst vs'))/\Stp L H L (L2.upd H p (.lst vs')):=by
 obtain ⟨vs,hp,_⟩:=c.obj n p _ h1 h2;have st:Stp L H L (L2.upd H p (.lst vs')):=by
  refine ⟨⟨[],by simp⟩,λa ha=> .inl ha,λa o e ha=>?_,λa o e=>?_,λa o u e=>?_⟩
  .rw[zZ (show a≠p from λz=>ha (by rw[z];exact zXc h1))];exact e
  .rw[zZ (zIT e hp (by intro z;cases z))];exact e
  .rw[zZ (zIT e hp (by intro z;cases z))];exact e
 refine ⟨⟨by simp[c.len],c.nd,λk a m e1 e2=>?_⟩,st⟩;rw[zYK]at e2;split at e2
 .rename_i hk;subst hk;rw[h1]at e1;cases e1;split at e2
  .cases e2;exact ⟨vs',zAD,r.stp st⟩
  .cases e2
 .rename_i hk;have hne:a≠p:=λz=>hk (by
   subst z;exact (List.getElem?_inj (zWo.mp h1).1 c.nd).mp (h1.trans e1.symm))
  exact (c.obj k a m e1 e2).stp st λo e=>by rw[zZ hne];exact e
set_option genInjectivity true in
inductive EV where
 |dat (d:D)|fl (xs:List D)
def zr (H0:Hp) (L:Yg) (H:Hp):EV->V->Prop
 |.dat d,v=>Rep L H d v
 |.fl xs,v=>∃ p vs,v=.ref p/\H0 p=none/\H p=some (.lst vs)/\p∉L/\zP L H xs vs
abbrev Sd:=List (Option D)
abbrev Mem:=List MO
abbrev FE:=Sd->Mem->Option (EV × Mem)
abbrev FD:=Sd->Mem->Option (D × Mem)
abbrev FT:=Sd->Mem->Option (Bool × Mem)
abbrev FA:=Sd->Mem->Option (List D × Mem)
theorem Stp.out (s:Stp L H L' H') (h:H p=some o) (hp:p∉L):p∉L':=λz=>by
 rcases s.new p z with q|q
 .exact hp q
 .rw[h]at q;cases q
theorem zr.stp (s:Stp L H L' H') (h:zr H0 L H e v):zr H0 L' H' e v:=by
 cases e with
 |dat d=>exact Rep.stp s h
 |fl xs=>
  obtain ⟨p,vs,rfl,e0,e1,e2,r⟩:=h;exact ⟨p,vs,rfl,e0,s.old p _ e1 e2,s.out e1 e2,r.stp s⟩
theorem zr.back {H0 H1:Hp} {L0 L1 L:Yg} {H:Hp} (s:Stp L0 H0 L1 H1) {M:List MO} {K:Yb} (c:Cor K L0 M H0) {e:EV} {v:V} (h:zr H1 L H e v) (hL:∀ a∈L1,a∈L):zr H0 L H e v:=by
 cases e with
 |dat d=>exact h
 |fl xs=>
  obtain ⟨p,vs,rfl,e0,e1,e2,r⟩:=h;refine ⟨p,vs,rfl,?_,e1,e2,r⟩;cases q:H0 p with
  |none=>rfl
  |some o=>
   by_cases hp:p∈L0
   .obtain ⟨N,hN⟩:=s.pre;exact absurd (hL p (by rw[hN];exact zX0 _ hp)) e2
   .rw[s.old p o q hp]at e0;cases e0
section
variable (K:Yb)
def trE (f:FE):TE:=λτ H Q=>∃ L σ M d M',Cor K L M H/\zBi L H σ τ/\f σ M=some (d,M') /\ ∀ L' H' v,Stp L H L' H'->Cor K L' M' H'->zr H L' H' d v->Q v H'
def trD (f:FD):TE:=λτ H Q=>∃ L σ M d M',Cor K L M H/\zBi L H σ τ/\f σ M=some (d,M') /\ ∀ L' H' v,Stp L H L' H'->Cor K L' M' H'->Rep L' H' d v->Q v H'
def trT (f:FT):TT:=λτ H Q=>∃ L σ M d M',Cor K L M H/\zBi L H σ τ/\f σ M=some (d,M') /\ ∀ L' H',Stp L H L' H'->Cor K L' M' H'->Q d H'
def trA (f:FA):TA:=λτ H Q=>∃ L σ M ds M',Cor K L M H/\zBi L H σ τ/\f σ M=some (ds,M') /\ ∀ L' H' vs,Stp L H L' H'->Cor K L' M' H'->zP L' H' ds vs->Q vs H'
end
section
theorem PE.imp (h:PE X e t) (hi:∀ τ H Q,t' τ H Q->t τ H Q):PE X e t':=λzB s σ H Q I q=>h zB s σ H Q I (hi _ _ _ q)
theorem PT.imp (h:PT X e t) (hi:∀ τ H Q,t' τ H Q->t τ H Q):PT X e t':=λzB s σ H Q I q=>h zB s σ H Q I (hi _ _ _ q)
theorem PS.imp {st:Stmt} {t t':TS} (h:PS X st t) (hi:∀ D τ H,t' D τ H->t D τ H):PS X st t':=λzB s σ H D I q=>h zB s σ H D I (hi _ _ _ q)
theorem PSs.imp {st:Yy} {t t':TS} (h:PSs X st t) (hi:∀ D τ H,t' D τ H->t D τ H):PSs X st t':=λzB s σ H D I q=>h zB s σ H D I (hi _ _ _ q)
structure QE (X:Cx) (e:Expr) (f:FE):Prop where
 un:PE X e (trE X.K f)
structure QD (X:Cx) (e:Expr) (f:FD):Prop where
 un:PE X e (trD X.K f)
structure QT (X:Cx) (e:Expr) (f:FT):Prop where
 un:PT X e (trT X.K f)
structure QA (X:Cx) (es:Yi) (f:FA):Prop where
 un:PA X es (trA X.K f)
def toD (f:FE):FD:=λσ M=>match f σ M with
 |some (.dat d,M')=>some (d,M')
 |some (.fl xs,M')=>some (.ref M'.length,M'++[.lst xs])
 |none=>none
mutual
theorem Rep.more (N:Yg):∀ {d:D} {v:V},Rep L H d v->Rep (L++N) H d v
 |.non,_,h=>by unfold Rep at h ⊢;exact h
 |.bl _,_,h=>by unfold Rep at h ⊢;exact h
 |.int _,_,h=>by unfold Rep at h ⊢;exact h
 |.str _,_,h=>by unfold Rep at h ⊢;exact h
 |.tup ds,_,h=>by
  unfold Rep at h ⊢;obtain ⟨a,vs,rfl,e,r⟩:=h;exact ⟨a,vs,rfl,e,zP.more N r⟩
 |.ref n,_,h=>by
  unfold Rep at h ⊢;obtain ⟨a,rfl,e⟩:=h;exact ⟨a,rfl,zB1 e⟩
theorem zP.more (N:Yg):∀ {ds:List D} {vs:List V},zP L H ds vs->zP (L++N) H ds vs
 |[],_,h=>by unfold zP at h ⊢;exact h
 |d::ds,_,h=>by
  unfold zP at h ⊢;obtain ⟨v,r,rfl,h1,h2⟩:=h;exact ⟨v,r,rfl,Rep.more N h1,zP.more N h2⟩
end
theorem zA9.more {κ:Type} {kf:D->Option κ} {L:Yg} {H:Hp} (N:Yg):∀ {ps:List (D × D)} {vs:List (κ × V)},zA9 kf L H ps vs->zA9 kf (L++N) H ps vs
 |[],_,h=>h
 |p::r,_,h=>by
  obtain ⟨k,v,r',rfl,e,h1,h2⟩:=h;exact ⟨k,v,r',rfl,e,h1.more N,zA9.more N h2⟩
theorem zGr.more {K:Yb} {L:Yg} {H:Hp} {a:Yt} {m:MO} (N:Yg) (h:zGr K L H a m):zGr K (L++N) H a m:=by
 cases m with
 |lst xs=>obtain ⟨vs,e,r⟩:=h;exact ⟨vs,e,r.more N⟩
 |fro xs=>obtain ⟨o,vs,e,r⟩:=h;exact ⟨o,vs,e,r.more N⟩
 |dict ps=>obtain ⟨vs,e,r⟩:=h;exact ⟨vs,e,r.more N⟩
 |dicT ps=>obtain ⟨vs,e,r⟩:=h;exact ⟨vs,e,r.more N⟩
 |set _=>exact h
 |froT ps=>obtain ⟨o,vs,e,r⟩:=h;exact ⟨o,vs,e,r.more N⟩
 |froK ps=>obtain ⟨o,vs,e,r⟩:=h;exact ⟨o,vs,e,r.more N⟩
theorem zS3 {K:Yb} {L L':Yg} {M':List MO} {H H':Hp} {p:Yt} {xs:List D} {vs:List V} (s:Stp L H L' H') (c:Cor K L' M' H') (h0:H p=none) (h1:H' p=some (.lst vs)) (h2:p∉L') (r:zP L' H' xs vs) :
  Cor K (L'++[p]) (M'++[.lst xs]) H'/\Stp L H (L'++[p]) H':=by
 refine ⟨⟨by simp[c.len],?_,λn a m e1 e2=>?_⟩,?_⟩
 .rw[zXz];exact ⟨c.nd,by simp,λa ha b hb z=>by
   have:b=p:=by simpa using hb
   subst this;subst z;exact h2 ha⟩
 .by_cases hn:n<L'.length
  .rw[zWs hn]at e1;rw[zWs (by rw[<-c.len];exact hn)]at e2;exact (c.obj n a m e1 e2).more [p]
  .have hn':n=L'.length:=by
    have:=(zWo.mp e1).1;rw[zW1]at this;simp at this;omega
   subst hn';simp at e1;rw[c.len]at e2;simp at e2;subst e1;subst e2;exact ⟨vs,h1,r.more [p]⟩
 .obtain ⟨N,hN⟩:=s.pre;refine ⟨⟨N++[p],by rw[hN];simp⟩,λa ha=>?_,s.old,s.tup,s.frz⟩;rcases zXB.mp ha with z|z
  .exact s.new a z
  .have:a=p:=by simpa using z
   subst this;exact .inr h0
theorem Rep.last {L:Yg} {M:List MO} {H:Hp} {K:Yb} {p:Yt} (c:Cor K L M H):Rep (L++[p]) H (.ref M.length) (.ref p):=by
 unfold Rep;exact ⟨p,rfl,by rw[<-c.len];simp⟩
theorem zBg {f:FE} (h:QE X e f):QD X e (toD f):=.mk <| PE.imp h.un λτ H Q zz=>by
 obtain ⟨L,σ,M,d,M',c,rs,hf,q⟩:=zz;unfold toD at hf;split at hf
 .rename_i d' M1 e1;cases hf;exact ⟨L,σ,M,_,_,c,rs,e1,λL' H' v s c' r=>q L' H' v s c' r⟩
 .rename_i xs M1 e1;cases hf;refine ⟨L,σ,M,_,_,c,rs,e1,λL' H' v s c' r=>?_⟩;obtain ⟨p,vs,rfl,e0,e2,e3,r⟩:=r;obtain ⟨c2,s2⟩:=zS3 s c' e0 e2 e3 r;exact q _ H' _ s2 c2 (Rep.last c')
 .cases hf
def zC (i:Nat):FE:=λσ M=>match σ[i]? with
 |some (some d)=>some (.dat d,M)
 |_=>none
theorem zVb (h:PE X (.Name x pos) (zTD i)):QE X (.Name x pos) (zC i):=.mk <| PE.imp h λτ H Q zz=>by
 obtain ⟨L,σ,M,d,M',c,rs,hf,q⟩:=zz;unfold zC at hf;split at hf
 .rename_i d' e1;cases hf;obtain ⟨v,e2,r⟩:=rs.2 i d' e1;exact ⟨v,e2,q L H v (.refl L H) c r⟩
 .cases hf
def fC (d:D):FE:=λ_ M=>some (.dat d,M)
theorem zJb (hd:∀ L H,Rep L H d v) (h:PE X e (tC v)):QE X e (fC d):=.mk <| PE.imp h λτ H Q zz=>by
 obtain ⟨L,σ,M,d',M',c,rs,hf,q⟩:=zz;unfold fC at hf;cases hf;exact q L H v (.refl L H) c (hd L H)
theorem zV5 {i j pos}:QE X (.Constant (.int i) j pos) (fC (.int i)):=zJb (λ_ _=>by unfold Rep;rfl) zTF
theorem zWe {b j pos}:QE X (.Constant (.bool b) j pos) (fC (.bl b)):=zJb (λ_ _=>by unfold Rep;rfl) zVH
theorem zV6 {x j pos}:QE X (.Constant (.str x) j pos) (fC (.str x)):=zJb (λ_ _=>by unfold Rep;rfl) zTP
def zF:FA:=λ_ M=>some ([],M)
def zD (f:FD) (g:FA):FA:=λσ M=>match f σ M with
 |some (d,M1)=>match g σ M1 with
  |some (ds,M2)=>some (d::ds,M2)
  |none=>none
 |none=>none
theorem PA.imp (h:PA X es t) (hi:∀ τ H Q,t' τ H Q->t τ H Q):PA X es t':=λpos zB s σ H Q I q=>h pos zB s σ H Q I (hi _ _ _ q)
theorem zQH:QA X [] zF:=.mk <| PA.imp zFm λτ H Q zz=>by
 obtain ⟨L,σ,M,d,M',c,rs,hf,q⟩:=zz;unfold zF at hf;cases hf;exact q L H [] (.refl L H) c .nil
theorem zM1 (h1:QD X e f) (h2:QA X es g) (hs:starEach (e::es) X.env=(false,eval e X.env)::starEach es X.env:=by rfl):QA X (e::es) (zD f g) :=
 .mk <| PA.imp (zEP h1.un h2.un hs) λτ H Q zz=>by
  obtain ⟨L,σ,M,d,M',c,rs,hf,q⟩:=zz;unfold zD at hf;split at hf
  .rename_i d1 M1 e1;split at hf
   .rename_i ds M2 e2;cases hf;refine ⟨L,σ,M,_,_,c,rs,e1,λL1 H1 v s1 c1 r1=>⟨L1,σ,M1,_,_,c1,rs.stp s1,e2,λL2 H2 vs s2 c2 r2=>?_⟩⟩;exact q L2 H2 _ (s1.trans s2) c2 (.cons (r1.stp s2) r2)
   .cases hf
  .cases hf
def zA6 (g:FA):FE:=λσ M=>match g σ M with
 |some (ds,M1)=>if ds.length<=sizeLine then some (.dat (.tup ds),M1) else none
 |none=>none
def zBJ (g:FA):FE:=λσ M=>match g σ M with
 |some (ds,M1)=>if ds.length<=sizeLine then some (.fl ds,M1) else none
 |none=>none
theorem Rep.newTup (h:H p=none) (r:zP L H ds vs):Rep L (upd H p (.tup vs)) (.tup ds) (.ref p):=by
 unfold Rep;exact ⟨p,vs,rfl,zAD,r.stp (.upd h)⟩
theorem zVq {x1 pos} (h:QA X es g):QE X (.Tuple es x1 pos) (zA6 g):=.mk <| PE.imp (zUh h.un) λτ H Q zz=>by
 obtain ⟨L,σ,M,d,M',c,rs,hf,q⟩:=zz;unfold zA6 at hf;split at hf
 .rename_i ds M1 e1;split at hf
  .rename_i hz;cases hf;refine ⟨L,σ,M,_,_,c,rs,e1,λL1 H1 vs s1 c1 r1=>⟨by rw[r1.length];exact hz,λp hp=>?_⟩⟩;exact q L1 _ _ (s1.trans (.upd hp)) (c1.upd hp) (Rep.newTup hp r1)
  .cases hf
 .cases hf
theorem zIb {L L1:Yg} {H H1:Hp} {K:Yb} {M M1:List MO} (s:Stp L H L1 H1) (c:Cor K L M H) (c1:Cor K L1 M1 H1) {p:Yt} (hp:H1 p=none):H p=none/\p∉L1:=by
 have hp1:p∉L1:=λz=>by obtain ⟨o,e⟩:=c1.tracked z;rw[hp]at e;cases e
 refine ⟨?_,hp1⟩;cases q:H p with
 |none=>rfl
 |some o=>
  have:p∉L:=λz=>hp1 (by obtain ⟨N,hN⟩:=s.pre;rw[hN];exact zX0 _ z);rw[s.old p o q this]at hp;cases hp
theorem zr.newLst {L L1:Yg} {H H1:Hp} {K:Yb} {M M1:List MO} {p:Yt} {ds:List D} {vs:List V} (s:Stp L H L1 H1) (c:Cor K L M H) (c1:Cor K L1 M1 H1) (hp:H1 p=none) (r:zP L1 H1 ds vs) :
  zr H L1 (upd H1 p (.lst vs)) (.fl ds) (.ref p):=by
 obtain ⟨a,b⟩:=zIb s c c1 hp;exact ⟨p,vs,rfl,a,zAD,b,r.stp (.upd hp)⟩
theorem zU8 {pos} (h:QA X es g):QE X (.List es pos) (zBJ g):=.mk <| PE.imp (zUD h.un) λτ H Q zz=>by
 obtain ⟨L,σ,M,d,M',c,rs,hf,q⟩:=zz;unfold zBJ at hf;split at hf
 .rename_i ds M1 e1;split at hf
  .rename_i hz;cases hf;refine ⟨L,σ,M,_,_,c,rs,e1,λL1 H1 vs s1 c1 r1=>⟨by rw[r1.length];exact hz,λp hp=>?_⟩⟩;exact q L1 _ _ (s1.trans (.upd hp)) (c1.upd hp) (zr.newLst s1 c c1 hp r1)
  .cases hf
 .cases hf
end
abbrev FAE:=Sd->Mem->Option (List EV × Mem)
def zCx (H0:Hp) (L:Yg) (H:Hp):List EV->List V->Prop
 |[],vs=>vs=[]
 |e::es,vs=>∃ v r,vs=v::r/\zr H0 L H e v/\zCx H0 L H es r
theorem Stp.sub (s:Stp L H L' H'):∀ a∈L,a∈L':=λa h=>by
 obtain ⟨N,hN⟩:=s.pre;rw[hN];exact zX0 _ h
theorem zCx.back {H0 H1:Hp} {L0 L1 L:Yg} {H:Hp} (s:Stp L0 H0 L1 H1) {M:List MO} {K:Yb} (c:Cor K L0 M H0) (hL:∀ a∈L1,a∈L):∀ {es:List EV} {vs:List V},zCx H1 L H es vs->zCx H0 L H es vs
 |[],_,h=>h
 |e::es,_,h=>by
  obtain ⟨v,r,rfl,h1,h2⟩:=h;exact ⟨v,r,rfl,h1.back s c hL,zCx.back s c hL h2⟩
def zVm (K:Yb) (f:FAE):TA:=λτ H Q=>∃ L σ M ds M',Cor K L M H/\zBi L H σ τ/\f σ M=some (ds,M') /\ ∀ L' H' vs,Stp L H L' H'->Cor K L' M' H'->zCx H L' H' ds vs->Q vs H'
structure QAE (X:Cx) (es:Yi) (f:FAE):Prop where
 un:PA X es (zVm X.K f)
section
def zj:FAE:=λ_ M=>some ([],M)
def zU (f:FE) (g:FAE):FAE:=λσ M=>match f σ M with
 |some (d,M1)=>match g σ M1 with
  |some (ds,M2)=>some (d::ds,M2)
  |none=>none
 |none=>none
theorem zUk:QAE X [] zj:=.mk <| PA.imp zFm λτ H Q zz=>by
 obtain ⟨L,σ,M,d,M',c,rs,hf,q⟩:=zz;unfold zj at hf;cases hf;exact q L H [] (.refl L H) c rfl
theorem zSg (h1:QE X e f) (h2:QAE X es g) (hs:starEach (e::es) X.env=(false,eval e X.env)::starEach es X.env:=by rfl):QAE X (e::es) (zU f g) :=
 .mk <| PA.imp (zEP h1.un h2.un hs) λτ H Q zz=>by
  obtain ⟨L,σ,M,d,M',c,rs,hf,q⟩:=zz;unfold zU at hf;split at hf
  .rename_i d1 M1 e1;split at hf
   .rename_i ds M2 e2;cases hf;refine ⟨L,σ,M,_,_,c,rs,e1,λL1 H1 v s1 c1 r1=>⟨L1,σ,M1,_,_,c1,rs.stp s1,e2,λL2 H2 vs s2 c2 r2=>?_⟩⟩;exact q L2 H2 _ (s1.trans s2) c2 ⟨v,vs,rfl,r1.stp s2,r2.back s1 c s2.sub⟩
   .cases hf
  .cases hf
abbrev K2:=EV->EV->Mem->Option (EV × Mem)
def zC3 (K:Yb) (r:R2) (k:K2):Prop:=∀ {L:Yg} {M M':Mem} {H H0:Hp} {x y d:EV} {v w:V} {Q:VK},Cor K L M H->zr H0 L H x v->zr H0 L H y w->k x y M=some (d,M') ->
 (∀ L' H' u,Stp L H L' H'->Cor K L' M' H'->zr H L' H' d u->Q u H')->r v w H Q
def fOp (k:K2) (f g:FE):FE:=λσ M=>match f σ M with
 |some (x,M1)=>match g σ M1 with
  |some (y,M2)=>k x y M2
  |none=>none
 |none=>none
theorem zEL {K:Yb} {r:R2} {k:K2} {f g:FE} (hk:zC3 K r k) {τ:Sv} {H:Hp} {Q:VK} (h:trE K (fOp k f g) τ H Q):tOp r (trE K f) (trE K g) τ H Q:=by
 obtain ⟨L,σ,M,d,M',c,rs,hf,q⟩:=h;unfold fOp at hf;split at hf
 .rename_i x M1 e1;split at hf
  .rename_i y M2 e2;refine ⟨L,σ,M,_,_,c,rs,e1,λL1 H1 v s1 c1 r1=>⟨L1,σ,M1,_,_,c1,rs.stp s1,e2,λL2 H2 w s2 c2 r2=>?_⟩⟩;refine hk (H0:=H) c2 (r1.stp s2) (r2.back s1 c s2.sub) hf λL3 H3 u s3 c3 r3=>?_;exact q L3 H3 u ((s1.trans s2).trans s3) c3 (r3.back (s1.trans s2) c s3.sub)
  .cases hf
 .cases hf
theorem zLN (hk:zC3 X.K r k) (ho:OpR X (binaryOp op) r) (h1:QE X a f) (h2:QE X b g):QE X (.BinOp a op b pos) (fOp k f g):=.mk <| PE.imp (zVV ho h1.un h2.un) λ_ _ _ h=>zEL hk h
def tst (f:FE):FT:=λσ M=>match f σ M with
 |some (.dat (.bl c),M')=>some (c,M')
 |_=>none
theorem zFd {K:Yb} {f:FE} {τ:Sv} {H:Hp} {Q:Bool->Hp->Prop} (h:trT K (tst f) τ H Q):zM7 (trE K f) τ H Q:=by
 obtain ⟨L,σ,M,d,M',c,rs,hf,q⟩:=h;unfold tst at hf;split at hf
 .rename_i k M1 e1;cases hf;refine ⟨L,σ,M,_,_,c,rs,e1,λL1 H1 v s1 c1 r1=>?_⟩;have:v=.bl d:=by unfold zr Rep at r1;exact r1
  exact ⟨d,this,q L1 H1 s1 c1⟩
 .cases hf
theorem zEa (h:∀ τ H Q,t τ H Q->t' τ H Q) (q:zM7 t τ H Q):zM7 t' τ H Q:=h _ _ _ q
theorem zC7 {op:CmpOp} {r:R2} {k:K2} {f g:FE} (hk:zC3 X.K r k) (ho:OpR X (compareOp op) r) (h1:QE X a f) (h2:QE X b g) (hm:behindInMarks op b=false):QT X (.Compare a [op] [b] pos) (tst (fOp k f g)) :=
 .mk <| PT.imp (zRj ho h1.un h2.un hm) λ_ _ _ h=>zEa (λ_ _ _ z=>zEL hk z) (zFd h)
def kI (C:Int->Int->Bool) (g:Int->Int->D):K2:=λx y M=>match x,y with
 |.dat (.int i),.dat (.int j)=>if C i j then some (.dat (g i j),M) else none
 |_,_=>none
def kI0 (g:Int->Int->D):K2:=kI (λ_ _=>true) g
theorem zKQ {K:Yb} {C:Int->Int->Bool} {C':Int->Int->Prop} {g:Int->Int->D} {g':Int->Int->V} (hC:∀ i j,C i j=true->C' i j) (hg:∀ L H i j,Rep L H (g i j) (g' i j)):zC3 K (rI C' g') (kI C g):=by
 intro L M M' H H0 x y d v w Q c rx ry hk q;unfold kI at hk;split at hk
 .rename_i i j;split at hk
  .rename_i hc;cases hk;refine ⟨i,j,by unfold zr Rep at rx;exact rx,by unfold zr Rep at ry;exact ry,hC i j hc,q L H _ (.refl L H) c (hg L H i j)⟩
  .cases hk
 .cases hk
theorem zFV {K:Yb} {g:Int->Int->D} {g':Int->Int->V} (hg:∀ L H i j,Rep L H (g i j) (g' i j)):zC3 K (rI0 g') (kI0 g):=by
 intro L M M' H H0 x y d v w Q c rx ry hk q;obtain ⟨i,j,h1,h2,_,h4⟩:=zKQ (C:=λ_ _=>true) (C':=λ_ _=>True) (λ_ _ _=>trivial) hg c rx ry hk q;exact ⟨i,j,h1,h2,h4⟩
theorem zAp:Rep L H (.int i) (.int i):=by unfold Rep;rfl
theorem zBx:Rep L H (.bl i) (.bl i):=by unfold Rep;rfl
def zOk (i j:Int):Bool:=(decide (-(2 ^ 64)<i)&&decide (i<2 ^ 64))||(decide (-(2 ^ 64)<j)&&decide (j<2 ^ 64))
abbrev zWc:K2:=kI0 λi j=> .int (i+j)
abbrev zH3:K2:=kI0 λi j=> .int (i-j)
abbrev zHW:K2:=kI zOk λi j=> .int (i*j)
abbrev zDg:K2:=kI (λ_ j=>decide (0<j)) λi j=> .int (i % j)
abbrev zLb:K2:=kI (λ_ j=>decide (0<j)&&decide (j<1073741824)) λi j=> .int (i / j)
abbrev zOd:K2:=kI (λi j=>decide (0<=j)&&decide (j<=1000000)&&decide (i.natAbs<2 ^ 64)) λi j=> .int (i ^ j.toNat)
abbrev kLt:K2:=kI0 λi j=> .bl (decide (i<j))
abbrev kLe:K2:=kI0 λi j=> .bl (decide (i<=j))
abbrev kGt:K2:=kI0 λi j=> .bl (decide (j<i))
abbrev kGe:K2:=kI0 λi j=> .bl (decide (j<=i))
section
theorem zV3 (h1:QE X a f) (h2:QE X b g):QE X (.BinOp a .Sub b pos) (fOp zH3 f g):=zLN (zFV λ_ _ _ _=>zAp) zUX h1 h2
theorem zVZ (h1:QE X a f) (h2:QE X b g):QE X (.BinOp a .Mult b pos) (fOp zHW f g):=zLN (zKQ (λi j h=>by
 unfold zOk at h;simp only[Bool.or_eq_true,zXL,zXy]at h;exact h) λ_ _ _ _=>zAp) zTi h1 h2
theorem zVN (h1:QE X a f) (h2:QE X b g):QE X (.BinOp a .Mod b pos) (fOp zDg f g):=zLN (zKQ (λi j h=>zXh h) λ_ _ _ _=>zAp) zUN h1 h2
theorem zVi (h1:QE X a f) (h2:QE X b g):QE X (.BinOp a .FloorDiv b pos) (fOp zLb f g):=zLN (zKQ (λi j h=>by
 simp only[zXL,zXy]at h;exact h) λ_ _ _ _=>zAp) zRk h1 h2
theorem zUz (h1:QE X a f) (h2:QE X b g):QE X (.BinOp a .Pow b pos) (fOp zOd f g):=zLN (zKQ (λi j h=>by
 simp only[zXL,zXy]at h;exact ⟨h.1.1,h.1.2,h.2⟩) λ_ _ _ _=>zAp) zUp h1 h2
theorem zUx (h1:QE X a f) (h2:QE X b g):QT X (.Compare a [.Lt] [b] pos) (tst (fOp kLt f g)):=zC7 (zFV λ_ _ _ _=>zBx) zUw h1 h2 (zEE _)
theorem zUu (h1:QE X a f) (h2:QE X b g):QT X (.Compare a [.LtE] [b] pos) (tst (fOp kLe f g)):=zC7 (zFV λ_ _ _ _=>zBx) zWB h1 h2 (zEE _)
theorem zUy (h1:QE X a f) (h2:QE X b g):QT X (.Compare a [.Gt] [b] pos) (tst (fOp kGt f g)):=zC7 (zFV λ_ _ _ _=>zBx) zVo h1 h2 (zEE _)
theorem zV1 (h1:QE X a f) (h2:QE X b g):QT X (.Compare a [.GtE] [b] pos) (tst (fOp kGe f g)):=zC7 (zFV λ_ _ _ _=>zBx) zVA h1 h2 (zEE _)
end
end
def zBW (M:Mem):EV->Option (List D)
 |.fl xs=>some xs
 |.dat (.ref n)=>match M[n]? with
  |some (.lst xs)=>some xs
  |some (.fro xs)=>some xs
  |_=>none
 |_=>none
def zBp:EV->Option (List D)
 |.dat (.tup xs)=>some xs
 |_=>none
def zAF (M:Mem) (x:EV):Option (List D):=match zBp x with
 |some xs=>some xs
 |none=>zBW M x
theorem zA3 {K:Yb} {L:Yg} {M:Mem} {H H0:Hp} {x:EV} {v:V} {xs:List D} (c:Cor K L M H) (r:zr H0 L H x v) (h:zBW M x=some xs):∃ a vs,v=.ref a/\Rd H a (.lst vs)/\zP L H xs vs:=by
 cases x with
 |fl ys=>
  cases h;obtain ⟨p,vs,rfl,_,e,_,r⟩:=r;exact ⟨p,vs,rfl,.inl e,r⟩
 |dat d=>
  cases d with
  |ref n=>
   unfold zr Rep at r;obtain ⟨a,rfl,e⟩:=r;unfold zBW at h;dsimp only at h;cases q:M[n]? with
   |none=>rw[q]at h;cases h
   |some m=>
    rw[q]at h;have z:=c.obj n a m e q;cases m with
    |lst ys=>cases h;obtain ⟨vs,e1,r1⟩:=z;exact ⟨a,vs,rfl,.inl e1,r1⟩
    |fro ys=>cases h;obtain ⟨o,vs,e1,r1⟩:=z;exact ⟨a,vs,rfl,.inr ⟨o,e1⟩,r1⟩
    |dict _=>cases h
    |dicT _=>cases h
    |set _=>cases h
    |froT _=>cases h
    |froK _=>cases h
  |_=>cases h
theorem zBD {L:Yg} {H H0:Hp} {x:EV} {v:V} {xs:List D} (r:zr H0 L H x v) (h:zBp x=some xs):∃ a vs,v=.ref a/\H a=some (.tup vs)/\zP L H xs vs:=by
 cases x with
 |fl ys=>cases h
 |dat d=>
  cases d with
  |tup ys=>cases h;unfold zr Rep at r;exact r
  |_=>cases h
theorem zEy {K:Yb} {L:Yg} {M:Mem} {H H0:Hp} {x:EV} {v:V} {xs:List D} (c:Cor K L M H) (r:zr H0 L H x v) (h:zAF M x=some xs):∃ a vs,v=.ref a/\(SqL K H a vs\/SqT K H a vs)/\zP L H xs vs:=by
 unfold zAF at h;cases q:zBp x with
 |some ys=>
  rw[q]at h;cases h;obtain ⟨a,vs,e,h1,h2⟩:=zBD r q;exact ⟨a,vs,e,.inr (.of h1),h2⟩
 |none=>
  rw[q]at h;obtain ⟨a,vs,e,h1,h2⟩:=zA3 c r h;exact ⟨a,vs,e,.inl (.inl h1),h2⟩
theorem zTG {L:Yg} {H:Hp} {xs:List D} {vs:List V} {i:Int} {d:D} (r:zP L H xs vs) (h:atI xs i=some d):∃ v,atI vs i=some v/\Rep L H d v:=by
 unfold atI at h ⊢;rw[r.length];cases q:ixN xs.length i with
 |none=>rw[q]at h;cases h
 |some j=>rw[q]at h;exact r.get h
theorem zRa {L:Yg} {H:Hp} {i:Str}:Rep L H (.str i) (.str i):=by unfold Rep;rfl
def kIx:K2:=λx y M=>match y with
 |.dat (.int i)=>match zAF M x with
  |some xs=>match atI xs i with
   |some d=>some (.dat d,M)
   |none=>none
  |none=>match x with
   |.dat (.str z)=>if z.length<=sizeLine then match atI z.cps.toList i with
     |some c=>some (.dat (.str ⟨#[c]⟩),M)
     |none=>none
    else none
   |_=>none
 |_=>none
theorem zUd {K:Yb}:zC3 K (rIx K) kIx:=by
 intro L M M' H H0 x y d v w Q c rx ry hk q;unfold kIx at hk;split at hk
 .rename_i i;have ew:w=.int i:=by unfold zr Rep at ry;exact ry
  split at hk
  .rename_i xs e1;split at hk
   .rename_i d' e2;cases hk;obtain ⟨a,vs,rfl,hs,r⟩:=zEy c rx e1;obtain ⟨u,e3,r3⟩:=zTG r e2;rcases hs with hs|hs
    .exact .inl ⟨a,vs,i,u,rfl,ew,hs,e3,q L H u (.refl L H) c r3⟩
    .exact .inr (.inl ⟨a,vs,i,u,rfl,ew,hs,e3,q L H u (.refl L H) c r3⟩)
   .cases hk
  .split at hk
   .rename_i z _;split at hk
    .rename_i hz;split at hk
     .rename_i ch e2;cases hk;have ev:v=.str z:=by unfold zr Rep at rx;exact rx
      exact .inr (.inr ⟨z,i,ch,ev,ew,hz,e2,q L H _ (.refl L H) c (zRa (L:=L) (H:=H))⟩)
     .cases hk
    .cases hk
   .cases hk
 .cases hk
section
theorem zLa {t sl:Yt} {items:Yp} {vl vu:Yu} {lo hi:Ys} {Q:Yc} (T:IsTup s.heap t items) (S:s.heap.IsSliceOf sl vl vu .none) (pl:IsPart vl lo) (pu:IsPart vu hi)
  (h1:HT.sIx items.size 0 lo=0) (h2:HT.sIx items.size items.size hi=items.size) (h:Q (.ref t) s):wpAny (model prog w) A (getItem (.ref t) (.ref sl)) Q E s:=by
 obtain ⟨o,O,C,G⟩:=id S;have TS:s.TypeIs (.ref sl) "slice" := ⟨o,O,C⟩;unfold getItem;try with_reducible refine zXe ?_
 first|refine zWl (zWn ?_)|skip
 refine zWl (wpAny_sequenceKey T.typeIs (by decide) ?_);refine zWl (zXN (name:=Str.ofString "__getitem__") T.typeIs zYJ (zXO zYJ T.typeIs entry_tuple_getitem ?_ (args_tuple_getitem _ _)));refine zWl (m:=Builtin.Tuple.tupleItemsOf (.ref t)) (tupleItemsOf_ T (zWl (wpAny_typeOf TS ?_)));rw[zW0 (by decide)];refine zWl (HT.zDJ S pl pu ?_);rw[h1,h2];show wpAny _ _ (if ((((0:Nat):Int)==0&&(1:Int)==1&&(items.size-0)==items.size))=true then _ else _) _ _ s;rw[zW0 (by simp)];unfold Builtin.Tuple.tupleIsExact;refine zWl (zWl (wpAny_typeOf T.typeIs (zWn ?_)));rw[zW0 (by decide)];exact zWl (zX8 (zWn ⟨_,rfl,zWn h⟩))
end
def zWW (K:Yb):V->Option Int->Option Int->Hp->VK->Prop:=λx lo hi H Q=>∃ a xs,x=.ref a/\SqT K H a xs/\(HT.sIx xs.length 0 lo=0/\HT.sIx xs.length xs.length hi=xs.length)/\Q (.ref a) H
theorem zSj {X:Cx}:SlR X (zWW X.K):=by
 intro zB s σ H x v vl vu lo hi sl Q I rx hs pl pu h;obtain ⟨a,xs,rfl,hx,hw,q⟩:=h;cases rx;obtain ⟨its,r,ht,hz⟩:=I.tuple hx;have hlen:its.toArray.size=xs.length:=by rw[zWt];exact r.length.symm
 exact ⟨"tuple", _,zYJ.lookup,ht.typeIs,zLa ht hs pl pu (by rw[hlen];exact hw.1) (by rw[hlen];exact hw.2) ⟨.ref a,H,I,rfl,q⟩⟩
section
variable {X:Cx}
theorem zWS (h1:QE X a f) (h2:QE X b g) (hs:zNK b:=by intro _ _;rfl):QE X (.Subscript a b pos) (fOp kIx f g):=.mk <| PE.imp (zVU zTa h1.un h2.un hs) λ_ _ _ h=>zEL zUd h
abbrev FO:=Sd->Mem->Option (Option Int × Mem)
def trO (K:Yb) (f:FO):TO:=λτ H Q=>∃ L σ M d M',Cor K L M H/\zBi L H σ τ/\f σ M=some (d,M') /\ ∀ L' H',Stp L H L' H'->Cor K L' M' H'->Q d H'
structure QO (X:Cx) (e:Option Expr) (f:FO):Prop where
 un:PO X e (trO X.K f)
def zBS:FO:=λ_ M=>some (none,M)
def zAc (f:FE):FO:=λσ M=>match f σ M with
 |some (.dat (.int i),M')=>some (some i,M')
 |_=>none
theorem PO.imp {e:Option Expr} {t t':TO} (h:PO X e t) (hi:∀ τ H Q,t' τ H Q->t τ H Q):PO X e t':=λzB s σ H Q I q=>h zB s σ H Q I (hi _ _ _ q)
theorem zSf:QO X none zBS:=.mk <| PO.imp zSu λτ H Q zz=>by
 obtain ⟨L,σ,M,d,M',c,rs,hf,q⟩:=zz;unfold zBS at hf;cases hf;exact q L H (.refl L H) c
theorem zRw (h:QE X e f):QO X (some e) (zAc f):=.mk <| PO.imp (zRg h.un) λτ H Q zz=>by
 obtain ⟨L,σ,M,d,M',c,rs,hf,q⟩:=zz;unfold zAc at hf;split at hf
 .rename_i i M1 e1;cases hf;refine ⟨L,σ,M,_,_,c,rs,e1,λL1 H1 v s1 c1 r1=>?_⟩;exact ⟨i,by unfold zr Rep at r1;exact r1,q L1 H1 s1 c1⟩
 .cases hf
def zDj (xs:List D) (lo hi:Ys):List D:=(xs.drop (HT.sIx xs.length 0 lo)).take (HT.sIx xs.length xs.length hi-HT.sIx xs.length 0 lo)
theorem zNb {L:Yg} {H:Hp} {xs:List D} {vs:List V} {lo hi:Ys} (r:zP L H xs vs):zP L H (zDj xs lo hi) (zLU vs lo hi):=by
 unfold zDj zLU;rw[r.length];exact (r.drop _).take _
def kSl (x:EV) (lo hi:Ys) (M:Mem):Option (EV × Mem):=match zBp x with
 |some xs=>some (.dat (.tup (zDj xs lo hi)),M)
 |none=>match zBW M x with
  |some xs=>some (.fl (zDj xs lo hi),M)
  |none=>none
def fSl (f:FE) (fl fh:FO):FE:=λσ M=>match f σ M with
 |some (x,M1)=>match fl σ M1 with
  |some (lo,M2)=>match fh σ M2 with
   |some (hi,M3)=>kSl x lo hi M3
   |none=>none
  |none=>none
 |none=>none
theorem zSH {lo hi:Option Expr} {p2:Pos} {fl fh:FO} (h:QE X e f) (hl:QO X lo fl) (hh:QO X hi fh):QE X (.Subscript e (.Slice lo hi none p2) pos) (fSl f fl fh) :=
 .mk <| PE.imp (zQ7 (SlR.or zSm (SlR.or zUa zSj)) h.un hl.un hh.un) λτ H Q zz=>by
  obtain ⟨L,σ,M,d,M',c,rs,hf,q⟩:=zz;unfold fSl at hf;split at hf
  .rename_i x M1 e1;split at hf
   .rename_i l M2 e2;split at hf
    .rename_i u M3 e3;refine ⟨L,σ,M,_,_,c,rs,e1,λL1 H1 v s1 c1 r1=>⟨L1,σ,M1,_,_,c1,rs.stp s1,e2,λL2 H2 s2 c2=>⟨L2,σ,M2,_,_,c2,rs.stp (s1.trans s2),e3,λL3 H3 s3 c3=>?_⟩⟩⟩;have s:=(s1.trans s2).trans s3;have r3:zr H L3 H3 x v:=(r1.stp s2).stp s3;unfold kSl at hf;cases t:zBp x with
     |some xs=>
      rw[t]at hf;cases hf;obtain ⟨a,vs,rfl,e4,r4⟩:=zBD r3 t;by_cases hw:HT.sIx vs.length 0 l=0/\HT.sIx vs.length vs.length u=vs.length
      .refine .inr (.inr ⟨a,vs,rfl,.of e4,hw,?_⟩);have ec:zDj xs l u=xs:=by
        unfold zDj;rw[<-r4.length,hw.1,hw.2,r4.length];simp
       rw[ec]at q;refine q L3 H3 _ s c3 ?_;unfold zr Rep;exact ⟨a,vs,rfl,e4,r4⟩
      .refine .inr (.inl ⟨a,vs,rfl,.of e4,hw,λp hp=>?_⟩);exact q L3 _ _ (s.trans (.upd hp)) (c3.upd hp) (Rep.newTup hp (zNb r4))
     |none=>
      rw[t]at hf;dsimp only at hf;split at hf
      .rename_i xs e4;cases hf;obtain ⟨a,vs,rfl,e5,r5⟩:=zA3 c3 r3 e4;refine .inl ⟨a,vs,rfl,.inl e5,λp hp=>?_⟩;exact q L3 _ _ (s.trans (.upd hp)) (c3.upd hp) (zr.newLst s c c3 hp (zNb r5))
      .cases hf
    .cases hf
   .cases hf
  .cases hf
abbrev KB:=List EV->Mem->Option (EV × Mem)
def zJP (K:Yb) (r:List V->Hp->VK->Prop) (k:KB):Prop:=∀ {L:Yg} {M M':Mem} {H H0:Hp} {xs:List EV} {d:EV} {vs:List V} {Q:VK},Cor K L M H->zCx H0 L H xs vs->k xs M=some (d,M') ->
 (∀ L' H' u,Stp L H L' H'->Cor K L' M' H'->zr H L' H' d u->Q u H')->r vs H Q
def fB (k:KB) (f:FAE):FE:=λσ M=>match f σ M with
 |some (xs,M1)=>k xs M1
 |none=>none
theorem zPU {K:Yb} {r:List V->Hp->VK->Prop} {k:KB} {f:FAE} (hk:zJP K r k) {τ:Sv} {H:Hp} {Q:VK} (h:trE K (fB k f) τ H Q):tCB r (zVm K f) τ H Q:=by
 obtain ⟨L,σ,M,d,M',c,rs,hf,q⟩:=h;unfold fB at hf;split at hf
 .rename_i xs M1 e1;refine ⟨L,σ,M,_,_,c,rs,e1,λL1 H1 vs s1 c1 r1=>?_⟩;refine hk c1 r1 hf λL2 H2 u s2 c2 r2=>?_;exact q L2 H2 u (s1.trans s2) c2 (r2.back s1 c s2.sub)
 .cases hf
theorem zCx.one {H0:Hp} {L:Yg} {H:Hp} {x:EV} {vs:List V} (h:zCx H0 L H [x] vs):∃ v,vs=[v]/\zr H0 L H x v:=by
 obtain ⟨v,r,rfl,h1,h2⟩:=h;unfold zCx at h2;subst h2;exact ⟨v,rfl,h1⟩
def zAu:KB:=λxs M=>match xs with
 |[x]=>match zAF M x with
  |some ys=>some (.dat (.int ys.length),M)
  |none=>none
 |_=>none
theorem zRp:zJP X.K (λxs H Q=>∃ p ys,xs=[.ref p]/\(SqL X.K H p ys\/SqT X.K H p ys)/\Q (.int ys.length) H) zAu:=by
 intro L M M' H H0 xs d vs Q c r hk q;unfold zAu at hk;split at hk
 .rename_i x;split at hk
  .rename_i ys e1;cases hk;obtain ⟨v,rfl,r1⟩:=r.one;obtain ⟨a,ws,rfl,hs,r2⟩:=zEy c r1 e1;refine ⟨a,ws,rfl,hs,q L H _ (.refl L H) c ?_⟩;rw[r2.length];exact (zAp (L:=L) (H:=H))
  .cases hk
 .cases hk
theorem zFI {x:Str} {p:Pos} {id:String} {r:List V->Hp->VK->Prop} {k:KB} {f:FAE} (hk:zJP X.K r k) (hc:zDK X (.builtin id) r) (hv:bootBuiltins x=some (.builtin id)) (hg:Gl X x) (hm:X.mg x=none) (ha:QAE X (e::es) f) (hn:x ≠ "__name__" := by decide) (hdb:(x==("__debug__" : Str))=false:=by decide)
  (he:starEach (e::es) X.env=(false,eval e X.env)::starEach es X.env:=by rfl) (hpl:(backTo pos (starEach es X.env)).any (·.1)=false:=by rfl):QE X (.Call (.Name x p) (e::es) [] pos) (fB k f) :=
 .mk <| PE.imp (zP2 hc hg hm hv ha.un hn hdb he hpl) λ_ _ _ h=>zPU hk h
theorem zKc {x:Str} {p:Pos} {T:String} {r:List V->Hp->VK->Prop} {k:KB} {f:FAE} (hk:zJP X.K r k) (hc:zDK X (.type T) r) (hv:bootBuiltins x=some (.type T)) (hg:Gl X x) (hm:X.mg x=none) (ha:QAE X (e::es) f) (hn:x ≠ "__name__" := by decide) (hdb:(x==("__debug__" : Str))=false:=by decide)
  (he:starEach (e::es) X.env=(false,eval e X.env)::starEach es X.env:=by rfl) (hpl:(backTo pos (starEach es X.env)).any (·.1)=false:=by rfl):QE X (.Call (.Name x p) (e::es) [] pos) (fB k f) :=
 .mk <| PE.imp (zDD hc hg hm hv ha.un hn hdb he hpl) λ_ _ _ h=>zPU hk h
def zAI:KB:=λxs M=>match xs with
 |[x]=>match zAF M x with
  |some ys=>some (.dat (.tup ys),M)
  |none=>none
 |_=>none
theorem zN0:zJP X.K (λxs H Q=>∃ p ys,xs=[.ref p]/\((SqL X.K H p ys /\ ∀ l,H l=none->Q (.ref l) (upd H l (.tup ys)))\/(SqT X.K H p ys/\Q (.ref p) H))) zAI:=by
 intro L M M' H H0 xs d vs Q c r hk q;unfold zAI at hk;split at hk
 .rename_i x;split at hk
  .rename_i ys e1;cases hk;obtain ⟨v,rfl,r1⟩:=r.one;unfold zAF at e1;cases t:zBp x with
   |some zs=>
    rw[t]at e1;cases e1;obtain ⟨a,ws,rfl,e2,r2⟩:=zBD r1 t;refine ⟨a,ws,rfl,.inr ⟨.of e2,q L H _ (.refl L H) c ?_⟩⟩;unfold zr Rep;exact ⟨a,ws,rfl,e2,r2⟩
   |none=>
    rw[t]at e1;obtain ⟨a,ws,rfl,e2,r2⟩:=zA3 c r1 e1;refine ⟨a,ws,rfl,.inl ⟨.inl e2,λp hp=>?_⟩⟩;exact q L _ _ (.upd hp) (c.upd hp) (Rep.newTup hp r2)
  .cases hk
 .cases hk
end
set_option genInjectivity true in
inductive Out where
 |nx|ret (d:D)|brk|cnt
abbrev FS:=Sd->Mem->Option (Out × Sd × Mem)
def zVr (E:Ends) (L:Yg) (H:Hp) (σ:Sd):Out->Prop
 |.nx=>∀ τ,zBi L H σ τ->E.nx τ H
 |.ret d=>∀ v,Rep L H d v->E.rt v H
 |.brk=>∀ τ,zBi L H σ τ->E.bk τ H
 |.cnt=>∀ τ,zBi L H σ τ->E.ct τ H
def trS (K:Yb) (f:FS):TS:=λE τ H=>∃ L σ M o σ' M',Cor K L M H/\zBi L H σ τ/\f σ M=some (o,σ',M') /\ ∀ L' H',Stp L H L' H'->Cor K L' M' H'->zVr E L' H' σ' o
structure QS (X:Cx) (st:Stmt) (f:FS):Prop where
 un:PS X st (trS X.K f)
structure QSs (X:Cx) (st:Yy) (f:FS):Prop where
 un:PSs X st (trS X.K f)
theorem zBi.set (h:zBi L H σ τ) (r:Rep L H d v):zBi L H (σ.set i (some d)) (τ.set i (some v)):=by
 refine ⟨by simp[h.1],λj e q=>?_⟩;rw[zYK]at q ⊢;split at q
 .rename_i z;subst z;split at q
  .rename_i hl;cases q;rw[zW0 rfl,zW0 (by rw[h.1];exact hl)];exact ⟨v,rfl,r⟩
  .cases q
 .rename_i z;rw[zW3 z];exact h.2 j e q
theorem zLC {K:Yb} {f:FE} {τ:Sv} {H:Hp} {Q:VK} (h:trD K (toD f) τ H Q):trE K f τ H Q:=by
 obtain ⟨L,σ,M,d,M',c,rs,hf,q⟩:=h;unfold toD at hf;split at hf
 .rename_i d' M1 e1;cases hf;exact ⟨L,σ,M,_,_,c,rs,e1,λL' H' v s c' r=>q L' H' v s c' r⟩
 .rename_i xs M1 e1;cases hf;refine ⟨L,σ,M,_,_,c,rs,e1,λL' H' v s c' r=>?_⟩;obtain ⟨p,vs,rfl,e0,e2,e3,r⟩:=r;obtain ⟨c2,s2⟩:=zS3 s c' e0 e2 e3 r;exact q _ H' _ s2 c2 (Rep.last c')
 .cases hf
def zAv:FS:=λσ M=>some (.nx,σ,M)
def zQ (f g:FS):FS:=λσ M=>match f σ M with
 |some (.nx,σ1,M1)=>g σ1 M1
 |r=>r
def sIf (c:FT) (f g:FS):FS:=λσ M=>match c σ M with
 |some (true,M1)=>f σ M1
 |some (false,M1)=>g σ M1
 |none=>none
def zAM (f:FE):FS:=λσ M=>match toD f σ M with
 |some (d,M1)=>some (.ret d,σ,M1)
 |none=>none
def zi (i:Nat) (f:FE):FS:=λσ M=>match toD f σ M with
 |some (d,M1)=>some (.nx,σ.set i (some d),M1)
 |none=>none
def zBF (f:FE):FS:=λσ M=>match f σ M with
 |some (_,M1)=>some (.nx,σ,M1)
 |none=>none
section
variable {st:Stmt} {rest:Yy}
theorem zUC:QSs X [] zAv:=.mk <| PSs.imp zSs λE τ H zz=>by
 obtain ⟨L,σ,M,o,σ',M',c,rs,hf,q⟩:=zz;unfold zAv at hf;cases hf;exact q L H (.refl L H) c τ rs
theorem zR3 (h1:QS X st f) (h2:QSs X rest g):QSs X (st::rest) (zQ f g):=.mk <| PSs.imp (zRO h1.un h2.un) λE τ H zz=>by
 obtain ⟨L,σ,M,o,σ',M',c,rs,hf,q⟩:=zz;unfold zQ at hf;split at hf
 .rename_i σ1 M1 e1;refine ⟨L,σ,M,_,_,_,c,rs,e1,λL1 H1 s1 c1 τ1 r1=>⟨L1,σ1,M1,_,_,_,c1,r1,hf,λL2 H2 s2 c2=>q L2 H2 (s1.trans s2) c2⟩⟩
 .rename_i hne;refine ⟨L,σ,M,_,_,_,c,rs,hf,λL1 H1 s1 c1=>?_⟩;have z:=q L1 H1 s1 c1;cases o with
  |nx=>exact absurd hf (hne σ' M')
  |ret d=>exact z
  |brk=>exact z
  |cnt=>exact z
theorem zT3 (h1:QS X st f):QSs X [st] f:=.mk <| PSs.imp (zSe h1.un) λ_ _ _ h=>h
theorem zWG (hc:QT X c fc) (ha:QSs X a f) (hb:QSs X b g):QS X (.If c a b pos) (sIf fc f g):=.mk <| PS.imp (zVw hc.un ha.un hb.un) λE τ H zz=>by
 obtain ⟨L,σ,M,o,σ',M',c,rs,hf,q⟩:=zz;unfold sIf at hf;split at hf
 .rename_i M1 e1;refine ⟨L,σ,M,_,_,c,rs,e1,λL1 H1 s1 c1=>?_⟩;exact zIE ⟨L1,σ,M1,_,_,_,c1,rs.stp s1,hf,λL2 H2 s2 c2=>q L2 H2 (s1.trans s2) c2⟩
 .rename_i M1 e1;refine ⟨L,σ,M,_,_,c,rs,e1,λL1 H1 s1 c1=>?_⟩;exact zHv ⟨L1,σ,M1,_,_,_,c1,rs.stp s1,hf,λL2 H2 s2 c2=>q L2 H2 (s1.trans s2) c2⟩
 .cases hf
theorem zWA (h:QE X e f):QS X (.Return (some e) pos) (zAM f):=.mk <| PS.imp (zTZ (zBg h).un) λE τ H zz=>by
 obtain ⟨L,σ,M,o,σ',M',c,rs,hf,q⟩:=zz;unfold zAM at hf;split at hf
 .rename_i d M1 e1;cases hf;exact ⟨L,σ,M,_,_,c,rs,e1,λL1 H1 v s1 c1 r1=>q L1 H1 s1 c1 v r1⟩
 .cases hf
theorem zGw {K:Yb} {i:Nat} {f:FE} {t:TE} (ht:∀ τ H Q,trE K f τ H Q->t τ H Q) {E:Ends} {τ:Sv} {H:Hp} (h:trS K (zi i f) E τ H):zPQ t (zDo i) E τ H:=by
 obtain ⟨L,σ,M,o,σ',M',c,rs,hf,q⟩:=h;unfold zi at hf;split at hf
 .rename_i d M1 e1;cases hf;exact ht _ _ _ (zLC ⟨L,σ,M,_,_,c,rs,e1,λL1 H1 v s1 c1 r1=>q L1 H1 s1 c1 _ ((rs.stp s1).set r1)⟩)
 .cases hf
theorem zU3 {i:Nat} {x:Str} {f:FE} {pos':Pos} (hN:X.N.Nodup) (hi:X.N[i]?=some x) (hx:Loc X.env.scope x) (h:QE X e f) (hs:swapsWith e (some (.Name x pos')) pos.line X.env=pure false:=by rfl)
  (hf:X.fn x=true\/X.env.scope.names.lookup x=some .local:=by first|exact .inl rfl|exact .inr rfl|assumption):QS X (.Assign [.Name x pos'] e pos) (zi i f) :=
 .mk <| PS.imp (zTf hN hi hx h.un hs hf) λ_ _ _ z=>zGw (λ_ _ _ z=>z) z
theorem zUq (h:QE X e f) (hs:swapsWith e none pos.line X.env=pure false:=by rfl):QS X (.Expr e pos) (zBF f):=.mk <| PS.imp (zSa h.un hs) λE τ H zz=>by
 obtain ⟨L,σ,M,o,σ',M',c,rs,hf,q⟩:=zz;unfold zBF at hf;split at hf
 .rename_i d M1 e1;cases hf;exact ⟨L,σ,M,_,_,c,rs,e1,λL1 H1 v s1 c1 r1=>q L1 H1 s1 c1 τ (rs.stp s1)⟩
 .cases hf
abbrev FG:=D->Sd->Option Sd
def GOk (g:TG) (fg:FG):Prop:=∀ {L:Yg} {H:Hp} {σ σ':Sd} {τ:Sv} {d:D} {v:V} {Q:Sv->Hp->Prop},zBi L H σ τ->Rep L H d v->fg d σ=some σ'->(∀ τ',zBi L H σ' τ'->Q τ' H)->g v τ H Q
def gN (i:Nat):FG:=λd σ=>some (σ.set i (some d))
theorem zPw:GOk (zDo i) (gN i):=by
 intro L H σ σ' τ d v Q rs r hf q;unfold gN at hf;cases hf;exact q _ (rs.set r)
abbrev FI:=Sd->Mem->Option (List D × Option (Mem->Prop) × Mem)
def zA0 (g:Option (Mem->Prop)) (xs:List D) (M:Mem):Prop:=match g with
 |none=>True
 |some p=>p M
def zVg (K:Yb) (J:It) (L:Yg) (H:Hp) (xs:List D) (g:Option (Mem->Prop)):Prop:=∀ L' H' M',Stp L H L' H'->Cor K L' M' H'->zA0 g xs M' ->
 (∀ (i:Nat) d,xs[i]?=some d->J.go i H' /\ ∀ v H'',J.yld i H' v H''->(∀ a o,H' a=some o->H'' a=some o)/\Rep L' H'' d v)/\J.stop xs.length H'
def trI (K:Yb) (f:FI):TI:=λτ H R=>∃ L σ M xs g M',Cor K L M H/\zBi L H σ τ/\f σ M=some (xs,g,M') /\ ∀ L' H' J,Stp L H L' H'->Cor K L' M' H'->zVg K J L' H' xs g->R J H'
structure QI (X:Cx) (tg e:Expr) (f:FI):Prop where
 un:PI X tg e (trI X.K f)
theorem PI.imp (h:PI X tg e t) (hi:∀ τ H R,t' τ H R->t τ H R):PI X tg e t':=λzB s σ H R I q=>h zB s σ H R I (hi _ _ _ q)
def zCu (g:FG) (b:FS) (all:List D) (gd:Option (Mem->Prop)):List D->Sd->Mem->Option (Out × Sd × Mem)
 |[],σ,M=>open Classical in if zA0 gd all M then some (.nx,σ,M) else none
 |x::r,σ,M=>open Classical in if zA0 gd all M then match g x σ with
   |some σ1=>match b σ1 M with
    |some (.nx,σ2,M2)=>zCu g b all gd r σ2 M2
    |some (.cnt,σ2,M2)=>zCu g b all gd r σ2 M2
    |some (.brk,σ2,M2)=>some (.nx,σ2,M2)
    |some (.ret d,σ2,M2)=>some (.ret d,σ2,M2)
    |none=>none
   |none=>none
  else none
def zCD (fi:FI) (g:FG) (b:FS):FS:=λσ M=>match fi σ M with
 |some (xs,gd,M1)=>zCu g b xs gd xs σ M1
 |none=>none
theorem zCU {α:Type} {xs:List α} (h:i<xs.length):xs.drop i=xs[i]::xs.drop (i+1):=List.drop_eq_getElem_cons h
theorem Stp.yld (s:Stp L H L' H') (h:∀ a o,H' a=some o->H'' a=some o):Stp L H L' H'':=s.trans (.grow h)
theorem zQ8 {K:Yb} {fi:FI} {g:TG} {fg:FG} {b:FS} (hg:GOk g fg) {E:Ends} {τ:Sv} {H:Hp} (h:trS K (zCD fi fg b) E τ H):zVu (trI K fi) g (trS K b) E τ H:=by
 obtain ⟨L,σ,M,o,σf,Mf,c,rs,hf,q⟩:=h;unfold zCD at hf;split at hf
 .rename_i xs gd M1 e1;refine ⟨L,σ,M,_,_,_,c,rs,e1,λL1 H1 J s1 c1 it=>?_⟩
  refine ⟨λi m τ' H'=>m=xs.length-i/\i<=xs.length /\ ∃ L' σ' M',Stp L1 H1 L' H'/\Cor K L' M' H'/\zBi L' H' σ' τ'/\zCu fg b xs gd (xs.drop i) σ' M'=some (o,σf,Mf),
   ⟨xs.length,by simp,zXX _,L1,σ,M1,.refl _ _,c1,rs.stp s1,by simpa using hf⟩,?_⟩
  rintro i m τ' H' ⟨rfl,hi,L',σ',M',s',c',rs',e'⟩;by_cases hlt:i<xs.length
  .rw[zCU hlt]at e';unfold zCu at e';split at e'
   .rename_i hgd;obtain ⟨step,_⟩:=it L' H' M' s' c' hgd;obtain ⟨go,yl⟩:=step i xs[i] (zWp hlt);cases eg:fg xs[i] σ' with
    |none=>rw[eg]at e';cases e'
    |some σ1=>
     rw[eg]at e';dsimp only at e';refine .inr ⟨go,λτ2 H2=>∃ L2 σ2 M2,Stp L1 H1 L2 H2/\Cor K L2 M2 H2/\zBi L2 H2 σ2 τ2/\zCu fg b xs gd (xs.drop (i+1)) σ2 M2=some (o,σf,Mf),λτ2 H2 ⟨L2,σ2,M2,a1,a2,a3,a4⟩=>⟨xs.length-(i+1),by omega,rfl,hlt,L2,σ2,M2,a1,a2,a3,a4⟩,λv H2 hy=>?_⟩;obtain ⟨gr,rv⟩:=yl v H2 hy;refine hg (zBi.stp (.grow gr) rs') rv eg λτ2 r2=>?_;cases eb:b σ1 M' with
     |none=>rw[eb]at e';cases e'
     |some r=>
      obtain ⟨o2,σ2,M2⟩:=r;rw[eb]at e';refine ⟨L',σ1,M',_,_,_,c'.grow gr,r2,eb,λL3 H3 s3 c3=>?_⟩;have s13:Stp L1 H1 L3 H3:=(s'.yld gr).trans s3;cases o2 with
      |nx=>exact λτ3 r3=>⟨L3,σ2,M2,s13,c3,r3,e'⟩
      |cnt=>exact λτ3 r3=>⟨L3,σ2,M2,s13,c3,r3,e'⟩
      |brk=>cases e';exact q L3 H3 (s1.trans s13) c3
      |ret d=>cases e';exact q L3 H3 (s1.trans s13) c3
   .cases e'
  .have hi':i=xs.length:=by omega
   subst hi';rw[List.drop_length]at e';unfold zCu at e';split at e'
   .rename_i hgd;cases e';obtain ⟨_,stop⟩:=it L' H' _ s' c' hgd;exact .inl ⟨stop,q L' H' (s1.trans s') c' τ' rs'⟩
   .cases e'
 .cases hf
theorem zVL (hg:GOk g fg) (hp:PassesOwn (model X.prog X.w) X.A X.env X.xe) (hc:X.calm=true) (hi:QI X tg iter fi) (ht:PG X tg g) (hb:QSs X body b)
  (hs:∀ x,foldedSetIterable iter X.env x=pure x:=by intro _;rfl):QS X (.For tg iter body [] pos) (zCD fi fg b):=.mk <| PS.imp (zUA hp hc hi.un ht hb.un hs) λ_ _ _ h=>zQ8 hg h
end
section
def zBb (c:FT) (b:FS):Nat->Sd->Mem->Option (Out × Sd × Mem)
 |0,_,_=>none
 |n+1,σ,M=>match c σ M with
  |some (true,M1)=>match b σ M1 with
   |some (.nx,σ2,M2)=>zBb c b n σ2 M2
   |some (.cnt,σ2,M2)=>zBb c b n σ2 M2
   |some (.brk,σ2,M2)=>some (.nx,σ2,M2)
   |some (.ret d,σ2,M2)=>some (.ret d,σ2,M2)
   |none=>none
  |some (false,M1)=>some (.nx,σ,M1)
  |none=>none
theorem zLw {K:Yb} {fc:FT} {b:FS} {n:Nat} {E:Ends} {τ:Sv} {H:Hp} (h:trS K (zBb fc b n) E τ H):zPW (trT K fc) (trS K b) E τ H:=by
 obtain ⟨L,σ,M,o,σf,Mf,c,rs,hf,q⟩:=h;refine ⟨λm τ' H'=>∃ L' σ' M',Stp L H L' H'/\Cor K L' M' H'/\zBi L' H' σ' τ'/\zBb fc b m σ' M'=some (o,σf,Mf),⟨n,L,σ,M,.refl _ _,c,rs,hf⟩,?_⟩;rintro m τ' H' ⟨L',σ',M',s',c',rs',e'⟩;cases m with
 |zero=>unfold zBb at e';cases e'
 |succ m=>
  unfold zBb at e';split at e'
  .rename_i M1 e1;refine ⟨L',σ',M',_,_,c',rs',e1,λL1 H1 s1 c1=>zIE ?_⟩;refine ⟨λτ2 H2=>∃ L2 σ2 M2,Stp L H L2 H2/\Cor K L2 M2 H2/\zBi L2 H2 σ2 τ2/\zBb fc b m σ2 M2=some (o,σf,Mf),λτ2 H2 h2=>⟨m,zXi m,h2⟩,?_⟩;cases eb:b σ' M1 with
   |none=>rw[eb]at e';cases e'
   |some r=>
    obtain ⟨o2,σ2,M2⟩:=r;rw[eb]at e';refine ⟨L1,σ',M1,_,_,_,c1,rs'.stp s1,eb,λL3 H3 s3 c3=>?_⟩;have s13:Stp L H L3 H3:=(s'.trans s1).trans s3;cases o2 with
    |nx=>exact λτ3 r3=>⟨L3,σ2,M2,s13,c3,r3,e'⟩
    |cnt=>exact λτ3 r3=>⟨L3,σ2,M2,s13,c3,r3,e'⟩
    |brk=>cases e';exact q L3 H3 s13 c3
    |ret d=>cases e';exact q L3 H3 s13 c3
  .rename_i M1 e1;cases e';exact ⟨L',_,M',_,_,c',rs',e1,λL1 H1 s1 c1=>zHv (q L1 H1 (s'.trans s1) c1 τ' (rs'.stp s1))⟩
  .cases e'
theorem zR6 (n:Nat) (hp:PassesOwn (model X.prog X.w) X.A X.env X.xe) (hc:QT X c fc) (hb:QSs X body b):QS X (.While c body [] pos) (zBb fc b n) :=
 .mk <| PS.imp (zQM hp hc.un hb.un) λ_ _ _ h=>zLw h
def zBM (own:Yj) (σ:Sd):Sd:=own.foldl (λσ i=>σ.set i none) σ
theorem zEQ:∀ (own:Yj) {σ:Sd} {τ:Sv},zBi L H σ τ->zBi L H (zBM own σ) (clr own τ)
 |[],_,_,h=>h
 |i::r,σ,τ,h=>by
  refine zEQ r (σ:=σ.set i none) (τ:=τ.set i none) ⟨by simp[h.1],λj d q=>?_⟩;rw[zYK]at q ⊢;split at q
  .split at q <;> cases q
  .rename_i z;rw[zW3 z];exact h.2 j d q
def zA8 (g:FG) (tc:FT) (te:FE) (σ:Sd) (all:List D) (gd:Option (Mem->Prop)):List D->Mem->Option (List D × Mem)
 |[],M=>open Classical in if zA0 gd all M then some ([],M) else none
 |x::r,M=>open Classical in if zA0 gd all M then match g x σ with
   |some σ1=>match tc σ1 M with
    |some (true,M1)=>match toD te σ1 M1 with
     |some (d,M2)=>match zA8 g tc te σ all gd r M2 with
      |some (ds,M3)=>some (d::ds,M3)
      |none=>none
     |none=>none
    |some (false,M1)=>zA8 g tc te σ all gd r M1
    |none=>none
   |none=>none
  else none
def zh (own:Yj) (fi:FI) (g:FG) (tc:FT) (te:FE):FE:=λσ M=>match fi σ M with
 |some (xs,gd,M1)=>if xs.length<=sizeLine then match zA8 g tc te (zBM own σ) xs gd xs M1 with
   |some (ys,M2)=>some (.fl ys,M2)
   |none=>none
  else none
 |none=>none
def zE1 (own:Yj) (g:TG) (fg:FG):Prop:=∀ {L:Yg} {H:Hp} {σ σ':Sd} {τ τ0:Sv} {d:D} {v:V} {Q:Sv->Hp->Prop},zBi L H σ τ->Ext (clr own τ0) τ->Rep L H d v->fg d σ=some σ'->(∀ τ',zBi L H σ' τ'->Ext (clr own τ0) τ'->Q τ' H)->g v τ H Q
theorem zBf (hi:i∈own):zE1 own (zDo i) (gN i):=by
 intro L H σ σ' τ τ0 d v Q rs ex r hf q;unfold gN at hf;cases hf;exact q _ (rs.set r) (ex.set hi)
theorem zI6 {K:Yb} {own:Yj} {fi:FI} {g:TG} {fg:FG} {tc:FT} {te:FE} (hg:zE1 own g fg) {τ:Sv} {H:Hp} {Q:VK} (h:trE K (zh own fi fg tc te) τ H Q):zPY own (trI K fi) g (trT K tc) (trD K (toD te)) τ H Q:=by
 obtain ⟨L,σ,M,d,Mf,c,rs,hf,q⟩:=h;unfold zh at hf;split at hf
 .rename_i xs gd M1 e1;split at hf
  .rename_i hz;split at hf
   .rename_i zs M2 e2;cases hf;refine ⟨L,σ,M,_,_,_,c,rs,e1,λL1 H1 J s1 c1 it=>?_⟩
    refine ⟨λi m ys H'=>m=xs.length-i/\i<=xs.length /\ ∃ L' M' as bs,Stp L1 H1 L' H'/\Cor K L' M' H'/\zP L' H' as ys/\as.length<=i/\zA8 fg tc te (zBM own σ) xs gd (xs.drop i) M'=some (bs,Mf)/\as++bs=zs,
     ⟨xs.length,by simp,zXX _,L1,M1,[],zs,.refl _ _,c1,.nil,zWr _,by simpa using e2,rfl⟩,?_⟩
    rintro i m ys H' ⟨rfl,hi,L',M',as,bs,s',c',r',hl,e',hab⟩;have hys:ys.length<=i:=by rw[r'.length];exact hl
    by_cases hlt:i<xs.length
    .rw[zCU hlt]at e';unfold zA8 at e';split at e'
     .rename_i hgd;obtain ⟨step,_⟩:=it L' H' M' s' c' hgd;obtain ⟨go,yl⟩:=step i xs[i] (zWp hlt);split at e'
      .rename_i σ1 eg;refine .inr ⟨go,λv H2 hy=>?_⟩;obtain ⟨gr,rv⟩:=yl v H2 hy;have s2:Stp L1 H1 L' H2:=s'.yld gr;refine hg (zEQ own ((rs.stp s1).stp s2)) (.refl _) rv eg λτ2 r2 x2=>⟨x2,?_⟩;split at e'
       .rename_i M3 e3;split at e'
        .rename_i d M4 e4;split at e'
         .rename_i ds M5 e5;cases e';refine ⟨L',σ1,M',_,_,c'.grow gr,r2,e3,λL3 H3 s3 c3=>zIE ?_⟩;refine ⟨L3,σ1,M3,_,_,c3,r2.stp s3,e4,λL4 H4 w s4 c4 r4=>?_⟩;have st:Stp L' H' L4 H4:=((Stp.grow gr).trans s3).trans s4;refine ⟨Nat.lt_of_le_of_lt hys (zXA hlt hz),xs.length-(i+1),by omega,rfl,hlt,L4,M4,as++[d],ds,s'.trans st,c4,(r'.stp st).app (.cons r4 .nil),by simp;omega,e5,by rw[<-hab];simp⟩
         .cases e'
        .cases e'
       .rename_i M3 e3;refine ⟨L',σ1,M',_,_,c'.grow gr,r2,e3,λL3 H3 s3 c3=>zHv ?_⟩;have st:Stp L' H' L3 H3:=(Stp.grow gr).trans s3;exact ⟨xs.length-(i+1),by omega,rfl,hlt,L3,M3,as,bs,s'.trans st,c3,r'.stp st,by omega,e',hab⟩
       .cases e'
      .cases e'
     .cases e'
    .have hi':i=xs.length:=by omega
     subst hi';rw[List.drop_length]at e';unfold zA8 at e';split at e'
     .rename_i hgd;cases e';obtain ⟨_,stop⟩:=it L' H' _ s' c' hgd;refine .inl ⟨stop,zXC hys hz,λp hp=>?_⟩;rw[zXV]at hab;subst hab;exact q L' _ _ ((s1.trans s').trans (.upd hp)) (c'.upd hp) (zr.newLst (s1.trans s') c c' hp r')
     .cases e'
   .cases hf
  .cases hf
 .cases hf
structure QIfs (X:Cx) (ifs:Yi) (f:FT):Prop where
 un:zGB X ifs (trT X.K f)
def zn:FT:=λ_ M=>some (true,M)
theorem zUB:QIfs X [] zn:=.mk λzB s σ H Q I h=>by
 obtain ⟨L,σ',M,d,M',c,rs,hf,q⟩:=h;unfold zn at hf;cases hf;exact zP5 zB s σ H Q I (q L H (.refl L H) c)
theorem zTd (h:QT X c f):QIfs X [c] f:=.mk (zPd h.un)
structure QParts (X:Cx) (scope:Y0) (tg:Expr) (ifs:Yi) (elt:Expr) (g:TG) (tc:FT) (te:FE):Prop where
 g:∀ zB cl s H fp,PG (zN X zB scope cl s H fp) tg g
 c:∀ zB cl s H fp,QIfs (zN X zB scope cl s H fp) ifs tc
 e:∀ zB cl s H fp,QE (zN X zB scope cl s H fp) elt te
theorem QParts.parts {g:TG} {tc:FT} {te:FE} (p:QParts X scope tg ifs elt g tc te):CompParts X scope tg ifs elt g (trT X.K tc) (trD X.K (toD te)) :=
 ⟨p.g,λzB cl s H fp=>(p.c zB cl s H fp).un,λzB cl s H fp=>(zBg (p.e zB cl s H fp)).un⟩
theorem zMA (hg:zE1 own g fg) (C:CompIn X scope own) (hcalm:X.calm=true) (hi:QI X tg iter fi) (p:QParts X scope tg ifs elt g tc te) (hs:∀ x,foldedSetIterable iter X.env x=pure x:=by intro _;rfl) :
  QE X (.ListComp elt [⟨tg,iter,ifs,0⟩] scope pos) (zh own fi fg tc te):=.mk <| PE.imp (zSG C hcalm hi.un p.parts hs) λ_ _ _ h=>zI6 hg h
theorem zOb (hN:X.N.Nodup) (hi':X.N[i]?=some x) (hx:Loc X.env.scope x) (hfn:X.fn x=true\/X.env.scope.names.lookup x=some .local)
  (hsw:swapsWith (.ListComp elt [⟨tg,iter,ifs,0⟩] scope pos) (some (.Name x pos')) pos''.line X.env=pure true)
  (hg:zE1 own g fg) (C:CompIn X scope own) (hcalm:X.calm=true) (hi:QI X tg iter fi) (p:QParts X scope tg ifs elt g tc te) (hs:∀ x,foldedSetIterable iter X.env x=pure x:=by intro _;rfl) :
  QS X (.Assign [.Name x pos'] (.ListComp elt [⟨tg,iter,ifs,0⟩] scope pos) pos'') (zi i (zh own fi fg tc te)) :=
 .mk <| PS.imp (zLh hN hi' hx hfn C hcalm hi.un p.parts hsw hs) λ_ _ _ z=>zGw (λ_ _ _ z=>zI6 hg z) z
end
abbrev FF:=List D->Mem->Option (D × Mem)
def spF (K:Yb) (n:Nat) (g:FF):Sp:=λvs H Q _=>∃ L ds M d M',Cor K L M H/\zP L H ds vs/\ds.length=n/\g ds M=some (d,M') /\ ∀ L' H' v,Stp L H L' H'->Cor K L' M' H'->Rep L' H' d v->Q v H'
def zK (g:FF) (fa:FA):FE:=λσ M=>match fa σ M with
 |some (ds,M1)=>match g ds M1 with
  |some (d,M2)=>some (.dat d,M2)
  |none=>none
 |none=>none
section
theorem zTk (F:FnOk X.prog X.w X.K X.mg X.base CX0 k f fd ps (spF X.K (e::es).length g)) (hr:Room k X.A) (hg:Gl X x) (hm:X.mg x=some (.ref f)) (hk:PySem.W.keepIn X.K (.ref f)=true) (hb:zGx X.K fd ps [])
  (ha:QA X (e::es) fa) (hl:∀ σ M ds M1,fa σ M=some (ds,M1)->ds.length=(e::es).length) (hdb:(x==("__debug__" : Str))=false:=by decide) (he:starEach (e::es) X.env=(false,eval e X.env)::starEach es X.env:=by rfl) (hpl:(backTo pos (starEach es X.env)).any (·.1)=false:=by rfl) :
  QE X (.Call (.Name x p) (e::es) [] pos) (zK g fa) :=
 .mk <| PE.imp (zSI F hr hg hm hk hb .nil zVn ha.un hdb he hpl) λτ H Q zz=>by
  obtain ⟨L,σ,M,d,M',c,rs,hf,q⟩:=zz;unfold zK at hf;split at hf
  .rename_i ds M1 e1;split at hf
   .rename_i d' M2 e2;cases hf;refine ⟨L,σ,M,_,_,c,rs,e1,λL1 H1 vs s1 c1 r1=>?_⟩;dsimp only;rw[zXV];exact ⟨L1,ds,M1,d',_,c1,r1,hl _ _ _ _ e1,e2,λL2 H2 v s2 c2 r2=>q L2 H2 v (s1.trans s2) c2 r2⟩
   .cases hf
  .cases hf
def zSY (fa:FA) (n:Nat):Prop:=∀ σ M ds M1,fa σ M=some (ds,M1)->ds.length=n
theorem zQD:zSY zF 0:=λσ M ds M1 h=>by unfold zF at h;cases h;rfl
theorem zOP {f:FD} {g:FA} {n:Nat} (h:zSY g n):zSY (zD f g) (n+1):=λσ M ds M1 q=>by
 unfold zD at q;split at q
 .split at q
  .rename_i e2;cases q;simp[h _ _ _ _ e2]
  .cases q
 .cases q
def zBE (n:Nat) (b:FS):FF:=λds M=>match b (ds.map some++List.replicate (n-ds.length) none) M with
 |some (.ret d,_,M')=>some (d,M')
 |some (.nx,_,M')=>some (.non,M')
 |_=>none
theorem zI5:∀ {ds:List D} {vs:List V},zP L H ds vs->zBi L H (ds.map some++List.replicate (N.length-ds.length) none) (L2.start N vs):=λ{ds vs} r=>by
 unfold L2.start;have hl:=r.length;refine ⟨by simp[hl],λi d q=>?_⟩;by_cases hi:i<ds.length
 .rw[zWs (by simpa using hi),zW8]at q;rw[zWs (by simpa [hl] using hi),zW8];cases e1:ds[i]? with
  |none=>rw[e1]at q;cases q
  |some d'=>
   rw[e1]at q;cases q;obtain ⟨v,e2,r2⟩:=r.get e1;exact ⟨v,by rw[e2];rfl,r2⟩
 .rw[zXv (by simpa using hi),List.getElem?_replicate]at q;split at q <;> cases q
theorem zx {P:Ym} {w:Yo} {K:Yb} {mg:Yh} {base:Heap} {qual:Str} {st:Stmt} {N:Yk} {b:FS} {n:Nat} (F:Fun K x qual st f fd) (S:FnScope N ps (zV st)) (hn:ps.length=n)
  (hb:∀ (cdv:Yu) (A:Yn) (outer:List Env) (s:Yl) (H:Hp) (E:XK),Room k (A.deeper (envOfC qual (zV st) s.heap.objs.size f cdv))->QSs (zLv CX0 P w K mg base N qual (zV st) f cdv A outer s H E).nox (zCz st) b) :
  FnOk P w K mg base CX0 (k+1) f fd ps (spF K n (zBE N.length b)):=by
 refine F.ok S (λvs H Q E h=>?_) (λcdv A outer s H vs Q E hr h=>⟨_,(hb cdv A outer s H E hr).un,?_⟩)
 .obtain ⟨L,ds,M,d,M',c,r,hl,_⟩:=h;rw[r.length,hl,hn]
 .obtain ⟨L,ds,M,d,M',c,r,hl,hf,q⟩:=h;unfold zBE at hf;split at hf
  .rename_i d' σ' M1 e1;cases hf;exact ⟨L,_,M,_,_,_,c,zI5 r,e1,λL1 H1 s1 c1 v r1=>q L1 H1 v s1 c1 r1⟩
  .rename_i σ' M1 e1;cases hf;exact ⟨L,_,M,_,_,_,c,zI5 r,e1,λL1 H1 s1 c1 τ' r1=>q L1 H1 .non s1 c1 (by unfold Rep;rfl)⟩
  .cases hf
mutual
def D.und (n:Nat):D->Bool
 |.tup ds=>D.unds n ds
 |.ref k=>decide (k<n)
 |_=>true
def D.unds (n:Nat):List D->Bool
 |[]=>true
 |d::ds=>D.und n d&&D.unds n ds
end
mutual
theorem Rep.less:∀ {d:D} {v:V},D.und L.length d=true->Rep (L++N) H d v->Rep L H d v
 |.non,_,_,h=>by unfold Rep at h ⊢;exact h
 |.bl _,_,_,h=>by unfold Rep at h ⊢;exact h
 |.int _,_,_,h=>by unfold Rep at h ⊢;exact h
 |.str _,_,_,h=>by unfold Rep at h ⊢;exact h
 |.tup ds,_,hb,h=>by
  unfold D.und at hb;unfold Rep at h ⊢;obtain ⟨a,vs,rfl,e,r⟩:=h;exact ⟨a,vs,rfl,e,zP.less hb r⟩
 |.ref n,_,hb,h=>by
  unfold D.und at hb;unfold Rep at h ⊢;obtain ⟨a,rfl,e⟩:=h;exact ⟨a,rfl,by rwa [zWs (zXh hb)]at e⟩
theorem zP.less:∀ {ds:List D} {vs:List V},D.unds L.length ds=true->zP (L++N) H ds vs->zP L H ds vs
 |[],_,_,h=>by unfold zP at h ⊢;exact h
 |d::ds,_,hb,h=>by
  unfold D.unds at hb;rw[zXL]at hb;unfold zP at h ⊢;obtain ⟨v,r,rfl,h1,h2⟩:=h;exact ⟨v,r,rfl,Rep.less hb.1 h1,zP.less hb.2 h2⟩
end
theorem zA9.less {κ:Type} {kf:D->Option κ} {L N:Yg} {H:Hp}:∀ {ps:List (D × D)} {vs:List (κ × V)},(ps.all λp=>D.und L.length p.1&&D.und L.length p.2)=true->zA9 kf (L++N) H ps vs->zA9 kf L H ps vs
 |[],_,_,h=>h
 |p::r,_,hb,h=>by
  rw[List.all_cons,zXL,zXL]at hb;obtain ⟨k,v,r',rfl,e,h1,h2⟩:=h;exact ⟨k,v,r',rfl,e,Rep.less hb.1.2 h1,zA9.less hb.2 h2⟩
def MO.und (n:Nat):MO->Bool
 |.lst xs=>D.unds n xs
 |.fro xs=>D.unds n xs
 |.dict kvs=>kvs.all λp=>D.und n p.1&&D.und n p.2
 |.dicT kvs=>kvs.all λp=>D.und n p.1&&D.und n p.2
 |.set xs=>D.unds n xs
 |.froT kvs=>kvs.all λp=>D.und n p.1&&D.und n p.2
 |.froK kvs=>kvs.all λp=>D.und n p.1&&D.und n p.2
def zIt (g:FF):FF:=λds M=>match g ds M with
 |some (d,M')=>if D.und M.length d&&(M'.take M.length).all (MO.und M.length)&&decide (M.length<=M'.length) then some (d,M'.take M.length) else none
 |none=>none
theorem zM0 {P:Ym} {w:Yo} {K:Yb} {mg:Yh} {base:Heap} {n:Nat} {g:FF} (h:FnOk P w K mg base CX0 k f fd ps (spF K n g)):FnOk P w K mg base CX0 k f fd ps (spF K n (zIt g)) :=
 h.imp λvs H Q E ⟨L,ds,M,d,M',c,r,hl,hf,q⟩=>by
  unfold zIt at hf;split at hf
  .rename_i d' M1 e1;split at hf
   .rename_i hb;cases hf;simp only[zXL,zXy,zXM]at hb;obtain ⟨⟨hb1,hb2⟩,hb3⟩:=hb;refine ⟨L,ds,M,_,_,c,r,hl,e1,λL1 H1 v s1 c1 r1=>?_⟩;obtain ⟨N,rfl⟩:=s1.pre;rw[<-c.len]at hb1 hb2 hb3;refine q L H1 v ⟨⟨[],by simp⟩,λa ha=> .inl ha,s1.old,s1.tup,s1.frz⟩ ⟨?_,?_,λi a m e2 e3=>?_⟩ (Rep.less hb1 r1)
    .rw[zX9,<-c.len];omega
    .exact (zXz.mp c1.nd).1
    .rw[<-c.len]at e3;have hi:i<L.length:=(zWo.mp e2).1;have hm:m∈M1.take L.length:=zXc e3;rw[List.getElem?_take_of_lt hi]at e3;have z:=c1.obj i a m (zB1 e2) e3;have bl:=hb2 m hm;cases m with
     |lst xs=>obtain ⟨ws,e4,r4⟩:=z;exact ⟨ws,e4,zP.less bl r4⟩
     |fro xs=>obtain ⟨o,ws,e4,r4⟩:=z;exact ⟨o,ws,e4,zP.less bl r4⟩
     |dict ps=>obtain ⟨vs,e,r⟩:=z;exact ⟨vs,e,zA9.less bl r⟩
     |dicT ps=>obtain ⟨vs,e,r⟩:=z;exact ⟨vs,e,zA9.less bl r⟩
     |set _=>exact z
     |froT ps=>obtain ⟨o,vs,e,r⟩:=z;exact ⟨o,vs,e,zA9.less bl r⟩
     |froK ps=>obtain ⟨o,vs,e,r⟩:=z;exact ⟨o,vs,e,zA9.less bl r⟩
   .cases hf
  .cases hf
def zDI (g:FF):FF:=λds M=>if D.unds 0 ds then match g ds [] with
  |some (d,_)=>if D.und 0 d then some (d,M) else none
  |none=>none
 else none
theorem zCS {P:Ym} {w:Yo} {K:Yb} {mg:Yh} {base:Heap} {n:Nat} {g:FF} (h:FnOk P w K mg base CX0 k f fd ps (spF K n g)):FnOk P w K mg base CX0 k f fd ps (spF K n (zDI g)) :=
 h.imp λvs H Q E ⟨L,ds,M,d,M',c,r,hl,hf,q⟩=>by
  unfold zDI at hf;split at hf
  .rename_i hb0;split at hf
   .rename_i d' M1 e1;split at hf
    .rename_i hb;cases hf;refine ⟨[],ds,[],_,_,⟨rfl,.nil,λi a m e=>by simp at e⟩,zP.less (L:=[]) (N:=L) hb0 (by simpa using r),hl,e1,λL1 H1 v s1 c1 r1=>?_⟩;have gr:∀ a o,H a=some o->H1 a=some o:=λa o e=>s1.old a o e (by simp);exact q L H1 v (.grow gr) (c.grow gr) ((Rep.less (L:=[]) (N:=L1) hb (by simpa using r1)).more L |> λz=>by simpa using z)
    .cases hf
   .cases hf
  .cases hf
theorem zUb (hl:PE X l tl):PI X tg l (λσ H R=>tl σ H λx H1=>∃ a,x=.ref a/\((∃ xs,SqL X.K H1 a xs)/\R (Itl X.K a) H1\/(∃ xs,SqT X.K H1 a xs)/\R (Itt X.K a) H1)):=by
 intro zB s σ H R I h;refine thn (hl zB s σ H _ I h) λv s1 ⟨y,H1,I1,r1,a,hy,h1⟩=>?_;subst hy;cases r1;have fpk:∀ b∈[s1.heap.objs.size],zCI X zB H1 b:=λb hb=>by
  have e:b=s1.heap.objs.size:=by simpa using hb
  subst e;exact I1.fpOk (zWr _) (I1.hok.fresh (zWr _))
 rcases h1 with ⟨⟨xs,hq⟩,q⟩|⟨⟨xs,hq⟩,q⟩
 .obtain ⟨its,rv,pl,hz⟩:=I1.list hq;exact wpAny_pyIter_list pl.isList ⟨s1.heap.objs.size,[s1.heap.objs.size],_,_,H1,rfl,I1.kept (t':=s1.toks) λb o e=>zWm _ e,zOv a _,⟨_,zWv _ rfl,rfl,rfl⟩,fpk,q⟩
 .obtain ⟨its,rv,pl,hz⟩:=I1.tuple hq;exact wpAny_pyIter_tuple (show s1.heap.IsTuple a its.toArray from pl) ⟨s1.heap.objs.size,[s1.heap.objs.size],_,_,H1,rfl,I1.kept (t':=s1.toks) λb o e=>zWm _ e,zL3 a _,⟨_,zWv _ rfl,rfl,rfl⟩,fpk,q⟩
def zDM (x:EV) (xs:List D):Option (Mem->Prop):=match x with
 |.dat (.ref n)=>some λM=>M[n]?=some (.lst xs)\/M[n]?=some (.fro xs)
 |_=>none
def zq (f:FE):FI:=λσ M=>match f σ M with
 |some (x,M1)=>match zAF M1 x with
  |some xs=>some (xs,zDM x xs,M1)
  |none=>none
 |none=>none
def zAH (f:FA):FI:=λσ M=>match f σ M with
 |some ([.int j],M1)=>if -(2 ^ 62)<=j/\j<2 ^ 62 then some ((List.range j.toNat).map λ(k:Nat)=>D.int k,none,M1) else none
 |some ([.int i,.int j],M1)=>if -(2 ^ 62)<=i/\i<2 ^ 62 /\ -(2 ^ 62)<=j/\j<2 ^ 62 then some ((List.range (j-i).toNat).map λ(k:Nat)=>D.int (i+k),none,M1) else none
 |_=>none
theorem zT9 (h:QE X e g):QI X tg e (zq g):=.mk <| PI.imp (zUb h.un) λτ H R zz=>by
 obtain ⟨L,σ,M,xs,gd,M',c,rs,hf,q⟩:=zz;unfold zq at hf;split at hf
 .rename_i y M1 e1;split at hf
  .rename_i zs e2;cases hf;refine ⟨L,σ,M,_,_,c,rs,e1,λL1 H1 v s1 c1 r1=>?_⟩;unfold zAF at e2;cases t:zBp y with
   |some ws=>
    rw[t]at e2;cases e2;obtain ⟨a,vs,rfl,e3,r3⟩:=zBD r1 t;refine ⟨a,rfl,.inr ⟨⟨vs,.of e3⟩,q L1 H1 _ s1 c1 λL2 H2 M2 s2 c2 _=>?_⟩⟩;have e4:=s2.tup a vs e3;have r4:=r3.stp s2;refine ⟨λi d hd=>?_,⟨vs,.of e4,by rw[r4.length];exact zWr _⟩⟩;obtain ⟨u,hu,ru⟩:=r4.get hd;refine ⟨⟨vs,u,.of e4,hu⟩,λv H3 ⟨hH,hv⟩=>?_⟩;subst hH;have:=hv vs (.of e4);rw[hu]at this;cases this;exact ⟨λ_ _ z=>z,ru⟩
   |none=>
    rw[t]at e2;obtain ⟨a,vs,rfl,e3,r3⟩:=zA3 c1 r1 e2;refine ⟨a,rfl,.inl ⟨⟨vs,.inl e3⟩,q L1 H1 _ s1 c1 λL2 H2 M2 s2 c2 hgd=>?_⟩⟩;have key:∃ vs',SqL X.K H2 a vs'/\zP L2 H2 xs vs':=by
     cases y with
     |fl ys=>
      cases e2;obtain ⟨p',vs',hp',_,e5,e6,r6⟩:=r1;cases hp';exact ⟨vs',.of (s2.old _ _ e5 e6),r6.stp s2⟩
     |dat d=>
      cases d with
      |ref n=>
       unfold zr Rep at r1;obtain ⟨a',ha',e5⟩:=r1;cases ha';have e6:L2[n]?=some a:=by obtain ⟨N,hN⟩:=s2.pre;rw[hN];exact zB1 e5
       rcases hgd with z|z
       .obtain ⟨vs',e7,r7⟩:=c2.obj n a _ e6 z;exact ⟨vs',.of e7,r7⟩
       .obtain ⟨o,vs',e7,r7⟩:=c2.obj n a _ e6 z;exact ⟨vs',.inl (.inr ⟨o,e7⟩),r7⟩
      |_=>cases e2
    obtain ⟨vs',hq,r7⟩:=key;refine ⟨λi d hd=>?_,⟨vs',hq,by rw[r7.length];exact zWr _⟩⟩;obtain ⟨u,hu,ru⟩:=r7.get hd;refine ⟨⟨vs',u,hq,hu⟩,λv H3 ⟨hH,hv⟩=>?_⟩;subst hH;have:=hv vs' hq;rw[hu]at this;cases this;exact ⟨λ_ _ z=>z,ru⟩
  .cases hf
 .cases hf
theorem zEN (h:zP L H [.int j] vs):vs=[.int j]:=by
 unfold zP at h;obtain ⟨v,r,rfl,h1,h2⟩:=h;unfold zP at h2;unfold Rep at h1;subst h1 h2;rfl
theorem zQn {K:Yb} {L:Yg} {H:Hp} {lo:Int} {n:Nat}:zVg K (Itr lo n) L H ((List.range n).map λ(k:Nat)=>D.int (lo+k)) none:=by
 intro L' H' M' s c _;refine ⟨λi d hd=>?_,by simp[Itr]⟩;rw[zW8]at hd;cases q:(List.range n)[i]? with
 |none=>rw[q]at hd;cases hd
 |some k=>
  rw[q]at hd;cases hd;have hi:i<n:=by have:=(zWo.mp q).1;simpa using this
  rw[zYp hi]at q;cases q;refine ⟨hi,λv H'' ⟨hH,hv⟩=>?_⟩;subst hH hv;exact ⟨λ_ _ z=>z,zAp⟩
theorem zOX {tg a:Expr} {g:FA} (hg:Gl X "range") (hm:X.mg "range" = none) (ha:QA X [a] g) (hl:zSY g 1) (hs:starEach [a] X.env=[(false,eval a X.env)]:=by rfl):QI X tg (.Call (.Name "range" p) [a] [] pos) (zAH g) :=
 .mk <| PI.imp (zNe hg hm ha.un hs) λτ H R zz=>by
  obtain ⟨L,σ,M,xs,gd,M',c,rs,hf,q⟩:=zz;unfold zAH at hf;split at hf
  .rename_i j M1 e1;split at hf
   .rename_i hb;cases hf;refine ⟨L,σ,M,_,_,c,rs,e1,λL1 H1 vs s1 c1 r1=>⟨j,zEN r1,hb.1,hb.2,q L1 H1 _ s1 c1 ?_⟩⟩;have z:=zQn (K:=X.K) (L:=L1) (H:=H1) (lo:=0) (n:=j.toNat);simpa using z
   .cases hf
  .rename_i e1;have:=hl _ _ _ _ e1;simp at this
  .cases hf
end
section
variable {es rest:Yi}
def zDl (f g:FT):FT:=λσ M=>match f σ M with
 |some (true,M1)=>g σ M1
 |r=>r
def zFa (f g:FT):FT:=λσ M=>match f σ M with
 |some (false,M1)=>g σ M1
 |r=>r
structure QW (X:Cx) (e:Expr) (f:FT):Prop where
 un:PW X e (trT X.K f)
theorem PW.imp (h:PW X e t) (hi:∀ τ H Q,t' τ H Q->t τ H Q):PW X e t':=λwh zB s σ H Q I q=>h wh zB s σ H Q I (hi _ _ _ q)
theorem zSt (h:QT X a f):QW X (.BoolOp .And [a] pos) f:=.mk (zRv h.un)
theorem zUG (h:QT X a f):QW X (.BoolOp .Or [a] pos) f:=.mk (zTg h.un)
theorem zUn (h1:QT X a f) (h2:QW X (.BoolOp .And (b::rest) pos) g):QW X (.BoolOp .And (a::b::rest) pos) (zDl f g):=.mk <| PW.imp (zTj h1.un h2.un) λτ H Q zz=>by
 obtain ⟨L,σ,M,d,M',c,rs,hf,q⟩:=zz;unfold zDl at hf;split at hf
 .rename_i M1 e1;exact ⟨L,σ,M,_,_,c,rs,e1,λL1 H1 s1 c1=>zIE ⟨L1,σ,M1,_,_,c1,rs.stp s1,hf,λL2 H2 s2 c2=>q L2 H2 (s1.trans s2) c2⟩⟩
 .rename_i hne;cases d with
  |true=>exact absurd hf (hne M')
  |false=>exact ⟨L,σ,M,_,_,c,rs,hf,λL1 H1 s1 c1=>zHv (q L1 H1 s1 c1)⟩
theorem zVz (h1:QT X a f) (h2:QW X (.BoolOp .Or (b::rest) pos) g):QW X (.BoolOp .Or (a::b::rest) pos) (zFa f g):=.mk <| PW.imp (zU6 h1.un h2.un) λτ H Q zz=>by
 obtain ⟨L,σ,M,d,M',c,rs,hf,q⟩:=zz;unfold zFa at hf;split at hf
 .rename_i M1 e1;exact ⟨L,σ,M,_,_,c,rs,e1,λL1 H1 s1 c1=>zHv ⟨L1,σ,M1,_,_,c1,rs.stp s1,hf,λL2 H2 s2 c2=>q L2 H2 (s1.trans s2) c2⟩⟩
 .rename_i hne;cases d with
  |false=>exact absurd hf (hne M')
  |true=>exact ⟨L,σ,M,_,_,c,rs,hf,λL1 H1 s1 c1=>zIE (q L1 H1 s1 c1)⟩
theorem zVa (h:QW X e f):QT X e f:=.mk (PW.pt h.un)
def vIf (t:FT) (f g:FE):FE:=λσ M=>match t σ M with
 |some (true,M1)=>f σ M1
 |some (false,M1)=>g σ M1
 |none=>none
theorem zSd (hc:QT X c t) (h1:QE X a f) (h2:QE X b g):QE X (.IfExp c a b pos) (vIf t f g):=.mk <| PE.imp (zQh hc.un h1.un h2.un) λτ H Q zz=>by
 obtain ⟨L,σ,M,d,M',c,rs,hf,q⟩:=zz;unfold vIf at hf;split at hf
 .rename_i M1 e1;exact ⟨L,σ,M,_,_,c,rs,e1,λL1 H1 s1 c1=>zIE ⟨L1,σ,M1,_,_,c1,rs.stp s1,hf,λL2 H2 w s2 c2 r2=>q L2 H2 w (s1.trans s2) c2 (r2.back s1 c s2.sub)⟩⟩
 .rename_i M1 e1;exact ⟨L,σ,M,_,_,c,rs,e1,λL1 H1 s1 c1=>zHv ⟨L1,σ,M1,_,_,c1,rs.stp s1,hf,λL2 H2 w s2 c2 r2=>q L2 H2 w (s1.trans s2) c2 (r2.back s1 c s2.sub)⟩⟩
 .cases hf
abbrev KM:=EV->List D->Mem->Option (D × Mem)
def fM (k:KM) (f:FE) (g:FA):FE:=λσ M=>match f σ M with
 |some (x,M1)=>match zBW M1 x with
  |some _=>match g σ M1 with
   |some (ds,M2)=>match k x ds M2 with
    |some (d,M3)=>some (.dat d,M3)
    |none=>none
   |none=>none
  |none=>none
 |none=>none
def zPA (K:Yb) (r:V->List V->Hp->VK->Prop) (k:KM):Prop:=∀ {L:Yg} {M M':Mem} {H H0:Hp} {x:EV} {ds:List D} {d:D} {v:V} {vs:List V} {Q:VK},Cor K L M H->zr H0 L H x v->zP L H ds vs->k x ds M=some (d,M') ->
 (∀ L' H' u,Stp L H L' H'->Cor K L' M' H'->Rep L' H' d u->Q u H')->r v vs H Q
theorem zJN {K:PySem.W.Frag} {r:V->List V->Hp->VK->Prop} {k:KM} {f:FE} {g:FA} (hk:zPA K r k) {τ:Sv} {H:Hp} {Q:VK} (h:trE K (fM k f g) τ H Q):tBM K "list" r (trE K f) (trA K g) τ H Q:=by
 obtain ⟨L,σ,M,d,M',c,rs,hf,q⟩:=h;unfold fM at hf;split at hf
 .rename_i x M1 e1;split at hf
  .rename_i xs e2;split at hf
   .rename_i ds M2 e3;split at hf
    .rename_i d' M3 e4;cases hf;refine ⟨L,σ,M,_,_,c,rs,e1,λL1 H1 v s1 c1 r1=>?_⟩;obtain ⟨a,vs,rfl,e5,r5⟩:=zA3 c1 r1 e2;refine ⟨.inl ⟨rfl,vs,.inl e5⟩,L1,σ,M1,_,_,c1,rs.stp s1,e3,λL2 H2 ws s2 c2 r2=>?_⟩;exact hk c2 (r1.stp s2) r2 e4 λL3 H3 u s3 c3 r3=>q L3 H3 u ((s1.trans s2).trans s3) c3 r3
    .cases hf
   .cases hf
  .cases hf
 .cases hf
def zAP:KM:=λx ds M=>match x,ds with
 |.dat (.ref n),[d]=>match M[n]? with
  |some (.lst xs)=>if xs.length<sizeLine then some (.non,M.set n (.lst (xs++[d]))) else none
  |_=>none
 |_,_=>none
theorem zP.one (h:zP L H [d] vs):∃ v,vs=[v]/\Rep L H d v:=by
 unfold zP at h;obtain ⟨v,r,rfl,h1,h2⟩:=h;unfold zP at h2;subst h2;exact ⟨v,rfl,h1⟩
theorem zMp {K:Yb}:zPA K zMz zAP:=by
 intro L M M' H H0 x ds d v vs Q c rx rd hk q;unfold zAP at hk;split at hk
 .rename_i n d';split at hk
  .rename_i xs e1;split at hk
   .rename_i hz;cases hk;unfold zr Rep at rx;obtain ⟨a,rfl,e2⟩:=rx;obtain ⟨ws,e3,r3⟩:=c.obj n a _ e2 e1;obtain ⟨w,rfl,r4⟩:=rd.one;obtain ⟨c5,s5⟩:=c.write e2 e1 (r3.app (.cons r4 .nil));exact ⟨a,ws,w,rfl,rfl,e3,by rw[r3.length];exact hz,q L _ _ s5 c5 (by unfold Rep;rfl)⟩
   .cases hk
  .cases hk
 .cases hk
theorem zP8 (h:QE X a f) (hg:QA X [e] g) (hbase:attributeBase a "append" X.env (eval a X.env)=eval a X.env:=by rfl)
  (hfew:((backTo cpos (starEach [e] X.env)).all (λx=> !x.1)&&(backToKw cpos (keywordEach [] X.env)).all (λx=>x.1.isSome)&&decide ([e].length+([]:List Keyword).length+(if ([]:List Keyword).isEmpty then 0 else 1)<30))=true:=by rfl)
  (hline:(apos.endLine==cpos.line)=true:=by rfl) (hs:starEach [e] X.env=(false,eval e X.env)::starEach [] X.env:=by rfl) (hplain:(backTo cpos (starEach [] X.env)).any (·.1)=false:=by rfl) :
  QE X (.Call (.Attribute a "append" apos) [e] [] cpos) (fM zAP f g) :=
 .mk <| PE.imp (zKs PySem.F.plainAttrs_list PySem.F.slot_list_append PySem.F.type_list_append zOV h.un hg.un hbase hfew hline hs hplain) λ_ _ _ z=>zJN zMp z
def zHu:KM:=λx ds M=>match x,ds with
 |.dat (.ref n),[.int i]=>match M[n]? with
  |some (.lst xs)=>match ixN xs.length i with
   |some k=>match xs[k]? with
    |some d=>if -(2 ^ 63)<=i/\i<2 ^ 63 then some (d,M.set n (.lst (xs.eraseIdx k))) else none
    |none=>none
   |none=>none
  |_=>none
 |_,_=>none
theorem zRV {K:Yb}:zPA K zPB zHu:=by
 intro L M M' H H0 x ds d v vs Q c rx rd hk q;unfold zHu at hk;split at hk
 .rename_i n i;split at hk
  .rename_i xs e1;split at hk
   .rename_i k e2;split at hk
    .rename_i d' e3;split at hk
     .rename_i hb;cases hk;unfold zr Rep at rx;obtain ⟨a,rfl,e4⟩:=rx;obtain ⟨ws,e5,r5⟩:=c.obj n a _ e4 e1;obtain ⟨u,e6,r6⟩:=r5.get e3;obtain ⟨c5,s5⟩:=c.write e4 e1 (r5.eraseIdx k);exact ⟨a,ws,i,k,u,rfl,zEN rd,e5,hb.1,hb.2,by rw[r5.length];exact (zJc e2).1,e6,q L _ _ s5 c5 (r6.stp s5)⟩
     .cases hk
    .cases hk
   .cases hk
  .cases hk
 .cases hk
theorem zWC (h:QE X a f) (hg:QA X [e] g) (hbase:attributeBase a "pop" X.env (eval a X.env)=eval a X.env:=by rfl)
  (hfew:((backTo cpos (starEach [e] X.env)).all (λx=> !x.1)&&(backToKw cpos (keywordEach [] X.env)).all (λx=>x.1.isSome)&&decide ([e].length+([]:List Keyword).length+(if ([]:List Keyword).isEmpty then 0 else 1)<30))=true:=by rfl)
  (hline:(apos.endLine==cpos.line)=true:=by rfl) (hs:starEach [e] X.env=(false,eval e X.env)::starEach [] X.env:=by rfl) (hplain:(backTo cpos (starEach [] X.env)).any (·.1)=false:=by rfl) :
  QE X (.Call (.Attribute a "pop" apos) [e] [] cpos) (fM zHu f g) :=
 .mk <| PE.imp (zKs PySem.F.plainAttrs_list PySem.F.slot_list_pop PySem.F.type_list_pop zPn h.un hg.un hbase hfew hline hs hplain) λ_ _ _ z=>zJN zRV z
def zK7 (x:EV) (i:D) (d:D) (M:Mem):Option Mem:=match x,i with
 |.dat (.ref n),.int i=>match M[n]? with
  |some (.lst xs)=>match ixN xs.length i with
   |some j=>some (M.set n (.lst (xs.set j d)))
   |none=>none
  |_=>none
 |_,_=>none
def zL6 (fv fo fi:FE):FS:=λσ M=>match toD fv σ M with
 |some (d,M1)=>match fo σ M1 with
  |some (x,M2)=>match toD fi σ M2 with
   |some (i,M3)=>match zK7 x i d M3 with
    |some M4=>some (.nx,σ,M4)
    |none=>none
   |none=>none
  |none=>none
 |none=>none
theorem zQm (hv:QE X v fv) (ho:QE X o fo) (hi:QE X i fi)
  (ha:∀ v,assign (.Subscript o i p) X.env v=(do
   let ov <- holding [v] (eval o X.env);let iv <- holding [v,ov] (eval i X.env);standAt p;holding [v,ov,iv] (setItem ov iv v);release [v,ov,iv] []):=by intro _;rfl)
  (hs:swapsWithSole [.Subscript o i p] v pos.line X.env=pure false:=by rfl) (hw:swappedStores [.Subscript o i p] v X.env=pure none:=by rfl) (h1:(assignEach [.Subscript o i p] X.env).map (·.2)=[assign (.Subscript o i p) X.env]:=by rfl) :
  QS X (.Assign [.Subscript o i p] v pos) (zL6 fv fo fi):=.mk <| PS.imp (zPH (zBg hv).un (zUI ho.un (zBg hi).un zPC ha) hs hw h1) λE τ H zz=>by
 obtain ⟨L,σ,M,out,σ',M',c,rs,hf,q⟩:=zz;unfold zL6 at hf;split at hf
 .rename_i d M1 e1;split at hf
  .rename_i x M2 e2;split at hf
   .rename_i j M3 e3;split at hf
    .rename_i M4 e4;cases hf;refine ⟨L,σ,M,_,_,c,rs,e1,λL1 H1 u s1 c1 r1=>⟨L1,σ,M1,_,_,c1,rs.stp s1,e2,λL2 H2 w s2 c2 r2=>⟨L2,σ,M2,_,_,c2,rs.stp (s1.trans s2),e3,λL3 H3 z s3 c3 r3=>?_⟩⟩⟩;have st:=(s1.trans s2).trans s3;unfold zK7 at e4;split at e4
     .rename_i n k;split at e4
      .rename_i xs e5;split at e4
       .rename_i m e6;cases e4;have r2':=r2.stp s3;unfold zr Rep at r2';obtain ⟨a,rfl,e7⟩:=r2';obtain ⟨ws,e8,r8⟩:=c3.obj n a _ e7 e5;obtain ⟨c9,s9⟩:=c3.write e7 e5 (zP.set ((r1.stp s2).stp s3) m r8);exact ⟨a,ws,k,m,rfl,by unfold Rep at r3;exact r3,e8,by rw[r8.length];exact e6,q L3 _ (st.trans s9) c9 τ ((rs.stp st).stp s9)⟩
       .cases e4
      .cases e4
     .cases e4
    .cases hf
   .cases hf
  .cases hf
 .cases hf
end
section
def zI8:D->Option V
 |.non=>some .non
 |.bl k=>some (.bl k)
 |.int i=>some (.int i)
 |.str x=>some (.str x)
 |_=>none
theorem zEt (h:Rep L H d v) (e:zI8 d=some u):v=u:=by
 cases d with
 |non=>cases e;unfold Rep at h;exact h
 |bl _=>cases e;unfold Rep at h;exact h
 |int _=>cases e;unfold Rep at h;exact h
 |str _=>cases e;unfold Rep at h;exact h
 |tup _=>cases e
 |ref _=>cases e
def zMO (neg:Bool):K2:=λx y M=>match x,y with
 |.dat d,.dat d'=>match zI8 d,zI8 d' with
  |some u,some w=>if zSJ u w then some (.dat (.bl (if neg then !decide (u=w) else decide (u=w))),M) else none
  |_,_=>none
 |_,_=>none
theorem zIw (h:zMO neg x y M=some (r,M')):∃ d d' u w,x=.dat d/\y=.dat d'/\zI8 d=some u/\zI8 d'=some w/\zSJ u w=true/\r=.dat (.bl (if neg then !decide (u=w) else decide (u=w)))/\M'=M:=by
 unfold zMO at h;split at h
 .rename_i d d';split at h
  .rename_i u w e1 e2;split at h
   .rename_i hs;cases h;exact ⟨d,d',u,w,rfl,rfl,e1,e2,hs,rfl,rfl⟩
   .cases h
  .cases h
 .cases h
theorem zRf {K:Yb}:zC3 K rEq (zMO false):=by
 intro L M M' H H0 x y d v w Q c rx ry hk q;obtain ⟨d1,d2,u,z,rfl,rfl,e1,e2,hs,rfl,rfl⟩:=zIw hk;have a1:=zEt rx e1;have a2:=zEt ry e2;subst a1 a2;exact ⟨hs,q L H _ (.refl L H) c (zBx (L:=L) (H:=H))⟩
theorem zRe {K:Yb}:zC3 K rNe (zMO true):=by
 intro L M M' H H0 x y d v w Q c rx ry hk q;obtain ⟨d1,d2,u,z,rfl,rfl,e1,e2,hs,rfl,rfl⟩:=zIw hk;have a1:=zEt rx e1;have a2:=zEt ry e2;subst a1 a2;exact ⟨hs,q L H _ (.refl L H) c (zBx (L:=L) (H:=H))⟩
def zUO (neg:Bool) (K:Yb):R2:=λx y H Q=>∃ p q xs,x=.ref p/\y=.ref q/\SqL K H p xs/\SqL K H q []/\Q (.bl (if neg then !xs.isEmpty else xs.isEmpty)) H
theorem zJT (r:za [] its):its=[]:=by cases r;rfl
theorem zQt (hu:X.A.units<cLine):OpR X (compareOp .Eq) (zUO false X.K):=by
 intro zB s σ H x y v u Q I rx ry h;obtain ⟨p,q,xs,rfl,rfl,h1,h2,hq⟩:=h;cases rx;cases ry;obtain ⟨its,rv,pl,_⟩:=I.list h1;obtain ⟨its2,rv2,pl2,_⟩:=I.list h2;cases zJT rv2;cases rv with
 |nil=>exact SeqAt.eq_listAt (e:=λ_=>true) pl.isList pl2.isList rfl hu (λj h1=>by simp at h1) ⟨.bl true,H,I,rfl,hq⟩
 |cons _ _=>exact SeqAt.eq_list_lengthsAt pl.isList pl2.isList (by simp) hu ⟨.bl false,H,I,rfl,hq⟩
theorem zQf (hu:X.A.units<cLine):OpR X (compareOp .NotEq) (zUO true X.K):=by
 intro zB s σ H x y v u Q I rx ry h;obtain ⟨p,q,xs,rfl,rfl,h1,h2,hq⟩:=h;cases rx;cases ry;obtain ⟨its,rv,pl,_⟩:=I.list h1;obtain ⟨its2,rv2,pl2,_⟩:=I.list h2;cases zJT rv2;cases rv with
 |nil=>exact SeqAt.RcNeAt.lists (e:=λ_=>true) pl.isList pl2.isList rfl hu (λj h1=>by simp at h1) _ _ _ _ ⟨.bl false,H,I,rfl,hq⟩
 |cons _ _=>exact SeqAt.RcNeAt.lists_lengths pl.isList pl2.isList (by simp) hu _ _ _ _ ⟨.bl true,H,I,rfl,hq⟩
def zPy (neg:Bool):K2:=λx y M=>match zBW M x,zBW M y with
 |some xs,some []=>some (.dat (.bl (if neg then !xs.isEmpty else xs.isEmpty)),M)
 |_,_=>none
theorem zM4 {K:Yb} {neg:Bool}:zC3 K (zUO neg K) (zPy neg):=by
 intro L M M' H H0 x y d v w Q c rx ry hk q;unfold zPy at hk;split at hk
 .rename_i xs e1 e2;cases hk;obtain ⟨p1,vs,rfl,h1,r1⟩:=zA3 c rx e1;obtain ⟨p2,ws,rfl,h2,r2⟩:=zA3 c ry e2;unfold zP at r2;subst r2;refine ⟨p1,p2,vs,rfl,rfl,.inl h1,.inl h2,q L H _ (.refl L H) c ?_⟩;have:vs.isEmpty=xs.isEmpty:=by
   have:=r1.length;cases vs <;> cases xs <;> simp_all
  rw[this];exact (zBx (L:=L) (H:=H))
 .cases hk
def kOr (k1 k2:K2):K2:=λx y M=>match k1 x y M with
 |some r=>some r
 |none=>k2 x y M
theorem zLk {K:Yb} {r1 r2:R2} {k1 k2:K2} (h1:zC3 K r1 k1) (h2:zC3 K r2 k2):zC3 K (λx y H Q=>r1 x y H Q\/r2 x y H Q) (kOr k1 k2):=by
 intro L M M' H H0 x y d v w Q c rx ry hk q;unfold kOr at hk;split at hk
 .rename_i r e1;cases hk;exact .inl (h1 c rx ry e1 q)
 .exact .inr (h2 c rx ry hk q)
abbrev kEq:K2:=kOr (zMO false) (zPy false)
abbrev kNe:K2:=kOr (zMO true) (zPy true)
theorem zU4 (hu:X.A.units<cLine) (h1:QE X a f) (h2:QE X b g):QT X (.Compare a [.Eq] [b] pos) (tst (fOp kEq f g)):=zC7 (zLk zRf zM4) (zVc.or (zQt hu)) h1 h2 (zEE _)
theorem zVt (hu:X.A.units<cLine) (h1:QE X a f) (h2:QE X b g):QT X (.Compare a [.NotEq] [b] pos) (tst (fOp kNe f g)):=zC7 (zLk zRe zM4) (zVO.or (zQf hu)) h1 h2 (zEE _)
end
section
theorem zQV {prog:Ym} {w:Yo} {A:Yn} {E:Yc} {s:Yl} {t b:Yt} {ws:Yf} {Q:Yc} (ht:IsTup s.heap t #[]) (hb:IsTup s.heap b ws.toArray) (h1:Q (.ref b) s) :
  wpAny (model prog w) A (binaryOp .Add (.ref t) (.ref b)) Q E s:=by
 obtain ⟨⟨cls,dd,data,sl⟩,ho,hc,n,hd⟩:=id ht;obtain ⟨⟨cls2,dd2,data2,sl2⟩,ho2,hc2,n2,hd2⟩:=id hb;simp only at hc hd hc2 hd2;subst hc hd hc2 hd2
 exact concat_meets ⟨_,ho,rfl⟩ ⟨_,ho2,rfl⟩ noFill_tuple_add seq_tuple_add PySem.F.slot_tuple_add PySem.F.entry_tuple_add (PySem.F.args_tuple_add_2 _ _)
   (tuple_addW0 t b #[] ws.toArray n n2 dd dd2 sl sl2 (by simp)) ⟨ho,ho2,h1⟩
def zPh (K:Yb):R2:=λx y H Q=>∃ a b ys,x=.ref a/\y=.ref b/\SqT K H a []/\SqT K H b ys/\Q (.ref b) H
theorem zQE:OpR X (binaryOp .Add) (zPh X.K):=by
 intro zB s σ H x y v u Q I rx ry h;obtain ⟨a,b,ys,rfl,rfl,ha,hb,q⟩:=h;cases rx;cases ry;obtain ⟨its,r1,p1,_⟩:=I.tuple ha;obtain ⟨its2,r2,p2,_⟩:=I.tuple hb;cases zJT r1;exact zQV p1 p2 ⟨.ref b,H,I,rfl,q⟩
def zPL:K2:=λx y M=>match zBp x,zBp y with
 |some xs,some ys=>if xs.length+ys.length<=sizeLine then some (.dat (.tup (xs++ys)),M) else none
 |_,_=>none
theorem zPk {K:Yb}:zC3 K (λx y H Q=>zS5 K x y H Q\/zPh K x y H Q) zPL:=by
 intro L M M' H H0 x y d v w Q c rx ry hk q;unfold zPL at hk;split at hk
 .rename_i xs ys e1 e2;split at hk
  .rename_i hz;cases hk;obtain ⟨p1,vs,rfl,h1,r1⟩:=zBD rx e1;obtain ⟨p2,ws,rfl,h2,r2⟩:=zBD ry e2;cases xs with
   |nil=>
    refine .inr ⟨p1,p2,ws,rfl,rfl,.of (by unfold zP at r1;subst r1;exact h1),.of h2,q L H _ (.refl L H) c ?_⟩;unfold zr Rep;exact ⟨p2,ws,rfl,h2,r2⟩
   |cons x0 xr=>
    have hv:vs≠[]:=λz=>by have:=r1.length;rw[z]at this;simp at this
    refine .inl ⟨p1,p2,vs,ws,rfl,rfl,.of h1,.of h2,hv,by rw[r1.length,r2.length];exact hz,λz=>?_,λz pp hp=>?_⟩
    .have:ys=[]:=by
      have:=r2.length;rw[z]at this;cases ys with
      |nil=>rfl
      |cons _ _=>simp at this
     subst this;refine q L H _ (.refl L H) c ?_;unfold zr Rep;rw[zXV];exact ⟨p1,vs,rfl,h1,r1⟩
    .exact q L _ _ (.upd hp) (c.upd hp) (Rep.newTup hp (r1.app r2))
  .cases hk
 .cases hk
abbrev zAo:K2:=kOr zWc zPL
theorem zTo (h1:QE X a f) (h2:QE X b g):QE X (.BinOp a .Add b pos) (fOp zAo f g):=zLN (zLk (zFV λ_ _ _ _=>zAp) zPk) (zT2.or (zRn.or zQE)) h1 h2
def isT (t T:String):Bool:=decide (t=T)||(decide (t = "bool")&&decide (T = "int"))
theorem zP.two (h:zP L H [d,d'] vs):∃ v v',vs=[v,v']/\Rep L H d v/\Rep L H d' v':=by
 unfold zP at h;obtain ⟨v,r,rfl,h1,h2⟩:=h;obtain ⟨v',rfl,h3⟩:=h2.one;exact ⟨v,v',rfl,h1,h3⟩
section
theorem zVd (hg:Gl X "len") (hm:X.mg "len" = none) (ha:QAE X [e] fa) (he:starEach [e] X.env=(false,eval e X.env)::starEach [] X.env:=by rfl) (hpl:(backTo pos (starEach [] X.env)).any (·.1)=false:=by rfl):QE X (.Call (.Name "len" p) [e] [] pos) (fB zAu fa) :=
 zFI zRp zJY PySem.boot_len hg hm ha (by decide) (by decide) he hpl
theorem zSP (hg:Gl X "tuple") (hm:X.mg "tuple" = none) (ha:QAE X [e] fa) (he:starEach [e] X.env=(false,eval e X.env)::starEach [] X.env:=by rfl) (hpl:(backTo pos (starEach [] X.env)).any (·.1)=false:=by rfl):QE X (.Call (.Name "tuple" p) [e] [] pos) (fB zAI fa) :=
 zKc zN0 zHz (by rfl) hg hm ha (by decide) (by decide) he hpl
end
end
def zE7 (sc scope:Y0):Bool:=scope.names.all λy=>
 (y.2 != .local||scope.names.lookup y.1==some .local)&&(y.2 != .cell||scope.names.lookup y.1==some .cell)&&(y.2 != .free||(sc.names.lookup y.1==some .cell||sc.names.lookup y.1==some .free))
def zGQ (N:Yk) (scope:Y0) (own:Yj):Bool:=(List.range N.length).all λi=>match N[i]? with
 |some x=>decide (i∈own)||(scope.names.lookup x==none)||(scope.names.lookup x==some .free)
 |none=>true
theorem zIX (hk:scope.kind=.function) (hs:X.env.scope=sc) (hN:X.N=N) (h1:zE7 sc scope=true) (h2:zGQ N scope own=true):CompIn X scope own:=by
 unfold zE7 at h1;rw[zXM]at h1;refine ⟨⟨hk,λy hy e=>?_,λy hy e=>?_,λy hy e=>?_⟩,λi x e=>?_⟩
 .have:=h1 y hy;simp[e]at this;exact this
 .have:=h1 y hy;simp[e]at this;exact this
 .have:=h1 y hy;simp[e]at this;show X.env.scope.names.lookup y.1=_\/X.env.scope.names.lookup y.1=_;rw[hs];exact this
 .unfold zGQ at h2;rw[zXM]at h2;rw[hN]at e;have hi:i<N.length:=(zWo.mp e).1;have:=h2 i (by simpa using hi);rw[e]at this;simp only[Bool.or_eq_true,zXy,beq_iff_eq,or_assoc]at this;exact this
def zJ8 (K:Yb):Bool:=K.all λp=>match p.2.cls with
 |.type n=>n != "list"
 |_=>true
theorem zKM:∀ {K:Yb},K.lookup a=some o->(a,o)∈K
 |[],h=>by cases h
 | (b,u)::r,h=>by
  have h':List.lookup a ((b,u)::r)=some o:=h;rw[zYq]at h';cases q:a==b with
  |true=>rw[q]at h';cases h';rw[beq_iff_eq.mp q];exact zWz
  |false=>rw[q]at h';exact zWy _ (zKM h')
theorem zOK {K:PySem.W.Frag} (h:zJ8 K=true) {o:Obj} (e:K.lookup a=some o) (hc:o.cls=.type "list"):False:=by
 unfold zJ8 at h;rw[zXM]at h;have:=h (a,o) (zKM e);simp[hc]at this
theorem zIW:∀ (ns:Ye),zP L H (ns.map D.int) (ns.map V.int)
 |[]=> .nil
 |n::r=> .cons (by unfold Rep;rfl) (zIW r)
theorem zNh {K:Yb} {m:FF} {H:Hp} {a:Yt} {ns:Ye} {E:XK} (hL:zJ8 K=true) (hO:zSv H) (hS:SqL K H a (ns.map V.int)) (h:∃ M',m [.ref 0] [.fro (ns.map D.int)]=some (.bl true,M')) :
  spF K 1 m [.ref a] H (λv _=>v=.bl true) E:=by
 obtain ⟨M',e⟩:=h;have hf:∃ o,H a=some (.frz o (.lst (ns.map V.int))):=by
  rcases hS with (h1|h1)|⟨o,its,n,h1,h2,_⟩
  .rcases hO a with z|⟨o,xs,z⟩
   .rw[h1]at z;cases z
   .rw[h1]at z;cases z
  .exact h1
  .exact (zOK hL h1 h2).elim
 obtain ⟨o,hf⟩:=hf;refine ⟨[a],[.ref 0],[.fro (ns.map D.int)],_,_,⟨rfl,by simp,λn b m e1 e2=>?_⟩,.cons ?_ .nil,rfl,e,λL' H' v s c r=>?_⟩
 .cases n with
  |zero=>simp at e1 e2;subst e1;subst e2;exact ⟨o,_,hf,zIW ns⟩
  |succ n=>simp at e1
 .unfold Rep;exact ⟨a,rfl,rfl⟩
 .unfold Rep at r;exact r
def Ok {α:Type} (x:Option (α × Mem)) (P:α->Mem->Prop):Prop:=∃ a M,x=some (a,M)/\P a M
def OkS (x:Option (Out × Sd × Mem)) (P:Out->Sd->Mem->Prop):Prop:=∃ o σ M,x=some (o,σ,M)/\P o σ M
theorem Ok.mono {α:Type} {x:Option (α × Mem)} {P Q:α->Mem->Prop} (h:Ok x P) (hq:∀ a M,P a M->Q a M):Ok x Q:=let ⟨a,M,e,p⟩:=h;⟨a,M,e,hq a M p⟩
theorem OkS.mono {x:Option (Out × Sd × Mem)} {P Q:Out->Sd->Mem->Prop} (h:OkS x P) (hq:∀ o σ M,P o σ M->Q o σ M):OkS x Q:=let ⟨a,σ,M,e,p⟩:=h;⟨a,σ,M,e,hq a σ M p⟩
theorem zAN {α:Type} {a:α} {M:Mem} {P:α->Mem->Prop}:Ok (some (a,M)) P ↔ P a M:=⟨λ⟨_,_,e,p⟩=>by cases e;exact p,λp=>⟨a,M,rfl,p⟩⟩
theorem zGZ {α:Type} {P:α->Mem->Prop}:Ok (none:Option (α × Mem)) P ↔ False:=⟨(λ⟨_,_,e,_⟩=>(nomatch e)),λh=>h.elim⟩
theorem zQB {o:Out} {σ:Sd} {M:Mem} {P:Out->Sd->Mem->Prop}:OkS (some (o,σ,M)) P ↔ P o σ M:=⟨λ⟨_,_,_,e,p⟩=>by cases e;exact p,λp=>⟨o,σ,M,rfl,p⟩⟩
section
theorem zAJ {i:Nat}:Ok (zC i σ M) P ↔ ∃ d,σ[i]?=some (some d)/\P (.dat d) M:=by
 unfold zC;constructor
 .rintro ⟨a,M1,e,p⟩;split at e
  .rename_i d e1;cases e;exact ⟨d,e1,p⟩
  .cases e
 .rintro ⟨d,e1,p⟩;rw[e1];exact ⟨_,_,rfl,p⟩
theorem zFN {d:D}:Ok (fC d σ M) P ↔ P (.dat d) M:=zAN
theorem zBR {k:K2}:Ok (fOp k f g σ M) P ↔ Ok (f σ M) λx M1=>Ok (g σ M1) λy M2=>Ok (k x y M2) P:=by
 unfold fOp;constructor
 .rintro ⟨a,M1,e,p⟩;split at e
  .rename_i x M2 e1;split at e
   .rename_i y M3 e2;exact ⟨x,M2,e1,y,M3,e2,a,M1,e,p⟩
   .cases e
  .cases e
 .rintro ⟨x,M2,e1,y,M3,e2,a,M1,e,p⟩;rw[e1];dsimp only;rw[e2];exact ⟨a,M1,e,p⟩
def zGM (P:D->Mem->Prop):EV->Mem->Prop
 |.dat d,M=>P d M
 |.fl xs,M=>P (.ref M.length) (M++[.lst xs])
theorem zAe {P:D->Mem->Prop}:Ok (toD f σ M) P ↔ Ok (f σ M) (zGM P):=by
 unfold toD;constructor
 .rintro ⟨a,M1,e,p⟩;split at e
  .rename_i d M2 e1;cases e;exact ⟨_,_,e1,p⟩
  .rename_i xs M2 e1;cases e;exact ⟨_,_,e1,p⟩
  .cases e
 .rintro ⟨x,M2,e1,p⟩;rw[e1];cases x with
  |dat d=>exact ⟨d,M2,rfl,p⟩
  |fl xs=>exact ⟨_,_,rfl,p⟩
theorem zI {P:D->Mem->Prop} {d:D} {M:Mem}:zGM P (.dat d) M ↔ P d M:=Iff.rfl
theorem zGT {P:D->Mem->Prop} {xs:List D} {M:Mem}:zGM P (.fl xs) M ↔ P (.ref M.length) (M++[.lst xs]):=Iff.rfl
section
theorem zAi:Ok (zF σ M) P ↔ P [] M:=zAN
theorem zAL {f:FD} {g:FA}:Ok (zD f g σ M) P ↔ Ok (f σ M) λd M1=>Ok (g σ M1) λds M2=>P (d::ds) M2:=by
 unfold zD;constructor
 .rintro ⟨a,M1,e,p⟩;split at e
  .rename_i x M2 e1;split at e
   .rename_i y M3 e2;cases e;exact ⟨x,M2,e1,y,_,e2,p⟩
   .cases e
  .cases e
 .rintro ⟨x,M2,e1,y,M3,e2,p⟩;rw[e1];dsimp only;rw[e2];exact ⟨_,_,rfl,p⟩
end
section
theorem zDk:Ok (zj σ M) P ↔ P [] M:=zAN
theorem zCo {f:FE} {g:FAE}:Ok (zU f g σ M) P ↔ Ok (f σ M) λd M1=>Ok (g σ M1) λds M2=>P (d::ds) M2:=by
 unfold zU;constructor
 .rintro ⟨a,M1,e,p⟩;split at e
  .rename_i x M2 e1;split at e
   .rename_i y M3 e2;cases e;exact ⟨x,M2,e1,y,_,e2,p⟩
   .cases e
  .cases e
 .rintro ⟨x,M2,e1,y,M3,e2,p⟩;rw[e1];dsimp only;rw[e2];exact ⟨_,_,rfl,p⟩
end
theorem zQa {a:FA}:Ok (zA6 a σ M) P ↔ Ok (a σ M) λds M1=>ds.length<=sizeLine/\P (.dat (.tup ds)) M1:=by
 unfold zA6;constructor
 .rintro ⟨x,M1,e,p⟩;split at e
  .rename_i ds M2 e1;split at e
   .rename_i hz;cases e;exact ⟨ds,_,e1,hz,p⟩
   .cases e
  .cases e
 .rintro ⟨ds,M1,e1,hz,p⟩;rw[e1];dsimp only;rw[zW0 hz];exact ⟨_,_,rfl,p⟩
theorem zDO {a:FA}:Ok (zBJ a σ M) P ↔ Ok (a σ M) λds M1=>ds.length<=sizeLine/\P (.fl ds) M1:=by
 unfold zBJ;constructor
 .rintro ⟨x,M1,e,p⟩;split at e
  .rename_i ds M2 e1;split at e
   .rename_i hz;cases e;exact ⟨ds,_,e1,hz,p⟩
   .cases e
  .cases e
 .rintro ⟨ds,M1,e1,hz,p⟩;rw[e1];dsimp only;rw[zW0 hz];exact ⟨_,_,rfl,p⟩
theorem zLx {k:KB} {a:FAE}:Ok (fB k a σ M) P ↔ Ok (a σ M) λxs M1=>Ok (k xs M1) P:=by
 unfold fB;constructor
 .rintro ⟨x,M1,e,p⟩;split at e
  .rename_i ds M2 e1;exact ⟨ds,_,e1,x,M1,e,p⟩
  .cases e
 .rintro ⟨ds,M1,e1,p⟩;rw[e1];exact p
theorem zAX {m:FF} {a:FA}:Ok (zK m a σ M) P ↔ Ok (a σ M) λds M1=>Ok (m ds M1) λd M2=>P (.dat d) M2:=by
 unfold zK;constructor
 .rintro ⟨x,M1,e,p⟩;split at e
  .rename_i ds M2 e1;split at e
   .rename_i d M3 e2;cases e;exact ⟨ds,_,e1,d,_,e2,p⟩
   .cases e
  .cases e
 .rintro ⟨ds,M1,e1,d,M2,e2,p⟩;rw[e1];dsimp only;rw[e2];exact ⟨_,_,rfl,p⟩
theorem zGP {k:KM} {a:FA}:Ok (fM k f a σ M) P ↔ Ok (f σ M) λx M1=>(∃ xs,zBW M1 x=some xs)/\Ok (a σ M1) λds M2=>Ok (k x ds M2) λd M3=>P (.dat d) M3:=by
 unfold fM;constructor
 .rintro ⟨x,M1,e,p⟩;split at e
  .rename_i y M2 e1;split at e
   .rename_i xs e2;split at e
    .rename_i ds M3 e3;split at e
     .rename_i d M4 e4;cases e;exact ⟨y,_,e1,⟨xs,e2⟩,ds,_,e3,d,_,e4,p⟩
     .cases e
    .cases e
   .cases e
  .cases e
 .rintro ⟨y,M1,e1,⟨xs,e2⟩,ds,M2,e3,d,M3,e4,p⟩;rw[e1];dsimp only;rw[e2];dsimp only;rw[e3];dsimp only;rw[e4];exact ⟨_,_,rfl,p⟩
section
theorem zPS:Ok (zBS σ M) P ↔ P none M:=zAN
def zU5 (P:Option Int->Mem->Prop):EV->Mem->Prop
 |.dat (.int i),M=>P (some i) M
 |_,_=>False
theorem zQS {i:Int} {M:Mem}:zU5 P (.dat (.int i)) M ↔ P (some i) M:=Iff.rfl
theorem zPg:Ok (zAc f σ M) P ↔ Ok (f σ M) (zU5 P):=by
 unfold zAc;constructor
 .rintro ⟨x,M1,e,p⟩;split at e
  .rename_i i M2 e1;cases e;exact ⟨_,_,e1,p⟩
  .cases e
 .rintro ⟨x,M1,e1,p⟩;rw[e1];cases x with
  |fl xs=>exact p.elim
  |dat d=>
   cases d with
   |int i=>exact ⟨_,_,rfl,p⟩
   |_=>exact p.elim
end
theorem zWD {l h:FO}:Ok (fSl f l h σ M) P ↔ Ok (f σ M) λx M1=>Ok (l σ M1) λlo M2=>Ok (h σ M2) λhi M3=>Ok (kSl x lo hi M3) P:=by
 unfold fSl;constructor
 .rintro ⟨x,M1,e,p⟩;split at e
  .rename_i y M2 e1;split at e
   .rename_i lo M3 e2;split at e
    .rename_i hi M4 e3;exact ⟨y,_,e1,lo,_,e2,hi,_,e3,x,M1,e,p⟩
    .cases e
   .cases e
  .cases e
 .rintro ⟨y,M1,e1,lo,M2,e2,hi,M3,e3,p⟩;rw[e1];dsimp only;rw[e2];dsimp only;rw[e3];exact p
def blP (P:Bool->Mem->Prop):EV->Mem->Prop
 |.dat (.bl k),M=>P k M
 |_,_=>False
theorem zGe {P:Bool->Mem->Prop} {k:Bool} {M:Mem}:blP P (.dat (.bl k)) M ↔ P k M:=Iff.rfl
theorem zGp {P:Bool->Mem->Prop}:Ok (tst f σ M) P ↔ Ok (f σ M) (blP P):=by
 unfold tst;constructor
 .rintro ⟨x,M1,e,p⟩;split at e
  .rename_i i M2 e1;cases e;exact ⟨_,_,e1,p⟩
  .cases e
 .rintro ⟨x,M1,e1,p⟩;rw[e1];cases x with
  |fl xs=>exact p.elim
  |dat d=>
   cases d with
   |bl i=>exact ⟨_,_,rfl,p⟩
   |_=>exact p.elim
section
theorem zGg:Ok (zn σ M) P ↔ P true M:=zAN
end
theorem zUY {t:FT}:Ok (vIf t f g σ M) P ↔ Ok (t σ M) λk M1=>if k then Ok (f σ M1) P else Ok (g σ M1) P:=by
 unfold vIf;constructor
 .rintro ⟨x,M1,e,p⟩;split at e
  .rename_i M2 e1;exact ⟨_,_,e1,by dsimp only;rw[zW0 rfl];exact ⟨x,M1,e,p⟩⟩
  .rename_i M2 e1;exact ⟨_,_,e1,by simpa using ⟨x,M1,e,p⟩⟩
  .cases e
 .rintro ⟨x,M1,e1,p⟩;rw[e1];cases x with
  |true=>simpa using p
  |false=>simpa using p
end
section
def nxP (k:Sd->Mem->Prop) (P:Out->Sd->Mem->Prop):Out->Sd->Mem->Prop
 |.nx,σ,M=>k σ M
 |o,σ,M=>P o σ M
theorem zL {k:Sd->Mem->Prop}:nxP k P .nx σ M ↔ k σ M:=Iff.rfl
theorem zJa {k:Sd->Mem->Prop} {d:D}:nxP k P (.ret d) σ M ↔ P (.ret d) σ M:=Iff.rfl
theorem zAK:OkS (zAv σ M) P ↔ P .nx σ M:=zQB
theorem zG:OkS (zQ f g σ M) P ↔ OkS (f σ M) (nxP (λσ1 M1=>OkS (g σ1 M1) P) P):=by
 unfold zQ;constructor
 .rintro ⟨o,σ1,M1,e,p⟩;split at e
  .rename_i σ2 M2 e1;exact ⟨_,_,_,e1,o,σ1,M1,e,p⟩
  .rename_i hn;refine ⟨o,σ1,M1,e,?_⟩;cases o with
   |nx=>exact absurd e (hn σ1 M1)
   |_=>exact p
 .rintro ⟨o,σ1,M1,e1,p⟩;rw[e1];cases o with
  |nx=>exact p
  |_=>exact ⟨_,_,_,rfl,p⟩
theorem zAf {c:FT}:OkS (sIf c f g σ M) P ↔ Ok (c σ M) λk M1=>if k then OkS (f σ M1) P else OkS (g σ M1) P:=by
 unfold sIf;constructor
 .rintro ⟨o,σ1,M1,e,p⟩;split at e
  .rename_i M2 e1;exact ⟨_,_,e1,by dsimp only;rw[zW0 rfl];exact ⟨o,σ1,M1,e,p⟩⟩
  .rename_i M2 e1;exact ⟨_,_,e1,by simpa using ⟨o,σ1,M1,e,p⟩⟩
  .cases e
 .rintro ⟨x,M1,e1,p⟩;rw[e1];cases x with
  |true=>simpa using p
  |false=>simpa using p
theorem zAn {h:FE}:OkS (zAM h σ M) P ↔ Ok (h σ M) (zGM λd M1=>P (.ret d) σ M1):=by
 rw[<-zAe];unfold zAM;constructor
 .rintro ⟨o,σ1,M1,e,p⟩;split at e
  .rename_i d M2 e1;cases e;exact ⟨_,_,e1,p⟩
  .cases e
 .rintro ⟨x,M1,e1,p⟩;rw[e1];exact ⟨_,_,_,rfl,p⟩
theorem zR {i:Nat} {h:FE}:OkS (zi i h σ M) P ↔ Ok (h σ M) (zGM λd M1=>P .nx (σ.set i (some d)) M1):=by
 rw[<-zAe];unfold zi;constructor
 .rintro ⟨o,σ1,M1,e,p⟩;split at e
  .rename_i d M2 e1;cases e;exact ⟨_,_,e1,p⟩
  .cases e
 .rintro ⟨x,M1,e1,p⟩;rw[e1];exact ⟨_,_,_,rfl,p⟩
theorem zBY {h:FE}:OkS (zBF h σ M) P ↔ Ok (h σ M) λ_ M1=>P .nx σ M1:=by
 unfold zBF;constructor
 .rintro ⟨o,σ1,M1,e,p⟩;split at e
  .rename_i d M2 e1;cases e;exact ⟨_,_,e1,p⟩
  .cases e
 .rintro ⟨x,M1,e1,p⟩;rw[e1];exact ⟨_,_,_,rfl,p⟩
theorem zNF {v o i:FE}:OkS (zL6 v o i σ M) P ↔ Ok (v σ M) (zGM λd M1=>Ok (o σ M1) λx M2=>Ok (i σ M2) (zGM λj M3=>∃ M4,zK7 x j d M3=some M4/\P .nx σ M4)):=by
 rw[<-zAe];unfold zL6;constructor
 .rintro ⟨o,σ1,M1,e,p⟩;split at e
  .rename_i d M2 e1;split at e
   .rename_i x M3 e2;split at e
    .rename_i j M4 e3;split at e
     .rename_i M5 e4;cases e;refine ⟨_,_,e1,_,_,e2,?_⟩;dsimp only;rw[<-zAe];exact ⟨_,_,e3,_,e4,p⟩
     .cases e
    .cases e
   .cases e
  .cases e
 .rintro ⟨d,M1,e1,x,M2,e2,p⟩;rw[<-zAe]at p;obtain ⟨j,M3,e3,M4,e4,p⟩:=p;rw[e1];dsimp only;rw[e2];dsimp only;rw[e3];dsimp only;rw[e4];exact ⟨_,_,_,rfl,p⟩
theorem zw {n:Nat} {ds:List D} {Q:D->Mem->Prop}:Ok (zBE n f ds M) Q ↔ OkS (f (ds.map some++List.replicate (n-ds.length) none) M) λo _ M1=>match o with|.ret d=>Q d M1|.nx=>Q .non M1|_=>False:=by
 unfold zBE;constructor
 .rintro ⟨o,M1,e,p⟩;split at e
  .rename_i d σ1 M2 e1;cases e;exact ⟨_,_,_,e1,p⟩
  .rename_i σ1 M2 e1;cases e;exact ⟨_,_,_,e1,p⟩
  .cases e
 .rintro ⟨o,σ1,M1,e1,p⟩;rw[e1];cases o with
  |ret d=>exact ⟨_,_,rfl,p⟩
  |nx=>exact ⟨_,_,rfl,p⟩
  |brk=>exact p.elim
  |cnt=>exact p.elim
theorem zCW {c:FT} {b:FS} (I:Nat->Sd->Mem->Prop) (hs:∀ m σ M,I m σ M->Ok (c σ M) λk M1=>if k then OkS (b σ M1) λo σ2 M2=>match o with|.nx=>∃ m',m'<m/\I m' σ2 M2|.cnt=>∃ m',m'<m/\I m' σ2 M2|.brk=>P .nx σ2 M2|.ret d=>P (.ret d) σ2 M2 else P .nx σ M1) :
  ∀ (n m:Nat) (σ:Sd) (M:Mem),m<n->I m σ M->OkS (zBb c b n σ M) P
 |0,m,σ,M,h,_=>absurd h (Nat.not_lt_zero _)
 |n+1,m,σ,M,h,hi=>by
  obtain ⟨k,M1,e,q⟩:=hs m σ M hi;unfold zBb;rw[e];cases k with
  |false=>exact ⟨_,_,_,rfl,by simpa using q⟩
  |true=>
   rw[zW0 rfl]at q;obtain ⟨o,σ2,M2,e2,q⟩:=q;dsimp only;rw[e2];cases o with
   |nx=>obtain ⟨m',hm,q⟩:=q;exact zCW I hs n m' σ2 M2 (by omega) q
   |cnt=>obtain ⟨m',hm,q⟩:=q;exact zCW I hs n m' σ2 M2 (by omega) q
   |brk=>exact ⟨_,_,_,rfl,q⟩
   |ret d=>exact ⟨_,_,_,rfl,q⟩
theorem zAl {g:FG} {b:FS} {all:List D} {gd:Option (Mem->Prop)} (I:List D->Sd->Mem->Prop)
  (hs:∀ x r σ M,I (x::r) σ M->zA0 gd all M /\ ∃ σ1,g x σ=some σ1/\OkS (b σ1 M) λo σ2 M2=>match o with|.nx=>I r σ2 M2|.cnt=>I r σ2 M2|.brk=>P .nx σ2 M2|.ret d=>P (.ret d) σ2 M2)
  (he:∀ σ M,I [] σ M->zA0 gd all M/\P .nx σ M):∀ (xs:List D) (σ:Sd) (M:Mem),I xs σ M->OkS (zCu g b all gd xs σ M) P
 |[],σ,M,hi=>by
  unfold zCu;obtain ⟨h1,h2⟩:=he σ M hi;rw[zW0 h1];exact ⟨_,_,_,rfl,h2⟩
 |x::r,σ,M,hi=>by
  unfold zCu;obtain ⟨h1,σ1,e1,o,σ2,M2,e2,q⟩:=hs x r σ M hi;rw[zW0 h1,e1];dsimp only;rw[e2];cases o with
  |nx=>exact zAl I hs he r σ2 M2 q
  |cnt=>exact zAl I hs he r σ2 M2 q
  |brk=>exact ⟨_,_,_,rfl,q⟩
  |ret d=>exact ⟨_,_,_,rfl,q⟩
theorem zA2 {i:FI} {g:FG} {b:FS}:OkS (zCD i g b σ M) P ↔ ∃ xs gd M1,i σ M=some (xs,gd,M1)/\OkS (zCu g b xs gd xs σ M1) P:=by
 unfold zCD;constructor
 .rintro ⟨o,σ1,M1,e,p⟩;split at e
  .rename_i xs gd M2 e1;exact ⟨_,_,_,e1,_,_,_,e,p⟩
  .cases e
 .rintro ⟨xs,gd,M1,e1,p⟩;rw[e1];exact p
theorem zBn {g:FG} {tc:FT} {te:FE} {all:List D} {gd:Option (Mem->Prop)} (I:List D->List D->Mem->Prop)
  (hs:∀ x r acc M,I (x::r) acc M->zA0 gd all M /\ ∃ σ1,g x σ=some σ1/\Ok (tc σ1 M) λk M1=>if k then Ok (te σ1 M1) (zGM λd M2=>I r (acc++[d]) M2) else I r acc M1)
  {Q:List D->Mem->Prop} (he:∀ acc M,I [] acc M->zA0 gd all M/\Q acc M):∀ (xs acc:List D) (M:Mem),I xs acc M->Ok (zA8 g tc te σ all gd xs M) λys M1=>Q (acc++ys) M1
 |[],acc,M,hi=>by
  unfold zA8;obtain ⟨h1,h2⟩:=he acc M hi;rw[zW0 h1];exact ⟨_,_,rfl,by simpa using h2⟩
 |x::r,acc,M,hi=>by
  unfold zA8;obtain ⟨h1,σ1,e1,k,M1,e2,q⟩:=hs x r acc M hi;rw[zW0 h1,e1];dsimp only;rw[e2];cases k with
  |false=>exact zBn I hs he r acc M1 (by simpa using q)
  |true=>
   rw[zW0 rfl,<-zAe]at q;obtain ⟨d,M2,e3,q⟩:=q;dsimp only;rw[e3];obtain ⟨ys,M3,e4,p⟩:=zBn I hs he r (acc++[d]) M2 q;dsimp only;rw[e4];exact ⟨_,_,rfl,by simpa using p⟩
theorem zB2 {own:Yj} {i:FI} {g:FG} {tc:FT} {te:FE} {Q:EV->Mem->Prop}:Ok (zh own i g tc te σ M) Q ↔ ∃ xs gd M1,i σ M=some (xs,gd,M1)/\xs.length<=sizeLine/\Ok (zA8 g tc te (zBM own σ) xs gd xs M1) λys M2=>Q (.fl ys) M2:=by
 unfold zh;constructor
 .rintro ⟨o,M1,e,p⟩;split at e
  .rename_i xs gd M2 e1;split at e
   .rename_i hz;split at e
    .rename_i ys M3 e2;cases e;exact ⟨_,_,_,e1,hz,_,_,e2,p⟩
    .cases e
   .cases e
  .cases e
 .rintro ⟨xs,gd,M1,e1,hz,ys,M2,e2,p⟩;rw[e1];dsimp only;rw[zW0 hz,e2];exact ⟨_,_,rfl,p⟩
theorem zBN {h:FE} {x:EV} {M1:Mem} {xs:List D} (e:h σ M=some (x,M1)) (e2:zAF M1 x=some xs):zq h σ M=some (xs,zDM x xs,M1):=by
 unfold zq;rw[e];dsimp only;rw[e2]
theorem zEe {a:FA} {M1:Mem} {j:Int} (e:a σ M=some ([.int j],M1)) (h1:0<=j) (h2:j<2 ^ 62):zAH a σ M=some ((List.range j.toNat).map λ(k:Nat)=>D.int k,none,M1):=by
 unfold zAH;rw[e];dsimp only;rw[zW0 ⟨by omega,h2⟩]
end
section
theorem zGh:Ok (zAo (.dat (.int i)) (.dat (.int j)) M) P ↔ P (.dat (.int (i+j))) M:=zAN
theorem zQL:Ok (zHW (.dat (.int i)) (.dat (.int j)) M) P ↔ zOk i j=true/\P (.dat (.int (i*j))) M:=by
 unfold zHW kI;dsimp only;split
 .rename_i h;rw[zAN];simp[h]
 .rename_i h;rw[zGZ];simp[h]
theorem zS7:Ok (zDg (.dat (.int i)) (.dat (.int j)) M) P ↔ 0<j/\P (.dat (.int (i % j))) M:=by
 unfold zDg kI;dsimp only;split
 .rename_i h;rw[zAN];simp at h;simp[h]
 .rename_i h;rw[zGZ];simp at h;simp;intro h';omega
theorem zS4:Ok (zLb (.dat (.int i)) (.dat (.int j)) M) P ↔ (0<j/\j<1073741824)/\P (.dat (.int (i / j))) M:=by
 unfold zLb kI;dsimp only;split
 .rename_i h;rw[zAN];simp at h;simp[h]
 .rename_i h;rw[zGZ];simp at h;simp;intro h' h2;have:=h h';omega
theorem zV7:Ok (zOd (.dat (.int i)) (.dat (.int j)) M) P ↔ (0<=j/\j<=1000000/\i.natAbs<2 ^ 64)/\P (.dat (.int (i ^ j.toNat))) M:=by
 unfold zOd kI;dsimp only;split
 .rename_i h;rw[zAN];simp only[zXL,zXy]at h;simp[h]
 .rename_i h;rw[zGZ];simp only[zXL,zXy,not_and]at h;simp only[false_iff,not_and];intro ⟨a,b,c⟩;exact absurd c (h ⟨a,b⟩)
theorem zTb:Ok (kLt (.dat (.int i)) (.dat (.int j)) M) P ↔ P (.dat (.bl (decide (i<j)))) M:=zAN
theorem zWY:Ok (kLe (.dat (.int i)) (.dat (.int j)) M) P ↔ P (.dat (.bl (decide (i<=j)))) M:=zAN
theorem zWJ:Ok (kGe (.dat (.int i)) (.dat (.int j)) M) P ↔ P (.dat (.bl (decide (j<=i)))) M:=zAN
theorem zGG:Ok (kEq (.dat (.int i)) (.dat (.int j)) M) P ↔ P (.dat (.bl (decide (i=j)))) M:=by
 have:kEq (.dat (.int i)) (.dat (.int j)) M=some (.dat (.bl (decide (V.int i=V.int j))),M):=rfl;rw[this,zAN];simp
theorem zUR:Ok (kNe (.dat (.int i)) (.dat (.int j)) M) P ↔ P (.dat (.bl (decide (i≠j)))) M:=by
 have:kNe (.dat (.int i)) (.dat (.int j)) M=some (.dat (.bl (!decide (V.int i=V.int j))),M):=rfl;rw[this,zAN];simp
theorem zRx {x:EV} {xs:List D} (h:zBW M x=some xs) (hx:∀ d,x=.dat d->zI8 d=none):Ok (kNe x (.fl []) M) P ↔ P (.dat (.bl (!xs.isEmpty))) M:=by
 have e1:zMO true x (.fl []) M=none:=by cases x <;> rfl
 have e2:kNe x (.fl []) M=some (.dat (.bl (!xs.isEmpty)),M):=by
  unfold kNe kOr;rw[e1];unfold zPy;rw[h];rfl
 rw[e2,zAN]
theorem zTr {x:EV} {xs:List D} {d:D} (h:zAF M x=some xs) (hd:atI xs i=some d) (p:P (.dat d) M):Ok (kIx x (.dat (.int i)) M) P:=by
 have:kIx x (.dat (.int i)) M=some (.dat d,M):=by unfold kIx;dsimp only;rw[h];dsimp only;rw[hd]
 rw[this,zAN];exact p
theorem zRH {xs:List D} {k:Nat} {d:D} (h:xs[k]?=some d):atI xs (k:Int)=some d:=zNG h
theorem zMQ {xs:List D} {i:Int} {d:D} (h0:0<=i) (h:xs[i.toNat]?=some d):atI xs i=some d:=by
 have:i=((i.toNat:Nat):Int):=by omega
 rw[this];exact zNG h
theorem zVv {x:EV} {xs:List D} (h:zAF M x=some xs):Ok (zAu [x] M) P ↔ P (.dat (.int xs.length)) M:=by
 have:zAu [x] M=some (.dat (.int xs.length),M):=by unfold zAu;dsimp only;rw[h]
 rw[this,zAN]
theorem zES {x:EV} {xs:List D} (h:zAF M x=some xs):Ok (zAI [x] M) P ↔ P (.dat (.tup xs)) M:=by
 have:zAI [x] M=some (.dat (.tup xs),M):=by unfold zAI;dsimp only;rw[h]
 rw[this,zAN]
theorem zUT {x:EV} {xs:List D} {lo hi:Ys} (h:zBW M x=some xs) (ht:zBp x=none):Ok (kSl x lo hi M) P ↔ P (.fl (zDj xs lo hi)) M:=by
 have:kSl x lo hi M=some (.fl (zDj xs lo hi),M):=by unfold kSl;rw[ht];dsimp only;rw[h]
 rw[this,zAN]
theorem zAG {xs:List D}:zAF M (.dat (.tup xs))=some xs:=rfl
theorem zBU {xs:List D}:zAF M (.fl xs)=some xs:=rfl
theorem zAV {n:Nat} {xs:List D} (h:M[n]?=some (.lst xs)):zBW M (.dat (.ref n))=some xs:=by unfold zBW;dsimp only;rw[h]
theorem zNJ {n:Nat} {xs:List D} (h:M[n]?=some (.fro xs)):zBW M (.dat (.ref n))=some xs:=by unfold zBW;dsimp only;rw[h]
theorem ze {n:Nat} {xs:List D} (h:M[n]?=some (.lst xs)):zAF M (.dat (.ref n))=some xs:=zAV h
theorem zSQ {n:Nat} {xs:List D} (h:M[n]?=some (.fro xs)):zAF M (.dat (.ref n))=some xs:=zNJ h
theorem zB8 {n:Nat} {xs:List D} {d:D} {Q:D->Mem->Prop} (h:M[n]?=some (.lst xs)) (hz:xs.length<sizeLine):Ok (zAP (.dat (.ref n)) [d] M) Q ↔ Q .non (M.set n (.lst (xs++[d]))):=by
 have:zAP (.dat (.ref n)) [d] M=some (.non,M.set n (.lst (xs++[d]))):=by unfold zAP;dsimp only;rw[h];dsimp only;rw[zW0 hz]
 rw[this,zAN]
theorem zTO {n:Nat} {x:D} {xs:List D} {Q:D->Mem->Prop} (h:M[n]?=some (.lst (x::xs))):Ok (zHu (.dat (.ref n)) [.int 0] M) Q ↔ Q x (M.set n (.lst xs)):=by
 have:zHu (.dat (.ref n)) [.int 0] M=some (x,M.set n (.lst xs)):=by
  unfold zHu;dsimp only;rw[h];dsimp only;have e:ixN (x::xs).length 0=some 0:=by unfold ixN;rw[zW0 (by omega),zW0 (by simp)];rfl
  rw[e];dsimp only[List.getElem?_cons_zero];rw[zW0 (by decide)];rfl
 rw[this,zAN]
theorem zKU {n k:Nat} {xs:List D} {d:D} (h:M[n]?=some (.lst xs)) (hk:k<xs.length):zK7 (.dat (.ref n)) (.int k) d M=some (M.set n (.lst (xs.set k d))):=by
 unfold zK7;dsimp only;rw[h];dsimp only;have e:ixN xs.length (k:Int)=some k:=by unfold ixN;rw[zW0 (by omega),zW0 (by omega)];simp
 rw[e]
end
theorem zM2 {m:FF} {ds:List D} {M:Mem} {Q:D->Mem->Prop} (h:Ok (m ds M) λd M1=>(D.und M.length d=true/\M.length<=M1.length /\ ∀ (j:Nat) u,j<M.length->M1[j]?=some u->MO.und M.length u=true)/\Q d (M1.take M.length)):Ok (zIt m ds M) Q:=by
 obtain ⟨d,M1,e,⟨h1,h2,h3⟩,q⟩:=h;unfold zIt;rw[e];dsimp only;rw[zW0]
 .exact ⟨_,_,rfl,q⟩
 .simp only[zXL,zXy,zXM];refine ⟨⟨h1,λu hu=>?_⟩,h2⟩;obtain ⟨j,hj⟩:=List.getElem?_of_mem hu;have hlt:j<M.length:=by
   have:=(zWo.mp hj).1;rw[zX9]at this;omega
  rw[List.getElem?_take_of_lt hlt]at hj;exact h3 j u hlt hj
theorem zCT {m:FF} {ds:List D} {M:Mem} {Q:D->Mem->Prop} (h0:D.unds 0 ds=true) (h:Ok (m ds []) λd _=>D.und 0 d=true/\Q d M):Ok (zDI m ds M) Q:=by
 obtain ⟨d,M1,e,h1,q⟩:=h;unfold zDI;rw[zW0 h0,e];dsimp only;rw[zW0 h1];exact ⟨_,_,rfl,q⟩
section
theorem Tup.but (x:h.IsTuple a its) (hs:Heap.ExtBut b h h') (n:a≠b):h'.IsTuple a its:=x.extBut hs n
theorem zHA (I:s.heap.IsTupleIter it t i) (T:s.heap.IsTuple t its) (hx:its[i]?=some x)
  (q:∀ h',h'.IsTupleIter it t (i+1)->Heap.SameBut it s.heap h'->Q x { s with heap:=h' }):wpAny (model prog w) A (Builtin.SmallTypes.nextOf (.ref it)) Q E s:=by
 obtain ⟨o,O,C,FD⟩:=id I;obtain ⟨u,U,_,m,G⟩:=T;unfold Builtin.SmallTypes.nextOf;refine zWl (zXN (name:=Str.ofString "__next__") I.typeIs PySem.F.slot_tuple_iterator_next (zXO PySem.F.slot_tuple_iterator_next I.typeIs PySem.F.entry_tuple_iterator_next ?_ (PySem.F.args_tuple_iterator_next_1 _)));refine zWl (m:=field (.ref it) 0) (zXQ O FD (x:=.ref t) rfl ?_);rw[zW3 (show ¬ ((Value.ref t==Value.none)=true) by exact zW7)];refine zWl (m:=field (.ref it) 1) (zXQ O FD (x:=.int i 0) rfl ?_);refine zWl (m:=seqItems? (.ref t)) (zXb U G ?_);simp only[hx,zZV];refine zWl (wpAny_setField O FD (by simp) (zWn ⟨x,rfl,zWn (q _ ⟨_,zXY _ O (Obj.isFreed_of_fields (zX2 FD _)),(Obj.cls_mapFields ..).trans C,?_⟩ (zXo ..))⟩));rw[zX2 FD];simp[rawInt]
theorem zFS (hh:A.handled=none) (I:s.heap.IsTupleIter it t i) (T:s.heap.IsTuple t its) (hx:its[i]?=none)
  (q:∀ h' e,Heap.ExtBut it s.heap h'->(∃ o,h'.get? e=some o/\o.cls=.type "StopIteration")->E (.ref e) { s with heap:=h' }):wpAny (model prog w) A (Builtin.SmallTypes.nextOf (.ref it)) Q E s:=by
 obtain ⟨o,O,C,FD⟩:=id I;obtain ⟨u,U,_,m,G⟩:=T;unfold Builtin.SmallTypes.nextOf;refine zWl (zXN (name:=Str.ofString "__next__") I.typeIs PySem.F.slot_tuple_iterator_next (zXO PySem.F.slot_tuple_iterator_next I.typeIs PySem.F.entry_tuple_iterator_next ?_ (PySem.F.args_tuple_iterator_next_1 _)));refine zWl (m:=field (.ref it) 0) (zXQ O FD (x:=.ref t) rfl ?_);rw[zW3 (show ¬ ((Value.ref t==Value.none)=true) by exact zW7)];refine zWl (m:=field (.ref it) 1) (zXQ O FD (x:=.int i 0) rfl ?_);refine zWl (m:=seqItems? (.ref t)) (zXb U G ?_);simp only[hx,zZV];refine zWl (zX8 (zWl (wpAny_setField O FD (by simp) ?_)));refine zWl (m:=newExc (.type "StopIteration") []) ?_;simp only[newTuple,newExc];refine zWl (zXE (zWl (m:=firstArgMember _ _) (wpAny_of_eq (a:=Value.none) (by first|rfl|(simp only[firstArgMember];rfl)) (zXE ?_ (by size_fits)))) (by size_fits));simp only[raiseNew];refine zWl (wpAny_handled ?_);first|rw[hh]|rw[show A.in1.handled=none from hh]
 exact zWl (zWn (wpAny_throw (q _ _ (((zXo ..).extBut.push _).push _) ⟨_,zWv _ rfl,rfl⟩)))
end
theorem zKO {X:Cx} {zB:Yd} {σ:L2.St} {H:Hp} {s:Yl} {h':Heap} {t':Nat} {ch:Yg} {T:Yt} {o:HO} (I:Inv X zB σ H s) (hf:∀ b∈ch,zCI X zB H b)
  (k:∀ b u,b∉ch->s.heap.get? b=some u->h'.get? b=some u) (hT:s.heap.objs.size<=T) (new:zAs X.prog X.w (upd H T o) h' T o):Inv X zB σ (upd H T o) { s with heap:=h',toks:=t' }:=by
 have hn:H T=none:=I.hok.fresh hT;have nch:∀ b u,H b=some u->b∉ch:=λb u e z=>by rw[(hf b z).1]at e;cases e
 have un:∀ b u,H b=some u->upd H T o b=some u:=λb u e=>by rw[zZ (zAC e hn)];exact e
 refine I.step (g':=s.gens) (d':=s.drawn) (ch:=ch) (λb hb=>⟨(hf b hb).2.2.2.1,(hf b hb).2.1,(hf b hb).2.2.2.2.1,(hf b hb).2.2.2.2.2⟩) (λb u _ _ hc e _=>k b u hc e) (λb u _ _ hc e _=>⟨u.slots,k b u hc e⟩)
  (λb u _ e n=>by rw[zZ (λz=>by rw[z]at e;exact absurd (zWw e) (Nat.not_lt.mpr hT))];exact n) (λb u hc e=>⟨u,k b u hc e⟩) (λb xs e=>un b _ e) (λb p u e=>un b _ e) (λb ps e=>⟨#[],by rw[un b _ e];simp⟩) (λm hm=>?_) (λb u e=>?_) I.bare
 .obtain ⟨p,es,ep,ho,r⟩:=hm;exact ⟨p,es,ep,k _ p (λz=>(hf _ z).2.1 rfl) ho,r⟩
 .by_cases hb:b=T
  .subst hb;rw[zAD]at e;cases e;exact new
  .rw[zZ hb]at e;refine (I.hok b u e).stay (λc v hc q=>k c v ?_ q) (λc q=>un c _ q) λc xs q=>un c _ q;rcases hc with z|z
   .rw[z];exact nch b u e
   .exact nch c _ z
theorem zN5 {X:Cx} {zB:Yd} {σ:L2.St} {H:Hp} {s:Yl} {h':Heap} {t':Nat} {ch:Yg} (I:Inv X zB σ H s) (hf:∀ b∈ch,zCI X zB H b)
  (k:∀ b u,b∉ch->s.heap.get? b=some u->h'.get? b=some u):Inv X zB σ H { s with heap:=h',toks:=t' }:=by
 have nch:∀ b u,H b=some u->b∉ch:=λb u e z=>by rw[(hf b z).1]at e;cases e
 refine I.step (g':=s.gens) (d':=s.drawn) (ch:=ch) (λb hb=>⟨(hf b hb).2.2.2.1,(hf b hb).2.1,(hf b hb).2.2.2.2.1,(hf b hb).2.2.2.2.2⟩) (λb u _ _ hc e _=>k b u hc e) (λb u _ _ hc e _=>⟨u.slots,k b u hc e⟩)
  (λb u _ e n=>n) (λb u hc e=>⟨u,k b u hc e⟩) (λb xs e=>e) (λb p u e=>e) (λb ps e=>⟨#[],by rw[e];simp⟩) (λm hm=>?_) (λb u e=>?_) I.bare
 .obtain ⟨p,es,ep,ho,r⟩:=hm;exact ⟨p,es,ep,k _ p (λz=>(hf _ z).2.1 rfl) ho,r⟩
 .refine (I.hok b u e).stay (λc v hc q=>k c v ?_ q) (λc q=>q) λc xs q=>q;rcases hc with z|z
  .rw[z];exact nch b u e
  .exact nch c _ z
section
def zCK (i j:Nat):FG:=λd σ=>match d with
 |.tup [x,y]=>some ((σ.set i (some x)).set j (some y))
 |_=>none
abbrev gP2 (K:Yb) (i j:Nat):TG:=zVT K 2 (zPD (zDo i) (zPD (zDo j) zU2))
theorem zPR {K:Yb} {i j:Nat}:GOk (gP2 K i j) (zCK i j):=by
 intro L H σ σ' τ d v Q rs r hf q;unfold zCK at hf;split at hf
 .rename_i x y;cases hf;unfold Rep at r;obtain ⟨a,vs,rfl,e,r⟩:=r;obtain ⟨v1,v2,rfl,r1,r2⟩:=r.two;exact ⟨a,_,rfl,.of e,rfl,v1,[v2],rfl,v2,[],rfl,rfl,q _ ((rs.set r1).set r2)⟩
 .cases hf
theorem zOF {K:Yb} {own:Yj} {i j:Nat} (hi:i∈own) (hj:j∈own):zE1 own (gP2 K i j) (zCK i j):=by
 intro L H σ σ' τ τ0 d v Q rs ex r hf q;unfold zCK at hf;split at hf
 .rename_i x y;cases hf;unfold Rep at r;obtain ⟨a,vs,rfl,e,r⟩:=r;obtain ⟨v1,v2,rfl,r1,r2⟩:=r.two;exact ⟨a,_,rfl,.of e,rfl,v1,[v2],rfl,v2,[],rfl,rfl,q _ ((rs.set r1).set r2) ((ex.set hi).set hj)⟩
 .cases hf
end
section
variable {X:Cx}
def zLA (f:FE):FE:=λσ M=>match f σ M with
 |some (.dat (.int i),M1)=>some (.dat (.int (-i)),M1)
 |_=>none
theorem zVk (h1:QE X a f):QE X (.UnaryOp .USub a pos) (zLA f):=.mk <| PE.imp (zVQ zTy h1.un) λτ H Q zz=>by
 obtain ⟨L,σ,M,d,M',cc,rs,hf,q⟩:=zz;unfold zLA at hf;split at hf
 .rename_i i M1 e1;cases hf;refine ⟨L,σ,M,_,_,cc,rs,e1,λL1 H1 v s1 c1 r1=>?_⟩;exact ⟨i,by unfold zr Rep at r1;exact r1,q L1 H1 _ s1 c1 (zAp (L:=L1) (H:=H1))⟩
 .cases hf
def zF1:KB:=λxs M=>match xs with
 |[x]=>match zAF M x with
  |some ys=>some (.fl ys,M)
  |none=>none
 |_=>none
theorem zPt:zJP X.K (λxs H Q=>∃ q ys,xs=[.ref q]/\(SqL X.K H q ys\/SqT X.K H q ys) /\ ∀ l,H l=none->Q (.ref l) (upd H l (.lst ys))) zF1:=by
 intro L M M' H H0 xs d vs Q cc r hk q;unfold zF1 at hk;split at hk
 .rename_i x;split at hk
  .rename_i ys e1;cases hk;obtain ⟨v,rfl,r1⟩:=r.one;obtain ⟨l,ws,rfl,hs,r2⟩:=zEy cc r1 e1;refine ⟨l,ws,rfl,hs,λk hk=>?_⟩;exact q L _ _ (.upd hk) (cc.upd hk) (zr.newLst (.refl L H) cc cc hk r2)
  .cases hk
 .cases hk
theorem zTS (hg:Gl X "list") (hm:X.mg "list" = none) (ha:QAE X [e] fa) (he:starEach [e] X.env=(false,eval e X.env)::starEach [] X.env:=by rfl) (hpl:(backTo pos (starEach [] X.env)).any (·.1)=false:=by rfl):QE X (.Call (.Name "list" p) [e] [] pos) (fB zF1 fa) :=
 zKc zPt zJ6 (by rfl) hg hm ha (by decide) (by decide) he hpl
theorem zQs (hh:zAF M x=some xs):Ok (zF1 [x] M) P ↔ P (.fl xs) M:=by
 have:zF1 [x] M=some (.fl xs,M):=by unfold zF1;dsimp only;rw[hh]
 rw[this,zAN]
end
open AutoSeq1 (wpAny_loadPart')
section
theorem zPP {r:Yt} {lo hi:Int} {t u v:Tok} {n:Nat} {Q:List Value->Shared->Prop} (hh:A.handled=none) (R:IsRange s.heap r lo hi 1 t u v) (sm:Builtin.Range.small lo hi 1=true) (hn:Builtin.Range.rangeSize lo hi 1=n) (hz:n<=2 ^ 24)
  (q:∀ h' tk (acc:Yp),(∀ b o,s.heap.get? b=some o->h'.get? b=some o)->ItemsOf (λi v=>∃ t,v=.int (lo+i*1) t) acc n->Q acc.toList { s with heap:=h',toks:=tk }):wpAny (model prog w) A (collect (.ref r)) Q E s:=by
 unfold collect;refine zWl (wpAny_runValue (zXq PySem.F.entry_proto_collect ?_));rw[zXg PySem.F.plain_proto_collect _];refine zWl (m:=newList []) (zXE (zWn ⟨plainId_quiet PySem.F.plain_list_iadd _,zXq PySem.F.entry_list_iadd ?_⟩));rw[zXg PySem.F.plain_list_iadd _];have S0:(s.heap.push { cls:=.type "list", data:=.seq ([]:List Value).toArray }).get? s.heap.objs.size=some { cls:=.type "list", data:=.seq #[] 0 }:=zWv _ rfl
 have fin:∀ (h':Heap) (tk:Nat) (acc:Array Value) (k:Nat),(∀ b o,b≠s.heap.objs.size->(s.heap.push { cls:=.type "list", data:=.seq ([]:List Value).toArray }).get? b=some o->h'.get? b=some o) ->
   h'.get? s.heap.objs.size=some { cls:=.type "list", dict:=none,data:=.seq acc k,slots:=#[] }->ItemsOf (λi v=>∃ t,v=.int (lo+i*1) t) acc n ->
   wpAny (model prog w) A (match Value.ref s.heap.objs.size with
    |Value.ref a=>do
     match (<- load a).data with
      |Data.seq xs _=>pure xs.toList
      |_=>unsupported "internal:collect"
    |_=>unsupported "internal:collect") Q E { s with heap:=h',toks:=tk }:=λh' tk acc k kp e it=>by
  refine zWl (m:=load s.heap.objs.size) (wpAny_load e (zWn (q h' tk acc (λb o m=>kp b o (zW6 (zWw m)) (zWm _ m)) it)))
 refine zXH (wpAny_extend_range (A:=A) (s:={ s with heap:=s.heap.push { cls:=.type "list", data:=.seq ([]:List Value).toArray } })
  (R:=λr s'=>r=.ok (.ret (.ref s.heap.objs.size)) /\ ∃ h' tk acc k,s'={ s with heap:=h',toks:=tk }/\(∀ b o,b≠s.heap.objs.size->(s.heap.push { cls:=.type "list", data:=.seq ([]:List Value).toArray }).get? b=some o->h'.get? b=some o) /\
   h'.get? s.heap.objs.size=some { cls:=.type "list", dict:=none,data:=.seq acc k,slots:=#[] }/\ItemsOf (λi v=>∃ t,v=.int (lo+i*1) t) acc n)
  hh (zWm _ R) sm hn hz s.heap.objs.size (.ref s.heap.objs.size) 0 S0 λh' tk acc k kp e it=>⟨rfl,h',tk,acc,k,rfl,kp,e,it⟩) (λf s' z=>?_) (λe s' z=>?_)
 .cases f with
  |done f=>
   obtain ⟨e,h',tk,acc,k,rfl,z1,z2,z3⟩:=z;cases e;exact fin h' tk acc k z1 z2 z3
  |again c'=>exact ⟨z.1,codeAny_mono z.2 λr s'' z=>by obtain ⟨rfl,h',tk,acc,k,rfl,z1,z2,z3⟩:=z;exact fin h' tk acc k z1 z2 z3⟩
 .exact absurd z.1 (by simp)
end
theorem zJH (r:Yt) (lo hi:Int) (t u v:Tok) (n:Nat) (sm:Builtin.Range.small lo hi 1=true) (hn:Builtin.Range.rangeSize lo hi 1=n) (hz:n<=2 ^ 24) :
  Meets (Builtin.«tuple.__new__» ⟨[.type "tuple", .ref r],[]⟩) (λA R s=>A.handled=none/\IsRange s.heap r lo hi 1 t u v /\
   ∀ (h':Heap) (tk:Nat) (acc:Array Value),(∀ b o,s.heap.get? b=some o->h'.get? b=some o)->ItemsOf (λi v=>∃ t,v=.int (lo+i*1) t) acc n->R (.ok (.ret (.ref h'.objs.size))) { s with heap:=h'.push { cls:=.type "tuple", data:=.seq acc },toks:=tk }) :=
 .of_wp λprog w A R s h=>by
  obtain ⟨hp,g,d,tk,os⟩:=s;obtain ⟨hh,Ra,h⟩:=h;have h1:=sub_tuple_self;have h2:=init_tuple_lookup;have h3:=madeHere_tuple;have T:Shared.TypeIs ⟨hp,g,d,tk,os⟩ (.ref r) "range" := ⟨_,Ra,rfl⟩;wp_walk using wpAny_loadPart' Ra,wpAny_typeOf T,zPP (show A.in1.handled=none from hh) Ra sm hn hz;intro h' tk' acc kp it;refine zWl (m:=Builtin.Tuple.tupleExact acc.toList.toArray) ?_;unfold Builtin.Tuple.tupleExact;have sz:acc.toList.toArray.size<=sizeLine:=by rw[zWt,zXU,it.1,sizeLine_eq];omega
  refine zXE (zWn ⟨_,rfl,?_⟩) sz;have e:acc.toList.toArray=acc:=by simp
  rw[e];exact h h' tk' acc kp it
section
theorem zLF:zDK X (.type "range") (λxs H Q=>∃ j,xs=[.int j] /\ ∀ l,H l=none->Q (.ref l) (upd H l (.rng 0 j))):=by
 intro zB s σ H xs us Q I r h;obtain ⟨j,rfl,q⟩:=h;obtain ⟨u,rfl,rx⟩:=zF4 r;obtain ⟨t,rfl⟩:=rx;refine call_range_1 ⟨.ref s.heap.objs.size,_,I.laid (λb o z=>zWm _ z) (zWr _) ?_,rfl,q _ (I.hok.fresh (zWr _))⟩;exact ⟨_,_,_,zWv _ rfl⟩
def upV (n:Nat):List V:=(List.range n).map λ(k:Nat)=>V.int k
theorem zLT (h:ItemsOf (λi v=>∃ t,v=.int ((0:Int)+i*1) t) acc n):za (upV n) acc.toList:=by
 obtain ⟨hz,hi⟩:=h;have:∀ (xs:Yf) (k:Nat),(∀ j v,xs[j]?=some v -> ∃ t,v=Value.int ((k+j:Nat):Int) t)->za ((List.range' k xs.length).map λ(k:Nat)=>V.int k) xs:=by
  intro xs;induction xs with
  |nil=>intro k _;exact .nil
  |cons x xs ih=>
   intro k hk;rw[zXI,List.range'_succ,zW4];refine .cons ?_ (ih (k+1) λj v e=>?_)
   .obtain ⟨t,e⟩:=hk 0 x rfl;exact ⟨t,by simpa using e⟩
   .obtain ⟨t,e'⟩:=hk (j+1) v (by simpa using e);exact ⟨t,by rw[e'];congr 2;omega⟩
 have q:=this acc.toList 0 (λj v e=>by
  obtain ⟨t,e'⟩:=hi j v (by simpa using e);exact ⟨t,by rw[e'];congr 1;omega⟩)
 unfold upV;rw[List.range_eq_range'];rw[zXU,hz]at q;exact q
theorem zIY (h0:0<=j) (h1:j<=16777216):Builtin.Range.small 0 j 1=true/\Builtin.Range.rangeSize 0 j 1=(j.toNat:Int):=by
 refine ⟨small_one (by omega) (by omega) (by omega) (by omega),?_⟩;rw[rangeSize_one];split <;> omega
def zVK (mk:List V->HO):List V->Hp->VK->Prop:=λxs H Q=>∃ r j,xs=[.ref r]/\H r=some (.rng 0 j)/\0<=j/\j<=16777216 /\ ∀ l,H l=none->Q (.ref l) (upd H l (mk (upV j.toNat)))
theorem zGc (n:Nat):(upV n).length=n:=by unfold upV;simp
theorem zOh (hc:X.calm=true):zDK X (.type "tuple") (zVK HO.tup):=by
 intro zB s σ H xs us Q I r h;obtain ⟨l,j,rfl,hr,h0,h1,q⟩:=h;obtain ⟨u,rfl,rx⟩:=zF4 r;cases rx;obtain ⟨t,u,v,er⟩:=(show zAs X.prog X.w H s.heap l (.rng 0 j)from I.hok l _ hr);obtain ⟨sm,sz⟩:=zIY h0 h1
 refine callType_new PySem.F.called_tuple (by decide) (PySem.F.typeCall_tuple_1 _) (PySem.F.newCall_tuple_1 _) (λobj=>PySem.F.args_object_init_2 obj _) PySem.F.entry_tuple_new (zJH l 0 j t u v j.toNat sm sz (by omega))
  ⟨I.ok.hd hc,er,λh' tk acc kp it=>⟨⟨_,zWv _ rfl,rfl⟩,?_⟩⟩
 have I1:Inv X zB σ H { s with heap:=h',toks:=tk }:=I.kept kp;refine ⟨.ref h'.objs.size,_,I1.laid (t':=tk) (λb o z=>zWm _ z) (zWr _) ?_,rfl,q _ (I1.hok.fresh (zWr _))⟩;exact ⟨by rw[zGc,sizeLine_eq];omega,acc.toList,zLT it,by simpa using zCF.new h' acc⟩
theorem zN6 (hc:X.calm=true):zDK X (.type "list") (zVK HO.lst):=by
 intro zB s σ H xs us Q I r h;obtain ⟨l,j,rfl,hr,h0,h1,q⟩:=h;obtain ⟨u,rfl,rx⟩:=zF4 r;cases rx;obtain ⟨t,u,v,er⟩:=(show zAs X.prog X.w H s.heap l (.rng 0 j)from I.hok l _ hr);obtain ⟨sm,sz⟩:=zIY h0 h1;refine call_list_range (I.ok.hd hc) er sm sz (by omega) λh' tk acc k kp z it=>?_;refine ⟨.ref s.heap.objs.size,_,I.laid (t':=tk) kp (zWr _) (show zAs X.prog X.w _ h' _ (.lst (upV j.toNat))from ⟨by rw[zGc,sizeLine_eq];omega,acc.toList,k,zLT it,by simpa using z⟩),rfl,q _ (I.hok.fresh (zWr _))⟩
def upD (n:Nat):List D:=(List.range n).map λ(k:Nat)=>D.int k
theorem zMx (n:Nat):zP L H (upD n) (upV n):=by
 have:∀ xs:List Nat,zP L H (xs.map λ(k:Nat)=>D.int k) (xs.map λ(k:Nat)=>V.int k):=by
  intro xs;induction xs with
  |nil=>exact .nil
  |cons x xs ih=>exact .cons zAp ih
 exact this _
def zNY (f:FE):FE:=λσ M=>match f σ M with
 |some (.dat (.int j),M1)=>if 0<=j/\j<=16777216 then some (.dat (.tup (upD j.toNat)),M1) else none
 |_=>none
def zCi (f:FE):FE:=λσ M=>match f σ M with
 |some (.dat (.int j),M1)=>if 0<=j/\j<=16777216 then some (.fl (upD j.toNat),M1) else none
 |_=>none
theorem zT6 (hc:X.calm=true) (hg:Gl X "tuple") (hm:X.mg "tuple" = none) (hg2:Gl X "range") (hm2:X.mg "range" = none) (ha:QE X a f)
  (he:starEach [Expr.Call (.Name "range" p2) [a] [] pos2] X.env=(false,eval (Expr.Call (.Name "range" p2) [a] [] pos2) X.env)::starEach [] X.env:=by rfl) (hpl:(backTo pos (starEach [] X.env)).any (·.1)=false:=by rfl)
  (he2:starEach [a] X.env=(false,eval a X.env)::starEach [] X.env:=by rfl) (hpl2:(backTo pos2 (starEach [] X.env)).any (·.1)=false:=by rfl) :
  QE X (.Call (.Name "tuple" p) [.Call (.Name "range" p2) [a] [] pos2] [] pos) (zNY f) :=
 .mk <| PE.imp (zDD (zOh hc) hg hm (by rfl) (zEP (zDD zLF hg2 hm2 boot_range (zEP ha.un zFm he2) (by decide) (by decide) he2 hpl2) zFm he) (by decide) (by decide) he hpl) λτ H Q zz=>by
  obtain ⟨L,σ,M,d,M',c,rs,hf,q⟩:=zz;unfold zNY at hf;split at hf
  .rename_i j M1 e1;split at hf
   .rename_i hb;cases hf;refine ⟨L,σ,M,_,_,c,rs,e1,λL1 H1 v s1 c1 r1=>⟨j,by unfold zr Rep at r1;rw[r1],λl hl=>⟨l,j,rfl,zAD,hb.1,hb.2,λk hk=>?_⟩⟩⟩;exact q L1 _ _ ((s1.trans (.upd hl)).trans (.upd hk)) ((c1.upd hl).upd hk) (Rep.newTup hk (zMx _))
   .cases hf
  .cases hf
theorem zUW (hc:X.calm=true) (hg:Gl X "list") (hm:X.mg "list" = none) (hg2:Gl X "range") (hm2:X.mg "range" = none) (ha:QE X a f)
  (he:starEach [Expr.Call (.Name "range" p2) [a] [] pos2] X.env=(false,eval (Expr.Call (.Name "range" p2) [a] [] pos2) X.env)::starEach [] X.env:=by rfl) (hpl:(backTo pos (starEach [] X.env)).any (·.1)=false:=by rfl)
  (he2:starEach [a] X.env=(false,eval a X.env)::starEach [] X.env:=by rfl) (hpl2:(backTo pos2 (starEach [] X.env)).any (·.1)=false:=by rfl) :
  QE X (.Call (.Name "list" p) [.Call (.Name "range" p2) [a] [] pos2] [] pos) (zCi f) :=
 .mk <| PE.imp (zDD (zN6 hc) hg hm (by rfl) (zEP (zDD zLF hg2 hm2 boot_range (zEP ha.un zFm he2) (by decide) (by decide) he2 hpl2) zFm he) (by decide) (by decide) he hpl) λτ H Q zz=>by
  obtain ⟨L,σ,M,d,M',c,rs,hf,q⟩:=zz;unfold zCi at hf;split at hf
  .rename_i j M1 e1;split at hf
   .rename_i hb;cases hf;refine ⟨L,σ,M,_,_,c,rs,e1,λL1 H1 v s1 c1 r1=>⟨j,by unfold zr Rep at r1;rw[r1],λl hl=>⟨l,j,rfl,zAD,hb.1,hb.2,λk hk=>?_⟩⟩⟩;have s2:Stp L H L1 (upd H1 l (.rng 0 j)):=s1.trans (.upd hl);exact q L1 _ _ (s2.trans (.upd hk)) ((c1.upd hl).upd hk) (zr.newLst s2 c (c1.upd hl) hk (zMx _))
   .cases hf
  .cases hf
end
def zFK:Expr->Bool
 |.Starred .. =>false
 |_=>true
theorem zp (h:zFK e=true):starEach (e::es) env=(false,eval e env)::starEach es env:=by
 cases e <;> first|rfl|cases h
theorem zGm (h:zFK e=true):starEach [e] env=[(false,eval e env)]:=zp h
theorem zPV (h:zFK e=true) (h':zFK e'=true):starEach [e,e'] env=[(false,eval e env),(false,eval e' env)]:=by rw[zp h,zGm h']
theorem zHJ:∀ {es:Yi},es.all zFK=true->(backTo pos (starEach es env)).any (·.1)=false
 |[],_=>rfl
 |e::es,h=>by
  rw[List.all_cons,zXL]at h;rw[zp h.1];have:=zHJ (pos:=pos) (env:=env) h.2;simpa [backTo] using this
theorem Cor.pushO {K:Yb} {L:Yg} {M:List MO} {H:Hp} {p:Yt} {o:HO} {m:MO} (c:Cor K L M H) (h:H p=none) (new:zGr K (L++[p]) (L2.upd H p o) p m) :
  Cor K (L++[p]) (M++[m]) (L2.upd H p o)/\Stp L H (L++[p]) (L2.upd H p o):=by
 have hp:p∉L:=λz=>by obtain ⟨o,e⟩:=c.tracked z;rw[h]at e;cases e
 have st:Stp L H (L++[p]) (L2.upd H p o):=by
  refine ⟨⟨[p],rfl⟩,λa ha=>?_,λa o e _=>?_,λa o e=>?_,λa o u e=>?_⟩
  .rcases zXB.mp ha with z|z
   .exact .inl z
   .have:a=p:=by simpa using z
    subst this;exact .inr h
  all_goals (rw[zZ (zAC e h)];exact e)
 refine ⟨⟨by simp[c.len],?_,λn a m e1 e2=>?_⟩,st⟩
 .rw[zXz];exact ⟨c.nd,by simp,λa ha b hb z=>by
   have:b=p:=by simpa using hb
   subst this;subst z;exact hp ha⟩
 .by_cases hn:n<L.length
  .rw[zWs hn]at e1;rw[zWs (by rw[<-c.len];exact hn)]at e2;exact (c.obj n a m e1 e2).stp st λo e=>by rw[zZ (zAC e h)];exact e
  .have hn':n=L.length:=by
    have:=(zWo.mp e1).1;rw[zW1]at this;simp at this;omega
   subst hn';simp at e1;rw[c.len]at e2;simp at e2;subst e1;subst e2;exact new
theorem Cor.put {K:Yb} {L:Yg} {M:List MO} {H:Hp} {n:Nat} {p:Yt} {o o':HO} {m:MO} (c:Cor K L M H) (h1:L[n]?=some p) (ho:H p=some o) (ht:∀ xs,o≠.tup xs) (hf:∀ a u,o≠.frz a u)
  (new:Stp L H L (L2.upd H p o')->zGr K L (L2.upd H p o') p m):Cor K L (M.set n m) (L2.upd H p o')/\Stp L H L (L2.upd H p o'):=by
 have st:Stp L H L (L2.upd H p o'):=by
  refine ⟨⟨[],by simp⟩,λa ha=> .inl ha,λa o e ha=>?_,λa xs e=>?_,λa b u e=>?_⟩
  .rw[zZ (show a≠p from λz=>ha (by rw[z];exact zXc h1))];exact e
  .rw[zZ (zIT e ho (λz=>ht xs z.symm))];exact e
  .rw[zZ (zIT e ho (λz=>hf b u z.symm))];exact e
 refine ⟨⟨by simp[c.len],c.nd,λk a m' e1 e2=>?_⟩,st⟩;rw[zYK]at e2;split at e2
 .rename_i hk;subst hk;rw[h1]at e1;cases e1;split at e2
  .cases e2;exact new st
  .cases e2
 .rename_i hk;have hne:a≠p:=λz=>hk (by
   subst z;exact (List.getElem?_inj (zWo.mp h1).1 c.nd).mp (h1.trans e1.symm))
  exact (c.obj k a m' e1 e2).stp st λo e=>by rw[zZ hne];exact e
section
def zLs:FE:=λ_ M=>some (.dat (.ref M.length),M++[.dict []])
def zLn:FE:=λ_ M=>some (.dat (.ref M.length),M++[.dicT []])
theorem zR2:QE X (.Dict [] [] pos) zLs:=.mk <| PE.imp zQw λτ H Q ⟨L,σ,M,d,M',c,rs,hf,q⟩ p hp=>by
 unfold zLs at hf;cases hf;obtain ⟨c2,s2⟩:=c.pushO (m:=.dict []) hp ⟨[],zAD,rfl⟩;refine q _ _ _ s2 c2 ?_;unfold zr Rep;exact ⟨p,rfl,by rw[<-c.len];simp⟩
theorem zSV:QE X (.Dict [] [] pos) zLn:=.mk <| PE.imp zQC λτ H Q ⟨L,σ,M,d,M',c,rs,hf,q⟩ p hp=>by
 unfold zLn at hf;cases hf;obtain ⟨c2,s2⟩:=c.pushO (m:=.dicT []) hp ⟨[],zAD,rfl⟩;refine q _ _ _ s2 c2 ?_;unfold zr Rep;exact ⟨p,rfl,by rw[<-c.len];simp⟩
theorem zGW (h:Rep L H d v) (e:zCQ d=some k):v=kV k:=by
 cases d with
 |int i=>cases e;unfold Rep at h;exact h
 |str x=>cases e;unfold Rep at h;exact h
 |_=>cases e
def zJ7 (M:Mem):EV->Option (List D)
 |.fl xs=>some xs
 |.dat (.ref n)=>match M[n]? with
  |some (.lst xs)=>some xs
  |_=>none
 |_=>none
theorem zLy {K:Yb} {L:Yg} {M:Mem} {H H0:Hp} {x:EV} {v:V} {xs:List D} (c:Cor K L M H) (r:zr H0 L H x v) (h:zJ7 M x=some xs):∃ a vs,v=.ref a/\H a=some (.lst vs)/\zP L H xs vs:=by
 cases x with
 |fl ys=>
  cases h;obtain ⟨p,vs,rfl,_,e,_,r⟩:=r;exact ⟨p,vs,rfl,e,r⟩
 |dat d=>
  cases d with
  |ref n=>
   unfold zr Rep at r;obtain ⟨a,rfl,e⟩:=r;unfold zJ7 at h;dsimp only at h;split at h
   .rename_i ys q;cases h;obtain ⟨vs,e1,r1⟩:=c.obj n a _ e q;exact ⟨a,vs,rfl,e1,r1⟩
   .cases h
  |_=>cases h
def zFz:K2:=λx y M=>match zJ7 M x,zJ7 M y with
 |some xs,some ys=>if xs.length+ys.length<=sizeLine then some (.fl (xs++ys),M) else none
 |_,_=>none
theorem zRN {K:Yb}:zC3 K zU0 zFz:=by
 intro L M M' H H0 x y d v w Q c rx ry hk q;unfold zFz at hk;split at hk
 .rename_i xs ys e1 e2;split at hk
  .rename_i hz;cases hk;obtain ⟨l,vs,rfl,h1,r1⟩:=zLy c rx e1;obtain ⟨l2,ws,rfl,h2,r2⟩:=zLy c ry e2;refine ⟨l,l2,vs,ws,rfl,rfl,h1,h2,by rw[r1.length,r2.length];exact hz,λp hp=>?_⟩;exact q L _ _ (.upd hp) (c.upd hp) (zr.newLst (.refl L H) c c hp (r1.app r2))
  .cases hk
 .cases hk
theorem zTm (h1:QE X a f) (h2:QE X b g):QE X (.BinOp a .Add b pos) (fOp zFz f g):=zLN zRN zTJ h1 h2
theorem zMJ (h1:zJ7 M x=some xs) (h2:zJ7 M y=some ys) (hz:xs.length+ys.length<=100000) (q:P (.fl (xs++ys)) M):Ok (zFz x y M) P:=by
 refine ⟨_,_,?_,q⟩;unfold zFz;rw[h1,h2];dsimp only;rw[zW0 (zXC hz (by decide))]
end
end L3
namespace LR
open PySem PySem.Spec PyProof.Rows
open Sem (wp)
open Sem (wp)
open AutoSeq1 (wpAny_loadPart')
open Sem (wp)
open AutoSeq1 (wpAny_loadPart')
end LR
namespace L3
open PySem PySem.Spec PyProof.Rows L2
section
theorem zSl (hu:X.A.units<cLine):OpR X (compareOp .Eq) (λx y H Q=>∃ p q xs,x=.ref p/\y=.ref q/\SqT X.K H p xs/\SqT X.K H q []/\Q (.bl xs.isEmpty) H):=by
 intro zB s σ H x y v u Q I rx ry z;obtain ⟨p,q,xs,rfl,rfl,hp,hq,z⟩:=z;cases rx;cases ry;obtain ⟨its,r,ht,hz⟩:=I.tuple hp;obtain ⟨its2,r2,ht2,_⟩:=I.tuple hq;have e2:=r2.zero;subst e2;refine SeqAt.eq_tupleAt (e:=λ_=>true) ht ht2 hu (λj h1 h2=>by simp at h2) ?_;have e:((List.range (min its.toArray.size ([]:List Value).toArray.size)).all (λ_=>true)&&its.toArray.size==([]:List Value).toArray.size)=xs.isEmpty:=by
  have hl:=r.length;rw[zWt,<-hl];cases xs with
  |nil=>rfl
  |cons x r=>simp
 rw[e];exact zAB I z rfl
def zIe:K2:=λx y M=>match x,y with
 |.dat (.tup xs),.dat (.tup [])=>some (.dat (.bl xs.isEmpty),M)
 |_,_=>none
theorem zPu {K:Yb}:zC3 K (λx y H Q=>∃ p q xs,x=.ref p/\y=.ref q/\SqT K H p xs/\SqT K H q []/\Q (.bl xs.isEmpty) H) zIe:=by
 intro L M M' H H0 x y d v w Q cc rx ry hk q;unfold zIe at hk;split at hk
 .rename_i xs;cases hk;obtain ⟨a,ws,rfl,e2,r2⟩:=zBD (xs:=xs) rx rfl;obtain ⟨b,ws',rfl,e3,r3⟩:=zBD (xs:=[]) ry rfl;have:ws'=[]:=by unfold zP at r3;exact r3
  subst this;refine ⟨a,b,ws,rfl,rfl,.of e2,.of e3,?_⟩;have e:ws.isEmpty=xs.isEmpty:=by
   have hl:=r2.length;cases xs <;> cases ws <;> first|rfl|(simp at hl)
  rw[e];exact q L H _ (.refl L H) cc (zBx (L:=L) (H:=H))
 .cases hk
theorem zRZ (hu:X.A.units<cLine) (h1:QE X a f) (h2:QE X b g):QT X (.Compare a [.Eq] [b] pos) (tst (fOp zIe f g)):=zC7 zPu (zSl hu) h1 h2 (zEE _)
end
section
def zAd:List D->Option (List Int)
 |[]=>some []
 |.int i::r=>match zAd r with
  |some bs=>some (i::bs)
  |none=>none
 |_=>none
theorem zBa:∀ {ds:List D} {bs:Ye} {vs:List V},zAd ds=some bs->zP L H ds vs->vs=bs.map V.int
 |[],bs,vs,e,r=>by cases e;unfold zP at r;exact r
 |d::ds,bs,vs,e,r=>by
  unfold zP at r;obtain ⟨v,r',rfl,r1,r2⟩:=r;cases d with
  |int k=>
   unfold zAd at e;cases q:zAd ds with
   |none=>rw[q]at e;cases e
   |some bs'=>
    rw[q]at e;cases e;unfold Rep at r1;rw[r1,zBa q r2];rfl
  |_=>cases e
theorem zBL:∀ xs:List Int,zAd (xs.map D.int)=some xs
 |[]=>rfl
 |x::r=>by rw[zW4];unfold zAd;rw[zBL r]
theorem zOI (xs:Ye):(xs.map V.int).all zEu=true:=by
 rw[zXM];intro x hx;obtain ⟨i,_,rfl⟩:=zW2.mp hx;rfl
theorem zST (i:Int) (xs:Ye):inV (.int i) (xs.map V.int)=xs.any λy=>decide (y=i):=by
 unfold inV;rw[List.any_map];congr 1
def kIn (neg:Bool):K2:=λx y M=>match x with
 |.dat (.int i)=>match zAF M y with
  |some ds=>match zAd ds with
   |some xs=>some (.dat (.bl (if neg then !(xs.any λy=>decide (y=i)) else xs.any λy=>decide (y=i))),M)
   |none=>none
  |none=>none
 |_=>none
theorem zPz {K:Yb} {neg:Bool}:zC3 K (rIn K neg) (kIn neg):=by
 intro L M M' H H0 x y d v w Q cc rx ry hk q;unfold kIn at hk;split at hk
 .rename_i i;split at hk
  .rename_i ds e1;split at hk
   .rename_i xs e2;cases hk;have ev:v=.int i:=by unfold zr Rep at rx;exact rx
    obtain ⟨p,vs,rfl,hs,r⟩:=zEy cc ry e1;have:=zBa e2 r;subst this;refine ⟨p,_,rfl,hs,by rw[ev];rfl,zOI xs,?_⟩;rw[ev,zST];exact q L H _ (.refl L H) cc (zBx (L:=L) (H:=H))
   .cases hk
  .cases hk
 .cases hk
theorem zVJ (h1:QE X a f) (h2:QE X b g) (hm:behindInMarks .In b=false:=by rfl):QT X (.Compare a [.In] [b] pos) (tst (fOp (kIn false) f g)):=zC7 zPz zNt h1 h2 hm
theorem zRF (h1:QE X a f) (h2:QE X b g) (hm:behindInMarks .NotIn b=false:=by rfl):QT X (.Compare a [.NotIn] [b] pos) (tst (fOp (kIn true) f g)):=zC7 zPz zJB h1 h2 hm
end
end L3
namespace L2
open PySem PySem.Spec PyProof.Rows
section
theorem zH1 (I:Nat->Shared->Prop)
  (turn:∀ n s,I n s->wpAny (model prog w) A (pyNext it) (λr s₁=>match r with
   |none=>R (.ok .next) s₁
   |some v=>wpAny (model prog w) A (letOwnedTupleGo target it v) (λ_ s₁'=>wpAny (model prog w) A (assign target env v) (λ_ s₂=>
     wpAny (model prog w) A (forIn ifs true λc r=>if r=true then do let ok <- isTrue c env (eval c env);pure (ForInStep.yield ok) else pure (ForInStep.yield r)) (λok s₃=>
      if ok=true then wpAny (model prog w) A (eval kx env) (λkv s₄=>wpAny (model prog w) A (eval vx env) (λvv s₅=>
       wpAny (model prog w) A (dictSet D kv vv) (λ_ s₆=>∃ m,m<n/\I m s₆) (λ_ _=>False) s₅) (λ_ _=>False) s₄) (λ_ _=>False) s₃
      else ∃ m,m<n/\I m s₃) (λ_ _=>False) s₂) (λ_ _=>False) s₁') (λ_ _=>False) s₁) (λ_ _=>False) s)
  (n:Nat) (h:I n s) :
  codeAny (model prog w) A (.compLoop (.DictComp kx vx [⟨target,iter,ifs,0⟩] scope pos) 0 it (.ref D) env) R s:=by
 refine codeAny_loop rfl I (λn s hI=>?_) n h;show wpAny _ A ((compTurn (.DictComp kx vx [⟨target,iter,ifs,0⟩] scope pos) 0 it (.ref D) env).onRaise (λx=>do noteFrame x env;theTreesLotGoes x)) _ _ s;refine wpAny_noted ?_;rw[compTurn_dict];refine zWl (zXj (zWl (zXH (turn n s hI) (λr s₁ h₁=>?_) λ_ _ h'=>h'.elim)));cases r with
 |none=>exact zWn h₁
 |some v=>
  refine zWl (zXH h₁ (λ_ s₁' h₁'=>?_) λ_ _ h'=>h'.elim);refine zWl (zXH h₁' (λ_ s₂ h₂=>zWl (zXH h₂ (λok s₃ h₃=>?_) λ_ _ h'=>h'.elim)) λ_ _ h'=>h'.elim);cases ok with
  |false=>exact zWn ⟨rfl,h₃⟩
  |true=>
   exact zWl (zWl (zXH h₃ (λkv s₄ h₄=>zWl (zXe (zXH h₄ (λvv s₅ h₅=>zWl (zXj (zXe (zXH h₅ (λ_ s₆ h₆=>zWn ⟨rfl,h₆⟩) λ_ _ h'=>h'.elim)))) λ_ _ h'=>h'.elim))) λ_ _ h'=>h'.elim))
theorem zJQ (elt target iter:Expr) (ifs:Yi) (scope:Y0) (pos:Pos) (it acc:Yu) (env:Env) :
  compTurn (.SetComp elt [⟨target,iter,ifs,0⟩] scope pos) 0 it acc env=(do
   standAt iter.pos;match <- pyNext it with
   |none=>pure (.done .next)
   |some v=>
    letOwnedTupleGo target it v;assign target env v;let mut ok:=true
    for c in ifs do
     if ok then ok <- isTrue c env (eval c env)
    if ok then (do let v <- eval elt env;standAt elt.pos;let _ <- call (.builtin "set.add") [acc,v])
    again (.compLoop (.SetComp elt [⟨target,iter,ifs,0⟩] scope pos) 0 it acc env)):=by rfl
theorem zJq (I:Nat->Shared->Prop)
  (turn:∀ n s,I n s->wpAny (model prog w) A (pyNext it) (λr s₁=>match r with
   |none=>R (.ok .next) s₁
   |some v=>wpAny (model prog w) A (letOwnedTupleGo target it v) (λ_ s₁'=>wpAny (model prog w) A (assign target env v) (λ_ s₂=>
     wpAny (model prog w) A (forIn ifs true λc r=>if r=true then do let ok <- isTrue c env (eval c env);pure (ForInStep.yield ok) else pure (ForInStep.yield r)) (λok s₃=>
      if ok=true then wpAny (model prog w) A (eval elt env) (λx s₄=>
       wpAny (model prog w) A (call (.builtin "set.add") [acc,x]) (λ_ s₅=>∃ m,m<n/\I m s₅) (λ_ _=>False) s₄) (λ_ _=>False) s₃
      else ∃ m,m<n/\I m s₃) (λ_ _=>False) s₂) (λ_ _=>False) s₁') (λ_ _=>False) s₁) (λ_ _=>False) s)
  (n:Nat) (h:I n s) :
  codeAny (model prog w) A (.compLoop (.SetComp elt [⟨target,iter,ifs,0⟩] scope pos) 0 it acc env) R s:=by
 refine codeAny_loop rfl I (λn s hI=>?_) n h;show wpAny _ A ((compTurn (.SetComp elt [⟨target,iter,ifs,0⟩] scope pos) 0 it acc env).onRaise (λx=>do noteFrame x env;theTreesLotGoes x)) _ _ s;refine wpAny_noted ?_;rw[zJQ];refine zWl (zXj (zWl (zXH (turn n s hI) (λr s₁ h₁=>?_) λ_ _ h'=>h'.elim)));cases r with
 |none=>exact zWn h₁
 |some v=>
  refine zWl (zXH h₁ (λ_ s₁' h₁'=>?_) λ_ _ h'=>h'.elim);refine zWl (zXH h₁' (λ_ s₂ h₂=>zWl (zXH h₂ (λok s₃ h₃=>?_) λ_ _ h'=>h'.elim)) λ_ _ h'=>h'.elim);cases ok with
  |false=>exact zWn ⟨rfl,h₃⟩
  |true=>
   exact zWl (zWl (zXH h₃ (λx s₄ h₄=>zWl (zXj (zWl (zXH h₄ (λ_ s₅ h₅=>zWn (zWn ⟨rfl,h₅⟩)) λ_ _ h'=>h'.elim)))) λ_ _ h'=>h'.elim))
end
end L2
namespace LR
open PySem PySem.Spec PyProof.Rows
open Sem (wp)
section
theorem zLt (ht:IsTup s.heap t items) (hj:j<items.size) (hi:∃ v,items[j]=.int i v) (hno:∀ m (hm:m<items.size),m<j -> ∃ k v,items[m]=.int k v/\k≠i)
  (h:Q (.int j s.toks) { s with toks:=s.toks+1 }):wpAny (model prog w) A (call (.builtin "tuple.index") [.ref t,.int i u]) Q E s:=by
 refine zXO F.slot_tuple_index ht.typeIs F.entry_tuple_index ?_ (F.args_tuple_index_2 _ _);unfold Builtin.«tuple.index»;refine zWl (wpAny_of_eq (a:=((Value.ref t,[Value.int i u]):Value × List Value)) rfl ?_);refine zWl (tupleItemsOf_ ht ?_);show wpAny _ _ (pure 0 >>= _) _ _ s;refine zWl (zWn (zWl (zWn ?_)));show wpAny _ _ (forIn [:min items.size items.size] ((none:Option PySem.Fin),()) _ >>= _) _ _ s;rw[Nat.min_self];have L:∀ (k m:Nat),m+k=items.size->m<=j -> ∀ (E':Yc),wpAny (model prog w) A.in1 (forIn (List.range' m k) ((none:Option PySem.Fin),()) λ(i_1:Nat) (__s:Option PySem.Fin × Unit)=>
       match items[i_1]? with
       |some y=>do
        let __do_lift <- eqBool y (Value.int i u)
        if __do_lift=true then do
          let __do_lift <- retInt (i_1:Int);pure (ForInStep.done (some __do_lift,()))
         else pure (ForInStep.yield (none,()))
       |x=>pure (ForInStep.yield (none,()))) (λr s'=>r=(some (Fin.done (Flow.ret (Value.int j s.toks))),())/\s'={ s with toks:=s.toks+1 }) E' s:=by
  intro k;induction k with
  |zero=>intro m hm hle;omega
  |succ k ih=>
   intro m hm hle E';have hlt:m<items.size:=by omega
   rw[List.range'_succ,List.forIn_cons];have e:items[m]?=some items[m]:=zXW hlt;rw[e];dsimp only;by_cases q:m=j
   .subst q;obtain ⟨v,hv⟩:=hi;rw[hv];refine zWl (zWl (wpAny_eqBool_int ?_));rw[zW0 (by simp)];exact zWl (zWl (wpAny_mkInt (zWn (zWn (zWn ⟨rfl,rfl⟩)))))
   .obtain ⟨k',v,hv,hk⟩:=hno m hlt (by omega);rw[hv];refine zWl (zWl (wpAny_eqBool_int ?_));rw[zW3 (by simpa using hk)];exact zWn (ih (m+1) (by omega) (by omega) E')
 refine zWl ?_;rw[Std.Legacy.Range.forIn_eq_forIn_range'];have er:List.range' ([:items.size]:Std.Legacy.Range).start ([:items.size]:Std.Legacy.Range).size ([:items.size]:Std.Legacy.Range).step=List.range' 0 items.size:=by simp[Std.Legacy.Range.size]
 rw[er];refine zXH (L items.size 0 (by omega) (zXX _) _) (λr s' ⟨hr,hs⟩=>?_) λ_ _ e=>e;subst hr hs;exact zWn ⟨_,rfl,h⟩
end
end LR
namespace L3
open PySem PySem.Spec PyProof.Rows L2
section
theorem zIU {xs:Ye} {its:Yf} (r:za (xs.map V.int) its) (hm:m<its.toArray.size):∃ v,its.toArray[m]=.int (xs.getD m 0) v:=by
 have hl:m<xs.length:=by have:=r.length;simp at this hm;omega
 obtain ⟨u,e,q⟩:=r.get (i:=m) (x:=.int (xs.getD m 0)) (by simp[hl]);obtain ⟨t,rfl⟩:=q;refine ⟨t,?_⟩;have:its.toArray[m]?=some (.int (xs.getD m 0) t):=by simpa using e
 rw[zXW hm]at this;exact zXl this
theorem zRG:MtR X "tuple.index" (λx vs H Q=>∃ (p:Addr) (i:Int) (xs:List Int),x=.ref p/\vs=[.int i]/\SqT X.K H p (xs.map V.int)/\i∈xs/\Q (.int (xs.idxOf i)) H):=by
 intro zB s σ H x xs v us Q I rx rv z;obtain ⟨p,i,ns,rfl,rfl,hp,hi,q⟩:=z;cases rx;obtain ⟨u,rfl,ru⟩:=rv.one;obtain ⟨t,rfl⟩:=ru;obtain ⟨its,r,ht,hz⟩:=I.tuple hp;have hl:its.toArray.size=ns.length:=by have:=r.length;simp at this ⊢;omega
 have hj:ns.idxOf i<ns.length:=List.idxOf_lt_length_iff.mpr hi;refine LR.zLt (j:=ns.idxOf i) ht (by omega) ?_ (λm hm hlt=>?_) ⟨.int (ns.idxOf i),H,I.tok _,⟨_,rfl⟩,q⟩
 .obtain ⟨v,e⟩:=zIU r (m:=ns.idxOf i) (by omega);refine ⟨v,?_⟩;rw[e,zWq,zWp hj];simp
 .obtain ⟨v,e⟩:=zIU r (m:=m) hm;refine ⟨_,v,e,λz=>?_⟩;have hm':m<ns.length:=by omega
  rw[zWq,zWp hm']at z;have:=List.not_of_lt_findIdx (xs:=ns) (p:=(· == i)) (show m<ns.findIdx (· == i)from hlt);simp at z this;exact this z
end
end L3
namespace ST
open PySem
abbrev Up (xs:Array Nat):Prop:=xs.toList.Pairwise (· < ·)
theorem Up.get (h:Up xs) (hik:i<k) (hk:k<xs.size):xs[i]'(by omega)<xs[k]:=by
 have:=List.pairwise_iff_getElem.mp h i k (by simpa using (show i<xs.size by omega)) (by simpa using hk) hik;simpa using this
theorem zJU (h:Up xs) (j:Nat):∀ (fuel lo hi:Nat),lo<=hi->hi<=xs.size->hi-lo<=fuel->(∀ i (hi':i<xs.size),i<lo->xs[i]<j)->(∀ i (hi':i<xs.size),hi<=i->j<=xs[i]) ->
  (SetTable.below.go xs j fuel lo hi<=xs.size)/\(∀ i (hi':i<xs.size),i<SetTable.below.go xs j fuel lo hi->xs[i]<j)/\(∀ i (hi':i<xs.size),SetTable.below.go xs j fuel lo hi<=i->j<=xs[i])
 |0,lo,hi,h1,h2,h3,a,b=>by
  have:lo=hi:=by omega
  subst this;unfold SetTable.below.go;exact ⟨h2,a,b⟩
 |fuel+1,lo,hi,h1,h2,h3,a,b=>by
  unfold SetTable.below.go;by_cases hl:lo<hi
  .rw[zW0 hl];dsimp only;have hm:(lo+hi) / 2<xs.size:=by omega
   have eg:xs.getD ((lo+hi) / 2) j=xs[(lo+hi) / 2]:=by simp[Array.getD,hm]
   rw[eg];by_cases hc:xs[(lo+hi) / 2]<j
   .rw[zW0 hc];refine zJU h j fuel _ _ (by omega) h2 (by omega) (λi hi' hlt=>?_) b;rcases zX7 i ((lo+hi) / 2)with z|z
    .exact Nat.lt_trans (h.get z hm) hc
    .have:i=(lo+hi) / 2:=by omega
     subst this;exact hc
   .rw[zW3 hc];refine zJU h j fuel _ _ (by omega) (by omega) (by omega) a (λi hi' hge=>?_);rcases zX7 ((lo+hi) / 2) i with z|z
    .have:=h.get z hi';omega
    .have:i=(lo+hi) / 2:=by omega
     subst this;omega
  .rw[zW3 hl];have:lo=hi:=by omega
   subst this;exact ⟨h2,a,b⟩
theorem zDU (h:Up xs) (j:Nat):SetTable.below xs j<=xs.size/\(∀ i (hi':i<xs.size),i<SetTable.below xs j->xs[i]<j)/\(∀ i (hi':i<xs.size),SetTable.below xs j<=i->j<=xs[i]):=by
 unfold SetTable.below;exact zJU h j xs.size 0 xs.size (zXX _) (zWr _) (by omega) (λi _ z=>by omega) (λi hi' z=>by omega)
theorem zMn (h:Up xs):SetTable.below xs 0=0:=by
 obtain ⟨a,b,c⟩:=zDU h 0;rcases Nat.eq_zero_or_pos (SetTable.below xs 0)with z|z
 .exact z
 .have:=b 0 (by omega) z;omega
theorem zMm (h:Up xs) (hk:k<xs.size):SetTable.below xs (xs[k]+1)=k+1:=by
 obtain ⟨a,b,c⟩:=zDU h (xs[k]+1);rcases Nat.lt_trichotomy (SetTable.below xs (xs[k]+1)) (k+1)with z|z|z
 .have:=c k hk (by omega);omega
 .exact z
 .have h1:k+1<xs.size:=by omega
  have:=b (k+1) h1 z;have:=h.get (show k<k+1 by omega) h1;omega
theorem zF5 {α:Type} (xs:Array α) (p:Nat) (x:α):(SetTable.insertAt xs p x).toList=xs.toList.take p++x::xs.toList.drop p:=by
  unfold SetTable.insertAt;simp;have:xs.toList.length<=xs.size:=by simp
  rw[List.take_of_length_le (by simp)]
theorem zN9 (h : Up xs) (hj : j ∉ xs.toList) : Up (SetTable.insertAt xs (SetTable.below xs j) j) := by
  obtain ⟨a, b, c⟩ := zDU h j;unfold Up;rw [zF5];rw [List.pairwise_append];have hT : ∀ x ∈ xs.toList.take (SetTable.below xs j), x < j := fun x hx => by
    obtain ⟨i,hi,e⟩:=zYo hx;rw[List.getElem_take]at e;rw[zX9]at hi
    have h1 : i < xs.size := by have : xs.toList.length = xs.size := by simp
                                omega
    have:=b i h1 (by omega);rw[<-e];simpa using this
  have hD : ∀ x ∈ xs.toList.drop (SetTable.below xs j), j < x := fun x hx => by
    obtain ⟨i,hi,e⟩:=zYo hx;rw[List.getElem_drop]at e;rw[List.length_drop]at hi
    have h1 : SetTable.below xs j + i < xs.size := by have : xs.toList.length = xs.size := by simp
                                                      omega
    have h2:=c _ h1 (by omega);have h3:x≠j:=λz=>hj (z▸List.mem_of_mem_drop hx);have e':xs[SetTable.below xs j+i]=x:=by simpa using e
    omega
  refine ⟨h.sublist (List.take_sublist _ _),zYv.mpr ⟨hD,h.sublist (List.drop_sublist _ _)⟩,λx hx y hy=>?_⟩;rcases zWx.mp hy with z|z
  .rw[z];exact hT x hx
  .exact Nat.lt_trans (hT x hx) (hD y z)
theorem zIZ (j:Nat):SetTable.has #[] j=false:=by
 unfold SetTable.has;simp
theorem zMj {t:SetTable} (h:Up t.place) (he:t.slot j=.empty):j∉t.place.toList:=λhm=>by
 obtain ⟨a,b,c⟩:=zDU h j;obtain ⟨k,hk,e⟩:=zYo hm;have hk':k<t.place.size:=by simpa using hk
 have e':t.place[k]=j:=by simpa using e
 have eb:SetTable.below t.place j=k:=by
  rcases Nat.lt_trichotomy (SetTable.below t.place j) k with z|z|z
  .have h1:SetTable.below t.place j<t.place.size:=by omega
   have:=c _ h1 (zWr _);have:=h.get z hk';omega
  .exact z
  .have:=b k hk' z;omega
 unfold SetTable.slot at he;rw[eb,zW0 (by simp[hk',e'])]at he;cases he
theorem zLH (hd:t.dummies = #[]):∀ (fuel:Nat) (p:SetTable.Probe) {j:Nat} {d:Option Nat},p.dummy=none->SetTable.probe.go t hashAt h fuel p=some (.empty j d)->d=none/\t.slot j=.empty
 |0,_,_,_,_,e=>by unfold SetTable.probe.go at e;cases e
 |fuel+1,p,j,d,hp,e=>by
  unfold SetTable.probe.go at e;split at e
  .rename_i hs;cases e;exact ⟨hp,hs⟩
  .rename_i hs;unfold SetTable.slot at hs;dsimp only at hs;rw[hd,zIZ]at hs;split at hs <;> first|cases hs|simp at hs
  .split at e
   .cases e
   .refine zLH hd fuel _ ?_ e;unfold SetTable.advance;split <;> simp[hp]
theorem zOM {t:SetTable} (hu:Up t.place) (hd:t.dummies = #[]) (e:t.freeSlot h=some (j,b)):b=false/\j∉t.place.toList:=by
 unfold SetTable.freeSlot at e;split at e
 .rename_i j' d hp;unfold SetTable.probe at hp;obtain ⟨h1,h2⟩:=zLH hd _ _ (by rfl) hp;subst h1;simp at e;obtain ⟨rfl,rfl⟩:=e;exact ⟨rfl,zMj hu h2⟩
 .cases e
structure TabOk (w:Yo) (t:SetTable):Prop where
 led:t.led = !w.params.followText "set-order"
 up:Up t.place
 nod:t.dummies = #[]
theorem zQl (n:Nat):Up (Array.range n):=by
 unfold Up;rw[Array.toList_range];exact List.pairwise_lt_range
theorem TabOk.standIn (h:TabOk w t) (n:Nat):TabOk w (t.standIn n):=⟨h.led,zQl n,rfl⟩
theorem TabOk.orStandIn (h:TabOk w t) (n:Nat):TabOk w (t.orStandIn n):=by
 unfold SetTable.orStandIn;split
 .exact h
 .exact h.standIn n
theorem TabOk.put (h:TabOk w t) (hj:j∉t.place.toList):TabOk w (t.put j).1:=by
 unfold SetTable.put;refine ⟨h.led,zN9 h.up hj,?_⟩;rw[h.nod,zIZ];rfl
theorem TabOk.layNew (h:TabOk w t) (es:Yw) (hh:Int) (x:Yu):TabOk w (layNew t es hh x).2.1:=by
 unfold PySem.layNew;split
 .rename_i j b e;exact (h.put (zOM h.up h.nod e).2).orStandIn _
 .exact h.standIn _
theorem TabOk.relaid (h:TabOk w t) (e:t.relaid hs wanted=some (t',order)):TabOk w t':=by
 unfold SetTable.relaid SetTable.laid at e;cases q:SetTable.layClean (SetTable.sizeAbove wanted-1) hs with
 |none=>rw[q]at e;cases e
 |some owner=>
  rw[q]at e;simp only[Option.bind_eq_bind,Option.bind_some,Option.pure_def,Option.some.injEq,Prod.mk.injEq]at e;obtain ⟨rfl,_⟩:=e;refine ⟨h.led,?_,rfl⟩;unfold Up;rw[List.pairwise_map,List.pairwise_filterMap];refine List.pairwise_lt_range.imp λ{a b} hab x hx y hy=>?_;cases o1:owner.getD a none with
  |none=>rw[o1]at hx;cases hx
  |some u=>
   cases o2:owner.getD b none with
   |none=>rw[o2]at hy;cases hy
   |some v=>
    rw[o1]at hx;rw[o2]at hy;cases hx;cases hy;exact hab
theorem TabOk.relayAll (h:TabOk w t) (es:Yw) (wanted:Nat):TabOk w (relayAll t es wanted).2.1:=by
 unfold PySem.relayAll;split
 .rename_i t' order e;dsimp only;split
  .exact h.relaid e
  .exact h.standIn _
 .exact h.standIn _
theorem TabOk.plain (h:TabOk w t) (b:Bool):TabOk w { t with plain:=b }:=⟨h.led,h.up,h.nod⟩
theorem TabOk.fresh:TabOk w (SetTable.fresh 0 0 (!w.params.followText "set-order")):=⟨rfl,List.Pairwise.nil,rfl⟩
open Sem (wp)
set_option genInjectivity true in
inductive F2 {α β:Type} (R:α->β->Prop):List α->List β->Prop
 |nil:F2 R [] []
 |cons {x y xs ys}:R x y->F2 R xs ys->F2 R (x::xs) (y::ys)
section
variable [DecidableEq K]
def zTB (knd:KeyKind prog w K) (e:Int × Value) (k:K):Prop:=(knd.is k e.2=true/\e.1=knd.hash k)/\e.2.scannable=true
structure SetK (knd:KeyKind prog w K) (o:Obj) (es:Yw) (ep:Nat) (t:SetTable) (ks:List K):Prop where
 ex:o.ExactSet
 data:o.data=.set es ep t
 tab:TabOk w t
 fits:t.fits es.size=true
 bound:es.size<scanBound
 ent:∃ ks',ks'.Perm ks/\F2 (zTB knd) es.toList ks'
def ins (ks:List K) (k:K):List K:=if k∈ks then ks else ks++[k]
variable {knd:KeyKind prog w K}
theorem zCl {α β:Type} {R:α->β->Prop}:∀ {xs:List α} {ys:List β},F2 R xs ys->xs.length=ys.length
 |_,_,.nil=>rfl
 |_,_,.cons _ h=>by simp[zCl h]
theorem zD1 {α β:Type} {R:α->β->Prop}:∀ {xs:List α} {ys:List β},F2 R xs ys -> ∀ x∈xs,∃ y∈ys,R x y
 |_,_,.nil,x,hx=>by cases hx
 |_,_,.cons h r,x,hx=>by
  rcases zWx.mp hx with z|z
  .subst z;exact ⟨_,zWz,h⟩
  .obtain ⟨y,hy,q⟩:=zD1 r x z;exact ⟨y,zWy _ hy,q⟩
theorem zFL {α β:Type} {R:α->β->Prop}:∀ {xs:List α} {ys:List β},F2 R xs ys -> ∀ y∈ys,∃ x∈xs,R x y
 |_,_,.nil,x,hx=>by cases hx
 |_,_,.cons h r,x,hx=>by
  rcases zWx.mp hx with z|z
  .subst z;exact ⟨_,zWz,h⟩
  .obtain ⟨y,hy,q⟩:=zFL r x z;exact ⟨y,zWy _ hy,q⟩
theorem zD5 {α β:Type} {R:α->β->Prop}:∀ {xs:List α} {ys:List β} {us:List α} {vs:List β},F2 R xs ys->F2 R us vs->F2 R (xs++us) (ys++vs)
 |_,_,_,_,.nil,h=>h
 |_,_,_,_,.cons h r,q=> .cons h (zD5 r q)
theorem zE3 {α β:Type} {R:α->β->Prop} {xs xs':List α} (p:xs'.Perm xs):∀ {ys:List β},F2 R xs ys -> ∃ ys',ys'.Perm ys/\F2 R xs' ys':=by
 have p':=p.symm;clear p;induction p' with
 |nil=>intro ys h;exact ⟨ys,.refl _,h⟩
 |cons x _ ih=>
  intro ys h;cases h with
  |cons h r=>
   obtain ⟨ys',q1,q2⟩:=ih r;exact ⟨_,q1.cons _,.cons h q2⟩
 |swap x y l=>
  intro ys h;cases h with
  |cons h r=>
   cases r with
   |cons h2 r=>
    exact ⟨_,List.Perm.swap _ _ _,.cons h2 (.cons h r)⟩
 |trans _ _ ih1 ih2=>
  intro ys h;obtain ⟨ys',q1,q2⟩:=ih1 h;obtain ⟨ys'',r1,r2⟩:=ih2 q2;exact ⟨ys'',r1.trans q1,r2⟩
theorem SetK.size (h:SetK knd o es ep t ks):es.size=ks.length:=by
 obtain ⟨ks',p,f⟩:=h.ent;rw[<-p.length_eq,<-zCl f,zXU]
theorem SetK.elems (h:SetK knd o es ep t ks):ElemsOf knd es.toList:=λe he=>by
 obtain ⟨ks',p,f⟩:=h.ent;obtain ⟨k,_,q⟩:=zD1 f e he;exact ⟨⟨k,q.1⟩,q.2⟩
theorem SetK.mem (h:SetK knd o es ep t ks) (k:K):k∈ks ↔ ∃ e∈es.toList,knd.is k e.2=true:=by
 obtain ⟨ks',p,f⟩:=h.ent;rw[<-p.mem_iff];constructor
 .intro hk;obtain ⟨e,he,q⟩:=zFL f k hk;exact ⟨e,he,q.1.1⟩
 .rintro ⟨e,he,q⟩;obtain ⟨k',hk',q'⟩:=zD1 f e he;rw[knd.inj e.2 k k' q q'.1.1];exact hk'
variable {s:Yl}
theorem SetK.typeIs (h:SetK knd o es ep t ks) (ho:s.heap.get? a=some o):s.TypeIs (.ref a) "set" := ⟨o,ho,h.ex.1⟩
theorem zIN {h:Heap} (ho:h.get? a=some o) (hd:o.data=.set es ep t) :
  (h.update a (Obj.putSet es' t')).get? a=some { o with data:=.set es' (ep+1) t' }:=by
 have:=zXY (Obj.putSet es' t') ho (by rw[putSet_of es' t' hd];rfl);rw[putSet_of es' t' hd]at this;exact this
theorem zDp {Q:Bool->Shared->Prop} (hkey:knd.is k x=true) (hsc:x.scannable=true) (ho:s.heap.get? a=some o) (hS:SetK knd o es ep t ks) (hroom:ks.length+1<scanBound)
  (h:∀ h' o' es' ep' t' b,Heap.SameBut a s.heap h'->h'.get? a=some o'->SetK knd o' es' ep' t' (ins ks k)->Q b { s with heap:=h' }) :
  wpAny (model prog w) A (setAddHashed a x (knd.hash k)) Q E s:=by
 have hd:=hS.data;have hf:=hS.fits;have hel:=hS.elems;have hb:=hS.bound;have hb1:es.size+1<scanBound:=by rw[hS.size];exact hroom
 unfold setAddHashed setAddHashedIn;refine zXe (zWl (wpAny_setState_of ho hd hf ?_));dsimp only;rw[byScan_of hsc hb hel];simp only[↓reduceIte];unfold setAddByScan;refine zWl ?_;refine zWl (zX8 ?_);refine zWl (wpAny_setScan_of hkey ho hd hf hel ?_);cases hr:List.findIdx? (λe=>knd.is k e.2) es.toList with
 |some j=>
  obtain ⟨hj,hpj,_⟩:=List.findIdx?_eq_some_iff_getElem.mp hr;have hSk:k∈ks:=(hS.mem k).mpr ⟨es.toList[j],zXJ hj,hpj⟩;refine zWn (zWn ?_);have e:s={ s with heap:=s.heap }:=by cases s;rfl
  rw[e];refine h s.heap o es ep t _ (Heap.SameBut.refl a s.heap) ho ?_;unfold ins;rw[zW0 hSk];exact hS
 |none=>
  have hSk:k∉ks:=λhk=>by
   obtain ⟨e,he,hp⟩:=(hS.mem k).mp hk;have:=List.findIdx?_eq_none_iff.mp hr e he;rw[hp]at this;exact Bool.noConfusion this
  have hgw:∀ (b:Bool) {s₁:Shared} {Q':Unit->Shared->Prop},Q' () s₁->wpAny (model prog w) A (match b with|true=>rule "set.scan.the-table-gave-way" |false=>pure ()) Q' E s₁ :=
   λb s₁ Q' hq=>by cases b <;> first|exact zWn hq|exact zX8 hq
  have hperm:=layNew_perm t es (knd.hash k) x;have hfits:=layNew_fits t es (knd.hash k) x;have htab:=hS.tab.layNew es (knd.hash k) x;generalize hL:layNew t es (knd.hash k) x=L at hperm hfits htab ⊢;obtain ⟨es1,t1,wasDummy,gave⟩:=L;rw[Array.toList_push]at hperm;have hb1':es1.size<scanBound:=by rw[<-zXU,hperm.length_eq,zW1,zXU];simpa using hb1
  obtain ⟨ks',p,f⟩:=hS.ent;have f1:F2 (zTB knd) (es.toList++[(knd.hash k,x)]) (ks'++[k]):=zD5 f (.cons ⟨⟨hkey,rfl⟩,hsc⟩ .nil);obtain ⟨ks1,p1,f2⟩:=zE3 hperm f1;have pI:ks1.Perm (ins ks k):=by
   unfold ins;rw[zW3 hSk];exact p1.trans (p.append_right _)
  refine zWl (hgw _ ?_)
  have tail:∀ t2:SetTable,TabOk w t2->t2.fits es1.size=true->wpAny (model prog w) A (do
    storeSet a es1 t2
    if (!wasDummy&&t2.tooFull)=true then do
      (match (relayAll t2 es1 (SetTable.grown es1.size)).2.2 with|true=>rule "set.scan.the-table-gave-way" |false=>pure ())
      storeSet a (relayAll t2 es1 (SetTable.grown es1.size)).1 (relayAll t2 es1 (SetTable.grown es1.size)).2.1;pure (some true)
     else pure (some true)) (λr s'=>wpAny (model prog w) A (match r with|some added=>pure added|none=>setAddHashedIn a x (knd.hash k) 99999) Q E s') E s:=by
   intro t2 T2 F2;refine zWl (wpAny_storeSet_of ho hd ?_ (fits_of_scanBound hb1'));have g1:=zIN (es':=es1) (t':=t2) ho hd;have sb1:=zXo s.heap a (Obj.putSet es1 t2);have S1:SetK knd { o with data:=.set es1 (ep+1) t2 } es1 (ep+1) t2 (ins ks k):=⟨hS.ex,rfl,T2,F2,hb1',ks1,pI,f2⟩;split
   .have hp:=relayAll_perm t2 es1 (SetTable.grown es1.size);have hfr:=relayAll_fits t2 es1 (SetTable.grown es1.size);have htr:=T2.relayAll es1 (SetTable.grown es1.size);generalize hRl:relayAll t2 es1 (SetTable.grown es1.size)=Rl at hp hfr htr ⊢;obtain ⟨es2,t3,gave2⟩:=Rl;have hsz:es2.size=es1.size:=by rw[<-zXU,hp.length_eq,zXU]
    have hb2:es2.size<scanBound:=by rw[hsz];exact hb1'
    obtain ⟨ks2,p2,f3⟩:=zE3 hp f2;refine zWl (hgw _ ?_);refine zWl (wpAny_storeSet_of g1 rfl ?_ (fits_of_scanBound hb2));have g2:=zIN (es':=es2) (t':=t3) g1 rfl;exact zWn (zWn (h _ _ _ _ _ _ (sb1.trans (zXo _ a _)) g2 ⟨hS.ex,rfl,htr,hfr,hb2,ks2,p2.trans pI,f3⟩))
   .exact zWn (zWn (h _ _ _ _ _ _ sb1 g1 S1))
  split
  .refine zWl ?_;rw[hashByValue_scannable 8 hsc];refine zWn ?_;refine tail _ ?_ ?_
   .split
    .exact htab
    .exact htab.plain _
   .split
    .exact hfits
    .exact SetTable.fits_plain_off hfits
  .refine zWl (zWn ?_);simp only[↓reduceIte];exact tail _ htab hfits
theorem zPi (hkey:knd.is k x=true) (hsc:x.scannable=true) (ho:s.heap.get? a=some o) (hS:SetK knd o es ep t ks) (hroom:ks.length+1<scanBound)
  (h:∀ h' o' es' ep' t',Heap.SameBut a s.heap h'->h'.get? a=some o'->SetK knd o' es' ep' t' (ins ks k)->Q .none { s with heap:=h',toks:=s.toks+1 }) :
  wpAny (model prog w) A (call (.builtin "set.add") [.ref a,x]) Q E s:=by
 refine zXO F.slot_set_add (hS.typeIs ho) F.entry_set_add ?_ (F.args_set_add_2 _ _);unfold Builtin.«set.add» Builtin.Frozenset.oneOther;simp only[List.isEmpty_nil,bind_assoc];unfold Builtin.Frozenset.addrOf setAdd;refine zWl (zWn ?_);try dsimp only
 refine zWl (zWn ?_);try dsimp only
 refine zWl ?_;refine zXe ?_;refine zWl (knd.pyHash hkey ?_);refine zDp (s:={ s with toks:=s.toks+1 }) hkey hsc ho hS hroom λh' o' es' ep' t' b hsb ho' hS'=>?_;exact zWn ⟨_,rfl,h h' o' es' ep' t' hsb ho' hS'⟩
def zm (w:World):Obj:={ cls:=.type "set", dict:=none,data:=.set #[] 0 (.fresh 0 0 (!w.params.followText "set-order")) }
theorem SetK.fresh:SetK knd (zm w) #[] 0 (.fresh 0 0 (!w.params.followText "set-order")) []:=⟨⟨rfl,rfl,rfl⟩,rfl,.fresh,by rfl,by decide,[],.refl _,.nil⟩
theorem zNg (h:Q (.ref s.heap.objs.size) { s with heap:=s.heap.push (zm w) }) :
  wpAny (model prog w) A (newSet (.type "set")) Q E s:=by
 unfold newSet setsByText;refine zWl (zWl (wpAny_askSetting (zWn ?_)));simp only[newObj];exact zWl (wpAny_alloc (zWn h))
end
open PySem.Spec PyProof.Rows
open Sem (wp)
theorem zKS:Manifest.owners.lookup (String.ofList ['r','o','t','a','r','e','t','i','_','t','e','s'].reverse)=some Manifest.sig_set_iterator:=by kernel_rfl
theorem zAR:Slot "set_iterator" "__next__" "set_iterator.__next__" := .of (owner := "set_iterator") (n := "__next__") (by rw[typeLookup_type,builtinLookup_eq_fast];kernel_rfl) (by decide +kernel) (by decide +kernel) (by decide +kernel) (by first|exact .inl (by decide +kernel)|exact .inr (by decide +kernel)) (by rw[isSubtype_type];kernel_rfl)
theorem zE4:Slot "set_iterator" "__iter__" "set_iterator.__iter__" := .of (owner := "set_iterator") (n := "__iter__") (by rw[typeLookup_type,builtinLookup_eq_fast];kernel_rfl) (by decide +kernel) (by decide +kernel) (by decide +kernel) (by first|exact .inl (by decide +kernel)|exact .inr (by decide +kernel)) (by rw[isSubtype_type];kernel_rfl)
theorem zCO (a:Value):argsOk "set_iterator.__next__" ⟨[a],[]⟩:=by
 unfold argsOk;rw[signature?_of (id := "set_iterator.__next__") (n:=['_','_','t','x','e','n','_','_']) (o:=['r','o','t','a','r','e','t','i','_','t','e','s']) (by kernel_rfl) zKS];kernel_rfl
theorem zJD (a:Value):argsOk "set_iterator.__iter__" ⟨[a],[]⟩:=by
 unfold argsOk;rw[signature?_of (id := "set_iterator.__iter__") (n:=['_','_','r','e','t','i','_','_']) (o:=['r','o','t','a','r','e','t','i','_','t','e','s']) (by kernel_rfl) zKS];kernel_rfl
theorem zBz:entryFor table "set_iterator.__next__" = some Builtin.«set_iterator.__next__»:=entryFor_of_tree (by kernel_rfl)
theorem zIA:entryFor table "set_iterator.__iter__" = some Builtin.«dict_keyiterator.__iter__» :=
 entryFor_alias (id' := "dict_keyiterator.__iter__") (by kernel_rfl) (by first|rfl|decide +kernel|(unfold String.splitOn;simp +decide [String.splitOnAux])) (by decide +kernel) (by kernel_rfl)
theorem zHR:entryFor table "set.__iter__" = some Builtin.«frozenset.__iter__» :=
 entryFor_alias (id' := "frozenset.__iter__") (by kernel_rfl) rfl (by decide +kernel) (by kernel_rfl)
def zBZ (f:Value) (i:Nat) (a:Addr) (n ep:Nat):Obj:={ cls:=.type "set_iterator", data:=.fields #[f,rawInt i,.ref a,rawInt n,rawInt ep] }
theorem zEp {α:Type}:∀ {l:List α} {i:Nat} (h:i<l.length),(l[i]::l.eraseIdx i).Perm l
 |[],i,h=>by simp at h
 |x::l,0,h=>by simp
 |x::l,i+1,h=>by
  have:=zEp (l:=l) (i:=i) (by simpa using h);rw[List.getElem_cons_succ,List.eraseIdx_cons_succ];exact (List.Perm.swap _ _ _).trans (this.cons x)
theorem zIz {α:Type} {l:List α} (h:i<l.length) (e:n+1=l.length):n=(l.eraseIdx i).length:=by
 rw[List.length_eraseIdx,zW0 h];omega
theorem zIn {α:Type} (next:Nat->Nat):∀ (fuel k:Nat) (left:List α) (out:Array α),fuel=left.length->(pickOrder.go next fuel k left out).toList.Perm (out.toList++left)
 |0,k,left,out,h=>by
  have:left=[]:=List.length_eq_zero_iff.mp h.symm;subst this;unfold pickOrder.go;simp
 |fuel+1,k,left,out,h=>by
  unfold pickOrder.go;have hl:0<left.length:=by omega
  have hm:next k % left.length<left.length:=Nat.mod_lt _ hl
  rw[zWp hm];refine (zIn next fuel (k+1) _ _ (zIz hm h)).trans ?_;rw[Array.toList_push,zXr];exact (zEp hm).append_left _
theorem zED {α:Type} (next:Nat->Nat) (xs:Array α):(pickOrder next xs).toList.Perm xs.toList:=by
 unfold pickOrder;simpa using zIn next xs.size 0 xs.toList #[] (by simp)
section
variable {s:Yl}
theorem zJj (h0:n≠0) (h:∀ r d,r<n->Q r { s with drawn:=d }):wpAny (model prog w) A (choose src n) Q E s :=
 λΓ p hΓ=>⟨h0,h _ _ (Nat.mod_lt _ (by omega))⟩
theorem zDm {α:Type}:∀ (n:Nat) (xs:List α) {s:Yl} {Q:List α->Shared->Prop},n=xs.length->(∀ ys d,ys.Perm xs->Q ys { s with drawn:=d })->wpAny (model prog w) A (drawOrder n xs) Q E s
 |0,xs,s,Q,h,q=>by
  have:xs=[]:=List.length_eq_zero_iff.mp h.symm;subst this;have e:s={ s with drawn:=s.drawn }:=by cases s;rfl
  rw[e];exact zWn (q [] s.drawn (.refl _))
 |n+1,[],s,Q,h,q=>by cases h
 |n+1,x::xs,s,Q,h,q=>by
  unfold drawOrder;refine zWl (zJj (by simp) λr d hr=>?_);rw[zWp hr];refine zWl (zDm n _ (zIz hr h) λys d' hp=>zWn ?_);exact q _ d' ((hp.cons _).trans (zEp hr))
variable {K:Type} [DecidableEq K] {ks:List K}
theorem zHo (h:s.heap.get? I=some (zBZ f i a n ep)):s.TypeIs (.ref I) "set_iterator" := ⟨_,h,rfl⟩
theorem zNI (hI:s.heap.get? I=some (zBZ f i a n ep)) (h:Q (.ref I) s):wpAny (model prog w) A (pyIter (.ref I)) Q E s:=by
 refine wpAny_pyIter_slot (zHo hI) zE4 (zXO zE4 (zHo hI) zIA ?_ (zJD _));exact zWn ⟨_,rfl, "set_iterator", _,zHo hI,zAR.lookup,h⟩
structure Nexts (prog:Ym) (w:Yo) (o:Obj) (a:Yt) (ep:Nat) (n:Nat) (at_:Nat->Nat) (ord:Yf):Prop where
 len:ord.length=n
 nx:∀ (A:Yn) (E:Yc) (i:Nat) (s:Yl) (Q:Option (Value × Nat)->Shared->Prop),i<=n->s.heap.get? a=some o->Q ((ord[i]?).map λx=>(x,at_ (i+1))) s->wpAny (model prog w) A (setNext a (at_ i) i ep) Q E s
theorem zOG (N:Nexts prog w o a ep ks.length at_ ord) (hS:SetK knd o es ep t ks) (hI:s.heap.get? I=some (zBZ (rawInt (at_ i)) i a ks.length ep)) (ho:s.heap.get? a=some o)
  (hx:ord[i]?=some x) (hQ:∀ h',h'.get? I=some (zBZ (rawInt (at_ (i+1))) (i+1) a ks.length ep)->Heap.SameBut I s.heap h'->Q (some x) { s with heap:=h' }):wpAny (model prog w) A (pyNext (.ref I)) Q E s:=by
 have hT:=zHo hI;have hi:i<ks.length:=by have:=(zWo.mp hx).1;rw[N.len]at this;exact this
 unfold pyNext;refine zWl (wpAny_attempt (zXN (name:=Str.ofString "__next__") hT zAR (zXO zAR hT zBz ?_ (zCO _))));unfold Builtin.«set_iterator.__next__» slotArgs;simp only[List.isEmpty_nil,Bool.not_true,zXm,↓reduceIte,List.length_nil,bne_self_eq_false,pure_bind,bind_assoc];refine zWl (wpAny_fieldsOf hI rfl ?_);dsimp only[rawInt];refine zWl (wpAny_setEntries_of ho hS.data hS.fits ?_);rw[zW3 (by rw[hS.size];simp)];refine zWl (N.nx _ _ i s _ (by omega) ho ?_);rw[hx];dsimp only[Option.map];refine zWl (wpAny_setField hI rfl (by simp) ?_);have e1:=zXY (Obj.mapFields λvs=>vs.set! 0 (rawInt (at_ (i+1)))) hI (Obj.isFreed_of_fields (zX2 rfl _));refine zWl (wpAny_setField e1 (zX2 rfl _) (by simp) ?_);have e2:=zXY (Obj.mapFields λvs=>vs.set! 1 (rawInt ((i:Int)+1))) e1 (Obj.isFreed_of_fields (zX2 (zX2 rfl _) _));refine zWn ⟨x,rfl,zWn (hQ _ ?_ ((zXo ..).trans (zXo ..)))⟩;refine e2.trans ?_;simp[Obj.mapFields,zBZ,rawInt]
end
open Sem (wp)
section
variable {K:Type} [DecidableEq K] {knd:KeyKind prog w K}
theorem zQx (hh:A.handled=none) (N:Nexts prog w o a ep ks.length at_ ord) (hS:SetK knd o es ep t ks) (hI:s.heap.get? I=some (zBZ (rawInt (at_ ks.length)) ks.length a ks.length ep)) (ho:s.heap.get? a=some o)
  (hQ:∀ h',Heap.ExtBut I s.heap h'->Q none { s with heap:=h' }):wpAny (model prog w) A (pyNext (.ref I)) Q E s:=by
 have hT:=zHo hI;unfold pyNext;refine zWl (wpAny_attempt (zXN (name:=Str.ofString "__next__") hT zAR (zXO zAR hT zBz ?_ (zCO _))));unfold Builtin.«set_iterator.__next__» slotArgs;simp only[List.isEmpty_nil,Bool.not_true,zXm,↓reduceIte,List.length_nil,bne_self_eq_false,pure_bind,bind_assoc];refine zWl (wpAny_fieldsOf hI rfl ?_);dsimp only[rawInt];refine zWl (wpAny_setEntries_of ho hS.data hS.fits ?_);rw[zW3 (by rw[hS.size];simp)];refine zWl (N.nx _ _ ks.length s _ (zWr _) ho ?_);rw[zXu (by rw[N.len];exact zWr _)];dsimp only[Option.map];refine zWl (wpAny_setField hI rfl (by simp) ?_);simp only[newExc,newTuple,bind_assoc,pure_bind];refine zWl (zXE (zWl (m:=firstArgMember _ _) (wpAny_of_eq (a:=Value.none) (by first|rfl|(simp only[firstArgMember];rfl)) (zWl (zXE ?_ (by size_fits))))) (by size_fits));simp only[raiseNew];refine zWl (wpAny_handled ?_);rw[show A.in1.handled=none from hh];refine zWl (zWn (wpAny_throw ?_));refine zWl (wpAny_isInstance (T := "StopIteration") (b:=true) ⟨_,zWv _ rfl,rfl⟩ isSubtype_stop (zWn ?_));exact hQ _ (((zXo ..).extBut.push _).push _)
theorem zK1 (hh:A.handled=none) (hne:a≠I) (N:Nexts prog w o a ep ks.length at_ ord) (hS:SetK knd o es ep t ks) :
  Walks prog w A I [I,a] [I] ks.length (λi v=>ord[i]?=some v) (λi h=>h.get? I=some (zBZ (rawInt (at_ i)) i a ks.length ep)/\h.get? a=some o) where
 sub:=λb hb=>by simp at hb;simp[hb]
 frame:=λ_ _ _ st hk=>⟨hk I (by simp) _ st.1,hk a (by simp) _ st.2⟩;item:=λi s Q E hi st hQ=>by
  have hx:ord[i]?=some (ord[i]'(by rw[N.len];exact hi)):=zWp _;refine zOG N hS st.1 st.2 hx λh' hI' hs'=>?_;exact hQ _ h' s.toks hx ⟨hI',hs'.extBut a o hne st.2⟩ λb u hb ee=>hs'.extBut b u (λh=>hb (by simp[h])) ee
 done:=λs Q E st hQ=>zQx hh N hS st.1 st.2 λh' he'=>hQ h' s.toks λb u hb ee=>he' b u (λh=>hb (by simp[h])) ee;self:=λ_ _ _ _ st hQ=>zNI st.1 hQ
theorem zMI {pl:Yj} (hS:SetK knd o es ep t ks) (hl:pl.length=ks.length) (hI:s.heap.get? I=some (zBZ (.ref T) i a ks.length ep)) (ho:s.heap.get? a=some o)
  (hT:IsTup s.heap T (pl.map λ(k:Nat)=>rawInt k).toArray)
  (hx:(pl[i]?).bind (λk=>(es[k]?).map (·.2))=some x) (hQ:∀ h',h'.get? I=some (zBZ (.ref T) (i+1) a ks.length ep)->Heap.SameBut I s.heap h'->Q (some x) { s with heap:=h' }):wpAny (model prog w) A (pyNext (.ref I)) Q E s:=by
 have hTy:=zHo hI;obtain ⟨oT,hoT,hcT,nT,hdT⟩:=id hT;cases hp:pl[i]? with
 |none=>rw[hp]at hx;cases hx
 |some k=>
  rw[hp]at hx;cases he:es[k]? with
  |none=>simp only[Option.bind_some]at hx;rw[he]at hx;cases hx
  |some e=>
   simp only[Option.bind_some]at hx;rw[he]at hx;cases hx;unfold pyNext;refine zWl (wpAny_attempt (zXN (name:=Str.ofString "__next__") hTy zAR (zXO zAR hTy zBz ?_ (zCO _))));unfold Builtin.«set_iterator.__next__» slotArgs;simp only[List.isEmpty_nil,Bool.not_true,zXm,↓reduceIte,List.length_nil,bne_self_eq_false,pure_bind,bind_assoc];refine zWl (wpAny_fieldsOf hI rfl ?_);dsimp only[rawInt];refine zWl (wpAny_setEntries_of ho hS.data hS.fits ?_);rw[zW3 (by rw[hS.size];simp)];refine zWl (zXb hoT hdT ?_);dsimp only;have e5:(List.map (λ(k:Nat)=>rawInt k) pl).toArray[(i:Int).toNat]?=some (rawInt k):=by simp[hp]
   rw[e5];dsimp only[rawInt];unfold setNextDrawn;simp only[bind_assoc];refine zWl (wpAny_setState_of ho hS.data hS.fits ?_);rw[zW3 (by simp)];have e6:es[(k:Int).toNat]?=some e:=by simpa using he
   rw[e6];obtain ⟨e1,e2⟩:=e;simp only[pure_bind];refine zWl (wpAny_setField hI rfl (by simp) ?_);refine zWn ⟨e2,rfl,zWn (hQ _ ?_ (zXo ..))⟩;refine (zXY _ hI (Obj.isFreed_of_fields (zX2 rfl _))).trans ?_;simp[Obj.mapFields,zBZ,rawInt]
theorem zOU {pl:Yj} (hh:A.handled=none) (hS:SetK knd o es ep t ks) (hl:pl.length=ks.length) (hI:s.heap.get? I=some (zBZ (.ref T) ks.length a ks.length ep)) (ho:s.heap.get? a=some o)
  (hT:IsTup s.heap T (pl.map λ(k:Nat)=>rawInt k).toArray) (hQ:∀ h',Heap.ExtBut I s.heap h'->Q none { s with heap:=h' }):wpAny (model prog w) A (pyNext (.ref I)) Q E s:=by
 have hTy:=zHo hI;obtain ⟨oT,hoT,hcT,nT,hdT⟩:=id hT;unfold pyNext;refine zWl (wpAny_attempt (zXN (name:=Str.ofString "__next__") hTy zAR (zXO zAR hTy zBz ?_ (zCO _))));unfold Builtin.«set_iterator.__next__» slotArgs;simp only[List.isEmpty_nil,Bool.not_true,zXm,↓reduceIte,List.length_nil,bne_self_eq_false,pure_bind,bind_assoc];refine zWl (wpAny_fieldsOf hI rfl ?_);dsimp only[rawInt];refine zWl (wpAny_setEntries_of ho hS.data hS.fits ?_);rw[zW3 (by rw[hS.size];simp)];refine zWl (zXb hoT hdT ?_);dsimp only;have e5:(List.map (λ(k:Nat)=>rawInt k) pl).toArray[(ks.length:Int).toNat]?=none:=by simp[hl]
 rw[e5];dsimp only[rawInt];refine zWl (wpAny_setField hI rfl (by simp) ?_);have e1:=zXY (Obj.mapFields λvs=>vs.set! 0 (rawInt 0)) hI (Obj.isFreed_of_fields (zX2 rfl _));refine zWl (wpAny_setField e1 (zX2 rfl _) (by simp) ?_);simp only[newExc,newTuple,bind_assoc,pure_bind];refine zWl (zXE (zWl (m:=firstArgMember _ _) (wpAny_of_eq (a:=Value.none) (by first|rfl|(simp only[firstArgMember];rfl)) (zWl (zXE ?_ (by size_fits))))) (by size_fits));simp only[raiseNew];refine zWl (wpAny_handled ?_);rw[show A.in1.handled=none from hh];refine zWl (zWn (wpAny_throw ?_));refine zWl (wpAny_isInstance (T := "StopIteration") (b:=true) ⟨_,zWv _ rfl,rfl⟩ isSubtype_stop (zWn ?_));exact hQ _ ((((zXo ..).trans (zXo ..)).extBut.push _).push _)
theorem zKV {pl:Yj} (hh:A.handled=none) (hne:a≠I) (hneT:T≠I) (hS:SetK knd o es ep t ks) (hl:pl.length=ks.length) (hb:∀ k∈pl,k<es.size) :
  Walks prog w A I [I,a,T] [I] ks.length (λi v=>(pl[i]?).bind (λk=>(es[k]?).map (·.2))=some v) (λi h=>h.get? I=some (zBZ (.ref T) i a ks.length ep)/\h.get? a=some o/\IsTup h T (pl.map λ(k:Nat)=>rawInt k).toArray) where
 sub:=λb hb=>by simp at hb;simp[hb]
 frame:=λ_ _ _ st hk=>⟨hk I (by simp) _ st.1,hk a (by simp) _ st.2.1,let ⟨oT,ho,r⟩:=st.2.2;⟨oT,hk T (by simp) oT ho,r⟩⟩;item:=λi s Q E hi st hQ=>by
  have hi':i<pl.length:=by rw[hl];exact hi
  have hk:pl[i]<es.size:=hb _ (zXJ hi');have hx:(pl[i]?).bind (λk=>(es[k]?).map (·.2))=some (es[pl[i]].2):=by
   rw[zWp hi'];simp[hk]
  refine zMI hS hl st.1 st.2.1 st.2.2 hx λh' hI' hs'=>?_;exact hQ _ h' s.toks hx ⟨hI',hs'.extBut a o hne st.2.1,st.2.2.extBut hs'.extBut hneT⟩ λb u hb ee=>hs'.extBut b u (λh=>hb (by simp[h])) ee
 done:=λs Q E st hQ=>zOU hh hS hl st.1 st.2.1 st.2.2 λh' he'=>hQ h' s.toks λb u hb ee=>he' b u (λh=>hb (by simp[h])) ee;self:=λ_ _ _ _ st hQ=>zNI st.1 hQ
end
open Sem (wp)
theorem zOl {prog:Ym} {w:Yo} {A:Yn} {I:Yt} {fp wr:Yg} {n:Nat} {P P':Nat->Value->Prop} {St:Nat->Heap->Prop} (W:Walks prog w A I fp wr n P St) (h:∀ i v,P i v->P' i v):Walks prog w A I fp wr n P' St where
 sub:=W.sub;frame:=W.frame;item:=λi s Q E hi st hQ=>W.item i s Q E hi st λv h' tk hP=>hQ v h' tk (h i v hP);done:=W.done;self:=W.self
section
variable {K:Type} [DecidableEq K] {knd:KeyKind prog w K}
theorem zCw (h:Q (w.params.followText "set-order") s):wpAny (model prog w) A setsByText Q E s:=by
 unfold setsByText;exact zWl (wpAny_askSetting (zWn h))
theorem zMM (hS:SetK knd o es ep t ks) (hT:w.params.followText "set-order" = true):Nexts prog w o a ep ks.length (λ_=>0) ((pickOrder (w.params.setOrder a ep) es).toList.map (·.2)) where
 len:=by rw[zWu,(zED _ es).length_eq,zXU,hS.size]
 nx:=λA E i s Q hi ho hQ=>by
  unfold setNext;refine zWl (wpAny_setState_of ho hS.data hS.fits ?_);refine zWl (zCw ?_);rw[hT,zW0 rfl,zW3 (by simp)];refine zWl ?_;unfold setWalk;refine zWl (wpAny_setState_of ho hS.data hS.fits ?_);refine zWl (zCw ?_);rw[hT,zW0 rfl];refine zWl (wpAny_askSetting (zWn ?_));refine zWn ?_;have e:(Option.map (λ(e:Int × Value)=>(e.2,0)) (pickOrder (w.params.setOrder a ep) es)[i]?)=Option.map (λx=>(x,0)) ((pickOrder (w.params.setOrder a ep) es).toList.map (·.2))[i]?:=by
   rw[zW8,zYQ];cases (pickOrder (w.params.setOrder a ep) es)[i]? <;> rfl
  show Q (Option.map (λ(e:Int × Value)=>(e.2,0)) (pickOrder (w.params.setOrder a ep) es)[i]?) s;rw[e];exact hQ
def zMd (t:SetTable):Nat->Nat
 |0=>0
 |i+1=>t.place.getD i 0+1
theorem zPq (h:Up t.place) (hi:i<=t.place.size):SetTable.below t.place (zMd t i)=i:=by
 cases i with
 |zero=>exact zMn h
 |succ i=>
  show SetTable.below t.place (t.place.getD i 0+1)=i+1;have hl:i<t.place.size:=by omega
  have e:t.place.getD i 0=t.place[i]:=by simp[Array.getD,hl]
  rw[e];exact zMm h hl
theorem zOi (hS:SetK knd o es ep t ks):t.place.size=es.size:=by
 have:=hS.fits;simp only[SetTable.fits,zXL,beq_iff_eq]at this;exact this.1
theorem zKF (hS:SetK knd o es ep t ks) (hT:w.params.followText "set-order" = false) (hd:(!t.plain&&decide (es.size>1))=false):Nexts prog w o a ep ks.length (zMd t) (es.toList.map (·.2)) where
 len:=by rw[zWu,zXU,hS.size]
 nx:=λA E i s Q hi ho hQ=>by
  have hz:=zOi hS;unfold setNext;refine zWl (wpAny_setState_of ho hS.data hS.fits ?_);refine zWl (zCw ?_);rw[hT,zW3 (by decide)];show wpAny _ _ (if (!t.plain&&decide (es.size>1))=true then _ else _) _ _ _;rw[zW3 (by rw[hd];decide)];have hl:t.led=true:=by rw[hS.tab.led,hT];rfl
  refine zWl ?_;show wpAny _ _ (if (!t.led && !es.isEmpty)=true then unsupported "set:maker-not-led" else pure ()) _ _ _;rw[zW3 (by rw[hl];simp)];refine zWn ?_;rw[zPq hS.tab.up (by rw[hz,hS.size];exact hi)];refine zWn ?_;rw[zW8,zYQ]at hQ;by_cases q:i<es.size
  .have q2:i<t.place.size:=by rw[hz];exact q
   rw[zXW q,zXW q2];rw[zXW q]at hQ;have e:zMd t (i+1)=t.place[i]+1:=by
    show t.place.getD i 0+1=_;simp[Array.getD,q2]
   simp only[Option.map]at hQ;rw[e]at hQ;exact hQ
  .have:i=es.size:=by rw[hS.size]at q ⊢;omega
   rw[Array.getElem?_eq_none (by omega)]at hQ ⊢;exact hQ
theorem zQN (ho:s.heap.get? a=some o) (hS:SetK knd o es ep t ks)
  (h:∀ (h':Heap) (d:Drawn) (I:Yt) (fp:Yg) (ord:Yf) (St:Nat->Heap->Prop),(∀ b u,s.heap.get? b=some u->h'.get? b=some u)->s.heap.objs.size<=I->(∀ b∈fp,b<h'.objs.size/\(b=a\/s.heap.objs.size<=b)) ->
   (∀ A:Around,A.handled=none->Walks prog w A I fp [I] ks.length (λi v=>ord[i]?=some v) St)->St 0 h'->ord.Perm (es.toList.map (·.2))->Q (.ref I) { s with heap:=h',drawn:=d }) :
  wpAny (model prog w) A (pyIter (.ref a)) Q E s:=by
 have hT:=hS.typeIs ho;have hal:a<s.heap.objs.size:=zWw ho;refine wpAny_pyIter_slot hT F.slot_set_iter (zXO F.slot_set_iter hT zHR ?_ (F.args_set_iter_1 _));unfold Builtin.«frozenset.__iter__» Builtin.Frozenset.slot0 slotArgs Builtin.Frozenset.addrOf Builtin.Frozenset.sizeOf;simp only[List.isEmpty_nil,Bool.not_true,zXm,↓reduceIte,List.length_nil,bne_self_eq_false,pure_bind,bind_assoc];refine zWl (wpAny_setEntries_of ho hS.data hS.fits ?_);unfold setDrawn;simp only[bind_assoc];refine zWl (wpAny_setState_of ho hS.data hS.fits ?_);refine zWl (zCw ?_);simp only[pure_bind];have hsz:=hS.size;have plain:∀ (at_:Nat->Nat) (ord:Yf),at_ 0=0->Nexts prog w o a ep ks.length at_ ord->ord.Perm (es.toList.map (·.2))->Q (.ref s.heap.objs.size) { s with heap:=s.heap.push (zBZ (rawInt 0) 0 a ks.length ep) }:=by
  intro at_ ord h0 N hp;have e:s.heap.push (zBZ (rawInt 0) 0 a ks.length ep)=s.heap.push (zBZ (rawInt 0) 0 a ks.length ep):=rfl
  have:=h (s.heap.push (zBZ (rawInt 0) 0 a ks.length ep)) s.drawn s.heap.objs.size [s.heap.objs.size,a] ord (λi h=>h.get? s.heap.objs.size=some (zBZ (rawInt (at_ i)) i a ks.length ep)/\h.get? a=some o)
   (λb u e=>zWm _ e) (zWr _) (λb hb=>by
    rw[zXR];rcases zWx.mp hb with z|z
    .rw[z];exact ⟨zXi _,.inr (zWr _)⟩
    .rw[zXD.mp z];exact ⟨zXa hal,.inl rfl⟩)
   (λA hh=>zK1 hh (zW6 hal) N hS) ⟨by rw[h0];exact zWv _ rfl,zWm _ ho⟩ hp
  exact this
 have mk:∀ (s1:Yl) (f:Yu) (hv:s1.heap.get? a=some o) {Q':Fin->Shared->Prop},Q' (.done (.ret (.ref s1.heap.objs.size))) { s1 with heap:=s1.heap.push (zBZ f 0 a ks.length ep) }->wpAny (model prog w) A.in1 (do
   let e <- setEpoch a;let r <- newFields "set_iterator" [f,rawInt 0,Value.ref a,rawInt es.size,rawInt e];ret r) Q' E s1:=by
  intro s1 f hv Q' hq;refine zWl (wpAny_setEpoch_of hv hS.data hS.fits ?_);unfold newFields;refine zWl (zXE (zWn ?_));rw[hsz];exact hq
 have ty:∀ (s1:Shared) (f:Value),(∃ T' r,Shared.TypeIs { s1 with heap:=s1.heap.push (zBZ f 0 a ks.length ep) } (.ref s1.heap.objs.size) T'/\typeLookup (Value.type T') (Str.ofString "__next__")=pure (some r)/\True):=λs1 f=>⟨"set_iterator", _,⟨_,zWv _ rfl,rfl⟩,zAR.lookup,trivial⟩;show wpAny _ _ (if (!w.params.followText "set-order" && (!t.plain&&decide (es.size>1)))=true then _ else _) _ _ _;by_cases hc:(!w.params.followText "set-order" && (!t.plain&&decide (es.size>1)))=true
 .rw[zW0 hc];refine zWl (zDm _ _ (by simp) λpl d hp=>?_);refine zWl ?_;unfold newTuple;have hpl:pl.length=ks.length:=by rw[hp.length_eq,zYi,hsz]
  refine zXE ?_ (by
   show (List.map (λ(i:Nat)=>rawInt i) pl).toArray.size<=sizeLine;rw[zWt,zWu,hpl,<-hsz];exact fits_of_scanBound hS.bound)
  generalize hH:s.heap.push { cls:=.type "tuple", data:=.seq (List.map (λ(i:Nat)=>rawInt i) pl).toArray }=H;have kH:∀ b u,s.heap.get? b=some u->H.get? b=some u:=λb u e=>by rw[<-hH];exact zWm _ e
  have hT1:IsTup H s.heap.objs.size (pl.map λ(k:Nat)=>rawInt k).toArray:=⟨_,by rw[<-hH];exact zWv _ rfl,rfl,0,rfl⟩;have szH:H.objs.size=s.heap.objs.size+1:=by rw[<-hH];exact zXR ..
  have szlt:s.heap.objs.size<H.objs.size:=by rw[szH];exact zXi _
  have alt:a<H.objs.size:=Nat.lt_trans hal szlt;refine mk { s with heap:=H,drawn:=d } (.ref s.heap.objs.size) (kH _ _ ho) ?_;obtain ⟨T',r,e1,e2,_⟩:=ty { s with heap:=H,drawn:=d } (.ref s.heap.objs.size);refine ⟨_,rfl,T',r,e1,e2,?_⟩;have kH2:∀ b u,s.heap.get? b=some u->(H.push (zBZ (.ref s.heap.objs.size) 0 a ks.length ep)).get? b=some u:=λb u e=>zWm _ (kH b u e);refine h _ d H.objs.size [H.objs.size,a,s.heap.objs.size] (pl.map λk=>((es[k]?).map (·.2)).getD .none) (λi h=>h.get? H.objs.size=some (zBZ (.ref s.heap.objs.size) i a ks.length ep)/\h.get? a=some o/\IsTup h s.heap.objs.size (pl.map λ(k:Nat)=>rawInt k).toArray) kH2 (by rw[szH];exact zYT _) (λb hb=>?_) (λA hh=>?_) ⟨zWv _ rfl,kH2 a o ho,?_⟩ ?_
  .rw[zXR];simp only[zWx,zXG,zX6]at hb;rcases hb with z|z|z
   .rw[z];exact ⟨zXi _,.inr (zZh szlt)⟩
   .rw[z];exact ⟨zXa alt,.inl rfl⟩
   .rw[z];exact ⟨zXa szlt,.inr (zWr _)⟩
  .have hb:∀ k∈pl,k<es.size:=λk hk=>by have:=hp.mem_iff.mp hk;simpa using this
   refine zOl (zKV hh (a:=a) (I:=H.objs.size) (T:=s.heap.objs.size) (zW6 alt) (zW6 szlt) hS hpl hb) λi v hv=>?_;rw[zW8];cases q:pl[i]? with
   |none=>rw[q]at hv;cases hv
   |some k=>
    rw[q]at hv;simp only[Option.bind_some]at hv;rw[Option.map_some,hv];rfl
  .exact hT1.push _
  .have e:es.toList.map (·.2)=(List.range es.size).map λk=>((es[k]?).map (·.2)).getD .none:=by
    apply List.ext_getElem?;intro i;rw[zW8,zW8,zYQ];by_cases q:i<es.size
    .rw[zYp q,zXW q];simp[q]
    .rw[Array.getElem?_eq_none (by omega),zXu (by simp;omega)];rfl
   rw[e];exact hp.map _
 .rw[zW3 hc];refine mk s (rawInt 0) ho ?_;obtain ⟨T',r,e1,e2,_⟩:=ty s (rawInt 0);refine ⟨_,rfl,T',r,e1,e2,?_⟩;cases hX:w.params.followText "set-order" with
  |true=>exact plain _ _ rfl (zMM hS hX) ((zED _ es).map _)
  |false=>
   rw[hX]at hc;exact plain _ _ rfl (zKF hS hX (by simpa using hc)) (.refl _)
end
open Sem (wp)
section
variable {K:Type} [DecidableEq K] {knd:KeyKind prog w K}
theorem zO5:isSubtype (.type "set") (.type "set")=pure true:=sub_set_self
theorem zOJ (hT:s.TypeIs (.ref a) "set") (h:Q false s):wpAny (model prog w) A (Builtin.List.listLengthHint (.ref a)) Q E s:=by
 unfold Builtin.List.listLengthHint;refine zWl (wpAny_specialOf hT F.slot_set_len.lookup ?_);have hsp:splitId "set.__len__" = some ("set", "__len__"):=by decide +kernel
 dsimp only;rw[hsp];refine zWl (wpAny_isInstance hT zO5 ?_);rw[zW3 (by decide),zW0 (by decide +kernel)];refine zWl (wpAny_typeOf hT ?_);exact zWn h
theorem zKI (hh:A.handled=none) (ho:s.heap.get? a=some o) (hS:SetK knd o es ep t ks)
  (hQ:∀ (s':Yl) (acc:Yf),(∀ b u,s.heap.get? b=some u->s'.heap.get? b=some u)->s'.os=s.os->s'.gens=s.gens->acc.Perm (es.toList.map (·.2))->Q acc s'):wpAny (model prog w) A (collect (.ref a)) Q E s:=by
 have hal:a<s.heap.objs.size:=zWw ho;have hn:ks.length<=sizeLine:=by rw[<-hS.size];exact fits_of_scanBound hS.bound
 unfold collect;refine zWl (wpAny_runValue (zXq F.entry_proto_collect ?_));rw[zXg F.plain_proto_collect _];refine zWl (zXE (zWn ⟨plainId_quiet F.plain_list_iadd _,zXq F.entry_list_iadd ?_⟩));rw[zXg F.plain_list_iadd _];generalize hH:s.heap.push { cls:=.type "list", data:=.seq ([]:List Value).toArray }=H;have kH:∀ b u,s.heap.get? b=some u->H.get? b=some u:=λb u e=>by rw[<-hH];exact zWm _ e
 have szH:H.objs.size=s.heap.objs.size+1:=by rw[<-hH];exact zXR ..
 have hL1:H.get? s.heap.objs.size=some { cls:=.type "list", data:=.seq ([]:List Value).toArray }:=by rw[<-hH];exact zWv _ rfl
 have ho1:=kH a o ho;show wpAny _ A.in1 (Builtin.List.listExtendWith (.ref s.heap.objs.size) (.ref a) (.ref s.heap.objs.size)) _ _ { s with heap:=H };unfold Builtin.List.listExtendWith;have hT1:Shared.TypeIs { s with heap:=H } (.ref a) "set" := ⟨o,ho1,hS.ex.1⟩;refine zWl (wpAny_typeOf hT1 ?_);have hneL:s.heap.objs.size≠a:=zYG hal;have h1:Builtin.List.listSameRef (.ref s.heap.objs.size) (.ref a)=false:=by simp[Builtin.List.listSameRef,hneL]
 have h2:(Value.type "set" == Value.type "list")=false:=by decide
 have h3:(Value.type "set" == Value.type "tuple")=false:=by decide
 simp only[h1,h2,h3,Bool.or_false,zXm,if_false];refine zWl (zQN (s:={ s with heap:=H }) ho1 hS λh2 d I fp ord St k2 hI2 hfp W st0 hp=>?_);have ho2:=k2 a o ho1;refine zWl (zXe (zOJ (s:={ s with heap:=h2,drawn:=d }) ⟨o,ho2,hS.ex.1⟩ ?_));rw[zW0 (by decide +kernel)];refine zWl (zX8 (zWl ?_));have hL2:=k2 _ _ hL1;refine zWl (wpAny_updateSeq (s:={ s with heap:=h2,drawn:=d }) hL2 rfl ?_);have hS2:=zXY (Obj.mapSeq (·.push Value.none)) hL2 rfl;refine wpAny_updateSeq hS2 rfl ?_;have hS3:=zXY (Obj.mapSeq (·.pop)) hS2 rfl;generalize hH3:(h2.update s.heap.objs.size (Obj.mapSeq (·.push Value.none))).update s.heap.objs.size (Obj.mapSeq (·.pop))=H3 at hS3;have oth:∀ b u,b≠s.heap.objs.size->h2.get? b=some u->H3.get? b=some u:=λb u hb e=>by
  rw[<-hH3];exact (zXS _ _ (Ne.symm hb)).trans ((zXS _ _ (Ne.symm hb)).trans e)
 have hSf:s.heap.objs.size∉fp:=λhm=>by
  rcases (hfp _ hm).2 with z|z
  .exact hneL z
  .have z':H.objs.size<=s.heap.objs.size:=z;rw[szH]at z';exact absurd z' (Nat.not_succ_le_self _)
 have WS:=(W A.in1.in1 hh).toS;have st3:St 0 H3:=(W A.in1.in1 hh).frame 0 _ _ st0 λb hb u e=>oth b u (λz=>hSf (z▸hb)) e;have hI3:I≠s.heap.objs.size:=λz=>by
  have z':H.objs.size<=I:=hI2;rw[szH,z]at z';exact absurd z' (Nat.not_succ_le_self _)
 refine zWn ⟨plainId_quiet F.plain_extend_loop _,codeAny_extend_loopS (A:=A) (WalksS.of_in1 WS) hn _ hSf _ ks.length 0 { s with heap:=H3,drawn:=d } _ _ rfl (zXX _) st3 hS3 (ItemsOf.nil _) λs' acc' c' hm hS' hacc=>?_⟩;refine zWl (wpAny_load hS' (zWn (hQ s' _ (λb u e=>hm.heap b u (λq=>?_) (oth b u (λz=>zXT _ (z▸zWw e)) (k2 b u (kH b u e)))) hm.os hm.gens ?_)))
 .rcases zWx.mp q with z|z
  .exact zXT _ (z▸zWw e)
  .have z':H.objs.size<=I:=hI2;rw[<-zXD.mp z,szH]at z';exact zXT _ (Nat.lt_trans (zXA (zXi _) z') (zWw e))
 .have e:acc'.toList=ord:=by
   have hl:ord.length=ks.length:=by rw[hp.length_eq,zWu,zXU,hS.size]
   apply List.ext_getElem?;intro i;rw[zYQ];by_cases q:i<ks.length
   .have q':i<acc'.size:=by rw[hacc.1];exact q
    rw[zXW q'];exact (hacc.2 i _ (zXW q')).symm
   .rw[Array.getElem?_eq_none (by rw[hacc.1];omega),zXu (by omega)]
  rw[e];exact hp
end
end ST
namespace L2
open PySem PySem.Spec PyProof.Rows ST
section
theorem zDr {elt target iter ifs rest scope pos it acc env}
  (h0:codeAny (model prog w) A (.compLoop (.SetComp elt (⟨target,iter,ifs,0⟩::rest) scope pos) 0 it acc env) R s)
  (h:wpAny (model prog w) A (pyIter it) (λit' s'=>codeAny (model prog w) A (.compLoop (.SetComp elt (⟨target,iter,ifs,0⟩::rest) scope pos) 0 it' acc env) R s')
   (notedBy (model prog w) A env λx s'=>R (.error x) s') s) :
  codeAny (model prog w) A (.compStart (.SetComp elt (⟨target,iter,ifs,0⟩::rest) scope pos) 0 it acc env) R s:=by
 refine codeAny_of_tree ?_;show wpAny _ _ ((compStart (.SetComp elt (⟨target,iter,ifs,0⟩::rest) scope pos) 0 it acc env).onRaise (λx=>do noteFrame x env;standAt theWindowsPlace)) _ _ s;refine wpAny_notedAt ?_;unfold compStart;refine zWl (wpAny_askSetting (wpAny_ite ?_));split
 .first
   |exact zWl (zWn (zWn (And.intro rfl h0)))
   |exact zWn (And.intro rfl h0)
 .first
   |exact zWl (zX8 (zWl (zXj (zWl (zXH h (λit' s' h'=>zWn (And.intro rfl h')) λ_ _ x=>x)))))
   | (refine zWl (zX8 ?_);show wpAny _ _ (standAt iter.pos >>= _) _ _ s;exact zWl (zXj (zWl (zXH h (λit' s' h'=>zWn (And.intro rfl h')) λ_ _ x=>x))))
end
section
variable {pos:Pos}
 {own:Yj} {g:TG} {tc:TT} {te:TE} {E:Yc}
theorem zMk (h:SetK (intKind prog w) o es ep t ks):∀ v,o.data≠.cell v:=λv z=>by rw[h.data]at z;cases z
theorem zGo (C:CompIn X scope own) (hcalm:X.calm=true) (I:Inv X zB σ H s) (T:Turn X.prog X.w X.K tg J fp it tn) (st:tn 0 s.heap) (hf:∀ b∈fp,zCI X zB H b)
  (c1:∀ x c,cl.lookup x=some c->X.env.cells.lookup x=some c) (c2:∀ y∈scope.names,y.2=.free->(cl.lookup y.1).isSome=true)
  (hg:PG (zN X zB scope cl s H fp) tg g) (hi:zGB (zN X zB scope cl s H fp) ifs tc) (he:PE (zN X zB scope cl s H fp) elt te)
  {RR:Value->Addr->Result->Shared->Prop} {QQ:List Int->Hp->Prop} {W:Nat->Nat->List Int->Hp->Prop} {m0:Nat} (w0:W 0 m0 [] H)
  (turn:∀ i m ys H,W i m ys H->(J.stop i H/\QQ ys H) \/
   (J.go i H /\ ∀ x H',J.yld i H x H'->g x (clr own σ) H' λσ2 H2=>Ext (clr own σ) σ2/\tc σ2 H2 λb H3=>
    if b=true then te σ2 H3 λv H4=>∃ k,v=.int k/\ys.length+1<scanBound /\ ∃ m',m'<m/\W (i+1) m' (ins ys k) H4 else ∃ m',m'<m/\W (i+1) m' ys H3))
  (fin:∀ σc H' s' o es ep t ys,Inv (zN X zB scope cl s H fp) [(s.heap.objs.size,o)] σc H' s'->SetK (intKind X.prog X.w) o es ep t ys->QQ ys H'->RR (.ref s.heap.objs.size) (s.heap.objs.size+1) (.ok .next) s') :
  wpAny (model X.prog X.w) X.A (newSet (.type "set")) (λacc s₃=>wpAny (model X.prog X.w) X.A (newFunctionEnv scope X.env.globals cl [] X.env.qual none .none (some X.env)) (λcenv s₄=>
   codeAny (model X.prog X.w) X.A (.compStart (.SetComp elt [⟨tg,iter,ifs,0⟩] scope pos) 0 (.ref it) acc { cenv with scope:=relabel scope X.env }) (RR acc cenv.locals) s₄) E s₃) E s:=by
 have ob:∀ b:Nat,b∈fp->b<s.heap.objs.size:=λb hb=>let ⟨_,e,_⟩:=T.obj 0 _ st b hb;zWw e;refine zNg (zC1 ?_);have sz1:(s.heap.push (zm X.w)).objs.size=s.heap.objs.size+1:=zXR ..;have I4:=zE9 (X:=X) (zB:=zB) (σ:=σ) (σc:=clr own σ) (H:=H) (s:=s) (scope:=scope) (cl:=cl) (fp:=fp) C.sc I hf ob c1 c2 (zBc own σ) (λi x v h1 h2 h3=>by
  obtain ⟨a,b⟩:=zC0 own σ i v h2;rcases C.nm i x h1 with z|z|z
  .exact absurd z b
  .exact absurd (zCP x z) h3
  .exact ⟨z,a⟩) (zm X.w) (by intro v z;cases z) rfl rfl
 have st4:tn 0 (pushCells ((s.heap.push (zm X.w)).push { cls:=.type "dict", data:=.dict #[] }) scope.names):=T.keep 0 _ _ st λb _ o e=>pushCells_keeps _ _ b o (zWm _ (zWm _ e));unfold newEnv;rw[sz1];have hDfp:s.heap.objs.size∉fp:=λz=>zXT _ (ob _ z);have hcD:∀ x c,(zN X zB scope cl s H fp).env.cells.lookup x=some c->c≠s.heap.objs.size:=λx c e z=>by
  obtain ⟨v,o,ho,hd⟩:=I4.cell x c e;obtain ⟨q,_⟩:=I4.pin (s.heap.objs.size,zm X.w) (by simp);rw[z,q]at ho;cases ho;cases hd
 have fpk:∀ {H':Hp} {pl:Yd},(∀ b∈fp,H' b=none)->(∀ p∈pl,p.1=s.heap.objs.size) -> ∀ b∈fp,zCI (zN X zB scope cl s H fp) pl H' b:=λ{H' pl} hn hp b hb=>
  ⟨hn b hb,(I4.ok.exf b hb).1,I4.ok.exfs b hb,.inl hb,(I4.ok.exf b hb).2,λp hq=>by
   rcases zXB.mp hq with z|z
   .exact (hf b hb).2.2.2.2.2 p z
   .intro e;have e2:=hp p z;rw[e]at e2;exact hDfp (e2▸hb)⟩
 have loop:codeAny (model X.prog X.w) X.A (.compLoop (.SetComp elt [⟨tg,iter,ifs,0⟩] scope pos) 0 (.ref it) (.ref s.heap.objs.size) (zN X zB scope cl s H fp).env) (RR (.ref s.heap.objs.size) (s.heap.objs.size+1))
   { s with heap:=pushCells ((s.heap.push (zm X.w)).push { cls:=.type "dict", data:=.dict #[] }) scope.names }:=by
  refine zJq (λn s'=>∃ i H' ys o es ep t,Inv (zN X zB scope cl s H fp) [(s.heap.objs.size,o)] (clr own σ) H' s'/\SetK (intKind X.prog X.w) o es ep t ys/\tn i s'.heap/\(∀ b∈fp,H' b=none)/\W i n ys H') ?_ m0
   ⟨0,H,[],zm X.w,_,_,_,I4,.fresh,st4,λb hb=>(hf b hb).1,w0⟩
  rintro n s5 ⟨i,H5,ys,o,es,ep,t,I5,r5,st5,f5,w5⟩;have pinD:∀ p∈[(s.heap.objs.size,o)],p.1=s.heap.objs.size:=λp hp=>by
   have:p=(s.heap.objs.size,o):=by simpa using hp
   rw[this]
  rcases turn i n ys H5 w5 with ⟨stop,qq⟩|⟨go,step⟩
  .refine thn (T.done (zN X zB scope cl s H fp) rfl rfl rfl hcalm i _ s5 _ H5 _ I5 (fpk f5 pinD) st5 stop) λr s6 ⟨hr,I6⟩=>?_;subst hr;exact fin _ H5 s6 o es ep t ys I6 r5 qq
  .refine thn (T.item (zN X zB scope cl s H fp) rfl rfl rfl hcalm i _ s5 _ H5 _ I5 (fpk f5 pinD) st5 go) λr s6 ⟨u,hr,h6⟩=>?_;subst hr;refine thn h6 λ_ s7 ⟨x,H7,I7,r7,y7,st7,f7⟩=>?_;have I7':=I7.pinned (fpk f7 pinD) (T.obj _ _ st7);refine thn (hg _ s7 _ H7 x u _ I7' r7 (step x H7 y7)) λ_ s8 ⟨σ8,H8,I8,x8,q8⟩=>?_;refine thn (hi _ s8 σ8 H8 _ I8 q8) λok s9 ⟨H9,I9,q9⟩=>?_;have back:∀ {s':Yl} {Hx:Hp},Inv (zN X zB scope cl s H fp) ([(s.heap.objs.size,o)]++zC9 fp s7.heap) σ8 Hx s'->tn (i+1) s'.heap /\ ∀ b∈fp,Hx b=none:=λ{s' Hx} Ix=>
    ⟨T.keep _ _ _ st7 λb hb o e=>(Ix.pin (b,o) (zW5 _ (zW5 _ (zAY hb e)))).1,λb hb=>by
     obtain ⟨o,e,d⟩:=T.obj _ _ st7 b hb;exact (Ix.pin (b,o) (zW5 _ (zW5 _ (zAY hb e)))).2.1⟩
   cases ok with
   |false=>
    obtain ⟨m',hm,w'⟩:=q9;obtain ⟨b1,b2⟩:=back I9;exact ⟨m',hm,i+1,H9,ys,o,es,ep,t,(I9.weak (by rw[x8.1]) x8.2).unpinned,r5,b1,b2,w'⟩
   |true=>
    refine thn (he _ s9 σ8 H9 _ I9 q9) λv s10 ⟨y,H10,I10,r10,k,hk,hlt,m',hm,w'⟩=>?_;subst hk;obtain ⟨b1,b2⟩:=back I10;have J10:=(I10.weak (by rw[x8.1]) x8.2).unpinned;obtain ⟨e10,n10,ne10,nf10,d10⟩:=J10.pin (s.heap.objs.size,o) (by simp);obtain ⟨tk,hv⟩:∃ tk,v=.int k tk:=r10;subst hv;refine zPi (knd:=intKind X.prog X.w) (intKind_is _ _ _ _) rfl e10 r5 hlt λh' o' es' ep' t' hs' e' S'=>?_;refine ⟨m',hm,i+1,H10,ins ys k,o',es',ep',t',?_,S',T.keep _ _ _ b1 λb hb o e=>hs'.extBut b o (λz=>hDfp (z▸hb)) e,b2,w'⟩;refine (Inv.repin (pl:=[]) J10 (λp hp=>?_) hs' (zWr _) hcD e' (zMk S')).tok _;rw[zXV]at hp;have hp':p∈X.pn++zB:=hp;exact zW6 (zWw (I.pin p hp').1)
 exact zDr loop (T.self _ 0 _ _ _ st4 loop)
theorem zJ9 (I:Inv X zB σ H s) (hf:∀ b∈fp,zCI X zB H b)
  (Ic:Inv (zN X zB scope cl s H fp) [(s.heap.objs.size,oD)] σc H' s') (hs:Heap.SameBut (s.heap.objs.size+1) s'.heap h') :
  Inv X zB σ H' { s' with heap:=h' }/\h'.get? s.heap.objs.size=some oD:=by
 obtain ⟨eD,nD,_⟩:=Ic.pin (s.heap.objs.size,oD) (by simp);have nC:H' (s.heap.objs.size+1)=none:=Ic.free;have eD':h'.get? s.heap.objs.size=some oD:=hs.extBut _ _ (zW6 (zXi _)) eD;have lt1:∀ {b:Yt} {o:Obj},s.heap.get? b=some o->b≠s.heap.objs.size+1:=λe=>zW6 (zXa (zWw e));have tr:∀ b u,H' b=some u->b≠s.heap.objs.size+1:=λb u e z=>by rw[z,nC]at e;cases e
 refine ⟨?_,eD'⟩;have B:=Ic.base;have un:Un (frs X.stack) fp H H' s.heap h':=by
  refine ⟨λb o e q hb hx=>hs.extBut b o (lt1 e) (B.keep b o e q hb hx),λb o e q hb hx=>?_,λb o e q hx=>B.free b o e q hx,λb o e hx=>?_,λb xs e=>B.tups b xs e,λb o xs e=>B.frzs b o xs e,λb ps e=>B.tbls b ps e⟩
  .obtain ⟨sl,e1⟩:=B.slot b o e q hb hx;exact ⟨sl,hs.extBut b _ (lt1 e) e1⟩
  .obtain ⟨o',e1⟩:=B.there b o e hx;exact ⟨o',hs.extBut b _ (lt1 e) e1⟩
 have hok:HOk X.prog X.w H' h':=λb u e=>by
  refine (Ic.hok b u e).stay (λc v hc q=>hs.extBut c v ?_ q) (λc q=>q) λc xs q=>q;rcases hc with z|z
  .rw[z];exact tr b u e
  .exact tr c _ z
 exact I.call' (s':={ s' with heap:=h' }) (ch:=fp) Ic.os un hok Ic.bare λb hb=>⟨(hf b hb).2.2.2.1,(hf b hb).2.1,(hf b hb).2.2.2.2.1,(hf b hb).2.2.2.2.2⟩
end
abbrev TZ:=St->Hp->(List Int->Hp->Prop)->Prop
def PZ (X:Cx) (e:Expr) (t:TZ):Prop:=∀ (zB:Yd) (s:Yl) (σ:St) (H:Hp) (Q:List Int->Hp->Prop),Inv X zB σ H s->t σ H Q ->
 wpAny (model X.prog X.w) X.A (eval e X.env) (λv s'=>∃ a o es ep tb ks H',v=.ref a/\s'.heap.get? a=some o/\SetK (intKind X.prog X.w) o es ep tb ks/\Inv X zB σ H' s'/\Q ks H') X.xe s
def zKt (own:Yj) (wi:TI) (g:TG) (tc:TT) (te:TE):TZ:=λσ H Q=>wi σ H λJ H1=>∃ W:Nat->Nat->List Int->Hp->Prop,(∃ m,W 0 m [] H1) /\ ∀ i m ys H,W i m ys H ->
 (J.stop i H/\Q ys H) \/
 (J.go i H /\ ∀ x H',J.yld i H x H'->g x (clr own σ) H' λσ2 H2=>Ext (clr own σ) σ2/\tc σ2 H2 λb H3=>
  if b=true then te σ2 H3 λv H4=>∃ k,v=.int k/\ys.length+1<scanBound /\ ∃ m',m'<m/\W (i+1) m' (ins ys k) H4 else ∃ m',m'<m/\W (i+1) m' ys H3)
section
theorem zR8 (C:CompIn X scope own) (hcalm:X.calm=true) (hi:PI X tg iter wi) (p:CompParts X scope tg ifs elt g tc te) (hs:∀ x,foldedSetIterable iter X.env x=pure x:=by intro _;rfl) :
  PZ X (.SetComp elt [⟨tg,iter,ifs,0⟩] scope pos) (zKt own wi g tc te):=by
 intro zB s σ H Q I h;obtain ⟨cl,hcl,c1,c2⟩:=C.sc.closure I;rw[arm_eval_SetComp];refine zYf (use:=none) rfl hs hcl C.sc.kind C.sc.names (thn (hi zB s σ H _ I h) λv s1 h1=>thn h1 λitv s2 h2=>?_);obtain ⟨it,fp,tn,J,H2,e,I2,T,st2,f2,W,⟨m0,w0⟩,turn⟩:=h2;subst e;refine zGo C hcalm I2 T st2 f2 c1 c2 (p.g _ _ _ _ _) (p.c _ _ _ _ _) (p.e _ _ _ _ _) (RR:=λacc C r s'=>compPost (model X.prog X.w) X.A X.xe none (λv s'=>∃ a o es ep tb ks H',v=.ref a/\s'.heap.get? a=some o/\SetK (intKind X.prog X.w) o es ep tb ks/\Inv X zB σ H' s'/\Q ks H') acc C r s') (QQ:=Q) w0 turn ?_;intro σc H' s' o es ep t ys Ic rv qq;obtain ⟨m,hn,_⟩:=Ic.loc;refine ⟨m,hn,λh' hs'=>?_⟩;obtain ⟨J',eD⟩:=zJ9 I2 f2 Ic hs';exact ⟨_,o,es,ep,t,ys,H',rfl,eD,rv,J',qq⟩
end
end L2
namespace ST
open PySem PySem.Spec PyProof.Rows
open Sem (wp)
section
variable {prog:Ym} {w:Yo} {A:Yn} {E:Yc} {s:Yl}
variable {K:Type} [DecidableEq K] {knd:KeyKind prog w K}
def zJ (ks:List K):List K:=ks.foldl ins []
theorem zB3 (ks:List K) (k:K):zJ (ks++[k])=ins (zJ ks) k:=by unfold zJ;rw[List.foldl_append];rfl
theorem zRc (ks:List K) (k:K):(ins ks k).length<=ks.length+1:=by unfold ins;split <;> simp
theorem zT7 (ks:List K) (k:K):ks.length<=(ins ks k).length:=by unfold ins;split <;> simp
theorem zLp (val:Nat->K) (h:i<=n):(zJ ((List.range i).map val)).length<=(zJ ((List.range n).map val)).length:=by
  induction n with
  | zero => have : i = 0 := by omega
            subst this;exact zWr _
  |succ n ih=>
    by_cases q:i=n+1
    .subst q;exact zWr _
    . rw[List.range_succ,zXd,show List.map val [n]=[val n]from rfl,zB3]
      exact zXC (ih (by omega)) (zT7 _ _)
theorem zAg (ks:List K):(zJ ks).length<=ks.length:=by
 have:∀ (l acc:List K),(l.foldl ins acc).length<=acc.length+l.length:=by
  intro l;induction l with
  |nil=>intro acc;simp
  |cons x r ih=>intro acc;have:=ih (ins acc x);have:=zRc acc x;simp only[List.foldl_cons,zXI];omega
 simpa [zJ] using this ks []
theorem zR9 (ks:List K) (k x:K):x∈ins ks k ↔ x∈ks\/x=k:=by
 unfold ins;split
 .rename_i h;constructor
  .exact .inl
  .rintro (z|z)
   .exact z
   .rw[z];exact h
 .simp
theorem zAZ (ks:List K) (x:K):x∈zJ ks ↔ x∈ks:=by
  have:∀ (l acc:List K),x∈l.foldl ins acc ↔ x∈acc\/x∈l:=by
    intro l;induction l with
    |nil=>intro acc;simp
    |cons y r ih=>intro acc;rw[List.foldl_cons,ih,zR9,zWx];simp[or_assoc]
  simpa [zJ] using this ks []
theorem zOS (h : ks.Nodup) (k : K) : (ins ks k).Nodup := by
  unfold ins;split
  .exact h
  · rename_i q
    rw[zXz]
    exact ⟨h, by simp, fun a ha b hb z => by have : b = k := by simpa using hb
                                             subst this;subst z;exact q ha⟩
theorem zCN (ks:List K):(zJ ks).Nodup:=by
 have:∀ (l acc:List K),acc.Nodup->(l.foldl ins acc).Nodup:=by
  intro l;induction l with
  |nil=>intro acc h;exact h
  |cons y r ih=>intro acc h;exact ih _ (zOS h y)
 exact this ks [] (by simp)
theorem zQ5 (a:Yu) (h:Q₁ (.ref s.heap.objs.size) { s with heap:=s.heap.push (zm w) }) :
  codeAny (model prog w) A (.call (.builtin "set.__new__") ⟨[.type "set", a],[]⟩) (wants Q₁ E) s:=by
 refine codeAny_of_tree ?_;show wpAny _ A.in1 (do checkBuiltinCall "set.__new__" ⟨[.type "set", a],[]⟩;again (.builtin "set.__new__" ⟨[.type "set", a],[]⟩)) _ _ s;refine zWl (wpAny_of_eq (F.newCall_set_1 a) (zWn ⟨plainId_quiet F.plain_set_new _,zXq F.entry_set_new ?_⟩));rw[zXg F.plain_set_new _];unfold Builtin.«set.__new__» Builtin.Frozenset.newClass;have hsub:=sub_set_self;obtain ⟨hp,g,d,tk,os⟩:=s;wp_walk;refine wpAny_askSetting (zWn ?_);simp only[newObj];refine zWl (wpAny_alloc (zWn ?_));exact zWn h
variable {R:Yx} {I:Yt} {fp wr:Yg} {G:Array GenState->Array GenState->Prop} {n:Nat} {P:Nat->Value->Prop} {St:Nat->Shared->Prop}
theorem zKr (W:WalksS prog w A.in1 I fp wr G n P St) (S:Yt) (hSf:S∉fp) (val:Nat->K) (hval:∀ i v,P i v->knd.is (val i) v=true/\v.scannable=true) (hb:(zJ ((List.range n).map val)).length+1<scanBound) :
  ∀ (k i:Nat) (s:Yl) (o:Obj) (es:Yw) (ep:Nat) (t:SetTable),n-i=k->i<=n->St i s->s.heap.get? S=some o->SetK knd o es ep t (zJ ((List.range i).map val)) ->
   (∀ s' o' es' ep' t',Moved (S::wr) G s s'->s'.heap.get? S=some o'->SetK knd o' es' ep' t' (zJ ((List.range n).map val))->R (.ok (.ret .none)) s') ->
   codeAny (model prog w) A (.builtin "set.update.loop" ⟨[.ref S,.ref I],[]⟩) R s:=by
 have hSw:S∉wr:=λh=>hSf (W.sub _ h);have hsub:∀ b∈wr,b∈S::wr:=λb hb=>zWy _ hb;intro k;induction k with
 |zero=>
  intro i s o es ep t hk hi hst ho hS hR;have hin:i=n:=by omega
  subst hin;refine zXq F.entry_set_update_loop ?_;rw[zXg F.plain_set_update_loop _];refine zWl (W.done s _ _ hst λs' hm=>?_);exact zWn (hR s' o es ep t (hm.mono hsub) (hm.heap S _ hSw ho) hS)
 |succ k ih=>
  intro i s o es ep t hk hi hst ho hS hR;have hlt:i<n:=by omega
  refine zXq F.entry_set_update_loop ?_;rw[zXg F.plain_set_update_loop _];refine zWl (W.item i s _ _ hlt hst λv s' hP hst' hm=>?_);obtain ⟨hv1,hv2⟩:=hval i v hP;have ho':=hm.heap S _ hSw ho;refine zWl (zXe ?_);unfold setAdd;refine zXe ?_;refine zWl (knd.pyHash (k:=val i) hv1 ?_);have hroom:(zJ ((List.range i).map val)).length+1<scanBound:=by have:=zLp val (zZh hlt);omega
  refine zDp (s:={ s' with toks:=s'.toks+1 }) hv1 hv2 ho' hS hroom λh' o2 es2 ep2 t2 b hsb ho2 hS2=>?_;have hS3:SetK knd o2 es2 ep2 t2 (zJ ((List.range (i+1)).map val)):=by
   rw[List.range_succ,zXd];rw[show List.map val [i]=[val i]from rfl,zB3];exact hS2
  refine zWn ⟨plainId_quiet F.plain_set_update_loop _,ih (i+1) _ o2 es2 ep2 t2 (by omega) hlt (W.frame _ s' _ _ hst' (zYT _) λb hb o e=>?_) ho2 hS3 λs'' o' es' ep' t' hm'' ho'' hS''=>?_⟩
  .rw[hsb.2 b (λh:b=S=>hSf (by rw[<-h];exact hb))];exact e
  .refine hR s'' o' es' ep' t' (Moved.trans W.gtrans ((hm.mono hsub).then_heap (zYT _) λb o hb e=>?_) hm'') ho'' hS'';rw[hsb.2 b (λh:b=S=>hb (by rw[h];exact zWz))];exact e
end
section
variable {prog:Ym} {w:Yo} {A:Yn} {E:Yc} {s:Yl}
variable {K:Type} [DecidableEq K] {knd:KeyKind prog w K}
theorem zHs:isSubtype (.type "tuple") (.type "set")=pure false:=by rw[isSubtype_type];kernel_rfl
theorem zET:isSubtype (.type "tuple") (.type "frozenset")=pure false:=by rw[isSubtype_type];kernel_rfl
theorem zHM {K:Type} (ks:List K) (d:K):(List.range ks.length).map (λi=>ks.getD i d)=ks:=by
 apply List.ext_getElem?;intro i;rw[zW8];by_cases q:i<ks.length
 .rw[zYp q,zWp q];simp[q]
 .rw[zXu (l:=List.range ks.length) (by simpa using q),zXu (l:=ks) (Nat.le_of_not_lt q)];rfl
set_option maxHeartbeats 3200000 in
theorem zQQ [Inhabited K] (hty:ty = "list" \/ ty = "tuple")
  (hh:A.handled=none) (hl:∃ ol,s.heap.get? l=some ol/\ol.cls=.type ty /\ ∃ nl,ol.data=.seq items nl) (hi:F2 (λv k=>knd.is k v=true/\v.scannable=true) items.toList ks) (hb:(zJ ks).length+1<scanBound)
  (h:∀ (h':Heap) (tk:Nat) (o:Obj) (es:Yw) (ep:Nat) (t:SetTable),h'.get? s.heap.objs.size=some o->SetK knd o es ep t (zJ ks) ->
   (∀ b o,b<s.heap.objs.size->s.heap.get? b=some o->h'.get? b=some o)->Q (.ref s.heap.objs.size) { s with heap:=h',toks:=tk }) :
  wpAny (model prog w) A (call (.type "set") [.ref l]) Q E s:=by
 obtain ⟨c,tl,hmro⟩:=F.called_set.mro;have hmade:=F.called_set.made;have hsub:=F.called_set.sub;have hlen:items.size=ks.length:=by rw[<-zXU];exact zCl hi
 refine wpAny_call (codeAny_of_tree ?_);refine zWn ⟨Code.quiet_builtin _ (by decide +kernel),zXq F.entry_type_call ?_⟩;rw[Around.under_plain (weight_type_call_type "set" [.ref l] []) rfl];have h1:=F.called_set.notType;have h2:=F.called_set.canCreate;have hct:=F.typeCall_set_1 (.ref l);repeat (any_goals (first|assumption|wp_step))
 refine codeAny_mono (zQ5 (.ref l) (E:=E) (Q₁:=λobj s₁=>obj=.ref s.heap.objs.size/\s₁={ s with heap:=s.heap.push (zm w) }) ⟨rfl,rfl⟩) λr s₁ hr=>?_;cases r with
 |error e=>exact hr
 |ok fl=>
  cases fl with
  |ret obj=>
   obtain ⟨rfl,rfl⟩:=hr;have hS:(s.heap.push (zm w)).get? s.heap.objs.size=some (zm w):=zWv _ rfl;have hT:Shared.TypeIs { s with heap:=s.heap.push (zm w) } (.ref s.heap.objs.size) "set" := ⟨_,hS,rfl⟩;have hli:=F.called_set.init.lookup;have hbi:=F.called_set.init.bind (.ref s.heap.objs.size);repeat (any_goals (first|assumption|wp_step))
   refine codeAny_mono (codeAny_call_builtin (R:=wants (λr s₂=>r=.none /\ ∃ h' tk o es ep t,s₂={ s with heap:=h',toks:=tk }/\h'.get? s.heap.objs.size=some o/\SetK knd o es ep t (zJ ks) /\
     (∀ b o,b<s.heap.objs.size->s.heap.get? b=some o->h'.get? b=some o)) E) F.called_set.init.plain F.entry_set_init (check_set_init_1 hT ?_)) λr₂ s₂ hr₂=>?_
   .obtain ⟨ol,hol,hcl,nl,hdl⟩:=hl;obtain ⟨ocls,odict,odata,oslots⟩:=ol;simp only at hcl hdl;subst hcl;subst hdl;have hlS:l<s.heap.objs.size:=zWw hol;have hol':(s.heap.push (zm w)).get? l=some { cls:=.type ty,dict:=odict,data:=.seq items nl,slots:=oslots }:=zWm _ hol;have hh3:A.in1.in1.in1.handled=none:=by simp[hh]
    have hneI:l≠(s.heap.push (zm w)).objs.size:=by
     rw[zXR];exact zW6 (zXa hlS)
    have hSf:s.heap.objs.size∉[(s.heap.push (zm w)).objs.size,l]:=by
     rw[zXR];simp only[zWx,zXD,zXG,zX6,not_or];exact ⟨zW6 (zXi _),zYG hlS⟩
    have hval:∀ (d:K) (i:Nat) (v:Yu),items[i]?=some v->knd.is (ks.getD i d) v=true/\v.scannable=true:=λd i v hv=>by
     have e:items.toList[i]?=some v:=by rw[zYQ];exact hv
     have:∀ {xs:Yf} {ys:List K},F2 (λv k=>knd.is k v=true/\v.scannable=true) xs ys -> ∀ (i:Nat),xs[i]?=some v->knd.is (ys.getD i d) v=true/\v.scannable=true:=by
      intro xs ys f;induction f with
      |nil=>intro i e;simp at e
      |cons q _ ih=>
       intro i e;cases i with
       |zero=>simp at e;subst e;exact q
       |succ i=>exact ih i (by simpa using e)
     exact this hi i e
    have fin:∀ (I:Yt) (hI:I=(s.heap.push (zm w)).objs.size) (P':Fin->Shared->Prop) (s':Yl) (o':Obj) (es':Yw) (ep':Nat) (t':SetTable) (itO:Obj),
      Moved (s.heap.objs.size::[I]) (λa b=>b=a) { s with heap:=(s.heap.push (zm w)).push itO } s'->s'.heap.get? s.heap.objs.size=some o'->SetK knd o' es' ep' t' (zJ ks) ->
      (∃ h' tk o es ep t,s'={ s with heap:=h',toks:=tk }/\h'.get? s.heap.objs.size=some o/\SetK knd o es ep t (zJ ks)/\(∀ b o,b<s.heap.objs.size->s.heap.get? b=some o->h'.get? b=some o)):=by
     intro I hI P' s' o' es' ep' t' itO hm ho' hS';obtain ⟨h',g',d',tk',os'⟩:=s';have eg:g'=s.gens:=hm.gens;have ed:d'=s.drawn:=hm.drawn;have eo:os'=s.os:=hm.os;subst eg;subst ed;subst eo;refine ⟨h',tk',o',es',ep',t',rfl,ho',hS',λb o hb e=>?_⟩;have hb1:b≠s.heap.objs.size:=zW6 hb;have hb2:b≠I:=by rw[hI,zXR];exact zW6 (zXa hb)
     exact hm.heap b o (by simp only[zWx,zXD,zXG,zX6,not_or];exact ⟨hb1,hb2⟩) (zWm _ (zWm _ e))
    have go:∀ (d:K) (St:Nat->Heap->Prop) (itO:Obj) (W:Walks prog w A.in1.in1.in1 (s.heap.push (zm w)).objs.size [(s.heap.push (zm w)).objs.size,l] [(s.heap.push (zm w)).objs.size] items.size (λi v=>items[i]?=some v) St),St 0 ((s.heap.push (zm w)).push itO) ->
      ∀ {R':Yx},(∀ s',(∃ h' tk o es ep t,s'={ s with heap:=h',toks:=tk }/\h'.get? s.heap.objs.size=some o/\SetK knd o es ep t (zJ ks)/\(∀ b o,b<s.heap.objs.size->s.heap.get? b=some o->h'.get? b=some o))->R' (.ok (.ret .none)) s') ->
      codeAny (model prog w) A.in1.in1 (.builtin "set.update.loop" ⟨[.ref s.heap.objs.size,.ref (s.heap.push (zm w)).objs.size],[]⟩) R' { s with heap:=(s.heap.push (zm w)).push itO }:=by
     intro d St itO W st R' hR;refine zKr (knd:=knd) W.toS s.heap.objs.size hSf (λi=>ks.getD i d) (hval d) (by rw[hlen,zHM];exact hb) (items.size-0) 0 _ (zm w) _ _ _ (by omega) (zXX _) st (zWm _ hS) .fresh λs' o' es' ep' t' hm ho' hS'=>?_;refine hR s' (fin _ rfl (λ_ _=>True) s' o' es' ep' t' itO hm ho' ?_);rw[hlen,zHM]at hS';exact hS'
    rcases hty with rfl|rfl
    .have hsls:=F.sub_list_set;have hslf:=F.sub_list_frozenset;have hne:(Value.type "list" == Value.type "dict")=false:=by decide
     have hl1:(s.heap.push (zm w)).IsList l items:=⟨_,hol',rfl,nl,rfl⟩;unfold Builtin.«set.__init__» noKeywords Builtin.Frozenset.updateFrom;generalize hPI:pyIter=PI;wp_walk;subst hPI;refine wpAny_pyIter_list hl1 ?_;refine zWl (wpAny_runValue ?_);refine go default _ _ (Walks.list hh3 _ l hneI items) ⟨⟨_,zWv _ rfl,rfl,rfl⟩,(hl1.push _)⟩ λs' q=>?_;refine zWn ?_;exact zWn ⟨rfl,q⟩
    .have hsls:=zHs;have hslf:=zET;have hne:(Value.type "tuple" == Value.type "dict")=false:=by decide
     have hl1:(s.heap.push (zm w)).IsTuple l items:=⟨_,hol',rfl,nl,rfl⟩;unfold Builtin.«set.__init__» noKeywords Builtin.Frozenset.updateFrom;generalize hPI:pyIter=PI;wp_walk;subst hPI;refine wpAny_pyIter_tuple hl1 ?_;refine zWl (wpAny_runValue ?_);refine go default _ _ (Walks.tuple hh3 _ l hneI items) ⟨⟨_,zWv _ rfl,rfl,rfl⟩,(hl1.push _)⟩ λs' q=>?_;refine zWn ?_;exact zWn ⟨rfl,q⟩
   .cases r₂ with
    |error e=>exact hr₂
    |ok fl₂=>
     cases fl₂ with
     |ret r=>
      obtain ⟨rfl,h',tk,o,es,ep,t,rfl,ho',hS',hk'⟩:=hr₂;repeat (any_goals (first|assumption|wp_step))
      exact h _ _ _ _ _ _ ho' hS' hk'
     |_=>exact hr₂.elim
  |_=>exact hr.elim
end
def zDq (ks:Ye):List Int:=ks.mergeSort λa b=>decide (a<=b)
theorem zBt (ks:Ye):(zDq ks).Perm ks:=List.mergeSort_perm _ _
theorem zGn (ks:Ye):(zDq ks).Pairwise (· <= ·):=by
 have:=List.pairwise_mergeSort (le:=λ(a b:Int)=>decide (a<=b)) (λa b c h1 h2=>by simp at h1 h2 ⊢;omega) (λa b=>by simp;omega) ks;exact this.imp λh=>by simpa using h
theorem zIa:∀ {xs ys:Ye},xs.Perm ys->xs.Pairwise (· <= ·)->ys.Pairwise (· <= ·)->xs=ys
 |[],ys,p,_,_=>by have:=p.length_eq;simp at this;rw[List.length_eq_zero_iff.mp this.symm]
 |x::xs,[],p,_,_=>by have:=p.length_eq;simp at this
 |x::xs,y::ys,p,h1,h2=>by
  have hx:=zYv.mp h1;have hy:=zYv.mp h2;have e:x=y:=by
   have a:x∈y::ys:=p.mem_iff.mp zWz;have b:y∈x::xs:=p.mem_iff.mpr zWz;rcases zWx.mp a with z|z
   .exact z
   .rcases zWx.mp b with q|q
    .exact q.symm
    .exact Int.le_antisymm (hx.1 y q) (hy.1 x z)
  subst e;rw[zIa (p.cons_inv) hx.2 hy.2]
theorem zKW (p:xs.Perm ys) (h:xs.Pairwise (· <= ·)):xs=zDq ys:=zIa (p.trans (zBt ys).symm) h (zGn ys)
section
theorem zMK
  (hc:wpAny (model prog w) A.in1 (collect v) (λvs s1=>∃ ns,IntsAre vs ns/\vs.length<64 /\ ∀ (h':Heap) (out:List Value) (n:Nat),(∀ b u,s1.heap.get? b=some u->h'.get? b=some u)->h'.get? s1.heap.objs.size=some (seqObj "list" out.toArray n)->IntsAre out (zDq ns)->Q (.ref s1.heap.objs.size) { s1 with heap:=h' }) E s) :
  wpAny (model prog w) A (call (.builtin "sorted") [v]) Q E s:=by
 refine Calls.call_function_entry kind_sorted plain_sorted entry_sorted (args_sorted1 _) ?_;unfold Builtin.«sorted»;refine zWl (m:=checkCount "sorted" 1 1 _) (zWn ?_);refine zWl (zXH hc (λvs s1 h1=>?_) λ_ _ h'=>h');obtain ⟨ns,hI,h64,h⟩:=h1;refine zWl (wpAny_newList ?_ (by rw[sizeLine_eq];omega));have hoL:(s1.heap.push (seqObj "list" vs.toArray 0)).get? s1.heap.objs.size=some (seqObj "list" vs.toArray 0):=zWv _ rfl;refine zWl (zXe (zXO slot_list_sort ⟨_,hoL,rfl⟩ entry_list_sort (list_sort_tree (s:={ s1 with heap:=s1.heap.push (seqObj "list" vs.toArray 0) }) hoL hI h64 λout ns' a1 a2 a3=>⟨_,rfl,?_⟩) (args_list_sort _)));refine zWn ⟨_,rfl,?_⟩;have g1:=get?_update_seq hoL (λ_=> #[]);have g2:(((s1.heap.push (seqObj "list" vs.toArray 0)).update s1.heap.objs.size (Obj.mapSeq λ_=> #[])).push (seqObj "tuple" vs.toArray 0)).get? s1.heap.objs.size=_:=zWm _ g1;have g3:=zWm (seqObj "list" #[] 0) g2;have g4:=get?_update_seq g3 (λ_=>out);have eS:=zKW a2 a3;subst eS;refine h _ out.toList _ (λb u e=>?_) (by rw[Array.toArray_toList];exact g4) a1;have hb:s1.heap.objs.size≠b:=λz=>zXT _ (z▸zWw e);exact (zXS _ _ hb).trans (zWm _ (zWm _ ((zXS _ _ hb).trans (zWm _ e))))
theorem zN3 (h:F2 (zTB (intKind prog w)) es ks):IntsAre (es.map (·.2)) ks:=by
 induction h with
 |nil=>exact .nil
 |cons h _ ih=>
  obtain ⟨⟨h1,_⟩,_⟩:=h;obtain ⟨t,e⟩:=Value.isInt_shape h1;rw[zW4,e];exact .cons _ _ ih
theorem zOC (p:us.Perm vs):∀ {ks:Ye},IntsAre vs ks -> ∃ ks',ks'.Perm ks/\IntsAre us ks':=by
 have p':=p.symm;clear p;induction p' with
 |nil=>intro ks h;exact ⟨ks,.refl _,h⟩
 |cons x _ ih=>
  intro ks h;cases h with
  |cons n t r=>
   obtain ⟨ys',q1,q2⟩:=ih r;exact ⟨_,q1.cons _,.cons _ _ q2⟩
 |swap x y l=>
  intro ks h;cases h with
  |cons n t r=>
   cases r with
   |cons n2 t2 r=>exact ⟨_,List.Perm.swap _ _ _,.cons _ _ (.cons _ _ r)⟩
 |trans _ _ ih1 ih2=>
  intro ks h;obtain ⟨ys',q1,q2⟩:=ih1 h;obtain ⟨ys'',r1,r2⟩:=ih2 q2;exact ⟨ys'',r1.trans q1,r2⟩
theorem zKC (p:xs.Perm ys):zDq xs=zDq ys:=zKW ((zBt xs).trans p) (zGn xs)
theorem zLc (hh:A.handled=none) (ho:s.heap.get? a=some o) (hS:SetK (intKind prog w) o es ep t ks) (h64:ks.length<64)
  (h:∀ (s1:Shared) (h':Heap) (out:List Value) (n:Nat),(∀ b u,s.heap.get? b=some u->s1.heap.get? b=some u)->s1.os=s.os->s1.gens=s.gens->(∀ b u,s1.heap.get? b=some u->h'.get? b=some u)->h'.get? s1.heap.objs.size=some (seqObj "list" out.toArray n)->IntsAre out (zDq ks)->Q (.ref s1.heap.objs.size) { s1 with heap:=h' }) :
  wpAny (model prog w) A (call (.builtin "sorted") [.ref a]) Q E s:=by
 refine zMK (zKI (A:=A.in1) hh ho hS λs' acc k1 k2 k3 hp=>?_);obtain ⟨ks',p,f⟩:=hS.ent;obtain ⟨ks2,p2,f2⟩:=zOC hp (zN3 f);refine ⟨ks2,f2,?_,λh' out n e1 e2 e3=>?_⟩
 .rw[hp.length_eq,zWu,zXU,hS.size];exact h64
 .rw[zKC (p2.trans p)]at e3;exact h s' h' out n k1 k2 k3 e1 e2 e3
end
end ST
namespace L2
open PySem PySem.Spec PyProof.Rows ST
section
theorem Inv.kept' (I:Inv X zB σ H s) (k:∀ b u,s.heap.get? b=some u->s1.heap.get? b=some u) (ho:s1.os=s.os) (hg:s1.gens=s.gens):Inv X zB σ H s1 :=
 I.call' (ch:=[]) ho (Un.kept k) (I.hok.kept k) (by rw[hg];exact I.bare) λb hb=>nomatch hb
theorem zHm:∀ {ns:Ye} {us:Yf},IntsAre us ns->za (ns.map V.int) us
 |_,_,.nil=> .nil
 |_,_,.cons n t h=> .cons ⟨t,rfl⟩ (zHm h)
theorem zGb:∀ {ns:Ye} {us:Yf},za (ns.map V.int) us->IntsAre us ns
 |[],_,.nil=> .nil
 |n::ns,_,.cons r h=>by obtain ⟨t,rfl⟩:=r;exact .cons n t (zGb h)
theorem zRL (ks:Ye):(zDq ks).length=ks.length:=(zBt ks).length_eq
theorem zPT (hc:X.calm=true) (hg:Gl X "sorted") (hm:X.mg "sorted" = none) (ha:PZ X e t) (hs:starEach [e] X.env=(false,eval e X.env)::starEach [] X.env:=by rfl) (hpl:(backTo pos (starEach [] X.env)).any (·.1)=false:=by rfl) :
  PE X (.Call (.Name "sorted" p) [e] [] pos) (λσ H Q=>t σ H λks H1=>ks.length<64 /\ ∀ q,H1 q=none->Q (.ref q) (upd H1 q (.lst ((zDq ks).map V.int)))):=by
 intro zB s σ H Q I h;refine wpAny_Call_Name_kw (zEG I hg hm (by rfl) ?_ (by decide) (by decide));refine callWith_builtin1 ?_ hs hpl;rw[hs];refine Calls.spliced_cons (thn (ha zB s σ H _ I h) λu s1 ⟨a,o,es,ep,tb,ks,H1,hv,ho,hS,I1,h64,q⟩=>Calls.spliced_nil ?_);subst hv;refine zLc (I1.ok.hd hc) ho hS h64 λs2 h' out n k1 k2 k3 k4 e4 i4=>?_;have I2:Inv X zB σ H1 s2:=I1.kept' k1 k2 k3;have hf:H1 s2.heap.objs.size=none:=I2.hok.fresh (zWr _);refine ⟨.ref s2.heap.objs.size,upd H1 s2.heap.objs.size (.lst ((zDq ks).map V.int)),I2.laid (t':=s2.toks) k4 (zWr _) ⟨by rw[zWu,zRL,sizeLine_eq];omega,out,n,zHm i4,e4⟩,rfl,q _ hf⟩
theorem zUL (hc:X.calm=true) (hg:Gl X "set") (hm:X.mg "set" = none) (ha:PE X e te) (hs:starEach [e] X.env=(false,eval e X.env)::starEach [] X.env:=by rfl) (hpl:(backTo pos (starEach [] X.env)).any (·.1)=false:=by rfl) :
  PZ X (.Call (.Name "set" p) [e] [] pos) (λσ H Q=>te σ H λx H1=>∃ a ns,x=.ref a/\(SqL X.K H1 a (ns.map V.int)\/SqT X.K H1 a (ns.map V.int))/\(zJ ns).length+1<scanBound/\Q (zJ ns) H1):=by
 intro zB s σ H Q I h;refine wpAny_Call_Name_kw (zEG I hg hm (by rfl) ?_ (by decide) (by decide));refine callWith_type1 ?_ hs hpl;rw[hs];refine Calls.spliced_cons (thn (ha zB s σ H _ I h) λu s1 ⟨x,H1,I1,r1,a,ns,hx,hq,hb,q⟩=>Calls.spliced_nil ?_);subst hx;cases r1;have key:∃ (ty:String) (its:List Value),(ty = "list" \/ ty = "tuple")/\(∃ ol,s1.heap.get? a=some ol/\ol.cls=.type ty /\ ∃ nl,ol.data=.seq its.toArray nl)/\za (ns.map V.int) its:=by
  rcases hq with hq|hq
  .obtain ⟨its,rv,⟨ol,nl,e1,e2,_,e3⟩,_⟩:=I1.list hq;exact ⟨"list", its,.inl rfl,⟨ol,e1,e2,nl,e3⟩,rv⟩
  .obtain ⟨its,rv,⟨ol,e1,e2,nl,e3⟩,_⟩:=I1.tuple hq;exact ⟨"tuple", its,.inr rfl,⟨ol,e1,e2,nl,e3⟩,rv⟩
 obtain ⟨ty,its,hty,hl,rv⟩:=key;have hi:F2 (λv k=>(intKind X.prog X.w).is k v=true/\v.scannable=true) its.toArray.toList ns:=by
  rw[List.toList_toArray];have:=zGb rv;clear rv hq q hb hl;induction this with
  |nil=>exact .nil
  |cons n t _ ih=>exact .cons ⟨intKind_is _ _ _ _,rfl⟩ ih
 refine zQQ (knd:=intKind X.prog X.w) hty (I1.ok.hd hc) hl hi hb λh' tk o es ep t ho hS k=>?_;have I2:Inv X zB σ H1 { s1 with heap:=h',toks:=tk }:=I1.kept (t':=tk) λb u e=>k b u (zWw e) e;exact ⟨_,o,es,ep,t,_,H1,rfl,ho,hS,I2,q⟩
end
end L2
namespace L3
open PySem PySem.Spec PyProof.Rows L2 ST
abbrev FZ:=Sd->Mem->Option (List Int × Mem)
def trZ (K:Yb) (f:FZ):TZ:=λτ H Q=>∃ L σ M ks M',Cor K L M H/\zBi L H σ τ/\f σ M=some (ks,M') /\ ∀ L' H',Stp L H L' H'->Cor K L' M' H'->Q ks H'
structure QZ (X:Cx) (e:Expr) (f:FZ):Prop where
 un:PZ X e (trZ X.K f)
theorem PZ.imp (h:PZ X e t) (hi:∀ τ H Q,t' τ H Q->t τ H Q):PZ X e t':=λzB s σ H Q I q=>h zB s σ H Q I (hi _ _ _ q)
def zIy (own:Yj) (fi:FI) (g:FG) (tc:FT) (te:FE):FZ:=λσ M=>match zh own fi g tc te σ M with
 |some (.fl ys,M2)=>match zAd ys with
  |some ks=>if ks.length+1<scanBound then some (zJ ks,M2) else none
  |none=>none
 |_=>none
theorem zGt:∀ {as bs:List D} {zs:Ye},zAd (as++bs)=some zs -> ∃ xs ys,zAd as=some xs/\zAd bs=some ys/\zs=xs++ys
 |[],bs,zs,h=>⟨[],zs,rfl,h,rfl⟩
 |a::as,bs,zs,h=>by
  cases a with
  |int i=>
   rw[List.cons_append]at h;unfold zAd at h;split at h
   .rename_i us e;cases h;obtain ⟨xs,ys,e1,e2,e3⟩:=zGt e;refine ⟨i::xs,ys,?_,e2,by rw[e3];rfl⟩;unfold zAd;rw[e1]
   .cases h
  |_=>cases h
theorem zLS (h:zAd as=some xs):zAd (as++[.int i])=some (xs++[i]):=by
 induction as generalizing xs with
 |nil=>cases h;rfl
 |cons a as ih=>
  cases a with
  |int j=>
   unfold zAd at h;split at h
   .rename_i us e;cases h;rw[List.cons_append];unfold zAd;rw[ih e];rfl
   .cases h
  |_=>cases h
theorem zN8 {K:Yb} {own:Yj} {fi:FI} {g:TG} {fg:FG} {tc:FT} {te:FE} (hg:zE1 own g fg) {τ:Sv} {H:Hp} {Q:List Int->Hp->Prop} (h:trZ K (zIy own fi fg tc te) τ H Q):zKt own (trI K fi) g (trT K tc) (trD K (toD te)) τ H Q:=by
 obtain ⟨L,σ,M,d,Mf,c,rs,hf,q⟩:=h;unfold zIy zh at hf;cases e1:fi σ M with
 |none=>rw[e1]at hf;cases hf
 |some r=>
  obtain ⟨xs,gd,M1⟩:=r;rw[e1]at hf;dsimp only at hf;by_cases hz:xs.length<=sizeLine
  .rw[zW0 hz]at hf;cases e2:zA8 fg tc te (zBM own σ) xs gd xs M1 with
   |none=>rw[e2]at hf;cases hf
   |some r=>
    obtain ⟨zs,M2⟩:=r;rw[e2]at hf;dsimp only at hf;split at hf
    .rename_i kz ez;split at hf
     .rename_i hb;cases hf;refine ⟨L,σ,M,_,_,_,c,rs,e1,λL1 H1 J s1 c1 it=>?_⟩
      refine ⟨λi m ys H'=>m=xs.length-i/\i<=xs.length /\ ∃ L' M' as bs ka,Stp L1 H1 L' H'/\Cor K L' M' H'/\zAd as=some ka/\ys=zJ ka/\zA8 fg tc te (zBM own σ) xs gd (xs.drop i) M'=some (bs,Mf)/\as++bs=zs,
       ⟨xs.length,by simp,zXX _,L1,M1,[],zs,[],.refl _ _,c1,rfl,rfl,by simpa using e2,rfl⟩,?_⟩
      rintro i m ys H' ⟨rfl,hi,L',M',as,bs,ka,s',c',r',hl,e',hab⟩;by_cases hlt:i<xs.length
      .rw[zCU hlt]at e';unfold zA8 at e';split at e'
       .rename_i hgd;obtain ⟨step,_⟩:=it L' H' M' s' c' hgd;obtain ⟨go,yl⟩:=step i xs[i] (zWp hlt);split at e'
        .rename_i σ1 eg;refine .inr ⟨go,λv H2 hy=>?_⟩;obtain ⟨gr,rv⟩:=yl v H2 hy;have s2:Stp L1 H1 L' H2:=s'.yld gr;refine hg (zEQ own ((rs.stp s1).stp s2)) (.refl _) rv eg λτ2 r2 x2=>⟨x2,?_⟩;split at e'
         .rename_i M3 e3;split at e'
          .rename_i d M4 e4;split at e'
           .rename_i ds M5 e5;cases e';refine ⟨L',σ1,M',_,_,c'.grow gr,r2,e3,λL3 H3 s3 c3=>zIE ?_⟩;refine ⟨L3,σ1,M3,_,_,c3,r2.stp s3,e4,λL4 H4 w s4 c4 r4=>?_⟩;have st:Stp L' H' L4 H4:=((Stp.grow gr).trans s3).trans s4;have ez':=ez;rw[<-hab]at ez';obtain ⟨x1,y1,g1,g2,g3⟩:=zGt ez';obtain ⟨k,hk⟩:∃ k,d=.int k:=by
             cases d with
             |int k=>exact ⟨k,rfl⟩
             |_=>cases g2
            subst hk;have ew:w=.int k:=by unfold Rep at r4;exact r4
            have hka:ka.length<=kz.length:=by
             rw[r']at g1;cases g1;rw[g3,zW1];omega
            refine ⟨k,ew,?_,xs.length-(i+1),by omega,rfl,hlt,L4,M4,as++[.int k],ds,ka++[k],s'.trans st,c4,zLS r',by rw[hl,zB3],e5,by rw[<-hab];simp⟩;rw[hl];have:=zAg ka;omega
           .cases e'
          .cases e'
         .rename_i M3 e3;refine ⟨L',σ1,M',_,_,c'.grow gr,r2,e3,λL3 H3 s3 c3=>zHv ?_⟩;have st:Stp L' H' L3 H3:=(Stp.grow gr).trans s3;exact ⟨xs.length-(i+1),by omega,rfl,hlt,L3,M3,as,bs,ka,s'.trans st,c3,r',hl,e',hab⟩
         .cases e'
        .cases e'
       .cases e'
      .have hi':i=xs.length:=by omega
       subst hi';rw[List.drop_length]at e';unfold zA8 at e';split at e'
       .rename_i hgd;cases e';obtain ⟨_,stop⟩:=it L' H' _ s' c' hgd;rw[zXV]at hab;subst hab;rw[r']at ez;cases ez;refine .inl ⟨stop,?_⟩;rw[hl];exact q L' H' (s1.trans s') c'
       .cases e'
     .cases hf
    .cases hf
  .rw[zW3 hz]at hf;cases hf
section
variable {X:Cx}
theorem zTz (hg:zE1 own g fg) (C:CompIn X scope own) (hcalm:X.calm=true) (hi:QI X tg iter fi) (p:QParts X scope tg ifs elt g tc te) (hs:∀ x,foldedSetIterable iter X.env x=pure x:=by intro _;rfl) :
  QZ X (.SetComp elt [⟨tg,iter,ifs,0⟩] scope pos) (zIy own fi fg tc te) :=
 .mk <| PZ.imp (zR8 C hcalm hi.un p.parts hs) λ_ _ _ h=>zN8 hg h
def zFZ (f:FE):FZ:=λσ M=>match f σ M with
 |some (x,M1)=>match zAF M1 x with
  |some ds=>match zAd ds with
   |some ks=>if (zJ ks).length+1<scanBound then some (zJ ks,M1) else none
   |none=>none
  |none=>none
 |none=>none
theorem zSE (hc:X.calm=true) (hg:Gl X "set") (hm:X.mg "set" = none) (h:QE X e f) (hs:starEach [e] X.env=(false,eval e X.env)::starEach [] X.env:=by rfl) (hpl:(backTo pos (starEach [] X.env)).any (·.1)=false:=by rfl) :
  QZ X (.Call (.Name "set" p) [e] [] pos) (zFZ f):=.mk <| PZ.imp (zUL hc hg hm h.un hs hpl) λτ H Q zz=>by
 obtain ⟨L,σ,M,d,M',c,rs,hf,q⟩:=zz;unfold zFZ at hf;split at hf
 .rename_i x M1 e1;split at hf
  .rename_i ds e2;split at hf
   .rename_i ks e3;split at hf
    .rename_i hb;cases hf;refine ⟨L,σ,M,_,_,c,rs,e1,λL1 H1 v s1 c1 r1=>?_⟩;obtain ⟨a,vs,rfl,hsq,r⟩:=zEy c1 r1 e2;have:=zBa e3 r;subst this;exact ⟨a,ks,rfl,hsq,hb,q L1 H1 s1 c1⟩
    .cases hf
   .cases hf
  .cases hf
 .cases hf
def zFp (f:FZ):FE:=λσ M=>match f σ M with
 |some (ks,M1)=>if ks.length<64 then some (.fl ((zDq ks).map D.int),M1) else none
 |none=>none
theorem zIQ:∀ (ns:Ye),zP L H (ns.map D.int) (ns.map V.int)
 |[]=> .nil
 |n::ns=> .cons zAp (zIQ ns)
theorem zRo (hc:X.calm=true) (hg:Gl X "sorted") (hm:X.mg "sorted" = none) (h:QZ X e fz) (hs:starEach [e] X.env=(false,eval e X.env)::starEach [] X.env:=by rfl) (hpl:(backTo pos (starEach [] X.env)).any (·.1)=false:=by rfl) :
  QE X (.Call (.Name "sorted" p) [e] [] pos) (zFp fz):=.mk <| PE.imp (zPT hc hg hm h.un hs hpl) λτ H Q zz=>by
 obtain ⟨L,σ,M,d,M',c,rs,hf,q⟩:=zz;unfold zFp at hf;split at hf
 .rename_i ks M1 e1;split at hf
  .rename_i hb;cases hf;refine ⟨L,σ,M,_,_,c,rs,e1,λL1 H1 s1 c1=>⟨hb,λp hp=>?_⟩⟩;exact q L1 _ _ (s1.trans (.upd hp)) (c1.upd hp) (zr.newLst s1 c c1 hp (zIQ _))
  .cases hf
 .cases hf
end
open AutoSeq1 (wpAny_loadPart')
theorem zUg (hh:A.handled=none) (it l:Yt) (hne:l≠it) (items:Yp) :
  Draws prog w A it [it,l] items.size (λi v=>items[i]?=some v) (λi h=>h.IsTupleIter it l i/\h.IsTuple l items) where
 live:=λ_ _ st=>let ⟨o,ho,_⟩:=st.1;⟨o,ho⟩;frame:=λ_ _ _ st hk=>⟨let ⟨o,ho,r⟩:=st.1;⟨o,hk it (by simp) o ho,r⟩,let ⟨o,ho,r⟩:=st.2;⟨o,hk l (by simp) o ho,r⟩⟩;item:=λi s Q E hi st hQ=>by
  refine zHA st.1 st.2 (x:=items[i]) (by simp[hi]) λh' hit' hs'=>?_;exact hQ _ h' s.toks (by simp[hi]) ⟨hit',Tup.but st.2 hs'.extBut hne⟩ hs'
 done:=λs Q E st hE=>zFS hh st.1 st.2 (by simp) hE
theorem zLX (l:Yt) (items:Yp) (n:Nat) (dct:Option Addr) (sl:Array (Option Value)) :
  Meets (Builtin.«enumerate.__new__» ⟨[.type "enumerate", .ref l],[]⟩) (λ_ R s=>s.heap.get? l=some { cls:=.type "tuple", dict:=dct,data:=.seq items n,slots:=sl } /\
   R (.ok (.ret (.ref (s.heap.push { cls:=.type "tuple_iterator", data:=.fields #[.ref l,.int 0 0] }).objs.size)))
    { s with heap:=(s.heap.push { cls:=.type "tuple_iterator", data:=.fields #[.ref l,.int 0 0] }).push { cls:=.type "enumerate", data:=.fields #[.none,.bool false,.ref s.heap.objs.size,rawInt 0,.none,.none] } }) :=
 .of_wp λprog w A R s h=>by
  obtain ⟨hp,g,d,tk,os⟩:=s;obtain ⟨hl,h⟩:=h;have hsub:=sub_enumerate;have hL:Heap.IsTuple (Shared.heap ⟨hp,g,d,tk,os⟩) l items:=⟨_,hl,rfl,n,rfl⟩;wp_walk using wpAny_loadPart' hl;refine wpAny_stack_any λst=>zWn ?_;split
  .rename_i c _ _ _ _ _;cases (c==Value.type "enumerate")
   .wp_walk using wpAny_loadPart' hl,wpAny_pyIter_tuple hL;exact ⟨_,rfl,h⟩
   .wp_walk using wpAny_loadPart' hl,wpAny_pyIter_tuple hL;exact ⟨_,rfl,h⟩
  .wp_walk using wpAny_loadPart' hl,wpAny_pyIter_tuple hL;exact ⟨_,rfl,h⟩
section
theorem zLd (hL:s.heap.IsTuple l items)
  (h:∀ h',IsEnum h' (s.heap.objs.size+1) s.heap.objs.size 0 .none->h'.IsTupleIter s.heap.objs.size l 0->(∀ c o,s.heap.get? c=some o->h'.get? c=some o)->Q (.ref (s.heap.objs.size+1)) { s with heap:=h' }) :
  wpAny (model prog w) A (call (.type "enumerate") [.ref l]) Q E s:=by
 obtain ⟨o,ho,hc,n,hd⟩:=hL;obtain ⟨ocls,odict,odata,oslots⟩:=o;simp only at hc hd;subst hc;subst hd;refine callType_new PySem.F.called_enumerate (by decide) (PySem.F.typeCall_enumerate_1 _) (PySem.F.newCall_enumerate_1 _) (λobj=>PySem.F.args_object_init_2 obj _) PySem.F.entry_enumerate_new (zLX l items n odict oslots) ⟨ho,?_⟩;have q1:(s.heap.push { cls:=.type "tuple_iterator", data:=.fields #[.ref l,.int 0 0] }).objs.size=s.heap.objs.size+1:=zXR ..;have p2:((s.heap.push { cls:=.type "tuple_iterator", data:=.fields #[.ref l,.int 0 0] }).push { cls:=.type "enumerate", data:=.fields #[.none,.bool false,.ref s.heap.objs.size,rawInt 0,.none,.none] }).get? (s.heap.push { cls:=.type "tuple_iterator", data:=.fields #[.ref l,.int 0 0] }).objs.size=some _:=zWv _ rfl;rw[q1]at p2;rw[q1];exact ⟨⟨_,p2,rfl⟩,h _ p2 ⟨_,zWm _ (zWv _ rfl),rfl,rfl⟩ λc o x=>zWm _ (zWm _ x)⟩
theorem zLR (he:IsEnum s.heap e it i old)
  (hn:∀ (Q':Value->Shared->Prop) (E':Value->Shared->Prop),(∀ h' x,Heap.ExtBut it s.heap h'->(∃ o,h'.get? x=some o/\o.cls=.type "StopIteration")->E' (.ref x) { s with heap:=h' })->wpAny (model prog w) A.in1 (Builtin.SmallTypes.nextOf (.ref it)) Q' E' s)
  (hQ:∀ h',Heap.ExtBut it s.heap h'->Q none { s with heap:=h' }):wpAny (model prog w) A (pyNext (.ref e)) Q E s:=by
 have hT:s.TypeIs (.ref e) "enumerate" := ⟨_,he,rfl⟩;unfold pyNext
 refine zWl (wpAny_attempt (zXN (name:=Str.ofString "__next__") hT PySem.F.slot_enumerate_next
  (zXO PySem.F.slot_enumerate_next hT PySem.F.entry_enumerate_next ?_ (PySem.F.args_enumerate_next_1 _))))
 show wpAny _ _ (field (.ref e) 2 >>= _) _ _ _;refine zWl (zXQ he rfl (x:=.ref it) rfl ?_);refine zWl (hn _ _ λh' x he' hx'=>?_);obtain ⟨o,ho,hc⟩:=hx';refine zWl (wpAny_isInstance (T := "StopIteration") (b:=true) ⟨o,ho,hc⟩ isSubtype_stop ?_);exact zWn (hQ _ he')
end
def zKl (K:Yb) (isT:Bool) (a:Yt):It :=
 ⟨λi H=>∃ xs x,(if isT then SqT K H a xs else SqL K H a xs)/\xs[i]?=some x,
  λi H v H'=>∃ T x,v=.ref T/\H T=none/\H'=upd H T (.tup [.int i,x]) /\ ∀ xs,(if isT then SqT K H a xs else SqL K H a xs)->xs[i]?=some x,
  λi H=>∃ xs,(if isT then SqT K H a xs else SqL K H a xs)/\xs.length<=i⟩
def zSU (isT:Bool) (it a:Yt) (i:Nat) (h:Heap):Prop:=if isT then h.IsTupleIter it a i else h.IsListIter it a i
theorem zOz {P:Ym} {w:Yo} {K:Yb} {es:Yi} {ek:Nat} {ep:Pos} {isT:Bool} {e it a:Yt} (hei:e≠it) (hae:a≠e) (hai:a≠it) :
  Turn P w K (.Tuple es ek ep) (zKl K isT a) [e,it] e (λi h=>(∃ old,IsEnum h e it i old)/\zSU isT it a i h) where
 mem:=by simp
 obj:=λi h ⟨⟨old,he⟩,st⟩ c hc=>by
  simp only[zWx,zXG,zX6]at hc;rcases hc with rfl|rfl
  .exact ⟨_,he,λv m=>by cases m⟩
  .cases isT with
   |true=>obtain ⟨o1,e1,_,d1⟩:=(show h.IsTupleIter c a i from st);exact ⟨_,e1,λv m=>by rw[d1]at m;cases m⟩
   |false=>obtain ⟨o1,e1,_,d1⟩:=(show h.IsListIter c a i from st);exact ⟨_,e1,λv m=>by rw[d1]at m;cases m⟩
 keep:=λi h h' ⟨⟨old,he⟩,st⟩ k=>by
  refine ⟨⟨old,k e (by simp) _ he⟩,?_⟩;cases isT with
  |true=>obtain ⟨o1,e1,r⟩:=(show h.IsTupleIter it a i from st);exact ⟨o1,k it (by simp) _ e1,r⟩
  |false=>obtain ⟨o1,e1,r⟩:=(show h.IsListIter it a i from st);exact ⟨o1,k it (by simp) _ e1,r⟩
 item:=by
  intro X hP hw hK hc i zB s σ H E I hf Z hg;subst hP hw hK;obtain ⟨⟨old,he⟩,st⟩:=Z;obtain ⟨xs,x,sa,hx⟩:=hg;have hch:∀ c∈[e,it],zCI X zB H c:=hf;have elt:e<s.heap.objs.size:=zWw he
  have fin:∀ (its:List Value) (u:Value) (h':Heap) (tk:Nat),za xs its->its[i]?=some u->IsEnumOut h' e it ((i:Int)+1) u s.heap.objs.size->zSU isT it a (i+1) h'->h'.get? s.heap.objs.size=some { cls:=.type "tuple", data:=.seq #[.int i tk,u] } ->
    (∀ b o,b≠e->b≠it->s.heap.get? b=some o->h'.get? b=some o)->it<s.heap.objs.size ->
    ∃ u',some (Value.ref s.heap.objs.size)=some u'/\wpAny (model X.prog X.w) X.A (letOwnedTupleGo (.Tuple es ek ep) (.ref e) u') (λ_ s2=>∃ x H',Inv X zB σ H' s2/\zt x u'/\(zKl X.K isT a).yld i H x H'/\((∃ old,IsEnum s2.heap e it ((i+1:Nat):Int) old)/\zSU isT it a (i+1) s2.heap) /\ ∀ b∈[e,it],H' b=none) E { s with heap:=h',toks:=tk+1 }:=by
   intro its u h' tk rv hu ho st' hT hk ilt;refine ⟨_,rfl,wpAny_letOwnedTupleGo_enum ho λh2 he2 e2=>?_⟩;have kk:∀ c o,c∉[e,it]->s.heap.get? c=some o->h2.get? c=some o:=λc o n q=>by
    simp only[zWx,zXG,zX6,not_or]at n;exact e2.extBut _ _ n.1 (hk c o n.1 n.2 q)
   have NT:=e2.extBut _ _ (zYG elt) hT;have hfr:H s.heap.objs.size=none:=I.hok.fresh (zWr _);obtain ⟨u2,hu2,ru⟩:=rv.get hx;rw[hu]at hu2;cases hu2;refine ⟨.ref s.heap.objs.size,upd H s.heap.objs.size (.tup [.int i,x]),zKO (s:=s) (h':=h2) (t':=tk+1) I hch kk (zWr _) ?_,rfl,⟨_,x,rfl,hfr,rfl,λws hw=>?_⟩,⟨⟨u,by simpa using he2⟩,?_⟩,λc hm=>?_⟩
   .exact ⟨by show 2<=sizeLine;decide,[.int i tk,u],.cons ⟨tk,rfl⟩ (.cons ru .nil),⟨_,NT,rfl,⟨_,rfl⟩,rfl⟩⟩
   .cases isT with
    |true=>rw[I.tuple_inj hw sa];exact hx
    |false=>rw[I.list_inj hw sa];exact hx
   .cases isT with
    |true=>obtain ⟨o1,e1,r⟩:=(show h'.IsTupleIter it a (i+1)from st');exact ⟨o1,e2.extBut _ _ hei.symm e1,r⟩
    |false=>obtain ⟨o1,e1,r⟩:=(show h'.IsListIter it a (i+1)from st');exact ⟨o1,e2.extBut _ _ hei.symm e1,r⟩
   .have lt:c<s.heap.objs.size:=by
     simp only[zWx,zXG,zX6]at hm;rcases hm with rfl|rfl
     .exact elt
     .exact ilt
    rw[zZ (zW6 lt)];exact (hf c hm).1
  have hef:e∉[it,a]:=by simp only[zWx,zXG,zX6,not_or];exact ⟨hei,hae.symm⟩
  cases isT with
  |true=>
   obtain ⟨its,rv,p1,z1⟩:=I.tuple sa;have st':s.heap.IsTupleIter it a i:=st;obtain ⟨o1,e1,_⟩:=id st';refine wpAny_pyNext_enum_itemD (zUg (prog:=X.prog) (w:=X.w) (A:=X.A.in1) (I.ok.hd hc) it a hai its.toArray) he ⟨st',show s.heap.IsTuple a its.toArray from p1⟩ (by have:=rv.length;have:=(zWo.mp hx).1;rw[zWt];omega) hei hef λu h' tk hu ho hs hT _ hk=>?_;exact fin its u h' tk rv (by simpa using hu) ho hs.1 hT hk (zWw e1)
  |false=>
   obtain ⟨its,rv,p1,z1⟩:=I.list sa;have st':s.heap.IsListIter it a i:=st;obtain ⟨o1,e1,_⟩:=id st';refine wpAny_pyNext_enum_itemD (Draws.list (prog:=X.prog) (w:=X.w) (A:=X.A.in1) (I.ok.hd hc) it a hai its.toArray) he ⟨st',p1.isList⟩ (by have:=rv.length;have:=(zWo.mp hx).1;rw[zWt];omega) hei hef λu h' tk hu ho hs hT _ hk=>?_;exact fin its u h' tk rv (by simpa using hu) ho hs.1 hT hk (zWw e1)
 done:=by
  intro X hP hw hK hc i zB s σ H E I hf Z hg;subst hP hw hK;obtain ⟨⟨old,he⟩,st⟩:=Z;obtain ⟨xs,sa,hz⟩:=hg;have out:∀ h',Heap.ExtBut it s.heap h'->(none:Option Value)=none/\Inv X zB σ H { s with heap:=h' }:=λh' x=>⟨rfl,zN5 (s:=s) (h':=h') (t':=s.toks) I hf λc o n q=>x c o (λm=>n (by simp[m])) q⟩;cases isT with
  |true=>
   obtain ⟨its,rv,p1,z1⟩:=I.tuple sa;refine zLR he (λQ' E' hq=>zFS (I.ok.hd hc) (show s.heap.IsTupleIter it a i from st) (show s.heap.IsTuple a its.toArray from p1) (by have:=rv.length;simp;omega) hq) out
  |false=>
   obtain ⟨its,rv,p1,z1⟩:=I.list sa;refine zLR he (λQ' E' hq=>wpAny_nextOf_list_end (I.ok.hd hc) (show s.heap.IsListIter it a i from st) p1.isList (by have:=rv.length;simp;omega) hq) out
 self:=λ_ _ _ _ _ Z h=>let ⟨⟨_,he⟩,_⟩:=Z;wpAny_pyIter_enum he h
section
theorem zSX {te:TE} (hg:Gl X "enumerate") (hm:X.mg "enumerate" = none) (ha:PE X a te) (hs:starEach [a] X.env=(false,eval a X.env)::starEach [] X.env:=by rfl) (hpl:(backTo pos (starEach [] X.env)).any (·.1)=false:=by rfl) :
  PI X (.Tuple es ek ep) (.Call (.Name "enumerate" p) [a] [] pos) (λσ H R=>te σ H λx H1=>∃ l,x=.ref l/\((∃ xs,SqT X.K H1 l xs)/\R (zKl X.K true l) H1\/(∃ xs,SqL X.K H1 l xs)/\R (zKl X.K false l) H1)):=by
 intro zB s σ H R I h;refine wpAny_Call_Name_kw (zEG I hg hm (by rfl) ?_ (by decide) (by decide));refine callWith_type1 ?_ hs hpl;rw[hs];refine Calls.spliced_cons (thn (ha zB s σ H _ I h) λu s1 ⟨x,H1,I1,r1,l,hx,q⟩=>Calls.spliced_nil ?_);subst hx;cases r1
 have out:∀ (isT:Bool) (h':Heap),l<s1.heap.objs.size->IsEnum h' (s1.heap.objs.size+1) s1.heap.objs.size 0 .none->zSU isT s1.heap.objs.size l 0 h'->(∀ c o,s1.heap.get? c=some o->h'.get? c=some o)->R (zKl X.K isT l) H1 ->
   wpAny (model X.prog X.w) X.A (pyIter (.ref (s1.heap.objs.size+1))) (PIE X zB σ (.Tuple es ek ep) R) X.xe { s1 with heap:=h' }:=by
  intro isT h' hl he st kp q;refine wpAny_pyIter_enum (s:={ s1 with heap:=h' }) he ?_;refine ⟨s1.heap.objs.size+1,[s1.heap.objs.size+1,s1.heap.objs.size],_,_,H1,rfl,I1.kept (t':=s1.toks) kp,zOz (isT:=isT) (zYG (zXi _)) (zW6 (zXa hl)) (zW6 hl),⟨⟨_,he⟩,st⟩,λc hc=>?_,q⟩;have ge:s1.heap.objs.size<=c:=by
   simp only[zWx,zXG,zX6]at hc;rcases hc with rfl|rfl
   .exact zYT _
   .exact zWr _
  exact I1.fpOk ge (I1.hok.fresh ge)
 rcases q with ⟨⟨xs,hq⟩,q⟩|⟨⟨xs,hq⟩,q⟩
 .obtain ⟨its,rv,p1,_⟩:=I1.tuple hq;have hl:l<s1.heap.objs.size:=by obtain ⟨_,e,_⟩:=p1;exact zWw e
  exact zLd (show s1.heap.IsTuple l its.toArray from p1) λh' he st kp=>out true h' hl he st kp q
 .obtain ⟨its,rv,p1,_⟩:=I1.list hq;have hl:l<s1.heap.objs.size:=by obtain ⟨_,_,e,_⟩:=p1;exact zWw e
  exact call_enumerate_list p1.isList λh' he st _ kp=>out false h' hl he st kp q
def zJh (xs:List D):List D:=((List.range xs.length).zip xs).map λq=>D.tup [.int (q.1:Nat),q.2]
theorem zQv {xs:List D} {i:Nat} {d:D} (h:(zJh xs)[i]?=some d):∃ x,xs[i]?=some x/\d=.tup [.int (i:Nat),x]:=by
 unfold zJh at h;rw[zW8]at h;cases e:((List.range xs.length).zip xs)[i]? with
 |none=>rw[e]at h;cases h
 |some pr=>
  rw[e]at h;cases h;obtain ⟨f1,f2⟩:=List.getElem?_zip_eq_some.mp e;have hi:i<xs.length:=(zWo.mp f2).1;rw[zYp hi]at f1;cases f1;exact ⟨pr.2,f2,rfl⟩
theorem zQI (xs:List D):(zJh xs).length=xs.length:=by unfold zJh;simp
def zF3 (f:FE):FI:=λσ M=>match f σ M with
 |some (x,M1)=>match zAF M1 x with
  |some xs=>some (zJh xs,zDM x xs,M1)
  |none=>none
 |none=>none
theorem zRW {g:FE} (hg:Gl X "enumerate") (hm:X.mg "enumerate" = none) (h:QE X a g) (hs:starEach [a] X.env=(false,eval a X.env)::starEach [] X.env:=by rfl) (hpl:(backTo pos (starEach [] X.env)).any (·.1)=false:=by rfl) :
  QI X (.Tuple es ek ep) (.Call (.Name "enumerate" p) [a] [] pos) (zF3 g):=.mk <| PI.imp (zSX hg hm h.un hs hpl) λτ H R zz=>by
 obtain ⟨L,σ,M,xs,gd,M',c,rs,hf,q⟩:=zz;unfold zF3 at hf;split at hf
 .rename_i y M1 e1;split at hf
  .rename_i zs e2;cases hf;refine ⟨L,σ,M,_,_,c,rs,e1,λL1 H1 v s1 c1 r1=>?_⟩
   have step:∀ (isT:Bool) (l:Yt) (L2:Yg) (H2:Hp) (vs:List V),(if isT then SqT X.K H2 l vs else SqL X.K H2 l vs)->zP L2 H2 zs vs ->
     (∀ (i:Nat) d,(zJh zs)[i]?=some d->(zKl X.K isT l).go i H2 /\ ∀ v H'',(zKl X.K isT l).yld i H2 v H''->(∀ a o,H2 a=some o->H'' a=some o)/\Rep L2 H'' d v)/\(zKl X.K isT l).stop (zJh zs).length H2:=by
    intro isT l L2 H2 vs hq r;refine ⟨λi d hd=>?_,⟨vs,hq,by rw[zQI,r.length];exact zWr _⟩⟩;obtain ⟨x,hx,rfl⟩:=zQv hd;obtain ⟨u,hu,ru⟩:=r.get hx;refine ⟨⟨vs,u,hq,hu⟩,λv H3 hy=>?_⟩;obtain ⟨T,x',rfl,hT,rfl,hxx⟩:=hy;have ex:=hxx vs hq;rw[hu]at ex;cases ex;exact ⟨λa o e=>by rw[zZ (zAC e hT)];exact e,Rep.newTup hT (.cons zAp (.cons ru .nil))⟩
   unfold zAF at e2;cases t:zBp y with
   |some ws=>
    rw[t]at e2;cases e2;obtain ⟨a,vs,rfl,e3,r3⟩:=zBD r1 t;refine ⟨a,rfl,.inl ⟨⟨vs,.of e3⟩,q L1 H1 _ s1 c1 λL2 H2 M2 s2 c2 _=>?_⟩⟩;exact step true a L2 H2 vs (.of (s2.tup a vs e3)) (r3.stp s2)
   |none=>
    rw[t]at e2;obtain ⟨a,vs,rfl,e3,r3⟩:=zA3 c1 r1 e2;refine ⟨a,rfl,.inr ⟨⟨vs,.inl e3⟩,q L1 H1 _ s1 c1 λL2 H2 M2 s2 c2 hgd=>?_⟩⟩;have key:∃ vs',SqL X.K H2 a vs'/\zP L2 H2 zs vs':=by
     cases y with
     |fl ys=>
      cases e2;obtain ⟨p',vs',hp',_,e5,e6,r6⟩:=r1;cases hp';exact ⟨vs',.of (s2.old _ _ e5 e6),r6.stp s2⟩
     |dat d=>
      cases d with
      |ref n=>
       unfold zr Rep at r1;obtain ⟨a',ha',e5⟩:=r1;cases ha';have e6:L2[n]?=some a:=by obtain ⟨N,hN⟩:=s2.pre;rw[hN];exact zB1 e5
       rcases hgd with z|z
       .obtain ⟨vs',e7,r7⟩:=c2.obj n a _ e6 z;exact ⟨vs',.of e7,r7⟩
       .obtain ⟨o,vs',e7,r7⟩:=c2.obj n a _ e6 z;exact ⟨vs',.inl (.inr ⟨o,e7⟩),r7⟩
      |_=>cases e2
    obtain ⟨vs',hq,r7⟩:=key;exact step false a L2 H2 vs' hq r7
  .cases hf
 .cases hf
end
section
variable [DecidableEq κ]
def zCB (kf:D->Option κ) (kvs:List (D × D)) (k:κ):Option D:=(kvs.find? λp=>decide (kf p.1=some k)).map (·.2)
def zH6 (kf:D->Option κ) (kvs:List (D × D)) (k:κ) (kd v:D):List (D × D) :=
 if (kvs.any λp=>decide (kf p.1=some k))=true then kvs.map λp=>if kf p.1=some k then (p.1,v) else p else kvs++[(kd,v)]
theorem zDy (k:κ):∀ {kvs:List (D × D)} {vs:List (κ × V)},zA9 kf L H kvs vs->(zCB kf kvs k=none/\zDt vs k=none) \/ ∃ d v,zCB kf kvs k=some d/\zDt vs k=some v/\Rep L H d v
 |[],vs,h=>by unfold zA9 at h;subst h;exact .inl ⟨rfl,rfl⟩
 |p::r,vs,h=>by
  obtain ⟨k',v,r',rfl,e,h1,h2⟩:=h;by_cases q:k'=k
  .subst q;exact .inr ⟨p.2,v,by unfold zCB;rw[zYX,e];simp,by rw[zFA rfl],h1⟩
  .have e1:zCB kf (p::r) k=zCB kf r k:=by unfold zCB;rw[zYX,e];simp[q]
   rw[e1,zEv q];exact zDy k h2
theorem zK2 (k:κ):∀ {kvs:List (D × D)} {vs:List (κ × V)},zA9 kf L H kvs vs->(kvs.any λp=>decide (kf p.1=some k))=(vs.any λkv=>decide (kv.1=k))
 |[],vs,h=>by unfold zA9 at h;subst h;rfl
 |p::r,vs,h=>by
  obtain ⟨k',v,r',rfl,e,h1,h2⟩:=h;rw[List.any_cons,List.any_cons,zK2 k h2,e];simp
theorem zHj (k:κ) (hd:Rep L H d u):∀ {kvs:List (D × D)} {vs:List (κ × V)},zA9 kf L H kvs vs->zA9 kf L H (kvs.map λp=>if kf p.1=some k then (p.1,d) else p) (vs.map λkv=>if kv.1=k then (kv.1,u) else kv)
 |[],vs,h=>by unfold zA9 at h;subst h;rfl
 |p::r,vs,h=>by
  obtain ⟨k',v,r',rfl,e,h1,h2⟩:=h;rw[zW4,zW4];by_cases q:k'=k
  .subst q;rw[zW0 e,zW0 rfl];exact ⟨k',u,_,rfl,e,hd,zHj k' hd h2⟩
  .rw[zW3 (by rw[e];simpa using q),zW3 q];exact ⟨k',v,_,rfl,e,h1,zHj k hd h2⟩
theorem zIs (hk:kf kd=some k) (hd:Rep L H d u):∀ {kvs:List (D × D)} {vs:List (κ × V)},zA9 kf L H kvs vs->zA9 kf L H (kvs++[(kd,d)]) (vs++[(k,u)])
 |[],vs,h=>by unfold zA9 at h;subst h;exact ⟨k,u,[],rfl,hk,hd,rfl⟩
 |p::r,vs,h=>by
  obtain ⟨k',v,r',rfl,e,h1,h2⟩:=h;exact ⟨k',v,_,rfl,e,h1,zIs hk hd h2⟩
theorem zNS {kf:D->Option κ} {L:Yg} {H:Hp} {k:κ} {kd d:D} {u:V} (hk:kf kd=some k) (hd:Rep L H d u) {kvs:List (D × D)} {vs:List (κ × V)} (h:zA9 kf L H kvs vs):zA9 kf L H (zH6 kf kvs k kd d) (zCq vs k u):=by
 unfold zH6 zCq;rw[zK2 k h];split
 .exact zHj k hd h
 .exact zIs hk hd h
end
theorem zKo:∀ {ds:List D} {vs:List V} {ks:List Key},zP L H ds vs->zHF ds=some ks->vs=ks.map kV
 |[],vs,ks,h,e=>by cases e;unfold zP at h;exact h
 |d::ds,vs,ks,h,e=>by
  unfold zP at h;obtain ⟨v,r,rfl,h1,h2⟩:=h;unfold zHF at e;cases e1:zCQ d with
  |none=>rw[e1]at e;cases e
  |some k=>
   cases e2:zHF ds with
   |none=>rw[e1,e2]at e;cases e
   |some ks'=>
    rw[e1,e2]at e;cases e;rw[zGW h1 e1,zKo h2 e2];rfl
theorem zLj (h:Rep L H d v) (e:tkD d=some ks):∃ b,v=.ref b/\H b=some (.tup (ks.map kV)):=by
 cases d with
 |tup ds=>
  unfold Rep at h;obtain ⟨a,vs,rfl,e1,r⟩:=h;exact ⟨a,rfl,by rw[e1,zKo r e]⟩
 |_=>cases e
def zDN (M:Mem) (x:EV) (k:D):Option (Option D):=match x with
 |.dat (.ref n)=>match M[n]? with
  |some (.dict kvs)=>match zCQ k with
   |some kk=>some (zCB zCQ kvs kk)
   |none=>none
  |some (.dicT kvs)=>match tkD k with
   |some kk=>some (zCB tkD kvs kk)
   |none=>none
  |some (.froK kvs)=>match zCQ k with
   |some kk=>some (zCB zCQ kvs kk)
   |none=>none
  |some (.froT kvs)=>match tkD k with
   |some kk=>some (zCB tkD kvs kk)
   |none=>none
  |_=>none
 |_=>none
def zVs (L:Yg) (H:Hp):Option D->Option V->Prop
 |none,o=>o=none
 |some d,o=>∃ v,o=some v/\Rep L H d v
theorem zE0 {K:Yb} {L:Yg} {M:Mem} {H H0:Hp} {x:EV} {v w:V} {k:D} {o:Option D} (c:Cor K L M H) (rx:zr H0 L H x v) (rk:Rep L H k w) (e:zDN M x k=some o):∃ a ov,v=.ref a/\zDh H a w ov/\zVs L H o ov:=by
 cases x with
 |fl xs=>cases e
 |dat d=>
  cases d with
  |ref n=>
   unfold zr Rep at rx;obtain ⟨a,rfl,ea⟩:=rx;unfold zDN at e;dsimp only at e;cases q:M[n]? with
   |none=>rw[q]at e;cases e
   |some m=>
    rw[q]at e;have z:=c.obj n a m ea q;cases m with
    |dict kvs=>
     cases e2:zCQ k with
     |none=>rw[e2]at e;cases e
     |some kk=>
      rw[e2]at e;cases e;obtain ⟨vs,e3,r⟩:=z;refine ⟨a,zDt vs kk,rfl,?_,?_⟩
      .rw[zGW rk e2];exact zDh.k e3
      .rcases zDy kk r with ⟨h1,h2⟩|⟨d,v,h1,h2,h3⟩
       .rw[h1,h2];rfl
       .rw[h1,h2];exact ⟨v,rfl,h3⟩
    |dicT kvs=>
     cases e2:tkD k with
     |none=>rw[e2]at e;cases e
     |some kk=>
      rw[e2]at e;cases e;obtain ⟨vs,e3,r⟩:=z;obtain ⟨b,rfl,eb⟩:=zLj rk e2;refine ⟨a,zDt vs kk,rfl,zDh.t e3 eb,?_⟩;rcases zDy kk r with ⟨h1,h2⟩|⟨d,v,h1,h2,h3⟩
      .rw[h1,h2];rfl
      .rw[h1,h2];exact ⟨v,rfl,h3⟩
    |froK kvs=>
     cases e2:zCQ k with
     |none=>rw[e2]at e;cases e
     |some kk=>
      rw[e2]at e;cases e;obtain ⟨ob,vs,e3,r⟩:=z;refine ⟨a,zDt vs kk,rfl,.inl ⟨vs,kk,.inr ⟨ob,e3⟩,zGW rk e2,rfl⟩,?_⟩;rcases zDy kk r with ⟨h1,h2⟩|⟨d,v,h1,h2,h3⟩
      .rw[h1,h2];rfl
      .rw[h1,h2];exact ⟨v,rfl,h3⟩
    |froT kvs=>
     cases e2:tkD k with
     |none=>rw[e2]at e;cases e
     |some kk=>
      rw[e2]at e;cases e;obtain ⟨ob,vs,e3,r⟩:=z;obtain ⟨b,rfl,eb⟩:=zLj rk e2;refine ⟨a,zDt vs kk,rfl,.inr ⟨vs,kk,b,.inr ⟨ob,e3⟩,rfl,eb,rfl⟩,?_⟩;rcases zDy kk r with ⟨h1,h2⟩|⟨d,v,h1,h2,h3⟩
      .rw[h1,h2];rfl
      .rw[h1,h2];exact ⟨v,rfl,h3⟩
    |_=>cases e
  |_=>cases e
def zD7 (M:Mem) (n:Nat) (k v:D):Option Mem:=match M[n]? with
 |some (.dict kvs)=>match zCQ k with
  |some kk=>if kvs.length<sizeLine then some (M.set n (.dict (zH6 zCQ kvs kk k v))) else none
  |none=>none
 |some (.dicT kvs)=>match tkD k with
  |some kk=>if kvs.length<sizeLine then some (M.set n (.dicT (zH6 tkD kvs kk k v))) else none
  |none=>none
 |_=>none
theorem zKp {K:Yb} {L:Yg} {M M':Mem} {H:Hp} {n:Nat} {a:Yt} {k v:D} {w u:V} (c:Cor K L M H) (ea:L[n]?=some a) (rk:Rep L H k w) (rv:Rep L H v u) (e:zD7 M n k v=some M'):∃ H',zF8 H a w u H'/\Cor K L M' H'/\Stp L H L H':=by
 unfold zD7 at e;cases q:M[n]? with
 |none=>rw[q]at e;cases e
 |some m=>
  rw[q]at e;have z:=c.obj n a m ea q;cases m with
  |dict kvs=>
   cases e2:zCQ k with
   |none=>rw[e2]at e;cases e
   |some kk=>
    rw[e2]at e;dsimp only at e;split at e
    .rename_i hl;cases e;obtain ⟨vs,e3,r⟩:=z;obtain ⟨c3,s3⟩:=c.put (m:=.dict (zH6 zCQ kvs kk k v)) (o':=.dK (zCq vs kk u)) ea e3 (λ_ z=>by cases z) (λ_ _ z=>by cases z) λs3=>⟨_,zAD,(zNS e2 rv r).stp s3⟩;refine ⟨_,?_,c3,s3⟩;rw[zGW rk e2];exact zF8.k e3 (by rw[r.length];exact hl)
    .cases e
  |dicT kvs=>
   cases e2:tkD k with
   |none=>rw[e2]at e;cases e
   |some kk=>
    rw[e2]at e;dsimp only at e;split at e
    .rename_i hl;cases e;obtain ⟨vs,e3,r⟩:=z;obtain ⟨b,rfl,eb⟩:=zLj rk e2;obtain ⟨c3,s3⟩:=c.put (m:=.dicT (zH6 tkD kvs kk k v)) (o':=.dT (zCq vs kk u)) ea e3 (λ_ z=>by cases z) (λ_ _ z=>by cases z) λs3=>⟨_,zAD,(zNS e2 rv r).stp s3⟩;exact ⟨_,zF8.t e3 eb (by rw[r.length];exact hl),c3,s3⟩
    .cases e
  |_=>cases e
section
def zAA:K2:=λx y M=>match y with
 |.dat k=>match zDN M x k with
  |some (some d)=>some (.dat d,M)
  |_=>none
 |_=>none
theorem zP4 {K:Yb}:zC3 K (λx y H Q=>∃ a v,x=.ref a/\zDh H a y (some v)/\Q v H) zAA:=by
 intro L M M' H H0 x y d v w Q c rx ry hk q;unfold zAA at hk;split at hk
 .rename_i k;split at hk
  .rename_i d' e1;cases hk;obtain ⟨a,ov,rfl,h1,h2⟩:=zE0 c rx ry e1;obtain ⟨u,rfl,r⟩:=h2;exact ⟨a,u,rfl,h1,q L H u (.refl L H) c r⟩
  .cases hk
 .cases hk
theorem zT1 (hu:X.A.units+1<cLine) (h1:QE X o f) (h2:QE X i g) (hs:zTu i:=by intro _ _;rfl):QE X (.Subscript o i pos) (fOp zAA f g):=.mk <| PE.imp (zR1 hu h1.un h2.un hs) λ_ _ _ h=>zEL zP4 h
def zBV (neg:Bool):K2:=λx y M=>match x with
  |.dat k=>match zDN M y k with
    |some o=>some (.dat (.bl (if neg then !o.isSome else o.isSome)),M)
    |none=>none
  |_=>none
theorem zK5 {o:Option D} {ov:Option V} (h:zVs L H o ov):ov.isSome=o.isSome:=by
  cases o with
  | none => have h' : ov = none := h
            rw[h'];rfl
  |some d=>obtain ⟨v,rfl,_⟩:=h;rfl
theorem zSz {K:Yb}:zC3 K (λy x H Q=>∃ a o,x=.ref a/\zDh H a y o/\Q (.bl o.isSome) H) (zBV false):=by
 intro L M M' H H0 x y d v w Q c rx ry hk q;unfold zBV at hk;split at hk
 .rename_i k;split at hk
  .rename_i o e1;cases hk;obtain ⟨a,ov,rfl,h1,h2⟩:=zE0 c ry rx e1;refine ⟨a,ov,rfl,h1,?_⟩;rw[zK5 h2];exact q L H _ (.refl L H) c (zBx (L:=L) (H:=H))
  .cases hk
 .cases hk
theorem zLz {K:Yb}:zC3 K (λy x H Q=>∃ a o,x=.ref a/\zDh H a y o/\Q (.bl (!o.isSome)) H) (zBV true):=by
 intro L M M' H H0 x y d v w Q c rx ry hk q;unfold zBV at hk;split at hk
 .rename_i k;split at hk
  .rename_i o e1;cases hk;obtain ⟨a,ov,rfl,h1,h2⟩:=zE0 c ry rx e1;refine ⟨a,ov,rfl,h1,?_⟩;rw[zK5 h2];exact q L H _ (.refl L H) c (zBx (L:=L) (H:=H))
  .cases hk
 .cases hk
theorem zUc (hu:X.A.units+1<cLine) (h1:QE X a f) (h2:QE X b g) (hm:behindInMarks .In b=false:=by rfl):QT X (.Compare a [.In] [b] pos) (tst (fOp (zBV false) f g)):=.mk <| PT.imp (zP3 (zTT hu h1.un h2.un) hm) λ_ _ _ h=>zEa (λ_ _ _ z=>zEL zSz z) (zFd h)
theorem zOm (hu:X.A.units+1<cLine) (h1:QE X a f) (h2:QE X b g) (hm:behindInMarks .NotIn b=false:=by rfl):QT X (.Compare a [.NotIn] [b] pos) (tst (fOp (zBV true) f g)):=.mk <| PT.imp (zP3 (zNx hu h1.un h2.un) hm) λ_ _ _ h=>zEa (λ_ _ _ z=>zEL zLz z) (zFd h)
def zCL (fv fo fi:FE):FS:=λσ M=>match toD fv σ M with
 |some (v,M1)=>match toD fo σ M1 with
  |some (.ref n,M2)=>match toD fi σ M2 with
   |some (k,M3)=>match zD7 M3 n k v with
    |some M4=>some (.nx,σ,M4)
    |none=>none
   |none=>none
  |_=>none
 |none=>none
theorem zUj (hu:X.A.units+1<cLine) (hv:QE X value f) (ho:QE X o g) (hi:QE X i h) (hs:swapsWith value (some (.Subscript o i pos')) pos.line X.env=pure false:=by rfl):QS X (.Assign [.Subscript o i pos'] value pos) (zCL f g h) :=
 .mk <| PS.imp (zSw hu (zBg ho).un (zBg hi).un (zBg hv).un hs) λE τ H zz=>by
  obtain ⟨L,σ,M,out,σ',M',c,rs,hf,q⟩:=zz;unfold zCL at hf;split at hf
  .rename_i v M1 e1;split at hf
   .rename_i n M2 e2;split at hf
    .rename_i k M3 e3;split at hf
     .rename_i M4 e4;cases hf;refine ⟨L,σ,M,_,_,c,rs,e1,λL1 H1 u s1 c1 r1=>⟨L1,σ,M1,_,_,c1,rs.stp s1,e2,λL2 H2 y s2 c2 r2=>⟨L2,σ,M2,_,_,c2,(rs.stp s1).stp s2,e3,λL3 H3 z s3 c3 r3=>?_⟩⟩⟩;unfold Rep at r2;obtain ⟨a,rfl,ea⟩:=r2;have ea3:L3[n]?=some a:=by obtain ⟨N,hN⟩:=s3.pre;rw[hN];exact zB1 ea
      obtain ⟨H4,h1,h2,h3⟩:=zKp c3 ea3 r3 ((r1.stp s2).stp s3) e4;exact ⟨a,H4,rfl,h1,q L3 H4 (((s1.trans s2).trans s3).trans h3) h2 τ ((((rs.stp s1).stp s2).stp s3).stp h3)⟩
     .cases hf
    .cases hf
   .cases hf
  .cases hf
def zBv (fo fi fx:FE):FE:=λσ M=>match toD fo σ M with
 |some (.ref n,M1)=>match M1[n]? with
  |some (.dict _)|some (.dicT _)=>match toD fi σ M1 with
   |some (k,M2)=>match toD fx σ M2 with
    |some (x,M3)=>match zDN M3 (.dat (.ref n)) k with
     |some o=>some (.dat (o.getD x),M3)
     |none=>none
    |none=>none
   |none=>none
  |_=>none
 |_=>none
theorem zRz (hu:X.A.units+1<cLine) (ho:QE X o f) (hi:QE X i g) (hx:QE X e h) (m:M2 X o "get" apos i e cpos):QE X (.Call (.Attribute o "get" apos) [i,e] [] cpos) (zBv f g h) :=
 .mk <| PE.imp (zQY hu (zBg ho).un (zBg hi).un (zBg hx).un m) λτ H Q zz=>by
  obtain ⟨L,σ,M,d,M',c,rs,hf,q⟩:=zz
  have key:∀ n M1,toD f σ M=some (.ref n,M1)->(∃ kvs,M1[n]?=some (.dict kvs)\/M1[n]?=some (.dicT kvs))->(match toD g σ M1 with
   |some (k,M2)=>match toD h σ M2 with
    |some (x,M3)=>match zDN M3 (.dat (.ref n)) k with
     |some o=>some (EV.dat (o.getD x),M3)
     |none=>none
    |none=>none
   |none=>none)=some (d,M')->zQp (trD X.K (toD f)) (trD X.K (toD g)) (trD X.K (toD h)) τ H Q:=by
   intro n M1 e1 hd hf;split at hf
   .rename_i k M2 e2;split at hf
    .rename_i x M3 e3;split at hf
     .rename_i ov e4;cases hf;refine ⟨L,σ,M,_,_,c,rs,e1,λL1 H1 u s1 c1 r1=>?_⟩;unfold Rep at r1;obtain ⟨a,rfl,ea⟩:=r1;refine ⟨a,rfl,?_,L1,σ,M1,_,_,c1,rs.stp s1,e2,λL2 H2 y s2 c2 r2=>⟨L2,σ,M2,_,_,c2,(rs.stp s1).stp s2,e3,λL3 H3 z s3 c3 r3=>?_⟩⟩
      .obtain ⟨kvs,hk|hk⟩:=hd
       .obtain ⟨vs,e5,_⟩:=c1.obj n a _ ea hk;exact .inl ⟨vs,.inl e5⟩
       .obtain ⟨vs,e5,_⟩:=c1.obj n a _ ea hk;exact .inr ⟨vs,.inl e5⟩
      .have ra:zr H L3 H3 (.dat (.ref n)) (.ref a):=by
        unfold zr Rep;exact ⟨a,rfl,by obtain ⟨N,hN⟩:=(s2.trans s3).pre;rw[hN];exact zB1 ea⟩
       obtain ⟨a',o',e6,h1,h2⟩:=zE0 c3 ra (r2.stp s3) e4;cases e6;refine ⟨o',h1,?_⟩;cases ov with
       |none=>
        have h':o'=none:=h2;subst h';exact q L3 H3 _ ((s1.trans s2).trans s3) c3 r3
       |some dd=>
        obtain ⟨v,rfl,rv⟩:=h2;exact q L3 H3 _ ((s1.trans s2).trans s3) c3 rv
     .cases hf
    .cases hf
   .cases hf
  unfold zBv at hf;split at hf
  .rename_i n M1 e1;split at hf
   .rename_i kvs e5;exact key n M1 e1 ⟨kvs,.inl e5⟩ hf
   .rename_i kvs e5;exact key n M1 e1 ⟨kvs,.inr e5⟩ hf
   .cases hf
  .cases hf
end
end L3
namespace L2
open PySem PySem.Spec PyProof.Rows
section
theorem zDF {kx vx target iter ifs rest scope pos it acc env}
  (h0:codeAny (model prog w) A (.compLoop (.DictComp kx vx (⟨target,iter,ifs,0⟩::rest) scope pos) 0 it acc env) R s)
  (h:wpAny (model prog w) A (pyIter it) (λit' s'=>codeAny (model prog w) A (.compLoop (.DictComp kx vx (⟨target,iter,ifs,0⟩::rest) scope pos) 0 it' acc env) R s')
   (notedBy (model prog w) A env λx s'=>R (.error x) s') s) :
  codeAny (model prog w) A (.compStart (.DictComp kx vx (⟨target,iter,ifs,0⟩::rest) scope pos) 0 it acc env) R s:=by
 refine codeAny_of_tree ?_;show wpAny _ _ ((compStart (.DictComp kx vx (⟨target,iter,ifs,0⟩::rest) scope pos) 0 it acc env).onRaise (λx=>do noteFrame x env;standAt theWindowsPlace)) _ _ s;refine wpAny_notedAt ?_;unfold compStart;refine zWl (wpAny_askSetting (wpAny_ite ?_));split
 .first
   |exact zWl (zWn (zWn (And.intro rfl h0)))
   |exact zWn (And.intro rfl h0)
 .first
   |exact zWl (zX8 (zWl (zXj (zWl (zXH h (λit' s' h'=>zWn (And.intro rfl h')) λ_ _ x=>x)))))
   | (refine zWl (zX8 ?_);show wpAny _ _ (standAt iter.pos >>= _) _ _ s;exact zWl (zXj (zWl (zXH h (λit' s' h'=>zWn (And.intro rfl h')) λ_ _ x=>x))))
end
section
theorem Inv.trackAt (I:Inv X zB σ H s) (ho:s.heap.get? D=some o) (hn:H D=none) (h0:X.s₀.heap.objs.size<=D) (hL:D≠X.env.locals) (hc:∀ x c,X.env.cells.lookup x=some c->c≠D) (hp:∀ p∈X.pn++zB,p.1≠D)
  (new:zAs X.prog X.w (upd H D u) s.heap D u):Inv X zB σ (upd H D u) s:=by
 have un:∀ b v,H b=some v->upd H D u b=some v:=λb v e=>by rw[zZ (zAC e hn)];exact e
 have e0:s={ s with heap:=s.heap,gens:=s.gens,drawn:=s.drawn,toks:=s.toks }:=by cases s;rfl
 rw[e0];refine I.step (g':=s.gens) (d':=s.drawn) (ch:=[D]) (λb hb=>?_) (λb v _ _ _ e _=>e) (λb v _ _ _ e _=>⟨v.slots,e⟩) (λb v hb e n=>?_) (λb v _ e=>⟨v,e⟩) (λb xs e=>un b _ e) (λb p v e=>un b _ e) (λb ps e=>⟨#[],by rw[un b _ e];simp⟩) (λm hm=>hm) (λb v e=>?_) I.bare
 .have:b=D:=by simpa using hb
  subst this;exact ⟨.inr h0,hL,hc,hp⟩
 .rw[zZ (λz=>hb (by simp[z]))];exact n
 .by_cases hb:b=D
  .subst hb;rw[zAD]at e;cases e;exact new
  .rw[zZ hb]at e;exact (I.hok b v e).stay (λc v hc q=>q) (λc q=>un c _ q) λc xs q=>un c _ q
theorem zN2 (hu:A.units+1<cLine) (I:Inv X zB σ H s) (g:zF8 H a y v H') (ry:zt y u) (rv:zt v r) (h:∀ s',Inv X zB σ H' s'->Heap.SameBut a s.heap s'.heap->Q () s') :
  wpAny (model X.prog X.w) A (dictSet a u r) Q E s:=by
 rcases g with ⟨kvs,k,e,ey,l,eH⟩|⟨kvs,k,b,e,ey,eb,l,eH⟩
 .subst ey eH;obtain ⟨z,hd,vs,rel,dd⟩:=zQZ I.hok e;have hz:vs.length<=sizeLine:=by rw[<-rel.length];exact z
  have hl:(zCq kvs k v).length<=sizeLine:=by have:=zB5 kvs k v;omega
  refine wpAny_dictSet_pairs (hsz:=hz) (zF0 ry) dd λh' dd' hs=>h _ ?_ hs;have he:∃ q,h'.get? a=some q:=let ⟨q,_,_,hq,_⟩:=dd';⟨q,hq⟩;exact zFM I (by rw[e];exact True.intro) hs he (zMW hl hd (rel.put k rv) dd')
 .subst ey eH;cases (show u=Value.ref b from ry);obtain ⟨z,hd,xs,rel,dd⟩:=zS9 I.hok e;have hz:xs.length<=sizeLine:=by rw[<-Paired.length rel];exact z
  have hl:(zCq kvs k v).length<=sizeLine:=by have:=zB5 kvs k v;omega
  refine wpAny_dictSet_heap (hsz:=hz) (show (tupleKind (zAW X.prog X.w)).room A from Nat.lt_of_succ_lt hu) (zEd I.hok eb) dd λh' dd' hs=>h _ ?_ hs;obtain ⟨q,es,ep,hq,h2,h3,h4,_,h5⟩:=dd';refine zFM I (by rw[e];exact True.intro) hs ⟨q,hq⟩ ⟨hl,hd,_,(rel.put k eb rv).keeps λc ys ec=>?_,q,es,ep,hq,h2,h3,h4,h5⟩;rw[zZ (zIT ec e (λz=>nomatch z))];exact ec
end
def zEg (isT:Bool):HO:=if isT then .dT [] else .dK []
abbrev zCM:Obj:={ cls:=.type "dict", data:=.dict #[] }
section
variable {pos:Pos}
 {own:Yj} {g:TG} {tc:TT} {tk tv:TE} {E:Yc} {isT:Bool}
theorem zDn (hu:X.A.units+1<cLine) (C:CompIn X scope own) (hcalm:X.calm=true) (I:Inv X zB σ H s) (T:Turn X.prog X.w X.K tg J fp it tn) (st:tn 0 s.heap) (hf:∀ b∈fp,zCI X zB H b)
  (c1:∀ x c,cl.lookup x=some c->X.env.cells.lookup x=some c) (c2:∀ y∈scope.names,y.2=.free->(cl.lookup y.1).isSome=true)
  (hg:PG (zN X zB scope cl s H fp) tg g) (hi:zGB (zN X zB scope cl s H fp) ifs tc) (hk:PE (zN X zB scope cl s H fp) kx tk) (hv:PE (zN X zB scope cl s H fp) vx tv)
  {RR:Value->Addr->Result->Shared->Prop} {QQ:Hp->Prop} {W:Nat->Nat->Hp->Prop} {m0:Nat} (w0:W 0 m0 (upd H s.heap.objs.size (zEg isT)))
  (turn:∀ i m H,W i m H->(J.stop i H/\QQ H) \/
   (J.go i H /\ ∀ x H',J.yld i H x H'->g x (clr own σ) H' λσ2 H2=>Ext (clr own σ) σ2/\tc σ2 H2 λb H3=>
    if b=true then tk σ2 H3 λk H4=>tv σ2 H4 λv H5=>∃ H6 m',zF8 H5 s.heap.objs.size k v H6/\m'<m/\W (i+1) m' H6 else ∃ m',m'<m/\W (i+1) m' H3))
  (fin:∀ σc H' s',Inv (zN X zB scope cl s H fp) [] σc H' s'->QQ H'->RR (.ref s.heap.objs.size) (s.heap.objs.size+1) (.ok .next) s') :
  wpAny (model X.prog X.w) X.A newDict (λacc s₃=>wpAny (model X.prog X.w) X.A (newFunctionEnv scope X.env.globals cl [] X.env.qual none .none (some X.env)) (λcenv s₄=>
   codeAny (model X.prog X.w) X.A (.compStart (.DictComp kx vx [⟨tg,iter,ifs,0⟩] scope pos) 0 (.ref it) acc { cenv with scope:=relabel scope X.env }) (RR acc cenv.locals) s₄) E s₃) E s:=by
 have ob:∀ b:Nat,b∈fp->b<s.heap.objs.size:=λb hb=>let ⟨_,e,_⟩:=T.obj 0 _ st b hb;zWw e;refine zXE (zC1 ?_);have sz1:(s.heap.push zCM).objs.size=s.heap.objs.size+1:=zXR ..;have I4:=zE9 (X:=X) (zB:=zB) (σ:=σ) (σc:=clr own σ) (H:=H) (s:=s) (scope:=scope) (cl:=cl) (fp:=fp) C.sc I hf ob c1 c2 (zBc own σ) (λi x v h1 h2 h3=>by
  obtain ⟨a,b⟩:=zC0 own σ i v h2;rcases C.nm i x h1 with z|z|z
  .exact absurd z b
  .exact absurd (zCP x z) h3
  .exact ⟨z,a⟩) zCM (by intro v z;cases z) rfl rfl
 have st4:tn 0 (pushCells ((s.heap.push zCM).push { cls:=.type "dict", data:=.dict #[] }) scope.names):=T.keep 0 _ _ st λb _ o e=>pushCells_keeps _ _ b o (zWm _ (zWm _ e));unfold newEnv;rw[sz1];have hDfp:s.heap.objs.size∉fp:=λz=>zXT _ (ob _ z);obtain ⟨pD,nD,neD,nfD,dD⟩:=I4.pin (s.heap.objs.size,zCM) (by simp);have hcD:∀ x c,(zN X zB scope cl s H fp).env.cells.lookup x=some c->c≠s.heap.objs.size:=λx c e z=>by
  obtain ⟨v,o,ho,hd⟩:=I4.cell x c e;rw[z,pD]at ho;cases ho;cases hd
 have hpn:∀ p∈(zN X zB scope cl s H fp).pn++[],p.1≠s.heap.objs.size:=λp hp=>by
  rw[zXV]at hp;have hp':p∈X.pn++zB:=hp;exact zW6 (zWw (I.pin p hp').1)
 have big:sysModules<s.heap.objs.size:=I.big;have hsm:(s.heap.objs.size==sysModules)=false:=by rw[beq_eq_false_iff_ne];exact zYG big
 have I5:Inv (zN X zB scope cl s H fp) [] (clr own σ) (upd H s.heap.objs.size (zEg isT)) { s with heap:=pushCells ((s.heap.push zCM).push { cls:=.type "dict", data:=.dict #[] }) scope.names }:=by
  have I4':Inv (zN X zB scope cl s H fp) [] (clr own σ) H { s with heap:=pushCells ((s.heap.push zCM).push { cls:=.type "dict", data:=.dict #[] }) scope.names }:=I4.pins_of λp hp=>nomatch hp;refine I4'.trackAt pD nD (zWr _) neD hcD hpn ?_;cases isT with
  |false=>exact ⟨zXX _,hsm,[],.nil,zCM,#[],0,pD,⟨rfl,rfl,rfl⟩,rfl,λ_ he=>by simp at he,.nil,List.nodup_nil⟩
  |true=>exact ⟨zXX _,hsm,[],.nil,zCM,#[],0,pD,⟨rfl,rfl,rfl⟩,rfl,rfl,List.nodup_nil⟩
 have fpk:∀ {H':Hp},(∀ b∈fp,H' b=none) -> ∀ b∈fp,zCI (zN X zB scope cl s H fp) [] H' b:=λ{H'} hn b hb=>
  ⟨hn b hb,(I4.ok.exf b hb).1,I4.ok.exfs b hb,.inl hb,(I4.ok.exf b hb).2,λp hq=>by
   rw[zXV]at hq;exact (hf b hb).2.2.2.2.2 p hq⟩
 have loop:codeAny (model X.prog X.w) X.A (.compLoop (.DictComp kx vx [⟨tg,iter,ifs,0⟩] scope pos) 0 (.ref it) (.ref s.heap.objs.size) (zN X zB scope cl s H fp).env) (RR (.ref s.heap.objs.size) (s.heap.objs.size+1))
   { s with heap:=pushCells ((s.heap.push zCM).push { cls:=.type "dict", data:=.dict #[] }) scope.names }:=by
  refine zH1 (λn s'=>∃ i H',Inv (zN X zB scope cl s H fp) [] (clr own σ) H' s'/\tn i s'.heap/\(∀ b∈fp,H' b=none)/\W i n H') ?_ m0
   ⟨0,_,I5,st4,λb hb=>by rw[zZ (show b≠s.heap.objs.size from λz=>hDfp (by rw[<-z];exact hb))];exact (hf b hb).1,w0⟩
  rintro n s5 ⟨i,H5,J5,st5,f5,w5⟩;rcases turn i n H5 w5 with ⟨stop,qq⟩|⟨go,step⟩
  .refine thn (T.done (zN X zB scope cl s H fp) rfl rfl rfl hcalm i _ s5 _ H5 _ J5 (fpk f5) st5 stop) λr s6 ⟨hr,I6⟩=>?_;subst hr;exact fin _ H5 s6 I6 qq
  .refine thn (T.item (zN X zB scope cl s H fp) rfl rfl rfl hcalm i _ s5 _ H5 _ J5 (fpk f5) st5 go) λr s6 ⟨u,hr,h6⟩=>?_;subst hr;refine thn h6 λ_ s7 ⟨x,H7,I7,r7,y7,st7,f7⟩=>?_;have I7':=I7.pinned (fpk f7) (T.obj _ _ st7);refine thn (hg _ s7 _ H7 x u _ I7' r7 (step x H7 y7)) λ_ s8 ⟨σ8,H8,I8,x8,q8⟩=>?_;refine thn (hi _ s8 σ8 H8 _ I8 q8) λok s9 ⟨H9,I9,q9⟩=>?_;have back:∀ {s':Yl} {Hx:Hp},Inv (zN X zB scope cl s H fp) ([]++zC9 fp s7.heap) σ8 Hx s'->tn (i+1) s'.heap /\ ∀ b∈fp,Hx b=none:=λ{s' Hx} Ix=>
    ⟨T.keep _ _ _ st7 λb hb o e=>(Ix.pin (b,o) (zW5 _ (zW5 _ (zAY hb e)))).1,λb hb=>by
     obtain ⟨o,e,d⟩:=T.obj _ _ st7 b hb;exact (Ix.pin (b,o) (zW5 _ (zW5 _ (zAY hb e)))).2.1⟩
   cases ok with
   |false=>
    obtain ⟨m',hm,w'⟩:=q9;obtain ⟨b1,b2⟩:=back I9;exact ⟨m',hm,i+1,H9,(I9.weak (by rw[x8.1]) x8.2).unpinned,b1,b2,w'⟩
   |true=>
    refine thn (hk _ s9 σ8 H9 _ I9 q9) λkv s10 ⟨y,H10,I10,r10,q10⟩=>?_;refine thn (hv _ s10 σ8 H10 _ I10 q10) λvv s11 ⟨z,H11,I11,r11,H12,m',hp,hm,w'⟩=>?_;refine zN2 (X:=zN X zB scope cl s H fp) hu I11 hp r10 r11 λs12 I12 hs=>?_;obtain ⟨b1,b2⟩:=back I12;exact ⟨m',hm,i+1,H12,(I12.weak (by rw[x8.1]) x8.2).unpinned,b1,b2,w'⟩
 exact zDF loop (T.self _ 0 _ _ _ st4 loop)
theorem zEX (I:Inv X zB σ H s) (hf:∀ b∈fp,zCI X zB H b)
  (Ic:Inv (zN X zB scope cl s H fp) [] σc H' s') (hs:Heap.SameBut (s.heap.objs.size+1) s'.heap h'):Inv X zB σ H' { s' with heap:=h' }:=by
 have nC:H' (s.heap.objs.size+1)=none:=Ic.free;have lt1:∀ {b:Yt} {o:Obj},s.heap.get? b=some o->b≠s.heap.objs.size+1:=λe=>zW6 (zXa (zWw e));have tr:∀ b u,H' b=some u->b≠s.heap.objs.size+1:=λb u e z=>by rw[z,nC]at e;cases e
 have B:=Ic.base;have un:Un (frs X.stack) fp H H' s.heap h':=by
  refine ⟨λb o e q hb hx=>hs.extBut b o (lt1 e) (B.keep b o e q hb hx),λb o e q hb hx=>?_,λb o e q hx=>B.free b o e q hx,λb o e hx=>?_,λb xs e=>B.tups b xs e,λb o xs e=>B.frzs b o xs e,λb ps e=>B.tbls b ps e⟩
  .obtain ⟨sl,e1⟩:=B.slot b o e q hb hx;exact ⟨sl,hs.extBut b _ (lt1 e) e1⟩
  .obtain ⟨o',e1⟩:=B.there b o e hx;exact ⟨o',hs.extBut b _ (lt1 e) e1⟩
 have hok:HOk X.prog X.w H' h':=λb u e=>by
  refine (Ic.hok b u e).stay (λc v hc q=>hs.extBut c v ?_ q) (λc q=>q) λc xs q=>q;rcases hc with z|z
  .rw[z];exact tr b u e
  .exact tr c _ z
 exact I.call' (s':={ s' with heap:=h' }) (ch:=fp) Ic.os un hok Ic.bare λb hb=>⟨(hf b hb).2.2.2.1,(hf b hb).2.1,(hf b hb).2.2.2.2.1,(hf b hb).2.2.2.2.2⟩
end
def zFT (isT:Bool) (own:Yj) (wi:TI) (g:TG) (tc:TT) (tk tv:TE):TE:=λσ H Q=>wi σ H λJ H1=>∀ D,H1 D=none -> ∃ W:Nat->Nat->Hp->Prop,(∃ m,W 0 m (upd H1 D (zEg isT))) /\ ∀ i m H,W i m H ->
 (J.stop i H/\Q (.ref D) H) \/
 (J.go i H /\ ∀ x H',J.yld i H x H'->g x (clr own σ) H' λσ2 H2=>Ext (clr own σ) σ2/\tc σ2 H2 λb H3=>
  if b=true then tk σ2 H3 λk H4=>tv σ2 H4 λv H5=>∃ H6 m',zF8 H5 D k v H6/\m'<m/\W (i+1) m' H6 else ∃ m',m'<m/\W (i+1) m' H3)
section
theorem zK0 (hu:X.A.units+1<cLine) (C:CompIn X scope own) (hcalm:X.calm=true) (hi:PI X tg iter wi) (p:CompParts X scope tg ifs kx g tc tk) (p2:∀ zB cl s H fp,PE (zN X zB scope cl s H fp) vx tv) (hs:∀ x,foldedSetIterable iter X.env x=pure x:=by intro _;rfl) :
  PE X (.DictComp kx vx [⟨tg,iter,ifs,0⟩] scope pos) (zFT isT own wi g tc tk tv):=by
 intro zB s σ H Q I h;obtain ⟨cl,hcl,c1,c2⟩:=C.sc.closure I;rw[arm_eval_DictComp];refine zYf (use:=none) rfl hs hcl C.sc.kind C.sc.names (thn (hi zB s σ H _ I h) λv s1 h1=>thn h1 λitv s2 h2=>?_);obtain ⟨it,fp,tn,J,H2,e,I2,T,st2,f2,hD⟩:=h2;subst e;obtain ⟨W,⟨m0,w0⟩,turn⟩:=hD s2.heap.objs.size (I2.hok.fresh (zWr _));refine zDn hu C hcalm I2 T st2 f2 c1 c2 (p.g _ _ _ _ _) (p.c _ _ _ _ _) (p.e _ _ _ _ _) (p2 _ _ _ _ _) (RR:=λacc C r s'=>compPost (model X.prog X.w) X.A X.xe none (EP X zB σ Q) acc C r s') (QQ:=λH=>Q (.ref s2.heap.objs.size) H) w0 turn ?_;intro σc H' s' Ic qq;obtain ⟨m,hn,_⟩:=Ic.loc;refine ⟨m,hn,λh' hs'=>?_⟩;exact ⟨.ref s2.heap.objs.size,_,zEX I2 f2 Ic hs',rfl,qq⟩
end
end L2
namespace L3
open PySem PySem.Spec PyProof.Rows L2
def zJL (isT:Bool):MO:=if isT then .dicT [] else .dict []
def zCk (g:FG) (tc:FT) (tk tv:FE) (σ:Sd) (n:Nat) (all:List D) (gd:Option (Mem->Prop)):List D->Mem->Option Mem
 |[],M=>open Classical in if zA0 gd all M then some M else none
 |x::r,M=>open Classical in if zA0 gd all M then match g x σ with
   |some σ1=>match tc σ1 M with
    |some (true,M1)=>match toD tk σ1 M1 with
     |some (k,M2)=>match toD tv σ1 M2 with
      |some (v,M3)=>match zD7 M3 n k v with
       |some M4=>zCk g tc tk tv σ n all gd r M4
       |none=>none
      |none=>none
     |none=>none
    |some (false,M1)=>zCk g tc tk tv σ n all gd r M1
    |none=>none
   |none=>none
  else none
def zC4 (isT:Bool) (own:Yj) (fi:FI) (g:FG) (tc:FT) (tk tv:FE):FE:=λσ M=>match fi σ M with
 |some (xs,gd,M1)=>match zCk g tc tk tv (zBM own σ) M1.length xs gd xs (M1++[zJL isT]) with
  |some M2=>some (.dat (.ref M1.length),M2)
  |none=>none
 |none=>none
theorem zGf {K:Yb} {isT:Bool} {own:Yj} {fi:FI} {g:TG} {fg:FG} {tc:FT} {tk tv:FE} (hg:zE1 own g fg) {τ:Sv} {H:Hp} {Q:VK} (h:trE K (zC4 isT own fi fg tc tk tv) τ H Q):zFT isT own (trI K fi) g (trT K tc) (trD K (toD tk)) (trD K (toD tv)) τ H Q:=by
 obtain ⟨L,σ,M,d,Mf,c,rs,hf,q⟩:=h;unfold zC4 at hf;split at hf
 .rename_i xs gd M1 e1;split at hf
  .rename_i M2 e2;cases hf;refine ⟨L,σ,M,_,_,_,c,rs,e1,λL1 H1 J s1 c1 it p hp=>?_⟩;obtain ⟨c0,s0⟩:Cor K (L1++[p]) (M1++[zJL isT]) (upd H1 p (zEg isT))/\Stp L1 H1 (L1++[p]) (upd H1 p (zEg isT)):=by
    cases isT with
    |true=>exact c1.pushO (m:=.dicT []) hp ⟨[],zAD,rfl⟩
    |false=>exact c1.pushO (m:=.dict []) hp ⟨[],zAD,rfl⟩
   have lp0:(L1++[p])[M1.length]?=some p:=by rw[<-c1.len];simp
   refine ⟨λi m H'=>m=xs.length-i/\i<=xs.length /\ ∃ L' M',Stp (L1++[p]) (upd H1 p (zEg isT)) L' H'/\Cor K L' M' H'/\zCk fg tc tk tv (zBM own σ) M1.length xs gd (xs.drop i) M'=some Mf,
    ⟨xs.length,by simp,zXX _,_,_,.refl _ _,c0,by simpa using e2⟩,?_⟩
   rintro i m H' ⟨rfl,hi,L',M',s',c',e'⟩;have lp:L'[M1.length]?=some p:=by obtain ⟨N,hN⟩:=s'.pre;rw[hN];exact zB1 lp0
   by_cases hlt:i<xs.length
   .rw[zCU hlt]at e';unfold zCk at e';split at e'
    .rename_i hgd;obtain ⟨step,_⟩:=it L' H' M' (s0.trans s') c' hgd;obtain ⟨go,yl⟩:=step i xs[i] (zWp hlt);split at e'
     .rename_i σ1 eg;refine .inr ⟨go,λv H2 hy=>?_⟩;obtain ⟨gr,rv⟩:=yl v H2 hy;have s2:Stp (L1++[p]) (upd H1 p (zEg isT)) L' H2:=s'.yld gr;refine hg (zEQ own (((rs.stp s1).stp s0).stp s2)) (.refl _) rv eg λτ2 r2 x2=>⟨x2,?_⟩;split at e'
      .rename_i M3 e3;split at e'
       .rename_i kd M4 e4;split at e'
        .rename_i vd M5 e5;split at e'
         .rename_i M6 e6;refine ⟨L',σ1,M',_,_,c'.grow gr,r2,e3,λL3 H3 s3 c3=>zIE ?_⟩;refine ⟨L3,σ1,M3,_,_,c3,r2.stp s3,e4,λL4 H4 w s4 c4 r4=>?_⟩;refine ⟨L4,σ1,M4,_,_,c4,(r2.stp s3).stp s4,e5,λL5 H5 u s5 c5 r5=>?_⟩;have st:Stp L' H' L5 H5:=(((Stp.grow gr).trans s3).trans s4).trans s5;have lp5:L5[M1.length]?=some p:=by obtain ⟨N,hN⟩:=st.pre;rw[hN];exact zB1 lp
          obtain ⟨H6,h1,h2,h3⟩:=zKp c5 lp5 (r4.stp s5) r5 e6;exact ⟨H6,xs.length-(i+1),h1,by omega,rfl,hlt,L5,M6,(s'.trans st).trans h3,h2,e'⟩
         .cases e'
        .cases e'
       .cases e'
      .rename_i M3 e3;refine ⟨L',σ1,M',_,_,c'.grow gr,r2,e3,λL3 H3 s3 c3=>zHv ?_⟩;have st:Stp L' H' L3 H3:=(Stp.grow gr).trans s3;exact ⟨xs.length-(i+1),by omega,rfl,hlt,L3,M3,s'.trans st,c3,e'⟩
      .cases e'
     .cases e'
    .cases e'
   .have hi':i=xs.length:=by omega
    subst hi';rw[List.drop_length]at e';unfold zCk at e';split at e'
    .rename_i hgd;cases e';obtain ⟨_,stop⟩:=it L' H' _ (s0.trans s') c' hgd;refine .inl ⟨stop,?_⟩;refine q L' _ _ ((s1.trans s0).trans s') c' ?_;unfold zr Rep;exact ⟨p,rfl,lp⟩
    .cases e'
  .cases hf
 .cases hf
section
variable {isT:Bool}
theorem zSr {fi:FI} {g:TG} {fg:FG} {tc:FT} {tk tv:FE} (hu:X.A.units+1<cLine) (hg:zE1 own g fg) (C:CompIn X scope own) (hcalm:X.calm=true) (hi:QI X tg iter fi) (p:QParts X scope tg ifs kx g tc tk) (p2:∀ zB cl s H fp,QE (zN X zB scope cl s H fp) vx tv) (hs:∀ x,foldedSetIterable iter X.env x=pure x:=by intro _;rfl) :
  QE X (.DictComp kx vx [⟨tg,iter,ifs,0⟩] scope pos) (zC4 isT own fi fg tc tk tv) :=
 .mk <| PE.imp (zK0 (isT:=isT) hu C hcalm hi.un p.parts (λ_ _ _ _ _=>(zBg (p2 _ _ _ _ _)).un) hs) λ_ _ _ h=>zGf hg h
end
def zAr:Nat->D->Bool
 |0,.int _=>true
 |n+1,.tup ds=>ds.all (zAr n)
 |_,_=>false
def zB9:Nat->D->D->Bool
 |0,.int i,.int j=>decide (i=j)
 |n+1,.tup xs,.tup ys=>xs.length==ys.length&&(xs.zip ys).all λq=>zB9 n q.1 q.2
 |_,_,_=>false
theorem zFb:∀ (n:Nat) (x:D),zAr n x=true->zB9 n x x=true
 |0,.int i,_=>by simp[zB9]
 |n+1,.tup xs,h=>by
  unfold zAr at h;unfold zB9;rw[zXM]at h;simp only[beq_self_eq_true,Bool.true_and];rw[zXM];intro q hq;have:q.1=q.2:=by
   obtain ⟨i,hi,e⟩:=zYo hq;rw[List.getElem_zip]at e;rw[<-e]
  rw[<-this];exact zFb n _ (h q.1 (List.of_mem_zip hq).1)
 |0,.non,h=>by cases h
 |0,.bl _,h=>by cases h
 |0,.str _,h=>by cases h
 |0,.tup _,h=>by cases h
 |0,.ref _,h=>by cases h
 |n+1,.non,h=>by cases h
 |n+1,.bl _,h=>by cases h
 |n+1,.int _,h=>by cases h
 |n+1,.str _,h=>by cases h
 |n+1,.ref _,h=>by cases h
theorem zQU:∀ (n:Nat) (x y:D) (v:V),zAr n x=true->zAr n y=true->Rep L H x v->Rep L H y v->x=y:=by
 intro n;induction n with
 |zero=>
  intro x y v hx hy rx ry;cases x <;> first|cases hx|skip
  cases y <;> first|cases hy|skip
  unfold Rep at rx ry;rw[rx]at ry;cases ry;rfl
 |succ n ih=>
  intro x y v hx hy rx ry;cases x <;> first|cases hx|skip
  cases y <;> first|cases hy|skip
  rename_i xs ys;unfold zAr at hx hy;rw[zXM]at hx hy;unfold Rep at rx ry;obtain ⟨a,vs,rfl,e,r⟩:=rx;obtain ⟨a',vs',e1,e2,r'⟩:=ry;cases e1;rw[e]at e2;cases e2;congr 1;have hl:xs.length=ys.length:=by rw[<-r.length,r'.length]
  apply List.ext_getElem hl;intro i h1 h2;obtain ⟨u,hu,ru⟩:=r.get (zWp h1);obtain ⟨u',hu',ru'⟩:=r'.get (zWp h2);rw[hu]at hu';cases hu';exact ih _ _ u (hx _ (zXJ h1)) (hy _ (zXJ h2)) ru ru'
section
theorem zNO {xs ys:List D} (f:D->D->Bool) (h:xs.length=ys.length):((List.range xs.length).all λj=>f (xs.getD j .non) (ys.getD j .non))=(xs.zip ys).all λq=>f q.1 q.2:=by
  rw[Bool.eq_iff_iff,zXM,zXM];constructor
  . intro hh q hq
    obtain ⟨i,hi,e⟩:=zYo hq;rw[List.getElem_zip]at e;rw[List.length_zip]at hi;have:=hh i (by simp;omega);rw[<-e];simpa [zWq,show i<xs.length by omega,show i<ys.length by omega] using this
  . intro hh i hi
    have h1:i<xs.length:=by simpa using hi
    have h2:i<ys.length:=by omega
    have hz:i<(xs.zip ys).length:=by rw[List.length_zip];omega
    have:=hh (xs.zip ys)[i] (zXJ hz);rw[List.getElem_zip]at this;simpa [zWq,h1,h2] using this
theorem zOH (I : Inv X zB σ H s) : ∀ (n : Nat) (A : Around) (x y : D) (v w : V) (u u' : Value), A.units + n < cLine -> zAr n x = true -> zAr n y = true -> Rep L H x v -> Rep L H y w -> zt v u -> zt w u' -> SeqAt.EqAt A s u u' (zB9 n x y) := by
  intro n;induction n with
  |zero=>
    intro A x y v w u u' hu hx hy rx ry ru ru';cases x <;> first|cases hx|skip
    cases y <;> first|cases hy|skip
    unfold Rep at rx ry;subst rx;subst ry;obtain ⟨t,rfl⟩:=ru;obtain ⟨t',rfl⟩:=ru';have:=SeqAt.EqAt.int_int (A:=A) (s:=s) ‹Int› t ‹Int› t';unfold zB9;rename_i i j;have h:=SeqAt.EqAt.int_int (A:=A) (s:=s) i t j t';have e:(i==j)=decide (i=j):=by by_cases q:i=j <;> simp[q]
    rw[e]at h;exact h
  | succ n ih =>
    intro A x y v w u u' hu hx hy rx ry ru ru';cases x <;> first|cases hx|skip
    cases y <;> first|cases hy|skip
    rename_i xs ys;have hx':=hx;have hy':=hy;have rx':=rx;have ry':=ry;unfold zAr at hx hy;rw[zXM]at hx hy;unfold Rep at rx ry;obtain ⟨a,vs,rfl,e,r⟩:=rx;obtain ⟨b,ws,rfl,e2,r2⟩:=ry;cases ru;cases ru';by_cases hab:a=b
    . subst hab
      have:=zQU (n+1) _ _ _ hx' hy' rx' ry';rw[this,zFb (n+1) _ hy'];exact SeqAt.EqAt.same _
    · refine SeqAt.EqAt.of_refs hab ?_
      obtain ⟨its,rv,p1,_⟩:=I.tuple (.of e);obtain ⟨its2,rv2,p2,_⟩:=I.tuple (.of e2);have l1:its.toArray.size=xs.length:=by rw[zWt,<-rv.length,r.length]
      have l2:its2.toArray.size=ys.length:=by rw[zWt,<-rv2.length,r2.length]
      have key := SeqAt.RcAt.tuples (A := A) (s := s) (l := a) (b := b) (items := its.toArray) (items2 := its2.toArray) (e := fun j => zB9 n (xs.getD j .non) (ys.getD j .non)) p1 p2 (by omega) (fun j h1 h2 => by
        have j1:j<xs.length:=by omega
        have j2:j<ys.length:=by omega
        obtain ⟨q1,g1,t1⟩:=r.get (zWp j1);obtain ⟨q2,g2,t2⟩:=r2.get (zWp j2);obtain ⟨o1,k1,m1⟩:=rv.get g1;obtain ⟨o2,k2,m2⟩:=rv2.get g2
        have z1 : its.toArray[j] = o1 := by have : its.toArray[j]? = some o1 := by simpa using k1
                                            rw[zXW h1]at this;exact zXl this
        have z2 : its2.toArray[j] = o2 := by have : its2.toArray[j]? = some o2 := by simpa using k2
                                             rw[zXW h2]at this;exact zXl this
        rw[z1,z2];have w1:xs.getD j .non=xs[j]:=by simp[zWq,j1]
        have w2:ys.getD j .non=ys[j]:=by simp[zWq,j2]
        rw[w1,w2];exact ih A.in1 _ _ _ _ _ _ (by show A.units+1+n<cLine;omega) (hx _ (zXJ j1)) (hy _ (zXJ j2)) t1 t2 m1 m2)
      have fin:((List.range (min its.toArray.size its2.toArray.size)).all (λj=>zB9 n (xs.getD j .non) (ys.getD j .non))&&its.toArray.size==its2.toArray.size)=zB9 (n+1) (.tup xs) (.tup ys):=by
        rw[l1,l2];show _=(xs.length==ys.length&&(xs.zip ys).all λq=>zB9 n q.1 q.2);by_cases hl:xs.length=ys.length
        .rw[hl,Nat.min_self,<-hl,zNO (zB9 n) hl,Bool.and_comm]
        . have:(xs.length==ys.length)=false:=by simpa using hl
          rw[this];simp
      rw[fin]at key;exact key
end
def nb (neg b:Bool):Bool:=if neg then !b else b
def rTr (neg:Bool) (K:Yb) (n:Nat):R2:=λx y H Q=>∃ (L:Yg) (xs ys:List D),(xs.all (zAr n)=true/\ys.all (zAr n)=true) /\
 ((Rep L H (.tup xs) x/\Rep L H (.tup ys) y) \/ ∃ a b vs ws,x=.ref a/\y=.ref b/\SqL K H a vs/\SqL K H b ws/\zP L H xs vs/\zP L H ys ws)/\Q (.bl (nb neg (zB9 (n+1) (.tup xs) (.tup ys)))) H
section
theorem zHd (I:Inv X zB σ H s) (hu:A.units+n<cLine) (hx:xs.all (zAr n)=true) (hy:ys.all (zAr n)=true) (r:zP L H xs vs) (r2:zP L H ys ws) (rv:za vs its) (rv2:za ws its2) (j:Nat) (h1:j<its.toArray.size) (h2:j<its2.toArray.size) :
  SeqAt.EqAt A s its.toArray[j] its2.toArray[j] (zB9 n (xs.getD j .non) (ys.getD j .non)):=by
 rw[zXM]at hx hy;have l1:its.toArray.size=xs.length:=by rw[zWt,<-rv.length,r.length]
 have l2:its2.toArray.size=ys.length:=by rw[zWt,<-rv2.length,r2.length]
 have j1:j<xs.length:=by omega
 have j2:j<ys.length:=by omega
 obtain ⟨q1,g1,t1⟩:=r.get (zWp j1);obtain ⟨q2,g2,t2⟩:=r2.get (zWp j2);obtain ⟨o1,k1,m1⟩:=rv.get g1;obtain ⟨o2,k2,m2⟩:=rv2.get g2;have z1:its.toArray[j]=o1:=by
  have:its.toArray[j]?=some o1:=by simpa using k1
  rw[zXW h1]at this;exact zXl this
 have z2:its2.toArray[j]=o2:=by
  have:its2.toArray[j]?=some o2:=by simpa using k2
  rw[zXW h2]at this;exact zXl this
 have w1:xs.getD j .non=xs[j]:=by simp[zWq,j1]
 have w2:ys.getD j .non=ys[j]:=by simp[zWq,j2]
 rw[z1,z2,w1,w2];exact zOH I n A _ _ _ _ _ _ hu (hx _ (zXJ j1)) (hy _ (zXJ j2)) t1 t2 m1 m2
theorem zPc (l1:a=xs.length) (l2:b=ys.length):((List.range (min a b)).all (λj=>zB9 n (xs.getD j .non) (ys.getD j .non))&&a==b)=zB9 (n+1) (.tup xs) (.tup ys):=by
 subst l1 l2;show _=(xs.length==ys.length&&(xs.zip ys).all λq=>zB9 n q.1 q.2);by_cases hl:xs.length=ys.length
 .rw[hl,Nat.min_self,<-hl,zNO (zB9 n) hl,Bool.and_comm]
 .have:(xs.length==ys.length)=false:=by simpa using hl
  rw[this];simp
theorem zT8 (hl:xs.length=ys.length):((List.range xs.length).all λj=>zB9 n (xs.getD j .non) (ys.getD j .non))=zB9 (n+1) (.tup xs) (.tup ys):=by
 rw[<-zPc (n:=n) rfl rfl,hl,Nat.min_self];simp
theorem zT5 (hl:xs.length≠ys.length):zB9 (n+1) (.tup xs) (.tup ys)=false:=by
 show (xs.length==ys.length&&_)=false;rw[show (xs.length==ys.length)=false by simpa using hl];rfl
theorem zSZ (n:Nat) (hu:X.A.units+1+n<cLine):OpR X (compareOp .NotEq) (rTr true X.K n):=by
 intro zB s σ H x y v u Q I rx ry h;obtain ⟨L,xs,ys,⟨hx,hy⟩,hc,q⟩:=h;have hu1:X.A.in1.units+n<cLine:=hu;rcases hc with ⟨p1,p2⟩|⟨a,b,vs,ws,rfl,rfl,s1,s2,r1,r2⟩
 .unfold Rep at p1 p2;obtain ⟨a,vs,rfl,e1,r1⟩:=p1;obtain ⟨b,ws,rfl,e2,r2⟩:=p2;cases rx;cases ry;obtain ⟨its,rv,t1,_⟩:=I.tuple (.of e1);obtain ⟨its2,rv2,t2,_⟩:=I.tuple (.of e2);refine SeqAt.RcNeAt.tuples (e:=λj=>zB9 n (xs.getD j .non) (ys.getD j .non)) t1 t2 (by omega) (λj h1 h2=>zHd I hu1 hx hy r1 r2 rv rv2 j h1 h2) _ _ _ _ ?_;rw[zPc (by rw[zWt,<-rv.length,r1.length]) (by rw[zWt,<-rv2.length,r2.length])];exact ⟨.bl _,H,I,rfl,q⟩
 .cases rx;cases ry;obtain ⟨its,rv,t1,_⟩:=I.list s1;obtain ⟨its2,rv2,t2,_⟩:=I.list s2;have l1:its.toArray.size=xs.length:=by rw[zWt,<-rv.length,r1.length]
  have l2:its2.toArray.size=ys.length:=by rw[zWt,<-rv2.length,r2.length]
  by_cases hl:xs.length=ys.length
  .refine SeqAt.RcNeAt.lists (e:=λj=>zB9 n (xs.getD j .non) (ys.getD j .non)) t1.isList t2.isList (by omega) (by omega) (λj h1 h2=>zHd I hu1 hx hy r1 r2 rv rv2 j h1 h2) _ _ _ _ ?_;rw[l1,zT8 hl];exact ⟨.bl _,H,I,rfl,q⟩
  .refine SeqAt.RcNeAt.lists_lengths t1.isList t2.isList (by rw[l1,l2];simpa using hl) (by omega) _ _ _ _ ?_;rw[zT5 hl]at q;exact ⟨.bl true,H,I,rfl,q⟩
end
section
def kTr (neg:Bool) (n:Nat):K2:=λx y M=>match zBp x,zBp y with
 |some xs,some ys=>if xs.all (zAr n)&&ys.all (zAr n) then some (.dat (.bl (nb neg (zB9 (n+1) (.tup xs) (.tup ys)))),M) else none
 |_,_=>match zBW M x,zBW M y with
  |some xs,some ys=>if xs.all (zAr n)&&ys.all (zAr n) then some (.dat (.bl (nb neg (zB9 (n+1) (.tup xs) (.tup ys)))),M) else none
  |_,_=>none
theorem zUf {K:Yb} {neg:Bool} {n:Nat}:zC3 K (rTr neg K n) (kTr neg n):=by
 intro L M M' H H0 x y d v w Q c rx ry hk q;unfold kTr at hk;split at hk
 .rename_i xs ys e1 e2;split at hk
  .rename_i hb;cases hk;rw[zXL]at hb;obtain ⟨p,vs,rfl,h1,r1⟩:=zBD rx e1;obtain ⟨p',ws,rfl,h2,r2⟩:=zBD ry e2;refine ⟨L,xs,ys,hb,.inl ⟨?_,?_⟩,q L H _ (.refl L H) c (zBx (L:=L) (H:=H))⟩
   .unfold Rep;exact ⟨p,vs,rfl,h1,r1⟩
   .unfold Rep;exact ⟨p',ws,rfl,h2,r2⟩
  .cases hk
 .split at hk
  .rename_i xs ys e1 e2;split at hk
   .rename_i hb;cases hk;rw[zXL]at hb;obtain ⟨p,vs,rfl,h1,r1⟩:=zA3 c rx e1;obtain ⟨p',ws,rfl,h2,r2⟩:=zA3 c ry e2;exact ⟨L,xs,ys,hb,.inr ⟨p,p',vs,ws,rfl,rfl,.inl h1,.inl h2,r1,r2⟩,q L H _ (.refl L H) c (zBx (L:=L) (H:=H))⟩
   .cases hk
  .cases hk
theorem zRh (n:Nat) (hu:X.A.units+1+n<cLine) (h1:QE X a f) (h2:QE X b g):QT X (.Compare a [.NotEq] [b] pos) (tst (fOp (kTr true n) f g)):=zC7 zUf (zSZ n hu) h1 h2 (zEE _)
theorem zV4 (n:Nat) (hn:n<=8) (hr:Room k A):A.units+1+n<cLine:=by
 have:=hr.units;omega
def zFv (f g:FE):FE:=λσ M=>match toD f σ M with
 |some (.tup ds,M1)=>match zAd ds with
  |some xs=>match toD g σ M1 with
   |some (.int i,M2)=>if i∈xs then some (.dat (.int (xs.idxOf i)),M2) else none
   |_=>none
  |none=>none
 |_=>none
theorem zSD (h:QE X o f) (hg:QE X e g) (hbase:attributeBase o "index" X.env (eval o X.env)=eval o X.env:=by rfl)
  (hfew:((backTo cpos (starEach [e] X.env)).all (λx=> !x.1)&&(backToKw cpos (keywordEach [] X.env)).all (λx=>x.1.isSome)&&decide ([e].length+([]:List Keyword).length+(if ([]:List Keyword).isEmpty then 0 else 1)<30))=true:=by rfl)
  (hline:(apos.endLine==cpos.line)=true:=by rfl) (hs:starEach [e] X.env=(false,eval e X.env)::starEach [] X.env:=by rfl) (hplain:(backTo cpos (starEach [] X.env)).any (·.1)=false:=by rfl) :
  QE X (.Call (.Attribute o "index" apos) [e] [] cpos) (zFv f g) :=
 .mk <| PE.imp (zKs PySem.F.plainAttrs_tuple PySem.F.slot_tuple_index PySem.F.type_tuple_index zRG (zBg h).un (zM1 (zBg hg) zQH hs).un hbase hfew hline hs hplain) λτ H Q zz=>by
  obtain ⟨L,σ,M,d,M',c,rs,hf,q⟩:=zz;unfold zFv at hf;split at hf
  .rename_i ds M1 e1;split at hf
   .rename_i xs e2;split at hf
    .rename_i i Mq e3;split at hf
     .rename_i hi;cases hf;refine ⟨L,σ,M,_,_,c,rs,e1,λL1 H1 u s1 c1 r1=>?_⟩;unfold Rep at r1;obtain ⟨p,vs,rfl,h1,r⟩:=r1;have ev:=zBa e2 r;subst ev;refine ⟨.inr (.inl ⟨rfl,.inr ⟨_,h1⟩⟩),L1,σ,M1,_,_,c1,rs.stp s1,(show zD (toD g) zF σ M1=some ([D.int i],M') by unfold zD zF;rw[e3]),λL2 H2 ws s2 c2 r2=>?_⟩;have ew:=zEN r2;subst ew;exact ⟨p,i,xs,rfl,rfl,.of (s2.tup p _ h1),hi,q L2 H2 _ (s1.trans s2) c2 (zAp (L:=L2) (H:=H2))⟩
     .cases hf
    .cases hf
   .cases hf
  .cases hf
end
open Builtin
theorem zHg:fillsNumberSlot (.type "tuple") "mul" = pure false :=
 PySem.fillsNumberSlot_seq (id := "tuple.__mul__") (r:=some (.builtin "tuple.__rmul__")) F.slot_tuple_mul.lookup (by decide +kernel) F.slot_tuple_rmul.lookup (by decide +kernel)
theorem zMN:seqRepeat? (.type "tuple")=pure (some (.builtin "tuple.__mul__")):=by
 unfold seqRepeat?;rw[PySem.seqSlot_of (T := "tuple") (name := "__mul__") (id := "tuple.__mul__") F.slot_tuple_mul.lookup (by decide +kernel),PySem.seqSlot_of (T := "tuple") (name := "__rmul__") (id := "tuple.__rmul__") F.slot_tuple_rmul.lookup (by decide +kernel)];rfl
theorem zPs (a:Int) (t:Tok) (l:Yt) (items:Yp) (n:Nat) (dd:Option Addr) (sl:Array (Option Value)) :
  Meets (Builtin.«int.__rmul__» ⟨[.int a t,.ref l],[]⟩) (λ_ R s=>s.heap.get? l=some { cls:=.type "tuple", dict:=dd,data:=.seq items n,slots:=sl }/\R (.ok (.ret Value.notImplemented)) s) :=
 .of_wp λprog w A R s h=>by obtain ⟨hp,g,d,tk,os⟩:=s;obtain ⟨hl,h⟩:=h;wp_walk using wpAny_loadPart' hl;exact ⟨_,rfl,h⟩
theorem zLG (l:Yt) (items:Yp) (n:Nat) (dd:Option Addr) (sl:Array (Option Value)) (u:Tok) :
  Meets (Builtin.«tuple.__mul__» ⟨[.ref l,.int 1 u],[]⟩) (λ_ R s=>s.heap.get? l=some { cls:=.type "tuple", dict:=dd,data:=.seq items n,slots:=sl }/\R (.ok (.ret (.ref l))) s) :=
 .of_wp λprog w A R s h=>by
  obtain ⟨hp,g,d,tk,os⟩:=s;obtain ⟨hl,h⟩:=h;have f1:=AutoSeq1.idx_int;wp_walk using wpAny_loadPart' hl;exact ⟨_,rfl,h⟩
theorem zKz (l:Yt) (items:Yp) (n:Nat) (dd:Option Addr) (sl:Array (Option Value)) (x:Int) (u:Tok) (h0:¬ (decide (x < -(2 ^ 63))||decide (x≥2 ^ 63))=true) (h1:¬ (items.isEmpty||x==1)=true) (h2:¬ (decide (x<=0)||items.isEmpty)=true) (h3:¬ (items.size:Int)*x>(2 ^ 63-1) / 8) (h4:¬ Builtin.Tuple.tupleTooMany (items.size*x)=true)
  (hsz:(List.foldl (λx1 x2=>x1++x2) #[] (List.replicate x.toNat items)).size<=sizeLine) :
  Meets (Builtin.«tuple.__mul__» ⟨[.ref l,.int x u],[]⟩) (λ_ R s=>s.heap.get? l=some { cls:=.type "tuple", dict:=dd,data:=.seq items n,slots:=sl }/\R (.ok (.ret (Value.ref s.heap.objs.size))) { s with heap:=s.heap.push { cls:=Value.type "tuple", data:=Data.seq (List.foldl (λx1 x2=>x1++x2) #[] (List.replicate x.toNat items)) },toks:=s.toks }) :=
 .of_wp λprog w A R s h=>by
  obtain ⟨hp,g,d,tk,os⟩:=s;obtain ⟨hl,h⟩:=h;have f1:=AutoSeq1.idx_int;wp_walk using wpAny_loadPart' hl;rw[zW3 h0];wp_walk using wpAny_loadPart' hl;rw[zW3 h3];wp_walk using wpAny_loadPart' hl;all_goals first|exact ⟨_,rfl,h⟩|skip
section
def zS6 (K:Yb):R2:=λx y H Q=>∃ a k xs,x=.ref a/\y=.int k/\SqT K H a xs/\xs≠[]/\1<=k/\xs.length*k.toNat<=sizeLine /\
 (k=1->Q (.ref a) H)/\(k≠1 -> ∀ p,H p=none->Q (.ref p) (upd H p (.tup (List.replicate k.toNat xs).flatten)))
theorem zSc:OpR X (binaryOp .Mult) (zS6 X.K):=by
 intro zB s σ H x y v u Q I rx ry h;obtain ⟨a,k,xs,rfl,rfl,ha,hx,hk,hz,q1,q2⟩:=h;cases rx;obtain ⟨t,rfl⟩:=ry;obtain ⟨its,r,p1,_⟩:=I.tuple ha;obtain ⟨⟨cls,dd,data,sl⟩,ho,hc,n,hd⟩:=id p1;simp only at hc hd;subst hc hd;have hl:its.toArray.size=xs.length:=by rw[zWt];exact r.length.symm
 have hx0:0<xs.length:=List.length_pos_iff.mpr hx;have hkz:k.toNat<=sizeLine:=zXC (Nat.le_mul_of_pos_left _ hx0) hz;have hk63:k<2 ^ 63:=by
  have:(sizeLine:Nat)<2 ^ 62:=by decide
  omega
 refine wpAny_binaryOp_repeat_ref (T := "tuple") (U := "int") (by decide) ⟨_,ho,rfl⟩ (λs'=>typeIs_int s' k t) zHg F.fills_int_mul F.slot_int_rmul zMN F.slot_int_index.lookup
  (call_meets F.slot_int_rmul (typeIs_int s k t) F.entry_int_rmul (F.args_int_rmul_2 _ _) (zPs k t a its.toArray n dd sl)
   ⟨ho,rfl,⟨_,ho,rfl⟩,?_⟩)
 by_cases h1:k=1
 .subst h1;exact call_meets F.slot_tuple_mul ⟨_,ho,rfl⟩ F.entry_tuple_mul (F.args_tuple_mul_2 _ _) (zLG a its.toArray n dd sl t) ⟨ho,⟨.ref a,H,I,rfl,q1 rfl⟩⟩
 .have hnew:List.foldl (λx1 x2=>x1++x2) #[] (List.replicate k.toNat its.toArray)=(List.replicate k.toNat its).flatten.toArray:=by
   have:=zFc its k.toNat [];rw[List.nil_append]at this;exact this
  have hlr:(List.replicate k.toNat its).flatten.length<=sizeLine:=by
   rw[zJX,<-r.length,Nat.mul_comm];exact hz
  have hem:its.toArray.isEmpty=false:=by
   rw[Array.isEmpty_eq_false_iff];intro z;rw[z]at hl;simp at hl;omega
  have hprod:((its.toArray.size:Int))*k=((xs.length*k.toNat:Nat):Int):=by
   rw[hl];rw[Int.natCast_mul,show ((k.toNat:Nat):Int)=k by omega]
  refine call_meets F.slot_tuple_mul ⟨_,ho,rfl⟩ F.entry_tuple_mul (F.args_tuple_mul_2 _ _) (zKz a its.toArray n dd sl k t ?_ ?_ ?_ ?_ ?_ ?_) ⟨ho,?_⟩
  .rw[zXK (by omega),zXK (by omega)];decide
  .rw[hem,Bool.false_or];intro z;exact h1 (eq_of_beq z)
  .rw[hem,Bool.or_false,zXK (by omega)];decide
  .rw[hprod];have:(sizeLine:Nat)<=(2 ^ 63-1) / 8:=by decide
   omega
  .rw[hprod];unfold Builtin.Tuple.tupleTooMany;rw[zXK (by omega)];decide
  .rw[hnew,zWt];exact hlr
  .rw[hnew];refine ⟨.ref s.heap.objs.size,_,I.laid (t':=s.toks) (o:=.tup (List.replicate k.toNat xs).flatten) (λb ob q=>zWm _ q) (zWr _) ?_,rfl,q2 h1 _ (I.hok.fresh (zWr _))⟩;exact ⟨by rw[zJX,Nat.mul_comm];exact hz,_,r.rep k.toNat,zCF.new _ _⟩
theorem zP.rep (h:zP L H ds vs):∀ k:Nat,zP L H (List.replicate k ds).flatten (List.replicate k vs).flatten
 |0=> .nil
 |k+1=>by
  rw[zX4,zX4,zYk,zYk];exact zP.app h (zP.rep h k)
def zJr:K2:=λx y M=>match y with
 |.dat (.int k)=>match zBp x with
  |some xs=>if 0<xs.length/\1<=k/\xs.length*k.toNat<=sizeLine then some (.dat (.tup (List.replicate k.toNat xs).flatten),M) else none
  |none=>match zJ7 M x with
   |some xs=>if -(2 ^ 63)<=k/\k<2 ^ 63/\xs.length*k.toNat<=sizeLine then some (.fl (List.replicate k.toNat xs).flatten,M) else none
   |none=>none
 |_=>none
theorem zSy {K:Yb}:zC3 K (λx y H Q=>zVB x y H Q\/zS6 K x y H Q) zJr:=by
 intro L M M' H H0 x y d v w Q c rx ry hk q;unfold zJr at hk;split at hk
 .rename_i k;have hw:w=.int k:=by unfold zr Rep at ry;exact ry
  subst hw;split at hk
  .rename_i xs e1;split at hk
   .rename_i hz;cases hk;obtain ⟨p1,vs,rfl,h1,r1⟩:=zBD rx e1;refine .inr ⟨p1,k,vs,rfl,rfl,.of h1,?_,hz.2.1,by rw[r1.length];exact hz.2.2,λz=>?_,λz pp hp=>?_⟩
    .intro z;have:=r1.length;rw[z]at this;simp at this;omega
    .subst z;refine q L H _ (.refl L H) c ?_;have:(List.replicate (1:Int).toNat xs).flatten=xs:=by simp
     rw[this];unfold zr Rep;exact ⟨p1,vs,rfl,h1,r1⟩
    .exact q L _ _ (.upd hp) (c.upd hp) (Rep.newTup hp (r1.rep k.toNat))
   .cases hk
  .split at hk
   .rename_i xs e1;split at hk
    .rename_i hz;cases hk;obtain ⟨l,vs,rfl,h1,r1⟩:=zLy c rx e1;refine .inl ⟨l,k,vs,rfl,rfl,h1,hz.1,hz.2.1,by rw[r1.length];exact hz.2.2,λp hp=>?_⟩;exact q L _ _ (.upd hp) (c.upd hp) (zr.newLst (.refl L H) c c hp (r1.rep k.toNat))
    .cases hk
   .cases hk
 .cases hk
theorem zVR (h1:QE X a f) (h2:QE X b g):QE X (.BinOp a .Mult b pos) (fOp zJr f g):=zLN zSy (zTe.or zSc) h1 h2
def zIc:KB:=λxs M=>match xs with
 |[.dat (.int i),.dat (.int j)]=>some (.dat (.int (if j<i then j else i)),M)
 |_=>none
theorem zLB (r:zCx H0 L H [.dat (.int i),.dat (.int j)] vs):vs=[.int i,.int j]:=by
 unfold zCx at r;obtain ⟨v,r1,rfl,a1,a2⟩:=r;unfold zCx at a2;obtain ⟨v2,r2,rfl,b1,b2⟩:=a2;unfold zCx at b2;subst b2;unfold zr Rep at a1 b1;subst a1 b1;rfl
theorem zQc {K:Yb}:zJP K (λxs H Q=>∃ i j,xs=[.int i,.int j]/\Q (.int (if j<i then j else i)) H) zIc:=by
 intro L M M' H H0 xs d vs Q c r hk q;unfold zIc at hk;split at hk
 .rename_i i j;cases hk;exact ⟨i,j,zLB r,q L H _ (.refl L H) c (zAp (L:=L) (H:=H))⟩
 .cases hk
theorem zTh (hcalm:X.calm=true) (hg:Gl X "min") (hm:X.mg "min" = none) (ha:QAE X [e,e2] fa) (he:starEach [e,e2] X.env=(false,eval e X.env)::starEach [e2] X.env:=by rfl) (hpl:(backTo pos (starEach [e2] X.env)).any (·.1)=false:=by rfl):QE X (.Call (.Name "min" p) [e,e2] [] pos) (fB zIc fa) :=
 zFI zQc (zOr hcalm) (by rfl) hg hm ha (by decide) (by decide) he hpl
def zDP:KM:=λx ds M=>match x,ds with
 |.dat (.ref n),[.ref m]=>match M[n]?,M[m]? with
  |some (.lst xs),some (.lst ys)=>if xs.length+ys.length<=sizeLine then some (.non,M.set n (.lst (xs++ys))) else none
  |_,_=>none
 |_,_=>none
theorem zMF {K:Yb}:zPA K zM9 zDP:=by
 intro L M M' H H0 x ds d v vs Q c rx rd hk q;unfold zDP at hk;split at hk
 .rename_i n m;split at hk
  .rename_i xs ys e1 e1';split at hk
   .rename_i hz;cases hk;unfold zr Rep at rx;obtain ⟨a,rfl,e2⟩:=rx;obtain ⟨ws,e3,r3⟩:=c.obj n a _ e2 e1;obtain ⟨w,rfl,r4⟩:=rd.one;unfold Rep at r4;obtain ⟨b,rfl,e4⟩:=r4;obtain ⟨zs,e5,r5⟩:=c.obj m b _ e4 e1';obtain ⟨c5,s5⟩:=c.write e2 e1 (r3.app r5);exact ⟨a,b,ws,zs,rfl,rfl,e3,e5,by rw[r3.length,r5.length];exact hz,q L _ _ s5 c5 (by unfold Rep;rfl)⟩
   .cases hk
  .cases hk
 .cases hk
theorem zQP (h:QE X a f) (hg:QA X [e] fg) (hbase:attributeBase a "extend" X.env (eval a X.env)=eval a X.env:=by rfl)
  (hfew:((backTo cpos (starEach [e] X.env)).all (λx=> !x.1)&&(backToKw cpos (keywordEach [] X.env)).all (λx=>x.1.isSome)&&decide ([e].length+([]:List Keyword).length+(if ([]:List Keyword).isEmpty then 0 else 1)<30))=true:=by rfl)
  (hline:(apos.endLine==cpos.line)=true:=by rfl) (hs:starEach [e] X.env=(false,eval e X.env)::starEach [] X.env:=by rfl) (hplain:(backTo cpos (starEach [] X.env)).any (·.1)=false:=by rfl) :
  QE X (.Call (.Attribute a "extend" apos) [e] [] cpos) (fM zDP f fg) :=
 .mk <| PE.imp (zKs PySem.F.plainAttrs_list PySem.F.slot_list_extend PySem.F.type_list_extend zOj h.un hg.un hbase hfew hline hs hplain) λ_ _ _ z=>zJN zMF z
end
end L3
namespace HT
open PySem PySem.Spec PyProof.Rows
end HT
namespace L3
open PySem PySem.Spec PyProof.Rows L2
section
variable {a b o e e2 st:Expr}
theorem zOW:MtM X "list.index" (λx vs H Q=>∃ (l:Addr) (i:Int) (xs:List Int),x=.ref l/\vs=[.int i]/\H l=some (.lst (xs.map V.int))/\xs.length<=90000/\i∈xs/\Q (.int (xs.idxOf i)) H):=by
 intro zB s σ H x xs v us Q I rx rv z;obtain ⟨p,i,ns,rfl,rfl,hp,hz,hi,q⟩:=z;cases rx;obtain ⟨u,rfl,ru⟩:=rv.one;obtain ⟨t,rfl⟩:=ru;obtain ⟨z,its,n,r,hl,ee⟩:=I.lstM hp;have hia:=zMh r;have hlen:=hia.length;have hj:ns.idxOf i<ns.length:=List.idxOf_lt_length_iff.mpr hi
 refine call_meets PySem.F.slot_list_index ⟨_,ee,rfl⟩ PySem.F.entry_list_index (PySem.F.args_list_index_2 _ _)
  (PySem.SeqAt.list_indexAt p its.toArray n none #[] (.int i t) (isInt i) (ns.idxOf i) (by simpa [hlen] using hj) (by omega) ?_ ?_) ⟨ee,λy hy=>(eq_isInt i t hia y (by simpa using hy)).at _ _,⟨.int (ns.idxOf i),H,I.tok _,⟨_,rfl⟩,q⟩⟩
 .show isInt i its[ns.idxOf i]=true;rw[isInt_at i hia _ (by omega) hj];simpa using List.getElem_idxOf hj
 .intro j hjs hlt;show isInt i its[j]=false;rw[isInt_at i hia j (by simpa using hjs) (by omega)];exact ne_of_lt_idxOf hlt _
def zEH:KM:=λx ds M=>match x,ds with
 |.dat (.ref n),[.int i]=>match M[n]? with
  |some (.lst ds)=>match zAd ds with
   |some xs=>if i∈xs/\xs.length<=90000 then some (.int (xs.idxOf i),M) else none
   |none=>none
  |_=>none
 |_,_=>none
theorem zLf {K:Yb}:zPA K (λx vs H Q=>∃ (l:Yt) (i:Int) (xs:Ye),x=.ref l/\vs=[.int i]/\H l=some (.lst (xs.map V.int))/\xs.length<=90000/\i∈xs/\Q (.int (xs.idxOf i)) H) zEH:=by
 intro L M M' H H0 x ds d v vs Q c rx rd hk q;unfold zEH at hk;split at hk
 .rename_i n i;split at hk
  .rename_i ds e1;split at hk
   .rename_i xs e2;split at hk
    .rename_i hi;cases hk;unfold zr Rep at rx;obtain ⟨a,rfl,e4⟩:=rx;obtain ⟨ws,e5,r5⟩:=c.obj n a _ e4 e1;have ev:=zBa e2 r5;subst ev;exact ⟨a,i,xs,rfl,zEN rd,e5,hi.2,hi.1,q L H _ (.refl L H) c (by unfold Rep;rfl)⟩
    .cases hk
   .cases hk
  .cases hk
 .cases hk
theorem zQF (h:QE X a f) (hg:QA X [e] fg) (hbase:attributeBase a "index" X.env (eval a X.env)=eval a X.env:=by rfl)
  (hfew:((backTo cpos (starEach [e] X.env)).all (λx=> !x.1)&&(backToKw cpos (keywordEach [] X.env)).all (λx=>x.1.isSome)&&decide ([e].length+([]:List Keyword).length+(if ([]:List Keyword).isEmpty then 0 else 1)<30))=true:=by rfl)
  (hline:(apos.endLine==cpos.line)=true:=by rfl) (hs:starEach [e] X.env=(false,eval e X.env)::starEach [] X.env:=by rfl) (hplain:(backTo cpos (starEach [] X.env)).any (·.1)=false:=by rfl) :
  QE X (.Call (.Attribute a "index" apos) [e] [] cpos) (fM zEH f fg) :=
 .mk <| PE.imp (zKs PySem.F.plainAttrs_list PySem.F.slot_list_index PySem.F.type_list_index zOW h.un hg.un hbase hfew hline hs hplain) λ_ _ _ z=>zJN zLf z
end
section
def zJt (k1:Str) (fv:FE) (k2:Str) (fw:FE):FE:=λσ M=>match toD fv σ (M++[.dict []]) with
 |some (v,M1)=>match toD fw σ M1 with
  |some (w,M2)=>match M2[M.length]? with
   |some (.dict [])=>if k1=k2 then none else some (.dat (.ref M.length),M2.set M.length (.dict [(.str k1,v),(.str k2,w)]))
   |_=>none
  |none=>none
 |none=>none
theorem zRy (h1:QE X a (fC (.str k1))) (h2:QE X b fv) (h3:QE X a2 (fC (.str k2))) (h4:QE X b2 fw):QE X (.Dict [some a,some a2] [b,b2] pos) (zJt k1 fv k2 fw):=.mk <| PE.imp (zR5 (zLY (zBg h1).un (zBg h2).un (zLY (zBg h3).un (zBg h4).un zSR)) rfl rfl (by simp) (by simp)) λτ H Q ⟨L,σ,M,d,M',c,rs,hf,q⟩ p hp=>by
 unfold zJt at hf;split at hf
 .rename_i v M1 e2;split at hf
  .rename_i w M2 e4;split at hf
   .rename_i e5;split at hf
    .cases hf
    .rename_i hne;cases hf;obtain ⟨c0,s0⟩:=c.pushO (m:=.dict []) (o:=.dK []) hp ⟨[],zAD,rfl⟩;refine ⟨L++[p],σ,_,_,_,c0,rs.stp s0,(rfl:toD (fC (.str k1)) σ (M++[.dict []])=some (.str k1,_)),λL1 H1 x st1 c1 r1=>⟨L1,σ,_,_,_,c1,(rs.stp s0).stp st1,e2,λL2 H2 y st2 c2 r2=>?_⟩⟩;refine ⟨L2,σ,_,_,_,c2,((rs.stp s0).stp st1).stp st2,(rfl:toD (fC (.str k2)) σ M1=some (.str k2,_)),λL3 H3 x' st3 c3 r3=>⟨L3,σ,_,_,_,c3,(((rs.stp s0).stp st1).stp st2).stp st3,e4,λL4 H4 y' st4 c4 r4=>?_⟩⟩;have st:=(((s0.trans st1).trans st2).trans st3).trans st4;have hx:x=.str k1:=by unfold Rep at r1;exact r1
     have hx':x'=.str k2:=by unfold Rep at r3;exact r3
     have lp:L4[M.length]?=some p:=by
      obtain ⟨N,hN⟩:=((st1.trans st2).trans st3).trans st4 |>.pre;rw[hN,<-c.len];simp
     obtain ⟨vs,ev,dv⟩:=c4.obj _ p _ lp e5;unfold zA9 at dv;subst dv;have hm:zEh [] [((Sum.inr k1:Key),y),(Sum.inr k2,y')]=[((Sum.inr k1:Key),y),(Sum.inr k2,y')]:=by
      unfold zEh zCq;have h12:¬ ((Sum.inr k1:Key)=Sum.inr k2):=λz=>hne (Sum.inr.inj z);simp[h12]
     refine ⟨ev,[(Sum.inr k1,y),(Sum.inr k2,y')],by rw[hx,hx'];rfl,by simp,?_⟩;rw[hm];obtain ⟨c5,s5⟩:=c4.put (m:=.dict [(.str k1,v),(.str k2,w)]) (o':=.dK [(Sum.inr k1,y),(Sum.inr k2,y')]) lp ev (λ_ z=>by cases z) (λ_ _ z=>by cases z) λs5=>⟨_,zAD,_,y,[(Sum.inr k2,y')],rfl,rfl,(r2.stp (st3.trans st4)).stp s5,_,y',[],rfl,rfl,r4.stp s5,rfl⟩;refine q _ _ _ (st.trans s5) c5 ?_;unfold zr Rep;exact ⟨p,rfl,lp⟩
   .cases hf
  .cases hf
 .cases hf
end
section
def zH0 (fg:FG) (f:FE):FS:=λσ M=>match toD f σ M with
 |some (d,M1)=>match fg d σ with
  |some σ1=>some (.nx,σ1,M1)
  |none=>none
 |none=>none
theorem zUt (hk:GOk g fg) (h:QE X e f) (hg:PG X tg g) (hs:swapsWithSole [tg] e pos.line X.env=pure false:=by rfl) (hw:swappedStores [tg] e X.env=pure none:=by rfl)
  (h1:(assignEach [tg] X.env).map (·.2)=[assign tg X.env]:=by rfl):QS X (.Assign [tg] e pos) (zH0 fg f) :=
 .mk <| PS.imp (zPH h.un hg hs hw h1) λE τ H zz=>by
  obtain ⟨L,σ,M,o,σ',M',c,rs,hf,q⟩:=zz;unfold zH0 at hf;split at hf
  .rename_i d M1 e1;split at hf
   .rename_i σ1 e2;cases hf;refine zLC ⟨L,σ,M,_,_,c,rs,e1,λL1 H1 v s1 c1 r1=>?_⟩;exact hk (rs.stp s1) r1 e2 λτ' rs'=>q L1 H1 s1 c1 τ' rs'
   .cases hf
  .cases hf
theorem zGS:OkS (zH0 fg f σ M) P ↔ Ok (f σ M) (zGM λd M1=>∃ σ1,fg d σ=some σ1/\P .nx σ1 M1):=by
 rw[<-zAe];unfold zH0;constructor
 .rintro ⟨o,σ',M',e,p⟩;split at e
  .rename_i d M1 e1;split at e
   .rename_i σ1 e2;cases e;exact ⟨d,_,e1,_,e2,p⟩
   .cases e
  .cases e
 .rintro ⟨d,M1,e1,σ1,e2,p⟩;refine ⟨.nx,σ1,M1,?_,p⟩;rw[e1];dsimp only;rw[e2]
end
def SI (b:Bool) (h:Heap) (it t:Yt) (k:Nat):Prop:=if b then h.IsTupleIter it t k else h.IsListIter it t k
def SO (b:Bool) (h:Heap) (t:Yt) (xs:Yp):Prop:=if b then h.IsTuple t xs else h.IsList t xs
abbrev itO (b:Bool) (t:Addr):Obj:={ cls:=.type (if b then "tuple_iterator" else "list_iterator"),data:=.fields #[.ref t,.int 0 0] }
theorem SI.keep (x:SI b h it t k) (e:∀ o,h.get? it=some o->h'.get? it=some o):SI b h' it t k:=by
 cases b with
 |true=>obtain ⟨o,q,r⟩:=(show h.IsTupleIter it t k from x);exact (show h'.IsTupleIter it t k from ⟨o,e o q,r⟩)
 |false=>obtain ⟨o,q,r⟩:=(show h.IsListIter it t k from x);exact (show h'.IsListIter it t k from ⟨o,e o q,r⟩)
theorem SO.keep (x:SO b h t xs) (e:∀ o,h.get? t=some o->h'.get? t=some o):SO b h' t xs:=by
 cases b with
 |true=>obtain ⟨o,q,r⟩:=(show h.IsTuple t xs from x);exact (show h'.IsTuple t xs from ⟨o,e o q,r⟩)
 |false=>obtain ⟨o,q,r⟩:=(show h.IsList t xs from x);exact (show h'.IsList t xs from ⟨o,e o q,r⟩)
theorem SI.but (x:SI b h a t i) (hs:Heap.ExtBut c h h') (n:a≠c):SI b h' a t i:=x.keep λo e=>hs a o n e
theorem SO.but (x:SO b h a its) (hs:Heap.ExtBut c h h') (n:a≠c):SO b h' a its:=x.keep λo e=>hs a o n e
theorem SI.obj (x:SI b h it t k):∃ o,h.get? it=some o /\ ∀ v,o.data≠.cell v:=by
 cases b with
 |true=>obtain ⟨o,q,_,r⟩:=(show h.IsTupleIter it t k from x);exact ⟨o,q,λv m=>by rw[r]at m;cases m⟩
 |false=>obtain ⟨o,q,_,r⟩:=(show h.IsListIter it t k from x);exact ⟨o,q,λv m=>by rw[r]at m;cases m⟩
section
theorem zBw (I:SI b s.heap it t i) (T:SO b s.heap t its) (hx:its[i]?=some x)
  (q:∀ h',SI b h' it t (i+1)->Heap.SameBut it s.heap h'->Q x { s with heap:=h' }):wpAny (model prog w) A (Builtin.SmallTypes.nextOf (.ref it)) Q E s:=by
 cases b with
 |true=>exact zHA (show s.heap.IsTupleIter it t i from I) (show s.heap.IsTuple t its from T) hx q
 |false=>exact wpAny_nextOf_list_item (show s.heap.IsListIter it t i from I) (show s.heap.IsList t its from T) hx q
theorem zEK (hh:A.handled=none) (I:SI b s.heap it t i) (T:SO b s.heap t its) (hx:its[i]?=none)
  (q:∀ h' e,Heap.ExtBut it s.heap h'->(∃ o,h'.get? e=some o/\o.cls=.type "StopIteration")->E (.ref e) { s with heap:=h' }):wpAny (model prog w) A (Builtin.SmallTypes.nextOf (.ref it)) Q E s:=by
 cases b with
 |true=>exact zFS hh (show s.heap.IsTupleIter it t i from I) (show s.heap.IsTuple t its from T) hx q
 |false=>exact wpAny_nextOf_list_end hh (show s.heap.IsListIter it t i from I) (show s.heap.IsList t its from T) hx q
theorem zNP (hl:SO b s.heap l items) (hQ:Q (.ref s.heap.objs.size) { s with heap:=s.heap.push (itO b l) }):wpAny (model prog w) A (pyIter (.ref l)) Q E s:=by
 cases b with
 |true=>exact wpAny_pyIter_tuple (show s.heap.IsTuple l items from hl) hQ
 |false=>exact wpAny_pyIter_list (show s.heap.IsList l items from hl) hQ
structure ZipG (b1 b2:Bool) (h:Heap) (z TI TO i1 i2 t1 t2:Yt) (f:Yu) (k1 k2:Nat):Prop where
 z:IsZip h z TI TO f
 ti:IsPair h TI (.ref i1) (.ref i2)
 to:∃ a b,IsPair h TO a b
 a:SI b1 h i1 t1 k1
 b:SI b2 h i2 t2 k2
theorem zQ0 (e:h.get? it=some (itO b t)):SI b h it t 0:=by
 cases b with
 |true=>exact (show h.IsTupleIter it t 0 from ⟨_,e,rfl,rfl⟩)
 |false=>exact (show h.IsListIter it t 0 from ⟨_,e,rfl,rfl⟩)
abbrev zG1 (b1:Bool) (h:Heap) (a:Yt):Heap:=h.push (itO b1 a)
abbrev zG2 (b1 b2:Bool) (h:Heap) (a b:Yt):Heap:=zG1 b2 (zG1 b1 h a) b
abbrev zG3 (b1 b2:Bool) (h:Heap) (a b:Addr):Heap:=(zG2 b1 b2 h a b).push { cls:=.type "tuple", data:=.seq #[.ref h.objs.size,.ref (zG1 b1 h a).objs.size] }
abbrev zG4 (b1 b2:Bool) (h:Heap) (a b:Addr):Heap:=(zG3 b1 b2 h a b).push { cls:=.type "tuple", data:=.seq #[.none,.none] }
abbrev zG5 (b1 b2:Bool) (h:Heap) (a b:Addr):Heap:=(zG4 b1 b2 h a b).push { cls:=.type "zip", data:=.fields #[.none,.bool false,.bool false,.ref (zG2 b1 b2 h a b).objs.size,.ref (zG3 b1 b2 h a b).objs.size] }
theorem zMf (b1 b2:Bool) (a b:Addr) (xs ys:Array Value):Meets (Builtin.«zip.__new__» ⟨[.type "zip", .ref a,.ref b],[]⟩) (λ_ R s=>SO b1 s.heap a xs/\SO b2 s.heap b ys/\R (.ok (.ret (.ref (zG4 b1 b2 s.heap a b).objs.size))) { s with heap:=zG5 b1 b2 s.heap a b }) :=
 .of_wp λprog w A R s h=>by
  obtain ⟨hp,g,d,tk,os⟩:=s;obtain ⟨Ta,Tb,h⟩:=h;have sz:=sub_zip;have U1:SO b1 (Shared.heap ⟨hp,g,d,tk,os⟩) a xs:=Ta;have U2:SO b2 (Shared.heap ⟨hp.push (itO b1 a),g,d,tk,os⟩) b ys:=Tb.keep λo e=>zWm _ e;wp_walk using zNP U1,zNP U2;exact ⟨_,rfl,h⟩
theorem zRB (Ta:SO b1 s.heap a xs) (Tb:SO b2 s.heap b ys)
  (h:∀ h',ZipG b1 b2 h' (s.heap.objs.size+4) (s.heap.objs.size+2) (s.heap.objs.size+3) s.heap.objs.size (s.heap.objs.size+1) a b .none 0 0->(∀ c o,s.heap.get? c=some o->h'.get? c=some o)->Q (.ref (s.heap.objs.size+4)) { s with heap:=h' }) :
  wpAny (model prog w) A (call (.type "zip") [.ref a,.ref b]) Q E s:=by
 refine callType_new PySem.F.called_zip (by decide) (PySem.F.typeCall_zip_2 _ _) (PySem.F.newCall_zip_2 _ _) (λobj=>PySem.F.args_object_init_3 obj _ _) PySem.F.entry_zip_new (zMf b1 b2 a b xs ys) ⟨Ta,Tb,?_⟩;have q1:(zG1 b1 s.heap a).objs.size=s.heap.objs.size+1:=zXR ..;have q2:(zG2 b1 b2 s.heap a b).objs.size=s.heap.objs.size+2:=by rw[zXR,q1]
 have q3:(zG3 b1 b2 s.heap a b).objs.size=s.heap.objs.size+3:=by rw[zXR,q2]
 have q4:(zG4 b1 b2 s.heap a b).objs.size=s.heap.objs.size+4:=by rw[zXR,q3]
 have u:∀ {h:Heap} {c:Yt} {o p:Obj},h.get? c=some o->(h.push p).get? c=some o:=λe=>zWm _ e;have p5:(zG5 b1 b2 s.heap a b).get? (zG4 b1 b2 s.heap a b).objs.size=some _:=zWv _ rfl;have p4:(zG5 b1 b2 s.heap a b).get? (zG3 b1 b2 s.heap a b).objs.size=some _:=u (zWv _ rfl);have p3:(zG5 b1 b2 s.heap a b).get? (zG2 b1 b2 s.heap a b).objs.size=some _:=u (u (zWv _ rfl));have p2:(zG5 b1 b2 s.heap a b).get? (zG1 b1 s.heap a).objs.size=some _:=u (u (u (zWv _ rfl)));have p1:(zG5 b1 b2 s.heap a b).get? s.heap.objs.size=some _:=u (u (u (u (zWv _ rfl))));rw[q2,q3,q4]at p5;rw[q1,q2]at p3;rw[q3]at p4;rw[q1]at p2;rw[q4];exact ⟨⟨_,p5,rfl⟩,h _ ⟨p5,p3,⟨_,_,p4⟩,zQ0 p1,zQ0 p2⟩ λc o x=>u (u (u (u (u x))))⟩
end
def SqG (K:Yb) (b:Bool) (H:Hp) (a:Yt) (xs:List V):Prop:=if b then SqT K H a xs else SqL K H a xs
theorem zMG (I:Inv X zB σ H s) (h:SqG X.K b H a xs):∃ its,za xs its/\SO b s.heap a its.toArray:=by
 cases b with
 |true=>obtain ⟨its,rv,p1,_⟩:=I.tuple h;exact ⟨its,rv,p1⟩
 |false=>obtain ⟨its,rv,p1,_⟩:=I.list h;exact ⟨its,rv,p1.isList⟩
theorem zUm (x:SO b h a its):a<h.objs.size:=by
 cases b with
 |true=>obtain ⟨_,e,_⟩:=(show h.IsTuple a its from x);exact zWw e
 |false=>obtain ⟨_,e,_⟩:=(show h.IsList a its from x);exact zWw e
section
theorem zMB {K:Yb} {L1:Yg} {M1:Mem} {H1:Hp} {x:D} {v:V} {xs:List D} (c1:Cor K L1 M1 H1) (r1:Rep L1 H1 x v) (e:zAF M1 (.dat x)=some xs) :
  ∃ b l,v=.ref l/\(∃ vs,SqG K b H1 l vs) /\ ∀ L2 H2 M2,Stp L1 H1 L2 H2->Cor K L2 M2 H2->zAF M2 (.dat x)=some xs -> ∃ vs',SqG K b H2 l vs'/\zP L2 H2 xs vs':=by
 have r1':zr H1 L1 H1 (.dat x) v:=r1;cases x with
 |tup ds=>
  cases e;obtain ⟨a,vs,rfl,e3,r3⟩:=zBD r1' (xs:=xs) rfl;exact ⟨true,a,rfl,⟨vs,(show SqT K H1 a vs from .of e3)⟩,λL2 H2 M2 s2 c2 _=>⟨vs,(show SqT K H2 a vs from .of (s2.tup a vs e3)),r3.stp s2⟩⟩
 |ref n=>
  have e2:zBW M1 (.dat (.ref n))=some xs:=e;obtain ⟨a,vs,rfl,e3,r3⟩:=zA3 c1 r1' e2;refine ⟨false,a,rfl,⟨vs,(show SqL K H1 a vs from .inl e3)⟩,λL2 H2 M2 s2 c2 hq=>?_⟩;unfold Rep at r1;obtain ⟨a',ha',e5⟩:=r1;cases ha';have e6:L2[n]?=some a:=by obtain ⟨N,hN⟩:=s2.pre;rw[hN];exact zB1 e5
  have r2:zr H2 L2 H2 (.dat (.ref n)) (.ref a):=by unfold zr Rep;exact ⟨a,rfl,e6⟩
  obtain ⟨a2,vs',h2,e7,r7⟩:=zA3 c2 r2 (show zBW M2 (.dat (.ref n))=some xs from hq);cases h2;exact ⟨vs',(show SqL K H2 a vs' from .inl e7),r7⟩
 |_=>cases e
end
theorem zG8 {ns:Ye} {its:Yf} (r:za (ns.map V.int) its) {i:Nat} {v:Yu} (h:its.toArray[i]?=some v):∃ t,v=.int (ns.getD i 0) t:=by
 have h':its[i]?=some v:=by simpa using h
 have hi:i<its.length:=(zWo.mp h').1;have hl:=r.length;rw[zWu]at hl;have hx:(ns.map V.int)[i]?=some (.int (ns.getD i 0)):=by
  rw[zW8,zWq,zWp (by omega)];rfl
 obtain ⟨u,hu,ru⟩:=r.get hx;rw[h']at hu;cases hu;obtain ⟨t,rfl⟩:=ru;exact ⟨t,rfl⟩
theorem zP6 (hh:A.handled=none) (b:Bool) (I ax:Yt) (hne:ax≠I) (items:Yp) :
  Walks prog w A I [I,ax] [I] items.size (λi v=>items[i]?=some v) (λi h=>SI b h I ax i/\SO b h ax items):=by
 cases b with
 |true=>exact Walks.tuple hh I ax hne items
 |false=>exact Walks.list hh I ax hne items
section
theorem zIR (gt:Bool) (hc:X.calm=true):zDK X (.builtin (if gt then "max" else "min")) (λxs H Q=>∃ (b:Bool) (a:Addr) (ns:List Int) (m:Int),xs=[.ref a]/\SqG X.K b H a (ns.map V.int)/\m∈ns/\(∀ x∈ns,if gt then x<=m else m<=x)/\Q (.int m) H):=by
 intro zB s σ H xs us Q I r h;obtain ⟨b,a,ns,m,rfl,hs,hm,hb,q⟩:=h;obtain ⟨u,rfl,ru⟩:=zF4 r;cases ru;obtain ⟨its,rv,p1⟩:=zMG I hs;have hl:its.toArray.size=ns.length:=by have:=rv.length;simp at this ⊢;omega
 have hpos:0<ns.length:=zZx hm;have hlt:=zUm p1;have hfp:∀ c∈[s.heap.objs.size,a],c<(s.heap.push (itO b a)).objs.size:=λc hc'=>by
  rw[zXR];simp only[zWx,zXG,zX6]at hc';rcases hc' with rfl|rfl
  .exact zXi _
  .exact zXa hlt
 have st:SI b (s.heap.push (itO b a)) s.heap.objs.size a 0/\SO b (s.heap.push (itO b a)) a its.toArray:=⟨zQ0 (zWv _ rfl),p1.keep λo e=>zWm _ e⟩;have kp:∀ h':Heap,(∀ c o,c∉[s.heap.objs.size]->(s.heap.push (itO b a)).get? c=some o->h'.get? c=some o) -> ∀ c o,s.heap.get? c=some o->h'.get? c=some o:=λh' hk c o e0=>
  hk c o (by simp only[zWx,zXG,zX6];exact zW6 (zWw e0)) (zWm _ e0)
 have fin:∀ (i:Nat) (v:Yu) (h':Heap) (tk:Nat),its.toArray[i]?=some v->ns.getD i 0=m->(∀ c o,s.heap.get? c=some o->h'.get? c=some o)->EP X zB σ Q v { s with heap:=h',toks:=tk }:=λi v h' tk hv hi hk=>by
  obtain ⟨t,rfl⟩:=zG8 rv hv;rw[hi];exact ⟨.int m,H,I.kept hk,⟨t,rfl⟩,q⟩
 cases gt with
 |true=>
  refine call_max_walk (zNP p1 ⟨s.heap.objs.size,[s.heap.objs.size,a],[s.heap.objs.size],its.toArray.size,λi v=>its.toArray[i]?=some v,λi h=>SI b h s.heap.objs.size a i/\SO b h a its.toArray,_,rfl,zP6 (A:=X.A.in1) (I.ok.hd hc) b _ a (zW6 hlt) its.toArray,st,hfp,by omega,CmpOf.ints_gt (λi=>ns.getD i 0) (λ_ _ hv=>zG8 rv hv),λv h' tk hP hk=>?_⟩);refine fin _ v h' tk hP ?_ (kp h' hk);obtain ⟨h1,h2⟩:=argBest_gt (λi=>ns.getD i 0) (its.toArray.size-1);rw[hl]at h1 h2 ⊢;generalize argBest _ (ns.length-1)=q at h1 h2 ⊢;obtain ⟨j,hj,ej⟩:=List.mem_iff_getElem.mp hm;have h3:=h2 j (by omega);have e3:ns.getD j 0=m:=by rw[zWq,zWp hj];exact ej
  have hq:q<ns.length:=by omega
  have h4:ns.getD q 0<=m:=by
   have:=hb (ns.getD q 0) (by rw[zWq,zWp hq];exact zXJ hq);simpa using this
  rw[e3]at h3;omega
 |false=>
  refine call_min_walk (zNP p1 ⟨s.heap.objs.size,[s.heap.objs.size,a],[s.heap.objs.size],its.toArray.size,λi v=>its.toArray[i]?=some v,λi h=>SI b h s.heap.objs.size a i/\SO b h a its.toArray,_,rfl,zP6 (A:=X.A.in1) (I.ok.hd hc) b _ a (zW6 hlt) its.toArray,st,hfp,by omega,CmpOf.ints_lt (λi=>ns.getD i 0) (λ_ _ hv=>zG8 rv hv),λv h' tk hP hk=>?_⟩);refine fin _ v h' tk hP ?_ (kp h' hk);obtain ⟨h1,h2⟩:=argBest_lt (λi=>ns.getD i 0) (its.toArray.size-1);rw[hl]at h1 h2 ⊢;generalize argBest _ (ns.length-1)=q at h1 h2 ⊢;obtain ⟨j,hj,ej⟩:=List.mem_iff_getElem.mp hm;have h3:=h2 j (by omega);have e3:ns.getD j 0=m:=by rw[zWq,zWp hj];exact ej
  have hq:q<ns.length:=by omega
  have h4:m<=ns.getD q 0:=by
   have:=hb (ns.getD q 0) (by rw[zWq,zWp hq];exact zXJ hq);simpa using this
  rw[e3]at h3;omega
def zCY (gt:Bool):Int->List Int->Int
 |m,[]=>m
 |m,x::r=>zCY gt (if (if gt then m<x else x<m) then x else m) r
theorem zCn (gt:Bool):∀ (r:Ye) (m:Int),zCY gt m r∈m::r /\ ∀ x∈m::r,if gt then x<=zCY gt m r else zCY gt m r<=x
 |[],m=>by
  refine ⟨by simp[zCY],λx hx=>?_⟩;have:x=m:=by simpa using hx
  subst this;cases gt <;> simp[zCY]
 |y::r,m=>by
  unfold zCY;obtain ⟨h1,h2⟩:=zCn gt r (if (if gt then m<y else y<m) then y else m);generalize hb:zCY gt (if (if gt then m<y else y<m) then y else m) r=B at h1 h2;constructor
  .rcases zWx.mp h1 with q|q
   .rw[q];by_cases hc:(if gt=true then m<y else y<m)
    .rw[zW0 hc];simp
    .rw[zW3 hc];simp
   .simp[q]
  .intro x hx;have h0:=h2 _ zWz;rcases zWx.mp hx with q|q
   .subst q;cases gt with
    |true=>simp at h0 ⊢;split at h0 <;> omega
    |false=>simp at h0 ⊢;split at h0 <;> omega
   .rcases zWx.mp q with z|z
    .subst z;cases gt with
     |true=>simp at h0 ⊢;split at h0 <;> omega
     |false=>simp at h0 ⊢;split at h0 <;> omega
    .exact h2 x (zWy _ z)
def zCy (gt:Bool):KB:=λxs M=>match xs with
 |[.dat d]=>match zAF M (.dat d) with
  |some ds=>match zAd ds with
   |some (n::ns)=>some (.dat (.int (zCY gt n ns)),M)
   |_=>none
  |none=>none
 |[.fl ds]=>match zAd ds with
  |some (n::ns)=>some (.dat (.int (zCY gt n ns)),M)
  |_=>none
 |_=>none
theorem zLE {K:Yb} {gt:Bool}:zJP K (λxs H Q=>∃ (b:Bool) (a:Yt) (ns:Ye) (m:Int),xs=[.ref a]/\SqG K b H a (ns.map V.int)/\m∈ns/\(∀ x∈ns,if gt then x<=m else m<=x)/\Q (.int m) H) (zCy gt):=by
 intro L M M' H H0 xs d vs Q c r hk q;unfold zCy at hk;split at hk
 .rename_i d0;split at hk
  .rename_i ds e1;split at hk
   .rename_i n ns e2;cases hk;obtain ⟨v,rfl,r1⟩:=r.one;have r1':Rep L H d0 v:=r1;obtain ⟨b,l,rfl,_,key⟩:=zMB c r1' e1;obtain ⟨vs',hq,rr⟩:=key L H M (.refl L H) c e1;have ev:=zBa e2 rr;subst ev;obtain ⟨h1,h2⟩:=zCn gt ns n;exact ⟨b,l,n::ns,zCY gt n ns,rfl,hq,h1,h2,q L H _ (.refl L H) c (zAp (L:=L) (H:=H))⟩
   .cases hk
  .cases hk
 .rename_i ds;split at hk
  .rename_i n ns e2;cases hk;obtain ⟨v,rfl,r1⟩:=r.one;obtain ⟨l,vs',rfl,hq,rr⟩:=zA3 c r1 (show zBW M (.fl ds)=some ds from rfl);have ev:=zBa e2 rr;subst ev;obtain ⟨h1,h2⟩:=zCn gt ns n;exact ⟨false,l,n::ns,zCY gt n ns,rfl,.inl hq,h1,h2,q L H _ (.refl L H) c (zAp (L:=L) (H:=H))⟩
  .cases hk
 .cases hk
theorem zTq (hcalm:X.calm=true) (hg:Gl X "max") (hm:X.mg "max" = none) (ha:QAE X [e] fa) (he:starEach [e] X.env=(false,eval e X.env)::starEach [] X.env:=by rfl) (hpl:(backTo pos (starEach [] X.env)).any (·.1)=false:=by rfl):QE X (.Call (.Name "max" p) [e] [] pos) (fB (zCy true) fa) :=
 zFI zLE (zIR true hcalm) (by rfl) hg hm ha (by decide) (by decide) he hpl
theorem zUJ (hcalm:X.calm=true) (hg:Gl X "min") (hm:X.mg "min" = none) (ha:QAE X [e] fa) (he:starEach [e] X.env=(false,eval e X.env)::starEach [] X.env:=by rfl) (hpl:(backTo pos (starEach [] X.env)).any (·.1)=false:=by rfl):QE X (.Call (.Name "min" p) [e] [] pos) (fB (zCy false) fa) :=
 zFI zLE (zIR false hcalm) (by rfl) hg hm ha (by decide) (by decide) he hpl
end
section
def zKw (f:FE):FT:=λσ M=>match f σ M with
 |some (x,M1)=>match zAF M1 x with
  |some xs=>some (!xs.isEmpty,M1)
  |none=>none
 |none=>none
theorem zRY (h:QE X a f) (he:∀ whole,isTrue a X.env whole=(do let v <- whole;standAt a.pos;holding [v] (truthy v)):=by intro _;rfl):QT X a (zKw f) :=
 .mk <| PT.imp (zP9 h.un he) λτ H Q zz=>by
  obtain ⟨L,σ,M,d,M',c,rs,hf,q⟩:=zz;unfold zKw at hf;split at hf
  .rename_i x M1 e1;split at hf
   .rename_i xs e2;cases hf;refine ⟨L,σ,M,_,_,c,rs,e1,λL1 H1 v s1 c1 r1=>⟨!xs.isEmpty,?_,q L1 H1 s1 c1⟩⟩;unfold zAF at e2;have emp:∀ {vs:List V},zP L1 H1 xs vs->(!xs.isEmpty) = !vs.isEmpty:=λ{vs} r=>by
     have:=r.length;cases xs <;> cases vs <;> first|rfl|simp at this
    cases t:zBp x with
    |some ws=>
     rw[t]at e2;cases e2;obtain ⟨l,vs,rfl,e3,r3⟩:=zBD r1 t;exact .inr (.inl ⟨vs,.of e3,emp r3⟩)
    |none=>
     rw[t]at e2;obtain ⟨l,vs,rfl,e3,r3⟩:=zA3 c1 r1 e2;exact .inl ⟨vs,.inl e3,emp r3⟩
   .cases hf
  .cases hf
def zIf (f:FE):FE:=λσ M=>match f σ M with
 |some (.dat (.ref n),M1)=>match M1[n]? with
  |some (.lst xs)=>match xs[xs.length-1]? with
   |some d=>some (.dat d,M1.set n (.lst xs.dropLast))
   |none=>none
  |_=>none
 |_=>none
theorem zIF (h:zP L H ds vs):zP L H ds.dropLast vs.dropLast:=by
 have:=h.eraseIdx (ds.length-1);rw[zEf]at this;have hl:=h.length;rw[<-hl,zEf]at this;exact this
theorem zTn (h:QE X o f) (hbase:attributeBase o "pop" X.env (eval o X.env)=eval o X.env:=by rfl) (hline:(apos.endLine==cpos.line)=true:=by rfl):QE X (.Call (.Attribute o "pop" apos) [] [] cpos) (zIf f) :=
 .mk <| PE.imp (zTU PySem.F.plainAttrs_list PySem.F.slot_list_pop PySem.F.type_list_pop zTv h.un hbase hline) λτ H Q zz=>by
  obtain ⟨L,σ,M,d,M',c,rs,hf,q⟩:=zz;unfold zIf at hf;split at hf
  .rename_i n M1 e1;split at hf
   .rename_i xs e2;split at hf
    .rename_i d' e3;cases hf;refine ⟨L,σ,M,_,_,c,rs,e1,λL1 H1 v s1 c1 r1=>?_⟩;unfold zr Rep at r1;obtain ⟨l,rfl,e4⟩:=r1;obtain ⟨ws,e5,r5⟩:=c1.obj n l _ e4 e2;obtain ⟨u,e6,r6⟩:=r5.get e3;obtain ⟨c5,s5⟩:=c1.write e4 e2 (zIF r5);refine ⟨.inl ⟨rfl,⟨ws,.of e5⟩⟩,l,ws,u,rfl,rfl,e5,by rw[r5.length];exact e6,q L1 _ _ (s1.trans s5) c5 (r6.stp s5)⟩
    .cases hf
   .cases hf
  .cases hf
theorem zNk:zDK X (.builtin "len") (λxs H Q=>∃ (p:Addr) (kvs:List (Key × V)),xs=[.ref p]/\H p=some (.dK kvs)/\Q (.int kvs.length) H):=by
 intro zB s σ H xs us Q I r h;obtain ⟨p,kvs,rfl,hx,q⟩:=h;obtain ⟨u,rfl,rx⟩:=zF4 r;cases rx;have hn:=zEq;obtain ⟨hz,hS,vs,r',m⟩:kvs.length<=sizeLine/\(p==sysModules)=false /\ ∃ vs,KV kvs vs/\s.heap.DictOf (zAW X.prog X.w) p vs:=I.hok p _ hx;have hlen:kvs.length=vs.length:=Paired.length r';exact call_len_dict hS m (by omega) ⟨.int kvs.length,H,I.tok _,⟨s.toks+1,by rw[hlen]⟩,q⟩
def zIx:KB:=λxs M=>match xs with
 |[.dat (.ref n)]=>match M[n]? with
  |some (.dict kvs)=>some (.dat (.int kvs.length),M)
  |_=>none
 |_=>none
theorem zQu {K:Yb}:zJP K (λxs H Q=>∃ (p:Yt) (kvs:List (Key × V)),xs=[.ref p]/\H p=some (.dK kvs)/\Q (.int kvs.length) H) zIx:=by
 intro L M M' H H0 xs d vs Q c r hk q;unfold zIx at hk;split at hk
 .rename_i n;split at hk
  .rename_i kvs e1;cases hk;obtain ⟨v,rfl,r1⟩:=r.one;unfold zr Rep at r1;obtain ⟨a,rfl,e2⟩:=r1;obtain ⟨ws,e3,r3⟩:=c.obj n a _ e2 e1;have hl:=r3.length;refine ⟨a,ws,rfl,e3,?_⟩;have:=q L H (.int kvs.length) (.refl L H) c (zAp (L:=L) (H:=H));rw[<-hl]at this;exact this
  .cases hk
 .cases hk
theorem zUE (hg:Gl X "len") (hm:X.mg "len" = none) (ha:QAE X [e] fa) (he:starEach [e] X.env=(false,eval e X.env)::starEach [] X.env:=by rfl) (hpl:(backTo pos (starEach [] X.env)).any (·.1)=false:=by rfl):QE X (.Call (.Name "len" p) [e] [] pos) (fB zIx fa) :=
 zFI zQu zNk PySem.boot_len hg hm ha (by decide) (by decide) he hpl
end
def zJz (fg:FG) (tc:FT) (fi2:FI) (own2:Yj) (fg2:FG) (tc2:FT) (te:FE) (σ:Sd) (all:List D) (gd:Option (Mem->Prop)):List D->List D->Mem->Option (List D × Mem)
 |[],acc,M=>open Classical in if zA0 gd all M then some (acc,M) else none
 |x::r,acc,M=>open Classical in if zA0 gd all M then match fg x σ with
   |some σ1=>match tc σ1 M with
    |some (true,M1)=>match fi2 σ1 M1 with
     |some (ys,gd2,M2)=>if acc.length+ys.length<=sizeLine then match zA8 fg2 tc2 te (zBM own2 σ1) ys gd2 ys M2 with
       |some (ds,M3)=>zJz fg tc fi2 own2 fg2 tc2 te σ all gd r (acc++ds) M3
       |none=>none
      else none
     |none=>none
    |some (false,M1)=>zJz fg tc fi2 own2 fg2 tc2 te σ all gd r acc M1
    |none=>none
   |none=>none
  else none
def zFh (own own2:Yj) (fi:FI) (fg:FG) (tc:FT) (fi2:FI) (fg2:FG) (tc2:FT) (te:FE):FE:=λσ M=>match fi σ M with
 |some (xs,gd,M1)=>match zJz fg tc fi2 own2 fg2 tc2 te (zBM own σ) xs gd xs [] M1 with
  |some (ys,M2)=>some (.fl ys,M2)
  |none=>none
 |none=>none
theorem zMR {K:Yb} {own own2:Yj} {fi fi2:FI} {g g2:TG} {fg fg2:FG} {tc tc2:FT} {te:FE} (hg:zE1 own g fg) (hg2:zE1 own2 g2 fg2) {τ:Sv} {H:Hp} {Q:VK} (h:trE K (zFh own own2 fi fg tc fi2 fg2 tc2 te) τ H Q) :
  zQ6 own own2 (trI K fi) g (trT K tc) (trI K fi2) g2 (trT K tc2) (trD K (toD te)) τ H Q:=by
 obtain ⟨L,σ,M,d,Mf,c,rs,hf,q⟩:=h;unfold zFh at hf;split at hf
 .rename_i xs gd M1 e1;split at hf
  .rename_i zs M2 e2;cases hf;refine ⟨L,σ,M,_,_,_,c,rs,e1,λL1 H1 J s1 c1 it=>?_⟩
   refine ⟨λi m ys H'=>m=xs.length-i/\i<=xs.length /\ ∃ L' M' as,Stp L1 H1 L' H'/\Cor K L' M' H'/\zP L' H' as ys/\as.length<=sizeLine/\zJz fg tc fi2 own2 fg2 tc2 te (zBM own σ) xs gd (xs.drop i) as M'=some (zs,Mf),
    ⟨xs.length,by simp,zXX _,L1,M1,[],.refl _ _,c1,.nil,zXX _,by simpa using e2⟩,?_⟩
   rintro i m ys H' ⟨rfl,hi,L',M',as,s',c',r',hl,e'⟩;by_cases hlt:i<xs.length
   .rw[zCU hlt]at e';unfold zJz at e';split at e'
    .rename_i hgd;obtain ⟨step,_⟩:=it L' H' M' s' c' hgd;obtain ⟨go,yl⟩:=step i xs[i] (zWp hlt);split at e'
     .rename_i σ1 eg;refine .inr ⟨go,λv H2 hy=>?_⟩;obtain ⟨gr,rv⟩:=yl v H2 hy;have s2:Stp L1 H1 L' H2:=s'.yld gr;refine hg (zEQ own ((rs.stp s1).stp s2)) (.refl _) rv eg λτ2 r2 x2=>⟨x2,?_⟩;split at e'
      .rename_i M3 e3;split at e'
       .rename_i ys2 gd2 M4 e4;split at e'
        .rename_i hz2;split at e'
         .rename_i ds M5 e5;refine ⟨L',σ1,M',_,_,c'.grow gr,r2,e3,λL3 H3 s3 c3=>zIE ?_⟩;have st3:Stp L' H' L3 H3:=(Stp.grow gr).trans s3;refine ⟨L3,σ1,M3,_,_,_,c3,r2.stp s3,e4,λL4 H4 J2 s4 c4 it2=>?_⟩
          refine ⟨λj m2 ws H5=>m2=ys2.length-j/\j<=ys2.length /\ ∃ L5 M6 bs cs,Stp L4 H4 L5 H5/\Cor K L5 M6 H5/\zP L5 H5 (as++bs) ws/\bs.length<=j/\zA8 fg2 tc2 te (zBM own2 σ1) ys2 gd2 (ys2.drop j) M6=some (cs,M5)/\bs++cs=ds,
           ⟨ys2.length,by simp,zXX _,L4,M4,[],ds,.refl _ _,c4,by simpa using (r'.stp st3).stp s4,zWr _,by simpa using e5,rfl⟩,?_⟩
          rintro j m2 ws H5 ⟨rfl,hj,L5,M6,bs,cs,s5,c5,r5,hbl,e6,hbc⟩;have hws:ws.length<=as.length+j:=by rw[r5.length,zW1];omega
          by_cases hlt2:j<ys2.length
          .rw[zCU hlt2]at e6;unfold zA8 at e6;split at e6
           .rename_i hgd2;obtain ⟨step2,_⟩:=it2 L5 H5 M6 s5 c5 hgd2;obtain ⟨go2,yl2⟩:=step2 j ys2[j] (zWp hlt2);split at e6
            .rename_i σ2 eg2;refine .inr ⟨go2,λv2 H6 hy2=>?_⟩;obtain ⟨gr2,rv2⟩:=yl2 v2 H6 hy2;have s6:Stp L4 H4 L5 H6:=s5.yld gr2;refine hg2 (zEQ own2 (((r2.stp s3).stp s4).stp s6)) (.refl _) rv2 eg2 λτ3 r3 x3=>⟨x3,?_⟩;split at e6
             .rename_i M7 e7;split at e6
              .rename_i d M8 e8;split at e6
               .rename_i ds' M9 e9;cases e6;refine ⟨L5,σ2,M6,_,_,c5.grow gr2,r3,e7,λL7 H7 s7 c7=>zIE ?_⟩;refine ⟨L7,σ2,M7,_,_,c7,r3.stp s7,e8,λL8 H8 w s8 c8 r8=>?_⟩;have st:Stp L5 H5 L8 H8:=((Stp.grow gr2).trans s7).trans s8;refine ⟨by omega,ys2.length-(j+1),by omega,rfl,hlt2,L8,M8,bs++[d],ds',s5.trans st,c8,?_,by simp;omega,e9,by rw[<-hbc];simp⟩;have:=(r5.stp st).app (.cons r8 .nil);simpa using this
               .cases e6
              .cases e6
             .rename_i M7 e7;refine ⟨L5,σ2,M6,_,_,c5.grow gr2,r3,e7,λL7 H7 s7 c7=>zHv ?_⟩;have st:Stp L5 H5 L7 H7:=(Stp.grow gr2).trans s7;exact ⟨ys2.length-(j+1),by omega,rfl,hlt2,L7,M7,bs,cs,s5.trans st,c7,r5.stp st,by omega,e6,hbc⟩
             .cases e6
            .cases e6
           .cases e6
          .have hj':j=ys2.length:=by omega
           subst hj';rw[List.drop_length]at e6;unfold zA8 at e6;split at e6
           .rename_i hgd2;cases e6;obtain ⟨_,stop2⟩:=it2 L5 H5 _ s5 c5 hgd2;rw[zXV]at hbc;subst hbc;refine .inl ⟨stop2,xs.length-(i+1),by omega,rfl,hlt,L5,M5,as++bs,s'.trans ((st3.trans s4).trans s5),c5,r5,by rw[zW1];omega,e'⟩
           .cases e6
         .cases e'
        .cases e'
       .cases e'
      .rename_i M3 e3;refine ⟨L',σ1,M',_,_,c'.grow gr,r2,e3,λL3 H3 s3 c3=>zHv ?_⟩;have st:Stp L' H' L3 H3:=(Stp.grow gr).trans s3;exact ⟨xs.length-(i+1),by omega,rfl,hlt,L3,M3,as,s'.trans st,c3,r'.stp st,hl,e'⟩
      .cases e'
     .cases e'
    .cases e'
   .have hi':i=xs.length:=by omega
    subst hi';rw[List.drop_length]at e';unfold zJz at e';split at e'
    .rename_i hgd;cases e';obtain ⟨_,stop⟩:=it L' H' _ s' c' hgd;refine .inl ⟨stop,by rw[r'.length];exact hl,λp hp=>?_⟩;exact q L' _ _ ((s1.trans s').trans (.upd hp)) (c'.upd hp) (zr.newLst (s1.trans s') c c' hp r')
    .cases e'
  .cases hf
 .cases hf
section
structure QParts2 (X:Cx) (scope:Y0) (t1:Expr) (f1:Yi) (t2 i2:Expr) (f2:Yi) (elt:Expr) (g:TG) (tc:FT) (fi2:FI) (g2:TG) (tc2:FT) (te:FE):Prop where
 g:∀ zB cl s H fp,PG (zN X zB scope cl s H fp) t1 g
 c:∀ zB cl s H fp,QIfs (zN X zB scope cl s H fp) f1 tc
 w2:∀ zB cl s H fp,QI (zN X zB scope cl s H fp) t2 i2 fi2
 g2:∀ zB cl s H fp,PG (zN X zB scope cl s H fp) t2 g2
 c2:∀ zB cl s H fp,QIfs (zN X zB scope cl s H fp) f2 tc2
 e:∀ zB cl s H fp,QE (zN X zB scope cl s H fp) elt te
 s2:∀ zB cl s H fp x,foldedSetIterable i2 (zN X zB scope cl s H fp).env x=pure x
theorem zRl {own own2:Yj} {fi fi2:FI} {g g2:TG} {fg fg2:FG} {tc tc2:FT} {te:FE} (hsub:∀ i∈own2,i∈own) (hg:zE1 own g fg) (hg2:zE1 own2 g2 fg2) (C:CompIn X scope own) (hcalm:X.calm=true) (hi:QI X t1 i1 fi) (p:QParts2 X scope t1 f1 t2 i2 f2 elt g tc fi2 g2 tc2 te) (hs:∀ x,foldedSetIterable i1 X.env x=pure x:=by intro _;rfl) :
  QE X (zBd elt t1 i1 f1 t2 i2 f2 scope pos) (zFh own own2 fi fg tc fi2 fg2 tc2 te) :=
 .mk <| PE.imp (zPX hsub C hcalm hi.un ⟨p.g,λzB cl s H fp=>(p.c zB cl s H fp).un,λzB cl s H fp=>(p.w2 zB cl s H fp).un,p.g2,λzB cl s H fp=>(p.c2 zB cl s H fp).un,λzB cl s H fp=>(zBg (p.e zB cl s H fp)).un,p.s2⟩ hs) λ_ _ _ h=>zMR hg hg2 h
end
end L3
namespace L2
open PySem PySem.Spec PyProof.Rows
section
theorem zG0 (hN:X.N.Nodup) (hi':X.N[i]?=some x) (hx:Loc X.env.scope x) (hfn:X.fn x=true\/X.env.scope.names.lookup x=some .local)
  (hsw:swapsWith (.DictComp kx vx [⟨tg,iter,ifs,0⟩] scope pos) (some (.Name x pos')) pos''.line X.env=pure true)
  (hu:X.A.units+1<cLine) (C:CompIn X scope own) (hcalm:X.calm=true) (hi:PI X tg iter wi) (p:CompParts X scope tg ifs kx g tc tk) (p2:∀ zB cl s H fp,PE (zN X zB scope cl s H fp) vx tv) (hs:∀ x,foldedSetIterable iter X.env x=pure x:=by intro _;rfl) :
  PS X (.Assign [.Name x pos'] (.DictComp kx vx [⟨tg,iter,ifs,0⟩] scope pos) pos'') (zPQ (zFT isT own wi g tc tk tv) (zDo i)):=by
 intro zB s σ H D I h;obtain ⟨cl,hcl,c1,c2⟩:=C.sc.closure I;rw[exec_Assign_Name_used _ _ _ _ hsw];refine zWl (zXj (zWl ?_));show wpAny _ X.A (do let _ <- comprehension (.DictComp kx vx [⟨tg,iter,ifs,0⟩] scope pos) scope X.env _ newDict false (eval iter X.env) (some (assign (.Name x pos') X.env))) _ _ s
 refine zWl (zXH (zYf (use:=some (assign (.Name x pos') X.env)) (Q:=λ_ s'=>SP X zB D .next s') rfl hs hcl C.sc.kind C.sc.names
  (thn (hi zB s σ H _ I h) λv s1 h1=>thn h1 λitv s2 h2=>?_)) (λ_ s' hq=>zWn (zWn hq)) λ_ _ e=>e)
 obtain ⟨it,fp,tn,J,H2,e,I2,T,st2,f2,hD⟩:=h2;subst e;obtain ⟨W,⟨m0,w0⟩,turn⟩:=hD s2.heap.objs.size (I2.hok.fresh (zWr _))
 refine zDn hu C hcalm I2 T st2 f2 c1 c2 (p.g _ _ _ _ _) (p.c _ _ _ _ _) (p.e _ _ _ _ _) (p2 _ _ _ _ _) (RR:=λacc C r s'=>compPost (model X.prog X.w) X.A X.xe (some (assign (.Name x pos') X.env)) (λ_ s'=>SP X zB D .next s') acc C r s')
  (QQ:=λH=>zDo i (.ref s2.heap.objs.size) σ H D.nx) w0 turn ?_
 intro σc H' s' Ic qq;obtain ⟨m,hn,_⟩:=Ic.loc;have J':=zEX (h':=s'.heap) I2 f2 Ic (.refl ..);obtain ⟨oC,es,ep,hoC,hdC,r1,r2⟩:=id hn;have nC:H' (s2.heap.objs.size+1)=none:=Ic.free;have K':Inv X (zB++[(s2.heap.objs.size+1,oC)]) σ H' s':=J'.pins_of λq hq=>by
  rcases zXB.mp hq with z|z
  .exact J'.pin q (zW5 _ z)
  .have e:q=(s2.heap.objs.size+1,oC):=by simpa using z
   subst e;refine ⟨hoC,nC,zYG (zXa I2.lt),I2.nofs (zYT _),λv z=>?_⟩;have z':oC.data=.cell v:=z;rw[hdC]at z';cases z'
 show wpAny _ X.A (assign (.Name x pos') X.env (.ref s2.heap.objs.size)) _ _ _;refine thn (zKA hN hi' hx hfn _ s' σ _ (.ref s2.heap.objs.size) (.ref s2.heap.objs.size) _ K' rfl qq) λ_ s'' ⟨σ'',H'',I'',q''⟩=>?_;obtain ⟨eC,_⟩:=I''.pin (s2.heap.objs.size+1,oC) (by simp);refine ⟨m,⟨oC,es,ep,eC,hdC,r1,r2⟩,λh' hs'=>⟨σ'',H'',?_,q''⟩⟩;have I3:Inv X zB σ'' H'' s'':=I''.unpinned;obtain ⟨_,nC'',neC,_,_⟩:=I''.pin (s2.heap.objs.size+1,oC) (by simp);refine I3.turned (t':=s''.toks) (it:=s2.heap.objs.size+1) (λb o hb e=>hs'.extBut b o hb e) nC'' neC (.inr (zXC I2.sz (zYT _))) (λx c e z=>?_) (λq hq z=>?_)
 .obtain ⟨v,o,ho,hd⟩:=I3.cell x c e;rw[z,eC]at ho;cases ho;rw[hdC]at hd;cases hd
 .obtain ⟨e,_⟩:=I2.pin q hq;exact zW6 (zXa (zWw e)) z
end
end L2
namespace L3
open PySem PySem.Spec PyProof.Rows L2
section
variable {isT:Bool}
theorem zMi (hN:X.N.Nodup) (hi':X.N[i]?=some x) (hx:Loc X.env.scope x) (hfn:X.fn x=true\/X.env.scope.names.lookup x=some .local)
  (hsw:swapsWith (.DictComp kx vx [⟨tg,iter,ifs,0⟩] scope pos) (some (.Name x pos')) pos''.line X.env=pure true)
  (hu:X.A.units+1<cLine) (hg:zE1 own g fg) (C:CompIn X scope own) (hcalm:X.calm=true) (hi:QI X tg iter fi) (p:QParts X scope tg ifs kx g tc tk) (p2:∀ zB cl s H fp,QE (zN X zB scope cl s H fp) vx tv) (hs:∀ x,foldedSetIterable iter X.env x=pure x:=by intro _;rfl) :
  QS X (.Assign [.Name x pos'] (.DictComp kx vx [⟨tg,iter,ifs,0⟩] scope pos) pos'') (zi i (zC4 isT own fi fg tc tk tv)) :=
 .mk <| PS.imp (zG0 (isT:=isT) hN hi' hx hfn hsw hu C hcalm hi.un p.parts (λ_ _ _ _ _=>(zBg (p2 _ _ _ _ _)).un) hs) λ_ _ _ z=>zGw (λ_ _ _ z=>zGf hg z) z
end
end L3
namespace L2
open PySem PySem.Spec PyProof.Rows
end L2
namespace L3
open PySem PySem.Spec PyProof.Rows L2
open SeqAt
structure Df (K:Yb) (mg:Yh) (x:Str) (st:Stmt) (ps:Yk) where
 f:Addr
 fd:FuncData
 F:Fun K x x st f fd
 b:zGx K fd ps []
 m:mg x=some (.ref f)
structure Dg (K:Yb) (x:Str) (st:Stmt) where
 f:Addr
 {od an:Option Addr}
 {sl:Array (Option Value)}
 {oc kV dc pm cd ct:Yu}
 a:PySem.W.nsIn K mainGlobals x=some (some (.ref f))
 l:K.lookup f=some ⟨oc,od,.func (PySem.W.fnOf x x (zEI st) (zCz st) (zV st) .none kV dc pm an cd ct),sl⟩
 c:PySem.W.codeIn K cd x=true
 k:PySem.W.keepIn K (.ref f)=true
abbrev Dg.df {K:Yb} {x:Str} {st:Stmt} {ps:Yk} {h:Heap} {mg:Yh} (g:Dg K x st) (X:K.In h) (G:h.Ns mainGlobals mg)
  (hb:∀ (kV doc pm:Yu) (an:Option Addr) (cdv ct:Yu) (us:Yf),us.length=ps.length->bindArgs (PySem.W.fnOf x x (zEI st) (zCz st) (zV st) .none kV doc pm an cdv ct) ⟨us,[]⟩=pure (ps.zip us)):Df K mg x st ps :=
 ⟨g.f,_,zQA g.l g.c g.k,(zQA g.l g.c g.k).binds hb,PySem.W.mg_of X G g.a⟩
abbrev Od (P:Ym) (w:Yo) (base:Heap) (k:Nat) {K:Yb} {mg:Yh} {x:Str} {st:Stmt} {ps:Yk} (d:Df K mg x st ps) (m:FF):Prop:=FnOk P w K mg base CX0 k d.f d.fd ps (spF K ps.length m)
abbrev Zn (K:Yb) (x:Str):Prop:=PySem.W.nsIn K mainGlobals x=some none
abbrev Ki (K:Yb) (t T:String) (b:Bool):Prop:=PySem.W.kitOne K (.type t) (.type T)=some b
theorem zHX {P:List Value->Prop} (h:∀ a,P [a]):∀ us:List Value,us.length=1->P us
 |[a],_=>h a
theorem zJ1 {P:List Value->Prop} (h:∀ a b,P [a,b]):∀ us:List Value,us.length=2->P us
 |[a,b],_=>h a b
theorem zGE {P:List Value->Prop} (h:∀ a b c,P [a,b,c]):∀ us:List Value,us.length=3->P us
 |[a,b,c],_=>h a b c
section
variable {st:Stmt}
theorem zWP {d:Df X.K X.mg x st ps} (F:FnOk X.prog X.w X.K X.mg X.base CX0 k d.f d.fd ps (spF X.K (e::es).length g)) (hr:Room k X.A) (hg:Gl X x)
  (ha:QA X (e::es) fa) (hl:∀ σ M ds M1,fa σ M=some (ds,M1)->ds.length=(e::es).length) (hdb:(x==("__debug__" : Str))=false) (he:starEach (e::es) X.env=(false,eval e X.env)::starEach es X.env) (hpl:(backTo pos (starEach es X.env)).any (·.1)=false) :
  QE X (.Call (.Name x p) (e::es) [] pos) (zK g fa):=zTk F hr hg d.m d.F.kp d.b ha hl hdb he hpl
theorem zWR (hN:X.N.Nodup) (hi:X.N[i]?=some x) (h:QE X e f) (hx:Loc X.env.scope x:=by first|exact Or.inl rfl|exact Or.inr rfl) (hs:swapsWith e (some (.Name x pos')) pos.line X.env=pure false:=by rfl)
  (hf:X.fn x=true\/X.env.scope.names.lookup x=some .local:=by first|exact .inl rfl|exact .inr rfl|assumption):QS X (.Assign [.Name x pos'] e pos) (zi i f):=zU3 hN hi hx h hs hf
theorem zVj (hN:X.N.Nodup) (hi:X.N[i]?=some x) (hx:Loc X.env.scope x:=by first|exact Or.inl rfl|exact Or.inr rfl) (hf:X.fn x=true\/X.env.scope.names.lookup x=some .local:=by first|exact .inl rfl|exact .inr rfl|assumption):PG X (.Name x pos) (zDo i):=zKA hN hi hx hf
end
theorem zMt:∀ {ys:List V} {us:Yf},ys.length=us.length->(∀ (i:Nat) y u,ys[i]?=some y->us[i]?=some u->zt y u)->za ys us
 |[],[],_,_=> .nil
 |[],_::_,h,_=>by cases h
 |_::_,[],h,_=>by cases h
 |y::ys,u::us,h,q=> .cons (q 0 y u rfl rfl) (zMt (Nat.succ.inj h) λi y' u' e1 e2=>q (i+1) y' u' (by simpa using e1) (by simpa using e2))
end L3
namespace ST
open PySem PySem.Spec PyProof.Rows
end ST
namespace L3
open PySem PySem.Spec PyProof.Rows L2 ST
end L3
namespace ST
open PySem PySem.Spec PyProof.Rows
end ST
namespace L3
open PySem PySem.Spec PyProof.Rows L2 ST
end L3
namespace L2
open PySem PySem.Spec PyProof.Rows
end L2
namespace L3
open PySem PySem.Spec PyProof.Rows L2
end L3
namespace L2
open PySem PySem.Spec PyProof.Rows ST
end L2
namespace L3
open PySem PySem.Spec PyProof.Rows L2 ST
section
variable {prog:Ym} {w:Yo} {A:Yn} {E:Yc} {s:Yl}
theorem zEx (h:Q (s.heap.get? a) s):wpAny (model prog w) A (loadIfAlive a) Q E s:=λΓ p _=>by
 unfold loadIfAlive;rw[Sem.wp_loadIfAlive];simpa using h
abbrev zFP (f:Value) (g:Bool) (TI TO:Addr):Obj:={ cls:=.type "zip", dict:=none,data:=.fields #[f,.bool g,.bool false,.ref TI,.ref TO],slots:=#[] }
structure ZipA (b1 b2:Bool) (h:Heap) (z TI TO i1 i2 t1 t2:Yt) (k:Nat):Prop where
 z:∃ f g,(f=.none \/ ∃ T:Addr,f=rawInt T)/\h.get? z=some (zFP f g TI TO)
 ti:IsPair h TI (.ref i1) (.ref i2)
 to:∃ a b,IsPair h TO a b
 a:SI b1 h i1 t1 k
 b:SI b2 h i2 t2 k
theorem zMu {z TI TO:Yt} {f:Yu} {g:Bool} {Q:Bool->Shared->Prop} (hf:f=.none \/ ∃ T:Addr,f=rawInt T) (Z0:s.heap.get? z=some (zFP f g TI TO)) (qt:Q true s) (qf:∀ h' g',h'.get? z=some (zFP f g' TI TO)->Heap.SameBut z s.heap h'->Q false { s with heap:=h' }):wpAny (model prog w) A (Builtin.SmallTypes.ownedTupleIsFree (.ref z)) Q E s:=by
 unfold Builtin.SmallTypes.ownedTupleIsFree;rcases hf with rfl|⟨T,rfl⟩
 .exact zWl (zXQ Z0 rfl (x:=.none) rfl (zWn qt))
 .refine zWl (zXQ Z0 rfl (x:=rawInt T) rfl ?_);unfold rawInt;dsimp only;refine zWl (zEx ?_);cases AT:s.heap.get? ((T:Int)).toNat with
  |none=>exact zWn qt
  |some o=>
   simp only[Option.isNone_some,zXm,if_false];refine zWl (zXQ Z0 rfl (x:=.bool g) rfl ?_);cases g
   .rw[zW0 (by decide)];exact zWl (wpAny_setField_rec Z0 (by simp) λh1 Z1 e1=>zWn (qf h1 true Z1 e1))
   .rw[zW3 (by decide)];exact zWn (qf s.heap true Z0 (Heap.SameBut.refl _ _))
theorem zOE {b1 b2:Bool} {z TI TO i1 i2 t1 t2:Yt} {k:Nat} {xs ys:Yp} {x y:Yu} {Q:Option Value->Shared->Prop} (D:ZipApart z TI TO i1 i2 t1 t2) (Z:ZipA b1 b2 s.heap z TI TO i1 i2 t1 t2 k)
  (T1:SO b1 s.heap t1 xs) (T2:SO b2 s.heap t2 ys) (hx:xs[k]?=some x) (hy:ys[k]?=some y)
  (q:∀ h',ZipA b1 b2 h' z TI TO i1 i2 t1 t2 (k+1)->IsPair h' s.heap.objs.size x y ->
   (∀ c o,c∉[z,TO,i1,i2]->s.heap.get? c=some o->h'.get? c=some o)->Q (some (.ref s.heap.objs.size)) { s with heap:=h' }):wpAny (model prog w) A (pyNext (.ref z)) Q E s:=by
 obtain ⟨⟨f,g,hf,Z0⟩,P0,⟨a,b,O0⟩,I1,I2⟩:=Z;have ty:s.TypeIs (.ref z) "zip" := ⟨_,Z0,rfl⟩;unfold pyNext;refine zWl (wpAny_attempt (zXN (name:=Str.ofString "__next__") ty PySem.F.slot_zip_next (zXO PySem.F.slot_zip_next ty PySem.F.entry_zip_next ?_ (PySem.F.args_zip_next_1 _))));refine zWl (m:=field (.ref z) 2) (zXQ Z0 rfl (x:=.bool false) rfl ?_);refine zWl (m:=field (.ref z) 3) (zXQ Z0 rfl (x:=.ref TI) rfl ?_);refine zWl (zXb P0 rfl ?_);refine zWl (m:=Builtin.SmallTypes.ownedTupleIsFree (.ref z)) (zMu hf Z0 ?_ λh1 g' Z1 e1=>?_)
 .rw[zW0 rfl];refine zWl (zX8 (zWl (zXQ Z0 rfl (x:=.ref TO) rfl (zWl (wpAny_setField_rec Z0 (by simp) λh1 Z1 e1=>?_)))));replace Z1:h1.get? z=some (zFP .ellipsis g TI TO):=Z1;refine zWl ?_;simp only[List.forIn_cons,List.forIn_nil,List.zipIdx_cons,List.zipIdx_nil];refine zWl (zWl (wpAny_onRaise (zWl (m:=Builtin.SmallTypes.nextOf (.ref i1)) (zBw (SI.but I1 e1.extBut D.i1z) (SO.but T1 e1.extBut D.l1z) hx λh2 J1 e2=>zWn ?_))));have O2:IsPair h2 TO a b:=e2.extBut _ _ D.TOi1 (e1.extBut _ _ D.TOz O0);refine zWl (zXb O2 rfl (zWl (wpAny_updateSeq_pair O2 λh3 O3 e3=>zWl (wpAny_letGo (zWn ?_)))));replace O3:IsPair h3 TO x b:=O3
  refine zWl (zWl (wpAny_onRaise (zWl (m:=Builtin.SmallTypes.nextOf (.ref i2)) (zBw (SI.but (SI.but (SI.but I2 e1.extBut D.i2z) e2.extBut D.i12.symm) e3.extBut D.TOi2.symm)
   (SO.but (SO.but (SO.but T2 e1.extBut D.l2z) e2.extBut D.l2i1) e3.extBut D.l2TO) hy λh4 J2 e4=>zWn ?_))))
  have O4:IsPair h4 TO x b:=e4.extBut _ _ D.TOi2 O3;refine zWl (zXb O4 rfl (zWl (wpAny_updateSeq_pair O4 λh5 O5 e5=>zWl (wpAny_letGo (zWn (zWn ?_))))));replace O5:IsPair h5 TO x y:=O5;refine zWl (zXb O5 rfl (zWl (wpAny_newTuple ?_)));have sz:h5.objs.size=s.heap.objs.size:=by rw[e5.1,e4.1,e3.1,e2.1,e1.1]
  have Z5:h5.get? z=some (zFP .ellipsis g TI TO):=e5.extBut _ _ D.TOz.symm (e4.extBut _ _ D.i2z.symm (e3.extBut _ _ D.TOz.symm (e2.extBut _ _ D.i1z.symm Z1)));have kp:∀ c o,c∉[z,TO,i1,i2]->s.heap.get? c=some o->h5.get? c=some o:=λc o n e=>by
   simp only[zWx,zXG,zX6,not_or]at n;obtain ⟨n1,n2,n3,n4⟩:=n;exact e5.extBut _ _ n2 (e4.extBut _ _ n4 (e3.extBut _ _ n2 (e2.extBut _ _ n3 (e1.extBut _ _ n1 e))))
  have A5:SI b1 h5 i1 t1 (k+1):=SI.but (SI.but (SI.but J1 e3.extBut D.TOi1.symm) e4.extBut D.i12) e5.extBut D.TOi1.symm;have B5:SI b2 h5 i2 t2 (k+1):=SI.but J2 e5.extBut D.TOi2.symm;have zl:z<h5.objs.size:=zWw Z5;refine zWl (m:=Builtin.SmallTypes.ownedTupleHandOut (.ref z) (.ref h5.objs.size)) ?_;unfold Builtin.SmallTypes.ownedTupleHandOut;have Z6:(h5.push { cls:=.type "tuple", data:=.seq #[x,y] }).get? z=some (zFP .ellipsis g TI TO):=zWm _ Z5;refine zWl (wpAny_setField_rec Z6 (by simp) λh7 Z7 e7=>?_);replace Z7:h7.get? z=some (zFP (rawInt h5.objs.size) g TI TO):=Z7;refine wpAny_setField_rec Z7 (by simp) λh8 Z8 e8=>?_;replace Z8:h8.get? z=some (zFP (rawInt h5.objs.size) false TI TO):=Z8;have up:∀ c o,c≠z->h5.get? c=some o->h8.get? c=some o:=λc o n e=>e8.extBut _ _ n (e7.extBut _ _ n (zWm _ e));have N8:IsPair h8 h5.objs.size x y:=e8.extBut _ _ (zYG zl) (e7.extBut _ _ (zYG zl) (zWv _ rfl));rw[sz]at Z8 N8;refine zWn ⟨_,rfl,?_⟩;rw[sz];refine zWn (q h8 ⟨⟨_,false,.inr ⟨_,rfl⟩,Z8⟩,up _ _ D.TIz (kp _ _ (by simp[D.TIz,D.TITO,D.TIi1,D.TIi2]) P0),⟨_,_,up _ _ D.TOz O5⟩,?_,?_⟩ N8 λc o n e=>up c o (λm=>n (by simp[m])) (kp c o n e))
  .exact A5.keep λo e=>up _ o D.i1z e
  .exact B5.keep λo e=>up _ o D.i2z e
 .rw[zW3 (by decide)];dsimp only;rw[<-Array.forIn_toList];simp only[List.forIn_cons,List.forIn_nil];refine zWl (zWl (zWl (zXe (zWl (m:=Builtin.SmallTypes.nextOf (.ref i1)) (zBw (SI.but I1 e1.extBut D.i1z) (SO.but T1 e1.extBut D.l1z) hx λh2 J1 e2=>zWn (zWn ?_))))));refine zWl (zWl (zXe (zWl (m:=Builtin.SmallTypes.nextOf (.ref i2)) (zBw (SI.but (SI.but I2 e1.extBut D.i2z) e2.extBut D.i12.symm) (SO.but (SO.but T2 e1.extBut D.l2z) e2.extBut D.l2i1) hy λh4 J2 e4=>zWn (zWn (zWn ?_))))));have sz:h4.objs.size=s.heap.objs.size:=by rw[e4.1,e2.1,e1.1]
  have kp:∀ c o,c∉[z,i1,i2]->s.heap.get? c=some o->h4.get? c=some o:=λc o n e=>by
   simp only[zWx,zXG,zX6,not_or]at n;exact e4.extBut _ _ n.2.2 (e2.extBut _ _ n.2.1 (e1.extBut _ _ n.1 e))
  have Z4:h4.get? z=some (zFP f g' TI TO):=e4.extBut _ _ D.i2z.symm (e2.extBut _ _ D.i1z.symm Z1);refine zWl (wpAny_newTuple (hsz:=by show 2<=sizeLine;rw[sizeLine_eq];omega) (zWn ⟨_,rfl,?_⟩));have up:∀ c o,h4.get? c=some o->(h4.push { cls:=.type "tuple", data:=.seq #[x,y] }).get? c=some o:=λc o e=>zWm _ e;have N8:IsPair (h4.push { cls:=.type "tuple", data:=.seq #[x,y] }) h4.objs.size x y:=zWv _ rfl;rw[sz]at N8;show wpAny _ _ (pure (some (Value.ref h4.objs.size))) _ _ _;rw[sz];refine zWn (q _ ⟨⟨f,g',hf,up _ _ Z4⟩,up _ _ (kp _ _ (by simp[D.TIz,D.TIi1,D.TIi2]) P0),⟨a,b,up _ _ (kp _ _ (by simp[D.TOz,D.TOi1,D.TOi2]) O0)⟩,?_,?_⟩ N8 λc o n e=>up c o (kp c o (λm=>n (by simp only[zWx,zXG,zX6]at m ⊢;rcases m with m|m|m <;> simp[m])) e))
  .exact (SI.but J1 e4.extBut D.i12).keep λo e=>up _ o e
  .exact J2.keep λo e=>up _ o e
theorem zPM {b1 b2:Bool} {z TI TO i1 i2 t1 t2:Yt} {k:Nat} {xs ys:Yp} {Q:Option Value->Shared->Prop} (hh:A.handled=none) (D:ZipApart z TI TO i1 i2 t1 t2) (Z:ZipA b1 b2 s.heap z TI TO i1 i2 t1 t2 k)
  (T1:SO b1 s.heap t1 xs) (T2:SO b2 s.heap t2 ys) (he:xs[k]?=none\/ys[k]?=none)
  (q:∀ h',(∀ c o,c∉[z,TO,i1,i2]->s.heap.get? c=some o->h'.get? c=some o)->Q none { s with heap:=h' }):wpAny (model prog w) A (pyNext (.ref z)) Q E s:=by
 obtain ⟨⟨f,g,hf,Z0⟩,P0,⟨a,b,O0⟩,I1,I2⟩:=Z;have ty:s.TypeIs (.ref z) "zip" := ⟨_,Z0,rfl⟩
 have stop:∀ (e:Addr) (h':Heap),(∀ c o,c∉[z,TO,i1,i2]->s.heap.get? c=some o->h'.get? c=some o)->(∃ o,h'.get? e=some o/\o.cls=.type "StopIteration") ->
   wpAny (model prog w) A (do if (<- isInstance (.ref e) (.type "StopIteration")) then pure none else throw (.ref e):Sem (Option Value)) Q E { s with heap:=h' }:=λe h' k1 ⟨o,e1,e2⟩=>
  zWl (wpAny_isInstance (T := "StopIteration") (b:=true) ⟨o,e1,e2⟩ isSubtype_stop (zWn (q h' k1)))
 unfold pyNext;refine zWl (wpAny_attempt (zXN (name:=Str.ofString "__next__") ty PySem.F.slot_zip_next (zXO PySem.F.slot_zip_next ty PySem.F.entry_zip_next ?_ (PySem.F.args_zip_next_1 _))));refine zWl (m:=field (.ref z) 2) (zXQ Z0 rfl (x:=.bool false) rfl ?_);refine zWl (m:=field (.ref z) 3) (zXQ Z0 rfl (x:=.ref TI) rfl ?_);refine zWl (zXb P0 rfl ?_);refine zWl (m:=Builtin.SmallTypes.ownedTupleIsFree (.ref z)) (zMu hf Z0 ?_ λh1 g' Z1 e1=>?_)
 .rw[zW0 rfl];refine zWl (zX8 (zWl (zXQ Z0 rfl (x:=.ref TO) rfl (zWl (wpAny_setField_rec Z0 (by simp) λh1 Z1 e1=>?_)))));replace Z1:h1.get? z=some (zFP .ellipsis g TI TO):=Z1;refine zWl ?_;simp only[List.forIn_cons,List.forIn_nil,List.zipIdx_cons,List.zipIdx_nil];cases hx:xs[k]? with
  |none=>
   refine zWl (zWl (wpAny_onRaise (zWl (m:=Builtin.SmallTypes.nextOf (.ref i1)) (zEK hh (SI.but I1 e1.extBut D.i1z) (SO.but T1 e1.extBut D.l1z) hx λh2 e e2 he=>?_))));obtain ⟨oe,o1,o2⟩:=he;have Z2:h2.get? z=some (zFP .ellipsis g TI TO):=e2 _ _ D.i1z.symm Z1;have ne:e≠z:=λm=>by subst m;rw[Z2]at o1;cases o1;simp at o2
   refine wpAny_setField_rec Z2 (by simp) λh3 _ e3=>stop e h3 (λc o n x=>?_) ⟨oe,e3.extBut _ _ ne o1,o2⟩;simp only[zWx,zXG,zX6,not_or]at n;exact e3.extBut _ _ n.1 (e2 _ _ n.2.2.1 (e1.extBut _ _ n.1 x))
  |some x=>
   have hy:ys[k]?=none:=by
    rcases he with m|m
    .rw[hx]at m;cases m
    .exact m
   refine zWl (zWl (wpAny_onRaise (zWl (m:=Builtin.SmallTypes.nextOf (.ref i1)) (zBw (SI.but I1 e1.extBut D.i1z) (SO.but T1 e1.extBut D.l1z) hx λh2 J1 e2=>zWn ?_))));have O2:IsPair h2 TO a b:=e2.extBut _ _ D.TOi1 (e1.extBut _ _ D.TOz O0);refine zWl (zXb O2 rfl (zWl (wpAny_updateSeq_pair O2 λh3 O3 e3=>zWl (wpAny_letGo (zWn ?_)))))
   refine zWl (zWl (wpAny_onRaise (zWl (m:=Builtin.SmallTypes.nextOf (.ref i2)) (zEK hh (SI.but (SI.but (SI.but I2 e1.extBut D.i2z) e2.extBut D.i12.symm) e3.extBut D.TOi2.symm)
    (SO.but (SO.but (SO.but T2 e1.extBut D.l2z) e2.extBut D.l2i1) e3.extBut D.l2TO) hy λh4 e e4 he=>?_))))
   obtain ⟨oe,o1,o2⟩:=he;have Z4:h4.get? z=some (zFP .ellipsis g TI TO):=e4 _ _ D.i2z.symm (e3.extBut _ _ D.TOz.symm (e2.extBut _ _ D.i1z.symm Z1));have ne:e≠z:=λm=>by subst m;rw[Z4]at o1;cases o1;simp at o2
   refine wpAny_setField_rec Z4 (by simp) λh5 _ e5=>stop e h5 (λc o n x=>?_) ⟨oe,e5.extBut _ _ ne o1,o2⟩;simp only[zWx,zXG,zX6,not_or]at n;exact e5.extBut _ _ n.1 (e4 _ _ n.2.2.2 (e3.extBut _ _ n.2.1 (e2.extBut _ _ n.2.2.1 (e1.extBut _ _ n.1 x))))
 .rw[zW3 (by decide)];dsimp only;rw[<-Array.forIn_toList];simp only[List.forIn_cons,List.forIn_nil];cases hx:xs[k]? with
  |none=>
   refine zWl (zWl (zWl (zXe (zWl (m:=Builtin.SmallTypes.nextOf (.ref i1)) (zEK hh (SI.but I1 e1.extBut D.i1z) (SO.but T1 e1.extBut D.l1z) hx λh2 e e2 he=>?_)))));refine stop e h2 (λc o n x=>?_) he;simp only[zWx,zXG,zX6,not_or]at n;exact e2 _ _ n.2.2.1 (e1.extBut _ _ n.1 x)
  |some x=>
   have hy:ys[k]?=none:=by
    rcases he with m|m
    .rw[hx]at m;cases m
    .exact m
   refine zWl (zWl (zWl (zXe (zWl (m:=Builtin.SmallTypes.nextOf (.ref i1)) (zBw (SI.but I1 e1.extBut D.i1z) (SO.but T1 e1.extBut D.l1z) hx λh2 J1 e2=>zWn (zWn ?_))))));refine zWl (zWl (zXe (zWl (m:=Builtin.SmallTypes.nextOf (.ref i2)) (zEK hh (SI.but (SI.but I2 e1.extBut D.i2z) e2.extBut D.i12.symm) (SO.but (SO.but T2 e1.extBut D.l2z) e2.extBut D.l2i1) hy λh4 e e4 he=>?_))));refine stop e h4 (λc o n x=>?_) he;simp only[zWx,zXG,zX6,not_or]at n;exact e4 _ _ n.2.2.2 (e2.extBut _ _ n.2.2.1 (e1.extBut _ _ n.1 x))
theorem zVe {z TI TO:Yt} {f:Yu} {g:Bool} {Q:Yc} (Z0:s.heap.get? z=some (zFP f g TI TO)) (h:Q (.ref z) s):wpAny (model prog w) A (pyIter (.ref z)) Q E s :=
 have ty:s.TypeIs (.ref z) "zip" := ⟨_,Z0,rfl⟩;wpAny_pyIter_slot ty PySem.F.slot_zip_iter (zXO PySem.F.slot_zip_iter ty PySem.F.entry_zip_iter (show wpAny _ _ (ret (.ref z)) _ _ s from zWn ⟨_,rfl, "zip", _,ty,PySem.F.slot_zip_next.lookup,h⟩) (PySem.F.args_zip_iter_1 _))
end
theorem zMT:typeLookup (.type "zip") "__len__" = pure none:=by rw[typeLookup_type,builtinLookup_eq_fast];kernel_rfl
theorem zLO:typeLookup (.type "zip") "__length_hint__" = pure none:=by rw[typeLookup_type,builtinLookup_eq_fast];kernel_rfl
structure Col (h0:Heap) (S:Yt) (xs ys:Yf) (Ts:Yg) (h:Heap):Prop where
 kp:∀ b o,h0.get? b=some o->h.get? b=some o
 lst:∃ c,h.get? S=some { cls:=.type "list", dict:=none,data:=.seq (Ts.map Value.ref).toArray c,slots:=#[] }
 nd:Ts.Nodup
 up:∀ (j:Nat) T,Ts[j]?=some T->S<T /\ ∃ x y,xs[j]?=some x/\ys[j]?=some y/\IsPair h T x y
theorem Col.move {h0 h h':Heap} {S:Yt} {xs ys:Yf} {Ts:Yg} {ch:Yg} (C:Col h0 S xs ys Ts h) (hc:∀ b∈ch,h0.objs.size<=b/\b<S) (k:∀ c o,c∉ch->h.get? c=some o->h'.get? c=some o):Col h0 S xs ys Ts h' where
 kp:=λb o e=>k b o (λm=>absurd (zWw e) (Nat.not_lt.mpr (hc b m).1)) (C.kp b o e);lst:=let ⟨c,e⟩:=C.lst;⟨c,k S _ (λm=>absurd (hc S m).2 (zXT _)) e⟩;nd:=C.nd;up:=λj T e=>by
  obtain ⟨l,x,y,e1,e2,p⟩:=C.up j T e;exact ⟨l,x,y,e1,e2,k T _ (λm=>absurd (Nat.lt_trans l (hc T m).2) (zXT _)) p⟩
section
variable {prog:Ym} {w:Yo} {A:Yn} {E:Yc} {R:Yx} {s0:Yl}
theorem zPG {b1 b2:Bool} {z TI TO i1 i2 t1 t2 S:Yt} {xs ys:Yf} {res:Yu} (hh:A.handled=none) (D:ZipApart z TI TO i1 i2 t1 t2) (T1:SO b1 s0.heap t1 xs.toArray) (T2:SO b2 s0.heap t2 ys.toArray) (hn:min xs.length ys.length<=sizeLine)
  (hch:∀ b∈[z,TO,i1,i2],s0.heap.objs.size<=b/\b<S) (hTI:S≠TI)
  (hR:∀ h' Ts,Col s0.heap S xs ys Ts h'->Ts.length=min xs.length ys.length->R (.ok (.ret res)) { s0 with heap:=h' }) :
  ∀ (k:Nat) (h:Heap) (Ts:Yg),min xs.length ys.length-Ts.length=k->Ts.length<=min xs.length ys.length->ZipA b1 b2 h z TI TO i1 i2 t1 t2 Ts.length->Col s0.heap S xs ys Ts h ->
  codeAny (model prog w) A (.builtin "list.extend.loop" ⟨[.ref S,.ref z,res],[]⟩) R { s0 with heap:=h }:=by
 intro k;induction k with
 |zero=>
  intro h Ts hk hl Z C;refine zXq PySem.F.entry_extend_loop ?_;rw[zXg PySem.F.plain_extend_loop _];show wpAny _ A.in1 (pyNext (.ref z) >>= _) _ _ _;refine zWl (zPM (s:={ s0 with heap:=h }) hh D Z (T1.keep λo e=>C.kp _ o e) (T2.keep λo e=>C.kp _ o e) ?_ λh' kp=>?_)
  .rcases (show xs.length<=Ts.length\/ys.length<=Ts.length by omega)with q|q
   .exact .inl (by simp;omega)
   .exact .inr (by simp;omega)
  .exact zWn (hR h' Ts (C.move hch kp) (by omega))
 |succ k ih=>
  intro h Ts hk hl Z C;have l1:Ts.length<xs.length:=by omega
  have l2:Ts.length<ys.length:=by omega
  refine zXq PySem.F.entry_extend_loop ?_;rw[zXg PySem.F.plain_extend_loop _];show wpAny _ A.in1 (pyNext (.ref z) >>= _) _ _ _;refine zWl (zOE (s:={ s0 with heap:=h }) D Z (T1.keep λo e=>C.kp _ o e) (T2.keep λo e=>C.kp _ o e) (x:=xs[Ts.length]) (y:=ys[Ts.length]) (by simp[l1]) (by simp[l2]) λh' Z' N' kp=>?_);have C':=C.move hch kp;obtain ⟨c,hS⟩:=C'.lst;obtain ⟨c0,hS0⟩:=C.lst;have Slt:S<h.objs.size:=zWw hS0;show wpAny _ A.in1 (updateSeq S (·.push (.ref h.objs.size)) >>= _) _ _ _;refine zWl ?_;have neS:∀ b,b≠S -> ∀ o,h'.get? b=some o->(h'.update S (Obj.mapSeq (·.push (Value.ref h.objs.size)))).get? b=some o:=λb n o e=>(zXS _ _ (Ne.symm n)).trans e;have zS:∀ b∈[z,TO,i1,i2],b≠S:=λb hb=>zW6 (hch b hb).2;refine wpAny_updateSeq (s:={ s0 with heap:=h' }) hS rfl (zWn ⟨plainId_quiet PySem.F.plain_extend_loop _,ih _ (Ts++[h.objs.size]) (by simp;omega) (by simp;omega) ?_ ?_⟩) (by simp;omega) (by simp;omega)
  .obtain ⟨⟨f,g,hf,Z0⟩,P0,⟨x,y,O0⟩,I1,I2⟩:=Z';rw[zW1,List.length_singleton];exact ⟨⟨f,g,hf,neS z (zS z (by simp)) _ Z0⟩,neS TI (Ne.symm hTI) _ P0,⟨x,y,neS TO (zS TO (by simp)) _ O0⟩,I1.keep λo e=>neS i1 (zS i1 (by simp)) o e,I2.keep λo e=>neS i2 (zS i2 (by simp)) o e⟩
  .refine ⟨λb o e=>?_,?_,?_,λj T e=>?_⟩
   .by_cases hb:b=S
    .subst hb;obtain ⟨z1,z2⟩:=hch z (by simp);exact absurd (zWw e) (Nat.not_lt.mpr (zXC z1 (zZh z2)))
    .exact neS b hb o (C'.kp b o e)
   .have e:=zXY (Obj.mapSeq (·.push (Value.ref h.objs.size))) hS rfl;rw[show (Ts++[h.objs.size]).map Value.ref=Ts.map Value.ref++[Value.ref h.objs.size] by simp];exact ⟨_,e.trans (by rw[<-List.push_toArray];rfl)⟩
   .rw[zXz];refine ⟨C.nd,by simp,λa ha b hb q=>?_⟩;have:b=h.objs.size:=by simpa using hb
    subst this;subst q;obtain ⟨j,hj⟩:=List.getElem?_of_mem ha;obtain ⟨_,x,y,_,_,p⟩:=C.up j _ hj;exact absurd (zWw p) (zXT _)
   .by_cases hj:j<Ts.length
    .rw[zWs hj]at e;obtain ⟨l,x,y,e1,e2,p⟩:=C'.up j T e;exact ⟨l,x,y,e1,e2,neS T (zYG l) _ p⟩
    .rw[zXv (by omega)]at e;have hj2:j=Ts.length:=by
      have:=(zWo.mp e).1;simp at this;omega
     subst hj2;simp at e;subst e;exact ⟨Slt,_,_,zWp l1,zWp l2,neS _ (zYG Slt) _ N'⟩
theorem zMc {b1 b2:Bool} {z TI TO i1 i2 t1 t2 S:Yt} {xs ys:Yf} {res:Yu} {h:Heap} {c:Nat} (hh:A.handled=none) (D:ZipApart z TI TO i1 i2 t1 t2) (T1:SO b1 s0.heap t1 xs.toArray) (T2:SO b2 s0.heap t2 ys.toArray) (hn:min xs.length ys.length<=sizeLine)
  (hch:∀ b∈[z,TO,i1,i2],s0.heap.objs.size<=b/\b<S) (hTI:S≠TI)
  (hR:∀ h' Ts,Col s0.heap S xs ys Ts h'->Ts.length=min xs.length ys.length->R (.ok (.ret res)) { s0 with heap:=h' })
  (Z:ZipA b1 b2 h z TI TO i1 i2 t1 t2 0) (hS:h.get? S=some { cls:=.type "list", data:=.seq #[] c }) (kp:∀ b o,s0.heap.get? b=some o->h.get? b=some o) :
  wpAny (model prog w) A.in1 (Builtin.List.listExtendWith (.ref S) (.ref z) res)
   (λfin s'=>match fin with|.done f=>R (.ok f) s'|.again c'=>c'.quiet=true/\codeAny (model prog w) A c' R s') (λe s'=>R (.error e) s') { s0 with heap:=h }:=by
 have zS:∀ b∈[z,TO,i1,i2],b≠S:=λb hb=>zW6 (hch b hb).2;have hSz:S≠z:=Ne.symm (zS z (by simp));obtain ⟨⟨f,g,hf,Z0⟩,P0,⟨x,y,O0⟩,I1,I2⟩:=Z;have ty:Shared.TypeIs { s0 with heap:=h } (.ref z) "zip" := ⟨_,Z0,rfl⟩;unfold Builtin.List.listExtendWith;refine zWl (wpAny_typeOf ty ?_);have h1:Builtin.List.listSameRef (.ref S) (.ref z)=false:=by simp[Builtin.List.listSameRef,hSz]
 have h2:(Value.type "zip" == Value.type "list")=false:=by decide
 have h3:(Value.type "zip" == Value.type "tuple")=false:=by decide
 simp only[h1,h2,h3,Bool.or_false,zXm,if_false];refine zWl (zVe (s:={ s0 with heap:=h }) Z0 ?_);refine zWl (zXe ?_);unfold Builtin.List.listLengthHint;refine zWl (wpAny_specialOf ty zMT ?_);show wpAny _ A.in1 (specialOf (Value.ref z) (Str.ofString "__length_hint__") >>= _) _ _ _;refine zWl (wpAny_specialOf ty zLO ?_);refine zWn ?_;show wpAny _ A.in1 (rule "list.extend.makes-room" >>= λ_=>Builtin.List.listTouch (.ref S) >>= λ_=>
  again (.builtin "list.extend.loop" ⟨[.ref S,.ref z,res],[]⟩)) _ _ _
 refine zWl (zX8 ?_);refine zWl ?_;show wpAny _ A.in1 (updateSeq S (·.push .none) >>= λ_=>updateSeq S (·.pop)) _ _ _;refine zWl (wpAny_updateSeq (s:={ s0 with heap:=h }) hS rfl ?_);have hS₂:=zXY (Obj.mapSeq (·.push Value.none)) hS rfl;refine wpAny_updateSeq (hz:=by seq_fits) hS₂ rfl ?_;have hS₃:=zXY (Obj.mapSeq (·.pop)) hS₂ rfl;have oth:∀ b o,b≠S->h.get? b=some o->((h.update S (Obj.mapSeq (·.push Value.none))).update S (Obj.mapSeq (·.pop))).get? b=some o :=
  λb o hb e=>(zXS _ _ (Ne.symm hb)).trans ((zXS _ _ (Ne.symm hb)).trans e)
 refine zWn ⟨plainId_quiet PySem.F.plain_extend_loop _,zPG hh D T1 T2 hn hch hTI hR _ _ [] rfl (zXX _) ?_ ?_⟩
 .exact ⟨⟨f,g,hf,oth z _ (zS z (by simp)) Z0⟩,oth TI _ (Ne.symm hTI) P0,⟨x,y,oth TO _ (zS TO (by simp)) O0⟩,I1.keep λo e=>oth i1 o (zS i1 (by simp)) e,I2.keep λo e=>oth i2 o (zS i2 (by simp)) e⟩
 .refine ⟨λb o e=>oth b o (λm=>?_) (kp b o e),⟨_,hS₃⟩,.nil,λj T e=>by simp at e⟩;subst m;obtain ⟨z1,z2⟩:=hch z (by simp);exact absurd (zWw e) (Nat.not_lt.mpr (zXC z1 (zZh z2)))
theorem zQG {b1 b2:Bool} {z TI TO i1 i2 t1 t2:Yt} {xs ys:Yf} {h:Heap} {Q:Yc} (hh:A.handled=none) (D:ZipApart z TI TO i1 i2 t1 t2) (T1:SO b1 s0.heap t1 xs.toArray) (T2:SO b2 s0.heap t2 ys.toArray) (hn:min xs.length ys.length<=sizeLine)
  (hch:∀ b∈[z,TO,i1,i2],s0.heap.objs.size<=b) (Z:ZipA b1 b2 h z TI TO i1 i2 t1 t2 0) (kp:∀ b o,s0.heap.get? b=some o->h.get? b=some o)
  (hQ:∀ h' Ts,Col s0.heap h.objs.size xs ys Ts h'->Ts.length=min xs.length ys.length->Q (.ref h.objs.size) { s0 with heap:=h' }) :
  wpAny (model prog w) A (call (.type "list") [.ref z]) Q E { s0 with heap:=h }:=by
 refine callType_codes (Q₁:=λobj s₁=>obj=.ref h.objs.size/\s₁={ s0 with heap:=h.push { cls:=.type "list", data:=.seq #[] } }) PySem.F.called_list (PySem.F.typeCall_list_1 _) PySem.F.entry_list_init
  (code_list_new _ ⟨rfl,rfl⟩) λobj s₁ h₁=>?_
 obtain ⟨rfl,rfl⟩:=h₁;have hS:(h.push { cls:=.type "list", data:=.seq #[] }).get? h.objs.size=some { cls:=.type "list", data:=.seq #[] }:=zWv _ rfl;obtain ⟨⟨f,g,hf,Z0⟩,P0,⟨x,y,O0⟩,I1,I2⟩:=Z;refine ⟨⟨_,hS,rfl⟩,PySem.F.args_list_init_2 _ _,?_⟩;show wpAny _ _ (do let old <- Builtin.List.listItems (.ref h.objs.size);Builtin.List.listUpdate (.ref h.objs.size) (λ_=> #[]);letGo old.toList.reverse;Builtin.List.listExtendWith (.ref h.objs.size) (.ref z) .none) _ _ _;refine zWl ?_;unfold Builtin.List.listItems;refine zWl (zXb hS rfl (zWn ?_));show wpAny _ _ (updateSeq h.objs.size (λ_=> #[]) >>= λ_=>letGo (#[]:Array Value).toList.reverse >>= λ_=>Builtin.List.listExtendWith (.ref h.objs.size) (.ref z) .none) _ _ _;refine zWl (wpAny_updateSeq hS rfl ?_);have hS₂:=zXY (Obj.mapSeq (λ_=>(#[]:Array Value))) hS rfl;have oth:∀ b o,h.get? b=some o->((h.push { cls:=.type "list", data:=.seq #[] }).update h.objs.size (Obj.mapSeq (λ_=>(#[]:Array Value)))).get? b=some o :=
  λb o e=>(zXS _ _ (zYG (zWw e))).trans (zWm _ e)
 refine zWl (wpAny_letGo ?_);have lt:∀ b∈[z,TO,i1,i2],b<h.objs.size:=λb hb=>by
  obtain ⟨o1,e1,_⟩:=I1.obj;obtain ⟨o2,e2,_⟩:=I2.obj;simp only[zWx,zXG,zX6]at hb;rcases hb with rfl|rfl|rfl|rfl
  .exact zWw Z0
  .exact zWw O0
  .exact zWw e1
  .exact zWw e2
 refine zMc (s0:=s0) (A:=A.in1) hh D T1 T2 hn (λb hb=>⟨hch b hb,lt b hb⟩) (zYG (zWw P0)) (λh' Ts C l=>⟨rfl,hQ h' Ts C l⟩) ?_ hS₂ λb o e=>oth b o (kp b o e);exact ⟨⟨f,g,hf,oth z _ Z0⟩,oth TI _ P0,⟨x,y,oth TO _ O0⟩,I1.keep λo e=>oth i1 o e,I2.keep λo e=>oth i2 o e⟩
end
section
variable {X:Cx} {zB:Yd} {σ:L2.St} {s:Yl}
theorem zIK:∀ (Ts:Yg) (ps:List (V × V)) (H:Hp),Inv X zB σ H s->Ts.length=ps.length->Ts.Nodup->(∀ T∈Ts,zCI X zB H T/\X.s₀.heap.objs.size<=T) ->
  (∀ (j:Nat) T p,Ts[j]?=some T->ps[j]?=some p -> ∃ x y,zt p.1 x/\zt p.2 y/\IsPair s.heap T x y) ->
  ∃ H',Inv X zB σ H' s/\(∀ a o,H a=some o->H' a=some o)/\(∀ a,a∉Ts->H' a=H a) /\ ∀ (j:Nat) T p,Ts[j]?=some T->ps[j]?=some p->H' T=some (.tup [p.1,p.2])
 |[],ps,H,I,_,_,_,_=>⟨H,I,λ_ _ e=>e,λ_ _=>rfl,λj T p e _=>by simp at e⟩
 |T::Ts,[],H,I,hl,_,_,_=>by simp at hl
 |T::Ts,p::ps,H,I,hl,nd,fp,hp=>by
  obtain ⟨⟨f0,f1,f2,f3,f4,f5⟩,g0⟩:=fp T (by simp);obtain ⟨x,y,rx,ry,q⟩:=hp 0 T p rfl rfl;have nT:T∉Ts:=(zX5.mp nd).1;have I2:Inv X zB σ (upd H T (.tup [p.1,p.2])) s:=I.trackAt q f0 g0 f1 f4 f5 ⟨by show 2<=sizeLine;decide,[x,y],.cons rx (.cons ry .nil),⟨_,q,rfl,⟨_,rfl⟩,rfl⟩⟩;obtain ⟨H',I',up,ot,at'⟩:=zIK Ts ps _ I2 (by simpa using hl) (zX5.mp nd).2 (λU hU=>by
   obtain ⟨⟨a0,a1⟩,b0⟩:=fp U (by simp[hU]);exact ⟨⟨by rw[zZ (show U≠T from λm=>nT (m▸hU))];exact a0,a1⟩,b0⟩) λj U r e1 e2=>hp (j+1) U r (by simpa using e1) (by simpa using e2)
  refine ⟨H',I',λa o e=>up a o (by rw[zZ (zAC e f0)];exact e),λa ha=>?_,λj U r e1 e2=>?_⟩
  .rw[ot a (λm=>ha (by simp[m])),zZ (λm=>ha (by simp[m]))]
  .cases j with
   |zero=>
    simp at e1 e2;subst e1 e2;rw[ot T nT];exact zAD
   |succ j=>exact at' j U r (by simpa using e1) (by simpa using e2)
end
section
variable {X:Cx} {a b:Expr} {p p2 pos pos2:Pos}
theorem zMr (hc:X.calm=true) (hgT:Gl X "list") (hmT:X.mg "list" = none) (hg:Gl X "zip") (hm:X.mg "zip" = none) (ha:PA X [a,b] ta)
  (hs:starEach [a,b] X.env=[(false,eval a X.env),(false,eval b X.env)]:=by rfl) (hs2:starEach [b] X.env=[(false,eval b X.env)]:=by rfl)
  (hs':starEach [.Call (.Name "zip" p2) [a,b] [] pos2] X.env=(false,eval (.Call (.Name "zip" p2) [a,b] [] pos2) X.env)::starEach [] X.env:=by rfl) (hpl':(backTo pos (starEach [] X.env)).any (·.1)=false:=by rfl) :
  PE X (.Call (.Name "list" p) [.Call (.Name "zip" p2) [a,b] [] pos2] [] pos) (λσ H Q=>ta σ H λvs H1=>∃ b1 b2 l1 l2 xs ys,vs=[.ref l1,.ref l2]/\SqG X.K b1 H1 l1 xs/\SqG X.K b2 H1 l2 ys/\min xs.length ys.length<=sizeLine /\
   ∀ (l:Yt) (Ts:Yg) (H':Hp),H1 l=none->Ts.length=min xs.length ys.length->(∀ a o,H1 a=some o->H' a=some o)->H' l=some (.lst (Ts.map V.ref)) ->
    (∀ (j:Nat) T x y,Ts[j]?=some T->xs[j]?=some x->ys[j]?=some y->H' T=some (.tup [x,y]))->Q (.ref l) H'):=by
 intro zB s σ H Q I h;refine wpAny_Call_Name_kw (zEG I hgT hmT (by rfl) ?_ (by decide) (by decide));refine callWith_type1 ?_ hs' hpl';rw[hs'];show wpAny _ _ (spliced ((false,eval (.Call (.Name "zip" p2) [a,b] [] pos2) X.env)::backTo pos (starEach [] X.env))) _ _ s;refine Calls.spliced_cons ?_;refine Call_ (zEG I hg hm (by rfl) (PyProof.Rows.callWith_type1 (thn (ha pos2 zB s σ H _ I h) λus s1 ⟨vs,H1,I1,r1,q1⟩=>?_) (by rw[hs,hs2]) (by rw[hs2];rfl)));obtain ⟨b1,b2,l1,l2,xs,ys,rfl,s1',s2',hz,q⟩:=q1;cases r1 with
 |cons r rr=>
  cases rr with
  |cons r' rr=>
   cases rr;cases r;cases r';obtain ⟨its,rv,p1⟩:=zMG I1 s1';obtain ⟨its2,rv2,p2⟩:=zMG I1 s2';have d1:l1<s1.heap.objs.size:=zUm p1;have d2:l2<s1.heap.objs.size:=zUm p2;have n1:=rv.length;have n2:=rv2.length;refine zRB p1 p2 λh' Z kp=>Calls.spliced_nil ?_;refine zQG (s0:=s1) (I1.ok.hd hc) (zipApart_new d1 d2) p1 p2 (by rw[<-n1,<-n2];exact hz) (λc hc=>?_) ⟨⟨.none,false,.inl rfl,Z.z⟩,Z.ti,Z.to,Z.a,Z.b⟩ kp λh2 Ts C lT=>?_
   .simp only[zWx,zXG,zX6]at hc;rcases hc with rfl|rfl|rfl|rfl
    .exact Nat.le_add_right _ 4
    .exact Nat.le_add_right _ 3
    .exact zWr _
    .exact Nat.le_add_right _ 1
   .have I2:Inv X zB σ H1 { s1 with heap:=h2 }:=I1.kept (t':=s1.toks) C.kp;have gz:s1.heap.objs.size<=h'.objs.size:=zZh (Nat.lt_of_le_of_lt (Nat.le_add_right _ 4) (zWw Z.z));have ge:∀ T∈Ts,h'.objs.size<T:=λT hT=>by
     obtain ⟨j,hj⟩:=List.getElem?_of_mem hT;exact (C.up j T hj).1
    have gs:∀ T,s1.heap.objs.size<=T->zCI X zB H1 T/\X.s₀.heap.objs.size<=T:=λT g=>⟨I1.fpOk g (I1.hok.fresh g),zXC I1.sz g⟩;have lps:(xs.zip ys).length=min xs.length ys.length:=List.length_zip;obtain ⟨H',I',up,ot,at'⟩:=zIK Ts (xs.zip ys) H1 I2 (by rw[lps,lT,<-n1,<-n2]) C.nd (λT hT=>gs T (zXC gz (zZh (ge T hT)))) λj T pr e1 e2=>by
     obtain ⟨_,x,y,ex,ey,pp⟩:=C.up j T e1;obtain ⟨f1,f2⟩:=List.getElem?_zip_eq_some.mp e2;obtain ⟨u,hu,ru⟩:=rv.get f1;obtain ⟨u2,hu2,ru2⟩:=rv2.get f2;rw[hu]at ex;rw[hu2]at ey;cases ex;cases ey;exact ⟨_,_,ru,ru2,pp⟩
    obtain ⟨c,hS⟩:=C.lst;obtain ⟨⟨f0,f1,f2,f3,f4,f5⟩,g0⟩:=gs h'.objs.size gz;have nS:h'.objs.size∉Ts:=λm=>zXT _ (ge _ m);have nH':H' h'.objs.size=none:=by rw[ot _ nS];exact f0
    have I3:Inv X zB σ (upd H' h'.objs.size (.lst (Ts.map V.ref))) { s1 with heap:=h2 }:=I'.trackAt hS nH' g0 f1 f4 f5 (show zAs X.prog X.w _ h2 _ (.lst (Ts.map V.ref)) from
     ⟨by rw[zWu,lT,<-n1,<-n2];exact hz,Ts.map Value.ref,c,zMt (by simp) (λi y u e1 e2=>by
      rw[zW8]at e1 e2;cases e3:Ts[i]? with
      |none=>rw[e3]at e1;cases e1
      |some T=>rw[e3]at e1 e2;cases e1;cases e2;rfl),hS⟩)
    refine ⟨.ref h'.objs.size,_,I3,rfl,q _ Ts _ f0 (by rw[lT,<-n1,<-n2]) (λa o e=>?_) zAD λj T x y e1 e2 e3=>?_⟩
    .rw[zZ (zAC (up a o e) nH')];exact up a o e
    .have tt:=at' j T (x,y) e1 (List.getElem?_zip_eq_some.mpr ⟨e2,e3⟩);rw[zZ (zAC tt nH')];exact tt
def zEW (g:FA):FE:=λσ M=>match g σ M with
 |some ([x,y],M1)=>match zAF M1 (.dat x),zAF M1 (.dat y) with
  |some xs,some ys=>if (xs.zip ys).length<=sizeLine then some (.fl ((xs.zip ys).map λq=>D.tup [q.1,q.2]),M1) else none
  |_,_=>none
 |_=>none
theorem zNH:∀ {ds:List D} {vs:List V},vs.length=ds.length->(∀ (i:Nat) d v,ds[i]?=some d->vs[i]?=some v->Rep L H d v)->zP L H ds vs
 |[],[],_,_=> .nil
 |[],_::_,h,_=>by cases h
 |_::_,[],h,_=>by cases h
 |d::ds,v::vs,h,q=> .cons (q 0 d v rfl rfl) (zNH (Nat.succ.inj h) λi d' v' e1 e2=>q (i+1) d' v' (by simpa using e1) (by simpa using e2))
theorem zOp (hc:X.calm=true) (hgT:Gl X "list") (hmT:X.mg "list" = none) (hg:Gl X "zip") (hm:X.mg "zip" = none) (ha:QA X [a,b] g)
  (hs:starEach [a,b] X.env=[(false,eval a X.env),(false,eval b X.env)]:=by rfl) (hs2:starEach [b] X.env=[(false,eval b X.env)]:=by rfl)
  (hs':starEach [.Call (.Name "zip" p2) [a,b] [] pos2] X.env=(false,eval (.Call (.Name "zip" p2) [a,b] [] pos2) X.env)::starEach [] X.env:=by rfl) (hpl':(backTo pos (starEach [] X.env)).any (·.1)=false:=by rfl) :
  QE X (.Call (.Name "list" p) [.Call (.Name "zip" p2) [a,b] [] pos2] [] pos) (zEW g):=.mk <| PE.imp (zMr hc hgT hmT hg hm ha.un hs hs2 hs' hpl') λτ H Q zz=>by
 obtain ⟨L,σ,M,d,M',c,rs,hf,q⟩:=zz;unfold zEW at hf;split at hf
 .rename_i x y M1 e1;split at hf
  .rename_i ds es' e2 e3;split at hf
   .rename_i hz;cases hf;refine ⟨L,σ,M,_,_,c,rs,e1,λL1 H1 vs s1 c1 r1=>?_⟩;obtain ⟨v,v',rfl,r2,r3⟩:=r1.two;obtain ⟨b1,l1,rfl,_,k1⟩:=zMB c1 r2 e2;obtain ⟨b2,l2,rfl,_,k2⟩:=zMB c1 r3 e3;obtain ⟨ws1,g1,p1⟩:=k1 L1 H1 _ (.refl _ _) c1 e2;obtain ⟨ws2,g2,p2⟩:=k2 L1 H1 _ (.refl _ _) c1 e3;have hl:min ws1.length ws2.length=(ds.zip es').length:=by rw[List.length_zip,p1.length,p2.length]
    refine ⟨b1,b2,l1,l2,ws1,ws2,rfl,g1,g2,by rw[hl];exact hz,λl Ts H' h0 hT up hH at'=>?_⟩;obtain ⟨n0,n1⟩:=zIb s1 c c1 h0;have st:Stp L1 H1 L1 H':=.grow up;refine q L1 H' _ (s1.trans st) (c1.grow up) ⟨l,_,rfl,n0,hH,n1,zNH (by simp[hT,hl]) λi d v e4 e5=>?_⟩;rw[zW8]at e4 e5;cases e6:(ds.zip es')[i]? with
    |none=>rw[e6]at e4;cases e4
    |some pr=>
     cases e7:Ts[i]? with
     |none=>rw[e7]at e5;cases e5
     |some T=>
      rw[e6]at e4;rw[e7]at e5;cases e4;cases e5;obtain ⟨f1,f2⟩:=List.getElem?_zip_eq_some.mp e6;obtain ⟨u,hu,ru⟩:=p1.get f1;obtain ⟨u2,hu2,ru2⟩:=p2.get f2;unfold Rep;exact ⟨T,_,rfl,at' i T u u2 e7 hu hu2,.cons (ru.stp st) (.cons (ru2.stp st) .nil)⟩
   .cases hf
  .cases hf
 .cases hf
end
def zA1 {α:Type} (is:Yj) (xs:List α):List α:=is.filterMap λi=>xs[i]?
def zDZ (lo st:Ys) (n:Nat):List Nat:=sliceRange (sliceBounds lo none st n).1 (sliceBounds lo none st n).2.1 (sliceBounds lo none st n).2.2
theorem zIk (h:za xs us):∀ is:List Nat,za (zA1 is xs) (zA1 is us)
 |[]=> .nil
 |i::is=>by
  have ih:=zIk h is;unfold zA1 at ih ⊢;rw[zZ8,zZ8];have hl:=h.length;cases e:xs[i]? with
  |none=>
   rw[zXu (by have:=List.getElem?_eq_none_iff.mp e;omega)];exact ih
  |some v=>
   obtain ⟨u,hu,ru⟩:=h.get e;rw[hu];exact .cons ru ih
theorem zIV (h:zP L H ds xs):∀ is:List Nat,zP L H (zA1 is ds) (zA1 is xs)
 |[]=> .nil
 |i::is=>by
  have ih:=zIV h is;unfold zA1 at ih ⊢;rw[zZ8,zZ8];have hl:=h.length;cases e:ds[i]? with
  |none=>
   rw[zXu (by have:=List.getElem?_eq_none_iff.mp e;omega)];exact ih
  |some d=>
   obtain ⟨v,hv,rv⟩:=h.get e;rw[hv];exact .cons rv ih
section
variable {X:Cx} {e st:Expr} {lo:Option Expr} {pos p2:Pos} {f:FE} {te:TE} {tl ts:TO}
theorem zTL (he:PE X e te) (hlo:PO X lo tl) (hs:PO X (some st) ts):PE X (.Subscript e (.Slice lo none (some st) p2) pos) (λσ H Q=>te σ H λx H1=>tl σ H1 λl H2=>ts σ H2 λo H3=>o≠some 0 /\ ∃ a xs,x=.ref a/\SqL X.K H3 a xs/\(zA1 (zDZ l o xs.length) xs).length<=sizeLine /\ ∀ p,H3 p=none->Q (.ref p) (upd H3 p (.lst (zA1 (zDZ l o xs.length) xs)))):=by
 intro zB s σ H Q I h;refine Subscript_ (thn (he zB s σ H _ I h) λv s1 ⟨x,H1,I1,r1,q1⟩=>?_);refine wpAny_Slice ?_;refine thn (hlo zB s1 σ H1 _ I1 q1) λvl s2 ⟨l,H2,I2,pl,q2⟩=>?_;rw[evalPart_none];refine zWn ?_;refine thn (hs zB s2 σ H2 _ I2 q2) λvs s3 ⟨o,H3,I3,ps,h0,a,xs,ex,hx,hz2,q3⟩=>?_;subst ex;cases r1;have I4:Inv X zB σ H3 { s3 with heap:=s3.heap.push { cls:=.type "slice", data:=.fields #[vl,.none,vs] } }:=I3.kept (t':=s3.toks) λb ob q=>zWm _ q;obtain ⟨its,r,ht,hz⟩:=I4.list hx;show wpAny (model X.prog X.w) X.A (subscriptTail e (.Slice lo none (some st) p2) (.ref a) (.ref s3.heap.objs.size)) (EP X zB σ Q) X.xe { s3 with heap:=s3.heap.push { cls:=.type "slice", data:=.fields #[vl,.none,vs] } };refine tail_any (ops:=[.ref a,.ref s3.heap.objs.size]) ht.isList.typeIs PySem.slot_list_getitem.lookup ?_ (by with_unfolding_all rfl);refine wpAny_getItem_list_slice ht.isList (Heap.IsSliceOf.new ..) pl .none ps h0 ?_ (by rw[zWt,<-r.length];exact hz);have hp:slicePick its.toArray l none o=(zA1 (zDZ l o xs.length) its).toArray:=by
  unfold slicePick zA1 zDZ;rw[zWt,<-r.length];simp
 rw[hp];refine ⟨.ref _,_,I4.laid (t':=s3.toks) (o:=.lst (zA1 (zDZ l o xs.length) xs)) (λb ob q=>zWm _ q) (zWr _) ?_,rfl,q3 _ (I4.hok.fresh (zWr _))⟩;exact ⟨hz2,_,0,zIk r _,zWv _ rfl⟩
def zIC (f:FE) (fl fs:FO):FE:=λσ M=>match f σ M with
 |some (x,M1)=>match fl σ M1 with
  |some (l,M2)=>match fs σ M2 with
   |some (o,M3)=>match zBW M3 x with
    |some xs=>if o≠some 0/\(zA1 (zDZ l o xs.length) xs).length<=sizeLine then some (.fl (zA1 (zDZ l o xs.length) xs),M3) else none
    |none=>none
   |none=>none
  |none=>none
 |none=>none
theorem zVW (h:QE X e f) (hl:QO X lo fl) (hs:QO X (some st) fs):QE X (.Subscript e (.Slice lo none (some st) p2) pos) (zIC f fl fs) :=
 .mk <| PE.imp (zTL h.un hl.un hs.un) λτ H Q zz=>by
  obtain ⟨L,σ,M,d,M',c,rs,hf,q⟩:=zz;unfold zIC at hf;split at hf
  .rename_i x M1 e1;split at hf
   .rename_i l M2 e2;split at hf
    .rename_i o M3 e3;split at hf
     .rename_i xs t;split at hf
      .rename_i hb;cases hf;refine ⟨L,σ,M,_,_,c,rs,e1,λL1 H1 v s1 c1 r1=>⟨L1,σ,M1,_,_,c1,rs.stp s1,e2,λL2 H2 s2 c2=>⟨L2,σ,M2,_,_,c2,(rs.stp s1).stp s2,e3,λL3 H3 s3 c3=>⟨hb.1,?_⟩⟩⟩⟩;have r3:zr H L3 H3 x v:=(r1.stp s2).stp s3;obtain ⟨a,vs,rfl,e4,r4⟩:=zA3 c3 r3 t;have hl:=r4.length;have rp:=zIV r4 (zDZ l o xs.length);refine ⟨a,vs,rfl,.inl e4,?_,λp hp=>?_⟩
       .rw[hl,rp.length];exact hb.2
       .rw[hl];have s13:=(s1.trans s2).trans s3;exact q L3 _ _ (s13.trans (.upd hp)) (c3.upd hp) (zr.newLst s13 c c3 hp rp)
      .cases hf
     .cases hf
    .cases hf
   .cases hf
  .cases hf
end
end L3
namespace Law
open PySem PySem.Spec PyProof.Rows L2 L3
theorem zb (n:Nat):∀ c:List Int,D.unds n (c.map D.int)=true
 |[]=>rfl
 |x::r=>by
  show (D.und n (D.int x)&&D.unds n (r.map D.int))=true;rw[zb n r];rfl
theorem zLP {M:Mem} (h:M[k]?=some u):M.set k u=M:=by
 apply List.ext_getElem?;intro i;rw[zYK];split
 .rename_i e;subst e;rw[zW0 (zWo.mp h).1];exact h.symm
 .rfl
theorem at0 {x:D} {xs:List D}:atI (x::xs) 0=some x:=zRH (k:=0) rfl
theorem zQX (ns:Ye) (lo hi:Ys):∃ c:List Int,L3.zDj (ns.map D.int) lo hi=c.map D.int/\c.length<=ns.length:=by
 refine ⟨(ns.drop (HT.sIx ns.length 0 lo)).take (HT.sIx ns.length ns.length hi-HT.sIx ns.length 0 lo),?_,?_⟩
 .unfold L3.zDj;rw[zWu,List.map_take,List.map_drop]
 .rw[zX9,List.length_drop];omega
theorem zAS (h:x::r=c.map D.int):∃ y c',c=y::c'/\x=.int y/\r=c'.map D.int:=by
 cases c with
 |nil=>cases h
 |cons y c'=>rw[zW4]at h;exact ⟨y,c',rfl,(zXp h).1,(zXp h).2⟩
theorem zAE:zA0 none xs M:=trivial
theorem zX (h:n<=100000):n<=sizeLine:=zXC h (by decide)
mutual
theorem zGj (h:a<=b):∀ {d:D},D.und a d=true->D.und b d=true
 |.non,_=>by unfold D.und;rfl
 |.bl _,_=>by unfold D.und;rfl
 |.int _,_=>by unfold D.und;rfl
 |.str _,_=>by unfold D.und;rfl
 |.tup ds,e=>by unfold D.und at e ⊢;exact zCV h e
 |.ref k,e=>by unfold D.und at e ⊢;simp at e ⊢;omega
theorem zCV (h:a<=b):∀ {ds:List D},D.unds a ds=true->D.unds b ds=true
 |[],_=>by unfold D.unds;rfl
 |d::ds,e=>by
  unfold D.unds at e ⊢;rw[zXL]at e ⊢;exact ⟨zGj h e.1,zCV h e.2⟩
end
theorem zI2 (h:a<=b) (e:MO.und a u=true):MO.und b u=true:=by
 cases u with
 |lst xs=>exact zCV h e
 |fro xs=>exact zCV h e
 |set xs=>exact zCV h e
 |dict kvs|dicT kvs|froT kvs|froK kvs=>
  unfold MO.und at e ⊢;rw[zXM]at e ⊢;intro p hp;have:=e p hp;rw[zXL]at this ⊢;exact ⟨zGj h this.1,zGj h this.2⟩
theorem zFF:∀ {xs ys:List D},D.unds n (xs++ys)=(D.unds n xs&&D.unds n ys)
 |[],ys=>by simp[D.unds]
 |x::xs,ys=>by
  show (D.und n x&&D.unds n (xs++ys))=((D.und n x&&D.unds n xs)&&D.unds n ys);rw[zFF,Bool.and_assoc]
theorem zEB:∀ {xs:List D},(∀ x∈xs,D.und n x=true)->D.unds n xs=true
 |[],_=>rfl
 |x::xs,h=>by
  show (D.und n x&&D.unds n xs)=true;rw[h x zWz,zEB λy hy=>h y (zWy _ hy)];rfl
theorem zAb (c:Ye):D.und n (.tup (c.map D.int))=true:=by unfold D.und;exact zb n c
def zBu (i:Nat):Nat->List D
 |0=>[]
 |n+1=> .int i::zBu (i+1) n
theorem zJE (n:Nat):∀ i,((List.range' i n).map λ(k:Nat)=>D.int k)=zBu i n:=by
 induction n with
 |zero=>intro i;rfl
 |succ n ih=>intro i;rw[List.range'_succ,zW4,ih];rfl
theorem zEw (n:Nat):((List.range n).map λ(k:Nat)=>D.int k)=zBu 0 n:=by rw[List.range_eq_range',zJE]
theorem zBX:∀ (n i:Nat),(zBu i n).length=n
 |0,_=>rfl
 |n+1,i=>by show (zBu (i+1) n).length+1=_;rw[zBX n]
theorem zI9 (n:Nat) (I:Nat->Sd->Mem->Prop)
  (hs:∀ i σ M,i<n->I i σ M -> ∃ σ1,g (.int i) σ=some σ1/\OkS (b σ1 M) λo σ2 M2=>match o with|.nx=>I (i+1) σ2 M2|.cnt=>I (i+1) σ2 M2|.brk=>P .nx σ2 M2|.ret d=>P (.ret d) σ2 M2)
  (he:∀ σ M,I n σ M->P .nx σ M) (σ:Sd) (M:Mem) (h0:I 0 σ M):OkS (zCu g b all none (zBu 0 n) σ M) P:=by
 refine zAl (I:=λr σ M=>∃ i,i<=n/\r=zBu i (n-i)/\I i σ M) ?_ ?_ _ _ _ ⟨0,zXX _,by simp,h0⟩
 .rintro x r σ M ⟨i,hi,e,hI⟩;have hlt:i<n:=by
   rcases zX7 i n with z|z
   .exact z
   .rw[show n-i=0 by omega]at e;cases e
  rw[show n-i=(n-(i+1))+1 by omega]at e;obtain ⟨rfl,rfl⟩:=zXp e;obtain ⟨σ1,e1,q⟩:=hs i σ M hlt hI;refine ⟨zAE,σ1,e1,OkS.mono q ?_⟩;intro o σ2 M2 z;cases o with
  |nx=>exact ⟨i+1,hlt,rfl,z⟩
  |cnt=>exact ⟨i+1,hlt,rfl,z⟩
  |brk=>exact z
  |ret d=>exact z
 .rintro σ M ⟨i,hi,e,hI⟩;have:i=n:=by
   rcases zX7 i n with z|z
   .rw[show n-i=(n-(i+1))+1 by omega]at e;cases e
   .omega
  subst this;exact ⟨zAE,he σ M hI⟩
theorem zLr (n:Nat) (I:Nat->List D->Mem->Prop)
  (hs:∀ i acc M,i<n->I i acc M -> ∃ σ1,g (.int i) σ=some σ1/\Ok (te σ1 M) (zGM λd M2=>I (i+1) (acc++[d]) M2)) (h0:I 0 [] M) :
  Ok (zA8 g zn te σ all none (zBu 0 n) M) λys M1=>I n ys M1:=by
 refine Ok.mono (zBn (I:=λr acc M=>∃ i,i<=n/\r=zBu i (n-i)/\I i acc M) (Q:=λacc M=>I n acc M) ?_ ?_ _ [] _ ⟨0,zXX _,by simp,h0⟩) λys M1 q=>by simpa using q
 .rintro x r acc M ⟨i,hi,e,hI⟩;have hlt:i<n:=by
   rcases zX7 i n with z|z
   .exact z
   .rw[show n-i=0 by omega]at e;cases e
  rw[show n-i=(n-(i+1))+1 by omega]at e;obtain ⟨rfl,rfl⟩:=zXp e;obtain ⟨σ1,e1,q⟩:=hs i acc M hlt hI;refine ⟨zAE,σ1,e1,zGg.mpr ?_⟩;rw[zW0 rfl];refine Ok.mono q ?_;intro x M2 z;cases x with
  |dat d=>exact ⟨i+1,hlt,rfl,z⟩
  |fl xs=>exact ⟨i+1,hlt,rfl,z⟩
 .rintro acc M ⟨i,hi,e,hI⟩;have:i=n:=by
   rcases zX7 i n with z|z
   .rw[show n-i=(n-(i+1))+1 by omega]at e;cases e
   .omega
  subst this;exact ⟨zAE,hI⟩
theorem zBj (e:f σ M=some (.dat (.int j),M)) (h1:0<=j) (h2:j<2 ^ 62):zAH (zD (toD f) zF) σ M=some (zBu 0 j.toNat,none,M):=by
 have e':(zD (toD f) zF) σ M=some ([.int j],M):=by unfold zD toD zF;rw[e]
 rw[zEe e' h1 h2,zEw]
def mD (zA:Ya):D:=.tup (zA.map λr=> .tup (r.map D.int))
structure IsM (zA:Ya) (l:Nat):Prop where
 r0:0<zA.length
 l0:0<l
 row:∀ r∈zA,r.length=l /\ ∀ g∈r,0<=g/\g<zA.length
theorem zCj (zA:Ya):D.und n (mD zA)=true:=by
 unfold mD D.und;refine zEB λx hx=>?_;obtain ⟨r,_,rfl⟩:=zW2.mp hx;exact zAb r
theorem zRI (zA:Ya):D.unds n (zA.map λr=>D.tup (r.map D.int))=true:=by
 refine zEB λx hx=>?_;obtain ⟨r,_,rfl⟩:=zW2.mp hx;exact zAb r
theorem zW {α:Type} {x:Option (α × Mem)} {a:α} {M:Mem} (h:Ok x λb M'=>b=a/\M'=M):x=some (a,M):=by
 obtain ⟨b,M',e,rfl,rfl⟩:=h;exact e
theorem zE {α:Type} {x:Option (α × Mem)} {a:α} {M:Mem} {P:α->Mem->Prop} (h:x=some (a,M)) (p:P a M):Ok x P:=⟨a,M,h,p⟩
theorem zRu {c:FT} {a g:FS} {σ:Sd} {M:Mem} {P:Out->Sd->Mem->Prop} (hc:c σ M=some (false,M)) (h:OkS (g σ M) P):OkS (zQ (sIf c a zAv) g σ M) P:=by
 rw[zG,zAf];refine zE hc ?_;rw[zW3 (by decide),zAK];exact h
theorem zQR {c:FT} {a:FS} {σ:Sd} {M:Mem} {P:Out->Sd->Mem->Prop} (hc:c σ M=some (false,M)) (h:P .nx σ M):OkS (sIf c a zAv σ M) P:=by
 rw[zAf];refine zE hc ?_;rw[zW3 (by decide),zAK];exact h
theorem zf {f:FE} {σ:Sd} {M:Mem} {d:D} (h:f σ M=some (.dat d,M)):zD (toD f) zF σ M=some ([d],M):=by
 unfold zD toD zF;rw[h]
theorem zk {f:FE} {g:FA} {σ:Sd} {M:Mem} {d:D} {ds:List D} (h:f σ M=some (.dat d,M)) (hg:g σ M=some (ds,M)):zD (toD f) g σ M=some (d::ds,M):=by
 unfold zD toD;rw[h];dsimp only;rw[hg]
theorem zy {m:FF} {a:FA} {σ:Sd} {M M':Mem} {ds:List D} {d:D} (h:a σ M=some (ds,M)) (hm:m ds M=some (d,M')):zK m a σ M=some (.dat d,M'):=by
 unfold zK;rw[h];dsimp only;rw[hm]
theorem zM {k:K2} {f g:FE} {σ:Sd} {M:Mem} {x y:EV} {r:Option (EV × Mem)} (hf:f σ M=some (x,M)) (hg:g σ M=some (y,M)) (hk:k x y M=r):fOp k f g σ M=r:=by
 unfold fOp;rw[hf];dsimp only;rw[hg];exact hk
theorem zBK {x:EV} {xs:List D} {i:Int} {d:D} {M:Mem} (h:zAF M x=some xs) (hd:atI xs i=some d):kIx x (.dat (.int i)) M=some (.dat d,M):=zW (zTr h hd ⟨rfl,rfl⟩)
theorem zHk {f:FE} {x:EV} {xs:List D} {σ:Sd} {M:Mem} (hf:f σ M=some (x,M)) (h:zAF M x=some xs):fB zAu (zU f zj) σ M=some (.dat (.int xs.length),M):=by
 unfold fB zU zj;rw[hf];exact zW ((zVv h).mpr ⟨rfl,rfl⟩)
def zO7:FS:=(zQ (zi 3 (zC 1))
  (zQ (zCD (zq (zC 2)) (gN 4) (zi 3 (fOp kIx (fOp kIx (zC 0) (zC 3)) (zC 4))))
  (zAM (zC 3))))
def zEV:FF:=zDI (zBE 5 zO7)
def zu (zA:Ya) (h g:Int):Int:=(zA.getD h.toNat []).getD g.toNat 0
def zAt (zA:Ya) (room:Int) (word:Ye):Int:=word.foldl (zu zA) room
theorem zHY {zA:Ya} {h:Int} (h0:0<=h) (h1:h<zA.length):atI (zA.map λr=>D.tup (r.map D.int)) h=some (.tup ((zA.getD h.toNat []).map D.int)):=by
 refine zMQ h0 ?_;rw[zW8,zWq,zWp (by omega)];rfl
theorem zCE {r:Ye} {g:Int} (h0:0<=g) (h1:g<r.length):atI (r.map D.int) g=some (.int (r.getD g.toNat 0)):=by
 refine zMQ h0 ?_;rw[zW8,zWq,zWp (by omega)];rfl
theorem IsM.get {zA:Ya} {l:Nat} (m:IsM zA l) {h:Int} (h0:0<=h) (h1:h<zA.length):(zA.getD h.toNat []).length=l /\ ∀ g∈zA.getD h.toNat [],0<=g/\g<zA.length:=by
 refine m.row _ ?_;rw[zWq,zWp (by omega)];exact zXJ _
theorem IsM.step {zA:Ya} {l:Nat} (m:IsM zA l) {h g:Int} (h0:0<=h) (h1:h<zA.length) (g0:0<=g) (g1:g<l):0<=zu zA h g/\zu zA h g<zA.length:=by
 obtain ⟨q1,q2⟩:=m.get h0 h1;refine q2 _ ?_;unfold zu;rw[zWq (l:=zA.getD h.toNat []),zWp (by omega)];exact zXJ _
theorem IsM.ix {zA:Ya} {l:Nat} (m:IsM zA l) {h g:Int} (h0:0<=h) (h1:h<zA.length) (g0:0<=g) (g1:g<l) {f1 f2 f3:FE} {σ:Sd} {M:Mem} (e1:f1 σ M=some (.dat (mD zA),M)) (e2:f2 σ M=some (.dat (.int h),M)) (e3:f3 σ M=some (.dat (.int g),M)) :
  fOp kIx (fOp kIx f1 f2) f3 σ M=some (.dat (.int (zu zA h g)),M):=by
 obtain ⟨q1,_⟩:=m.get h0 h1;exact zM (zM e1 e2 (zBK zAG (zHY h0 h1))) e3 (zBK zAG (zCE g0 (by omega)))
theorem zQr {zA:Ya} {l:Nat} (m:IsM zA l) {room:Int} {word:Ye} {M:Mem} (h0:0<=room) (h1:room<zA.length) (hw:∀ g∈word,0<=g/\g<l):zEV [mD zA,.int room,.tup (word.map D.int)] M=some (.int (zAt zA room word),M):=by
 refine zW ?_;unfold zEV;refine zCT (by unfold D.unds D.unds D.unds D.unds;rw[zCj];simp[zAb,D.und,zb]) ?_;rw[zw];unfold zO7;rw[zG,zR];refine zAJ.mpr ⟨_,rfl,?_⟩;rw[zI,zL,zG,zA2];refine ⟨_,_,_,zBN rfl zAG,?_⟩;refine zAl (I:=λr σ M'=>M'=[] /\ ∃ (h:Int) (y:Option D) (c:Ye),σ=[some (mD zA),some (.int room),some (.tup (word.map D.int)),some (.int h),y]/\r=c.map D.int/\(∀ g∈c,0<=g/\g<(l:Int))/\0<=h/\h<zA.length/\zAt zA h c=zAt zA room word) ?_ ?_ _ _ _ ⟨rfl,room,none,word,rfl,rfl,hw,h0,h1,rfl⟩
 .rintro x r σ M' ⟨rfl,h,y,c,rfl,hc,hg,h0,h1,e⟩;obtain ⟨z,c',rfl,rfl,rfl⟩:=zAS hc;refine ⟨zAE,_,rfl,?_⟩;rw[zR];obtain ⟨g0,g1⟩:=hg z zWz;refine zE (m.ix h0 h1 g0 g1 rfl rfl rfl) ?_;rw[zI];obtain ⟨s0,s1⟩:=m.step h0 h1 g0 g1;exact ⟨rfl,_,_,c',rfl,rfl,λg hg'=>hg g (zWy _ hg'),s0,s1,e⟩
 .rintro σ M' ⟨rfl,h,y,c,rfl,hc,hg,h0,h1,e⟩;refine ⟨zAE,?_⟩;rw[zL,zAn];refine zAJ.mpr ⟨_,rfl,?_⟩;rw[zI];have:c=[]:=by cases c with|nil=>rfl|cons _ _=>cases hc
  subst this;refine ⟨rfl,?_,rfl⟩;rw[<-e];rfl
theorem zv (h:f σ M=some (.dat (.bl k),M')):tst f σ M=some (k,M'):=by unfold tst;rw[h]
theorem zAU (hf:f σ M=some (.dat d,M)) (h:P (.ret d) σ M):OkS (zAM f σ M) P:=by
 rw[zAn];exact zE hf h
theorem zAh {α:Type} (as:List α) (enc out:α->D) (hi:fi σ M=some (as.map enc,gd,M)) (hgd:zA0 gd (as.map enc) M) (hz:as.length<=100000)
  (he:∀ a∈as,∃ σ1,g (enc a) (zBM own σ)=some σ1/\te σ1 M=some (.dat (out a),M)):zh own fi g zn te σ M=some (.fl (as.map out),M):=by
 refine zW (zB2.mpr ⟨_,_,_,hi,by rw[zWu];exact zX hz,?_⟩);refine Ok.mono (zBn (I:=λr acc M'=>M'=M /\ ∃ ra rb:List α,as=rb++ra/\r=ra.map enc/\acc=rb.map out) (Q:=λacc M'=>M'=M/\acc=as.map out) ?_ ?_ _ [] _ ⟨rfl,as,[],rfl,rfl,rfl⟩) ?_
 .rintro x r acc M' ⟨rfl,ra,rb,hab,hr,rfl⟩;cases ra with
  |nil=>cases hr
  |cons a ra=>
   rw[zW4]at hr;obtain ⟨rfl,rfl⟩:=zXp hr;obtain ⟨σ1,e1,e2⟩:=he a (by rw[hab];simp);refine ⟨hgd,σ1,e1,zGg.mpr ?_⟩;rw[zW0 rfl];refine zE e2 ?_;rw[zI];exact ⟨rfl,ra,rb++[a],by rw[hab];simp,rfl,by simp⟩
 .rintro acc M' ⟨rfl,ra,rb,hab,hr,rfl⟩;cases ra with
  |nil=>rw[zXV]at hab;subst hab;exact ⟨hgd,rfl,rfl⟩
  |cons a ra=>cases hr
 .rintro ys M' ⟨rfl,h⟩;rw[List.nil_append]at h;subst h;exact ⟨rfl,rfl⟩
theorem zA7 (hf:f σ M=some (x,M)) (h:zAF M x=some xs):fB zAI (zU f zj) σ M=some (.dat (.tup xs),M):=by
 unfold fB zU zj;rw[hf];exact zW ((zES h).mpr ⟨rfl,rfl⟩)
theorem zDc (hf:f σ M=some (.dat (.tup xs),M)):zq f σ M=some (xs,none,M):=zBN hf zAG
theorem zG9 (n:Nat):zBu 0 n=(List.range n).map λ(k:Nat)=>D.int k:=(zEw n).symm
theorem zFe (e:f σ M=some (.dat (.int j),M)) (h1:0<=j) (h2:j<2 ^ 62):zAH (zD (toD f) zF) σ M=some ((List.range j.toNat).map (λ(k:Nat)=>D.int k),none,M):=by
 rw[zBj e h1 h2,zG9]
theorem zCH (hf:f σ M=some (.dat d,M)) (h:OkS (g (σ.set i (some d)) M) P):OkS (zQ (zi i f) g σ M) P:=by
 rw[zG,zR];exact zE hf h
theorem zRP (h:f σ M=some (.dat d,M')):zD (toD f) zF σ M=some ([d],M'):=by
 unfold zD toD zF;rw[h]
open ST
def ris (xs:Ye):List Int:=zDq (zJ xs)
theorem zB0 (xs:Ye) (x:Int):x∈ris xs ↔ x∈xs:=by
 unfold ris;rw[(zBt _).mem_iff,zAZ]
theorem zHC (xs:Ye):(ris xs).Pairwise (· < ·):=by
 have h1:=zGn (zJ xs);have h2:(ris xs).Nodup:=(zBt _).nodup_iff.mpr (zCN xs);unfold ris at h2 ⊢;exact (h1.and h2).imp λ{a b} h=>by have:=h.1;have:=h.2;omega
theorem zFs:∀ {xs ys:Ye},xs.Pairwise (· < ·)->ys.Pairwise (· < ·)->(∀ x,x∈xs ↔ x∈ys)->xs=ys
 |[],[],_,_,_=>rfl
 |[],y::ys,_,_,h=>by have:=(h y).mpr zWz;cases this
 |x::xs,[],_,_,h=>by have:=(h x).mp zWz;cases this
 |x::xs,y::ys,h1,h2,h=>by
  have hx:=zYv.mp h1;have hy:=zYv.mp h2;have e:x=y:=by
   have a:=(h x).mp zWz;have b:=(h y).mpr zWz;rcases zWx.mp a with z|z
   .exact z
   .rcases zWx.mp b with q|q
    .exact q.symm
    .have:=hx.1 y q;have:=hy.1 x z;omega
  subst e;rw[zFs hx.2 hy.2 λz=>?_];constructor
  .intro hz;rcases zWx.mp ((h z).mp (zWy _ hz))with q|q
   .subst q;have:=hx.1 _ hz;omega
   .exact q
  .intro hz;rcases zWx.mp ((h z).mpr (zWy _ hz))with q|q
   .subst q;have:=hy.1 _ hz;omega
   .exact q
theorem zJ5 (h:∀ x,x∈xs ↔ x∈ys):ris xs=ris ys:=zFs (zHC xs) (zHC ys) λx=>by rw[zB0,zB0];exact h x
theorem zLl (h:xs.Pairwise (· < ·)):ris xs=xs:=zFs (zHC xs) h λx=>zB0 xs x
theorem zNZ (xs:Ye):(ris xs).length<=xs.length:=by
 unfold ris;rw[(zBt _).length_eq];exact zAg xs
theorem zTA (h:0<xs.length):0<(ris xs).length:=by
 cases xs with
 |nil=>cases h
 |cons x r=>exact zZx ((zB0 (x::r) x).mpr zWz)
theorem zJC (f:Int->Int) (xs:Ye):ris ((ris xs).map f)=ris (xs.map f):=zJ5 λx=>by simp[zB0]
theorem zSx (h:zh own fi g tc te σ M=some (.fl (ks.map D.int),M)) (hz:ks.length<=4000):zIy own fi g tc te σ M=some (zJ ks,M):=by
 unfold zIy;rw[h];dsimp only;rw[zBL];dsimp only;rw[zW0 (by unfold scanBound;omega)]
theorem zOs (h:f σ M=some (x,M)) (hx:zAF M x=some (ks.map D.int)) (hz:(zJ ks).length<=4000):zFZ f σ M=some (zJ ks,M):=by
 unfold zFZ;rw[h];dsimp only;rw[hx];dsimp only;rw[zBL];dsimp only;rw[zW0 (by unfold scanBound;omega)]
theorem zQK (h:f σ M=some (x,M)) (hx:zAF M x=some (ks.map D.int)) (hz:ks.length<=4000):zFZ f σ M=some (zJ ks,M):=zOs h hx (zXC (zAg ks) hz)
theorem zKK (h:fz σ M=some (zJ ks,M)) (hz:(zJ ks).length<64):zFp fz σ M=some (.fl ((ris ks).map D.int),M):=by
 unfold zFp;rw[h];dsimp only;rw[zW0 hz];rfl
def zFi:FS:=(zAM (fB zAI (zU (zFp (zIy [3] (zq (zC 1)) (gN 3) zn (fOp kIx (fOp kIx (zC 0) (zC 3)) (zC 2)))) zj)))
def zBB:FF:=zDI (zBE 4 zFi)
def zGy:FS:=(zQ (zi 3 (zBJ (zD (toD (zC 1)) zF)))
  (zQ (zCD (zq (zC 2)) (gN 4) (zBF (fM zAP (zC 3) (zD (toD (zK zBB (zD (toD (zC 0)) (zD (toD (fOp kIx (zC 3) (zLA (fC (.int 1))))) (zD (toD (zC 4)) zF))))) zF))))
  (zAM (fB zAI (zU (zC 3) zj)))))
def zEC:FF:=zDI (zBE 5 zGy)
def zFW:FS:=(zAM (fOp kIx (zK zEC (zD (toD (zC 0)) (zD (toD (zC 1)) (zD (toD (zC 2)) zF)))) (zLA (fC (.int 1)))))
def zBA:FF:=zDI (zBE 3 zFW)
def setR (zA:Ya) (S:Ye) (g:Int):List Int:=ris (S.map λh=>zu zA h g)
def broR (zA:Ya) (S word:Ye):List Int:=word.foldl (setR zA) S
structure IsS (zA:Ya) (S:Ye):Prop where
 pw:S.Pairwise (· < ·)
 n0:0<S.length
 mem:∀ x∈S,0<=x/\x<(zA.length:Int)
theorem zMY:∀ {S:Ye} {a:Int} {n:Nat},S.Pairwise (· < ·)->(∀ x∈S,a<=x/\x<a+(n:Int))->S.length<=n
 |[],_,_,_,_=>zXX _
 |x::S,a,n,h,hm=>by
  have hx:=zYv.mp h;obtain ⟨m0,m1⟩:=hm x zWz;have hn:0<n:=by omega
  have:=zMY (S:=S) (a:=x+1) (n:=(a+n-(x+1)).toNat) hx.2 λy hy=>by
   have:=hx.1 y hy;have:=(hm y (zWy _ hy)).2;omega
  simp only[zXI];omega
theorem IsS.len (h:IsS zA S):S.length<=zA.length:=zMY h.pw (a:=0) λx hx=>by have:=h.mem x hx;omega
theorem IsM.setR {zA:Ya} {l:Nat} (m:IsM zA l) {S:Ye} (s:IsS zA S) {g:Int} (g0:0<=g) (g1:g<l):IsS zA (setR zA S g):=by
 refine ⟨zHC _,zTA (by rw[zWu];exact s.n0),λx hx=>?_⟩;obtain ⟨y,hy,rfl⟩:=zW2.mp ((zB0 _ _).mp hx);obtain ⟨y0,y1⟩:=s.mem y hy;exact m.step y0 y1 g0 g1
theorem IsM.broR {zA:Ya} {l:Nat} (m:IsM zA l):∀ (word:Ye) {S:Ye},IsS zA S->(∀ g∈word,0<=g/\g<(l:Int))->IsS zA (broR zA S word)
 |[],S,s,_=>s
 |g::r,S,s,hw=>by
  obtain ⟨g0,g1⟩:=hw g zWz;exact IsM.broR m r (m.setR s g0 g1) λx hx=>hw x (zWy _ hx)
theorem zJW (zA:Ya):∀ (word:Ye) (S:Ye),broR zA (ris S) word=ris (S.map λr=>zAt zA r word)
 |[],S=>by show ris S=ris (S.map λr=>r);rw[List.map_id']
 |g::w,S=>by
  show broR zA (setR zA (ris S) g) w=_;unfold setR;rw[zJC];rw[zJW zA w];rw[zW9];rfl
theorem zGl (h:S.Pairwise (· < ·)) (word:Ye):broR zA S word=ris (S.map λr=>zAt zA r word):=by
 have:=zJW zA word S;rw[zLl h]at this;exact this
def tI (xs:Ye):D:=.tup (xs.map D.int)
theorem zGV {zA:Ya} {l:Nat} (m:IsM zA l) (hR:zA.length<64) {S:Ye} (s:IsS zA S) {g:Int} (g0:0<=g) (g1:g<l) {M:Mem}:zBB [mD zA,tI S,.int g] M=some (tI (setR zA S g),M):=by
 refine zW ?_;unfold zBB;refine zCT (by unfold D.unds D.unds D.unds D.unds;rw[zCj];simp[tI,zAb,D.und,zb]) ?_;rw[zw];unfold zFi;have hl:=s.len;have hz:(zJ (S.map λh=>zu zA h g)).length<64:=by have:=zAg (S.map λh=>zu zA h g);rw[zWu]at this;omega
 refine zAU (d:=tI (setR zA S g)) ?_ ⟨by unfold tI;exact zAb _,rfl,rfl⟩;refine zA7 (zKK (ks:=S.map λh=>zu zA h g) (zSx ?_ (by rw[zWu];omega)) hz) zBU;refine (zAh S D.int (λh=> .int (zu zA h g)) (zDc rfl) trivial (by omega) λh hh=>⟨_,rfl,?_⟩).trans ?_
 .obtain ⟨h0,h1⟩:=s.mem h hh;exact m.ix h0 h1 g0 g1 rfl rfl rfl
 .rw[zW9];rfl
def zF2 (zA:Ya) (S:Ye):List Int->List (List Int)
 |[]=>[S]
 |g::w=>S::zF2 zA (setR zA S g) w
theorem zFE {α:Type} (xs:List α) (x:α):atI (xs++[x]) (-1)=some x:=by
 unfold atI ixN;rw[zW3 (by decide),zW0 (by simp;omega)];have:((-1:Int)+((xs++[x]).length:Int)).toNat=xs.length:=by simp;omega
 simp only[Option.bind_some];rw[this];simp
theorem zSk {zA:Ya} {l:Nat} (m:IsM zA l) (hR:zA.length<64) {S word:Ye} (s:IsS zA S) (hw:∀ g∈word,0<=g/\g<(l:Int)) (hz:word.length<=90000) {M:Mem}:zEC [mD zA,tI S,tI word] M=some (.tup ((zF2 zA S word).map tI),M):=by
 refine zW ?_;unfold zEC;refine zCT (by unfold D.unds D.unds D.unds D.unds;rw[zCj];simp[tI,zAb,D.und,zb]) ?_;rw[zw];unfold zGy;rw[zG,zR];refine zDO.mpr (zAL.mpr (zAe.mpr (zAJ.mpr ⟨_,rfl,zI.mpr (zAi.mpr ⟨zX (by simp),?_⟩)⟩)));rw[zGT,zL,zG,zA2];refine ⟨_,_,_,zBN rfl zAG,?_⟩;refine zAl (I:=λr σ M'=>∃ (y:Option D) (c:Ye) (acc:Ya) (T:Ye),σ=[some (mD zA),some (tI S),some (tI word),some (.ref 0),y]/\r=c.map D.int/\(∀ g∈c,0<=g/\g<(l:Int))/\IsS zA T/\M'=[.lst ((acc++[T]).map tI)]/\acc++zF2 zA T c=zF2 zA S word/\acc.length+c.length=word.length) ?_ ?_ _ _ _ ⟨none,word,[],S,rfl,rfl,hw,s,rfl,rfl,by simp⟩
 .rintro x r σ M' ⟨y,c,acc,T,rfl,hc,hg,sT,rfl,e,hl⟩;obtain ⟨z,c',rfl,rfl,rfl⟩:=zAS hc;refine ⟨zAE,_,rfl,?_⟩;rw[zBY];obtain ⟨g0,g1⟩:=hg z zWz;have eA:([MO.lst ((acc++[T]).map tI)]:Mem)[0]?=some (.lst ((acc++[T]).map tI)):=rfl;refine zGP.mpr (zAJ.mpr ⟨_,rfl,⟨_,zAV eA⟩,zAL.mpr (zAe.mpr ?_)⟩);refine zE (zy (zk rfl (zk (zM (f:=zC 3) (g:=zLA (fC (.int 1))) (y:=.dat (.int (-1))) rfl rfl (zBK (ze eA) ?_)) (zf rfl))) (zGV m hR sT g0 g1)) ?_
  .rw[zXd];exact zFE _ _
  .rw[zI,zAi,zB8 eA (by rw[zWu,zW1];simp at hl ⊢;exact zXA (m:=95000) (by omega) (zX (by omega)))];refine ⟨_,c',acc++[T],setR zA T z,rfl,rfl,λg hg'=>hg g (zWy _ hg'),m.setR sT g0 g1,?_,?_,by simp at hl ⊢;omega⟩
   .simp
   .rw[<-e];simp[zF2]
 .rintro σ M' ⟨y,c,acc,T,rfl,hc,hg,sT,rfl,e,hl⟩;have:c=[]:=by cases c with|nil=>rfl|cons _ _=>cases hc
  subst this;refine ⟨zAE,?_⟩;rw[zL];refine zAU (zA7 rfl (ze (show ([MO.lst ((acc++[T]).map tI)]:Mem)[0]?=some (.lst ((acc++[T]).map tI))from rfl))) ?_;have e':acc++[T]=zF2 zA S word:=by rw[<-e];rfl
  rw[e'];refine ⟨?_,rfl,rfl⟩;unfold D.und;refine zEB λx hx=>?_;obtain ⟨r,_,rfl⟩:=zW2.mp hx;exact zAb r
theorem zIO (zA:Ya):∀ (word S:Ye),∃ us,zF2 zA S word=us++[broR zA S word]
 |[],S=>⟨[],rfl⟩
 |g::w,S=>by
  obtain ⟨us,e⟩:=zIO zA w (setR zA S g);exact ⟨S::us,by show S::zF2 zA _ w=_;rw[e];rfl⟩
theorem zO9 (m:IsM zA l) (hR:zA.length<64) (s:IsS zA S) (hw:∀ g∈word,0<=g/\g<(l:Int)) (hz:word.length<=90000):zBA [mD zA,tI S,tI word] M=some (tI (broR zA S word),M):=by
 refine zW ?_;unfold zBA;refine zCT (by unfold D.unds D.unds D.unds D.unds;rw[zCj];simp[tI,zAb,D.und,zb]) ?_;rw[zw];unfold zFW;obtain ⟨us,e⟩:=zIO zA word S;refine zAU (d:=tI (broR zA S word)) (zM (zy (zk rfl (zk rfl (zf rfl))) (zSk m hR s hw hz)) (g:=zLA (fC (.int 1))) (y:=.dat (.int (-1))) rfl (zBK zAG ?_)) ⟨by unfold tI;exact zAb _,rfl,rfl⟩;rw[e,zXd];exact zFE _ _
end Law
namespace Law
open PySem PySem.Spec PyProof.Rows L2 L3 ST
theorem zQi {l:Ye} (h:x∈l):l.idxOf x<l.length:=List.idxOf_lt_length_iff.mpr h
theorem zPK:∀ {l:Ye} (_:l.Nodup) {k:Nat},k<l.length->l.idxOf (l.getD k 0)=k
 |y::l,h,0,_=>by simp
 |y::l,h,k+1,hk=>by
  have hn:=zX5.mp h;have hk':k<l.length:=by simpa using hk
  have hm:l.getD k 0∈l:=by rw[zWq,zWp hk'];exact zXJ _
  have hne:y≠l.getD k 0:=λe=>hn.1 (e▸hm);show (y::l).idxOf (l.getD k 0)=k+1;rw[List.idxOf_cons,show (y==l.getD k 0)=false by simpa using hne];simp only[cond_false];rw[zPK hn.2 hk']
theorem zMg (hgd:zA0 gd all M) (hg:g x σ=some σ1) (hk:tk σ1 M=some (.dat k,M)) (hv:tv σ1 M=some (.dat v,M)) (hp:zD7 M n k v=some M'):zCk g zn tk tv σ n all gd (x::r) M=zCk g zn tk tv σ n all gd r M':=by
 rw[zCk];rw[zW0 hgd,hg];have et:zn σ1 M=some (true,M):=rfl;have e1:toD tk σ1 M=some (k,M):=by unfold toD;rw[hk]
 have e2:toD tv σ1 M=some (v,M):=by unfold toD;rw[hv]
 dsimp only;rw[et];dsimp only;rw[e1];dsimp only;rw[e2];dsimp only;rw[hp]
theorem zI1 (hgd:zA0 gd all M):zCk g tc tk tv σ n all gd [] M=some M:=by
 rw[zCk,zW0 hgd]
theorem zTM {M:Mem} {n:Nat} {xs:List D} {k:Nat} {d:D} {Q:D->Mem->Prop} (h:M[n]?=some (.lst xs)) (hk:xs[k]?=some d) (hz:k<90000) (q:Q d (M.set n (.lst (xs.eraseIdx k)))):Ok (zHu (.dat (.ref n)) [.int (k:Int)] M) Q:=by
 refine ⟨d,M.set n (.lst (xs.eraseIdx k)),?_,q⟩;have hl:k<xs.length:=(zWo.mp hk).1;unfold zHu;dsimp only;rw[h];dsimp only;have e:ixN xs.length (k:Int)=some k:=by unfold ixN;rw[zW0 (by omega),zW0 (by omega)];simp
 rw[e];dsimp only;rw[hk];dsimp only;rw[zW0 ⟨by omega,by omega⟩]
theorem zAy (e:f σ M=some (.dat (mD zA),M)):fB zAu (zU f zj) σ M=some (.dat (.int zA.length),M):=by
 have:=zHk e zAG;rw[zWu]at this;exact this
theorem zJI (m:IsM zA l) (e:f σ M=some (.dat (mD zA),M)):fB zAu (zU (fOp kIx f (fC (.int 0))) zj) σ M=some (.dat (.int l),M):=by
 have r0:=m.r0;have:=zHk (zM (g:=fC (.int 0)) e rfl (zBK zAG (zHY (h:=0) (by omega) (by omega)))) zAG;rw[zWu,(m.get (h:=0) (by omega) (by omega)).1]at this;exact this
end Law
namespace Law
open PySem PySem.Spec PyProof.Rows L2 L3 ST
theorem oS (h:f σ M=some (.dat (.int i),M)):zAc f σ M=some (some i,M):=by unfold zAc;rw[h]
theorem zOB (h0:0<p) (hx:0<xs.length):L3.zDj xs (some p) none=xs.drop p.toNat:=by
 have e:p=((p.toNat:Nat):Int):=by omega
 have s:HT.sIx xs.length 0 (some p)=min p.toNat xs.length:=by
  have q:=HT.zGY xs.length 0 p.toNat;rw[<-e]at q;exact q
 have z:HT.sIx xs.length xs.length none=xs.length:=rfl;unfold L3.zDj;rw[s,z];rcases Nat.le_total p.toNat xs.length with q|q
 .rw[Nat.min_eq_left q,List.take_of_length_le (by simp)]
 .rw[Nat.min_eq_right q,List.drop_of_length_le (zWr _),List.drop_of_length_le q];simp
end Law
namespace Lac
open PySem PySem.Spec PyProof.Rows L2 L3 ST Law
theorem zd (h:P (.ref M.length) (M++[.lst xs])):zGM P (.fl xs) M:=h
theorem zY (A:Mem) (u:MO):(A++[u])[A.length]?=some u:=by simp
def zDv:FS:=(zAM (zNY (fB zAu (zU (zC 0) zj))))
def zAO:FF:=zBE 1 zDv
def zEc:FS:=(zAM (zFh [1,2] [2] (zq (zC 0)) (gN 1) zn (zq (zC 0)) (gN 2) (tst (fOp kLt (zC 1) (zC 2))) (zA6 (zD (toD (zC 1)) (zD (toD (zC 2)) zF)))))
def zAa:FF:=zBE 3 zEc
theorem zKa {α:Type} (enc out:α->D) (keep:α->Bool):∀ (as:List α),(∀ a∈as,∃ σ1,g (enc a) σ=some σ1/\tc σ1 M=some (keep a,M)/\(keep a=true->te σ1 M=some (.dat (out a),M)))->zA8 g tc te σ all none (as.map enc) M=some ((as.filter keep).map out,M)
 |[],_=>by
  rw[List.map_nil];unfold zA8;rw[zW0 (show zA0 none all M from trivial)];rfl
 |a::r,h=>by
  obtain ⟨σ1,e1,e2,e3⟩:=h a zWz;have ih:=zKa (all:=all) (σ:=σ) enc out keep r λb hb=>h b (zWy _ hb);rw[zW4];unfold zA8;rw[zW0 (show zA0 none all M from trivial),e1];dsimp only;rw[e2];cases hk:keep a with
  |false=>
   dsimp only;rw[ih,List.filter_cons_of_neg (by simp[hk])]
  |true=>
   dsimp only;rw[show toD te σ1 M=some (out a,M) by unfold toD;rw[e3 hk]];dsimp only;rw[ih,List.filter_cons_of_pos hk];rfl
theorem zQ9 {α β:Type} (as:List α) (enc:α->D) (bs:α->List β) (enc2:β->D) (keep:α->β->Bool) (out:α->β->D) (B:Nat)
  (hi:fi σ M=some (as.map enc,none,M)) (hB:∀ a∈as,(bs a).length<=B) (hz:as.length*B<=90000)
  (he:∀ a∈as,∃ σ1,fg (enc a) (zBM own σ)=some σ1/\fi2 σ1 M=some ((bs a).map enc2,none,M) /\ ∀ b∈bs a,∃ σ2,fg2 (enc2 b) (zBM own2 σ1)=some σ2/\tc2 σ2 M=some (keep a b,M)/\(keep a b=true->te σ2 M=some (.dat (out a b),M))) :
  zFh own own2 fi fg zn fi2 fg2 tc2 te σ M=some (.fl (as.flatMap λa=>((bs a).filter (keep a)).map (out a)),M):=by
 have key:∀ (r:List α) (acc:List D),(∀ a∈r,a∈as)->acc.length+r.length*B<=90000->zJz fg zn fi2 own2 fg2 tc2 te (zBM own σ) (as.map enc) none (r.map enc) acc M=some (acc++r.flatMap λa=>((bs a).filter (keep a)).map (out a),M):=by
  intro r;induction r with
  |nil=>
   intro acc _ _;rw[List.map_nil];unfold zJz;rw[zW0 (show zA0 none (as.map enc) M from trivial)];simp
  |cons a r ih=>
   intro acc hs hl;have ha:=hs a zWz;obtain ⟨σ1,e1,e2,e3⟩:=he a ha;have hb:=hB a ha;have hlen:(((bs a).filter (keep a)).map (out a)).length<=(bs a).length:=by rw[zWu];exact zY5 _ _
   rw[zXI,Nat.add_mul]at hl;rw[zW4];unfold zJz;rw[zW0 (show zA0 none (as.map enc) M from trivial),e1];dsimp only;rw[show zn σ1 M=some (true,M)from rfl];dsimp only;rw[e2];dsimp only;rw[zW0 (zX (by rw[zWu];omega)),zKa enc2 (out a) (keep a) (bs a) e3];dsimp only;rw[ih _ (λb hb=>hs b (zWy _ hb)) (by rw[zW1];omega)];rw[List.flatMap_cons,zXr]
 unfold zFh;rw[hi];dsimp only;rw[key as [] (λ_ h=>h) (by simpa using hz)];simp
def zg (xs:Ye):List (List Int):=xs.flatMap λa=>(xs.filter λb=>decide (a<b)).map λb=>[a,b]
theorem zEs (hz:xs.length<=200):zAa [tI xs] M=some (.ref M.length,M++[.lst ((zg xs).map tI)]):=by
 suffices h:Ok (zAa [tI xs] M) λd M'=>d=.ref M.length/\M'=M++[.lst ((zg xs).map tI)] by
  obtain ⟨d,M',e,rfl,rfl⟩:=h;exact e
 unfold zAa;rw[zw];unfold zEc;rw[zAn];have hq:xs.length*xs.length<=90000:=zXC (zYN hz hz) (by decide);refine zE (zQ9 xs D.int (λ_=>xs) D.int (λa b=>decide (a<b)) (λa b=>tI [a,b]) xs.length (zDc rfl) (λ_ _=>zWr _) hq λa ha=>⟨_,rfl,zDc rfl,λb hb=>⟨_,rfl,?_,λ_=>?_⟩⟩) (zd ⟨rfl,?_⟩)
 .exact zv (zM (x:=.dat (.int a)) (y:=.dat (.int b)) rfl rfl (zW (zTb.mpr ⟨rfl,rfl⟩)))
 .unfold zA6;rw[zk (d:=.int a) rfl (zf (d:=.int b) rfl)];dsimp only;rw[zW0 (zX (by simp))];rfl
 .congr 3;unfold zg;rw[List.map_flatMap];congr 1;funext a;rw[zW9];rfl
theorem zA4:p∈zg xs ↔ ∃ a b,p=[a,b]/\a∈xs/\b∈xs/\a<b:=by
 unfold zg;rw[List.mem_flatMap];constructor
 .rintro ⟨a,ha,h⟩;obtain ⟨b,hb,rfl⟩:=zW2.mp h;obtain ⟨h1,h2⟩:=zXw.mp hb;exact ⟨a,b,rfl,ha,h1,zXh h2⟩
 .rintro ⟨a,b,rfl,ha,hb,hlt⟩;exact ⟨a,ha,zW2.mpr ⟨b,zXw.mpr ⟨hb,zXt hlt⟩,rfl⟩⟩
theorem zD3 (hz:zA.length<=1000):zAO [mD zA] M=some (tI ((List.range zA.length).map λ(k:Nat)=>(k:Int)),M):=by
 refine zW ?_;unfold zAO;rw[zw];unfold zDv;refine zAU (d:=tI ((List.range zA.length).map λ(k:Nat)=>(k:Int))) ?_ ⟨rfl,rfl⟩;unfold zNY;rw[show fB zAu (zU (zC 0) zj) ([mD zA].map some++List.replicate (1 - [mD zA].length) none) M=some (.dat (.int zA.length),M)from zAy rfl];dsimp only;rw[zW0 ⟨by omega,by omega⟩];unfold upD tI;rw[zW9,show (zA.length:Int).toNat=zA.length by omega];rfl
def zJm (g:Ye):List Key:=g.map Sum.inl
theorem zKi:∀ {a b:Ye},zJm a=zJm b->a=b
 |[],[],_=>rfl
 |[],_::_,h=>by cases h
 |_::_,[],h=>by cases h
 |x::a,y::b,h=>by
  have h1:=(zXp h).1;have h2:=zKi (zXp h).2;cases h1;rw[h2]
theorem zG7:∀ g:List Int,zHF (g.map D.int)=some (zJm g)
 |[]=>rfl
 |x::r=>by
  rw[zW4];unfold zHF;rw[zG7 r];rfl
theorem zHD (g:Ye):tkD (tI g)=some (zJm g):=zG7 g
abbrev zJA (T:List (List Int × D)):List (D × D):=T.map λq=>(tI q.1,q.2)
abbrev dT (T:List (List Int × D)):MO:=.dicT (zJA T)
def zH:List (List Int × D)->List Int->Option D
 |[],_=>none
 |q::r,g=>if q.1=g then some q.2 else zH r g
def zDS (T:List (List Int × D)) (g:Ye) (v:D):List (List Int × D):=match zH T g with
 |some _=>T.map λq=>if q.1=g then (q.1,v) else q
 |none=>T++[(g,v)]
theorem zKB (a g:Ye):decide (tkD (tI a)=some (zJm g))=decide (a=g):=by
 rw[zHD];by_cases h:a=g
 .subst h;simp
 .rw[zXK h,zXK];intro e;exact h (zKi (zXl e))
theorem zQ2 (g:Ye):∀ T:List (List Int × D),zCB tkD (zJA T) (zJm g)=zH T g
 |[]=>rfl
 |q::r=>by
  have ih:=zQ2 g r;unfold zCB at ih ⊢;unfold zJA at ih ⊢;rw[zW4,zYX];rw[zKB];unfold zH;by_cases h:q.1=g
  .rw[zXt h,zW0 h];rfl
  .rw[zXK h,zW3 h];exact ih
theorem zS2 (g:Ye):∀ T:List (List Int × D),((zJA T).any λp=>decide (tkD p.1=some (zJm g)))=(zH T g).isSome
 |[]=>rfl
 |q::r=>by
  have ih:=zS2 g r;unfold zJA at ih ⊢;rw[zW4,List.any_cons,zKB];unfold zH;by_cases h:q.1=g
  .rw[zXt h,zW0 h];rfl
  .rw[zXK h,zW3 h,Bool.false_or];exact ih
theorem zVS (T:List (List Int × D)) (g:Ye) (v:D):zH6 tkD (zJA T) (zJm g) (tI g) v=zJA (zDS T g v):=by
 unfold zH6 zDS;rw[zS2];cases h:zH T g with
 |none=>
  rw[zW3 (by simp)];unfold zJA;rw[zXd];rfl
 |some d=>
  rw[zW0 (by simp)];unfold zJA;rw[zW9,zW9];apply List.map_congr_left;intro q _;show (if tkD (tI q.1)=some (zJm g) then (tI q.1,v) else (tI q.1,q.2))=(tI (if q.1=g then (q.1,v) else q).1,(if q.1=g then (q.1,v) else q).2);have hd:=zKB q.1 g;by_cases hq:q.1=g
  .rw[zXt hq]at hd;rw[zW0 (zXh hd),zW0 hq]
  .rw[zXK hq]at hd;rw[zW3 (of_decide_eq_false hd),zW3 hq]
theorem zEO (T:List (List Int × D)) (g h:Ye) (v:D):zH (zDS T g v) h=if g=h then some v else zH T h:=by
 have app:∀ (T:List (List Int × D)),zH T g=none->zH (T++[(g,v)]) h=if g=h then some v else zH T h:=by
  intro T;induction T with
  |nil=>intro _;rfl
  |cons q r ih=>
   intro e;unfold zH at e;by_cases hq:q.1=g
   .rw[zW0 hq]at e;cases e
   .rw[zW3 hq]at e;show (if q.1=h then some q.2 else zH (r++[(g,v)]) h)=if g=h then some v else if q.1=h then some q.2 else zH r h
    rw[ih e];by_cases h1:q.1=h
    .rw[zW0 h1,zW0 h1,zW3 (λz=>hq (h1.trans z.symm))]
    .rw[zW3 h1,zW3 h1]
 have mp:∀ (T:List (List Int × D)),(zH T g).isSome=true->zH (T.map λq=>if q.1=g then (q.1,v) else q) h=if g=h then some v else zH T h:=by
  intro T;by_cases hgh:g=h
  .subst hgh;induction T with
   |nil=>intro e;cases e
   |cons q r ih=>
    intro e;rw[zW4];unfold zH;by_cases hq:q.1=g
    .rw[zW0 hq];simp[hq]
    .rw[zW3 hq,zW3 hq];unfold zH at e;rw[zW3 hq]at e;rw[ih e,zW0 rfl,zW0 rfl]
  .intro hx;clear hx;rw[zW3 hgh];induction T with
   |nil=>rfl
   |cons q r ih=>
    rw[zW4];unfold zH;by_cases hq:q.1=g
    .have:¬ q.1=h:=λz=>hgh (hq.symm.trans z);rw[zW0 hq];rw[zW3 this,zW3 this];exact ih
    .rw[zW3 hq];by_cases h1:q.1=h
     .rw[zW0 h1,zW0 h1]
     .rw[zW3 h1,zW3 h1];exact ih
 unfold zDS;cases e:zH T g with
 |none=>exact app T e
 |some d=>exact mp T (by rw[e];rfl)
theorem zKe (T:List (List Int × D)) (g:Ye) (v:D):(zDS T g v).length<=T.length+1:=by
 unfold zDS;cases zH T g with
 |none=>simp
 |some d=>simp
section
theorem dgT (h:M[n]?=some (dT T)):zDN M (.dat (.ref n)) (tI g)=some (zH T g):=by
 unfold zDN;dsimp only;rw[h];dsimp only;rw[zHD];dsimp only;rw[zQ2]
theorem zL4 (h:M[n]?=some (dT T)):zBV neg (.dat (tI g)) (.dat (.ref n)) M=some (.dat (.bl (if neg then !(zH T g).isSome else (zH T g).isSome)),M):=by
 unfold zBV;dsimp only;rw[dgT h]
theorem zIv (h:M[n]?=some (dT T)) (hd:zH T g=some d):zAA (.dat (.ref n)) (.dat (tI g)) M=some (.dat d,M):=by
 unfold zAA;dsimp only;rw[dgT h,hd]
theorem zNU (h:M[n]?=some (dT T)) (hz:T.length<90000):zD7 M n (tI g) v=some (M.set n (dT (zDS T g v))):=by
 unfold zD7;rw[h];dsimp only;rw[zHD];dsimp only;rw[zW0 (by rw[zWu];exact zXA hz (zX (by omega))),zVS]
end
end Lac
namespace Lac
open PySem PySem.Spec PyProof.Rows L2 L3 ST Law
def zEA:FS:=(zQ (zi 1 zLn)
  (zQ (zCD (zq (zK zAa (zD (toD (zK zAO (zD (toD (zC 0)) zF))) zF))) (gN 2) (zCD (zAH (zD (toD (fB zAu (zU (fOp kIx (zC 0) (fC (.int 0))) zj))) zF)) (gN 3) (zQ (zi 4 (zK zBB (zD (toD (zC 0)) (zD (toD (zC 2)) (zD (toD (zC 3)) zF)))))
  (zQ (sIf (tst (fOp (zBV true) (zC 4) (zC 1))) (zCL (zBJ zF) (zC 1) (zC 4)) zAv)
  (zBF (fM zAP (fOp zAA (zC 1) (zC 4)) (zD (toD (zC 2)) zF)))))))
  (zAM (zC 1))))
def zB7:FF:=zBE 5 zEA
def zDB (zA:Ya) (ps:List (List Int × Int)) (g:Ye):List (List Int):=(ps.filter λq=>decide (setR zA q.1 q.2=g)).map (·.1)
theorem zHO (zA:Ya) (ps:List (List Int × Int)) (p:Ye) (x:Int) (g:Ye):zDB zA (ps++[(p,x)]) g=zDB zA ps g++(if setR zA p x=g then [p] else []):=by
 unfold zDB;rw[List.filter_append,zXd];congr 1;by_cases h:setR zA p x=g
 .rw[zW0 h,List.filter_cons_of_pos (by simpa using h)];rfl
 .rw[zW3 h,List.filter_cons_of_neg (by simpa using h)];rfl
structure Sr (zA:Ya) (M:Mem) (jd lo:Nat) (ps:List (List Int × Int)):Prop where
 ex:∃ T:List (List Int × D),M[jd]?=some (dT T)/\T.length<=ps.length/\(∀ g d,zH T g=some d -> ∃ j,d=.ref j/\lo<j/\M[j]?=some (.lst ((zDB zA ps g).map tI)))/\(∀ g,zH T g=none->zDB zA ps g=[]) /\ ∀ g g' j,zH T g=some (.ref j)->zH T g'=some (.ref j)->g=g'
theorem zOx {zA:Ya} {l:Nat} (m:IsM zA l) (hR:zA.length<64) {M:Mem} {jd lo:Nat} {ps:List (List Int × Int)} (hps:ps.length<50000) (hlo:jd<lo) (hlo2:lo<M.length) (sr:Sr zA M jd lo ps) {p:Ye} (hp:IsS zA p) {x:Int} (x0:0<=x) (x1:x<l) {y4:Option D} :
  OkS (zQ (zi 4 (zK zBB (zD (toD (zC 0)) (zD (toD (zC 2)) (zD (toD (zC 3)) zF))))) (zQ (sIf (tst (fOp (zBV true) (zC 4) (zC 1))) (zCL (zBJ zF) (zC 1) (zC 4)) zAv) (zBF (fM zAP (fOp zAA (zC 1) (zC 4)) (zD (toD (zC 2)) zF)))) [some (mD zA),some (.ref jd),some (tI p),some (.int x),y4] M)
   λo σ' M'=>o=.nx/\(∃ y,σ'=[some (mD zA),some (.ref jd),some (tI p),some (.int x),y])/\Sr zA M' jd lo (ps++[(p,x)])/\M.length<=M'.length /\ ∀ j,j<=lo->j≠jd->M'[j]?=M[j]?:=by
 obtain ⟨T,ed,hT,h1,h2,h3⟩:=sr.ex;refine zCH (zy (zk rfl (zk rfl (zf rfl))) (zGV m hR hp x0 x1)) ?_;generalize hg:setR zA p x=goal;show OkS (zQ _ _ [some (mD zA),some (.ref jd),some (tI p),some (.int x),some (tI goal)] M) _;rw[zG,zAf];refine zE (M:=M) (a:=!(zH T goal).isSome) (zv (zM (x:=.dat (tI goal)) (y:=.dat (.ref jd)) rfl rfl (zL4 ed))) ?_
 have last:∀ (A:Mem) (T':List (List Int × D)) (j:Nat),A[jd]?=some (dT T')->zH T' goal=some (.ref j)->lo<j->A[j]?=some (.lst ((zDB zA ps goal).map tI))->T'.length<=ps.length+1->M.length<=A.length->(∀ j,j<=lo->j≠jd->A[j]?=M[j]?) ->
   (∀ g d,zH T' g=some d -> ∃ j,d=.ref j/\lo<j/\A[j]?=some (.lst ((zDB zA ps g).map tI)))->(∀ g,zH T' g=none->zDB zA ps g=[])->(∀ g g' j,zH T' g=some (.ref j)->zH T' g'=some (.ref j)->g=g') ->
   OkS (zBF (fM zAP (fOp zAA (zC 1) (zC 4)) (zD (toD (zC 2)) zF)) [some (mD zA),some (.ref jd),some (tI p),some (.int x),some (tI goal)] A)
    λo σ' M'=>o=.nx/\(∃ y,σ'=[some (mD zA),some (.ref jd),some (tI p),some (.int x),y])/\Sr zA M' jd lo (ps++[(p,x)])/\M.length<=M'.length /\ ∀ j,j<=lo->j≠jd->M'[j]?=M[j]?:=by
  intro A T' j ea el hj ej hz hle hfr k1 k2 k3;rw[zBY];have hfl:(zDB zA ps goal).length<=ps.length:=by unfold zDB;rw[zWu];exact zY5 _ _
  have jl:j<A.length:=(zWo.mp ej).1;refine zGP.mpr (zE (zM (x:=.dat (.ref jd)) (y:=.dat (tI goal)) rfl rfl (zIv ea el)) ⟨⟨_,zAV ej⟩,zE (zf (d:=tI p) rfl) ?_⟩);rw[zB8 ej (by rw[zWu];exact zXA (m:=95000) (by omega) (zX (by omega)))];refine ⟨rfl,⟨_,rfl⟩,⟨T',by rw[zXF (by omega)];exact ea,by simpa using hz,λg d hd=>?_,λg hd=>?_,k3⟩,by simpa using hle,λi hi hn=>by rw[zXF (by omega)];exact hfr i hi hn⟩
  .obtain ⟨j',rfl,hj',ej'⟩:=k1 g d hd;refine ⟨j',rfl,hj',?_⟩;rw[zHO,hg];by_cases hgg:goal=g
   .subst hgg;rw[el]at hd;cases hd;rw[zXf jl,zW0 rfl,zXd];rfl
   .rw[zW3 hgg,zXV];have:j≠j':=λz=>hgg (k3 goal g j el (by rw[z];exact hd));rw[zXF this];exact ej'
  .rw[zHO,hg,zW3 (λz=>by rw[<-z,el]at hd;cases hd),zXV];exact k2 g hd
 cases hl:zH T goal with
 |some d=>
  obtain ⟨j,rfl,hj,ej⟩:=h1 goal d hl;rw[zW3 (by simp),zAK,zL];exact last M T j ed hl hj ej (by omega) (zWr _) (λ_ _ _=>rfl) h1 h2 h3
 |none=>
  rw[zW0 (by simp)];have e0:=h2 goal hl;have jdl:jd<M.length:=(zWo.mp ed).1;have ed':(M++[MO.lst ([]:List D)])[jd]?=some (dT T):=by rw[zWs jdl];exact ed
  refine ⟨.nx,[some (mD zA),some (.ref jd),some (tI p),some (.int x),some (tI goal)],(M++[MO.lst ([]:List D)]).set jd (dT (zDS T goal (.ref M.length))),?_,?_⟩
  .unfold zCL;rw[show toD (zBJ zF) [some (mD zA),some (.ref jd),some (tI p),some (.int x),some (tI goal)] M=some (.ref M.length,M++[.lst []]) by
    unfold toD zBJ zF;dsimp only;rw[zW0 (zX (by simp))]]
   dsimp only;rw[show toD (zC 1) [some (mD zA),some (.ref jd),some (tI p),some (.int x),some (tI goal)] (M++[.lst []])=some (.ref jd,M++[.lst []])from rfl];dsimp only;rw[show toD (zC 4) [some (mD zA),some (.ref jd),some (tI p),some (.int x),some (tI goal)] (M++[.lst []])=some (tI goal,M++[.lst []])from rfl];dsimp only;rw[zNU ed' (by omega)]
  rw[zL];have hput:=λg=>zEO T goal g (.ref M.length);refine last _ (zDS T goal (.ref M.length)) M.length (zXf (by simp;omega)) (by rw[hput,zW0 rfl]) hlo2 ?_ (by have:=zKe T goal (.ref M.length);omega) (by simp) (λi hi hn=>?_) (λg d hd=>?_) (λg hd=>?_) (λg g' j hd hd'=>?_)
  .rw[zXF (by omega),e0];simp
  .rw[zXF (Ne.symm hn),zWs (by omega)]
  .rw[hput]at hd;by_cases hgg:goal=g
   .subst hgg;rw[zW0 rfl]at hd;cases hd;exact ⟨M.length,rfl,hlo2,by rw[zXF (by omega),e0];simp⟩
   .rw[zW3 hgg]at hd;obtain ⟨j,rfl,hj,ej⟩:=h1 g d hd;exact ⟨j,rfl,hj,by rw[zXF (by omega),zWs (zWo.mp ej).1];exact ej⟩
  .rw[hput]at hd;by_cases hgg:goal=g
   .rw[zW0 hgg]at hd;cases hd
   .rw[zW3 hgg]at hd;exact h2 g hd
  .rw[hput]at hd hd';by_cases a:goal=g
   .by_cases b:goal=g'
    .rw[<-a,<-b]
    .rw[zW0 a]at hd;rw[zW3 b]at hd';cases hd;obtain ⟨j,e,_,ej⟩:=h1 g' _ hd';cases e;exact absurd (zWo.mp ej).1 (zXT _)
   .rw[zW3 a]at hd;by_cases b:goal=g'
    .rw[zW0 b]at hd';cases hd';obtain ⟨j,e,_,ej⟩:=h1 g _ hd;cases e;exact absurd (zWo.mp ej).1 (zXT _)
    .rw[zW3 b]at hd';exact h3 g g' j hd hd'
def zO (zA:Ya):List Int:=(List.range zA.length).map λ(k:Nat)=>(k:Int)
def zCc (l:Nat) (ps:Ya):List (List Int × Int):=ps.flatMap λp=>(List.range l).map λ(x:Nat)=>(p,(x:Int))
theorem zHQ (l:Nat) (ps:Ya):(zCc l ps).length=ps.length*l:=by
 unfold zCc;induction ps with
 |nil=>simp
 |cons p r ih=>rw[List.flatMap_cons,zW1,ih,zWu,zYi,zXI,Nat.add_mul];omega
theorem zCg (xs:Ye):(zg xs).length<=xs.length*xs.length:=by
 unfold zg;have:∀ (r:Ye),(r.flatMap λa=>(xs.filter λb=>decide (a<b)).map λb=>[a,b]).length<=r.length*xs.length:=by
  intro r;induction r with
  |nil=>simp
  |cons a r ih=>
   rw[List.flatMap_cons,zW1,zWu,zXI,Nat.add_mul];have:=zY5 (λb=>decide (a<b)) xs;omega
 exact this xs
theorem zNT (h:p∈zg (zO zA)):IsS zA p:=by
 obtain ⟨a,b,rfl,ha,hb,hlt⟩:=zA4.mp h;obtain ⟨i,hi,rfl⟩:=zW2.mp ha;obtain ⟨j,hj,rfl⟩:=zW2.mp hb;have:=zXP.mp hi;have:=zXP.mp hj;refine ⟨by simp;omega,by simp,λx hx=>?_⟩;simp only[zWx,zXG,zX6]at hx;omega
theorem zFJ {M M1:Mem} (ha:a σ M=some (ds,M)) (hg:g ds M=some (.ref j,M1)) (hj:M1[j]?=some (.lst xs)):zq (zK g a) σ M=some (xs,zDM (.dat (.ref j)) xs,M1):=by
 have:zK g a σ M=some (.dat (.ref j),M1):=by unfold zK;rw[ha];dsimp only;rw[hg]
 unfold zq;rw[this];dsimp only;rw[ze hj]
theorem zRb {zA:Ya} {l:Nat} (m:IsM zA l) (hR:zA.length<64) (hl:l<=12) {M:Mem}:Ok (zB7 [mD zA] M) λd M'=>d=.ref M.length/\Sr zA M' M.length (M.length+1) (zCc l (zg (zO zA)))/\M.length+1<M'.length /\ ∀ j,j<M.length->M'[j]?=M[j]?:=by
 unfold zB7;rw[zw];unfold zEA;rw[zG,zR];refine zE (M:=M++[.dicT []]) (a:=.dat (.ref M.length)) rfl ?_;rw[zI,zL,zG,zA2];have hrl:(zO zA).length=zA.length:=by unfold zO;simp
 have epr:=zEs (xs:=zO zA) (by omega) (M:=M++[.dicT []]);refine ⟨_,_,_,zFJ (zf (d:=tI (zO zA)) (zy (zf (d:=mD zA) rfl) (zD3 (by omega)))) epr (zY _ _),?_⟩;rw[show (M++[MO.dicT []]).length=M.length+1 by simp];generalize hP:zg (zO zA)=P;have hPl:P.length<=3969:=by
  rw[<-hP];have h1:=zCg (zO zA);rw[hrl]at h1;exact zXC h1 (zYN (show zA.length<=63 by omega) (show zA.length<=63 by omega))
 have e1:(M++[MO.dicT []]++[MO.lst (P.map tI)])[M.length+1]?=some (.lst (P.map tI)):=by
  rw[zXr,zXv (by omega)];simp
 have e0:(M++[MO.dicT []]++[MO.lst (P.map tI)])[M.length]?=some (dT []):=by
  rw[zXr,zXv (by omega)];simp
 have ef:∀ j,j<M.length->(M++[MO.dicT []]++[MO.lst (P.map tI)])[j]?=M[j]?:=λj hj=>by rw[zXr,zWs hj]
 have el:(M++[MO.dicT []]++[MO.lst (P.map tI)]).length=M.length+2:=by simp
 generalize M++[MO.dicT []]++[MO.lst (P.map tI)]=M1 at e1 e0 ef el;refine zAl (I:=λr σ M'=>(∃ y2 y3 y4,σ=[some (mD zA),some (.ref M.length),y2,y3,y4]) /\ ∃ us vs:List (List Int),P=us++vs/\r=vs.map tI/\Sr zA M' M.length (M.length+1) (zCc l us)/\M'[M.length+1]?=some (.lst (P.map tI))/\M.length+1<M'.length /\ ∀ j,j<M.length->M'[j]?=M[j]?) ?_ ?_ _ _ _ ⟨⟨_,_,_,rfl⟩,[],P,rfl,rfl,⟨[],e0,by simp,(λg d h=>by cases h),(λ_ _=>rfl),(λg g' j h=>by cases h)⟩,e1,by omega,ef⟩
 .rintro x r σ M' ⟨⟨y2,y3,y4,rfl⟩,us,vs,hab,hr,sr,ep,hlen,hfr⟩;cases vs with
  |nil=>cases hr
  |cons p vs=>
   rw[zW4]at hr;obtain ⟨rfl,rfl⟩:=zXp hr;have hpm:p∈zg (zO zA):=by rw[hP,hab];simp
   have hul:us.length<3969:=by have:=congrArg List.length hab;simp at this;omega
   refine ⟨.inl ep,_,rfl,?_⟩;rw[zA2];refine ⟨_,_,_,zBj (zJI m rfl) (by omega) (by omega),?_⟩;rw[show (l:Int).toNat=l by omega];refine zI9 (n:=l) (I:=λi σ M''=>(∃ y3 y4,σ=[some (mD zA),some (.ref M.length),some (tI p),y3,y4])/\Sr zA M'' M.length (M.length+1) (zCc l us++(List.range i).map λ(x:Nat)=>(p,(x:Int)))/\M''[M.length+1]?=some (.lst (P.map tI))/\M.length+1<M''.length /\ ∀ j,j<M.length->M''[j]?=M[j]?) ?_ ?_ _ _ ⟨⟨_,_,rfl⟩,by simpa using sr,ep,hlen,hfr⟩
   .rintro i σ M2 hi ⟨⟨y3,y4,rfl⟩,sr2,ep2,hlen2,hfr2⟩;refine ⟨_,rfl,?_⟩;have hcount:(zCc l us++(List.range i).map λ(x:Nat)=>(p,(x:Int))).length<50000:=by
     rw[zW1,zHQ,zWu,zYi];have:=zYN (show us.length<=3968 by omega) hl;omega
    refine OkS.mono (zOx m hR hcount (zXi _) hlen2 sr2 (zNT hpm) (x:=(i:Int)) (by omega) (by omega)) ?_;rintro o σ' M3 ⟨rfl,⟨y,rfl⟩,sr3,hl3,hf3⟩;refine ⟨⟨_,_,rfl⟩,?_,by rw[hf3 _ (zWr _) (by omega)];exact ep2,by omega,λj hj=>by rw[hf3 j (by omega) (by omega)];exact hfr2 j hj⟩;rw[List.range_succ,zXd,<-zXr];exact sr3
   .rintro σ M2 ⟨⟨y3,y4,rfl⟩,sr2,ep2,hlen2,hfr2⟩;refine ⟨⟨_,_,_,rfl⟩,us++[p],vs,by rw[hab];simp,rfl,?_,ep2,hlen2,hfr2⟩;have:zCc l (us++[p])=zCc l us++(List.range l).map λ(x:Nat)=>(p,(x:Int)):=by
     unfold zCc;rw[List.flatMap_append];simp
    rw[this];exact sr2
 .rintro σ M' ⟨⟨y2,y3,y4,rfl⟩,us,vs,hab,hr,sr,ep,hlen,hfr⟩;have:vs=[]:=by cases vs with|nil=>rfl|cons _ _=>cases hr
  subst this;rw[zXV]at hab;subst hab;refine ⟨.inl ep,?_⟩;rw[zL];exact zAU rfl ⟨rfl,sr,hlen,hfr⟩
def zDR:FS:=(zQ (zi 2 (zK zB7 (zD (toD (zC 0)) zF)))
  (zQ (zi 3 (zC 1))
  (zQ (zi 4 (zC4 true [5] (zq (zC 1)) (gN 5) zn (zC 5) (fC (.int 0))))
  (zQ (zBb (zKw (zC 3)) (zQ (zi 6 (zBJ zF))
  (zQ (zCD (zq (zC 3)) (gN 5) (zCD (zq (zBv (zC 2) (zC 5) (zBJ zF))) (gN 7) (sIf (tst (fOp (zBV true) (zC 7) (zC 4))) (zQ (zCL (fOp zAo (fOp zAA (zC 4) (zC 5)) (fC (.int 1))) (zC 4) (zC 7))
  (zBF (fM zAP (zC 6) (zD (toD (zC 7)) zF)))) zAv)))
  (zi 3 (zC 6)))) 1000)
  (zAM (zC 4))))))
def zBO:FF:=zBE 8 zDR
abbrev Fd:=List (List Int × D) × List (List Int)
def zBG (k:Int) (st:Fd) (p:Ye):Fd:=if (zH st.1 p).isSome then st else (zDS st.1 p (.int k),st.2++[p])
structure Lv (M0 M:Mem) (jf jb:Nat) (st:Fd):Prop where
 f:M[jf]?=some (dT st.1)
 b:M[jb]?=some (.lst (st.2.map tI))
 len:M0.length<=M.length
 fr:∀ j,j<M0.length->j≠jf->j≠jb->M[j]?=M0[j]?
theorem zP1 (k:Int) (st:Fd) (p:Ye):(zBG k st p).1.length<=st.1.length+1/\(zBG k st p).2.length<=st.2.length+1:=by
 unfold zBG;split
 .exact ⟨by omega,by omega⟩
 .exact ⟨zKe _ _ _,by simp⟩
theorem zRs {M0:Mem} {jf jb js jd jl:Nat} {zA:Ya} {x1 x3 y7:Option D} {goal:Ye} {k:Int} {ps:Ya} (hne:jf≠jb) (h1:jf<M0.length) (h2:jb<M0.length) :
  ∀ (M:Mem) (st:Fd),Lv M0 M jf jb st->M[js]?=some (.lst (ps.map tI))->js≠jf->js≠jb->zH st.1 goal=some (.int k)->st.1.length+ps.length<=80000->st.2.length+ps.length<=80000 ->
  OkS (zCu (gN 7) (sIf (tst (fOp (zBV true) (zC 7) (zC 4))) (zQ (zCL (fOp zAo (fOp zAA (zC 4) (zC 5)) (fC (.int 1))) (zC 4) (zC 7)) (zBF (fM zAP (zC 6) (zD (toD (zC 7)) zF)))) zAv) (ps.map tI) (zDM (.dat (.ref js)) (ps.map tI)) (ps.map tI) [some (mD zA),x1,some (.ref jd),x3,some (.ref jf),some (tI goal),some (.ref jb),y7] M)
   λo σ' M'=>o=.nx/\(∃ y,σ'=[some (mD zA),x1,some (.ref jd),x3,some (.ref jf),some (tI goal),some (.ref jb),y])/\Lv M0 M' jf jb (ps.foldl (zBG (k+1)) st)/\M'.length=M.length /\ ∀ j,j≠jf->j≠jb->M'[j]?=M[j]?:=by
 intro M st lv ejs n1 n2 hgl z1 z2;refine zAl (I:=λr σ M'=>(∃ y,σ=[some (mD zA),x1,some (.ref jd),x3,some (.ref jf),some (tI goal),some (.ref jb),y]) /\ ∃ us vs:List (List Int),ps=us++vs/\r=vs.map tI/\Lv M0 M' jf jb (us.foldl (zBG (k+1)) st)/\zH (us.foldl (zBG (k+1)) st).1 goal=some (.int k)/\(us.foldl (zBG (k+1)) st).1.length<=st.1.length+us.length/\(us.foldl (zBG (k+1)) st).2.length<=st.2.length+us.length/\M'.length=M.length /\ ∀ j,j≠jf->j≠jb->M'[j]?=M[j]?) ?_ ?_ _ _ _ ⟨⟨_,rfl⟩,[],ps,rfl,rfl,lv,hgl,by simp,by simp,rfl,λ_ _ _=>rfl⟩
 .rintro x r σ M' ⟨⟨y,rfl⟩,us,vs,hab,hr,lv',hg',l1,l2,hl,hfr⟩;cases vs with
  |nil=>cases hr
  |cons p vs=>
   rw[zW4]at hr;obtain ⟨rfl,rfl⟩:=zXp hr;have hul:us.length<ps.length:=by rw[hab];simp
   refine ⟨.inl (by rw[hfr js n1 n2];exact ejs),_,rfl,?_⟩;have hfold:(us++[p]).foldl (zBG (k+1)) st=zBG (k+1) (us.foldl (zBG (k+1)) st) p:=by rw[List.foldl_append];rfl
   generalize us.foldl (zBG (k+1)) st=st' at lv' hg' l1 l2 hfold;have al:=zP1 (k+1) st' p;rw[zAf];refine zE (M:=M') (a:=!(zH st'.1 p).isSome) (zv (zM (x:=.dat (tI p)) (y:=.dat (.ref jf)) rfl rfl (zL4 lv'.f))) ?_;cases hlk:zH st'.1 p with
   |some d=>
    have ea:zBG (k+1) st' p=st':=by unfold zBG;rw[hlk];rfl
    rw[zW3 (by simp),zAK];refine ⟨⟨_,rfl⟩,us++[p],vs,by rw[hab];simp,rfl,?_⟩;rw[hfold,ea];exact ⟨lv',hg',by simp;omega,by simp;omega,hl,hfr⟩
   |none=>
    have ea:zBG (k+1) st' p=(zDS st'.1 p (.int (k+1)),st'.2++[p]):=by unfold zBG;rw[hlk];rfl
    have hgp:p≠goal:=λz=>by rw[z,hg']at hlk;cases hlk
    rw[zW0 (by simp),zG];have ev:fOp zAo (fOp zAA (zC 4) (zC 5)) (fC (.int 1)) [some (mD zA),x1,some (.ref jd),x3,some (.ref jf),some (tI goal),some (.ref jb),some (tI p)] M'=some (.dat (.int (k+1)),M'):=zM (x:=.dat (.int k)) (zM (x:=.dat (.ref jf)) (y:=.dat (tI goal)) rfl rfl (zIv lv'.f hg')) rfl rfl;have hd:OkS (zCL (fOp zAo (fOp zAA (zC 4) (zC 5)) (fC (.int 1))) (zC 4) (zC 7) [some (mD zA),x1,some (.ref jd),x3,some (.ref jf),some (tI goal),some (.ref jb),some (tI p)] M') λo σ' M2=>o=.nx/\σ'=[some (mD zA),x1,some (.ref jd),x3,some (.ref jf),some (tI goal),some (.ref jb),some (tI p)]/\M2=M'.set jf (dT (zDS st'.1 p (.int (k+1)))):=by
     refine ⟨.nx,_,_,?_,rfl,rfl,rfl⟩;unfold zCL;rw[show toD (fOp zAo (fOp zAA (zC 4) (zC 5)) (fC (.int 1))) [some (mD zA),x1,some (.ref jd),x3,some (.ref jf),some (tI goal),some (.ref jb),some (tI p)] M'=some (.int (k+1),M') by unfold toD;rw[ev]];dsimp only;rw[show toD (zC 4) [some (mD zA),x1,some (.ref jd),x3,some (.ref jf),some (tI goal),some (.ref jb),some (tI p)] M'=some (.ref jf,M')from rfl];dsimp only;rw[show toD (zC 7) [some (mD zA),x1,some (.ref jd),x3,some (.ref jf),some (tI goal),some (.ref jb),some (tI p)] M'=some (tI p,M')from rfl];dsimp only;rw[zNU lv'.f (by omega)]
    refine OkS.mono hd ?_;rintro o σ' M2 ⟨rfl,rfl,rfl⟩;rw[zL,zBY];have eb:(M'.set jf (dT (zDS st'.1 p (.int (k+1)))))[jb]?=some (.lst (st'.2.map tI)):=by rw[zXF hne];exact lv'.b
    refine zGP.mpr (zAJ.mpr ⟨_,rfl,⟨_,zAV eb⟩,zE (zf (d:=tI p) rfl) ?_⟩);rw[zB8 eb (by rw[zWu];exact zXA (m:=95000) (by omega) (zX (by omega)))];have jfl:jf<M'.length:=zXA h1 lv'.len;have jbl:jb<M'.length:=zXA h2 lv'.len;refine ⟨⟨_,rfl⟩,us++[p],vs,by rw[hab];simp,rfl,?_⟩;rw[hfold];refine ⟨?_,?_,by simp;omega,by simp;omega,by simp[hl],λj q1 q2=>by rw[zXF (Ne.symm q2),zXF (Ne.symm q1)];exact hfr j q1 q2⟩
    .rw[ea];refine ⟨by rw[zXF (Ne.symm hne),zXf jfl],by rw[zXf (by simpa using jbl),zXd];rfl,by simpa using lv'.len,λj q0 q1 q2=>by rw[zXF (Ne.symm q2),zXF (Ne.symm q1)];exact lv'.fr j q0 q1 q2⟩
    .rw[ea];rw[zEO,zW3 hgp];exact hg'
 .rintro σ M' ⟨⟨y,rfl⟩,us,vs,hab,hr,lv',hg',l1,l2,hl,hfr⟩;have:vs=[]:=by cases vs with|nil=>rfl|cons _ _=>cases hr
  subst this;rw[zXV]at hab;subst hab;exact ⟨.inl (by rw[hfr js n1 n2];exact ejs),rfl,⟨_,rfl⟩,lv',hl,hfr⟩
theorem zVp {f g:FE} {σ:Sd} {M:Mem} {n:Nat} {T:List (List Int × D)} {k:Ye} (hf:f σ M=some (.dat (.ref n),M)) (hn:M[n]?=some (dT T)) (hg:g σ M=some (.dat (tI k),M)):zBv f g (zBJ zF) σ M=some (.dat ((zH T k).getD (.ref M.length)),M++[.lst []]):=by
 have nl:n<M.length:=(zWo.mp hn).1;unfold zBv;rw[show toD f σ M=some (.ref n,M) by unfold toD;rw[hf]];dsimp only;rw[hn];rw[show toD g σ M=some (tI k,M) by unfold toD;rw[hg]];dsimp only;rw[show toD (zBJ zF) σ M=some (.ref M.length,M++[.lst []]) by
  unfold toD zBJ zF;dsimp only;rw[zW0 (zX (by simp))]]
 dsimp only;rw[dgT (g:=k) (show (M++[MO.lst ([]:List D)])[n]?=some (dT T) by rw[zWs nl];exact hn)]
def zBr (src:Y1) (k:Int) (gs:Ya) (st:Fd):Fd:=gs.foldl (λst g=>(src g).foldl (zBG (k+1)) st) st
theorem zOA {k:Int} {st:Fd} {p g:Ye} {d:D} (h:zH st.1 g=some d):zH (zBG k st p).1 g=some d:=by
 unfold zBG;split
 .exact h
 .rename_i q;rw[zEO,zW3 (λz=>q (by rw[z,h];rfl))];exact h
theorem zGz {k:Int} {g:Ye} {d:D}:∀ (ps:Ya) {st:Fd},zH st.1 g=some d->zH (ps.foldl (zBG k) st).1 g=some d
 |[],_,h=>h
 |p::r,_,h=>zGz r (zOA h)
def zVG (M:Mem) (Ts:List (List Int × D)) (jf jb:Nat) (src:Y1):Prop:=∀ g,(∃ j,zH Ts g=some (.ref j)/\j≠jf/\j≠jb/\M[j]?=some (.lst ((src g).map tI)))\/(zH Ts g=none/\src g=[])
theorem zSN {M0:Mem} {jf jb jd jl:Nat} {zA:Ya} {x1 y5 y7:Option D} {k:Int} {gs:Ya} {src:Y1} {Ts:List (List Int × D)} (hne:jf≠jb) (h1:jf<M0.length) (h2:jb<M0.length) (hd:M0[jd]?=some (dT Ts)) (d1:jd≠jf) (d2:jd≠jb) (hl:M0[jl]?=some (.lst (gs.map tI))) (l1:jl≠jf) (l2:jl≠jb) (hs:zVG M0 Ts jf jb src) (B:Nat) (hB:∀ g∈gs,(src g).length<=B)
  {st:Fd} (hg:∀ g∈gs,zH st.1 g=some (.int k)) (Z:Nat) (hZB:Z+B<=80000) (hZ:∀ us vs,gs=us++vs->(zBr src k us st).1.length<=Z/\(zBr src k us st).2.length<=Z) (lv:Lv M0 M0 jf jb st) :
  OkS (zCu (gN 5) (zCD (zq (zBv (zC 2) (zC 5) (zBJ zF))) (gN 7) (sIf (tst (fOp (zBV true) (zC 7) (zC 4))) (zQ (zCL (fOp zAo (fOp zAA (zC 4) (zC 5)) (fC (.int 1))) (zC 4) (zC 7)) (zBF (fM zAP (zC 6) (zD (toD (zC 7)) zF)))) zAv)) (gs.map tI) (zDM (.dat (.ref jl)) (gs.map tI)) (gs.map tI) [some (mD zA),x1,some (.ref jd),some (.ref jl),some (.ref jf),y5,some (.ref jb),y7] M0)
   λo σ' M'=>o=.nx/\(∃ y5 y7,σ'=[some (mD zA),x1,some (.ref jd),some (.ref jl),some (.ref jf),y5,some (.ref jb),y7])/\Lv M0 M' jf jb (zBr src k gs st):=by
 refine zAl (I:=λr σ M'=>(∃ y5 y7,σ=[some (mD zA),x1,some (.ref jd),some (.ref jl),some (.ref jf),y5,some (.ref jb),y7]) /\ ∃ us vs:List (List Int),gs=us++vs/\r=vs.map tI/\Lv M0 M' jf jb (zBr src k us st)/\(∀ g∈gs,zH (zBr src k us st).1 g=some (.int k))) ?_ ?_ _ _ _ ⟨⟨_,_,rfl⟩,[],gs,rfl,rfl,lv,hg⟩
 .rintro x r σ M' ⟨⟨y5,y7,rfl⟩,us,vs,hab,hr,lv',hg'⟩;cases vs with
  |nil=>cases hr
  |cons g vs=>
   rw[zW4]at hr;obtain ⟨rfl,rfl⟩:=zXp hr;have hgm:g∈gs:=by rw[hab];simp
   have hsb:=hB g hgm;obtain ⟨b1,b2⟩:=hZ us (g::vs) hab;have keep:∀ {j:Nat} {u:MO},M0[j]?=some u->j≠jf->j≠jb->M'[j]?=some u:=λ{j u} e q1 q2=>(lv'.fr j (zWo.mp e).1 q1 q2).trans e;refine ⟨.inl (keep hl l1 l2),_,rfl,?_⟩;have hfold:zBr src k (us++[g]) st=(src g).foldl (zBG (k+1)) (zBr src k us st):=by unfold zBr;rw[List.foldl_append];rfl
   generalize zBr src k us st=st' at lv' hg' b1 b2 hfold;have e2:=zVp (f:=zC 2) (g:=zC 5) (σ:=[some (mD zA),x1,some (.ref jd),some (.ref jl),some (.ref jf),some (tI g),some (.ref jb),y7]) (M:=M') (k:=g) rfl (keep hd d1 d2) rfl;have lvA:Lv M0 (M'++[.lst []]) jf jb st':=by
    have f1:=(zWo.mp lv'.f).1;have f2:=(zWo.mp lv'.b).1;have f3:=lv'.len;exact ⟨by rw[zWs f1];exact lv'.f,by rw[zWs f2];exact lv'.b,by simp;omega,λj q0 q1 q2=>by rw[zWs (by omega)];exact lv'.fr j q0 q1 q2⟩
   obtain ⟨js,ejs,n1,n2,el⟩:∃ js,(zH Ts g).getD (.ref M'.length)=.ref js/\js≠jf/\js≠jb/\(M'++[MO.lst ([]:List D)])[js]?=some (.lst ((src g).map tI)):=by
    rcases hs g with ⟨j,e,q1,q2,q3⟩|⟨e,q⟩
    .have:=keep q3 q1 q2;exact ⟨j,by rw[e];rfl,q1,q2,by rw[zWs (zWo.mp this).1];exact this⟩
    .have:=lv'.len;exact ⟨M'.length,by rw[e];rfl,by omega,by omega,by rw[q];simp⟩
   rw[ejs]at e2;rw[zA2];refine ⟨_,_,_,(show zq (zBv (zC 2) (zC 5) (zBJ zF)) [some (mD zA),x1,some (.ref jd),some (.ref jl),some (.ref jf),some (tI g),some (.ref jb),y7] M'=some ((src g).map tI,zDM (.dat (.ref js)) ((src g).map tI),M'++[.lst []]) by unfold zq;rw[e2];dsimp only;rw[ze el]),?_⟩;refine OkS.mono (zRs (jl:=jl) (k:=k) hne h1 h2 _ st' lvA el n1 n2 (hg' g hgm) (by omega) (by omega)) ?_;rintro o σ' M2 ⟨rfl,⟨y,rfl⟩,lv2,_,_⟩;refine ⟨⟨_,_,rfl⟩,us++[g],vs,by rw[hab];simp,rfl,?_⟩;rw[hfold];exact ⟨lv2,λg' hg''=>zGz _ (hg' g' hg'')⟩
 .rintro σ M' ⟨⟨y5,y7,rfl⟩,us,vs,hab,hr,lv',hg'⟩;have:vs=[]:=by cases vs with|nil=>rfl|cons _ _=>cases hr
  subst this;rw[zXV]at hab;subst hab;have keep:∀ {j:Nat} {u:MO},M0[j]?=some u->j≠jf->j≠jb->M'[j]?=some u:=λ{j u} e q1 q2=>(lv'.fr j (zWo.mp e).1 q1 q2).trans e;exact ⟨.inl (keep hl l1 l2),rfl,⟨_,_,rfl⟩,lv'⟩
theorem zN4 (k:Int) (st:Fd) (p t:Ye):zH (zBG k st p).1 t=(if (zH st.1 t).isSome then zH st.1 t else if t=p then some (.int k) else none)/\(t∈(zBG k st p).2 ↔ t∈st.2\/(zH st.1 t=none/\t=p)):=by
 unfold zBG;by_cases h:(zH st.1 p).isSome=true
 .rw[zW0 h];constructor
  .by_cases ht:(zH st.1 t).isSome=true
   .rw[zW0 ht]
   .rw[zW3 ht,zW3 (λz=>ht (by rw[z];exact h))];cases e:zH st.1 t with
    |none=>rfl
    |some d=>rw[e]at ht;simp at ht
  .constructor
   .exact .inl
   .rintro (q|⟨q,rfl⟩)
    .exact q
    .rw[q]at h;cases h
 .rw[zW3 h];have hn:zH st.1 p=none:=by
   cases e:zH st.1 p with
   |none=>rfl
   |some d=>rw[e]at h;simp at h
  constructor
  .rw[zEO];by_cases ht:p=t
   .subst ht;rw[zW0 rfl,zW3 h,zW0 rfl]
   .rw[zW3 ht];by_cases hs:(zH st.1 t).isSome=true
    .rw[zW0 hs]
    .rw[zW3 hs,zW3 (λz=>ht z.symm)];cases e:zH st.1 t with
     |none=>rfl
     |some d=>rw[e]at hs;simp at hs
  .rw[zXB,zXD];constructor
   .rintro (q|rfl)
    .exact .inl q
    .exact .inr ⟨hn,rfl⟩
   .rintro (q|⟨_,q⟩)
    .exact .inl q
    .exact .inr q
theorem zGd (k:Int):∀ (ps:Ya) (st:Fd) (t:Ye),zH (ps.foldl (zBG k) st).1 t=(if (zH st.1 t).isSome then zH st.1 t else if t∈ps then some (.int k) else none)/\(t∈(ps.foldl (zBG k) st).2 ↔ t∈st.2\/(zH st.1 t=none/\t∈ps))
 |[],st,t=>by
  constructor
  .by_cases h:(zH st.1 t).isSome=true
   .rw[zW0 h];rfl
   .rw[zW3 h,zW3 (by simp)];cases e:zH st.1 t with
    |none=>exact e
    |some d=>rw[e]at h;simp at h
  .simp
 |p::r,st,t=>by
  obtain ⟨a1,a2⟩:=zN4 k st p t;obtain ⟨b1,b2⟩:=zGd k r (zBG k st p) t;rw[List.foldl_cons,b1,b2,a2,a1];by_cases h:(zH st.1 t).isSome=true
  .rw[zW0 h,zW0 h,zW0 h];refine ⟨rfl,?_⟩;have hn:¬ zH st.1 t=none:=λz=>by rw[z]at h;cases h
   simp[hn]
  .have hn:zH st.1 t=none:=by
    cases e:zH st.1 t with
    |none=>rfl
    |some d=>rw[e]at h;simp at h
   rw[zW3 h,zW3 h];by_cases hp:t=p
   .rw[zW0 hp];refine ⟨?_,?_⟩
    .rw[zW0 (show (some (D.int k)).isSome=true from rfl),zW0 (by rw[hp];exact zWz)]
    .simp[hn,hp]
   .rw[zW3 hp];refine ⟨?_,?_⟩
    .rw[zW3 (by simp)];by_cases hr:t∈r
     .rw[zW0 hr,zW0 (zWy _ hr)]
     .rw[zW3 hr,zW3 (by simp[hp,hr])]
    .simp[hn,hp]
theorem zIP (src:Y1) (k:Int) (gs:Ya) (st:Fd) (t:Ye):zH (zBr src k gs st).1 t=(if (zH st.1 t).isSome then zH st.1 t else if t∈gs.flatMap src then some (.int (k+1)) else none)/\(t∈(zBr src k gs st).2 ↔ t∈st.2\/(zH st.1 t=none/\t∈gs.flatMap src)):=by
 have:∀ (gs:Ya) (st:Fd),zBr src k gs st=(gs.flatMap src).foldl (zBG (k+1)) st:=by
  intro gs;induction gs with
  |nil=>intro st;rfl
  |cons g r ih=>
   intro st;show zBr src k r ((src g).foldl (zBG (k+1)) st)=_;rw[ih,List.flatMap_cons,List.foldl_append]
 rw[this gs st];exact zGd (k+1) (gs.flatMap src) st t
def Rch (zA:Ya) (l:Nat) (G:Yq) (t:Ye) (n:Nat):Prop:=∃ w:List Int,w.length=n/\(∀ x∈w,0<=x/\x<(l:Int))/\G (broR zA t w)
def Dst (zA:Ya) (l:Nat) (G:Yq) (t:Ye) (n:Nat):Prop:=Rch zA l G t n /\ ∀ m,m<n -> ¬ Rch zA l G t m
theorem zHI:Rch zA l G t (n+1) ↔ ∃ x:Int,(0<=x/\x<(l:Int))/\Rch zA l G (setR zA t x) n:=by
 constructor
 .rintro ⟨w,hw,hb,hl⟩;cases w with
  |nil=>cases hw
  |cons x w=>exact ⟨x,hb x zWz,w,by simpa using hw,λy hy=>hb y (zWy _ hy),hl⟩
 .rintro ⟨x,hx,w,hw,hb,hl⟩;exact ⟨x::w,by simp[hw],λy hy=>by rcases zWx.mp hy with rfl|q;exact hx;exact hb y q,hl⟩
theorem zLK:Rch zA l G t 0 ↔ G t:=by
 constructor
 .rintro ⟨w,hw,_,hl⟩;have:w=[]:=List.length_eq_zero_iff.mp hw;subst this;exact hl
 .intro h;exact ⟨[],rfl,(λ_ h=>by cases h),h⟩
theorem zBk:Dst zA l G t 0 ↔ G t:=by
 unfold Dst;rw[zLK];exact ⟨λh=>h.1,λh=>⟨h,λm hm=>by omega⟩⟩
theorem zDC:Dst zA l G t (n+1) ↔ (∀ m,m<=n -> ¬ Rch zA l G t m) /\ ∃ x:Int,(0<=x/\x<(l:Int))/\Dst zA l G (setR zA t x) n:=by
 constructor
 .rintro ⟨h1,h2⟩;obtain ⟨x,hx,hr⟩:=zHI.mp h1;exact ⟨λm hm=>h2 m (by omega),x,hx,hr,λm hm hq=>h2 (m+1) (by omega) (zHI.mpr ⟨x,hx,hq⟩)⟩
 .rintro ⟨h1,x,hx,hr,_⟩;exact ⟨zHI.mpr ⟨x,hx,hr⟩,λm hm=>h1 m (by omega)⟩
theorem zEr:∀ n,Rch zA l G t n -> ∃ m,m<=n/\Dst zA l G t m:=by
 intro n;induction n using Nat.strongRecOn with
 |ind n ih=>
  intro h;by_cases q:∃ m,m<n/\Rch zA l G t m
  .obtain ⟨m,hm,hr⟩:=q;obtain ⟨m',h1,h2⟩:=ih m hm hr;exact ⟨m',by omega,h2⟩
  .exact ⟨n,zWr _,h,λm hm hr=>q ⟨m,hm,hr⟩⟩
theorem zA5 (h1:Dst zA l G t a) (h2:Dst zA l G t b):a=b:=by
 rcases Nat.lt_trichotomy a b with q|q|q
 .exact absurd h1.1 (h2.2 a q)
 .exact q
 .exact absurd h2.1 (h1.2 b q)
def zGv (zA:Ya) (l:Nat) (G:Yq) (U:Yq) (k:Nat) (fd:List (List Int × D)) (lev:Ya):Prop:=(∀ t d,zH fd t=some d ↔ U t /\ ∃ n:Nat,n<=k/\Dst zA l G t n/\d=.int (n:Int)) /\ ∀ t,t∈lev ↔ U t/\Dst zA l G t k
theorem zFU (h:zGv zA l G U k fd lev) (u:U t):zH fd t=none ↔ ∀ m,m<=k -> ¬ Rch zA l G t m:=by
 constructor
 .intro e m hm hr;obtain ⟨n,hn,hd⟩:=zEr m hr;rw[(h.1 t (.int (n:Int))).mpr ⟨u,n,by omega,hd,rfl⟩]at e;cases e
 .intro q;cases e:zH fd t with
  |none=>rfl
  |some d=>
   obtain ⟨_,n,hn,hd,_⟩:=(h.1 t d).mp e;exact absurd hd.1 (q n hn)
theorem zNp {zA:Ya} {l:Nat} {U P:Yq} {src:Y1} (hs:∀ g t,t∈src g ↔ P t /\ ∃ x:Int,(0<=x/\x<(l:Int))/\setR zA t x=g) (hP:∀ t,P t->U t) (hU:∀ t n,U t -> ¬ G t->Rch zA l G t n->P t) (hc:∀ t (x:Int),U t->0<=x/\x<(l:Int)->U (setR zA t x))
  {k:Nat} {fd:List (List Int × D)} {lev:Ya} (h:zGv zA l G U k fd lev):zGv zA l G U (k+1) (zBr src (k:Int) lev (fd,[])).1 (zBr src (k:Int) lev (fd,[])).2:=by
 have key:∀ t,(zH fd t=none/\t∈lev.flatMap src) ↔ U t/\Dst zA l G t (k+1):=by
  intro t;constructor
  .rintro ⟨e,hm⟩;obtain ⟨g,hg,ht⟩:=List.mem_flatMap.mp hm;obtain ⟨p,x,hx,hq⟩:=(hs g t).mp ht;have u:=hP t p;refine ⟨u,zDC.mpr ⟨(zFU h u).mp e,x,hx,?_⟩⟩;rw[hq];exact ((h.2 g).mp hg).2
  .rintro ⟨u,hd⟩;obtain ⟨q,x,hx,hr⟩:=zDC.mp hd;refine ⟨(zFU h u).mpr q,List.mem_flatMap.mpr ⟨setR zA t x,(h.2 _).mpr ⟨hc t x u hx,hr⟩,(hs _ t).mpr ⟨hU t _ u ?_ hd.1,x,hx,rfl⟩⟩⟩;intro h1;exact q 0 (zXX _) (zLK.mpr h1)
 constructor
 .intro t d;rw[(zIP src (k:Int) lev (fd,[]) t).1];cases e:zH fd t with
  |some d'=>
   rw[zW0 (show (some d').isSome=true from rfl)];obtain ⟨u,n,hn,hd,rfl⟩:=(h.1 t d').mp e;constructor
   .intro z;cases z;exact ⟨u,n,by omega,hd,rfl⟩
   .rintro ⟨_,m,_,hm,rfl⟩;rw[zA5 hm hd]
  |none=>
   rw[zW3 (by simp)];by_cases hm:t∈lev.flatMap src
   .rw[zW0 hm];obtain ⟨u,hd⟩:=(key t).mp ⟨e,hm⟩;constructor
    .intro z;cases z;exact ⟨u,k+1,zWr _,hd,by simp⟩
    .rintro ⟨_,m,_,hm',rfl⟩;rw[zA5 hm' hd];simp
   .rw[zW3 hm];constructor
    .intro z;cases z
    .rintro ⟨u,m,hk,hd,rfl⟩;exfalso;by_cases hmk:m<=k
     .exact (zFU h u).mp e m hmk hd.1
     .have:m=k+1:=by omega
      subst this;exact hm ((key t).mpr ⟨u,hd⟩).2
 .intro t;rw[(zIP src (k:Int) lev (fd,[]) t).2];rw[key t];simp
theorem zPe {zA:Ya} {l:Nat} {G:Yq} {U:Yq} (hc:∀ t (x:Int),U t->0<=x/\x<(l:Int)->U (setR zA t x)) {k:Nat} {fd:List (List Int × D)} (h:zGv zA l G U k fd []) (t:Ye) (d:D):zH fd t=some d ↔ U t /\ ∃ n:Nat,Dst zA l G t n/\d=.int (n:Int):=by
 have far:∀ n t,U t -> ¬ Dst zA l G t (k+n):=by
  intro n;induction n with
  |zero=>intro t u hd;exact absurd ((h.2 t).mpr ⟨u,hd⟩) (by simp)
  |succ n ih=>
   intro t u hd;obtain ⟨_,x,hx,hr⟩:=zDC.mp (show Dst zA l G t ((k+n)+1)from hd);exact ih _ (hc t x u hx) hr
 rw[h.1 t d];constructor
 .rintro ⟨u,n,_,a,b⟩;exact ⟨u,n,a,b⟩
 .rintro ⟨u,n,a,b⟩;refine ⟨u,n,?_,a,b⟩;by_cases q:n<=k
  .exact q
  .exfalso;have e:n=k+(n-k):=by omega
   rw[e]at a;exact far _ t u a
def Th (zA:Ya) (t:Ye):Prop:=IsS zA t/\t.length<=2
def zDs (zA:Ya) (l:Nat) (g:Ye):List (List Int):=zDB zA (zCc l (zg (zO zA))) g
theorem zRS (g t:Ye):t∈zDs zA l g ↔ t∈zg (zO zA) /\ ∃ x:Int,(0<=x/\x<(l:Int))/\setR zA t x=g:=by
 unfold zDs zDB zCc;simp only[zW2,zXw,List.mem_flatMap,zXP,zXy];constructor
 .rintro ⟨q,⟨⟨p,hp,k,hk,rfl⟩,hq⟩,rfl⟩;exact ⟨hp,(k:Int),⟨by omega,by omega⟩,hq⟩
 .rintro ⟨hp,x,⟨x0,x1⟩,hq⟩;refine ⟨(t,x),⟨⟨t,hp,x.toNat,by omega,?_⟩,hq⟩,rfl⟩;rw[show ((x.toNat:Nat):Int)=x by omega]
theorem zDG:x∈zO zA ↔ 0<=x/\x<(zA.length:Int):=by
 unfold zO;simp only[zW2,zXP];constructor
 .rintro ⟨k,hk,rfl⟩;omega
 .rintro ⟨h0,h1⟩;exact ⟨x.toNat,by omega,by omega⟩
theorem zCt (t:Ye) (h:t∈zg (zO zA)):Th zA t:=by
 refine ⟨zNT h,?_⟩;obtain ⟨a,b,rfl,_⟩:=zA4.mp h;exact zWr _
theorem zM3 (t:Ye) (h:Th zA t) (h1:t.length≠1):t∈zg (zO zA):=by
 obtain ⟨⟨pw,n0,hm⟩,h2⟩:=h;match t,pw,n0,hm,h1,h2 with
 |[a,b],pw,_,hm,_,_=>
  exact zA4.mpr ⟨a,b,rfl,zDG.mpr (hm a (by simp)),zDG.mpr (hm b (by simp)),by simpa using pw⟩
 |[a],_,_,_,h1,_=>exact absurd rfl h1
 |[],_,n0,_,_,_=>cases n0
 |_::_::_::_,_,_,_,_,h2=>simp at h2
theorem zDQ (m:IsM zA l) (t:Ye) (x:Int) (h:Th zA t) (hx:0<=x/\x<(l:Int)):Th zA (setR zA t x):=by
 refine ⟨m.setR h.1 hx.1 hx.2,?_⟩;have:=zNZ (t.map λh=>zu zA h x);rw[zWu]at this;exact zXC this h.2
def zC6 (zA:Ya) (G:Yq):Prop:=(∀ t,Th zA t->t.length=1->G t) \/ ∀ t,t.length=1 -> ¬ G t
theorem zIp (m:IsM zA l):∀ (w t:Ye),Th zA t->t.length=1->(∀ x∈w,0<=x/\x<(l:Int))->(broR zA t w).length=1
 |[],_,_,h,_=>h
 |x::w,t,u,h,hw=>by
  have hx:=hw x zWz;have u':=zDQ m t x u hx;refine zIp m w (setR zA t x) u' ?_ λy hy=>hw y (zWy _ hy);have h1:=zNZ (t.map λh=>zu zA h x);rw[zWu,h]at h1;have h2:=u'.1.n0;have h3:(setR zA t x).length<=1:=h1;omega
theorem zFl (m:IsM zA l) (o:zC6 zA G) (t:Ye) (n:Nat) (u:Th zA t) (g:¬ G t) (r:Rch zA l G t n):t∈zg (zO zA):=by
 refine zM3 t u λh1=>?_;rcases o with o|o
 .exact g (o t u h1)
 .obtain ⟨w,_,hw,hg⟩:=r;exact o _ (zIp m w t u h1 hw) hg
theorem zKv (m:IsM zA l) (o:zC6 zA G) (h:zGv zA l G (Th zA) k fd lev):zGv zA l G (Th zA) (k+1) (zBr (zDs zA l) (k:Int) lev (fd,[])).1 (zBr (zDs zA l) (k:Int) lev (fd,[])).2 :=
 zNp (P:=λt=>t∈zg (zO zA)) zRS zCt (zFl m o) (zDQ m) h
theorem zO1 (hts:∀ t,t∈ts ↔ Th zA t/\G t) (h:∀ t d,zH fd t=some d ↔ t∈ts/\d=.int 0):zGv zA l G (Th zA) 0 fd ts:=by
 have key:∀ t,t∈ts ↔ Th zA t/\Dst zA l G t 0:=λt=>by rw[zBk,hts]
 refine ⟨λt d=>?_,key⟩;rw[h t d,key t];constructor
 .rintro ⟨⟨a,b⟩,rfl⟩;exact ⟨a,0,zWr _,b,by simp⟩
 .rintro ⟨a,n,hn,b,rfl⟩;have:n=0:=by omega
  subst this;exact ⟨⟨a,b⟩,by simp⟩
abbrev One (t:Ye):Prop:=t.length=1
theorem zPN (t:Ye):t∈(zO zA).map (λr=>[r]) ↔ Th zA t/\One t:=by
 rw[zW2];constructor
 .rintro ⟨r,hr,rfl⟩;have:=zDG.mp hr;refine ⟨⟨⟨by simp,by simp,λx hx=>?_⟩,by simp⟩,rfl⟩;rw[zXD]at hx;subst hx;exact this
 .rintro ⟨⟨s,_⟩,h1⟩;obtain ⟨r,rfl⟩:=List.length_eq_one_iff.mp h1;exact ⟨r,zDG.mpr (s.mem r (by simp)),rfl⟩
theorem zSA:zC6 zA One:=.inl λ_ _ h=>h
theorem whole (m:IsM zA l) (h:zGv zA l G (Th zA) k fd []) (t:Ye) (d:D):zH fd t=some d ↔ Th zA t /\ ∃ n:Nat,Dst zA l G t n/\d=.int (n:Int):=zPe (zDQ m) h t d
theorem zFr {α:Type} [DecidableEq α]:∀ (xs ys:List α),xs.Nodup->(∀ x∈xs,x∈ys)->xs.length<=ys.length
 |[],_,_,_=>zXX _
 |x::r,ys,h,hm=>by
  obtain ⟨h1,h2⟩:=zX5.mp h;have hx:x∈ys:=hm x zWz;have:=zFr r (ys.erase x) h2 λy hy=>(List.mem_erase_of_ne (λz=>h1 (by rw[<-z];exact hy))).mpr (hm y (zWy _ hy));rw[List.length_erase_of_mem hx]at this;have:=zZx hx;simp only[zXI];omega
theorem zD8:∀ {T:List (List Int × D)} {g:Ye},(zH T g).isSome=true ↔ g∈T.map (·.1)
 |[],g=>by simp[zH]
 |q::r,g=>by
  unfold zH;by_cases h:q.1=g
  .simp[h]
  .rw[zW3 h,zD8 (T:=r)];simp only[zW4,zWx];constructor
   .exact .inr
   .rintro (z|z)
    .exact absurd z.symm h
    .exact z
structure Sz (n:Nat) (st:Fd):Prop where
 ks:(st.1.map (·.1)).Nodup
 nd:st.2.Nodup
 sub:∀ t∈st.2,t∈st.1.map (·.1)
 len:st.1.length=n+st.2.length
theorem zR4 {n:Nat} {st:Fd} (k:Int) (p:Ye) (h:Sz n st):Sz n (zBG k st p):=by
 unfold zBG;by_cases q:(zH st.1 p).isSome=true
 .rw[zW0 q];exact h
 .rw[zW3 q];have hn:zH st.1 p=none:=by
   cases e:zH st.1 p with
   |none=>rfl
   |some d=>rw[e]at q;simp at q
  have hk:p∉st.1.map (·.1):=λz=>q (zD8.mpr z);have e:zDS st.1 p (.int k)=st.1++[(p,.int k)]:=by unfold zDS;rw[hn]
  rw[e];refine ⟨?_,?_,?_,?_⟩
  .rw[zXd,zXz];refine ⟨h.ks,by simp,λa ha b hb=>?_⟩;simp at hb;subst hb;intro z;subst z;exact hk ha
  .rw[zXz];refine ⟨h.nd,by simp,λa ha b hb=>?_⟩;simp at hb;subst hb;intro z;subst z;exact hk (h.sub _ ha)
  .intro t ht;rw[zXd,zXB];rcases zXB.mp (show t∈st.2++[p]from ht)with z|z
   .exact .inl (h.sub t z)
   .right;simpa using z
  .rw[zW1,zW1,h.len];simp;omega
theorem zGa (src:Y1) (k:Int):∀ (gs:Ya) {st:Fd},Sz n st->Sz n (zBr src k gs st)
 |[],st,h=>h
 |g::r,st,h=>by
  refine zGa src k r ?_;have:∀ (ps:Ya) {st:Fd},Sz n st->Sz n (ps.foldl (zBG (k+1)) st):=by
   intro ps;induction ps with
   |nil=>intro st h;exact h
   |cons p ps ih=>intro st h;exact ih (zR4 (k+1) p h)
  exact this _ h
theorem zOq (k:Int) (st:Fd) (p:Ye):st.1.length<=(zBG k st p).1.length:=by
 unfold zBG;split
 .exact zWr _
 .unfold zDS;cases zH st.1 p <;> simp
theorem zIo (src:Y1) (k:Int):∀ (gs:Ya) (st:Fd),st.1.length<=(zBr src k gs st).1.length
 |[],st=>zWr _
 |g::r,st=>by
  have h1:∀ (ps:Ya) (st:Fd),st.1.length<=(ps.foldl (zBG (k+1)) st).1.length:=by
   intro ps;induction ps with
   |nil=>intro st;exact zWr _
   |cons p ps ih=>intro st;exact zXC (zOq (k+1) st p) (ih _)
  exact zXC (h1 (src g) st) (zIo src k r _)
theorem zFO (h:zGv zA l G (Th zA) k fd lev) (hk:(fd.map (·.1)).Nodup):fd.length<=zA.length+zA.length*zA.length:=by
 have hr:(zO zA).length=zA.length:=by unfold zO;simp
 have h1:=zFr (fd.map (·.1)) ((zO zA).map (λr=>[r])++zg (zO zA)) hk λt ht=>by
  have hs:=zD8.mpr ht;cases e:zH fd t with
  |none=>rw[e]at hs;cases hs
  |some d=>
   obtain ⟨u,_⟩:=(h.1 t d).mp e;rw[zXB];by_cases h1:t.length=1
   .obtain ⟨r,rfl⟩:=List.length_eq_one_iff.mp h1;exact .inl (zW2.mpr ⟨r,zDG.mpr (u.1.mem r (by simp)),rfl⟩)
   .exact .inr (zM3 t u h1)
 have h2:=zCg (zO zA);rw[zWu,zW1,zWu,hr]at h1;rw[hr]at h2;omega
theorem zQz (h:f σ M=some (.dat (.ref j),M)) (hj:M[j]?=some (.lst xs)):zKw f σ M=some (!xs.isEmpty,M):=by
 unfold zKw;rw[h];dsimp only;rw[ze hj]
theorem zSM (zA:Ya) (l:Nat) (g:Ye):(zDs zA l g).length<=zA.length*zA.length*l:=by
 unfold zDs zDB;rw[zWu];refine zXC (zY5 _ _) ?_;rw[zHQ];have:=zCg (zO zA);have hr:(zO zA).length=zA.length:=by unfold zO;simp
 rw[hr]at this;exact Nat.mul_le_mul_right l this
theorem zPj (m:IsM zA l) (oa:zC6 zA G) (hR:zA.length<=26) (hl:l<=12) (h1:jf<M0.length) (hd:M0[jd]?=some (dT Ts)) (d1:jd≠jf) (hs:∀ g,(∃ j,zH Ts g=some (.ref j)/\j≠jf/\M0[j]?=some (.lst ((zDs zA l g).map tI)))\/(zH Ts g=none/\zDs zA l g=[])) (hf:M0[jf]?=some (dT fd)) (hv:M0[jl]?=some (.lst (lev.map tI))) (l1:jl≠jf) (inv:zGv zA l G (Th zA) 0 fd lev) (nk:(fd.map (·.1)).Nodup) (nl:lev.length<=fd.length) :
  OkS (zBb (zKw (zC 3)) (zQ (zi 6 (zBJ zF)) (zQ (zCD (zq (zC 3)) (gN 5) (zCD (zq (zBv (zC 2) (zC 5) (zBJ zF))) (gN 7) (sIf (tst (fOp (zBV true) (zC 7) (zC 4))) (zQ (zCL (fOp zAo (fOp zAA (zC 4) (zC 5)) (fC (.int 1))) (zC 4) (zC 7)) (zBF (fM zAP (zC 6) (zD (toD (zC 7)) zF)))) zAv))) (zi 3 (zC 6)))) 1000 [some (mD zA),x1,some (.ref jd),some (.ref jl),some (.ref jf),y5,y6,y7] M0)
   λo σ' M'=>o=.nx/\(∃ y3 y5 y6 y7,σ'=[some (mD zA),x1,some (.ref jd),y3,some (.ref jf),y5,y6,y7])/\(∃ fd',M'[jf]?=some (dT fd')/\fd'.length<=702 /\ ∀ t d,zH fd' t=some d ↔ Th zA t /\ ∃ n:Nat,Dst zA l G t n/\d=.int (n:Int))/\M0.length<=M'.length /\ ∀ j,j<M0.length->j≠jf->M'[j]?=M0[j]?:=by
 have hN:zA.length+zA.length*zA.length<=702:=by
  have:=zYN hR hR;omega
 have hB:zA.length*zA.length*l<=8112:=zYN (zYN hR hR) hl;refine zCW (I:=λz σ M=>∃ (jl:Nat) (y5 y6 y7:Option D) (k:Nat) (fd:List (List Int × D)) (lev:Ya),σ=[some (mD zA),x1,some (.ref jd),some (.ref jl),some (.ref jf),y5,y6,y7]/\M[jf]?=some (dT fd)/\M[jl]?=some (.lst (lev.map tI))/\jl≠jf/\zGv zA l G (Th zA) k fd lev/\(fd.map (·.1)).Nodup/\lev.length<=fd.length/\M0.length<=M.length/\(∀ j,j<M0.length->j≠jf->M[j]?=M0[j]?)/\z=(702-fd.length)+(if lev.isEmpty then 0 else 1)) ?_ 1000 ((702-fd.length)+(if lev.isEmpty then 0 else 1)) _ _ (by split <;> omega) ⟨jl,y5,y6,y7,0,fd,lev,rfl,hf,hv,l1,inv,nk,nl,zWr _,λ_ _ _=>rfl,rfl⟩;rintro z σ M ⟨jl,y5,y6,y7,k,fd,lev,rfl,hf,hv,l1,inv,nk,nl,hlen,fr,rfl⟩;have hfl:=zXC (zFO inv nk) hN;refine zE (M:=M) (a:=!(lev.map tI).isEmpty) (zQz rfl hv) ?_;cases lev with
 |nil=>
  exact ⟨rfl,⟨_,_,_,_,rfl⟩,⟨fd,hf,hfl,whole m inv⟩,hlen,fr⟩
 |cons g0 lev0=>
  show OkS (zQ _ _ [some (mD zA),x1,some (.ref jd),some (.ref jl),some (.ref jf),y5,y6,y7] M) _;generalize hlv:g0::lev0=lev at *;have hne0:lev.isEmpty=false:=by rw[<-hlv];rfl
  rw[zG,zR];refine zE (M:=M) (a:=.fl []) (by unfold zBJ zF;dsimp only;rw[zW0 (zX (by simp))]) ?_;rw[zGT,zL,zG,zA2];have fl:=(zWo.mp hf).1;have vl:=(zWo.mp hv).1;have up:∀ {j:Nat},j<M.length->(M++[MO.lst ([]:List D)])[j]?=M[j]?:=λh=>zWs h;have dl:=(zWo.mp hd).1;refine ⟨_,_,_,(show zq (zC 3) [some (mD zA),x1,some (.ref jd),some (.ref jl),some (.ref jf),y5,some (.ref M.length),y7] (M++[.lst []])=some (lev.map tI,zDM (.dat (.ref jl)) (lev.map tI),M++[.lst []]) by
   unfold zq;rw[show zC 3 [some (mD zA),x1,some (.ref jd),some (.ref jl),some (.ref jf),y5,some (.ref M.length),y7] (M++[.lst []])=some (.dat (.ref jl),M++[.lst []])from rfl];dsimp only;rw[ze ((up vl).trans hv)]),?_⟩
  have sz0:Sz fd.length (fd,([]:List (List Int))):=⟨nk,by simp,(λt h=>by cases h),by simp⟩;have szw:Sz fd.length (zBr (zDs zA l) (k:Int) lev (fd,[])):=zGa _ _ lev sz0;have hflw:=zXC (zFO (zKv m oa inv) szw.ks) hN;refine OkS.mono (zSN (k:=(k:Int)) (src:=zDs zA l) (st:=(fd,[])) (Ts:=Ts) (by omega) (by simp;omega) (by simp) ((up (by omega)).trans ((fr _ dl d1).trans hd)) d1 (by omega) ((up vl).trans hv) l1 (by omega) ?_ 8112 (λg _=>zXC (zSM zA l g) hB) ?_ 702 (by omega) (λus vs e=>?_) ⟨(up fl).trans hf,by simp,zWr _,λ_ _ _ _=>rfl⟩) ?_
  .intro g;rcases hs g with ⟨j,e,q1,q2⟩|q
   .have jl':=(zWo.mp q2).1;exact .inl ⟨j,e,q1,by omega,(up (by omega)).trans ((fr _ jl' q1).trans q2)⟩
   .exact .inr q
  .intro g hg;obtain ⟨u,hd'⟩:=(inv.2 g).mp hg;exact (inv.1 g _).mpr ⟨u,k,zWr _,hd',rfl⟩
  .have h3:=zIo (zDs zA l) (k:Int) vs (zBr (zDs zA l) (k:Int) us (fd,[]));have h4:zBr (zDs zA l) (k:Int) vs (zBr (zDs zA l) (k:Int) us (fd,[]))=zBr (zDs zA l) (k:Int) lev (fd,[]):=by rw[e];unfold zBr;rw[List.foldl_append]
   rw[h4]at h3;have h5:=(zGa (zDs zA l) (k:Int) us sz0).len;omega
  .rintro o σ' M' ⟨rfl,⟨y5,y7,rfl⟩,lv⟩;rw[zL,zR];refine zE (M:=M') (a:=.dat (.ref M.length)) rfl ?_;rw[zI];have sz:Sz fd.length (zBr (zDs zA l) (k:Int) lev (fd,[])):=zGa _ _ lev ⟨nk,by simp,(λt h=>by cases h),by simp⟩;have inv':=zKv m oa inv;generalize zBr (zDs zA l) (k:Int) lev (fd,[])=st at lv sz inv';have hfl':=zXC (zFO inv' sz.ks) hN;have hsl:=sz.len;refine ⟨(702-st.1.length)+(if st.2.isEmpty then 0 else 1),?_,M.length,y5,_,y7,k+1,st.1,st.2,rfl,lv.f,lv.b,by omega,inv',sz.ks,by omega,?_,?_,rfl⟩
   .rw[hne0];cases e:st.2 with
    |nil=>simp;omega
    |cons a r=>rw[e]at hsl;simp at hsl ⊢;omega
   .have:=lv.len;simp at this;omega
   .intro j hj hjf;rw[lv.fr j (by simp;omega) hjf (by omega),up (by omega)];exact fr j hj hjf
theorem zNj {M:Mem} {ts:Ya} (hf:f σ M=some (.dat (.ref jl),M)) (hj:M[jl]?=some (.lst (ts.map tI))) (nd:ts.Nodup) (hz:ts.length<=80000) (hg:∀ a,gN i a (zBM own σ)=some ((zBM own σ).set i (some a))) (hs:∀ (a:D) M',zC i ((zBM own σ).set i (some a)) M'=some (.dat a,M')) :
  zC4 true own (zq f) (gN i) zn (zC i) (fC (.int 0)) σ M=some (.dat (.ref M.length),M++[dT (ts.map λt=>(t,.int 0))]):=by
 have hjl:=(zWo.mp hj).1;unfold zC4 zq;rw[hf];dsimp only;rw[ze hj];dsimp only;have loop:∀ (r q:Ya),q++r=ts->zCk (gN i) zn (zC i) (fC (.int 0)) (zBM own σ) M.length (ts.map tI) (zDM (.dat (.ref jl)) (ts.map tI)) (r.map tI) (M++[dT (q.map λt=>(t,.int 0))])=some (M++[dT (ts.map λt=>(t,.int 0))]):=by
  intro r;induction r with
  |nil=>intro q e;rw[zXV]at e;subst e;exact zI1 (.inl (by rw[zWs hjl];exact hj))
  |cons x r ih=>
   intro q e;have hx:x∉q:=λz=>by
    rw[<-e,zXz]at nd;exact nd.2.2 x z x zWz rfl
   have hl:q.length<90000:=by have:=congrArg List.length e;simp at this;omega
   have hk:zH (q.map λt=>(t,D.int 0)) x=none:=by
    cases e2:zH (q.map λt=>(t,D.int 0)) x with
    |none=>rfl
    |some d=>
     have:=zD8.mp (show (zH (q.map λt=>(t,D.int 0)) x).isSome=true by rw[e2];rfl);rw[zW9]at this;obtain ⟨y,hy,rfl⟩:=zW2.mp this;exact absurd hy hx
   have hgd:zA0 (zDM (.dat (.ref jl)) (ts.map tI)) (ts.map tI) (M++[dT (q.map λt=>(t,.int 0))]):=.inl (by rw[zWs hjl];exact hj);rw[zW4,zMg (σ1:=(zBM own σ).set i (some (tI x))) (k:=tI x) (v:=.int 0) (M':=M++[dT ((q++[x]).map λt=>(t,.int 0))]) hgd (hg _) (hs _ _) rfl]
   .exact ih (q++[x]) (by rw[<-e];simp)
   .rw[zNU (T:=q.map λt=>(t,.int 0)) (by simp) (by rw[zWu];exact hl)];unfold zDS;rw[hk];simp
 have:=loop ts [] rfl;rw[show zJL true=dT []from rfl];rw[show (([]:List (List Int)).map λt=>(t,D.int 0))=[]from rfl]at this;rw[this]
theorem zEU {zA:Ya} (m:IsM zA l) (oa:zC6 zA G) (hR:zA.length<=26) (hl:l<=12) {M:Mem} {ts:Ya} (hj:M[jg]?=some (.lst (ts.map tI))) (nd:ts.Nodup) (hts:∀ t,t∈ts ↔ Th zA t/\G t) (hz:ts.length<=80000):Ok (zBO [mD zA,.ref jg] M) λd M'=>∃ jf,d=.ref jf/\M.length<=jf/\(∃ fd,M'[jf]?=some (dT fd)/\fd.length<=702 /\ ∀ t d,zH fd t=some d ↔ Th zA t /\ ∃ n:Nat,Dst zA l G t n/\d=.int (n:Int))/\M.length<=M'.length /\ ∀ j,j<M.length->M'[j]?=M[j]?:=by
 have hjl:=(zWo.mp hj).1;unfold zBO;rw[zw];unfold zDR;rw[zG,zR];refine zAX.mpr (zE (zf rfl) (Ok.mono (zRb m (by omega) hl) ?_));rintro d M1 ⟨rfl,sr,h1,fr⟩;rw[zI,zL];refine zCH (d:=.ref jg) rfl ?_;have hj1:=(fr _ hjl).trans hj;rw[zG,zR];refine zE (zNj (jl:=jg) (ts:=ts) rfl hj1 nd hz (λ_=>rfl) (λ_ _=>rfl)) ?_;rw[zI,zL];obtain ⟨T,ed,hT,a1,a2,a3⟩:=sr.ex;have up:∀ {j:Nat} {u:MO},M1[j]?=some u->(M1++[dT (ts.map λt=>(t,D.int 0))])[j]?=some u:=λ{j u} h=>by rw[zWs (zWo.mp h).1];exact h
 have ed':=(zWo.mp ed).1;rw[zG];refine OkS.mono (zPj (jf:=M1.length) (jd:=M.length) (jl:=jg) (Ts:=T) (lev:=ts) (fd:=ts.map λt=>(t,D.int 0)) m oa hR hl (by simp) (up ed) (by omega) ?_ (by simp) (up hj1) (by omega) (zO1 hts ?_) ?_ (by simp)) ?_
 .intro g;cases e:zH T g with
  |none=>exact .inr ⟨rfl,a2 g e⟩
  |some d=>
   obtain ⟨j,rfl,q1,q2⟩:=a1 g d e;have:=(zWo.mp q2).1;exact .inl ⟨j,rfl,by omega,up q2⟩
 .intro t d;have gen:∀ (ts:Ya),zH (ts.map λt=>(t,D.int 0)) t=some d ↔ t∈ts/\d=.int 0:=by
   intro ts;induction ts with
   |nil=>simp[zH]
   |cons x r ih=>
    rw[zW4,zH];by_cases q:x=t
    .subst q;simp[eq_comm]
    .rw[zW3 q,ih,zWx];constructor
     .rintro ⟨z1,z2⟩;exact ⟨.inr z1,z2⟩
     .rintro ⟨z1|z1,z2⟩
      .exact absurd z1.symm q
      .exact ⟨z1,z2⟩
  exact gen _
 .rw[zW9];rw[show ((λ(x:List Int × D)=>x.1)∘λ(t:Ye)=>(t,D.int 0))=id from rfl,List.map_id];exact nd
 .rintro o σ' M' ⟨rfl,⟨y3,y5,y6,y7,rfl⟩,⟨fd,e1,e2,e3⟩,hlen,fr'⟩;rw[zL];rw[zW1]at hlen fr';refine zAU (d:=.ref M1.length) rfl ⟨M1.length,rfl,by omega,⟨fd,e1,e2,e3⟩,by omega,λj hj=>?_⟩;rw[fr' j (by omega) (by omega),zWs (by omega)];exact fr j hj
def zFk:FS:=(zAM (zK zBO (zD (toD (zC 0)) (zD (toD (zh [1] (zAH (zD (toD (fB zAu (zU (zC 0) zj))) zF)) (gN 1) zn (zA6 (zD (toD (zC 1)) zF)))) zF))))
def zDH:FF:=zBE 2 zFk
theorem zLi (m:IsM zA l) (hR:zA.length<=26) (hl:l<=12):Ok (zDH [mD zA] M) λd M'=>∃ jf,d=.ref jf/\M.length<=jf/\(∃ fd,M'[jf]?=some (dT fd)/\fd.length<=702 /\ ∀ t d,zH fd t=some d ↔ Th zA t /\ ∃ n:Nat,Dst zA l One t n/\d=.int (n:Int))/\M.length<=M'.length /\ ∀ j,j<M.length->M'[j]?=M[j]?:=by
 unfold zDH;rw[zw];unfold zFk;have er:zAH (zD (toD (fB zAu (zU (zC 0) zj))) zF) [some (mD zA),none] M=some ((List.range zA.length).map (λ(k:Nat)=>D.int k),none,M):=by
  rw[zBj (j:=(zA.length:Int)) (zAy rfl) (by omega) (by omega),zEw];rw[show (zA.length:Int).toNat=zA.length by omega]
 have ec:zh [1] (zAH (zD (toD (fB zAu (zU (zC 0) zj))) zF)) (gN 1) zn (zA6 (zD (toD (zC 1)) zF)) [some (mD zA),none] M=some (.fl ((List.range zA.length).map λ(k:Nat)=>tI [(k:Int)]),M) :=
  zAh (List.range zA.length) (λ(k:Nat)=>D.int k) (λ(k:Nat)=>tI [(k:Int)]) er trivial (by rw[zYi];omega) λk _=>⟨_,rfl,rfl⟩
 have el:((List.range zA.length).map λ(k:Nat)=>tI [(k:Int)])=((zO zA).map λr=>[r]).map tI:=by
  unfold zO;rw[zW9,zW9];rfl
 rw[el]at ec;rw[zAn];refine zAX.mpr (zAL.mpr (zAe.mpr (zAJ.mpr ⟨_,rfl,?_⟩)));rw[zI];refine zAL.mpr (zAe.mpr (zE ec ?_));rw[zGT,zAi];refine Ok.mono (zEU m zSA hR hl (jg:=M.length) (ts:=(zO zA).map λr=>[r]) (by simp) ?_ zPN ?_) ?_
 .unfold zO;rw[zW9];exact List.pairwise_map.mpr (List.Pairwise.imp (λ{a b} h z=>h (by simp at z;omega)) List.nodup_range)
 .unfold zO;simp;omega
 rintro d M' ⟨jf,rfl,h1,h2,h3,h4⟩;rw[zI];rw[zW1]at h1 h3 h4;refine ⟨jf,rfl,by omega,h2,by omega,λj hj=>?_⟩;rw[h4 j (by omega),zWs hj]
set_option genInjectivity true in
inductive Climb (zA:Ya) (l:Nat) (G:Yq):List Int->List Int->Prop
 |nil {t:Ye}:G t->Climb zA l G t []
 |cons {t:Ye} {x:Int} {w:Ye} {n:Nat}:Dst zA l G t (n+1)->0<=x->x<(l:Int)->Dst zA l G (setR zA t x) n->(∀ y,0<=y->y<x -> ¬ Dst zA l G (setR zA t y) n)->Climb zA l G (setR zA t x) w->Climb zA l G t (x::w)
theorem zI4:∀ {w t:Ye} {n:Nat},Climb zA l G t w->Dst zA l G t n->w.length=n
 |[],_,_,.nil h,d=>by have:=zA5 (zBk.mpr h) d;simpa using this
 |x::w,_,n,.cons (n:=a) d1 _ _ e1 _ c1,d=>by
  have h1:=zI4 c1 e1;have h2:=zA5 d1 d;rw[zXI];omega
theorem zJo {P:Int->Prop}:∀ (k:Nat),P (k:Int) -> ∃ x:Nat,x<=k/\P (x:Int) /\ ∀ y:Int,0<=y->y<(x:Int) -> ¬ P y:=by
 intro k;induction k using Nat.strongRecOn with
 |ind k ih=>
  intro h;by_cases q:∃ j:Nat,j<k/\P (j:Int)
  .obtain ⟨j,hj,hp⟩:=q;obtain ⟨x,h1,h2,h3⟩:=ih j hj hp;exact ⟨x,by omega,h2,h3⟩
  .refine ⟨k,zWr _,h,λy y0 y1 hp=>q ⟨y.toNat,by omega,?_⟩⟩;rw[show ((y.toNat:Nat):Int)=y by omega];exact hp
theorem zE8:∀ (n:Nat) {t:Ye},Dst zA l G t n -> ∃ w,Climb zA l G t w
 |0,t,d=>⟨[],.nil (zBk.mp d)⟩
 |n+1,t,d=>by
  obtain ⟨_,x,hx,hd⟩:=zDC.mp d;obtain ⟨y,h1,h2,h3⟩:=zJo (P:=λx=>Dst zA l G (setR zA t x) n) x.toNat (by rw[show ((x.toNat:Nat):Int)=x by omega];exact hd);obtain ⟨w,hw⟩:=zE8 n h2;exact ⟨(y:Int)::w,.cons d (by omega) (by omega) h2 h3 hw⟩
end Lac
namespace Lac
open PySem PySem.Spec PyProof.Rows L2 L3 ST Law
theorem aC' {f:FE} {g:FA} {σ:Sd} {M M1 M2:Mem} {d:D} {ds:List D} (h:toD f σ M=some (d,M1)) (hg:g σ M1=some (ds,M2)):zD (toD f) g σ M=some (d::ds,M2):=by
 unfold zD;rw[h];dsimp only;rw[hg]
theorem zK6 (h:f σ M=some (.dat d,M)):toD f σ M=some (d,M):=by unfold toD;rw[h]
theorem zTx {g:FA} {σ:Sd} {M M1:Mem} {ds:List D} (h:g σ M=some (ds,M1)) (hz:ds.length<=100000):zBJ g σ M=some (.fl ds,M1):=by
 unfold zBJ;rw[h];dsimp only;rw[zW0 (zX hz)]
theorem zL2 {g:FA} {σ:Sd} {M M1:Mem} {ds:List D} (h:g σ M=some (ds,M1)) (hz:ds.length<=100000):zA6 g σ M=some (.dat (.tup ds),M1):=by
 unfold zA6;rw[h];dsimp only;rw[zW0 (zX hz)]
theorem zEz {α:Type} [DecidableEq α]:∀ (a b:List α),a.Nodup->(∀ x∈a,x∈b)->a.length<=b.length
 |[],_,_,_=>zXX _
 |x::r,b,h,s=>by
  rw[zX5]at h;have hx:=s x zWz;have:=zEz r (b.erase x) h.2 λy hy=>(List.mem_erase_of_ne (λe=>h.1 (by rw[<-e];exact hy))).mpr (s y (zWy _ hy));rw[List.length_erase_of_mem hx]at this;have:0<b.length:=zZx hx;simp only[zXI];omega
end Lac
namespace Lac
open PySem PySem.Spec PyProof.Rows L2 L3 ST Law
def zCr:FS:=(zQ (zi 3 (zh [4] (zAH (zD (toD (fB zAu (zU (fOp kIx (zC 0) (fC (.int 0))) zj))) zF)) (gN 4) zn (zK zBB (zD (toD (zC 0)) (zD (toD (zC 1)) (zD (toD (zC 4)) zF))))))
  (zAM (fB (zCy false) (zU (zh [4,5] (zF3 (zC 3)) (zCK 4 5) (zDl (tst (fOp (zBV false) (zC 5) (zC 2))) (tst (fOp kEq (fOp zAA (zC 2) (zC 5)) (fOp zH3 (fOp zAA (zC 2) (zC 1)) (fC (.int 1)))))) (zC 4)) zj))))
def zAT:FF:=zBE 6 zCr
def zEb:FS:=(zQ (zi 2 (zh [3] (zq (zK zAa (zD (toD (zK zAO (zD (toD (zC 0)) zF))) zF))) (gN 3) (tst (fOp kGt (zBv (zC 1) (zC 3) (fC (.int 0))) (fC (.int 0)))) (zC 3)))
  (zAM (zC4 true [3] (zq (zC 2)) (gN 3) zn (zC 3) (zA6 (zD (toD (fOp zAA (zC 1) (zC 3))) (zD (toD (zK zAT (zD (toD (zC 0)) (zD (toD (zC 3)) (zD (toD (zC 1)) zF))))) zF))))))
def zCh:FF:=zBE 4 zEb
def zER:FS:=(zQ (zi 3 (zBJ zF))
  (zQ (zi 4 (zC 2))
  (zQ (zBb (tst (fOp (zBV false) (zC 4) (zC 1))) (zQ (zi 5 (fOp kIx (fOp zAA (zC 1) (zC 4)) (fC (.int 1))))
  (zQ (zBF (fM zAP (zC 3) (zD (toD (zC 5)) zF)))
  (zi 4 (zK zBB (zD (toD (zC 0)) (zD (toD (zC 4)) (zD (toD (zC 5)) zF))))))) 1000)
  (zAM (fB zAI (zU (zC 3) zj))))))
def zBh:FF:=zBE 6 zER
theorem zIr {α:Type} (hgd:zA0 gd all M) (enc out:α->D) (keep:α->Bool):∀ (as:List α),(∀ a∈as,∃ σ1,g (enc a) σ=some σ1/\tc σ1 M=some (keep a,M)/\(keep a=true->te σ1 M=some (.dat (out a),M)))->zA8 g tc te σ all gd (as.map enc) M=some ((as.filter keep).map out,M)
 |[],_=>by
  rw[List.map_nil];unfold zA8;rw[zW0 hgd];rfl
 |a::r,h=>by
  obtain ⟨σ1,e1,e2,e3⟩:=h a zWz;have ih:=zIr (σ:=σ) hgd enc out keep r λb hb=>h b (zWy _ hb);rw[zW4];unfold zA8;rw[zW0 hgd,e1];dsimp only;rw[e2];cases hk:keep a with
  |false=>
   dsimp only;rw[ih,List.filter_cons_of_neg (by simp[hk])]
  |true=>
   dsimp only;rw[show toD te σ1 M=some (out a,M) by unfold toD;rw[e3 hk]];dsimp only;rw[ih,List.filter_cons_of_pos hk];rfl
theorem zCC {α:Type} {own:Yj} {fi:FI} {g:FG} {tc:FT} {te:FE} {σ:Sd} {M M1:Mem} {gd:Option (Mem->Prop)} (as:List α) (enc out:α->D) (keep:α->Bool) (hi:fi σ M=some (as.map enc,gd,M1)) (hgd:zA0 gd (as.map enc) M1) (hz:as.length<=100000)
  (he:∀ a∈as,∃ σ1,g (enc a) (zBM own σ)=some σ1/\tc σ1 M1=some (keep a,M1)/\(keep a=true->te σ1 M1=some (.dat (out a),M1))):zh own fi g tc te σ M=some (.fl ((as.filter keep).map out),M1) :=
 zW (zB2.mpr ⟨_,_,_,hi,by rw[zWu];exact zX hz,zE (zIr hgd enc out keep as he) ⟨rfl,rfl⟩⟩)
theorem zMw {f:FE} {σ:Sd} {M M1:Mem} {xs:Ye} (hf:f σ M=some (.fl (xs.map D.int),M1)) (hx:xs≠[]):∃ b,fB (zCy false) (zU f zj) σ M=some (.dat (.int b),M1)/\b∈xs /\ ∀ y∈xs,b<=y:=by
 cases xs with
 |nil=>exact absurd rfl hx
 |cons x r=>
  obtain ⟨h1,h2⟩:=zCn false r x;refine ⟨zCY false x r,?_,h1,λy hy=>by simpa using h2 y hy⟩;unfold fB zU zj;rw[hf];unfold zCy;dsimp only;rw[zBL]
def zPJ (zA:Ya) (l:Nat) (G:Yq) (fd:List (List Int × D)):Prop:=∀ t d,zH fd t=some d ↔ Th zA t /\ ∃ n:Nat,Dst zA l G t n/\d=.int (n:Int)
structure Fst (zA:Ya) (l:Nat) (G:Yq) (p:Ye) (n:Nat) (x:Int):Prop where
 x0:0<=x
 x1:x<(l:Int)
 d:Dst zA l G (setR zA p x) n
 f:∀ y,0<=y->y<x -> ¬ Dst zA l G (setR zA p y) n
def isN (n:Nat):Option D->Bool
 |some (.int v)=>decide (v=(n:Int))
 |_=>false
theorem zJk (sp:zPJ zA l G fd) (u:Th zA t):isN n (zH fd t)=true ↔ Dst zA l G t n:=by
 constructor
 .intro h;cases e:zH fd t with
  |none=>rw[e]at h;cases h
  |some d=>
   obtain ⟨_,k,hk,rfl⟩:=(sp t d).mp e;rw[e]at h;have:(k:Int)=(n:Int):=zXh h;rw[show n=k by omega];exact hk
 .intro h;rw[(sp t _).mpr ⟨u,n,h,rfl⟩];exact zXt rfl
theorem eqE:kEq (.dat (.int a)) (.dat (.int b)) M=some (.dat (.bl (decide (a=b))),M):=zW (zGG.mpr ⟨rfl,rfl⟩)
theorem zWh:zH3 (.dat (.int a)) (.dat (.int b)) M=some (.dat (.int (a-b)),M):=rfl
theorem gtE:kGt (.dat (.int a)) (.dat (.int b)) M=some (.dat (.bl (decide (b<a))),M):=rfl
theorem zNd (ha:a σ M=some (true,M)) (hb:b σ M=some (k,M)):zDl a b σ M=some (k,M):=by unfold zDl;rw[ha];exact hb
theorem zNN (ha:a σ M=some (false,M)):zDl a b σ M=some (false,M):=by unfold zDl;rw[ha]
theorem zQ4 {zA:Ya} {l:Nat} {G:Yq} (m:IsM zA l) (hR:zA.length<=26) (hl:l<=12) {M:Mem} {jf:Nat} {fd:List (List Int × D)} (hf:M[jf]?=some (dT fd)) (sp:zPJ zA l G fd) {p:Ye} (u:Th zA p) {n:Nat} (hd:Dst zA l G p (n+1)) :
  Ok (zAT [mD zA,tI p,.ref jf] M) λd M'=>∃ x:Int,d=.int x/\Fst zA l G p n x /\ ∃ us,M'=M++us:=by
 unfold zAT;rw[zw];unfold zCr;have hfl:=(zWo.mp hf).1;have er:=zFe (σ:=[some (mD zA),some (tI p),some (.ref jf),none,none,none]) (M:=M) (zJI m (f:=zC 0) rfl) (by omega) (by omega);rw[show (l:Int).toNat=l by omega]at er;have ec:=zAh (own:=[4]) (g:=gN 4) (te:=zK zBB (zD (toD (zC 0)) (zD (toD (zC 1)) (zD (toD (zC 4)) zF)))) (List.range l) (λ(k:Nat)=>D.int k) (λ(k:Nat)=>tI (setR zA p (k:Int))) er trivial (by rw[zYi];omega) λk hk=>⟨_,rfl,zy (zk (d:=mD zA) rfl (zk (d:=tI p) rfl (zf (d:=.int (k:Int)) rfl))) (zGV m (by omega) u.1 (by omega) (by have:=zXP.mp hk;omega))⟩;rw[zG,zR];refine zE ec (zd ?_);rw[zL];generalize hA:M++[MO.lst ((List.range l).map λ(k:Nat)=>tI (setR zA p (k:Int)))]=A;have a1:A[M.length]?=some (.lst ((List.range l).map λ(k:Nat)=>tI (setR zA p (k:Int)))):=by rw[<-hA];simp
 have a2:A[jf]?=some (dT fd):=by rw[<-hA,zWs hfl];exact hf
 have hen:zF3 (zC 3) [some (mD zA),some (tI p),some (.ref jf),some (.ref M.length),none,none] A=some ((List.range l).map (λ(k:Nat)=>D.tup [.int (k:Nat),tI (setR zA p (k:Int))]),zDM (.dat (.ref M.length)) ((List.range l).map λ(k:Nat)=>tI (setR zA p (k:Int))),A):=by
  unfold zF3;rw[show zC 3 [some (mD zA),some (tI p),some (.ref jf),some (.ref M.length),none,none] A=some (.dat (.ref M.length),A)from rfl];dsimp only;rw[ze a1];dsimp only;congr 2;unfold zJh;rw[zWu,zYi];apply List.ext_getElem?;intro i;by_cases hi:i<l
  .rw[zW8,zW8,List.zip_eq_zipWith,List.getElem?_zipWith,zW8,zYp hi];rfl
  .rw[zXu (by simp;omega),zXu (by simp;omega)]
 have lp:zH fd p=some (.int ((n+1:Nat):Int)):=(sp p _).mpr ⟨u,n+1,hd,rfl⟩;have ef:=zCC (own:=[4,5]) (g:=zCK 4 5) (tc:=zDl (tst (fOp (zBV false) (zC 5) (zC 2))) (tst (fOp kEq (fOp zAA (zC 2) (zC 5)) (fOp zH3 (fOp zAA (zC 2) (zC 1)) (fC (.int 1)))))) (te:=zC 4) (List.range l) _ (λ(k:Nat)=>D.int (k:Int)) (λ(k:Nat)=>isN n (zH fd (setR zA p (k:Int)))) hen (.inl a1) (by rw[zYi];omega) (λk hk=>by
  have u':=zDQ m p (k:Int) u ⟨by omega,by have:=zXP.mp hk;omega⟩;refine ⟨[some (mD zA),some (tI p),some (.ref jf),some (.ref M.length),some (.int (k:Int)),some (tI (setR zA p (k:Int)))],rfl,?_,λ_=>rfl⟩;have e1:fOp (zBV false) (zC 5) (zC 2) [some (mD zA),some (tI p),some (.ref jf),some (.ref M.length),some (.int (k:Int)),some (tI (setR zA p (k:Int)))] A=_:=zM (x:=.dat (tI (setR zA p (k:Int)))) (y:=.dat (.ref jf)) rfl rfl (zL4 a2);rw[zW3 (by decide)]at e1;cases e:zH fd (setR zA p (k:Int)) with
  |none=>
   rw[e]at e1;exact zNN (zv e1)
  |some d=>
   obtain ⟨_,v,_,rfl⟩:=(sp _ d).mp e;rw[e]at e1;refine zNd (zv e1) (zv ?_);refine zM (x:=.dat (.int (v:Int))) (y:=.dat (.int (((n+1:Nat):Int)-1))) (zM (x:=.dat (.ref jf)) (y:=.dat (tI (setR zA p (k:Int)))) rfl rfl (zIv a2 e)) (zM (x:=.dat (.int ((n+1:Nat):Int))) (y:=.dat (.int 1)) (zM (x:=.dat (.ref jf)) (y:=.dat (tI p)) rfl rfl (zIv a2 lp)) rfl zWh) ?_;rw[eqE];unfold isN;congr 5;exact propext ⟨λh=>by omega,λh=>by omega⟩)
 rw[show ((List.range l).filter λ(k:Nat)=>isN n (zH fd (setR zA p (k:Int)))).map (λ(k:Nat)=>D.int (k:Int))=(((List.range l).filter λ(k:Nat)=>isN n (zH fd (setR zA p (k:Int)))).map λ(k:Nat)=>(k:Int)).map D.int by rw[zW9];rfl]at ef;obtain ⟨b,eb,hb1,hb2⟩:=zMw ef (by
  obtain ⟨_,x,hx,hr⟩:=zDC.mp hd;have:((x.toNat:Nat):Int)∈((List.range l).filter λ(k:Nat)=>isN n (zH fd (setR zA p (k:Int)))).map λ(k:Nat)=>(k:Int):=zW2.mpr ⟨x.toNat,zXw.mpr ⟨zXP.mpr (by omega),by rw[show ((x.toNat:Nat):Int)=x by omega];exact (zJk sp (zDQ m p x u hx)).mpr hr⟩,rfl⟩;exact List.ne_nil_of_mem this)
 obtain ⟨k,hk,rfl⟩:=zW2.mp hb1;obtain ⟨k1,k2⟩:=zXw.mp hk;have k3:=zXP.mp k1;refine zAU eb ⟨(k:Int),rfl,⟨by omega,by omega,(zJk sp (zDQ m p _ u ⟨by omega,by omega⟩)).mp k2,λy y0 y1 hy=>?_⟩,_,hA.symm⟩;have:=hb2 y (zW2.mpr ⟨y.toNat,zXw.mpr ⟨zXP.mpr (by omega),by rw[show ((y.toNat:Nat):Int)=y by omega];exact (zJk sp (zDQ m p y u ⟨y0,by omega⟩)).mpr hy⟩,by omega⟩);omega
theorem zMX (a:Fst zA l G p n x) (b:Fst zA l G p n y):x=y:=by
 rcases Int.lt_trichotomy x y with q|q|q
 .exact absurd a.d (b.f x a.x0 q)
 .exact q
 .exact absurd b.d (a.f y b.x0 q)
open Classical in
def zGN (zA:Ya) (l:Nat) (G:Yq) (t:Ye):Nat:=if h:∃ n,Dst zA l G t n then Classical.choose h else 0
open Classical in
def zTR (zA:Ya) (l:Nat) (G:Yq) (t:Ye):Int:=if h:∃ x,Fst zA l G t (zGN zA l G t-1) x then Classical.choose h else 0
theorem zEM (h:Dst zA l G t n):zGN zA l G t=n:=by
 unfold zGN;have hx:∃ n,Dst zA l G t n:=⟨n,h⟩;rw[dif_pos hx];exact zA5 (Classical.choose_spec hx) h
theorem zK8 (h:0<zGN zA l G t):Dst zA l G t (zGN zA l G t):=by
 by_cases hx:∃ n,Dst zA l G t n
 .obtain ⟨n,hn⟩:=hx;rw[zEM hn];exact hn
 .unfold zGN at h;rw[dif_neg hx]at h;omega
theorem zNR (hd:Dst zA l G t (n+1)) (h:Fst zA l G t n x):zTR zA l G t=x:=by
 unfold zTR;rw[zEM hd];have hx:∃ x,Fst zA l G t (n+1-1) x:=⟨x,h⟩;rw[dif_pos hx];exact zMX (Classical.choose_spec hx) h
def zNE (zA:Ya) (l:Nat) (G:Yq) (t:Ye):Bool:=decide (0<zGN zA l G t)
def zIq (zA:Ya) (l:Nat) (G:Yq) (t:Ye):D:=.tup [.int (zGN zA l G t:Nat),.int (zTR zA l G t)]
def zCA (zA:Ya) (l:Nat) (G:Yq):List (List Int):=(zg (zO zA)).filter (zNE zA l G)
def zCv (zA:Ya) (l:Nat) (G:Yq):List (List Int × D):=(zCA zA l G).map λp=>(p,zIq zA l G p)
theorem zKj {f:List Int->D} {t:Ye}:∀ {ps:Ya},zH (ps.map λp=>(p,f p)) t=if t∈ps then some (f t) else none
 |[]=>rfl
 |p::r=>by
  rw[zW4,zH];by_cases h:p=t
  .subst h;rw[zW0 rfl,zW0 zWz]
  .rw[zW3 h,zKj (ps:=r)];by_cases hr:t∈r
   .rw[zW0 hr,zW0 (zWy _ hr)]
   .rw[zW3 hr,zW3 (by simp[hr,Ne.symm h])]
theorem zSq (h:g∉T.map (·.1)):zDS T g v=T++[(g,v)]:=by
 unfold zDS;cases e:zH T g with
 |none=>rfl
 |some d=>exact absurd (zD8.mp (show (zH T g).isSome=true by rw[e];rfl)) h
theorem zFD (h:xs.Nodup):(zg xs).Nodup:=by
 have gen:∀ r:List Int,r.Nodup->(r.flatMap λa=>(xs.filter λb=>decide (a<b)).map λb=>[a,b]).Nodup:=by
  intro r;induction r with
  |nil=>intro _;simp
  |cons a r ih=>
   intro hr;obtain ⟨h1,h2⟩:=zX5.mp hr;rw[List.flatMap_cons,zXz];refine ⟨?_,ih h2,λu hu v hv=>?_⟩
   .refine List.pairwise_map.mpr (List.Pairwise.imp (λ{x y} q z=>q (by simpa using z)) (List.Pairwise.filter _ h))
   .obtain ⟨b,_,rfl⟩:=zW2.mp hu;obtain ⟨c,hc,hv⟩:=List.mem_flatMap.mp hv;obtain ⟨d,_,rfl⟩:=zW2.mp hv;intro z;have:a=c:=by simpa using (zXp z).1
    exact h1 (by rw[this];exact hc)
 exact gen xs h
theorem zFw (zA:Ya):(zO zA).Nodup:=by
 unfold zO;exact List.pairwise_map.mpr (List.Pairwise.imp (λ{a b} h z=>h (by omega)) List.nodup_range)
theorem zBq:t∈zCA zA l G ↔ t∈zg (zO zA) /\ ∃ n,Dst zA l G t (n+1):=by
 unfold zCA zNE;rw[zXw];constructor
 .rintro ⟨a,b⟩;have:=zK8 (zXh b);exact ⟨a,zGN zA l G t-1,by rw[show zGN zA l G t-1+1=zGN zA l G t by have:=zXh b;omega];exact this⟩
 .rintro ⟨a,n,h⟩;exact ⟨a,zXt (by rw[zEM h];omega)⟩
theorem zUe (hf:f σ M=some (.dat (.ref n),M)) (hn:M[n]?=some (dT T)) (hg:g σ M=some (.dat (tI k),M)):zBv f g (fC c) σ M=some (.dat ((zH T k).getD c),M):=by
 unfold zBv;rw[show toD f σ M=some (.ref n,M) by unfold toD;rw[hf]];dsimp only;rw[hn];rw[show toD g σ M=some (tI k,M) by unfold toD;rw[hg]];dsimp only;rw[show toD (fC c) σ M=some (c,M)from rfl];dsimp only;rw[dgT hn]
theorem zOO {own:Yj} {i:Nat} {tv:FE} {σ:Sd} {M:Mem} {jl jk:Nat} {K:MO} {ts:Ya} {val:List Int->D} (hj:M[jl]?=some (.lst (ts.map tI))) (hk:M[jk]?=some K) (nd:ts.Nodup) (hz:ts.length<=80000)
  (hg:∀ a,gN i a (zBM own σ)=some ((zBM own σ).set i (some a))) (hs:∀ (a:D) M',zC i ((zBM own σ).set i (some a)) M'=some (.dat a,M'))
  (hv:∀ t∈ts,∀ M':Mem,M'[jk]?=some K -> ∃ us,tv ((zBM own σ).set i (some (tI t))) M'=some (.dat (val t),M'++us)) {n:Nat} (hn:n=M.length) :
  ∃ us,zCk (gN i) zn (zC i) tv (zBM own σ) n (ts.map tI) (zDM (.dat (.ref jl)) (ts.map tI)) (ts.map tI) (M++[dT []])=some (M++dT (ts.map λt=>(t,val t))::us):=by
 subst hn;have hjl:=(zWo.mp hj).1;have hkl:=(zWo.mp hk).1;have loop:∀ (r q:Ya) (ws:Mem),q++r=ts -> ∃ us,zCk (gN i) zn (zC i) tv (zBM own σ) M.length (ts.map tI) (zDM (.dat (.ref jl)) (ts.map tI)) (r.map tI) (M++dT (q.map λt=>(t,val t))::ws)=some (M++dT (ts.map λt=>(t,val t))::us):=by
  intro r;induction r with
  |nil=>
   intro q ws e;rw[zXV]at e;subst e;exact ⟨ws,zI1 (.inl (by rw[zWs hjl];exact hj))⟩
  |cons x r ih=>
   intro q ws e;have hx:x∉q:=λz=>by
    rw[<-e,zXz]at nd;exact nd.2.2 x z x zWz rfl
   have hl:q.length<90000:=by have:=congrArg List.length e;simp at this;omega
   obtain ⟨us,hu⟩:=hv x (by rw[<-e];simp) (M++dT (q.map λt=>(t,val t))::ws) (by rw[zWs hkl];exact hk);obtain ⟨vs,hvs⟩:=ih (q++[x]) (ws++us) (by rw[<-e];simp);refine ⟨vs,?_⟩;rw[<-hvs,zW4];have hgd:zA0 (zDM (.dat (.ref jl)) (ts.map tI)) (ts.map tI) (M++dT (q.map λt=>(t,val t))::ws):=.inl (by rw[zWs hjl];exact hj);rw[zCk,zW0 hgd,hg];dsimp only;rw[show zn ((zBM own σ).set i (some (tI x))) (M++dT (q.map λt=>(t,val t))::ws)=some (true,M++dT (q.map λt=>(t,val t))::ws)from rfl];dsimp only;rw[show toD (zC i) ((zBM own σ).set i (some (tI x))) (M++dT (q.map λt=>(t,val t))::ws)=some (tI x,M++dT (q.map λt=>(t,val t))::ws) by unfold toD;rw[hs]];dsimp only;rw[show toD tv ((zBM own σ).set i (some (tI x))) (M++dT (q.map λt=>(t,val t))::ws)=some (val x,M++dT (q.map λt=>(t,val t))::ws++us) by unfold toD;rw[hu]];dsimp only;rw[zNU (T:=q.map λt=>(t,val t)) (by simp) (by rw[zWu];exact hl),zSq (by rw[zW9];simpa using hx)];congr 1;rw[zXr,List.set_append_right _ _ (zWr _)];simp
 exact loop ts [] [] rfl
theorem zKu {zA:Ya} {l:Nat} {G:Yq} (m:IsM zA l) (hR:zA.length<=26) (hl:l<=12) {M:Mem} {jf:Nat} {fd:List (List Int × D)} (hf:M[jf]?=some (dT fd)) (sp:zPJ zA l G fd) :
  Ok (zCh [mD zA,.ref jf] M) λd M'=>∃ jr us,d=.ref jr/\M'=M++us/\M.length<=jr/\M'[jr]?=some (dT (zCv zA l G)):=by
 unfold zCh;rw[zw];unfold zEb;have hfl:=(zWo.mp hf).1;have hrl:(zO zA).length=zA.length:=by unfold zO;simp
 have epr:=zEs (xs:=zO zA) (by omega) (M:=M);have ei:zq (zK zAa (zD (toD (zK zAO (zD (toD (zC 0)) zF))) zF)) [some (mD zA),some (.ref jf),none,none] M=_:=zFJ (zf (d:=tI (zO zA)) (zy (zf (d:=mD zA) rfl) (zD3 (by omega)))) epr (zY _ _);have hPl:(zg (zO zA)).length<=676:=by
  have h1:=zCg (zO zA);rw[hrl]at h1;exact zXC h1 (zYN hR hR)
 generalize hA:M++[MO.lst ((zg (zO zA)).map tI)]=A at ei;have a1:A[M.length]?=some (.lst ((zg (zO zA)).map tI)):=by rw[<-hA];simp
 have a2:A[jf]?=some (dT fd):=by rw[<-hA,zWs hfl];exact hf
 have ef:=zCC (own:=[3]) (g:=gN 3) (tc:=tst (fOp kGt (zBv (zC 1) (zC 3) (fC (.int 0))) (fC (.int 0)))) (te:=zC 3) (zg (zO zA)) tI tI (zNE zA l G) ei (.inl a1) (by omega) (λp hp=>by
  refine ⟨[some (mD zA),some (.ref jf),none,some (tI p)],rfl,zv ?_,λ_=>rfl⟩;have e1:zBv (zC 1) (zC 3) (fC (.int 0)) [some (mD zA),some (.ref jf),none,some (tI p)] A=_:=zUe (k:=p) rfl a2 rfl;unfold zNE;cases e:zH fd p with
  |none=>
   rw[e]at e1;rw[zM (x:=.dat (.int 0)) (y:=.dat (.int 0)) e1 rfl gtE];have:¬ 0<zGN zA l G p:=λh=>by
    rw[(sp p _).mpr ⟨zCt p hp,_,zK8 h,rfl⟩]at e;cases e
   rw[zXK this];rfl
  |some d=>
   obtain ⟨_,v,hv,rfl⟩:=(sp _ d).mp e;rw[e]at e1;rw[zM (x:=.dat (.int (v:Int))) (y:=.dat (.int 0)) e1 rfl gtE,zEM hv];congr 5;exact propext ⟨λh=>by omega,λh=>by omega⟩)
 rw[zG,zR];refine zE ef (zd ?_);rw[zL];show OkS (zAM _ [some (mD zA),some (.ref jf),some (.ref A.length),none] (A++[.lst ((zCA zA l G).map tI)])) _;have nd:(zCA zA l G).Nodup:=List.Pairwise.filter _ (zFD (zFw zA));have hrl2:(zCA zA l G).length<=676:=zXC (zY5 _ _) hPl;generalize hB:A++[MO.lst ((zCA zA l G).map tI)]=B;have b1:B[A.length]?=some (.lst ((zCA zA l G).map tI)):=by rw[<-hB];simp
 have b2:B[jf]?=some (dT fd):=by rw[<-hB,zWs (zWo.mp a2).1];exact a2
 obtain ⟨us,hu⟩:=zOO (own:=[3]) (i:=3) (σ:=[some (mD zA),some (.ref jf),some (.ref A.length),none]) (tv:=zA6 (zD (toD (fOp zAA (zC 1) (zC 3))) (zD (toD (zK zAT (zD (toD (zC 0)) (zD (toD (zC 3)) (zD (toD (zC 1)) zF))))) zF))) (val:=zIq zA l G) b1 b2 nd (by omega) (λ_=>rfl) (λ_ _=>rfl) (λt ht M' hM=>by
  obtain ⟨ht1,n,hn⟩:=zBq.mp ht;obtain ⟨d,M2,e,x,rfl,fx,us,rfl⟩:=zQ4 m hR hl hM sp (zCt t ht1) hn;refine ⟨us,?_⟩;show zA6 _ [some (mD zA),some (.ref jf),some (.ref A.length),some (tI t)] M'=_;have e1:fOp zAA (zC 1) (zC 3) [some (mD zA),some (.ref jf),some (.ref A.length),some (tI t)] M'=some (.dat (.int ((n+1:Nat):Int)),M'):=zM (x:=.dat (.ref jf)) (y:=.dat (tI t)) rfl rfl (zIv hM ((sp t _).mpr ⟨zCt t ht1,n+1,hn,rfl⟩));have e2:zK zAT (zD (toD (zC 0)) (zD (toD (zC 3)) (zD (toD (zC 1)) zF))) [some (mD zA),some (.ref jf),some (.ref A.length),some (tI t)] M'=some (.dat (.int x),M'++us):=zy (zk (d:=mD zA) rfl (zk (d:=tI t) rfl (zf (d:=.ref jf) rfl))) e;rw[zL2 (aC' (zK6 e1) (zRP e2)) (by simp)];unfold zIq;rw[zEM hn,zNR hn fx]) rfl
 have ed:zC4 true [3] (zq (zC 2)) (gN 3) zn (zC 3) (zA6 (zD (toD (fOp zAA (zC 1) (zC 3))) (zD (toD (zK zAT (zD (toD (zC 0)) (zD (toD (zC 3)) (zD (toD (zC 1)) zF))))) zF))) [some (mD zA),some (.ref jf),some (.ref A.length),none] B=some (.dat (.ref B.length),B++dT (zCv zA l G)::us):=by
  unfold zC4 zq;rw[show zC 2 [some (mD zA),some (.ref jf),some (.ref A.length),none] B=some (.dat (.ref A.length),B)from rfl];dsimp only;rw[ze b1];dsimp only;rw[show zJL true=dT []from rfl,hu];rfl
 rw[zAn];refine zE ed ⟨B.length,[MO.lst ((zg (zO zA)).map tI)]++([MO.lst ((zCA zA l G).map tI)]++dT (zCv zA l G)::us),rfl,by rw[<-hB,<-hA];simp only[zXr],?_,by simp⟩;rw[<-hB,<-hA];simp only[zW1];omega
theorem zId (m:IsM zA l) (o:zC6 zA G):∀ (n:Nat) (t:Ye),Th zA t->Dst zA l G t n -> ∃ ts:List (List Int),ts.length=n/\ts.Nodup /\ ∀ s∈ts,s∈zg (zO zA) /\ ∃ k,k<=n/\Dst zA l G s k
 |0,_,_,_=>⟨[],rfl,List.nodup_nil,λ_ h=>by cases h⟩
 |n+1,t,u,d=>by
  obtain ⟨q,x,hx,hd⟩:=zDC.mp d;obtain ⟨ts,h1,h2,h3⟩:=zId m o n (setR zA t x) (zDQ m t x u hx) hd;refine ⟨t::ts,by simp[h1],zX5.mpr ⟨λz=>?_,h2⟩,λs hs=>?_⟩
  .obtain ⟨_,k,hk,hk2⟩:=h3 t z;have:=zA5 hk2 d;omega
  .rcases zWx.mp hs with rfl|z
   .exact ⟨zFl m o s (n+1) u (λg=>by have:=zA5 (zBk.mpr g) d;omega) d.1,n+1,zWr _,d⟩
   .obtain ⟨a,k,hk,b⟩:=h3 s z;exact ⟨a,k,by omega,b⟩
theorem zTl (m:IsM zA l) (o:zC6 zA G) (u:Th zA t) (d:Dst zA l G t n):n<=(zg (zO zA)).length:=by
 obtain ⟨ts,h1,h2,h3⟩:=zId m o n t u d;rw[<-h1];exact zFr ts _ h2 λs hs=>(h3 s hs).1
theorem zEJ (hR:zA.length<=26):(zg (zO zA)).length<=676:=by
 have h1:=zCg (zO zA);have hrl:(zO zA).length=zA.length:=by unfold zO;simp
 rw[hrl]at h1;exact zXC h1 (zYN hR hR)
theorem zO2 (c:Climb zA l G t w):Dst zA l G t w.length:=by
 cases c with
 |nil g=>exact zBk.mpr g
 |cons d x0 x1 e f c=>rw[zXI,zI4 c e];exact d
theorem zFf:zH (zCv zA l G) t=if t∈zCA zA l G then some (zIq zA l G t) else none:=zKj
theorem zMs (m:IsM zA l) (o:zC6 zA G) (hR:zA.length<=26) (hr:M[jr]?=some (dT (zCv zA l G))) (u:Th zA p) (c:Climb zA l G p w) :
  Ok (zBh [mD zA,.ref jr,tI p] M) λd M'=>d=tI w /\ ∃ us,M'=M++us:=by
 have hrl:=(zWo.mp hr).1;have hw:w.length<=676:=zXC (zTl m o u (zO2 c)) (zEJ hR);unfold zBh;rw[zw];unfold zER;rw[zG,zR];refine zE (M:=M) (a:=.fl []) (zTx rfl (by simp)) (zd ?_);rw[zL];refine zCH (d:=tI p) rfl ?_;rw[zG];refine zCW (I:=λz σ M'=>∃ (w1 w2 here:Ye) (y:Option D),w=w1++w2/\Climb zA l G here w2/\Th zA here/\z=w2.length/\σ=[some (mD zA),some (.ref jr),some (tI p),some (.ref M.length),some (tI here),y]/\M'=M++[.lst (w1.map D.int)]) ?_ 1000 w.length _ _ (by omega) ⟨[],w,p,none,rfl,c,u,rfl,rfl,rfl⟩;rintro z σ M' ⟨w1,w2,here,y,hw12,c2,u2,rfl,rfl,rfl⟩;have hM:(M++[MO.lst (w1.map D.int)])[jr]?=some (dT (zCv zA l G)):=by rw[zWs hrl];exact hr
 have hL:(M++[MO.lst (w1.map D.int)])[M.length]?=some (.lst (w1.map D.int)):=by simp
 have et:tst (fOp (zBV false) (zC 4) (zC 1)) [some (mD zA),some (.ref jr),some (tI p),some (.ref M.length),some (tI here),y] (M++[MO.lst (w1.map D.int)])=some ((zH (zCv zA l G) here).isSome,M++[MO.lst (w1.map D.int)]):=by
  have:=zM (k:=zBV false) (f:=zC 4) (g:=zC 1) (σ:=[some (mD zA),some (.ref jr),some (tI p),some (.ref M.length),some (tI here),y]) (x:=.dat (tI here)) (y:=.dat (.ref jr)) rfl rfl (zL4 hM);rw[zW3 (by decide)]at this;exact zv this
 refine zE et ?_;cases c2 with
 |nil g=>
  have hlk:zH (zCv zA l G) here=none:=by rw[zFf,zW3 (λh=>by obtain ⟨_,n,hn⟩:=zBq.mp h;have:=zA5 (zBk.mpr g) hn;omega)]
  rw[hlk];rw[zXV]at hw12;subst hw12;exact zAU (d:=tI w) (zA7 (f:=zC 3) rfl (ze hL)) ⟨rfl,_,rfl⟩
 | @cons _ x w3 n d x0 x1 e f c3=>
  have hp:=zFl m o here (n+1) u2 (λg=>by have:=zA5 (zBk.mpr g) d;omega) d.1;have hin:here∈zCA zA l G:=zBq.mpr ⟨hp,n,d⟩;have fx:Fst zA l G here n x:=⟨x0,x1,e,f⟩;have hv:zIq zA l G here=.tup [.int ((n+1:Nat):Int),.int x]:=by unfold zIq;rw[zEM d,zNR d fx]
  have hlk:zH (zCv zA l G) here=some (.tup [.int ((n+1:Nat):Int),.int x]):=by rw[zFf,zW0 hin,hv]
  rw[hlk];have hlen:=congrArg List.length hw12;rw[zW1,zXI]at hlen;refine zCH (d:=.int x) (zM (x:=.dat (.tup [.int ((n+1:Nat):Int),.int x])) (y:=.dat (.int 1)) (zM (x:=.dat (.ref jr)) (y:=.dat (tI here)) rfl rfl (zIv hM hlk)) rfl (zBK zAG rfl)) ?_;rw[zG,zBY];refine zGP.mpr (zE (a:=.dat (.ref M.length)) (M:=M++[MO.lst (w1.map D.int)]) rfl ⟨⟨_,zAV hL⟩,zE (zf (d:=.int x) rfl) ((zB8 hL (by rw[zWu];exact zXA (show w1.length<1000 by omega) (zX (by omega)))).mpr ?_)⟩);rw[zL];have hset:(M++[MO.lst (w1.map D.int)]).set M.length (.lst (w1.map D.int++[.int x]))=M++[MO.lst ((w1++[x]).map D.int)]:=by
   rw[List.set_append_right _ _ (zWr _)];simp
  rw[hset,zR];refine zE (zy (zk (d:=mD zA) rfl (zk (d:=tI here) rfl (zf (d:=.int x) rfl))) (zGV m (by omega) u2.1 x0 x1)) ?_;exact ⟨w3.length,by simp,w1++[x],w3,setR zA here x,some (.int x),by rw[hw12];simp,c3,zDQ m here x u2 ⟨x0,x1⟩,rfl,rfl,rfl⟩
def zE5 (a b:Int):List Int:=[if b<a then b else a,if b>a then b else a]
theorem zM6:(ris [a,b]).length=1 ↔ a=b:=by
 constructor
 .intro h;obtain ⟨r,e⟩:=List.length_eq_one_iff.mp h;have ha:a∈ris [a,b]:=(zB0 _ _).mpr (by simp);have hb:b∈ris [a,b]:=(zB0 _ _).mpr (by simp);rw[e,zXD]at ha hb;rw[ha,hb]
 .rintro rfl;rw[show ris [a,a]=ris [a]from zJ5 (by simp),zLl (by simp)];rfl
theorem zPE (h:a≠b):(zE5 a b).Pairwise (· < ·):=by
 unfold zE5;simp only[zYv,zXD,forall_eq,zXG,false_implies,implies_true,List.Pairwise.nil,and_true];split <;> split <;> omega
end Lac
namespace Lac
open PySem PySem.Spec PyProof.Rows L2 L3 ST Law
theorem zNL (n:Nat) (ps:Ya):D.unds n (ps.map tI)=true:=by
 induction ps with
 |nil=>rfl
 |cons p r ih=>rw[zW4];unfold D.unds;rw[ih,show D.und n (tI p)=true from zAb p];rfl
theorem zNm (h:p≠q):zE5 p q=ris [p,q]:=by
 refine (zLl (zPE h)).symm.trans (zJ5 λx=>?_);unfold zE5;by_cases z:q<p
 .rw[zW0 z,zW3 (by omega)];simp[or_comm]
 .rw[zW3 z,zW0 (by omega)]
end Lac
namespace Lad
open PySem PySem.Spec PyProof.Rows L2 L3 ST Law
def zDz:FS:=(zQ (zi 1 (fC (.int 7)))
  (zQ (zCD (zq (fSl (zC 0) zBS (zAc (fC (.int 63))))) (gN 2) (zi 1 (fOp zDg (fOp zAo (fOp zAo (fOp zHW (zC 1) (fC (.int 6364136223846793005))) (zC 2)) (fC (.int 1442695040888963407))) (fC (.int 2305843009213693951)))))
  (zAM (zJt "great" (zh [2] (zq (fSl (zC 0) zBS (zAc (fC (.int 63))))) (gN 2) (tst (fOp kGe (zC 2) (fOp zOd (fC (.int 10)) (fC (.int 18))))) (zC 2)) "seed" (zC 1)))))
def zB6:FF:=zBE 3 zDz
def zEj:FS:=(zQ (sIf (tst (fOp kNe (fOp zAA (zC 0) (fC (.str "great"))) (zBJ zF))) (zQ (zi 2 (fOp zDg (fOp kIx (fOp zAA (zC 0) (fC (.str "great"))) (fC (.int 0))) (zC 1)))
  (zQ (zL6 (fOp zLb (fOp kIx (fOp zAA (zC 0) (fC (.str "great"))) (fC (.int 0))) (zC 1)) (fOp zAA (zC 0) (fC (.str "great"))) (fC (.int 0)))
  (zQ (sIf (tst (fOp kEq (fOp kIx (fOp zAA (zC 0) (fC (.str "great"))) (fC (.int 0))) (fC (.int 0)))) (zBF (fM zHu (fOp zAA (zC 0) (fC (.str "great"))) (zD (toD (fC (.int 0))) zF))) zAv)
  (zAM (zC 2))))) zAv)
  (zQ (zCL (fOp zDg (fOp zAo (fOp zHW (fOp zAA (zC 0) (fC (.str "seed"))) (fC (.int 3935559000370003845))) (fC (.int 2691343689449507681))) (fC (.int 2305843009213693951))) (zC 0) (fC (.str "seed")))
  (zQ (zi 3 (fOp zLb (fOp zAA (zC 0) (fC (.str "seed"))) (fC (.int 65537))))
  (zAM (fOp zDg (fOp zLb (fOp zDg (fOp zHW (zC 3) (zC 3)) (fC (.int 998244353))) (fC (.int 3))) (zC 1))))))
def zT:FF:=zBE 4 zEj
abbrev gS (k:Nat) (s:Int):MO:=.dict [(.str "great", .ref k),(.str "seed", .int s)]
structure Gen (M:Mem) (n k:Nat):Prop where
 ex:∃ (c:Ye) (s:Int),M[n]?=some (gS k s)/\M[k]?=some (.lst (c.map D.int))/\(∀ x∈c,0<=x)/\c.length<=63/\0<=s/\s<2305843009213693951
 ne:n≠k
 wf:∀ (j:Nat) u,M[j]?=some u->MO.und M.length u=true
structure Nw (M M':Mem) (n k:Nat):Prop where
 gen:Gen M' n k
 len:M.length<=M'.length
 fr:∀ j,j<M.length->j≠n->j≠k->M'[j]?=M[j]?
theorem Nw.refl (h:Gen M n k):Nw M M n k:=⟨h,zWr _,λ_ _ _ _=>rfl⟩
theorem Nw.trans {M M1 M2:Mem} {n k:Nat} (a:Nw M M1 n k) (b:Nw M1 M2 n k):Nw M M2 n k :=
 ⟨b.gen,zXC a.len b.len,λj h h1 h2=>(b.fr j (zXA h a.len) h1 h2).trans (a.fr j h h1 h2)⟩
theorem Gen.lt (h:Gen M n k):n<M.length/\k<M.length:=by
 obtain ⟨c,s,e1,e2,_⟩:=h.ex;exact ⟨(zWo.mp e1).1,(zWo.mp e2).1⟩
theorem zRJ (hk:k<N):MO.und N (gS k s)=true:=by
 unfold MO.und;simp[D.und,hk]
theorem Gen.put {M:Mem} (h:Gen M n k) {c:Ye} (hc:∀ x∈c,0<=x) (hl:c.length<=63) (h0:0<=s) (h1:s<2305843009213693951) :
  Nw M ((M.set k (.lst (c.map D.int))).set n (gS k s)) n k:=by
 obtain ⟨hn,hk⟩:=h.lt;refine ⟨⟨⟨c,s,?_,?_,hc,hl,h0,h1⟩,h.ne,λj u e=>?_⟩,by simp,λj _ h1 h2=>?_⟩
 .rw[zXf (by simpa using hn)]
 .rw[zXF h.ne,zXf hk]
 .rw[List.length_set,List.length_set];rw[zYK]at e;split at e
  .split at e
   .cases e;exact zRJ hk
   .cases e
  .rw[zYK]at e;split at e
   .rename_i z;subst z;cases e;exact zb _ _
   .exact h.wf j u e
 .rw[zXF (Ne.symm h1),zXF (Ne.symm h2)]
theorem Gen.app (h:Gen A n k) (hu:∀ u∈us,MO.und (A.length+us.length) u=true):Nw A (A++us) n k:=by
 obtain ⟨c,s,e1,e2,r⟩:=h.ex;obtain ⟨hn,hk⟩:=h.lt;refine ⟨⟨⟨c,s,by rw[zWs hn];exact e1,by rw[zWs hk];exact e2,r⟩,h.ne,λj u e=>?_⟩,by simp,λj hj _ _=>zWs hj⟩;rw[zW1];by_cases hj:j<A.length
 .rw[zWs hj]at e;exact zI2 (by omega) (h.wf j u e)
 .rw[zXv (by omega)]at e;exact hu u (zXc e)
theorem Gen.lst (h:Gen A n k) (xs:List D) (hx:D.unds A.length xs=true):Nw A (A++[.lst xs]) n k:=h.app λu hu=>by
 have:u=.lst xs:=by simpa using hu
 subst this;exact zCV (by simp) hx
theorem Nw.setB (h:Nw M A n k) (g:Gen M n k) (hj:M.length<=j) (hu:MO.und A.length u=true):Nw M (A.set j u) n k:=by
 obtain ⟨hn,hk⟩:=g.lt;obtain ⟨c,s,e1,e2,r⟩:=h.gen.ex;refine ⟨⟨⟨c,s,by rw[zXF (by omega)];exact e1,by rw[zXF (by omega)];exact e2,r⟩,g.ne,λi v e=>?_⟩,by rw[List.length_set];exact h.len,λi hi h1 h2=>by rw[zXF (by omega)];exact h.fr i hi h1 h2⟩;rw[List.length_set];rw[zYK]at e;split at e
 .split at e
  .cases e;exact hu
  .cases e
 .exact h.gen.wf i v e
theorem Nw.wf0 (h:Nw M M' n k) (g:Gen M n k):∀ (j:Nat) u,j<M.length->M'[j]?=some u->MO.und M.length u=true:=λj u hj e=>by
 obtain ⟨hn,hk⟩:=g.lt;obtain ⟨c,s,e1,e2,r⟩:=h.gen.ex;by_cases q1:j=n
 .subst q1;rw[e1]at e;cases e;exact zRJ hk
 .by_cases q2:j=k
  .subst q2;rw[e2]at e;cases e;exact zb _ _
  .rw[h.fr j hj q1 q2]at e;exact g.wf j u e
theorem Nw.trim (h:Nw M M' n k) (g:Gen M n k):Nw M (M'.take M.length) n k:=by
 obtain ⟨hn,hk⟩:=g.lt;have tk:∀ j,j<M.length->(M'.take M.length)[j]?=M'[j]?:=λj hj=>List.getElem?_take_of_lt hj;have tl:(M'.take M.length).length=M.length:=by have:=h.len;rw[zX9];omega
 obtain ⟨c,s,e1,e2,r⟩:=h.gen.ex;refine ⟨⟨⟨c,s,(tk n hn).trans e1,(tk k hk).trans e2,r⟩,g.ne,λj u e=>?_⟩,by omega,λj hj h1 h2=>(tk j hj).trans (h.fr j hj h1 h2)⟩;have hj:j<M.length:=by have:=(zWo.mp e).1;omega
 rw[tk j hj]at e;rw[tl];exact h.wf0 g j u hj e
theorem Nw.get (h:Nw M M' n k) (e:M[j]?=some u) (h1:j≠n) (h2:j≠k):M'[j]?=some u :=
 (h.fr j (zWo.mp e).1 h1 h2).trans e
theorem zIl (hf:f σ M=some (.dat (.ref n),M)) (hM:M[n]?=some (gS k s)):fOp zAA f (fC (.str "great")) σ M=some (.dat (.ref k),M)/\fOp zAA f (fC (.str "seed")) σ M=some (.dat (.int s),M):=by
 constructor
 .refine zM hf rfl ?_;unfold zAA zDN;dsimp only;rw[hM];rfl
 .refine zM hf rfl ?_;unfold zAA zDN;dsimp only;rw[hM];rfl
theorem zWE (hM:M[n]?=some (gS k s)):zD7 M n (.str "seed") (.int s')=some (M.set n (gS k s')):=by
 unfold zD7;rw[hM];dsimp only[zCQ];rw[zW0 (show [(D.str (Str.ofString "great"),D.ref k),(D.str (Str.ofString "seed"),D.int s)].length<sizeLine from zX (n:=3) (by omega))];rfl
theorem zQO (h1:fv σ M=some (.dat v,M)) (h2:fo σ M=some (.dat (.ref n),M)) (h3:fi σ M=some (.dat k,M)) (h4:zD7 M n k v=some M4) (q:P .nx σ M4):OkS (zCL fv fo fi σ M) P:=by
 refine ⟨.nx,σ,M4,?_,q⟩;unfold zCL toD;rw[h1];dsimp only;rw[h2];dsimp only;rw[h3];dsimp only;rw[h4]
theorem zD0 (h:0<b):zDg (.dat (.int a)) (.dat (.int b)) M=some (.dat (.int (a % b)),M):=zW (zS7.mpr ⟨h,rfl,rfl⟩)
theorem zQe (h:0<b/\b<1073741824):zLb (.dat (.int a)) (.dat (.int b)) M=some (.dat (.int (a / b)),M):=zW (zS4.mpr ⟨h,rfl,rfl⟩)
theorem zJS {M:Mem} (h:Gen M n k) (h0:0<m) (h1:m<1073741824) :
  Ok (zT [.ref n,.int m] M) λd M'=>(∃ i,d=.int i/\0<=i/\i<m)/\Nw M M' n k/\M'.length=M.length:=by
 unfold zT;rw[zw];unfold zEj;obtain ⟨c,s,e1,e2,e3,e4,e5,e6⟩:=h.ex;obtain ⟨hn,hk⟩:=h.lt;rw[zG,zAf];have ne:Ok (tst (fOp kNe (fOp zAA (zC 0) (fC (.str "great"))) (zBJ zF)) [some (.ref n),some (.int m),none,none] M) λb M'=>b=(!c.isEmpty)/\M'=M:=by
  refine zGp.mpr (zBR.mpr (zE (zIl rfl e1).1 (zDO.mpr (zAi.mpr ⟨zXX _,?_⟩))));rw[zRx (zAV e2) (by intro d e;cases e;rfl)];rw[zGe];exact ⟨by simp,rfl⟩
 refine Ok.mono ne ?_;rintro b M' ⟨rfl,rfl⟩;cases c with
 |nil=>
  simp only[List.isEmpty_nil,Bool.not_true,zXm,if_false];rw[zAK,zL,zG];have hs0:0<=(s*3935559000370003845+2691343689449507681) % 2305843009213693951:=Int.emod_nonneg _ (by decide);have hs1:(s*3935559000370003845+2691343689449507681) % 2305843009213693951<2305843009213693951:=Int.emod_lt_of_pos _ (by decide);have ev:fOp zDg (fOp zAo (fOp zHW (fOp zAA (zC 0) (fC (.str "seed"))) (fC (.int 3935559000370003845))) (fC (.int 2691343689449507681))) (fC (.int 2305843009213693951)) [some (.ref n),some (.int m),none,none] M'=some (.dat (.int ((s*3935559000370003845+2691343689449507681) % 2305843009213693951)),M') :=
   zM (zM (zM (zIl rfl e1).2 rfl (zW (zQL.mpr ⟨by simp[zOk] <;> omega,rfl,rfl⟩))) rfl rfl) rfl (zD0 (by decide))
  generalize (s*3935559000370003845+2691343689449507681) % 2305843009213693951=s' at hs0 hs1 ev;refine zQO ev rfl rfl (zWE e1) ?_;rw[zL];have P:=h.put (c:=[]) (s:=s') (λ_ h=>by cases h) (by simp) hs0 hs1;rw[zLP (show M'[k]?=some (.lst (([]:List Int).map D.int))from e2)]at P;have e1':(M'.set n (gS k s'))[n]?=some (gS k s'):=zXf hn;refine zCH (zM (zIl rfl e1').2 rfl (zQe ⟨by decide,by decide⟩)) ?_;have hm0:0<=s' / 65537:=Int.ediv_nonneg hs0 (by decide);have hm1:s' / 65537<2305843009213693951:=by omega
  refine zAU (zM (zM (zM (zM (x:=.dat (.int (s' / 65537))) (y:=.dat (.int (s' / 65537))) rfl rfl (zW (zQL.mpr ⟨by simp[zOk] <;> omega,rfl,rfl⟩))) rfl (zD0 (by decide))) rfl (zQe ⟨by decide,by decide⟩)) rfl (zD0 h0)) ?_;exact ⟨⟨_,rfl,Int.emod_nonneg _ (by omega),Int.emod_lt_of_pos _ h0⟩,P,by simp⟩
 |cons x c=>
  simp only[List.isEmpty_cons,Bool.not_false,if_true];have hd:∀ {x:Int} {c:List Int} {M:Mem} {σ:Sd},zC 0 σ M=some (.dat (.ref n),M)->M[n]?=some (gS k s)->M[k]?=some (.lst ((x::c).map D.int))->fOp kIx (fOp zAA (zC 0) (fC (.str "great"))) (fC (.int 0)) σ M=some (.dat (.int x),M):=λ{x c M σ} hf hM hK=>
   zM (zIl hf hM).1 rfl (zBK (ze hK) at0)
  refine zCH (zM (hd rfl e1 e2) rfl (zD0 h0)) ?_;rw[zG,zNF];refine zBR.mpr (zE (hd rfl e1 e2) (zAJ.mpr ⟨_,rfl,zS4.mpr ⟨⟨h0,h1⟩,?_⟩⟩));rw[zI];refine zE (zIl rfl e1).1 (zFN.mpr ?_);rw[zI];refine ⟨_,zKU (k:=0) e2 (by simp),?_⟩;rw[zL,zG];have hx:=e3 x zWz;have hq:0<=x / m:=Int.ediv_nonneg hx (by omega);have e2':(M'.set k (.lst (((x / m)::c).map D.int)))[k]?=some (.lst (((x / m)::c).map D.int)):=zXf hk;have e1':(M'.set k (.lst (((x / m)::c).map D.int)))[n]?=some (gS k s):=by rw[zXF (Ne.symm h.ne)];exact e1
  rw[zAf];refine zE (zv (zM (hd rfl e1' e2') rfl (zW (zGG.mpr ⟨rfl,rfl⟩)))) ?_;have fin:∀ (c':Ye),(∀ y∈c',0<=y)->c'.length<=63->Nw M' (M'.set k (.lst (c'.map D.int))) n k:=λc' q1 q2=>by
   have P:=h.put (c:=c') (s:=s) q1 q2 e5 e6;rw[zLP (k:=n) (by rw[zXF (Ne.symm h.ne)];exact e1)]at P;exact P
  by_cases hz:x / m=0
  .rw[zW0 (by simpa using hz),zBY];refine zGP.mpr (zE (zIl rfl e1').1 ⟨⟨_,zAV e2'⟩,zAL.mpr (zAe.mpr (zFN.mpr (zI.mpr (zAi.mpr ?_))))⟩);rw[zW4]at e2' ⊢;rw[zTO e2',zL];refine zAU rfl ⟨⟨_,rfl,Int.emod_nonneg _ (by omega),Int.emod_lt_of_pos _ h0⟩,?_,by simp⟩;rw[List.set_set];exact fin c (λy hy=>e3 y (zWy _ hy)) (by simp at e4;omega)
  .rw[zW3 (by simpa using hz),zAK,zL];refine zAU rfl ⟨⟨_,rfl,Int.emod_nonneg _ (by omega),Int.emod_lt_of_pos _ h0⟩,fin ((x / m)::c) (λy hy=>?_) (by simpa using e4),by simp⟩;rcases zWx.mp hy with z|z
   .subst z;exact hq
   .exact e3 y (zWy _ z)
theorem zAQ (h:Gen M n k) (ha:fa σ M=some (.dat (.ref n),M)) (hb:fb σ M=some (.dat (.int m),M)) (h0:0<m) (h1:m<1073741824)
  (q:∀ i M',0<=i->i<m->Nw M M' n k->M'.length=M.length->P (.dat (.int i)) M'):Ok (zK zT (zD (toD fa) (zD (toD fb) zF)) σ M) P:=by
 rw[zAX,zAL,zAe];refine ⟨_,_,ha,?_⟩;rw[zI,zAL,zAe];refine ⟨_,_,hb,?_⟩;rw[zI,zAi];refine Ok.mono (zJS h h0 h1) ?_;rintro d M' ⟨⟨i,rfl,i0,i1⟩,nx,hl⟩;exact q i M' i0 i1 nx hl
theorem zRM {ns:Ye} (h:ns.length<=63):Ok (zB6 [.ref 0] [.fro (ns.map D.int)]) λd M'=>d=.ref 1/\Gen M' 1 2/\M'[0]?=some (.fro (ns.map D.int)):=by
 unfold zB6;rw[zw];unfold zDz;have e0:([.fro (ns.map D.int)]:Mem)[0]?=some (.fro (ns.map D.int)):=rfl;obtain ⟨cut,ec,lc⟩:=zQX ns none (some 63);have sl:∀ {σ:Sd} {us:Mem},σ[0]?=some (some (.ref 0))->fSl (zC 0) zBS (zAc (fC (.int 63))) σ (.fro (ns.map D.int)::us)=some (.fl (cut.map D.int),.fro (ns.map D.int)::us):=λ{σ us} hσ=>by
  refine zW (zWD.mpr (zAJ.mpr ⟨_,hσ,zPS.mpr (zPg.mpr (zFN.mpr (zQS.mpr ?_)))⟩));rw[zUT (zNJ (xs:=ns.map D.int) rfl) rfl,ec];exact ⟨rfl,rfl⟩
 refine zCH rfl ?_;rw[zG,zA2];refine ⟨_,_,_,zBN (sl rfl) zBU,?_⟩;refine zAl (I:=λr σ M=>M=[.fro (ns.map D.int)]/\(∃ c:List Int,r=c.map D.int) /\ ∃ s y,σ=[some (.ref 0),some (.int s),y]/\0<=s/\s<2305843009213693951) ?_ ?_ _ _ _ ⟨rfl,⟨cut,rfl⟩,_,none,rfl,by decide,by decide⟩
 .rintro x r σ M ⟨rfl,⟨c,hc⟩,s,y,rfl,h0,h1⟩;obtain ⟨z,c',rfl,rfl,rfl⟩:=zAS hc;refine ⟨zAE,_,rfl,?_⟩;rw[zR];refine zBR.mpr (zBR.mpr (zBR.mpr (zBR.mpr (zAJ.mpr ⟨_,rfl,zFN.mpr (zQL.mpr ⟨by simp[zOk],?_⟩)⟩))));refine zAJ.mpr ⟨_,rfl,zGh.mpr (zFN.mpr (zGh.mpr (zFN.mpr (zS7.mpr ⟨by decide,?_⟩))))⟩;rw[zI];exact ⟨rfl,⟨c',rfl⟩,_,_,rfl,Int.emod_nonneg _ (by decide),Int.emod_lt_of_pos _ (by decide)⟩
 .rintro σ M ⟨rfl,_,s,y,rfl,h0,h1⟩;refine ⟨zAE,?_⟩;rw[zL,zAn];have cp:Ok (zh [2] (zq (fSl (zC 0) zBS (zAc (fC (.int 63))))) (gN 2) (tst (fOp kGe (zC 2) (fOp zOd (fC (.int 10)) (fC (.int 18))))) (zC 2) [some (.ref 0),some (.int s),y] [.fro (ns.map D.int),.dict []]) λx M=>M=[.fro (ns.map D.int),.dict []] /\ ∃ b:List Int,x=.fl (b.map D.int)/\b.length<=63 /\ ∀ x∈b,0<=x:=by
   rw[zB2];refine ⟨_,_,_,zBN (sl rfl) zBU,by rw[zWu];exact zX (by omega),?_⟩;refine Ok.mono (zBn (I:=λr acc M=>M=[.fro (ns.map D.int),.dict []]/\(∃ c:List Int,r=c.map D.int)/\r.length+acc.length<=63 /\ ∃ b:List Int,acc=b.map D.int /\ ∀ x∈b,0<=x) (Q:=λacc M=>M=[.fro (ns.map D.int),.dict []]/\acc.length<=63 /\ ∃ b:List Int,acc=b.map D.int /\ ∀ x∈b,0<=x) ?_ ?_ _ [] _ ⟨rfl,⟨cut,rfl⟩,by simp;omega,[],rfl,λ_ h=>by cases h⟩) ?_
   .rintro x r acc M ⟨rfl,⟨c,hc⟩,hl,b,rfl,hb⟩;obtain ⟨z,c',rfl,rfl,rfl⟩:=zAS hc;refine ⟨zAE,_,rfl,?_⟩;refine zGp.mpr (zBR.mpr (zAJ.mpr ⟨_,rfl,zBR.mpr (zFN.mpr (zFN.mpr (zV7.mpr ⟨by decide,zWJ.mpr (zGe.mpr ?_)⟩)))⟩));by_cases hz:(10:Int) ^ (18:Int).toNat<=z
    .rw[zW0 (by simpa using hz)];have big:(0:Int)<=10 ^ (18:Int).toNat:=by decide
     refine zAJ.mpr ⟨_,rfl,zI.mpr ⟨rfl,⟨c',rfl⟩,?_,b++[z],by simp,?_⟩⟩
     .simp at hl ⊢;omega
     .intro y hy;rcases zXB.mp hy with q|q
      .exact hb y q
      .have:y=z:=by simpa using q
       rw[this];exact Int.le_trans big hz
    .rw[zW3 (by simpa using hz)];exact ⟨rfl,⟨c',rfl⟩,by simp at hl ⊢;omega,b,rfl,hb⟩
   .rintro acc M ⟨rfl,_,hl,hb⟩;exact ⟨zAE,rfl,by simpa using hl,hb⟩
   .rintro ys M ⟨rfl,hl,b,hb,hp⟩;rw[List.nil_append]at hb hl;subst hb;exact ⟨rfl,b,rfl,by simpa using hl,hp⟩
  obtain ⟨x,M1,ex,rfl,b,rfl,hl,hb⟩:=cp;refine zE (M:=[.fro (ns.map D.int),gS 2 s,.lst (b.map D.int)]) (a:=.dat (.ref 1)) ?_ ?_
  .unfold zJt;have e1:toD (zh [2] (zq (fSl (zC 0) zBS (zAc (fC (.int 63))))) (gN 2) (tst (fOp kGe (zC 2) (fOp zOd (fC (.int 10)) (fC (.int 18))))) (zC 2)) [some (.ref 0),some (.int s),y] ([.fro (ns.map D.int)]++[.dict []])=some (.ref 2,[.fro (ns.map D.int),.dict [],.lst (b.map D.int)]):=by
    unfold toD;rw[show ([.fro (ns.map D.int)]++[.dict []]:Mem)=[.fro (ns.map D.int),.dict []]from rfl,ex];rfl
   rw[e1];rfl
  .rw[zI];refine ⟨rfl,⟨⟨b,s,rfl,rfl,hb,hl,h0,h1⟩,by decide,?_⟩,rfl⟩;intro j u e;match j,e with
   |0,e=>cases e;exact zb _ _
   |1,e=>cases e;rfl
   |2,e=>cases e;exact zb _ _
   |j+3,e=>simp at e
def zDW:FS:=(zQ (zi 3 (zh [4] (zAH (zD (toD (zC 1)) zF)) (gN 4) zn (zK zT (zD (toD (zC 0)) (zD (toD (zC 1)) zF)))))
  (zQ (zH0 (zCK 5 6) (zA6 (zD (toD (fOp kIx (zC 3) (fC (.int 0)))) (zD (toD (fOp kIx (zC 3) (zLA (fC (.int 1))))) zF))))
  (zQ (sIf (tst (fOp kEq (zC 2) (fC (.int 0)))) (zAM (zC 3)) zAv)
  (zQ (sIf (tst (fOp kEq (zC 2) (fC (.int 5)))) (zAM (fOp zJr (zBJ (zD (toD (zC 5)) zF)) (zC 1))) zAv)
  (zQ (sIf (tst (fOp kEq (zC 2) (fC (.int 6)))) (zAM (zh [4,7] (zF3 (zC 3)) (zCK 4 7) zn (vIf (tst (fOp kLe (zC 4) (zC 5))) (fOp zDg (zC 7) (fOp zAo (zC 5) (fC (.int 1)))) (fOp zAo (fOp zAo (zC 5) (fC (.int 1))) (fOp zDg (zC 7) (fOp zH3 (fOp zH3 (zC 1) (zC 5)) (fC (.int 1)))))))) zAv)
  (zQ (zi 8 (zCi (zC 1)))
  (zQ (sIf (tst (fOp kEq (zC 2) (fC (.int 3)))) (zAM (fOp zFz (fSl (zC 8) (zAc (fC (.int 1))) zBS) (fSl (zC 8) zBS (zAc (fC (.int 1)))))) zAv)
  (zQ (sIf (tst (fOp kLt (zC 2) (fC (.int 3)))) (zQ (zi 9 (zCi (zC 1)))
  (zi 8 (zh [7] (zq (zC 3)) (gN 7) zn (fM zHu (zC 9) (zD (toD (fOp zDg (zC 7) (fB zAu (zU (zC 9) zj)))) zF))))) zAv)
  (zQ (sIf (tst (fOp (kIn false) (zC 2) (zA6 (zD (toD (fC (.int 2))) (zD (toD (fC (.int 4))) zF))))) (zL6 (fOp kIx (zC 8) (zC 6)) (zC 8) (zC 5)) zAv)
  (zAM (zC 8)))))))))))
def zAm:FF:=zBE 10 zDW
def zC8:FS:=(zQ (zi 3 (fOp zAo (fC (.int 1)) (zK zT (zD (toD (zC 0)) (zD (toD (fOp kIx (zBJ (zD (toD (fC (.int 3))) (zD (toD (fC (.int 7))) (zD (toD (zC 1)) zF)))) (zK zT (zD (toD (zC 0)) (zD (toD (fC (.int 3))) zF))))) zF)))))
  (zQ (zi 4 (fOp zAo (fC (.int 1)) (zK zT (zD (toD (zC 0)) (zD (toD (zC 2)) zF)))))
  (zQ (zi 5 (zK zT (zD (toD (zC 0)) (zD (toD (fC (.int 10))) zF))))
  (zQ (zi 6 (zBJ zF))
  (zQ (zCD (zAH (zD (toD (zC 4)) zF)) (gN 7) (zQ (zi 8 (fOp kIx (zBJ (zD (toD (fC (.int 3))) (zD (toD (fC (.int 4))) zF))) (fOp zDg (zC 7) (fC (.int 2)))))
  (zQ (sIf (tst (fOp kLt (zC 5) (fC (.int 7)))) (zi 8 (zC 5)) zAv)
  (zQ (sIf (tst (fOp kEq (zC 5) (fC (.int 9)))) (zi 8 (zK zT (zD (toD (zC 0)) (zD (toD (fC (.int 7))) zF)))) zAv)
  (zBF (fM zAP (zC 6) (zD (toD (zK zAm (zD (toD (zC 0)) (zD (toD (zC 3)) (zD (toD (zC 8)) zF))))) zF)))))))
  (zQ (sIf (tst (fOp kEq (zC 5) (fC (.int 8)))) (zi 6 (fOp zJr (fSl (zC 6) zBS (zAc (fC (.int 1)))) (zC 4))) zAv)
  (zAM (fB zAI (zU (zh [10] (zAH (zD (toD (zC 3)) zF)) (gN 10) zn (fB zAI (zU (zh [9] (zq (zC 6)) (gN 9) zn (fOp kIx (zC 9) (zC 10))) zj))) zj)))))))))
def zBC:FF:=zIt (zBE 11 zC8)
def Col (many:Int) (c:Ye):Prop:=(c.length:Int)=many /\ ∀ x∈c,0<=x/\x<many
theorem zKH (h:Gen M n k) (h0:0<few) (h1:few<1073741824) (m0:0<=many) (m1:many<=90000)
  (hf:f σ M=some (.dat (.int many),M)) (ha:∀ (x:D) (M:Mem),fa ((zBM own σ).set i (some x)) M=some (.dat (.ref n),M)) (hb:∀ (x:D) (M:Mem),fb ((zBM own σ).set i (some x)) M=some (.dat (.int few),M)) :
  Ok (zh own (zAH (zD (toD f) zF)) (gN i) zn (zK zT (zD (toD fa) (zD (toD fb) zF))) σ M) λx M'=>(∃ c:List Int,x=.fl (c.map D.int)/\(c.length:Int)=many /\ ∀ y∈c,0<=y/\y<few)/\Nw M M' n k/\M'.length=M.length:=by
 refine zB2.mpr ⟨_,_,_,zBj hf m0 (by omega),by rw[zBX];exact zX (by omega),?_⟩;refine Ok.mono (zLr (n:=many.toNat) (I:=λj acc M2=>(∃ c:List Int,acc=c.map D.int/\c.length=j /\ ∀ y∈c,0<=y/\y<few)/\Nw M M2 n k/\M2.length=M.length) ?_ ⟨⟨[],rfl,rfl,λ_ h=>by cases h⟩,Nw.refl h,rfl⟩) ?_
 .rintro j acc M2 hj ⟨⟨c,rfl,hcl,hc⟩,nw,hl⟩;refine ⟨_,rfl,?_⟩;refine zAQ nw.gen (ha _ _) (hb _ _) h0 h1 λg M3 g0 g1 nw3 hl3=>?_;rw[zI];refine ⟨⟨c++[g],by simp,by simp[hcl],λz hz=>?_⟩,nw.trans nw3,by omega⟩;rcases zXB.mp hz with q|q
  .exact hc z q
  .have:z=g:=by simpa using q
   subst this;exact ⟨g0,g1⟩
 .rintro ys M2 ⟨⟨c,rfl,hcl,hc⟩,nw,hl⟩;exact ⟨⟨c,rfl,by omega,hc⟩,nw,hl⟩
theorem zGX (j:Nat):upD j=((List.range j).map λ(k:Nat)=>(k:Int)).map D.int:=by
 unfold upD;rw[zW9];rfl
theorem zTw (h:0<=many):Col many ((List.range many.toNat).map λ(k:Nat)=>(k:Int)):=by
 refine ⟨by simp;omega,λx hx=>?_⟩;obtain ⟨k,hk,rfl⟩:=zW2.mp hx;have:=zXP.mp hk;omega
theorem zd (h:P (.ref M.length) (M++[.lst xs])):zGM P (.fl xs) M:=h
theorem zY (A:Mem) (u:MO):(A++[u])[A.length]?=some u:=by simp
theorem zQk (h:Col many c) (hj:j<c.length):Col many (c.set i (c.getD j 0)):=by
 refine ⟨by rw[List.length_set];exact h.1,λx hx=>?_⟩;rcases List.mem_or_eq_of_mem_set hx with q|q
 .exact h.2 x q
 .rw[q,zWq,zWp hj];exact h.2 _ (zXJ hj)
theorem zJn (h:Col many c) (hj:j<c.length):0<=c.getD j 0/\c.getD j 0<many:=by
 rw[zWq,zWp hj];exact h.2 _ (zXJ hj)
theorem zFH (xs:Ye) (i:Nat):(xs.eraseIdx i).map D.int=(xs.map D.int).eraseIdx i:=by
 induction xs generalizing i with
 |nil=>rfl
 |cons x r ih=>
  cases i with
  |zero=>rfl
  |succ i=>simp[ih]
theorem zIg:L3.zDj xs none (some 1)=xs.take 1:=by
 have s:HT.sIx xs.length xs.length (some 1)=min 1 xs.length:=HT.zGY xs.length xs.length 1;have z:HT.sIx xs.length 0 none=0:=rfl;unfold L3.zDj;rw[s,z];simp only[List.drop_zero,Nat.sub_zero];cases xs with
 |nil=>rfl
 |cons a r=>simp
theorem slL {f:FE} {fl fh:FO} {σ:Sd} {M:Mem} {x:EV} {xs:List D} {lo hi:Ys} (hf:f σ M=some (x,M)) (ht:zBp x=none) (hx:zBW M x=some xs) (hl:fl σ M=some (lo,M)) (hh:fh σ M=some (hi,M)):fSl f fl fh σ M=some (.fl (L3.zDj xs lo hi),M):=by
 unfold fSl;rw[hf];dsimp only;rw[hl];dsimp only;rw[hh];dsimp only;unfold kSl;rw[ht];dsimp only;rw[hx]
theorem zOy {M:Mem} {n k:Nat} (h:Gen M n k) {many way:Int} (m0:0<many) (m1:many<=1000) :
  Ok (zAm [.ref n,.int many,.int way] M) λd M'=>∃ j c,d=.ref j/\M'[j]?=some (.lst (c.map D.int))/\Col many c/\M.length<=j/\Nw M M' n k:=by
 obtain ⟨hn,hk⟩:=h.lt;unfold zAm;rw[zw];unfold zDW;rw[zG,zR];refine Ok.mono (zKH h m0 (by omega) (by omega) (by omega) rfl (λ_ _=>rfl) (λ_ _=>rfl)) ?_;rintro x M1 ⟨⟨c,rfl,hcl,hc⟩,nw1,hl1⟩;refine zd ?_;rw[zL];have nw2:=nw1.trans (nw1.gen.lst (c.map D.int) (zb _ _));have e3:(M1++[MO.lst (c.map D.int)])[M1.length]?=some (.lst (c.map D.int)):=zY _ _;generalize hM2:M1++[MO.lst (c.map D.int)]=M2 at nw2 e3;have hj3:M.length<=M1.length:=nw1.len;generalize hj:M1.length=j3 at e3 hj3;have cl:c.length=many.toNat:=by omega
 have cc:Col many c:=⟨hcl,hc⟩;have hfst:atI (c.map D.int) 0=some (.int (c.getD 0 0)):=zCE (by decide) (by omega);have hlst:atI (c.map D.int) (-1)=some (.int (c.getD (c.length-1) 0)):=by
  have hne:c≠[]:=by intro e;rw[e]at cl;simp at cl;omega
  have e:=(List.dropLast_concat_getLast hne).symm;have eg:c.getD (c.length-1) 0=c.getLast hne:=by
   rw[zWq,zWp (by omega),List.getLast_eq_getElem];rfl
  rw[eg];generalize c.getLast hne=z at e;rw[e,zXd];exact L2.zFE _ _
 obtain ⟨o0,o1⟩:=zJn cc (j:=0) (by omega);obtain ⟨p0,p1⟩:=zJn cc (j:=c.length-1) (by omega);generalize c.getD 0 0=one at hfst o0 o1;generalize c.getD (c.length-1) 0=oth at hlst p0 p1;rw[zG,zGS];have etup:zA6 (zD (toD (fOp kIx (zC 3) (fC (.int 0)))) (zD (toD (fOp kIx (zC 3) (zLA (fC (.int 1))))) zF)) [some (.ref n),some (.int many),some (.int way),some (.ref j3),none,none,none,none,none,none] M2=some (.dat (.tup [.int one,.int oth]),M2):=by
  unfold zA6;rw[zk (zM rfl rfl (zBK (ze e3) hfst)) (zf (zM (y:=.dat (.int (-1))) rfl rfl (zBK (ze e3) hlst)))];dsimp only;rw[zW0 (zX (by simp))]
 refine zE etup ?_;rw[zI];refine ⟨_,rfl,?_⟩;rw[zL];have isw:∀ (j:Int) (σ:Sd) (M:Mem),σ[2]?=some (some (.int way))->tst (fOp kEq (zC 2) (fC (.int j))) σ M=some (decide (way=j),M):=λj σ M e=>by
  have v4:zC 2 σ M=some (.dat (.int way),M):=by unfold zC;rw[e]
  exact zv (zM v4 rfl (zW (zGG.mpr ⟨rfl,rfl⟩)))
 have new:∀ (A:Mem) (c':Ye),Nw M A n k->Col many c' -> ∃ j c,D.ref A.length=D.ref j/\(A++[MO.lst (c'.map D.int)])[j]?=some (.lst (c.map D.int))/\Col many c/\M.length<=j/\Nw M (A++[MO.lst (c'.map D.int)]) n k:=λA c' nw hc'=>
  ⟨A.length,c',rfl,zY _ _,hc',nw.len,nw.trans (nw.gen.lst _ (zb _ _))⟩
 rw[zG,zAf];refine zE (isw 0 _ _ rfl) ?_;by_cases w0:way=0
 .rw[zW0 (by simpa using w0)];exact zAU rfl ⟨j3,c,rfl,e3,cc,hj3,nw2⟩
 rw[zW3 (by simpa using w0),zAK,zL,zG,zAf];refine zE (isw 5 _ _ rfl) ?_;by_cases w5:way=5
 .rw[zW0 (by simpa using w5),zAn];refine zBR.mpr (zDO.mpr (zAL.mpr (zAe.mpr (zAJ.mpr ⟨_,rfl,zI.mpr (zAi.mpr ⟨zX (by simp),zAJ.mpr ⟨_,rfl,?_⟩⟩)⟩))));have er:zJr (.fl [.int one]) (.dat (.int many)) M2=some (.fl ((List.replicate many.toNat one).map D.int),M2):=by
   unfold zJr;dsimp only[zBp,zJ7];rw[zW0 ⟨by omega,by omega,zX (by simp;omega)⟩];have:(List.replicate many.toNat [D.int one]).flatten=(List.replicate many.toNat one).map D.int:=by
    rw[List.map_replicate];generalize many.toNat=q;induction q with
    |zero=>rfl
    |succ q ih=>rw[zX4,zYk,ih,zX4];rfl
   rw[this]
  refine zE er (zd ?_);rw[zJa];refine new M2 _ nw2 ⟨by simp;omega,λx hx=>?_⟩;rw[(List.mem_replicate.mp hx).2];exact ⟨o0,o1⟩
 rw[zW3 (by simpa using w5),zAK,zL,zG,zAf];refine zE (isw 6 _ _ rfl) ?_;by_cases w6:way=6
 .rw[zW0 (by simpa using w6),zAn];have hen:zF3 (zC 3) [some (.ref n),some (.int many),some (.int way),some (.ref j3),none,some (.int one),some (.int oth),none,none,none] M2=some (((List.range c.length).zip c).map λq=>D.tup [.int (q.1:Nat),.int q.2],zDM (.dat (.ref j3)) (c.map D.int),M2):=by
   unfold zF3;rw[show zC 3 [some (.ref n),some (.int many),some (.int way),some (.ref j3),none,some (.int one),some (.int oth),none,none,none] M2=some (.dat (.ref j3),M2)from rfl];dsimp only;rw[ze e3];dsimp only;unfold zJh;rw[zWu,List.zip_map_right,zW9];rfl
  have step:∀ q∈(List.range c.length).zip c,(0<=(if (q.1:Int)<=one then q.2 % (one+1) else one+1+q.2 % (many-one-1))/\(if (q.1:Int)<=one then q.2 % (one+1) else one+1+q.2 % (many-one-1))<many)/\(one<(q.1:Int)->0<many-one-1):=by
   intro q hq;have hq1:=zXP.mp (List.of_mem_zip hq).1;by_cases hle:(q.1:Int)<=one
   .rw[zW0 hle];have:=Int.emod_nonneg q.2 (show one+1≠0 by omega);have:=Int.emod_lt_of_pos q.2 (show 0<one+1 by omega);omega
   .rw[zW3 hle];have h1:0<many-one-1:=by omega
    have:=Int.emod_nonneg q.2 (show many-one-1≠0 by omega);have:=Int.emod_lt_of_pos q.2 h1;omega
  have ec:=zAh (own:=[4,7]) (g:=zCK 4 7) (te:=vIf (tst (fOp kLe (zC 4) (zC 5))) (fOp zDg (zC 7) (fOp zAo (zC 5) (fC (.int 1)))) (fOp zAo (fOp zAo (zC 5) (fC (.int 1))) (fOp zDg (zC 7) (fOp zH3 (fOp zH3 (zC 1) (zC 5)) (fC (.int 1)))))) ((List.range c.length).zip c) (λq=>D.tup [.int (q.1:Nat),.int q.2]) (λq=> .int (if (q.1:Int)<=one then q.2 % (one+1) else one+1+q.2 % (many-one-1))) hen ?_ ?_ ?_
  .refine zE ec (zd ?_);rw[zJa,show (λq:Nat × Int=>D.int (if (q.1:Int)<=one then q.2 % (one+1) else one+1+q.2 % (many-one-1)))=D.int∘(λq:Nat × Int=>(if (q.1:Int)<=one then q.2 % (one+1) else one+1+q.2 % (many-one-1)))from rfl,<-zW9];refine new M2 _ nw2 ⟨by simp;omega,λx hx=>?_⟩;obtain ⟨q,hq,rfl⟩:=zW2.mp hx;exact (step q hq).1
  .exact .inl e3
  .simp;omega
  .intro q hq;refine ⟨_,rfl,?_⟩;have hs:=step q hq;unfold vIf;have ht:tst (fOp kLe (zC 4) (zC 5)) [some (.ref n),some (.int many),some (.int way),some (.ref j3),some (.int (q.1:Nat)),some (.int one),some (.int oth),some (.int q.2),none,none] M2=some (decide ((q.1:Int)<=one),M2):=zv (zM rfl rfl (zW (zWY.mpr ⟨rfl,rfl⟩)));show (match tst (fOp kLe (zC 4) (zC 5)) [some (.ref n),some (.int many),some (.int way),some (.ref j3),some (.int (q.1:Nat)),some (.int one),some (.int oth),some (.int q.2),none,none] M2 with|some (true,M1)=>_|some (false,M1)=>_|none=>none)=_;rw[ht];by_cases hle:(q.1:Int)<=one
   .rw[zXt hle,zW0 hle];exact zM (x:=.dat (.int q.2)) (y:=.dat (.int (one+1))) rfl rfl (zD0 (by omega))
   .rw[zXK hle,zW3 hle];exact zM (x:=.dat (.int (one+1))) rfl (zM (x:=.dat (.int q.2)) (y:=.dat (.int (many-one-1))) rfl rfl (zD0 (hs.2 (by omega)))) rfl
 rw[zW3 (by simpa using w6),zAK,zL,zG,zR];have elr:∀ {σ:Sd} {A:Mem},σ[1]?=some (some (.int many))->zCi (zC 1) σ A=some (.fl (((List.range many.toNat).map λ(k:Nat)=>(k:Int)).map D.int),A):=λ{σ A} e=>by
  unfold zCi zC;rw[e];dsimp only;rw[zW0 ⟨by omega,by omega⟩,zGX]
 refine zE (elr rfl) (zd ?_);rw[zL];have nw4:=nw2.trans (nw2.gen.lst (((List.range many.toNat).map λ(k:Nat)=>(k:Int)).map D.int) (zb _ _));have e8:(M2++[MO.lst (((List.range many.toNat).map λ(k:Nat)=>(k:Int)).map D.int)])[M2.length]?=some (.lst (((List.range many.toNat).map λ(k:Nat)=>(k:Int)).map D.int)):=zY _ _;have e3':(M2++[MO.lst (((List.range many.toNat).map λ(k:Nat)=>(k:Int)).map D.int)])[j3]?=some (.lst (c.map D.int)):=by
  rw[zWs (zWo.mp e3).1];exact e3
 have hj8:M.length<=M2.length:=nw2.len;have hj38:j3<M2.length:=(zWo.mp e3).1;generalize hM4:M2++[MO.lst (((List.range many.toNat).map λ(k:Nat)=>(k:Int)).map D.int)]=M4 at nw4 e8 e3';generalize hj8':M2.length=j8 at e8 hj8 hj38;have cu:=zTw (many:=many) (by omega);generalize hup:((List.range many.toNat).map λ(k:Nat)=>(k:Int))=up at e8 cu elr;rw[zG,zAf];refine zE (isw 3 _ _ rfl) ?_;by_cases w3:way=3
 .rw[zW0 (by simpa using w3),zAn];have s1:=slL (f:=zC 8) (fl:=zAc (fC (.int 1))) (fh:=zBS) (σ:=[some (.ref n),some (.int many),some (.int way),some (.ref j3),none,some (.int one),some (.int oth),none,some (.ref j8),none]) rfl rfl (zAV e8) (oS (i:=1) rfl) rfl;have s2:=slL (f:=zC 8) (fl:=zBS) (fh:=zAc (fC (.int 1))) (σ:=[some (.ref n),some (.int many),some (.int way),some (.ref j3),none,some (.int one),some (.int oth),none,some (.ref j8),none]) rfl rfl (zAV e8) rfl (oS (i:=1) rfl);have hul:up.length=many.toNat:=by have:=cu.1;omega
  rw[zOB (by decide) (by rw[zWu];omega)]at s1;rw[zIg]at s2;refine zBR.mpr (zE s1 (zE s2 (zMJ rfl rfl (by simp;omega) (zd ?_))));rw[zJa,show (1:Int).toNat=1 from rfl,<-List.map_drop,<-List.map_take,<-zXd];refine new M4 _ nw4 ⟨by simp;omega,λx hx=>?_⟩;rcases zXB.mp hx with q|q
  .exact cu.2 x (List.mem_of_mem_drop q)
  .exact cu.2 x (List.mem_of_mem_take q)
 rw[zW3 (by simpa using w3),zAK,zL,zG]
 have tail:∀ (y7 y9:Option D) (A:Mem) (j:Nat) (c':Ye),Nw M A n k->M.length<=j->A[j]?=some (.lst (c'.map D.int))->Col many c' ->
   OkS (zQ (sIf (tst (fOp (kIn false) (zC 2) (zA6 (zD (toD (fC (.int 2))) (zD (toD (fC (.int 4))) zF))))) (zL6 (fOp kIx (zC 8) (zC 6)) (zC 8) (zC 5)) zAv) (zAM (zC 8)) [some (.ref n),some (.int many),some (.int way),some (.ref j3),none,some (.int one),some (.int oth),y7,some (.ref j),y9] A) λo x M1=>match o with|.ret d=>∃ j c,d=.ref j/\M1[j]?=some (.lst (c.map D.int))/\Col many c/\M.length<=j/\Nw M M1 n k|.nx=>∃ j c,D.non=.ref j/\M1[j]?=some (.lst (c.map D.int))/\Col many c/\M.length<=j/\Nw M M1 n k|_=>False:=by
  intro y7 y9 A j c' nw hj ej hc';rw[zG,zAf];have hin:tst (fOp (kIn false) (zC 2) (zA6 (zD (toD (fC (.int 2))) (zD (toD (fC (.int 4))) zF)))) [some (.ref n),some (.int many),some (.int way),some (.ref j3),none,some (.int one),some (.int oth),y7,some (.ref j),y9] A=some ([2,4].any λy:Int=>decide (y=way),A):=by
   refine zv (zM (x:=.dat (.int way)) (y:=.dat (.tup [.int 2,.int 4])) rfl ?_ rfl);unfold zA6;rw[zk (d:=.int 2) rfl (zf (d:=.int 4) rfl)];dsimp only;rw[zW0 (zX (by simp))]
  refine zE hin ?_;have hcl':c'.length=many.toNat:=by have:=hc'.1;omega
  by_cases hb:([2,4].any λy:Int=>decide (y=way))=true
  .rw[zW0 hb,zNF];refine zE (zM (x:=.dat (.ref j)) (y:=.dat (.int oth)) rfl rfl (zBK (ze ej) (zCE p0 (by omega)))) ?_;rw[zI];refine zAJ.mpr ⟨_,rfl,zAJ.mpr ⟨_,rfl,?_⟩⟩;rw[zI];have eo:one=((one.toNat:Nat):Int):=by omega
   refine ⟨A.set j (.lst ((c'.map D.int).set one.toNat (.int (c'.getD oth.toNat 0)))),?_,?_⟩
   .have:=zKU (k:=one.toNat) (d:=.int (c'.getD oth.toNat 0)) ej (by rw[zWu];omega);rw[<-eo]at this;exact this
   rw[zL];have hlj:j<A.length:=(zWo.mp ej).1;refine zAU rfl ⟨j,c'.set one.toNat (c'.getD oth.toNat 0),rfl,?_,zQk hc' (by omega),hj,?_⟩
   .rw[zXf hlj,List.map_set]
   .refine nw.setB h hj ?_;rw[<-List.map_set];exact zb _ _
  .rw[zW3 hb,zAK,zL];exact zAU rfl ⟨j,c',rfl,ej,hc',hj,nw⟩
 rw[zAf];refine zE (M:=M4) (a:=decide (way<3)) (zv (zM (x:=.dat (.int way)) rfl rfl (zW (zTb.mpr ⟨rfl,rfl⟩)))) ?_;by_cases wl:way<3
 .rw[zW0 (by simpa using wl),zG,zR];refine zE (elr rfl) (zd ?_);rw[zL,zR];have nw5:=nw4.trans (nw4.gen.lst (up.map D.int) (zb _ _));have e9:(M4++[MO.lst (up.map D.int)])[M4.length]?=some (.lst (up.map D.int)):=zY _ _;have e3'':(M4++[MO.lst (up.map D.int)])[j3]?=some (.lst (c.map D.int)):=by
   rw[zWs (zWo.mp e3').1];exact e3'
  have hj9:M.length<=M4.length:=nw4.len;have hj39:j3<M4.length:=(zWo.mp e3').1;generalize hM5:M4++[MO.lst (up.map D.int)]=M5 at nw5 e9 e3'';generalize hj9':M4.length=j9 at e9 hj9 hj39;have hul:up.length=many.toNat:=by have:=cu.1;omega
  refine zB2.mpr ⟨_,_,_,zBN (x:=.dat (.ref j3)) rfl (ze e3''),by rw[zWu];exact zX (by omega),?_⟩
  refine Ok.mono (zBn (I:=λr acc M'=>∃ (r' a left:Ye),r=r'.map D.int/\acc=a.map D.int/\(a.length+r'.length:Nat)=many.toNat/\(∀ x∈a,0<=x/\x<many)/\left.length=r'.length/\(∀ x∈left,0<=x/\x<many)/\M'[j9]?=some (.lst (left.map D.int))/\M'[j3]?=some (.lst (c.map D.int))/\(∀ x∈r',0<=x)/\Nw M M' n k)
   (Q:=λacc M'=>∃ a:List Int,acc=a.map D.int/\Col many a/\Nw M M' n k) ?_ ?_ _ [] _ ⟨c,[],up,rfl,rfl,by simp;omega,(λ_ h=>by cases h),by omega,cu.2,e9,e3'',(λx hx=>(hc x hx).1),nw5⟩) ?_
  .rintro x r acc M' ⟨r',a,left,hr,rfl,hal,ha,hll,hlf,e9',e3s,hr0,nw⟩;obtain ⟨g,r'',rfl,rfl,rfl⟩:=zAS hr;refine ⟨.inl e3s,_,rfl,zGg.mpr ?_⟩;rw[zW0 rfl];have hg0:=hr0 g zWz;have hlen0:0<left.length:=by rw[hll];simp
   have hz:left.length<=1000:=by rw[hll];omega
   have ei:fOp zDg (zC 7) (fB zAu (zU (zC 9) zj)) [some (.ref n),some (.int many),some (.int way),some (.ref j3),none,some (.int one),some (.int oth),some (.int g),some (.ref j8),some (.ref j9)] M'=some (.dat (.int ((g.toNat % left.length:Nat):Int)),M'):=by
    have:=zHk (f:=zC 9) (σ:=[some (.ref n),some (.int many),some (.int way),some (.ref j3),none,some (.int one),some (.int oth),some (.int g),some (.ref j8),some (.ref j9)]) (M:=M') rfl (ze e9');rw[zWu]at this;refine zM (x:=.dat (.int g)) rfl this ?_;rw[zD0 (by omega)];rw[show ((g.toNat % left.length:Nat):Int)=g % left.length by rw[Int.natCast_emod,Int.toNat_of_nonneg hg0]]
   have hlt:g.toNat % left.length<left.length:=Nat.mod_lt _ hlen0;refine zGP.mpr (zAJ.mpr ⟨_,rfl,⟨_,zAV e9'⟩,zE (zf ei) ?_⟩);have hget:(left.map D.int)[g.toNat % left.length]?=some (.int (left[g.toNat % left.length])):=by
    rw[zW8,zWp hlt];rfl
   refine zTM e9' hget (by omega) ?_;rw[zI];have hl9:j9<M'.length:=(zWo.mp e9').1;refine ⟨r'',a++[left[g.toNat % left.length]],left.eraseIdx (g.toNat % left.length),rfl,by simp,by simp at hal ⊢;omega,λx hx=>?_,?_,λx hx=>hlf x (List.mem_of_mem_eraseIdx hx),?_,?_,λx hx=>hr0 x (zWy _ hx),?_⟩
   .rcases zXB.mp hx with q|q
    .exact ha x q
    .have:x=left[g.toNat % left.length]:=by simpa using q
     rw[this];exact hlf _ (zXJ hlt)
   .rw[List.length_eraseIdx_of_lt hlt,hll];simp
   .rw[zXf hl9,zFH]
   .rw[zXF (by omega)];exact e3s
   .refine nw.setB h hj9 ?_;rw[<-zFH];exact zb _ _
  .rintro acc M' ⟨r',a,left,hr,rfl,hal,ha,hll,hlf,e9',e3s,hr0,nw⟩;have:r'=[]:=by cases r' with|nil=>rfl|cons _ _=>cases hr
   subst this;exact ⟨.inl e3s,a,rfl,⟨by simp at hal;omega,ha⟩,nw⟩
  .rintro ys M' ⟨a,ea,hca,nw⟩;rw[List.nil_append]at ea;subst ea;refine zd ?_;rw[zL];exact tail _ _ _ M'.length a (nw.trans (nw.gen.lst _ (zb _ _))) nw.len (zY _ _) hca
 .rw[zW3 (by simpa using wl),zAK,zL];exact tail _ _ M4 j8 up nw4 hj8 e8 cu
def zDi (many:Int) (cs:Ya):List (List Int):=(List.range many.toNat).map λr=>cs.map λc=>c.getD r 0
theorem zNo (h0:0<many) (hc:∀ c∈cs,Col many c) (hl:0<cs.length):IsM (zDi many cs) cs.length:=by
 have hlen:(zDi many cs).length=many.toNat:=by unfold zDi;simp
 refine ⟨by omega,hl,λr hr=>?_⟩;rw[hlen];unfold zDi at hr;obtain ⟨k,hk,rfl⟩:=zW2.mp hr;refine ⟨by simp,λg hg=>?_⟩;obtain ⟨c,hcm,rfl⟩:=zW2.mp hg;have:=hc c hcm;have h1:=this.1;have:=zJn this (j:=k) (by have:=zXP.mp hk;omega);omega
def zJd (M:Mem) (lo:Nat) (many:Int) (js:Yj) (cs:Ya):Prop:=js.length=cs.length /\ ∀ (i:Nat) j c,js[i]?=some j->cs[i]?=some c->lo<j/\M[j]?=some (.lst (c.map D.int))/\Col many c
theorem zHZ {M:Mem} {n k:Nat} {most lm:Int} (h:Gen M n k) (hm:0<most) (hm1:most<=900) (hl:0<lm) (hl1:lm<=900) :
  Ok (zBC [.ref n,.int most,.int lm] M) λd M'=>(∃ zA l,d=mD zA/\IsM zA l/\(zA.length<=8\/(zA.length:Int)<=most)/\(l:Int)<=lm)/\Nw M M' n k:=by
 obtain ⟨hn,hk⟩:=h.lt;unfold zBC;refine zM2 ?_;rw[zw];unfold zC8;show OkS (zQ _ _ [some (.ref n),some (.int most),some (.int lm),none,none,none,none,none,none,none,none] M) _;rw[zG,zR];refine zBR.mpr (zFN.mpr ?_);refine zAX.mpr (zAL.mpr (zAe.mpr (zAJ.mpr ⟨_,rfl,?_⟩)));rw[zI,zAL,zAe,zBR];simp only[zAL,zAe,zFN,zAJ,zI,zGT,zDO,zAi,List.getElem?_cons_succ,List.getElem?_cons_zero,Option.some.injEq,exists_eq_left'];refine ⟨zX (by simp),zAQ h rfl rfl (by decide) (by decide) λi M0 i0 i1 nw0 _=>?_⟩;obtain ⟨mm,em,m0,m1,m2⟩:∃ mm:Int,[D.int 3,D.int 7,D.int most][i.toNat]?=some (.int mm)/\0<mm/\mm<=900/\(mm<=7\/mm<=most):=by
  have hi:i=0\/i=1\/i=2:=by omega
  rcases hi with rfl|rfl|rfl
  .exact ⟨3,rfl,by decide,by decide,.inl (by decide)⟩
  .exact ⟨7,rfl,by decide,by decide,.inl (by decide)⟩
  .exact ⟨most,rfl,hm,hm1,.inr (Int.le_refl _)⟩
 refine zTr zBU (zMQ i0 em) ?_;rw[zI];refine Ok.mono (zJS nw0.gen m0 (by omega)) ?_;rintro d M1 ⟨⟨R,rfl,R0,R1⟩,nw1,_⟩;rw[zGh,zI,zL];have nw1':=nw0.trans nw1;generalize eR:1+R=many;have r0:0<many:=by omega
 have r1:many<=900:=by omega
 have r2:many<=7\/many<=most:=by omega
 rw[zG,zR];refine zBR.mpr (zFN.mpr (zAQ nw1'.gen rfl rfl hl (by omega) λL M2 L0 L1 nw2 _=>zGh.mpr ?_));rw[zI,zL,zG,zR];generalize eL:1+L=cnt;have nw2':=nw1'.trans nw2;refine zAQ nw2'.gen rfl rfl (by decide) (by decide) λsrt M3 s0 s1 nw3 _=>?_;have nw3':=nw2'.trans nw3;rw[zI,zL,zG,zR];refine zDO.mpr (zAi.mpr ⟨zX (by simp),zd ?_⟩);rw[zL,zG,zA2];have nw4:=nw3'.trans (nw3'.gen.lst [] rfl);have e6:(M3++[MO.lst ([]:List D)])[M3.length]?=some (.lst []):=zY _ _;have hj6:M.length<=M3.length:=nw3'.len;generalize hM4:M3++[MO.lst ([]:List D)]=M4 at nw4 e6;generalize hj6':M3.length=j6 at e6 hj6;refine ⟨_,_,_,zBj rfl (by omega) (by omega),?_⟩;refine zI9 (n:=cnt.toNat) (I:=λi σ M'=>∃ x y,σ=[some (.ref n),some (.int most),some (.int lm),some (.int many),some (.int cnt),some (.int srt),some (.ref j6),x,y,none,none] /\ ∃ (js:Yj) (cs:Ya),M'[j6]?=some (.lst (js.map D.ref))/\zJd M' j6 many js cs/\cs.length=i/\Nw M M' n k) ?_ ?_ _ _ ⟨none,none,rfl,[],[],e6,⟨rfl,λi j c h=>by simp at h⟩,rfl,nw4⟩
 .rintro i σ M' hi ⟨x,y,rfl,js,cs,ej,hcs,hl,nw⟩;refine ⟨_,rfl,?_⟩;rw[zG,zR];have hmod:∃ w0:Int,fOp kIx (zBJ (zD (toD (fC (.int 3))) (zD (toD (fC (.int 4))) zF))) (fOp zDg (zC 7) (fC (.int 2))) [some (.ref n),some (.int most),some (.int lm),some (.int many),some (.int cnt),some (.int srt),some (.ref j6),some (.int (i:Nat)),y,none,none] M'=some (.dat (.int w0),M'):=by
   have ei:fOp zDg (zC 7) (fC (.int 2)) [some (.ref n),some (.int most),some (.int lm),some (.int many),some (.int cnt),some (.int srt),some (.ref j6),some (.int (i:Nat)),y,none,none] M'=some (.dat (.int ((i:Int) % 2)),M'):=zM (x:=.dat (.int (i:Nat))) rfl rfl (zD0 (by decide));have el:zBJ (zD (toD (fC (.int 3))) (zD (toD (fC (.int 4))) zF)) [some (.ref n),some (.int most),some (.int lm),some (.int many),some (.int cnt),some (.int srt),some (.ref j6),some (.int (i:Nat)),y,none,none] M'=some (.fl [.int 3,.int 4],M'):=zW (zDO.mpr (zE (zk (d:=.int 3) rfl (zf (d:=.int 4) rfl)) ⟨zX (by simp),rfl,rfl⟩));have h2:(i:Int) % 2=0\/(i:Int) % 2=1:=by omega
   rcases h2 with q|q
   .rw[q]at ei;exact ⟨3,zM el ei rfl⟩
   .rw[q]at ei;exact ⟨4,zM el ei rfl⟩
  obtain ⟨w0,ew⟩:=hmod;refine zE ew ?_;rw[zI,zL]
  have fin:∀ (way:Int) (M5:Mem),Nw M' M5 n k->OkS (zBF (fM zAP (zC 6) (zD (toD (zK zAm (zD (toD (zC 0)) (zD (toD (zC 3)) (zD (toD (zC 8)) zF))))) zF)) [some (.ref n),some (.int most),some (.int lm),some (.int many),some (.int cnt),some (.int srt),some (.ref j6),some (.int (i:Nat)),some (.int way),none,none] M5)
    λo σ2 M2=>match o with|.nx=>(∃ x y,σ2=[some (.ref n),some (.int most),some (.int lm),some (.int many),some (.int cnt),some (.int srt),some (.ref j6),x,y,none,none] /\ ∃ (js:Yj) (cs:Ya),M2[j6]?=some (.lst (js.map D.ref))/\zJd M2 j6 many js cs/\cs.length=i+1/\Nw M M2 n k)|_=>False:=by
   intro way M5 nw5;have ej5:=nw5.get ej (by omega) (by omega);rw[zBY];refine zGP.mpr (zAJ.mpr ⟨_,rfl,⟨_,zAV ej5⟩,zAL.mpr (zAe.mpr (zAX.mpr (zE (zk rfl (zk rfl (zf rfl))) ?_)))⟩);refine Ok.mono (zOy nw5.gen r0 (by omega)) ?_;rintro d M6 ⟨j,c,rfl,ec,cc,hj,nw6⟩;have ej6:=nw6.get ej5 (by omega) (by omega);rw[zI,zAi,zB8 ej6 (by rw[zWu,hcs.1,hl];exact zXA (m:=95000) (by omega) (zX (by omega)))];have hlt6:j6<M5.length:=(zWo.mp ej5).1;have hlt6':j6<M6.length:=zXA hlt6 nw6.len;refine ⟨_,_,rfl,js++[j],cs++[c],?_,⟨by simp[hcs.1],λa b c' h1 h2=>?_⟩,by simp[hl],?_⟩
   .rw[zXf hlt6',zXd];rfl
   .have keep:∀ {b:Nat} {u:MO},j6<b->M6[b]?=some u->(M6.set j6 (.lst (js.map D.ref++[.ref j])))[b]?=some u:=λ{b u} hb e=>by rw[zXF (by omega)];exact e
    by_cases ha:a<js.length
    .rw[zWs ha]at h1;rw[zWs (by rw[<-hcs.1];exact ha)]at h2;obtain ⟨q1,q2,q3⟩:=hcs.2 a b c' h1 h2;exact ⟨q1,keep q1 (nw6.get (nw5.get q2 (by omega) (by omega)) (by omega) (by omega)),q3⟩
    .have ha':a=js.length:=by
      have:=(zWo.mp h1).1;simp at this;omega
     subst ha';rw[zXv (zWr _)]at h1;rw[zXv (by rw[hcs.1];exact zWr _)]at h2;simp at h1;rw[hcs.1]at h2;simp at h2;subst h1 h2;exact ⟨by omega,keep (by omega) ec,cc⟩
   .refine ((nw.trans nw5).trans nw6).setB h hj6 ?_;show D.unds _ _=true;have w1:D.unds M6.length (js.map D.ref)=true:=nw6.gen.wf j6 _ ej6;have hlj:j<M6.length:=(zWo.mp ec).1;rw[zFF,w1];simp[D.unds,D.und,hlj]
  have two:∀ (way:Int) (R:Out->Sd->Mem->Prop),(∀ σ2 M2,(∃ x y,σ2=[some (.ref n),some (.int most),some (.int lm),some (.int many),some (.int cnt),some (.int srt),some (.ref j6),x,y,none,none] /\ ∃ (js:Yj) (cs:Ya),M2[j6]?=some (.lst (js.map D.ref))/\zJd M2 j6 many js cs/\cs.length=i+1/\Nw M M2 n k)->R .nx σ2 M2) ->
    OkS (zQ (sIf (tst (fOp kEq (zC 5) (fC (.int 9)))) (zi 8 (zK zT (zD (toD (zC 0)) (zD (toD (fC (.int 7))) zF)))) zAv) (zBF (fM zAP (zC 6) (zD (toD (zK zAm (zD (toD (zC 0)) (zD (toD (zC 3)) (zD (toD (zC 8)) zF))))) zF))) [some (.ref n),some (.int most),some (.int lm),some (.int many),some (.int cnt),some (.int srt),some (.ref j6),some (.int (i:Nat)),some (.int way),none,none] M') R:=by
   intro way R hR;have go:∀ (way:Int) (M5:Mem),Nw M' M5 n k->OkS (zBF (fM zAP (zC 6) (zD (toD (zK zAm (zD (toD (zC 0)) (zD (toD (zC 3)) (zD (toD (zC 8)) zF))))) zF)) [some (.ref n),some (.int most),some (.int lm),some (.int many),some (.int cnt),some (.int srt),some (.ref j6),some (.int (i:Nat)),some (.int way),none,none] M5) R:=λway M5 nw5=>OkS.mono (fin way M5 nw5) (by
    intro o σ2 M2 z;cases o with
    |nx=>exact hR _ _ z
    |_=>exact z.elim)
   rw[zG,zAf];refine zE (M:=M') (a:=decide (srt=9)) (zv (zM (x:=.dat (.int srt)) rfl rfl (zW (zGG.mpr ⟨rfl,rfl⟩)))) ?_;by_cases h9:srt=9
   .rw[zW0 (by simpa using h9),zR];refine zAQ nw.gen rfl rfl (by decide) (by decide) λw M5 _ _ nw5 _=>?_;rw[zI,zL];exact go w M5 nw5
   .rw[zW3 (by simpa using h9),zAK,zL];exact go way M' (Nw.refl nw.gen)
  rw[zG,zAf];refine zE (M:=M') (a:=decide (srt<7)) (zv (zM (x:=.dat (.int srt)) rfl rfl (zW (zTb.mpr ⟨rfl,rfl⟩)))) ?_;by_cases h7:srt<7
  .rw[zW0 (by simpa using h7),zR];refine zAJ.mpr ⟨_,rfl,?_⟩;rw[zI,zL];exact two srt _ λσ2 M2 z=>z
  .rw[zW3 (by simpa using h7),zAK,zL];exact two w0 _ λσ2 M2 z=>z
 .rintro σ M' ⟨x,y,rfl,js,cs,ej,hcs,hl,nw⟩;rw[zL]
  have last:∀ (A:Mem) (j:Nat) (js':Yj) (cs':Ya),Nw M A n k->A[j]?=some (.lst (js'.map D.ref))->zJd A j6 many js' cs'->cs'.length=cnt.toNat ->
    OkS (zAM (fB zAI (zU (zh [10] (zAH (zD (toD (zC 3)) zF)) (gN 10) zn (fB zAI (zU (zh [9] (zq (zC 6)) (gN 9) zn (fOp kIx (zC 9) (zC 10))) zj))) zj)) [some (.ref n),some (.int most),some (.int lm),some (.int many),some (.int cnt),some (.int srt),some (.ref j),x,y,none,none] A)
     λo x M1=>match o with
     |.ret d=>(D.und M.length d=true/\M.length<=M1.length /\ ∀ (j:Nat) u,j<M.length->M1[j]?=some u->MO.und M.length u=true)/\(∃ zA l,d=mD zA/\IsM zA l/\(zA.length<=8\/(zA.length:Int)<=most)/\(l:Int)<=lm)/\Nw M (M1.take M.length) n k
     |.nx=>(D.und M.length D.non=true/\M.length<=M1.length /\ ∀ (j:Nat) u,j<M.length->M1[j]?=some u->MO.und M.length u=true)/\(∃ zA l,D.non=mD zA/\IsM zA l/\(zA.length<=8\/(zA.length:Int)<=most)/\(l:Int)<=lm)/\Nw M (M1.take M.length) n k
     |_=>False:=by
   intro A j js' cs' nwA eA hA hlA;have hcol:∀ c∈cs',Col many c:=λc hc=>by
    obtain ⟨i,hi,rfl⟩:=List.mem_iff_getElem.mp hc;exact (hA.2 i (js'[i]'(by rw[hA.1];exact hi)) cs'[i] (zWp _) (zWp _)).2.2
   have hlen:(zDi many cs').length=many.toNat:=by unfold zDi;simp
   refine zAU (d:=mD (zDi many cs')) ?_ ⟨⟨zCj _,nwA.len,nwA.wf0 h⟩,⟨zDi many cs',cs'.length,rfl,zNo r0 hcol (by omega),by omega,by omega⟩,nwA.trim h⟩;refine (zA7 (zAh (List.range many.toNat) (λk=>D.int k) (λk=> .tup ((cs'.map λc=>c.getD k 0).map D.int)) (zFe (f:=zC 3) rfl (by omega) (by omega)) trivial (by simp;omega) λr hr=>⟨_,rfl,?_⟩) zBU).trans ?_
   .have hr':=zXP.mp hr;refine (zA7 (zAh (gd:=zDM (.dat (.ref j)) (js'.map D.ref)) (List.range js'.length) (λi=>D.ref (js'.getD i 0)) (λi=> .int ((cs'.getD i []).getD r 0)) ?_ ?_ (by rw[zYi,hA.1,hlA];omega) λi hi=>⟨_,rfl,?_⟩) zBU).trans ?_
    .rw[show ((List.range js'.length).map λi=>D.ref (js'.getD i 0))=js'.map D.ref by
      apply List.ext_getElem
      .simp
      .intro i h1 h2;simp at h1;simp[h1]]
     exact zBN (x:=.dat (.ref j)) rfl (ze eA)
    .exact .inl eA
    .have hi':=zXP.mp hi;have hc':i<cs'.length:=by rw[<-hA.1];exact hi'
     have ej':js'[i]?=some (js'.getD i 0):=by rw[zWq,zWp hi'];rfl
     have ec':cs'[i]?=some (cs'.getD i []):=by rw[zWq,zWp hc'];rfl
     obtain ⟨_,q2,q3⟩:=hA.2 i _ _ ej' ec';have hz:=q3.1;exact zM (x:=.dat (.ref (js'.getD i 0))) (y:=.dat (.int (r:Nat))) rfl rfl (zBK (ze q2) (zCE (by omega) (by omega)))
    .congr 3;rw[zW9];refine congrArg D.tup ?_;apply List.ext_getElem
     .simp[hA.1]
     .intro i h1 h2;simp at h1 h2;have h2':i<cs'.length:=h2;simp[h2']
   .unfold mD zDi;rw[zW9];rfl
  rw[zG,zAf];refine zE (M:=M') (a:=decide (srt=8)) (zv (zM (x:=.dat (.int srt)) rfl rfl (zW (zGG.mpr ⟨rfl,rfl⟩)))) ?_;by_cases h8:srt=8
  .rw[zW0 (by simpa using h8),zR];have s2:=slL (f:=zC 6) (fl:=zBS) (fh:=zAc (fC (.int 1))) (σ:=[some (.ref n),some (.int most),some (.int lm),some (.int many),some (.int cnt),some (.int srt),some (.ref j6),x,y,none,none]) rfl rfl (zAV ej) rfl (oS (i:=1) rfl);rw[zIg]at s2;have hjl:0<js.length:=by rw[hcs.1];omega
   have hcl:0<cs.length:=by omega
   obtain ⟨j0,jr,rfl⟩:∃ a b,js=a::b:=by cases js with|nil=>simp at hjl|cons a b=>exact ⟨a,b,rfl⟩
   obtain ⟨c0,cr,rfl⟩:∃ a b,cs=a::b:=by cases cs with|nil=>simp at hcl|cons a b=>exact ⟨a,b,rfl⟩
   rw[show ((j0::jr).map D.ref).take 1=[D.ref j0]from rfl]at s2;have er:zJr (.fl [D.ref j0]) (.dat (.int cnt)) M'=some (.fl ((List.replicate cnt.toNat j0).map D.ref),M'):=by
    unfold zJr;dsimp only[zBp,zJ7];rw[zW0 ⟨by omega,by omega,zX (by simp;omega)⟩];have:(List.replicate cnt.toNat [D.ref j0]).flatten=(List.replicate cnt.toNat j0).map D.ref:=by
     rw[List.map_replicate];generalize cnt.toNat=q;induction q with
     |zero=>rfl
     |succ q ih=>rw[zX4,zYk,ih,zX4];rfl
    rw[this]
   refine zBR.mpr (zE s2 (zAJ.mpr ⟨_,rfl,zE er (zd ?_)⟩));rw[zL];obtain ⟨q1,q2,q3⟩:=hcs.2 0 j0 c0 rfl rfl;have hlj:j0<M'.length:=(zWo.mp q2).1;refine last _ M'.length (List.replicate cnt.toNat j0) (List.replicate cnt.toNat c0) (nw.trans (nw.gen.lst _ (zEB λz hz=>?_))) (zY _ _) ⟨by simp,λi j c h1 h2=>?_⟩ (by simp)
   .obtain ⟨a,ha,rfl⟩:=zW2.mp hz;rw[(List.mem_replicate.mp ha).2];simp[D.und,hlj]
   .have e1:j=j0:=(List.mem_replicate.mp (zXc h1)).2;have e2:c=c0:=(List.mem_replicate.mp (zXc h2)).2;subst e1 e2;exact ⟨q1,by rw[zWs hlj];exact q2,q3⟩
  .rw[zW3 (by simpa using h8),zAK,zL];exact last M' j6 js cs nw ej hcs hl
def zCf:FS:=(zQ (zi 1 (zBJ zF))
  (zQ (zCD (zq (zC 0)) (gN 2) (sIf (tst (fOp (kIn true) (zC 2) (zC 1))) (zBF (fM zAP (zC 1) (zD (toD (zC 2)) zF))) zAv))
  (zAM (fB zAI (zU (zh [2] (zq (zC 0)) (gN 2) zn (fM zEH (zC 1) (zD (toD (zC 2)) zF))) zj)))))
def zBH:FF:=zIt (zBE 3 zCf)
theorem zNn {xs:Ye} (h:zAF M y=some (xs.map D.int)):kIn neg (.dat (.int g)) y M=some (.dat (.bl (if neg then !(xs.any λy=>decide (y=g)) else xs.any λy=>decide (y=g))),M):=by
 unfold kIn;dsimp only;rw[h];dsimp only;rw[zBL]
theorem zS0 (xs:Ye) (g:Int):(xs.any λy=>decide (y=g))=decide (g∈xs):=by
 induction xs with
 |nil=>rfl
 |cons x r ih=>
  rw[List.any_cons,ih];by_cases h:x=g
  .subst h;simp
  .have:¬ g=x:=λe=>h e.symm;simp[h,this]
def zBo (xs:Ye):List Int:=xs.map λx=>((zJ xs).idxOf x:Int)
theorem zDw (xs:Ye):(zBo xs).length=xs.length:=by unfold zBo;simp
theorem zO0 {M:Mem} {xs:Ye} (h:M[j]?=some (.lst (xs.map D.int))) (hi:i∈xs) (hz:xs.length<=90000):zEH (.dat (.ref j)) [.int i] M=some (.int (xs.idxOf i),M):=by
 unfold zEH;dsimp only;rw[h];dsimp only;rw[zBL];dsimp only;rw[zW0 ⟨hi,hz⟩]
theorem zLL {M:Mem} (wf:∀ (j:Nat) u,M[j]?=some u->MO.und M.length u=true) {xs:Ye} (hj:M[j]?=some (.lst (xs.map D.int))) (hz:xs.length<=4000):zBH [.ref j] M=some (tI (zBo xs),M):=by
 refine zW ?_;unfold zBH;refine zM2 ?_;rw[zw];unfold zCf;have hjl:j<M.length:=(zWo.mp hj).1;rw[zG,zR];refine zDO.mpr (zAi.mpr ⟨zX (by simp),zd ?_⟩);rw[zL,zG,zA2];have ej:∀ u:MO,(M++[u])[j]?=some (.lst (xs.map D.int)):=λu=>by rw[zWs hjl];exact hj
 refine ⟨_,_,_,zBN (x:=.dat (.ref j)) rfl (ze (ej _)),?_⟩;refine zAl (I:=λr σ M'=>∃ (y:Option D) (a b:Ye),σ=[some (.ref j),some (.ref M.length),y]/\r=b.map D.int/\a++b=xs/\M'=M++[.lst ((zJ a).map D.int)]) ?_ ?_ _ _ _ ⟨none,[],xs,rfl,rfl,rfl,rfl⟩
 .rintro x r σ M' ⟨y,a,b,rfl,hr,hab,rfl⟩;obtain ⟨g,b',rfl,rfl,rfl⟩:=zAS hr;refine ⟨.inl (ej _),_,rfl,?_⟩;have ek:(M++[MO.lst ((zJ a).map D.int)])[M.length]?=some (.lst ((zJ a).map D.int)):=zY _ _;have hin:zJ (a++[g])=ins (zJ a) g:=by unfold zJ;rw[List.foldl_append];rfl
  rw[zAf];refine zE (M:=M++[MO.lst ((zJ a).map D.int)]) (a:=!decide (g∈zJ a)) ?_ ?_
  .refine zv (zM (x:=.dat (.int g)) (y:=.dat (.ref M.length)) rfl rfl ?_);rw[zNn (ze ek),zS0];rfl
  have hla:a.length<xs.length:=by rw[<-hab];simp
  have hli:=zAg a;by_cases hg:g∈zJ a
  .rw[zW3 (by simp[hg]),zAK];refine ⟨_,a++[g],b',rfl,rfl,by rw[<-hab];simp,?_⟩;rw[hin];unfold ins;rw[zW0 hg]
  .rw[zW0 (by simp[hg]),zBY];refine zGP.mpr (zAJ.mpr ⟨_,rfl,⟨_,zAV ek⟩,zE (zf (d:=.int g) rfl) ?_⟩);rw[zB8 ek (by rw[zWu];exact zXA (m:=95000) (by omega) (zX (by omega)))];refine ⟨_,a++[g],b',rfl,rfl,by rw[<-hab];simp,?_⟩;rw[hin];unfold ins;rw[zW3 hg,List.set_append_right _ _ (zWr _)];simp
 .rintro σ M' ⟨y,a,b,rfl,hr,hab,rfl⟩;have:b=[]:=by cases b with|nil=>rfl|cons _ _=>cases hr
  subst this;rw[zXV]at hab;subst hab;refine ⟨.inl (ej _),?_⟩;rw[zL];have ek:(M++[MO.lst ((zJ a).map D.int)])[M.length]?=some (.lst ((zJ a).map D.int)):=zY _ _;have hli:=zAg a;refine zAU (d:=tI (zBo a)) ?_ ⟨⟨zAb _,by simp,λi u hi e=>?_⟩,rfl,by simp⟩
  .refine (zA7 (zAh (gd:=zDM (.dat (.ref j)) (a.map D.int)) a D.int (λx=> .int ((zJ a).idxOf x:Int)) (zBN (x:=.dat (.ref j)) rfl (ze (ej _))) (.inl (ej _)) (by omega) λx hx=>⟨_,rfl,?_⟩) zBU).trans ?_
   .refine zW (zGP.mpr (zAJ.mpr ⟨_,rfl,⟨_,zAV ek⟩,zE (zf (d:=.int x) rfl) (zE (zO0 ek ((zAZ a x).mpr hx) (by omega)) ⟨rfl,rfl⟩)⟩))
   .unfold zBo tI;rw[zW9];rfl
  .rw[zWs hi]at e;exact wf i u e
theorem zTK (ha:a σ M=some (true,M)):zFa a b σ M=some (true,M):=by unfold zFa;rw[ha]
theorem zQj (ha:a σ M=some (false,M)) (hb:b σ M=some (k,M)):zFa a b σ M=some (k,M):=by unfold zFa;rw[ha];exact hb
theorem aC' {f:FE} {g:FA} {σ:Sd} {M M1 M2:Mem} {d:D} {ds:List D} (h:toD f σ M=some (d,M1)) (hg:g σ M1=some (ds,M2)):zD (toD f) g σ M=some (d::ds,M2):=by
 unfold zD;rw[h];dsimp only;rw[hg]
theorem zK6 (h:f σ M=some (.dat d,M)):toD f σ M=some (d,M):=by unfold toD;rw[h]
theorem zM5 {M M1:Mem} (h:f σ M=some (.fl xs,M1)):toD f σ M=some (.ref M1.length,M1++[.lst xs]):=by unfold toD;rw[h]
theorem zTx {g:FA} {σ:Sd} {M M1:Mem} {ds:List D} (h:g σ M=some (ds,M1)) (hz:ds.length<=100000):zBJ g σ M=some (.fl ds,M1):=by
 unfold zBJ;rw[h];dsimp only;rw[zW0 (zX hz)]
theorem zL2 {g:FA} {σ:Sd} {M M1:Mem} {ds:List D} (h:g σ M=some (ds,M1)) (hz:ds.length<=100000):zA6 g σ M=some (.dat (.tup ds),M1):=by
 unfold zA6;rw[h];dsimp only;rw[zW0 (zX hz)]
theorem zSO (hf:f σ M=some (.dat (.int i),M)) (hg:g σ M=some (.dat (.int j),M)):fB zIc (zU f (zU g zj)) σ M=some (.dat (.int (if j<i then j else i)),M):=by
 unfold fB zU zj;rw[hf];dsimp only;rw[hg];rfl
theorem zV0 {m:FF} {a:FA} {σ:Sd} {M M1:Mem} {ds:List D} {d:D} (ha:a σ M=some (ds,M)) (h:m ds M=some (d,M1)):toD (zK m a) σ M=some (d,M1):=by
 unfold toD zK;rw[ha];dsimp only;rw[h]
theorem zR7 (hf:f σ M=some (.dat (tI xs),M)) (hg:g σ M=some (.dat (.int i),M)) (hi:i∈xs):zFv f g σ M=some (.dat (.int (xs.idxOf i)),M):=by
 unfold zFv;have e1:toD f σ M=some (.tup (xs.map D.int),M):=by unfold toD;rw[hf];rfl
 have e2:toD g σ M=some (.int i,M):=by unfold toD;rw[hg]
 rw[e1];dsimp only;rw[zBL];dsimp only;rw[e2];dsimp only;rw[zW0 hi]
theorem zNz (a:Ye):(a.map D.int).all (zAr 0)=true:=by
 rw[zXM];intro x hx;obtain ⟨i,_,rfl⟩:=zW2.mp hx;rfl
theorem zOT (h1:M[n]?=some (.lst xs)) (h2:M[m]?=some (.lst ys)) (hz:xs.length+ys.length<=90000):zDP (.dat (.ref n)) [.ref m] M=some (.non,M.set n (.lst (xs++ys))):=by
 unfold zDP;dsimp only;rw[h1,h2];dsimp only;rw[zW0 (zX (by omega))]
def zDd:FS:=(zQ (zi 3 (zK zBC (zD (toD (zC 0)) (zD (toD (fC (.int 7))) (zD (toD (zC 2)) zF)))))
  (zQ (zi 4 (fOp zAo (fB zAu (zU (zC 3) zj)) (zK zT (zD (toD (zC 0)) (zD (toD (fOp zH3 (fOp zAo (zC 1) (fC (.int 1))) (fB zAu (zU (zC 3) zj)))) zF)))))
  (zQ (zi 5 (fOp zFz (zCi (fB zAu (zU (zC 3) zj))) (zh [6] (zAH (zD (toD (fOp zH3 (zC 4) (fB zAu (zU (zC 3) zj)))) zF)) (gN 6) zn (zK zT (zD (toD (zC 0)) (zD (toD (fB zAu (zU (zC 3) zj))) zF))))))
  (zQ (zi 7 (zK zT (zD (toD (zC 0)) (zD (toD (zC 4)) zF))))
  (zQ (zi 5 (fOp zFz (fSl (zC 5) (zAc (zC 7)) zBS) (fSl (zC 5) zBS (zAc (zC 7)))))
  (zQ (zi 8 (zBJ zF))
  (zQ (zCD (zq (zC 5)) (gN 9) (zQ (zi 10 (zBJ zF))
  (zQ (zCD (zq (fOp kIx (zC 3) (zC 9))) (gN 11) (zQ (zi 12 (zh [6] (zAH (zD (toD (zC 4)) zF)) (gN 6) (tst (fOp kEq (fOp kIx (zC 5) (zC 6)) (zC 11))) (zC 6)))
  (zBF (fM zAP (zC 10) (zD (toD (fOp kIx (zC 12) (zK zT (zD (toD (zC 0)) (zD (toD (fB zAu (zU (zC 12) zj))) zF))))) zF)))))
  (zBF (fM zAP (zC 8) (zD (toD (fB zAI (zU (zC 10) zj))) zF))))))
  (zAM (zA6 (zD (toD (fB zAI (zU (zC 8) zj))) (zD (toD (zC 5)) zF)))))))))))
def zBm:FF:=zBE 13 zDd
theorem zNl {xs:List D} (h:q<=xs.length):L3.zDj xs (some (q:Int)) none=xs.drop q:=by
 have s:HT.sIx xs.length 0 (some (q:Int))=q:=by rw[HT.zGY];omega
 have z:HT.sIx xs.length xs.length none=xs.length:=rfl;unfold L3.zDj;rw[s,z,List.take_of_length_le (by simp)]
theorem zOY {xs:List D} (h:q<=xs.length):L3.zDj xs none (some (q:Int))=xs.take q:=by
 have s:HT.sIx xs.length xs.length (some (q:Int))=q:=by rw[HT.zGY];omega
 have z:HT.sIx xs.length 0 none=0:=rfl;unfold L3.zDj;rw[s,z];simp
end Lad
namespace Lad
open PySem PySem.Spec PyProof.Rows L2 L3 ST Law Lac
end Lad
namespace Lad
open PySem PySem.Spec PyProof.Rows L2 L3 ST Law Lac
end Lad
namespace Lac
open PySem PySem.Spec PyProof.Rows L2 L3 ST Law
theorem zNA (s:IsS zA S):S.length<=zA.length:=zMY (a:=0) s.pw λx hx=>by have:=s.mem x hx;omega
end Lac
namespace Lac
open PySem PySem.Spec PyProof.Rows L2 L3 ST Law
def zJO:FS:=(zQ (zi 1 (zK zDH (zD (toD (zC 0)) zF)))
  (zAM (fB zAI (zU (zh [2] (zq (zK zAa (zD (toD (zK zAO (zD (toD (zC 0)) zF))) zF))) (gN 2) (tst (fOp (zBV true) (zC 2) (zC 1))) (zC 2)) zj))))
def zE6:FF:=zDI (zBE 3 zJO)
open Classical in
def zAw (zA:Ya) (l:Nat):List (List Int):=(zg (zO zA)).filter λp=>decide (p∉zCA zA l One)
theorem zNV (n:Nat) (ps:Ya):D.und n (.tup (ps.map tI))=true:=by unfold D.und;exact zNL n ps
theorem zPI (m:IsM zA l) (hR:zA.length<=26) (hl:l<=12):zE6 [mD zA] M=some (.tup ((zAw zA l).map tI),M):=by
 refine zW ?_;unfold zE6;refine zCT ?_ ?_
 .unfold D.unds D.unds;rw[zCj];rfl
 rw[zw];unfold zJO;obtain ⟨d,M1,e,jf,rfl,_,⟨fd,h2,_,sp⟩,_,_⟩:=zLi m hR hl (M:=[]);rw[zG,zR];refine zE (zy (zf (d:=mD zA) rfl) e) ?_;rw[zI,zL];have hrl:(zO zA).length=zA.length:=by unfold zO;simp
 have epr:=zEs (xs:=zO zA) (by omega) (M:=M1);have ei:zq (zK zAa (zD (toD (zK zAO (zD (toD (zC 0)) zF))) zF)) [some (mD zA),some (.ref jf),none] M1=_:=zFJ (zf (d:=tI (zO zA)) (zy (zf (d:=mD zA) rfl) (zD3 (by omega)))) epr (zY _ _);have hjl:=(zWo.mp h2).1;have hPl:=zEJ hR;have ef:=zCC (own:=[2]) (g:=gN 2) (tc:=tst (fOp (zBV true) (zC 2) (zC 1))) (te:=zC 2) (zg (zO zA)) tI tI (λp=>open Classical in decide (p∉zCA zA l One)) ei (.inl (zY _ _)) (by omega) (λp hp=>by
  refine ⟨[some (mD zA),some (.ref jf),some (tI p)],rfl,?_,λ_=>rfl⟩;have e1:fOp (zBV true) (zC 2) (zC 1) [some (mD zA),some (.ref jf),some (tI p)] (M1++[MO.lst ((zg (zO zA)).map tI)])=_:=zM (x:=.dat (tI p)) (y:=.dat (.ref jf)) rfl rfl (zL4 (T:=fd) (by rw[zWs hjl];exact h2));rw[zW0 rfl]at e1;have hb:(zH fd p).isSome=true ↔ p∈zCA zA l One:=by
   rw[zBq];constructor
   .intro h;cases eL:zH fd p with
    |none=>rw[eL]at h;cases h
    |some d=>
     obtain ⟨_,n,hn,_⟩:=(sp p d).mp eL;cases n with
     |zero=>
      obtain ⟨a,b,rfl,_⟩:=zA4.mp hp;exact absurd (zBk.mp hn) (by simp[One])
     |succ n=>exact ⟨hp,n,hn⟩
   .rintro ⟨_,n,hn⟩;rw[(sp p _).mpr ⟨zCt p hp,n+1,hn,rfl⟩];rfl
  rw[zv e1];by_cases hin:p∈zCA zA l One
  .rw[hb.mpr hin,zXK (by simpa using hin)];rfl
  .have:(zH fd p).isSome=false:=by
    cases h:(zH fd p).isSome with
    |false=>rfl
    |true=>exact absurd (hb.mp h) hin
   rw[this,zXt hin];rfl)
 rw[zAn];refine zLx.mpr (zCo.mpr (zE ef (zDk.mpr ((zES zBU).mpr ?_))));rw[zI];exact ⟨zNV 0 _,rfl,rfl⟩
end Lac
namespace Lad
open PySem PySem.Spec PyProof.Rows L2 L3 ST Law Lac
theorem zCX:r∈zO zA ↔ 0<=r/\r<(zA.length:Int):=by
 unfold zO;constructor
 .intro h;obtain ⟨k,hk,rfl⟩:=zW2.mp h;have:=zXP.mp hk;omega
 .rintro ⟨h1,h2⟩;exact zW2.mpr ⟨r.toNat,zXP.mpr (by omega),by omega⟩
theorem zCs:[a,b]∈zg (zO zA) ↔ (0<=a/\a<(zA.length:Int))/\(0<=b/\b<(zA.length:Int))/\a<b:=by
 rw[zA4];constructor
 .rintro ⟨a',b',e,h1,h2,h3⟩;cases e;exact ⟨zCX.mp h1,zCX.mp h2,h3⟩
 .rintro ⟨h1,h2,h3⟩;exact ⟨a,b,rfl,zCX.mpr h1,zCX.mpr h2,h3⟩
theorem zQo (hu:0<=u/\u<(zA.length:Int)) (hv:0<=v/\v<(zA.length:Int)) (ne:u≠v):zE5 u v∈zg (zO zA):=by
 unfold zE5;rw[zCs];split <;> split <;> omega
end Lad
namespace Lad
open PySem PySem.Spec PyProof.Rows L2 L3 ST Law Lac
open Classical in
def okL (bad:Yq) (r:Nat):List Nat:=(List.range (r+1)).filter λ(o:Nat)=>decide (o=r \/ ¬ bad [(o:Int),(r:Int)])
def zHV (bad:Yq) (r:Nat):Int:=(((okL bad r).headD 0:Nat):Int)
def zCR (bad:Yq) (n:Nat):List Int:=(List.range n).map (zHV bad)
def zDx:FS:=(zQ (zi 1 zLs)
  (zQ (zCD (zq (zC 0)) (gN 2) (sIf (tst (fOp (zBV true) (zC 2) (zC 1))) (zCL (fB zIx (zU (zC 1) zj)) (zC 1) (zC 2)) zAv))
  (zAM (fB zAI (zU (zh [2] (zq (zC 0)) (gN 2) zn (fOp zAA (zC 1) (zC 2))) zj)))))
def zBe:FF:=zBE 3 zDx
def zBT:Nat->List Int->List (D × D)
 |_,[]=>[]
 |i,k::r=>(.int k,.int (i:Int))::zBT (i+1) r
theorem zGq:∀ (i:Nat) (ks:Ye),(zBT i ks).length=ks.length
 |_,[]=>rfl
 |i,k::r=>by unfold zBT;rw[zXI,zGq,zXI]
theorem zIi:∀ (i:Nat) (ks:Ye) (k:Int),zBT i (ks++[k])=zBT i ks++[(.int k,.int ((i+ks.length:Nat):Int))]
 |i,[],k=>rfl
 |i,a::r,k=>by
  rw[List.cons_append];unfold zBT;rw[zIi,List.cons_append,zXI,show i+1+r.length=i+(r.length+1) by omega]
theorem zJF:∀ (i:Nat) (ks:Ye) (k:Int),zCB zCQ (zBT i ks) (Sum.inl k)=if k∈ks then some (.int ((i+ks.idxOf k:Nat):Int)) else none
 |i,[],k=>rfl
 |i,a::r,k=>by
  have ih:=zJF (i+1) r k;unfold zCB at ih ⊢;rw[show zBT i (a::r)=(D.int a,D.int (i:Int))::zBT (i+1) r from rfl,zYX];by_cases h:a=k
  .subst h;rw[show decide (zCQ (D.int a)=some (Sum.inl a))=true from zXt rfl];simp
  .rw[show decide (zCQ (D.int a)=some (Sum.inl k))=false from zXK (λz=>h (Sum.inl.inj (zXl z)))];by_cases hk:k∈r
   .rw[zW0 (zWy _ hk)];rw[zW0 hk]at ih;rw[List.idxOf_cons,show (a==k)=false from beq_false_of_ne h];simp only[cond_false];rw[show i+(List.idxOf k r+1)=i+1+List.idxOf k r by omega];exact ih
   .rw[zW3 (by simp[hk,Ne.symm h])];rw[zW3 hk]at ih;exact ih
theorem zVy (ks:Ye) (k:Int) (h:k∉ks):zH6 zCQ (zBT 0 ks) (Sum.inl k) (.int k) (.int (ks.length:Int))=zBT 0 (ks++[k]):=by
 have hl:=zJF 0 ks k;rw[zW3 h]at hl;unfold zCB at hl;have ha:((zBT 0 ks).any λp=>decide (zCQ p.1=some (Sum.inl k)))=false:=by
  rw[List.any_eq_false];intro p hp;have:=(Option.map_eq_none_iff.mp hl);rw[List.find?_eq_none]at this;exact this p hp
 unfold zH6;rw[ha,zW3 (by simp),zIi];simp
theorem zFB (hj:M[j]?=some (.lst (xs.map D.int))) (hz:xs.length<=1000) :
  Ok (zBe [.ref j] M) λd M'=>d=tI (zBo xs)/\M.length<=M'.length /\ ∀ i,i<M.length->M'[i]?=M[i]?:=by
 have hjl:=(zWo.mp hj).1;unfold zBe;rw[zw];unfold zDx;show OkS (zQ _ _ [some (.ref j),none,none] M) _;rw[zG,zR];refine zE (M:=M++[.dict []]) (a:=.dat (.ref M.length)) rfl ?_;rw[zI,zL];simp only[List.set_cons_succ,List.set_cons_zero];have up:∀ u:MO,(M++[u])[j]?=some (.lst (xs.map D.int)):=λu=>by rw[zWs hjl];exact hj
 rw[zG,zA2];refine ⟨_,_,_,(show zq (zC 0) [some (.ref j),some (.ref M.length),none] (M++[.dict []])=some (xs.map D.int,zDM (.dat (.ref j)) (xs.map D.int),M++[.dict []]) by
  unfold zq;rw[show zC 0 [some (.ref j),some (.ref M.length),none] (M++[.dict []])=some (.dat (.ref j),M++[.dict []])from rfl];dsimp only;rw[ze (up _)]),?_⟩
 have insl:∀ us:List Int,(zJ us).length<=us.length:=λus=>zAg us;refine zAl (I:=λr σ M'=>∃ (us vs:Ye) (y:Option D),σ=[some (.ref j),some (.ref M.length),y]/\xs=us++vs/\r=vs.map D.int/\M'=M++[.dict (zBT 0 (zJ us))]) ?_ ?_ _ _ _ ⟨[],xs,none,rfl,rfl,rfl,rfl⟩
 .rintro x r σ M' ⟨us,vs,y,rfl,hab,hr,rfl⟩;cases vs with
  |nil=>cases hr
  |cons k vs=>
   rw[zW4]at hr;obtain ⟨rfl,rfl⟩:=zXp hr;refine ⟨.inl (up _),_,rfl,?_⟩;have hul:us.length<1000:=by have:=congrArg List.length hab;simp at this;omega
   have e0:(M++[MO.dict (zBT 0 (zJ us))])[M.length]?=some (.dict (zBT 0 (zJ us))):=zY _ _;show OkS (sIf _ _ _ [some (.ref j),some (.ref M.length),some (.int k)] _) _;rw[zAf];have eg:zDN (M++[MO.dict (zBT 0 (zJ us))]) (.dat (.ref M.length)) (.int k)=some (if k∈zJ us then some (.int ((0+(zJ us).idxOf k:Nat):Int)) else none):=by
    unfold zDN;dsimp only;rw[e0];show some (zCB zCQ (zBT 0 (zJ us)) (Sum.inl k))=_;rw[zJF]
   refine zE (M:=M++[MO.dict (zBT 0 (zJ us))]) (a:=!decide (k∈zJ us)) (zv (zM (x:=.dat (.int k)) (y:=.dat (.ref M.length)) rfl rfl (by unfold zBV;dsimp only;rw[eg];by_cases h:k∈zJ us <;> simp[h]))) ?_;by_cases h:k∈zJ us
   .rw[zXt h,zW3 (by simp),zAK];refine ⟨us++[k],vs,_,rfl,by rw[hab];simp,rfl,?_⟩;rw[zB3];unfold ins;rw[zW0 h]
   .rw[zXK h,zW0 (by simp)];have hil:=insl us;refine ⟨.nx,[some (.ref j),some (.ref M.length),some (.int k)],M++[.dict (zBT 0 (zJ us++[k]))],?_,us++[k],vs,_,rfl,by rw[hab];simp,rfl,by rw[zB3];unfold ins;rw[zW3 h]⟩;unfold zCL;rw[zK6 (show fB zIx (zU (zC 1) zj) [some (.ref j),some (.ref M.length),some (.int k)] (M++[MO.dict (zBT 0 (zJ us))])=some (.dat (.int ((zJ us).length:Int)),M++[MO.dict (zBT 0 (zJ us))]) by
     unfold fB zU zj;rw[show zC 1 [some (.ref j),some (.ref M.length),some (.int k)] (M++[MO.dict (zBT 0 (zJ us))])=some (.dat (.ref M.length),M++[MO.dict (zBT 0 (zJ us))])from rfl];unfold zIx;dsimp only;rw[e0];dsimp only;rw[zGq])]
    dsimp only;rw[show toD (zC 1) [some (.ref j),some (.ref M.length),some (.int k)] (M++[MO.dict (zBT 0 (zJ us))])=some (.ref M.length,M++[MO.dict (zBT 0 (zJ us))])from rfl];dsimp only;rw[show toD (zC 2) [some (.ref j),some (.ref M.length),some (.int k)] (M++[MO.dict (zBT 0 (zJ us))])=some (.int k,M++[MO.dict (zBT 0 (zJ us))])from rfl];dsimp only;unfold zD7;rw[e0];rw[show zCQ (.int k)=some (Sum.inl k)from rfl];dsimp only;rw[zW0 (by rw[zGq];exact zXA (m:=95000) (by omega) (zX (by omega))),zVy _ _ h];simp
 .rintro σ M' ⟨us,vs,y,rfl,hab,hr,rfl⟩;have:vs=[]:=by cases vs with|nil=>rfl|cons _ _=>cases hr
  subst this;rw[zXV]at hab;subst hab;refine ⟨.inl (up _),?_⟩;rw[zL];have e0:(M++[MO.dict (zBT 0 (zJ xs))])[M.length]?=some (.dict (zBT 0 (zJ xs))):=zY _ _;have ec:=zAh (own:=[2]) (g:=gN 2) (te:=fOp zAA (zC 1) (zC 2)) (fi:=zq (zC 0)) (σ:=[some (.ref j),some (.ref M.length),y]) (M:=M++[MO.dict (zBT 0 (zJ xs))]) xs D.int (λk=>D.int (((zJ xs).idxOf k:Nat):Int)) (gd:=zDM (.dat (.ref j)) (xs.map D.int)) (by
   unfold zq;rw[show zC 0 [some (.ref j),some (.ref M.length),y] (M++[MO.dict (zBT 0 (zJ xs))])=some (.dat (.ref j),M++[MO.dict (zBT 0 (zJ xs))])from rfl];dsimp only;rw[ze (up _)]) (.inl (up _)) (by omega) λk hk=>⟨_,rfl,zM (x:=.dat (.ref M.length)) (y:=.dat (.int k)) rfl rfl (by
    unfold zAA;unfold zDN;dsimp only;rw[e0];show (match some (zCB zCQ (zBT 0 (zJ xs)) (Sum.inl k)) with|some (some d)=>_|_=>_)=_;rw[zJF,zW0 ((zAZ xs k).mpr hk),Nat.zero_add])⟩
  refine zAU (d:=tI (zBo xs)) ?_ ⟨rfl,by simp,λi hi=>zWs hi⟩;unfold fB zU zj;rw[ec];unfold zBo tI;rw[zW9];rfl
def zDa:FS:=(zQ (zi 2 (zK zAO (zD (toD (zC 0)) zF)))
  (zAM (zK zBe (zD (toD (zh [4] (zq (zC 2)) (gN 4) zn (fB (zCy false) (zU (zh [3] (zq (zC 2)) (gN 3) (zFa (tst (fOp kEq (zC 3) (zC 4))) (zDl (tst (fOp kLt (zC 3) (zC 4))) (tst (fOp (zBV true) (zA6 (zD (toD (zC 3)) (zD (toD (zC 4)) zF))) (zC 1))))) (zC 3)) zj)))) zF))))
def zBl:FF:=zBE 5 zDa
theorem zIL (h1:b∈okL bad r) (h2:∀ y∈okL bad r,b<=y):zHV bad r=(b:Int):=by
 have pw:(okL bad r).Pairwise (· < ·):=List.Pairwise.filter _ List.pairwise_lt_range;unfold zHV;cases e:okL bad r with
 |nil=>rw[e]at h1;cases h1
 |cons a t=>
  rw[e]at h1 h2 pw;have ha:=h2 a zWz;rcases zWx.mp h1 with z|z
  .rw[z];rfl
  .have:=(zYv.mp pw).1 b z;omega
open Classical in
theorem zGU {bad:Yq} {r o:Nat}:o∈okL bad r ↔ o<=r/\(o=r \/ ¬ bad [(o:Int),(r:Int)]):=by
 unfold okL;rw[zXw,zXP,zXy];exact ⟨λ⟨a,b⟩=>⟨by omega,b⟩,λ⟨a,b⟩=>⟨by omega,b⟩⟩
theorem zII (hR:zA.length<=26) (hf:M[jf]?=some (dT fd)) :
  Ok (zBl [mD zA,.ref jf] M) λd M'=>d=tI (zBo (zCR (λp=>(zH fd p).isSome=true) zA.length))/\M.length<=M'.length /\ ∀ i,i<M.length->M'[i]?=M[i]?:=by
 unfold zBl;rw[zw];unfold zDa;refine zCH (zy (zf (d:=mD zA) rfl) (zD3 (by omega))) ?_;have eI:∀ (y3 y4:Option D),zq (zC 2) [some (mD zA),some (.ref jf),some (tI ((List.range zA.length).map λ(k:Nat)=>(k:Int))),y3,y4] M=some ((List.range zA.length).map (λ(k:Nat)=>D.int (k:Int)),none,M):=λy3 y4=>by
  unfold zq;rw[show zC 2 [some (mD zA),some (.ref jf),some (tI ((List.range zA.length).map λ(k:Nat)=>(k:Int))),y3,y4] M=some (.dat (tI ((List.range zA.length).map λ(k:Nat)=>(k:Int))),M)from rfl];dsimp only;rw[show zAF M (.dat (tI ((List.range zA.length).map λ(k:Nat)=>(k:Int))))=some (((List.range zA.length).map λ(k:Nat)=>(k:Int)).map D.int)from rfl,zW9];rfl
 have inner:∀ (r:Nat),r<zA.length->fB (zCy false) (zU (zh [3] (zq (zC 2)) (gN 3) (zFa (tst (fOp kEq (zC 3) (zC 4))) (zDl (tst (fOp kLt (zC 3) (zC 4))) (tst (fOp (zBV true) (zA6 (zD (toD (zC 3)) (zD (toD (zC 4)) zF))) (zC 1))))) (zC 3)) zj) [some (mD zA),some (.ref jf),some (tI ((List.range zA.length).map λ(k:Nat)=>(k:Int))),none,some (.int (r:Int))] M=some (.dat (.int (zHV (λp=>(zH fd p).isSome=true) r)),M):=λr hr=>by
  have ef:=zCC (own:=[3]) (g:=gN 3) (tc:=zFa (tst (fOp kEq (zC 3) (zC 4))) (zDl (tst (fOp kLt (zC 3) (zC 4))) (tst (fOp (zBV true) (zA6 (zD (toD (zC 3)) (zD (toD (zC 4)) zF))) (zC 1))))) (te:=zC 3) (List.range zA.length) (λ(k:Nat)=>D.int (k:Int)) (λ(k:Nat)=>D.int (k:Int)) (λ(o:Nat)=>decide (o=r)||(decide (o<r) && !(zH fd [(o:Int),(r:Int)]).isSome)) (eI none (some (.int (r:Int)))) trivial (by rw[zYi];omega) (λo ho=>by
   refine ⟨[some (mD zA),some (.ref jf),some (tI ((List.range zA.length).map λ(k:Nat)=>(k:Int))),some (.int (o:Int)),some (.int (r:Int))],rfl,?_,λ_=>rfl⟩;have e1:tst (fOp kEq (zC 3) (zC 4)) [some (mD zA),some (.ref jf),some (tI ((List.range zA.length).map λ(k:Nat)=>(k:Int))),some (.int (o:Int)),some (.int (r:Int))] M=some (decide (o=r),M):=by
    refine zv (zM (x:=.dat (.int (o:Int))) (y:=.dat (.int (r:Int))) rfl rfl (zW (zGG.mpr ⟨?_,rfl⟩)));by_cases h:o=r
    .subst h;simp
    .simp[h];omega
   have e2:tst (fOp kLt (zC 3) (zC 4)) [some (mD zA),some (.ref jf),some (tI ((List.range zA.length).map λ(k:Nat)=>(k:Int))),some (.int (o:Int)),some (.int (r:Int))] M=some (decide ((o:Int)<(r:Int)),M):=zv (zM (x:=.dat (.int (o:Int))) (y:=.dat (.int (r:Int))) rfl rfl rfl);have e3:=zv (zM (k:=zBV true) (f:=zA6 (zD (toD (zC 3)) (zD (toD (zC 4)) zF))) (g:=zC 1) (σ:=[some (mD zA),some (.ref jf),some (tI ((List.range zA.length).map λ(k:Nat)=>(k:Int))),some (.int (o:Int)),some (.int (r:Int))]) (M:=M) (x:=.dat (tI [(o:Int),(r:Int)])) (y:=.dat (.ref jf)) (zL2 (zk (d:=.int (o:Int)) rfl (zf (d:=.int (r:Int)) rfl)) (by simp)) rfl (zL4 hf));rw[zW0 rfl]at e3;by_cases h:o=r
   .rw[zXt h]at e1 ⊢;exact zTK e1
   .rw[zXK h]at e1 ⊢;rw[zQj e1 (k:=decide (o<r) && !(zH fd [(o:Int),(r:Int)]).isSome) ?_]
    .rfl
    by_cases h2:o<r
    .rw[zXt (by omega)]at e2;rw[zNd e2 e3,zXt h2];rfl
    .rw[zXK (by omega)]at e2;rw[zNN e2,zXK h2];rfl)
  generalize hF:((List.range zA.length).filter λ(o:Nat)=>decide (o=r)||(decide (o<r) && !(zH fd [(o:Int),(r:Int)]).isSome))=F at ef;have hm:∀ o,o∈F ↔ o∈okL (λp=>(zH fd p).isSome=true) r:=λo=>by
   rw[zGU,<-hF,zXw,zXP];simp only[Bool.or_eq_true,zXL,zXy,Bool.not_eq_true'];constructor
   .rintro ⟨h1,h2|⟨h2,h3⟩⟩
    .exact ⟨by omega,.inl h2⟩
    .exact ⟨by omega,.inr (by rw[h3];simp)⟩
   .rintro ⟨h1,h2|h2⟩
    .exact ⟨by omega,.inl h2⟩
    .rcases Nat.eq_or_lt_of_le h1 with z|z
     .exact ⟨by omega,.inl z⟩
     .exact ⟨by omega,.inr ⟨z,by simpa using h2⟩⟩
  have hne:F≠[]:=λz=>by
   have:r∈F:=(hm r).mpr (zGU.mpr ⟨zWr _,.inl rfl⟩);rw[z]at this;cases this
  obtain ⟨b,eb,b1,b2⟩:=zMw (xs:=F.map λ(k:Nat)=>(k:Int)) (by rw[zW9];exact ef) (by simpa using hne);obtain ⟨b',hb',rfl⟩:=zW2.mp b1;rw[eb,zIL ((hm b').mp hb') λy hy=>?_];have:=b2 (y:Int) (zW2.mpr ⟨y,(hm y).mpr hy,rfl⟩);omega
 have ec:=zAh (own:=[4]) (g:=gN 4) (te:=fB (zCy false) (zU (zh [3] (zq (zC 2)) (gN 3) (zFa (tst (fOp kEq (zC 3) (zC 4))) (zDl (tst (fOp kLt (zC 3) (zC 4))) (tst (fOp (zBV true) (zA6 (zD (toD (zC 3)) (zD (toD (zC 4)) zF))) (zC 1))))) (zC 3)) zj)) (σ:=[some (mD zA),some (.ref jf),some (tI ((List.range zA.length).map λ(k:Nat)=>(k:Int))),none,none]) (M:=M) (List.range zA.length) (λ(k:Nat)=>D.int (k:Int)) (λ(k:Nat)=>D.int (zHV (λp=>(zH fd p).isSome=true) k)) (eI none none) trivial (by rw[zYi];omega) λr hr=>⟨_,rfl,inner r (zXP.mp hr)⟩;rw[zAn];refine zAX.mpr (zAL.mpr (zAe.mpr (zE ec (zd (zAi.mpr ?_)))));have eC:(List.range zA.length).map (λ(k:Nat)=>D.int (zHV (λp=>(zH fd p).isSome=true) k))=(zCR (λp=>(zH fd p).isSome=true) zA.length).map D.int:=by unfold zCR;rw[zW9];rfl
 rw[eC];refine Ok.mono (zFB (zY _ _) (by unfold zCR;rw[zWu,zYi];omega)) ?_;rintro d M' ⟨rfl,h1,h2⟩;rw[zW1,List.length_singleton]at h1 h2;rw[zI];exact ⟨rfl,by omega,λi hi=>by rw[h2 i (by omega),zWs hi]⟩
theorem zJe (hr:M[jr]?=some (dT (zCv zA l G))) (h:p∉zCA zA l G) :
  Ok (zBh [mD zA,.ref jr,tI p] M) λd M'=>d=tI [] /\ ∃ us,M'=M++us:=by
 have hrl:=(zWo.mp hr).1;unfold zBh;rw[zw];unfold zER;rw[zG,zR];refine zE (M:=M) (a:=.fl []) (zTx rfl (by simp)) (zd ?_);rw[zL];refine zCH (d:=tI p) rfl ?_;rw[zG];have hM:(M++[MO.lst []])[jr]?=some (dT (zCv zA l G)):=by rw[zWs hrl];exact hr
 have hL:(M++[MO.lst []])[M.length]?=some (.lst (([]:List Int).map D.int)):=by simp
 have hlk:zH (zCv zA l G) p=none:=by rw[zFf,zW3 h]
 have et:tst (fOp (zBV false) (zC 4) (zC 1)) [some (mD zA),some (.ref jr),some (tI p),some (.ref M.length),some (tI p),none] (M++[MO.lst []])=some (false,M++[MO.lst []]):=by
  have:=zM (k:=zBV false) (f:=zC 4) (g:=zC 1) (σ:=[some (mD zA),some (.ref jr),some (tI p),some (.ref M.length),some (tI p),none]) (x:=.dat (tI p)) (y:=.dat (.ref jr)) rfl rfl (zL4 hM);rw[zW3 (by decide),hlk]at this;exact zv this
 refine zCW (I:=λz σ M'=>z=0/\σ=[some (mD zA),some (.ref jr),some (tI p),some (.ref M.length),some (tI p),none]/\M'=M++[.lst []]) ?_ 1000 0 _ _ (by omega) ⟨rfl,rfl,rfl⟩;rintro z σ M' ⟨rfl,rfl,rfl⟩;refine zE et ?_;exact zAU (d:=tI []) (zA7 (f:=zC 3) rfl (ze hL)) ⟨rfl,_,rfl⟩
theorem zK9 (m:IsM zA l) (o:zC6 zA G) (hR:zA.length<=26) (hr:M[jr]?=some (dT (zCv zA l G))) (hp:p∈zg (zO zA)) :
  Ok (zBh [mD zA,.ref jr,tI p] M) λd M'=>(∃ w:List Int,d=tI w) /\ ∃ us,M'=M++us:=by
 by_cases h:p∈zCA zA l G
 .obtain ⟨_,n,hn⟩:=zBq.mp h;obtain ⟨w,c⟩:=zE8 (n+1) hn;refine Ok.mono (zMs m o hR hr (zCt p hp) c) ?_;rintro d M' ⟨rfl,us⟩;exact ⟨⟨w,rfl⟩,us⟩
 .refine Ok.mono (zJe hr h) ?_;rintro d M' ⟨rfl,us⟩;exact ⟨⟨[],rfl⟩,us⟩
def zCe:FS:=(zAM (zh [2,3] (zq (zK zAa (zD (toD (zK zAO (zD (toD (zC 0)) zF))) zF))) (zCK 2 3) (tst (fOp kNe (fOp kIx (zC 1) (zC 2)) (fOp kIx (zC 1) (zC 3)))) (zA6 (zD (toD (zC 2)) (zD (toD (zC 3)) zF)))))
def zBI:FF:=zBE 4 zCe
theorem zMS (h:∀ o r:Nat,o<r->r<n->(bad [(o:Int),(r:Int)] ↔ bad' [(o:Int),(r:Int)])):zCR bad n=zCR bad' n:=by
 unfold zCR;refine List.map_congr_left λr hr=>?_;have hrn:=zXP.mp hr;have e:okL bad r=okL bad' r:=by
  unfold okL;refine List.filter_congr λo ho=>?_;have:=zXP.mp ho;rw[decide_eq_decide];by_cases z:o=r
  .simp[z]
  .rw[h o r (by omega) hrn]
 unfold zHV;rw[e]
theorem zF7 (hR:zA.length<=26) (hP:P.length=zA.length) :
  Ok (zBI [mD zA,tI P] M) λd M'=>∃ ps:List (List Int),d=.ref (M.length+1)/\M'=M++[.lst ((zg (zO zA)).map tI)]++[.lst (ps.map tI)]/\(∀ p∈ps,p∈zg (zO zA))/\ps.length<=676:=by
 unfold zBI;rw[zw];unfold zCe;have hrl:(zO zA).length=zA.length:=by unfold zO;simp
 have epr:=zEs (xs:=zO zA) (by omega) (M:=M);have ei:zq (zK zAa (zD (toD (zK zAO (zD (toD (zC 0)) zF))) zF)) [some (mD zA),some (tI P),none,none] M=_:=zFJ (zf (d:=tI (zO zA)) (zy (zf (d:=mD zA) rfl) (zD3 (by omega)))) epr (zY _ _);have hPl:=zEJ hR;have ef:=zCC (own:=[2,3]) (g:=zCK 2 3) (tc:=tst (fOp kNe (fOp kIx (zC 1) (zC 2)) (fOp kIx (zC 1) (zC 3)))) (te:=zA6 (zD (toD (zC 2)) (zD (toD (zC 3)) zF))) (zg (zO zA)) tI tI (λp=> !decide (P.getD (p.getD 0 0).toNat 0=P.getD (p.getD 1 0).toNat 0)) ei (.inl (zY _ _)) (by omega) (λp hp=>by
  obtain ⟨a,b,rfl,ha,hb,_⟩:=zA4.mp hp;obtain ⟨a0,a1⟩:=zCX.mp ha;obtain ⟨b0,b1⟩:=zCX.mp hb;refine ⟨[some (mD zA),some (tI P),some (.int a),some (.int b)],rfl,?_,λ_=>zL2 (zk (d:=.int a) rfl (zf (d:=.int b) rfl)) (by simp)⟩;exact zv (zM (x:=.dat (.int (P.getD a.toNat 0))) (y:=.dat (.int (P.getD b.toNat 0))) (zM (x:=.dat (tI P)) (y:=.dat (.int a)) rfl rfl (zBK zAG (zCE a0 (by omega)))) (zM (x:=.dat (tI P)) (y:=.dat (.int b)) rfl rfl (zBK zAG (zCE b0 (by omega)))) (zW (zUR.mpr ⟨by simp,rfl⟩))))
 rw[zAn];refine zE ef (zd ?_);exact ⟨_,by simp,rfl,λp hp=>(zXw.mp hp).1,zXC (zY5 _ _) hPl⟩
def zCa:FS:=(zQ (zi 1 (zK zBO (zD (toD (zC 0)) (zD (toD (fB zF1 (zU (zK zE6 (zD (toD (zC 0)) zF)) zj))) zF))))
  (zQ (zi 2 (zK zBl (zD (toD (zC 0)) (zD (toD (zC 1)) zF))))
  (zQ (zi 3 (zK zCh (zD (toD (zC 0)) (zD (toD (zC 1)) zF))))
  (zAM (zA6 (zD (toD (zC 2)) (zD (toD (fB zAI (zU (zh [4] (zq (zK zBI (zD (toD (zC 0)) (zD (toD (zC 2)) zF)))) (gN 4) zn (zK zBh (zD (toD (zC 0)) (zD (toD (zC 3)) (zD (toD (zC 4)) zF))))) zj))) zF)))))))
def zAz:FF:=zDI (zBE 5 zCa)
def zHK:FS:=(zAM (fOp kIx (zK zAz (zD (toD (zC 0)) zF)) (fC (.int 0))))
def zDu:FF:=zDI (zBE 1 zHK)
theorem zHb (h:p∈zAw zA l):p∈zg (zO zA):=(zXw.mp h).1
theorem zGL (m:IsM zA l) (hR:zA.length<=26) (hl:l<=12) :
  ∃ ws:List (List Int),zAz [mD zA] M=some (.tup [tI (zBo (zCR (λp=>∃ k,Rch zA l (· ∈ zAw zA l) p k) zA.length)),.tup (ws.map tI)],M):=by
 suffices h:Ok (zAz [mD zA] M) λd M'=>M'=M /\ ∃ ws:List (List Int),d=.tup [tI (zBo (zCR (λp=>∃ k,Rch zA l (· ∈ zAw zA l) p k) zA.length)),.tup (ws.map tI)] by
  obtain ⟨d,M',e,rfl,ws,rfl⟩:=h;exact ⟨ws,e⟩
 unfold zAz;refine zCT ?_ ?_
 .unfold D.unds D.unds;rw[zCj];rfl
 rw[zw];unfold zCa;rw[zG,zR];refine zAX.mpr (zAL.mpr (zE (a:=mD zA) (M:=[]) rfl (zAL.mpr (zAe.mpr (zLx.mpr (zCo.mpr (zE (zy (zf (d:=mD zA) rfl) (zPI m hR hl)) (zDk.mpr ((zQs (zAG)).mpr (zd (zAi.mpr ?_)))))))))));have nd:(zAw zA l).Nodup:=(zFD (zFw zA)).filter _;have hal:(zAw zA l).length<=676:=zXC (zY5 _ _) (zEJ hR);have oa:zC6 zA (· ∈ zAw zA l):=.inr λt ht hin=>by
  obtain ⟨a,b,rfl,_⟩:=zA4.mp (zHb hin);cases ht
 refine Ok.mono (zEU m oa hR hl (zY _ _) nd (λt=>⟨λh=>⟨zCt t (zHb h),h⟩,λh=>h.2⟩) (by omega)) ?_;rintro d M1 ⟨jf,rfl,_,⟨fd,h2,_,sp⟩,_,_⟩;rw[zI,zL];rw[zG,zR];refine zAX.mpr (zE (zk (d:=mD zA) rfl (zf (d:=.ref jf) rfl)) (Ok.mono (zII hR h2) ?_));have hjf:=(zWo.mp h2).1;rintro d M2 ⟨rfl,h3,fr2⟩;have ecl:zCR (λp=>(zH fd p).isSome=true) zA.length=zCR (λp=>∃ k,Rch zA l (· ∈ zAw zA l) p k) zA.length:=zMS λo r ho hr=>by
  constructor
  .intro z;cases e:zH fd [(o:Int),(r:Int)] with
   |none=>rw[e]at z;cases z
   |some d=>
    obtain ⟨_,n,hn,_⟩:=(sp _ _).mp e;exact ⟨n,hn.1⟩
  .rintro ⟨k,hk⟩;obtain ⟨n,_,hn⟩:=zEr k hk;rw[(sp _ _).mpr ⟨zCt _ (zCs.mpr (by omega)),n,hn,rfl⟩];rfl
 rw[ecl];have hNl:(zBo (zCR (λp=>∃ k,Rch zA l (· ∈ zAw zA l) p k) zA.length)).length=zA.length:=by rw[zDw];unfold zCR;simp
 generalize zBo (zCR (λp=>∃ k,Rch zA l (· ∈ zAw zA l) p k) zA.length)=N at hNl ⊢;rw[zI,zL];rw[zG,zR];refine zAX.mpr (zE (zk (d:=mD zA) rfl (zf (d:=.ref jf) rfl)) (Ok.mono (zKu m hR hl ((fr2 jf hjf).trans h2) sp) ?_));rintro d M3 ⟨jr,us,rfl,rfl,_,h4⟩;rw[zI,zL];generalize M2++us=A at h4 ⊢;rw[zAn];refine zQa.mpr (zAL.mpr (zE (a:=tI N) (M:=A) rfl (zAL.mpr (zAe.mpr (zLx.mpr (zCo.mpr (zB2.mpr ?_)))))));obtain ⟨d,A1,e1,ps,rfl,eA1,hps,hpl⟩:=zF7 hR hNl (M:=A);have hA1:A1[A.length+1]?=some (.lst (ps.map tI)):=by
  have:=zY (A++[MO.lst ((zg (zO zA)).map tI)]) (MO.lst (ps.map tI));rw[zW1,List.length_singleton]at this;rw[eA1];exact this
 have hr1:A1[jr]?=some (dT (zCv zA l (· ∈ zAw zA l))):=by
  rw[eA1,zXr,zWs (zWo.mp h4).1];exact h4
 refine ⟨_,_,_,zFJ (ds:=[mD zA,tI N]) (zk (d:=mD zA) rfl (zf (d:=tI N) rfl)) e1 hA1,by rw[zWu];exact zX (by omega),?_⟩;refine Ok.mono (zBn (I:=λr acc M'=>(∃ us,M'=A1++us) /\ ∃ (vs:Ya) (ws:Ya),r=vs.map tI/\(∀ p∈vs,p∈zg (zO zA))/\acc=ws.map tI/\ws.length+vs.length=ps.length) (Q:=λacc M'=>∃ ws:List (List Int),acc=ws.map tI/\ws.length=ps.length) ?_ ?_ _ [] _ ⟨⟨[],by simp⟩,ps,[],rfl,hps,rfl,by simp⟩) ?_
 .rintro x r acc M' ⟨⟨us,rfl⟩,vs,ws,hr,hv,rfl,hc⟩;cases vs with
  |nil=>cases hr
  |cons p vs=>
   rw[zW4]at hr;obtain ⟨rfl,rfl⟩:=zXp hr;have up:∀ {j:Nat} {u:MO},A1[j]?=some u->(A1++us)[j]?=some u:=λ{j u} h=>by rw[zWs (zWo.mp h).1];exact h
   refine ⟨.inl (up hA1),[some (mD zA),some (.ref jf),some (tI N),some (.ref jr),some (tI p)],rfl,⟨true,_,rfl,?_⟩⟩;dsimp only;rw[zW0 rfl];refine zAX.mpr (zE (zk (d:=mD zA) rfl (zk (d:=.ref jr) rfl (zf (d:=tI p) rfl))) (Ok.mono (zK9 m oa hR (up hr1) (hv p zWz)) ?_));rintro d M4 ⟨⟨w,rfl⟩,us2,rfl⟩;rw[zI];exact ⟨⟨us++us2,by simp⟩,vs,ws++[w],rfl,λq hq=>hv q (zWy _ hq),by simp,by simp at hc ⊢;omega⟩
 .rintro acc M' ⟨⟨us,rfl⟩,vs,ws,hr,_,rfl,hc⟩;have:vs=[]:=by cases vs with|nil=>rfl|cons _ _=>cases hr
  subst this;exact ⟨.inl (by rw[zWs (zWo.mp hA1).1];exact hA1),ws,rfl,by simpa using hc⟩
 .rintro ys M5 ⟨ws,e,hwl⟩;rw[List.nil_append]at e;subst e;refine zDk.mpr ((zES zBU).mpr ?_);rw[zI,zAi];refine ⟨zX (by simp),?_⟩;rw[zI];refine ⟨?_,rfl,ws,rfl⟩;unfold D.und D.unds D.unds D.unds;rw[show D.und 0 (tI N)=true from zAb N,show D.und 0 (.tup (ws.map tI))=true from zNV 0 ws];rfl
theorem zOL (m:IsM zA l) (hR:zA.length<=26) (hl:l<=12) :
  zDu [mD zA] M=some (tI (zBo (zCR (λp=>∃ k,Rch zA l (· ∈ zAw zA l) p k) zA.length)),M):=by
 refine zW ?_;unfold zDu;refine zCT ?_ ?_
 .unfold D.unds D.unds;rw[zCj];rfl
 rw[zw];unfold zHK;obtain ⟨ws,e⟩:=zGL m hR hl (M:=[]);generalize zBo (zCR (λp=>∃ k,Rch zA l (· ∈ zAw zA l) p k) zA.length)=N at e ⊢;exact zAU (d:=tI N) (zM (x:=.dat (.tup [tI N,.tup (ws.map tI)])) (y:=.dat (.int 0)) (zy (zf (d:=mD zA) rfl) e) rfl (zBK zAG rfl)) ⟨zAb N,rfl,rfl⟩
end Lad
namespace Lad
open PySem PySem.Spec PyProof.Rows L2 L3 ST Law Lac
def Mt (zA:Ya) (l:Nat) (a b:Int):Prop:=∃ w:List Int,(∀ x∈w,0<=x/\x<(l:Int))/\zAt zA a w=zAt zA b w
def Stb (zA:Ya) (l:Nat) (a b:Int):Prop:=∀ w:List Int,(∀ x∈w,0<=x/\x<(l:Int))->Mt zA l (zAt zA a w) (zAt zA b w)
theorem zGR (zA:Ya) (a:Int) (v w:Ye):zAt zA a (v++w)=zAt zA (zAt zA a v) w:=by unfold zAt;rw[List.foldl_append]
theorem Mt.of (e:a=b):Mt zA l a b:=⟨[],⟨λ_ h=>(by cases h),e⟩⟩
theorem Mt.refl (a:Int):Mt zA l a a:=Mt.of rfl
theorem Mt.symm (h:Mt zA l a b):Mt zA l b a:=let ⟨w,h1,h2⟩:=h;⟨w,h1,h2.symm⟩
theorem Stb.symm (h:Stb zA l a b):Stb zA l b a:=λw hw=>(h w hw).symm
theorem Stb.refl (a:Int):Stb zA l a a:=λw hw=>Mt.refl _
theorem Stb.trans (h:Stb zA l a b) (g:Stb zA l b c):Stb zA l a c:=λw hw=>by
 obtain ⟨v,hv,e⟩:=h w hw;have hwv:∀ x∈w++v,0<=x/\x<(l:Int):=λx hx=>(zXB.mp hx).elim (hw x) (hv x);obtain ⟨u,hu,e2⟩:=g (w++v) hwv;refine ⟨v++u,λx hx=>(zXB.mp hx).elim (hv x) (hu x),?_⟩;rw[zGR,zGR]at e2;rw[zGR,zGR,e,e2]
theorem zHh (m:IsM zA l):∀ (w:Ye) {a:Int},0<=a/\a<(zA.length:Int)->(∀ x∈w,0<=x/\x<(l:Int))->0<=zAt zA a w/\zAt zA a w<(zA.length:Int)
 |[],a,h,_=>h
 |x::w,a,h,hw=>by
  have hx:=hw x zWz;exact zHh m w (m.step h.1 h.2 hx.1 hx.2) λy hy=>hw y (zWy _ hy)
theorem zNM (h:a<b) (w:Ye):broR zA [a,b] w=ris [zAt zA a w,zAt zA b w]:=zGl (by simpa using h) w
theorem zNB (h:a<b) (w:Ye):One (broR zA [a,b] w) ↔ zAt zA a w=zAt zA b w:=by
 rw[zNM h];exact zM6
theorem zPv (hp:[a,b]∈zg (zO zA)):[a,b]∈zAw zA l ↔ ¬ Mt zA l a b:=by
 have hab:=(zCs.mp hp).2.2;unfold zAw;rw[zXw];constructor
 .rintro ⟨_,h⟩ ⟨w,hw,e⟩;have h:=zXh h;apply h;have r:Rch zA l One [a,b] w.length:=⟨w,rfl,hw,(zNB hab w).mpr e⟩;obtain ⟨k,_,hk⟩:=zEr _ r;refine zBq.mpr ⟨hp,?_⟩;cases k with
  |zero=>exact absurd (zBk.mp hk) (by unfold Lac.One;simp)
  |succ k=>exact ⟨k,hk⟩
 .intro h;refine ⟨hp,zXt λz=>h ?_⟩;obtain ⟨_,n,hn⟩:=zBq.mp z;obtain ⟨w,_,hw,g⟩:=hn.1;exact ⟨w,hw,(zNB hab w).mp g⟩
theorem zRC (ne:u≠v):ris [u,v]=zE5 u v:=(zNm ne).symm
theorem Mt.pair:(∀ a b,zE5 u v=[a,b] -> ¬ Mt zA l a b) ↔ ¬ Mt zA l u v:=by
 unfold zE5;constructor
 .intro h z;by_cases q:v<u
  .exact h v u (by rw[zW0 q,zW3 (by omega)]) z.symm
  .by_cases q2:v>u
   .exact h u v (by rw[zW3 q,zW0 q2]) z
   .exact h u u (by rw[zW3 q,zW3 q2]) (Mt.refl _)
 .intro h a b e z;injection e with e1 e2
  injection e2 with e2 _
  subst e1;subst e2;by_cases q:v<u
  .rw[zW0 q,zW3 (by omega)]at z;exact h z.symm
  .rw[zW3 q]at z;by_cases q2:v>u
   .rw[zW0 q2]at z;exact h z
   .have:u=v:=by omega
    subst this;exact h (Mt.refl _)
def Rk (zA:Ya) (l:Nat) (p:Ye):Prop:=∃ k,Rch zA l (· ∈ zAw zA l) p k
theorem zMC (m:IsM zA l) (hp:[a,b]∈zg (zO zA)):Rk zA l [a,b] ↔ ¬ Stb zA l a b:=by
 obtain ⟨ha,hb,hab⟩:=zCs.mp hp;have key:∀ w:List Int,(∀ x∈w,0<=x/\x<(l:Int))->(broR zA [a,b] w∈zAw zA l ↔ ¬ Mt zA l (zAt zA a w) (zAt zA b w)):=λw hw=>by
  rw[zNM hab];have ua:=zHh m w ha hw;have ub:=zHh m w hb hw;by_cases e:zAt zA a w=zAt zA b w
  .constructor
   .intro h;obtain ⟨c,d,e2,_⟩:=zA4.mp (zHb h);have:=zM6.mpr e;rw[e2]at this;simp at this
   .intro h;exact absurd (Mt.of e) h
  .rw[zRC e];have hin:=zQo (zA:=zA) ua ub e;rw[<-Mt.pair];obtain ⟨c,d,e2,_⟩:=zA4.mp hin;rw[e2]at hin ⊢;rw[zPv hin];constructor
   .rintro h x y e3;injection e3 with e3 e4
    injection e4 with e4 _
    subst e3;subst e4;exact h
   .exact λh=>h c d rfl
 constructor
 .rintro ⟨k,w,_,hw,g⟩ s;exact (key w hw).mp g (s w hw)
 .intro h;apply Classical.byContradiction;intro z;apply h;intro w hw;apply Classical.byContradiction;intro z2;exact z ⟨w.length,w,rfl,hw,(key w hw).mpr z2⟩
theorem zP0 (r:Nat):∃ b:Nat,zHV bad r=(b:Int)/\b∈okL bad r /\ ∀ y∈okL bad r,b<=y:=by
  obtain ⟨b,hb,hm⟩:∃ b,b∈okL bad r /\ ∀ y∈okL bad r,b<=y:=by
    have hr:r∈okL bad r:=zGU.mpr ⟨zWr _,.inl rfl⟩;generalize okL bad r=L at hr;induction L generalizing r with
    |nil=>cases hr
    |cons x xs ih=>
      cases xs with
      |nil=>exact ⟨x,zWz,λy hy=>Nat.le_of_eq (show y=x by simpa using hy).symm⟩
      |cons z zs=>
        obtain ⟨b,hb,hm⟩:=ih z zWz;by_cases q:x<=b
        . refine ⟨x,zWz,λy hy=>?_⟩
          rcases zWx.mp hy with e|e
          .omega
          .have:=hm y e;omega
        . refine ⟨b,zWy _ hb,λy hy=>?_⟩
          rcases zWx.mp hy with e|e
          .omega
          .exact hm y e
  exact ⟨b,zIL hb hm,hb,hm⟩
theorem zSK {bad:Yq} {E:Int->Int->Prop} {n:Nat} (er:∀ a,E a a) (es:∀ {a b},E a b->E b a) (et:∀ {a b c},E a b->E b c->E a c) (h:∀ o r:Nat,o<r->r<n->(bad [(o:Int),(r:Int)] ↔ ¬ E o r)) {o r:Nat} (ho:o<r) (hr:r<n):zHV bad o=zHV bad r ↔ E o r:=by
 have mem:∀ {y k:Nat},k<n->(y∈okL bad k ↔ y<=k/\E y k):=λ{y k} hk=>by
  rw[zGU];constructor
  .rintro ⟨h1,h2|h2⟩
   .exact ⟨h1,by rw[h2];exact er _⟩
   .refine ⟨h1,?_⟩;rcases zX7 y k with q|q
    .exact Classical.byContradiction λz=>h2 ((h y k q hk).mpr z)
    .have:y=k:=by omega
     rw[this];exact er _
  .rintro ⟨h1,h2⟩;refine ⟨h1,?_⟩;rcases zX7 y k with q|q
   .exact .inr λz=>(h y k q hk).mp z h2
   .exact .inl (by omega)
 obtain ⟨b,e1,b1,b2⟩:=zP0 (bad:=bad) o;obtain ⟨c,e2,c1,c2⟩:=zP0 (bad:=bad) r;have b3:=(mem (by omega)).mp b1;have c3:=(mem hr).mp c1;rw[e1,e2];constructor
 .intro e;have e:b=c:=by omega
  subst e;exact et (es b3.2) c3.2
 .intro e;have h1:c<=b:=c2 b ((mem hr).mpr ⟨by omega,et b3.2 e⟩);have h2:b<=c:=by
   rcases zX7 o c with q|q
   .omega
   .exact b2 c ((mem (by omega)).mpr ⟨q,et c3.2 (es e)⟩)
  omega
theorem zKd (hi:i<xs.length) (hj:j<xs.length):(zBo xs).getD i 0=(zBo xs).getD j 0 ↔ xs.getD i 0=xs.getD j 0:=by
 unfold zBo;have g:∀ {k:Nat} (hk:k<xs.length),(xs.map λx=>((zJ xs).idxOf x:Int)).getD k 0=((zJ xs).idxOf (xs.getD k 0):Int):=λ{k} hk=>by
  rw[zWq,zWq,zW8,zWp hk];rfl
 have mm:∀ {k:Nat} (hk:k<xs.length),xs.getD k 0∈zJ xs:=λ{k} hk=>by
  rw[zAZ,zWq,zWp hk];exact zXJ hk
 rw[g hi,g hj];constructor
 .intro e;have e:(zJ xs).idxOf (xs.getD i 0)=(zJ xs).idxOf (xs.getD j 0):=by omega
  have h1:=List.getElem_idxOf (List.idxOf_lt_length_of_mem (mm hi));have h2:=List.getElem_idxOf (List.idxOf_lt_length_of_mem (mm hj));rw[<-h1,<-h2];simp only[e]
 .intro e;rw[e]
abbrev stN (zA:Ya) (l:Nat):List Int:=zBo (zCR (λp=>∃ k,Rch zA l (· ∈ zAw zA l) p k) zA.length)
theorem zNa (h:k<n):(zCR bad n).getD k 0=zHV bad k:=by
 unfold zCR;rw[zWq,zW8,zYp h];rfl
theorem zRt {zA:Ya} {l:Nat} (m:IsM zA l) {a b:Int} (hp:[a,b]∈zg (zO zA)):(stN zA l).getD a.toNat 0=(stN zA l).getD b.toNat 0 ↔ ¬ Rk zA l [a,b]:=by
 obtain ⟨ha,hb,hab⟩:=zCs.mp hp;have cl:∀ {bad:Yq},(zCR bad zA.length).length=zA.length:=λ{bad}=>by unfold zCR;simp
 rw[zKd (by rw[cl];omega) (by rw[cl];omega),zNa (by omega),zNa (by omega)];have:=zSK (bad:=λp=>∃ k,Rch zA l (λx=>x∈zAw zA l) p k) (E:=Stb zA l) (n:=zA.length) Stb.refl (λh=>h.symm) (λh g=>h.trans g) (λo r ho hr=>zMC m (zCs.mpr (by omega))) (show a.toNat<b.toNat by omega) (show b.toNat<zA.length by omega);rw[this,zMC m hp,Int.toNat_of_nonneg ha.1,Int.toNat_of_nonneg hb.1];exact ⟨λh z=>z h,λh=>Classical.byContradiction h⟩
end Lad
namespace Lad
open PySem PySem.Spec PyProof.Rows L2 L3 ST Law Lac
abbrev pg (P:Ye) (a:Int):Int:=P.getD a.toNat 0
structure Prt (P:Ye) (K:Nat):Prop where
 k0:0<K
 lt:∀ a:Nat,a<P.length->0<=P.getD a 0/\P.getD a 0<(K:Int)
 on:∀ j:Nat,j<K -> ∃ a:Nat,a<P.length/\P.getD a 0=(j:Int)
theorem zNQ (hk:k<xs.length):(zBo xs).getD k 0=((zJ xs).idxOf (xs.getD k 0):Int):=by
 unfold zBo;rw[zWq,zWq,zW8,zWp hk];rfl
theorem zDT {xs:Ye} (hk:k<xs.length):xs.getD k 0∈xs:=by
 rw[zWq,zWp hk];exact zXJ hk
theorem zND {xs:Ye} (h:0<xs.length):Prt (zBo xs) (zJ xs).length:=by
 have h0:=(zAZ xs _).mpr (zDT h);refine ⟨zZx h0,λa ha=>?_,λj hj=>?_⟩
 .rw[zDw]at ha;rw[zNQ ha];have:=zQi ((zAZ xs _).mpr (zDT ha));omega
 .have hm:(zJ xs).getD j 0∈xs:=(zAZ xs _).mp (zDT hj);obtain ⟨a,ha,e⟩:=zYo hm;refine ⟨a,by rw[zDw];exact ha,?_⟩;rw[zNQ ha,zWq,zWp ha];show ((zJ xs).idxOf xs[a]:Int)=_;rw[e,zPK (zCN xs) hj]
def crw (P r:Ye):List Int:=r.map (pg P)
def zB4 (zA:Ya) (P:Ye) (K:Nat):List (List Int):=(List.range K).map λ(j:Nat)=>crw P (zA.getD (P.idxOf (j:Int)) [])
theorem zE2 (zA:Ya) (P:Ye) (K:Nat):(zB4 zA P K).length=K:=by unfold zB4;simp
theorem zRr {zA:Ya} {P:Ye} {K j:Nat} (h:j<K):(zB4 zA P K).getD j []=crw P (zA.getD (P.idxOf (j:Int)) []):=by
 unfold zB4;rw[zWq,zW8,zYp h];rfl
theorem zMD {P:Ye} {K:Nat} (p:Prt P K) {j:Nat} (h:j<K):P.idxOf (j:Int)<P.length/\P.getD (P.idxOf (j:Int)) 0=(j:Int):=by
 obtain ⟨a,ha,e⟩:=p.on j h;have hm:(j:Int)∈P:=by rw[<-e];exact zDT ha
 have hlt:=zQi hm;refine ⟨hlt,?_⟩;rw[zWq,zWp hlt];exact List.getElem_idxOf hlt
section
variable {zA:Ya} {l:Nat} {P:Ye} {K:Nat}
theorem zMy (p:Prt P K) (hP:P.length=zA.length) (ha:0<=a/\a<(zA.length:Int)):0<=pg P a/\pg P a<(K:Int):=p.lt a.toNat (by omega)
theorem zO8 (m:IsM zA l) (p:Prt P K) (hP:P.length=zA.length):IsM (zB4 zA P K) l:=by
 refine ⟨by rw[zE2];exact p.k0,m.l0,λr hr=>?_⟩;obtain ⟨j,hj,rfl⟩:=zW2.mp hr;obtain ⟨h1,_⟩:=zMD p (zXP.mp hj);have hg:=m.get (h:=(P.idxOf (j:Int):Int)) (by omega) (by omega);rw[zZV]at hg;refine ⟨by unfold crw;rw[zWu];exact hg.1,λg hgm=>?_⟩;obtain ⟨x,hx,rfl⟩:=zW2.mp hgm;rw[zE2];exact zMy p hP (hg.2 x hx)
def Kp (zA:Ya) (l:Nat) (P:Ye):Prop:=∀ a b x:Int,0<=a/\a<(zA.length:Int)->0<=b/\b<(zA.length:Int)->0<=x/\x<(l:Int)->pg P a=pg P b->pg P (zu zA a x)=pg P (zu zA b x)
theorem zQy (m:IsM zA l) (p:Prt P K) (hP:P.length=zA.length) (kp:Kp zA l P) (ha:0<=a/\a<(zA.length:Int)) (hx:0<=x/\x<(l:Int)):zu (zB4 zA P K) (pg P a) x=pg P (zu zA a x):=by
 have hl:=zMy p hP ha;obtain ⟨j,hj⟩:∃ j:Nat,pg P a=(j:Int):=⟨(pg P a).toNat,by omega⟩;have hjK:j<K:=by omega
 obtain ⟨h1,h2⟩:=zMD p hjK;have hr:0<=(P.idxOf (j:Int):Int)/\(P.idxOf (j:Int):Int)<(zA.length:Int):=by omega
 have e:=kp _ _ x hr ha hx (by rw[hj];unfold pg;rw[zZV];exact h2);rw[<-e,hj];unfold zu;rw[zZV,zZV,zRr hjK];have hg:=(m.get hr.1 hr.2).1;rw[zZV]at hg;unfold crw;rw[zWq,zW8,zWp (show x.toNat<(zA.getD (P.idxOf (j:Int)) []).length by omega)];rw[zWq (l:=zA.getD (P.idxOf (j:Int)) []),zWp (show x.toNat<(zA.getD (P.idxOf (j:Int)) []).length by omega)];rfl
theorem zJl (m:IsM zA l) (p:Prt P K) (hP:P.length=zA.length) (kp:Kp zA l P):∀ (w:Ye) {a:Int},0<=a/\a<(zA.length:Int)->(∀ x∈w,0<=x/\x<(l:Int))->zAt (zB4 zA P K) (pg P a) w=pg P (zAt zA a w)
 |[],_,_,_=>rfl
 |x::w,a,ha,hw=>by
  have hx:=hw x zWz;show zAt (zB4 zA P K) (zu (zB4 zA P K) (pg P a) x) w=pg P (zAt zA (zu zA a x) w);rw[zQy m p hP kp ha hx];exact zJl m p hP kp w (m.step ha.1 ha.2 hx.1 hx.2) λy hy=>hw y (zWy _ hy)
theorem zRR (m:IsM zA l) (p:Prt P K) (hP:P.length=zA.length) (kp:Kp zA l P) (s:IsS zA S) (hw:∀ x∈w,0<=x/\x<(l:Int)):broR (zB4 zA P K) (ris (S.map (pg P))) w=ris ((broR zA S w).map (pg P)):=by
 rw[zJW,zGl s.pw,zJC,zW9,zW9];congr 1;refine List.map_congr_left λa ha=>?_;exact zJl m p hP kp w (s.mem a ha) hw
end
def zDe:FS:=(zAM (zh [3] (zq (zC 0)) (gN 3) zn (fB zAI (zU (zh [2] (zq (zC 3)) (gN 2) zn (fOp kIx (zC 1) (zC 2))) zj))))
def zBQ:FF:=zBE 4 zDe
def zG6:FS:=(zQ (zi 2 (zK zBQ (zD (toD (zC 0)) (zD (toD (zC 1)) zF))))
  (zAM (fB zAI (zU (zh [3] (zAH (zD (toD (fOp zAo (fB (zCy true) (zU (zC 1) zj)) (fC (.int 1)))) zF)) (gN 3) zn (fOp kIx (zC 2) (zFv (zC 1) (zC 3)))) zj))))
def zDE:FF:=zDI (zBE 4 zG6)
section
variable {zA:Ya} {l:Nat}
theorem zSS:(stN zA l).length=zA.length:=by rw[zDw];unfold zCR;simp
theorem zQT (m:IsM zA l) (ha:0<=a/\a<(zA.length:Int)) (hb:0<=b/\b<(zA.length:Int)):pg (stN zA l) a=pg (stN zA l) b ↔ Stb zA l a b:=by
 have key:∀ {a b:Int},0<=a/\a<(zA.length:Int)->0<=b/\b<(zA.length:Int)->a<b->(pg (stN zA l) a=pg (stN zA l) b ↔ Stb zA l a b):=λ{a b} ha hb h=>by
  have hp:=zCs.mpr ⟨ha,hb,h⟩;rw[zRt m hp,zMC m hp];exact ⟨λh=>Classical.byContradiction h,λh z=>z h⟩
 rcases Int.lt_trichotomy a b with h|h|h
 .exact key ha hb h
 .subst h;exact ⟨λ_=>Stb.refl a,λ_=>rfl⟩
 .exact ⟨λe=>((key hb ha h).mp e.symm).symm,λe=>((key hb ha h).mpr e.symm).symm⟩
theorem Stb.step (h:Stb zA l a b) (hx:0<=x/\x<(l:Int)):Stb zA l (zu zA a x) (zu zA b x):=λw hw=>h (x::w) λy hy=>by
 rcases zWx.mp hy with rfl|z
 .exact hx
 .exact hw y z
theorem zV2 (m:IsM zA l):Kp zA l (stN zA l):=λa b x ha hb hx e=>(zQT m (m.step ha.1 ha.2 hx.1 hx.2) (m.step hb.1 hb.2 hx.1 hx.2)).mpr (((zQT m ha hb).mp e).step hx)
def stK (zA:Ya) (l:Nat):Nat:=(zJ (zCR (λp=>∃ k,Rch zA l (· ∈ zAw zA l) p k) zA.length)).length
theorem zUM (m:IsM zA l):Prt (stN zA l) (stK zA l):=zND (by unfold zCR;rw[zWu,zYi];exact m.r0)
theorem zH7 (m:IsM zA l) (hR:zA.length<=1000) (hl:l<=1000) (hp:p.length=zA.length):zBQ [mD zA,tI p] M=some (.ref M.length,M++[.lst ((zA.map (crw p)).map λr=>D.tup (r.map D.int))]):=by
 have key:zh [3] (zq (zC 0)) (gN 3) zn (fB zAI (zU (zh [2] (zq (zC 3)) (gN 2) zn (fOp kIx (zC 1) (zC 2))) zj)) [some (mD zA),some (tI p),none,none] M=some (.fl ((zA.map (crw p)).map λr=>D.tup (r.map D.int)),M):=by
  refine (zAh zA (λr=>D.tup (r.map D.int)) (λr=> .tup ((crw p r).map D.int)) (zDc rfl) trivial (by omega) λr hr=>⟨_,rfl,?_⟩).trans ?_
  .obtain ⟨h1,h2⟩:=m.row r hr;refine (zA7 (zAh r D.int (λg=> .int (p.getD g.toNat 0)) (zDc rfl) trivial (by omega) λg hg=>⟨_,rfl,?_⟩) zBU).trans ?_
   .exact zM (x:=.dat (tI p)) (y:=.dat (.int g)) rfl rfl (zBK zAG (zCE (h2 g hg).1 (by rw[hp];exact (h2 g hg).2)))
   .unfold crw;rw[zW9];rfl
  .rw[zW9];rfl
 suffices h:Ok (zBQ [mD zA,tI p] M) λd M'=>d=.ref M.length/\M'=M++[.lst ((zA.map (crw p)).map λr=>D.tup (r.map D.int))] by
  obtain ⟨d,M',e,rfl,rfl⟩:=h;exact e
 unfold zBQ;rw[zw];unfold zDe;rw[zAn];exact zE key (zd ⟨rfl,rfl⟩)
theorem zPm {P:Ye} {K:Nat} (p:Prt P K) {f:FE} {σ:Sd} {M:Mem} (hf:f σ M=some (.dat (tI P),M)):fB (zCy true) (zU f zj) σ M=some (.dat (.int ((K:Int)-1)),M):=by
 have k0:=p.k0;cases P with
 |nil=>obtain ⟨a,ha,_⟩:=p.on 0 k0;cases ha
 |cons x r=>
  obtain ⟨h1,h2⟩:=zCn true r x;have e:zCY true x r=(K:Int)-1:=by
   obtain ⟨j,hj,ej⟩:=zYo h1;have q1:=p.lt j hj;rw[zWq,zWp hj]at q1;simp only[Option.getD_some]at q1;rw[ej]at q1;obtain ⟨a,ha,ea⟩:=p.on (K-1) (by omega);have q2:=h2 _ (zDT ha);rw[ea]at q2;simp only[if_true]at q2;omega
  unfold fB zU zj;rw[hf];unfold zCy;show (match zAd ((x::r).map D.int) with|some (n::ns)=>some (EV.dat (.int (zCY true n ns)),M)|_=>none)=_;rw[zBL];dsimp only;rw[e]
theorem zOo {P:Ye} {K:Nat} (m:IsM zA l) (hR:zA.length<=26) (hl:l<=12) (p:Prt P K) (hK:K<=1000) (hP:P.length=zA.length) {M:Mem}:zDE [mD zA,tI P] M=some (mD (zB4 zA P K),M):=by
 have k0:=p.k0;refine zW ?_;unfold zDE;refine zCT ?_ ?_
 .unfold D.unds D.unds D.unds;rw[zCj];simp[tI,zAb]
 rw[zw];unfold zG6;rw[zG,zR];refine zAX.mpr (zE (zk (d:=mD zA) rfl (zf (d:=tI P) rfl)) (zE (zH7 m (by omega) (by omega) hP) ?_));rw[zI,zL];show OkS (zAM _ [some (mD zA),some (tI P),some (.ref 0),none] [.lst ((zA.map (crw P)).map λr=>D.tup (r.map D.int))]) _;have er:=zFe (f:=fOp zAo (fB (zCy true) (zU (zC 1) zj)) (fC (.int 1))) (σ:=[some (mD zA),some (tI P),some (.ref 0),none]) (M:=[.lst ((zA.map (crw P)).map λr=>D.tup (r.map D.int))]) (j:=(K:Int)) (zM (x:=.dat (.int ((K:Int)-1))) (y:=.dat (.int 1)) (zPm p rfl) rfl (by show some (EV.dat (.int ((K:Int)-1+1)),_)=_;rw[show (K:Int)-1+1=(K:Int) by omega])) (by omega) (by omega);rw[show (K:Int).toNat=K by omega]at er;have ec:=zAh (own:=[3]) (g:=gN 3) (te:=fOp kIx (zC 2) (zFv (zC 1) (zC 3))) (List.range K) (λ(k:Nat)=>D.int k) (λ(k:Nat)=>D.tup ((crw P (zA.getD (P.idxOf (k:Int)) [])).map D.int)) er trivial (by rw[zYi];omega) λk hk=>by
  obtain ⟨h1,h2⟩:=zMD p (zXP.mp hk);have hm:(k:Int)∈P:=by rw[<-h2];exact zDT h1
  refine ⟨[some (mD zA),some (tI P),some (.ref 0),some (.int (k:Int))],rfl,zM (x:=.dat (.ref 0)) (y:=.dat (.int (P.idxOf (k:Int)))) rfl (zR7 (xs:=P) rfl rfl hm) (zBK (xs:=(zA.map (crw P)).map λr=>D.tup (r.map D.int)) rfl (zRH ?_))⟩;rw[zW8,zW8,zWq,zWp (show P.idxOf (k:Int)<zA.length by omega)];rfl
 refine zAU (d:=mD (zB4 zA P K)) ((zA7 ec zBU).trans ?_) ⟨zCj _,rfl,rfl⟩;rw[show mD (zB4 zA P K)=.tup ((List.range K).map λ(k:Nat)=>D.tup ((crw P (zA.getD (P.idxOf (k:Int)) [])).map D.int)) by unfold mD zB4;rw[zW9];rfl]
end
theorem zKf {M:Mem} {ow:Ye} (hz:many<=1000) (hl:ow.length=many) (ej:M[j]?=some (.lst (ow.map D.int))) (hg:g∈ow) :
  Ok (zh [6] (zAH (zD (toD (zC 4)) zF)) (gN 6) (tst (fOp kEq (fOp kIx (zC 5) (zC 6)) (zC 11))) (zC 6) [a0,a1,a2,a3,some (.int many),some (.ref j),a6,a7,a8,a9,a10,some (.int g),a12] M) λx M'=>M'=M /\ ∃ c:List Int,x=.fl (c.map D.int)/\c≠[]/\c.length<=many /\ ∀ y∈c,(0<=y/\y<(many:Int))/\ow.getD y.toNat 0=g:=by
 refine zB2.mpr ⟨_,_,_,zBj (j:=(many:Int)) rfl (by omega) (by omega),by rw[zBX];exact zX (by omega),?_⟩;rw[show (many:Int).toNat=many by omega];refine Ok.mono (zBn (I:=λr acc M2=>M2=M /\ ∃ (i:Nat) (c:Ye),i<=many/\r=zBu i (many-i)/\acc=c.map D.int/\c.length<=i/\(∀ y∈c,(0<=y/\y<(many:Int))/\ow.getD y.toNat 0=g) /\ ∀ r,r<i->ow.getD r 0=g->c≠[]) (Q:=λacc M2=>M2=M /\ ∃ c:List Int,acc=c.map D.int/\c≠[]/\c.length<=many /\ ∀ y∈c,(0<=y/\y<(many:Int))/\ow.getD y.toNat 0=g) ?_ ?_ _ [] _ ⟨rfl,0,[],zXX _,by simp,rfl,by simp,(λ_ h=>by cases h),λr h=>by omega⟩) ?_
 .rintro x r acc M2 ⟨rfl,i,c,hi,e,rfl,hcl,hc,hne⟩;have hlt:i<many:=by
   rcases zX7 i many with z|z
   .exact z
   .rw[show many-i=0 by omega]at e;cases e
  rw[show many-i=(many-(i+1))+1 by omega]at e;obtain ⟨rfl,rfl⟩:=zXp e;refine ⟨zAE,_,rfl,?_⟩;have hat:atI (ow.map D.int) ((i:Nat):Int)=some (.int (ow.getD i 0)):=by
   have:=zCE (r:=ow) (g:=((i:Nat):Int)) (by omega) (by omega);rw[zZV]at this;exact this
  refine zE (M:=M2) (a:=decide (ow.getD i 0=g)) (zv (zM (x:=.dat (.int (ow.getD i 0))) (y:=.dat (.int g)) (zM (x:=.dat (.ref j)) (y:=.dat (.int ((i:Nat):Int))) rfl rfl (zBK (ze ej) hat)) rfl (zW (zGG.mpr ⟨rfl,rfl⟩)))) ?_;by_cases he:ow.getD i 0=g
  .rw[zW0 (by simpa using he)];refine zE (M:=M2) (a:=.dat (.int ((i:Nat):Int))) rfl ?_;rw[zI];refine ⟨rfl,i+1,c++[((i:Nat):Int)],hlt,rfl,by simp,by simp;omega,λy hy=>?_,λ_ _ _=>by simp⟩;rcases zXB.mp hy with q|q
   .exact hc y q
   .have:y=((i:Nat):Int):=by simpa using q
    subst this;exact ⟨by omega,by rw[zZV];exact he⟩
  .rw[zW3 (by simpa using he)];refine ⟨rfl,i+1,c,hlt,rfl,rfl,by omega,hc,λr hr hq=>?_⟩;rcases zX7 r i with z|z
   .exact hne r z hq
   .have:r=i:=by omega
    subst this;exact absurd hq he
 .rintro acc M2 ⟨rfl,i,c,hi,e,rfl,hcl,hc,hne⟩;have:i=many:=by
   rcases zX7 i many with z|z
   .rw[show many-i=(many-(i+1))+1 by omega]at e;cases e
   .omega
  subst this;obtain ⟨q,hq,eq⟩:=List.mem_iff_getElem.mp hg;exact ⟨zAE,rfl,c,rfl,hne q (by omega) (by rw[zWq,zWp hq];exact eq),hcl,hc⟩
 .rintro ys M2 ⟨rfl,c,e,h⟩;rw[List.nil_append]at e;exact ⟨rfl,c,by rw[e],h⟩
theorem zPZ {base zA:Ya} {ow us q:Ye} {o:Int} (hl:zA.length=us.length) (h:∀ i:Nat,i<us.length->(zA.getD i []).map (pg ow)=base.getD (us.getD i 0).toNat []) (hq:base.getD o.toNat []=q.map (pg ow)) :
  ∀ i:Nat,i<(us++[o]).length->((zA++[q]).getD i []).map (pg ow)=base.getD ((us++[o]).getD i 0).toNat []:=by
 intro i hi;rw[zW1,List.length_singleton]at hi;rcases zX7 i us.length with z|z
 .have:=h i z;rw[zWq (l:=zA++[q]),zWs (by omega),zWq (l:=us++[o]),zWs z,<-zWq,<-zWq];exact this
 .have:i=us.length:=by omega
  subst this;rw[zWq (l:=zA++[q]),zXv (by omega),zWq (l:=us++[o]),zXv (zWr _)];rw[hl,Nat.sub_self];exact hq.symm
theorem zUi {base zA:Ya} {ow:Ye} (hr:∀ q∈zA,q.length=l) (hl:zA.length=ow.length) (h:∀ i:Nat,i<zA.length->(zA.getD i []).map (pg ow)=base.getD (ow.getD i 0).toNat []):Kp zA l ow:=by
 have key:∀ a x:Int,0<=a/\a<(zA.length:Int)->0<=x/\x<(l:Int)->pg ow (zu zA a x)=(base.getD (pg ow a).toNat []).getD x.toNat 0:=λa x ha hx=>by
  have hi:a.toNat<zA.length:=by omega
  have hq:=hr (zA.getD a.toNat []) (by rw[zWq,zWp hi];exact zXJ hi);show _=(base.getD (ow.getD a.toNat 0).toNat []).getD x.toNat 0;rw[<-h a.toNat hi];have hx':x.toNat<(zA.getD a.toNat []).length:=by omega
  show pg ow ((zA.getD a.toNat []).getD x.toNat 0)=_;generalize zA.getD a.toNat []=q at hx';rw[zWq,zWq,zW8,zWp hx'];rfl
 intro a b x ha hb hx e;rw[key a x ha hx,key b x hb hx,e]
theorem zMq {M:Mem} (h:Gen M n k) (hm:9<=most) (hm1:most<=900) (hl:0<lm) (hl1:lm<=900) :
  Ok (zBm [.ref n,.int most,.int lm] M) λd M'=>∃ zA l j ow,d=.tup [mD zA,.ref j]/\IsM zA l/\(zA.length:Int)<=most/\(l:Int)<=lm/\M'[j]?=some (.lst ((ow:Ye).map D.int))/\ow.length=zA.length/\Kp zA l ow/\M.length<=j/\Nw M M' n k:=by
 obtain ⟨hn,hk⟩:=h.lt;unfold zBm;rw[zw];unfold zDd;show OkS (zQ _ _ [some (.ref n),some (.int most),some (.int lm),none,none,none,none,none,none,none,none,none,none] M) _;rw[zG,zR];refine zAX.mpr (zE (zk rfl (zk rfl (zf rfl))) ?_);refine Ok.mono (zHZ h (by decide) (by decide) hl hl1) ?_;rintro d M1 ⟨⟨base,l,rfl,mb,hB,hL⟩,nw1⟩;have b0:=mb.r0;have l0:=mb.l0;have hB':base.length<=8:=by omega
 rw[zI,zL,zG,zR];refine zBR.mpr (zE (zAy rfl) ?_);refine zAQ nw1.gen rfl (zM (x:=.dat (.int (most+1))) (zM rfl rfl rfl) (zAy rfl) rfl) (by omega) (by omega) λex M2 x0 x1 nw2 _=>zGh.mpr ?_;rw[zI,zL,zG,zR];have nw2':=nw1.trans nw2;obtain ⟨many,hmany⟩:∃ many:Nat,(base.length:Int)+ex=(many:Int):=⟨((base.length:Int)+ex).toNat,by omega⟩;rw[hmany];have mB:base.length<=many:=by omega
 have mM:(many:Int)<=most:=by omega
 have elr:zCi (fB zAu (zU (zC 3) zj)) [some (.ref n),some (.int most),some (.int lm),some (mD base),some (.int many),none,none,none,none,none,none,none,none] M2=some (.fl (((List.range base.length).map λ(k:Nat)=>(k:Int)).map D.int),M2):=by
  unfold zCi;rw[zAy (zA:=base) rfl];dsimp only;rw[zW0 ⟨by omega,by omega⟩,zGX,show (base.length:Int).toNat=base.length by omega]
 refine zBR.mpr (zE elr ?_);refine Ok.mono (zKH nw2'.gen (few:=base.length) (many:=(many:Int)-base.length) (by omega) (by omega) (by omega) (by omega) (zM rfl (zAy rfl) rfl) (λ_ _=>rfl) (λ_ _=>zAy rfl)) ?_;rintro x M3 ⟨⟨cx,rfl,hcl,hcx⟩,nw3,_⟩;have nw3':=nw2'.trans nw3;refine zMJ rfl rfl (by simp;omega) (zd ?_);rw[<-zXd,zL];generalize how:((List.range base.length).map λ(k:Nat)=>(k:Int))++cx=ow;have owl:ow.length=many:=by rw[<-how];simp;omega
 have owb:∀ x∈ow,0<=x/\x<base.length:=by
  intro x hx;rw[<-how]at hx;rcases zXB.mp hx with q|q
  .obtain ⟨a,ha,rfl⟩:=zW2.mp q;have:=zXP.mp ha;omega
  .exact hcx x q
 have ows:∀ g:Int,0<=g->g<base.length->g∈ow:=by
  intro g g0 g1;rw[<-how];exact zX0 _ (zW2.mpr ⟨g.toNat,zXP.mpr (by omega),by omega⟩)
 have nw4:=nw3'.trans (nw3'.gen.lst (ow.map D.int) (zb _ _));have e5:(M3++[MO.lst (ow.map D.int)])[M3.length]?=some (.lst (ow.map D.int)):=zY _ _;have hj5:M.length<=M3.length:=nw3'.len;generalize hM4:M3++[MO.lst (ow.map D.int)]=M4 at nw4 e5;generalize M3.length=j5 at e5 hj5;show OkS (zQ _ _ [some (.ref n),some (.int most),some (.int lm),some (mD base),some (.int many),some (.ref j5),none,none,none,none,none,none,none] M4) _;rw[zG,zR];refine zAQ nw4.gen rfl rfl (by omega) (by omega) λtn M5 t0 t1 nw5 _=>?_;rw[zI,zL,zG,zR];have nw5':=nw4.trans nw5;have e5':=nw5.get e5 (by omega) (by omega);obtain ⟨t,ht⟩:∃ t:Nat,tn=(t:Int):=⟨tn.toNat,by omega⟩;subst ht;show Ok (fOp _ _ _ [some (.ref n),some (.int most),some (.int lm),some (mD base),some (.int many),some (.ref j5),none,some (.int (t:Nat)),none,none,none,none,none] M5) _;have s1:=slL (f:=zC 5) (fl:=zAc (zC 7)) (fh:=zBS) (σ:=[some (.ref n),some (.int most),some (.int lm),some (mD base),some (.int many),some (.ref j5),none,some (.int (t:Nat)),none,none,none,none,none]) rfl rfl (zAV e5') (oS (i:=(t:Int)) rfl) rfl;have s2:=slL (f:=zC 5) (fl:=zBS) (fh:=zAc (zC 7)) (σ:=[some (.ref n),some (.int most),some (.int lm),some (mD base),some (.int many),some (.ref j5),none,some (.int (t:Nat)),none,none,none,none,none]) rfl rfl (zAV e5') rfl (oS (i:=(t:Int)) rfl);rw[zNl (by simp;omega)]at s1;rw[zOY (by simp;omega)]at s2;refine zBR.mpr (zE s1 (zE s2 (zMJ rfl rfl (by simp;omega) (zd ?_))));rw[<-List.map_drop,<-List.map_take,<-zXd,zL];have hmem:∀ x,x∈ow.drop t++ow.take t ↔ x∈ow:=λx=>by
  rw[zXB,Or.comm,<-zXB,List.take_append_drop]
 have hlen':(ow.drop t++ow.take t).length=many:=by simp;omega
 generalize ow.drop t++ow.take t=ow2 at hmem hlen';replace owb:∀ x∈ow2,0<=x/\x<base.length:=λx hx=>owb x ((hmem x).mp hx);replace ows:∀ g:Int,0<=g->g<base.length->g∈ow2:=λg g0 g1=>(hmem g).mpr (ows g g0 g1);have nw6:=nw5'.trans (nw5'.gen.lst (ow2.map D.int) (zb _ _));have e6:(M5++[MO.lst (ow2.map D.int)])[M5.length]?=some (.lst (ow2.map D.int)):=zY _ _;have hj6:M.length<=M5.length:=nw5'.len;generalize M5++[MO.lst (ow2.map D.int)]=M6 at nw6 e6;generalize M5.length=j at e6 hj6;show OkS (zQ _ _ [some (.ref n),some (.int most),some (.int lm),some (mD base),some (.int many),some (.ref j),none,some (.int (t:Nat)),none,none,none,none,none] M6) _;rw[zG,zR];refine zDO.mpr (zAi.mpr ⟨zX (by simp),zd ?_⟩);rw[zL];have nw7:=nw6.trans (nw6.gen.lst [] rfl);have e8:(M6++[MO.lst ([]:List D)])[M6.length]?=some (.lst []):=zY _ _;have hj8:M.length<=M6.length:=nw6.len;have hjlt:j<M6.length:=(zWo.mp e6).1;have e6':(M6++[MO.lst ([]:List D)])[j]?=some (.lst (ow2.map D.int)):=by rw[zWs hjlt];exact e6
 generalize M6++[MO.lst ([]:List D)]=M7 at nw7 e8 e6';generalize M6.length=j8 at e8 hj8 hjlt;show OkS (zQ _ _ [some (.ref n),some (.int most),some (.int lm),some (mD base),some (.int many),some (.ref j),none,some (.int (t:Nat)),some (.ref j8),none,none,none,none] M7) _;rw[zG,zA2];refine ⟨_,_,_,zBN (x:=.dat (.ref j)) rfl (ze e6'),?_⟩;refine zAl (I:=λr σ M'=>(∃ y6 y9 y10 y11 y12,σ=[some (.ref n),some (.int most),some (.int lm),some (mD base),some (.int many),some (.ref j),y6,some (.int (t:Nat)),some (.ref j8),y9,y10,y11,y12]) /\ ∃ (r' us:Ye) (zA:Ya),r=r'.map D.int/\us++r'=ow2/\zA.length=us.length/\(∀ i:Nat,i<us.length->(zA.getD i []).map (pg ow2)=base.getD (us.getD i 0).toNat [])/\(∀ x∈r',x∈ow2)/\zA.length+r'.length=many/\(∀ q∈zA,q.length=l /\ ∀ g∈q,0<=g/\g<(many:Int))/\M'[j]?=some (.lst (ow2.map D.int))/\M'[j8]?=some (.lst (zA.map λr=>D.tup (r.map D.int)))/\Nw M M' n k) ?_ ?_ _ _ _ ⟨⟨_,_,_,_,_,rfl⟩,ow2,[],[],rfl,rfl,rfl,(λ_ h=>by cases h),λ_ h=>h,by simpa using hlen',(λ_ h=>by cases h),e6',e8,nw7⟩
 .rintro x r σ M' ⟨⟨y6,y9,y10,y11,y12,rfl⟩,r',us,zA,hr,hus,hul,hbs,hsub,hrl,hrw,ej,ej8,nw⟩;obtain ⟨o,r'',rfl,rfl,rfl⟩:=zAS hr;refine ⟨.inl ej,_,rfl,?_⟩;obtain ⟨o0,o1⟩:=owb o (hsub o zWz);obtain ⟨bl,bb⟩:=mb.get (h:=o) o0 o1;show OkS (zQ _ _ [some (.ref n),some (.int most),some (.int lm),some (mD base),some (.int many),some (.ref j),y6,some (.int (t:Nat)),some (.ref j8),some (.int o),y10,y11,y12] M') _;rw[zG,zR];refine zDO.mpr (zAi.mpr ⟨zX (by simp),zd ?_⟩);rw[zL];have nwa:=nw.trans (nw.gen.lst [] rfl);have e10:(M'++[MO.lst ([]:List D)])[M'.length]?=some (.lst []):=zY _ _;have hj10:M.length<=M'.length:=nw.len;have l8:j8<M'.length:=(zWo.mp ej8).1;have l5:j<M'.length:=(zWo.mp ej).1;have ej':(M'++[MO.lst ([]:List D)])[j]?=some (.lst (ow2.map D.int)):=by rw[zWs l5];exact ej
  have ej8':(M'++[MO.lst ([]:List D)])[j8]?=some (.lst (zA.map λr=>D.tup (r.map D.int))):=by rw[zWs l8];exact ej8
  generalize M'++[MO.lst ([]:List D)]=Ma at nwa e10 ej' ej8';generalize M'.length=j10 at e10 hj10 l8 l5;show OkS (zQ _ _ [some (.ref n),some (.int most),some (.int lm),some (mD base),some (.int many),some (.ref j),y6,some (.int (t:Nat)),some (.ref j8),some (.int o),some (.ref j10),y11,y12] Ma) _;generalize hrow:base.getD o.toNat []=row at bl bb;rw[zG,zA2];have erow:fOp kIx (zC 3) (zC 9) [some (.ref n),some (.int most),some (.int lm),some (mD base),some (.int many),some (.ref j),y6,some (.int (t:Nat)),some (.ref j8),some (.int o),some (.ref j10),y11,y12] Ma=some (.dat (.tup (row.map D.int)),Ma):=by
   rw[<-hrow];exact zM rfl rfl (zBK zAG (zHY o0 o1))
  refine ⟨_,_,_,zDc erow,?_⟩;refine zAl (I:=λr σ M''=>(∃ y6 y11 y12,σ=[some (.ref n),some (.int most),some (.int lm),some (mD base),some (.int many),some (.ref j),y6,some (.int (t:Nat)),some (.ref j8),some (.int o),some (.ref j10),y11,y12]) /\ ∃ (r' q:Ye),r=r'.map D.int/\q.map (pg ow2)++r'=row/\(∀ x∈r',x∈row)/\q.length+r'.length=l/\(∀ g∈q,0<=g/\g<(many:Int))/\M''[j]?=some (.lst (ow2.map D.int))/\M''[j8]?=some (.lst (zA.map λr=>D.tup (r.map D.int)))/\M''[j10]?=some (.lst (q.map D.int))/\Nw M M'' n k) ?_ ?_ _ _ _ ⟨⟨_,_,_,rfl⟩,row,[],rfl,rfl,λ_ h=>h,by simpa using bl,(λ_ h=>by cases h),ej',ej8',e10,nwa⟩
  .rintro x r σ Mx ⟨⟨y6,y11,y12,rfl⟩,r',q,hr',hqr,hsub',hql,hq,f5,f8,f10,nwx⟩;obtain ⟨g,rr,rfl,rfl,rfl⟩:=zAS hr';refine ⟨zAE,_,rfl,?_⟩;obtain ⟨g0,g1⟩:=bb g (hsub' g zWz);show OkS (zQ _ _ [some (.ref n),some (.int most),some (.int lm),some (mD base),some (.int many),some (.ref j),y6,some (.int (t:Nat)),some (.ref j8),some (.int o),some (.ref j10),some (.int g),y12] Mx) _;rw[zG,zR];refine Ok.mono (zKf (by omega) hlen' f5 (ows g g0 g1)) ?_;rintro x M9 ⟨rfl,c,rfl,hne,hcz,hc⟩;refine zd ?_;rw[zL,zBY];have nwb:=nwx.trans (nwx.gen.lst (c.map D.int) (zb _ _));have e12:(M9++[MO.lst (c.map D.int)])[M9.length]?=some (.lst (c.map D.int)):=zY _ _;have p5:j<M9.length:=(zWo.mp f5).1;have p8:j8<M9.length:=(zWo.mp f8).1;have p10:j10<M9.length:=(zWo.mp f10).1;have f5':(M9++[MO.lst (c.map D.int)])[j]?=some (.lst (ow2.map D.int)):=by rw[zWs p5];exact f5
   have f8':(M9++[MO.lst (c.map D.int)])[j8]?=some (.lst (zA.map λr=>D.tup (r.map D.int))):=by rw[zWs p8];exact f8
   have f10':(M9++[MO.lst (c.map D.int)])[j10]?=some (.lst (q.map D.int)):=by rw[zWs p10];exact f10
   have hj12:M.length<=M9.length:=nwx.len;generalize M9++[MO.lst (c.map D.int)]=Mb at nwb e12 f5' f8' f10';generalize M9.length=j12 at e12 hj12 p5 p8 p10;show Ok (fM _ _ _ [some (.ref n),some (.int most),some (.int lm),some (mD base),some (.int many),some (.ref j),y6,some (.int (t:Nat)),some (.ref j8),some (.int o),some (.ref j10),some (.int g),some (.ref j12)] Mb) _;have hcl0:0<c.length:=List.length_pos_iff.mpr hne;have elen:fB zAu (zU (zC 12) zj) [some (.ref n),some (.int most),some (.int lm),some (mD base),some (.int many),some (.ref j),y6,some (.int (t:Nat)),some (.ref j8),some (.int o),some (.ref j10),some (.int g),some (.ref j12)] Mb=some (.dat (.int c.length),Mb):=by
    have:=zHk (f:=zC 12) (σ:=[some (.ref n),some (.int most),some (.int lm),some (mD base),some (.int many),some (.ref j),y6,some (.int (t:Nat)),some (.ref j8),some (.int o),some (.ref j10),some (.int g),some (.ref j12)]) (M:=Mb) rfl (ze e12);rw[zWu]at this;exact this
   refine zGP.mpr (zAJ.mpr ⟨_,rfl,⟨_,zAV f10'⟩,zAL.mpr (zAe.mpr (zBR.mpr (zAJ.mpr ⟨_,rfl,?_⟩)))⟩);refine zAQ nwb.gen rfl elen (by omega) (by omega) λz Mc z0 z1 nwc _=>?_;have h12:=nwc.get e12 (by omega) (by omega);refine zTr (ze h12) (zCE z0 z1) ?_;obtain ⟨hcv,hcv2⟩:=hc (c.getD z.toNat 0) (by rw[zWq,zWp (by omega)];exact zXJ _);have h5:=nwc.get f5' (by omega) (by omega);have h8:=nwc.get f8' (by omega) (by omega);have h10:=nwc.get f10' (by omega) (by omega);generalize c.getD z.toNat 0=v at hcv hcv2;have hcv2:pg ow2 v=g:=hcv2;have hql':q.length<l:=by simp at hql;omega
   rw[zI,zAi,zB8 h10 (by rw[zWu];exact zXA (m:=95000) (by omega) (zX (by omega)))];refine ⟨⟨_,_,_,rfl⟩,rr,q++[v],rfl,by rw[<-hqr,zXd,<-hcv2];simp,λx hx=>hsub' x (zWy _ hx),by simp at hql ⊢;omega,λx hx=>?_,?_,?_,?_,?_⟩
   .rcases zXB.mp hx with w|w
    .exact hq x w
    .have:x=v:=by simpa using w
     subst this;exact hcv
   .rw[zXF (by omega)];exact h5
   .rw[zXF (by omega)];exact h8
   .rw[zXf (zWo.mp h10).1,zXd];rfl
   .refine (nwb.trans nwc).setB h (by omega) ?_;show D.unds _ _=true;rw[zFF,zb];rfl
  .rintro σ Mx ⟨⟨y6,y11,y12,rfl⟩,r',q,hr',hqr,hsub',hql,hq,f5,f8,f10,nwx⟩;have:r'=[]:=by cases r' with|nil=>rfl|cons _ _=>cases hr'
   subst this;refine ⟨zAE,?_⟩;rw[zL,zBY];have et:fB zAI (zU (zC 10) zj) [some (.ref n),some (.int most),some (.int lm),some (mD base),some (.int many),some (.ref j),y6,some (.int (t:Nat)),some (.ref j8),some (.int o),some (.ref j10),y11,y12] Mx=some (.dat (.tup (q.map D.int)),Mx):=zA7 (x:=.dat (.ref j10)) rfl (ze f10);refine zGP.mpr (zAJ.mpr ⟨_,rfl,⟨_,zAV f8⟩,zE (zf et) ?_⟩);have hrl':zA.length<many:=by simp at hrl;omega
   rw[zB8 f8 (by rw[zWu];exact zXA (m:=95000) (by omega) (zX (by omega)))];refine ⟨⟨_,_,_,_,_,rfl⟩,r'',us++[o],zA++[q],rfl,by rw[<-hus];simp,by simp[hul],zPZ hul hbs (by rw[hrow,<-hqr];simp),λx hx=>hsub x (zWy _ hx),by simp at hrl ⊢;omega,λx hx=>?_,?_,?_,?_⟩
   .rcases zXB.mp hx with w|w
    .exact hrw x w
    .have:x=q:=by simpa using w
     subst this;exact ⟨by simpa using hql,hq⟩
   .rw[zXF (by omega)];exact f5
   .rw[zXf (zWo.mp f8).1,zXd];rfl
   .refine nwx.setB h hj8 ?_;show D.unds _ _=true;rw[zFF,zRI];simp[D.unds,zAb]
 .rintro σ M' ⟨⟨y6,y9,y10,y11,y12,rfl⟩,r',us,zA,hr,hus,hul,hbs,hsub,hrl,hrw,ej,ej8,nw⟩;have:r'=[]:=by cases r' with|nil=>rfl|cons _ _=>cases hr
  subst this;refine ⟨.inl ej,?_⟩;rw[zL];have hrl':zA.length=many:=by simpa using hrl
  refine zAU (zL2 (zk (d:=mD zA) (zA7 (x:=.dat (.ref j8)) rfl (ze ej8)) (zf (d:=.ref j) rfl)) (by simp)) ⟨zA,l,j,ow2,rfl,⟨by omega,l0,λq hq=>?_⟩,by omega,hL,ej,by omega,zUi (base:=base) (λq hq=>(hrw q hq).1) (by rw[<-hus];simp[hul]) (by rw[zXV]at hus;subst hus;rw[hul];exact hbs),hj6,nw⟩;obtain ⟨q1,q2⟩:=hrw q hq;exact ⟨q1,λg hg=>by rw[hrl'];exact q2 g hg⟩
set_option genInjectivity true in
inductive Eqv (n:Nat) (R:Int->Int->Prop):Int->Int->Prop
 |base {a b:Int}:R a b->Eqv n R a b
 |refl (a:Int):Eqv n R a a
 |symm {a b:Int}:Eqv n R a b->Eqv n R b a
 |trans {a b c:Int}:Eqv n R a b->(0<=b/\b<(n:Int))->Eqv n R b c->Eqv n R a c
theorem Eqv.sub (h:∀ a b,R a b->Eqv n S a b) (e:Eqv n R a b):Eqv n S a b:=by
 induction e with
 |base r=>exact h _ _ r
 |refl a=>exact .refl a
 |symm _ ih=>exact ih.symm
 |trans _ z _ i1 i2=>exact .trans i1 z i2
theorem Eqv.fn {n:Nat} {R:Int->Int->Prop} {f:Int->Int} (h:∀ a b,R a b->f a=f b) {a b:Int} (e:Eqv n R a b):f a=f b:=by
 induction e with
 |base r=>exact h _ _ r
 |refl a=>rfl
 |symm _ ih=>exact ih.symm
 |trans _ z _ i1 i2=>exact i1.trans i2
theorem Eqv.step (m:IsM zA l) (hx:0<=x/\x<(l:Int)) (h:∀ a b,R a b->Eqv zA.length R (zu zA a x) (zu zA b x)) (e:Eqv zA.length R a b):Eqv zA.length R (zu zA a x) (zu zA b x):=by
 induction e with
 |base r=>exact h _ _ r
 |refl a=>exact .refl _
 |symm _ ih=>exact ih.symm
 |trans _ z _ i1 i2=>exact .trans i1 (m.step z.1 z.2 hx.1 hx.2) i2
set_option genInjectivity true in
inductive Rea (zA:Ya) (l:Nat) (ps:Ya):Int->Int->Prop
 |base {a b:Int}:[a,b]∈ps->Rea zA l ps a b
 |step {a b x:Int}:Rea zA l ps a b->(0<=x/\x<(l:Int))->Rea zA l ps (zu zA a x) (zu zA b x)
def InR (n:Nat) (p:Ye):Prop:=∃ a b:Int,p=[a,b]/\(0<=a/\a<(n:Int))/\0<=b/\b<(n:Int)
theorem Rea.inr (m:IsM zA l) (hp:∀ p∈ps,InR zA.length p) (h:Rea zA l ps a b):(0<=a/\a<(zA.length:Int))/\0<=b/\b<(zA.length:Int):=by
 induction h with
 |base h=>
  obtain ⟨a,b,e,z⟩:=hp _ h;cases e;exact z
 |step _ hx ih=>exact ⟨m.step ih.1.1 ih.1.2 hx.1 hx.2,m.step ih.2.1 ih.2.2 hx.1 hx.2⟩
def mrg (c:Ye) (x y:Int):List Int:=c.map λz=>if z=x then y else z
theorem zRd (c:Ye) (x y:Int):(mrg c x y).length=c.length:=by unfold mrg;simp
theorem zFo (h:0<=a/\a<(c.length:Int)):pg (mrg c x y) a=if pg c a=x then y else pg c a:=by
 unfold pg mrg;have:a.toNat<c.length:=by omega
 rw[zWq,zW8,zWq,zWp this];rfl
def Cls (n:Nat) (c:Ye) (R:Int->Int->Prop):Prop:=c.length=n /\ ∀ a b:Int,0<=a/\a<(n:Int)->0<=b/\b<(n:Int)->(pg c a=pg c b ↔ Eqv n R a b)
theorem zS1 {n:Nat} {c:Ye} {R S:Int->Int->Prop} (h:Cls n c R) (hr:∀ a b,R a b->(0<=a/\a<(n:Int))/\0<=b/\b<(n:Int)) {o t:Int} (ho:0<=o/\o<(n:Int)) (ht:0<=t/\t<(n:Int))
  (h1:∀ a b,R a b->S a b) (h2:Eqv n S o t) (h3:∀ a b,S a b->R a b\/(a=o/\b=t)\/(a=t/\b=o)):Cls n (mrg c (pg c t) (pg c o)) S:=by
 obtain ⟨hl,hc⟩:=h;have up:∀ {a b},Eqv n R a b->Eqv n S a b:=λe=>e.sub λa b r=> .base (h1 a b r);have eo:pg (mrg c (pg c t) (pg c o)) o=pg c o:=by rw[zFo (by omega)];split <;> rfl
 have et:pg (mrg c (pg c t) (pg c o)) t=pg c o:=by rw[zFo (by omega),zW0 rfl]
 refine ⟨by rw[zRd,hl],λa b ha hb=>⟨λe=>?_,λe=>?_⟩⟩
 .rw[zFo (by omega),zFo (by omega)]at e;by_cases q1:pg c a=pg c t
  .by_cases q2:pg c b=pg c t
   .exact up ((hc a b ha hb).mp (q1.trans q2.symm))
   .rw[zW0 q1,zW3 q2]at e;exact .trans (up ((hc a t ha ht).mp q1)) ht (.trans h2.symm ho (up ((hc o b ho hb).mp e)))
  .by_cases q2:pg c b=pg c t
   .rw[zW3 q1,zW0 q2]at e;exact .trans (up ((hc a o ha ho).mp e)) ho (.trans h2 ht (up ((hc t b ht hb).mp q2.symm)))
   .rw[zW3 q1,zW3 q2]at e;exact up ((hc a b ha hb).mp e)
 .refine Eqv.fn (f:=pg (mrg c (pg c t) (pg c o))) (λa b r=>?_) e;rcases h3 a b r with z|⟨rfl,rfl⟩|⟨rfl,rfl⟩
  .obtain ⟨ia,ib⟩:=hr a b z;rw[zFo (by omega),zFo (by omega),(hc a b ia ib).mpr (.base z)]
  .rw[eo,et]
  .rw[eo,et]
theorem zOn (n:Nat) {R:Int->Int->Prop} (h:∀ a b,¬ R a b):Cls n ((List.range n).map λ(k:Nat)=>(k:Int)) R:=by
 have e:∀ a:Int,0<=a/\a<(n:Int)->pg ((List.range n).map λ(k:Nat)=>(k:Int)) a=a:=λa ha=>by
  unfold pg;rw[zWq,zW8,zYp (by omega)];show ((a.toNat:Nat):Int)=a;omega
 refine ⟨by simp,λa b ha hb=>⟨λq=>?_,λq=>?_⟩⟩
 .rw[e a ha,e b hb]at q;subst q;exact .refl a
 .exact Eqv.fn (f:=pg _) (λa b r=>absurd r (h a b)) q
theorem Cls.congr (h:Cls n c R) (h1:∀ a b,R a b->Eqv n S a b) (h2:∀ a b,S a b->Eqv n R a b):Cls n c S :=
 ⟨h.1,λa b ha hb=>(h.2 a b ha hb).trans ⟨λe=>e.sub h1,λe=>e.sub h2⟩⟩
theorem zPa (ha:0<=a/\a<(c.length:Int)) (hb:0<=b/\b<(c.length:Int)):pg (zBo c) a=pg (zBo c) b ↔ pg c a=pg c b:=zKd (by omega) (by omega)
theorem zTp (m:IsM zA l) (hl:c.length=zA.length) (h:Kp zA l c):Kp zA l (zBo c):=λa b x ha hb hx e=>by
 rw[zPa (by rw[hl];exact ha) (by rw[hl];exact hb)]at e;rw[zPa (by rw[hl];exact m.step ha.1 ha.2 hx.1 hx.2) (by rw[hl];exact m.step hb.1 hb.2 hx.1 hx.2)];exact h a b x ha hb hx e
theorem zTN (m:IsM zA l) (h:Cls zA.length c (Rea zA l ps)):Kp zA l c:=λa b x ha hb hx e=>
 (h.2 _ _ (m.step ha.1 ha.2 hx.1 hx.2) (m.step hb.1 hb.2 hx.1 hx.2)).mpr (((h.2 a b ha hb).mp e).step m hx λ_ _ r=> .base (r.step hx))
section
variable {zA:Ya} {l:Nat} {ps R:Ya} {i:Nat}
theorem zRD (m:IsM zA l) (ha:0<=a/\a<(zA.length:Int)) (hb:0<=b/\b<(zA.length:Int)):(zA.getD a.toNat []).zip (zA.getD b.toNat [])=(List.range l).map λ(x:Nat)=>(zu zA a (x:Int),zu zA b (x:Int)):=by
 obtain ⟨la,_⟩:=m.get ha.1 ha.2;obtain ⟨lb,_⟩:=m.get hb.1 hb.2;unfold zu;generalize zA.getD a.toNat []=A at la;generalize zA.getD b.toNat []=B at lb;apply List.ext_getElem
 .simp[la,lb]
 .intro i h1 h2;simp at h1 h2;simp[show i<A.length by omega,show i<B.length by omega]
end
end Lad
namespace Lad
open PySem PySem.Spec PyProof.Rows L2 L3 ST Law Lac
theorem zMZ (h:Gen M n k) (h0:0<few) (h1:few<1073741824)
  (hc:∀ M,fc σ M=some (.dat (.ref n),M)) (ha:∀ (x:D) (M:Mem),fa ((zBM own σ).set i (some x)) M=some (.dat (.ref n),M)) (hb:∀ (x:D) (M:Mem),fb ((zBM own σ).set i (some x)) M=some (.dat (.int few),M)) :
  Ok (zh own (zAH (zD (toD (fOp zHW (fC (.int 2)) (zK zT (zD (toD fc) (zD (toD (fC (.int 4))) zF))))) zF)) (gN i) zn (zK zT (zD (toD fa) (zD (toD fb) zF))) σ M) λx M'=>(∃ c:List Int,x=.fl (c.map D.int)/\c.length<=6 /\ ∀ y∈c,0<=y/\y<few)/\Nw M M' n k:=by
 have hq:Ok (fOp zHW (fC (.int 2)) (zK zT (zD (toD fc) (zD (toD (fC (.int 4))) zF))) σ M) λx M1=>∃ q:Int,x=.dat (.int q)/\0<=q/\q<=6/\Nw M M1 n k:=by
  refine zBR.mpr (zE (M:=M) (a:=.dat (.int 2)) rfl ?_);refine zAQ h (hc _) rfl (by omega) (by omega) λg M1 g0 g1 nw1 _=>?_;exact ⟨.dat (.int (2*g)),M1,rfl,2*g,rfl,by omega,by omega,nw1⟩
 obtain ⟨x,M1,e,q,rfl,q0,q1,nw1⟩:=hq;have e':(zD (toD (fOp zHW (fC (.int 2)) (zK zT (zD (toD fc) (zD (toD (fC (.int 4))) zF))))) zF) σ M=some ([.int q],M1):=zRP e;have er:=zEe e' q0 (by omega);rw[zEw]at er;refine zB2.mpr ⟨_,_,_,er,by rw[zBX];exact zX (by omega),?_⟩;refine Ok.mono (zLr (n:=q.toNat) (I:=λj acc M2=>(∃ c:List Int,acc=c.map D.int/\c.length=j /\ ∀ y∈c,0<=y/\y<few)/\Nw M M2 n k) ?_ ⟨⟨[],rfl,rfl,λ_ h=>by cases h⟩,nw1⟩) ?_
 .rintro j acc M2 hj ⟨⟨c,rfl,hcl,hc⟩,nw⟩;refine ⟨_,rfl,?_⟩;refine zAQ nw.gen (ha _ _) (hb _ _) h0 h1 λg M3 g0 g1 nw3 hl3=>?_;rw[zI];refine ⟨⟨c++[g],by simp,by simp[hcl],λz hz=>?_⟩,nw.trans nw3⟩;rcases zXB.mp hz with q|q
  .exact hc z q
  .have:z=g:=by simpa using q
   subst this;exact ⟨g0,g1⟩
 .rintro ys M2 ⟨⟨c,rfl,hcl,hc⟩,nw⟩;exact ⟨⟨c,rfl,by omega,hc⟩,nw⟩
theorem zN1 (is:Yj) (c:Ye):zA1 is (c.map D.int)=(zA1 is c).map D.int:=by
 unfold zA1;rw[List.map_filterMap];congr 1;funext i;rw[zW8]
theorem zKP (h:x∈zA1 is c):x∈c:=by
 unfold zA1 at h;obtain ⟨i,_,e⟩:=List.mem_filterMap.mp h;exact zXc e
theorem zKy (is:Yj) (c:Ye):(zA1 is c).length<=is.length:=by
 unfold zA1;exact List.length_filterMap_le _ _
theorem zRT:∀ n,n<=6->(zDZ none (some 2) n).length<=10/\(zDZ (some 1) (some 2) n).length<=10:=by decide
theorem zR0 {σ:Sd} {M:Mem} {f:FE} {j n:Nat} {c:Ye} (hl:c.length<=6) (hn:∀ x∈c,0<=x/\x<(n:Int)) (hf:∀ M,f σ M=some (.dat (.ref j),M)) (hj:M[j]?=some (.lst (c.map D.int))) :
  ∃ (ps:Ya) (us:Mem),zEW (zD (toD (zIC f zBS (zAc (fC (.int 2))))) (zD (toD (zIC f (zAc (fC (.int 1))) (zAc (fC (.int 2))))) zF)) σ M=some (.fl (ps.map tI),M++us)/\ps.length<=10/\(∀ p∈ps,InR n p) /\ ∀ u∈us,MO.und 0 u=true:=by
 obtain ⟨l1,l2⟩:=zRT c.length hl;have hjl:=(zWo.mp hj).1;have st:∀ (lo:Ys) (fl:FO) (M:Mem),M[j]?=some (.lst (c.map D.int))->(zDZ lo (some 2) c.length).length<=10->(∀ M,fl σ M=some (lo,M))->zIC f fl (zAc (fC (.int 2))) σ M=some (.fl ((zA1 (zDZ lo (some 2) c.length) c).map D.int),M):=λlo fl M e hb hfl=>by
  unfold zIC;rw[hf];dsimp only;rw[hfl];dsimp only;rw[show zAc (fC (.int 2)) σ M=some (some 2,M)from rfl];dsimp only;rw[zAV e];dsimp only;have:=zKy (zDZ lo (some 2) c.length) c;rw[zWu,zN1,zW0 ⟨by decide,by rw[zWu];exact zX (by omega)⟩]
 have s1:=st none zBS M hj l1 (λ_=>rfl);have hj2:(M++[MO.lst ((zA1 (zDZ none (some 2) c.length) c).map D.int)])[j]?=some (.lst (c.map D.int)):=by rw[zWs hjl];exact hj
 have s2:=st (some 1) (zAc (fC (.int 1))) _ hj2 l2 (λ_=>rfl);have m1:∀ x∈zA1 (zDZ none (some 2) c.length) c,0<=x/\x<(n:Int):=λx hx=>hn x (zKP hx);have m2:∀ x∈zA1 (zDZ (some 1) (some 2) c.length) c,0<=x/\x<(n:Int):=λx hx=>hn x (zKP hx);have n1:=zKy (zDZ none (some 2) c.length) c;generalize zA1 (zDZ none (some 2) c.length) c=A at s1 s2 m1 n1;generalize zA1 (zDZ (some 1) (some 2) c.length) c=B at s2 m2;refine ⟨(A.zip B).map λq=>[q.1,q.2],[.lst (A.map D.int),.lst (B.map D.int)],?_,?_,λp hp=>?_,λu hu=>?_⟩
 .unfold zEW;rw[aC' (zM5 s1) (aC' (zM5 s2) rfl)];have e1:zAF (M++[MO.lst (A.map D.int)]++[MO.lst (B.map D.int)]) (.dat (.ref M.length))=some (A.map D.int):=ze (by rw[zWs (by simp)];exact zY _ _);have e2:zAF (M++[MO.lst (A.map D.int)]++[MO.lst (B.map D.int)]) (.dat (.ref (M++[MO.lst (A.map D.int)]).length))=some (B.map D.int):=ze (zY _ _);dsimp only;rw[e1,e2];dsimp only;rw[zW0 (zX (by simp;omega)),List.zip_map,zW9,zW9,zXr];rfl
 .simp;omega
 .obtain ⟨⟨a,b⟩,hq,rfl⟩:=zW2.mp hp;obtain ⟨ha,hb⟩:=List.of_mem_zip hq;exact ⟨a,b,rfl,m1 a ha,m2 b hb⟩
 .rcases zWx.mp hu with z|z
  .subst z;exact zb _ _
  .rw[zXD]at z;subst z;exact zb _ _
def zFR:FS:=(zQ (zi 2 (zCi (fB zAu (zU (zC 0) zj))))
  (zQ (zi 3 (fB zF1 (zU (zC 1) zj)))
  (zQ (zBb (zKw (zC 3)) (zQ (zH0 (zCK 4 5) (zIf (zC 3)))
  (zQ (zH0 (zCK 6 7) (zA6 (zD (toD (fOp kIx (zC 2) (zC 4))) (zD (toD (fOp kIx (zC 2) (zC 5))) zF))))
  (sIf (tst (fOp kNe (zC 6) (zC 7))) (zQ (zi 2 (zh [8] (zq (zC 2)) (gN 8) zn (vIf (tst (fOp kEq (zC 8) (zC 6))) (zC 7) (zC 8))))
  (zBF (fM zDP (zC 3) (zD (toD (zEW (zD (toD (fOp kIx (zC 0) (zC 4))) (zD (toD (fOp kIx (zC 0) (zC 5))) zF)))) zF)))) zAv))) 1000)
  (zAM (zK zBe (zD (toD (zC 2)) zF))))))
def zDL:FF:=zDI (zBE 9 zFR)
structure KI (zA:Ya) (l:Nat) (ps E due:Ya) (c:Ye):Prop where
 cls:Cls zA.length c (λa b=>[a,b]∈E)
 re:∀ g∈E,∃ a b,g=[a,b]/\Rea zA l ps a b
 rd:∀ g∈due,∃ a b,g=[a,b]/\Rea zA l ps a b
 st:∀ a b x:Int,[a,b]∈E->0<=x/\x<(l:Int)->Eqv zA.length (λa b=>[a,b]∈E) (zu zA a x) (zu zA b x)\/[zu zA a x,zu zA b x]∈due
 pp:∀ a b:Int,[a,b]∈ps->Eqv zA.length (λa b=>[a,b]∈E) a b\/[a,b]∈due
section
variable {zA:Ya} {l:Nat} {ps E due:Ya} {c:Ye}
theorem zPF {ps:Ya} (hp:∀ p∈ps,InR zA.length p):KI zA l ps [] ps ((List.range zA.length).map λ(k:Nat)=>(k:Int)) :=
 ⟨zOn _ (λa b h=>by cases h),(λg h=>by cases h),λg hg=>by obtain ⟨a,b,rfl,_⟩:=hp g hg;exact ⟨a,b,rfl,.base hg⟩,(λa b x h=>by cases h),λa b h=> .inr h⟩
theorem zTc (m:IsM zA l) (h:KI zA l ps E [] c):Cls zA.length c (Rea zA l ps):=by
 refine h.cls.congr (λa b e=>?_) λa b r=>?_
 .obtain ⟨a',b',q,r⟩:=h.re _ e;cases q;exact .base r
 .induction r with
  |base q=>exact (h.pp _ _ q).elim id λz=>by cases z
  |step _ hx ih=>exact ih.step m hx λa b e=>(h.st a b _ e hx).elim id λz=>by cases z
theorem zSb {g:Ye} {a b:Int} (h:KI zA l ps E (due++[[a,b]]) c) (e:Eqv zA.length (λa b=>[a,b]∈E) a b):KI zA l ps E due c:=by
 have key:∀ u v:Int,(Eqv zA.length (λa b=>[a,b]∈E) u v\/[u,v]∈due++[[a,b]])->Eqv zA.length (λa b=>[a,b]∈E) u v\/[u,v]∈due:=λu v z=>by
  rcases z with z|z
  .exact .inl z
  .rcases zXB.mp z with z|z
   .exact .inr z
   .rw[zXD]at z;cases z;exact .inl e
 exact ⟨h.cls,h.re,λg hg=>h.rd g (zX0 _ hg),λu v x hu hx=>key _ _ (h.st u v x hu hx),λu v hu=>key _ _ (h.pp u v hu)⟩
theorem zSh (m:IsM zA l) (hp:∀ p∈ps,InR zA.length p) {a b:Int} (h:KI zA l ps E (due++[[a,b]]) c):KI zA l ps (E++[[a,b]]) (due++(List.range l).map λ(x:Nat)=>[zu zA a (x:Int),zu zA b (x:Int)]) (mrg c (pg c a) (pg c b)):=by
 obtain ⟨a',b',q,rab⟩:=h.rd [a,b] (by simp);cases q;obtain ⟨ia,ib⟩:=rab.inr m hp;have up:∀ {u v},Eqv zA.length (λa b=>[a,b]∈E) u v->Eqv zA.length (λu v=>[u,v]∈E++[[a,b]]) u v:=λe=>e.sub λ_ _ z=> .base (zX0 _ z);have key:∀ u v:Int,(Eqv zA.length (λa b=>[a,b]∈E) u v\/[u,v]∈due++[[a,b]])->Eqv zA.length (λu v=>[u,v]∈E++[[a,b]]) u v\/[u,v]∈due++(List.range l).map λ(x:Nat)=>[zu zA a (x:Int),zu zA b (x:Int)]:=λu v z=>by
  rcases z with z|z
  .exact .inl (up z)
  .rcases zXB.mp z with z|z
   .exact .inr (zX0 _ z)
   .rw[zXD]at z;cases z;exact .inl (.base (by simp))
 refine ⟨zS1 h.cls (λu v z=>?_) ib ia (λu v z=>zX0 _ z) (Eqv.symm (.base (by simp))) λu v z=>?_,λg hg=>?_,λg hg=>?_,λu v x hu hx=>?_,λu v hu=>key u v (h.pp u v hu)⟩
 .obtain ⟨u',v',q,r⟩:=h.re _ z;cases q;exact r.inr m hp
 .rcases zXB.mp z with z|z
  .exact .inl z
  .rw[zXD]at z;cases z;exact .inr (.inr ⟨rfl,rfl⟩)
 .rcases zXB.mp hg with z|z
  .exact h.re g z
  .rw[zXD]at z;subst z;exact ⟨a,b,rfl,rab⟩
 .rcases zXB.mp hg with z|z
  .exact h.rd g (zX0 _ z)
  .obtain ⟨x,hx,rfl⟩:=zW2.mp z;have:=zXP.mp hx;exact ⟨_,_,rfl,rab.step (by omega)⟩
 .rcases zXB.mp hu with z|z
  .exact key _ _ (h.st u v x z hx)
  .rw[zXD]at z;cases z;exact .inr (zW5 _ (zW2.mpr ⟨x.toNat,zXP.mpr (by omega),by rw[show ((x.toNat:Nat):Int)=x by omega]⟩))
theorem zOR {c:Ye} {x y:Int} (hx:x∈c) (hy:y∈c) (hne:x≠y):(zJ (mrg c x y)).length+1<=(zJ c).length:=by
 have nd:(x::zJ (mrg c x y)).Nodup:=zX5.mpr ⟨λz=>by
  obtain ⟨w,_,e⟩:=zW2.mp ((zAZ _ _).mp z);by_cases q:w=x
  .rw[zW0 q]at e;exact hne e.symm
  .rw[zW3 q]at e;exact q e,zCN _⟩
 have:=zEz _ (zJ c) nd λz hz=>by
  rw[zAZ];rcases zWx.mp hz with rfl|hz
  .exact hx
  .obtain ⟨w,hw,e⟩:=zW2.mp ((zAZ _ _).mp hz);by_cases q:w=x
   .rw[zW0 q]at e;rw[<-e];exact hy
   .rw[zW3 q]at e;rw[<-e];exact hw
 simpa using this
end
abbrev kbS (zA:Ya) (ps:Ya) (J:Nat) (y4 y5 y6 y7 y8:Option D):Sd:=[some (mD zA),some (.tup (ps.map tI)),some (.ref J),some (.ref 1),y4,y5,y6,y7,y8]
theorem zQ1 {zA:Ya} {l:Nat} (m:IsM zA l) (hR:zA.length<=26) (hl:l<=12) {ps:Ya} (hp:∀ p∈ps,InR zA.length p) (hz:ps.length<=500) :
  OkS (zBb (zKw (zC 3)) (zQ (zH0 (zCK 4 5) (zIf (zC 3)))
  (zQ (zH0 (zCK 6 7) (zA6 (zD (toD (fOp kIx (zC 2) (zC 4))) (zD (toD (fOp kIx (zC 2) (zC 5))) zF))))
  (sIf (tst (fOp kNe (zC 6) (zC 7))) (zQ (zi 2 (zh [8] (zq (zC 2)) (gN 8) zn (vIf (tst (fOp kEq (zC 8) (zC 6))) (zC 7) (zC 8))))
  (zBF (fM zDP (zC 3) (zD (toD (zEW (zD (toD (fOp kIx (zC 0) (zC 4))) (zD (toD (fOp kIx (zC 0) (zC 5))) zF)))) zF)))) zAv))) 1000 (kbS zA ps 0 none none none none none) [.lst (((List.range zA.length).map λ(k:Nat)=>(k:Int)).map D.int),.lst (ps.map tI)])
   λo σ' M'=>o=.nx /\ ∃ J y4 y5 y6 y7 y8 c,σ'=kbS zA ps J y4 y5 y6 y7 y8/\M'[J]?=some (.lst ((c:Ye).map D.int))/\Cls zA.length c (Rea zA l ps):=by
 have h0:ps.length+l*(zJ ((List.range zA.length).map λ(k:Nat)=>(k:Int))).length<1000:=by
  have h1:=zAg ((List.range zA.length).map λ(k:Nat)=>(k:Int));rw[zWu,zYi]at h1;have:=zYN hl (zXC h1 hR);omega
 refine zCW (I:=λk σ M'=>∃ J y4 y5 y6 y7 y8 c E due,k=due.length+l*(zJ (c:Ye)).length/\σ=kbS zA ps J y4 y5 y6 y7 y8/\J≠1/\M'[J]?=some (.lst (c.map D.int))/\M'[1]?=some (.lst (due.map tI))/\due.length+l*(zJ c).length<1000/\KI zA l ps E due c) ?_ 1000 _ _ _ h0 ⟨0,none,none,none,none,none,_,[],ps,rfl,rfl,by omega,rfl,rfl,h0,zPF hp⟩;rintro k σ M' ⟨J,y4,y5,y6,y7,y8,c,E,due,rfl,rfl,hJ1,hJ,hd,hdl,ki⟩;refine zE (M:=M') (a:=!(due.map tI).isEmpty) (zQz (j:=1) rfl hd) ?_;rcases List.eq_nil_or_concat due with rfl|⟨due,g,rfl⟩
 .rw[zW3 (by simp)];exact ⟨rfl,J,y4,y5,y6,y7,y8,c,rfl,hJ,zTc m ki⟩
 .rw[List.concat_eq_append]at hd ki hdl ⊢;rw[zW0 (by simp)];obtain ⟨a,b,rfl,rab⟩:=ki.rd g (by simp);obtain ⟨ia,ib⟩:=rab.inr m hp;have cl:=ki.cls.1;have h1l:1<M'.length:=(zWo.mp hd).1;have ePop:zIf (zC 3) (kbS zA ps J y4 y5 y6 y7 y8) M'=some (.dat (tI [a,b]),M'.set 1 (.lst (due.map tI))):=by
   unfold zIf;rw[show zC 3 (kbS zA ps J y4 y5 y6 y7 y8) M'=some (.dat (.ref 1),M')from rfl];dsimp only;rw[hd];dsimp only;rw[zXd,zW1,zWu,zXv (by simp)];simp
  rw[zG,zGS];refine zE ePop ?_;rw[zI];refine ⟨kbS zA ps J (some (.int a)) (some (.int b)) y6 y7 y8,rfl,?_⟩;have hJ2:(M'.set 1 (.lst (due.map tI)))[J]?=some (.lst (c.map D.int)):=by rw[zXF (Ne.symm hJ1)];exact hJ
  have hd2:(M'.set 1 (.lst (due.map tI)))[1]?=some (.lst (due.map tI)):=zXf h1l;generalize M'.set 1 (.lst (due.map tI))=A at hJ2 hd2;rw[zL,zG,zGS];have iv:∀ {v:Int} {i:Nat} {M:Mem} {y6 y7 y8:Option D},M[J]?=some (.lst (c.map D.int))->0<=v/\v<(zA.length:Int)->zC i (kbS zA ps J (some (.int a)) (some (.int b)) y6 y7 y8) M=some (.dat (.int v),M)->fOp kIx (zC 2) (zC i) (kbS zA ps J (some (.int a)) (some (.int b)) y6 y7 y8) M=some (.dat (.int (pg c v)),M):=λe hv h=>zM (x:=.dat (.ref J)) (y:=.dat (.int _)) rfl h (zBK (ze e) (zCE hv.1 (by rw[cl];exact hv.2)));refine zE (zL2 (zk (iv hJ2 ia rfl) (zf (iv hJ2 ib rfl))) (by simp)) ?_;rw[zI];refine ⟨kbS zA ps J (some (.int a)) (some (.int b)) (some (.int (pg c a))) (some (.int (pg c b))) y8,rfl,?_⟩;rw[zL,zAf];refine zE (M:=A) (a:=!decide (pg c a=pg c b)) (zv (zM (x:=.dat (.int (pg c a))) (y:=.dat (.int (pg c b))) rfl rfl (zW (zUR.mpr ⟨by simp,rfl⟩)))) ?_;rw[zW1,List.length_singleton]at hdl ⊢;by_cases hq:pg c a=pg c b
  .rw[zW3 (by rw[zXt hq];decide),zAK];exact ⟨_,by omega,J,_,_,_,_,_,c,E,due,rfl,rfl,hJ1,hJ2,hd2,by omega,zSb (g:=[]) ki ((ki.cls.2 a b ia ib).mp hq)⟩
  .rw[zW0 (by rw[zXK hq];rfl),zG,zR];have ec:zh [8] (zq (zC 2)) (gN 8) zn (vIf (tst (fOp kEq (zC 8) (zC 6))) (zC 7) (zC 8)) (kbS zA ps J (some (.int a)) (some (.int b)) (some (.int (pg c a))) (some (.int (pg c b))) y8) A=some (.fl ((mrg c (pg c a) (pg c b)).map D.int),A):=by
    refine (zAh c D.int (λz=> .int (if z=pg c a then pg c b else z)) (zBN (x:=.dat (.ref J)) rfl (ze hJ2)) (.inl hJ2) (by omega) λz hz=>⟨kbS zA ps J (some (.int a)) (some (.int b)) (some (.int (pg c a))) (some (.int (pg c b))) (some (.int z)),rfl,?_⟩).trans (by unfold mrg;rw[zW9];rfl);refine zW (zUY.mpr (zE (M:=A) (a:=decide (z=pg c a)) (zv (zM (x:=.dat (.int z)) (y:=.dat (.int (pg c a))) rfl rfl (zW (zGG.mpr ⟨rfl,rfl⟩)))) ?_));by_cases q:z=pg c a
    .rw[zW0 (by simpa using q),zW0 q];exact zE (M:=A) (a:=.dat (.int (pg c b))) rfl ⟨rfl,rfl⟩
    .rw[zW3 (by simpa using q),zW3 q];exact zE (M:=A) (a:=.dat (.int z)) rfl ⟨rfl,rfl⟩
   refine zE ec (zd ?_);rw[zL,zBY];simp only[List.set_cons_succ,List.set_cons_zero];have hal:1<A.length:=(zWo.mp hd2).1;have hd3:(A++[MO.lst ((mrg c (pg c a) (pg c b)).map D.int)])[1]?=some (.lst (due.map tI)):=by rw[zWs hal];exact hd2
   have hJ3:=zY A (MO.lst ((mrg c (pg c a) (pg c b)).map D.int));have hJn:A.length≠1:=by omega
   generalize hB:A++[MO.lst ((mrg c (pg c a) (pg c b)).map D.int)]=B at hd3 hJ3;have hBl:A.length<B.length:=by rw[<-hB];simp
   have ra:=zHY (zA:=zA) ia.1 ia.2;have rb:=zHY (zA:=zA) ib.1 ib.2;have ez:zEW (zD (toD (fOp kIx (zC 0) (zC 4))) (zD (toD (fOp kIx (zC 0) (zC 5))) zF)) [some (mD zA),some (.tup (ps.map tI)),some (.ref A.length),some (.ref 1),some (.int a),some (.int b),some (.int (pg c a)),some (.int (pg c b)),y8] B=some (.fl (((List.range l).map λ(x:Nat)=>[zu zA a (x:Int),zu zA b (x:Int)]).map tI),B):=by
    unfold zEW;rw[zk (d:=.tup ((zA.getD a.toNat []).map D.int)) (zM (x:=.dat (mD zA)) (y:=.dat (.int a)) rfl rfl (zBK zAG ra)) (zf (d:=.tup ((zA.getD b.toNat []).map D.int)) (zM (x:=.dat (mD zA)) (y:=.dat (.int b)) rfl rfl (zBK zAG rb)))];dsimp only;rw[show zAF B (.dat (.tup ((zA.getD a.toNat []).map D.int)))=some ((zA.getD a.toNat []).map D.int)from rfl,show zAF B (.dat (.tup ((zA.getD b.toNat []).map D.int)))=some ((zA.getD b.toNat []).map D.int)from rfl];dsimp only;rw[List.zip_map,zRD m ia ib,zW0 (zX (by simp;omega)),zW9,zW9,zW9];rfl
   have hca:pg c a∈c:=zDT (by omega);have hcb:pg c b∈c:=zDT (by omega);have hcnt:=zOR hca hcb hq;have hmul:=Nat.mul_le_mul_left l hcnt;rw[Nat.mul_add,Nat.mul_one]at hmul;refine zGP.mpr (zAJ.mpr ⟨_,rfl,⟨_,zAV hd3⟩,zE (aC' (zM5 ez) rfl) ?_⟩);have hd4:(B++[MO.lst (((List.range l).map λ(x:Nat)=>[zu zA a (x:Int),zu zA b (x:Int)]).map tI)])[1]?=some (.lst (due.map tI)):=by rw[zWs (by omega)];exact hd3
   refine zE (zOT hd4 (zY _ _) (by simp;omega)) ?_;refine ⟨_,?_,A.length,_,_,_,_,_,mrg c (pg c a) (pg c b),E++[[a,b]],due++(List.range l).map λ(x:Nat)=>[zu zA a (x:Int),zu zA b (x:Int)],rfl,rfl,hJn,?_,?_,?_,zSh m hp ki⟩
   .rw[zW1,zWu,zYi];omega
   .rw[zXF (Ne.symm hJn),zWs hBl];exact hJ3
   .rw[zXf (by simp;omega),zXd]
   .rw[zW1,zWu,zYi];omega
theorem zLg {zA:Ya} {l:Nat} (m:IsM zA l) (hR:zA.length<=26) (hl:l<=12) {ps:Ya} (hp:∀ p∈ps,InR zA.length p) (hz:ps.length<=500) {M:Mem} :
  Ok (zDL [mD zA,.tup (ps.map tI)] M) λd M'=>M'=M /\ ∃ c,d=tI (zBo c)/\Cls zA.length c (Rea zA l ps):=by
 unfold zDL;refine zCT (by unfold D.unds D.unds D.unds;rw[zCj];unfold D.und;rw[zNL];rfl) ?_;rw[zw];unfold zFR;show OkS (zQ _ _ [some (mD zA),some (.tup (ps.map tI)),none,none,none,none,none,none,none] []) _;rw[zG,zR];have elr:zCi (fB zAu (zU (zC 0) zj)) [some (mD zA),some (.tup (ps.map tI)),none,none,none,none,none,none,none] []=some (.fl (((List.range zA.length).map λ(k:Nat)=>(k:Int)).map D.int),[]):=by
  unfold zCi;rw[zAy (zA:=zA) rfl];dsimp only;rw[zW0 ⟨by omega,by omega⟩,zGX,show (zA.length:Int).toNat=zA.length by omega]
 refine zE elr (zd ?_);rw[zL,zG,zR];refine zLx.mpr (zCo.mpr (zAJ.mpr ⟨_,rfl,zDk.mpr ((zQs zAG).mpr (zd ?_))⟩));rw[zL,zG];refine OkS.mono (zQ1 m hR hl hp hz) ?_;rintro o σ' M' ⟨rfl,J,y4,y5,y6,y7,y8,c,rfl,hJ,hc⟩;rw[zL,zAn];refine zAX.mpr (zE (zf (d:=.ref J) rfl) ?_);refine Ok.mono (zFB hJ (by rw[hc.1];omega)) ?_;rintro d M2 ⟨rfl,_,_⟩;rw[zI];exact ⟨zAb _,rfl,c,rfl,hc⟩
def zTY (zA:Ya) (l:Nat) (P:Ye):Prop:=∃ K,Prt P K/\P.length=zA.length/\Kp zA l P
theorem zNc {P:Ye} {K:Nat} (p:Prt P K):(zJ P).length=K:=by
 have h1:=zEz (zJ P) ((List.range K).map λ(k:Nat)=>(k:Int)) (zCN P) λx hx=>by
  obtain ⟨i,hi,rfl⟩:=zYo ((zAZ P x).mp hx);have:=p.lt i hi;rw[zWq,zWp hi]at this;simp only[Option.getD_some]at this;exact zW2.mpr ⟨(P[i]).toNat,zXP.mpr (by omega),by omega⟩
 have nd:((List.range K).map λ(k:Nat)=>(k:Int)).Nodup:=List.Pairwise.map _ (λa b h e=>h (by omega)) List.nodup_range;have h2:=zEz ((List.range K).map λ(k:Nat)=>(k:Int)) (zJ P) nd λx hx=>by
  obtain ⟨k,hk,rfl⟩:=zW2.mp hx;obtain ⟨a,ha,e⟩:=p.on k (zXP.mp hk);rw[zAZ,<-e];exact zDT ha
 simp at h1 h2;omega
theorem zKx (m:IsM zA l) (hl:c.length=zA.length) (h:Kp zA l c):zTY zA l (zBo c) :=
 ⟨_,zND (by rw[hl];exact m.r0),by rw[zDw,hl],zTp m hl h⟩
theorem zSB (m:IsM zA l):zTY zA l (stN zA l):=⟨_,zUM m,zSS,zV2 m⟩
theorem zQ3:Kp zA l ((List.range zA.length).map λ(k:Nat)=>(k:Int)):=λa b x ha hb hx q=>by
 have e:∀ a:Int,0<=a/\a<(zA.length:Int)->pg ((List.range zA.length).map λ(k:Nat)=>(k:Int)) a=a:=λa ha=>by
  unfold pg;rw[zWq,zW8,zYp (by omega)];show ((a.toNat:Nat):Int)=a;omega
 rw[e a ha,e b hb]at q;rw[q]
def zCG:FS:=(zQ (zi 3 (zK zT (zD (toD (zC 0)) (zD (toD (fC (.int 4))) zF))))
  (zQ (sIf (tst (fOp kEq (zC 3) (fC (.int 0)))) (zAM (zK zDu (zD (toD (zC 1)) zF))) zAv)
  (zQ (sIf (tst (fOp kEq (zC 3) (fC (.int 1)))) (zAM (zK zBH (zD (toD (zC 2)) zF))) zAv)
  (zQ (zi 4 (zh [5] (zAH (zD (toD (fOp zHW (fC (.int 2)) (zK zT (zD (toD (zC 0)) (zD (toD (fC (.int 4))) zF))))) zF)) (gN 5) zn (zK zT (zD (toD (zC 0)) (zD (toD (fB zAu (zU (zC 1) zj))) zF)))))
  (zAM (zK zDL (zD (toD (zC 1)) (zD (toD (fB zAI (zU (zEW (zD (toD (zIC (zC 4) zBS (zAc (fC (.int 2))))) (zD (toD (zIC (zC 4) (zAc (fC (.int 1))) (zAc (fC (.int 2))))) zF))) zj))) zF))))))))
def zAj:FF:=zBE 6 zCG
theorem zJw (m:IsM zA l) (hR:zA.length<=26) (hl:l<=12) (g:Gen M n k) (hj:M[j]?=some (.lst (ow.map D.int))) (hjn:j≠n) (hjk:j≠k) (ol:ow.length=zA.length) (kp:Kp zA l ow) :
  Ok (zAj [.ref n,mD zA,.ref j] M) λd M'=>∃ P,d=tI P/\zTY zA l P/\Nw M M' n k:=by
 have r0:=m.r0;unfold zAj;rw[zw];unfold zCG;show OkS (zQ _ _ [some (.ref n),some (mD zA),some (.ref j),none,none,none] M) _;rw[zG,zR];refine zAQ g rfl rfl (by omega) (by omega) λz M1 z0 z1 nw1 _=>?_;rw[zI,zL,zG,zAf];simp only[List.set_cons_succ,List.set_cons_zero];refine zE (M:=M1) (a:=decide (z=0)) (zv (zM (x:=.dat (.int z)) (y:=.dat (.int 0)) rfl rfl (zW (zGG.mpr ⟨rfl,rfl⟩)))) ?_;by_cases h0:z=0
 .rw[zW0 (by simpa using h0)];exact zAU (d:=tI (stN zA l)) (zy (zf (d:=mD zA) rfl) (zOL m hR hl)) ⟨_,rfl,zSB m,nw1⟩
 rw[zW3 (by simpa using h0),zAK,zL,zG,zAf];refine zE (M:=M1) (a:=decide (z=1)) (zv (zM (x:=.dat (.int z)) (y:=.dat (.int 1)) rfl rfl (zW (zGG.mpr ⟨rfl,rfl⟩)))) ?_;by_cases h1:z=1
 .rw[zW0 (by simpa using h1)];exact zAU (d:=tI (zBo ow)) (zy (zf (d:=.ref j) rfl) (zLL nw1.gen.wf (nw1.get hj hjn hjk) (by omega))) ⟨_,rfl,zKx m ol kp,nw1⟩
 rw[zW3 (by simpa using h1),zAK,zL,zG,zR];refine Ok.mono (zMZ nw1.gen (few:=(zA.length:Int)) (by omega) (by omega) (λ_=>rfl) (λ_ _=>rfl) (λ_ _=>zAy rfl)) ?_;rintro x M6 ⟨⟨c,rfl,hc,hcm⟩,nw6⟩;refine zd ?_;rw[zL,zAn];simp only[List.set_cons_succ,List.set_cons_zero];have nw7:=nw6.gen.lst (c.map D.int) (zb _ _);obtain ⟨ps,us,ez,pl,pin,hus⟩:=zR0 (σ:=[some (.ref n),some (mD zA),some (.ref j),some (.int z),some (.ref M6.length),none]) (f:=zC 4) (n:=zA.length) hc hcm (λ_=>rfl) (zY M6 (.lst (c.map D.int)));have nw8:=nw7.gen.app (us:=us) λu hu=>zI2 (zXX _) (hus u hu);have et:fB zAI (zU (zEW (zD (toD (zIC (zC 4) zBS (zAc (fC (.int 2))))) (zD (toD (zIC (zC 4) (zAc (fC (.int 1))) (zAc (fC (.int 2))))) zF))) zj) [some (.ref n),some (mD zA),some (.ref j),some (.int z),some (.ref M6.length),none] (M6++[.lst (c.map D.int)])=some (.dat (.tup (ps.map tI)),M6++[.lst (c.map D.int)]++us):=by
  refine zW (zLx.mpr (zCo.mpr (zE ez (zDk.mpr ((zES zBU).mpr ⟨rfl,rfl⟩)))))
 refine zAX.mpr (zE (aC' (zK6 (d:=mD zA) rfl) (zRP et)) ?_);refine Ok.mono (zLg m hR hl pin (by omega)) ?_;rintro d M10 ⟨rfl,cl,rfl,hcl⟩;rw[zI];exact ⟨_,rfl,zKx m hcl.1 (zTN m hcl),nw1.trans (nw6.trans (nw7.trans nw8))⟩
def zFg:FS:=(zQ (zCD (zq (zC 2)) (gN 3) (zi 1 (fOp kIx (fOp kIx (zC 0) (zC 1)) (zC 3))))
  (zAM (zC 1)))
def zAx:FF:=zBE 4 zFg
def zEn:FS:=(zAM (fB zAI (zU (zh [3] (zAH (zD (toD (zK zT (zD (toD (zC 0)) (zD (toD (fOp zAo (zC 2) (fC (.int 1)))) zF)))) zF)) (gN 3) zn (zK zT (zD (toD (zC 0)) (zD (toD (fB zAu (zU (fOp kIx (zC 1) (fC (.int 0))) zj))) zF)))) zj)))
def zBy:FF:=zBE 4 zEn
def zDA:FS:=(zAM (fB zAI (zU (zFp (zFZ (zh [2] (zq (zC 1)) (gN 2) zn (fOp kIx (zC 0) (zC 2))))) zj)))
def zc:FF:=zBE 3 zDA
def zO6:FS:=(zQ (zi 1 (zK zB6 (zD (toD (zC 0)) zF)))
  (zQ (zCD (zAH (zD (toD (fB zIc (zU (fC (.int 5)) (zU (fOp zAo (fC (.int 1)) (fB zAu (zU (zC 0) zj))) zj)))) zF)) (gN 2) (zQ (zH0 (zCK 3 4) (zK zBm (zD (toD (zC 1)) (zD (toD (fC (.int 26))) (zD (toD (fC (.int 6))) zF)))))
  (zQ (sIf (tst (fOp kEq (zK zT (zD (toD (zC 1)) (zD (toD (fC (.int 2))) zF))) (fC (.int 0)))) (zQ (zi 3 (zK zBC (zD (toD (zC 1)) (zD (toD (fC (.int 26))) (zD (toD (fC (.int 6))) zF)))))
  (zi 4 (zCi (fB zAu (zU (zC 3) zj))))) zAv)
  (zQ (zi 5 (zK zAj (zD (toD (zC 1)) (zD (toD (zC 3)) (zD (toD (zC 4)) zF)))))
  (zQ (zi 6 (zK zDE (zD (toD (zC 3)) (zD (toD (zC 5)) zF))))
  (zQ (zi 7 (zK zBy (zD (toD (zC 1)) (zD (toD (zC 3)) (zD (toD (fC (.int 40))) zF)))))
  (zQ (zCD (zAH (zD (toD (fB zAu (zU (zC 3) zj))) zF)) (gN 8) (zQ (zi 9 (zK zAx (zD (toD (zC 3)) (zD (toD (zC 8)) (zD (toD (zC 7)) zF)))))
  (sIf (zFa (tst (fOp kNe (zK zEV (zD (toD (zC 3)) (zD (toD (zC 8)) (zD (toD (zC 7)) zF)))) (zC 9))) (tst (fOp kNe (zK zEV (zD (toD (zC 6)) (zD (toD (fOp kIx (zC 5) (zC 8))) (zD (toD (zC 7)) zF)))) (fOp kIx (zC 5) (zC 9))))) (zAM (fC (.bl false))) zAv)))
  (zQ (zi 10 (fB zAI (zU (zh [8] (zAH (zD (toD (fB zAu (zU (zC 3) zj))) zF)) (gN 8) (tst (fOp kEq (zK zT (zD (toD (zC 1)) (zD (toD (fC (.int 3))) zF))) (fC (.int 0)))) (zC 8)) zj)))
  (zQ (sIf (tst (fOp zIe (zC 10) (zA6 zF))) (zi 10 (zA6 (zD (toD (zK zT (zD (toD (zC 1)) (zD (toD (fB zAu (zU (zC 3) zj))) zF)))) zF))) zAv)
  (zQ (zi 11 (zK zc (zD (toD (zC 5)) (zD (toD (zK zBA (zD (toD (zC 3)) (zD (toD (zC 10)) (zD (toD (zC 7)) zF))))) zF))))
  (zQ (sIf (tst (fOp (kTr true 0) (zK zBA (zD (toD (zC 6)) (zD (toD (zK zc (zD (toD (zC 5)) (zD (toD (zC 10)) zF)))) (zD (toD (zC 7)) zF)))) (zC 11))) (zAM (fC (.bl false))) zAv)
  (sIf (tst (fOp (kTr true 0) (zC 11) (zK zc (zD (toD (zC 5)) (zD (toD (zh [8] (zq (zC 10)) (gN 8) zn (zK zAx (zD (toD (zC 3)) (zD (toD (zC 8)) (zD (toD (zC 7)) zF)))))) zF))))) (zAM (fC (.bl false))) zAv))))))))))))
  (zAM (fC (.bl true)))))
def zFy:FF:=zBE 12 zO6
theorem zMv {zA:Ya} {l:Nat} (m:IsM zA l) {room:Int} {word:Ye} {M:Mem} (h0:0<=room) (h1:room<zA.length) (hw:∀ g∈word,0<=g/\g<(l:Int)):zAx [mD zA,.int room,tI word] M=some (.int (zAt zA room word),M):=by
 refine zW ?_;unfold zAx;rw[zw];unfold zFg;show OkS (zQ _ _ [some (mD zA),some (.int room),some (tI word),none] M) _;rw[zG,zA2];refine ⟨_,_,_,zBN rfl zAG,?_⟩;refine zAl (I:=λr σ M'=>M'=M /\ ∃ (h:Int) (y:Option D) (c:Ye),σ=[some (mD zA),some (.int h),some (tI word),y]/\r=c.map D.int/\(∀ g∈c,0<=g/\g<(l:Int))/\0<=h/\h<zA.length/\zAt zA h c=zAt zA room word) ?_ ?_ _ _ _ ⟨rfl,room,none,word,rfl,rfl,hw,h0,h1,rfl⟩
 .rintro x r σ M' ⟨rfl,h,y,c,rfl,hc,hg,h0,h1,e⟩;obtain ⟨z,c',rfl,rfl,rfl⟩:=zAS hc;refine ⟨zAE,_,rfl,?_⟩;rw[zR];obtain ⟨g0,g1⟩:=hg z zWz;refine zE (m.ix h0 h1 g0 g1 rfl rfl rfl) ?_;rw[zI];obtain ⟨s0,s1⟩:=m.step h0 h1 g0 g1;exact ⟨rfl,_,_,c',rfl,rfl,λg hg'=>hg g (zWy _ hg'),s0,s1,e⟩
 .rintro σ M' ⟨rfl,h,y,c,rfl,hc,hg,h0,h1,e⟩;refine ⟨zAE,?_⟩;rw[zL];have:c=[]:=by cases c with|nil=>rfl|cons _ _=>cases hc
  subst this;exact zAU (d:=.int h) rfl ⟨by rw[<-e];rfl,rfl⟩
theorem zSi (m:IsM zA l) (hl:l<=12) (h:Gen M n k):Ok (zBy [.ref n,mD zA,.int 40] M) λd M'=>∃ w:List Int,d=tI w/\(∀ g∈w,0<=g/\g<(l:Int))/\w.length<=40/\Nw M M' n k:=by
 have hl0:=m.l0;unfold zBy;rw[zw];unfold zEn;show OkS (zAM _ [some (.ref n),some (mD zA),some (.int 40),none] M) _;rw[zAn];refine zLx.mpr (zCo.mpr (zB2.mpr ?_));obtain ⟨d,M1,e1,⟨i,rfl,i0,i1⟩,nw1,hl1⟩:=zJS h (m:=41) (by decide) (by decide);have ec:zD (toD (zK zT (zD (toD (zC 0)) (zD (toD (fOp zAo (zC 2) (fC (.int 1)))) zF)))) zF [some (.ref n),some (mD zA),some (.int 40),none] M=some ([.int i],M1):=aC' (zV0 (zk (d:=.ref n) rfl (zf (d:=.int 41) rfl)) e1) rfl;refine ⟨_,_,_,zEe ec i0 (by omega),by rw[zWu,zYi];exact zX (by omega),?_⟩;rw[<-zG9];refine Ok.mono (zLr (n:=i.toNat) (I:=λj acc M2=>(∃ c:List Int,acc=c.map D.int/\c.length=j /\ ∀ y∈c,0<=y/\y<(l:Int))/\Nw M M2 n k) ?_ ⟨⟨[],rfl,rfl,λ_ h=>by cases h⟩,nw1⟩) ?_
 .rintro j acc M2 hj ⟨⟨c,rfl,hcl,hc⟩,nw⟩;refine ⟨_,rfl,?_⟩;refine zAQ nw.gen rfl (zJI m (f:=zC 1) rfl) (by omega) (by omega) λg M3 g0 g1 nw3 hl3=>?_;rw[zI];refine ⟨⟨c++[g],by simp,by simp[hcl],λz hz=>?_⟩,nw.trans nw3⟩;rcases zXB.mp hz with q|q
  .exact hc z q
  .have:z=g:=by simpa using q
   subst this;exact ⟨g0,g1⟩
 .rintro ys M2 ⟨⟨c,rfl,hcl,hc⟩,nw⟩;refine zDk.mpr ((zES zBU).mpr ?_);rw[zI];exact ⟨c,rfl,hc,by omega,nw⟩
theorem zEi {zA:Ya} {P S:Ye} (hP:P.length=zA.length) (hS:∀ x∈S,0<=x/\x<(zA.length:Int)) (hz:S.length<=63) (hs:zAF M (.dat d)=some (S.map D.int)) (hg:zDM (.dat d) (S.map D.int)=gd) (hk:zA0 gd (S.map D.int) M):zc [tI P,d] M=some (tI (ris (S.map (pg P))),M):=by
 refine zW ?_;unfold zc;rw[zw];unfold zDA;show OkS (zAM _ [some (tI P),some d,none] M) _;have ec:=zAh (own:=[2]) (g:=gN 2) (te:=fOp kIx (zC 0) (zC 2)) (fi:=zq (zC 1)) (σ:=[some (tI P),some d,none]) (M:=M) S D.int (λa=>D.int (pg P a)) (gd:=gd) (by rw[<-hg];exact zBN (x:=.dat d) rfl hs) hk (by omega) λa ha=>⟨[some (tI P),some d,some (.int a)],rfl,zM (x:=.dat (tI P)) (y:=.dat (.int a)) rfl rfl (zBK zAG (zCE (hS a ha).1 (by have:=(hS a ha).2;omega)))⟩;have es:=zQK (ks:=S.map (pg P)) ec (by rw[show S.map (λa=>D.int (pg P a))=(S.map (pg P)).map D.int by rw[zW9];rfl];exact zBU) (by rw[zWu];omega);have hlen:(zJ (S.map (pg P))).length<64:=by have:=zAg (S.map (pg P));rw[zWu]at this;omega
 exact zAU (zA7 (zKK es hlen) zBU) ⟨rfl,rfl⟩
theorem zKL {n:Nat} (hn:n<=100) {M:Mem} (g:Gen M 1 2) {x0 x2 x3 x4 x5 x6 x7 x8 x9 x10 x11:Option D} {f:FE} (hf:∀ M,f [x0,some (.ref 1),x2,x3,x4,x5,x6,x7,x8,x9,x10,x11] M=some (.dat (.int (n:Int)),M)) :
  Ok (zh [8] (zAH (zD (toD f) zF)) (gN 8) (tst (fOp kEq (zK zT (zD (toD (zC 1)) (zD (toD (fC (.int 3))) zF))) (fC (.int 0)))) (zC 8) [x0,some (.ref 1),x2,x3,x4,x5,x6,x7,x8,x9,x10,x11] M)
   λx M'=>∃ S:List Int,x=.fl (S.map D.int)/\S.Pairwise (· < ·)/\(∀ y∈S,0<=y/\y<(n:Int))/\Nw M M' 1 2:=by
 refine zB2.mpr ⟨_,_,_,zBj (hf M) (by omega) (by omega),by rw[zBX];exact zX (by omega),?_⟩;rw[show (n:Int).toNat=n by omega];refine Ok.mono (zBn (I:=λr acc M2=>∃ (i:Nat) (S:Ye),i<=n/\r=zBu i (n-i)/\acc=S.map D.int/\S.Pairwise (· < ·)/\(∀ y∈S,0<=y/\y<(i:Int))/\Nw M M2 1 2) (Q:=λacc M2=>∃ S:List Int,acc=S.map D.int/\S.Pairwise (· < ·)/\(∀ y∈S,0<=y/\y<(n:Int))/\Nw M M2 1 2) ?_ ?_ _ [] _ ⟨0,[],zXX _,by simp,rfl,.nil,(λ_ h=>by cases h),Nw.refl g⟩) ?_
 .rintro x r acc M2 ⟨i,S,hi,e,rfl,pw,hS,nw⟩;have hlt:i<n:=by
   rcases zX7 i n with z|z
   .exact z
   .rw[show n-i=0 by omega]at e;cases e
  rw[show n-i=(n-(i+1))+1 by omega]at e;obtain ⟨rfl,rfl⟩:=zXp e;refine ⟨zAE,[x0,some (.ref 1),x2,x3,x4,x5,x6,x7,some (.int (i:Nat)),x9,x10,x11],rfl,?_⟩;refine zGp.mpr (zBR.mpr (zAQ nw.gen rfl rfl (by omega) (by omega) λz M3 z0 z1 nw3 _=>zFN.mpr (zGG.mpr (zGe.mpr ?_))));by_cases hz:z=0
  .rw[zW0 (by simpa using hz)];refine zE (M:=M3) (a:=.dat (.int ((i:Nat):Int))) rfl ?_;rw[zI];refine ⟨i+1,S++[((i:Nat):Int)],hlt,rfl,by simp,?_,λy hy=>?_,nw.trans nw3⟩
   .rw[List.pairwise_append];exact ⟨pw,by simp,λa ha b hb=>by rw[zXD]at hb;subst hb;exact (hS a ha).2⟩
   .rcases zXB.mp hy with q|q
    .have:=hS y q;omega
    .rw[zXD]at q;omega
  .rw[zW3 (by simpa using hz)];exact ⟨i+1,S,hlt,rfl,rfl,pw,λy hy=>by have:=hS y hy;omega,nw.trans nw3⟩
 .rintro acc M2 ⟨i,S,hi,e,rfl,pw,hS,nw⟩;have:i=n:=by
   rcases zX7 i n with z|z
   .rw[show n-i=(n-(i+1))+1 by omega]at e;cases e
   .omega
  subst this;exact ⟨zAE,S,rfl,pw,hS,nw⟩
 .rintro ys M2 ⟨S,e,h⟩;rw[List.nil_append]at e;exact ⟨S,by rw[e],h⟩
theorem zKb (a:Ye):kTr true 0 (.dat (tI a)) (.dat (tI a)) M=some (.dat (.bl false),M):=by
 have ht:=zNz a;have e:zB9 1 (.tup (a.map D.int)) (.tup (a.map D.int))=true:=zFb 1 _ (by unfold zAr;exact ht);unfold kTr;show (if ((a.map D.int).all (zAr 0)&&(a.map D.int).all (zAr 0))=true then some (EV.dat (.bl (nb true (zB9 1 (.tup (a.map D.int)) (.tup (a.map D.int))))),M) else none)=_;rw[ht,e];rfl
theorem zLJ:kNe (.dat (.int a)) (.dat (.int a)) M=some (.dat (.bl false),M):=zW (zUR.mpr ⟨by simp,rfl⟩)
theorem zSp {zA:Ya} {P S:Ye} {K:Nat} (p:Prt P K) (hP:P.length=zA.length) (s:IsS zA S):IsS (zB4 zA P K) (ris (S.map (pg P))):=by
 refine ⟨zHC _,?_,λx hx=>?_⟩
 .obtain ⟨a,ha⟩:=List.exists_mem_of_length_pos s.n0;exact zZx ((zB0 _ (pg P a)).mpr (zW2.mpr ⟨a,ha,rfl⟩))
 .obtain ⟨a,ha,rfl⟩:=zW2.mp ((zB0 _ _).mp hx);rw[zE2];exact zMy p hP (s.mem a ha)
abbrev fS (i:Nat) (zA:Ya) (x4:Option D) (P:Ye) (F:Ya) (w:Ye) (x8 x9 x10 x11:Option D):Sd:=[some (.ref 0),some (.ref 1),some (.int (i:Int)),some (mD zA),x4,some (tI P),some (mD F),some (tI w),x8,x9,x10,x11]
theorem zOa {zA:Ya} {l:Nat} (m:IsM zA l) (hR:zA.length<=26) {P:Ye} {K:Nat} (p:Prt P K) (hP:P.length=zA.length) (kp:Kp zA l P) {w:Ye} (hw:∀ g∈w,0<=g/\g<(l:Int)) {M:Mem} {i:Nat} {x4 x8 x9 x10 x11:Option D} :
  OkS (zCD (zAH (zD (toD (fB zAu (zU (zC 3) zj))) zF)) (gN 8) (zQ (zi 9 (zK zAx (zD (toD (zC 3)) (zD (toD (zC 8)) (zD (toD (zC 7)) zF)))))
  (sIf (zFa (tst (fOp kNe (zK zEV (zD (toD (zC 3)) (zD (toD (zC 8)) (zD (toD (zC 7)) zF)))) (zC 9))) (tst (fOp kNe (zK zEV (zD (toD (zC 6)) (zD (toD (fOp kIx (zC 5) (zC 8))) (zD (toD (zC 7)) zF)))) (fOp kIx (zC 5) (zC 9))))) (zAM (fC (.bl false))) zAv)) (fS i zA x4 P (zB4 zA P K) w x8 x9 x10 x11) M)
   λo σ' M'=>o=.nx/\M'=M /\ ∃ x8 x9,σ'=fS i zA x4 P (zB4 zA P K) w x8 x9 x10 x11:=by
 have fm:=zO8 m p hP;rw[zA2];refine ⟨_,_,_,zBj (zAy (zA:=zA) rfl) (by omega) (by omega),?_⟩;rw[show (zA.length:Int).toNat=zA.length by omega];refine zI9 (n:=zA.length) (I:=λk σ M'=>M'=M /\ ∃ x8 x9,σ=fS i zA x4 P (zB4 zA P K) w x8 x9 x10 x11) ?_ ?_ _ _ ⟨rfl,_,_,rfl⟩
 .rintro k σ M' hk ⟨rfl,x8,x9,rfl⟩;have ik:0<=(k:Int)/\(k:Int)<(zA.length:Int):=by omega
  have il:=zHh m w ik hw;have ip:=zMy p hP ik;refine ⟨fS i zA x4 P (zB4 zA P K) w (some (.int (k:Int))) x9 x10 x11,rfl,?_⟩;refine zCH (d:=.int (zAt zA (k:Int) w)) (zy (zk (d:=mD zA) rfl (zk (d:=.int (k:Int)) rfl (zf (d:=tI w) rfl))) (zMv m ik.1 ik.2 hw)) ?_;simp only[List.set_cons_succ,List.set_cons_zero];have eP:∀ {v:Int} {f:FE} {σ:Sd},0<=v/\v<(zA.length:Int)->zC 5 σ M'=some (.dat (tI P),M')->f σ M'=some (.dat (.int v),M')->fOp kIx (zC 5) f σ M'=some (.dat (.int (pg P v)),M'):=λhv h5 hf=>zM (x:=.dat (tI P)) (y:=.dat (.int _)) h5 hf (zBK zAG (zCE hv.1 (by rw[hP];exact hv.2)));refine zQR (zQj (zv (zM (x:=.dat (.int (zAt zA (k:Int) w))) (y:=.dat (.int (zAt zA (k:Int) w))) (zy (zk (d:=mD zA) rfl (zk (d:=.int (k:Int)) rfl (zf (d:=tI w) rfl))) (zQr m ik.1 ik.2 hw)) rfl zLJ)) (zv (zM (x:=.dat (.int (pg P (zAt zA (k:Int) w)))) (y:=.dat (.int (pg P (zAt zA (k:Int) w)))) (zy (zk (d:=mD (zB4 zA P K)) rfl (zk (d:=.int (pg P (k:Int))) (eP ik rfl rfl) (zf (d:=tI w) rfl))) ?_) (eP il rfl rfl) zLJ))) ⟨rfl,_,_,rfl⟩;have:=zQr fm (room:=pg P (k:Int)) (word:=w) (M:=M') ip.1 (by rw[zE2];exact ip.2) hw;rw[zJl m p hP kp w ik hw]at this;exact this
 .rintro σ M' ⟨rfl,x8,x9,rfl⟩;exact ⟨rfl,rfl,_,_,rfl⟩
theorem zKE {zA:Ya} {l:Nat} (m:IsM zA l) (hR:zA.length<=26) {P:Ye} {K:Nat} (p:Prt P K) (hP:P.length=zA.length) (kp:Kp zA l P) {w:Ye} (hw:∀ g∈w,0<=g/\g<(l:Int)) (hwl:w.length<=40) {S:Ye} (s:IsS zA S) {M:Mem} (g:Gen M 1 2) {i:Nat} {x4 x8 x9 x11:Option D} :
  OkS (zQ (zi 11 (zK zc (zD (toD (zC 5)) (zD (toD (zK zBA (zD (toD (zC 3)) (zD (toD (zC 10)) (zD (toD (zC 7)) zF))))) zF))))
  (zQ (sIf (tst (fOp (kTr true 0) (zK zBA (zD (toD (zC 6)) (zD (toD (zK zc (zD (toD (zC 5)) (zD (toD (zC 10)) zF)))) (zD (toD (zC 7)) zF)))) (zC 11))) (zAM (fC (.bl false))) zAv)
  (sIf (tst (fOp (kTr true 0) (zC 11) (zK zc (zD (toD (zC 5)) (zD (toD (zh [8] (zq (zC 10)) (gN 8) zn (zK zAx (zD (toD (zC 3)) (zD (toD (zC 8)) (zD (toD (zC 7)) zF)))))) zF))))) (zAM (fC (.bl false))) zAv)) (fS i zA x4 P (zB4 zA P K) w x8 x9 (some (tI S)) x11) M)
   λo σ' M'=>o=.nx/\(∃ x11,σ'=fS i zA x4 P (zB4 zA P K) w x8 x9 (some (tI S)) x11)/\Gen M' 1 2:=by
 have fm:=zO8 m p hP;have hK:K<=zA.length:=by rw[<-zNc p,<-hP];exact zAg P
 have sB:=m.broR w s hw;have sl:=zNA s;have bl:=zNA sB;have sF:=zSp p hP s;have e1:zc [tI P,tI (broR zA S w)] M=some (tI (ris ((broR zA S w).map (pg P))),M):=zEi hP sB.mem (by omega) (gd:=none) zAG rfl trivial;refine zCH (zy (zk (d:=tI P) rfl (zf (d:=tI (broR zA S w)) (zy (zk (d:=mD zA) rfl (zk (d:=tI S) rfl (zf (d:=tI w) rfl))) (zO9 m (by omega) s hw (by omega))))) e1) ?_;simp only[List.set_cons_succ,List.set_cons_zero];have e2:zc [tI P,tI S] M=some (tI (ris (S.map (pg P))),M):=zEi hP s.mem (by omega) (gd:=none) zAG rfl trivial;have e3:=zO9 fm (by rw[zE2];omega) sF hw (by omega) (M:=M);rw[zRR m p hP kp s hw]at e3;refine zRu (zv (zM (x:=.dat (tI (ris ((broR zA S w).map (pg P))))) (y:=.dat (tI (ris ((broR zA S w).map (pg P))))) (zy (zk (d:=mD (zB4 zA P K)) rfl (zk (d:=tI (ris (S.map (pg P)))) (zy (zk (d:=tI P) rfl (zf (d:=tI S) rfl)) e2) (zf (d:=tI w) rfl))) e3) rfl (zKb _))) ?_;have ec:zh [8] (zq (zC 10)) (gN 8) zn (zK zAx (zD (toD (zC 3)) (zD (toD (zC 8)) (zD (toD (zC 7)) zF)))) [some (.ref 0),some (.ref 1),some (.int (i:Int)),some (mD zA),x4,some (tI P),some (mD (zB4 zA P K)),some (tI w),x8,x9,some (tI S),some (tI (ris ((broR zA S w).map (pg P))))] M=some (.fl ((S.map λa=>zAt zA a w).map D.int),M) :=
  (zAh S D.int (λa=>D.int (zAt zA a w)) (zDc rfl) trivial (by omega) λa ha=>⟨[some (.ref 0),some (.ref 1),some (.int (i:Int)),some (mD zA),x4,some (tI P),some (mD (zB4 zA P K)),some (tI w),some (.int a),x9,some (tI S),some (tI (ris ((broR zA S w).map (pg P))))],rfl,zy (zk (d:=mD zA) rfl (zk (d:=.int a) rfl (zf (d:=tI w) rfl))) (zMv m (s.mem a ha).1 (s.mem a ha).2 hw)⟩).trans (by rw[zW9];rfl)
 have nw:=g.lst ((S.map λa=>zAt zA a w).map D.int) (zb _ _);have e4:zc [tI P,.ref M.length] (M++[.lst ((S.map λa=>zAt zA a w).map D.int)])=some (tI (ris ((S.map λa=>zAt zA a w).map (pg P))),M++[.lst ((S.map λa=>zAt zA a w).map D.int)]):=zEi hP (λx hx=>by
  obtain ⟨a,ha,rfl⟩:=zW2.mp hx;exact zHh m w (s.mem a ha) hw) (by rw[zWu];omega) (ze (zY _ _)) rfl (.inl (zY _ _))
 have ee:ris ((broR zA S w).map (pg P))=ris ((S.map λa=>zAt zA a w).map (pg P)):=by rw[zGl s.pw,zJC]
 rw[<-ee]at e4;rw[zAf];refine zGp.mpr (zBR.mpr (zAJ.mpr ⟨_,rfl,zAX.mpr (zE (aC' (zK6 (d:=tI P) rfl) (aC' (zM5 ec) rfl)) (zE e4 (zE (zKb _) ?_)))⟩));rw[zGe,zW3 (by decide),zAK];exact ⟨rfl,⟨_,rfl⟩,nw.gen⟩
set_option maxHeartbeats 4000000 in
theorem zRE (ns:Ye) (h:ns.length<=63):∃ M',zFy [.ref 0] [.fro (ns.map D.int)]=some (.bl true,M'):=by
 suffices hh:Ok (zFy [.ref 0] [.fro (ns.map D.int)]) λd _=>d=.bl true by
  obtain ⟨d,M',e,rfl⟩:=hh;exact ⟨M',e⟩
 unfold zFy;rw[zw];unfold zO6;show OkS (zQ _ _ [some (.ref 0),none,none,none,none,none,none,none,none,none,none,none] _) _;rw[zG,zR];refine zAX.mpr (zE (zf rfl) ?_);refine Ok.mono (zRM h) ?_;rintro d M1 ⟨rfl,g1,e0⟩;rw[zI,zL];show OkS (zQ _ _ [some (.ref 0),some (.ref 1),none,none,none,none,none,none,none,none,none,none] M1) _;rw[zG,zA2];have el:fB zAu (zU (zC 0) zj) [some (.ref 0),some (.ref 1),none,none,none,none,none,none,none,none,none,none] M1=some (.dat (.int (ns.map D.int).length),M1):=zHk (x:=.dat (.ref 0)) rfl (zSQ e0);rw[zWu]at el;have emin:fB zIc (zU (fC (.int 5)) (zU (fOp zAo (fC (.int 1)) (fB zAu (zU (zC 0) zj))) zj)) [some (.ref 0),some (.ref 1),none,none,none,none,none,none,none,none,none,none] M1=some (.dat (.int (if 1+(ns.length:Int)<5 then 1+(ns.length:Int) else 5)),M1):=zSO rfl (zM rfl el rfl);refine ⟨_,_,_,zBj emin (by split <;> omega) (by split <;> omega),?_⟩;refine zI9 (n:=(if 1+(ns.length:Int)<5 then 1+(ns.length:Int) else 5).toNat) (I:=λi σ M'=>(∃ y2 y3 y4 y5 y6 y7 y8 y9 y10 y11,σ=[some (.ref 0),some (.ref 1),y2,y3,y4,y5,y6,y7,y8,y9,y10,y11])/\Gen M' 1 2) ?_ ?_ _ _ ⟨⟨_,_,_,_,_,_,_,_,_,_,rfl⟩,g1⟩
 .rintro i σ M' hi ⟨⟨y2,y3,y4,y5,y6,y7,y8,y9,y10,y11,rfl⟩,g⟩;obtain ⟨gn,gk⟩:=g.lt;refine ⟨_,rfl,?_⟩;rw[zG,zGS];refine zAX.mpr (zE (zk rfl (zk rfl (zf rfl))) ?_);refine Ok.mono (zMq g (by decide) (by decide) (by decide) (by decide)) ?_;rintro d M3 ⟨zA,l,j,ow,rfl,m,hR,hL,ej,ol,kp,hjM,nw3⟩;have hj1:j≠1:=by omega
  have hj2:j≠2:=by omega
  rw[zI];refine ⟨[some (.ref 0),some (.ref 1),some (.int (i:Nat)),some (mD zA),some (.ref j),y5,y6,y7,y8,y9,y10,y11],rfl,?_⟩;rw[zL]
  have fin:∀ {zA:Ya} {l j:Nat} {ow:Ye} {M:Mem} {Q:Out->Sd->Mem->Prop},IsM zA l->zA.length<=26->l<=12->M[j]?=some (.lst (ow.map D.int))->j≠1->j≠2->ow.length=zA.length->Kp zA l ow->Gen M 1 2->(∀ σ2 M2,(∃ y2 y3 y4 y5 y6 y7 y8 y9 y10 y11,σ2=[some (.ref 0),some (.ref 1),y2,y3,y4,y5,y6,y7,y8,y9,y10,y11])/\Gen M2 1 2->Q .nx σ2 M2) ->
    OkS (zQ (zi 5 (zK zAj (zD (toD (zC 1)) (zD (toD (zC 3)) (zD (toD (zC 4)) zF)))))
  (zQ (zi 6 (zK zDE (zD (toD (zC 3)) (zD (toD (zC 5)) zF))))
  (zQ (zi 7 (zK zBy (zD (toD (zC 1)) (zD (toD (zC 3)) (zD (toD (fC (.int 40))) zF)))))
  (zQ (zCD (zAH (zD (toD (fB zAu (zU (zC 3) zj))) zF)) (gN 8) (zQ (zi 9 (zK zAx (zD (toD (zC 3)) (zD (toD (zC 8)) (zD (toD (zC 7)) zF)))))
  (sIf (zFa (tst (fOp kNe (zK zEV (zD (toD (zC 3)) (zD (toD (zC 8)) (zD (toD (zC 7)) zF)))) (zC 9))) (tst (fOp kNe (zK zEV (zD (toD (zC 6)) (zD (toD (fOp kIx (zC 5) (zC 8))) (zD (toD (zC 7)) zF)))) (fOp kIx (zC 5) (zC 9))))) (zAM (fC (.bl false))) zAv)))
  (zQ (zi 10 (fB zAI (zU (zh [8] (zAH (zD (toD (fB zAu (zU (zC 3) zj))) zF)) (gN 8) (tst (fOp kEq (zK zT (zD (toD (zC 1)) (zD (toD (fC (.int 3))) zF))) (fC (.int 0)))) (zC 8)) zj)))
  (zQ (sIf (tst (fOp zIe (zC 10) (zA6 zF))) (zi 10 (zA6 (zD (toD (zK zT (zD (toD (zC 1)) (zD (toD (fB zAu (zU (zC 3) zj))) zF)))) zF))) zAv)
  (zQ (zi 11 (zK zc (zD (toD (zC 5)) (zD (toD (zK zBA (zD (toD (zC 3)) (zD (toD (zC 10)) (zD (toD (zC 7)) zF))))) zF))))
  (zQ (sIf (tst (fOp (kTr true 0) (zK zBA (zD (toD (zC 6)) (zD (toD (zK zc (zD (toD (zC 5)) (zD (toD (zC 10)) zF)))) (zD (toD (zC 7)) zF)))) (zC 11))) (zAM (fC (.bl false))) zAv)
  (sIf (tst (fOp (kTr true 0) (zC 11) (zK zc (zD (toD (zC 5)) (zD (toD (zh [8] (zq (zC 10)) (gN 8) zn (zK zAx (zD (toD (zC 3)) (zD (toD (zC 8)) (zD (toD (zC 7)) zF)))))) zF))))) (zAM (fC (.bl false))) zAv)))))))) [some (.ref 0),some (.ref 1),some (.int (i:Nat)),some (mD zA),some (.ref j),y5,y6,y7,y8,y9,y10,y11] M) Q:=λ{zA l j ow M Q} m hR hL ej hj1 hj2 ol kp gg q=>by
   have r0:=m.r0;rw[zG,zR];refine zAX.mpr (zE (zk rfl (zk rfl (zf rfl))) ?_);refine Ok.mono (zJw m hR hL gg ej hj1 hj2 ol kp) ?_;rintro d M4 ⟨P,rfl,⟨K,p,hP,kp'⟩,nw4⟩;have hK:K<=zA.length:=by rw[<-zNc p,<-hP];exact zAg P
   rw[zI,zL];simp only[List.set_cons_succ,List.set_cons_zero];refine zCH (zy (zk (d:=mD zA) rfl (zf (d:=tI P) rfl)) (zOo m hR hL p (by omega) hP)) ?_;simp only[List.set_cons_succ,List.set_cons_zero];rw[zG,zR];refine zAX.mpr (zE (zk rfl (zk rfl (zf rfl))) ?_);refine Ok.mono (zSi m hL nw4.gen) ?_;rintro d M5 ⟨w,rfl,hw,hwl,nw5⟩;rw[zI,zL,zG];simp only[List.set_cons_succ,List.set_cons_zero];refine OkS.mono (zOa m hR p hP kp' hw) ?_;rintro o σ' M6 ⟨rfl,rfl,x8,x9,rfl⟩;rw[zL,zG,zR];refine zLx.mpr (zCo.mpr (Ok.mono (zKL (n:=zA.length) (by omega) nw5.gen λ_=>zAy rfl) ?_));rintro x M7 ⟨S,rfl,pw,hS,nw7⟩;refine zDk.mpr ((zES zBU).mpr ?_);rw[zI,zL,zG,zAf];simp only[List.set_cons_succ,List.set_cons_zero];have ee:fOp zIe (zC 10) (zA6 zF) [some (.ref 0),some (.ref 1),some (.int (i:Nat)),some (mD zA),some (.ref j),some (tI P),some (mD (zB4 zA P K)),some (tI w),x8,x9,some (.tup (S.map D.int)),y11] M7=some (.dat (.bl (S.map D.int).isEmpty),M7):=zM (x:=.dat (.tup (S.map D.int))) (y:=.dat (.tup [])) rfl (zL2 rfl (by simp)) rfl;refine zE (zv ee) ?_;cases S with
   |nil=>
    rw[zW0 (by rfl),zR];refine zQa.mpr (zAL.mpr (zAe.mpr ?_));refine zAQ nw7.gen rfl (zAy rfl) (by omega) (by omega) λz M8 z0 z1 nw8 _=>?_;rw[zI,zAi];refine ⟨zX (by simp),?_⟩;rw[zI,zL];simp only[List.set_cons_succ,List.set_cons_zero];refine OkS.mono (zKE m hR p hP kp' hw hwl (S:=[z]) ⟨by simp,by simp,λx hx=>by rw[zXD]at hx;subst hx;exact ⟨z0,z1⟩⟩ nw8.gen) ?_;rintro o σ' M9 ⟨rfl,⟨x11,rfl⟩,g9⟩;exact q _ _ ⟨⟨_,_,_,_,_,_,_,_,_,_,rfl⟩,g9⟩
   |cons a S=>
    rw[zW3 (by simp),zAK,zL];refine OkS.mono (zKE m hR p hP kp' hw hwl (S:=a::S) ⟨pw,by simp,hS⟩ nw7.gen) ?_;rintro o σ' M9 ⟨rfl,⟨x11,rfl⟩,g9⟩;exact q _ _ ⟨⟨_,_,_,_,_,_,_,_,_,_,rfl⟩,g9⟩
  rw[zG,zAf];refine zGp.mpr (zBR.mpr (zAQ nw3.gen rfl rfl (by omega) (by omega) λz M4 z0 z1 nw4 _=>zFN.mpr (zGG.mpr (zGe.mpr ?_))));by_cases hz:z=0
  .rw[zW0 (by simpa using hz),zG,zR];refine zAX.mpr (zE (zk rfl (zk rfl (zf rfl))) ?_);refine Ok.mono (zHZ nw4.gen (by decide) (by decide) (by decide) (by decide)) ?_;rintro d M5 ⟨⟨zA,l,rfl,m,hR,hL⟩,nw5⟩;rw[zI,zL,zR];simp only[List.set_cons_succ,List.set_cons_zero];have elr:zCi (fB zAu (zU (zC 3) zj)) [some (.ref 0),some (.ref 1),some (.int (i:Nat)),some (mD zA),some (.ref j),y5,y6,y7,y8,y9,y10,y11] M5=some (.fl (((List.range zA.length).map λ(k:Nat)=>(k:Int)).map D.int),M5):=by
    unfold zCi;rw[zAy (zA:=zA) rfl];dsimp only;rw[zW0 ⟨by omega,by omega⟩,zGX,show (zA.length:Int).toNat=zA.length by omega]
   refine zE elr (zd ?_);rw[zL];obtain ⟨gn5,gk5⟩:=nw5.gen.lt;exact fin m (by omega) (by omega) (zY _ _) (by omega) (by omega) (by simp) zQ3 (nw5.gen.lst _ (zb _ _)).gen λ_ _ q=>q
  .rw[zW3 (by simpa using hz),zAK,zL];exact fin m (by omega) (by omega) (nw4.get ej hj1 hj2) hj1 hj2 ol kp nw4.gen λ_ _ q=>q
 .rintro σ M' ⟨⟨y2,y3,y4,y5,y6,y7,y8,y9,y10,y11,rfl⟩,g⟩;rw[zL];exact zAU rfl rfl
end Lad
set_option maxHeartbeats 4000000
namespace Lad
open PySem PySem.Spec PyProof.Rows L2 L3 Law Lac
-- the text by places
def top (i:Nat):Stmt:=PySem.Challenge.pw_bringhome_k48_whole_led_in_the_folded_ma.main.body.getD i (.Pass ⟨0,0,0,0⟩)
abbrev zD2:Stmt:=top 1
abbrev zDX:Stmt:=top 3
abbrev zHT:Stmt:=top 4
abbrev zD9:Stmt:=top 5
abbrev zFq:Stmt:=top 6
abbrev zP7:Stmt:=top 8
abbrev zFX:Stmt:=top 9
abbrev zHG:Stmt:=top 10
abbrev zFu:Stmt:=top 11
abbrev zEm:Stmt:=top 13
abbrev zD6:Stmt:=top 14
abbrev zDV:Stmt:=top 15
abbrev zFt:Stmt:=top 16
abbrev zCb:Stmt:=top 17
abbrev zEZ:Stmt:=top 18
abbrev zFn:Stmt:=top 19
abbrev zJR:Stmt:=top 20
abbrev zCd:Stmt:=top 22
abbrev zDb:Stmt:=top 23
abbrev zCZ:Stmt:=top 24
abbrev zHf:Stmt:=top 25
abbrev zD4:Stmt:=top 27
abbrev zEo:Stmt:=top 28
abbrev zDY:Stmt:=top 29
abbrev zC5:Stmt:=top 30
abbrev zDf:Stmt:=top 31
abbrev zCm:Stmt:=top 32
abbrev zFQ:Stmt:=top 33
abbrev zEk:Stmt:=top 34
abbrev zCJ:Stmt:=top 35
abbrev zC2:Stmt:=top 36
abbrev zO4:Stmt:=top 37
structure Txt (K:Yb) (mg:Yh) where
  d_all_rooms:Df K mg "all_rooms" zD2 ["machine"]
  d_class_rows:Df K mg "class_rows" zDX ["machine", "parting"]
  d_folded:Df K mg "folded" zHT ["machine", "parting"]
  d_parted_by:Df K mg "parted_by" zD9 ["marks"]
  d_kept_by:Df K mg "kept_by" zFq ["machine", "pairs"]
  d_led:Df K mg "led" zP7 ["machine", "room", "word"]
  d_stepped:Df K mg "stepped" zFX ["machine", "rooms", "letter"]
  d_walked:Df K mg "walked" zHG ["machine", "rooms", "word"]
  d_brought:Df K mg "brought" zFu ["machine", "rooms", "word"]
  d_pairs_of:Df K mg "pairs_of" zEm ["rooms"]
  d_ways_back:Df K mg "ways_back" zD6 ["machine"]
  d_lengths_to:Df K mg "lengths_to" zDV ["machine", "goals"]
  d_lengths:Df K mg "lengths" zFt ["machine"]
  d_first_letter:Df K mg "first_letter" zCb ["machine", "pair", "found"]
  d_rungs_to:Df K mg "rungs_to" zEZ ["machine", "found"]
  d_climbed:Df K mg "climbed" zFn ["machine", "steps", "pair"]
  d_apart:Df K mg "apart" zJR ["machine"]
  d_pairs_across:Df K mg "pairs_across" zCd ["machine", "parting"]
  d_parted_but:Df K mg "parted_but" zDb ["machine", "found"]
  d_stable_shown:Df K mg "stable_shown" zCZ ["machine"]
  d_stable:Df K mg "stable" zHf ["machine"]
  d_law_begin:Df K mg "_law_begin" zD4 ["_law_script"]
  d_law_next:Df K mg "_law_next" zEo ["_law_state", "_law_many"]
  d_law_column:Df K mg "_law_column" zDY ["_law_state", "_law_many", "_law_way"]
  d_law_machine:Df K mg "_law_machine" zC5 ["_law_state", "_law_most", "_law_letters"]
  d_law_copies:Df K mg "_law_copies" zDf ["_law_state", "_law_most", "_law_letters"]
  d_law_numbered:Df K mg "_law_numbered" zCm ["_law_classes_here"]
  d_law_led:Df K mg "_law_led" zFQ ["_law_machine_here", "_law_room", "_law_word_here"]
  d_law_word:Df K mg "_law_word" zEk ["_law_state", "_law_machine_here", "_law_most"]
  d_law_kept_here:Df K mg "_law_kept_here" zCJ ["_law_state", "_law_machine_here", "_law_owners"]
  d_law_classes:Df K mg "_law_classes" zC2 ["_law_parting", "_law_rooms"]
  d_law:Df K mg "law" zO4 ["_law_script"]
  z_tuple:mg "tuple" = none
  z_range:mg "range" = none
  z_len:mg "len" = none
  z_max:mg "max" = none
  z_list:mg "list" = none
  z_zip:mg "zip" = none
  z_sorted:mg "sorted" = none
  z_min:mg "min" = none
  z_enumerate:mg "enumerate" = none
  z_set:mg "set" = none
section
variable {P:Ym} {w:Yo} {K:Yb} {mg:Yh} {base:Heap}
theorem zBs {X:Cx} {scope sc:Y0} {own:Yj} {N ps:Yk} (_:FnScope N ps sc) (hk:scope.kind=.function) (hs:X.env.scope=sc) (hN:X.N=N) (h1:zE7 sc scope=true) (h2:zGQ N scope own=true):CompIn X scope own:=zIX hk hs hN h1 h2
theorem zOQ {X:Cx} {scope sc sd:Y0} {own:Yj} {N ps:Yk} (_:FnScope N ps sd) (hk:scope.kind=.function) (hs:X.env.scope=sc) (hN:X.N=N) (h1:zE7 sc scope=true) (h2:zGQ N scope own=true):CompIn X scope own:=zIX hk hs hN h1 h2
set_option hygiene false in
local macro_rules | `(tactic| decreasing_trivial)=> `(tactic| repeat' first
  |refine zVb (pv _)
  |refine zBg ?_
  |refine zM1 ?_ ?_ (zp rfl)
  |refine zOP ?_
  |refine zQH
  |refine zR3 ?_ ?_
  |refine zV5
  |refine zQD
  |refine zT3 ?_
  |refine zWP (by first|exact zKn T|exact zJu T|exact zLu T|exact zKZ T|exact zHc T|exact zJZ T|exact zHq T|exact zHE T|exact zMo T|exact zUH T|exact zL7 T|exact zHw T|exact zOe T|exact zJf T|exact zGC T|exact zIH T|exact zL9 T|exact zQW T|exact zIB T|exact zKD T|exact zGI T|exact zMb T|exact zF9 T|exact zNi T|exact zGH T|exact zLZ T|exact zJx T|exact zHr T|exact zFY T|exact zOc T|exact zLM T) (hr.mono (by omega)) rfl ?_ ?_ (by decide) (zp rfl) (zHJ rfl)
  |refine zVj sc.nd rfl
  |refine zSg ?_ ?_ (zp rfl)
  |refine zUk
  |refine zWA ?_
  |refine zWS ?_ ?_
  |refine zT9 ?_
  |refine zUB
  |refine zUC
  |refine zWG ?_ ?_ ?_
  |refine zVd rfl T.z_len ?_ (zp rfl) rfl
  |refine zSP rfl T.z_tuple ?_ (zp rfl) rfl
  |refine zMA (zBf (by decide)) (zBs sc rfl rfl rfl (by decide +kernel) (by decide +kernel)) rfl ?_ ⟨λ_ _ _ _ _=>?_,λ_ _ _ _ _=>?_,λ_ _ _ _ _=>?_⟩
  |refine zVL zPw PassesOwn.never rfl ?_ ?_ ?_
  |refine zT1 (zGk hr) ?_ ?_
  |refine zU4 hr.units0 ?_ ?_
  |refine zTo ?_ ?_
  |refine zOX rfl T.z_range ?_ ?_ (zGm rfl)
  |refine zPp ?_ ?_
  |refine zU8 ?_
  |refine zVq ?_
  |refine zV6
  |refine zRw ?_
  |refine zUq ?_
  |refine zTd ?_
  |refine zVN ?_ ?_
  |refine zSf
  |refine zP8 ?_ ?_
  |refine zSH ?_ ?_ ?_
  |refine zSL
  |refine zT4 rfl ?_
  |refine zOb sc.nd rfl (by first|exact Or.inl rfl|exact Or.inr rfl) (by first|exact .inl rfl|exact .inr rfl) rfl (zBf (by decide)) (zBs sc rfl rfl rfl (by decide +kernel) (by decide +kernel)) rfl ?_ ⟨λ_ _ _ _ _=>?_,λ_ _ _ _ _=>?_,λ_ _ _ _ _=>?_⟩
  |refine zOm (zGk hr) ?_ ?_
  |refine zVt hr.units0 ?_ ?_
  |refine zUW rfl rfl T.z_list rfl T.z_range ?_ (zp rfl) rfl (zp rfl) rfl
  |refine zV3 ?_ ?_
  |refine zUj (zGk hr) ?_ ?_ ?_
  |refine zUx ?_ ?_
  |refine zVZ ?_ ?_
  |refine zUt (zPR (K:=K)) ?_ ?_
  |refine zWe
  |refine zMA (zBf (by decide)) (zOQ sc rfl rfl rfl (by rfl) (by decide +kernel)) rfl ?_ ⟨λ_ _ _ _ _=>?_,λ_ _ _ _ _=>?_,λ_ _ _ _ _=>?_⟩
  |refine zVi ?_ ?_
  |refine zR6 _ PassesOwn.never ?_ ?_
  |refine zVk ?_
  |refine zMA (zOF (K:=K) (by decide) (by decide)) (zBs sc rfl rfl rfl (by decide +kernel) (by decide +kernel)) rfl ?_ ⟨λ_ _ _ _ _=>?_,λ_ _ _ _ _=>?_,λ_ _ _ _ _=>?_⟩
  |refine zTm ?_ ?_
  |refine zRo rfl rfl T.z_sorted ?_ (zp rfl) rfl
  |refine zQm ?_ ?_ ?_
  |refine zWC ?_ ?_
  |refine zTS rfl T.z_list ?_ (zp rfl) rfl
  |refine zRY ?_
  |refine zSd ?_ ?_ ?_
  |refine zOp rfl rfl T.z_list rfl T.z_zip ?_ (zPV rfl rfl) (zGm rfl) (zp rfl) rfl
  |refine zRW rfl T.z_enumerate ?_ (zp rfl) rfl
  |refine zUc (zGk hr) ?_ ?_
  |refine zSt ?_
  |refine zUJ rfl rfl T.z_min ?_ (zp rfl) rfl
  |refine zUG ?_
  |refine zVR ?_ ?_
  |refine zRz (zGk hr) ?_ ?_ ?_ ⟨rfl,rfl,rfl,rfl⟩
  |refine zVW ?_ ?_ ?_
  |refine zRh 0 (zV4 0 (by decide) hr) ?_ ?_
  |refine zT6 rfl rfl T.z_tuple rfl T.z_range ?_ (zp rfl) rfl (zp rfl) rfl
  |refine zR2
  |refine zUE rfl T.z_len ?_ (zp rfl) rfl
  |refine zTz (zBf (by decide)) (zBs sc rfl rfl rfl (by decide +kernel) (by decide +kernel)) rfl ?_ ⟨λ_ _ _ _ _=>?_,λ_ _ _ _ _=>?_,λ_ _ _ _ _=>?_⟩
  |refine zRl (by decide) (zBf (by decide)) (zBf (by decide)) (zBs sc rfl rfl rfl (by decide +kernel) (by decide +kernel)) rfl ?_ ⟨λ_ _ _ _ _=>?_,λ_ _ _ _ _=>?_,λ_ _ _ _ _=>?_,λ_ _ _ _ _=>?_,λ_ _ _ _ _=>?_,λ_ _ _ _ _=>?_,λ_ _ _ _ _ _=>rfl⟩
  |refine zUz ?_ ?_
  |refine zV1 ?_ ?_
  |refine zRy ?_ ?_ ?_ ?_
  |refine zRF ?_ ?_
  |refine zQF ?_ ?_
  |refine zSE rfl rfl T.z_set ?_ (zp rfl) rfl
  |refine zTq rfl rfl T.z_max ?_ (zp rfl) rfl
  |refine zSD ?_ ?_
  |refine zTn ?_
  |refine zQP ?_ ?_
  |refine zSV
  |refine zUu ?_ ?_
  |refine zVJ ?_ ?_
  |refine zMi sc.nd rfl (by first|exact Or.inl rfl|exact Or.inr rfl) (by first|exact .inl rfl|exact .inr rfl) rfl (zGk hr) (zBf (by decide)) (zBs sc rfl rfl rfl (by decide +kernel) (by decide +kernel)) rfl ?_ ⟨λ_ _ _ _ _=>?_,λ_ _ _ _ _=>?_,λ_ _ _ _ _=>?_⟩ λ_ _ _ _ _=>?_
  |refine zUy ?_ ?_
  |refine zSr (zGk hr) (zBf (by decide)) (zBs sc rfl rfl rfl (by decide +kernel) (by decide +kernel)) rfl ?_ ⟨λ_ _ _ _ _=>?_,λ_ _ _ _ _=>?_,λ_ _ _ _ _=>?_⟩ λ_ _ _ _ _=>?_
  |refine zTh rfl rfl T.z_min ?_ (zp rfl) (zHJ rfl)
  |refine zRZ hr.units0 ?_ ?_
  |refine zWR sc.nd rfl ?_
  |refine zVa (zUn ?_ ?_)
  |refine zVa (zVz ?_ ?_))
abbrev zKT:List Str:=["machine"]
theorem zJG:FnScope zKT ["machine"] (zV zD2):=⟨rfl,rfl,rfl,by decide +kernel,rfl,by decide +kernel,by decide +kernel⟩
theorem zJu (T:Txt K mg):Od P w base 1 T.d_all_rooms zAO:=by
  unfold zAO;have sc:=zJG;exact zx (n:=1) T.d_all_rooms.F sc rfl (λcdv A outer s H E hr=>by
    unfold zDv;decreasing_trivial)
abbrev zJg:List Str:=["machine", "parting", "goal", "row"]
theorem zIG:FnScope zJg ["machine", "parting"] (zV zDX):=⟨rfl,rfl,rfl,by decide +kernel,rfl,by decide +kernel,by decide +kernel⟩
theorem zHw (T:Txt K mg):Od P w base 1 T.d_class_rows zBQ:=by
  unfold zBQ;have sc:=zIG;exact zx (n:=2) T.d_class_rows.F sc rfl (λcdv A outer s H E hr=>by
    unfold zDe;decreasing_trivial)
abbrev zKY:List Str:=["marks", "numbers", "mark"]
theorem zJp:FnScope zKY ["marks"] (zV zD9):=⟨rfl,rfl,rfl,by decide +kernel,rfl,by decide +kernel,by decide +kernel⟩
theorem zJZ (T:Txt K mg):Od P w base 1 T.d_parted_by zBe:=by
  unfold zBe;have sc:=zJp;exact zx (n:=1) T.d_parted_by.F sc rfl (λcdv A outer s H E hr=>by
    unfold zDx;decreasing_trivial)
abbrev zUs:List Str:=["machine", "room", "word", "here", "letter"]
theorem zUU:FnScope zUs ["machine", "room", "word"] (zV zP7):=⟨rfl,rfl,rfl,by decide +kernel,rfl,by decide +kernel,by decide +kernel⟩
theorem zUH (T:Txt K mg):Od P w base 1 T.d_led zEV:=by
  unfold zEV;have sc:=zUU;exact zCS (zx (n:=3) T.d_led.F sc rfl (λcdv A outer s H E hr=>by
    unfold zO7;decreasing_trivial))
abbrev zO3:List Str:=["machine", "rooms", "letter", "room"]
theorem zMU:FnScope zO3 ["machine", "rooms", "letter"] (zV zFX):=⟨rfl,rfl,rfl,by decide +kernel,rfl,by decide +kernel,by decide +kernel⟩
theorem zLu (T:Txt K mg):Od P w base 1 T.d_stepped zBB:=by
  unfold zBB;have sc:=zMU;exact zCS (zx (n:=3) T.d_stepped.F sc rfl (λcdv A outer s H E hr=>by
    unfold zFi;decreasing_trivial))
abbrev zMV:List Str:=["rooms", "one", "other"]
theorem zKR:FnScope zMV ["rooms"] (zV zEm):=⟨rfl,rfl,rfl,by decide +kernel,rfl,by decide +kernel,by decide +kernel⟩
theorem zKZ (T:Txt K mg):Od P w base 1 T.d_pairs_of zAa:=by
  unfold zAa;have sc:=zKR;exact zx (n:=1) T.d_pairs_of.F sc rfl (λcdv A outer s H E hr=>by
    unfold zEc;decreasing_trivial)
abbrev zLI:List Str:=["_law_script", "_law_seed", "_law_cell"]
theorem zJV:FnScope zLI ["_law_script"] (zV zD4):=⟨rfl,rfl,rfl,by decide +kernel,rfl,by decide +kernel,by decide +kernel⟩
theorem zJx (T:Txt K mg):Od P w base 1 T.d_law_begin zB6:=by
  unfold zB6;have sc:=zJV;exact zx (n:=1) T.d_law_begin.F sc rfl (λcdv A outer s H E hr=>by
    unfold zDz;decreasing_trivial)
abbrev zLq:List Str:=["_law_state", "_law_many", "_law_digit", "_law_mixed"]
theorem zKg:FnScope zLq ["_law_state", "_law_many"] (zV zEo):=⟨rfl,rfl,rfl,by decide +kernel,rfl,by decide +kernel,by decide +kernel⟩
theorem zKn (T:Txt K mg):Od P w base 1 T.d_law_next zT:=by
  unfold zT;have sc:=zKg;exact zx (n:=2) T.d_law_next.F sc rfl (λcdv A outer s H E hr=>by
    unfold zEj;decreasing_trivial)
abbrev zHi:List Str:=["_law_classes_here", "_law_known", "_law_own"]
theorem zF6:FnScope zHi ["_law_classes_here"] (zV zCm):=⟨rfl,rfl,rfl,by decide +kernel,rfl,by decide +kernel,by decide +kernel⟩
theorem zGH (T:Txt K mg):Od P w base 1 T.d_law_numbered zBH:=by
  unfold zBH;have sc:=zF6;exact zM0 (zx (n:=1) T.d_law_numbered.F sc rfl (λcdv A outer s H E hr=>by
    unfold zCf;decreasing_trivial))
abbrev zNf:List Str:=["_law_machine_here", "_law_room", "_law_word_here", "_law_letter"]
theorem zL8:FnScope zNf ["_law_machine_here", "_law_room", "_law_word_here"] (zV zFQ):=⟨rfl,rfl,rfl,by decide +kernel,rfl,by decide +kernel,by decide +kernel⟩
theorem zMo (T:Txt K mg):Od P w base 1 T.d_law_led zAx:=by
  unfold zAx;have sc:=zL8;exact zx (n:=3) T.d_law_led.F sc rfl (λcdv A outer s H E hr=>by
    unfold zFg;decreasing_trivial)
abbrev zIJ:List Str:=["_law_parting", "_law_rooms", "_law_room"]
theorem zHN:FnScope zIJ ["_law_parting", "_law_rooms"] (zV zC2):=⟨rfl,rfl,rfl,by decide +kernel,rfl,by decide +kernel,by decide +kernel⟩
theorem zHc (T:Txt K mg):Od P w base 1 T.d_law_classes zc:=by
  unfold zc;have sc:=zHN;exact zx (n:=2) T.d_law_classes.F sc rfl (λcdv A outer s H E hr=>by
    unfold zDA;decreasing_trivial)
abbrev zPO:List Str:=["machine", "parting", "rows", "number"]
theorem zOD:FnScope zPO ["machine", "parting"] (zV zHT):=⟨rfl,rfl,rfl,by decide +kernel,rfl,by decide +kernel,by decide +kernel⟩
theorem zOc (T:Txt K mg):Od P w base 2 T.d_folded zDE:=by
  unfold zDE;have sc:=zOD;exact zCS (zx (n:=2) T.d_folded.F sc rfl (λcdv A outer s H E hr=>by
    unfold zG6;decreasing_trivial))
abbrev zNv:List Str:=["machine", "pairs", "marks", "due", "one", "other", "old", "new", "mark"]
theorem zLm:FnScope zNv ["machine", "pairs"] (zV zFq):=⟨rfl,rfl,rfl,by decide +kernel,rfl,by decide +kernel,by decide +kernel⟩
theorem zLZ (T:Txt K mg):Od P w base 2 T.d_kept_by zDL:=by
  unfold zDL;have sc:=zLm;exact zCS (zx (n:=2) T.d_kept_by.F sc rfl (λcdv A outer s H E hr=>by
    unfold zFR;decreasing_trivial))
abbrev zQg:List Str:=["machine", "rooms", "word", "sets", "letter"]
theorem zNy:FnScope zQg ["machine", "rooms", "word"] (zV zHG):=⟨rfl,rfl,rfl,by decide +kernel,rfl,by decide +kernel,by decide +kernel⟩
theorem zOe (T:Txt K mg):Od P w base 2 T.d_walked zEC:=by
  unfold zEC;have sc:=zNy;exact zCS (zx (n:=3) T.d_walked.F sc rfl (λcdv A outer s H E hr=>by
    unfold zGy;decreasing_trivial))
abbrev zKk:List Str:=["machine", "sources", "pair", "letter", "goal"]
theorem zJM:FnScope zKk ["machine"] (zV zD6):=⟨rfl,rfl,rfl,by decide +kernel,rfl,by decide +kernel,by decide +kernel⟩
theorem zJf (T:Txt K mg):Od P w base 2 T.d_ways_back zB7:=by
  unfold zB7;have sc:=zJM;exact zx (n:=1) T.d_ways_back.F sc rfl (λcdv A outer s H E hr=>by
    unfold zEA;decreasing_trivial)
abbrev zHH:List Str:=["machine", "pair", "found", "goals", "letter", "goal"]
theorem zGJ:FnScope zHH ["machine", "pair", "found"] (zV zCb):=⟨rfl,rfl,rfl,by decide +kernel,rfl,by decide +kernel,by decide +kernel⟩
theorem zGC (T:Txt K mg):Od P w base 2 T.d_first_letter zAT:=by
  unfold zAT;have sc:=zGJ;exact zx (n:=3) T.d_first_letter.F sc rfl (λcdv A outer s H E hr=>by
    unfold zCr;decreasing_trivial)
abbrev zNq:List Str:=["machine", "steps", "pair", "word", "here", "letter"]
theorem zMP:FnScope zNq ["machine", "steps", "pair"] (zV zFn):=⟨rfl,rfl,rfl,by decide +kernel,rfl,by decide +kernel,by decide +kernel⟩
theorem zMb (T:Txt K mg):Od P w base 2 T.d_climbed zBh:=by
  unfold zBh;have sc:=zMP;exact zx (n:=3) T.d_climbed.F sc rfl (λcdv A outer s H E hr=>by
    unfold zER;decreasing_trivial)
abbrev zHa:List Str:=["machine", "parting", "one", "other"]
theorem zGK:FnScope zHa ["machine", "parting"] (zV zCd):=⟨rfl,rfl,rfl,by decide +kernel,rfl,by decide +kernel,by decide +kernel⟩
theorem zGI (T:Txt K mg):Od P w base 2 T.d_pairs_across zBI:=by
  unfold zBI;have sc:=zGK;exact zx (n:=2) T.d_pairs_across.F sc rfl (λcdv A outer s H E hr=>by
    unfold zCe;decreasing_trivial)
abbrev zJy:List Str:=["machine", "found", "rooms", "one", "room"]
theorem zHp:FnScope zJy ["machine", "found"] (zV zDb):=⟨rfl,rfl,rfl,by decide +kernel,rfl,by decide +kernel,by decide +kernel⟩
theorem zIB (T:Txt K mg):Od P w base 2 T.d_parted_but zBl:=by
  unfold zBl;have sc:=zHp;exact zx (n:=2) T.d_parted_but.F sc rfl (λcdv A outer s H E hr=>by
    unfold zDa;decreasing_trivial)
abbrev zJi:List Str:=["_law_state", "_law_many", "_law_way", "_law_column_here", "_law_room", "_law_one", "_law_other", "_law_goal", "_law_made", "_law_left"]
theorem zH2:FnScope zJi ["_law_state", "_law_many", "_law_way"] (zV zDY):=⟨rfl,rfl,rfl,by decide +kernel,rfl,by decide +kernel,by decide +kernel⟩
theorem zIH (T:Txt K mg):Od P w base 2 T.d_law_column zAm:=by
  unfold zAm;have sc:=zH2;exact zx (n:=3) T.d_law_column.F sc rfl (λcdv A outer s H E hr=>by
    unfold zDW;decreasing_trivial)
abbrev zME:List Str:=["_law_state", "_law_machine_here", "_law_most", "_law_turn"]
theorem zLQ:FnScope zME ["_law_state", "_law_machine_here", "_law_most"] (zV zEk):=⟨rfl,rfl,rfl,by decide +kernel,rfl,by decide +kernel,by decide +kernel⟩
theorem zLM (T:Txt K mg):Od P w base 2 T.d_law_word zBy:=by
  unfold zBy;have sc:=zLQ;exact zx (n:=3) T.d_law_word.F sc rfl (λcdv A outer s H E hr=>by
    unfold zEn;decreasing_trivial)
abbrev zNs:List Str:=["machine", "rooms", "word"]
theorem zMl:FnScope zNs ["machine", "rooms", "word"] (zV zFu):=⟨rfl,rfl,rfl,by decide +kernel,rfl,by decide +kernel,by decide +kernel⟩
theorem zL7 (T:Txt K mg):Od P w base 3 T.d_brought zBA:=by
  unfold zBA;have sc:=zMl;exact zCS (zx (n:=3) T.d_brought.F sc rfl (λcdv A outer s H E hr=>by
    unfold zFW;decreasing_trivial))
abbrev zJs:List Str:=["machine", "goals", "sources", "level", "found", "goal", "behind", "pair"]
theorem zH8:FnScope zJs ["machine", "goals"] (zV zDV):=⟨rfl,rfl,rfl,by decide +kernel,rfl,by decide +kernel,by decide +kernel⟩
theorem zHq (T:Txt K mg):Od P w base 3 T.d_lengths_to zBO:=by
  unfold zBO;have sc:=zH8;exact zx (n:=2) T.d_lengths_to.F sc rfl (λcdv A outer s H E hr=>by
    unfold zDR;decreasing_trivial)
abbrev zLe:List Str:=["machine", "found", "pairs", "pair"]
theorem zLV:FnScope zLe ["machine", "found"] (zV zEZ):=⟨rfl,rfl,rfl,by decide +kernel,rfl,by decide +kernel,by decide +kernel⟩
theorem zKD (T:Txt K mg):Od P w base 3 T.d_rungs_to zCh:=by
  unfold zCh;have sc:=zLV;exact zx (n:=2) T.d_rungs_to.F sc rfl (λcdv A outer s H E hr=>by
    unfold zEb;decreasing_trivial)
abbrev zHx:List Str:=["_law_state", "_law_most", "_law_letters", "_law_many", "_law_count", "_law_sort", "_law_columns", "_law_letter", "_law_way", "_law_column_here", "_law_room"]
theorem zHL:FnScope zHx ["_law_state", "_law_most", "_law_letters"] (zV zC5):=⟨rfl,rfl,rfl,by decide +kernel,rfl,by decide +kernel,by decide +kernel⟩
theorem zHE (T:Txt K mg):Od P w base 3 T.d_law_machine zBC:=by
  unfold zBC;have sc:=zHL;exact zM0 (zx (n:=3) T.d_law_machine.F sc rfl (λcdv A outer s H E hr=>by
    unfold zC8;decreasing_trivial))
abbrev zOt:List Str:=["machine", "room"]
theorem zL5:FnScope zOt ["machine"] (zV zFt):=⟨rfl,rfl,rfl,by decide +kernel,rfl,by decide +kernel,by decide +kernel⟩
theorem zL9 (T:Txt K mg):Od P w base 4 T.d_lengths zDH:=by
  unfold zDH;have sc:=zL5;exact zx (n:=1) T.d_lengths.F sc rfl (λcdv A outer s H E hr=>by
    unfold zFk;decreasing_trivial)
abbrev zJ4:List Str:=["_law_state", "_law_most", "_law_letters", "_law_base", "_law_many", "_law_owners", "_law_room", "_law_turn", "_law_rows", "_law_own", "_law_row", "_law_goal", "_law_copies_here"]
theorem zHy:FnScope zJ4 ["_law_state", "_law_most", "_law_letters"] (zV zDf):=⟨rfl,rfl,rfl,by decide +kernel,rfl,by decide +kernel,by decide +kernel⟩
theorem zHr (T:Txt K mg):Od P w base 4 T.d_law_copies zBm:=by
  unfold zBm;have sc:=zHy;exact zx (n:=3) T.d_law_copies.F sc rfl (λcdv A outer s H E hr=>by
    unfold zDd;decreasing_trivial)
abbrev zSC:List Str:=["machine", "found", "pair"]
theorem zPr:FnScope zSC ["machine"] (zV zJR):=⟨rfl,rfl,rfl,by decide +kernel,rfl,by decide +kernel,by decide +kernel⟩
theorem zQW (T:Txt K mg):Od P w base 5 T.d_apart zE6:=by
  unfold zE6;have sc:=zPr;exact zCS (zx (n:=1) T.d_apart.F sc rfl (λcdv A outer s H E hr=>by
    unfold zJO;decreasing_trivial))
abbrev zHe:List Str:=["machine", "found", "parting", "steps", "pair"]
theorem zGA:FnScope zHe ["machine"] (zV zCZ):=⟨rfl,rfl,rfl,by decide +kernel,rfl,by decide +kernel,by decide +kernel⟩
theorem zF9 (T:Txt K mg):Od P w base 6 T.d_stable_shown zAz:=by
  unfold zAz;have sc:=zGA;exact zCS (zx (n:=1) T.d_stable_shown.F sc rfl (λcdv A outer s H E hr=>by
    unfold zCa;decreasing_trivial))
abbrev zQd:List Str:=["machine"]
theorem zOu:FnScope zQd ["machine"] (zV zHf):=⟨rfl,rfl,rfl,by decide +kernel,rfl,by decide +kernel,by decide +kernel⟩
theorem zNi (T:Txt K mg):Od P w base 7 T.d_stable zDu:=by
  unfold zDu;have sc:=zOu;exact zCS (zx (n:=1) T.d_stable.F sc rfl (λcdv A outer s H E hr=>by
    unfold zHK;decreasing_trivial))
abbrev zGD:List Str:=["_law_state", "_law_machine_here", "_law_owners", "_law_way", "_law_some", "_law_k"]
theorem zFj:FnScope zGD ["_law_state", "_law_machine_here", "_law_owners"] (zV zCJ):=⟨rfl,rfl,rfl,by decide +kernel,rfl,by decide +kernel,by decide +kernel⟩
theorem zFY (T:Txt K mg):Od P w base 8 T.d_law_kept_here zAj:=by
  unfold zAj;have sc:=zFj;exact zx (n:=3) T.d_law_kept_here.F sc rfl (λcdv A outer s H E hr=>by
    unfold zCG;decreasing_trivial)
abbrev zVh:List Str:=["_law_script", "_law_state", "_law_turn", "_law_machine_here", "_law_owners", "_law_parting", "_law_small", "_law_word_here", "_law_room", "_law_goal", "_law_rooms", "_law_behind"]
theorem zTH:FnScope zVh ["_law_script"] (zV zO4):=⟨rfl,rfl,rfl,by decide +kernel,rfl,by decide +kernel,by decide +kernel⟩
theorem zTW (T:Txt K mg):Od P w base 9 T.d_law zFy:=by
  unfold zFy;have sc:=zTH;exact zx (n:=1) T.d_law.F sc rfl (λcdv A outer s H E hr=>by
    unfold zO6;decreasing_trivial)
end
theorem zUF {l:PySem.W.OpenLaw} {w:World} {K:PySem.W.Frag} {h:Heap} {mg:Str->Option Value} {fa:Addr} (X:K.In h) (G:h.Ns mainGlobals mg) (hfa:mg "law" = some (.ref fa))
    (g1:Dg K "all_rooms" zD2) (g2:Dg K "class_rows" zDX) (g3:Dg K "folded" zHT) (g4:Dg K "parted_by" zD9) (g5:Dg K "kept_by" zFq) (g6:Dg K "led" zP7) (g7:Dg K "stepped" zFX) (g8:Dg K "walked" zHG) (g9:Dg K "brought" zFu) (g10:Dg K "pairs_of" zEm) (g11:Dg K "ways_back" zD6) (g12:Dg K "lengths_to" zDV) (g13:Dg K "lengths" zFt) (g14:Dg K "first_letter" zCb) (g15:Dg K "rungs_to" zEZ) (g16:Dg K "climbed" zFn) (g17:Dg K "apart" zJR) (g18:Dg K "pairs_across" zCd) (g19:Dg K "parted_but" zDb) (g20:Dg K "stable_shown" zCZ) (g21:Dg K "stable" zHf) (g22:Dg K "_law_begin" zD4) (g23:Dg K "_law_next" zEo) (g24:Dg K "_law_column" zDY) (g25:Dg K "_law_machine" zC5) (g26:Dg K "_law_copies" zDf) (g27:Dg K "_law_numbered" zCm) (g28:Dg K "_law_led" zFQ) (g29:Dg K "_law_word" zEk) (g30:Dg K "_law_kept_here" zCJ) (g31:Dg K "_law_classes" zC2) (g32:Dg K "law" zO4) (z1:Zn K "tuple") (z2:Zn K "range") (z3:Zn K "len") (z4:Zn K "max") (z5:Zn K "list") (z6:Zn K "zip") (z7:Zn K "sorted") (z8:Zn K "min") (z9:Zn K "enumerate") (z10:Zn K "set") :
    ∃ fd:FuncData,(∀ (s:Shared) (v:Value),BindsTo s fd ⟨[v],[]⟩ [("_law_script", v)]) /\ ∀ base:Heap,K.In base->base.Ns mainGlobals mg->FnOk l.prog w K mg base CX0 9 fa fd ["_law_script"] (spF K 1 zFy):=by
  have e:=hfa.symm.trans (PySem.W.mg_of X G g32.a);cases e;let T:Txt K mg:=⟨g1.df X G λ_ _ _ _ _ _=>zHX λ_=>rfl,g2.df X G λ_ _ _ _ _ _=>zJ1 λ_ _=>rfl,g3.df X G λ_ _ _ _ _ _=>zJ1 λ_ _=>rfl,g4.df X G λ_ _ _ _ _ _=>zHX λ_=>rfl,g5.df X G λ_ _ _ _ _ _=>zJ1 λ_ _=>rfl,g6.df X G λ_ _ _ _ _ _=>zGE λ_ _ _=>rfl,g7.df X G λ_ _ _ _ _ _=>zGE λ_ _ _=>rfl,g8.df X G λ_ _ _ _ _ _=>zGE λ_ _ _=>rfl,g9.df X G λ_ _ _ _ _ _=>zGE λ_ _ _=>rfl,g10.df X G λ_ _ _ _ _ _=>zHX λ_=>rfl,g11.df X G λ_ _ _ _ _ _=>zHX λ_=>rfl,g12.df X G λ_ _ _ _ _ _=>zJ1 λ_ _=>rfl,g13.df X G λ_ _ _ _ _ _=>zHX λ_=>rfl,g14.df X G λ_ _ _ _ _ _=>zGE λ_ _ _=>rfl,g15.df X G λ_ _ _ _ _ _=>zJ1 λ_ _=>rfl,g16.df X G λ_ _ _ _ _ _=>zGE λ_ _ _=>rfl,g17.df X G λ_ _ _ _ _ _=>zHX λ_=>rfl,g18.df X G λ_ _ _ _ _ _=>zJ1 λ_ _=>rfl,g19.df X G λ_ _ _ _ _ _=>zJ1 λ_ _=>rfl,g20.df X G λ_ _ _ _ _ _=>zHX λ_=>rfl,g21.df X G λ_ _ _ _ _ _=>zHX λ_=>rfl,g22.df X G λ_ _ _ _ _ _=>zHX λ_=>rfl,g23.df X G λ_ _ _ _ _ _=>zJ1 λ_ _=>rfl,g24.df X G λ_ _ _ _ _ _=>zGE λ_ _ _=>rfl,g25.df X G λ_ _ _ _ _ _=>zGE λ_ _ _=>rfl,g26.df X G λ_ _ _ _ _ _=>zGE λ_ _ _=>rfl,g27.df X G λ_ _ _ _ _ _=>zHX λ_=>rfl,g28.df X G λ_ _ _ _ _ _=>zGE λ_ _ _=>rfl,g29.df X G λ_ _ _ _ _ _=>zGE λ_ _ _=>rfl,g30.df X G λ_ _ _ _ _ _=>zGE λ_ _ _=>rfl,g31.df X G λ_ _ _ _ _ _=>zJ1 λ_ _=>rfl,g32.df X G λ_ _ _ _ _ _=>zHX λ_=>rfl,zXk X G z1,zXk X G z2,zXk X G z3,zXk X G z4,zXk X G z5,zXk X G z6,zXk X G z7,zXk X G z8,zXk X G z9,zXk X G z10⟩;refine ⟨T.d_law.fd,λs v=> .of_eq rfl,λbase _ _=>?_⟩;exact zTW (P:=l.prog) (w:=w) (base:=base) T
theorem zWF {l:PySem.W.OpenLaw} {q:Ym} {loose:Yk} {XP:(Str->Option Value)->Heap->Prop} {YP:World->Heap->Prop} {d:DefRec} {K:Params->PySem.W.Frag} (hn:l.most=some 63) (hdf:d.params.defaults=[])
    (hY:∀ (w:Yo) (h:Heap),YP w h->(K w.params).In h) (hL:∀ w:World,zJ8 (K w.params)=true)
    (F:∀ (w:Yo) (mg:Yh) (fa:Yt) (h:Heap),(K w.params).In h->h.Ns mainGlobals mg->mg d.name=some (.ref fa) ->
      ∃ fd:FuncData,(∀ (s:Shared) (u:Value),BindsTo s fd ⟨[u],[]⟩ [("_law_script", u)]) /\ ∀ base:Heap,(K w.params).In base->base.Ns mainGlobals mg->FnOk l.prog w (K w.params) mg base CX0 9 fa fd ["_law_script"] (spF (K w.params) 1 zFy)) :
    PySem.W.WalkO q loose XP YP l.row.toRowW d [] (λf vs=>PySem.call f vs) :=
  L2.zSn (n:=63) (k:=9) (x := "_law_script") (CX:=λ_=>CX0) (sp:=λw=>spF (K w.params) 1 zFy) hn (by decide) hdf ⟨rfl,by decide,by decide⟩ hY F
    (λw H a ns hl hO hS=>zNh (hL w) hO hS (zRE ns hl)) λ_ _ _ _ _ z=>z
end Lad
open PySem PySem.W PyProof.Rows
set_option maxRecDepth 100000 in
set_option maxHeartbeats 0 in
theorem PySem.Challenge.cw_bringhome_k48_whole_led_in_the_folded_ma_holds : PySem.Challenge.rw_bringhome_k48_whole_led_in_the_folded_ma.Holds := by
  w_on;o_law;k_head;(case hw=>w_witness2);k_fill;refine Lad.zWF (l:=PySem.Challenge.rw_bringhome_k48_whole_led_in_the_folded_ma) rfl rfl (λw h Y=>PySem.W.kIn_of Y) (λw=>by rfl) ?F
  case F=>
    intro w mg fa h KX G hmg;refine' Lad.zUF KX G hmg ?_ ?_ ?_ ?_ ?_ ?_ ?_ ?_ ?_ ?_ ?_ ?_ ?_ ?_ ?_ ?_ ?_ ?_ ?_ ?_ ?_ ?_ ?_ ?_ ?_ ?_ ?_ ?_ ?_ ?_ ?_ ?_ ?_ ?_ ?_ ?_ ?_ ?_ ?_ ?_ ?_ ?_;all_goals first|exact ⟨_,by k_is,by k_is,by k_is,by k_is⟩|(unfold L3.Zn;k_is)|(unfold L3.Ki;kit_is)|k_is
